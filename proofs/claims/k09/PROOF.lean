import PyProof.Rows.All
import Wide.All
import OpenK.AllK
import Wide.FinOn
import Lean
import PyProof.EqAt
import PyProof.EqKinds
import PyProof.TupleCall
import PyProof.ZipIter
import PyProof.Rows.ZipGen
import PyProof.EnumIter
import PyProof.EnumFor
import PyProof.EnumMake
import PyProof.EnumStmt
import PyProof.SliceStr2
import PyProof.StrBlockI
import PyProof.MinMaxWalk
import PyProof.Rows.CallKwBuiltin
import PyProof.Rows.Range3
import KE.KRevIter
import PyProof.AttrMissHeap
import KE.KDictOf
import PyProof.FactsAll.range_2
import PyProof.P3Eq
import PyProof.DictWalks
import PyProof.Rows.SeqMore2
import PyProof.Rows.SortStr
import PySem.Challenge.RW_stylehouse_k09_move
set_option Elab.async false
set_option linter.all false
set_option maxRecDepth 100000
namespace L2
theorem Zj {α:Type _} {a b:α} (h:some a=some b):a=b:=Option.some.inj h
theorem Zb {a b:Nat} (h:Nat.ble a b=true):a<=b:=Nat.le_of_ble_eq_true h
theorem Zf:false≠true:=Bool.false_ne_true
theorem Zm {α:Type _} {β:Type _} {f:α->β} {x:Option α} {b:β} (h:x.map f=some b):∃ a,x=some a/\f a=b:=Option.map_eq_some_iff.mp h
end L2
section
namespace L2
open PySem PySem.Spec PyProof.Rows
abbrev Key:=Sum Int Str
def oY:Key->Value->Bool
 | .inl k,v=>Value.isInt k v
 | .inr x,v=>Value.isStrOf x v
def Ll (w:World):Key->Int
 | .inl k=>hashInt k
 | .inr x=>hashStr w x
theorem bp:∀ {k:Key} {v:Value},oY k v=true->(∃ i t,k=Sum.inl i/\v=Value.int i t)\/(∃ x t,k=Sum.inr x/\v=Value.str x t)
 | .inl i,v,h=>by
  obtain ⟨t,e⟩:=Value.isInt_shape (k:=i) (v:=v) h
  exact .inl ⟨i,t,rfl,e⟩
 | .inr x,v,h=>by
  obtain ⟨t,e⟩:=Value.isStrOf_shape (x:=x) (v:=v) h
  exact .inr ⟨x,t,rfl,e⟩
theorem xh (i:Int) (t:Tok):oY (.inl i) (.int i t)=true:=by simp [oY,Value.isInt]
theorem xf (x:Str) (t:Tok):oY (.inr x) (.str x t)=true:=by simp [oY,Value.isStrOf]
theorem Fd (a b:Int):decide ((Sum.inl a:Key)=Sum.inl b)=(a == b):=by
 by_cases e:a=b
 · subst e; simp
 ·have h:¬ (Sum.inl a:Key)=Sum.inl b:=fun q=>e (Sum.inl.inj q)
  rw [decide_eq_false h]
  exact (beq_eq_false_iff_ne.mpr e).symm
theorem E9 (a b:Str):decide ((Sum.inr a:Key)=Sum.inr b)=decide (a=b):=by
 by_cases e:a=b
 · subst e; simp
 ·have h:¬ (Sum.inr a:Key)=Sum.inr b:=fun q=>e (Sum.inr.inj q)
  rw [decide_eq_false h,decide_eq_false e]
theorem Fc (a:Int) (b:Str):decide ((Sum.inl a:Key)=Sum.inr b)=false:=decide_eq_false (fun q=>nomatch q)
theorem Fb (a:Str) (b:Int):decide ((Sum.inr a:Key)=Sum.inl b)=false:=decide_eq_false (fun q=>nomatch q)
def bO (prog:Program) (w:World):PySem.KeyKind prog w Key where
 is:=oY
 hash:=Ll w
 inj:=fun v a b ha hb=>by
  rcases bp ha with ⟨i,t,rfl,rfl⟩ | ⟨x,t,rfl,rfl⟩
  ·rcases bp hb with ⟨j,u,rfl,e⟩ | ⟨y,u,rfl,e⟩
   · injection e with e1 _; rw [e1]
   · exact nomatch e
  ·rcases bp hb with ⟨j,u,rfl,e⟩ | ⟨y,u,rfl,e⟩
   · exact nomatch e
   · injection e with e1 _; rw [e1]
 byValue:=fun k v h=>by
  rcases bp h with ⟨i,t,rfl,rfl⟩ | ⟨x,t,rfl,rfl⟩ <;> rfl
 pyHash:=fun hv h=>by
  rcases bp hv with ⟨i,t,rfl,rfl⟩ | ⟨x,t,rfl,rfl⟩
  · exact wpAny_pyHash_int h
  · exact wpAny_pyHash_str h
 eqBool:=fun hu hv h=>by
  rcases bp hu with ⟨i,t,rfl,rfl⟩ | ⟨x,t,rfl,rfl⟩
  ·rcases bp hv with ⟨j,u,rfl,rfl⟩ | ⟨y,u,rfl,rfl⟩
   · rw [Fd] at h; exact wpAny_eqBool_int h
   · rw [Fc] at h; exact SeqAt.EqAt.int_str i t y u _ _ _ _ h
  ·rcases bp hv with ⟨j,u,rfl,rfl⟩ | ⟨y,u,rfl,rfl⟩
   · rw [Fb] at h; exact SeqAt.EqAt.str_int x t j u _ _ _ _ h
   · rw [E9] at h; exact wpAny_eqBool_str h
 «strs»:=fun k x t v h=>by
  rcases bp h with ⟨i,u,rfl,e⟩ | ⟨y,u,rfl,e⟩
  · exact nomatch e
  ·injection e with e1 _
   subst e1
   cases v <;> rfl
theorem rM (prog:Program) (w:World) (i:Int) (t:Tok):(bO prog w).is (.inl i) (.int i t)=true:=xh i t
theorem rL (prog:Program) (w:World) (x:Str) (t:Tok):(bO prog w).is (.inr x) (.str x t)=true:=xf x t
end L2
namespace L2
open PySem PySem.Spec PyProof.Rows
inductive V where
 | non | bl (b:Bool) | int (i:Int) | str (x:Str) | byt (b:Array UInt8) | flt (b:UInt64) | ref (a:Addr) | ty (n:String)
 deriving DecidableEq
def RelV:V->Value->Prop
 | .non,u=>u=Value.none
 | .bl b,u=>u=Value.bool b
 | .int i,u=>∃ t,u=Value.int i t
 | .str x,u=>∃ t,u=Value.str x t
 | .byt b,u=>∃ t,u=Value.bytes b t
 | .flt b,u=>∃ t,u=Value.float b t
 | .ref a,u=>u=Value.ref a
 | .ty n,u=>u=Value.type n
abbrev bZ:List V->List Value->Prop:=Paired RelV
theorem bZ.length {xs:List V} {us:List Value} (r:bZ xs us):xs.length=us.length:=Paired.length r
theorem bZ.get:∀ {xs:List V} {us:List Value} {i:Nat} {x:V},bZ xs us->xs[i]?=some x->∃ u,us[i]?=some u/\RelV x u
 | _,_,_,_,.nil,e=>by simp at e
 | _,_,0,_,.cons r _,e=>by simp at e; subst e; exact ⟨_,rfl,r⟩
 | _,_,i+1,x,.cons _ t,e=>by
  obtain ⟨u,h1,h2⟩:=bZ.get (i:=i) (x:=x) t (by simpa using e)
  exact ⟨u,by simpa using h1,h2⟩
theorem bZ.append:∀ {xs ys:List V} {us ws:List Value},bZ xs us->bZ ys ws->bZ (xs++ys) (us++ws)
 | _,_,_,_,.nil,s=>s
 | _,_,_,_,.cons r t,s=>.cons r (bZ.append t s)
theorem bZ.take:∀ {xs:List V} {us:List Value} (n:Nat),bZ xs us->bZ (xs.take n) (us.take n)
 | _,_,0,_=>.nil
 | _,_,_+1,.nil=>.nil
 | _,_,n+1,.cons r t=>.cons r (bZ.take n t)
theorem bZ.drop:∀ {xs:List V} {us:List Value} (n:Nat),bZ xs us->bZ (xs.drop n) (us.drop n)
 | _,_,0,r=>r
 | _,_,_+1,.nil=>.nil
 | _,_,n+1,.cons _ t=>bZ.drop n t
def rg:Option V->Option Value->Prop
 | some v,some u=>RelV v u
 | none,none=>True
 | _,_=>False
def KV {κ:Type}:List (κ×V)->List (κ×Value)->Prop:=Paired fun (p:κ×V) (q:κ×Value)=>p.1=q.1/\RelV p.2 q.2
def kV:Key->V
 | .inl i=>.int i
 | .inr x=>.str x
inductive HO where
 | lst (xs:List V)
 | tup (xs:List V)
 | dK (kvs:List (Key×V)) | dT (kvs:List (List Key×V))
 | set (S:Int->Bool) (n:Nat)
 | ins (C dx:Addr) (fs:List (Str×V))
 | own (x:Addr)
 | xd (fs:List (Str×V))
 | met (f x:Addr)
 | rng (lo hi:Int)
 | frz (o:Obj) (u:HO)
 | tbl (ps:Array Value)
 | ext (φ:Heap->Prop)
abbrev Hp:=Addr->Option HO
def upd (H:Hp) (a:Addr) (o:HO):Hp:=fun b=>if b=a then some o else H b
theorem au {H:Hp} {a:Addr} {o:HO}:upd H a o a=some o:=by unfold upd; rw [if_pos rfl]
theorem ak {H:Hp} {a b:Addr} {o:HO} (h:b≠a):upd H a o b=H b:=by unfold upd; rw [if_neg h]
theorem Ju {H:Hp} {a b:Addr} {o u:HO} (h:H a=some o) (h':H b=some u) (d:o≠u):a≠b:=by
 intro e; subst e; rw [h] at h'; exact d (Zj h')
theorem eG {H:Hp} {a b:Addr} {o:HO} (h:H a=some o) (h':H b=none):a≠b:=by
 intro e; subst e; rw [h] at h'; cases h'
section
variable (P:Program) (w:World)
def dA (H:Hp) (h:Heap) (a:Addr):HO->Prop
 | .lst xs=>xs.length<=sizeLine/\∃ (its:List Value) (n:Nat),bZ xs its/\h.get? a=some { cls:=.type "list",data:=.seq its.toArray n }
 | .tup xs=>xs.length<=sizeLine/\∃ its:List Value,bZ xs its/\IsTup h a its.toArray
 | .dK kvs=>kvs.length<=sizeLine/\(a == sysModules)=false/\∃ vs,KV kvs vs/\h.DictOf (bO P w) a vs
 | .dT kvs=>kvs.length<=sizeLine/\(a == sysModules)=false/\∃ xs:List (List Key×Addr×Value),
  Paired (fun (p:List Key×V) (q:List Key×Addr×Value)=>p.1=q.1/\H q.2.1=some (.tup (p.1.map kV))/\RelV p.2 q.2.2) kvs xs /\
  ∃ o es ep,h.get? a=some o/\o.ExactDict/\o.data=.dict es ep/\es.toList=xs.map (entryOfKey (tupleKind (bO P w)))/\(xs.map (·.1)).Nodup
 | .set S n=>h.SetOf (intKind P w) a S n
 | .ins C dx fs=>H dx=some (.own a)/\fs.length<=1000/\dx≠a/\h.get? a=some (PySem.W.instObj C dx) /\
  ∃ mA,h.Ns1 dx mA/\(∀ f,rg (fs.lookup f) (mA f))/\PySem.Within mA (fs.map (·.1))
 | .own _=>∃ o,h.get? a=some o
 | .xd fs=>∃ mA,h.Ns1 a mA/\∀ f,rg (fs.lookup f) (mA f)
 | .rng lo hi=>∃ t u v,h.get? a=some { cls:=.type "range",data:=.fields #[.int lo t,.int hi u,.int 1 v] }
 | .frz o u=>h.get? a=some o/\dA H h a u
 | .tbl ps=>h.get? a=some { cls:=.none,data:=.fields ps }
 | .met f x=>h.get? a=some (PySem.W.methodObj (.ref f) (.ref x))
 | .ext φ=>φ h/\(∃ o,h.get? a=some o)/\∀ h1 h2:Heap,φ h1->(∀ o,h1.get? a=some o->h2.get? a=some o)->φ h2
def HOk (H:Hp) (h:Heap):Prop:=∀ a o,H a=some o->dA P w H h a o
end
section
variable {P:Program} {w:World} {H H':Hp} {h h':Heap} {a:Addr} {o:HO}
theorem dA.lt (x:dA P w H h a o):a < h.objs.size:=by
 cases o with
 | lst xs=>obtain ⟨_,_,_,_,e⟩:=x; exact Heap.lt_size e
 | tup xs=>obtain ⟨_,_,_,p⟩:=x; exact p.lt
 | dK kvs=>obtain ⟨_,_,_,_,o,_,_,e,_⟩:=x; exact Heap.lt_size e
 | dT kvs=>obtain ⟨_,_,_,_,o,_,_,e,_⟩:=x; exact Heap.lt_size e
 | set S n=>obtain ⟨o,_,_,_,e,_⟩:=x; exact Heap.lt_size e
 | ins C dx fs=>obtain ⟨_,_,_,e,_⟩:=x; exact Heap.lt_size e
 | own y=>obtain ⟨_,e⟩:=x; exact Heap.lt_size e
 | xd fs=>obtain ⟨_,⟨_,_,_,e,_⟩,_⟩:=x; exact Heap.lt_size e
 | rng lo hi=>obtain ⟨_,_,_,e⟩:=x; exact Heap.lt_size e
 | frz ob u=>obtain ⟨e,_⟩:=x; exact Heap.lt_size e
 | tbl ps=>exact Heap.lt_size (show h.get? a=some _ from x)
 | met f y=>exact Heap.lt_size (show h.get? a=some _ from x)
 | ext φ=>obtain ⟨_,⟨_,e⟩,_⟩:=x; exact Heap.lt_size e
theorem Paired.JC {α β:Type} {F G:α->β->Prop}:∀ {l₁:List α} {l₂:List β},Paired F l₁ l₂->(∀ a b,F a b->G a b)->Paired G l₁ l₂
 | _,_,.nil,_=>.nil
 | _,_,.cons r t,f=>.cons (f _ _ r) (Paired.JC t f)
theorem dA.yq (x:dA P w H h a o) (k:∀ b u,(b=a\/H b=some (.own a))->h.get? b=some u->h'.get? b=some u)
  (ho:∀ b,H b=some (.own a)->H' b=some (.own a)) (ht:∀ b xs,H b=some (.tup xs)->H' b=some (.tup xs)):dA P w H' h' a o:=by
 induction o with
 | lst xs=>obtain ⟨z,its,n,r,e⟩:=x; exact ⟨z,its,n,r,k _ _ (.inl rfl) e⟩
 | tup xs=>obtain ⟨z,its,r,ob,e,c⟩:=x; exact ⟨z,its,r,ob,k _ _ (.inl rfl) e,c⟩
 | dK kvs=>obtain ⟨z,y,vs,r,ob,es,ep,e,c⟩:=x; exact ⟨z,y,vs,r,ob,es,ep,k _ _ (.inl rfl) e,c⟩
 | dT kvs =>
  obtain ⟨z,y,xs,r,ob,es,ep,e,c⟩:=x
  exact ⟨z,y,xs,Paired.JC r fun p q z=>⟨z.1,ht _ _ z.2.1,z.2.2⟩,ob,es,ep,k _ _ (.inl rfl) e,c⟩
 | set S n=>obtain ⟨ob,es,ep,t,e,c⟩:=x; exact ⟨ob,es,ep,t,k _ _ (.inl rfl) e,c⟩
 | ins C dx fs =>
  obtain ⟨d,z,ne,e,mA,⟨od,es,ep,e2,c⟩,r⟩:=x
  exact ⟨ho _ d,z,ne,k _ _ (.inl rfl) e,mA,⟨od,es,ep,k _ _ (.inr d) e2,c⟩,r⟩
 | own y=>obtain ⟨ob,e⟩:=x; exact ⟨ob,k _ _ (.inl rfl) e⟩
 | xd fs=>obtain ⟨mA,⟨od,es,ep,e,c⟩,r⟩:=x; exact ⟨mA,⟨od,es,ep,k _ _ (.inl rfl) e,c⟩,r⟩
 | rng lo hi=>obtain ⟨t,u,v,e⟩:=x; exact ⟨t,u,v,k _ _ (.inl rfl) e⟩
 | frz ob u ih=>obtain ⟨e,q⟩:=x; exact ⟨k _ _ (.inl rfl) e,ih q⟩
 | tbl ps =>
  have e:h.get? a=some { cls:=.none,data:=.fields ps }:=x
  show h'.get? a=some { cls:=.none,data:=.fields ps }
  exact k a _ (.inl rfl) e
 | met f y =>
  have e:h.get? a=some (PySem.W.methodObj (.ref f) (.ref y)):=x
  show h'.get? a=some (PySem.W.methodObj (.ref f) (.ref y))
  exact k a _ (.inl rfl) e
 | ext φ=>obtain ⟨p,⟨o,e⟩,st⟩:=x; exact ⟨st _ _ p fun o q=>k _ _ (.inl rfl) q,⟨o,k _ _ (.inl rfl) e⟩,st⟩
theorem HOk.lt (x:HOk P w H h) (e:H a=some o):a < h.objs.size:=(x a o e).lt
theorem HOk.fresh (x:HOk P w H h) (e:h.objs.size<=a):H a=none:=by
 cases q:H a with
 | none=>rfl
 | some u=>exact absurd (Nat.lt_of_lt_of_le (x.lt q) e) (Nat.lt_irrefl _)
theorem HOk.kept (x:HOk P w H h) (k:∀ b u,h.get? b=some u->h'.get? b=some u):HOk P w H h':=fun a o e =>
 (x a o e).yq (fun b u _ q=>k b u q) (fun _ q=>q) fun _ _ q=>q
theorem HOk.laid (x:HOk P w H h) (k:∀ b u,h.get? b=some u->h'.get? b=some u) (hp:h.objs.size<=a) (new:dA P w (upd H a o) h' a o):HOk P w (upd H a o) h':=fun b u e=>by
 have hn:=x.fresh hp
 by_cases hb:b=a
 · subst hb; rw [au] at e; cases e; exact new
 ·rw [ak hb] at e
  exact (x b u e).yq (fun c v _ q=>k c v q) (fun c q=>by rw [ak (eG q hn)]; exact q) fun c xs q=>by rw [ak (eG q hn)]; exact q
end
def Rd (H:Hp) (a:Addr) (u:HO):Prop:=H a=some u\/∃ o,H a=some (.frz o u)
theorem Rd.ok {P:Program} {w:World} {H:Hp} {h:Heap} {a:Addr} {u:HO} (r:Rd H a u) (x:HOk P w H h):dA P w H h a u:=by
 rcases r with r | ⟨o,r⟩
 · exact x a u r
 ·obtain ⟨_,q⟩:=x a _ r
  exact q
def Mut:Option HO->Prop
 | some (.lst _)=>True
 | some (.dK _)=>True
 | some (.dT _)=>True
 | some (.set _ _)=>True
 | some (.ins _ _ _)=>True
 | some (.ext _)=>True
 | _=>False
section
variable {P:Program} {w:World} {H:Hp} {h h':Heap} {x e:Addr} {o':HO}
theorem HOk.write (ok:HOk P w H h) (mu:Mut (H x)) (he:e=x\/H e=some (.own x)) (k:∀ b u,b≠e->h.get? b=some u->h'.get? b=some u) (heo:∃ u,h'.get? e=some u)
  (new:dA P w (upd H x o') h' x o'):HOk P w (upd H x o') h':=fun b u q=>by
 have nown:∀ c y,H c=some (.own y)->c≠x:=fun c y r z=>by subst z; rw [r] at mu; exact mu
 have ntup:∀ c xs,H c=some (.tup xs)->c≠x:=fun c xs r z=>by subst z; rw [r] at mu; exact mu
 by_cases hb:b=x
 · subst hb; rw [au] at q; cases q; exact new
 ·rw [ak hb] at q
  by_cases hbe:b=e
  ·have q':H b=some (.own x):=by
    rcases he with z | z
    · exact absurd (hbe.trans z) hb
    · rw [hbe]; exact z
   rw [q] at q'; cases q'
   obtain ⟨v,hv⟩:=heo
   exact ⟨v,by rw [hbe]; exact hv⟩
  ·refine (ok b u q).yq (fun c v hc r=>k c v ?_ r) (fun c r=>by rw [ak (nown c b r)]; exact r) fun c xs r=>by rw [ak (ntup c xs r)]; exact r
   rcases hc with rfl | hc
   · exact hbe
   ·rintro rfl
    rcases he with z | z
    · exact nown c b hc z
    · rw [hc] at z; cases z; exact hb rfl
end
structure Un (fs ex:List Addr) (H H':Hp) (h h':Heap):Prop where
 keep:∀ b o,h.get? b=some o->H b=none->b ∉ fs->b ∉ ex->h'.get? b=some o
 slot:∀ b o,h.get? b=some o->H b=none->b ∈ fs->b ∉ ex->∃ sl,h'.get? b=some { o with slots:=sl }
 free:∀ b o,h.get? b=some o->H b=none->b ∉ ex->H' b=none
 there:∀ b o,h.get? b=some o->b ∉ ex->∃ o',h'.get? b=some o'
 vg:∀ b xs,H b=some (.tup xs)->H' b=some (.tup xs)
 uZ:∀ b o u,H b=some (.frz o u)->H' b=some (.frz o u)
 vj:∀ b ps,H b=some (.tbl ps)->∃ more,H' b=some (.tbl (ps++more))
section
variable {fs fs' ex ex':List Addr} {H H1 H2:Hp} {h h1 h2 h':Heap} {a x e:Addr} {o:HO}
theorem Un.any (u:Un fs ex H H1 h h1) {b:Addr} {ob:Obj} (q:h.get? b=some ob) (n:H b=none) (hx:b ∉ ex):∃ sl,h1.get? b=some { ob with slots:=sl }:=by
 by_cases hb:b ∈ fs
 · exact u.slot b ob q n hb hx
 · exact ⟨ob.slots,u.keep b ob q n hb hx⟩
theorem Un.kept (k:∀ b u,h.get? b=some u->h'.get? b=some u):Un fs ex H H h h' :=
 ⟨fun b ob q _ _ _=>k b ob q,fun b ob q _ _ _=>⟨ob.slots,k b ob q⟩,fun _ _ _ n _=>n,fun b ob q _=>⟨ob,k b ob q⟩,fun _ _ q=>q,fun _ _ _ q=>q,fun _ ps q=>⟨#[],by rw [q]; simp⟩⟩
theorem Un.refl:Un fs ex H H h h:=Un.kept fun _ _ q=>q
theorem Un.laid (k:∀ b u,h.get? b=some u->h'.get? b=some u) (hp:h.objs.size<=a) (hn:H a=none):Un fs ex H (upd H a o) h h' where
 keep:=fun b u q _ _ _=>k b u q
 slot:=fun b u q _ _ _=>⟨u.slots,k b u q⟩
 free:=fun b u q n _=>by rw [ak (Nat.ne_of_lt (Nat.lt_of_lt_of_le (Heap.lt_size q) hp))]; exact n
 there:=fun b u q _=>⟨u,k b u q⟩
 vg:=fun b xs q=>by rw [ak (eG q hn)]; exact q
 uZ:=fun b u xs q=>by rw [ak (eG q hn)]; exact q
 vj:=fun b ps q=>⟨#[],by rw [ak (eG q hn),q]; simp⟩
theorem Un.write (mu:Mut (H x)) (he:e=x\/H e=some (.own x)) (k:∀ b u,b≠e->h.get? b=some u->h'.get? b=some u) (heo:∃ u,h'.get? e=some u):Un fs ex H (upd H x o) h h':=by
 have hx:∀ b,H b=none->b≠x:=fun b n z=>by subst z; rw [n] at mu; exact mu
 have hb:∀ b,H b=none->b≠e:=fun b n z=>by
  subst z
  rcases he with r | r
  · exact hx b n r
  · rw [n] at r; cases r
 have hm:∀ b u,H b=some u->¬ Mut (some u)->b≠x:=fun b u q nm z=>by subst z; rw [q] at mu; exact nm mu
 refine ⟨fun b u q n _ _=>k b u (hb b n) q,fun b u q n _ _=>⟨u.slots,k b u (hb b n) q⟩,fun b u q n _=>by rw [ak (hx b n)]; exact n,fun b u q _=>?_,
  fun b xs q=>by rw [ak (hm b _ q fun z=>z)]; exact q,fun b u xs q=>by rw [ak (hm b _ q fun z=>z)]; exact q,fun b ps q=>⟨#[],by rw [ak (hm b _ q fun z=>z),q]; simp⟩⟩
 by_cases hbe:b=e
 · subst hbe; exact heo
 · exact ⟨u,k b u hbe q⟩
end
def trk (h:Heap) (H:Hp):List Addr:=(List.range h.objs.size).filter fun a=>(H a).isSome
def zO (h:Heap) (H:Hp):Heap:=PySem.W.hideAll h (trk h H)
theorem xu (h:Heap) (H:Hp):(zO h H).objs.size=h.objs.size:=PySem.W.hideAll_size _ _
theorem zN {h:Heap} {H:Hp} {b:Addr} {o:Obj} (e:h.get? b=some o) (n:H b=none):(zO h H).get? b=some o :=
 PySem.W.hideAll_get _ e fun hm=>by
  have q:(H b).isSome=true:=(List.mem_filter.mp hm).2
  rw [n] at q; simp at q
theorem Ck {h:Heap} {H:Hp} {b:Addr} {o:Obj} (e:(zO h H).get? b=some o):h.get? b=some o/\H b=none:=by
 have e':h.get? b=some o:=PySem.W.of_hideAll (trk h H) e
 refine ⟨e',?_⟩
 cases q:H b with
 | none=>rfl
 | some x =>
  have hm:b ∈ trk h H:=List.mem_filter.mpr ⟨List.mem_range.mpr (Heap.lt_size e'),by simp [q]⟩
  have z:(zO h H).get? b=none:=PySem.W.hideAll_none (trk h H) hm
  rw [z] at e; cases e
end L2
namespace L2
open PySem PySem.Spec PyProof.Rows
structure Mod (K:W.Frag) (mg:Str->Option Value) (base:Heap):Prop where
 kin:K.In base
 glob:base.Ns mainGlobals mg
 blt:∃ mb,base.Ns builtinsNs mb/\∀ x:Str,x≠"__name__"->mb x=bootBuiltins x
 nolimit:base.NoLimit
structure Cx where
 prog:Program
 w:World
 K:W.Frag
 mg:Str->Option Value
 base:Heap
 A:Around
 N:List Str
 s₀:Shared
 H₀:Hp
 env:Env
 outer:List Env
 stack:List Env
 ex:List Addr
 fn:Str->Bool
 calm:Bool
 pn:List (Addr×Obj)
 xe:Value->Shared->Prop
def frs (l:List Env):List Addr:=l.filterMap (·.frame)
abbrev Cx.fs (X:Cx):List Addr:=frs X.outer
def Vis (sc:Scope) (x:Str):Prop:=sc.names.lookup x=some .local\/sc.names.lookup x=some .cell\/sc.names.lookup x=some .free
def Loc (sc:Scope) (x:Str):Prop:=sc.names.lookup x=some .local\/sc.names.lookup x=some .cell
def Look (env:Env) (h:Heap) (m:Str->Option Value) (x:Str) (u:Value):Prop :=
 (env.kindOf x=some .local/\m x=some u)\/((env.kindOf x=some .cell\/env.kindOf x=some .free)/\∃ c,env.cells.lookup x=some c/\h.IsCell c (some u))
structure Cx.Ok (X:Cx):Prop where
 mod:Mod X.K X.mg X.base
 kind:X.env.scope.kind=.function
 glob:X.env.globals=mainGlobals
 blt:X.env.builtins=builtinsNs
 above:X.s₀.heap.objs.size<=X.env.locals
 inj:∀ x y c,X.env.cells.lookup x=some c->X.env.cells.lookup y=some c->x=y
 has:∀ x,(X.env.kindOf x=some .cell\/X.env.kindOf x=some .free)->∃ c,X.env.cells.lookup x=some c
 cab:∀ x c,X.fn x=true->X.env.cells.lookup x=some c->X.s₀.heap.objs.size<=c
 hd:X.calm=true->X.A.handled=none
 frames:X.A.frames=some X.stack
 stk:X.stack=X.outer\/(X.stack=X.env::X.outer/\X.env.frame=some X.env.locals)
 exf:∀ b ∈ X.ex,b≠X.env.locals/\∀ x c,X.env.cells.lookup x=some c->c≠b
 bs:∀ b o,X.base.get? b=some o->X.s₀.heap.get? b=some o/\X.H₀ b=none
 bsz:X.base.objs.size<=X.s₀.heap.objs.size
 ET:∀ b o,X.base.get? b=some o->b ∉ X.ex
 Hj:∀ b ∈ X.ex,b ∉ X.fs
 uY:X.s₀.heap.FunFrames X.base X.outer
 frf:∀ b ∈ X.fs,X.H₀ b=none
structure Inv (X:Cx) (pins:List (Addr×Obj)) (σ:List (Option V)) (H:Hp) (s:Shared):Prop where
 ok:X.Ok
 os:s.os=X.s₀.os
 bare:AllBare s.gens
 base:Un X.fs X.ex X.H₀ H X.s₀.heap s.heap
 loc:∃ m,s.heap.Ns X.env.locals m/\∀ (i:Nat) (x:Str) (v:V),X.N[i]?=some x->σ[i]?=some (some v)->Vis X.env.scope x->∃ u,RelV v u/\Look X.env s.heap m x u
 cell:∀ x c,X.env.cells.lookup x=some c->∃ v,s.heap.IsCell c v
 free:H X.env.locals=none
 mK:∀ x c,X.env.cells.lookup x=some c->H c=none
 pin:∀ p ∈ X.pn++pins,s.heap.get? p.1=some p.2/\H p.1=none/\p.1≠X.env.locals/\p.1 ∉ X.fs/\∀ v,p.2.data≠.cell v
 hok:HOk X.prog X.w H s.heap
 len:σ.length=X.N.length
section
variable {X:Cx} {pins:List (Addr×Obj)} {σ:List (Option V)} {H H':Hp} {s:Shared} {h':Heap}
theorem Cx.Ok.K9 (ok:X.Ok) {b:Addr} {o:Obj} (e:X.base.get? b=some o):b ∉ X.fs:=fun hb=>by
 have:=(ok.uY.mem hb).1
 rw [e] at this; cases this
theorem Inv.bs (I:Inv X pins σ H s):∀ b o,X.base.get? b=some o->s.heap.get? b=some o/\H b=none:=fun b o e =>
 ⟨I.base.keep b o (I.ok.bs b o e).1 (I.ok.bs b o e).2 (I.ok.K9 e) (I.ok.ET b o e),I.base.free b o (I.ok.bs b o e).1 (I.ok.bs b o e).2 (I.ok.ET b o e)⟩
theorem Inv.bk (I:Inv X pins σ H s):∀ b o,X.base.get? b=some o->s.heap.get? b=some o:=fun b o e=>(I.bs b o e).1
theorem Inv.mod (I:Inv X pins σ H s):Mod X.K X.mg X.base:=I.ok.mod
theorem Inv.kIn (I:Inv X pins σ H s):X.K.In s.heap:=I.ok.mod.kin.keeps I.bk
theorem Inv.lt (I:Inv X pins σ H s):X.env.locals < s.heap.objs.size:=let ⟨_,hn,_⟩:=I.loc; hn.lt
theorem Inv.sz (I:Inv X pins σ H s):X.s₀.heap.objs.size<=s.heap.objs.size:=Nat.le_trans I.ok.above (Nat.le_of_lt I.lt)
theorem Inv.K8 (I:Inv X pins σ H s) {a:Addr} (h:s.heap.objs.size<=a):a ∉ X.fs:=fun hb=>by
 obtain ⟨_,o,ho,_⟩:=I.ok.uY.mem hb
 exact absurd (Nat.lt_of_lt_of_le (Heap.lt_size ho) (Nat.le_trans I.sz h)) (Nat.lt_irrefl _)
theorem Inv.cne (I:Inv X pins σ H s):∀ x c,X.env.cells.lookup x=some c->c≠X.env.locals:=fun x c e z=>by
 obtain ⟨v,o,ho,hd⟩:=I.cell x c e
 obtain ⟨m,⟨o',es,ep,ho',hd',_⟩,_⟩:=I.loc
 rw [z,ho'] at ho; cases ho; rw [hd'] at hd; cases hd
theorem Inv.uY (I:Inv X pins σ H s):s.heap.FunFrames X.base X.outer:=by
 have all:∀ (l:List Env),(∀ b ∈ frs l,b ∈ X.fs)->X.s₀.heap.FunFrames X.base l->s.heap.FunFrames X.base l:=by
  intro l
  induction l with
  | nil=>intro _ _; trivial
  | cons env r ih =>
   intro hs hl
   obtain ⟨hk,⟨L,o,hf,hn,ho,hd⟩,hr⟩:=hl
   have hL:L ∈ X.fs:=hs L (by unfold frs; rw [List.filterMap_cons,hf]; exact List.mem_cons_self)
   obtain ⟨sl,e⟩:=I.base.slot L o ho (I.ok.frf L hL) hL fun z=>I.ok.Hj L z hL
   exact ⟨hk,⟨L,_,hf,hn,e,hd⟩,ih (fun b hb=>hs b (by unfold frs; rw [List.filterMap_cons,hf]; exact List.mem_cons_of_mem _ hb)) hr⟩
 exact all X.outer (fun _ hb=>hb) I.ok.uY
theorem Inv.stack (I:Inv X pins σ H s):s.heap.FunFrames X.base X.stack:=by
 rcases I.ok.stk with e | ⟨e,hf⟩
 · rw [e]; exact I.uY
 ·rw [e]
  obtain ⟨m,hn,_⟩:=I.loc
  refine .cons (by rw [I.ok.kind]; decide) hf hn ?_ I.uY
  exact Heap.get?_none_of_le (Nat.le_trans I.ok.bsz I.ok.above)
theorem Inv.pO (I:Inv X pins σ H s):∀ b ∈ frs X.stack,b ∈ X.env.locals::X.fs:=fun b hb=>by
 rcases I.ok.stk with e | ⟨e,hf⟩
 · rw [e] at hb; exact List.mem_cons_of_mem _ hb
 ·rw [e] at hb
  unfold frs at hb
  rw [List.filterMap_cons,hf] at hb
  exact hb
theorem Inv.vp (I:Inv X pins σ H s):∀ b ∈ frs X.stack,H b=none:=fun b hb=>by
 rcases List.mem_cons.mp (I.pO b hb) with e | hb
 · rw [e]; exact I.free
 ·obtain ⟨_,o,ho,_⟩:=I.ok.uY.mem hb
  exact I.base.free b o ho (I.ok.frf b hb) fun z=>I.ok.Hj b z hb
theorem Inv.step {g':Array GenState} {t':Nat} {d':Drawn} {ch:List Addr} (I:Inv X pins σ H s)
  (hch:∀ b ∈ ch,(b ∈ X.ex\/X.s₀.heap.objs.size<=b)/\b≠X.env.locals/\(∀ x c,X.env.cells.lookup x=some c->c≠b)/\∀ p ∈ X.pn++pins,p.1≠b)
  (keep:∀ b o,b≠X.env.locals->b ∉ X.fs->b ∉ ch->s.heap.get? b=some o->H b=none->h'.get? b=some o)
  (slot:∀ b o,b≠X.env.locals->b ∈ X.fs->b ∉ ch->s.heap.get? b=some o->H b=none->∃ sl,h'.get? b=some { o with slots:=sl }) (free:∀ b o,b ∉ ch->s.heap.get? b=some o->H b=none->H' b=none)
  (there:∀ b o,b ∉ ch->s.heap.get? b=some o->∃ o',h'.get? b=some o')
  (vg:∀ b xs,H b=some (.tup xs)->H' b=some (.tup xs)) (uZ:∀ b o u,H b=some (.frz o u)->H' b=some (.frz o u)) (vj:∀ b ps,H b=some (.tbl ps)->∃ more,H' b=some (.tbl (ps++more)))
  (ns:∀ m,s.heap.Ns X.env.locals m->h'.Ns X.env.locals m) (hok:HOk X.prog X.w H' h') (hg:AllBare g') :
  Inv X pins σ H' { s with heap:=h',gens:=g',drawn:=d',toks:=t' }:=by
 have neL:∀ b o,X.s₀.heap.get? b=some o->b≠X.env.locals:=fun b o e=>Nat.ne_of_lt (Nat.lt_of_lt_of_le (Heap.lt_size e) I.ok.above)
 have neC:∀ b o,X.s₀.heap.get? b=some o->b ∉ X.ex->b ∉ ch:=fun b o e hx hb=>by
  rcases (hch b hb).1 with z | z
  · exact hx z
  · exact absurd (Nat.lt_of_lt_of_le (Heap.lt_size e) z) (Nat.lt_irrefl _)
 have cellK:∀ x c,X.env.cells.lookup x=some c->∀ v,s.heap.IsCell c v->h'.IsCell c v:=fun x c e v ⟨o,ho,hd⟩=>by
  have nch:c ∉ ch:=fun z=>(hch c z).2.2.1 x c e rfl
  by_cases hc:c ∈ X.fs
  ·obtain ⟨sl,q⟩:=slot c o (I.cne x c e) hc nch ho (I.mK x c e)
   exact ⟨_,q,hd⟩
  · exact ⟨o,keep c o (I.cne x c e) hc nch ho (I.mK x c e),hd⟩
 refine ⟨I.ok,I.os,hg,⟨fun b o e n hb hx=>?_,fun b o e n hb hx=>?_,fun b o e n hx=>?_,fun b o e hx=>?_,fun b xs e=>vg b xs (I.base.vg b xs e),fun b o xs e=>uZ b o xs (I.base.uZ b o xs e),fun b ps e=>?_⟩,?_,fun x c e=>?_,?_,fun x c e=>?_,fun p hp=>?_,hok,I.len⟩
 · exact keep b o (neL b o e) hb (neC b o e hx) (I.base.keep b o e n hb hx) (I.base.free b o e n hx)
 ·obtain ⟨sl,e1⟩:=I.base.slot b o e n hb hx
  obtain ⟨sl',e2⟩:=slot b _ (neL b o e) hb (neC b o e hx) e1 (I.base.free b o e n hx)
  exact ⟨sl',e2⟩
 ·obtain ⟨o',e1⟩:=I.base.there b o e hx
  exact free b o' (neC b o e hx) e1 (I.base.free b o e n hx)
 ·obtain ⟨o',e1⟩:=I.base.there b o e hx
  exact there b o' (neC b o e hx) e1
 ·obtain ⟨m1,e1⟩:=I.base.vj b ps e
  obtain ⟨m2,e2⟩:=vj b _ e1
  exact ⟨m1++m2,by rw [e2,Array.append_assoc]⟩
 ·obtain ⟨m,hn,hl⟩:=I.loc
  refine ⟨m,ns m hn,fun i x v e1 e2 e3=>?_⟩
  obtain ⟨u,r,l⟩:=hl i x v e1 e2 e3
  refine ⟨u,r,?_⟩
  rcases l with l | ⟨k,c,e,z⟩
  · exact .inl l
  · exact .inr ⟨k,c,e,cellK x c e _ z⟩
 ·obtain ⟨v,z⟩:=I.cell x c e
  exact ⟨v,cellK x c e v z⟩
 ·obtain ⟨m,⟨o,_,_,ho,_⟩,_⟩:=I.loc
  exact free _ o (fun z=>(hch _ z).2.1 rfl) ho I.free
 ·obtain ⟨v,o,ho,hd⟩:=I.cell x c e
  exact free c o (fun z=>(hch c z).2.2.1 x c e rfl) ho (I.mK x c e)
 ·obtain ⟨e,n,ne,nf,d⟩:=I.pin p hp
  have nch:p.1 ∉ ch:=fun z=>(hch p.1 z).2.2.2 p hp rfl
  exact ⟨keep p.1 p.2 ne nf nch e n,free p.1 p.2 nch e n,ne,nf,d⟩
theorem Inv.un {t':Nat} (I:Inv X pins σ H s) (u:Un X.fs [] H H' s.heap h') (hok:HOk X.prog X.w H' h'):Inv X pins σ H' { s with heap:=h',toks:=t' }:=by
 obtain ⟨m,⟨o,es,ep,ho,r⟩,_⟩:=id I.loc
 obtain ⟨sl,hL⟩:=u.any ho I.free (by simp)
 exact I.step (g':=s.gens) (d':=s.drawn) (ch:=[]) (fun _ z=>nomatch z) (fun b o _ hb _ e n=>u.keep b o e n hb (by simp)) (fun b o _ hb _ e n=>u.slot b o e n hb (by simp)) (fun b o _ e n=>u.free b o e n (by simp)) (fun b o _ e=>u.there b o e (by simp)) u.vg u.uZ u.vj (fun m' hm=>by
  obtain ⟨o',es',ep',ho',r'⟩:=hm
  rw [ho] at ho'; cases ho'
  exact ⟨_,es',ep',hL,r'⟩) hok I.bare
theorem Inv.call {g':Array GenState} {t':Nat} {d':Drawn} {ch:List Addr} (I:Inv X pins σ H s) (u:Un (frs X.stack) ch H H' s.heap h') (hok:HOk X.prog X.w H' h') (hg:AllBare g')
  (hch:∀ b ∈ ch,(b ∈ X.ex\/X.s₀.heap.objs.size<=b)/\b≠X.env.locals/\(∀ x c,X.env.cells.lookup x=some c->c≠b)/\∀ p ∈ X.pn++pins,p.1≠b) :
  Inv X pins σ H' { s with heap:=h',gens:=g',drawn:=d',toks:=t' }:=by
 obtain ⟨m,⟨o,es,ep,ho,r⟩,_⟩:=id I.loc
 obtain ⟨sl,hL⟩:=u.any ho I.free fun z=>(hch _ z).2.1 rfl
 exact I.step (ch:=ch) hch (fun b o hL hb hc e n=>u.keep b o e n (fun z=>(List.mem_cons.mp (I.pO b z)).elim hL hb) hc) (fun b o _ _ hc e n=>u.any e n hc) (fun b o hc e n=>u.free b o e n hc) (fun b o hc e=>u.there b o e hc) u.vg u.uZ u.vj (fun m' hm=>by
  obtain ⟨o',es',ep',ho',r'⟩:=hm
  rw [ho] at ho'; cases ho'
  exact ⟨_,es',ep',hL,r'⟩) hok hg
theorem Inv.turned {t':Nat} {it:Addr} (I:Inv X pins σ H s) (k:∀ b o,b≠it->s.heap.get? b=some o->h'.get? b=some o) (hn:H it=none) (hL:it≠X.env.locals)
  (h1:it ∈ X.ex\/X.s₀.heap.objs.size<=it) (h2:∀ x c,X.env.cells.lookup x=some c->c≠it) (h3:∀ p ∈ X.pn++pins,p.1≠it):Inv X pins σ H { s with heap:=h',toks:=t' }:=by
 have nit:∀ b u,H b=some u->b≠it:=fun b u e z=>by rw [z,hn] at e; cases e
 refine I.step (g':=s.gens) (d':=s.drawn) (ch:=[it]) (fun b hb=>?_) (fun b o _ _ hc e _=>k b o (fun z=>hc (by simp [z])) e) (fun b o _ _ hc e _=>⟨o.slots,k b o (fun z=>hc (by simp [z])) e⟩) (fun _ _ _ _ n=>n)
  (fun b o hc e=>⟨o,k b o (fun z=>hc (by simp [z])) e⟩) (fun _ _ e=>e) (fun _ _ _ e=>e) (fun b ps e=>⟨#[],by rw [e]; simp⟩) (fun m hm=>?_) (fun b u e=>?_) I.bare
 ·have e:b=it:=by simpa using hb
  subst e
  exact ⟨h1,hL,h2,h3⟩
 ·obtain ⟨o,es,ep,ho,r⟩:=hm
  exact ⟨o,es,ep,k _ o (Ne.symm hL) ho,r⟩
 ·refine (I.hok b u e).yq (fun c v hc q=>k c v ?_ q) (fun _ q=>q) fun _ _ q=>q
  rcases hc with z | z
  · rw [z]; exact nit b u e
  · exact nit c _ z
theorem Inv.tok (I:Inv X pins σ H s) (t:Nat):Inv X pins σ H { s with toks:=t }:=I.un (h':=s.heap) (t':=t) Un.refl I.hok
theorem Inv.kept {t':Nat} (I:Inv X pins σ H s) (k:∀ b u,s.heap.get? b=some u->h'.get? b=some u):Inv X pins σ H { s with heap:=h',toks:=t' }:=I.un (Un.kept k) (I.hok.kept k)
theorem Inv.laid {a:Addr} {o:HO} {t':Nat} (I:Inv X pins σ H s) (k:∀ b u,s.heap.get? b=some u->h'.get? b=some u) (hp:s.heap.objs.size<=a) (new:dA X.prog X.w (upd H a o) h' a o) :
 Inv X pins σ (upd H a o) { s with heap:=h',toks:=t' }:=I.un (Un.laid k hp (I.hok.fresh hp)) (I.hok.laid k hp new)
theorem Inv.write {x e:Addr} {o:HO} {t':Nat} (I:Inv X pins σ H s) (mu:Mut (H x)) (he:e=x\/H e=some (.own x)) (k:∀ b u,b≠e->s.heap.get? b=some u->h'.get? b=some u) (heo:∃ u,h'.get? e=some u)
 (new:dA X.prog X.w (upd H x o) h' x o):Inv X pins σ (upd H x o) { s with heap:=h',toks:=t' }:=I.un (Un.write mu he k heo) (I.hok.write mu he k heo new)
theorem Inv.jh {pins':List (Addr×Obj)} (I:Inv X pins σ H s) (h:∀ p ∈ pins',s.heap.get? p.1=some p.2/\H p.1=none/\p.1≠X.env.locals/\p.1 ∉ X.fs/\∀ v,p.2.data≠.cell v):Inv X pins' σ H s :=
 ⟨I.ok,I.os,I.bare,I.base,I.loc,I.cell,I.free,I.mK,fun p hp=>(List.mem_append.mp hp).elim (fun z=>I.pin p (List.mem_append_left _ z)) (h p),I.hok,I.len⟩
theorem sV {N:List Str} (hN:N.Nodup) {i j:Nat} {x:Str} (a:N[i]?=some x) (b:N[j]?=some x):i=j:=by
 obtain ⟨h1,e1⟩:=List.getElem?_eq_some_iff.mp a
 obtain ⟨h2,e2⟩:=List.getElem?_eq_some_iff.mp b
 exact (List.getElem_inj hN).mp (e1.trans e2.symm)
theorem pN {M:Model} {A:Around} {E:Value->Shared->Prop} {i:Nat} {x:Str} {v:V} {u:Value} {Q:Unit->Shared->Prop} (I:Inv X pins σ H s) (hN:X.N.Nodup) (hi:X.N[i]?=some x) (hx:Loc X.env.scope x) (r:RelV v u)
  (h:∀ s',Inv X pins (σ.set i (some v)) H s'->(∃ a,Heap.SameBut a s.heap s'.heap/\(a=X.env.locals\/X.env.cells.lookup x=some a))->Q () s') (hf:X.fn x=true\/X.env.scope.names.lookup x=some .local:=by first | exact .inl rfl | exact .inr rfl | assumption):wpAny M A (storeName X.env x u) Q E s:=by
 obtain ⟨m,hn,hl⟩:=id I.loc
 have hcls:(X.env.scope.kind == .class||(X.env.scope.kind == .module&&X.env.locals != X.env.globals))=false:=by rw [I.ok.kind]; rfl
 have hiσ:i < σ.length:=by rw [I.len]; exact (List.getElem?_eq_some_iff.mp hi).1
 have cne:=I.cne
 have tracked:∀ {a:Addr} {h':Heap},(∃ o,s.heap.get? a=some o/\H a=none)->Heap.SameBut a s.heap h'->HOk X.prog X.w H h':=fun {a h'} ha hs b ob e=>by
  obtain ⟨_,_,hfree⟩:=ha
  refine (I.hok b ob e).yq (fun c w' hc q=>(hs.2 c ?_).trans q) (fun _ q=>q) fun _ _ q=>q
  rintro rfl
  rcases hc with rfl | hc
  · rw [hfree] at e; cases e
  · rw [hfree] at hc; cases hc
 rcases hx with hk | hk
 ·refine wpAny_storeName_local hk hn (fun h' hn' hs=>?_) hcls
  obtain ⟨oL,_,_,hoL,_⟩:=id hn
  refine h _ ⟨I.ok,I.os,I.bare,⟨fun b o e n hb hx=>?_,fun b o e n hb hx=>?_,I.base.free,fun b o e hx=>?_,I.base.vg,I.base.uZ,I.base.vj⟩,⟨_,hn',fun j y v' e1 e2 e3=>?_⟩,fun y c e=>?_,I.free,I.mK,fun p hp=>?_,tracked ⟨oL,hoL,I.free⟩ hs,by simpa using I.len⟩ ⟨_,hs,.inl rfl⟩
  · exact (hs.2 b (Nat.ne_of_lt (Nat.lt_of_lt_of_le (Heap.lt_size e) I.ok.above))).trans (I.base.keep b o e n hb hx)
  ·obtain ⟨sl,e1⟩:=I.base.slot b o e n hb hx
   exact ⟨sl,(hs.2 b (Nat.ne_of_lt (Nat.lt_of_lt_of_le (Heap.lt_size e) I.ok.above))).trans e1⟩
  ·obtain ⟨o',e1⟩:=I.base.there b o e hx
   exact ⟨o',(hs.2 b (Nat.ne_of_lt (Nat.lt_of_lt_of_le (Heap.lt_size e) I.ok.above))).trans e1⟩
  ·by_cases hj:j=i
   ·subst hj
    rw [hi] at e1; cases e1
    rw [List.getElem?_set_self hiσ] at e2
    cases e2
    exact ⟨u,r,.inl ⟨hk,by simp⟩⟩
   ·rw [List.getElem?_set_ne (Ne.symm hj)] at e2
    obtain ⟨u',r',q⟩:=hl j y v' e1 e2 e3
    refine ⟨u',r',?_⟩
    rcases q with ⟨k,e⟩ | ⟨k,c,e,z⟩
    ·refine .inl ⟨k,?_⟩
     have:y≠x:=fun e=>hj (sV hN e1 (e ▸ hi))
     simp [this,e]
    · exact .inr ⟨k,c,e,z.sameBut hs (cne y c e)⟩
  ·obtain ⟨w',z⟩:=I.cell y c e
   exact ⟨w',z.sameBut hs (cne y c e)⟩
  ·obtain ⟨e,n,ne,nf,d⟩:=I.pin p hp
   exact ⟨(hs.2 p.1 ne).trans e,n,ne,nf,d⟩
 ·have hfn:X.fn x=true:=by
   rcases hf with z | z
   · exact z
   · rw [z] at hk; cases hk
  obtain ⟨c,hc⟩:=I.ok.has x (.inl hk)
  obtain ⟨w',z⟩:=I.cell x c hc
  refine wpAny_storeName_cell I.ok.kind hk hc z (fun h' hc' hs=>?_)
  obtain ⟨oc,hoc,hocd⟩:=id z
  refine h { s with heap:=h' } ⟨I.ok,I.os,I.bare,⟨fun b o e n hb hx=>?_,fun b o e n hb hx=>?_,I.base.free,fun b o e hx=>?_,I.base.vg,I.base.uZ,I.base.vj⟩,⟨m,hn.sameBut hs (Ne.symm (cne x c hc)),fun j y v' e1 e2 e3=>?_⟩,fun y c' e=>?_,I.free,I.mK,fun p hp=>?_,tracked ⟨oc,hoc,I.mK x c hc⟩ hs,by simpa using I.len⟩ ⟨c,hs,.inr hc⟩
  · exact (hs.2 b (Nat.ne_of_lt (Nat.lt_of_lt_of_le (Heap.lt_size e) (I.ok.cab x c hfn hc)))).trans (I.base.keep b o e n hb hx)
  ·obtain ⟨sl,e1⟩:=I.base.slot b o e n hb hx
   exact ⟨sl,(hs.2 b (Nat.ne_of_lt (Nat.lt_of_lt_of_le (Heap.lt_size e) (I.ok.cab x c hfn hc)))).trans e1⟩
  ·obtain ⟨o',e1⟩:=I.base.there b o e hx
   exact ⟨o',(hs.2 b (Nat.ne_of_lt (Nat.lt_of_lt_of_le (Heap.lt_size e) (I.ok.cab x c hfn hc)))).trans e1⟩
  ·by_cases hj:j=i
   ·subst hj
    rw [hi] at e1; cases e1
    rw [List.getElem?_set_self hiσ] at e2
    cases e2
    exact ⟨u,r,.inr ⟨.inl hk,c,hc,hc'⟩⟩
   ·rw [List.getElem?_set_ne (Ne.symm hj)] at e2
    obtain ⟨u',r',q⟩:=hl j y v' e1 e2 e3
    refine ⟨u',r',?_⟩
    rcases q with q | ⟨k,c',e,z'⟩
    · exact .inl q
    ·refine .inr ⟨k,c',e,z'.sameBut hs ?_⟩
     rintro rfl
     exact hj (sV hN e1 (I.ok.inj _ _ _ e hc ▸ hi))
  ·by_cases hcc:c'=c
   · subst hcc; exact ⟨_,hc'⟩
   ·obtain ⟨w2,z2⟩:=I.cell y c' e
    exact ⟨w2,z2.sameBut hs hcc⟩
  ·obtain ⟨e,n,ne,nf,d⟩:=I.pin p hp
   refine ⟨(hs.2 p.1 ?_).trans e,n,ne,nf,d⟩
   intro q
   rw [q,hoc] at e
   have q':oc=p.2:=Zj e
   exact d w' (by rw [<- q']; exact hocd)
theorem sG {M:Model} {A:Around} {E:Value->Shared->Prop} {i:Nat} {x:Str} {v:V} {u:Value} {Q:Unit->Shared->Prop} (I:Inv X pins σ H s) (hN:X.N.Nodup) (hi:X.N[i]?=some x) (hx:Loc X.env.scope x) (r:RelV v u)
  (h:∀ s',Inv X pins (σ.set i (some v)) H s'->Q () s') (hf:X.fn x=true\/X.env.scope.names.lookup x=some .local:=by first | exact .inl rfl | exact .inr rfl | assumption):wpAny M A (storeName X.env x u) Q E s :=
 pN I hN hi hx r (fun s' I' _=>h s' I') hf
theorem Inv.FQ {s':Shared} {ch:List Addr} (I:Inv X pins σ H s) (ho:s'.os=s.os) (u:Un (frs X.stack) ch H H' s.heap s'.heap) (hok:HOk X.prog X.w H' s'.heap) (hg:AllBare s'.gens)
  (hch:∀ b ∈ ch,(b ∈ X.ex\/X.s₀.heap.objs.size<=b)/\b≠X.env.locals/\(∀ x c,X.env.cells.lookup x=some c->c≠b)/\∀ p ∈ X.pn++pins,p.1≠b):Inv X pins σ H' s':=by
 obtain ⟨h',g',d',t',o'⟩:=s'
 have e:o'=s.os:=ho
 subst e
 exact I.call (g':=g') (t':=t') (d':=d') u hok hg hch
end
abbrev XK:=Value->Option Addr->Hp->Prop
abbrev St:=List (Option V)
abbrev VK:=V->Hp->Prop
abbrev TE:=St->Hp->VK->Prop
abbrev TT:=St->Hp->(Bool->Hp->Prop)->Prop
abbrev TA:=St->Hp->(List V->Hp->Prop)->Prop
structure Ends where
 nx:St->Hp->Prop
 rt:VK
 bk:St->Hp->Prop:=fun _ _=>False
 ct:St->Hp->Prop:=fun _ _=>False
abbrev TS:=Ends->St->Hp->Prop
def EP (X:Cx) (pins:List (Addr×Obj)) (σ:St) (Q:VK) (u:Value) (s':Shared):Prop:=∃ v H',Inv X pins σ H' s'/\RelV v u/\Q v H'
def TP (X:Cx) (pins:List (Addr×Obj)) (σ:St) (Q:Bool->Hp->Prop) (b:Bool) (s':Shared):Prop:=∃ H',Inv X pins σ H' s'/\Q b H'
def AP (X:Cx) (pins:List (Addr×Obj)) (σ:St) (Q:List V->Hp->Prop) (us:List Value) (s':Shared):Prop:=∃ vs H',Inv X pins σ H' s'/\bZ vs us/\Q vs H'
def SP (X:Cx) (pins:List (Addr×Obj)) (D:Ends) (f:Flow) (s':Shared):Prop :=
 match f with
 | .next=>∃ σ' H',Inv X pins σ' H' s'/\D.nx σ' H'
 | .brk=>∃ σ' H',Inv X pins σ' H' s'/\D.bk σ' H'
 | .cont=>∃ σ' H',Inv X pins σ' H' s'/\D.ct σ' H'
 | .ret u=>∃ v σ' H',Inv X pins σ' H' s'/\RelV v u/\D.rt v H'
def PE (X:Cx) (e:Expr) (t:TE):Prop :=
 ∀ (pins:List (Addr×Obj)) (s:Shared) (σ:St) (H:Hp) (Q:VK),Inv X pins σ H s->t σ H Q->wpAny (model X.prog X.w) X.A (eval e X.env) (EP X pins σ Q) X.xe s
def PT (X:Cx) (e:Expr) (t:TT):Prop :=
 ∀ (pins:List (Addr×Obj)) (s:Shared) (σ:St) (H:Hp) (Q:Bool->Hp->Prop),Inv X pins σ H s->t σ H Q->wpAny (model X.prog X.w) X.A (isTrue e X.env (eval e X.env)) (TP X pins σ Q) X.xe s
def PW (X:Cx) (e:Expr) (t:TT):Prop :=
 ∀ (whole:Sem Value) (pins:List (Addr×Obj)) (s:Shared) (σ:St) (H:Hp) (Q:Bool->Hp->Prop),Inv X pins σ H s->t σ H Q->wpAny (model X.prog X.w) X.A (isTrue e X.env whole) (TP X pins σ Q) X.xe s
theorem PW.pt {X:Cx} {e:Expr} {t:TT} (h:PW X e t):PT X e t:=h _
def PA (X:Cx) (es:List Expr) (t:TA):Prop :=
 ∀ (pos:Pos) (pins:List (Addr×Obj)) (s:Shared) (σ:St) (H:Hp) (Q:List V->Hp->Prop),Inv X pins σ H s->t σ H Q->wpAny (model X.prog X.w) X.A (spliced (backTo pos (starEach es X.env))) (AP X pins σ Q) X.xe s
def PS (X:Cx) (st:Stmt) (t:TS):Prop :=
 ∀ (pins:List (Addr×Obj)) (s:Shared) (σ:St) (H:Hp) (D:Ends),Inv X pins σ H s->t D σ H->wpAny (model X.prog X.w) X.A (exec st X.env) (SP X pins D) X.xe s
def PSs (X:Cx) (st:List Stmt) (t:TS):Prop :=
 ∀ (pins:List (Addr×Obj)) (s:Shared) (σ:St) (H:Hp) (D:Ends),Inv X pins σ H s->t D σ H->wpAny (model X.prog X.w) X.A (execs st X.env) (SP X pins D) X.xe s
theorem thn {α:Type} {t:Sem α} {Q Q':α->Shared->Prop} {M:Model} {A:Around} {E:Value->Shared->Prop} {s:Shared} (h:wpAny M A t Q E s) (hQ:∀ a s,Q a s->Q' a s):wpAny M A t Q' E s:=wpAny_mono h hQ fun _ _ x=>x
end L2
namespace L2
open PySem PySem.Spec PyProof.Rows
section
variable {X:Cx}
def rm (i:Nat):TE:=fun σ H Q=>∃ v,σ[i]?=some (some v)/\Q v H
def tC (v:V):TE:=fun _ H Q=>Q v H
theorem fw {i:Nat} {x:Str} {pos:Pos} (hN:X.N[i]?=some x) (hv:Vis X.env.scope x) (hd:(x == ("__debug__":Str))=false:=by decide) (hcd:(x == ("__classdict__":Str))=false:=by decide):PE X (.Name x pos) (rm i):=by
 intro pins s σ H Q I h
 obtain ⟨v,e,h⟩:=h
 obtain ⟨m,hn,hl⟩:=I.loc
 obtain ⟨u,r,l⟩:=hl i x v hN e hv
 have fin:EP X pins σ Q u s:=⟨v,H,I,r,h⟩
 rcases l with ⟨hk,hm⟩ | ⟨hk,c,hc,hcell⟩
 · exact wpAny_Name (wpAny_loadName_local I.ok.kind hk hn hm fin) hd
 ·rcases hk with hk | hk
  · exact wpAny_Name (wpAny_loadName_cell I.ok.kind hk hc hcell fin) hd
  · exact wpAny_Name (wpAny_loadName_free I.ok.kind hk hc hcell fin hcd) hd
theorem wo {i j pos}:PE X (.Constant (.int i) j pos) (tC (.int i)):=fun _ _ _ H _ I h=>wpAny_Constant_int ⟨.int i,H,I.tok _,⟨_,rfl⟩,h⟩
theorem rF {b j pos}:PE X (.Constant (.bool b) j pos) (tC (.bl b)):=fun _ _ _ H _ I h=>Constant_bool ⟨.bl b,H,I,rfl,h⟩
theorem El {j pos}:PE X (.Constant .none j pos) (tC .non):=fun _ _ _ H _ I h=>Constant_none ⟨.non,H,I,rfl,h⟩
theorem Eh {x j pos}:PE X (.Constant (.str x) j pos) (tC (.str x)):=fun _ _ _ H _ I h=>Calls.Constant_str ⟨.str x,H,I.tok _,⟨_,rfl⟩,h⟩
def Gl (X:Cx) (x:Str):Prop:=X.env.kindOf x=some .globalImplicit
theorem rR {E:Value->Shared->Prop} {pins:List (Addr×Obj)} {s:Shared} {σ:St} {H:Hp} {x:Str} {u:Value} {pos:Pos} {Q:Value->Shared->Prop} (I:Inv X pins σ H s) (hg:Gl X x) (hm:X.mg x=some u) (h:Q u s)
  (hd:(x == ("__debug__":Str))=false:=by decide):wpAny (model X.prog X.w) X.A (eval (.Name x pos) X.env) Q E s :=
 Calls.Name_function_global I.ok.kind hg (Calls.loadGlobal_global (by rw [I.ok.glob]; exact I.mod.glob.keeps I.bk) hm h) hd
theorem mz {E:Value->Shared->Prop} {pins:List (Addr×Obj)} {s:Shared} {σ:St} {H:Hp} {x:Str} {u:Value} {pos:Pos} {Q:Value->Shared->Prop} (I:Inv X pins σ H s) (hg:Gl X x) (hm:X.mg x=none) (hv:bootBuiltins x=some u) (h:Q u s)
  (hn:x≠"__name__":=by decide) (hd:(x == ("__debug__":Str))=false:=by decide):wpAny (model X.prog X.w) X.A (eval (.Name x pos) X.env) Q E s:=by
 obtain ⟨mb,h1,h2⟩:=I.mod.blt
 exact Calls.Name_function_global I.ok.kind hg (Calls.loadGlobal_builtin (by rw [I.ok.glob]; exact I.mod.glob.keeps I.bk) hm (by rw [I.ok.blt]; exact h1.keeps I.bk) ((h2 x hn).trans hv) h) hd
theorem B0 {x:Str} {v:V} {u:Value} {pos:Pos} (hg:Gl X x) (hm:X.mg x=some u) (r:RelV v u) (hd:(x == ("__debug__":Str))=false:=by decide):PE X (.Name x pos) (tC v) :=
 fun _ _ _ H _ I h=>rR I hg hm ⟨v,H,I,r,h⟩ hd
theorem B4 {x:Str} {v:V} {u:Value} {pos:Pos} (hg:Gl X x) (hm:X.mg x=none) (hv:bootBuiltins x=some u) (r:RelV v u) (hn:x≠"__name__":=by decide) (hd:(x == ("__debug__":Str))=false:=by decide):PE X (.Name x pos) (tC v) :=
 fun _ _ _ H _ I h=>mz I hg hm hv ⟨v,H,I,r,h⟩ hn hd
variable {a b:Expr} {ta tb:TE} {pos:Pos}
def PC (X:Cx) (op:CmpOp) (a b:Expr) (t:TE):Prop :=
  ∀ (pins:List (Addr×Obj)) (s:Shared) (σ:St) (H:Hp) (Q:VK),Inv X pins σ H s->t σ H Q ->
    wpAny (model X.prog X.w) X.A (eval a X.env) (fun v s₁=>wpAny (model X.prog X.w) X.A (eval b X.env) (fun u s₂=>wpAny (model X.prog X.w) X.A (compareOp op v u) (EP X pins σ Q) X.xe s₂) X.xe s₁) X.xe s
def tB (t:TE):TT:=fun σ H Q=>t σ H fun x H1=>∃ c,x=.bl c/\Q c H1
theorem Eo {op:CmpOp} {t:TE} (h:PC X op a b t) (h1:behindInMarks op b=false:=by first | exact nobehind _ (by decide) (by decide) | rfl):PE X (.Compare a [op] [b] pos) t:=fun pins s σ H Q I hw=>wpAny_Compare1 (h pins s σ H Q I hw) h1
theorem Ap {op:CmpOp} {t:TE} (h:PC X op a b t) (h1:behindInMarks op b=false:=by first | exact nobehind _ (by decide) (by decide) | rfl):PT X (.Compare a [op] [b] pos) (tB t):=by
 intro pins s σ H Q I hw
 refine wpAny_isTrue_Compare1 (thn (h pins s σ H _ I hw) fun v s1 h1=>thn h1 fun u s2 h2=>thn h2 fun c s3 ⟨x,H1,I1,r1,q1⟩=>?_) h1
 obtain ⟨d,rfl,q⟩:=q1
 cases r1
 exact wpAny_truthy_bool ⟨H1,I1,q⟩
theorem vO {e:Expr} {t:TE} (h:PE X e t) (he:∀ whole,isTrue e X.env whole=(do let v <- whole; standAt e.pos; holding [v] (truthy v)):=by intro _; rfl):PT X e (tB t):=by
 intro pins s σ H Q I hw
 refine isTrue_plain (thn (h pins s σ H _ I hw) fun v s1 ⟨x,H1,I1,r1,q1⟩=>?_) (he _)
 obtain ⟨d,rfl,q⟩:=q1
 cases r1
 exact wpAny_truthy_bool ⟨H1,I1,q⟩
variable {tA tB':TT} {rest:List Expr}
def Ku (t u:TT):TT:=fun σ H Q=>t σ H fun c H1=>if c=true then u σ H1 Q else Q false H1
def tOr (t u:TT):TT:=fun σ H Q=>t σ H fun c H1=>if c=true then Q true H1 else u σ H1 Q
def J2 (t:TT):TT:=fun σ H Q=>t σ H fun c H1=>Q (!c) H1
theorem pw_and1 (ha:PT X a tA):PW X (.BoolOp .And [a] pos) tA:=by
 intro wh pins s σ H Q I h
 refine isTrue_and (thn (ha pins s σ H Q I h) fun c s1 e=>?_)
 cases c with
 | true=>exact isTrue_and_nil e
 | false=>exact e
theorem pw_or1 (ha:PT X a tA):PW X (.BoolOp .Or [a] pos) tA:=by
 intro wh pins s σ H Q I h
 refine isTrue_or (thn (ha pins s σ H Q I h) fun c s1 e=>?_)
 cases c with
 | false=>exact isTrue_or_nil e
 | true=>exact e
theorem pw_and (ha:PT X a tA) (hb:PW X (.BoolOp .And (b::rest) pos) tB'):PW X (.BoolOp .And (a::b::rest) pos) (Ku tA tB'):=by
 intro wh pins s σ H Q I h
 refine isTrue_and (thn (ha pins s σ H _ I h) fun c s1 ⟨H1,I1,q1⟩=>?_)
 cases c with
 | true=>exact hb wh pins s1 σ H1 Q I1 q1
 | false=>exact ⟨H1,I1,q1⟩
theorem pw_or (ha:PT X a tA) (hb:PW X (.BoolOp .Or (b::rest) pos) tB'):PW X (.BoolOp .Or (a::b::rest) pos) (tOr tA tB'):=by
 intro wh pins s σ H Q I h
 refine isTrue_or (thn (ha pins s σ H _ I h) fun c s1 ⟨H1,I1,q1⟩=>?_)
 cases c with
 | true=>exact ⟨H1,I1,q1⟩
 | false=>exact hb wh pins s1 σ H1 Q I1 q1
theorem vP (ha:PT X a tA):PT X (.UnaryOp .Not a pos) (J2 tA):=by
 intro pins s σ H Q I h
 exact isTrue_not (ha pins s σ H (fun c H1=>Q (!c) H1) I h)
def HC (ta tb:TE):TE:=fun σ H Q=>ta σ H fun x H1=>∃ c,x=.bl c/\if c=true then tb σ H1 Q else Q (.bl false) H1
def Hy (ta:TE):TE:=fun σ H Q=>ta σ H fun x H1=>∃ c,x=.bl c/\Q (.bl (!c)) H1
theorem Ej {op} {t:TE} (h:PE X a t):PE X (.BoolOp op [a] pos) t:=fun pins s σ H Q I hw=>BoolOp_one (h pins s σ H Q I hw)
theorem Er (ha:PE X a ta) (hb:PE X (.BoolOp .And (b::rest) pos) tb):PE X (.BoolOp .And (a::b::rest) pos) (HC ta tb):=by
 intro pins s σ H Q I h
 refine BoolOp_and (thn (ha pins s σ H _ I h) fun v s1 ⟨x,H1,I1,r1,q1⟩=>?_)
 obtain ⟨c,rfl,q1⟩:=q1
 cases r1
 refine wpAny_truthy_bool ?_
 cases c with
 | true=>exact hb pins s1 σ H1 Q I1 q1
 | false=>exact ⟨.bl false,H1,I1,rfl,q1⟩
theorem Ek (ha:PE X a ta):PE X (.UnaryOp .Not a pos) (Hy ta):=by
 intro pins s σ H Q I h
 refine UnaryOp_ (thn (ha pins s σ H _ I h) fun v s1 ⟨x,H1,I1,r1,q1⟩=>?_)
 obtain ⟨c,rfl,q1⟩:=q1
 cases r1
 exact not_of (wpAny_truthy_bool ⟨.bl (!c),H1,I1,rfl,q1⟩)
def tIf (t:TT) (ta tb:TE):TE:=fun σ H Q=>t σ H fun c H1=>if c=true then ta σ H1 Q else tb σ H1 Q
theorem zo {c:Expr} (hc:PT X c tA) (ha:PE X a ta) (hb:PE X b tb):PE X (.IfExp c a b pos) (tIf tA ta tb):=by
 intro pins s σ H Q I h
 refine wpAny_IfExp (thn (hc pins s σ H _ I h) fun d s1 ⟨H1,I1,q1⟩=>?_)
 cases d with
 | true=>exact ha pins s1 σ H1 Q I1 q1
 | false=>exact hb pins s1 σ H1 Q I1 q1
end
end L2
namespace L2
open PySem PySem.Spec PyProof.Rows
def SqL (K:W.Frag) (H:Hp) (a:Addr) (xs:List V):Prop :=
 Rd H a (.lst xs) \/
  ∃ (o:Obj) (its:Array Value) (n:Nat),K.lookup a=some o/\o.cls=.type "list"/\o.dict=none/\o.data=.seq its n/\its.size<=sizeLine/\bZ xs its.toList
def SqT (K:W.Frag) (H:Hp) (a:Addr) (xs:List V):Prop :=
 Rd H a (.tup xs) \/
  ∃ (o:Obj) (its:Array Value) (n:Nat),K.lookup a=some o/\o.cls=.type "tuple"/\o.data=.seq its n/\its.size<=sizeLine/\bZ xs its.toList
def Lx:Value->Option V
 | .none=>some .non
 | .bool b=>some (.bl b)
 | .int i _=>some (.int i)
 | .str x _=>some (.str x)
 | .bytes b _=>some (.byt b)
 | .float b _=>some (.flt b)
 | .ref a=>some (.ref a)
 | .type n=>some (.ty n)
 | _=>none
theorem RelV.abs {x:V} {u:Value} (r:RelV x u):Lx u=some x:=by
 cases x with
 | non=>cases r; rfl
 | bl _=>cases r; rfl
 | int _=>obtain ⟨t,rfl⟩:=r; rfl
 | str _=>obtain ⟨t,rfl⟩:=r; rfl
 | byt _=>obtain ⟨t,rfl⟩:=r; rfl
 | flt _=>obtain ⟨t,rfl⟩:=r; rfl
 | ref _=>cases r; rfl
 | ty _=>cases r; rfl
theorem RelV.inj {x y:V} {u:Value} (r:RelV x u) (q:RelV y u):x=y:=Zj (r.abs.symm.trans q.abs)
theorem bZ.inj:∀ {xs ys:List V} {us:List Value},bZ xs us->bZ ys us->xs=ys
 | _,_,_,.nil,.nil=>rfl
 | _,_,_,.cons r t,.cons r' t'=>by rw [r.inj r',bZ.inj t t']
section
variable {X:Cx} {pins:List (Addr×Obj)} {σ:St} {H:Hp} {s:Shared} {a:Addr} {xs ys:List V}
theorem SqL.of {K:W.Frag} (h:H a=some (.lst xs)):SqL K H a xs:=.inl (.inl h)
theorem SqT.of {K:W.Frag} (h:H a=some (.tup xs)):SqT K H a xs:=.inl (.inl h)
theorem Inv.list (I:Inv X pins σ H s) (h:SqL X.K H a xs):∃ its:List Value,bZ xs its/\PlainL s.heap a its.toArray/\xs.length<=sizeLine:=by
 rcases h with h | ⟨o,its,n,hk,hc,hd,hs,hz,r⟩
 ·obtain ⟨z,its,n,r,e⟩:=h.ok I.hok
  exact ⟨its,r,⟨_,n,e,rfl,rfl,rfl⟩,z⟩
 ·refine ⟨its.toList,r,⟨o,n,I.kIn a o hk,hc,hd,by simpa using hs⟩,?_⟩
  have e:=r.length
  simp only [Array.length_toList] at e
  omega
theorem Inv.tuple (I:Inv X pins σ H s) (h:SqT X.K H a xs):∃ its:List Value,bZ xs its/\IsTup s.heap a its.toArray/\xs.length<=sizeLine:=by
 rcases h with h | ⟨o,its,n,hk,hc,hs,hz,r⟩
 ·obtain ⟨z,its,r,p⟩:=h.ok I.hok
  exact ⟨its,r,p,z⟩
 ·refine ⟨its.toList,r,⟨o,I.kIn a o hk,hc,n,by simpa using hs⟩,?_⟩
  have e:=r.length
  simp only [Array.length_toList] at e
  omega
theorem Inv.sX (I:Inv X pins σ H s) (h:SqL X.K H a xs) (h':SqL X.K H a ys):xs=ys:=by
 obtain ⟨its,r,⟨o,n,e,_,_,d⟩,_⟩:=I.list h
 obtain ⟨its',r',⟨o',n',e',_,_,d'⟩,_⟩:=I.list h'
 rw [e] at e'; cases e'
 rw [d] at d'
 injection d' with d1 _
 have:its=its':=by simpa using congrArg Array.toList d1
 subst this
 exact r.inj r'
end
abbrev Cx.yp (X:Cx) (E:Value->Shared->Prop):Cx:={ X with xe:=E }
abbrev Cx.nox (X:Cx):Cx:=X.yp fun _ _=>False
theorem Cx.Ok.yp {X:Cx} (ok:X.Ok) (E:Value->Shared->Prop):(X.yp E).Ok :=
 ⟨ok.mod,ok.kind,ok.glob,ok.blt,ok.above,ok.inj,ok.has,ok.cab,ok.hd,ok.frames,ok.stk,ok.exf,ok.bs,ok.bsz,ok.ET,ok.Hj,ok.uY,ok.frf⟩
theorem Cx.Ok.kT {X:Cx} {E:Value->Shared->Prop} (ok:(X.yp E).Ok):X.Ok :=
 ⟨ok.mod,ok.kind,ok.glob,ok.blt,ok.above,ok.inj,ok.has,ok.cab,ok.hd,ok.frames,ok.stk,ok.exf,ok.bs,ok.bsz,ok.ET,ok.Hj,ok.uY,ok.frf⟩
section
variable {X:Cx} {pins:List (Addr×Obj)} {σ:St} {H:Hp} {s:Shared} {E:Value->Shared->Prop}
theorem Inv.yp (I:Inv X pins σ H s) (E:Value->Shared->Prop):Inv (X.yp E) pins σ H s:=⟨I.ok.yp E,I.os,I.bare,I.base,I.loc,I.cell,I.free,I.mK,I.pin,I.hok,I.len⟩
theorem Inv.kT (I:Inv (X.yp E) pins σ H s):Inv X pins σ H s:=⟨I.ok.kT,I.os,I.bare,I.base,I.loc,I.cell,I.free,I.mK,I.pin,I.hok,I.len⟩
theorem SP.kT {D:Ends} {f:Flow} {s':Shared} (h:SP (X.yp E) pins D f s'):SP X pins D f s':=by
 cases f with
 | next=>obtain ⟨σ',H',I,q⟩:=h; exact ⟨σ',H',I.kT,q⟩
 | brk=>obtain ⟨σ',H',I,q⟩:=h; exact ⟨σ',H',I.kT,q⟩
 | cont=>obtain ⟨σ',H',I,q⟩:=h; exact ⟨σ',H',I.kT,q⟩
 | ret u=>obtain ⟨v,σ',H',I,r,q⟩:=h; exact ⟨v,σ',H',I.kT,r,q⟩
theorem PSs.nox {st:List Stmt} {t:TS} (h:PSs X.nox st t):PSs X st t:=fun pins s σ H D I hw =>
 wpAny_mono (h pins s σ H D (I.yp _) hw) (fun _ _ q=>q.kT) fun _ _ z=>False.elim z
end
section
variable {X:Cx} {st:Stmt} {rest:List Stmt} {t u:TS} {e:Expr} {te:TE} {pos:Pos}
def vm:TS:=fun D σ H=>D.nx σ H
def DH (t u:TS):TS:=fun D σ H=>t { D with nx:=u D } σ H
theorem jf:PSs X [] vm:=fun _ _ σ H _ I h=>wpAny_execs_nil ⟨σ,H,I,h⟩
theorem eu (h1:PS X st t) (h2:PSs X rest u):PSs X (st::rest) (DH t u):=by
 intro pins s σ H D I h
 refine wpAny_execs_cons (thn (h1 pins s σ H { D with nx:=u D } I h) fun f s1 q=>?_)
 cases f with
 | next =>
  obtain ⟨σ',H',I',q⟩:=q
  exact h2 pins s1 σ' H' D I' q
 | ret v=>exact q
 | brk=>exact q
 | cont=>exact q
theorem dJ (h1:PS X st t):PSs X [st] t:=by
 intro pins s σ H D I h
 refine wpAny_execs_cons (thn (h1 pins s σ H D I h) fun f s1 q=>?_)
 cases f with
 | next=>exact wpAny_execs_nil q
 | ret v=>exact q
 | brk=>exact q
 | cont=>exact q
theorem Inv.quiet {pins:List (Addr×Obj)} {σ:St} {H:Hp} {s:Shared} (I:Inv X pins σ H s):interactive X.env=false:=by simp [interactive,I.ok.kind]
def HA (te:TE):TS:=fun D σ H=>te σ H fun _ H1=>D.nx σ H1
theorem jg (he:PE X e te) (hs:swapsWith e none pos.line X.env=pure false:=by rfl):PS X (.Expr e pos) (HA te):=by
 intro pins s σ H D I h
 exact wpAny_Expr_any (thn (he pins s σ H _ I h) fun v s1 ⟨x,H1,I1,r1,q1⟩=>⟨σ,H1,I1,q1⟩) I.quiet hs
def Dp (te:TE):TS:=fun D σ H=>te σ H D.rt
theorem gU (he:PE X e te):PS X (.Return (some e) pos) (Dp te):=by
 intro pins s σ H D I h
 exact wpAny_Return_some (thn (he pins s σ H _ I h) fun v s1 ⟨x,H1,I1,r1,q1⟩=>⟨x,σ,H1,I1,r1,q1⟩)
def Dq (c:TT) (t u:TS):TS:=fun D σ H=>c σ H fun b H1=>if b=true then t D σ H1 else u D σ H1
theorem pY {c:Expr} {a b:List Stmt} {tc:TT} (hc:PT X c tc) (ha:PSs X a t) (hb:PSs X b u):PS X (.If c a b pos) (Dq tc t u):=by
 intro pins s σ H D I h
 refine wpAny_If (thn (hc pins s σ H _ I h) fun d s1 ⟨H1,I1,q1⟩=>?_)
 cases d with
 | true=>exact ha pins s1 σ H1 D I1 q1
 | false=>exact hb pins s1 σ H1 D I1 q1
end
abbrev TG:=V->St->Hp->(St->Hp->Prop)->Prop
abbrev TGs:=List V->St->Hp->(St->Hp->Prop)->Prop
def PG (X:Cx) (target:Expr) (t:TG):Prop :=
  ∀ (pins:List (Addr×Obj)) (s:Shared) (σ:St) (H:Hp) (v:V) (u:Value) (Q:St->Hp->Prop),Inv X pins σ H s->RelV v u->t v σ H Q ->
    wpAny (model X.prog X.w) X.A (assign target X.env u) (fun _ s'=>∃ σ' H',Inv X pins σ' H' s'/\Q σ' H') X.xe s
def PGs (X:Cx) (ts:List Expr) (t:TGs):Prop :=
  ∀ (pins:List (Addr×Obj)) (s:Shared) (σ:St) (H:Hp) (vs:List V) (us:List Value) (Q:St->Hp->Prop),Inv X pins σ H s->bZ vs us->t vs σ H Q ->
    wpAny (model X.prog X.w) X.A (assignInOrder ((assignEach ts X.env).map (·.2)) us) (fun _ s'=>∃ σ' H',Inv X pins σ' H' s'/\Q σ' H') X.xe s
section
variable {X:Cx} {pos:Pos}
def mI (i:Nat):TG:=fun v σ H Q=>Q (σ.set i (some v)) H
theorem gV {i:Nat} {x:Str} (hN:X.N.Nodup) (hi:X.N[i]?=some x) (hx:Loc X.env.scope x) (hf:X.fn x=true\/X.env.scope.names.lookup x=some .local:=by first | exact .inl rfl | exact .inr rfl | assumption):PG X (.Name x pos) (mI i):=by
 intro pins s σ H v u Q I r h
 exact wpAny_assign_Name (sG I hN hi hx r (fun s' I'=>⟨_,H,I',h⟩) hf)
def Kh:TGs:=fun vs σ H Q=>vs=[]/\Q σ H
def CY (t:TG) (u:TGs):TGs:=fun vs σ H Q=>∃ v r,vs=v::r/\t v σ H fun σ' H'=>u r σ' H' Q
theorem wm:PGs X [] Kh:=by
 intro pins s σ H vs us Q I r h
 obtain ⟨e,h⟩:=h
 subst e
 cases r
 exact assignInOrder_nil ⟨σ,H,I,h⟩
theorem oK {e:Expr} {es:List Expr} {t:TG} {u:TGs} (h1:PG X e t) (h2:PGs X es u)
  (hs:(assignEach (e::es) X.env).map (·.2)=assign e X.env::(assignEach es X.env).map (·.2):=by rfl):PGs X (e::es) (CY t u):=by
 intro pins s σ H vs us Q I r h
 obtain ⟨v,vr,e1,h⟩:=h
 subst e1
 cases r with
 | cons r rr =>
  rw [hs]
  refine assignInOrder_cons (thn (h1 pins s σ H _ _ _ I r h) fun _ s1 ⟨σ1,H1,I1,q1⟩=>?_)
  exact h2 pins s1 σ1 H1 _ _ Q I1 rr q1
def Kg (K:W.Frag) (n:Nat) (t:TGs):TG:=fun v σ H Q=>∃ a xs,v=.ref a/\SqT K H a xs/\xs.length=n/\t xs σ H Q
theorem Aq {es:List Expr} {k:Nat} {t:TGs} {n:Nat} (hc:X.calm=true) (h:PGs X es t)
  (hn:(assignEach es X.env).length=n:=by rfl) (hst:(assignEach es X.env).findIdx? (·.1)=none:=by rfl):PG X (.Tuple es k pos) (Kg X.K n t):=by
 intro pins s σ H v u Q I r hw
 obtain ⟨a,xs,e1,hq,hl,hw⟩:=hw
 subst e1
 cases r
 obtain ⟨its,rv,ht,hz⟩:=I.tuple hq
 refine assign_Tuple_tuple (I.ok.hd hc) ht (by simp [hn,<- hl,rv.length]) hst fun h' hx=>?_
 have I1:Inv X pins σ H { s with heap:=h' }:=I.kept (t':=s.toks) fun b o e=>hx b o (Nat.ne_of_lt (Heap.lt_size e)) e
 exact h pins _ σ H xs _ Q I1 (by simpa using rv) hw
def Gb (te:TE) (g:TG):TS:=fun D σ H=>te σ H fun x H1=>g x σ H1 D.nx
theorem Ed {tg e:Expr} {te:TE} {g:TG} (he:PE X e te) (hg:PG X tg g) (hs:swapsWithSole [tg] e pos.line X.env=pure false:=by rfl) (hw:swappedStores [tg] e X.env=pure none:=by rfl)
  (h1:(assignEach [tg] X.env).map (·.2)=[assign tg X.env]:=by rfl):PS X (.Assign [tg] e pos) (Gb te g):=by
 intro pins s σ H D I h
 refine wpAny_Assign_stores (thn (he pins s σ H _ I h) fun v s1 ⟨x,H1,I1,r1,q1⟩=>?_) hs hw
 rw [h1]
 exact thn (hg pins s1 σ H1 x v _ I1 r1 q1) fun _ s2 q=>q
theorem pX {i:Nat} {x:Str} {e:Expr} {te:TE} {pos':Pos} (hN:X.N.Nodup) (hi:X.N[i]?=some x) (hx:Loc X.env.scope x) (he:PE X e te) (hs:swapsWith e (some (.Name x pos')) pos.line X.env=pure false:=by rfl) (hf:X.fn x=true\/X.env.scope.names.lookup x=some .local:=by first | exact .inl rfl | exact .inr rfl | assumption) :
  PS X (.Assign [.Name x pos'] e pos) (Gb te (mI i)):=by
 intro pins s σ H D I h
 refine wpAny_Assign_Name (thn (he pins s σ H _ I h) fun v s1 ⟨y,H1,I1,r1,q1⟩=>?_) hs
 exact sG I1 hN hi hx r1 (fun s2 I2=>⟨_,H1,I2,q1⟩) hf
end
section
variable {X:Cx} {pos:Pos}
def DD (c:TT) (tb:TS):TS:=fun D σ H=>∃ W:Nat->St->Hp->Prop,(∃ m,W m σ H)/\∀ m σ H,W m σ H ->
 c σ H fun b H1=>if b=true then ∃ N:St->Hp->Prop,(∀ σ' H',N σ' H'->∃ m',m' < m/\W m' σ' H')/\tb { D with nx:=N,ct:=N,bk:=D.nx } σ H1 else D.nx σ H1
theorem zb {c:Expr} {body:List Stmt} {tc:TT} {tb:TS} (hp:PassesOwn (model X.prog X.w) X.A X.env X.xe) (hc:PT X c tc) (hb:PSs X body tb):PS X (.While c body [] pos) (DD tc tb):=by
 intro pins s σ H D I h
 obtain ⟨W,⟨m0,w0⟩,turn⟩:=h
 refine wpAny_While (codeAny_whileLoop (fun n s'=>∃ σ' H',Inv X pins σ' H' s'/\W n σ' H') ?_ m0 ⟨σ,H,I,w0⟩)
 rintro n s1 ⟨σ1,H1,I1,w1⟩
 refine wpAny_passesOwn hp (thn (hc pins s1 σ1 H1 _ I1 (turn n σ1 H1 w1)) fun b s2 ⟨H2,I2,q2⟩=>?_)
 cases b with
 | true =>
  obtain ⟨N,hN,q2⟩:=q2
  rw [if_pos rfl]
  refine wpAny_passesOwn hp (thn (hb pins s2 σ1 H2 _ I2 q2) fun f s3 q3=>?_)
  cases f with
  | next =>
   obtain ⟨σ3,H3,I3,n3⟩:=q3
   obtain ⟨m',hm,w3⟩:=hN σ3 H3 n3
   exact ⟨m',hm,σ3,H3,I3,w3⟩
  | cont =>
   obtain ⟨σ3,H3,I3,n3⟩:=q3
   obtain ⟨m',hm,w3⟩:=hN σ3 H3 n3
   exact ⟨m',hm,σ3,H3,I3,w3⟩
  | brk=>exact q3
  | ret v=>exact q3
 | false =>
  rw [if_neg Zf]
  exact wpAny_execs_nil ⟨σ1,H2,I2,q2⟩
end
structure It where
 go:Nat->Hp->Prop
 yld:Nat->Hp->V->Hp->Prop
 stop:Nat->Hp->Prop
def uT (X:Cx) (pins:List (Addr×Obj)) (H:Hp) (b:Addr):Prop :=
 H b=none/\b≠X.env.locals/\b ∉ X.fs/\(b ∈ X.ex\/X.s₀.heap.objs.size<=b)/\(∀ x c,X.env.cells.lookup x=some c->c≠b)/\∀ p ∈ X.pn++pins,p.1≠b
theorem Inv.u0 {X:Cx} {pins:List (Addr×Obj)} {σ:St} {H H':Hp} {s:Shared} {b:Addr} (I:Inv X pins σ H s) (hb:s.heap.objs.size<=b) (hn:H' b=none):uT X pins H' b:=by
 refine ⟨hn,Nat.ne_of_gt (Nat.lt_of_lt_of_le I.lt hb),I.K8 hb,.inr (Nat.le_trans I.sz hb),fun x c e z=>?_,fun p hp z=>?_⟩
 ·obtain ⟨v,q⟩:=I.cell x c e
  exact absurd (Nat.lt_of_lt_of_le q.lt (by rw [z]; exact hb)) (Nat.lt_irrefl _)
 · exact absurd (Nat.lt_of_lt_of_le (Heap.lt_size (I.pin p hp).1) (by rw [z]; exact hb)) (Nat.lt_irrefl _)
structure Turn (P:Program) (w:World) (K:W.Frag) (tg:Expr) (J:It) (fp:List Addr) (it:Addr) (tn:Nat->Heap->Prop):Prop where
 mem:it ∈ fp
 obj:∀ i h,tn i h->∀ b ∈ fp,∃ o,h.get? b=some o/\∀ v,o.data≠.cell v
 keep:∀ i h h',tn i h->(∀ b ∈ fp,∀ o,h.get? b=some o->h'.get? b=some o)->tn i h'
 item:∀ (X:Cx),X.prog=P->X.w=w->X.K=K->X.calm=true->∀ (i:Nat) (pins:List (Addr×Obj)) (s:Shared) (σ:St) (H:Hp) (E:Value->Shared->Prop),Inv X pins σ H s->(∀ b ∈ fp,uT X pins H b)->tn i s.heap->J.go i H ->
  wpAny (model P w) X.A (pyNext (.ref it)) (fun r s1=>∃ u,r=some u /\
   wpAny (model P w) X.A (letOwnedTupleGo tg (.ref it) u) (fun _ s2=>∃ x H',Inv X pins σ H' s2/\RelV x u/\J.yld i H x H'/\tn (i+1) s2.heap/\∀ b ∈ fp,H' b=none) E s1) E s
 done:∀ (X:Cx),X.prog=P->X.w=w->X.K=K->X.calm=true->∀ (i:Nat) (pins:List (Addr×Obj)) (s:Shared) (σ:St) (H:Hp) (E:Value->Shared->Prop),Inv X pins σ H s->(∀ b ∈ fp,uT X pins H b)->tn i s.heap->J.stop i H ->
  wpAny (model P w) X.A (pyNext (.ref it)) (fun r s1=>r=none/\Inv X pins σ H s1) E s
 self:∀ (A:Around) (i:Nat) (s:Shared) (Q:Value->Shared->Prop) (E:Value->Shared->Prop),tn i s.heap->Q (.ref it) s->wpAny (model P w) A (pyIter (.ref it)) Q E s
abbrev TI:=St->Hp->(It->Hp->Prop)->Prop
def PIE (X:Cx) (pins:List (Addr×Obj)) (σ:St) (tg:Expr) (R:It->Hp->Prop) (itv:Value) (s2:Shared):Prop :=
 ∃ (it:Addr) (fp:List Addr) (tn:Nat->Heap->Prop) (J:It) (H':Hp),itv=.ref it/\Inv X pins σ H' s2/\Turn X.prog X.w X.K tg J fp it tn/\tn 0 s2.heap/\(∀ b ∈ fp,uT X pins H' b)/\R J H'
def PI (X:Cx) (tg iter:Expr) (wi:TI):Prop :=
  ∀ (pins:List (Addr×Obj)) (s:Shared) (σ:St) (H:Hp) (R:It->Hp->Prop),Inv X pins σ H s->wi σ H R ->
    wpAny (model X.prog X.w) X.A (eval iter X.env) (fun v s1=>wpAny (model X.prog X.w) X.A (pyIter v) (PIE X pins σ tg R) X.xe s1) X.xe s
theorem xw {M:Model} {A:Around} {E:Value->Shared->Prop} {s:Shared} {tg:Expr} {it:Addr} {u:Value} {o:Obj} {n:String} {vs:Array Value} {Q:Unit->Shared->Prop} (ho:s.heap.get? it=some o) (hc:o.cls=.type n) (hd:o.data=.fields vs)
    (hn:["enumerate","zip","dict_itemiterator","dict_reverseitemiterator","odict_iterator","itertools.zip_longest","itertools.pairwise"].contains n=false) (hQ:Q () s):wpAny M A (letOwnedTupleGo tg (.ref it) u) Q E s:=by
  unfold letOwnedTupleGo
  cases tg <;> first
    | exact wpAny_pure hQ
    | (cases u <;> first
        | exact wpAny_pure hQ
        | (refine wpAny_bind (wpAny_load ho ?_)
           rw [hc,hd]
           show wpAny M A (if (["enumerate","zip","dict_itemiterator","dict_reverseitemiterator","odict_iterator","itertools.zip_longest","itertools.pairwise"].contains n&&vs[0]? == some (rawInt _))=true then _ else _) Q E s
           rw [if_neg (by intro h; rw [hn,Bool.false_and] at h; cases h)]
           exact wpAny_pure hQ))
def Itl (K:W.Frag) (a:Addr):It :=
 ⟨fun i H=>∃ xs x,SqL K H a xs/\xs[i]?=some x,fun i H x H'=>H'=H/\∀ xs,SqL K H a xs->xs[i]?=some x,fun i H=>∃ xs,SqL K H a xs/\xs.length<=i⟩
def Itr (lo:Int) (n:Nat):It:=⟨fun i _=>i < n,fun i H x H'=>H'=H/\x=.int (lo+i),fun i _=>n<=i⟩
theorem vd {P:Program} {w:World} {K:W.Frag} {tg:Expr} (a it:Addr):Turn P w K tg (Itl K a) [it] it (fun i h=>h.IsListIter it a i) where
 mem:=by simp
 obj:=fun i h st b hb=>by
  have e:b=it:=by simpa using hb
  subst e
  obtain ⟨o,e,c,d⟩:=st
  exact ⟨o,e,fun v z=>by rw [d] at z; cases z⟩
 keep:=fun i h h' st k=>st.at fun o e=>k it (by simp) o e
 item:=by
  intro X hP hw hK hc i pins s σ H E I hf st hg
  subst hP hw hK
  obtain ⟨xs,x,hq,hx⟩:=hg
  obtain ⟨its,rv,p,hz⟩:=I.list hq
  obtain ⟨u,hu,ru⟩:=rv.get hx
  obtain ⟨f0,f1,f2,f3,f4,f5⟩:=hf it (by simp)
  refine wpAny_pyNext_list_item st p.isList (x:=u) (by simpa using hu) fun h' st' sb=>?_
  have I1:Inv X pins σ H { s with heap:=h' }:=I.turned (t':=s.toks) (fun b o hb e=>(sb.2 b hb).trans e) f0 f1 f3 f4 f5
  obtain ⟨o,e,c,d⟩:=id st'
  exact ⟨u,rfl,xw (s:={ s with heap:=h' }) e c d (by decide) ⟨x,H,I1,ru,⟨rfl,fun ys hy=>by rw [I.sX hy hq]; exact hx⟩,st',fun b hb=>(hf b hb).1⟩⟩
 done:=by
  intro X hP hw hK hc i pins s σ H E I hf st hg
  subst hP hw hK
  obtain ⟨xs,hq,hx⟩:=hg
  obtain ⟨its,rv,p,hz⟩:=I.list hq
  obtain ⟨f0,f1,f2,f3,f4,f5⟩:=hf it (by simp)
  have hl:=rv.length
  exact wpAny_pyNext_list_end (I.ok.hd hc) st p.isList (by simp; omega) fun h' eb=>⟨rfl,I.turned (t':=s.toks) (fun b o hb e=>eb b o hb e) f0 f1 f3 f4 f5⟩
 self:=fun _ _ _ _ _ st h=>wpAny_pyIter_listiter st h
theorem tZ {P:Program} {w:World} {K:W.Frag} {tg:Expr} (it:Addr) (lo:Int) (n:Nat):Turn P w K tg (Itr lo n) [it] it (fun i h=>IsRangeIter h it (lo+(i:Nat) * 1) ((n:Int) - (i:Nat)) 1) where
 mem:=by simp
 obj:=fun i h st b hb=>by
  have e:b=it:=by simpa using hb
  subst e
  exact ⟨_,st,fun v z=>by
   have z':Data.fields _=Data.cell v:=z
   cases z'⟩
 keep:=fun i h h' st k=>k it (by simp) _ st
 item:=by
  intro X hP hw hK hc i pins s σ H E I hf st hg
  subst hP hw hK
  obtain ⟨f0,f1,f2,f3,f4,f5⟩:=hf it (by simp)
  have W:=Walks.range (prog:=X.prog) (w:=X.w) (I.ok.hd hc) it lo 1 n
  refine W.item i s _ _ hg st fun v h' tk hv st' kk=>?_
  obtain ⟨t,rfl⟩:=hv
  have I1:Inv X pins σ H { s with heap:=h',toks:=tk }:=I.turned (fun b o hb e=>kk b o (by simpa using hb) e) f0 f1 f3 f4 f5
  refine ⟨_,rfl,xw (s:={ s with heap:=h',toks:=tk }) (n:="range_iterator") st' rfl rfl (by decide) ⟨.int (lo+i),H,I1,⟨t,?_⟩,⟨rfl,rfl⟩,st',fun b hb=>(hf b hb).1⟩⟩
  rw [Int.mul_one]
 done:=by
  intro X hP hw hK hc i pins s σ H E I hf st hg
  subst hP hw hK
  obtain ⟨f0,f1,f2,f3,f4,f5⟩:=hf it (by simp)
  exact wpAny_pyNext_range_end (I.ok.hd hc) st (by have:n<=i:=hg; omega) fun h' eb=>⟨rfl,I.turned (t':=s.toks) (fun b o hb e=>eb b o hb e) f0 f1 f3 f4 f5⟩
 self:=fun _ _ _ _ _ st h=>wpAny_pyIter_rangeiter st h
end L2
namespace L2
open PySem PySem.Spec PyProof.Rows
section
variable {X:Cx} {tg:Expr}
def JJ (K:W.Frag) (tl:TE):TI:=fun σ H R=>tl σ H fun x H1=>∃ a,x=.ref a/\(∃ xs,SqL K H1 a xs)/\R (Itl K a) H1
theorem BW {l:Expr} {tl:TE} (hl:PE X l tl):PI X tg l (JJ X.K tl):=by
 intro pins s σ H R I h
 refine thn (hl pins s σ H _ I h) fun v s1 ⟨x,H1,I1,r1,q1⟩=>?_
 obtain ⟨a,e,⟨xs,hq⟩,q⟩:=q1
 subst e
 cases r1
 obtain ⟨its,rv,p,hz⟩:=I1.list hq
 refine wpAny_pyIter_list p.isList ?_
 refine ⟨s1.heap.objs.size,[s1.heap.objs.size],_,_,H1,rfl,I1.kept (t':=s1.toks) fun b o e=>Heap.get?_push_of_some _ e,vd a _,⟨_,Heap.get?_push_size _ rfl,rfl,rfl⟩,fun b hb=>?_,q⟩
 have e:b=s1.heap.objs.size:=by simpa using hb
 subst e
 exact I1.u0 (Nat.le_refl _) (I1.hok.fresh (Nat.le_refl _))
theorem yH {pins:List (Addr×Obj)} {σ:St} {H:Hp} {s:Shared} {R:It->Hp->Prop} {E:Value->Shared->Prop} {lo hi:Int} {t u v:Tok} {tk:Nat} (I:Inv X pins σ H s) (h1:-(2 ^ 62)<=lo) (h2:lo < 2 ^ 62) (h3:-(2 ^ 62)<=hi) (h4:hi < 2 ^ 62)
  (q:R (Itr lo (hi - lo).toNat) H):wpAny (model X.prog X.w) X.A (pyIter (.ref s.heap.objs.size)) (PIE X pins σ tg R) E { s with heap:=s.heap.push { cls:=.type "range",data:=.fields #[.int lo t,.int hi u,.int 1 v] },toks:=tk }:=by
 refine wpAny_pyIter_range (IsRange.new ..) (small_one h1 h2 h3 h4) ?_
 have I1:Inv X pins σ H { s with heap:=s.heap.push { cls:=.type "range",data:=.fields #[.int lo t,.int hi u,.int 1 v] },toks:=tk }:=I.kept fun b o e=>Heap.get?_push_of_some _ e
 refine ⟨(s.heap.push { cls:=.type "range",data:=.fields #[.int lo t,.int hi u,.int 1 v] }).objs.size,[(s.heap.push { cls:=.type "range",data:=.fields #[.int lo t,.int hi u,.int 1 v] }).objs.size],_,_,H,rfl,
  I1.kept (t':=tk) fun b o e=>Heap.get?_push_of_some _ e,tZ _ lo (hi - lo).toNat,?_,fun b hb=>?_,q⟩
 ·have e1:lo+((0:Nat):Int) * 1=lo:=by simp
  have e2:(((hi - lo).toNat:Nat):Int) - ((0:Nat):Int)=Builtin.Range.rangeSize lo hi 1:=by rw [rangeSize_one]; split <;> omega
  show IsRangeIter _ _ (lo+((0:Nat):Int) * 1) ((((hi - lo).toNat:Nat):Int) - ((0:Nat):Int)) 1
  rw [e1,e2]
  exact Heap.get?_push_size _ rfl
 ·have e:b=(s.heap.push { cls:=.type "range",data:=.fields #[.int lo t,.int hi u,.int 1 v] }).objs.size:=by simpa using hb
  subst e
  exact I1.u0 (Nat.le_refl _) (I1.hok.fresh (Nat.le_refl _))
def JI (ta:TA):TI:=fun σ H R=>ta σ H fun vs H1=>∃ j:Int,vs=[.int j]/\-(2 ^ 62)<=j/\j < 2 ^ 62/\R (Itr 0 j.toNat) H1
theorem wj {a:Expr} {ta:TA} {p pos:Pos} (hg:Gl X "range") (hm:X.mg "range"=none) (ha:PA X [a] ta) (hs:starEach [a] X.env=[(false,eval a X.env)]:=by rfl):PI X tg (.Call (.Name "range" p) [a] [] pos) (JI ta):=by
 intro pins s σ H R I h
 refine Call_ (mz I hg hm boot_range (PyProof.Rows.callWith_type1 (thn (ha pos pins s σ H _ I h) fun us s1 ⟨vs,H1,I1,r1,q1⟩=>?_) hs rfl))
 obtain ⟨j,e,q1,q2,q⟩:=q1
 subst e
 cases r1 with
 | cons r rr =>
  cases rr
  obtain ⟨t,rfl⟩:=r
  exact call_range_1 (yH I1 (by omega) (by omega) q1 q2 (by simpa using q))
def J3 (wi:TI) (g:TG) (tb:TS):TS:=fun D σ H=>wi σ H fun J H1=>∃ W:Nat->Nat->St->Hp->Prop,(∃ m,W 0 m σ H1)/\∀ i m σ H,W i m σ H ->
 (J.stop i H/\D.nx σ H)\/(J.go i H/\∃ N:St->Hp->Prop,(∀ σ' H',N σ' H'->∃ m',m' < m/\W (i+1) m' σ' H')/\∀ x H',J.yld i H x H'->g x σ H' fun σ2 H2=>tb { D with nx:=N,ct:=N,bk:=D.nx } σ2 H2)
def sQ (fp:List Addr) (h:Heap):List (Addr×Obj):=fp.filterMap fun b=>(h.get? b).map fun o=>(b,o)
theorem fO {fp:List Addr} {h:Heap} {b:Addr} {o:Obj} (hb:b ∈ fp) (e:h.get? b=some o):(b,o) ∈ sQ fp h:=List.mem_filterMap.mpr ⟨b,hb,by rw [e]; rfl⟩
theorem wC {fp:List Addr} {h:Heap} {p:Addr×Obj} (hp:p ∈ sQ fp h):p.1 ∈ fp/\h.get? p.1=some p.2:=by
 obtain ⟨b,hb,e⟩:=List.mem_filterMap.mp hp
 cases q:h.get? b with
 | none=>rw [q] at e; cases e
 | some o =>
  rw [q] at e
  have e':(b,o)=p:=Zj e
  subst e'
  exact ⟨hb,q⟩
theorem Inv.pinned {pins:List (Addr×Obj)} {σ:St} {H:Hp} {s:Shared} {fp:List Addr} (I:Inv X pins σ H s) (hf:∀ b ∈ fp,uT X pins H b) (ho:∀ b ∈ fp,∃ o,s.heap.get? b=some o/\∀ v,o.data≠.cell v):Inv X (pins++sQ fp s.heap) σ H s :=
 I.jh fun p hp=>(List.mem_append.mp hp).elim (fun z=>I.pin p (List.mem_append_right _ z)) fun z=>by
  obtain ⟨hb,e⟩:=wC z
  obtain ⟨f0,f1,f2,_⟩:=hf p.1 hb
  obtain ⟨o,e',d⟩:=ho p.1 hb
  rw [e] at e'; cases e'
  exact ⟨e,f0,f1,f2,d⟩
theorem Inv.ot {pins pl:List (Addr×Obj)} {σ:St} {H:Hp} {s:Shared} (I:Inv X (pins++pl) σ H s):Inv X pins σ H s:=I.jh fun p hp=>I.pin p (List.mem_append_right _ (List.mem_append_left _ hp))
theorem sP {iter:Expr} {body:List Stmt} {wi:TI} {g:TG} {tb:TS} {pos:Pos} (hp:PassesOwn (model X.prog X.w) X.A X.env X.xe) (hc:X.calm=true) (hi:PI X tg iter wi) (hg:PG X tg g) (hb:PSs X body tb)
  (hs:∀ x,foldedSetIterable iter X.env x=pure x:=by intro _; rfl):PS X (.For tg iter body [] pos) (J3 wi g tb):=by
 intro pins s σ H D I h
 refine wpAny_For (thn (hi pins s σ H _ I h) fun v s1 h1=>thn h1 fun itv s2 h2=>?_) hs
 obtain ⟨it,fp,tn,J,H2,e,I2,T,st2,f2,W,⟨m0,w0⟩,turn⟩:=h2
 subst e
 have stat:∀ {H':Hp},(∀ b ∈ fp,H' b=none)->∀ b ∈ fp,uT X pins H' b:=fun hn b hb=>⟨hn b hb,(f2 b hb).2⟩
 refine codeAny_forLoop_any (fun n s'=>∃ i σ' H',Inv X pins σ' H' s'/\tn i s'.heap/\(∀ b ∈ fp,H' b=none)/\W i n σ' H') ?_ m0 ⟨0,σ,H2,I2,st2,fun b hb=>(f2 b hb).1,w0⟩
 rintro n s3 ⟨i,σ3,H3,I3,st3,fr3,w3⟩
 rcases turn i n σ3 H3 w3 with ⟨stop,qn⟩ | ⟨go,N,hN,step⟩
 ·refine wpAny_passesOwn hp (thn (T.done X rfl rfl rfl hc i pins s3 σ3 H3 X.xe I3 (stat fr3) st3 stop) fun r s4 ⟨hr,I4⟩=>?_)
  subst hr
  exact wpAny_execs_nil ⟨σ3,H3,I4,qn⟩
 ·refine wpAny_passesOwn hp (thn (T.item X rfl rfl rfl hc i pins s3 σ3 H3 X.xe I3 (stat fr3) st3 go) fun r s4 ⟨u,hr,h4⟩=>?_)
  subst hr
  refine wpAny_passesOwn hp (thn h4 fun _ s5 ⟨x,H5,I5,r5,y5,st5,fr5⟩=>?_)
  have I5':=I5.pinned (stat fr5) (T.obj _ _ st5)
  refine wpAny_passesOwn hp (thn (hg _ s5 σ3 H5 x u _ I5' r5 (step x H5 y5)) fun _ s6 ⟨σ6,H6,I6,q6⟩=>?_)
  refine wpAny_passesOwn hp (thn (hb _ s6 σ6 H6 _ I6 q6) fun f s7 q7=>?_)
  have again:∀ {σ7:St} {H7:Hp},Inv X (pins++sQ fp s5.heap) σ7 H7 s7->N σ7 H7->∃ m,m < n/\∃ i σ' H',Inv X pins σ' H' s7/\tn i s7.heap/\(∀ b ∈ fp,H' b=none)/\W i m σ' H':=fun {σ7 H7} I7 n7=>by
   obtain ⟨m',hm,w7⟩:=hN σ7 H7 n7
   refine ⟨m',hm,i+1,σ7,H7,I7.ot,T.keep _ _ _ st5 fun b hb o e=>(I7.pin (b,o) (List.mem_append_right _ (List.mem_append_right _ (fO hb e)))).1,fun b hb=>?_,w7⟩
   obtain ⟨o,e,d⟩:=T.obj _ _ st5 b hb
   exact (I7.pin (b,o) (List.mem_append_right _ (List.mem_append_right _ (fO hb e)))).2.1
  cases f with
  | next=>obtain ⟨σ7,H7,I7,n7⟩:=q7; exact again I7 n7
  | cont=>obtain ⟨σ7,H7,I7,n7⟩:=q7; exact again I7 n7
  | brk=>obtain ⟨σ7,H7,I7,q7⟩:=q7; exact ⟨σ7,H7,I7.ot,q7⟩
  | ret v=>obtain ⟨x7,σ7,H7,I7,r7,q7⟩:=q7; exact ⟨x7,σ7,H7,I7.ot,r7,q7⟩
end
end L2
namespace L2
open PySem PySem.Spec PyProof.Rows
abbrev R2:=V->V->Hp->VK->Prop
def OpR (X:Cx) (f:Value->Value->Sem Value) (r:R2):Prop :=
  ∀ (pins:List (Addr×Obj)) (s:Shared) (σ:St) (H:Hp) (x y:V) (v u:Value) (Q:VK),Inv X pins σ H s->RelV x v->RelV y u->r x y H Q ->
    wpAny (model X.prog X.w) X.A (f v u) (EP X pins σ Q) X.xe s
def UnR (X:Cx) (f:Value->Sem Value) (r:V->Hp->VK->Prop):Prop :=
  ∀ (pins:List (Addr×Obj)) (s:Shared) (σ:St) (H:Hp) (x:V) (v:Value) (Q:VK),Inv X pins σ H s->RelV x v->r x H Q ->
    wpAny (model X.prog X.w) X.A (f v) (EP X pins σ Q) X.xe s
def gJ (X:Cx) (f:Value) (r:List V->Hp->VK->Prop):Prop :=
  ∀ (pins:List (Addr×Obj)) (s:Shared) (σ:St) (H:Hp) (xs:List V) (us:List Value) (Q:VK),Inv X pins σ H s->bZ xs us->r xs H Q ->
    wpAny (model X.prog X.w) X.A (call f us) (EP X pins σ Q) X.xe s
def Ly (X:Cx) (r:V->Hp->(Bool->Hp->Prop)->Prop):Prop :=
  ∀ (pins:List (Addr×Obj)) (s:Shared) (σ:St) (H:Hp) (x:V) (v:Value) (Q:Bool->Hp->Prop),Inv X pins σ H s->RelV x v->r x H Q ->
    wpAny (model X.prog X.w) X.A (truthy v) (TP X pins σ Q) X.xe s
def tOp (r:R2) (ta tb:TE):TE:=fun σ H Q=>ta σ H fun x H1=>tb σ H1 fun y H2=>r x y H2 Q
def tUn (r:V->Hp->VK->Prop) (ta:TE):TE:=fun σ H Q=>ta σ H fun x H1=>r x H1 Q
def rI (C:Int->Int->Prop) (g:Int->Int->V):R2:=fun x y H Q=>∃ i j,x=.int i/\y=.int j/\C i j/\Q (g i j) H
def rI0 (g:Int->Int->V):R2:=fun x y H Q=>∃ i j,x=.int i/\y=.int j/\Q (g i j) H
def rU (g:Int->V):V->Hp->VK->Prop:=fun x H Q=>∃ i,x=.int i/\Q (g i) H
section
variable {X:Cx} {a b c:Expr} {ta tb tc:TE} {pos:Pos}
theorem JW (ha:PE X a ta) (hb:PE X b tb) {pins:List (Addr×Obj)} {s:Shared} {σ:St} {H:Hp} {R:V->V->Hp->Prop} (I:Inv X pins σ H s)
  (h:ta σ H fun x H1=>tb σ H1 fun y H2=>R x y H2) {Q:Value->Shared->Prop} {f:Value->Value->Sem Value}
  (hf:∀ v u s2 x y H2,Inv X pins σ H2 s2->RelV x v->RelV y u->R x y H2->wpAny (model X.prog X.w) X.A (f v u) Q X.xe s2) :
  wpAny (model X.prog X.w) X.A (eval a X.env) (fun v s₁=>wpAny (model X.prog X.w) X.A (eval b X.env) (fun u s₂=>wpAny (model X.prog X.w) X.A (f v u) Q X.xe s₂) X.xe s₁) X.xe s:=by
 refine thn (ha pins s σ H _ I h) fun v s1 ⟨x,H1,I1,r1,q1⟩=>?_
 refine thn (hb pins s1 σ H1 _ I1 q1) fun u s2 ⟨y,H2,I2,r2,q2⟩=>?_
 exact hf v u s2 x y H2 I2 r1 r2 q2
theorem HU {op:Operator} {r:R2} (ho:OpR X (binaryOp op) r) (ha:PE X a ta) (hb:PE X b tb):PE X (.BinOp a op b pos) (tOp r ta tb):=by
 intro pins s σ H Q I h
 exact wpAny_BinOp (JW ha hb I h fun v u s2 x y H2 I2 rx ry q=>ho pins s2 σ H2 x y v u Q I2 rx ry q)
theorem HS {op:UnaryOp} {r:V->Hp->VK->Prop} (ho:UnR X (unaryOp op) r) (ha:PE X a ta):PE X (.UnaryOp op a pos) (tUn r ta):=by
 intro pins s σ H Q I h
 exact UnaryOp_ (thn (ha pins s σ H _ I h) fun v s1 ⟨x,H1,I1,r1,q1⟩=>ho pins s1 σ H1 x v Q I1 r1 q1)
theorem opI {f:Value->Value->Sem Value} {C:Int->Int->Prop} {g:Int->Int->Int}
  (rule:∀ (i j:Int) (t u:Tok) (s:Shared) (Q:Value->Shared->Prop) (E:Value->Shared->Prop),C i j->Q (.int (g i j) s.toks) { s with toks:=s.toks+1 }->wpAny (model X.prog X.w) X.A (f (.int i t) (.int j u)) Q E s) :
  OpR X f (rI C fun i j=>.int (g i j)):=by
 intro pins s σ H x y v u Q I rx ry h
 obtain ⟨i,j,rfl,rfl,hc,q⟩:=h
 obtain ⟨t,rfl⟩:=rx
 obtain ⟨t',rfl⟩:=ry
 exact rule i j t t' s _ _ hc ⟨.int (g i j),H,I.tok _,⟨_,rfl⟩,q⟩
theorem J6 {f:Value->Value->Sem Value} {g:Int->Int->Int}
  (rule:∀ (i j:Int) (t u:Tok) (s:Shared) (Q:Value->Shared->Prop) (E:Value->Shared->Prop),Q (.int (g i j) s.toks) { s with toks:=s.toks+1 }->wpAny (model X.prog X.w) X.A (f (.int i t) (.int j u)) Q E s) :
  OpR X f (rI0 fun i j=>.int (g i j)):=by
 intro pins s σ H x y v u Q I rx ry h
 obtain ⟨i,j,rfl,rfl,q⟩:=h
 obtain ⟨t,rfl⟩:=rx
 obtain ⟨t',rfl⟩:=ry
 exact rule i j t t' s _ _ ⟨.int (g i j),H,I.tok _,⟨_,rfl⟩,q⟩
theorem Ij {f:Value->Value->Sem Value} {g:Int->Int->Bool}
  (rule:∀ (i j:Int) (t u:Tok) (s:Shared) (Q:Value->Shared->Prop) (E:Value->Shared->Prop),Q (.bool (g i j)) s->wpAny (model X.prog X.w) X.A (f (.int i t) (.int j u)) Q E s) :
  OpR X f (rI0 fun i j=>.bl (g i j)):=by
 intro pins s σ H x y v u Q I rx ry h
 obtain ⟨i,j,rfl,rfl,q⟩:=h
 obtain ⟨t,rfl⟩:=rx
 obtain ⟨t',rfl⟩:=ry
 exact rule i j t t' s _ _ ⟨.bl (g i j),H,I,rfl,q⟩
def AZ (i j:Int):Prop:=(-(2 ^ 64) < i/\i < 2 ^ 64)\/(-(2 ^ 64) < j/\j < 2 ^ 64)
theorem AZ.ok {i j:Int} (h:AZ i j):IntMulOk i j:=by
 rcases h with ⟨h1,h2⟩ | ⟨h1,h2⟩
 · exact .of_left (intBits_le_64 h1 h2)
 · exact .of_right (intBits_le_64 h1 h2)
theorem EJ:OpR X (binaryOp .Add) (rI0 fun i j=>.int (i+j)):=J6 fun _ _ _ _ _ _ _ q=>add_int q
theorem EE:OpR X (binaryOp .Sub) (rI0 fun i j=>.int (i - j)):=J6 fun _ _ _ _ _ _ _ q=>sub_int q
theorem Cg:OpR X (binaryOp .Mod) (rI (fun _ j=>j≠0) fun i j=>.int (i.fmod j)):=opI fun _ _ _ _ _ _ _ hc q=>mod_int' hc q
theorem unI {f:Value->Sem Value} {g:Int->Int}
  (rule:∀ (i:Int) (t:Tok) (s:Shared) (Q:Value->Shared->Prop) (E:Value->Shared->Prop),Q (.int (g i) s.toks) { s with toks:=s.toks+1 }->wpAny (model X.prog X.w) X.A (f (.int i t)) Q E s) :
  UnR X f (rU fun i=>.int (g i)):=by
 intro pins s σ H x v Q I rx h
 obtain ⟨i,rfl,q⟩:=h
 obtain ⟨t,rfl⟩:=rx
 exact rule i t s _ _ ⟨.int (g i),H,I.tok _,⟨_,rfl⟩,q⟩
theorem Dy:UnR X (unaryOp .USub) (rU fun i=>.int (-i)):=unI fun _ _ _ _ _ q=>neg_int q
end
def HD:V->V->Bool
 | .non,.non=>true | .non,.int _=>true | .int _,.non=>true | .non,.bl _=>true | .bl _,.non=>true | .non,.str _=>true | .str _,.non=>true
 | .int _,.int _=>true | .bl _,.bl _=>true | .str _,.str _=>true | .byt _,.byt _=>true
 | .int _,.str _=>true | .str _,.int _=>true | .bl _,.str _=>true | .str _,.bl _=>true
 | _,_=>false
def rEq:R2:=fun x y H Q=>HD x y=true/\Q (.bl (decide (x=y))) H
def rNe:R2:=fun x y H Q=>HD x y=true/\Q (.bl (!decide (x=y))) H
theorem xK {i j:Int}:decide (V.int i=V.int j)=(i == j):=by
 rw [Bool.eq_iff_iff]
 simp
theorem AS {i j:Bool}:decide (V.bl i=V.bl j)=(i == j):=by
 rw [Bool.eq_iff_iff]
 simp
theorem xJ {i j:Str}:decide (V.str i=V.str j)=(i == j):=by
 rw [Bool.eq_iff_iff]
 simp
theorem xM {i j:Array UInt8}:decide (V.byt i=V.byt j)=(i.toList == j.toList):=by
 rw [Bool.eq_iff_iff]
 cases i
 cases j
 simp
section
variable {X:Cx} {a b c:Expr} {ta tb tc:TE} {pos:Pos}
theorem bo {pins:List (Addr×Obj)} {σ:St} {H:Hp} {s:Shared} {Q:VK} {k k':Bool} (I:Inv X pins σ H s) (q:Q (.bl k) H) (e:k=k'):EP X pins σ Q (.bool k') s:=by
 subst e
 exact ⟨.bl k,H,I,rfl,q⟩
theorem Ii:OpR X (compareOp .Eq) rEq:=by
 intro pins s σ H x y v u Q I rx ry h
 obtain ⟨hs,q⟩:=h
 cases x with
 | non =>
  cases rx
  cases y with
  | non=>cases ry; exact PySem.EqNone.eq_none_none (bo I q (by simp))
  | bl j=>cases ry; exact PySem.EqNone.eq_none_bool (bo I q (by simp))
  | int j=>obtain ⟨t',rfl⟩:=ry; exact PySem.EqNone.eq_none_int (bo I q (by simp))
  | str j=>obtain ⟨t',rfl⟩:=ry; exact PySem.EqNone.eq_none_str (bo I q (by simp))
  | _=>exact absurd (show false=true from hs) Zf
 | bl i =>
  cases rx
  cases y with
  | non=>cases ry; exact PySem.EqNone.eq_bool_none (bo I q (by simp))
  | bl j=>cases ry; exact eq_bool (bo I q AS)
  | str j=>obtain ⟨t',rfl⟩:=ry; exact PySem.EqMixed.eq_bool_str (bo I q (by simp))
  | _=>exact absurd (show false=true from hs) Zf
 | int i =>
  obtain ⟨t,rfl⟩:=rx
  cases y with
  | non=>cases ry; exact PySem.EqNone.eq_int_none (bo I q (by simp))
  | int j=>obtain ⟨t',rfl⟩:=ry; exact eq_int (bo I q xK)
  | str j=>obtain ⟨t',rfl⟩:=ry; exact PySem.EqMixed.eq_int_str (bo I q (by simp))
  | _=>exact absurd (show false=true from hs) Zf
 | str i =>
  obtain ⟨t,rfl⟩:=rx
  cases y with
  | non=>cases ry; exact PySem.EqNone.eq_str_none (bo I q (by simp))
  | bl j=>cases ry; exact PySem.EqMixed.eq_str_bool (bo I q (by simp))
  | int j=>obtain ⟨t',rfl⟩:=ry; exact PySem.EqMixed.eq_str_int (bo I q (by simp))
  | str j=>obtain ⟨t',rfl⟩:=ry; exact eq_str (bo I q xJ)
  | _=>exact absurd (show false=true from hs) Zf
 | byt i =>
  obtain ⟨t,rfl⟩:=rx
  cases y with
  | byt j=>obtain ⟨t',rfl⟩:=ry; exact PySem.W.eq_bytes (bo I q xM)
  | _=>exact absurd (show false=true from hs) Zf
 | _=>cases y <;> exact absurd (show false=true from hs) Zf
theorem Ic:OpR X (compareOp .NotEq) rNe:=by
 intro pins s σ H x y v u Q I rx ry h
 obtain ⟨hs,q⟩:=h
 cases x with
 | non =>
  cases rx
  cases y with
  | non=>cases ry; exact PySem.EqNone.ne_none_none (bo I q (by simp))
  | bl j=>cases ry; exact PySem.EqNone.ne_none_bool (bo I q (by simp))
  | int j=>obtain ⟨t',rfl⟩:=ry; exact PySem.EqNone.ne_none_int (bo I q (by simp))
  | str j=>obtain ⟨t',rfl⟩:=ry; exact PySem.EqNone.ne_none_str (bo I q (by simp))
  | _=>exact absurd (show false=true from hs) Zf
 | bl i =>
  cases rx
  cases y with
  | non=>cases ry; exact PySem.EqNone.ne_bool_none (bo I q (by simp))
  | bl j=>cases ry; exact ne_bool (bo I q (congrArg not AS))
  | str j=>obtain ⟨t',rfl⟩:=ry; exact PySem.EqMixed.ne_bool_str (bo I q (by simp))
  | _=>exact absurd (show false=true from hs) Zf
 | int i =>
  obtain ⟨t,rfl⟩:=rx
  cases y with
  | non=>cases ry; exact PySem.EqNone.ne_int_none (bo I q (by simp))
  | int j=>obtain ⟨t',rfl⟩:=ry; exact ne_int (bo I q (congrArg not xK))
  | str j=>obtain ⟨t',rfl⟩:=ry; exact PySem.EqMixed.ne_int_str (bo I q (by simp))
  | _=>exact absurd (show false=true from hs) Zf
 | str i =>
  obtain ⟨t,rfl⟩:=rx
  cases y with
  | non=>cases ry; exact PySem.EqNone.ne_str_none (bo I q (by simp))
  | bl j=>cases ry; exact PySem.EqMixed.ne_str_bool (bo I q (by simp))
  | int j=>obtain ⟨t',rfl⟩:=ry; exact PySem.EqMixed.ne_str_int (bo I q (by simp))
  | str j=>obtain ⟨t',rfl⟩:=ry; exact ne_str (bo I q (congrArg not xJ))
  | _=>exact absurd (show false=true from hs) Zf
 | byt i =>
  obtain ⟨t,rfl⟩:=rx
  cases y with
  | byt j=>obtain ⟨t',rfl⟩:=ry; exact PySem.W.ne_bytes (bo I q (congrArg not xM))
  | _=>exact absurd (show false=true from hs) Zf
 | _=>cases y <;> exact absurd (show false=true from hs) Zf
theorem Ie:OpR X (compareOp .Lt) (rI0 fun i j=>.bl (decide (i < j))):=Ij fun _ _ _ _ _ _ _ q=>lt_int q
theorem Ig:OpR X (compareOp .LtE) (rI0 fun i j=>.bl (decide (i<=j))):=Ij fun _ _ _ _ _ _ _ q=>le_int q
theorem Ih:OpR X (compareOp .Gt) (rI0 fun i j=>.bl (decide (j < i))):=Ij fun _ _ _ _ _ _ _ q=>gt_int q
theorem wy:OpR X (compareOp .Lt) (fun x y H Q=>∃ i j,x=.str i/\y=.str j/\Q (.bl (decide (i.cps.toList < j.cps.toList))) H):=by
 intro pins s σ H x y v u Q I rx ry h
 obtain ⟨i,j,rfl,rfl,q⟩:=h
 obtain ⟨t,rfl⟩:=rx
 obtain ⟨t',rfl⟩:=ry
 exact lt_str (bo I q rfl)
theorem EG:OpR X (compareOp .Is) (fun x y H Q=>y=.non/\Q (.bl (decide (x=.non))) H):=by
 intro pins s σ H x y v u Q I rx ry h
 obtain ⟨rfl,q⟩:=h
 cases ry
 refine is_none_gen (bo I q ?_)
 cases x <;> first
  | (cases rx; rfl)
  | (obtain ⟨t,rfl⟩:=rx; rfl)
theorem Cd:OpR X (compareOp .IsNot) (fun x y H Q=>y=.non/\Q (.bl (!decide (x=.non))) H):=by
 intro pins s σ H x y v u Q I rx ry h
 obtain ⟨rfl,q⟩:=h
 cases ry
 refine isnot_none_gen (bo I q ?_)
 cases x <;> first
  | (cases rx; rfl)
  | (obtain ⟨t,rfl⟩:=rx; rfl)
theorem OpR.or {f:Value->Value->Sem Value} {r r':R2} (h:OpR X f r) (h':OpR X f r'):OpR X f (fun x y H Q=>r x y H Q\/r' x y H Q):=by
 intro pins s σ H x y v u Q I rx ry q
 rcases q with q | q
 · exact h pins s σ H x y v u Q I rx ry q
 · exact h' pins s σ H x y v u Q I rx ry q
theorem bz (b:Expr) {op:CmpOp} (h:op≠.In:=by decide) (h2:op≠.NotIn:=by decide):behindInMarks op b=false:=by
 have e1:(op == CmpOp.In)=false:=by cases op <;> first | rfl | exact absurd rfl h
 have e2:(op == CmpOp.NotIn)=false:=by cases op <;> first | rfl | exact absurd rfl h2
 cases b <;> simp [behindInMarks,e1,e2]
theorem B3 {op:CmpOp} {r:R2} (ho:OpR X (compareOp op) r) (ha:PE X a ta) (hb:PE X b tb) (hm:behindInMarks op b=false):PE X (.Compare a [op] [b] pos) (tOp r ta tb):=by
 intro pins s σ H Q I h
 exact wpAny_Compare1 (JW ha hb I h fun v u s2 x y H2 I2 rx ry q=>ho pins s2 σ H2 x y v u Q I2 rx ry q) hm
def A4 (t:TE):TT:=fun σ H Q=>t σ H fun x H'=>∃ k,x=.bl k/\Q k H'
theorem vQ {op:CmpOp} {r:R2} (ho:OpR X (compareOp op) r) (ha:PE X a ta) (hb:PE X b tb) (hm:behindInMarks op b=false):PT X (.Compare a [op] [b] pos) (A4 (tOp r ta tb)):=by
 intro pins s σ H Q I h
 refine wpAny_isTrue_Compare1 (thn (ha pins s σ H _ I h) fun v s1 ⟨x,H1,I1,r1,q1⟩=>thn (hb pins s1 σ H1 _ I1 q1) fun u s2 ⟨y,H2,I2,r2,q2⟩ =>
  thn (ho pins s2 σ H2 x y v u _ I2 r1 r2 q2) fun c s3 ⟨z,H3,I3,r3,k,e,q3⟩=>?_) hm
 subst e
 cases r3
 exact wpAny_truthy_bool ⟨H3,I3,q3⟩
def vn (r r':R2) (ta tb tc:TE):TE:=fun σ H Q=>ta σ H fun x H1=>tb σ H1 fun y H2=>r x y H2 fun z H3=>∃ k,z=.bl k /\
 (if k=true then tc σ H3 fun w' H4=>r' y w' H4 Q else Q (.bl false) H3)
theorem zq {op op':CmpOp} {r r':R2} (ho:OpR X (compareOp op) r) (ho':OpR X (compareOp op') r') (ha:PE X a ta) (hb:PE X b tb) (hc:PE X c tc)
  (hm:lastMarks [op,op'] [b,c]=false:=by with_unfolding_all rfl):PE X (.Compare a [op,op'] [b,c] pos) (vn r r' ta tb tc):=by
 intro pins s σ H Q I h
 refine Compare_chain (thn (ha pins s σ H _ I h) fun v s1 ⟨x,H1,I1,r1,q1⟩=>chain_link (thn (hb pins s1 σ H1 _ I1 q1) fun u s2 ⟨y,H2,I2,r2,q2⟩ =>
  thn (ho pins s2 σ H2 x y v u _ I2 r1 r2 q2) fun d s3 ⟨z,H3,I3,r3,k,e,q3⟩=>?_)) hm
 subst e
 cases r3
 refine wpAny_truthy_bool ?_
 cases k with
 | false=>exact ite_ff ⟨.bl false,H3,I3,rfl,q3⟩
 | true=>exact ite_tt (chain_last (thn (hc pins s3 σ H3 _ I3 q3) fun w' s4 ⟨z',H4,I4,r4,q4⟩=>ho' pins s4 σ H4 y z' u w' Q I4 r2 r4 q4))
theorem yP {op op':CmpOp} {r r':R2} (ho:OpR X (compareOp op) r) (ho':OpR X (compareOp op') r') (ha:PE X a ta) (hb:PE X b tb) (hc:PE X c tc)
  (hm:lastMarks [op,op'] [b,c]=false:=by with_unfolding_all rfl):PT X (.Compare a [op,op'] [b,c] pos) (A4 (vn r r' ta tb tc)):=by
 intro pins s σ H Q I h
 refine isTrue_chain (thn (ha pins s σ H _ I h) fun v s1 ⟨x,H1,I1,r1,q1⟩=>test_link (thn (hb pins s1 σ H1 _ I1 q1) fun u s2 ⟨y,H2,I2,r2,q2⟩ =>
  thn (ho pins s2 σ H2 x y v u _ I2 r1 r2 q2) fun d s3 ⟨z,H3,I3,r3,k,e,q3⟩=>?_)) hm
 subst e
 cases r3
 refine wpAny_truthy_bool ?_
 cases k with
 | false =>
  obtain ⟨k',e',q'⟩:=q3
  cases e'
  exact ite_ff ⟨H3,I3,q'⟩
 | true =>
  refine ite_tt (test_last (thn (hc pins s3 σ H3 _ I3 q3) fun w' s4 ⟨z',H4,I4,r4,q4⟩=>thn (ho' pins s4 σ H4 y z' u w' _ I4 r2 r4 q4) fun d' s5 ⟨z2,H5,I5,r5,k2,e2,q5⟩=>?_))
  subst e2
  cases r5
  exact wpAny_truthy_bool ⟨H5,I5,q5⟩
def Km (K:W.Frag) (x:V) (H:Hp) (k:Bool):Prop :=
 match x with
 | .non=>k=false
 | .bl b=>k=b
 | .int i=>k=(i != 0)
 | .str y=>y.length<=sizeLine/\k=((y.length:Int) != 0)
 | .byt y=>y.size<=sizeLine/\k=((y.size:Int) != 0)
 | .ref p=>(∃ xs,SqL K H p xs/\k=!xs.isEmpty)\/(∃ xs,SqT K H p xs/\k=!xs.isEmpty)\/∃ kvs,H p=some (.dK kvs)/\k=!kvs.isEmpty
 | _=>False
theorem uy {κ:Type} {kvs:List (κ×V)} {vs:List (κ×Value)} (r:KV kvs vs):(!vs.isEmpty)=!kvs.isEmpty:=by
 cases r <;> rfl
theorem nP {xs:List V} {its:List Value} (r:bZ xs its):(!its.toArray.isEmpty)=!xs.isEmpty:=by
 cases r <;> simp
theorem qm:(sizeLine:Nat) < 2 ^ 63:=by rw [sizeLine_eq]; decide
theorem Dz:Ly X (fun x H Q=>∃ k,Km X.K x H k/\Q k H):=by
 intro pins s σ H x v Q I rx h
 obtain ⟨k,e,q⟩:=h
 have hl:=qm
 have hs:sizeLine=16777216:=sizeLine_eq
 cases x with
 | non =>
  cases rx
  have e':k=false:=e
  subst e'
  exact truthy_none ⟨H,I,q⟩
 | bl b =>
  cases rx
  have e':k=b:=e
  subst e'
  exact wpAny_truthy_bool ⟨H,I,q⟩
 | int i =>
  obtain ⟨t,rfl⟩:=rx
  have e':k=(i != 0):=e
  subst e'
  exact PySem.P.truthy_int ⟨H,I,q⟩
 | str y =>
  obtain ⟨t,rfl⟩:=rx
  obtain ⟨hy,e'⟩:y.length<=sizeLine/\k=((y.length:Int) != 0):=e
  subst e'
  exact PySem.P.truthy_str (by omega) ⟨H,I.tok _,q⟩
 | byt y =>
  obtain ⟨t,rfl⟩:=rx
  obtain ⟨hy,e'⟩:y.size<=sizeLine/\k=((y.size:Int) != 0):=e
  subst e'
  exact PySem.W.truthy_bytes (by omega) ⟨H,I.tok _,q⟩
 | ref p =>
  cases rx
  have e':(∃ xs,SqL X.K H p xs/\k=!xs.isEmpty)\/(∃ xs,SqT X.K H p xs/\k=!xs.isEmpty)\/∃ kvs,H p=some (.dK kvs)/\k=!kvs.isEmpty:=e
  rcases e' with ⟨xs,hx,e'⟩ | ⟨xs,hx,e'⟩ | ⟨kvs,hx,e'⟩
  ·subst e'
   obtain ⟨its,r,pl,hz⟩:=I.list hx
   have hlen:=r.length
   exact wpAny_truthy_list pl.isList (by simp only [List.size_toArray]; omega) ⟨H,I.tok _,by rw [nP r]; exact q⟩
  ·subst e'
   obtain ⟨its,r,pl,hz⟩:=I.tuple hx
   have hlen:=r.length
   exact truthy_tuple pl (by simp only [List.size_toArray]; omega) ⟨H,I.tok _,by rw [nP r]; exact q⟩
  ·subst e'
   obtain ⟨hz,hS,vs,r,m⟩:kvs.length<=sizeLine/\(p == sysModules)=false/\∃ vs,KV kvs vs/\s.heap.DictOf (bO X.prog X.w) p vs:=I.hok p _ hx
   have hlen:kvs.length=vs.length:=Paired.length r
   exact wpAny_truthy_dict hS m (by omega) ⟨H,I.tok _,by rw [uy r]; exact q⟩
 | _=>exact (show False from e).elim
theorem yO (ha:PE X a ta) (he:∀ whole,isTrue a X.env whole=(do let v <- whole; standAt a.pos; holding [v] (truthy v))) :
  PT X a (fun σ H Q=>ta σ H fun x H'=>∃ k,Km X.K x H' k/\Q k H'):=by
 intro pins s σ H Q I h
 exact isTrue_plain (thn (ha pins s σ H _ I h) fun v s1 ⟨x,H1,I1,r1,q1⟩=>Dz pins s1 σ H1 x v Q I1 r1 q1) (he _)
theorem uf:OpR X (binaryOp .Add) (fun x y H Q=>∃ i j,x=.str i/\y=.str j/\i.length+j.length<=sizeLine/\Q (.str (i++j)) H):=by
 intro pins s σ H x y v u Q I rx ry h
 obtain ⟨i,j,rfl,rfl,hz,q⟩:=h
 obtain ⟨t,rfl⟩:=rx
 obtain ⟨t',rfl⟩:=ry
 exact add_str (fun t' tk=>⟨.str (i++j),H,I.tok _,⟨_,rfl⟩,q⟩) hz
theorem vals1 {x:V} {us:List Value} (r:bZ [x] us):∃ u,us=[u]/\RelV x u:=by
 cases r with
 | cons r1 r2=>cases r2; exact ⟨_,rfl,r1⟩
theorem vals2 {x y:V} {us:List Value} (r:bZ [x,y] us):∃ u w',us=[u,w']/\RelV x u/\RelV y w':=by
 cases r with
 | cons r1 r2 =>
  cases r2 with
  | cons r3 r4=>cases r4; exact ⟨_,_,rfl,r1,r3⟩
def Lz (K:W.Frag) (x:V) (H:Hp) (n:Nat):Prop :=
 match x with
 | .str y=>y.length<=sizeLine/\n=y.length
 | .byt y=>y.size<=sizeLine/\n=y.size
 | .ref p=>(∃ xs,SqL K H p xs/\n=xs.length)\/∃ xs,SqT K H p xs/\n=xs.length
 | _=>False
theorem zY:gJ X (.builtin "len") (fun xs H Q=>∃ x n,xs=[x]/\Lz X.K x H n/\Q (.int n) H):=by
 intro pins s σ H xs us Q I r h
 obtain ⟨x,n,rfl,e,q⟩:=h
 obtain ⟨u,rfl,rx⟩:=vals1 r
 have hl:=qm
 have hs:sizeLine=16777216:=sizeLine_eq
 cases x with
 | str y =>
  obtain ⟨t,rfl⟩:=rx
  obtain ⟨hy,e'⟩:y.length<=sizeLine/\n=y.length:=e
  subst e'
  exact len_str (by omega) ⟨.int _,H,I.tok _,⟨_,rfl⟩,q⟩
 | byt y =>
  obtain ⟨t,rfl⟩:=rx
  obtain ⟨hy,e'⟩:y.size<=sizeLine/\n=y.size:=e
  subst e'
  exact PySem.W.len_bytes (by omega) ⟨.int _,H,I.tok _,⟨_,rfl⟩,q⟩
 | ref p =>
  cases rx
  have e':(∃ xs,SqL X.K H p xs/\n=xs.length)\/∃ xs,SqT X.K H p xs/\n=xs.length:=e
  rcases e' with ⟨xs,hx,e'⟩ | ⟨xs,hx,e'⟩
  ·subst e'
   obtain ⟨its,r',pl,hz⟩:=I.list hx
   have hlen:=r'.length
   exact Calls.call_len_list pl.isList (by simp only [List.size_toArray]; omega) ⟨.int xs.length,H,I.tok _,⟨_,by simp only [List.size_toArray]; rw [hlen]⟩,q⟩
  ·subst e'
   obtain ⟨its,r',pl,hz⟩:=I.tuple hx
   have hlen:=r'.length
   exact len_tuple pl (by simp only [List.size_toArray]; omega) ⟨.int xs.length,H,I.tok _,⟨_,by simp only [List.size_toArray]; rw [hlen]⟩,q⟩
 | _=>exact (show False from e).elim
end
end L2
namespace L2
open PySem PySem.Spec PyProof.Rows
structure Dl (h:Heap) (x dx C:Addr) (mA:Str->Option Value):Prop where
 obj:h.get? x=some (PySem.W.instObj C dx)
 ns:h.Ns1 dx mA
 ne:dx≠x
theorem wX {h:Heap} {dx:Addr} {mA:Str->Option Value} (n:h.Ns1 dx mA):∃ od,h.get? dx=some od/\∀ name,PySem.W.lookIn name od=some (mA name):=by
 obtain ⟨o,es,ep,ho,hd,hk,_,hm⟩:=n
 refine ⟨o,ho,fun name=>?_⟩
 have e:=hm name
 unfold nsFind findBy at e
 rw [<- Array.find?_toList] at e
 unfold PySem.W.lookIn
 rw [hd]
 dsimp only
 split
 ·rename_i y q
  rw [q] at e
  exact congrArg some e
 ·rename_i q
  rw [q] at e
  have a:es.toList.any (·.refKey)=false:=by
   rw [List.any_eq_false]
   intro y hy
   obtain ⟨z,t,hkey⟩:=hk y (Array.mem_toList_iff.mp hy)
   simp [DictEntry.refKey,hkey]
  have a':¬ es.toList.any (·.refKey)=true:=by rw [a]; exact Zf
  rw [if_neg a']
  exact congrArg some e
theorem Dl.look {h:Heap} {x dx C:Addr} {mA:Str->Option Value} (I:Dl h x dx C mA):∃ od,PySem.W.InstAt h x (PySem.W.instObj C dx) C (some od)/\∀ name,PySem.W.lookIn name od=some (mA name) :=
 let ⟨od,ho,hl⟩:=wX I.ns
 ⟨od,⟨I.obj,rfl,rfl,ho⟩,hl⟩
section
variable {prog:Program} {w:World} {A:Around} {E:Value->Shared->Prop} {s:Shared} {K:W.Frag} {x dx C f:Addr} {mA:Str->Option Value} {name:Str} {v:Value}
theorem get_map {expr:Bool} {Q:Value->Shared->Prop} (X:K.In s.heap) (I:Dl s.heap x dx C mA) (hg:PySem.W.plainGet K C name=true) (hh:PySem.W.hasDictIn K C=true)
  (ha:W.findIn K (.ref C) name=some none) (hv:mA name=some v) (hv':PySem.W.handedIn v=true) (h:Q v { s with toks:=s.toks+1 }) :
  wpAny (model prog w) A (getAttr (.ref x) name expr) Q E s:=by
 obtain ⟨od,J,hl⟩:=I.look
 exact PySem.W.get_value X J (PySem.W.plainGet_of hg).1 (PySem.W.findObj_own hh ha rfl (by rw [hl,hv])) hv' h
theorem zP {pl:Sem Bool} {Q:Value×List Value->Shared->Prop} (X:K.In s.heap) (I:Dl s.heap x dx C mA) (hg:PySem.W.plainGet K C name=true)
  (hf:W.findIn K (.ref C) name=some (some (.ref f))) (ht:PySem.W.isFn K (.ref f)=true) (hv:mA name=none) (h:Q (.ref f,[.ref x]) s) :
  wpAny (model prog w) A (getMethod (.ref x) name pl) Q E s:=by
 obtain ⟨od,J,hl⟩:=I.look
 exact PySem.W.method_fn X J (PySem.W.plainGet_of hg).1 (PySem.W.plainGet_of hg).2 hf (beq_iff_eq.mp ht) (by show (PySem.W.lookIn name od).map (·.isSome)=some false; rw [hl,hv]; rfl) h
theorem Bg {ns:List Str} {Q:Unit->Shared->Prop} (X:K.In s.heap) (I:Dl s.heap x dx C mA)
  (hs:W.findIn K (.ref C) "__setattr__"=some (some (.builtin "object.__setattr__"))) (hp:PySem.W.plainOver K C=true) (ht:PySem.W.takerIn K C name=some none) (hh:PySem.W.hasDictIn K C=true)
  (hw:PySem.Within mA ns) (hsz:ns.length<=sizeLine)
  (h:∀ h',Dl h' x dx C (fun y=>if y=name then some v else mA y)->Heap.SameBut dx s.heap h'->Q () { s with heap:=h',toks:=s.toks+2 }) :
  wpAny (model prog w) A (setAttr (.ref x) name v) Q E s:=by
 obtain ⟨od,J,hl⟩:=I.look
 refine PySem.W.set_plain X J hs (PySem.W.osa_open (s:={ s with toks:=s.toks+1 }) (r:=none) X J hp ht fun b=>?_)
 obtain ⟨cd,hc,hd'⟩:=PySem.W.any_some hh
 have hx:s.heap.get? x=some ⟨.ref C,some dx,.plain,#[]⟩:=I.obj
 refine wpAny_bind (wpAny_pure (wpAny_bind (wpAny_bind (wpAny_loadPart hx (wpAny_bind (PySem.W.Looks.here (s:={ s with toks:=s.toks+1 }) (PySem.W.looks_clsIn X hc) ?_))))))
 rw [hd']
 refine wpAny_pure (a:=some dx) (wpAny_bind (wpAny_pure (wpAny_bind ?_)))
 refine wpAny_nsSet1 (s:={ s with toks:=s.toks+1 }) I.ns fun h' hn2 hs2=>?_
 obtain ⟨oD,esD,epD,hoD,hdD,hcD⟩:=hn2.count (PySem.Within.cons name v hw)
 refine wpAny_bind (wpAny_lookBehind hoD (by rw [hdD]; exact pastItsLine_dict (Nat.le_trans hcD (by rw [List.length_cons]; omega))) ?_)
 exact wpAny_pure (h _ ⟨(hs2.2 _ (Ne.symm I.ne)).trans I.obj,hn2,I.ne⟩ hs2)
theorem zF {R:Result->Shared->Prop} {vs:List Value} {kw:List (Str×Value)} (X:K.In s.heap) (hm:PySem.W.makesIn K C=true)
  (hi:W.findIn K (.ref C) "__init__"=some (some (.ref f))) (hf:PySem.W.typeIn K (.ref f)=some (.type "function"))
  (h : codeAny (model prog w) (A.under (.builtin "type.__call__" ⟨.ref C::vs,kw⟩)) (.call (.ref f) ⟨.ref (s.heap.objs.size+1)::vs,kw⟩) (PySem.W.InitBack (s.heap.objs.size+1) R)
    { s with heap:=(s.heap.push PySem.W.emptyDict).push (PySem.W.instObj C s.heap.objs.size) }) :
  codeAny (model prog w) A (.call (.ref C) ⟨vs,kw⟩) R s:=by
 obtain ⟨hh,g,d,t,os⟩:=s
 exact PySem.W.make_core (PySem.W.makes_of X hm) (PySem.W.looks_findIn X hi) (fun self=>PySem.W.bind_fn X self hf) (.inl rfl) h
end
def nC (f:Str) (v:V):List (Str×V)->List (Str×V)
 | []=>[(f,v)]
 | (g,x)::r=>if g=f then (g,v)::r else (g,x)::nC f v r
theorem mw (f g:Str) (v:V):∀ fs:List (Str×V),(nC f v fs).lookup g=if g=f then some v else fs.lookup g
 | []=>by
  show List.lookup g [(f,v)]=_
  by_cases h:g=f
  ·have hb:(g == f)=true:=beq_iff_eq.mpr h
   simp only [List.lookup,hb,if_pos h]
  ·have hb:(g == f)=false:=beq_eq_false_iff_ne.mpr h
   simp only [List.lookup,hb,if_neg h]
 | (k,x)::r=>by
  have ih:=mw f g v r
  rw [show nC f v ((k,x)::r)=(if k=f then (k,v)::r else (k,x)::nC f v r) from rfl]
  by_cases hk:k=f
  ·rw [if_pos hk]
   by_cases h:g=k
   ·have hb:(g == k)=true:=beq_iff_eq.mpr h
    simp only [List.lookup,hb,if_pos (h.trans hk)]
   ·have hb:(g == k)=false:=beq_eq_false_iff_ne.mpr h
    simp only [List.lookup,hb,if_neg (fun e:g=f=>h (e.trans hk.symm))]
  ·rw [if_neg hk]
   by_cases h:g=k
   ·have hb:(g == k)=true:=beq_iff_eq.mpr h
    simp only [List.lookup,hb,if_neg (fun e:g=f=>hk (h.symm.trans e))]
   ·have hb:(g == k)=false:=beq_eq_false_iff_ne.mpr h
    simp only [List.lookup,hb]
    exact ih
theorem mB (f:Str) (v:V):∀ fs:List (Str×V),f ∈ (nC f v fs).map (·.1)/\∀ g,g ∈ fs.map (·.1)->g ∈ (nC f v fs).map (·.1)
 | []=>⟨by simp [nC],fun g h=>by simp at h⟩
 | (k,x)::r=>by
  obtain ⟨i1,i2⟩:=mB f v r
  rw [show nC f v ((k,x)::r)=(if k=f then (k,v)::r else (k,x)::nC f v r) from rfl]
  by_cases hk:k=f
  ·rw [if_pos hk]
   subst hk
   exact ⟨by simp,fun g h=>by simpa using h⟩
  ·rw [if_neg hk]
   refine ⟨?_,fun g h=>?_⟩
   ·rw [List.map_cons]
    exact List.mem_cons_of_mem _ i1
   ·rw [List.map_cons] at h ⊢
    rcases List.mem_cons.mp h with e | e
    · exact List.mem_cons.mpr (.inl e)
    · exact List.mem_cons_of_mem _ (i2 g e)
theorem mx (f:Str) (v:V):∀ fs:List (Str×V),(nC f v fs).length<=fs.length+1
 | []=>by simp [nC]
 | (k,x)::r=>by
  have ih:=mx f v r
  rw [show nC f v ((k,x)::r)=(if k=f then (k,v)::r else (k,x)::nC f v r) from rfl]
  by_cases hk:k=f
  · rw [if_pos hk,List.length_cons,List.length_cons]; omega
  · rw [if_neg hk,List.length_cons,List.length_cons]; omega
theorem rg.some_of {v:V} {o:Option Value} (r:rg (some v) o):∃ u,o=some u/\RelV v u:=by
 cases o with
 | none=>exact (show False from r).elim
 | some u=>exact ⟨u,rfl,r⟩
theorem rg.none_of {o:Option Value} (r:rg none o):o=none:=by
 cases o with
 | none=>rfl
 | some u=>exact (show False from r).elim
theorem xv {v:V} {u:Value} (r:RelV v u):PySem.W.handedIn u=true:=by
 cases v with
 | non=>cases (show u=Value.none from r); rfl
 | bl b=>cases (show u=Value.bool b from r); rfl
 | int i=>obtain ⟨t,e⟩:=(show ∃ t,u=Value.int i t from r); cases e; rfl
 | str x=>obtain ⟨t,e⟩:=(show ∃ t,u=Value.str x t from r); cases e; rfl
 | byt b=>obtain ⟨t,e⟩:=(show ∃ t,u=Value.bytes b t from r); cases e; rfl
 | flt b=>obtain ⟨t,e⟩:=(show ∃ t,u=Value.float b t from r); cases e; rfl
 | ref a=>cases (show u=Value.ref a from r); rfl
 | ty n=>cases (show u=Value.type n from r); rfl
section
variable {P:Program} {w:World} {H H':Hp} {h h':Heap} {a C dx:Addr} {fs fs':List (Str×V)}
theorem oZ (hok:HOk P w H h) (e:H a=some (.ins C dx fs)):∃ mA,Dl h a dx C mA/\(∀ f,rg (fs.lookup f) (mA f))/\PySem.Within mA (fs.map (·.1))/\fs.length<=1000/\H dx=some (.own a):=by
 obtain ⟨d,z,ne,ob,mA,n,r,q⟩:=(show dA P w H h a (.ins C dx fs) from hok a _ e)
 exact ⟨mA,⟨ob,n,ne⟩,r,q,z,d⟩
end
structure Cls (K:W.Frag) (C:Addr):Prop where
 pg:PySem.W.plainGet K C Str.empty=true
 hd:PySem.W.hasDictIn K C=true
 po:PySem.W.plainOver K C=true
 sa:W.findIn K (.ref C) "__setattr__"=some (some (.builtin "object.__setattr__"))
theorem Cls.get {K:W.Frag} {C:Addr} (c:Cls K C) (f:Str):PySem.W.plainGet K C f=true:=c.pg
def dB (K:W.Frag) (C:Addr) (f:Str):Prop:=W.findIn K (.ref C) f=some none
theorem dB.Hu {K:W.Frag} {C:Addr} {f:Str} (n:dB K C f):PySem.W.takerIn K C f=some none:=by
 unfold PySem.W.takerIn
 rw [show W.findIn K (.ref C) f=some none from n]
 rfl
structure rl (K:W.Frag) (C:Addr) (m:Str) (f:Addr):Prop where
 at_:W.findIn K (.ref C) m=some (some (.ref f))
 fn:PySem.W.isFn K (.ref f)=true
 kp:W.keepIn K (.ref f)=true
section
variable {X:Cx} {pins:List (Addr×Obj)} {σ:St} {H:Hp} {s:Shared} {a C dx:Addr} {fs:List (Str×V)} {f:Str} {v:V} {A:Around} {E:Value->Shared->Prop}
theorem uA {b:Bool} {Q:Value->Shared->Prop} (I:Inv X pins σ H s) (e:H a=some (.ins C dx fs)) (c:Cls X.K C) (n:dB X.K C f) (l:fs.lookup f=some v)
  (h:∀ u s',Inv X pins σ H s'->RelV v u->Q u s'):wpAny (model X.prog X.w) A (getAttr (.ref a) f b) Q E s:=by
 obtain ⟨mA,O,r,_,_,_⟩:=oZ I.hok e
 obtain ⟨u,hu,ru⟩:=rg.some_of (v:=v) (o:=mA f) (by rw [<- l]; exact r f)
 exact get_map I.kIn O (c.get f) c.hd n hu (xv ru) (h u _ (I.tok _) ru)
theorem uz {m:Str} {g:Addr} {pl:Sem Bool} {Q:Value×List Value->Shared->Prop} (I:Inv X pins σ H s) (e:H a=some (.ins C dx fs)) (c:Cls X.K C) (k:rl X.K C m g) (l:fs.lookup m=none)
  (h:Q (.ref g,[.ref a]) s):wpAny (model X.prog X.w) A (getMethod (.ref a) m pl) Q E s:=by
 obtain ⟨mA,O,r,_,_,_⟩:=oZ I.hok e
 have hn:mA m=none:=rg.none_of (by rw [<- l]; exact r m)
 exact zP I.kIn O (c.get m) k.at_ k.fn hn h
theorem t7 {y:V} {u:Value} {Q:Unit->Shared->Prop} (I:Inv X pins σ H s) (e:H a=some (.ins C dx fs)) (c:Cls X.K C) (n:dB X.K C f) (hl:fs.length < 1000) (ry:RelV y u)
  (h:∀ s',Inv X pins σ (upd H a (.ins C dx (nC f y fs))) s'->Q () s'):wpAny (model X.prog X.w) A (setAttr (.ref a) f u) Q E s:=by
 obtain ⟨mA,O,r,wi,_,ho⟩:=oZ I.hok e
 have hz:(fs.map (·.1)).length<=sizeLine:=by rw [List.length_map,sizeLine_eq]; omega
 refine Bg I.kIn O c.sa c.po n.Hu c.hd wi hz fun h' O' sb=>h _ ?_
 have hd:∃ o,h'.get? dx=some o:=let ⟨o,_,_,e',_⟩:=O'.ns; ⟨o,e'⟩
 refine I.write (x:=a) (e:=dx) (by rw [e]; exact True.intro) (.inr ho) (fun b q hb z=>(sb.2 b hb).trans z) hd ?_
 refine ⟨by rw [ak O.ne]; exact ho,?_,O.ne,O'.obj,_,O'.ns,fun g=>?_,fun g hg=>?_⟩
 · have:=mx f y fs; omega
 ·show rg ((nC f y fs).lookup g) (if g=f then some u else mA g)
  rw [mw]
  by_cases q:g=f
  · rw [if_pos q,if_pos q]; exact ry
  · rw [if_neg q,if_neg q]; exact r g
 ·by_cases q:g=f
  · rw [q]; exact (mB f y fs).1
  ·refine (mB f y fs).2 g (wi g fun z=>hg ?_)
   show (if g=f then some u else mA g)=none
   rw [if_neg q]; exact z
theorem Inv.made (I:Inv X pins σ H s):Inv X pins σ (upd (upd H s.heap.objs.size (.own (s.heap.objs.size+1))) (s.heap.objs.size+1) (.ins C s.heap.objs.size []))
  { s with heap:=(s.heap.push PySem.W.emptyDict).push (PySem.W.instObj C s.heap.objs.size) }:=by
 have e1:(s.heap.push PySem.W.emptyDict).get? s.heap.objs.size=some PySem.W.emptyDict:=Heap.get?_push_size s.heap rfl
 have e2:((s.heap.push PySem.W.emptyDict).push (PySem.W.instObj C s.heap.objs.size)).get? (s.heap.objs.size+1)=some (PySem.W.instObj C s.heap.objs.size):=by
  have:=Heap.get?_push_size (s.heap.push PySem.W.emptyDict) (o:=PySem.W.instObj C s.heap.objs.size) rfl
  rwa [Heap.size_push] at this
 have e3:(s.heap.push PySem.W.emptyDict).Ns s.heap.objs.size (fun _=>none):=⟨PySem.W.emptyDict,#[],_,e1,rfl,(fun e he=>absurd he (by simp)),fun _=>rfl⟩
 have I1:=I.laid (a:=s.heap.objs.size) (o:=.own (s.heap.objs.size+1)) (h':=s.heap.push PySem.W.emptyDict) (t':=s.toks) (fun b u q=>Heap.get?_push_of_some _ q) (Nat.le_refl _) ⟨_,e1⟩
 refine I1.laid (a:=s.heap.objs.size+1) (o:=.ins C s.heap.objs.size []) (t':=s.toks) (fun b u q=>Heap.get?_push_of_some _ q) (Nat.le_of_eq (Heap.size_push _ _)) ?_
 have ne:s.heap.objs.size≠s.heap.objs.size+1:=Nat.ne_of_lt (Nat.lt_succ_self _)
 refine ⟨by rw [ak ne,au],Nat.zero_le _,ne,e2,fun _=>none,(Heap.Ns1.of_empty e3).at fun o q=>Heap.get?_push_of_some _ q,fun _=>True.intro,fun y hy=>absurd rfl hy⟩
theorem Dj {prog:Program} {w:World} {env:Env} {e:Expr} {f:Str} {pos:Pos} {s:Shared} {Q:Value->Shared->Prop} (hb:attributeBase e f env (eval e env)=eval e env)
  (h:wpAny (model prog w) A (eval e env) (fun o s₁=>wpAny (model prog w) A (getAttr o f true) Q E s₁) E s):wpAny (model prog w) A (eval (.Attribute e f pos) env) Q E s :=
 Attribute_any_ h (by rw [arm_eval_Attribute,hb])
end
def Kr (K:W.Frag) (ta:TE) (f:Str):TE:=fun σ H Q=>ta σ H fun x H1=>∃ a C dx fs v,x=.ref a/\H1 a=some (.ins C dx fs)/\Cls K C/\dB K C f/\fs.lookup f=some v/\Q v H1
def KC (K:W.Frag) (ta tv:TE) (f:Str):TS:=fun D σ H=>tv σ H fun y H1=>ta σ H1 fun x H2=>∃ a C dx fs,x=.ref a/\H2 a=some (.ins C dx fs)/\Cls K C/\dB K C f/\fs.length < 1000 /\
 D.nx σ (upd H2 a (.ins C dx (nC f y fs)))
section
variable {X:Cx} {o e value:Expr} {f:Str} {pos pos' tpos:Pos} {ta tv:TE}
theorem As (he:PE X e ta) (hb:attributeBase e f X.env (eval e X.env)=eval e X.env):PE X (.Attribute e f pos) (Kr X.K ta f):=by
 intro pins s σ H Q I h
 refine Dj hb (thn (he pins s σ H _ I h) fun u s1 ⟨x,H1,I1,rx,a,C,dx,fs,v,ex,ea,c,n,l,q⟩=>?_)
 subst ex
 obtain rfl:u=Value.ref a:=rx
 exact uA I1 ea c n l fun u' s2 I2 ru=>⟨v,H1,I2,ru,q⟩
theorem Ec (ha:PE X o ta) (hv:PE X value tv) (hs:swapsWith value (some (.Attribute o f pos')) pos.line X.env=pure false):PS X (.Assign [.Attribute o f pos'] value pos) (KC X.K ta tv f):=by
 intro pins s σ H D I h
 refine plainObj_wpAny_Assign_Attribute (thn (hv pins s σ H _ I h) fun u s1 ⟨y,H1,I1,ry,q⟩=>thn (ha pins s1 σ H1 _ I1 q) fun ov s2 ⟨x,H2,I2,rx,a,C,dx,fs,ex,ea,c,n,l,q2⟩=>?_) hs
 subst ex
 obtain rfl:ov=Value.ref a:=rx
 exact t7 I2 ea c n l ry fun s3 I3=>⟨σ,_,I3,q2⟩
end
section
variable {X:Cx} {pins:List (Addr×Obj)} {σ:St} {H:Hp} {s:Shared} {A:Around} {E:Value->Shared->Prop} {Q:Value->Shared->Prop} {c:Value} {b:Bool}
inductive uS (K:W.Frag) (H:Hp):V->Value->Prop where
 | non:uS K H .non (.type "NoneType")
 | bl (x:Bool):uS K H (.bl x) (.type "bool")
 | int (i:Int):uS K H (.int i) (.type "int")
 | str (x:Str):uS K H (.str x) (.type "str")
 | flt (x:UInt64):uS K H (.flt x) (.type "float")
 | lst {a:Addr} {xs:List V} (e:H a=some (.lst xs)):uS K H (.ref a) (.type "list")
 | frz {a:Addr} {o:Obj} {xs:List V} (e:H a=some (.frz o (.lst xs))):uS K H (.ref a) (.type "list")
 | tup {a:Addr} {xs:List V} (e:H a=some (.tup xs)):uS K H (.ref a) (.type "tuple")
 | dK {a:Addr} {kvs:List (Key×V)} (e:H a=some (.dK kvs)):uS K H (.ref a) (.type "dict")
 | dT {a:Addr} {kvs:List (List Key×V)} (e:H a=some (.dT kvs)):uS K H (.ref a) (.type "dict")
 | ins {a C dx:Addr} {fs:List (Str×V)} (e:H a=some (.ins C dx fs)) (cl:Cls K C) (ha:W.findIn K (.ref C) "__class__"=some (some (.builtin "object.__class__")))
  (hn:PySem.W.specialIn K (.builtin "object.__class__") "__get__"=some (some (.builtin "getset_descriptor.__get__"))) (htk:PySem.W.takesIn K (.builtin "object.__class__")=some true)
  (hm:PySem.W.mroIn K C (.type "object")=some true):uS K H (.ref a) (.ref C)
theorem xn {x:V} {u t:Value} (I:Inv X pins σ H s) (rx:RelV x u) (ty:uS X.K H x t) (e:PySem.W.kitOne X.K t c=some b) (h:∀ tk,Q (.bool b) { s with toks:=tk }) :
  wpAny (model X.prog X.w) A (call (.builtin "isinstance") [u,c]) Q E s:=by
 cases ty with
 | non=>cases (show u=Value.none from rx); exact PySem.W.kia_one PySem.W.kitx_none I.kIn True.intro e (fun z=>nomatch z) h
 | bl y=>cases (show u=Value.bool y from rx); exact PySem.W.kia_one PySem.W.kitx_bool I.kIn True.intro e (fun z=>nomatch z) h
 | int i=>obtain ⟨t,q⟩:=(show ∃ t,u=Value.int i t from rx); cases q; exact PySem.W.kia_one PySem.W.kitx_int I.kIn True.intro e (fun z=>nomatch z) h
 | str y=>obtain ⟨t,q⟩:=(show ∃ t,u=Value.str y t from rx); cases q; exact PySem.W.kia_one PySem.W.kitx_str I.kIn True.intro e (fun z=>nomatch z) h
 | flt y=>obtain ⟨t,q⟩:=(show ∃ t,u=Value.float y t from rx); cases q; exact PySem.W.kia_one PySem.W.kitx_float I.kIn True.intro e (fun z=>nomatch z) h
 | @lst a xs ea =>
  cases (show u=Value.ref a from rx)
  obtain ⟨_,_,n,_,h1⟩:=(show dA X.prog X.w H s.heap a (.lst xs) from I.hok a _ ea)
  exact PySem.W.kia_one PySem.W.kitx_list I.kIn ⟨_,h1,rfl⟩ e (fun z=>nomatch z) h
 | @frz a ob xs ea =>
  cases (show u=Value.ref a from rx)
  obtain ⟨_,_,_,n,_,h1⟩:=(show dA X.prog X.w H s.heap a (.frz ob (.lst xs)) from I.hok a _ ea)
  exact PySem.W.kia_one PySem.W.kitx_list I.kIn ⟨_,h1,rfl⟩ e (fun z=>nomatch z) h
 | @tup a xs ea =>
  cases (show u=Value.ref a from rx)
  obtain ⟨_,_,_,p⟩:=(show dA X.prog X.w H s.heap a (.tup xs) from I.hok a _ ea)
  obtain ⟨o,h1,h2,_⟩:=p
  exact PySem.W.kia_one PySem.W.kitx_tuple I.kIn ⟨o,h1,h2⟩ e (fun z=>nomatch z) h
 | @dK a kvs ea =>
  cases (show u=Value.ref a from rx)
  obtain ⟨_,_,vs,_,p⟩:=(show dA X.prog X.w H s.heap a (.dK kvs) from I.hok a _ ea)
  obtain ⟨o,es,ep,h1,h2,_⟩:=p
  exact PySem.W.kia_one PySem.W.kitx_dict I.kIn ⟨o,h1,h2.1⟩ e (fun z=>nomatch z) h
 | @dT a kvs ea =>
  cases (show u=Value.ref a from rx)
  obtain ⟨_,_,xs,_,o,es,ep,h1,h2,_⟩:=(show dA X.prog X.w H s.heap a (.dT kvs) from I.hok a _ ea)
  exact PySem.W.kia_one PySem.W.kitx_dict I.kIn ⟨o,h1,h2.1⟩ e (fun z=>nomatch z) h
 | @ins a C dx fs ea cl ha hn htk hm =>
  cases (show u=Value.ref a from rx)
  obtain ⟨mA,O,_⟩:=oZ I.hok ea
  obtain ⟨od,J,_⟩:=O.look
  exact PySem.W.kia_one (PySem.W.kitx_own (cl.get _) cl.hd ha hn htk hm) I.kIn J e (fun z=>nomatch z) h
end
end L2
namespace L2
open PySem PySem.Spec PyProof.Rows
structure fo (k:Nat) (A:Around):Prop where
 hd:A.handled=none
 dp:A.depth+3 * k+5 < recursionLimit
 un:A.units+16 * k+200 < cLine
theorem fo.mono {j k:Nat} {A:Around} (r:fo k A) (h:j<=k):fo j A:=⟨r.hd,by have:=r.dp; omega,by have:=r.un; omega⟩
theorem fo.deeper {k:Nat} {A:Around} (r:fo (k+1) A) (env:Env):fo k (A.deeper env) :=
 ⟨r.hd,by have:=r.dp; show A.depth+1+3 * k+5 < _; omega,by have:=r.un; show A.units+3+16 * k+200 < _; omega⟩
theorem uo {A:Around} {C:Addr} {us:List Value} {kw:List (Str×Value)}:(A.under (.builtin "type.__call__" ⟨.ref C::us,kw⟩)).depth=A.depth+1:=by
 first | rfl | simp [Around.under,Code.weight,Code.isCreation,Code.isGuard,Code.isCaller,Code.frames,Code.isFrame,guardIds]
theorem um {A:Around} {C:Addr} {us:List Value} {kw:List (Str×Value)}:(A.under (.builtin "type.__call__" ⟨.ref C::us,kw⟩)).units=A.units+1:=by
 first | rfl | simp [Around.under,Code.cUnits,Code.frames,Code.isFrame]
theorem fo.make {k:Nat} {A:Around} (r:fo (k+1) A) (C:Addr) (us:List Value) (kw:List (Str×Value)):fo k (A.under (.builtin "type.__call__" ⟨.ref C::us,kw⟩)) :=
 ⟨r.hd,by have:=r.dp; rw [uo]; omega,by have:=r.un; rw [um]; omega⟩
theorem fo.depth {k:Nat} {A:Around} (r:fo k A):A.depth < recursionLimit:=by have:=r.dp; omega
theorem fo.units {k:Nat} {A:Around} (r:fo k A):A.units+64 < cLine:=by have:=r.un; omega
def Ga:TA:=fun _ H Q=>Q [] H
def t6 (ta:TE) (tr:TA):TA:=fun σ H Q=>ta σ H fun x H1=>tr σ H1 fun xs H2=>Q (x::xs) H2
section
variable {X:Cx} {e:Expr} {es:List Expr} {te:TE} {t:TA} {pos:Pos}
theorem gE:PA X [] Ga:=fun _ _ _ _ H Q I h=>Calls.spliced_nil ⟨[],H,I,.nil,h⟩
theorem dm (ha:PE X e te) (hr:PA X es t) (hs:starEach (e::es) X.env=(false,eval e X.env)::starEach es X.env:=by rfl):PA X (e::es) (t6 te t):=by
 intro pos pins s σ H Q I h
 rw [hs]
 show wpAny _ _ (spliced ((false,eval e X.env)::backTo pos (starEach es X.env))) _ _ s
 refine Calls.spliced_cons (thn (ha pins s σ H _ I h) fun u s1 ⟨x,H1,I1,r1,q1⟩=>?_)
 exact thn (hr pos pins s1 σ H1 _ I1 q1) fun us s2 ⟨xs,H2,I2,r2,q2⟩=>⟨x::xs,H2,I2,.cons r1 r2,q2⟩
def Ko (t:TA):TE:=fun σ H Q=>t σ H fun xs H1=>xs.length<=sizeLine/\∀ p,H1 p=none->Q (.ref p) (upd H1 p (.tup xs))
def Kq (t:TA):TE:=fun σ H Q=>t σ H fun xs H1=>xs.length<=sizeLine/\∀ p,H1 p=none->Q (.ref p) (upd H1 p (.lst xs))
theorem Ar {x1} (h:PA X es t):PE X (.Tuple es x1 pos) (Ko t):=by
 intro pins s σ H Q I hq
 refine wpAny_Tuple_spliced (thn (h pos pins s σ H _ I hq) fun us s1 ⟨xs,H1,I1,r,z,q⟩=>⟨by rw [<- r.length]; exact z,?_⟩)
 have hf:H1 s1.heap.objs.size=none:=I1.hok.fresh (Nat.le_refl _)
 refine ⟨.ref s1.heap.objs.size,upd H1 s1.heap.objs.size (.tup xs),I1.laid (t':=s1.toks) (fun b u e=>Heap.get?_push_of_some _ e) (Nat.le_refl _) ?_,rfl,q _ hf⟩
 exact ⟨z,us,r,⟨_,Heap.get?_push_size _ rfl,rfl,_,rfl⟩⟩
theorem Em (h:PA X es t):PE X (.List es pos) (Kq t):=by
 intro pins s σ H Q I hq
 refine wpAny_List_spliced (thn (h pos pins s σ H _ I hq) fun us s1 ⟨xs,H1,I1,r,z,q⟩=>⟨by rw [<- r.length]; exact z,?_⟩)
 have hf:H1 s1.heap.objs.size=none:=I1.hok.fresh (Nat.le_refl _)
 refine ⟨.ref s1.heap.objs.size,upd H1 s1.heap.objs.size (.lst xs),I1.laid (t':=s1.toks) (fun b u e=>Heap.get?_push_of_some _ e) (Nat.le_refl _) ?_,rfl,q _ hf⟩
 exact ⟨z,us,0,r,Heap.get?_push_size _ rfl⟩
end
abbrev Sp:=List V->Hp->VK->XK->Prop
abbrev CXT:=List Env->Hp->Shared->XK->Value->Shared->Prop
structure Dm (P:Program) (w:World) (K:W.Frag) (mg:Str->Option Value) (base:Heap) (A:Around) (outer:List Env) (s:Shared) (H:Hp):Prop where
 frames:A.frames=some outer
 mod:Mod K mg base
 bs:∀ b o,base.get? b=some o->s.heap.get? b=some o/\H b=none
 bsz:base.objs.size<=s.heap.objs.size
 uY:s.heap.FunFrames base outer
 frf:∀ b ∈ frs outer,H b=none
 hok:HOk P w H s.heap
 bare:AllBare s.gens
def CE (outer:List Env) (P:Program) (w:World) (H:Hp) (s:Shared) (Q:VK) (u:Value) (s':Shared):Prop :=
 ∃ v H',s'.os=s.os/\AllBare s'.gens/\Un (frs outer) [] H H' s.heap s'.heap/\HOk P w H' s'.heap/\RelV v u/\Q v H'
def CR (CX:CXT) (outer:List Env) (P:Program) (w:World) (H:Hp) (s:Shared) (Q:VK) (E:XK) (r:Result) (s':Shared):Prop :=
 match r with
 | .ok (.ret u)=>CE outer P w H s Q u s'
 | .ok _=>False
 | .error e=>CX outer H s E e s'
structure dg (P:Program) (w:World) (K:W.Frag) (mg:Str->Option Value) (base:Heap) (CX:CXT) (k:Nat) (f:Addr) (fd:FuncData) (ps:List Str) (sp:Sp):Prop where
 len:∀ vs H Q E,sp vs H Q E->vs.length=ps.length
 run:∀ (A:Around) (outer:List Env) (s:Shared) (H:Hp) (args:Args) (us:List Value) (vs:List V) (Q:VK) (E:XK),fo k A->Dm P w K mg base A outer s H->BindsTo s fd args (ps.zip us)->bZ vs us->sp vs H Q E ->
  codeAny (model P w) A (.call (.ref f) args) (CR CX outer P w H s Q E) s
theorem dg.imp {P:Program} {w:World} {K:W.Frag} {mg:Str->Option Value} {base:Heap} {CX:CXT} {k:Nat} {f:Addr} {fd:FuncData} {ps:List Str} {sp sp':Sp} (F:dg P w K mg base CX k f fd ps sp)
  (h:∀ vs H Q E,sp' vs H Q E->sp vs H Q E):dg P w K mg base CX k f fd ps sp' :=
 ⟨fun vs H Q E q=>F.len vs H Q E (h _ _ _ _ q),fun A outer s H args us vs Q E hr he hb hv hs=>F.run A outer s H args us vs Q E hr he hb hv (h _ _ _ _ hs)⟩
theorem Dm.make {P:Program} {w:World} {K:W.Frag} {mg:Str->Option Value} {base:Heap} {A:Around} {outer:List Env} {s:Shared} {H:Hp} (e:Dm P w K mg base A outer s H) (C:Addr) (us:List Value) (kw:List (Str×Value)) :
 Dm P w K mg base (A.under (.builtin "type.__call__" ⟨.ref C::us,kw⟩)) outer s H:=⟨by first | exact e.frames | (simpa [Around.under,Code.envs,Code.isFrame,pushEnvs] using e.frames),e.mod,e.bs,e.bsz,e.uY,e.frf,e.hok,e.bare⟩
section
variable {X:Cx} {pins:List (Addr×Obj)} {σ:St} {H:Hp} {s s':Shared}
theorem Inv.Kj (I:Inv X pins σ H s):Dm X.prog X.w X.K X.mg X.base X.A X.stack s H :=
 ⟨I.ok.frames,I.ok.mod,I.bs,Nat.le_trans I.ok.bsz I.sz,I.stack,I.vp,I.hok,I.bare⟩
theorem Inv.after {Q:VK} {u:Value} (I:Inv X pins σ H s) (h:CE X.stack X.prog X.w H s Q u s'):EP X pins σ Q u s':=by
 obtain ⟨v,H',os,bare,un,hok,r,q⟩:=h
 obtain ⟨hh,g,d,t,os'⟩:=s'
 obtain rfl:os'=s.os:=os
 exact ⟨v,H',I.call (h':=hh) (g':=g) (d':=d) (t':=t) (ch:=[]) un hok bare (fun b z=>absurd z (by simp)),r,q⟩
end
def yB (sp:Sp) (dvs:List V) (E:XK) (t:TA):TE:=fun σ H Q=>t σ H fun vs H1=>sp (vs++dvs) H1 Q E
def A5 (C:Addr) (m:Str) (sp:Sp) (dvs:List V) (E:XK) (ta:TE) (t:TA):TE:=fun σ H Q=>ta σ H fun x H1=>∃ a dx fs,x=.ref a/\H1 a=some (.ins C dx fs)/\fs.lookup m=none /\
 t σ H1 fun vs H2=>sp (x::(vs++dvs)) H2 Q E
def Hz (C:Addr) (sp:Sp) (dvs:List V) (E:XK) (t:TA):TE:=fun σ H Q=>t σ H fun vs H1=>∀ x dx,H1 x=none->H1 dx=none->dx≠x ->
 sp (.ref x::(vs++dvs)) (upd (upd H1 dx (.own x)) x (.ins C dx [])) (fun v H2=>v=.non/\Q (.ref x) H2) E
def Binds (K:W.Frag) (fd:FuncData) (ps:List Str) (ds:List Value):Prop :=
 ∀ (s:Shared) (us:List Value),K.In s.heap->(us++ds).length=ps.length->BindsTo s fd ⟨us,[]⟩ (ps.zip (us++ds))
theorem Binds.all {K:W.Frag} {fd:FuncData} {ps:List Str} (h:∀ us:List Value,us.length=ps.length->bindArgs fd ⟨us,[]⟩=pure (ps.zip us)):Binds K fd ps []:=fun s us _ hl=>by
 rw [List.append_nil] at hl ⊢
 exact .of_eq (h us hl)
def nZ (CX:CXT) (X:Cx) (E:XK):Prop:=∀ (pins:List (Addr×Obj)) (σ:St) (H:Hp) (s:Shared) (e:Value) (s':Shared),Inv X pins σ H s->CX X.stack H s E e s'->X.xe e s'
section
variable {X:Cx} {CX:CXT} {k:Nat} {f C:Addr} {fd:FuncData} {ps:List Str} {sp:Sp} {dvs:List V} {ds:List Value} {E:XK} {x m:Str} {p pos apos:Pos} {e o:Expr} {es:List Expr} {ta:TE} {t:TA}
theorem Ak {pins:List (Addr×Obj)} {σ:St} {H:Hp} {s:Shared} {Q:VK} {us:List Value} {vs:List V} (F:dg X.prog X.w X.K X.mg X.base CX k f fd ps sp) (hr:fo k X.A) (hb:Binds X.K fd ps ds) (hd:bZ dvs ds) (hx:nZ CX X E)
  (I:Inv X pins σ H s) (r:bZ vs us) (h:sp (vs++dvs) H Q E):wpAny (model X.prog X.w) X.A (call (.ref f) us) (EP X pins σ Q) X.xe s:=by
 have r2:bZ (vs++dvs) (us++ds):=r.append hd
 have hl:(us++ds).length=ps.length:=by rw [<- r2.length]; exact F.len _ _ _ _ h
 refine wpAny_call (codeAny_mono (F.run X.A X.stack s H ⟨us,[]⟩ (us++ds) (vs++dvs) Q E hr I.Kj (hb s us I.kIn hl) r2 h) fun r s' hq=>?_)
 cases r with
 | error e=>exact hx pins σ H s e s' I hq
 | ok fl =>
  cases fl with
  | ret u=>exact I.after hq
  | next=>exact False.elim hq
  | brk=>exact False.elim hq
  | cont=>exact False.elim hq
theorem ma (F:dg X.prog X.w X.K X.mg X.base CX k f fd ps sp) (hr:fo k X.A) (hg:Gl X x) (hm:X.mg x=some (.ref f)) (hk:W.keepIn X.K (.ref f)=true) (hb:Binds X.K fd ps ds) (hd:bZ dvs ds) (hx:nZ CX X E)
  (ha:PA X (e::es) t) (hdb:(x == ("__debug__":Str))=false:=by decide) (he:starEach (e::es) X.env=(false,eval e X.env)::starEach es X.env:=by rfl) (hpl:(backTo pos (starEach es X.env)).any (·.1)=false:=by rfl) :
  PE X (.Call (.Name x p) (e::es) [] pos) (yB sp dvs E t):=by
 intro pins s σ H Q I h
 refine wpAny_Call_Name_kw (rR I hg hm ?_ hdb)
 refine PySem.W.callWith_K (h₀:=X.base) I.ok.mod.kin hk (thn (ha pos pins s σ H _ I h) fun us s1 ⟨vs,H1,I1,r,q⟩=>⟨I1.kIn,?_⟩) he hpl
 exact Ak F hr hb hd hx I1 r q
theorem rE {pl:Sem Bool} (he:PE X o ta) (c:Cls X.K C) (hm:rl X.K C m f) (F:dg X.prog X.w X.K X.mg X.base CX k f fd ps sp) (hr:fo k X.A) (hb:Binds X.K fd ps ds) (hd:bZ dvs ds) (hx:nZ CX X E) (ha:PA X (e::es) t)
  (hst:starEach (e::es) X.env=(false,eval e X.env)::starEach es X.env:=by rfl) (hpl:(backTo pos (starEach es X.env)).any (·.1)=false:=by rfl)
  (ht:eval (.Call (.Attribute o m apos) (e::es) [] pos) X.env=(do
    let ov <- eval o X.env
    standAt apos.atName
    let (f,first) <- holding [ov] (getMethod ov m pl)
    callWith pos f first (backTo pos (starEach (e::es) X.env)) (backToKw pos (keywordEach [] X.env))):=by rfl) :
  PE X (.Call (.Attribute o m apos) (e::es) [] pos) (A5 C m sp dvs E ta t):=by
 intro pins s σ H Q I h
 refine PySem.W.methodCall_KW (pl:=pl) (thn (he pins s σ H _ I h) fun u s1 ⟨x,H1,I1,rx,a,dx,fs,ex,ea,l,q⟩=>?_) ht
 subst ex
 obtain rfl:u=Value.ref a:=rx
 refine uz I1 ea c hm l ?_
 refine PySem.W.callWith_K (first:=[.ref a]) (h₀:=X.base) I.ok.mod.kin hm.kp (thn (ha pos pins s1 σ H1 _ I1 q) fun us s2 ⟨vs,H2,I2,r,q2⟩=>⟨I2.kIn,?_⟩) hst hpl
 exact Ak (us:=.ref a::us) (vs:=.ref a::vs) F hr hb hd hx I2 (.cons rfl r) q2
structure Mk (K:W.Frag) (C f:Addr):Prop where
 makes:PySem.W.makesIn K C=true
 init:W.findIn K (.ref C) "__init__"=some (some (.ref f))
 fn:PySem.W.isFn K (.ref f)=true
 kp:W.keepIn K (.ref C)=true
theorem yG {pins:List (Addr×Obj)} {σ:St} {H:Hp} {s:Shared} {Q:VK} {us:List Value} {vs:List V} (M:Mk X.K C f) (F:dg X.prog X.w X.K X.mg X.base CX k f fd ps sp) (hr:fo (k+1) X.A) (hb:Binds X.K fd ps ds) (hd:bZ dvs ds)
  (hx:nZ CX X E) (I:Inv X pins σ H s) (r:bZ vs us)
  (h:∀ x dx,H x=none->H dx=none->dx≠x->sp (.ref x::(vs++dvs)) (upd (upd H dx (.own x)) x (.ins C dx [])) (fun v H2=>v=.non/\Q (.ref x) H2) E) :
  wpAny (model X.prog X.w) X.A (call (.ref C) us) (EP X pins σ Q) X.xe s:=by
 have hq:=h (s.heap.objs.size+1) s.heap.objs.size (I.hok.fresh (Nat.le_succ _)) (I.hok.fresh (Nat.le_refl _)) (Nat.ne_of_lt (Nat.lt_succ_self _))
 have I2:=Inv.made (C:=C) I
 have r2:bZ (V.ref (s.heap.objs.size+1)::(vs++dvs)) (Value.ref (s.heap.objs.size+1)::(us++ds)):=.cons rfl (r.append hd)
 have hl:(Value.ref (s.heap.objs.size+1)::us++ds).length=ps.length:=by
  have e:=r2.length
  rw [F.len _ _ _ _ hq] at e
  exact e.symm
 refine wpAny_call (zF (f:=f) I.kIn M.makes M.init (beq_iff_eq.mp M.fn) (codeAny_mono (F.run _ X.stack _ _ ⟨Value.ref (s.heap.objs.size+1)::us,[]⟩ (Value.ref (s.heap.objs.size+1)::(us++ds)) _ _ E (hr.make C us [])
  (I2.Kj.make C us []) (hb _ (Value.ref (s.heap.objs.size+1)::us) I2.kIn hl) r2 hq) fun r s' hq'=>?_))
 cases r with
 | error e=>exact hx pins σ _ _ e s' I2 hq'
 | ok fl =>
  cases fl with
  | ret u =>
   obtain ⟨v,H',I3,rv,ev,q3⟩:=I2.after hq'
   subst ev
   exact ⟨rv,⟨V.ref (s.heap.objs.size+1),H',I3,rfl,q3⟩⟩
  | next=>exact False.elim hq'
  | brk=>exact False.elim hq'
  | cont=>exact False.elim hq'
theorem BZ (M:Mk X.K C f) (F:dg X.prog X.w X.K X.mg X.base CX k f fd ps sp) (hr:fo (k+1) X.A) (hg:Gl X x) (hm:X.mg x=some (.ref C)) (hb:Binds X.K fd ps ds) (hd:bZ dvs ds) (hx:nZ CX X E)
  (ha:PA X (e::es) t) (hdb:(x == ("__debug__":Str))=false:=by decide) (he:starEach (e::es) X.env=(false,eval e X.env)::starEach es X.env:=by rfl) (hpl:(backTo pos (starEach es X.env)).any (·.1)=false:=by rfl) :
  PE X (.Call (.Name x p) (e::es) [] pos) (Hz C sp dvs E t):=by
 intro pins s σ H Q I h
 refine wpAny_Call_Name_kw (rR I hg hm ?_ hdb)
 refine PySem.W.callWith_K (h₀:=X.base) I.ok.mod.kin M.kp (thn (ha pos pins s σ H _ I h) fun us s1 ⟨vs,H1,I1,r,q⟩=>⟨I1.kIn,?_⟩) he hpl
 exact yG M F hr hb hd hx I1 r q
end
structure aS (N P:List Str) (sc:Scope):Prop where
 kind:sc.kind=.function
 co:sc.isCoroutine=false
 gen:sc.isGenerator=false
 nd:N.Nodup
 pre:N.take P.length=P
 par:∀ x ∈ P,sc.names.lookup x=some .local\/sc.names.lookup x=some .cell
 ES:∀ y ∈ sc.names,y.2≠.free
theorem qB {kindOf:Str->Option NameKind} {x:Str}:∀ {binds:List (Str×Value)} {m:Str->Option Value},(∀ v,(x,v) ∉ binds)->bindL kindOf binds m x=m x
 | [],_,_=>rfl
 | (n,v)::r,m,h=>by
  unfold bindL
  rw [qB fun w hw=>h w (List.mem_cons_of_mem _ hw)]
  split
  ·have:x≠n:=by rintro rfl; exact h v List.mem_cons_self
   simp [this]
  · rfl
theorem qD {kindOf:Str->Option NameKind} {x:Str}:∀ {binds:List (Str×Value)} {m:Str->Option Value},(∀ v,(x,v) ∉ binds)->bindC kindOf binds m x=m x
 | [],_,_=>rfl
 | (n,v)::r,m,h=>by
  unfold bindC
  rw [qD fun w hw=>h w (List.mem_cons_of_mem _ hw)]
  split
  · rfl
  ·have:x≠n:=by rintro rfl; exact h v List.mem_cons_self
   simp [this]
theorem qC {kindOf:Str->Option NameKind} {x:Str} {v:Value}:∀ {P:List Str} {vs:List Value} {i:Nat} {m:Str->Option Value},P.Nodup->P[i]?=some x->vs[i]?=some v->kindOf x=some .local ->
  bindL kindOf (P.zip vs) m x=some v
 | [],_,_,_,_,h,_,_=>by simp at h
 | _::_,[],_,_,_,_,h,_=>by simp at h
 | p::P,w::vs,0,m,nd,h1,h2,hk=>by
  simp at h1 h2; subst h1; subst h2
  show bindL kindOf ((p,w)::P.zip vs) m p=_
  unfold bindL
  rw [qB fun v hv=>(List.nodup_cons.mp nd).1 (List.of_mem_zip hv).1,if_pos hk]
  simp
 | p::P,w::vs,i+1,m,nd,h1,h2,hk=>by
  show bindL kindOf ((p,w)::P.zip vs) m x=_
  unfold bindL
  exact qC (i:=i) (List.nodup_cons.mp nd).2 (by simpa using h1) (by simpa using h2) hk
theorem qE {kindOf:Str->Option NameKind} {x:Str} {v:Value}:∀ {P:List Str} {vs:List Value} {i:Nat} {m:Str->Option Value},P.Nodup->P[i]?=some x->vs[i]?=some v->kindOf x≠some .local ->
  bindC kindOf (P.zip vs) m x=some v
 | [],_,_,_,_,h,_,_=>by simp at h
 | _::_,[],_,_,_,_,h,_=>by simp at h
 | p::P,w::vs,0,m,nd,h1,h2,hk=>by
  simp at h1 h2; subst h1; subst h2
  show bindC kindOf ((p,w)::P.zip vs) m p=_
  unfold bindC
  rw [qD fun v hv=>(List.nodup_cons.mp nd).1 (List.of_mem_zip hv).1,if_neg hk]
  simp
 | p::P,w::vs,i+1,m,nd,h1,h2,hk=>by
  show bindC kindOf ((p,w)::P.zip vs) m x=_
  unfold bindC
  exact qE (i:=i) (List.nodup_cons.mp nd).2 (by simpa using h1) (by simpa using h2) hk
def start (N:List Str) (vs:List V):St:=vs.map some++List.replicate (N.length - vs.length) none
def xS (CX:CXT) (P:Program) (w:World) (K:W.Frag) (mg:Str->Option Value) (base:Heap) (N:List Str) (qual:Str) (scope:Scope) (f:Addr) (cd:Value) (A:Around) (outer:List Env) (s:Shared) (H:Hp) (E:XK):Cx where
 prog:=P
 w:=w
 K:=K
 mg:=mg
 base:=base
 A:=A.deeper (envOfC qual scope s.heap.objs.size f cd)
 N:=N
 s₀:=s
 H₀:=H
 env:=envOfC qual scope s.heap.objs.size f cd
 outer:=outer
 stack:=envOfC qual scope s.heap.objs.size f cd::outer
 ex:=[]
 calm:=true
 fn:=fun _=>true
 pn:=[]
 xe:=fun e s'=>wpAny (model P w) (A.deeper (envOfC qual scope s.heap.objs.size f cd)) (leaving (envOfC qual scope s.heap.objs.size f cd) e) (fun _ s''=>CX outer H s E e s'') (fun e' s''=>CX outer H s E e' s'') s'
theorem tQ {sc:Scope} {n:Nat} {x:Str} (h:sc.names.lookup x=some .cell):∃ c,(cellsFrom n sc.names []).lookup x=some c:=by
 have q:=PySem.W.cellsFrom_some sc.names n [] (.inl h)
 exact Option.isSome_iff_exists.mp q
theorem xp {CX:CXT} {P:Program} {w:World} {K:W.Frag} {mg:Str->Option Value} {base:Heap} {N ps:List Str} {qual:Str} {scope:Scope} {f:Addr} {cd:Value} {A:Around} {outer:List Env} {s s1:Shared} {H:Hp} {E:XK} {us:List Value} {vs:List V}
  (S:aS N ps scope) (hd:A.handled=none) (e0:Dm P w K mg base A outer s H) (hl:vs.length=ps.length) (r:bZ vs us)
  (x:InCallC s s.heap.objs.size (bindL (envOfC qual scope s.heap.objs.size f cd).kindOf (ps.zip us) fun _=>none) (cellsFrom (s.heap.objs.size+1) scope.names []) (bindC (envOfC qual scope s.heap.objs.size f cd).kindOf (ps.zip us) fun _=>none) s1) :
  Inv (xS CX P w K mg base N qual scope f cd A outer s H E) [] (start N vs) H s1:=by
 have hpl:ps.length<=N.length:=by have:=congrArg List.length S.pre; rw [List.length_take] at this; omega
 obtain ⟨h1,tk,rfl,hk⟩:=x.done
 have noA:∀ b:Addr,b ∉ (xS CX P w K mg base N qual scope f cd A outer s H E).ex:=fun b z=>absurd (show b ∈ ([]:List Addr) from z) (by simp)
 refine ⟨⟨e0.mod,S.kind,rfl,rfl,Nat.le_refl _,fun y z c h1 h2=>?_,fun y hy=>?_,fun y c _ h=>?_,fun _=>hd,Around.frames_deeper e0.frames,.inr ⟨rfl,rfl⟩,fun b z=>absurd z (noA b),e0.bs,e0.bsz,fun b _ _=>noA b,fun b z=>absurd z (noA b),e0.uY,e0.frf⟩,
  rfl,e0.bare,Un.kept hk,⟨_,x.toInCall.ns,fun i y v h1 h2 h3=>?_⟩,fun y c h=>⟨_,x.cell y c h⟩,e0.hok.fresh (Nat.le_refl _),fun y c h=>?_,fun p hp=>absurd (show p ∈ ([]:List (Addr×Obj)) from hp) (by simp),e0.hok.kept hk,?_⟩
 · exact name_of_addr x.apart (PySem.mem_of_lookup h1) (PySem.mem_of_lookup h2)
 ·have hy:scope.names.lookup y=some .cell\/scope.names.lookup y=some .free:=hy
  rcases hy with hy | hy
  · exact tQ hy
  · exact absurd rfl (S.ES _ (PySem.mem_of_lookup hy))
 · exact Nat.le_of_lt (x.above y c (PySem.mem_of_lookup h))
 ·have hi:i < vs.length:=by
   unfold start at h2
   by_cases hi:i < vs.length
   · exact hi
   ·rw [List.getElem?_append_right (by simpa using hi)] at h2
    rw [List.getElem?_replicate] at h2
    split at h2 <;> cases h2
  have ha:vs[i]?=some v:=by
   unfold start at h2
   rw [List.getElem?_append_left (by simpa using hi),List.getElem?_map] at h2
   cases e:vs[i]? with
   | none=>rw [e] at h2; cases h2
   | some a=>rw [e] at h2; cases h2; rfl
  obtain ⟨u,hu,rv⟩:=r.get ha
  have hp:ps[i]?=some y:=by
   rw [<- S.pre,List.getElem?_take_of_lt (by omega)]; exact h1
  have ndP:ps.Nodup:=by rw [<- S.pre]; exact S.nd.sublist (List.take_sublist _ _)
  refine ⟨u,rv,?_⟩
  rcases S.par y (List.mem_of_getElem? hp) with k | k
  · exact .inl ⟨k,qC ndP hp hu k⟩
  ·obtain ⟨c,e⟩:=tQ (n:=s.heap.objs.size+1) k
   refine .inr ⟨.inl k,c,e,?_⟩
   have q:=x.cell y c e
   rw [qE ndP hp hu (by show scope.names.lookup y≠_; rw [k]; decide)] at q
   exact q
 · exact e0.hok.fresh (Nat.le_of_lt (x.above y c (PySem.mem_of_lookup h)))
 ·unfold start
  show _=N.length
  rw [List.length_append,List.length_map,List.length_replicate]
  omega
theorem JQ {CX:CXT} {P:Program} {w:World} {K:W.Frag} {mg:Str->Option Value} {base:Heap} {k:Nat} {f:Addr} {name qual:Str} {params:Arguments} {body:List Stmt} {scope:Scope} {dV kV doc pm cdv ct oc:Value} {an od:Option Addr}
  {osl:Array (Option Value)} {N ps:List Str} {sp:Sp} (lk:K.lookup f=some ⟨oc,od,.func (PySem.W.fnOf name qual params body scope dV kV doc pm an cdv ct),osl⟩) (hcd:PySem.W.codeIn K cdv qual=true) (S:aS N ps scope)
  (len:∀ vs H Q E,sp vs H Q E->vs.length=ps.length)
  (hbody:∀ (A:Around) (outer:List Env) (s:Shared) (H:Hp) (vs:List V) (Q:VK) (E:XK),fo k (A.deeper (envOfC qual scope s.heap.objs.size f cdv))->sp vs H Q E ->
    ∃ t,PSs (xS CX P w K mg base N qual scope f cdv A outer s H E) body t/\t { nx:=fun _ H'=>Q .non H',rt:=Q } (start N vs) H) :
  dg P w K mg base CX (k+1) f (PySem.W.fnOf name qual params body scope dV kV doc pm an cdv ct) ps sp:=by
 refine ⟨len,fun A outer s H args us vs Q E hr e0 hb r hsp=>?_⟩
 have hl:=len _ _ _ _ hsp
 have KX:K.In s.heap:=e0.mod.kin.keeps fun b o e=>(e0.bs b o e).1
 have lim:s.heap.NoLimit:=e0.mod.nolimit.keeps fun b o e=>(e0.bs b o e).1
 have hkind:∀ y ∈ ps.zip us,scope.names.lookup y.1=some .local\/(scope.names.lookup y.1=some .cell/\((cellsFrom (s.heap.objs.size+1) scope.names []).lookup y.1).isSome=true):=fun ⟨n,v⟩ hy=>by
  rcases S.par n (List.of_mem_zip hy).1 with q | q
  · exact .inl q
  · exact .inr ⟨q,PySem.W.cellsFrom_some _ _ _ (.inl q)⟩
 refine codeAny_call_function hr.depth (KX _ _ lk) rfl S.co S.gen rfl (PySem.W.codeRec_of KX hcd) (hb _ _ _ _ ?_)
 refine wpAny_newFunctionEnv_cells S.kind hkind fun env he s1 x=>?_
 subst he
 refine ⟨lim.keeps x.toInCall.keep,codeAny_func ?_⟩
 obtain ⟨t,ht,hq⟩:=hbody A outer s H vs Q E (hr.deeper _) hsp
 have I:Inv (xS CX P w K mg base N qual scope f cdv A outer s H E) [] (start N vs) H s1:=xp S hr.hd e0 hl r x
 refine wpAny_mono (ht [] s1 (start N vs) H _ I hq) (fun fl s' hs=>?_) fun e s' hs=>hs
 have fin:∀ {σ':St} {H':Hp} {v:V} {u:Value},Inv (xS CX P w K mg base N qual scope f cdv A outer s H E) [] σ' H' s'->RelV v u->Q v H'->CE outer P w H s Q u s' :=
  fun {σ' H' v u} J rv q=>⟨v,H',J.os,J.bare,J.base,J.hok,rv,q⟩
 cases fl with
 | ret u =>
  obtain ⟨v,σ',H',J,rv,q⟩:=hs
  exact fin J rv q
 | next =>
  obtain ⟨σ',H',J,q⟩:=hs
  exact fin (v:=V.non) (u:=Value.none) J rfl q
 | brk =>
  obtain ⟨_,_,_,q⟩:=hs
  exact False.elim q
 | cont =>
  obtain ⟨_,_,_,q⟩:=hs
  exact False.elim q
end L2
namespace L2
open PySem PySem.Spec PyProof.Rows
section
variable {X:Cx} {x:Str} {p pos:Pos} {e:Expr} {es:List Expr} {t:TA} {id T:String} {r:List V->Hp->VK->Prop}
def tCB (r:List V->Hp->VK->Prop) (t:TA):TE:=fun σ H Q=>t σ H fun vs H1=>r vs H1 Q
theorem sR (hc:gJ X (.builtin id) r) (hg:Gl X x) (hm:X.mg x=none) (hv:bootBuiltins x=some (.builtin id)) (ha:PA X (e::es) t) (hn:x≠"__name__":=by decide) (hdb:(x == ("__debug__":Str))=false:=by decide)
  (he:starEach (e::es) X.env=(false,eval e X.env)::starEach es X.env:=by rfl) (hpl:(backTo pos (starEach es X.env)).any (·.1)=false:=by rfl):PE X (.Call (.Name x p) (e::es) [] pos) (tCB r t):=by
 intro pins s σ H Q I h
 refine wpAny_Call_Name_kw (mz I hg hm hv ?_ hn hdb)
 exact PyProof.Rows.callWith_builtin1 (thn (ha pos pins s σ H _ I h) fun us s1 ⟨vs,H1,I1,r1,q1⟩=>hc pins s1 σ H1 vs us Q I1 r1 q1) he hpl
theorem pZ (hc:gJ X (.type T) r) (hg:Gl X x) (hm:X.mg x=none) (hv:bootBuiltins x=some (.type T)) (ha:PA X (e::es) t) (hn:x≠"__name__":=by decide) (hdb:(x == ("__debug__":Str))=false:=by decide)
  (he:starEach (e::es) X.env=(false,eval e X.env)::starEach es X.env:=by rfl) (hpl:(backTo pos (starEach es X.env)).any (·.1)=false:=by rfl):PE X (.Call (.Name x p) (e::es) [] pos) (tCB r t):=by
 intro pins s σ H Q I h
 refine wpAny_Call_Name_kw (mz I hg hm hv ?_ hn hdb)
 exact PyProof.Rows.callWith_type1 (thn (ha pos pins s σ H _ I h) fun us s1 ⟨vs,H1,I1,r1,q1⟩=>hc pins s1 σ H1 vs us Q I1 r1 q1) he hpl
end
end L2
namespace HT
open PySem PyProof.Rows
section
variable {prog:Program} {w:World} {A:Around} {E:Value->Shared->Prop} {s:Shared}
def sIx (n d:Nat):Option Int->Nat
 | none=>d
 | some v=>if v < 0 then (v+(n:Int)).toNat else min v.toNat n
theorem vz (n d k:Nat):sIx n d (some (k:Int))=min k n:=by
 show (if (k:Int) < 0 then ((k:Int)+(n:Int)).toNat else min (k:Int).toNat n)=min k n
 rw [if_neg (by omega),Int.toNat_natCast]
end
end HT
namespace L2
open PySem PySem.Spec PyProof.Rows
abbrev TO:=St->Hp->(Option Int->Hp->Prop)->Prop
def PO (X:Cx) (e:Option Expr) (t:TO):Prop :=
  ∀ (pins:List (Addr×Obj)) (s:Shared) (σ:St) (H:Hp) (Q:Option Int->Hp->Prop),Inv X pins σ H s->t σ H Q ->
    wpAny (model X.prog X.w) X.A (evalPart e X.env) (fun u s'=>∃ o H',Inv X pins σ H' s'/\IsPart u o/\Q o H') X.xe s
def Hx (t:TE):TO:=fun σ H Q=>t σ H fun x H1=>∃ i,x=.int i/\Q (some i) H1
section
variable {X:Cx} {e:Expr} {te:TE} {lo hi:Option Expr} {tl th:TO} {pos p2:Pos}
theorem BM (h:PE X e te):PO X (some e) (Hx te):=by
 intro pins s σ H Q I hw
 rw [evalPart_some]
 refine thn (h pins s σ H _ I hw) fun u s1 ⟨x,H1,I1,r1,q1⟩=>?_
 obtain ⟨i,rfl,q⟩:=q1
 obtain ⟨t,rfl⟩:=r1
 exact ⟨some i,H1,I1,.int i t,q⟩
def SlR (X:Cx) (r:V->Option Int->Option Int->Hp->VK->Prop):Prop :=
  ∀ (pins:List (Addr×Obj)) (s:Shared) (σ:St) (H:Hp) (x:V) (v vl vu:Value) (lo hi:Option Int) (sl:Addr) (Q:VK),Inv X pins σ H s->RelV x v->s.heap.IsSliceOf sl vl vu .none->IsPart vl lo->IsPart vu hi->r x lo hi H Q ->
    ∃ T id,typeLookup (.type T) "__getitem__"=pure (some (.builtin id))/\s.TypeIs v T/\wpAny (model X.prog X.w) X.A (getItem v (.ref sl)) (EP X pins σ Q) X.xe s
def tSl (r:V->Option Int->Option Int->Hp->VK->Prop) (te:TE) (tl th:TO):TE:=fun σ H Q=>te σ H fun x H1=>tl σ H1 fun l H2=>th σ H2 fun u H3=>r x l u H3 Q
theorem zm {r:V->Option Int->Option Int->Hp->VK->Prop} (hr:SlR X r) (he:PE X e te) (hl:PO X lo tl) (hu:PO X hi th):PE X (.Subscript e (.Slice lo hi none p2) pos) (tSl r te tl th):=by
 intro pins s σ H Q I h
 refine Subscript_ (thn (he pins s σ H _ I h) fun v s1 ⟨x,H1,I1,r1,q1⟩=>?_)
 refine wpAny_Slice (thn (hl pins s1 σ H1 _ I1 q1) fun vl s2 ⟨l,H2,I2,pl,q2⟩=>thn (hu pins s2 σ H2 _ I2 q2) fun vu s3 ⟨u,H3,I3,pu,q3⟩=>?_)
 rw [evalPart_none]
 refine wpAny_pure ?_
 have I4:Inv X pins σ H3 { s3 with heap:=s3.heap.push { cls:=.type "slice",data:=.fields #[vl,vu,.none] } }:=I3.kept (t':=s3.toks) fun b ob q=>Heap.get?_push_of_some _ q
 obtain ⟨T,id,hT,ht,hg⟩:=hr pins { s3 with heap:=s3.heap.push { cls:=.type "slice",data:=.fields #[vl,vu,.none] } } σ H3 x v vl vu l u s3.heap.objs.size Q I4 r1 (Heap.IsSliceOf.new ..) pl pu q3
 show wpAny (model X.prog X.w) X.A (subscriptTail e (.Slice lo hi none p2) v (.ref s3.heap.objs.size)) (EP X pins σ Q) X.xe { s3 with heap:=s3.heap.push { cls:=.type "slice",data:=.fields #[vl,vu,.none] } }
 exact tail_any (ops:=[.ref s3.heap.objs.size,v]) ht hT hg (by with_unfolding_all rfl)
def Du (xs:List V) (lo hi:Option Int):List V:=(xs.drop (HT.sIx xs.length 0 lo)).take (HT.sIx xs.length xs.length hi - HT.sIx xs.length 0 lo)
theorem r6 (xs:List V) (lo hi:Option Int):(Du xs lo hi).length<=xs.length:=by
 unfold Du
 rw [List.length_take,List.length_drop]
 omega
end
end L2
namespace L2
open PySem PySem.Spec PyProof.Rows
def ixN (n:Nat) (i:Int):Option Nat:=if 0<=i then (if i < n then some i.toNat else none) else if -(n:Int)<=i then some (i+n).toNat else none
def atI {α:Type} (xs:List α) (i:Int):Option α:=(ixN xs.length i).bind fun j=>xs[j]?
theorem CQ {n:Nat} {i:Int} {j:Nat} (h:ixN n i=some j):seqIndex? i n=some j/\j < n/\-(n:Int)<=i/\i < n:=by
 unfold ixN at h
 by_cases h0:0<=i
 ·rw [if_pos h0] at h
  by_cases h1:i < n
  ·rw [if_pos h1] at h
   have e:i.toNat=j:=Zj h
   exact ⟨by rw [seqIndex_of h0 h1,e],by omega,by omega,h1⟩
  · rw [if_neg h1] at h; cases h
 ·rw [if_neg h0] at h
  by_cases h1:-(n:Int)<=i
  ·rw [if_pos h1] at h
   have e:(i+n).toNat=j:=Zj h
   exact ⟨by rw [seqIndex_neg (by omega) h1,e],by omega,h1,by omega⟩
  · rw [if_neg h1] at h; cases h
theorem sy {α:Type} {xs:List α} {i:Int} {v:α} (h:atI xs i=some v):∃ j,seqIndex? i xs.length=some j/\xs[j]?=some v/\j < xs.length/\-(xs.length:Int)<=i/\i < xs.length:=by
 unfold atI at h
 cases e:ixN xs.length i with
 | none=>rw [e] at h; cases h
 | some j =>
  rw [e] at h
  obtain ⟨h1,h2,h3,h4⟩:=CQ e
  exact ⟨j,h1,h,h2,h3,h4⟩
theorem Dk {α:Type} {xs:List α} {j:Nat} {v:α} (h:xs[j]?=some v):atI xs (j:Int)=some v:=by
 have hj:j < xs.length:=(List.getElem?_eq_some_iff.mp h).1
 have e:ixN xs.length (j:Int)=some j:=by
  unfold ixN
  rw [if_pos (by omega),if_pos (by omega)]; simp
 unfold atI; rw [e]; exact h
theorem z7 {α:Type} (xs:List α) (v:α):atI (xs++[v]) (-1)=some v:=by
 have hl:(xs++[v]).length=xs.length+1:=by simp
 have e:ixN (xs++[v]).length (-1)=some xs.length:=by
  unfold ixN
  rw [hl,if_neg (by decide),if_pos (by omega)]
  congr 1
  omega
 unfold atI
 rw [e]
 show (xs++[v])[xs.length]?=some v
 simp
def sD (b:Expr):Prop:=∀ o i,subscripted b false o i=operate [o,i] (getItem o i)
def IxR (X:Cx) (r:R2):Prop :=
  ∀ (value slice:Expr) (pins:List (Addr×Obj)) (s:Shared) (σ:St) (H:Hp) (x y:V) (v u:Value) (Q:VK),Inv X pins σ H s->RelV x v->RelV y u->r x y H Q ->
    subscripted slice false v u=operate [v,u] (getItem v u)->wpAny (model X.prog X.w) X.A (subscriptTail value slice v u) (EP X pins σ Q) X.xe s
def MtR (X:Cx) (id:String) (r:V->List V->Hp->VK->Prop):Prop :=
  ∀ (pins:List (Addr×Obj)) (s:Shared) (σ:St) (H:Hp) (x:V) (xs:List V) (v:Value) (us:List Value) (Q:VK),Inv X pins σ H s->RelV x v->bZ xs us->r x xs H Q ->
    wpAny (model X.prog X.w) X.A (call (.builtin id) (v::us)) (EP X pins σ Q) X.xe s
section
variable {X:Cx} {a b:Expr} {ta tb:TE} {pos:Pos}
theorem IxR.or {r r':R2} (h:IxR X r) (h':IxR X r'):IxR X (fun x y H Q=>r x y H Q\/r' x y H Q):=by
 intro value slice pins s σ H x y v u Q I rx ry q hs
 rcases q with q | q
 · exact h value slice pins s σ H x y v u Q I rx ry q hs
 · exact h' value slice pins s σ H x y v u Q I rx ry q hs
theorem HV {r:R2} (hr:IxR X r) (ha:PE X a ta) (hb:PE X b tb) (hs:sD b):PE X (.Subscript a b pos) (tOp r ta tb):=by
 intro pins s σ H Q I h
 exact Subscript_ (JW ha hb I h fun v u s2 x y H2 I2 rx ry q=>hr a b pins s2 σ H2 x y v u Q I2 rx ry q (hs _ _))
def KS (K:W.Frag):R2:=fun x y H Q=>∃ p xs i v,x=.ref p/\y=.int i/\SqL K H p xs/\atI xs i=some v/\Q v H
def KQ (K:W.Frag):R2:=fun x y H Q=>∃ p xs i v,x=.ref p/\y=.int i/\SqT K H p xs/\atI xs i=some v/\Q v H
def KR:R2:=fun x y H Q=>∃ z i c,x=.str z/\y=.int i/\z.length<=sizeLine/\atI z.cps.toList i=some c/\Q (.str ⟨#[c]⟩) H
theorem CO:IxR X (KS X.K):=by
 intro value slice pins s σ H x y v u Q I rx ry h hs
 obtain ⟨p,xs,i,z,rfl,rfl,hq,he,q⟩:=h
 cases rx
 obtain ⟨t,rfl⟩:=ry
 obtain ⟨its,r,pl,hz⟩:=I.list hq
 obtain ⟨j,h1,h2,h3,h4,h5⟩:=sy he
 obtain ⟨w,ew,rw'⟩:=r.get h2
 have hl:=r.length
 have hn:=qm
 have fin:EP X pins σ Q w s:=⟨z,H,I,rw',q⟩
 by_cases h0:0<=i
 ·have hj:i.toNat=j:=by
   rw [seqIndex_of h0 h5] at h1
   exact Zj h1
  exact item_listR pl.isList h0 (by omega) (by rw [hj]; simpa using ew) fin hs
 ·have hj:(i+(its.toArray.size:Int)).toNat=j:=by
   rw [seqIndex_neg (by omega) h4] at h1
   rw [List.size_toArray,<- hl]
   exact Zj h1
  exact subscriptTail_builtinR (x:=w) pl.isList.typeIs slot_list_getitem.lookup
   (wpAny_getItem_list_neg (Q:=fun r s'=>r=w/\EP X pins σ Q r s') pl.isList (by omega) (by rw [List.size_toArray] <;> omega) (by omega) (by rw [hj]; simpa using ew) ⟨rfl,fin⟩) hs
theorem Ff:IxR X (KQ X.K):=by
 intro value slice pins s σ H x y v u Q I rx ry h hs
 obtain ⟨p,xs,i,z,rfl,rfl,hq,he,q⟩:=h
 cases rx
 obtain ⟨t,rfl⟩:=ry
 obtain ⟨its,r,pl,hz⟩:=I.tuple hq
 obtain ⟨j,h1,h2,h3,h4,h5⟩:=sy he
 obtain ⟨w,ew,rw'⟩:=r.get h2
 have hl:=r.length
 have hn:=qm
 have fin:EP X pins σ Q w s:=⟨z,H,I,rw',q⟩
 exact subscriptTail_builtinR (x:=w) pl.typeIs slot_tuple_getitem.lookup
  (getItem_tuple (j:=j) (Q:=fun r s'=>r=w/\EP X pins σ Q r s') pl (by omega) (by omega) (by rw [List.size_toArray,<- hl]; exact h1) (by simpa using ew) ⟨rfl,fin⟩) hs
theorem Fg:IxR X KR:=by
 intro value slice pins s σ H x y v u Q I rx ry h hs
 obtain ⟨z,i,c,rfl,rfl,hz,he,q⟩:=h
 obtain ⟨t,rfl⟩:=rx
 obtain ⟨t',rfl⟩:=ry
 obtain ⟨j,h1,h2,h3,h4,h5⟩:=sy he
 have hl:z.cps.toList.length=z.length:=by simp [Str.length]
 rw [hl] at h1 h4 h5
 have hn:=qm
 exact tail_any (typeIs_str s z t) slot_str_getitem.lookup (getItem_str (c:=c) (by
  have e1:decide (i < -(2 ^ 63:Int))=false:=decide_eq_false (by omega)
  have e2:decide (i ≥ 2 ^ 63)=false:=decide_eq_false (by omega)
  rw [e1,e2,Bool.or_false]) (by rw [h1]; simpa using h2) ⟨.str ⟨#[c]⟩,H,I.tok _,⟨_,rfl⟩,q⟩) hs
theorem pP (lo hi:Option Int) (n:Nat):(sliceBounds lo hi none n).1=((HT.sIx n 0 lo:Nat):Int)/\(sliceBounds lo hi none n).2.1=((HT.sIx n n hi:Nat):Int)/\(sliceBounds lo hi none n).2.2=1:=by
 refine ⟨?_,?_,rfl⟩
 ·cases lo with
  | none=>simp [sliceBounds,HT.sIx]
  | some i =>
   simp only [sliceBounds,HT.sIx,Option.getD_none,show (1:Int) > 0 by decide,if_true]
   by_cases h:i < 0
   · simp only [h,if_true] <;> omega
   · simp only [h,if_false] <;> omega
 ·cases hi with
  | none=>simp [sliceBounds,HT.sIx]
  | some i =>
   simp only [sliceBounds,HT.sIx,Option.getD_none,show (1:Int) > 0 by decide,if_true]
   by_cases h:i < 0
   · simp only [h,if_true] <;> omega
   · simp only [h,if_false] <;> omega
theorem oy (its:List Value) (lo hi:Option Int):slicePick its.toArray lo hi none=((its.drop (HT.sIx its.length 0 lo)).take (HT.sIx its.length its.length hi - HT.sIx its.length 0 lo)).toArray:=by
 obtain ⟨h1,h2,h3⟩:=pP lo hi its.toArray.size
 unfold slicePick
 rw [h1,h2,h3]
 simp only [sliceRange_one,pick_run,List.size_toArray] <;> rfl
def KN (K:W.Frag):V->Option Int->Option Int->Hp->VK->Prop:=fun x lo hi H Q=>∃ a xs,x=.ref a/\SqL K H a xs/\∀ p,H p=none->Q (.ref p) (upd H p (.lst (Du xs lo hi)))
theorem Bd:SlR X (KN X.K):=by
 intro pins s σ H x v vl vu lo hi sl Q I rx hs pl pu h
 obtain ⟨a,xs,rfl,hx,q⟩:=h
 cases rx
 obtain ⟨its,r,ht,hz⟩:=I.list hx
 have hlen:=r.length
 refine ⟨"list",_,slot_list_getitem.lookup,ht.isList.typeIs,?_⟩
 refine wpAny_getItem_list_slice ht.isList hs pl pu .none (by simp) ?_ (by rw [List.size_toArray] <;> omega)
 rw [oy,<- hlen]
 refine ⟨.ref s.heap.objs.size,_,I.laid (t':=s.toks) (o:=.lst (Du xs lo hi)) (fun b ob q=>Heap.get?_push_of_some _ q) (Nat.le_refl _) ?_,rfl,q _ (I.hok.fresh (Nat.le_refl _))⟩
 exact ⟨Nat.le_trans (r6 xs lo hi) hz,_,0,(r.drop (HT.sIx xs.length 0 lo)).take (HT.sIx xs.length xs.length hi - HT.sIx xs.length 0 lo),Heap.get?_push_size _ rfl⟩
def nI:V->Bool
 | .non=>true
 | .bl _=>true
 | .int _=>true
 | .str _=>true
 | _=>false
def eqV:V->V->Bool
 | .non,.non=>true
 | .bl a,.bl b=>a == b
 | .bl a,.int b=>(if a then 1 else 0) == b
 | .int a,.bl b=>a == (if b then 1 else 0)
 | .int a,.int b=>a == b
 | .str a,.str b=>a == b
 | _,_=>false
theorem FI {A:Around} {s:Shared} {y x:V} {u v:Value} (ry:RelV y u) (rx:RelV x v) (fy:nI y=true) (fx:nI x=true):SeqAt.EqAt A s u v (eqV y x):=by
 cases y with
 | non =>
  cases ry
  cases x with
  | non=>cases rx; exact SeqAt.EqAt.same _
  | bl b=>cases rx; exact SeqAt.EqAt.none_bool b
  | int b=>obtain ⟨t,rfl⟩:=rx; exact SeqAt.EqAt.none_int b t
  | str b=>obtain ⟨t,rfl⟩:=rx; exact SeqAt.EqAt.none_str b t
  | _=>exact absurd (show false=true from fx) Zf
 | bl a =>
  cases ry
  cases x with
  | non=>cases rx; exact SeqAt.EqAt.bool_none a
  | bl b=>cases rx; exact SeqAt.EqAt.bool_bool a b
  | int b=>obtain ⟨t,rfl⟩:=rx; exact SeqAt.EqAt.bool_int a b t
  | str b=>obtain ⟨t,rfl⟩:=rx; exact SeqAt.EqAt.bool_str a b t
  | _=>exact absurd (show false=true from fx) Zf
 | int a =>
  obtain ⟨t',rfl⟩:=ry
  cases x with
  | non=>cases rx; exact SeqAt.EqAt.int_none a t'
  | bl b=>cases rx; exact SeqAt.EqAt.int_bool a t' b
  | int b=>obtain ⟨t,rfl⟩:=rx; exact SeqAt.EqAt.int_int a t' b t
  | str b=>obtain ⟨t,rfl⟩:=rx; exact SeqAt.EqAt.int_str a t' b t
  | _=>exact absurd (show false=true from fx) Zf
 | str a =>
  obtain ⟨t',rfl⟩:=ry
  cases x with
  | non=>cases rx; exact SeqAt.EqAt.str_none a t'
  | bl b=>cases rx; exact SeqAt.EqAt.str_bool a t' b
  | int b=>obtain ⟨t,rfl⟩:=rx; exact SeqAt.EqAt.str_int a t' b t
  | str b=>obtain ⟨t,rfl⟩:=rx; exact SeqAt.EqAt.str_str a t' b t
  | _=>exact absurd (show false=true from fx) Zf
 | _=>exact absurd (show false=true from fy) Zf
def eqU (x:V) (u:Value):Bool:=match u with
 | .none=>eqV .non x
 | .bool b=>eqV (.bl b) x
 | .int i _=>eqV (.int i) x
 | .str z _=>eqV (.str z) x
 | _=>false
theorem AN {x y:V} {u:Value} (r:RelV y u) (f:nI y=true):eqU x u=eqV y x:=by
 cases y with
 | non=>cases r; rfl
 | bl b=>cases r; rfl
 | int i=>obtain ⟨t,rfl⟩:=r; rfl
 | str z=>obtain ⟨t,rfl⟩:=r; rfl
 | _=>exact absurd (show false=true from f) Zf
theorem mW {x:V}:∀ {xs:List V} {us:List Value},bZ xs us->xs.all nI=true->us.any (eqU x)=xs.any fun y=>eqV y x
 | _,_,.nil,_=>rfl
 | y::xs,u::us,.cons r t,f=>by
  rw [List.all_cons,Bool.and_eq_true] at f
  rw [List.any_cons,List.any_cons,AN r f.1,mW t f.2]
theorem jQ {A:Around} {s:Shared} {x:V} {v:Value} (rx:RelV x v) (fx:nI x=true):∀ {xs:List V} {us:List Value},bZ xs us->xs.all nI=true->∀ u ∈ us,SeqAt.EqAt A s u v (eqU x u)
 | _,_,.nil,_=>fun u hu=>by cases hu
 | y::xs,u::us,.cons r t,f=>fun u' hu=>by
  rw [List.all_cons,Bool.and_eq_true] at f
  rcases List.mem_cons.mp hu with rfl | hu
  · rw [AN r f.1]; exact FI r rx f.1 fx
  · exact jQ rx fx t f.2 u' hu
def inV (x:V) (xs:List V):Bool:=xs.any fun y=>eqV y x
def rIn (K:W.Frag) (neg:Bool):R2:=fun x y H Q=>∃ p xs,y=.ref p/\(SqL K H p xs\/SqT K H p xs)/\nI x=true/\xs.all nI=true/\Q (.bl (if neg then !inV x xs else inV x xs)) H
theorem wA:OpR X (compareOp .In) (rIn X.K false):=by
 intro pins s σ H x y v u Q I rx ry h
 obtain ⟨p,xs,rfl,hq,fx,fs,q⟩:=h
 cases ry
 rcases hq with hq | hq
 ·obtain ⟨its,r,pl,hz⟩:=I.list hq
  refine SeqAt.in_listAt (eqU x) pl.isList (fun w hw=>jQ rx fx r fs w (by simpa using hw)) ⟨.bl _,H,I,rfl,?_⟩
  rw [show its.toArray.any (eqU x)=its.any (eqU x) by simp,mW r fs]
  exact q
 ·obtain ⟨its,r,pl,hz⟩:=I.tuple hq
  refine SeqAt.in_tupleAt (eqU x) pl (fun w hw=>jQ rx fx r fs w (by simpa using hw)) ⟨.bl _,H,I,rfl,?_⟩
  rw [show its.toArray.any (eqU x)=its.any (eqU x) by simp,mW r fs]
  exact q
theorem p4:OpR X (compareOp .NotIn) (rIn X.K true):=by
 intro pins s σ H x y v u Q I rx ry h
 obtain ⟨p,xs,rfl,hq,fx,fs,q⟩:=h
 cases ry
 rcases hq with hq | hq
 ·obtain ⟨its,r,pl,hz⟩:=I.list hq
  refine SeqAt.notIn_listAt (eqU x) pl.isList (fun w hw=>jQ rx fx r fs w (by simpa using hw)) ⟨.bl _,H,I,rfl,?_⟩
  rw [show its.toArray.any (eqU x)=its.any (eqU x) by simp,mW r fs]
  exact q
 ·obtain ⟨its,r,pl,hz⟩:=I.tuple hq
  refine SeqAt.notIn_tupleAt (eqU x) pl (fun w hw=>jQ rx fx r fs w (by simpa using hw)) ⟨.bl _,H,I,rfl,?_⟩
  rw [show its.toArray.any (eqU x)=its.any (eqU x) by simp,mW r fs]
  exact q
theorem qA:gJ X (.type "list") (fun xs H Q=>∃ p ys,xs=[.ref p]/\(SqL X.K H p ys\/SqT X.K H p ys)/\∀ l,H l=none->Q (.ref l) (upd H l (.lst ys))):=by
 intro pins s σ H xs us Q I r h
 obtain ⟨p,ys,rfl,hq,q⟩:=h
 obtain ⟨u,rfl,rx⟩:=vals1 r
 cases rx
 have fin:∀ (its:List Value),bZ ys its->ys.length<=sizeLine->∀ (h':Heap) (c':Nat),(∀ b o',s.heap.get? b=some o'->h'.get? b=some o') ->
   h'.get? s.heap.objs.size=some { cls:=.type "list",dict:=none,data:=.seq its.toArray c',slots:=#[] }->EP X pins σ Q (.ref s.heap.objs.size) { s with heap:=h' }:=fun its r' hz h' c' kp e =>
  ⟨.ref s.heap.objs.size,_,I.laid (t':=s.toks) kp (Nat.le_refl _) (show dA X.prog X.w _ h' _ (.lst ys) from ⟨hz,its,c',r',e⟩),rfl,q _ (I.hok.fresh (Nat.le_refl _))⟩
 rcases hq with hq | hq
 ·obtain ⟨its,r',pl,hz⟩:=I.list hq
  have hlen:=r'.length
  obtain ⟨o,ho,hc,n,hd⟩:=pl.isList
  exact call_list_seq p (.inl rfl) ho hc hd (fun h' c' kp e=>fin its r' hz h' c' kp e) (by simp only [List.size_toArray] <;> omega)
 ·obtain ⟨its,r',pl,hz⟩:=I.tuple hq
  have hlen:=r'.length
  obtain ⟨o,ho,hc,n,hd⟩:=pl
  exact call_list_seq p (.inr rfl) ho hc hd (fun h' c' kp e=>fin its r' hz h' c' kp e) (by simp only [List.size_toArray] <;> omega)
def tyV (K:W.Frag) (T:String) (x:V) (H:Hp):Prop:=match x with
 | .str _=>T="str"
 | .int _=>T="int"
 | .ref p=>(T="list"/\∃ xs,SqL K H p xs)\/(T="tuple"/\∃ o,K.lookup p=some o/\o.cls=.type "tuple"/\o.dict=none) \/
  (T="dict"/\((∃ kvs,H p=some (.dK kvs))\/∃ kvs,H p=some (.dT kvs)))\/(T="set"/\∃ S n,H p=some (.set S n))
 | _=>False
theorem Ab {pins:List (Addr×Obj)} {σ:St} {H:Hp} {s:Shared} {T:String} {x:V} {v:Value} (I:Inv X pins σ H s) (r:RelV x v) (ty:tyV X.K T x H) :
  s.TypeIs v T/\∀ a,v=.ref a->∃ ob,s.heap.get? a=some ob/\ob.dict=none:=by
 cases x with
 | str z =>
  obtain ⟨t,rfl⟩:=r
  cases (show T="str" from ty)
  exact ⟨typeIs_str s z t,fun _ e=>nomatch e⟩
 | int i =>
  obtain ⟨t,rfl⟩:=r
  cases (show T="int" from ty)
  exact ⟨typeIs_int s i t,fun _ e=>nomatch e⟩
 | ref p =>
  cases r
  rcases ty with ⟨rfl,xs,hq⟩ | ⟨rfl,o,hk,hc,hd⟩ | ⟨rfl,hk⟩ | ⟨rfl,S,n,hk⟩
  ·obtain ⟨its,_,pl,_⟩:=I.list hq
   refine ⟨pl.isList.typeIs,fun a e=>?_⟩
   cases e
   obtain ⟨o,n,e,c,hd,_⟩:=pl
   exact ⟨o,e,hd⟩
  ·refine ⟨⟨o,I.kIn p o hk,hc⟩,fun a e=>?_⟩
   cases e
   exact ⟨o,I.kIn _ o hk,hd⟩
  ·have z:∃ o,s.heap.get? p=some o/\o.ExactDict:=by
    rcases hk with ⟨kvs,hk⟩ | ⟨kvs,hk⟩
    ·obtain ⟨_,_,_,_,o,_,_,e,ex,_⟩:=I.hok p _ hk
     exact ⟨o,e,ex⟩
    ·obtain ⟨_,_,_,_,o,_,_,e,ex,_⟩:=I.hok p _ hk
     exact ⟨o,e,ex⟩
   obtain ⟨o,e,ex⟩:=z
   refine ⟨⟨o,e,ex.1⟩,fun a e2=>?_⟩
   cases e2
   exact ⟨o,e,ex.2.1⟩
  ·obtain ⟨o,_,_,_,e,ex,_⟩:=I.hok p _ hk
   refine ⟨⟨o,e,ex.1⟩,fun a e2=>?_⟩
   cases e2
   exact ⟨o,e,ex.2.1⟩
 | _=>exact False.elim ty
def Kt (K:W.Frag) (T:String) (r:V->List V->Hp->VK->Prop) (to:TE):TE:=fun σ H Q=>to σ H fun x H1=>tyV K T x H1/\r x [] H1 Q
def tBM (K:W.Frag) (T:String) (r:V->List V->Hp->VK->Prop) (to:TE) (t:TA):TE:=fun σ H Q=>to σ H fun x H1=>tyV K T x H1/\t σ H1 fun xs H2=>r x xs H2 Q
variable {o e:Expr} {es:List Expr} {to:TE} {t:TA} {name:Str} {apos cpos:Pos} {T id:String} {r:V->List V->Hp->VK->Prop}
theorem Ep (pa:PlainAttrs T) (slot:Slot T name id) (hty:typeOf (.builtin id)=pure (.type "method_descriptor")) (hm:MtR X id r) (ho:PE X o to)
  (hbase:attributeBase o name X.env (eval o X.env)=eval o X.env:=by rfl) (hline:(apos.endLine == cpos.line)=true:=by rfl):PE X (.Call (.Attribute o name apos) [] [] cpos) (Kt X.K T r to):=by
 intro pins s σ H Q I h
 refine wpAny_Call_method0_late hbase hline (thn (ho pins s σ H _ I h) fun v s1 ⟨x,H1,I1,r1,ty,q1⟩=>?_)
 obtain ⟨h1,h2⟩:=Ab I1 r1 ty
 exact ⟨T,id,pa,slot,hty,h1,h2,Calls.callWith_builtin rfl (PySem.evalArgs_none (hm pins s1 σ H1 x [] v [] Q I1 r1 .nil q1))⟩
theorem wq (pa:PlainAttrs T) (slot:Slot T name id) (hty:typeOf (.builtin id)=pure (.type "method_descriptor")) (hm:MtR X id r) (ho:PE X o to) (ha:PA X (e::es) t)
  (hbase:attributeBase o name X.env (eval o X.env)=eval o X.env:=by rfl)
  (hfew:((backTo cpos (starEach (e::es) X.env)).all (fun x=>!x.1)&&(backToKw cpos (keywordEach [] X.env)).all (fun x=>x.1.isSome)
    && decide ((e::es).length+([]:List Keyword).length+(if ([]:List Keyword).isEmpty then 0 else 1) < 30))=true:=by rfl)
  (hline:(apos.endLine == cpos.line)=true:=by rfl) (hs:starEach (e::es) X.env=(false,eval e X.env)::starEach es X.env:=by rfl) (hplain:(backTo cpos (starEach es X.env)).any (·.1)=false:=by rfl) :
  PE X (.Call (.Attribute o name apos) (e::es) [] cpos) (tBM X.K T r to t):=by
 intro pins s σ H Q I h
 refine wpAny_Call_method_late hbase hfew hline rfl (thn (ho pins s σ H _ I h) fun v s1 ⟨x,H1,I1,r1,ty,q1⟩=>?_)
 obtain ⟨h1,h2⟩:=Ab I1 r1 ty
 refine ⟨T,id,pa,slot,hty,h1,h2,?_⟩
 have hA:=ha cpos pins s1 σ H1 _ I1 q1
 rw [hs] at hA ⊢
 refine Calls.callWith_builtin (by show (false||(backTo cpos (starEach es X.env)).any (·.1))=false; rw [hplain] <;> rfl) (Calls.evalArgs_plain ?_)
 exact thn hA fun us s2 ⟨vs,H2,I2,r2,q2⟩=>hm pins s2 σ H2 x vs v us Q I2 r1 r2 q2
/- xs.append(e),list.index on a module's tuple .. are MtR facts of 06m -/
end
end L2
namespace L2
open PySem PySem.Spec PyProof.Rows
def MtM (X:Cx) (id:String) (r:V->List V->Hp->VK->Prop):Prop :=
  ∀ (pins:List (Addr×Obj)) (s:Shared) (σ:St) (H:Hp) (x:V) (xs:List V) (v:Value) (us:List Value) (Q:VK),Inv X pins σ H s->RelV x v->bZ xs us->r x xs H Q ->
    wpAny (model X.prog X.w) X.A (call (.builtin id) (v::us)) (EP X pins σ Q) X.xe s
theorem bZ.one:∀ {x:V} {us:List Value},bZ [x] us->∃ u,us=[u]/\RelV x u
 | _,_,.cons r .nil=>⟨_,rfl,r⟩
theorem bZ.zero:∀ {us:List Value},bZ [] us->us=[]
 | _,.nil=>rfl
theorem bZ.dropLast {xs:List V} {us:List Value} (h:bZ xs us):bZ xs.dropLast us.dropLast:=by
 induction h with
 | nil=>exact .nil
 | cons r t ih =>
  cases t with
  | nil=>exact .nil
  | cons q t'=>exact .cons r ih
theorem bZ.reverse {xs:List V} {us:List Value} (h:bZ xs us):bZ xs.reverse us.reverse:=by
 induction h with
 | nil=>exact .nil
 | cons r t ih=>rw [List.reverse_cons,List.reverse_cons]; exact bZ.append ih (.cons r .nil)
theorem uB {α:Type} (l:List α):l.eraseIdx (l.length - 1)=l.dropLast:=by
 induction l with
 | nil=>rfl
 | cons a r ih =>
  cases r with
  | nil=>rfl
  | cons b r =>
   have e:(a::b::r).length - 1=((b::r).length - 1)+1:=by
    have h1:(a::b::r).length=r.length+2:=rfl
    have h2:(b::r).length=r.length+1:=rfl
    omega
   rw [e,List.eraseIdx_cons_succ,ih]
   all_goals rfl
section
variable {X:Cx} {pins:List (Addr×Obj)} {σ:St} {H:Hp} {s:Shared} {l b:Addr} {xs ys zs:List V}
theorem Inv.E4 {its its':List Value} {n:Nat} {f:Array Value->Array Value} {t':Nat} (I:Inv X pins σ H s) (hH:H l=some (.lst xs))
  (e:s.heap.get? l=some { cls:=.type "list",data:=.seq its.toArray n }) (hf:f its.toArray=its'.toArray) (hv:bZ ys its') (hz:ys.length<=sizeLine) :
  Inv X pins σ (upd H l (.lst ys)) { s with heap:=s.heap.update l (Obj.mapSeq f),toks:=t' }:=by
 have q:=PySem.IsL.update e f
 rw [hf] at q
 refine I.write (x:=l) (e:=l) (by rw [hH]; exact trivial) (.inl rfl) (fun b' u hb hu=>(Heap.get?_update_other s.heap (Obj.mapSeq f) (Ne.symm hb)).trans hu) ⟨_,q⟩ ?_
 exact ⟨hz,its',_,hv,q⟩
theorem Inv.Lk {its:List Value} {t':Nat} (I:Inv X pins σ H s) (hv:bZ ys its) (hz:ys.length<=sizeLine) :
  Inv X pins σ (upd H s.heap.objs.size (.lst ys)) { s with heap:=s.heap.push { cls:=.type "list",data:=.seq its.toArray },toks:=t' } :=
 I.laid (fun _ _ q=>Heap.get?_push_of_some _ q) (Nat.le_refl _) ⟨hz,its,0,hv,Heap.get?_push_size _ rfl⟩
theorem Inv.fresh (I:Inv X pins σ H s):H s.heap.objs.size=none:=I.hok.fresh (Nat.le_refl _)
theorem Inv.AF (I:Inv X pins σ H s) (hH:H l=some (.lst xs)):xs.length<=sizeLine/\∃ (its:List Value) (n:Nat),bZ xs its/\xs.length=its.length/\s.heap.get? l=some { cls:=.type "list",data:=.seq its.toArray n }:=by
 obtain ⟨z,its,n,r,e⟩:=I.hok l _ hH
 exact ⟨z,its,n,r,r.length,e⟩
theorem zB {n:Nat} (h:n<=sizeLine):Builtin.List.listTooLong n=false:=by
 unfold Builtin.List.listTooLong
 exact decide_eq_false (by omega)
end
section
variable {X:Cx}
def Bk:V->List V->Hp->VK->Prop:=fun x vs H Q=>∃ l xs y,x=.ref l/\vs=[y]/\H l=some (.lst xs)/\xs.length < sizeLine/\Q .non (upd H l (.lst (xs++[y])))
theorem wN:MtM X "list.append" Bk:=by
 intro pins s σ H x vs v us Q I rx rv h
 obtain ⟨l,xs,y,rfl,rfl,hH,hz,q⟩:=h
 cases rx
 obtain ⟨u,rfl,ru⟩:=rv.one
 obtain ⟨z,its,n,r,hl,e⟩:=I.AF hH
 refine call_meets F.slot_list_append ⟨_,e,rfl⟩ F.entry_list_append (F.args_list_append_2 _ _) (PySem.list_append l its.toArray n u (by rw [List.size_toArray]; omega)) ⟨e,?_⟩
 refine ⟨.non,_,I.E4 (its':=its++[u]) hH e (by simp) (r.append (.cons ru .nil)) ?_,rfl,q⟩
 rw [List.length_append,List.length_singleton]
 omega
def Bj:V->List V->Hp->VK->Prop:=fun x vs H Q=>∃ l b xs zs,x=.ref l/\vs=[.ref b]/\H l=some (.lst xs)/\H b=some (.lst zs)/\xs.length+zs.length<=sizeLine/\Q .non (upd H l (.lst (xs++zs)))
theorem wM:MtM X "list.extend" Bj:=by
 intro pins s σ H x vs v us Q I rx rv h
 obtain ⟨l,b,xs,zs,rfl,rfl,hH,hB,hz,q⟩:=h
 cases rx
 obtain ⟨u,rfl,ru⟩:=rv.one
 cases ru
 obtain ⟨z,its,n,r,hl,e⟩:=I.AF hH
 obtain ⟨z2,its2,n2,r2,hl2,e2⟩:=I.AF hB
 have hsz:its.toArray.size+its2.toArray.size<=sizeLine:=by rw [List.size_toArray,List.size_toArray]; omega
 have hlong:¬ (!its.toArray.isEmpty&&Builtin.List.listTooLong (its.toArray.size+its2.toArray.size))=true:=by
  rw [zB hsz,Bool.and_false]
  exact Zf
 refine call_meets F.slot_list_extend ⟨_,e,rfl⟩ F.entry_list_extend (F.args_list_extend_2 _ _)
  (AutoSeq1.list_extend_list_list_0 l its.toArray n b its2.toArray n2 hlong (by rw [List.size_toArray]; omega) (by omega)) ⟨e,e2,?_⟩
 refine ⟨.non,_,I.E4 (its':=its++its2) hH e (by simp) (r.append r2) ?_,rfl,q⟩
 rw [List.length_append]
 omega
def KO:V->List V->Hp->VK->Prop:=fun x vs H Q=>∃ l xs y,x=.ref l/\vs=[]/\H l=some (.lst xs)/\xs[xs.length - 1]?=some y/\Q y (upd H l (.lst xs.dropLast))
theorem EW:MtM X "list.pop" KO:=by
 intro pins s σ H x vs v us Q I rx rv h
 obtain ⟨l,xs,y,rfl,rfl,hH,hy,q⟩:=h
 cases rx
 have hus:=rv.zero
 subst hus
 obtain ⟨z,its,n,r,hl,e⟩:=I.AF hH
 obtain ⟨u,hu,ru⟩:=r.get hy
 have hy':its.toArray[its.toArray.size - 1]?=some u:=by
  show its.toArray[its.length - 1]?=some u
  rw [<- Array.getElem?_toList,<- hl]
  exact hu
 refine call_meets F.slot_list_pop ⟨_,e,rfl⟩ F.entry_list_pop (F.args_list_pop_1 _) (MeetsSeq.list_pop_last l its.toArray n u hy' (by rw [List.size_toArray]; omega)) ⟨e,?_⟩
 refine ⟨y,_,I.E4 (its':=its.dropLast) hH e ?_ r.dropLast ?_,ru,q⟩
 ·show its.toArray.eraseIdxIfInBounds (its.toArray.size - 1)=its.dropLast.toArray
  rw [List.size_toArray,List.eraseIdxIfInBounds_toArray,uB]
 ·rw [List.length_dropLast]
  omega
def KY:R2:=fun x y H Q=>∃ l b xs zs,x=.ref l/\y=.ref b/\H l=some (.lst xs)/\H b=some (.lst zs)/\xs.length+zs.length<=sizeLine/\∀ p,H p=none->Q (.ref p) (upd H p (.lst (xs++zs)))
theorem EI:OpR X (binaryOp .Add) KY:=by
 intro pins s σ H x y v u Q I rx ry h
 obtain ⟨l,b,xs,zs,rfl,rfl,hH,hB,hz,q⟩:=h
 cases rx
 cases ry
 obtain ⟨z,its,n,r,hl,e⟩:=I.AF hH
 obtain ⟨z2,its2,n2,r2,hl2,e2⟩:=I.AF hB
 refine PySem.P.add_list e e2 ?_ (by rw [List.size_toArray,List.size_toArray]; omega)
 have ea:its.toArray++its2.toArray=(its++its2).toArray:=by simp
 rw [ea]
 exact ⟨.ref _,_,I.Lk (t':=s.toks) (r.append r2) (by rw [List.length_append]; omega),rfl,q _ I.fresh⟩
end
end L2
namespace Att
open PySem PySem.W PySem.Calls PyProof.Rows
theorem mD {P:Params} {h:Heap}:∀ (ns:List Int) (vs:List Value),WellAll P h vs (ns.map WData.int)->IntsAre vs ns:=by
 intro ns
 induction ns with
 | nil =>
  intro vs w
  rw [List.map_nil] at w
  cases w
  exact .nil
 | cons n ns ih =>
  intro vs w
  rw [List.map_cons] at w
  cases w with
  | cons a b =>
   cases a
   exact .cons _ _ (ih _ b)
theorem vv {l:OpenLaw} {n:Nat} (hn:l.most=some n) {P:Params} {h:Heap} {args:List WData} {vals:List Value}
  (hpre:l.row.toRowW.claim.pre args=true) (hwl:WellAll P h vals args) :
  ∃ a vs ns,vals=[Value.ref a]/\args=[WData.list (ns.map WData.int)]/\h.get? a=some { cls:=.type "list",data:=.seq vs.toArray }/\IntsAre vs ns/\ns.length<=n:=by
 have hsh:WShape.hasAll [] args [.list .int]=true:=(pre_splitW hpre).1
 have hc:l.pre.holds [] { args:=args }=true:=(pre_splitW hpre).2
 obtain ⟨d,r,rfl,h1,h2⟩:=hasAllW_cons hsh
 obtain rfl:=hasAllW_nil h2
 obtain ⟨xs,rfl,h3⟩:=hasW_list h1
 obtain ⟨ns,rfl⟩:=items_int h3
 have hlen:ns.length<=n:=by
  unfold OpenLaw.pre at hc
  have h4:(WTm.not (.lt (.lit (.int (n:Int))) (.len (.arg 0)))).holds [] { args:=[.list (ns.map .int)] }=true:=by
   have h4:=(holds_andW hc).1
   rw [hn] at h4
   exact h4
  have h5:=condW_of h4 (w_not (w_lt w_lit (w_len_list (w_arg rfl))))
  rw [List.length_map] at h5
  refine Nat.le_of_not_lt fun q=>?_
  have q':(n:Int) < ((ns.length:Nat):Int):=by omega
  first
   | (rw [decide_eq_true q'] at h5; exact absurd h5 (by decide))
   | (simp at h5; omega)
 cases hwl with
 | cons w1 w2 =>
  cases w2
  cases w1 with
  | list ho hall=>exact ⟨_,_,ns,rfl,rfl,ho,mD ns _ hall,hlen⟩
theorem we (l:OpenLaw) (args:List WData):l.row.toRowW.claim.post args (.bool true) args=true :=
 postW_of (r:=l.row.toRowW) (X:=(true == true))
  (show WShape.has [] (.bool true) .bool=true by first | rfl | decide | simp [WShape.has,WShape.arms,WShape.armsAll])
  (show (WTm.eq .res (.lit (.bool true))).value [] { args:=args,res:=some (.bool true),after:=args }=some (.bool (true == true)) from w_eq_bool (w_res rfl) w_lit) rfl
theorem su {l:OpenLaw} {n:Nat} {q:Program} {loose:List Str} {XP:(Str->Option Value)->Heap->Prop} {YP:World->Heap->Prop} {d:DefRec}
  (hn:l.most=some n) (hdf:d.params.defaults=[])
  (call:∀ (w:World) (s₀ s₁:Shared) (mg mb:Str->Option Value) (fa:Addr) (o:Obj) (pm cd doc:Value) (a:Addr) (vs:List Value) (ns:List Int),
    Ground q loose [] XP w s₀ mg mb s₁.heap->YP w s₁.heap ->
    s₁.heap.get? fa=some o->o.data=.func (docDef d.name d.params d.body d.scope pm cd doc)->s₁.heap.CodeRec cd d.name->mg d.name=some (.ref fa) ->
    s₁.heap.get? a=some { cls:=.type "list",data:=.seq vs.toArray }->IntsAre vs ns->ns.length<=n->s₁.gens=#[] ->
    codeAny (model l.prog w) callerA (.call (.ref fa) ⟨[.ref a],[]⟩) (fun r s'=>r=.ok (.ret (.bool true))/\OldK s₁.heap s'.heap/\s'.os=s₁.os/\AllBare s'.gens) s₁) :
  WalkO q loose XP YP l.row.toRowW d [] (fun f vs=>PySem.call f vs):=by
 intro w s₀ s₁ mg mb G Y fa o pm cd doc dV kV ho hd hcd hD hmg hg args vals as hpre hlay hrd hwl hlo
 obtain rfl:dV=.none:=Dflts.none hD hdf
 obtain rfl:kV=.none:=Dflts.noKw hD
 obtain ⟨a,vs,ns,rfl,rfl,hobj,hints,hlen⟩:=vv hn hpre hwl
 refine enter_call (codeAny_mono (call w s₀ s₁ mg mb fa o pm cd doc a vs ns G Y ho (fd_plain hd) hcd hmg hobj hints hlen hg) fun r s' hq=>?_)
 obtain ⟨rfl,h2,h3,h4⟩:=hq
 exact ⟨.inl ⟨.bool true,.bool true,[],rfl,fun _=>rfl,.bool true,we l _,fun _=>⟨List.Pairwise.nil,fun _ hm=>(nomatch hm)⟩⟩,h2,h3,h4⟩
end Att
namespace L2
open PySem PySem.Spec PyProof.Rows
theorem pJ:∀ {vs:List Value} {ns:List Int},IntsAre vs ns->bZ (ns.map V.int) vs
 | _,_,.nil=>.nil
 | _,_,.cons n t h=>.cons ⟨t,rfl⟩ (pJ h)
def Hm (H:Hp):Prop:=∀ b,H b=none\/∃ o xs,H b=some (.frz o (.lst xs))
theorem zK {P:Program} {w:World} {K:W.Frag} {mg mb:Str->Option Value} {CX:CXT} {k:Nat} {fa a:Addr} {fd:FuncData} {x:Str} {sp:Sp} {s₁:Shared} {vs:List Value} {ns:List Int}
  (KX:K.In s₁.heap) (hns:s₁.heap.Ns mainGlobals mg) (hb:s₁.heap.Ns builtinsNs mb) (hbb:∀ x:Str,x≠"__name__"->mb x=bootBuiltins x) (hlim:s₁.heap.NoLimit) (hg:s₁.gens=#[])
  (ha:s₁.heap.get? a=some { cls:=.type "list",data:=.seq vs.toArray }) (hi:IntsAre vs ns) (hl:ns.length<=sizeLine) (hr:fo k callerA)
  (F:∀ base:Heap,K.In base->base.Ns mainGlobals mg->dg P w K mg base CX k fa fd [x] sp) (hbind:∀ (s:Shared) (u:Value),BindsTo s fd ⟨[u],[]⟩ [(x,u)])
  (hsp:∀ H:Hp,Hm H->SqL K H a (ns.map V.int)->sp [.ref a] H (fun v _=>v=.bl true) fun _ _ _=>False)
  (hCX:∀ H e s',CX [] H s₁ (fun _ _ _=>False) e s'->False) :
  codeAny (model P w) callerA (.call (.ref fa) ⟨[.ref a],[]⟩) (fun r s'=>r=.ok (.ret (.bool true))/\OldK s₁.heap s'.heap/\s'.os=s₁.os/\AllBare s'.gens) s₁:=by
 have rv:=pJ hi
 have lenV:=hi.length
 have core:∀ H:Hp,Hm H->SqL K H a (ns.map V.int)->HOk P w H s₁.heap->(∀ b,H b≠none->b=a)->(H a≠none->K.lookup a=none) ->
   codeAny (model P w) callerA (.call (.ref fa) ⟨[.ref a],[]⟩) (fun r s'=>r=.ok (.ret (.bool true))/\OldK s₁.heap s'.heap/\s'.os=s₁.os/\AllBare s'.gens) s₁:=by
  intro H hO hS hok hA hK
  have base_of:∀ {b:Addr} {o:Obj},s₁.heap.get? b=some o->H b=none->(zO s₁.heap H).get? b=some o:=fun e n=>zN e n
  have noA:∀ {b:Addr} {o:Obj} {es:Array DictEntry} {ep:Nat},s₁.heap.get? b=some o->o.data=.dict es ep->H b=none:=fun {b o es ep} e d=>by
   cases q:H b with
   | none=>rfl
   | some u =>
    have e':b=a:=hA b (by rw [q]; simp)
    subst e'
    rw [ha] at e; cases e
    have d':Data.seq vs.toArray _=Data.dict es ep:=d
    cases d'
  have nsK:∀ {b:Addr} {m:Str->Option Value},s₁.heap.Ns b m->(zO s₁.heap H).Ns b m:=fun {b m} ⟨o,es,ep,e,d,r⟩=>⟨o,es,ep,base_of e (noA e d),d,r⟩
  have hKb:K.In (zO s₁.heap H):=fun b o e=>base_of (KX b o e) (by
   cases q:H b with
   | none=>rfl
   | some u =>
    have e':b=a:=hA b (by rw [q]; simp)
    subst e'
    rw [hK (by rw [q]; simp)] at e; cases e)
  have hM:Mod K mg (zO s₁.heap H):=⟨hKb,nsK hns,⟨mb,nsK hb,hbb⟩,let ⟨mc,h1,h2⟩:=hlim; ⟨mc,nsK h1,h2⟩⟩
  have e0:Dm P w K mg (zO s₁.heap H) callerA [] s₁ H:=⟨rfl,hM,fun b o e=>Ck e,Nat.le_of_eq (xu _ _),trivial,fun b hb=>absurd (show b ∈ ([]:List Addr) from hb) (by simp),hok,.of_eq hg⟩
  refine codeAny_mono ((F _ hKb (nsK hns)).run callerA [] s₁ H ⟨[.ref a],[]⟩ [.ref a] [.ref a] _ _ hr e0 (hbind s₁ (.ref a)) (.cons rfl .nil) (hsp H hO hS)) fun r s' h=>?_
  cases r with
  | error e=>exact (hCX H e s' h).elim
  | ok fl =>
   cases fl with
   | next=>exact False.elim h
   | brk=>exact False.elim h
   | cont=>exact False.elim h
   | ret u =>
    obtain ⟨v,H',os,bare,un,hok',r',q⟩:=h
    have q':v=.bl true:=q
    subst q'
    obtain rfl:u=Value.bool true:=r'
    refine ⟨rfl,OldK.of_keep fun b o e=>?_,os,bare⟩
    cases q:H b with
    | none=>exact un.keep b o e q (by intro z; exact absurd (show b ∈ ([]:List Addr) from z) (by simp)) (by simp)
    | some u =>
     rcases hO b with z | ⟨ob,xs,z⟩
     · rw [q] at z; cases z
     ·have z2:=un.uZ b ob _ z
      obtain ⟨e1,_⟩:=hok b _ z
      obtain ⟨e2,_⟩:=hok' b _ z2
      rw [e] at e1; cases e1
      exact e2
 cases hk:K.lookup a with
 | some o =>
  have e:=KX a o hk
  rw [ha] at e
  cases e
  refine core (fun _=>none) (fun _=>.inl rfl) (.inr ⟨_,vs.toArray,_,hk,rfl,rfl,rfl,by rw [List.size_toArray,lenV]; exact hl,by simpa using rv⟩) (fun b u z=>by have z':(none:Option HO)=some u:=z; cases z') (fun b z=>absurd rfl z) fun z=>absurd rfl z
 | none =>
  refine core (fun b=>if b=a then some (.frz { cls:=.type "list",data:=.seq vs.toArray } (.lst (ns.map V.int))) else none) (fun b=>?_) (.inl (.inr ⟨{ cls:=.type "list",data:=.seq vs.toArray },if_pos rfl⟩)) (fun b u z=>?_) (fun b z=>?_) fun _=>hk
  ·by_cases hb:b=a
   · exact .inr ⟨_,_,if_pos hb⟩
   · exact .inl (if_neg hb)
  ·by_cases hb:b=a
   ·have z':=(if_pos hb).symm.trans z
    cases z'
    subst hb
    exact ⟨ha,by rw [List.length_map]; exact hl,vs,_,rv,ha⟩
   ·have z':=(if_neg hb).symm.trans z
    cases z'
  ·by_cases hb:b=a
   · exact hb
   · exact absurd (if_neg hb) z
end L2
namespace L2
open PySem PySem.Spec PyProof.Rows
abbrev KOf {K:W.Frag} {h:Heap} (_:K.In h):W.Frag:=K
theorem A0 {l:PySem.W.OpenLaw} {n k:Nat} {q:Program} {loose:List Str} {XP:(Str->Option Value)->Heap->Prop} {YP:World->Heap->Prop} {d:DefRec} {K:Params->W.Frag} {CX:World->CXT} {sp:World->Sp} {x:Str}
    (hn:l.most=some n) (hn2:n<=sizeLine) (hdf:d.params.defaults=[]) (hr:fo k callerA)
    (hY:∀ (w:World) (h:Heap),YP w h->(K w.params).In h)
    (F : ∀ (w:World) (mg:Str->Option Value) (fa:Addr) (h:Heap),(K w.params).In h->h.Ns mainGlobals mg->mg d.name=some (.ref fa) ->
      ∃ fd:FuncData,(∀ (s:Shared) (u:Value),BindsTo s fd ⟨[u],[]⟩ [(x,u)]) /\
        ∀ base:Heap,(K w.params).In base->base.Ns mainGlobals mg->dg l.prog w (K w.params) mg base (CX w) k fa fd [x] (sp w))
    (hsp:∀ (w:World) (H:Hp) (a:Addr) (ns:List Int),ns.length<=n->Hm H->SqL (K w.params) H a (ns.map V.int)->sp w [.ref a] H (fun v _=>v=.bl true) fun _ _ _=>False)
    (hCX:∀ (w:World) (H:Hp) (s:Shared) (e:Value) (s':Shared),CX w [] H s (fun _ _ _=>False) e s'->False) :
    PySem.W.WalkO q loose XP YP l.row.toRowW d [] (fun f vs=>PySem.call f vs):=by
  refine Att.su hn hdf fun w s₀ s₁ mg mb fa o pm cd doc a vs ns G Y ho hd hcd hmg hobj hints hlen hg=>?_
  have KX:=hY w _ Y
  obtain ⟨fd,hb,hF⟩:=F w mg fa _ KX G.T.g hmg
  exact zK KX G.T.g G.T.b G.T.builtins G.T.nolimit hg hobj hints (Nat.le_trans hlen hn2) hr hF hb (fun H hO hS=>hsp w H a ns hlen hO hS) fun H e s'=>hCX w H s₁ e s'
theorem yx {l:PySem.W.OpenLaw} {n k:Nat} {q:Program} {loose:List Str} {XP:(Str->Option Value)->Heap->Prop} {YP:World->Heap->Prop} {d:DefRec} {K:Params->W.Frag} {CX:CXT} {sp:W.Frag->Sp} {x:Str}
    (hn:l.most=some n) (hn2:n<=sizeLine) (hdf:d.params.defaults=[]) (hr:fo k callerA)
    (hY:∀ (w:World) (h:Heap),YP w h->(K w.params).In h)
    (F : ∀ (w:World) (mg:Str->Option Value) (fa:Addr) (h:Heap),(K w.params).In h->h.Ns mainGlobals mg->mg d.name=some (.ref fa) ->
      ∃ fd:FuncData,(∀ (s:Shared) (u:Value),BindsTo s fd ⟨[u],[]⟩ [(x,u)]) /\
        ∀ base:Heap,(K w.params).In base->base.Ns mainGlobals mg->dg l.prog w (K w.params) mg base CX k fa fd [x] (sp (K w.params)))
    (hsp:∀ (K:W.Frag) (H:Hp) (a:Addr) (ns:List Int),ns.length<=n->Hm H->SqL K H a (ns.map V.int)->sp K [.ref a] H (fun v _=>v=.bl true) fun _ _ _=>False)
    (hCX:∀ (H:Hp) (s:Shared) (e:Value) (s':Shared),CX [] H s (fun _ _ _=>False) e s'->False) :
    PySem.W.WalkO q loose XP YP l.row.toRowW d [] (fun f vs=>PySem.call f vs) :=
  A0 (K:=K) (CX:=fun _=>CX) (sp:=fun w=>sp (K w.params)) hn hn2 hdf hr hY F (fun w H a ns h1 h2 h3=>hsp (K w.params) H a ns h1 h2 h3) fun _ H s e s'=>hCX H s e s'
end L2
/- THE LAST THEOREM (shape; LID,My.* are yours):
   My.Adr: a structure of the addresses that your layer names (classes,functions); My.Txt K t: a structure (Prop) of the equations over K;
   My.Ac:{K} {implicit addresses ..} (e1:nsIn K mainGlobals "law"=some (some (.ref f))) (e2:K.lookup f=some ⟨oc,od,.func (fnOf "law" "law" params body scope dV kV doc pm an cdv ct),sl⟩) (e3:codeIn K cdv "law"=true) ..:∃ t,My.Txt K t
(the tactic k_is has no namespace: write k_is) -/
namespace L2
open PySem PySem.Spec PyProof.Rows
def inClass (s:Stmt) (j:Nat):Stmt:=match s with
 | .ClassDef _ _ _ body _ _ _ _ _ _ _=>body.getD j (.Pass ⟨0,0,0,0⟩)
 | _=>.Pass ⟨0,0,0,0⟩
def aA (s:Stmt):Arguments:=match s with
 | .FunctionDef _ a _ _ _ _ _ _ _ _=>a
 | _=>{ posonlyargs:=[],args:=[],vararg:=none,kwonlyargs:=[],kw_defaults:=[],kwarg:=none,defaults:=[] }
def aw (s:Stmt):List Stmt:=match s with
 | .FunctionDef _ _ b _ _ _ _ _ _ _=>b
 | _=>[]
def ah (s:Stmt):Scope:=match s with
 | .FunctionDef _ _ _ _ _ _ sc _ _ _=>sc
 | _=>{ kind:=.function,names:=[],isGenerator:=false,isCoroutine:=false }
abbrev CX0:CXT:=fun _ _ _ _ _ _=>False
abbrev E0:XK:=fun _ _ _=>False
theorem oO {X:Cx}:nZ CX0 X E0:=fun _ _ _ _ _ _ _ h=>h.elim
structure Fun (K:W.Frag) (x qual:Str) (st:Stmt) (f:Addr) (fd:FuncData):Prop where
 ex:∃ (oc:Value) (od:Option Addr) (kV doc pm:Value) (an:Option Addr) (cdv ct:Value) (osl:Array (Option Value)),
  fd=PySem.W.fnOf x qual (aA st) (aw st) (ah st) .none kV doc pm an cdv ct/\K.lookup f=some ⟨oc,od,.func fd,osl⟩/\PySem.W.codeIn K cdv qual=true
 kp:W.keepIn K (.ref f)=true
section
variable {P:Program} {w:World} {K:W.Frag} {mg:Str->Option Value} {base:Heap}
theorem Fun.ok {x qual:Str} {st:Stmt} {f:Addr} {fd:FuncData} {N ps:List Str} {k:Nat} {sp:Sp} (F:Fun K x qual st f fd) (S:aS N ps (ah st)) (len:∀ vs H Q E,sp vs H Q E->vs.length=ps.length)
  (hbody:∀ (cdv:Value) (A:Around) (outer:List Env) (s:Shared) (H:Hp) (vs:List V) (Q:VK) (E:XK),fo k (A.deeper (envOfC qual (ah st) s.heap.objs.size f cdv))->sp vs H Q E ->
    ∃ t,PSs (xS CX0 P w K mg base N qual (ah st) f cdv A outer s H E).nox (aw st) t/\t { nx:=fun _ H'=>Q .non H',rt:=Q } (start N vs) H):dg P w K mg base CX0 (k+1) f fd ps sp:=by
 obtain ⟨oc,od,kV,doc,pm,an,cdv,ct,osl,rfl,lk,hcd⟩:=F.ex
 refine JQ lk hcd S len fun A outer s H vs Q E hr hsp=>?_
 obtain ⟨t,h,q⟩:=hbody cdv A outer s H vs Q E hr hsp
 exact ⟨t,h.nox,q⟩
theorem Fun.binds {x qual:Str} {st:Stmt} {f:Addr} {fd:FuncData} {ps:List Str} (F:Fun K x qual st f fd)
  (h:∀ (kV doc pm:Value) (an:Option Addr) (cdv ct:Value) (us:List Value),us.length=ps.length->bindArgs (PySem.W.fnOf x qual (aA st) (aw st) (ah st) .none kV doc pm an cdv ct) ⟨us,[]⟩=pure (ps.zip us)):Binds K fd ps []:=by
 obtain ⟨oc,od,kV,doc,pm,an,cdv,ct,osl,rfl,lk,hcd⟩:=F.ex
 exact .all (h kV doc pm an cdv ct)
theorem fC {x qual:Str} {st:Stmt} {f:Addr} {oc:Value} {od an:Option Addr} {osl:Array (Option Value)} {kV doc pm cdv ct:Value} (l:K.lookup f=some ⟨oc,od,.func (PySem.W.fnOf x qual (aA st) (aw st) (ah st) .none kV doc pm an cdv ct),osl⟩)
 (c:PySem.W.codeIn K cdv qual=true) (k:W.keepIn K (.ref f)=true):Fun K x qual st f (PySem.W.fnOf x qual (aA st) (aw st) (ah st) .none kV doc pm an cdv ct):=⟨⟨oc,od,kV,doc,pm,an,cdv,ct,osl,rfl,l,c⟩,k⟩
end
theorem gj {A:Around} {k:Nat} (hr:fo k A):A.units+1 < cLine:=Nat.lt_of_le_of_lt (Nat.add_le_add_left (by decide:1<=64) _) hr.units
section
variable {X:Cx}
theorem pv (i:Nat) {x:Str} {pos:Pos} (hN:X.N[i]?=some x:=by rfl) (hv:Vis X.env.scope x:=by first | exact Or.inl rfl | exact Or.inr (Or.inl rfl) | exact Or.inr (Or.inr rfl)) (hd:(x == ("__debug__":Str))=false:=by decide)
 (hcd:(x == ("__classdict__":Str))=false:=by decide):PE X (.Name x pos) (rm i):=fw hN hv hd hcd
end
theorem Hh {A B:Prop} (h:B):if false=true then A else B:=by
 rw [if_neg Zf]
 exact h
theorem JG {A B:Prop} (h:A):if true=true then A else B:=by
 rw [if_pos rfl]
 exact h
def bY (H H':Hp):Prop:=∀ b o,H b=some o->H' b=some o
theorem bY.refl (H:Hp):bY H H:=fun _ _ h=>h
theorem bY.trans {H H1 H2:Hp} (a:bY H H1) (b:bY H1 H2):bY H H2:=fun c o h=>b c o (a c o h)
theorem bY.free {H H':Hp} (e:bY H H') {l:Addr} (h:H' l=Option.none):H l=Option.none:=by
 cases q:H l with
 | none=>rfl
 | some o =>
  rw [e l o q] at h
  cases h
theorem bY.seq {K:W.Frag} {H H':Hp} {a:Addr} {xs:List V} (e:bY H H') (h:SqL K H a xs):SqL K H' a xs:=by
 rcases h with (h | ⟨o,h⟩) | h
 · exact .inl (.inl (e _ _ h))
 · exact .inl (.inr ⟨o,e _ _ h⟩)
 · exact .inr h
end L2
end
section
namespace L2
open PySem PySem.Spec PyProof.Rows
section
variable {X:Cx}
def Sz (i:Int):Prop:=i.natAbs < 2 ^ 4000
theorem Sz.bits {i:Int} (h:Sz i):Builtin.Int.intBits i<=2 ^ 20:=Nat.le_trans (PySem.intBits_le_iff.mpr h) (by decide)
theorem Sz.log {i:Int} (h:Sz i):i.natAbs.log2 < 9000:=by
 by_cases z:i.natAbs=0
 · rw [z]; decide
 · exact (Nat.log2_lt z).mpr (Nat.lt_trans h (Nat.pow_lt_pow_right (a:=2) (by decide) (show 4000 < 9000 by decide)))
theorem Ci:OpR X (binaryOp .FloorDiv) (rI (fun _ j=>j≠0/\Sz j) fun i j=>.int (i.fdiv j)):=opI fun _ _ _ _ _ _ _ hc q=>floordiv_int hc.1 q (.inl (PyProof.noPylong_of_log2 hc.2.log))
end
open PySem.W in
mutual
inductive RdD (K:W.Frag) (H:Hp):V->Dat->Prop where
 | non:RdD K H .non .none
 | int (i:Int):RdD K H (.int i) (.int i)
 | str (x:Str):RdD K H (.str x) (.str x)
 | tup {a:Addr} {xs:List V} {ds:List Dat} (h:SqT K H a xs) (r:ym K H xs ds):RdD K H (.ref a) (.tuple ds)
 | lst {a:Addr} {xs:List V} {ds:List Dat} (h:SqL K H a xs) (r:ym K H xs ds):RdD K H (.ref a) (.list ds)
inductive ym (K:W.Frag) (H:Hp):List V->List Dat->Prop where
 | nil:ym K H [] []
 | cons {x:V} {d:Dat} {xs:List V} {ds:List Dat} (h:RdD K H x d) (r:ym K H xs ds):ym K H (x::xs) (d::ds)
end
section
open PySem.W
variable {X:Cx} {pins:List (Addr×Obj)} {σ:St} {H:Hp} {s:Shared}
mutual
theorem RdD.reads (I:Inv X pins σ H s):∀ {v:V} {d:Dat} {u:Value},RdD X.K H v d->RelV v u->∃ as,Reads s.heap u (kqdP d) as
 | _,_,u,.non,rv=>by cases (show u=Value.none from rv); exact ⟨_,Reads.none⟩
 | _,_,u,.int i,rv=>by obtain ⟨t,rfl⟩:=(show ∃ t,u=Value.int i t from rv); exact ⟨_,Reads.int i t⟩
 | _,_,u,.str x,rv=>by obtain ⟨t,rfl⟩:=(show ∃ t,u=Value.str x t from rv); exact ⟨_,Reads.str x t⟩
 | _,_,u,@RdD.tup _ _ a xs ds h r,rv=>by
  cases (show u=Value.ref a from rv)
  obtain ⟨its,vs,p,_⟩:=I.tuple h
  obtain ⟨as,q⟩:=ym.reads I r vs
  obtain ⟨o,h1,h2,n,h3⟩:=p
  rw [kqdP]
  exact ⟨as,reads_tuple_at h1 h2 h3 (by simpa using q)⟩
 | _,_,u,@RdD.lst _ _ a xs ds h r,rv=>by
  cases (show u=Value.ref a from rv)
  obtain ⟨its,vs,p,_⟩:=I.list h
  obtain ⟨as,q⟩:=ym.reads I r vs
  obtain ⟨o,h1,h2,n,h3⟩:=p.isList
  rw [kqdP]
  exact ⟨a::as,reads_list_at h1 h2 h3 (by simpa using q)⟩
theorem ym.reads (I:Inv X pins σ H s):∀ {vs:List V} {ds:List Dat} {us:List Value},ym X.K H vs ds->bZ vs us->∃ as,ReadsAll s.heap us (kqdPs ds) as
 | _,_,_,.nil,.nil=>by rw [kqdPs]; exact ⟨_,ReadsAll.nil⟩
 | _,_,_,.cons h r,.cons rv rs=>by
  obtain ⟨as,q⟩:=RdD.reads I h rv
  obtain ⟨bs,p⟩:=ym.reads I r rs
  rw [kqdPs]
  exact ⟨_,ReadsAll.cons q p⟩
end
theorem iK {d:Dat} (h:kqdOk 9 d=true):SeqAt.shaped (kqdP d)=true:=by
 have la:=kqd_lay 9 d h
 unfold SeqAt.shaped
 rw [la.1,Bool.true_and]
 exact decide_eq_true (Nat.le_trans la.2 (by decide))
open Classical in
theorem xD {d e:Dat} (h:kqdOk 9 d=true) (h':kqdOk 9 e=true):PyData.eqv (kqdP d) (kqdP e)=decide (d=e):=by
 have q:=kqd_eqv 9 d e 9 h h'
 by_cases hq:d=e
 · rw [decide_eq_true hq]; exact q.mpr hq
 · rw [decide_eq_false hq]; exact Bool.eq_false_iff.mpr fun x=>hq (q.mp x)
open Classical in
noncomputable def eqD (d e:Dat):Bool:=decide (d=e)
open Classical in
theorem zR {d e:Dat} (h:d=e):eqD d e=true:=decide_eq_true h
open Classical in
theorem xE {d e:Dat} (h:d≠e):eqD d e=false:=decide_eq_false h
def KW (K:W.Frag):R2:=fun x y H Q=>∃ d e,RdD K H x d/\RdD K H y e/\kqdOk 9 d=true/\kqdOk 9 e=true/\Q (.bl (eqD d e)) H
def KP (K:W.Frag):R2:=fun x y H Q=>∃ d e,RdD K H x d/\RdD K H y e/\kqdOk 9 d=true/\kqdOk 9 e=true/\Q (.bl (!eqD d e)) H
theorem EH (hu:X.A.units+64 < cLine):OpR X (compareOp .Eq) (KW X.K):=by
 intro pins s σ H x y v u Q I rx ry h
 obtain ⟨d,e,hd,he,kd,ke,q⟩:=h
 obtain ⟨as,ra⟩:=hd.reads I rx
 obtain ⟨bs,rb⟩:=he.reads I ry
 refine eq_dataH ra rb (iK kd) (iK ke) hu ⟨.bl _,H,I,rfl,?_⟩
 rw [xD kd ke]
 exact q
theorem EF (hu:X.A.units+64 < cLine):OpR X (compareOp .NotEq) (KP X.K):=by
 intro pins s σ H x y v u Q I rx ry h
 obtain ⟨d,e,hd,he,kd,ke,q⟩:=h
 obtain ⟨as,ra⟩:=hd.reads I rx
 obtain ⟨bs,rb⟩:=he.reads I ry
 refine ne_dataH ra rb (iK kd) (iK ke) hu ⟨.bl _,H,I,rfl,?_⟩
 rw [xD kd ke]
 exact q
end
theorem bY.tup {K:W.Frag} {H H':Hp} {a:Addr} {xs:List V} (e:bY H H') (h:SqT K H a xs):SqT K H' a xs:=by
 rcases h with (h | ⟨o,h⟩) | h
 · exact .inl (.inl (e _ _ h))
 · exact .inl (.inr ⟨o,e _ _ h⟩)
 · exact .inr h
theorem aB {H:Hp} {p:Addr} (h:H p=none) (o:HO):bY H (upd H p o):=fun b u q=>by rw [ak (eG q h)]; exact q
end L2
namespace L2
theorem JF {b:Bool} {A B:Prop} (e:b=true) (h:A):if b=true then A else B:=by rw [if_pos e]; exact h
theorem ux {b:Bool} {A B:Prop} (e:b=false) (h:B):if b=true then A else B:=by rw [if_neg (by rw [e]; exact Zf)]; exact h
end L2
end
section
namespace L2
open PySem PySem.Spec PyProof.Rows
section
variable {prog:Program} {w:World} {A:Around} {R:Result->Shared->Prop} {s:Shared}
theorem qy {elt target iter:Expr} {scope:Scope} {pos:Pos} {it acc:Value} {env:Env} (I:Nat->Shared->Prop)
  (turn:∀ n s,I n s->wpAny (model prog w) A (pyNext it) (fun r s₁=>match r with
    | none=>R (.ok .next) s₁
    | some v=>wpAny (model prog w) A (letOwnedTupleGo target it v) (fun _ s₁'=>wpAny (model prog w) A (assign target env v) (fun _ s₂=>wpAny (model prog w) A (eval elt env) (fun x s₃ =>
     wpAny (model prog w) A (call (.builtin "list.append") [acc,x]) (fun _ s₄=>∃ m,m < n/\I m s₄) (fun _ _=>False) s₃) (fun _ _=>False) s₂) (fun _ _=>False) s₁') (fun _ _=>False) s₁) (fun _ _=>False) s)
  (n:Nat) (h:I n s) :
  codeAny (model prog w) A (.compLoop (.ListComp elt [⟨target,iter,[],0⟩] scope pos) 0 it acc env) R s:=by
 refine codeAny_loop rfl I (fun n s hI=>?_) n h
 show wpAny _ _ ((compTurn (.ListComp elt [⟨target,iter,[],0⟩] scope pos) 0 it acc env).onRaise (fun x=>do noteFrame x env; theTreesLotGoes x)) _ _ s
 refine wpAny_noted ?_
 rw [compTurn_list1]
 refine wpAny_bind (wpAny_standAt (wpAny_bind (wpAny_mono (turn n s hI) (fun r s₁ h₁=>?_) fun _ _ h'=>h'.elim)))
 cases r with
 | none=>exact wpAny_pure h₁
 | some v =>
  refine wpAny_bind (wpAny_mono h₁ (fun _ s₁' h₁'=>?_) fun _ _ h'=>h'.elim)
  exact wpAny_bind (wpAny_mono h₁' (fun _ s₂ h₂=>wpAny_bind (wpAny_bind (wpAny_mono h₂ (fun x s₃ h₃=>wpAny_bind (wpAny_mono h₃
    (fun _ s₄ h₄=>wpAny_pure (wpAny_pure ⟨rfl,h₄⟩)) fun _ _ h'=>h'.elim)) fun _ _ h'=>h'.elim))) fun _ _ h'=>h'.elim)
end
def bS (X:Cx) (scope:Scope) (cl:List (Str×Addr)) (N:List Str) (s:Shared) (H:Hp) (fp:List Addr) (C:Addr):Cx where
 prog:=X.prog
 w:=X.w
 K:=X.K
 mg:=X.mg
 base:=X.base
 A:=X.A
 N:=N
 s₀:=s
 H₀:=H
 env:=compEnvC scope cl C X.env
 outer:=X.stack
 stack:=X.stack
 ex:=fp
 calm:=X.calm
 fn:=fun _=>false
 pn:=[]
 xe:=fun _ _=>False
structure d6 (X:Cx) (scope:Scope) (cl:List (Str×Addr)) (x:Str) (cs:List (Str×Nat)):Prop where
 Hk:closureFor scope X.env=pure cl
 kind:scope.kind=.function
 sW:∀ y ∈ scope.names,y.2≠.cell
 names:∀ y ∈ scope.names,y.2=.local->scope.names.lookup y.1=some .local
 own:scope.names.lookup x=some .local
 sub:∀ y c,cl.lookup y=some c->X.env.cells.lookup y=some c
 has:∀ y,((relabel scope X.env).names.lookup y=some .cell\/(relabel scope X.env).names.lookup y=some .free)->∃ c,cl.lookup y=some c
 JV:∀ p ∈ cs,X.N[p.2]?=some p.1/\(X.env.kindOf p.1=some .cell\/X.env.kindOf p.1=some .free)/\((relabel scope X.env).names.lookup p.1=some .cell\/(relabel scope X.env).names.lookup p.1=some .free)
 nd:(x::cs.map (·.1)).Nodup
def aR (σ:St) (cs:List (Str×Nat)):St:=cs.map fun p=>(σ[p.2]?).join
section
variable {X:Cx} {pins:List (Addr×Obj)} {σ:St} {H:Hp} {s:Shared} {scope:Scope} {cl:List (Str×Addr)} {x:Str} {cs:List (Str×Nat)} {fp:List Addr} {C:Addr} {h':Heap} {t':Nat}
theorem nS (O:d6 X scope cl x cs) (I:Inv X pins σ H s) (f2:∀ b ∈ fp,uT X pins H b) (there:∀ b ∈ fp,b < s.heap.objs.size) (hC:s.heap.objs.size<=C)
  (old:∀ b o,s.heap.get? b=some o->h'.get? b=some o) (hn:h'.Ns C fun _=>none) :
  Inv (bS X scope cl (x::cs.map (·.1)) s H fp C) [] (none::aR σ cs) H { s with heap:=h',toks:=t' }:=by
 have FC:=I.u0 (H':=H) hC (I.hok.fresh hC)
 refine ⟨⟨I.ok.mod,O.kind,I.ok.glob,I.ok.blt,hC,fun y z c h1 h2=>I.ok.inj y z c (O.sub y c h1) (O.sub z c h2),fun y hy=>O.has y hy,fun _ _ h=>absurd (show false=true from h) Zf,I.ok.hd,I.ok.frames,.inl rfl,
   fun b hb=>⟨Nat.ne_of_lt (Nat.lt_of_lt_of_le (there b hb) hC),fun y c e=>(f2 b hb).2.2.2.2.1 y c (O.sub y c e)⟩,I.bs,Nat.le_trans I.ok.bsz I.sz,fun b o e hb=>?_,fun b hb z=>?_,I.stack,I.vp⟩,
  rfl,I.bare,Un.kept old,⟨_,hn,fun i y v e1 e2 e3=>?_⟩,fun y c e=>?_,I.hok.fresh hC,fun y c e=>I.mK y c (O.sub y c e),fun p hp=>absurd (show p ∈ ([]:List (Addr×Obj)) from hp) (by simp),I.hok.kept old,?_⟩
 ·rcases (f2 b hb).2.2.2.1 with z | z
  · exact I.ok.ET b o e z
  · exact absurd (Nat.lt_of_lt_of_le (Heap.lt_size e) (Nat.le_trans I.ok.bsz z)) (Nat.lt_irrefl _)
 · exact (List.mem_cons.mp (I.pO b z)).elim (f2 b hb).2.1 (f2 b hb).2.2.1
 ·cases i with
  | zero=>simp at e2
  | succ j =>
   have e1':(cs.map (·.1))[j]?=some y:=by simpa [bS] using e1
   have e2':(aR σ cs)[j]?=some (some v):=by simpa using e2
   unfold aR at e2'
   rw [List.getElem?_map] at e1' e2'
   cases q:cs[j]? with
   | none=>rw [q] at e1'; cases e1'
   | some p =>
    rw [q] at e1' e2'
    have ey:p.1=y:=by simpa using e1'
    have ev:(σ[p.2]?).join=some v:=by simpa using e2'
    have ev':σ[p.2]?=some (some v):=by
     cases z:σ[p.2]? with
     | none=>rw [z] at ev; cases ev
     | some o=>rw [z] at ev; exact congrArg some ev
    obtain ⟨c1,c2,c3⟩:=O.JV p (List.mem_of_getElem? q)
    subst ey
    obtain ⟨m,hm,hl⟩:=I.loc
    obtain ⟨u,ru,lk⟩:=hl p.2 p.1 v c1 ev' (by
     rcases c2 with c2 | c2
     · exact .inr (.inl c2)
     · exact .inr (.inr c2))
    obtain ⟨c',ec'⟩:=O.has p.1 c3
    refine ⟨u,ru,.inr ⟨c3,c',ec',?_⟩⟩
    rcases lk with ⟨k,_⟩ | ⟨_,c,ec,o,ho,hd⟩
    ·rcases c2 with c2 | c2
     · rw [c2] at k; cases k
     · rw [c2] at k; cases k
    ·have:=O.sub p.1 c' ec'
     rw [ec] at this
     cases this
     exact ⟨o,old _ o ho,hd⟩
 ·obtain ⟨v,o,ho,hd⟩:=I.cell y c (O.sub y c e)
  exact ⟨v,o,old c o ho,hd⟩
 · simp [bS,aR]
end
def DK (J:It) (te:TE) (cs:List (Str×Nat)) (σ:St) (Q:VK) (H1:Hp):Prop:=∃ W:Nat->Nat->List V->Hp->Prop,(∃ m,W 0 m [] H1)/\∀ i m ys H',W i m ys H' ->
 (J.stop i H'/\ys.length<=sizeLine/\∀ p,H' p=none->Q (.ref p) (upd H' p (.lst ys))) \/
 (J.go i H'/\ys.length < sizeLine/\∀ v H2,J.yld i H' v H2->te (some v::aR σ cs) H2 fun y H3=>∃ m',m' < m/\W (i+1) m' (ys++[y]) H3)
def DL (wi:TI) (te:TE) (cs:List (Str×Nat)):TE:=fun σ H Q=>wi σ H fun J H1=>DK J te cs σ Q H1
section
variable {X:Cx}
theorem uF {elt iter:Expr} {x:Str} {px pos:Pos} {scope:Scope} {cl:List (Str×Addr)} {cs:List (Str×Nat)} {te:TE} {pins:List (Addr×Obj)} {σ:St} {H:Hp} {s:Shared} {Q:VK} {it:Addr} {fp:List Addr} {tn:Nat->Heap->Prop} {J:It}
  {RR:Value->Addr->Result->Shared->Prop} {E:Value->Shared->Prop} (hc:X.calm=true) (O:d6 X scope cl x cs) (he:∀ s H fp C,PE (bS X scope cl (x::cs.map (·.1)) s H fp C) elt te)
  (I:Inv X pins σ H s) (T:Turn X.prog X.w X.K (.Name x px) J fp it tn) (st:tn 0 s.heap) (f2:∀ b ∈ fp,uT X pins H b)
  (h : ∃ W:Nat->Nat->List V->Hp->Prop,(∃ m,W 0 m [] H)/\∀ i m ys H',W i m ys H' ->
    (J.stop i H'/\ys.length<=sizeLine/\∀ p,H' p=none->Q (.ref p) (upd H' p (.lst ys))) \/
    (J.go i H'/\ys.length < sizeLine/\∀ v H2,J.yld i H' v H2->te (some v::aR σ cs) H2 fun y H3=>∃ m',m' < m/\W (i+1) m' (ys++[y]) H3))
  (hRR:∀ D C s' H' ys,s.heap.objs.size<=D->s.heap.objs.size<=C->D≠C->(∃ m,s'.heap.Ns C m)->Inv X pins σ (upd H' D (.lst ys)) s'->H' C=none->Q (.ref D) (upd H' D (.lst ys))->RR (.ref D) C (.ok .next) s') :
  wpAny (model X.prog X.w) X.A (newList []) (fun acc s₃=>wpAny (model X.prog X.w) X.A (newFunctionEnv scope X.env.globals cl [] X.env.qual none .none (some X.env)) (fun cenv s₄ =>
    codeAny (model X.prog X.w) X.A (.compStart (.ListComp elt [⟨.Name x px,iter,[],0⟩] scope pos) 0 (.ref it) acc { cenv with scope:=relabel scope X.env }) (RR acc cenv.locals) s₄) E s₃) E s:=by
 obtain ⟨W,⟨m0,w0⟩,turn⟩:=h
 refine wpAny_newObj_type (wpAny_newFunctionEnv O.sW (by intro y hy; simp at hy) (fun h₁ hns₁ hsb₁=>?_) O.kind)
 dsimp only at hns₁ hsb₁ ⊢
 generalize hH2:s.heap.push { cls:=.type "list",dict:=none,data:=.seq ([]:List Value).toArray }=H2 at hns₁ hsb₁ ⊢
 have hC:H2.objs.size=s.heap.objs.size+1:=by rw [<- hH2,Heap.size_push]
 have hDC:s.heap.objs.size≠H2.objs.size:=by rw [hC]; exact Nat.ne_of_lt (Nat.lt_succ_self _)
 have hCle:s.heap.objs.size<=H2.objs.size:=by rw [hC]; exact Nat.le_succ _
 have neC:∀ b,b < s.heap.objs.size->b≠H2.objs.size:=fun b hb=>by rw [hC]; exact Nat.ne_of_lt (Nat.lt_succ_of_lt hb)
 have old:∀ b o,s.heap.get? b=some o->h₁.get? b=some o:=fun b o e=>hsb₁.extBut b o (neC b (Heap.lt_size e)) (Heap.get?_push_of_some _ (hH2 ▸ Heap.get?_push_of_some _ e))
 have hacc:h₁.get? s.heap.objs.size=some { cls:=.type "list",data:=.seq ([]:List Value).toArray }:=hsb₁.extBut _ _ hDC (Heap.get?_push_of_some _ (hH2 ▸ Heap.get?_push_size _ rfl))
 have there:∀ b ∈ fp,b < s.heap.objs.size:=fun b hb=>by
  obtain ⟨o,e,_⟩:=T.obj _ _ st b hb
  exact Heap.lt_size e
 have hns:h₁.Ns H2.objs.size fun _=>none:=by
  have e:(fun x=>List.lookup x ([]:List (Str×Value)).reverse)=fun _=>none:=by funext y; rfl
  rw [e] at hns₁
  exact hns₁
 generalize hD:s.heap.objs.size=D at hDC hCle hacc
 generalize hCC:H2.objs.size=C at hDC hCle hns ⊢
 have FD:=I.u0 (b:=D) (H':=H) (by rw [<- hD]; exact Nat.le_refl _) (I.hok.fresh (by rw [<- hD]; exact Nat.le_refl _))
 have FC:=I.u0 (b:=C) (H':=H) (by rw [hD]; exact hCle) (I.hok.fresh (by rw [hD]; exact hCle))
 have nfpD:∀ b ∈ fp,b≠D:=fun b hb=>by rw [<- hD]; exact Nat.ne_of_lt (there b hb)
 have nfpC:∀ b ∈ fp,b≠C:=fun b hb=>Nat.ne_of_lt (Nat.lt_of_lt_of_le (there b hb) (by rw [hD]; exact hCle))
 have st1:tn 0 h₁:=T.keep _ _ _ st fun b _ o e=>old b o e
 have I1:Inv (bS X scope cl (x::cs.map (·.1)) s H fp C) [] (none::aR σ cs) H { s with heap:=h₁,toks:=s.toks+([]:List (Str×Value)).length } :=
  nS O I f2 there (by rw [hD]; exact hCle) old hns
 generalize hY:bS X scope cl (x::cs.map (·.1)) s H fp C=Y at I1
 have pgx:PG Y (.Name x px) (mI 0):=by
  subst hY
  exact gV (i:=0) O.nd rfl (.inl (lookup_relabel_local O.own)) (.inr (lookup_relabel_local O.own))
 have peY:PE Y elt te:=by subst hY; exact he _ _ _ _
 have Yx:Y.prog=X.prog/\Y.w=X.w/\Y.K=X.K/\Y.A=X.A/\Y.env=compEnvC scope cl C X.env/\Y.calm=X.calm/\Y.xe=(fun _ _=>False)/\Y.pn=[]/\Y.ex=fp/\Y.fs=frs X.stack/\Y.s₀=s/\Y.H₀=H:=by subst hY; exact ⟨rfl,rfl,rfl,rfl,rfl,rfl,rfl,rfl,rfl,rfl,rfl,rfl⟩
 obtain ⟨y1,y2,y3,y4,y5,y6,y7,y8,y9,y10,y11,y12⟩:=Yx
 have nstk:∀ b,b≠X.env.locals->b ∉ X.fs->b ∉ Y.fs:=fun b h1 h2 z=>by rw [y10] at z; exact (List.mem_cons.mp (I.pO b z)).elim h1 h2
 have yl:Y.env.locals=C:=by rw [y5]; rfl
 have yc:∀ z c,Y.env.cells.lookup z=some c->X.env.cells.lookup z=some c:=fun z c e=>by rw [y5] at e; exact O.sub z c e
 have stat:∀ {ps:List (Addr×Obj)} {H':Hp},(∀ b ∈ fp,H' b=none)->(∀ p ∈ ps,p.1=D)->∀ b ∈ fp,uT Y ps H' b:=fun {ps H'} hn hp b hb =>
  ⟨hn b hb,by rw [yl]; exact nfpC b hb,nstk b (f2 b hb).2.1 (f2 b hb).2.2.1,.inl (by rw [y9]; exact hb),fun z c e=>(f2 b hb).2.2.2.2.1 z c (yc z c e),fun p hq=>by
    rw [y8,List.nil_append] at hq
    rw [hp p hq]
    exact Ne.symm (nfpD b hb)⟩
 have pinD:∀ {σ':St} {H':Hp} {s':Shared} {ob:Obj},Inv Y [] σ' H' s'->H' D=none->s'.heap.get? D=some ob->(∀ v,ob.data≠.cell v)->Inv Y [(D,ob)] σ' H' s':=fun {σ' H' s' ob} I' hn e hd =>
  I'.jh fun p hp=>by
    have e1:p=(D,ob):=by simpa using hp
    subst e1
    exact ⟨e,hn,by rw [yl]; exact hDC,nstk D FD.2.1 FD.2.2.1,hd⟩
 have loop:∀ s₃:Shared,s₃={ s with heap:=h₁,toks:=s.toks+([]:List (Str×Value)).length } ->
    codeAny (model X.prog X.w) X.A (.compLoop (.ListComp elt [⟨.Name x px,iter,[],0⟩] scope pos) 0 (.ref it) (.ref D) (compEnvC scope cl C X.env)) (RR (.ref D) C) s₃:=by
  rintro s₃ rfl
  refine qy (fun n s'=>∃ i o H' ys its k,Inv Y [] (o::aR σ cs) H' s'/\tn i s'.heap/\(∀ b ∈ fp,H' b=none)/\H' D=none/\s'.heap.get? D=some { cls:=.type "list",data:=.seq (its:List Value).toArray k }/\bZ ys its/\W i n ys H') ?_ m0
    ⟨0,none,H,[],[],0,I1,st1,fun b hb=>(f2 b hb).1,FD.1,hacc,.nil,w0⟩
  rintro n s3 ⟨i,o,H3,ys,its,k,I3,st3,fr3,frD,e3,vs3,w3⟩
  have I3p:=pinD I3 frD e3 (by intro v z; cases z)
  have onlyD:∀ p ∈ [(D,({ cls:=.type "list",data:=.seq its.toArray k }:Obj))],p.1=D:=fun p hp=>by
    have e1:p=_:=List.mem_singleton.mp hp
    rw [e1]
  rcases turn i n ys H3 w3 with ⟨stop,hz,q⟩ | ⟨go,hz,step⟩
  · have dn:=T.done Y y1 y2 y3 (by rw [y6]; exact hc) i _ s3 (o::aR σ cs) H3 (fun _ _=>False) I3p (stat fr3 onlyD) st3 stop
    rw [y4] at dn
    refine thn dn fun r s4 ⟨hr,I4⟩=>?_
    subst hr
    obtain ⟨e4,_⟩:=I4.pin (D,_) (List.mem_append_right _ (List.mem_singleton.mpr rfl))
    have b4:=I4.base
    rw [y9,y10,y11,y12] at b4
    have hk4:=I4.hok
    rw [y1,y2] at hk4
    have hCn:H3 C=none:=by have:=I4.free; rw [yl] at this; exact this
    refine hRR D C s4 H3 ys (by rw [<- hD]; exact Nat.le_refl _) (by rw [hD]; exact hCle) hDC (by obtain ⟨m,hm,_⟩:=I4.loc; rw [yl] at hm; exact ⟨m,hm⟩) ?_ hCn (q D frD)
    have neD:∀ b o,s.heap.get? b=some o->b≠D:=fun b o e=>by rw [<- hD]; exact Nat.ne_of_lt (Heap.lt_size e)
    have neDH:∀ b u,H b=some u->b≠D:=fun b u e=>by rw [<- hD]; exact Nat.ne_of_lt (I.hok.lt e)
    refine I.FQ (ch:=fp) (by have:=I4.os; rw [y11] at this; exact this) ⟨b4.keep,b4.slot,fun b o e n hx=>?_,b4.there,fun b xs e=>?_,fun b o u e=>?_,fun b ps e=>?_⟩ (fun b u e=>?_) I4.bare fun b hb=>?_
    · rw [ak (neD b o e)]; exact b4.free b o e n hx
    · rw [ak (neDH b _ e)]; exact b4.vg b xs e
    · rw [ak (neDH b _ e)]; exact b4.uZ b o u e
    · rw [ak (neDH b _ e)]; exact b4.vj b ps e
    ·have t1:∀ c u,H3 c=some u->upd H3 D (.lst ys) c=some u:=fun c u z=>by
      rw [ak (fun zz=>by rw [zz,frD] at z; cases z)]
      exact z
     by_cases hb:b=D
     ·subst hb
      rw [au] at e
      cases e
      exact ⟨hz,its,k,vs3,e4⟩
     ·rw [ak hb] at e
      exact (hk4 b u e).yq (fun _ _ _ z=>z) (fun c z=>t1 c _ z) fun c xs z=>t1 c _ z
    · exact ⟨(f2 b hb).2.2.2.1,(f2 b hb).2.1,(f2 b hb).2.2.2.2.1,(f2 b hb).2.2.2.2.2⟩
  · have im:=T.item Y y1 y2 y3 (by rw [y6]; exact hc) i _ s3 (o::aR σ cs) H3 (fun _ _=>False) I3p (stat fr3 onlyD) st3 go
    rw [y4] at im
    refine thn im fun r s4 ⟨u,hr,h4⟩=>?_
    subst hr
    refine thn h4 fun _ s5 ⟨v,H5,I5,r5,y5',st5,fr5⟩=>?_
    have I5':=I5.pinned (stat fr5 onlyD) (T.obj _ _ st5)
    have as:=pgx _ s5 (o::aR σ cs) H5 v u _ I5' r5 (show mI 0 v (o::aR σ cs) H5 (fun σ' H'=>σ'=some v::aR σ cs/\H'=H5) from ⟨rfl,rfl⟩)
    rw [y1,y2,y4,y5,y7] at as
    refine thn as fun _ s6 ⟨σ6,H6,I6,e6,e6'⟩=>?_
    subst e6 e6'
    have el:=peY _ s6 _ H6 _ I6 (step v H6 y5')
    rw [y1,y2,y4,y5,y7] at el
    refine thn el fun u7 s7 ⟨y7',H7,I7,r7,m',hm',w7⟩=>?_
    obtain ⟨e7,n7,_⟩:=I7.pin (D,_) (List.mem_append_right _ (List.mem_append_left _ (List.mem_singleton.mpr rfl)))
    have hl3:=vs3.length
    refine call_meets F.slot_list_append ⟨_,e7,rfl⟩ F.entry_list_append (F.args_list_append_2 _ _) (PySem.list_append D its.toArray k u7 (by rw [List.size_toArray]; omega)) ⟨e7,?_⟩
    obtain ⟨k',up⟩:∃ k',(s7.heap.update D (Obj.mapSeq (·.push u7))).get? D=some { cls:=.type "list",data:=.seq (its.toArray.push u7) k' }:=⟨_,PySem.IsL.update e7 (·.push u7)⟩
    have fpk:∀ b ∈ fp,∀ o,s5.heap.get? b=some o->s7.heap.get? b=some o/\H7 b=none:=fun b hb o e=>by
     obtain ⟨z1,z2,_⟩:=I7.pin (b,o) (List.mem_append_right _ (List.mem_append_right _ (fO hb e)))
     exact ⟨z1,z2⟩
    have I7n:Inv Y [] (some v::aR σ cs) H7 s7:=I7.jh fun p hp=>absurd hp (by simp)
    refine ⟨m',hm',i+1,some v,H7,ys++[y7'],its++[u7],k',?_,?_,?_,n7,?_,vs3.append (.cons r7 .nil),w7⟩
    ·refine I7n.turned (it:=D) (fun b o hb e=>(Heap.get?_update_other s7.heap (Obj.mapSeq (·.push u7)) (Ne.symm hb)).trans e) n7 (by rw [yl]; exact hDC) (.inr (by rw [y11,<- hD]; exact Nat.le_refl _)) (fun z c e=>FD.2.2.2.2.1 z c (yc z c e)) fun p hp=>?_
     rw [y8] at hp
     exact absurd hp (by simp)
    ·refine T.keep _ _ _ st5 fun b hb o e=>?_
     exact (Heap.get?_update_other s7.heap (Obj.mapSeq (·.push u7)) (Ne.symm (nfpD b hb))).trans (fpk b hb o e).1
    ·intro b hb
     obtain ⟨o',e',_⟩:=T.obj _ _ st5 b hb
     exact (fpk b hb o' e').2
    ·rw [List.push_toArray] at up
     exact up
 exact codeAny_compStart_list (loop _ rfl) (T.self _ 0 _ _ _ st1 (loop _ rfl))
theorem B2 {elt iter:Expr} {x:Str} {px pos:Pos} {scope:Scope} {cl:List (Str×Addr)} {cs:List (Str×Nat)} {wi:TI} {te:TE} (hc:X.calm=true) (O:d6 X scope cl x cs) (hi:PI X (.Name x px) iter wi)
  (he:∀ s H fp C,PE (bS X scope cl (x::cs.map (·.1)) s H fp C) elt te) (hs:∀ x,foldedSetIterable iter X.env x=pure x:=by intro _; rfl) :
  PE X (.ListComp elt [⟨.Name x px,iter,[],0⟩] scope pos) (DL wi te cs):=by
 intro pins s σ H Q I h
 rw [eval_ListComp]
 refine wpAny_comprehension_free (use:=none) rfl hs O.Hk O.kind O.names (thn (hi pins s σ H _ I h) fun v s1 h1=>thn h1 fun itv s2 h2=>?_)
 obtain ⟨it,fp,tn,J,H2,rfl,I2,T,st2,f2,hw⟩:=h2
 refine uF hc O he I2 T st2 f2 hw fun D C s' H' ys hD hC hDC ⟨m,hm⟩ I' hn q=>?_
 refine ⟨m,hm,fun h' hs'=>?_⟩
 have hn':upd H' D (.lst ys) C=none:=by rw [ak (Ne.symm hDC)]; exact hn
 have FC:=I2.u0 (b:=C) hC hn'
 exact ⟨.ref D,upd H' D (.lst ys),I'.turned (it:=C) (t':=s'.toks) (fun b o hb e=>(hs'.2 b hb).trans e) hn' FC.2.1 FC.2.2.2.1 FC.2.2.2.2.1 FC.2.2.2.2.2,rfl,q⟩
end
theorem Df {X:Cx} {scope:Scope} {x:Str} (h1:scope.kind=.function) (h2:∀ y ∈ scope.names,y.2≠.cell) (h3:∀ y ∈ scope.names,y.2≠.free) (h4:∀ y ∈ scope.names,y.2=.local->scope.names.lookup y.1=some .local) (h5:scope.names.lookup x=some .local) :
  d6 X scope [] x [] where
 Hk:=closureFor_none h3
 kind:=h1
 sW:=h2
 names:=h4
 own:=h5
 sub:=fun _ _ e=>by cases e
 has := fun y hy=>by
  have rel:(relabel scope X.env).names=scope.names:=by
   unfold relabel
   exact map_eq_self fun z hz=>by
    obtain ⟨n,k⟩:=z
    have:(k == NameKind.free)=false:=by simpa using h3 _ hz
    simp [this]
  rw [rel] at hy
  rcases hy with hy | hy
  · exact absurd rfl (h2 _ (PySem.mem_of_lookup hy))
  · exact absurd rfl (h3 _ (PySem.mem_of_lookup hy))
 JV:=fun _ h=>by cases h
 nd:=by simp
section
variable {κ:Type} [DecidableEq κ]
def dD (kvs:List (κ×V)) (k:κ):Option V:=(kvs.find? fun kv=>decide (kv.1=k)).map (·.2)
def putK (kvs:List (κ×V)) (k:κ) (v:V):List (κ×V) :=
 if (kvs.any fun kv=>decide (kv.1=k))=true then kvs.map (fun kv=>if kv.1=k then (kv.1,v) else kv) else kvs++[(k,v)]
theorem cL {p:κ×V} {r:List (κ×V)} {k:κ} (e:p.1=k):dD (p::r) k=some p.2:=by simp [dD,List.find?_cons,e]
theorem cM {p:κ×V} {r:List (κ×V)} {k:κ} (e:¬ p.1=k):dD (p::r) k=dD r k:=by simp [dD,List.find?_cons,e]
theorem jH (k:κ):∀ kvs:List (κ×V),(kvs.any fun kv=>decide (kv.1=k))=(dD kvs k).isSome
 | []=>rfl
 | p::r=>by
  rw [List.any_cons]
  by_cases e:p.1=k
  · simp only [cL e,decide_eq_true e,Bool.true_or,Option.isSome_some]
  · rw [cM e,decide_eq_false e,Bool.false_or]; exact jH k r
theorem sE (k j:κ) (y:V):∀ kvs:List (κ×V),dD (kvs.map fun kv=>if kv.1=k then (kv.1,y) else kv) j=(dD kvs j).map fun x=>if j=k then y else x
 | []=>rfl
 | p::r=>by
  have ih:=sE k j y r
  rw [List.map_cons]
  by_cases h:p.1=k
  ·rw [if_pos h]
   by_cases e:p.1=j
   · rw [cL (p:=(p.1,y)) e,cL e,Option.map_some,if_pos (e.symm.trans h)]
   · rw [cM (p:=(p.1,y)) e,cM e,ih]
  ·rw [if_neg h]
   by_cases e:p.1=j
   · rw [cL (p:=p) e,cL e,Option.map_some,if_neg (fun z=>h (e.trans z))]
   · rw [cM (p:=p) e,cM e,ih]
theorem pK (k j:κ) (y:V):∀ kvs:List (κ×V),dD kvs k=none->dD (kvs++[(k,y)]) j=if j=k then some y else dD kvs j
 | [],_=>by
  by_cases e:k=j
  · rw [if_pos e.symm]; exact cL (p:=(k,y)) e
  · rw [if_neg (fun z=>e z.symm)]; exact cM (p:=(k,y)) e
 | p::r,hn=>by
  rw [List.cons_append]
  have hk:¬ p.1=k:=fun z=>by rw [cL z] at hn; cases hn
  rw [cM hk] at hn
  have ih:=pK k j y r hn
  by_cases e:p.1=j
  · rw [cL e,cL e,if_neg (fun z=>hk (e.trans z))]
  · rw [cM e,cM e,ih]
theorem yz (kvs:List (κ×V)) (k j:κ) (y:V):dD (putK kvs k y) j=if j=k then some y else dD kvs j:=by
 unfold putK
 by_cases a:(kvs.any fun kv=>decide (kv.1=k))=true
 ·rw [if_pos a,sE]
  rw [jH] at a
  by_cases e:j=k
  ·obtain ⟨x,hx⟩:=Option.isSome_iff_exists.mp a
   rw [if_pos e,e,hx,Option.map_some,if_pos rfl]
  ·rw [if_neg e]
   cases dD kvs j with
   | none=>rfl
   | some x=>rw [Option.map_some,if_neg e]
 ·rw [if_neg a]
  refine pK k j y kvs ?_
  rw [jH] at a
  cases q:dD kvs k with
  | none=>rfl
  | some x=>rw [q] at a; exact (a rfl).elim
theorem ji (kvs:List (κ×V)) (k:κ) (v:V):(putK kvs k v).length<=kvs.length+1:=by
 unfold putK
 split
 · rw [List.length_map]; omega
 · rw [List.length_append,List.length_cons,List.length_nil]; omega
theorem rg.hG {o:Option V} {u:Option Value} (r:rg o u):o.isSome=u.isSome:=by
 cases o with
 | none=>cases u with
  | none=>rfl
  | some _=>exact (show False from r).elim
 | some _=>cases u with
  | none=>exact (show False from r).elim
  | some _=>rfl
theorem KV.val {kvs:List (κ×V)} {vs:List (κ×Value)} (r:KV kvs vs) (k:κ):rg (dD kvs k) (valueAt vs k):=by
 unfold KV at r
 induction r with
 | nil=>exact True.intro
 | @cons p q ps qs h t ih =>
  obtain ⟨h1,h2⟩:=h
  by_cases e:p.1=k
  ·have e':q.1=k:=h1.symm.trans e
   have b:valueAt (q::qs) k=some q.2:=by simp [valueAt,List.find?_cons,e']
   rw [cL e,b]; exact h2
  ·have e':¬ q.1=k:=fun z=>e (h1.trans z)
   have b:valueAt (q::qs) k=valueAt qs k:=by simp [valueAt,List.find?_cons,e']
   rw [cM e,b]; exact ih
theorem KV.any {kvs:List (κ×V)} {vs:List (κ×Value)} (r:KV kvs vs) (k:κ):(kvs.any fun kv=>decide (kv.1=k))=vs.any fun kv=>decide (kv.1=k):=by
 unfold KV at r
 induction r with
 | nil=>rfl
 | cons h t ih=>rw [List.any_cons,List.any_cons,ih,h.1]
theorem KV.HI {kvs:List (κ×V)} {vs:List (κ×Value)} (r:KV kvs vs) (k:κ) {y:V} {u:Value} (ry:RelV y u) :
  KV (kvs.map fun kv=>if kv.1=k then (kv.1,y) else kv) (vs.map fun kv=>if kv.1=k then (kv.1,u) else kv):=by
 unfold KV at r ⊢
 induction r with
 | nil=>exact .nil
 | @cons p q ps qs h t ih =>
  rw [List.map_cons,List.map_cons]
  refine .cons ?_ ih
  obtain ⟨h1,h2⟩:=h
  by_cases e:p.1=k
  · rw [if_pos e,if_pos (h1.symm.trans e)]; exact ⟨h1,ry⟩
  · rw [if_neg e,if_neg (fun z=>e (h1.trans z))]; exact ⟨h1,h2⟩
theorem KV.put {kvs:List (κ×V)} {vs:List (κ×Value)} (r:KV kvs vs) (k:κ) {y:V} {u:Value} (ry:RelV y u):KV (putK kvs k y) (stored vs k u):=by
 unfold putK stored
 rw [r.any k]
 by_cases e:(vs.any fun kv=>decide (kv.1=k))=true
 · rw [if_pos e,if_pos e]; exact r.HI k ry
 · rw [if_neg e,if_neg e]; exact Paired.snoc r ⟨rfl,ry⟩
theorem KV.length {kvs:List (κ×V)} {vs:List (κ×Value)} (r:KV kvs vs):kvs.length=vs.length:=Paired.length r
end
theorem uw {P:Program} {w:World} {k:Key} {u:Value} (r:RelV (kV k) u):(bO P w).is k u=true:=by
 cases k with
 | inl i=>obtain ⟨t,e⟩:=(show ∃ t,u=Value.int i t from r); subst e; exact rM P w i t
 | inr x=>obtain ⟨t,e⟩:=(show ∃ t,u=Value.str x t from r); subst e; exact rL P w x t
theorem qt {P:Program} {w:World}:∀ {ks:List Key} {us:List Value},bZ (ks.map kV) us->ItemsAre (bO P w) ks us
 | [],_,r=>by rw [List.map_nil] at r; cases r; exact .nil
 | k::ks,_,r=>by
  rw [List.map_cons] at r
  cases r with
  | cons h t=>exact .cons (uw h) (qt t)
abbrev KT (H:Hp):List (List Key×V)->List (List Key×Addr×Value)->Prop:=Paired fun p q=>p.1=q.1/\H q.2.1=some (.tup (p.1.map kV))/\RelV p.2 q.2.2
theorem KT.val {H:Hp} {kvs:List (List Key×V)} {xs:List (List Key×Addr×Value)} (r:KT H kvs xs) (k:List Key):rg (dD kvs k) ((atKey xs k).map (·.2)):=by
 induction r with
 | nil=>exact True.intro
 | @cons p q ps qs h t ih =>
  obtain ⟨h1,_,h2⟩:=h
  by_cases e:p.1=k
  ·have e':q.1=k:=h1.symm.trans e
   have b:atKey (q::qs) k=some q.2:=by simp [atKey,List.find?_cons,e']
   rw [cL e,b]; exact h2
  ·have e':¬ q.1=k:=fun z=>e (h1.trans z)
   have b:atKey (q::qs) k=atKey qs k:=by simp [atKey,List.find?_cons,e']
   rw [cM e,b]; exact ih
theorem KT.HI {H:Hp} {kvs:List (List Key×V)} {xs:List (List Key×Addr×Value)} (r:KT H kvs xs) (k:List Key) {y:V} {u:Value} (ry:RelV y u) :
  KT H (kvs.map fun kv=>if kv.1=k then (kv.1,y) else kv) (xs.map (putAt k u)):=by
 induction r with
 | nil=>exact .nil
 | @cons p q ps qs h t ih =>
  rw [List.map_cons,List.map_cons]
  refine .cons ?_ ih
  obtain ⟨h1,h2,h3⟩:=h
  unfold putAt
  by_cases e:p.1=k
  · rw [if_pos e,if_pos (h1.symm.trans e)]; exact ⟨h1,h2,ry⟩
  · rw [if_neg e,if_neg (fun z=>e (h1.trans z))]; exact ⟨h1,h2,h3⟩
theorem KT.put {H:Hp} {kvs:List (List Key×V)} {xs:List (List Key×Addr×Value)} (r:KT H kvs xs) (k:List Key) {b:Addr} {y:V} {u:Value} (hb:H b=some (.tup (k.map kV))) (ry:RelV y u) :
  KT H (putK kvs k y) (storedH xs k b u):=by
 have e:(kvs.any fun kv=>decide (kv.1=k))=(atKey xs k).isSome:=by
  rw [jH,(r.val k).hG,Option.isSome_map]
 unfold putK storedH
 rw [e]
 by_cases q:(atKey xs k).isSome=true
 · rw [if_pos q,if_pos q]; exact r.HI k ry
 · rw [if_neg q,if_neg q]; exact Paired.snoc r ⟨rfl,hb,ry⟩
theorem KT.keeps {H H':Hp} {kvs:List (List Key×V)} {xs:List (List Key×Addr×Value)} (r:KT H kvs xs) (ht:∀ b ys,H b=some (.tup ys)->H' b=some (.tup ys)):KT H' kvs xs :=
 Paired.JC r fun _ _ z=>⟨z.1,ht _ _ z.2.1,z.2.2⟩
section
variable {P:Program} {w:World} {H:Hp} {h:Heap} {a:Addr}
theorem D0 {u:HO} (ok:HOk P w H h) (e:Rd H a u):dA P w H h a u:=e.ok ok
theorem uC {kvs:List (Key×V)} (ok:HOk P w H h) (e:Rd H a (.dK kvs)):kvs.length<=sizeLine/\(a == sysModules)=false/\∃ vs,KV kvs vs/\h.DictOf (bO P w) a vs :=
 show dA P w H h a (.dK kvs) from D0 ok e
theorem xH {kvs:List (Key×V)} (ok:HOk P w H h) (e:H a=some (.dK kvs)):kvs.length<=sizeLine/\(a == sysModules)=false/\∃ vs,KV kvs vs/\h.DictOf (bO P w) a vs:=uC ok (.inl e)
theorem qq {ks:List Key} (ok:HOk P w H h) (e:H a=some (.tup (ks.map kV))):(tupleKind (bO P w)).is h ks a:=by
 obtain ⟨_,its,r,o,h1,h2,n,h3⟩:=(show dA P w H h a (.tup (ks.map kV)) from ok a _ e)
 exact ⟨o,its.toArray,n,h1,h2,h3,by simpa using qt r⟩
theorem xF {kvs:List (List Key×V)} (ok:HOk P w H h) (e:Rd H a (.dT kvs)):kvs.length<=sizeLine/\(a == sysModules)=false /\
  ∃ xs,KT H kvs xs/\h.DictOfH (tupleKind (bO P w)) a xs:=by
 obtain ⟨z,y,xs,r,o,es,ep,h1,h2,h3,h4,h5⟩:=(show dA P w H h a (.dT kvs) from D0 ok e)
 refine ⟨z,y,xs,r,o,es,ep,h1,h2,h3,h4,fun x hx=>?_,h5⟩
 have all:∀ {l:List (List Key×V)} {m:List (List Key×Addr×Value)},KT H l m->∀ x ∈ m,(tupleKind (bO P w)).is h x.1 x.2.1:=by
  intro l m q
  induction q with
  | nil=>intro x hx; exact nomatch hx
  | @cons p q ps qs hq t ih =>
   intro x hx
   rcases List.mem_cons.mp hx with e | hx
   ·subst e
    exact qq ok (by rw [<- hq.1]; exact hq.2.1)
   · exact ih x hx
 exact all r x hx
theorem JS {kvs:List (List Key×V)} (ok:HOk P w H h) (e:H a=some (.dT kvs)):kvs.length<=sizeLine/\(a == sysModules)=false /\
 ∃ xs,KT H kvs xs/\h.DictOfH (tupleKind (bO P w)) a xs:=xF ok (.inl e)
end
def uU (H:Hp) (a:Addr) (y:V) (r:Option V):Prop :=
 (∃ kvs k,Rd H a (.dK kvs)/\y=kV k/\r=dD kvs k)\/∃ kvs k b,Rd H a (.dT kvs)/\y=.ref b/\H b=some (.tup (k.map kV))/\r=dD kvs k
def Dn (H:Hp) (a:Addr) (y v:V) (H':Hp):Prop :=
 (∃ kvs k,H a=some (.dK kvs)/\y=kV k/\kvs.length < sizeLine/\H'=upd H a (.dK (putK kvs k v))) \/
 ∃ kvs k b,H a=some (.dT kvs)/\y=.ref b/\H b=some (.tup (k.map kV))/\kvs.length < sizeLine/\H'=upd H a (.dT (putK kvs k v))
theorem uU.k {H:Hp} {a:Addr} {kvs:List (Key×V)} {k:Key} (e:H a=some (.dK kvs)):uU H a (kV k) (dD kvs k):=.inl ⟨kvs,k,.inl e,rfl,rfl⟩
theorem Dn.k {H:Hp} {a:Addr} {kvs:List (Key×V)} {k:Key} {v:V} (e:H a=some (.dK kvs)) (hl:kvs.length < sizeLine):Dn H a (kV k) v (upd H a (.dK (putK kvs k v))):=.inl ⟨kvs,k,e,rfl,hl,rfl⟩
section
variable {X:Cx} {pins:List (Addr×Obj)} {σ:St} {H:Hp} {s:Shared} {a:Addr} {y v:V} {u r:Value} {o:Option V} {A:Around} {E:Value->Shared->Prop}
theorem Inv.big (I:Inv X pins σ H s):sysModules < s.heap.objs.size:=by
 have h:mainGlobals < s.heap.objs.size:=(I.mod.glob.keeps I.bk).lt
 exact Nat.lt_trans (by decide) h
theorem xO {Q:Value->Shared->Prop} (hu:A.units+1 < cLine) (I:Inv X pins σ H s) (g:uU H a y (some v)) (ry:RelV y u) (h:∀ w' s',Inv X pins σ H s'->RelV v w'->Q w' s') :
  wpAny (model X.prog X.w) A (getItem (.ref a) u) Q E s:=by
 rcases g with ⟨kvs,k,e,ey,l⟩ | ⟨kvs,k,b,e,ey,eb,l⟩
 ·subst ey
  obtain ⟨z,hd,vs,rel,dd⟩:=uC I.hok e
  obtain ⟨w',hw,rw'⟩:=rg.some_of (v:=v) (o:=valueAt vs k) (by rw [l]; exact rel.val k)
  exact wpAny_getItem_of (uw ry) dd.mapOf hw (h w' _ (I.tok _) rw')
 ·subst ey
  cases (show u=Value.ref b from ry)
  obtain ⟨z,hd,xs,rel,dd⟩:=xF I.hok e
  obtain ⟨w',hw,rw'⟩:=rg.some_of (v:=v) (o:=(atKey xs k).map (·.2)) (by rw [l]; exact rel.val k)
  obtain ⟨p,hp,hp2⟩:=Zm hw
  refine wpAny_getItem_heap (tupleKind_room_in1 hu) (qq I.hok eb) dd hp ?_
  rw [hp2]
  exact h w' _ (I.tok _) rw'
theorem Lv {Q:Value->Shared->Prop} (hu:A.units+1 < cLine) (I:Inv X pins σ H s) (g:uU H a y o) (ry:RelV y u) (h:∀ s',Inv X pins σ H s'->Q (.bool o.isSome) s') :
  wpAny (model X.prog X.w) A (compareOp .In u (.ref a)) Q E s:=by
 rcases g with ⟨kvs,k,e,ey,l⟩ | ⟨kvs,k,b,e,ey,eb,l⟩
 ·subst ey
  obtain ⟨z,hd,vs,rel,dd⟩:=uC I.hok e
  refine wpAny_in_of (uw ry) hd dd.mapOf ?_
  rw [<- (rel.val k).hG,<- l]
  exact h _ (I.tok _)
 ·subst ey
  cases (show u=Value.ref b from ry)
  obtain ⟨z,hd,xs,rel,dd⟩:=xF I.hok e
  refine wpAny_in_heap (tupleKind_room_in1 hu) (qq I.hok eb) hd dd ?_
  have q:=(rel.val k).hG
  rw [Option.isSome_map] at q
  rw [<- q,<- l]
  exact h _ (I.tok _)
theorem C6 {Q:Value->Shared->Prop} (hu:A.units+1 < cLine) (I:Inv X pins σ H s) (g:uU H a y o) (ry:RelV y u) (h:∀ s',Inv X pins σ H s'->Q (.bool (!o.isSome)) s') :
  wpAny (model X.prog X.w) A (compareOp .NotIn u (.ref a)) Q E s:=by
 rcases g with ⟨kvs,k,e,ey,l⟩ | ⟨kvs,k,b,e,ey,eb,l⟩
 ·subst ey
  obtain ⟨z,hd,vs,rel,dd⟩:=uC I.hok e
  refine wpAny_notIn_of (uw ry) hd dd.mapOf ?_
  rw [<- (rel.val k).hG,<- l]
  exact h _ (I.tok _)
 ·subst ey
  cases (show u=Value.ref b from ry)
  obtain ⟨z,hd,xs,rel,dd⟩:=xF I.hok e
  refine wpAny_notIn_heap (tupleKind_room_in1 hu) (qq I.hok eb) hd dd ?_
  have q:=(rel.val k).hG
  rw [Option.isSome_map] at q
  rw [<- q,<- l]
  exact h _ (I.tok _)
theorem rY {h':Heap} {t':Nat} {ob:HO} (I:Inv X pins σ H s) (mu:Mut (H a)) (hs:Heap.SameBut a s.heap h') (he:∃ q,h'.get? a=some q) (new:dA X.prog X.w (upd H a ob) h' a ob) :
  Inv X pins σ (upd H a ob) { s with heap:=h',toks:=t' } :=
 I.write (x:=a) (e:=a) mu (.inl rfl) (fun b q hb z=>(hs.2 b hb).trans z) he new
theorem AR {P:Program} {w:World} {H':Hp} {h':Heap} {kvs:List (Key×V)} {vs:List (Key×Value)} (z:kvs.length<=sizeLine) (hd:(a == sysModules)=false) (rel:KV kvs vs) (dd:h'.DictOf (bO P w) a vs) :
 dA P w H' h' a (.dK kvs):=⟨z,hd,vs,rel,dd⟩
theorem xN {H':Hp} {Q:Unit->Shared->Prop} (hu:A.units+1 < cLine) (I:Inv X pins σ H s) (g:Dn H a y v H') (ry:RelV y u) (rv:RelV v r) (h:∀ s',Inv X pins σ H' s'->Q () s') :
  wpAny (model X.prog X.w) A (setItem (.ref a) u r) Q E s:=by
 rcases g with ⟨kvs,k,e,ey,l,eH⟩ | ⟨kvs,k,b,e,ey,eb,l,eH⟩
 ·subst ey eH
  obtain ⟨z,hd,vs,rel,dd⟩:=xH I.hok e
  have hz:vs.length<=sizeLine:=by rw [<- rel.length]; exact z
  have hl:(putK kvs k v).length<=sizeLine:=by have:=ji kvs k v; omega
  refine wpAny_setItem_pairs (hsz:=hz) (uw ry) dd fun h' dd' hs=>h _ ?_
  have he:∃ q,h'.get? a=some q:=let ⟨q,_,_,hq,_⟩:=dd'; ⟨q,hq⟩
  exact rY I (by rw [e]; exact True.intro) hs he (AR hl hd (rel.put k rv) dd')
 ·subst ey eH
  cases (show u=Value.ref b from ry)
  obtain ⟨z,hd,xs,rel,dd⟩:=JS I.hok e
  have hz:xs.length<=sizeLine:=by rw [<- Paired.length rel]; exact z
  have hl:(putK kvs k v).length<=sizeLine:=by have:=ji kvs k v; omega
  refine wpAny_setItem_heap (hsz:=hz) (tupleKind_room_in1 hu) (qq I.hok eb) dd fun h' dd' hs=>h _ ?_
  obtain ⟨q,es,ep,hq,h2,h3,h4,_,h5⟩:=dd'
  refine rY I (by rw [e]; exact True.intro) hs ⟨q,hq⟩ ⟨hl,hd,_,(rel.put k eb rv).keeps fun c ys ec=>?_,q,es,ep,hq,h2,h3,h4,h5⟩
  rw [ak (Ju ec e (fun z=>nomatch z))]
  exact ec
end
section
variable {X:Cx} {pins:List (Addr×Obj)} {σ:St} {H:Hp} {s:Shared} {a:Addr} {kvs:List (Key×V)} {k:Key} {u:Value} {A:Around} {E:Value->Shared->Prop}
theorem JT {Q:Value->Shared->Prop} (I:Inv X pins σ H s) (e:Rd H a (.dK kvs)) (h:∀ t s',Inv X pins σ H s'->Q (.int kvs.length t) s'):wpAny (model X.prog X.w) A (call (.builtin "len") [.ref a]) Q E s:=by
 obtain ⟨z,hd,vs,rel,dd⟩:=uC I.hok e
 refine call_len_dict hd dd (by rw [<- rel.length]; rw [sizeLine_eq] at z; omega) ?_
 rw [<- rel.length]
 exact h _ _ (I.tok _)
end
def Dv (i:Expr):Prop:=∀ ov iv,subscripted i false ov iv=operate [ov,iv] (getItem ov iv)
theorem Ba {prog:Program} {w:World} {A:Around} {E:Value->Shared->Prop} {s:Shared} {env:Env} {value slice:Expr} {pos:Pos} {T id:String} {Q:Value->Shared->Prop}
  (hl:typeLookup (.type T) "__getitem__"=pure (some (.builtin id))) (hs:Dv slice)
  (h:wpAny (model prog w) A (eval value env) (fun o s₁=>wpAny (model prog w) A (eval slice env) (fun i s₂=>s₂.TypeIs o T/\wpAny (model prog w) A (getItem o i) Q E s₂) E s₁) E s) :
  wpAny (model prog w) A (eval (.Subscript value slice pos) env) Q E s:=by
 refine Subscript_ (wpAny_mono h (fun o s₁ h₁=>wpAny_mono h₁ (fun i s₂ h₂=>?_) fun _ _ x=>x) fun _ _ x=>x)
 obtain ⟨hT,h₂⟩:=h₂
 unfold subscriptTail
 refine wpAny_bind ?_
 rw [getitemInPython_of_ne hT.not_modules]
 refine wpAny_bind (wpAny_specialOf hT hl ?_)
 have fin:wpAny (model prog w) A (subscripted slice false o i) (fun r s₃=>wpAny (model prog w) A (letTemporaryGo value o r >>= fun _=>pure r) Q E s₃) E s₂:=by
  rw [hs o i]
  exact wpAny_operating (wpAny_mono h₂ (fun r s₃ h₃=>wpAny_bind (wpAny_letTemporaryGo (wpAny_pure h₃))) fun _ _ x=>x)
 first
  | exact wpAny_pure (wpAny_bind fin)
  | exact wpAny_bind (wpAny_pure (wpAny_bind fin))
  | exact wpAny_bind fin
theorem rX {X:Cx} {pins:List (Addr×Obj)} {σ:St} {H:Hp} {s:Shared} {a:Addr} {y:V} {o:Option V} (I:Inv X pins σ H s) (g:uU H a y o):s.TypeIs (.ref a) "dict":=by
 rcases g with ⟨kvs,k,e,_,_⟩ | ⟨kvs,k,b,e,_,_,_⟩
 ·obtain ⟨_,_,vs,_,dd⟩:=uC I.hok e
  exact dd.typeIs
 ·obtain ⟨_,_,xs,_,dd⟩:=xF I.hok e
  exact dd.typeIs
def A7 (td ty:TE):TE:=fun σ H Q=>td σ H fun x H1=>ty σ H1 fun y H2=>∃ a v,x=.ref a/\uU H2 a y (some v)/\Q v H2
def Ks (ty td:TE):TE:=fun σ H Q=>ty σ H fun y H1=>td σ H1 fun x H2=>∃ a o,x=.ref a/\uU H2 a y o/\Q (.bl o.isSome) H2
def A6 (ty td:TE):TE:=fun σ H Q=>ty σ H fun y H1=>td σ H1 fun x H2=>∃ a o,x=.ref a/\uU H2 a y o/\Q (.bl (!o.isSome)) H2
def HH (td ty tv:TE):TS:=fun D σ H=>tv σ H fun v H1=>td σ H1 fun x H2=>ty σ H2 fun y H3=>∃ a H4,x=.ref a/\Dn H3 a y v H4/\D.nx σ H4
section
variable {X:Cx} {o i e value:Expr} {pos pos' tpos:Pos} {td ty tv:TE}
theorem oN (hu:X.A.units+1 < cLine) (ho:PE X o td) (hi:PE X i ty) (hs:Dv i):PE X (.Subscript o i pos) (A7 td ty):=by
 intro pins s σ H Q I h
 refine Ba PySem.F.slot_dict_getitem.lookup hs (thn (ho pins s σ H _ I h) fun u s1 ⟨x,H1,I1,rx,q1⟩=>thn (hi pins s1 σ H1 _ I1 q1) fun iv s2 ⟨y,H2,I2,ry,a,v,ex,g,q2⟩=>?_)
 subst ex
 obtain rfl:u=Value.ref a:=rx
 exact ⟨rX I2 g,xO hu I2 g ry fun w' s3 I3 rw'=>⟨v,H2,I3,rw',q2⟩⟩
theorem Au (hu:X.A.units+1 < cLine) (hi:PE X i ty) (ho:PE X o td):PC X .In i o (Ks ty td):=by
 intro pins s σ H Q I h
 refine thn (hi pins s σ H _ I h) fun iv s1 ⟨y,H1,I1,ry,q1⟩=>thn (ho pins s1 σ H1 _ I1 q1) fun u s2 ⟨x,H2,I2,rx,a,ov,ex,g,q2⟩=>?_
 subst ex
 obtain rfl:u=Value.ref a:=rx
 exact Lv hu I2 g ry fun s3 I3=>⟨.bl ov.isSome,H2,I3,rfl,q2⟩
theorem wt (hu:X.A.units+1 < cLine) (hi:PE X i ty) (ho:PE X o td):PC X .NotIn i o (A6 ty td):=by
 intro pins s σ H Q I h
 refine thn (hi pins s σ H _ I h) fun iv s1 ⟨y,H1,I1,ry,q1⟩=>thn (ho pins s1 σ H1 _ I1 q1) fun u s2 ⟨x,H2,I2,rx,a,ov,ex,g,q2⟩=>?_
 subst ex
 obtain rfl:u=Value.ref a:=rx
 exact C6 hu I2 g ry fun s3 I3=>⟨.bl (!ov.isSome),H2,I3,rfl,q2⟩
theorem rC (hu:X.A.units+1 < cLine) (ho:PE X o td) (hi:PE X i ty) (hv:PE X value tv) (hs:swapsWith value (some (.Subscript o i pos')) pos.line X.env=pure false) :
  PS X (.Assign [.Subscript o i pos'] value pos) (HH td ty tv):=by
 intro pins s σ H D I h
 refine wpAny_Assign_Subscript (thn (hv pins s σ H _ I h) fun r s1 ⟨v,H1,I1,rv,q1⟩=>thn (ho pins s1 σ H1 _ I1 q1) fun u s2 ⟨x,H2,I2,rx,q2⟩=>thn (hi pins s2 σ H2 _ I2 q2) fun iv s3 ⟨y,H3,I3,ry,a,H4,ex,g,q3⟩=>?_) hs
 subst ex
 obtain rfl:u=Value.ref a:=rx
 exact xN hu I3 g ry rv fun s4 I4=>⟨σ,H4,I4,q3⟩
end
theorem tJ {P:Program} {w:World} {H:Hp} (h:Heap) (hb:sysModules < h.objs.size):dA P w H (h.push { cls:=.type "dict",data:=.dict #[] }) h.objs.size (.dK []) :=
 ⟨Nat.zero_le _,beq_eq_false_iff_ne.mpr (Ne.symm (Nat.ne_of_lt hb)),[],.nil,Heap.DictOf.new h⟩
def DJ:TE:=fun _ H Q=>∀ p,H p=none->Q (.ref p) (upd H p (.dK []))
section
variable {X:Cx} {pos:Pos}
theorem zp:PE X (.Dict [] [] pos) DJ:=fun pins s σ H Q I h =>
 wpAny_Dict_empty ⟨.ref s.heap.objs.size,_,I.laid (a:=s.heap.objs.size) (o:=.dK []) (t':=s.toks) (fun _ _ q=>Heap.get?_push_of_some _ q) (Nat.le_refl _) (tJ s.heap I.big),rfl,h _ (I.hok.fresh (Nat.le_refl _))⟩
end
def vk:List (TE×TE)->St->Hp->(List (V×V)->Hp->Prop)->Prop
 | [],_,H,Q=>Q [] H
 | (tk,tv)::r,σ,H,Q=>tk σ H fun x H1=>tv σ H1 fun y H2=>vk r σ H2 fun ps H3=>Q ((x,y)::ps) H3
abbrev VV:List (V×V)->List (Value×Value)->Prop:=Paired fun p q=>RelV p.1 q.1/\RelV p.2 q.2
def PPs (X:Cx) (pos:Pos) (keys:List (Option Expr)) (values:List Expr) (trs:List (TE×TE)):Prop :=
  ∀ (pins:List (Addr×Obj)) (s:Shared) (σ:St) (H:Hp) (Q:List (V×V)->Hp->Prop),Inv X pins σ H s->vk trs σ H Q ->
    wpAny (model X.prog X.w) X.A (evalPairs (pairTrees keys values X.env pos)) (fun vs s'=>∃ ps H',Inv X pins σ H' s'/\VV ps vs/\Q ps H') X.xe s
theorem BL {X:Cx} {pos:Pos}:PPs X pos [] [] []:=fun pins s σ H Q I h=>pairTrees_nil_walk ⟨[],H,I,.nil,h⟩
theorem ze {X:Cx} {pos:Pos} {k v:Expr} {ks:List (Option Expr)} {vs:List Expr} {tk tv:TE} {trs:List (TE×TE)} (hk:PE X k tk) (hv:PE X v tv) (hr:PPs X pos ks vs trs) :
  PPs X pos (some k::ks) (v::vs) ((tk,tv)::trs):=fun pins s σ H Q I h =>
 pairTrees_cons_walk (thn (hk pins s σ H _ I h) fun u s1 ⟨x,H1,I1,rx,q1⟩=>thn (hv pins s1 σ H1 _ I1 q1) fun w2 s2 ⟨y,H2,I2,ry,q2⟩ =>
  thn (hr pins s2 σ H2 _ I2 q2) fun ws s3 ⟨ps,H3,I3,rel,q3⟩=>⟨(x,y)::ps,H3,I3,.cons ⟨rx,ry⟩ rel,q3⟩)
def qc (kvs more:List (Key×V)):List (Key×V):=more.foldl (fun acc kv=>putK acc kv.1 kv.2) kvs
theorem KV.merge:∀ {more:List (Key×V)} {rs:List (Key×Value)} {kvs:List (Key×V)} {vs:List (Key×Value)},KV more rs->KV kvs vs->KV (qc kvs more) (merged vs rs):=by
 intro more rs kvs vs r
 unfold KV at r
 induction r generalizing kvs vs with
 | nil=>intro q; exact q
 | @cons p q ps qs h t ih =>
  intro r0
  have e:KV (putK kvs p.1 p.2) (stored vs q.1 q.2):=by
   have:=r0.put p.1 h.2
   rw [<- h.1]; exact this
  exact ih e
theorem jT:∀ (more kvs:List (Key×V)),(qc kvs more).length<=kvs.length+more.length
 | [],kvs=>by show kvs.length<=kvs.length+0; omega
 | p::r,kvs=>by
  have h1:=jT r (putK kvs p.1 p.2)
  have h2:=ji kvs p.1 p.2
  show (qc (putK kvs p.1 p.2) r).length<=_
  rw [List.length_cons]; omega
theorem nT {P:Program} {w:World}:∀ {kvs:List (Key×V)} {ws:List (Value×Value)},VV (kvs.map fun kv=>(kV kv.1,kv.2)) ws->∃ rs,Carries (bO P w) ws rs/\KV kvs rs
 | [],_,r=>by rw [List.map_nil] at r; cases r; exact ⟨[],True.intro,.nil⟩
 | p::kvs,_,r=>by
  rw [List.map_cons] at r
  cases r with
  | @cons a b as bs h t =>
   obtain ⟨rs,c,q⟩:=nT (P:=P) (w:=w) t
   obtain ⟨b1,b2⟩:=b
   exact ⟨(p.1,b2)::rs,⟨uw h.1,rfl,c⟩,.cons ⟨rfl,h.2⟩ q⟩
def HB (trs:List (TE×TE)):TE:=fun σ H Q=>∀ p,H p=none->vk trs σ (upd H p (.dK [])) fun ps H2=>H2 p=some (.dK [])/\∃ kvs:List (Key×V),ps=kvs.map (fun kv=>(kV kv.1,kv.2))/\kvs.length<=15/\Q (.ref p) (upd H2 p (.dK (qc [] kvs)))
theorem B1 {X:Cx} {pos:Pos} {keys:List (Option Expr)} {values:List Expr} {trs:List (TE×TE)} (h:PPs X pos keys values trs) (hall:keys.all (·.isSome)=true) (hl:keys.length=values.length) (h0:keys≠[])
  (h15:keys.length<=15):PE X (.Dict keys values pos) (HB trs):=by
 intro pins s σ H Q I q
 have hn:=I.hok.fresh (Nat.le_refl s.heap.objs.size)
 have I1:=I.laid (a:=s.heap.objs.size) (o:=.dK []) (h':=s.heap.push { cls:=.type "dict",data:=.dict #[] }) (t':=s.toks) (fun _ _ q=>Heap.get?_push_of_some _ q) (Nat.le_refl _) (tJ s.heap I.big)
 refine wpAny_Dict_walk (knd:=bO X.prog X.w) hall hl h0 h15 (thn (h pins _ σ _ _ I1 (q _ hn)) fun ws s2 ⟨ps,H2,I2,rel,e,kvs,ep,lk,q2⟩=>?_)
 subst ep
 obtain ⟨rs,c,rk⟩:=nT (P:=X.prog) (w:=X.w) rel
 obtain ⟨z,hd,vs0,r0,dd⟩:=xH I2.hok e
 cases r0
 refine ⟨rs,c,dd,fun h' dd' hs=>⟨.ref s.heap.objs.size,_,?_,rfl,q2⟩⟩
 have hz:(qc [] kvs).length<=sizeLine:=by
  have h1:=jT kvs []
  rw [List.length_nil] at h1
  rw [sizeLine_eq]; omega
 have he:∃ q,h'.get? s.heap.objs.size=some q:=let ⟨q,_,_,hq,_⟩:=dd'; ⟨q,hq⟩
 exact rY I2 (by rw [e]; exact True.intro) hs he (AR hz hd (rk.merge .nil) dd')
def Its (z:Str):It:=⟨fun i _=>i < z.cps.size,fun i H x H'=>H'=H/\∃ c,z.cps[i]?=some c/\x=.str ⟨#[c]⟩,fun i _=>z.cps.size<=i⟩
theorem t4 {P:Program} {w:World} {K:W.Frag} {tg:Expr} (it:Addr) (z:Str) (t:Tok):Turn P w K tg (Its z) [it] it (fun i h=>h.IsStrIter it "str_ascii_iterator" z t i) where
 mem:=by simp
 obj:=fun i h st b hb=>by
  have e:b=it:=by simpa using hb
  subst e
  obtain ⟨o,e,c,d⟩:=st
  exact ⟨o,e,fun v z=>by rw [d] at z; cases z⟩
 keep:=fun i h h' st k=>let ⟨o,ho,r⟩:=st; ⟨o,k it (by simp) o ho,r⟩
 item:=by
  intro X hP hw hK hc i pins s σ H E I hf st hg
  subst hP hw hK
  obtain ⟨f0,f1,f2,f3,f4,f5⟩:=hf it (by simp)
  have hg':i < z.cps.size:=hg
  have hx:z.cps[i]?=some z.cps[i]:=by simp [hg']
  refine wpAny_pyNext_ascii_item st hx fun h' st' sb=>?_
  have I1:Inv X pins σ H { s with heap:=h',toks:=s.toks+1 }:=I.turned (fun b o hb e=>(sb.2 b hb).trans e) f0 f1 f3 f4 f5
  obtain ⟨o,e,c,d⟩:=id st'
  exact ⟨_,rfl,xw (s:={ s with heap:=h',toks:=s.toks+1 }) e c d (by decide) ⟨.str ⟨#[z.cps[i]]⟩,H,I1,⟨_,rfl⟩,⟨rfl,_,hx,rfl⟩,st',fun b hb=>(hf b hb).1⟩⟩
 done:=by
  intro X hP hw hK hc i pins s σ H E I hf st hg
  subst hP hw hK
  obtain ⟨f0,f1,f2,f3,f4,f5⟩:=hf it (by simp)
  have hg':z.cps.size<=i:=hg
  exact wpAny_pyNext_ascii_end (I.ok.hd hc) st (by simp [hg']) fun h' eb=>⟨rfl,I.turned (t':=s.toks) (fun b o hb e=>eb b o hb e) f0 f1 f3 f4 f5⟩
 self:=fun _ _ _ _ _ st h=>wpAny_pyIter_striter_ascii st h
theorem vc {P:Program} {w:World} {K:W.Frag} {tg:Expr} (it:Addr) (z:Str) (t:Tok):Turn P w K tg (Its z) [it] it (fun i h=>h.IsStrIter it "str_iterator" z t i) where
 mem:=by simp
 obj:=fun i h st b hb=>by
  have e:b=it:=by simpa using hb
  subst e
  obtain ⟨o,e,c,d⟩:=st
  exact ⟨o,e,fun v z=>by rw [d] at z; cases z⟩
 keep:=fun i h h' st k=>let ⟨o,ho,r⟩:=st; ⟨o,k it (by simp) o ho,r⟩
 item:=by
  intro X hP hw hK hc i pins s σ H E I hf st hg
  subst hP hw hK
  obtain ⟨f0,f1,f2,f3,f4,f5⟩:=hf it (by simp)
  have hg':i < z.cps.size:=hg
  have hx:z.cps[i]?=some z.cps[i]:=by simp [hg']
  refine wpAny_pyNext_wide_item st hx fun h' st' sb=>?_
  have I1:Inv X pins σ H { s with heap:=h',toks:=s.toks+1 }:=I.turned (fun b o hb e=>(sb.2 b hb).trans e) f0 f1 f3 f4 f5
  obtain ⟨o,e,c,d⟩:=id st'
  exact ⟨_,rfl,xw (s:={ s with heap:=h',toks:=s.toks+1 }) e c d (by decide) ⟨.str ⟨#[z.cps[i]]⟩,H,I1,⟨_,rfl⟩,⟨rfl,_,hx,rfl⟩,st',fun b hb=>(hf b hb).1⟩⟩
 done:=by
  intro X hP hw hK hc i pins s σ H E I hf st hg
  subst hP hw hK
  obtain ⟨f0,f1,f2,f3,f4,f5⟩:=hf it (by simp)
  have hg':z.cps.size<=i:=hg
  exact wpAny_pyNext_wide_end (I.ok.hd hc) st (by simp [hg']) fun h' eb=>⟨rfl,I.turned (t':=s.toks) (fun b o hb e=>eb b o hb e) f0 f1 f3 f4 f5⟩
 self:=fun _ _ _ _ _ st h=>wpAny_pyIter_striter_wide st h
section
variable {X:Cx} {tg:Expr}
def Lm (tl:TE):TI:=fun σ H R=>tl σ H fun x H1=>∃ z,x=.str z/\R (Its z) H1
theorem Eg {l:Expr} {tl:TE} (hl:PE X l tl):PI X tg l (Lm tl):=by
 intro pins s σ H R I h
 refine thn (hl pins s σ H _ I h) fun v s1 ⟨x,H1,I1,r1,q1⟩=>?_
 obtain ⟨z,e,q⟩:=q1
 subst e
 obtain ⟨t,rfl⟩:=r1
 have fp:∀ b ∈ [s1.heap.objs.size],uT X pins H1 b:=fun b hb=>by
  have e:b=s1.heap.objs.size:=by simpa using hb
  subst e
  exact I1.u0 (Nat.le_refl _) (I1.hok.fresh (Nat.le_refl _))
 cases ha:z.cps.all (· < 128)
 ·refine wpAny_pyIter_wide ha ?_
  exact ⟨s1.heap.objs.size,[s1.heap.objs.size],_,_,H1,rfl,I1.kept (t':=s1.toks) fun b o e=>Heap.get?_push_of_some _ e,vc _ z t,⟨_,Heap.get?_push_size _ rfl,rfl,rfl⟩,fp,q⟩
 ·refine wpAny_pyIter_ascii ha ?_
  exact ⟨s1.heap.objs.size,[s1.heap.objs.size],_,_,H1,rfl,I1.kept (t':=s1.toks) fun b o e=>Heap.get?_push_of_some _ e,t4 _ z t,⟨_,Heap.get?_push_size _ rfl,rfl,rfl⟩,fp,q⟩
theorem wz:OpR X (compareOp .LtE) (fun x y H Q=>∃ i j,x=.str i/\y=.str j/\Q (.bl (!decide (j.cps.toList < i.cps.toList))) H):=by
 intro pins s σ H x y v u Q I rx ry h
 obtain ⟨i,j,rfl,rfl,q⟩:=h
 obtain ⟨t,rfl⟩:=rx
 obtain ⟨t',rfl⟩:=ry
 exact PySem.P.le_str (bo I q (by simp))
theorem tR:∀ {bs:List Bool} {us:List Value},bZ (bs.map V.bl) us->∀ (i:Nat) (v:Value),us[i]?=some v->∃ b,bs[i]?=some b/\v=Value.bool b
 | [],_,.nil,i,v,e=>by simp at e
 | b::bs,_,.cons r t,0,v,e=>by
  simp at e
  subst e
  exact ⟨b,by simp,r⟩
 | b::bs,_,.cons r t,i+1,v,e=>by
  obtain ⟨c,h1,h2⟩:=tR t i v (by simpa using e)
  exact ⟨c,by simpa using h1,h2⟩
theorem zZ (hc:X.calm=true):gJ X (.builtin "all") (fun xs H Q=>∃ (p:Addr) (bs:List Bool),xs=[.ref p]/\SqL X.K H p (bs.map V.bl)/\Q (.bl (bs.all id)) H):=by
 intro pins s σ H xs us Q I r h
 obtain ⟨p,bs,rfl,hL,q⟩:=h
 obtain ⟨u,rfl,ru⟩:=vals1 r
 cases (show u=Value.ref p from ru)
 obtain ⟨its,rv,pl,hz⟩:=I.list hL
 have hl:=pl.isList
 have hlen:=rv.length
 rw [List.length_map] at hlen
 have hlt:p < s.heap.objs.size:=by obtain ⟨_,e,_⟩:=hl; exact Heap.lt_size e
 refine call_all_walk (wpAny_pyIter_list hl ?_)
 refine ⟨s.heap.objs.size,[s.heap.objs.size,p],[s.heap.objs.size],its.toArray.size,_,_,fun i=>(bs[i]?).getD true,rfl,Walks.list (A:=X.A.in1) (I.ok.hd hc) _ p (Nat.ne_of_lt hlt) its.toArray,
  ⟨⟨_,Heap.get?_push_size _ rfl,rfl,rfl⟩,hl.push _⟩,fun i v s' Q' E' hP hQ=>?_,fun h' tk hk=>?_⟩
 ·obtain ⟨b,e,rfl⟩:=tR rv i v (by simpa using hP)
  simp only [e,Option.getD_some] at hQ
  exact wpAny_truthy_bool hQ
 ·have e:((List.range its.toArray.size).all fun i=>(bs[i]?).getD true)=bs.all id:=by
   rw [List.size_toArray,<- hlen,Bool.eq_iff_iff,List.all_eq_true,List.all_eq_true]
   constructor
   ·intro hh b hb
    obtain ⟨i,hi,rfl⟩:=List.getElem_of_mem hb
    have:=hh i (List.mem_range.mpr hi)
    simpa [List.getElem?_eq_getElem hi] using this
   ·intro hh i hi
    have hi':=List.mem_range.mp hi
    simp only [List.getElem?_eq_getElem hi',Option.getD_some]
    exact hh _ (List.getElem_mem hi')
  rw [e]
  refine ⟨.bl _,H,I.kept (t':=tk) fun b x ex=>hk b x (fun hm=>?_) (Heap.get?_push_of_some _ ex),rfl,q⟩
  rw [List.mem_singleton.mp hm] at ex
  exact Nat.lt_irrefl _ (Heap.lt_size ex)
theorem lV:∀ {ts:List Str} {us:List Value},bZ (ts.map V.str) us->StrsAre us ts
 | [],_,.nil=>.nil
 | x::ts,_,.cons r t=>by
  obtain ⟨tk,rfl⟩:=r
  exact .cons x tk (lV t)
theorem Cz:MtR X "str.join" (fun x xs H Q=>∃ (z:Str) (p:Addr) (ts:List Str),x=.str z/\xs=[.ref p]/\SqL X.K H p (ts.map V.str)/\(ts.map (·.length)).sum+ts.length * z.length<=16777216/\Q (.str (Txt.join z ts)) H):=by
 intro pins s σ H x xs v us Q I rx rv h
 obtain ⟨z,p,ts,rfl,rfl,hL,hz,q⟩:=h
 obtain ⟨t,rfl⟩:=rx
 obtain ⟨u,rfl,ru⟩:=vals1 rv
 cases (show u=Value.ref p from ru)
 obtain ⟨its,rv',pl,_⟩:=I.list hL
 exact join_list pl.isList (by simpa using lV rv') hz fun t' k=>⟨.str _,H,I.tok k,⟨_,rfl⟩,q⟩
end
theorem De {X:Cx} {scope:Scope} {cl:List (Str×Addr)} {x:Str} {cs:List (Str×Nat)} (h0:closureFor scope X.env=pure cl) (h1:scope.kind=.function) (h2:(scope.names.all fun y=>!(y.2 == .cell))=true)
  (h3:(scope.names.all fun y=>!(y.2 == .local)||(scope.names.lookup y.1 == some .local))=true) (h4:scope.names.lookup x=some .local) (h5:∀ p ∈ cl,X.env.cells.lookup p.1=some p.2)
  (h6:((relabel scope X.env).names.all fun p=>!(p.2 == .cell||p.2 == .free)||(cl.lookup p.1).isSome)=true)
  (h7:∀ p ∈ cs,X.N[p.2]?=some p.1/\X.env.kindOf p.1=some .cell/\(relabel scope X.env).names.lookup p.1=some .cell) (h8:(x::cs.map (·.1)).Nodup):d6 X scope cl x cs where
 Hk:=h0
 kind:=h1
 sW:=fun y hy z=>by
  have:=List.all_eq_true.mp h2 y hy
  rw [z] at this
  exact absurd this (by decide)
 names:=fun y hy z=>by
  have:=List.all_eq_true.mp h3 y hy
  rw [z] at this
  simpa using this
 own:=h4
 sub:=fun y c e=>h5 (y,c) (PySem.mem_of_lookup e)
 has:=fun y hy=>by
  have key:∀ k,(relabel scope X.env).names.lookup y=some k->(k=.cell\/k=.free)->∃ c,cl.lookup y=some c:=fun k e hk=>by
   have:=List.all_eq_true.mp h6 (y,k) (PySem.mem_of_lookup e)
   rcases hk with rfl | rfl
   · exact Option.isSome_iff_exists.mp (by simpa using this)
   · exact Option.isSome_iff_exists.mp (by simpa using this)
  rcases hy with hy | hy
  · exact key _ hy (.inl rfl)
  · exact key _ hy (.inr rfl)
 JV:=fun p hp=>⟨(h7 p hp).1,.inl (h7 p hp).2.1,.inl (h7 p hp).2.2⟩
 nd:=h8
def FZ (X:Cx):List (Str×Addr)->Prop
 | []=>True
 | p::r=>X.env.cells.lookup p.1=some p.2/\FZ X r
def AllP (X:Cx) (scope:Scope):List (Str×Nat)->Prop
 | []=>True
 | p::r=>(X.N[p.2]?=some p.1/\X.env.kindOf p.1=some .cell/\(relabel scope X.env).names.lookup p.1=some .cell)/\AllP X scope r
theorem FZ.all {X:Cx}:∀ {cl:List (Str×Addr)},FZ X cl->∀ p ∈ cl,X.env.cells.lookup p.1=some p.2
 | [],_,p,h=>by cases h
 | q::r,a,p,h=>by
  rcases List.mem_cons.mp h with rfl | h
  · exact a.1
  · exact FZ.all a.2 p h
theorem AllP.all {X:Cx} {scope:Scope}:∀ {cs:List (Str×Nat)},AllP X scope cs->∀ p ∈ cs,X.N[p.2]?=some p.1/\X.env.kindOf p.1=some .cell/\(relabel scope X.env).names.lookup p.1=some .cell
 | [],_,p,h=>by cases h
 | q::r,a,p,h=>by
  rcases List.mem_cons.mp h with rfl | h
  · exact a.1
  · exact AllP.all a.2 p h
theorem jv {X:Cx} {scope:Scope} {cl:List (Str×Addr)} {x:Str} (cs:List (Str×Nat)) (h0:closureFor scope X.env=pure cl) (h1:scope.kind=.function) (h2:(scope.names.all fun y=>!(y.2 == .cell))=true)
 (h3:(scope.names.all fun y=>!(y.2 == .local)||(scope.names.lookup y.1 == some .local))=true) (h4:scope.names.lookup x=some .local) (h5:FZ X cl)
 (h6:((relabel scope X.env).names.all fun p=>!(p.2 == .cell||p.2 == .free)||(cl.lookup p.1).isSome)=true)
 (h7:AllP X scope cs) (h8:(x::cs.map (·.1)).Nodup):d6 X scope cl x cs:=De h0 h1 h2 h3 h4 h5.all h6 h7.all h8
inductive D where
 | non | bl (b:Bool) | int (i:Int) | str (x:Str) | ty (n:String)
 | tup (ds:List D) | lst (ds:List D) | fz (ds:List D) | dct (kvs:List (Key×D)) | obj (C:Addr) (fs:List (Str×D)) | cls (C:Addr) | dfz (kvs:List (Key×D))
mutual
inductive Rp (K:W.Frag) (H:Hp):V->D->Prop where
 | non:Rp K H .non .non
 | bl (b:Bool):Rp K H (.bl b) (.bl b)
 | int (i:Int):Rp K H (.int i) (.int i)
 | str (x:Str):Rp K H (.str x) (.str x)
 | ty (n:String):Rp K H (.ty n) (.ty n)
 | cls (C:Addr):Rp K H (.ref C) (.cls C)
 | tup {a:Addr} {xs:List V} {ds:List D} (h:SqT K H a xs) (r:Rps K H xs ds):Rp K H (.ref a) (.tup ds)
 | lst {a:Addr} {xs:List V} {ds:List D} (h:H a=some (.lst xs)) (r:Rps K H xs ds):Rp K H (.ref a) (.lst ds)
 | fz {a:Addr} {xs:List V} {ds:List D} (h:SqL K H a xs) (r:Rps K H xs ds):Rp K H (.ref a) (.fz ds)
 | dct {a:Addr} {kvs:List (Key×V)} {ds:List (Key×D)} (h:H a=some (.dK kvs)) (r:RpK K H kvs ds):Rp K H (.ref a) (.dct ds)
 | obj {a C dx:Addr} {fs:List (Str×V)} {ds:List (Str×D)} (h:H a=some (.ins C dx fs)) (r:RpF K H fs ds):Rp K H (.ref a) (.obj C ds)
 | dfz {a:Addr} {kvs:List (Key×V)} {ds:List (Key×D)} (h:Rd H a (.dK kvs)) (r:RpK K H kvs ds):Rp K H (.ref a) (.dfz ds)
inductive Rps (K:W.Frag) (H:Hp):List V->List D->Prop where
 | nil:Rps K H [] []
 | cons {x:V} {d:D} {xs:List V} {ds:List D} (h:Rp K H x d) (r:Rps K H xs ds):Rps K H (x::xs) (d::ds)
inductive RpK (K:W.Frag) (H:Hp):List (Key×V)->List (Key×D)->Prop where
 | nil:RpK K H [] []
 | cons {k:Key} {x:V} {d:D} {xs:List (Key×V)} {ds:List (Key×D)} (h:Rp K H x d) (r:RpK K H xs ds):RpK K H ((k,x)::xs) ((k,d)::ds)
inductive RpF (K:W.Frag) (H:Hp):List (Str×V)->List (Str×D)->Prop where
 | nil:RpF K H [] []
 | cons {k:Str} {x:V} {d:D} {xs:List (Str×V)} {ds:List (Str×D)} (h:Rp K H x d) (r:RpF K H xs ds):RpF K H ((k,x)::xs) ((k,d)::ds)
end
section
variable {K:W.Frag} {H H':Hp}
mutual
theorem Rp.same (g:bY H H'):∀ {v:V} {d:D},Rp K H v d->Rp K H' v d
 | _,_,.non=>.non
 | _,_,.bl b=>.bl b
 | _,_,.int i=>.int i
 | _,_,.str x=>.str x
 | _,_,.ty n=>.ty n
 | _,_,.cls n=>.cls n
 | _,_,.tup h r=>.tup (g.tup h) (Rps.same g r)
 | _,_,.lst h r=>.lst (g _ _ h) (Rps.same g r)
 | _,_,.fz h r=>.fz (g.seq h) (Rps.same g r)
 | _,_,.dct h r=>.dct (g _ _ h) (RpK.same g r)
 | _,_,.obj h r=>.obj (g _ _ h) (RpF.same g r)
 | _,_,.dfz h r=>.dfz (h.elim (fun z=>.inl (g _ _ z)) fun ⟨o,z⟩=>.inr ⟨o,g _ _ z⟩) (RpK.same g r)
theorem Rps.same (g:bY H H'):∀ {v:List V} {d:List D},Rps K H v d->Rps K H' v d
 | _,_,.nil=>.nil
 | _,_,.cons h r=>.cons (Rp.same g h) (Rps.same g r)
theorem RpK.same (g:bY H H'):∀ {v:List (Key×V)} {d:List (Key×D)},RpK K H v d->RpK K H' v d
 | _,_,.nil=>.nil
 | _,_,.cons h r=>.cons (Rp.same g h) (RpK.same g r)
theorem RpF.same (g:bY H H'):∀ {v:List (Str×V)} {d:List (Str×D)},RpF K H v d->RpF K H' v d
 | _,_,.nil=>.nil
 | _,_,.cons h r=>.cons (Rp.same g h) (RpF.same g r)
end
theorem Rps.length:∀ {xs:List V} {ds:List D},Rps K H xs ds->xs.length=ds.length
 | _,_,.nil=>rfl
 | _,_,.cons _ r=>congrArg (·+1) r.length
theorem Rps.get:∀ {xs:List V} {ds:List D} {i:Nat} {d:D},Rps K H xs ds->ds[i]?=some d->∃ x,xs[i]?=some x/\Rp K H x d
 | _,_,_,_,.nil,e=>by simp at e
 | _,_,0,_,.cons h _,e=>by simp at e; subst e; exact ⟨_,by simp,h⟩
 | _,_,i+1,d,.cons _ r,e=>by
  obtain ⟨x,h1,h2⟩:=Rps.get (i:=i) (d:=d) r (by simpa using e)
  exact ⟨x,by simpa using h1,h2⟩
theorem Rps.append:∀ {xs ys:List V} {ds es:List D},Rps K H xs ds->Rps K H ys es->Rps K H (xs++ys) (ds++es)
 | _,_,_,_,.nil,h=>h
 | _,_,_,_,.cons h r,h'=>.cons h (Rps.append r h')
theorem Rps.take:∀ {xs:List V} {ds:List D} (n:Nat),Rps K H xs ds->Rps K H (xs.take n) (ds.take n)
 | _,_,0,_=>.nil
 | _,_,_+1,.nil=>.nil
 | _,_,n+1,.cons h r=>.cons h (Rps.take n r)
theorem Rps.drop:∀ {xs:List V} {ds:List D} (n:Nat),Rps K H xs ds->Rps K H (xs.drop n) (ds.drop n)
 | _,_,0,h=>h
 | _,_,_+1,.nil=>.nil
 | _,_,n+1,.cons _ r=>Rps.drop n r
theorem Rps.ints:∀ (ns:List Int),Rps K H (ns.map V.int) (ns.map D.int)
 | []=>.nil
 | n::ns=>.cons (.int n) (Rps.ints ns)
theorem Rps.strs:∀ (ns:List Str),Rps K H (ns.map V.str) (ns.map D.str)
 | []=>.nil
 | n::ns=>.cons (.str n) (Rps.strs ns)
end
structure Ext (Hs H Hs' H':Hp):Prop where
 ss:bY Hs Hs'
 sh:bY Hs' H'
 hh:bY H H'
 fr:∀ b,Hs b=none->H b≠none->Hs' b=none
theorem Ext.refl {Hs H:Hp} (h:bY Hs H):Ext Hs H Hs H:=⟨.refl _,h,.refl _,fun _ h _=>h⟩
theorem ja {α:Type} {o:Option α} {x:α} (h:o=some x):o≠none:=by rw [h]; simp
theorem bY.live {H H':Hp} (g:bY H H') {b:Addr} (h:H b≠none):H' b≠none:=by
 cases q:H b with
 | none=>exact absurd q h
 | some o=>rw [g _ _ q]; simp
theorem Ext.trans {Hs H Hs1 H1 Hs2 H2:Hp} (a:Ext Hs H Hs1 H1) (b:Ext Hs1 H1 Hs2 H2):Ext Hs H Hs2 H2 :=
 ⟨a.ss.trans b.ss,b.sh,a.hh.trans b.hh,fun c h1 h2=>b.fr c (a.fr c h1 h2) (a.hh.live h2)⟩
theorem Ext.new {Hs H:Hp} (h:bY Hs H) {p:Addr} (hp:H p=none) (o:HO):Ext Hs H (upd Hs p o) (upd H p o):=by
 refine ⟨aB (h.free hp) o,fun b u q=>?_,aB hp o,fun b h1 h2=>?_⟩
 ·by_cases e:b=p
  · subst e; rw [au] at q ⊢; exact q
  · rw [ak e] at q ⊢; exact h _ _ q
 ·by_cases e:b=p
  · subst e; exact absurd hp h2
  · rw [ak e]; exact h1
inductive Sl where
 | no | shr (d:D) | own (d:D)
inductive Ow (K:W.Frag) (Hs H:Hp) (a:Addr):D->Prop where
 | lst {xs:List V} {ds:List D} (h:H a=some (.lst xs)) (n:Hs a=none) (r:Rps K Hs xs ds):Ow K Hs H a (.lst ds)
 | dct {kvs:List (Key×V)} {ds:List (Key×D)} (h:H a=some (.dK kvs)) (n:Hs a=none) (r:RpK K Hs kvs ds):Ow K Hs H a (.dct ds)
theorem Ow.hid {K:W.Frag} {Hs H:Hp} {a:Addr} {d:D} (h:Ow K Hs H a d):Hs a=none:=by cases h <;> assumption
theorem Ow.live {K:W.Frag} {Hs H:Hp} {a:Addr} {d:D} (h:Ow K Hs H a d):H a≠none:=by
 cases h with
 | lst h _ _=>exact ja h
 | dct h _ _=>exact ja h
theorem Ow.ext {K:W.Frag} {Hs H Hs' H':Hp} {a:Addr} {d:D} (g:Ext Hs H Hs' H') (h:Ow K Hs H a d):Ow K Hs' H' a d:=by
 have n':=g.fr a h.hid h.live
 cases h with
 | lst h n r=>exact .lst (g.hh _ _ h) n' (r.same g.ss)
 | dct h n r=>exact .dct (g.hh _ _ h) n' (r.same g.ss)
theorem Ow.off {K:W.Frag} {Hs H H':Hp} {a:Addr} {d:D} (h:Ow K Hs H a d) (e:H' a=H a):Ow K Hs H' a d:=by
 cases h with
 | lst h n r=>exact .lst (e.trans h) n r
 | dct h n r=>exact .dct (e.trans h) n r
inductive StR (K:W.Frag) (H0 Hs H:Hp):List (Option V)->List Sl->List Addr->Prop where
 | nil:StR K H0 Hs H [] [] []
 | no {o:Option V} {σ:List (Option V)} {τ:List Sl} {fp:List Addr} (r:StR K H0 Hs H σ τ fp):StR K H0 Hs H (o::σ) (.no::τ) fp
 | shr {v:V} {d:D} {σ:List (Option V)} {τ:List Sl} {fp:List Addr} (h:Rp K Hs v d) (r:StR K H0 Hs H σ τ fp):StR K H0 Hs H (some v::σ) (.shr d::τ) fp
 | own {a:Addr} {d:D} {σ:List (Option V)} {τ:List Sl} {fp:List Addr} (h:Ow K Hs H a d) (z:H0 a=none) (m:a ∉ fp) (r:StR K H0 Hs H σ τ fp):StR K H0 Hs H (some (.ref a)::σ) (.own d::τ) (a::fp)
section
variable {K:W.Frag} {H0 Hs H Hs' H':Hp} {σ:List (Option V)} {τ:List Sl} {fp:List Addr}
theorem StR.ext (g:Ext Hs H Hs' H') (h:StR K H0 Hs H σ τ fp):StR K H0 Hs' H' σ τ fp:=by
 induction h with
 | nil=>exact .nil
 | no _ ih=>exact .no ih
 | shr h _ ih=>exact .shr (h.same g.ss) ih
 | own h z m _ ih=>exact .own (h.ext g) z m ih
theorem StR.off {a:Addr} {o:HO} (h:StR K H0 Hs H σ τ fp) (m:a ∉ fp):StR K H0 Hs (upd H a o) σ τ fp:=by
 induction h with
 | nil=>exact .nil
 | no _ ih=>exact .no (ih m)
 | shr h _ ih=>exact .shr h (ih m)
 | @own b d σ τ fp h z n _ ih =>
  have ne:b≠a:=fun e=>m (by rw [e]; exact List.mem_cons_self ..)
  exact .own (h.off (ak ne)) z n (ih (fun q=>m (List.mem_cons_of_mem _ q)))
theorem StR.C1 (h:StR K H0 Hs H σ τ fp):∀ a ∈ fp,Hs a=none/\H0 a=none/\H a≠none:=by
 induction h with
 | nil=>intro a h; cases h
 | no _ ih=>exact ih
 | shr _ _ ih=>exact ih
 | own h z m _ ih =>
  intro b hb
  rcases List.mem_cons.mp hb with e | e
  · subst e; exact ⟨h.hid,z,h.live⟩
  · exact ih b e
theorem StR.get {i:Nat} {d:D} (h:StR K H0 Hs H σ τ fp):τ[i]?=some (.shr d)->∃ v,σ[i]?=some (some v)/\Rp K Hs v d:=by
 induction h generalizing i with
 | nil=>intro e; simp at e
 | no _ ih =>
  intro e
  cases i with
  | zero=>simp at e
  | succ i=>exact ih (by simpa using e)
 | shr h _ ih =>
  intro e
  cases i with
  | zero=>simp at e; subst e; exact ⟨_,rfl,h⟩
  | succ i=>exact ih (by simpa using e)
 | own _ _ _ _ ih =>
  intro e
  cases i with
  | zero=>simp at e
  | succ i=>exact ih (by simpa using e)
theorem StR.CW {i:Nat} {d:D} (h:StR K H0 Hs H σ τ fp):τ[i]?=some (.own d)->∃ a,σ[i]?=some (some (.ref a))/\Ow K Hs H a d/\H0 a=none/\a ∈ fp:=by
 induction h generalizing i with
 | nil=>intro e; simp at e
 | no _ ih =>
  intro e
  cases i with
  | zero=>simp at e
  | succ i=>exact ih (by simpa using e)
 | shr h _ ih =>
  intro e
  cases i with
  | zero=>simp at e
  | succ i=>exact ih (by simpa using e)
 | own h z m _ ih =>
  intro e
  cases i with
  | zero=>simp at e; subst e; exact ⟨_,rfl,h,z,List.mem_cons_self ..⟩
  | succ i =>
   obtain ⟨a,h1,h2,h3,h4⟩:=ih (i:=i) (by simpa using e)
   exact ⟨a,h1,h2,h3,List.mem_cons_of_mem _ h4⟩
theorem StR.uW {i:Nat} {v:V} {d:D} (hv:Rp K Hs v d) (h:StR K H0 Hs H σ τ fp):∃ fp',(∀ a ∈ fp',a ∈ fp)/\StR K H0 Hs H (σ.set i (some v)) (τ.set i (.shr d)) fp':=by
 induction h generalizing i with
 | nil=>exact ⟨[],fun _ h=>h,.nil⟩
 | no r ih =>
  cases i with
  | zero=>exact ⟨_,fun _ h=>h,.shr hv r⟩
  | succ i=>obtain ⟨fp',h1,h2⟩:=ih (i:=i); exact ⟨fp',h1,.no h2⟩
 | shr h r ih =>
  cases i with
  | zero=>exact ⟨_,fun _ h=>h,.shr hv r⟩
  | succ i=>obtain ⟨fp',h1,h2⟩:=ih (i:=i); exact ⟨fp',h1,.shr h h2⟩
 | own h z m r ih =>
  cases i with
  | zero=>exact ⟨_,fun _ h=>List.mem_cons_of_mem _ h,.shr hv r⟩
  | succ i =>
   obtain ⟨fp',h1,h2⟩:=ih (i:=i)
   exact ⟨_::fp',fun b hb=>(List.mem_cons.mp hb).elim (fun e=>by subst e; exact List.mem_cons_self ..) fun e=>List.mem_cons_of_mem _ (h1 b e),.own h z (fun q=>m (h1 _ q)) h2⟩
theorem StR.KA {i:Nat} {a:Addr} {d:D} (hv:Ow K Hs H a d) (z0:H0 a=none) (h:StR K H0 Hs H σ τ fp) (m0:a ∉ fp) (hi:i < τ.length) :
  ∃ fp',(∀ b ∈ fp',b=a\/b ∈ fp)/\StR K H0 Hs H (σ.set i (some (.ref a))) (τ.set i (.own d)) fp':=by
 induction h generalizing i with
 | nil=>exact absurd hi (by simp)
 | @no o σ τ fp r ih =>
  cases i with
  | zero=>exact ⟨a::fp,fun b h=>List.mem_cons.mp h,.own hv z0 m0 r⟩
  | succ i=>obtain ⟨fp',h1,h2⟩:=ih m0 (i:=i) (by simpa using hi); exact ⟨fp',h1,.no h2⟩
 | @shr v d σ τ fp h r ih =>
  cases i with
  | zero=>exact ⟨a::fp,fun b h=>List.mem_cons.mp h,.own hv z0 m0 r⟩
  | succ i=>obtain ⟨fp',h1,h2⟩:=ih m0 (i:=i) (by simpa using hi); exact ⟨fp',h1,.shr h h2⟩
 | @own b d' σ τ fp h z m r ih =>
  have m1:a ∉ fp:=fun q=>m0 (List.mem_cons_of_mem _ q)
  cases i with
  | zero=>exact ⟨a::fp,fun c hc=>(List.mem_cons.mp hc).imp id fun e=>List.mem_cons_of_mem _ e,.own hv z0 m1 r⟩
  | succ i =>
   obtain ⟨fp',h1,h2⟩:=ih m1 (i:=i) (by simpa using hi)
   refine ⟨b::fp',fun c hc=>?_,.own h z (fun q=>?_) h2⟩
   ·rcases List.mem_cons.mp hc with e | e
    · exact .inr (by subst e; exact List.mem_cons_self ..)
    · exact (h1 c e).imp id fun e=>List.mem_cons_of_mem _ e
   ·rcases h1 _ q with e | e
    · exact m0 (by rw [<- e]; exact List.mem_cons_self ..)
    · exact m e
theorem StR.mut {i:Nat} {a:Addr} {d d':D} {o:HO} (h:StR K H0 Hs H σ τ fp):τ[i]?=some (.own d)->σ[i]?=some (some (.ref a))->Ow K Hs (upd H a o) a d'->StR K H0 Hs (upd H a o) σ (τ.set i (.own d')) fp:=by
 induction h generalizing i with
 | nil=>intro e; simp at e
 | no _ ih =>
  intro e e2 hv
  cases i with
  | zero=>simp at e
  | succ i=>exact .no (ih (by simpa using e) (by simpa using e2) hv)
 | shr h _ ih =>
  intro e e2 hv
  cases i with
  | zero=>simp at e
  | succ i=>exact .shr h (ih (by simpa using e) (by simpa using e2) hv)
 | @own b d1 σ τ fp h z m r ih =>
  intro e e2 hv
  cases i with
  | zero =>
   have q:b=a:=by simpa using e2
   subst q
   exact .own hv z m (r.off m)
  | succ i =>
   have e':τ[i]?=some (.own d):=by simpa using e
   have e2':σ[i]?=some (some (.ref a)):=by simpa using e2
   obtain ⟨c,h1,h2,h3,h4⟩:=r.CW e'
   have q:c=a:=by rw [e2'] at h1; simpa using h1.symm
   subst q
   have ne:b≠c:=fun e=>m (by rw [e]; exact h4)
   exact .own (h.off (ak ne)) z m (ih e' e2' hv)
end
theorem Ow.rp {K:W.Frag} {Hs H:Hp} {a:Addr} {d:D} (h:Ow K Hs H a d):∃ o,H a=some o/\Rp K (upd Hs a o) (.ref a) d:=by
 cases h with
 | lst h n r=>exact ⟨_,h,.lst au (r.same (aB n _))⟩
 | dct h n r=>exact ⟨_,h,.dct au (r.same (aB n _))⟩
section
variable {K:W.Frag} {H0 Hs H Hs' H':Hp} {σ:List (Option V)} {τ:List Sl} {fp:List Addr}
theorem StR.Ls {a:Addr} {o:HO} (h:StR K H0 Hs H σ τ fp) (n:Hs a=none) (m:a ∉ fp):StR K H0 (upd Hs a o) H σ τ fp:=by
 induction h with
 | nil=>exact .nil
 | no _ ih=>exact .no (ih m)
 | shr h _ ih=>exact .shr (h.same (aB n o)) (ih m)
 | @own b d σ τ fp h z k _ ih =>
  have ne:b≠a:=fun e=>m (by rw [e]; exact List.mem_cons_self ..)
  refine .own ?_ z k (ih (fun q=>m (List.mem_cons_of_mem _ q)))
  cases h with
  | lst h n' r=>exact .lst h (by rw [ak ne]; exact n') (r.same (aB n o))
  | dct h n' r=>exact .dct h (by rw [ak ne]; exact n') (r.same (aB n o))
theorem StR.frz {i:Nat} {d:D} (h:StR K H0 Hs H σ τ fp):τ[i]?=some (.own d)->∃ a o fp',H a=some o/\Hs a=none/\H0 a=none/\StR K H0 (upd Hs a o) H σ (τ.set i (.shr d)) fp'/\a ∉ fp'/\(∀ b ∈ fp',b ∈ fp)/\σ[i]?=some (some (.ref a))/\Ow K Hs H a d:=by
 induction h generalizing i with
 | nil=>intro e; simp at e
 | no _ ih =>
  intro e
  cases i with
  | zero=>simp at e
  | succ i =>
   obtain ⟨a,o,fp',h1,h2,h3,h4,h5,h6,h7,h8⟩:=ih (i:=i) (by simpa using e)
   exact ⟨a,o,fp',h1,h2,h3,.no h4,h5,h6,h7,h8⟩
 | shr h _ ih =>
  intro e
  cases i with
  | zero=>simp at e
  | succ i =>
   obtain ⟨a,o,fp',h1,h2,h3,h4,h5,h6,h7,h8⟩:=ih (i:=i) (by simpa using e)
   exact ⟨a,o,fp',h1,h2,h3,.shr (h.same (aB h2 o)) h4,h5,h6,h7,h8⟩
 | @own b d1 σ τ fp h z m r ih =>
  intro e
  cases i with
  | zero =>
   simp at e
   subst e
   obtain ⟨o,h1,h2⟩:=h.rp
   exact ⟨b,o,fp,h1,h.hid,z,.shr h2 (r.Ls h.hid m),m,fun _ q=>List.mem_cons_of_mem _ q,rfl,h⟩
  | succ i =>
   obtain ⟨a,o,fp',h1,h2,h3,h4,h5,h6,h7,h8⟩:=ih (i:=i) (by simpa using e)
   obtain ⟨c,k1,k2,k3,k4⟩:=r.CW (i:=i) (by simpa using e)
   have q:c=a:=by rw [h7] at k1; simpa using k1.symm
   subst q
   have ne:b≠c:=fun e=>m (by rw [e]; exact k4)
   refine ⟨c,o,b::fp',h1,h2,h3,.own ?_ z (fun q=>m (h6 _ q)) h4,?_,?_,h7,h8⟩
   ·cases h with
    | lst h n' r=>exact .lst h (by rw [ak ne]; exact n') (r.same (aB h2 o))
    | dct h n' r=>exact .dct h (by rw [ak ne]; exact n') (r.same (aB h2 o))
   ·intro q
    rcases List.mem_cons.mp q with e | e
    · exact ne e.symm
    · exact h5 e
   ·intro c' hc
    rcases List.mem_cons.mp hc with e | e
    · subst e; exact List.mem_cons_self ..
    · exact List.mem_cons_of_mem _ (h6 _ e)
end
abbrev DE:=List Sl->Option D
abbrev DT:=List Sl->Option Bool
abbrev DA:=List Sl->Option (List D)
inductive Out where
 | next (τ:List Sl) | ret (s:Sl) | brk (τ:List Sl) | cnt (τ:List Sl)
abbrev DS:=List Sl->Option Out
def SlV (K:W.Frag) (H0 Hs H:Hp) (v:V):Sl->Prop
 | .no=>False
 | .shr d=>Rp K Hs v d
 | .own d=>∃ a,v=.ref a/\Ow K Hs H a d/\H0 a=none
structure Rep (K:W.Frag) (Hs0 H0 Hs H:Hp) (σ:St) (τ:List Sl):Prop where
 ext:Ext Hs0 H0 Hs H
 st:∃ fp,StR K H0 Hs H σ τ fp
def rdE (K:W.Frag) (f:DE):TE:=fun σ H Q=>∃ H0 Hs τ fp d,StR K H0 Hs H σ τ fp/\bY Hs H/\f τ=some d/\∀ v Hs' H',Ext Hs H Hs' H'->Rp K Hs' v d->Q v H'
def rdT (K:W.Frag) (f:DT):TT:=fun σ H Q=>∃ H0 Hs τ fp d,StR K H0 Hs H σ τ fp/\bY Hs H/\f τ=some d/\∀ Hs' H',Ext Hs H Hs' H'->Q d H'
def rdA (K:W.Frag) (f:DA):TA:=fun σ H Q=>∃ H0 Hs τ fp d,StR K H0 Hs H σ τ fp/\bY Hs H/\f τ=some d/\∀ v Hs' H',Ext Hs H Hs' H'->Rps K Hs' v d->Q v H'
def rdO (K:W.Frag) (f:DE):TE:=fun σ H Q=>∃ H0 Hs τ fp d,StR K H0 Hs H σ τ fp/\bY Hs H/\f τ=some d/\∀ a Hs' H',Ext Hs H Hs' H'->Ow K Hs' H' a d->H a=none->Q (.ref a) H'
def PEd (X:Cx) (e:Expr) (f:DE):Prop:=PE X e (rdE X.K f)
def PEo (X:Cx) (e:Expr) (f:DE):Prop:=PE X e (rdO X.K f)
def PTd (X:Cx) (e:Expr) (f:DT):Prop:=PT X e (rdT X.K f)
def PAd (X:Cx) (es:List Expr) (f:DA):Prop:=PA X es (rdA X.K f)
def Fin (K:W.Frag) (Hs0 H0:Hp) (E:Ends):Out->Prop
 | .next τ=>∀ σ Hs H,Rep K Hs0 H0 Hs H σ τ->E.nx σ H
 | .brk τ=>∀ σ Hs H,Rep K Hs0 H0 Hs H σ τ->E.bk σ H
 | .cnt τ=>∀ σ Hs H,Rep K Hs0 H0 Hs H σ τ->E.ct σ H
 | .ret s=>∀ v Hs H,Ext Hs0 H0 Hs H->SlV K H0 Hs H v s->E.rt v H
def rdS (K:W.Frag) (f:DS):TS:=fun E σ H=>∃ Hs0 H0 Hs τ o,Rep K Hs0 H0 Hs H σ τ/\f τ=some o/\Fin K Hs0 H0 E o
def PSd (X:Cx) (s:Stmt) (f:DS):Prop:=PS X s (rdS X.K f)
def pG (X:Cx) (s:List Stmt) (f:DS):Prop:=PSs X s (rdS X.K f)
theorem PE.imp {X:Cx} {e:Expr} {t t':TE} (h:PE X e t) (hi:∀ σ H Q,t' σ H Q->t σ H Q):PE X e t':=fun pins s σ H Q I q=>h pins s σ H Q I (hi _ _ _ q)
theorem PT.imp {X:Cx} {e:Expr} {t t':TT} (h:PT X e t) (hi:∀ σ H Q,t' σ H Q->t σ H Q):PT X e t':=fun pins s σ H Q I q=>h pins s σ H Q I (hi _ _ _ q)
theorem PA.imp {X:Cx} {e:List Expr} {t t':TA} (h:PA X e t) (hi:∀ σ H Q,t' σ H Q->t σ H Q):PA X e t':=fun pos pins s σ H Q I q=>h pos pins s σ H Q I (hi _ _ _ q)
theorem PS.imp {X:Cx} {e:Stmt} {t t':TS} (h:PS X e t) (hi:∀ E σ H,t' E σ H->t E σ H):PS X e t':=fun pins s σ H E I q=>h pins s σ H E I (hi _ _ _ q)
theorem PSs.imp {X:Cx} {e:List Stmt} {t t':TS} (h:PSs X e t) (hi:∀ E σ H,t' E σ H->t E σ H):PSs X e t':=fun pins s σ H E I q=>h pins s σ H E I (hi _ _ _ q)
def aj (i:Nat):DE:=fun τ=>match τ[i]? with | some (.shr d)=>some d | _=>none
def dC (d:D):DE:=fun _=>some d
def dOp (o:D->D->Option D) (f g:DE):DE:=fun τ=>(f τ).bind fun x=>(g τ).bind fun y=>o x y
def dUn (o:D->Option D) (f:DE):DE:=fun τ=>(f τ).bind o
def aY:DA:=fun _=>some []
def ao (f:DE) (g:DA):DA:=fun τ=>(f τ).bind fun x=>(g τ).bind fun xs=>some (x::xs)
def bR (o:List D->Option D) (f:DA):DE:=fun τ=>(f τ).bind o
def C7 (f:DA):DE:=fun τ=>(f τ).bind fun ds=>if ds.length<=100000 then some (.tup ds) else none
def rZ (f:DA):DE:=fun τ=>(f τ).bind fun ds=>if ds.length<=100000 then some (.lst ds) else none
def dIf (c:DT) (f g:DE):DE:=fun τ=>(c τ).bind fun b=>if b=true then f τ else g τ
def gI (f g:DE):DE:=fun τ=>(f τ).bind fun x=>match x with | .bl true=>g τ | .bl false=>some (.bl false) | _=>none
def C8 (f:DE):DE:=fun τ=>(f τ).bind fun x=>match x with | .bl b=>some (.bl (!b)) | _=>none
def dT (f:DE):DT:=fun τ=>(f τ).bind fun x=>match x with | .bl b=>some b | _=>none
def FO (f g:DT):DT:=fun τ=>(f τ).bind fun b=>if b=true then g τ else some false
def dOr (f g:DT):DT:=fun τ=>(f τ).bind fun b=>if b=true then some true else g τ
def uE (f:DT):DT:=fun τ=>(f τ).map (!·)
theorem le5 {n:Nat} (h:n<=100000):n < sizeLine:=Nat.lt_of_le_of_lt h (by rw [sizeLine_eq]; decide)
theorem w9 {n:Nat} (h:n<=100000):n<=sizeLine:=Nat.le_of_lt (le5 h)
theorem nn {α:Type} {d:α} {p:Prop} (h:(none:Option α)=some d):p:=nomatch h
theorem bind_some {α β:Type} {o:Option α} {f:α->Option β} {b:β} (h:o.bind f=some b):∃ a,o=some a/\f a=some b:=Option.bind_eq_some_iff.mp h
section
variable {X:Cx} {a b c e:Expr} {es:List Expr} {pos:Pos} {f g h:DE}
theorem Es (i:Nat) {x:Str} (hN:X.N[i]?=some x:=by rfl) (hv:Vis X.env.scope x:=by first | exact Or.inl rfl | exact Or.inr (Or.inl rfl) | exact Or.inr (Or.inr rfl)) (hd:(x == ("__debug__":Str))=false:=by decide)
   (hcd:(x == ("__classdict__":Str))=false:=by decide):PEd X (.Name x pos) (aj i) :=
 (fw hN hv hd hcd).imp fun σ H Q ⟨H0,Hs,τ,fp,d,st,sm,e,k⟩=>by
   have e':τ[i]?=some (.shr d):=by
    unfold aj at e
    split at e
    · rename_i d' q; rw [q]; simpa using e
    · cases e
   obtain ⟨v,h1,h2⟩:=st.get e'
   exact ⟨v,h1,k v Hs H (.refl sm) h2⟩
theorem iM {v:V} {d:D} (h:PE X e (tC v)) (r:∀ H,Rp X.K H v d):PEd X e (dC d) :=
 h.imp fun σ H Q ⟨H0,Hs,τ,fp,d',st,sm,e,k⟩=>by
  have e':d=d':=Zj e
  subst e'
  exact k v Hs H (.refl sm) (r Hs)
theorem Ez {i:Int} {j}:PEd X (.Constant (.int i) j pos) (dC (.int i)):=iM wo fun _=>.int i
theorem Ib {i:Bool} {j}:PEd X (.Constant (.bool i) j pos) (dC (.bl i)):=iM rF fun _=>.bl i
theorem Ey {j}:PEd X (.Constant .none j pos) (dC .non):=iM El fun _=>.non
theorem Eu {x:Str} {j}:PEd X (.Constant (.str x) j pos) (dC (.str x)):=iM Eh fun _=>.str x
theorem B7 {x:Str} {v:V} {u:Value} {d:D} (hg:Gl X x) (hm:X.mg x=some u) (r:RelV v u) (rd:∀ H,Rp X.K H v d) (hd:(x == ("__debug__":Str))=false:=by decide):PEd X (.Name x pos) (dC d):=iM (B0 hg hm r hd) rd
theorem HX {x:Str} {n:String} (hg:Gl X x) (hm:X.mg x=none) (hv:bootBuiltins x=some (.type n)) (hn:x≠"__name__":=by decide) (hd:(x == ("__debug__":Str))=false:=by decide):PEd X (.Name x pos) (dC (.ty n)) :=
 iM (v:=.ty n) (B4 hg hm hv (show RelV (.ty n) (.type n) from rfl) hn hd) fun _=>.ty n
def rdR (K:W.Frag) (o:D->D->Option D):R2:=fun x y H Q=>∃ Hs dx dy d,bY Hs H/\Rp K Hs x dx/\Rp K Hs y dy/\o dx dy=some d/\∀ v Hs' H',Ext Hs H Hs' H'->Rp K Hs' v d->Q v H'
def rdU (K:W.Frag) (o:D->Option D):V->Hp->VK->Prop:=fun x H Q=>∃ Hs dx d,bY Hs H/\Rp K Hs x dx/\o dx=some d/\∀ v Hs' H',Ext Hs H Hs' H'->Rp K Hs' v d->Q v H'
def rdL (K:W.Frag) (o:List D->Option D):List V->Hp->VK->Prop:=fun xs H Q=>∃ Hs ds d,bY Hs H/\Rps K Hs xs ds/\o ds=some d/\∀ v Hs' H',Ext Hs H Hs' H'->Rp K Hs' v d->Q v H'
theorem nK {o:D->D->Option D} {σ:St} {H:Hp} {Q:VK} (K:W.Frag) (hh:rdE K (dOp o f g) σ H Q):tOp (rdR K o) (rdE K f) (rdE K g) σ H Q:=by
 obtain ⟨H0,Hs,τ,fp,d,st,sm,e,k⟩:=hh
 obtain ⟨x,e1,e⟩:=bind_some e
 obtain ⟨y,e2,e⟩:=bind_some e
 refine ⟨H0,Hs,τ,fp,x,st,sm,e1,fun v Hs1 H1 g1 r1=>?_⟩
 refine ⟨H0,Hs1,τ,fp,y,st.ext g1,g1.sh,e2,fun u Hs2 H2 g2 r2=>?_⟩
 exact ⟨Hs2,x,y,d,g2.sh,r1.same g2.ss,r2,e,fun w Hs3 H3 g3 r3=>k w Hs3 H3 ((g1.trans g2).trans g3) r3⟩
theorem HY {op:Operator} {o:D->D->Option D} (ho:OpR X (binaryOp op) (rdR X.K o)) (ha:PEd X a f) (hb:PEd X b g):PEd X (.BinOp a op b pos) (dOp o f g) :=
 (HU ho ha hb).imp fun σ H Q h=>nK X.K h
theorem HW {op:UnaryOp} {o:D->Option D} (ho:UnR X (unaryOp op) (rdU X.K o)) (ha:PEd X a f):PEd X (.UnaryOp op a pos) (dUn o f) :=
 (HS ho ha).imp fun σ H Q ⟨H0,Hs,τ,fp,d,st,sm,e,k⟩=>by
   obtain ⟨x,e1,e⟩:=bind_some e
   exact ⟨H0,Hs,τ,fp,x,st,sm,e1,fun v Hs1 H1 g1 r1=>⟨Hs1,x,d,g1.sh,r1,e,fun w Hs3 H3 g3 r3=>k w Hs3 H3 (g1.trans g3) r3⟩⟩
theorem EC {op:CmpOp} {o:D->D->Option D} (ho:OpR X (compareOp op) (rdR X.K o)) (ha:PEd X a f) (hb:PEd X b g) (hm:behindInMarks op b=false):PEd X (.Compare a [op] [b] pos) (dOp o f g) :=
 (B3 ho ha hb hm).imp fun σ H Q h=>nK X.K h
theorem By {op:CmpOp} {o:D->D->Option D} (ho:OpR X (compareOp op) (rdR X.K o)) (ha:PEd X a f) (hb:PEd X b g) (hm:behindInMarks op b=false):PTd X (.Compare a [op] [b] pos) (dT (dOp o f g)) :=
 (vQ ho ha hb hm).imp fun σ H Q ⟨H0,Hs,τ,fp,d,st,sm,e,k⟩=>by
   obtain ⟨x,e1,e⟩:=bind_some e
   have hx:x=.bl d:=by cases x <;> simp at e <;> subst e <;> rfl
   subst hx
   refine nK (Q:=fun x H'=>∃ k,x=.bl k/\Q k H') X.K ⟨H0,Hs,τ,fp,_,st,sm,e1,fun v Hs' H' g r=>?_⟩
   cases r
   exact ⟨d,rfl,k Hs' H' g⟩
theorem zt {op op':CmpOp} {o o':D->D->Option D} (ho:OpR X (compareOp op) (rdR X.K o)) (ho':OpR X (compareOp op') (rdR X.K o')) (ha:PEd X a f) (hb:PEd X b g) (hc:PEd X c h)
   (hm:lastMarks [op,op'] [b,c]=false:=by with_unfolding_all rfl):PEd X (.Compare a [op,op'] [b,c] pos) (gI (dOp o f g) (dOp o' g h)) :=
 (zq ho ho' ha hb hc hm).imp fun σ H Q ⟨H0,Hs,τ,fp,d,st,sm,e,k⟩=>by
   obtain ⟨r,e0,e⟩:=bind_some e
   obtain ⟨x,e1,e0⟩:=bind_some e0
   obtain ⟨y,e2,e0⟩:=bind_some e0
   refine ⟨H0,Hs,τ,fp,x,st,sm,e1,fun v Hs1 H1 g1 r1=>?_⟩
   refine ⟨H0,Hs1,τ,fp,y,st.ext g1,g1.sh,e2,fun u Hs2 H2 g2 r2=>?_⟩
   refine ⟨Hs2,x,y,r,g2.sh,r1.same g2.ss,r2,e0,fun w Hs3 H3 g3 r3=>?_⟩
   cases r3 with
   | bl kb =>
    refine ⟨kb,rfl,?_⟩
    cases kb with
    | false =>
     rw [if_neg Zf]
     have e':D.bl false=d:=by simpa using e
     subst e'
     exact k _ Hs3 H3 ((g1.trans g2).trans g3) (.bl false)
    | true =>
     rw [if_pos rfl]
     obtain ⟨y',q1,q2⟩:=bind_some (show (g τ).bind _=some d from e)
     have ey:y'=y:=by rw [e2] at q1; exact (Zj q1).symm
     subst ey
     obtain ⟨z,q3,q4⟩:=bind_some q2
     refine ⟨H0,Hs3,τ,fp,z,st.ext ((g1.trans g2).trans g3),g3.sh,q3,fun u' Hs4 H4 g4 r4=>?_⟩
     exact ⟨Hs4,y',z,d,g4.sh,(r2.same g3.ss).same g4.ss,r4,q4,fun w' Hs5 H5 g5 r5=>k w' Hs5 H5 ((((g1.trans g2).trans g3).trans g4).trans g5) r5⟩
   | _=>exact nn e
theorem Cc:PAd X [] aY:=gE.imp fun σ H Q ⟨H0,Hs,τ,fp,d,st,sm,e,k⟩=>by
 have e':[]=d:=Zj e
 subst e'
 exact k [] Hs H (.refl sm) .nil
theorem zw {g:DA} (ha:PEd X e f) (hr:PAd X es g) (hs:starEach (e::es) X.env=(false,eval e X.env)::starEach es X.env:=by rfl):PAd X (e::es) (ao f g) :=
 (dm ha hr hs).imp fun σ H Q ⟨H0,Hs,τ,fp,d,st,sm,e,k⟩=>by
   obtain ⟨x,e1,e⟩:=bind_some e
   obtain ⟨xs,e2,e⟩:=bind_some e
   have e':x::xs=d:=Zj e
   subst e'
   refine ⟨H0,Hs,τ,fp,x,st,sm,e1,fun v Hs1 H1 g1 r1=>?_⟩
   exact ⟨H0,Hs1,τ,fp,xs,st.ext g1,g1.sh,e2,fun u Hs2 H2 g2 r2=>k _ Hs2 H2 (g1.trans g2) (.cons (r1.same g2.ss) r2)⟩
theorem Et {x1} {g:DA} (h:PAd X es g):PEd X (.Tuple es x1 pos) (C7 g) :=
 (Ar h).imp fun σ H Q ⟨H0,Hs,τ,fp,d,st,sm,e,k⟩=>by
   obtain ⟨xs,e1,e⟩:=bind_some e
   by_cases hl:xs.length<=100000
   ·rw [if_pos hl] at e
    have e':D.tup xs=d:=Zj e
    subst e'
    refine ⟨H0,Hs,τ,fp,xs,st,sm,e1,fun v Hs1 H1 g1 r1=>?_⟩
    refine ⟨by rw [r1.length]; exact w9 hl,fun p hp=>?_⟩
    have g2:=Ext.new g1.sh hp (.tup v)
    exact k _ _ _ (g1.trans g2) (.tup (SqT.of au) (r1.same g2.ss))
   · rw [if_neg hl] at e; cases e
theorem Ef {g:DA} (h:PAd X es g):PEo X (.List es pos) (rZ g) :=
 (Em h).imp fun σ H Q ⟨H0,Hs,τ,fp,d,st,sm,e,k⟩=>by
   obtain ⟨xs,e1,e⟩:=bind_some e
   by_cases hl:xs.length<=100000
   ·rw [if_pos hl] at e
    have e':D.lst xs=d:=Zj e
    subst e'
    refine ⟨H0,Hs,τ,fp,xs,st,sm,e1,fun v Hs1 H1 g1 r1=>?_⟩
    refine ⟨by rw [r1.length]; exact w9 hl,fun p hp=>?_⟩
    refine k p Hs1 _ ⟨g1.ss,g1.sh.trans (aB hp _),g1.hh.trans (aB hp _),g1.fr⟩ (.lst au (g1.sh.free hp) r1) (g1.hh.free hp)
   · rw [if_neg hl] at e; cases e
theorem PEo.shr (h:PEo X e f):PEd X e f :=
 PE.imp h fun σ H Q ⟨H0,Hs,τ,fp,d,st,sm,e,k⟩=>⟨H0,Hs,τ,fp,d,st,sm,e,fun a Hs' H' g o z=>by
  obtain ⟨ob,h1,h2⟩:=o.rp
  refine k _ (upd Hs' a ob) H' ⟨g.ss.trans (aB o.hid ob),fun b u q=>?_,g.hh,fun b h3 h4=>?_⟩ h2
  ·by_cases eb:b=a
   · subst eb; rw [au] at q; rw [h1]; exact q
   · rw [ak eb] at q; exact g.sh _ _ q
  ·by_cases eb:b=a
   · subst eb; exact absurd z h4
   · rw [ak eb]; exact g.fr b h3 h4⟩
theorem Bu (h:PEd X e f) (he:∀ whole,isTrue e X.env whole=(do let v <- whole; standAt e.pos; holding [v] (truthy v)):=by intro _; rfl):PTd X e (dT f) :=
 (vO h he).imp fun σ H Q ⟨H0,Hs,τ,fp,d,st,sm,e,k⟩=>by
   obtain ⟨x,e1,e⟩:=bind_some e
   have hx:x=.bl d:=by cases x <;> simp at e <;> subst e <;> rfl
   subst hx
   refine ⟨H0,Hs,τ,fp,_,st,sm,e1,fun v Hs' H' g r=>?_⟩
   cases r
   exact ⟨d,rfl,k Hs' H' g⟩
theorem Bv {f:DT} (h:PTd X e f):PTd X (.UnaryOp .Not e pos) (uE f) :=
 (vP h).imp fun σ H Q ⟨H0,Hs,τ,fp,d,st,sm,e,k⟩=>by
   obtain ⟨x,e1,e⟩:=Zm e
   subst e
   exact ⟨H0,Hs,τ,fp,x,st,sm,e1,fun Hs' H' g=>k Hs' H' g⟩
def PWd (X:Cx) (e:Expr) (f:DT):Prop:=PW X e (rdT X.K f)
theorem PW.imp {t t':TT} (h:PW X e t) (hi:∀ σ H Q,t' σ H Q->t σ H Q):PW X e t':=fun wh pins s σ H Q I q=>h wh pins s σ H Q I (hi _ _ _ q)
theorem yI {f:DT} (h:PTd X a f):PWd X (.BoolOp .And [a] pos) f:=pw_and1 h
theorem Bl {f:DT} (h:PTd X a f):PWd X (.BoolOp .Or [a] pos) f:=pw_or1 h
theorem Bm {f g:DT} (ha:PTd X a f) (hb:PWd X (.BoolOp .And (b::es) pos) g):PWd X (.BoolOp .And (a::b::es) pos) (FO f g) :=
 PW.imp (pw_and ha hb) fun σ H Q ⟨H0,Hs,τ,fp,d,st,sm,e,k⟩=>by
  obtain ⟨x,e1,e⟩:=bind_some e
  refine ⟨H0,Hs,τ,fp,x,st,sm,e1,fun Hs' H' g1=>?_⟩
  cases x with
  | true=>exact ⟨H0,Hs',τ,fp,d,st.ext g1,g1.sh,e,fun Hs2 H2 g2=>k Hs2 H2 (g1.trans g2)⟩
  | false =>
   have e':false=d:=by simpa using e
   subst e'
   exact k Hs' H' g1
theorem D7 {f g:DT} (ha:PTd X a f) (hb:PWd X (.BoolOp .Or (b::es) pos) g):PWd X (.BoolOp .Or (a::b::es) pos) (dOr f g) :=
 PW.imp (pw_or ha hb) fun σ H Q ⟨H0,Hs,τ,fp,d,st,sm,e,k⟩=>by
  obtain ⟨x,e1,e⟩:=bind_some e
  refine ⟨H0,Hs,τ,fp,x,st,sm,e1,fun Hs' H' g1=>?_⟩
  cases x with
  | false=>exact ⟨H0,Hs',τ,fp,d,st.ext g1,g1.sh,e,fun Hs2 H2 g2=>k Hs2 H2 (g1.trans g2)⟩
  | true =>
   have e':true=d:=by simpa using e
   subst e'
   exact k Hs' H' g1
theorem PWd.ptd {f:DT} (h:PWd X e f):PTd X e f:=PW.pt h
theorem Ew {op} (h:PEd X a f):PEd X (.BoolOp op [a] pos) f:=Ej h
theorem ED (ha:PEd X a f) (hb:PEd X (.BoolOp .And (b::es) pos) g):PEd X (.BoolOp .And (a::b::es) pos) (gI f g) :=
 (Er ha hb).imp fun σ H Q ⟨H0,Hs,τ,fp,d,st,sm,e,k⟩=>by
   obtain ⟨x,e1,e⟩:=bind_some e
   refine ⟨H0,Hs,τ,fp,x,st,sm,e1,fun v Hs' H' g1 r=>?_⟩
   cases r with
   | bl kb =>
    refine ⟨kb,rfl,?_⟩
    cases kb with
    | true=>exact ⟨H0,Hs',τ,fp,d,st.ext g1,g1.sh,e,fun v Hs2 H2 g2 r=>k v Hs2 H2 (g1.trans g2) r⟩
    | false =>
     have e':D.bl false=d:=by simpa using e
     subst e'
     exact k _ Hs' H' g1 (.bl false)
   | _=>exact nn e
theorem Ex (ha:PEd X a f):PEd X (.UnaryOp .Not a pos) (C8 f) :=
 (Ek ha).imp fun σ H Q ⟨H0,Hs,τ,fp,d,st,sm,e,k⟩=>by
   obtain ⟨x,e1,e⟩:=bind_some e
   refine ⟨H0,Hs,τ,fp,x,st,sm,e1,fun v Hs' H' g1 r=>?_⟩
   cases r with
   | bl kb =>
    have e':D.bl (!kb)=d:=by simpa using e
    subst e'
    exact ⟨kb,rfl,k _ Hs' H' g1 (.bl _)⟩
   | _=>exact nn e
theorem Ia {t:DT} (hc:PTd X c t) (ha:PEd X a f) (hb:PEd X b g):PEd X (.IfExp c a b pos) (dIf t f g) :=
 (zo hc ha hb).imp fun σ H Q ⟨H0,Hs,τ,fp,d,st,sm,e,k⟩=>by
   obtain ⟨x,e1,e⟩:=bind_some e
   refine ⟨H0,Hs,τ,fp,x,st,sm,e1,fun Hs' H' g1=>?_⟩
   cases x with
   | true=>exact ⟨H0,Hs',τ,fp,d,st.ext g1,g1.sh,by simpa using e,fun v Hs2 H2 g2 r=>k v Hs2 H2 (g1.trans g2) r⟩
   | false=>exact ⟨H0,Hs',τ,fp,d,st.ext g1,g1.sh,by simpa using e,fun v Hs2 H2 g2 r=>k v Hs2 H2 (g1.trans g2) r⟩
end
instance {i j:Int}:Decidable (AZ i j):=by unfold AZ; infer_instance
instance {i:Int}:Decidable (Sz i):=by unfold Sz; infer_instance
def gL:D->D->Option D
 | .int i,.int j=>some (.int (i+j))
 | .str x,.str y=>if x.length+y.length<=100000 then some (.str (x++y)) else none
 | .lst x,.lst y=>if x.length+y.length<=100000 then some (.lst (x++y)) else none
 | _,_=>none
def Dt:D->D->Option D
 | .int i,.int j=>some (.int (i - j))
 | _,_=>none
def uX:D->D->Option D
 | .int i,.int j=>if AZ i j\/(Sz i/\Sz j) then some (.int (i * j)) else none
 | _,_=>none
def oDiv:D->D->Option D
 | .int i,.int j=>if j≠0/\Sz j then some (.int (i.fdiv j)) else none
 | _,_=>none
def oMod:D->D->Option D
 | .int i,.int j=>if j≠0 then some (.int (i.fmod j)) else none
 | _,_=>none
def Gf:D->Option D
 | .int i=>some (.int (-i))
 | _=>none
def oLt:D->D->Option D
 | .int i,.int j=>some (.bl (decide (i < j)))
 | .str i,.str j=>some (.bl (decide (i.cps.toList < j.cps.toList)))
 | _,_=>none
def oLe:D->D->Option D
 | .int i,.int j=>some (.bl (decide (i<=j)))
 | _,_=>none
def oGt:D->D->Option D
 | .int i,.int j=>some (.bl (decide (j < i)))
 | _,_=>none
def J7:D->D->Option D
 | .non,.non=>some (.bl true)
 | _,.non=>some (.bl false)
 | _,_=>none
def nE:D->D->Option D
 | .non,.non=>some (.bl false)
 | _,.non=>some (.bl true)
 | _,_=>none
def eqS:D->D->Option Bool
 | .non,.non=>some true | .non,.int _=>some false | .int _,.non=>some false | .non,.bl _=>some false | .bl _,.non=>some false | .non,.str _=>some false | .str _,.non=>some false
 | .int i,.int j=>some (decide (i=j)) | .bl i,.bl j=>some (decide (i=j)) | .str i,.str j=>some (decide (i=j))
 | .int _,.str _=>some false | .str _,.int _=>some false | .bl _,.str _=>some false | .str _,.bl _=>some false
 | _,_=>none
mutual
def k6:D->PySem.W.Dat
 | .non=>.none | .bl b=>.bool b | .int i=>.int i | .str x=>.str x | .ty _=>.bytes #[]
 | .tup ds=>.tuple (jY ds) | .lst ds=>.list (jY ds) | .fz _=>.bytes #[] | .dct _=>.bytes #[] | .obj _ _=>.bytes #[] | .cls _=>.bytes #[] | .dfz _=>.bytes #[]
def jY:List D->List PySem.W.Dat
 | []=>[]
 | d::ds=>k6 d::jY ds
end
mutual
def okD:Nat->D->Bool
 | _,.non=>true
 | _,.int _=>true
 | _,.str x=>PyData.strOk x
 | n+1,.tup ds=>rJ n ds
 | n+1,.lst ds=>rJ n ds
 | _,_=>false
def rJ:Nat->List D->Bool
 | _,[]=>true
 | n,d::ds=>okD n d&&rJ n ds
end
open PySem.W in
mutual
theorem md:∀ (n:Nat) (d:D),okD n d=true->kqdOk n (k6 d)=true
 | _,.non,_=>by simp [k6,kqdOk]
 | _,.int _,_=>by simp [k6,kqdOk]
 | n,.str x,h=>by simp [okD] at h; simp [k6,kqdOk,h]
 | n+1,.tup ds,h=>by
  simp [okD] at h
  rw [k6,kqdOk]
  exact oU n ds h
 | n+1,.lst ds,h=>by
  simp [okD] at h
  rw [k6,kqdOk]
  exact oU n ds h
 | _,.bl _,h=>by simp [okD] at h
 | _,.ty _,h=>by simp [okD] at h
 | _,.cls _,h=>by simp [okD] at h
 | _,.dct _,h=>by simp [okD] at h
 | _,.fz _,h=>by simp [okD] at h
 | _,.obj _ _,h=>by simp [okD] at h
 | _,.dfz _,h=>by simp [okD] at h
 | 0,.tup _,h=>by simp [okD] at h
 | 0,.lst _,h=>by simp [okD] at h
theorem oU:∀ (n:Nat) (ds:List D),rJ n ds=true->(jY ds).all (kqdOk n)=true
 | _,[],_=>by simp [jY]
 | n,d::ds,h=>by
  simp [rJ] at h
  simp only [jY,List.all_cons,Bool.and_eq_true]
  exact ⟨md n d h.1,oU n ds h.2⟩
end
mutual
theorem tK:∀ (n:Nat) (d e:D),okD n d=true->okD n e=true->k6 d=k6 e->d=e
 | _,.non,e,_,h,q=>by cases e <;> simp [k6] at q <;> simp [okD] at h <;> rfl
 | _,.int _,e,_,h,q=>by cases e <;> simp [k6] at q <;> simp [okD] at h <;> rw [q]
 | _,.str x,e,_,h,q=>by cases e <;> simp [k6] at q <;> simp [okD] at h <;> rw [q]
 | n+1,.tup ds,e,h1,h,q=>by
  cases e <;> simp [k6] at q <;> simp [okD] at h
  simp [okD] at h1
  rw [mM n _ _ h1 h q]
 | n+1,.lst ds,e,h1,h,q=>by
  cases e <;> simp [k6] at q <;> simp [okD] at h
  simp [okD] at h1
  rw [mM n _ _ h1 h q]
 | _,.bl _,_,h,_,_=>by simp [okD] at h
 | _,.ty _,_,h,_,_=>by simp [okD] at h
 | _,.cls _,_,h,_,_=>by simp [okD] at h
 | _,.dct _,_,h,_,_=>by simp [okD] at h
 | _,.fz _,_,h,_,_=>by simp [okD] at h
 | _,.obj _ _,_,h,_,_=>by simp [okD] at h
 | _,.dfz _,_,h,_,_=>by simp [okD] at h
 | 0,.tup _,_,h,_,_=>by simp [okD] at h
 | 0,.lst _,_,h,_,_=>by simp [okD] at h
theorem mM:∀ (n:Nat) (d e:List D),rJ n d=true->rJ n e=true->jY d=jY e->d=e
 | _,[],e,_,h,q=>by cases e <;> simp [jY] at q; rfl
 | n,d::ds,e,h1,h,q=>by
  cases e with
  | nil=>simp [jY] at q
  | cons e es =>
   simp [jY] at q
   simp [rJ] at h h1
   rw [tK n d e h1.1 h.1 q.1,mM n ds es h1.2 h.2 q.2]
end
section
variable {K:W.Frag} {H:Hp}
mutual
theorem Rp.rdD:∀ {v:V} {d:D} (n:Nat),Rp K H v d->okD n d=true->RdD K H v (k6 d)
 | _,_,_,.non,_=>by rw [k6]; exact .non
 | _,_,_,.int i,_=>by rw [k6]; exact .int i
 | _,_,_,.str i,_=>by rw [k6]; exact .str i
 | _,_,n,.tup h r,o=>by
  cases n with
  | zero=>simp [okD] at o
  | succ n=>simp [okD] at o; rw [k6]; exact .tup h (Rps.rdD n r o)
 | _,_,n,.lst h r,o=>by
  cases n with
  | zero=>simp [okD] at o
  | succ n=>simp [okD] at o; rw [k6]; exact .lst (SqL.of h) (Rps.rdD n r o)
 | _,_,_,.bl _,o=>by simp [okD] at o
 | _,_,_,.ty _,o=>by simp [okD] at o
 | _,_,_,.cls _,o=>by simp [okD] at o
 | _,_,_,.dct _ _,o=>by simp [okD] at o
 | _,_,_,.fz _ _,o=>by simp [okD] at o
 | _,_,_,.obj _ _,o=>by simp [okD] at o
 | _,_,_,.dfz _ _,o=>by simp [okD] at o
theorem Rps.rdD:∀ {v:List V} {d:List D} (n:Nat),Rps K H v d->rJ n d=true->ym K H v (jY d)
 | _,_,_,.nil,_=>by rw [jY]; exact .nil
 | _,_,n,.cons h r,o=>by
  simp [rJ] at o
  rw [jY]
  exact .cons (Rp.rdD n h o.1) (Rps.rdD n r o.2)
end
end
open Classical in
noncomputable def eqB (d e:D):Bool:=decide (d=e)
theorem pb (d:D):eqB d d=true:=by unfold eqB; simp
theorem AQ {d e:D} (h:d≠e):eqB d e=false:=by unfold eqB; simp [h]
noncomputable def eqO (d e:D):Option Bool:=match eqS d e with
 | some b=>some b
 | none=>if okD 9 d=true/\okD 9 e=true then some (eqB d e) else none
noncomputable def oEq (d e:D):Option D:=(eqO d e).map D.bl
noncomputable def oNe (d e:D):Option D:=(eqO d e).map fun b=>.bl (!b)
section
variable {X:Cx}
theorem OpR.imp {fn:Value->Value->Sem Value} {r r':R2} (h:OpR X fn r) (hi:∀ x y H Q,r' x y H Q->r x y H Q):OpR X fn r':=fun pins s σ H x y v u Q I rx ry q=>h pins s σ H x y v u Q I rx ry (hi _ _ _ _ q)
theorem eR : OpR X (binaryOp .Add) (rdR X.K gL) :=
  ((EJ.or uf).or EI).imp fun x y H Q ⟨Hs,dx,dy,d,sm,rx,ry,e,k⟩=>by
    cases rx with
    | int i => cases ry with
      | int j => have e':D.int (i+j)=d:=by simpa [gL] using e
                 subst e'
                 exact .inl (.inl ⟨i,j,rfl,rfl,k _ Hs H (.refl sm) (.int _)⟩)
      | _=>exact nn e
    | str x=>cases ry with
      | str y =>
        by_cases hl:x.length+y.length<=100000
        · have e':D.str (x++y)=d:=by simpa [gL,hl] using e
          subst e'
          exact .inl (.inr ⟨x,y,rfl,rfl,w9 hl,k _ Hs H (.refl sm) (.str _)⟩)
        · simp [gL,hl] at e
      | _=>exact nn e
    | @lst a xs ds h r=>cases ry with
      | @lst b ys es h' r' =>
        by_cases hl:ds.length+es.length<=100000
        · have e':D.lst (ds++es)=d:=by simpa [gL,hl] using e
          subst e'
          refine .inr ⟨a,b,xs,ys,rfl,rfl,sm _ _ h,sm _ _ h',by rw [r.length,r'.length]; exact w9 hl,fun p hp=>?_⟩
          have g:=Ext.new sm hp (.lst (xs++ys))
          exact k _ _ _ g (.lst au ((r.same g.ss).append (r'.same g.ss)))
        · simp [gL,hl] at e
      | _=>exact nn e
    | _=>exact nn e
theorem ui {fn:Value->Value->Sem Value} {C:Int->Int->Prop} [∀ i j,Decidable (C i j)] {gv:Int->Int->V} {gd:Int->Int->D} {o:D->D->Option D} (h:OpR X fn (rI C gv)) (hg:∀ i j H,Rp X.K H (gv i j) (gd i j))
  (ho:∀ x y d,o x y=some d->∃ i j,x=.int i/\y=.int j/\C i j/\d=gd i j):OpR X fn (rdR X.K o) :=
 h.imp fun x y H Q ⟨Hs,dx,dy,d,sm,rx,ry,e,k⟩=>by
  obtain ⟨i,j,rfl,rfl,c,rfl⟩:=ho _ _ _ e
  cases rx
  cases ry
  exact ⟨i,j,rfl,rfl,c,k _ Hs H (.refl sm) (hg i j Hs)⟩
theorem HM {fn:Value->Value->Sem Value} {g:Int->Int->V} (h:OpR X fn (rI0 g)):OpR X fn (rI (fun _ _=>True) g):=h.imp fun x y H Q ⟨i,j,h1,h2,_,q⟩=>⟨i,j,h1,h2,q⟩
theorem Cm:OpR X (binaryOp .Sub) (rdR X.K Dt):=ui (gd:=fun i j=>.int (i - j)) (HM EE) (fun _ _ _=>.int _) fun x y d e=>by
 unfold Dt at e
 split at e
 · exact ⟨_,_,rfl,rfl,trivial,(Zj e).symm⟩
 · cases e
theorem Cf:OpR X (binaryOp .Mult) (rI (fun i j=>AZ i j\/(Sz i/\Sz j)) fun i j=>.int (i * j)):=opI fun _ _ _ _ _ _ _ hc q=>mul_int q (hc.elim (·.ok) fun h=>PySem.IntMulOk.of_bits h.1.bits h.2.bits)
theorem wF:OpR X (binaryOp .Mult) (rdR X.K uX):=ui (gd:=fun i j=>.int (i * j)) Cf (fun _ _ _=>.int _) fun x y d e=>by
 unfold uX at e
 split at e
 ·split at e
  ·rename_i c
   exact ⟨_,_,rfl,rfl,c,(Zj e).symm⟩
  · cases e
 · cases e
theorem EN:OpR X (binaryOp .FloorDiv) (rdR X.K oDiv):=ui (gd:=fun i j=>.int (i.fdiv j)) Ci (fun _ _ _=>.int _) fun x y d e=>by
 unfold oDiv at e
 split at e
 ·split at e
  ·rename_i c
   exact ⟨_,_,rfl,rfl,c,(Zj e).symm⟩
  · cases e
 · cases e
theorem jO:OpR X (binaryOp .Mod) (rdR X.K oMod):=ui (gd:=fun i j=>.int (i.fmod j)) Cg (fun _ _ _=>.int _) fun x y d e=>by
 unfold oMod at e
 split at e
 ·split at e
  ·rename_i c
   exact ⟨_,_,rfl,rfl,c,(Zj e).symm⟩
  · cases e
 · cases e
theorem EM:OpR X (compareOp .LtE) (rdR X.K oLe):=ui (gd:=fun i j=>.bl (decide (i<=j))) (HM Ig) (fun _ _ _=>.bl _) fun x y d e=>by
 unfold oLe at e
 split at e
 · exact ⟨_,_,rfl,rfl,trivial,(Zj e).symm⟩
 · cases e
theorem Ge:OpR X (compareOp .Gt) (rdR X.K oGt):=ui (gd:=fun i j=>.bl (decide (j < i))) (HM Ih) (fun _ _ _=>.bl _) fun x y d e=>by
 unfold oGt at e
 split at e
 · exact ⟨_,_,rfl,rfl,trivial,(Zj e).symm⟩
 · cases e
theorem Il:OpR X (compareOp .Lt) (rdR X.K oLt):=(Ie.or wy).imp fun x y H Q ⟨Hs,dx,dy,d,sm,rx,ry,e,k⟩=>by
 cases rx with
 | int i=>cases ry with
  | int j =>
   have e':D.bl (decide (i < j))=d:=by simpa [oLt] using e
   subst e'
   exact .inl ⟨i,j,rfl,rfl,k _ Hs H (.refl sm) (.bl _)⟩
  | _=>exact nn e
 | str i=>cases ry with
  | str j =>
   have e':D.bl (decide (i.cps.toList < j.cps.toList))=d:=Zj e
   subst e'
   exact .inr ⟨i,j,rfl,rfl,k _ Hs H (.refl sm) (.bl _)⟩
  | _=>exact nn e
 | _=>exact nn e
theorem Ik:UnR X (unaryOp .USub) (rdU X.K Gf):=fun pins s σ H x v Q I rx ⟨Hs,dx,d,sm,r,e,k⟩=>Dy pins s σ H x v Q I rx (by
 cases r with
 | int i =>
  have e':D.int (-i)=d:=by simpa [Gf] using e
  subst e'
  exact ⟨i,rfl,k _ Hs H (.refl sm) (.int _)⟩
 | _=>simp [Gf] at e)
theorem Im:OpR X (compareOp .Is) (rdR X.K J7):=EG.imp fun x y H Q ⟨Hs,dx,dy,d,sm,rx,ry,e,k⟩=>by
 cases ry with
 | non =>
  refine ⟨rfl,?_⟩
  cases rx <;> (have e':=Zj e; subst e'; exact k _ Hs H (.refl sm) (.bl _))
 | _=>cases rx <;> exact nn e
theorem wD:OpR X (compareOp .IsNot) (rdR X.K nE):=Cd.imp fun x y H Q ⟨Hs,dx,dy,d,sm,rx,ry,e,k⟩=>by
 cases ry with
 | non =>
  refine ⟨rfl,?_⟩
  cases rx <;> (have e':=Zj e; subst e'; exact k _ Hs H (.refl sm) (.bl _))
 | _=>cases rx <;> exact nn e
theorem AO {K:W.Frag} {H:Hp} {x y:V} {dx dy:D} {b:Bool} (rx:Rp K H x dx) (ry:Rp K H y dy) (e:eqS dx dy=some b):HD x y=true/\decide (x=y)=b:=by
  unfold eqS at e
  split at e <;> first
    | (cases e; done)
    | (have e':=Zj e
       subst e'
       cases rx
       cases ry
       exact ⟨rfl,by simp⟩)
theorem tG {n:Nat} {d e:D} (h:okD n d=true) (h':okD n e=true):eqD (k6 d) (k6 e)=eqB d e:=by
 by_cases q:d=e
 · subst q; rw [pb,zR rfl]
 · rw [AQ q,xE fun z=>q (tK n _ _ h h' z)]
theorem yr (hu:X.A.units+64 < cLine):OpR X (compareOp .Eq) (rdR X.K oEq):=(Ii.or (EH hu)).imp fun x y H Q ⟨Hs,dx,dy,d,sm,rx,ry,e,k⟩=>by
 obtain ⟨b,e',rfl⟩:=Zm (show Option.map _ (eqO dx dy)=some d from e)
 clear e
 have e:=e'
 clear e'
 unfold eqO at e
 split at e
 ·rename_i b' q
  have e':b'=b:=Zj e
  subst e'
  obtain ⟨h1,h2⟩:=AO rx ry q
  refine .inl ⟨h1,?_⟩
  rw [h2]
  exact k _ Hs H (.refl sm) (.bl _)
 ·split at e
  ·rename_i h
   have e':eqB dx dy=b:=Zj e
   subst e'
   refine .inr ⟨k6 dx,k6 dy,(rx.same sm).rdD 9 h.1,(ry.same sm).rdD 9 h.2,md 9 _ h.1,md 9 _ h.2,?_⟩
   rw [tG h.1 h.2]
   exact k _ Hs H (.refl sm) (.bl _)
  · cases e
theorem Av (hu:X.A.units+64 < cLine):OpR X (compareOp .NotEq) (rdR X.K oNe):=(Ic.or (EF hu)).imp fun x y H Q ⟨Hs,dx,dy,d,sm,rx,ry,e,k⟩=>by
 obtain ⟨b,e',rfl⟩:=Zm (show Option.map _ (eqO dx dy)=some d from e)
 clear e
 have e:=e'
 clear e'
 unfold eqO at e
 split at e
 ·rename_i b' q
  have e':b'=b:=Zj e
  subst e'
  obtain ⟨h1,h2⟩:=AO rx ry q
  refine .inl ⟨h1,?_⟩
  rw [h2]
  exact k _ Hs H (.refl sm) (.bl _)
 ·split at e
  ·rename_i h
   have e':eqB dx dy=b:=Zj e
   subst e'
   refine .inr ⟨k6 dx,k6 dy,(rx.same sm).rdD 9 h.1,(ry.same sm).rdD 9 h.2,md 9 _ h.1,md 9 _ h.2,?_⟩
   rw [tG h.1 h.2]
   exact k _ Hs H (.refl sm) (.bl _)
  · cases e
end
def oIx:D->D->Option D
 | .tup ds,.int i=>atI ds i
 | .lst ds,.int i=>atI ds i
 | .fz ds,.int i=>atI ds i
 | .str z,.int i=>if z.length<=100000 then (atI z.cps.toList i).map fun c=>.str ⟨#[c]⟩ else none
 | _,_=>none
def DO:=List Sl->Option (Option Int)
def dP (f:DE):DO:=fun τ=>(f τ).bind fun x=>match x with | .int i=>some (some i) | _=>none
def cutD (xs:List D) (lo hi:Option Int):List D:=(xs.drop (HT.sIx xs.length 0 lo)).take (HT.sIx xs.length xs.length hi - HT.sIx xs.length 0 lo)
def oSl:D->Option Int->Option Int->Option D
 | .lst ds,lo,hi=>some (.lst (cutD ds lo hi))
 | .fz ds,lo,hi=>some (.lst (cutD ds lo hi))
 | _,_,_=>none
def dSl (f:DE) (lo hi:DO):DE:=fun τ=>(f τ).bind fun x=>(lo τ).bind fun l=>(hi τ).bind fun u=>oSl x l u
def lN:List D->Option D
 | [.str z]=>if z.length<=100000 then some (.int z.length) else none
 | [.tup ds]=>some (.int ds.length)
 | [.lst ds]=>some (.int ds.length)
 | [.fz ds]=>some (.int ds.length)
 | _=>none
def wH:List D->Option D
 | [.tup ds]=>some (.lst ds)
 | [.lst ds]=>some (.lst ds)
 | [.fz ds]=>some (.lst ds)
 | _=>none
def tyN:D->Option String
 | .non=>some "NoneType" | .bl _=>some "bool" | .int _=>some "int" | .str _=>some "str" | .tup _=>some "tuple" | .lst _=>some "list" | .dct _=>some "dict" | _=>none
def Fj (t n:String):Bool:=t == n||(t == "bool"&&n == "int")
def kinds:List String:=["int","bool","str","list","tuple","dict"]
def zA:List D->Option D
 | [d,.ty n]=>(tyN d).bind fun t=>if n ∈ kinds then some (.bl (Fj t n)) else none
 | _=>none
theorem sv {K:W.Frag} {H:Hp} {xs:List V} {ds:List D} {i:Int} {d:D} (r:Rps K H xs ds) (e:atI ds i=some d):∃ v,atI xs i=some v/\Rp K H v d:=by
 unfold atI at *
 obtain ⟨j,e1,e2⟩:=bind_some e
 obtain ⟨v,h1,h2⟩:=r.get e2
 exact ⟨v,by rw [r.length,e1]; exact h1,h2⟩
theorem xT {K:W.Frag} {H:Hp} {xs:List V} {ds:List D} (lo hi:Option Int) (r:Rps K H xs ds):Rps K H (Du xs lo hi) (cutD ds lo hi):=by
 unfold Du cutD
 rw [r.length]
 exact (r.drop _).take _
theorem xb {K:W.Frag} {t n:String} (ht:t ∈ ["NoneType","bool","int","str","tuple","list","dict"]) (hn:n ∈ kinds):PySem.W.kitOne K (.type t) (.type n)=some (Fj t n):=by
 simp only [kinds,List.mem_cons,List.not_mem_nil,or_false] at ht hn
 rcases ht with rfl | rfl | rfl | rfl | rfl | rfl | rfl <;> rcases hn with rfl | rfl | rfl | rfl | rfl | rfl <;> kernel_rfl
section
variable {X:Cx} {a b c e:Expr} {es:List Expr} {pos:Pos} {f g h:DE}
theorem IxR.imp {r r':R2} (h:IxR X r) (hi:∀ x y H Q,r' x y H Q->r x y H Q):IxR X r':=fun value slice pins s σ H x y v u Q I rx ry q=>h value slice pins s σ H x y v u Q I rx ry (hi _ _ _ _ q)
theorem ixd:IxR X (rdR X.K oIx):=((CO.or Ff).or Fg).imp fun x y H Q ⟨Hs,dx,dy,d,sm,rx,ry,e,k⟩=>by
 cases ry with
 | int i =>
  cases rx with
  | tup h r =>
   obtain ⟨v,h1,h2⟩:=sv r (show atI _ i=some d from e)
   exact .inl (.inr ⟨_,_,i,v,rfl,rfl,sm.tup h,h1,k v Hs H (.refl sm) h2⟩)
  | lst h r =>
   obtain ⟨v,h1,h2⟩:=sv r (show atI _ i=some d from e)
   exact .inl (.inl ⟨_,_,i,v,rfl,rfl,SqL.of (sm _ _ h),h1,k v Hs H (.refl sm) h2⟩)
  | fz h r =>
   obtain ⟨v,h1,h2⟩:=sv r (show atI _ i=some d from e)
   exact .inl (.inl ⟨_,_,i,v,rfl,rfl,sm.seq h,h1,k v Hs H (.refl sm) h2⟩)
  | str z =>
   by_cases hl:z.length<=100000
   ·have e0:(atI z.cps.toList i).map (fun c=>D.str ⟨#[c]⟩)=some d:=by simpa only [oIx,hl,if_true] using e
    obtain ⟨c,e1,rfl⟩:=Zm e0
    exact .inr ⟨z,i,c,rfl,rfl,w9 hl,e1,k _ Hs H (.refl sm) (.str _)⟩
   · simp [oIx,hl] at e
  | _=>exact nn e
 | _=>cases rx <;> exact nn e
theorem HZ (ha:PEd X a f) (hb:PEd X b g) (hs:sD b):PEd X (.Subscript a b pos) (dOp oIx f g):=(HV ixd ha hb hs).imp fun σ H Q h=>nK X.K h
def rdP (K:W.Frag) (f:DO):TO:=fun σ H Q=>∃ H0 Hs τ fp d,StR K H0 Hs H σ τ fp/\bY Hs H/\f τ=some d/\∀ Hs' H',Ext Hs H Hs' H'->Q d H'
def POd (X:Cx) (e:Option Expr) (f:DO):Prop:=PO X e (rdP X.K f)
theorem PO.imp {e:Option Expr} {t t':TO} (h:PO X e t) (hi:∀ σ H Q,t' σ H Q->t σ H Q):PO X e t':=fun pins s σ H Q I q=>h pins s σ H Q I (hi _ _ _ q)
theorem zf (h:PEd X e f):POd X (some e) (dP f):=(BM h).imp fun σ H Q ⟨H0,Hs,τ,fp,d,st,sm,e,k⟩=>by
 obtain ⟨x,e1,e⟩:=bind_some e
 refine ⟨H0,Hs,τ,fp,x,st,sm,e1,fun v Hs' H' g r=>?_⟩
 cases r with
 | int i =>
  have e':some i=d:=Zj e
  subst e'
  exact ⟨i,rfl,k Hs' H' g⟩
 | _=>exact nn e
theorem HP {lo hi:Option Expr} {p2:Pos} {l u:DO} (ha:PEd X a f) (hl:POd X lo l) (hh:POd X hi u):PEo X (.Subscript a (.Slice lo hi none p2) pos) (dSl f l u) :=
 (zm Bd ha hl hh).imp fun σ H Q ⟨H0,Hs,τ,fp,d,st,sm,e,k⟩=>by
   obtain ⟨x,e1,e⟩:=bind_some e
   obtain ⟨l',e2,e⟩:=bind_some e
   obtain ⟨u',e3,e⟩:=bind_some e
   refine ⟨H0,Hs,τ,fp,x,st,sm,e1,fun v Hs1 H1 g1 r1=>?_⟩
   refine ⟨H0,Hs1,τ,fp,l',st.ext g1,g1.sh,e2,fun Hs2 H2 g2=>?_⟩
   refine ⟨H0,Hs2,τ,fp,u',(st.ext g1).ext g2,g2.sh,e3,fun Hs3 H3 g3=>?_⟩
   have g13:=(g1.trans g2).trans g3
   have r3:=(r1.same g2.ss).same g3.ss
   have fin:∀ (p:Addr) (ys:List V) (ds:List D),H3 p=none->Rps X.K Hs3 ys ds->d=.lst ds->Q (.ref p) (upd H3 p (.lst ys)):=fun p ys ds hp r ed=>by
    subst ed
    exact k p Hs3 _ ⟨g13.ss,g13.sh.trans (aB hp _),g13.hh.trans (aB hp _),g13.fr⟩ (.lst au (g13.sh.free hp) r) (g13.hh.free hp)
   cases r3 with
   | @lst a xs ds h r =>
    have e':D.lst (cutD ds l' u')=d:=Zj e
    exact ⟨a,xs,rfl,SqL.of (g3.sh _ _ h),fun p hp=>fin p _ _ hp (xT l' u' r) e'.symm⟩
   | @fz a xs ds h r =>
    have e':D.lst (cutD ds l' u')=d:=Zj e
    exact ⟨a,xs,rfl,g3.sh.seq h,fun p hp=>fin p _ _ hp (xT l' u' r) e'.symm⟩
   | _=>exact nn e
theorem gJ.imp {fn:Value} {r r':List V->Hp->VK->Prop} (h:gJ X fn r) (hi:∀ x H Q,r' x H Q->r x H Q):gJ X fn r':=fun pins s σ H x u Q I rx q=>h pins s σ H x u Q I rx (hi _ _ _ q)
theorem call_of {o:List D->Option D} {g:DA} {σ:St} {H:Hp} {Q:VK} (K:W.Frag) (hh:rdE K (bR o g) σ H Q):tCB (rdL K o) (rdA K g) σ H Q:=by
 obtain ⟨H0,Hs,τ,fp,d,st,sm,e,k⟩:=hh
 obtain ⟨xs,e1,e⟩:=bind_some e
 exact ⟨H0,Hs,τ,fp,xs,st,sm,e1,fun v Hs1 H1 g1 r1=>⟨Hs1,xs,d,g1.sh,r1,e,fun w Hs2 H2 g2 r2=>k w Hs2 H2 (g1.trans g2) r2⟩⟩
theorem zu {x:Str} {id:String} {p:Pos} {o:List D->Option D} {g:DA} (hc:gJ X (.builtin id) (rdL X.K o)) (hg:Gl X x) (hm:X.mg x=none) (hv:bootBuiltins x=some (.builtin id)) (ha:PAd X (e::es) g) (hn:x≠"__name__":=by decide) (hdb:(x == ("__debug__":Str))=false:=by decide)
  (he:starEach (e::es) X.env=(false,eval e X.env)::starEach es X.env:=by rfl) (hpl:(backTo pos (starEach es X.env)).any (·.1)=false:=by rfl):PEd X (.Call (.Name x p) (e::es) [] pos) (bR o g) :=
 (sR hc hg hm hv ha hn hdb he hpl).imp fun σ H Q h=>call_of X.K h
theorem kL:gJ X (.builtin "len") (rdL X.K lN):=zY.imp fun xs H Q ⟨Hs,ds,d,sm,r,e,k⟩=>by
 match ds,r,e with
 | [x],.cons hx .nil,e =>
  cases hx with
  | str z =>
   by_cases hl:z.length<=100000
   ·have e':D.int z.length=d:=by simpa [lN,hl] using e
    subst e'
    exact ⟨_,_,rfl,⟨w9 hl,rfl⟩,k _ Hs H (.refl sm) (.int _)⟩
   · simp [lN,hl] at e
  | @tup a ys ds h r =>
   have e':D.int ds.length=d:=Zj e
   subst e'
   exact ⟨_,_,rfl,.inr ⟨_,sm.tup h,rfl⟩,by rw [r.length]; exact k _ Hs H (.refl sm) (.int _)⟩
  | @lst a ys ds h r =>
   have e':D.int ds.length=d:=Zj e
   subst e'
   exact ⟨_,_,rfl,.inl ⟨_,SqL.of (sm _ _ h),rfl⟩,by rw [r.length]; exact k _ Hs H (.refl sm) (.int _)⟩
  | @fz a ys ds h r =>
   have e':D.int ds.length=d:=Zj e
   subst e'
   exact ⟨_,_,rfl,.inl ⟨_,sm.seq h,rfl⟩,by rw [r.length]; exact k _ Hs H (.refl sm) (.int _)⟩
  | _=>exact nn e
 | [],_,e=>simp [lN] at e
 | _::_::_,_,e=>simp [lN] at e
theorem uG:gJ X (.builtin "isinstance") (rdL X.K zA):=by
 intro pins s σ H xs us Q I rv ⟨Hs,ds,d,sm,r,e,k⟩
 have sh:∃ x n,ds=[x,.ty n]:=by
   unfold zA at e
   split at e
   · exact ⟨_,_,rfl⟩
   · cases e
 obtain ⟨x,n,rfl⟩:=sh
 cases r with
 | cons hx rr=>cases rr with
  | cons hy rr=>cases rr with
   | nil =>
   cases hy
   obtain ⟨t,e1,e2⟩:=bind_some (show (tyN x).bind (fun t=>if n ∈ kinds then some (D.bl (Fj t n)) else none)=some d from e)
   by_cases hn:n ∈ kinds
   ·rw [if_pos hn] at e2
    have e':D.bl (Fj t n)=d:=Zj e2
    subst e'
    obtain ⟨u,w',rfl,ru,rw'⟩:=vals2 rv
    have e2:w'=Value.type n:=rw'
    subst e2
    have fin:∀ tk,EP X pins σ Q (.bool (Fj t n)) { s with toks:=tk }:=fun tk=>⟨.bl _,H,I.tok tk,rfl,k _ Hs H (.refl sm) (.bl _)⟩
    have low:∀ {v:V} {T:String},uS X.K H v (.type T)->RelV v u->T ∈ ["NoneType","bool","int","str","tuple","list","dict"]->some T=some t->wpAny (model X.prog X.w) X.A (call (.builtin "isinstance") [u,.type n]) (EP X pins σ Q) X.xe s:=fun ty ru hm et=>by
     have et':=Zj et
     subst et'
     exact xn I ru ty (xb hm hn) fin
    cases hx with
    | non=>exact low (.non) ru (by simp) e1
    | bl b=>exact low (.bl b) ru (by simp) e1
    | int i=>exact low (.int i) ru (by simp) e1
    | str z=>exact low (.str z) ru (by simp) e1
    | lst h _=>exact low (.lst (sm _ _ h)) ru (by simp) e1
    | dct h _=>exact low (.dK (sm _ _ h)) ru (by simp) e1
    | @tup p ys ds h _ =>
     have et':"tuple"=t:=Zj e1
     subst et'
     cases (show u=Value.ref p from ru)
     obtain ⟨its,_,⟨o,h1,h2,_⟩,_⟩:=I.tuple (sm.tup h)
     exact PySem.W.kia_one PySem.W.kitx_tuple I.kIn ⟨o,h1,h2⟩ (xb (by simp) hn) (fun z=>nomatch z) fin
    | ty m=>simp [tyN] at e1
    | cls m=>simp [tyN] at e1
    | dfz _ _=>simp [tyN] at e1
    | fz _ _=>simp [tyN] at e1
    | obj _ _=>simp [tyN] at e1
   · rw [if_neg hn] at e2; cases e2
theorem BN {x:Str} {p:Pos} {g:DA} (hg:Gl X x) (hm:X.mg x=none) (hv:bootBuiltins x=some (.type "list")) (ha:PAd X (e::es) g) (hn:x≠"__name__":=by decide) (hdb:(x == ("__debug__":Str))=false:=by decide)
   (he:starEach (e::es) X.env=(false,eval e X.env)::starEach es X.env:=by rfl) (hpl:(backTo pos (starEach es X.env)).any (·.1)=false:=by rfl):PEo X (.Call (.Name x p) (e::es) [] pos) (bR wH g) :=
 (pZ qA hg hm hv ha hn hdb he hpl).imp fun σ H Q ⟨H0,Hs,τ,fp,d,st,sm,e,k⟩=>by
   obtain ⟨xs,e1,e⟩:=bind_some e
   refine ⟨H0,Hs,τ,fp,xs,st,sm,e1,fun v Hs1 H1 g1 r1=>?_⟩
   have fin:∀ (p:Addr) (ys:List V) (ds:List D),H1 p=none->Rps X.K Hs1 ys ds->d=.lst ds->Q (.ref p) (upd H1 p (.lst ys)):=fun p ys ds hp r ed=>by
    subst ed
    exact k p Hs1 _ ⟨g1.ss,g1.sh.trans (aB hp _),g1.hh.trans (aB hp _),g1.fr⟩ (.lst au (g1.sh.free hp) r) (g1.hh.free hp)
   match xs,r1,e with
   | [x],.cons hx .nil,e =>
    cases hx with
    | @tup a ys ds h r=>exact ⟨_,_,rfl,.inr (g1.sh.tup h),fun l hl=>fin l ys ds hl r (Zj e).symm⟩
    | @lst a ys ds h r=>exact ⟨_,_,rfl,.inl (SqL.of (g1.sh _ _ h)),fun l hl=>fin l ys ds hl r (Zj e).symm⟩
    | @fz a ys ds h r=>exact ⟨_,_,rfl,.inl (g1.sh.seq h),fun l hl=>fin l ys ds hl r (Zj e).symm⟩
    | _=>exact nn e
   | [],_,e=>simp [wH] at e
   | _::_::_,_,e=>simp [wH] at e
end
def xt (a:Addr) (H:Hp):Hp:=fun b=>if b=a then none else H b
def A9 (i:Nat) (f:DT):DT:=fun τ=>match τ[i]? with
 | some (.own d0)=>f (τ.set i (.shr d0))
 | _=>f τ
theorem Ext.Hr {Hs H Hs' H':Hp} {a:Addr} {o:HO} (n:Hs a=none) (ha:H a=some o) (g:Ext (upd Hs a o) H Hs' H'):Ext Hs H (xt a Hs') H':=by
 refine ⟨fun b u q=>?_,fun b u q=>?_,g.hh,fun b h1 h2=>?_⟩
 ·have ne:b≠a:=fun z=>by subst z; rw [n] at q; cases q
  unfold xt
  rw [if_neg ne]
  exact g.ss b u (by rw [ak ne]; exact q)
 ·unfold xt at q
  split at q
  · cases q
  · exact g.sh b u q
 ·unfold xt
  by_cases z:b=a
  · rw [if_pos z]
  ·rw [if_neg z]
   exact g.fr b (by rw [ak z]; exact h1) h2
theorem bY.frz {Hs H:Hp} {a:Addr} {o:HO} (sm:bY Hs H) (ha:H a=some o):bY (upd Hs a o) H:=fun b u q=>by
 by_cases z:b=a
 · subst z; rw [au] at q; rw [ha]; exact q
 · rw [ak z] at q; exact sm b u q
section
variable {X:Cx} {e:Expr} {f:DE}
theorem Bz (i:Nat) {f:DT} (h:PTd X e f):PTd X e (A9 i f):=PT.imp h fun σ H Q ⟨H0,Hs,τ,fp,d,st,sm,e,k⟩=>by
 unfold A9 at e
 split at e
 ·rename_i d0 q
  obtain ⟨a,o,fp',h1,h2,h3,h4,h5,h6,h7,h8⟩:=st.frz q
  exact ⟨H0,upd Hs a o,_,fp',d,h4,sm.frz h1,e,fun Hs' H' g=>k (xt a Hs') H' (g.Hr h2 h1)⟩
 · exact ⟨H0,Hs,τ,fp,d,st,sm,e,k⟩
end
def dX (f g:DS):DS:=fun τ=>match f τ with
 | some (.next τ')=>g τ'
 | r=>r
def je:DS:=fun τ=>some (.next τ)
def sIf (c:DT) (f g:DS):DS:=fun τ=>(c τ).bind fun b=>if b=true then f τ else g τ
def pE (i:Nat) (f:DE):DS:=fun τ=>(f τ).map fun d=>.next (τ.set i (.shr d))
def nz (i:Nat) (f:DE):DS:=fun τ=>if i < τ.length then (f τ).map fun d=>.next (τ.set i (.own d)) else none
def nA (f:DE):DS:=fun τ=>(f τ).map fun d=>.ret (.shr d)
def ua (f:DE):DS:=fun τ=>(f τ).map fun d=>.ret (.own d)
def pT (i:Nat):DS:=fun τ=>match τ[i]? with
 | some (.own d)=>some (.ret (.own d))
 | some (.shr d)=>some (.ret (.shr d))
 | _=>none
def oH (f:DE):DS:=fun τ=>(f τ).map fun _=>.next τ
def pU:DS:=fun _=>none
def vA (i:Nat) (f:DE):DS:=fun τ=>(f τ).bind fun d=>match τ[i]? with
 | some (.own (.lst ds))=>if ds.length < 100000 then some (.next (τ.set i (.own (.lst (ds++[d]))))) else none
 | _=>none
section
variable {X:Cx} {a b c e:Expr} {es:List Expr} {pos:Pos} {st:Stmt} {rest:List Stmt} {f g:DS}
theorem Rep.same {K:W.Frag} {Hs0 H0 Hs H:Hp} {σ:St} {τ:List Sl} (r:Rep K Hs0 H0 Hs H σ τ):bY Hs H:=r.ext.sh
theorem Rep.ext' {K:W.Frag} {Hs0 H0 Hs H Hs' H':Hp} {σ:St} {τ:List Sl} (r:Rep K Hs0 H0 Hs H σ τ) (g:Ext Hs H Hs' H'):Rep K Hs0 H0 Hs' H' σ τ:=⟨r.ext.trans g,let ⟨fp,h⟩:=r.st; ⟨fp,h.ext g⟩⟩
theorem yT:pG X [] je:=jf.imp fun E σ H ⟨Hs0,H0,Hs,τ,o,r,e,k⟩=>by
 have e':Out.next τ=o:=Zj e
 subst e'
 exact k σ Hs H r
theorem yS (h:PSd X st f):pG X [st] f:=dJ h
theorem vV (h1:PSd X st f) (h2:pG X rest g):pG X (st::rest) (dX f g):=(eu h1 h2).imp fun E σ H ⟨Hs0,H0,Hs,τ,o,r,e,k⟩=>by
 unfold dX at e
 cases q:f τ with
 | none=>rw [q] at e; cases e
 | some o1 =>
  rw [q] at e
  refine ⟨Hs0,H0,Hs,τ,o1,r,q,?_⟩
  cases o1 with
  | next τ'=>exact fun σ' Hs' H' r'=>⟨Hs0,H0,Hs',τ',o,r',e,k⟩
  | ret s=>cases e; exact k
  | brk τ'=>cases e; exact k
  | cnt τ'=>cases e; exact k
theorem wc:PSd X st pU:=fun _ _ _ _ _ _ ⟨_,_,_,_,_,_,e,_⟩=>by cases e
theorem Eb {t:DT} {x y:List Stmt} (hc:PTd X c t) (ha:pG X x f) (hb:pG X y g):PSd X (.If c x y pos) (sIf t f g):=(pY hc ha hb).imp fun E σ H ⟨Hs0,H0,Hs,τ,o,r,e,k⟩=>by
 obtain ⟨bb,e1,e2⟩:=bind_some e
 obtain ⟨fp,h⟩:=r.st
 refine ⟨H0,Hs,τ,fp,bb,h,r.same,e1,fun Hs' H' g1=>?_⟩
 cases bb with
 | true=>exact ⟨Hs0,H0,Hs',τ,o,r.ext' g1,by simpa using e2,k⟩
 | false=>exact ⟨Hs0,H0,Hs',τ,o,r.ext' g1,by simpa using e2,k⟩
theorem BH {f:DE} (h:PEd X e f):PSd X (.Return (some e) pos) (nA f):=(gU h).imp fun E σ H ⟨Hs0,H0,Hs,τ,o,r,e,k⟩=>by
 obtain ⟨d,e1,rfl⟩:=Zm e
 obtain ⟨fp,h⟩:=r.st
 exact ⟨H0,Hs,τ,fp,d,h,r.same,e1,fun v Hs' H' g1 rv=>k v Hs' H' (r.ext.trans g1) rv⟩
theorem Rep.old {K:W.Frag} {Hs0 H0 Hs H:Hp} {σ:St} {τ:List Sl} (r:Rep K Hs0 H0 Hs H σ τ) {p:Addr} (h:H p=none):H0 p=none:=r.ext.hh.free h
theorem yY {f:DE} (h:PEo X e f):PSd X (.Return (some e) pos) (ua f):=(gU h).imp fun E σ H ⟨Hs0,H0,Hs,τ,o,r,e,k⟩=>by
 obtain ⟨d,e1,rfl⟩:=Zm e
 obtain ⟨fp,h⟩:=r.st
 exact ⟨H0,Hs,τ,fp,d,h,r.same,e1,fun v Hs' H' g1 rv z=>k _ Hs' H' (r.ext.trans g1) ⟨v,rfl,rv,r.old z⟩⟩
theorem yX (i:Nat) {x:Str} {p:Pos} (hN:X.N[i]?=some x:=by rfl) (hv:Vis X.env.scope x:=by first | exact Or.inl rfl | exact Or.inr (Or.inl rfl) | exact Or.inr (Or.inr rfl)) (hd:(x == ("__debug__":Str))=false:=by decide)
  (hcd:(x == ("__classdict__":Str))=false:=by decide):PSd X (.Return (some (.Name x p)) pos) (pT i):=(gU (fw hN hv hd hcd)).imp fun E σ H ⟨Hs0,H0,Hs,τ,o,r,e,k⟩=>by
 obtain ⟨fp,h⟩:=r.st
 unfold pT at e
 split at e
 ·rename_i d q
  cases e
  obtain ⟨a,h1,h2,h3,h4⟩:=h.CW q
  exact ⟨_,h1,k _ Hs H r.ext ⟨a,rfl,h2,h3⟩⟩
 ·rename_i d q
  cases e
  obtain ⟨v,h1,h2⟩:=h.get q
  exact ⟨_,h1,k _ Hs H r.ext h2⟩
 · cases e
theorem BG {i:Nat} {x:Str} {f:DE} {pos':Pos} (hN:X.N.Nodup) (hi:X.N[i]?=some x) (hx:Loc X.env.scope x) (he:PEd X e f) (hs:swapsWith e (some (.Name x pos')) pos.line X.env=pure false:=by rfl) (hf:X.fn x=true\/X.env.scope.names.lookup x=some .local:=by first | exact .inl rfl | exact .inr rfl | assumption) :
  PSd X (.Assign [.Name x pos'] e pos) (pE i f):=(pX hN hi hx he hs hf).imp fun E σ H ⟨Hs0,H0,Hs,τ,o,r,e,k⟩=>by
 obtain ⟨d,e1,rfl⟩:=Zm e
 obtain ⟨fp,h⟩:=r.st
 refine ⟨H0,Hs,τ,fp,d,h,r.same,e1,fun v Hs' H' g1 rv=>?_⟩
 obtain ⟨fp',_,h'⟩:=(h.ext g1).uW (i:=i) rv
 exact k _ Hs' H' ⟨r.ext.trans g1,fp',h'⟩
theorem wx {K:W.Frag} {H0 Hs H:Hp} {σ:St} {τ:List Sl} {fp:List Addr} (h:StR K H0 Hs H σ τ fp) {p:Addr} (hp:H p=none):p ∉ fp:=fun q=>(h.C1 p q).2.2 hp
theorem yW {i:Nat} {x:Str} {f:DE} {pos':Pos} (hN:X.N.Nodup) (hi:X.N[i]?=some x) (hx:Loc X.env.scope x) (he:PEo X e f) (hs:swapsWith e (some (.Name x pos')) pos.line X.env=pure false:=by rfl) (hf:X.fn x=true\/X.env.scope.names.lookup x=some .local:=by first | exact .inl rfl | exact .inr rfl | assumption) :
  PSd X (.Assign [.Name x pos'] e pos) (nz i f):=(pX hN hi hx he hs hf).imp fun E σ H ⟨Hs0,H0,Hs,τ,o,r,e,k⟩=>by
 unfold nz at e
 split at e
 ·rename_i hl
  obtain ⟨d,e1,rfl⟩:=Zm e
  obtain ⟨fp,h⟩:=r.st
  refine ⟨H0,Hs,τ,fp,d,h,r.same,e1,fun v Hs' H' g1 rv z=>?_⟩
  obtain ⟨fp',_,h'⟩:=(h.ext g1).KA rv (r.old z) (wx h z) hl
  exact k _ Hs' H' ⟨r.ext.trans g1,fp',h'⟩
 · cases e
theorem za {f:DE} (he:PEd X e f) (hs:swapsWith e none pos.line X.env=pure false:=by rfl):PSd X (.Expr e pos) (oH f):=(jg he hs).imp fun E σ H ⟨Hs0,H0,Hs,τ,o,r,e,k⟩=>by
 obtain ⟨d,e1,rfl⟩:=Zm e
 obtain ⟨fp,h⟩:=r.st
 exact ⟨H0,Hs,τ,fp,d,h,r.same,e1,fun v Hs' H' g1 rv=>k _ Hs' H' (r.ext' g1)⟩
theorem BK (i:Nat) {x:Str} {f:DE} {p apos cpos:Pos} (hN:X.N[i]?=some x) (hv:Vis X.env.scope x) (he:PEd X e f) (hd:(x == ("__debug__":Str))=false:=by decide) (hcd:(x == ("__classdict__":Str))=false:=by decide)
   (hbase:attributeBase (.Name x p) "append" X.env (eval (.Name x p) X.env)=eval (.Name x p) X.env:=by rfl)
   (hfew:((backTo cpos (starEach [e] X.env)).all (fun x=>!x.1)&&(backToKw cpos (keywordEach [] X.env)).all (fun x=>x.1.isSome)
     && decide ([e].length+([]:List Keyword).length+(if ([]:List Keyword).isEmpty then 0 else 1) < 30))=true:=by rfl)
   (hline:(apos.endLine == cpos.line)=true:=by rfl) (hst:starEach [e] X.env=(false,eval e X.env)::starEach [] X.env:=by rfl) (hplain:(backTo cpos (starEach [] X.env)).any (·.1)=false:=by rfl)
   (hs:swapsWith (.Call (.Attribute (.Name x p) "append" apos) [e] [] cpos) none pos.line X.env=pure false:=by rfl) :
   PSd X (.Expr (.Call (.Attribute (.Name x p) "append" apos) [e] [] cpos) pos) (vA i f) :=
 (jg (wq PySem.F.plainAttrs_list PySem.F.slot_list_append PySem.F.type_list_append wN (fw hN hv hd hcd) (dm he gE hst) hbase hfew hline hst hplain) hs).imp fun E σ H ⟨Hs0,H0,Hs,τ,o,r,e,k⟩=>by
   obtain ⟨d,e1,e2⟩:=bind_some e
   obtain ⟨fp,h⟩:=r.st
   split at e2
   · rename_i ds q
     split at e2
     ·rename_i hl
      cases e2
      obtain ⟨a,h1,h2,h3,h4⟩:=h.CW q
      cases h2 with
      | @lst xs _ hH hn hr =>
       refine ⟨_,h1,.inl ⟨rfl,_,SqL.of hH⟩,?_⟩
       refine ⟨H0,Hs,τ,fp,d,h,r.same,e1,fun v Hs' H' g1 rv=>?_⟩
       have hH':=g1.hh _ _ hH
       have h':=h.ext g1
       have n':=g1.fr a hn (ja hH)
       refine ⟨a,xs,v,rfl,rfl,hH',by rw [hr.length]; exact le5 (Nat.le_of_lt hl),?_⟩
       refine k σ Hs' _ ⟨⟨r.ext.ss.trans g1.ss,fun b u z=>?_,fun b u z=>?_,fun b k1 k2=>?_⟩,fp,h'.mut q h1 (.lst au n' ((hr.same g1.ss).append (.cons rv .nil)))⟩
       ·have ne:b≠a:=fun y=>by subst y; rw [n'] at z; cases z
        rw [ak ne]; exact g1.sh b u z
       ·have ne:b≠a:=fun y=>by subst y; rw [h3] at z; cases z
        rw [ak ne]; exact g1.hh b u (r.ext.hh b u z)
       · exact g1.fr b (r.ext.fr b k1 k2) (r.ext.hh.live k2)
     · cases e2
   · cases e2
end
abbrev DI:=List Sl->Option (List D)
def ItR (K:W.Frag) (J:It) (Hs:Hp) (ds:List D):Prop:=∀ Hs1 H,bY Hs Hs1->bY Hs1 H ->
 (∀ i d,ds[i]?=some d->J.go i H/\∀ x H',J.yld i H x H'->∃ Hs2,Ext Hs1 H Hs2 H'/\Rp K Hs2 x d)/\∀ i,ds.length<=i->J.stop i H
def rdI (K:W.Frag) (f:DI):TI:=fun σ H R=>∃ H0 Hs τ fp ds,StR K H0 Hs H σ τ fp/\bY Hs H/\f τ=some ds/\∀ J Hs' H',Ext Hs H Hs' H'->ItR K J Hs' ds->R J H'
def PId (X:Cx) (tg iter:Expr) (f:DI):Prop:=PI X tg iter (rdI X.K f)
def zM (f:DE):DI:=fun τ=>(f τ).bind fun d=>match d with | .lst ds=>some ds | .fz ds=>some ds | _=>none
def ub (lo:Int) (n:Nat):List D:=(List.range n).map fun (i:Nat)=>D.int (lo+(i:Int))
def mG (f:DA):DI:=fun τ=>(f τ).bind fun ds=>match ds with | [.int j]=>if -(2 ^ 62)<=j/\j < 2 ^ 62 then some (ub 0 j.toNat) else none | _=>none
theorem sY {K:W.Frag} {a:Addr} {xs:List V} {Hs:Hp} {ds:List D} (h:SqL K Hs a xs) (r:Rps K Hs xs ds):ItR K (Itl K a) Hs ds:=fun Hs1 H g1 g2=>by
 have hq:=g2.seq (g1.seq h)
 refine ⟨fun i d e=>?_,fun i hi=>⟨xs,hq,by rw [r.length]; exact hi⟩⟩
 obtain ⟨x,h1,h2⟩:=r.get e
 refine ⟨⟨xs,x,hq,h1⟩,fun x' H' ⟨e1,e2⟩=>?_⟩
 subst e1
 have e3:=e2 xs hq
 rw [h1] at e3
 cases e3
 exact ⟨Hs1,.refl g2,h2.same g1⟩
theorem xj {K:W.Frag} {Hs:Hp} (lo:Int) (n:Nat):ItR K (Itr lo n) Hs (ub lo n):=fun Hs1 H g1 g2=>by
 refine ⟨fun i d e=>?_,fun i hi=>show n<=i by simpa [ub] using hi⟩
 unfold ub at e
 rw [List.getElem?_map] at e
 by_cases hi:i < n
 ·rw [List.getElem?_range hi] at e
  have e':D.int (lo+i)=d:=by simpa using e
  subst e'
  refine ⟨hi,fun x H' ⟨e1,e2⟩=>?_⟩
  subst e1 e2
  exact ⟨Hs1,.refl g2,.int _⟩
 ·rw [List.getElem?_eq_none (by simpa using hi)] at e
  cases e
theorem PI.imp {X:Cx} {tg iter:Expr} {t t':TI} (h:PI X tg iter t) (hi:∀ σ H R,t' σ H R->t σ H R):PI X tg iter t':=fun pins s σ H R I q=>h pins s σ H R I (hi _ _ _ q)
section
variable {X:Cx} {tg l e:Expr} {es:List Expr} {pos:Pos}
theorem BV {f:DE} (h:PEd X l f):PId X tg l (zM f):=(BW h).imp fun σ H R ⟨H0,Hs,τ,fp,ds,st,sm,e,k⟩=>by
 obtain ⟨x,e1,e2⟩:=bind_some e
 refine ⟨H0,Hs,τ,fp,x,st,sm,e1,fun v Hs' H' g r=>?_⟩
 cases r with
 | @lst a xs ds' h r =>
  have e':ds'=ds:=Zj e2
  subst e'
  exact ⟨a,rfl,⟨xs,SqL.of (g.sh _ _ h)⟩,k _ Hs' H' g (sY (SqL.of h) r)⟩
 | @fz a xs ds' h r =>
  have e':ds'=ds:=Zj e2
  subst e'
  exact ⟨a,rfl,⟨xs,g.sh.seq h⟩,k _ Hs' H' g (sY h r)⟩
 | _=>exact nn e2
theorem ue {a:Expr} {f:DA} {p:Pos} (hg:Gl X "range") (hm:X.mg "range"=none) (ha:PAd X [a] f) (hs:starEach [a] X.env=[(false,eval a X.env)]:=by rfl):PId X tg (.Call (.Name "range" p) [a] [] pos) (mG f) :=
 (wj hg hm ha hs).imp fun σ H R ⟨H0,Hs,τ,fp,ds,st,sm,e,k⟩=>by
   obtain ⟨x,e1,e2⟩:=bind_some e
   refine ⟨H0,Hs,τ,fp,x,st,sm,e1,fun v Hs' H' g r=>?_⟩
   match x,r,e2 with
   | [y],.cons hy .nil,e2 =>
    cases hy with
    | int j =>
     simp only at e2
     split at e2
     ·rename_i hj
      have e':ub 0 j.toNat=ds:=Zj e2
      subst e'
      exact ⟨j,rfl,hj.1,hj.2,k _ Hs' H' g (xj _ _)⟩
     · cases e2
    | _=>exact nn e2
   | [],_,e2=>simp at e2
   | _::_::_,_,e2=>simp at e2
end
abbrev DG:=D->List Sl->Option (List Sl)
def rdG (K:W.Frag) (g:DG):TG:=fun v σ H Q=>∃ Hs0 H0 Hs τ τ' d,Rep K Hs0 H0 Hs H σ τ/\Rp K Hs v d/\g d τ=some τ'/\∀ σ',Rep K Hs0 H0 Hs H σ' τ'->Q σ' H
def PGd (X:Cx) (tg:Expr) (g:DG):Prop:=PG X tg (rdG X.K g)
theorem PG.imp {X:Cx} {tg:Expr} {t t':TG} (h:PG X tg t) (hi:∀ v σ H Q,t' v σ H Q->t v σ H Q):PG X tg t':=fun pins s σ H v u Q I r q=>h pins s σ H v u Q I r (hi _ _ _ _ q)
theorem PGs.imp {X:Cx} {tg:List Expr} {t t':TGs} (h:PGs X tg t) (hi:∀ v σ H Q,t' v σ H Q->t v σ H Q):PGs X tg t':=fun pins s σ H v u Q I r q=>h pins s σ H v u Q I r (hi _ _ _ _ q)
def gN (i:Nat):DG:=fun d τ=>some (τ.set i (.shr d))
section
variable {X:Cx} {pos:Pos} {e:Expr} {es:List Expr}
theorem zl {i:Nat} {x:Str} (hN:X.N.Nodup) (hi:X.N[i]?=some x) (hx:Loc X.env.scope x) (hf:X.fn x=true\/X.env.scope.names.lookup x=some .local:=by first | exact .inl rfl | exact .inr rfl | assumption):PGd X (.Name x pos) (gN i) :=
 (gV hN hi hx hf).imp fun v σ H Q ⟨Hs0,H0,Hs,τ,τ',d,r,rv,e,k⟩=>by
   have e':τ.set i (.shr d)=τ':=Zj e
   subst e'
   obtain ⟨fp,h⟩:=r.st
   obtain ⟨fp',_,h'⟩:=h.uW (i:=i) rv
   exact k _ ⟨r.ext,fp',h'⟩
end
def yv (b:D->DS):List D->DS
 | [],τ=>some (.next τ)
 | d::ds,τ=>match b d τ with
  | some (.next τ')=>yv b ds τ'
  | some (.cnt τ')=>yv b ds τ'
  | some (.brk τ')=>some (.next τ')
  | r=>r
def Ds (it:DI) (g:DG) (b:DS):DS:=fun τ=>(it τ).bind fun ds=>yv (fun d τ=>(g d τ).bind b) ds τ
def cC (c:DT) (b:DS):Nat->DS
 | 0,_=>none
 | n+1,τ=>match c τ with
  | none=>none
  | some false=>some (.next τ)
  | some true=>match b τ with
   | some (.next τ')=>cC c b n τ'
   | some (.cnt τ')=>cC c b n τ'
   | some (.brk τ')=>some (.next τ')
   | r=>r
open Classical in
noncomputable def iT (c:DT) (b:DS):DS:=fun τ=>if h:∃ n o,cC c b n τ=some o then some (Classical.choose (Classical.choose_spec h)) else none
theorem fT {c:DT} {b:DS}:∀ {n m:Nat} {τ:List Sl} {o:Out},cC c b n τ=some o->n<=m->cC c b m τ=some o
 | 0,_,_,_,h,_=>by simp [cC] at h
 | n+1,0,_,_,_,l=>by omega
 | n + 1,m+1,τ,o,h,l=>by
  have l':n<=m:=by omega
  unfold cC at h ⊢
  cases q:c τ with
  | none=>rw [q] at h; cases h
  | some x =>
   rw [q] at h
   cases x with
   | false=>exact h
   | true =>
    simp only at h ⊢
    cases q2:b τ with
    | none=>rw [q2] at h; exact h
    | some o' =>
     rw [q2] at h
     cases o' with
     | next τ'=>exact fT h l'
     | cnt τ'=>exact fT h l'
     | brk τ'=>exact h
     | ret s=>exact h
theorem jL {c:DT} {b:DS} {n:Nat} {τ:List Sl} {o:Out} (h:cC c b n τ=some o):iT c b τ=some o:=by
 have hx:∃ n o,cC c b n τ=some o:=⟨n,o,h⟩
 unfold iT
 rw [dif_pos hx]
 have h2:=Classical.choose_spec (Classical.choose_spec hx)
 have h3:=fT h2 (Nat.le_max_left _ n)
 have h4:=fT h (Nat.le_max_right (Classical.choose hx) n)
 rw [h3] at h4
 exact h4
theorem vy {c:DT} {b:DS} {τ:List Sl} {o:Out} (h:iT c b τ=some o):∃ n,cC c b n τ=some o:=by
 unfold iT at h
 split at h
 ·rename_i hx
  have e:=Zj h
  subst e
  exact ⟨_,Classical.choose_spec (Classical.choose_spec hx)⟩
 · cases h
theorem Ext.sub {Hs0 H0 Hs1 H1 Hs H:Hp} (a:Ext Hs0 H0 Hs1 H1) (b:Ext Hs1 H0 Hs H):Ext Hs0 H0 Hs H:=⟨a.ss.trans b.ss,b.sh,b.hh,fun c h1 h2=>b.fr c (a.fr c h1 h2) h2⟩
theorem Rep.rebase {K:W.Frag} {Hs0 H0 Hs H:Hp} {σ:St} {τ:List Sl} (r:Rep K Hs0 H0 Hs H σ τ):Rep K Hs H0 Hs H σ τ:=⟨⟨.refl _,r.same,r.ext.hh,fun _ h _=>h⟩,r.st⟩
theorem Rep.kU {K:W.Frag} {Hs0 H0 Hs1 H1 Hs H:Hp} {σ:St} {τ:List Sl} (a:Ext Hs0 H0 Hs1 H1) (r:Rep K Hs1 H0 Hs H σ τ):Rep K Hs0 H0 Hs H σ τ:=⟨a.sub r.ext,r.st⟩
theorem Fin.rebase {K:W.Frag} {Hs0 H0 Hs1 H1:Hp} {E:Ends} {o:Out} (a:Ext Hs0 H0 Hs1 H1) (h:Fin K Hs0 H0 E o):Fin K Hs1 H0 E o:=by
 cases o with
 | next τ=>exact fun σ Hs H r=>h σ Hs H (r.kU a)
 | brk τ=>exact fun σ Hs H r=>h σ Hs H (r.kU a)
 | cnt τ=>exact fun σ Hs H r=>h σ Hs H (r.kU a)
 | ret s=>exact fun v Hs H g r=>h v Hs H (a.sub g) r
section
variable {X:Cx} {tg iter:Expr} {body:List Stmt} {pos:Pos}
theorem BI {it:DI} {g:DG} {b:DS} (hp:PassesOwn (model X.prog X.w) X.A X.env X.xe) (hc:X.calm=true) (hi:PId X tg iter it) (hg:PGd X tg g) (hb:pG X body b) (hs:∀ x,foldedSetIterable iter X.env x=pure x:=by intro _; rfl) :
  PSd X (.For tg iter body [] pos) (Ds it g b):=(sP hp hc hi hg hb hs).imp fun E σ H ⟨Hs0,H0,Hs,τ,o,r,e,k⟩=>by
 obtain ⟨ds,e1,e2⟩:=bind_some e
 obtain ⟨fp,hst⟩:=r.st
 refine ⟨H0,Hs,τ,fp,ds,hst,r.same,e1,fun J Hs1 H1 g1 hJ=>?_⟩
 have r1:=r.ext' g1
 have kk:=k.rebase r1.ext
 refine ⟨fun i m σ H=>m=ds.length - i/\i<=ds.length/\∃ Hs2 τ2,Rep X.K Hs1 H0 Hs2 H σ τ2/\yv (fun d τ=>(g d τ).bind b) (ds.drop i) τ2=some o,⟨ds.length,by simp,Nat.zero_le _,Hs1,τ,r1.rebase,by simpa using e2⟩,?_⟩
 rintro i m σ2 H2 ⟨rfl,hi,Hs2,τ2,r2,e3⟩
 obtain ⟨hgo,hstop⟩:=hJ Hs2 H2 r2.ext.ss r2.same
 by_cases hlt:i < ds.length
 ·have ed:ds.drop i=ds[i]::ds.drop (i+1):=List.drop_eq_getElem_cons hlt
  rw [ed] at e3
  obtain ⟨go,yl⟩:=hgo i ds[i] (List.getElem?_eq_getElem hlt)
  refine .inr ⟨go,fun σ' H'=>∃ Hs' τ',Rep X.K Hs1 H0 Hs' H' σ' τ'/\yv (fun d τ=>(g d τ).bind b) (ds.drop (i+1)) τ'=some o,?_,?_⟩
  ·rintro σ' H' ⟨Hs',τ',r',e'⟩
   exact ⟨ds.length - (i+1),by omega,rfl,hlt,Hs',τ',r',e'⟩
  ·intro x H' y
   obtain ⟨Hs3,g3,rx⟩:=yl x H' y
   have r3:=r2.ext' g3
   unfold yv at e3
   cases q:(g ds[i] τ2).bind b with
   | none=>simp only [q] at e3; cases e3
   | some o1 =>
    simp only [q] at e3
    obtain ⟨τ3,q1,q2⟩:=bind_some q
    refine ⟨Hs1,H0,Hs3,τ2,τ3,ds[i],r3,rx,q1,fun σ' r'=>?_⟩
    refine ⟨Hs1,H0,Hs3,τ3,o1,r',q2,?_⟩
    cases o1 with
    | next τ'=>exact fun σ4 Hs4 H4 r4=>⟨Hs4,τ',r4,e3⟩
    | cnt τ'=>exact fun σ4 Hs4 H4 r4=>⟨Hs4,τ',r4,e3⟩
    | brk τ'=>cases e3; exact kk
    | ret s=>cases e3; exact kk
 ·have e0:i=ds.length:=by omega
  subst e0
  rw [List.drop_length] at e3
  have e':Out.next τ2=o:=by simpa [yv] using e3
  subst e'
  exact .inl ⟨hstop _ (Nat.le_refl _),kk σ2 Hs2 H2 r2⟩
theorem wb {c:Expr} {t:DT} {b:DS} (hp:PassesOwn (model X.prog X.w) X.A X.env X.xe) (hc:PTd X c t) (hb:pG X body b):PSd X (.While c body [] pos) (iT t b):=(zb hp hc hb).imp fun E σ H ⟨Hs0,H0,Hs,τ,o,r,e,k⟩=>by
 obtain ⟨n,e⟩:=vy e
 refine ⟨fun m σ H=>∃ Hs2 τ2,Rep X.K Hs0 H0 Hs2 H σ τ2/\cC t b m τ2=some o,⟨n,Hs,τ,r,e⟩,?_⟩
 rintro m σ2 H2 ⟨Hs2,τ2,r2,e2⟩
 obtain ⟨fp,hst⟩:=r2.st
 cases m with
 | zero=>simp [cC] at e2
 | succ m =>
  unfold cC at e2
  cases q:t τ2 with
  | none=>rw [q] at e2; cases e2
  | some bb =>
   rw [q] at e2
   refine ⟨H0,Hs2,τ2,fp,bb,hst,r2.same,q,fun Hs3 H3 g3=>?_⟩
   have r3:=r2.ext' g3
   cases bb with
   | false =>
    have e':Out.next τ2=o:=by simpa using e2
    subst e'
    exact Hh (k σ2 Hs3 H3 r3)
   | true =>
    refine JG ?_
    simp only at e2
    refine ⟨fun σ' H'=>∃ Hs' τ',Rep X.K Hs0 H0 Hs' H' σ' τ'/\cC t b m τ'=some o,?_,?_⟩
    ·rintro σ' H' ⟨Hs',τ',r',e'⟩
     exact ⟨m,by omega,Hs',τ',r',e'⟩
    ·cases q2:b τ2 with
     | none=>rw [q2] at e2; cases e2
     | some o1 =>
      rw [q2] at e2
      refine ⟨Hs0,H0,Hs3,τ2,o1,r3,q2,?_⟩
      cases o1 with
      | next τ'=>exact fun σ4 Hs4 H4 r4=>⟨Hs4,τ',r4,e2⟩
      | cnt τ'=>exact fun σ4 Hs4 H4 r4=>⟨Hs4,τ',r4,e2⟩
      | brk τ'=>cases e2; exact k
      | ret s=>cases e2; exact k
end
def nL (n:Nat) (ds:List D):List Sl:=ds.map .shr++List.replicate (n - ds.length) .no
def kB (n m:Nat) (b:DS) (ds:List D):Option Sl:=if ds.length=m then (match b (nL n ds) with | some (.ret s)=>some s | some (.next _)=>some (.shr .non) | _=>none) else none
def spF (F:List D->Option Sl) (K:W.Frag):Sp:=fun vs H Q _=>∃ Hs ds s,bY Hs H/\Rps K Hs vs ds/\F ds=some s/\∀ v Hs' H',Ext Hs H Hs' H'->SlV K H Hs' H' v s->Q v H'
theorem lW {K:W.Frag} {H0 Hs H:Hp}:∀ {vs:List V} {ds:List D} (k:Nat),Rps K Hs vs ds->StR K H0 Hs H (vs.map some++List.replicate k none) (ds.map .shr++List.replicate k .no) []
 | _,_,0,.nil=>.nil
 | _,_,k+1,.nil=>by
  rw [List.replicate_succ,List.replicate_succ]
  exact .no (lW k .nil)
 | _,_,k,.cons h r=>.shr h (lW k r)
section
variable {P:Program} {w:World} {K:W.Frag} {mg:Str->Option Value} {base:Heap}
theorem Fun.okD {x qual:Str} {st:Stmt} {f:Addr} {fd:FuncData} {N ps:List Str} {k:Nat} {b:DS} (F:Fun K x qual st f fd) (S:aS N ps (ah st))
  (hbody:∀ (cdv:Value) (A:Around) (outer:List Env) (s:Shared) (H:Hp) (E:XK),fo k (A.deeper (envOfC qual (ah st) s.heap.objs.size f cdv)) ->
    pG (xS CX0 P w K mg base N qual (ah st) f cdv A outer s H E).nox (aw st) b):dg P w K mg base CX0 (k+1) f fd ps (spF (kB N.length ps.length b) K):=by
 refine F.ok S (fun vs H Q E h=>?_) (fun cdv A outer s H vs Q E hr h=>?_)
 ·obtain ⟨Hs,ds,s,sm,r,e,_⟩:=h
  unfold kB at e
  split at e
  · rename_i hl
    rw [r.length]; exact hl
  · cases e
 obtain ⟨Hs,ds,sl,sm,r,e,q⟩:=h
 refine ⟨_,hbody cdv A outer s H E hr,?_⟩
 unfold kB at e
 split at e
 ·have h0:Rep K Hs H Hs H (start N vs) (nL N.length ds):=⟨.refl sm,[],by unfold start nL; rw [r.length]; exact lW _ r⟩
  cases q2:b (nL N.length ds) with
  | none=>rw [q2] at e; cases e
  | some o =>
    rw [q2] at e
    refine ⟨Hs,H,Hs,_,o,h0,q2,?_⟩
    cases o with
    | next τ =>
     have e':Sl.shr .non=sl:=Zj e
     subst e'
     exact fun σ Hs' H' r'=>q .non Hs' H' r'.ext .non
    | ret s =>
     have e':s=sl:=Zj e
     subst e'
     exact fun v Hs' H' g rv=>q v Hs' H' g rv
    | brk τ=>cases e
    | cnt τ=>cases e
 · cases e
end
def slD:Sl->Option D
 | .shr d=>some d
 | .own d=>some d
 | .no=>none
def slO:Sl->Option D
 | .own d=>some d
 | _=>none
def dFn (F:List D->Option Sl) (f:DA):DE:=fun τ=>(f τ).bind fun ds=>(F ds).bind slD
def C9 (F:List D->Option Sl) (f:DA):DE:=fun τ=>(f τ).bind fun ds=>(F ds).bind slO
theorem SlV.shr {K:W.Frag} {H0 Hs H Hs0:Hp} {v:V} {s:Sl} {d:D} (g:Ext Hs0 H0 Hs H) (h:SlV K H0 Hs H v s) (e:slD s=some d):∃ Hs',Ext Hs0 H0 Hs' H/\Rp K Hs' v d:=by
 cases s with
 | no=>cases h
 | shr d' =>
  have e':d'=d:=Zj e
  subst e'
  exact ⟨Hs,g,h⟩
 | own d' =>
  have e':d'=d:=Zj e
  subst e'
  obtain ⟨a,rfl,o,z⟩:=h
  obtain ⟨ob,h1,h2⟩:=o.rp
  refine ⟨upd Hs a ob,⟨g.ss.trans (aB o.hid ob),g.sh.frz h1,g.hh,fun b h3 h4=>?_⟩,h2⟩
  have ne:b≠a:=fun y=>by subst y; exact h4 z
  rw [ak ne]
  exact g.fr b h3 h4
section
variable {X:Cx} {e:Expr} {es:List Expr} {x:Str} {p pos:Pos} {k:Nat} {f:Addr} {fd:FuncData} {ps:List Str} {F:List D->Option Sl} {g:DA}
theorem C4 {σ:St} {H:Hp} {Q:VK} (K:W.Frag) (h:rdE K (dFn F g) σ H Q):yB (spF F K) [] E0 (rdA K g) σ H Q:=by
 obtain ⟨H0,Hs,τ,fp,d,st,sm,e,q⟩:=h
 obtain ⟨ds,e1,e2⟩:=bind_some e
 obtain ⟨s,e2,e3⟩:=bind_some e2
 refine ⟨H0,Hs,τ,fp,ds,st,sm,e1,fun vs Hs1 H1 g1 r1=>?_⟩
 refine ⟨Hs1,ds,s,g1.sh,by rw [List.append_nil]; exact r1,e2,fun v Hs2 H2 g2 rv=>?_⟩
 obtain ⟨Hs3,g3,r3⟩:=rv.shr g2 e3
 exact q v Hs3 H2 (g1.trans g3) r3
theorem C3 {σ:St} {H:Hp} {Q:VK} (K:W.Frag) (h:rdO K (C9 F g) σ H Q):yB (spF F K) [] E0 (rdA K g) σ H Q:=by
 obtain ⟨H0,Hs,τ,fp,d,st,sm,e,q⟩:=h
 obtain ⟨ds,e1,e2⟩:=bind_some e
 obtain ⟨s,e2,e3⟩:=bind_some e2
 refine ⟨H0,Hs,τ,fp,ds,st,sm,e1,fun vs Hs1 H1 g1 r1=>?_⟩
 refine ⟨Hs1,ds,s,g1.sh,by rw [List.append_nil]; exact r1,e2,fun v Hs2 H2 g2 rv=>?_⟩
 cases s with
 | own d' =>
  have e':d'=d:=Zj e3
  subst e'
  obtain ⟨a,rfl,o,z⟩:=rv
  exact q a Hs2 H2 (g1.trans g2) o (g1.hh.free z)
 | shr _=>cases e3
 | no=>cases e3
theorem Ca (Fo:dg X.prog X.w X.K X.mg X.base CX0 k f fd ps (spF F X.K)) (hr:fo k X.A) (hg:Gl X x) (hm:X.mg x=some (.ref f)) (hk:W.keepIn X.K (.ref f)=true) (hb:Binds X.K fd ps [])
 (ha:PAd X (e::es) g) (hdb:(x == ("__debug__":Str))=false:=by decide) (he:starEach (e::es) X.env=(false,eval e X.env)::starEach es X.env:=by rfl) (hpl:(backTo pos (starEach es X.env)).any (·.1)=false:=by rfl) :
 PEd X (.Call (.Name x p) (e::es) [] pos) (dFn F g):=(ma Fo hr hg hm hk hb .nil oO ha hdb he hpl).imp fun σ H Q h=>C4 X.K h
theorem BP (Fo:dg X.prog X.w X.K X.mg X.base CX0 k f fd ps (spF F X.K)) (hr:fo k X.A) (hg:Gl X x) (hm:X.mg x=some (.ref f)) (hk:W.keepIn X.K (.ref f)=true) (hb:Binds X.K fd ps [])
 (ha:PAd X (e::es) g) (hdb:(x == ("__debug__":Str))=false:=by decide) (he:starEach (e::es) X.env=(false,eval e X.env)::starEach es X.env:=by rfl) (hpl:(backTo pos (starEach es X.env)).any (·.1)=false:=by rfl) :
 PEo X (.Call (.Name x p) (e::es) [] pos) (C9 F g):=(ma Fo hr hg hm hk hb .nil oO ha hdb he hpl).imp fun σ H Q h=>C3 X.K h
end
def yu (g:D->Option D):List D->Option (List D)
 | []=>some []
 | d::ds=>(g d).bind fun x=>(yu g ds).bind fun xs=>some (x::xs)
def DU:Option Sl->Sl
 | some (.shr d)=>.shr d
 | _=>.no
def eD (τ:List Sl) (cs:List (Str×Nat)):List Sl:=cs.map fun p=>DU τ[p.2]?
def ph (it:DI) (g:DE) (cs:List (Str×Nat)):DE:=fun τ=>(it τ).bind fun ds=>if ds.length<=100000 then (yu (fun d=>g (.shr d::eD τ cs)) ds).map .lst else none
theorem ki {K:W.Frag} {H0 Hs H:Hp} {σ:St} {τ:List Sl} {fp:List Addr} (st:StR K H0 Hs H σ τ fp):∀ cs:List (Str×Nat),StR K H0 Hs H (aR σ cs) (eD τ cs) []
 | []=>.nil
 | p :: cs=>by
  have ih:=ki st cs
  show StR K H0 Hs H ((σ[p.2]?).join::aR σ cs) (DU τ[p.2]?::eD τ cs) []
  cases q:τ[p.2]? with
  | none=>exact .no ih
  | some sl =>
   cases sl with
   | no=>exact .no ih
   | own d=>exact .no ih
   | shr d =>
    obtain ⟨v,h1,h2⟩:=st.get q
    rw [h1]
    exact .shr h2 ih
section
variable {X:Cx} {e:Expr} {es:List Expr} {pos:Pos}
theorem Dc {K:W.Frag} {it:DI} {g:DE} {cs:List (Str×Nat)} {σ:St} {H:Hp} {Q:VK} (h:rdO K (ph it g cs) σ H Q):DL (rdI K it) (rdE K g) cs σ H Q:=by
 obtain ⟨H0,Hs,τ,fp,d,st,sm,e,k⟩:=h
 obtain ⟨ds,e1,e2⟩:=bind_some e
 split at e2
 ·rename_i hl
  obtain ⟨full,e3,rfl⟩:=Zm e2
  refine ⟨H0,Hs,τ,fp,ds,st,sm,e1,fun J Hs1 H1 g1 hJ=>?_⟩
  refine ⟨fun i m ys H'=>m=ds.length - i/\i<=ds.length/\∃ Hs2 es rest,Ext Hs1 H1 Hs2 H'/\Rps K Hs2 ys es/\es.length=i/\yu (fun d=>g (.shr d::eD τ cs)) (ds.drop i)=some rest/\es++rest=full,⟨ds.length,by simp,Nat.zero_le _,Hs1,[],full,.refl g1.sh,.nil,rfl,by simpa using e3,rfl⟩,?_⟩
  rintro i m ys H2 ⟨rfl,hi,Hs2,es,rest,g2,ry,ley,e4,e5⟩
  obtain ⟨hgo,hstop⟩:=hJ Hs2 H2 g2.ss g2.sh
  have ly:ys.length=i:=by rw [ry.length,ley]
  by_cases hlt:i < ds.length
  ·have ed:ds.drop i=ds[i]::ds.drop (i+1):=List.drop_eq_getElem_cons hlt
   rw [ed] at e4
   obtain ⟨x,q1,q2⟩:=bind_some e4
   obtain ⟨xs,q3,q4⟩:=bind_some q2
   have eq:x::xs=rest:=Zj q4
   subst eq
   obtain ⟨go,yl⟩:=hgo i ds[i] (List.getElem?_eq_getElem hlt)
   refine .inr ⟨go,by rw [ly]; exact le5 (by omega),fun v H3 y=>?_⟩
   obtain ⟨Hs3,g3,rv⟩:=yl v H3 y
   have g13:=(g1.trans g2).trans g3
   refine ⟨H0,Hs3,.shr ds[i]::eD τ cs,[],x,.shr rv (ki (st.ext g13) cs),g3.sh,q1,fun v4 Hs4 H4 g4 r4=>?_⟩
   exact ⟨ds.length - (i+1),by omega,rfl,hlt,Hs4,es++[x],xs,(g2.trans g3).trans g4,((ry.same g3.ss).same g4.ss).append (.cons r4 .nil),by simp [ley],q3,by rw [<- e5]; simp⟩
  ·have e0:i=ds.length:=by omega
   subst e0
   rw [List.drop_length] at e4
   have er:[]=rest:=Zj e4
   subst er
   rw [List.append_nil] at e5
   subst e5
   refine .inl ⟨hstop _ (Nat.le_refl _),by rw [ly]; exact w9 hl,fun p hp=>?_⟩
   have g12:=g1.trans g2
   exact k p Hs2 _ ⟨g12.ss,g12.sh.trans (aB hp _),g12.hh.trans (aB hp _),g12.fr⟩ (.lst au (g12.sh.free hp) ry) (g12.hh.free hp)
 · cases e2
theorem BO {elt iter:Expr} {x:Str} {px:Pos} {scope:Scope} {cl:List (Str×Addr)} {cs:List (Str×Nat)} {it:DI} {g:DE} (hc:X.calm=true) (O:d6 X scope cl x cs) (hi:PId X (.Name x px) iter it)
 (he:∀ s H fp C,PEd (bS X scope cl (x::cs.map (·.1)) s H fp C) elt g) (hs:∀ x,foldedSetIterable iter X.env x=pure x:=by intro _; rfl) :
 PEo X (.ListComp elt [⟨.Name x px,iter,[],0⟩] scope pos) (ph it g cs):=(B2 (te:=rdE X.K g) hc O hi he hs).imp fun σ H Q h=>Dc h
end
theorem tz {b:D->DS} {o:Out} (P:Nat->List Sl->Prop):∀ {ds:List D} {τ:List Sl} (i:Nat),P i τ->(∀ j d τ,ds[j]?=some d->P (i+j) τ->∃ τ',b d τ=some (.next τ')/\P (i+j+1) τ')->∃ τ',yv b ds τ=some (.next τ')/\P (i+ds.length) τ'
 | [],τ,i,h,_=>⟨τ,rfl,h⟩
 | d::ds,τ,i,h,hs=>by
  obtain ⟨τ1,e1,p1⟩:=hs 0 d τ rfl h
  obtain ⟨τ2,e2,p2⟩:=tz (o:=o) P (ds:=ds) (τ:=τ1) (i+1) p1 fun j d' τ' hj p=>by
   have:=hs (j+1) d' τ' (by simpa using hj) (by rw [show i+(j+1)=i+1+j by omega]; exact p)
   rw [show i+(j+1)+1=i+1+j+1 by omega] at this
   exact this
  refine ⟨τ2,?_,?_⟩
  · simp only [yv,e1]; exact e2
  · rw [List.length_cons,show i+(ds.length+1)=i+1+ds.length by omega]; exact p2
def nr (C:Addr) (f:Str):D->Option D
 | .obj C' fs=>if C'=C then fs.lookup f else none
 | _=>none
theorem RpF.look {K:W.Frag} {H:Hp} {f:Str} {d:D}:∀ {fs:List (Str×V)} {ds:List (Str×D)},RpF K H fs ds->ds.lookup f=some d->∃ v,fs.lookup f=some v/\Rp K H v d
 | _,_,.nil,e=>by simp at e
 | _,_,@RpF.cons _ _ k x d' xs ds h r,e=>by
  rw [List.lookup_cons] at e ⊢
  by_cases q:f == k
  ·simp only [q] at e ⊢
   cases e
   exact ⟨x,rfl,h⟩
  ·simp only [Bool.not_eq_true] at q
   simp only [q] at e ⊢
   exact RpF.look r e
theorem RpF.CH {K:W.Frag} {H:Hp} {f:Str}:∀ {fs:List (Str×V)} {ds:List (Str×D)},RpF K H fs ds->ds.lookup f=none->fs.lookup f=none
 | _,_,.nil,e=>rfl
 | _,_,@RpF.cons _ _ k x d' xs ds h r,e=>by
  rw [List.lookup_cons] at e ⊢
  by_cases q:f == k
  · simp only [q] at e; cases e
  ·simp only [Bool.not_eq_true] at q
   simp only [q] at e ⊢
   exact RpF.CH r e
section
variable {X:Cx} {e o:Expr} {es:List Expr} {x m f:Str} {p pos apos:Pos} {k:Nat} {C fa:Addr} {fd:FuncData} {ps:List Str} {F:List D->Option Sl} {g:DE} {ga:DA}
theorem EA (c:Cls X.K C) (n:dB X.K C f) (he:PEd X e g) (hb:attributeBase e f X.env (eval e X.env)=eval e X.env:=by rfl):PEd X (.Attribute e f pos) (dUn (nr C f) g) :=
 (As he hb).imp fun σ H Q ⟨H0,Hs,τ,fp,d,st,sm,e,k⟩=>by
   obtain ⟨x,e1,e2⟩:=bind_some e
   refine ⟨H0,Hs,τ,fp,x,st,sm,e1,fun v Hs' H' g' r=>?_⟩
   cases r with
   | @obj a C' dx fs ds h r =>
    simp only [nr] at e2
    split at e2
    ·rename_i hc
     subst hc
     obtain ⟨v,h1,h2⟩:=r.look e2
     exact ⟨a,C',dx,fs,v,rfl,g'.sh _ _ h,c,n,h1,k v Hs' H' g' h2⟩
    · cases e2
   | _=>exact nn e2
def cS (C:Addr) (m:Str) (F:List D->Option Sl) (o:DE) (g:DA):DE:=fun τ=>(o τ).bind fun x=>(g τ).bind fun ds=>match x with
 | .obj C' fs=>if C'=C/\fs.lookup m=none then (F (x::ds)).bind slD else none
 | _=>none
theorem CD {σ:St} {H:Hp} {Q:VK} (K:W.Frag) (h:rdE K (cS C m F g ga) σ H Q):A5 C m (spF F K) [] E0 (rdE K g) (rdA K ga) σ H Q:=by
 obtain ⟨H0,Hs,τ,fp,d,st,sm,e,q⟩:=h
 obtain ⟨x,e1,e2⟩:=bind_some e
 obtain ⟨ds,e3,e4⟩:=bind_some e2
 refine ⟨H0,Hs,τ,fp,x,st,sm,e1,fun v Hs1 H1 g1 r1=>?_⟩
 cases r1 with
 | @obj a C' dx fs dd h r =>
  simp only at e4
  split at e4
  ·rename_i hc
   obtain ⟨hc1,hc2⟩:=hc
   subst hc1
   obtain ⟨s,e5,e6⟩:=bind_some e4
   refine ⟨a,dx,fs,rfl,g1.sh _ _ h,r.CH hc2,?_⟩
   refine ⟨H0,Hs1,τ,fp,ds,st.ext g1,g1.sh,e3,fun vs Hs2 H2 g2 r2=>?_⟩
   refine ⟨Hs2,_,s,g2.sh,.cons ((Rp.obj h r).same g2.ss) (by rw [List.append_nil]; exact r2),e5,fun v Hs3 H3 g3 rv=>?_⟩
   obtain ⟨Hs4,g4,r4⟩:=rv.shr g3 e6
   exact q v Hs4 H3 ((g1.trans g2).trans g4) r4
  · cases e4
 | _=>exact nn e4
theorem B5 {pl:Sem Bool} (he:PEd X o g) (c:Cls X.K C) (hm:rl X.K C m fa) (Fo:dg X.prog X.w X.K X.mg X.base CX0 k fa fd ps (spF F X.K)) (hr:fo k X.A) (hb:Binds X.K fd ps []) (ha:PAd X (e::es) ga)
 (hst:starEach (e::es) X.env=(false,eval e X.env)::starEach es X.env:=by rfl) (hpl:(backTo pos (starEach es X.env)).any (·.1)=false:=by rfl)
 (ht:eval (.Call (.Attribute o m apos) (e::es) [] pos) X.env=(do
   let ov <- eval o X.env
   standAt apos.atName
   let (f,first) <- holding [ov] (getMethod ov m pl)
   callWith pos f first (backTo pos (starEach (e::es) X.env)) (backToKw pos (keywordEach [] X.env))):=by rfl) :
 PEd X (.Call (.Attribute o m apos) (e::es) [] pos) (cS C m F g ga):=(rE (pl:=pl) he c hm Fo hr hb .nil oO ha hst hpl ht).imp fun σ H Q h=>CD X.K h
end
def eU:List D->Option (List Int)
 | []=>some []
 | .int i::ds=>(eU ds).map (i::·)
 | _=>none
theorem mE:∀ {ds:List D} {ns:List Int},eU ds=some ns->ds=ns.map .int
 | [],ns,h=>by simp [eU] at h; subst h; rfl
 | .int i::ds,ns,h=>by
  obtain ⟨m,h1,rfl⟩:=Zm (show Option.map _ (eU ds)=some ns from h)
  rw [mE h1]
  rfl
 | .non::_,_,h=>by simp [eU] at h
 | .bl _::_,_,h=>by simp [eU] at h
 | .str _::_,_,h=>by simp [eU] at h
 | .ty _::_,_,h=>by simp [eU] at h
 | .tup _::_,_,h=>by simp [eU] at h
 | .lst _::_,_,h=>by simp [eU] at h
 | .fz _::_,_,h=>by simp [eU] at h
 | .dct _::_,_,h=>by simp [eU] at h
 | .obj _ _::_,_,h=>by simp [eU] at h
 | .cls _::_,_,h=>by simp [eU] at h
 | .dfz _::_,_,h=>by simp [eU] at h
theorem tj (ns:List Int):eU (ns.map .int)=some ns:=by
 induction ns with
 | nil=>rfl
 | cons n ns ih=>rw [List.map_cons]; show Option.map _ (eU (ns.map .int))=_; rw [ih]; rfl
theorem Rps.hU {K:W.Frag} {H:Hp}:∀ {xs:List V} {ns:List Int},Rps K H xs (ns.map .int)->xs=ns.map V.int
 | _,[],.nil=>rfl
 | _,n::ns,.cons h r=>by
  cases h
  rw [Rps.hU r]
  rfl
theorem hU:∀ {ns:List Int} {us:List Value},bZ (ns.map V.int) us->∀ (i:Nat) (v:Value),us[i]?=some v->∃ t,v=.int ((ns[i]?).getD 0) t
 | [],_,.nil,i,v,e=>by simp at e
 | b::bs,_,.cons r t,0,v,e=>by
  simp at e
  subst e
  obtain ⟨tk,rfl⟩:=r
  exact ⟨tk,by simp⟩
 | b::bs,_,.cons r t,i+1,v,e=>by
  obtain ⟨c,h1⟩:=hU t i v (by simpa using e)
  exact ⟨c,by simpa using h1⟩
section
variable {prog:Program} {w:World} {A:Around} {R:Result->Shared->Prop} {s:Shared}
theorem pj {elt target iter cnd:Expr} {scope:Scope} {pos:Pos} {it acc:Value} {env:Env} (I:Nat->Shared->Prop)
  (turn:∀ n s,I n s->wpAny (model prog w) A (pyNext it) (fun r s₁=>match r with
    | none=>R (.ok .next) s₁
    | some v=>wpAny (model prog w) A (letOwnedTupleGo target it v) (fun _ s₁'=>wpAny (model prog w) A (assign target env v) (fun _ s₂=>wpAny (model prog w) A (isTrue cnd env (eval cnd env)) (fun ok s₂'=>if ok=true then wpAny (model prog w) A (eval elt env) (fun x s₃ =>
     wpAny (model prog w) A (call (.builtin "list.append") [acc,x]) (fun _ s₄=>∃ m,m < n/\I m s₄) (fun _ _=>False) s₃) (fun _ _=>False) s₂' else ∃ m,m < n/\I m s₂') (fun _ _=>False) s₂) (fun _ _=>False) s₁') (fun _ _=>False) s₁) (fun _ _=>False) s)
  (n:Nat) (h:I n s) :
  codeAny (model prog w) A (.compLoop (.ListComp elt [⟨target,iter,[cnd],0⟩] scope pos) 0 it acc env) R s:=by
 refine codeAny_loop rfl I (fun n s hI=>?_) n h
 show wpAny _ _ ((compTurn (.ListComp elt [⟨target,iter,[cnd],0⟩] scope pos) 0 it acc env).onRaise (fun x=>do noteFrame x env; theTreesLotGoes x)) _ _ s
 refine wpAny_noted ?_
 rw [compTurn_list]
 refine wpAny_bind (wpAny_standAt (wpAny_bind (wpAny_mono (turn n s hI) (fun r s₁ h₁=>?_) fun _ _ h'=>h'.elim)))
 cases r with
 | none=>exact wpAny_pure h₁
 | some v =>
  refine wpAny_bind (wpAny_mono h₁ (fun _ s₁' h₁'=>?_) fun _ _ h'=>h'.elim)
  refine wpAny_bind (wpAny_mono h₁' (fun _ s₂ h₂=>?_) fun _ _ h'=>h'.elim)
  refine wpAny_bind (wpAny_mono (wpAny_tests_one h₂) (fun ok s₃ h₃=>?_) fun _ _ h'=>h'.elim)
  cases ok with
  | false =>
    rw [if_neg Zf] at h₃
    rw [if_neg Zf]
    exact wpAny_bind (wpAny_pure (wpAny_pure ⟨rfl,h₃⟩))
  | true =>
    rw [if_pos rfl] at h₃
    rw [if_pos rfl]
    exact wpAny_bind (wpAny_bind (wpAny_mono h₃ (fun x s₄ h₄=>wpAny_bind (wpAny_mono h₄ (fun _ s₅ h₅=>wpAny_pure (wpAny_pure ⟨rfl,h₅⟩)) fun _ _ h'=>h'.elim)) fun _ _ h'=>h'.elim))
end
def A8 (J:It) (tt:TT) (te:TE) (cs:List (Str×Nat)) (σ:St) (Q:VK) (H1:Hp):Prop:=∃ W:Nat->Nat->List V->Hp->Prop,(∃ m,W 0 m [] H1)/\∀ i m ys H',W i m ys H' ->
 (J.stop i H'/\ys.length<=sizeLine/\∀ p,H' p=none->Q (.ref p) (upd H' p (.lst ys))) \/
 (J.go i H'/\ys.length < sizeLine/\∀ v H2,J.yld i H' v H2->tt (some v::aR σ cs) H2 fun b H3=>if b=true then te (some v::aR σ cs) H3 fun y H4=>∃ m',m' < m/\W (i+1) m' (ys++[y]) H4 else ∃ m',m' < m/\W (i+1) m' ys H3)
def Ae (wi:TI) (tt:TT) (te:TE) (cs:List (Str×Nat)):TE:=fun σ H Q=>wi σ H fun J H1=>A8 J tt te cs σ Q H1
section
variable {X:Cx}
theorem sd {elt iter:Expr} {x:Str} {px pos:Pos} {scope:Scope} {cl:List (Str×Addr)} {cs:List (Str×Nat)} {te:TE} {tt:TT} {cnd:Expr} {pins:List (Addr×Obj)} {σ:St} {H:Hp} {s:Shared} {Q:VK} {it:Addr} {fp:List Addr} {tn:Nat->Heap->Prop} {J:It}
  {RR:Value->Addr->Result->Shared->Prop} {E:Value->Shared->Prop} (hc:X.calm=true) (O:d6 X scope cl x cs) (hcd:∀ s H fp C,PT (bS X scope cl (x::cs.map (·.1)) s H fp C) cnd tt) (he:∀ s H fp C,PE (bS X scope cl (x::cs.map (·.1)) s H fp C) elt te)
  (I:Inv X pins σ H s) (T:Turn X.prog X.w X.K (.Name x px) J fp it tn) (st:tn 0 s.heap) (f2:∀ b ∈ fp,uT X pins H b)
  (h : ∃ W:Nat->Nat->List V->Hp->Prop,(∃ m,W 0 m [] H)/\∀ i m ys H',W i m ys H' ->
    (J.stop i H'/\ys.length<=sizeLine/\∀ p,H' p=none->Q (.ref p) (upd H' p (.lst ys))) \/
    (J.go i H'/\ys.length < sizeLine/\∀ v H2,J.yld i H' v H2->tt (some v::aR σ cs) H2 fun b H3=>if b=true then te (some v::aR σ cs) H3 fun y H4=>∃ m',m' < m/\W (i+1) m' (ys++[y]) H4 else ∃ m',m' < m/\W (i+1) m' ys H3))
  (hRR:∀ D C s' H' ys,s.heap.objs.size<=D->s.heap.objs.size<=C->D≠C->(∃ m,s'.heap.Ns C m)->Inv X pins σ (upd H' D (.lst ys)) s'->H' C=none->Q (.ref D) (upd H' D (.lst ys))->RR (.ref D) C (.ok .next) s') :
  wpAny (model X.prog X.w) X.A (newList []) (fun acc s₃=>wpAny (model X.prog X.w) X.A (newFunctionEnv scope X.env.globals cl [] X.env.qual none .none (some X.env)) (fun cenv s₄ =>
    codeAny (model X.prog X.w) X.A (.compStart (.ListComp elt [⟨.Name x px,iter,[cnd],0⟩] scope pos) 0 (.ref it) acc { cenv with scope:=relabel scope X.env }) (RR acc cenv.locals) s₄) E s₃) E s:=by
 obtain ⟨W,⟨m0,w0⟩,turn⟩:=h
 refine wpAny_newObj_type (wpAny_newFunctionEnv O.sW (by intro y hy; simp at hy) (fun h₁ hns₁ hsb₁=>?_) O.kind)
 dsimp only at hns₁ hsb₁ ⊢
 generalize hH2:s.heap.push { cls:=.type "list",dict:=none,data:=.seq ([]:List Value).toArray }=H2 at hns₁ hsb₁ ⊢
 have hC:H2.objs.size=s.heap.objs.size+1:=by rw [<- hH2,Heap.size_push]
 have hDC:s.heap.objs.size≠H2.objs.size:=by rw [hC]; exact Nat.ne_of_lt (Nat.lt_succ_self _)
 have hCle:s.heap.objs.size<=H2.objs.size:=by rw [hC]; exact Nat.le_succ _
 have neC:∀ b,b < s.heap.objs.size->b≠H2.objs.size:=fun b hb=>by rw [hC]; exact Nat.ne_of_lt (Nat.lt_succ_of_lt hb)
 have old:∀ b o,s.heap.get? b=some o->h₁.get? b=some o:=fun b o e=>hsb₁.extBut b o (neC b (Heap.lt_size e)) (Heap.get?_push_of_some _ (hH2 ▸ Heap.get?_push_of_some _ e))
 have hacc:h₁.get? s.heap.objs.size=some { cls:=.type "list",data:=.seq ([]:List Value).toArray }:=hsb₁.extBut _ _ hDC (Heap.get?_push_of_some _ (hH2 ▸ Heap.get?_push_size _ rfl))
 have there:∀ b ∈ fp,b < s.heap.objs.size:=fun b hb=>by
  obtain ⟨o,e,_⟩:=T.obj _ _ st b hb
  exact Heap.lt_size e
 have hns:h₁.Ns H2.objs.size fun _=>none:=by
  have e:(fun x=>List.lookup x ([]:List (Str×Value)).reverse)=fun _=>none:=by funext y; rfl
  rw [e] at hns₁
  exact hns₁
 generalize hD:s.heap.objs.size=D at hDC hCle hacc
 generalize hCC:H2.objs.size=C at hDC hCle hns ⊢
 have FD:=I.u0 (b:=D) (H':=H) (by rw [<- hD]; exact Nat.le_refl _) (I.hok.fresh (by rw [<- hD]; exact Nat.le_refl _))
 have FC:=I.u0 (b:=C) (H':=H) (by rw [hD]; exact hCle) (I.hok.fresh (by rw [hD]; exact hCle))
 have nfpD:∀ b ∈ fp,b≠D:=fun b hb=>by rw [<- hD]; exact Nat.ne_of_lt (there b hb)
 have nfpC:∀ b ∈ fp,b≠C:=fun b hb=>Nat.ne_of_lt (Nat.lt_of_lt_of_le (there b hb) (by rw [hD]; exact hCle))
 have st1:tn 0 h₁:=T.keep _ _ _ st fun b _ o e=>old b o e
 have I1:Inv (bS X scope cl (x::cs.map (·.1)) s H fp C) [] (none::aR σ cs) H { s with heap:=h₁,toks:=s.toks+([]:List (Str×Value)).length } :=
  nS O I f2 there (by rw [hD]; exact hCle) old hns
 generalize hY:bS X scope cl (x::cs.map (·.1)) s H fp C=Y at I1
 have pgx:PG Y (.Name x px) (mI 0):=by
  subst hY
  exact gV (i:=0) O.nd rfl (.inl (lookup_relabel_local O.own)) (.inr (lookup_relabel_local O.own))
 have peY:PE Y elt te:=by subst hY; exact he _ _ _ _
 have ptY:PT Y cnd tt:=by subst hY; exact hcd _ _ _ _
 have Yx:Y.prog=X.prog/\Y.w=X.w/\Y.K=X.K/\Y.A=X.A/\Y.env=compEnvC scope cl C X.env/\Y.calm=X.calm/\Y.xe=(fun _ _=>False)/\Y.pn=[]/\Y.ex=fp/\Y.fs=frs X.stack/\Y.s₀=s/\Y.H₀=H:=by subst hY; exact ⟨rfl,rfl,rfl,rfl,rfl,rfl,rfl,rfl,rfl,rfl,rfl,rfl⟩
 obtain ⟨y1,y2,y3,y4,y5,y6,y7,y8,y9,y10,y11,y12⟩:=Yx
 have nstk:∀ b,b≠X.env.locals->b ∉ X.fs->b ∉ Y.fs:=fun b h1 h2 z=>by rw [y10] at z; exact (List.mem_cons.mp (I.pO b z)).elim h1 h2
 have yl:Y.env.locals=C:=by rw [y5]; rfl
 have yc:∀ z c,Y.env.cells.lookup z=some c->X.env.cells.lookup z=some c:=fun z c e=>by rw [y5] at e; exact O.sub z c e
 have stat:∀ {ps:List (Addr×Obj)} {H':Hp},(∀ b ∈ fp,H' b=none)->(∀ p ∈ ps,p.1=D)->∀ b ∈ fp,uT Y ps H' b:=fun {ps H'} hn hp b hb =>
  ⟨hn b hb,by rw [yl]; exact nfpC b hb,nstk b (f2 b hb).2.1 (f2 b hb).2.2.1,.inl (by rw [y9]; exact hb),fun z c e=>(f2 b hb).2.2.2.2.1 z c (yc z c e),fun p hq=>by
    rw [y8,List.nil_append] at hq
    rw [hp p hq]
    exact Ne.symm (nfpD b hb)⟩
 have pinD:∀ {σ':St} {H':Hp} {s':Shared} {ob:Obj},Inv Y [] σ' H' s'->H' D=none->s'.heap.get? D=some ob->(∀ v,ob.data≠.cell v)->Inv Y [(D,ob)] σ' H' s':=fun {σ' H' s' ob} I' hn e hd =>
  I'.jh fun p hp=>by
    have e1:p=(D,ob):=by simpa using hp
    subst e1
    exact ⟨e,hn,by rw [yl]; exact hDC,nstk D FD.2.1 FD.2.2.1,hd⟩
 have loop:∀ s₃:Shared,s₃={ s with heap:=h₁,toks:=s.toks+([]:List (Str×Value)).length } ->
    codeAny (model X.prog X.w) X.A (.compLoop (.ListComp elt [⟨.Name x px,iter,[cnd],0⟩] scope pos) 0 (.ref it) (.ref D) (compEnvC scope cl C X.env)) (RR (.ref D) C) s₃:=by
  rintro s₃ rfl
  refine pj (fun n s'=>∃ i o H' ys its k,Inv Y [] (o::aR σ cs) H' s'/\tn i s'.heap/\(∀ b ∈ fp,H' b=none)/\H' D=none/\s'.heap.get? D=some { cls:=.type "list",data:=.seq (its:List Value).toArray k }/\bZ ys its/\W i n ys H') ?_ m0
    ⟨0,none,H,[],[],0,I1,st1,fun b hb=>(f2 b hb).1,FD.1,hacc,.nil,w0⟩
  rintro n s3 ⟨i,o,H3,ys,its,k,I3,st3,fr3,frD,e3,vs3,w3⟩
  have I3p:=pinD I3 frD e3 (by intro v z; cases z)
  have onlyD:∀ p ∈ [(D,({ cls:=.type "list",data:=.seq its.toArray k }:Obj))],p.1=D:=fun p hp=>by
    have e1:p=_:=List.mem_singleton.mp hp
    rw [e1]
  rcases turn i n ys H3 w3 with ⟨stop,hz,q⟩ | ⟨go,hz,step⟩
  · have dn:=T.done Y y1 y2 y3 (by rw [y6]; exact hc) i _ s3 (o::aR σ cs) H3 (fun _ _=>False) I3p (stat fr3 onlyD) st3 stop
    rw [y4] at dn
    refine thn dn fun r s4 ⟨hr,I4⟩=>?_
    subst hr
    obtain ⟨e4,_⟩:=I4.pin (D,_) (List.mem_append_right _ (List.mem_singleton.mpr rfl))
    have b4:=I4.base
    rw [y9,y10,y11,y12] at b4
    have hk4:=I4.hok
    rw [y1,y2] at hk4
    have hCn:H3 C=none:=by have:=I4.free; rw [yl] at this; exact this
    refine hRR D C s4 H3 ys (by rw [<- hD]; exact Nat.le_refl _) (by rw [hD]; exact hCle) hDC (by obtain ⟨m,hm,_⟩:=I4.loc; rw [yl] at hm; exact ⟨m,hm⟩) ?_ hCn (q D frD)
    have neD:∀ b o,s.heap.get? b=some o->b≠D:=fun b o e=>by rw [<- hD]; exact Nat.ne_of_lt (Heap.lt_size e)
    have neDH:∀ b u,H b=some u->b≠D:=fun b u e=>by rw [<- hD]; exact Nat.ne_of_lt (I.hok.lt e)
    refine I.FQ (ch:=fp) (by have:=I4.os; rw [y11] at this; exact this) ⟨b4.keep,b4.slot,fun b o e n hx=>?_,b4.there,fun b xs e=>?_,fun b o u e=>?_,fun b ps e=>?_⟩ (fun b u e=>?_) I4.bare fun b hb=>?_
    · rw [ak (neD b o e)]; exact b4.free b o e n hx
    · rw [ak (neDH b _ e)]; exact b4.vg b xs e
    · rw [ak (neDH b _ e)]; exact b4.uZ b o u e
    · rw [ak (neDH b _ e)]; exact b4.vj b ps e
    ·have t1:∀ c u,H3 c=some u->upd H3 D (.lst ys) c=some u:=fun c u z=>by
      rw [ak (fun zz=>by rw [zz,frD] at z; cases z)]
      exact z
     by_cases hb:b=D
     ·subst hb
      rw [au] at e
      cases e
      exact ⟨hz,its,k,vs3,e4⟩
     ·rw [ak hb] at e
      exact (hk4 b u e).yq (fun _ _ _ z=>z) (fun c z=>t1 c _ z) fun c xs z=>t1 c _ z
    · exact ⟨(f2 b hb).2.2.2.1,(f2 b hb).2.1,(f2 b hb).2.2.2.2.1,(f2 b hb).2.2.2.2.2⟩
  · have im:=T.item Y y1 y2 y3 (by rw [y6]; exact hc) i _ s3 (o::aR σ cs) H3 (fun _ _=>False) I3p (stat fr3 onlyD) st3 go
    rw [y4] at im
    refine thn im fun r s4 ⟨u,hr,h4⟩=>?_
    subst hr
    refine thn h4 fun _ s5 ⟨v,H5,I5,r5,y5',st5,fr5⟩=>?_
    have I5':=I5.pinned (stat fr5 onlyD) (T.obj _ _ st5)
    have as:=pgx _ s5 (o::aR σ cs) H5 v u _ I5' r5 (show mI 0 v (o::aR σ cs) H5 (fun σ' H'=>σ'=some v::aR σ cs/\H'=H5) from ⟨rfl,rfl⟩)
    rw [y1,y2,y4,y5,y7] at as
    refine thn as fun _ s6 ⟨σ6,H6,I6,e6,e6'⟩=>?_
    subst e6 e6'
    have ts:=ptY _ s6 _ H6 _ I6 (step v H6 y5')
    rw [y1,y2,y4,y5,y7] at ts
    refine thn ts fun bb s7 ⟨H7,I7,q7⟩=>?_
    have fpk:∀ b ∈ fp,∀ o,s5.heap.get? b=some o->s7.heap.get? b=some o/\H7 b=none:=fun b hb o e=>by
     obtain ⟨z1,z2,_⟩:=I7.pin (b,o) (List.mem_append_right _ (List.mem_append_right _ (fO hb e)))
     exact ⟨z1,z2⟩
    cases bb with
    | false =>
     obtain ⟨m',hm',w7⟩:=(show ∃ m',m' < n/\W (i+1) m' ys H7 by rw [if_neg Zf] at q7; exact q7)
     rw [if_neg Zf]
     obtain ⟨e7,n7,_⟩:=I7.pin (D,_) (List.mem_append_right _ (List.mem_append_left _ (List.mem_singleton.mpr rfl)))
     have I7n:Inv Y [] (some v::aR σ cs) H7 s7:=I7.jh fun p hp=>absurd hp (by simp)
     refine ⟨m',hm',i+1,some v,H7,ys,its,k,I7n,T.keep _ _ _ st5 fun b hb o e=>(fpk b hb o e).1,fun b hb=>?_,n7,e7,vs3,w7⟩
     obtain ⟨o',e',_⟩:=T.obj _ _ st5 b hb
     exact (fpk b hb o' e').2
    | true =>
    rw [if_pos rfl]
    have q7':=q7
    rw [if_pos rfl] at q7'
    have el:=peY _ s7 _ H7 _ I7 q7'
    rw [y1,y2,y4,y5,y7] at el
    refine thn el fun u8 s8 ⟨y8',H8,I8,r8,m',hm',w8⟩=>?_
    obtain ⟨e8,n8,_⟩:=I8.pin (D,_) (List.mem_append_right _ (List.mem_append_left _ (List.mem_singleton.mpr rfl)))
    have hl3:=vs3.length
    refine call_meets F.slot_list_append ⟨_,e8,rfl⟩ F.entry_list_append (F.args_list_append_2 _ _) (PySem.list_append D its.toArray k u8 (by rw [List.size_toArray]; omega)) ⟨e8,?_⟩
    obtain ⟨k',up⟩:∃ k',(s8.heap.update D (Obj.mapSeq (·.push u8))).get? D=some { cls:=.type "list",data:=.seq (its.toArray.push u8) k' }:=⟨_,PySem.IsL.update e8 (·.push u8)⟩
    have fpk8:∀ b ∈ fp,∀ o,s5.heap.get? b=some o->s8.heap.get? b=some o/\H8 b=none:=fun b hb o e=>by
     obtain ⟨z1,z2,_⟩:=I8.pin (b,o) (List.mem_append_right _ (List.mem_append_right _ (fO hb e)))
     exact ⟨z1,z2⟩
    have I8n:Inv Y [] (some v::aR σ cs) H8 s8:=I8.jh fun p hp=>absurd hp (by simp)
    refine ⟨m',hm',i+1,some v,H8,ys++[y8'],its++[u8],k',?_,?_,?_,n8,?_,vs3.append (.cons r8 .nil),w8⟩
    ·refine I8n.turned (it:=D) (fun b o hb e=>(Heap.get?_update_other s8.heap (Obj.mapSeq (·.push u8)) (Ne.symm hb)).trans e) n8 (by rw [yl]; exact hDC) (.inr (by rw [y11,<- hD]; exact Nat.le_refl _)) (fun z c e=>FD.2.2.2.2.1 z c (yc z c e)) fun p hp=>?_
     rw [y8] at hp
     exact absurd hp (by simp)
    ·refine T.keep _ _ _ st5 fun b hb o e=>?_
     exact (Heap.get?_update_other s8.heap (Obj.mapSeq (·.push u8)) (Ne.symm (nfpD b hb))).trans (fpk8 b hb o e).1
    ·intro b hb
     obtain ⟨o',e',_⟩:=T.obj _ _ st5 b hb
     exact (fpk8 b hb o' e').2
    ·rw [List.push_toArray] at up
     exact up
 exact codeAny_compStart_list (loop _ rfl) (T.self _ 0 _ _ _ st1 (loop _ rfl))
theorem oJ {elt iter:Expr} {x y:Str} {px py pos spos:Pos} {i:Nat} {scope:Scope} {cl:List (Str×Addr)} {cs:List (Str×Nat)} {wi:TI} {te:TE} {tt:TT} {cnd:Expr} (hN:X.N.Nodup) (hy:X.N[i]?=some y) (hx:Loc X.env.scope y)
  (hc:X.calm=true) (O:d6 X scope cl x cs) (hi:PI X (.Name x px) iter wi)
  (hcd:∀ s H fp C,PT (bS X scope cl (x::cs.map (·.1)) s H fp C) cnd tt) (he:∀ s H fp C,PE (bS X scope cl (x::cs.map (·.1)) s H fp C) elt te) (hs:∀ x,foldedSetIterable iter X.env x=pure x:=by intro _; rfl)
  (hsw:swapsWith (.ListComp elt [⟨.Name x px,iter,[cnd],0⟩] scope pos) (some (.Name y py)) spos.line X.env=pure true:=by rfl)
  (hf:X.fn y=true\/X.env.scope.names.lookup y=some .local:=by first | exact .inl rfl | exact .inr rfl | assumption) :
  PS X (.Assign [.Name y py] (.ListComp elt [⟨.Name x px,iter,[cnd],0⟩] scope pos) spos) (Gb (Ae wi tt te cs) (mI i)):=by
 intro pins s σ H Dd I h
 rw [exec_Assign_Name_used _ _ _ _ hsw]
 refine wpAny_bind (wpAny_standAt (wpAny_bind ?_))
 show wpAny _ X.A (do let _ <- comprehension (.ListComp elt [⟨.Name x px,iter,[cnd],0⟩] scope pos) scope X.env _ (newList []) false (eval iter X.env) (some (assign (.Name y py) X.env))) _ _ s
 refine wpAny_bind (wpAny_mono (wpAny_comprehension_free (use:=some (assign (.Name y py) X.env)) (Q:=fun _ s'=>SP X pins Dd .next s') rfl hs O.Hk O.kind O.names (thn (hi pins s σ H _ I h) fun v s1 h1=>thn h1 fun itv s2 h2=>?_))
  (fun _ s' hq=>wpAny_pure (wpAny_pure hq)) fun _ _ e=>e)
 obtain ⟨it,fp,tn,J,H2,rfl,I2,T,st2,f2,hw⟩:=h2
 refine sd (Q:=fun v H1=>mI i v σ H1 Dd.nx) (RR:=fun acc C=>compPost (model X.prog X.w) X.A X.xe (some (assign (.Name y py) X.env)) (fun _ s'=>SP X pins Dd .next s') acc C) hc O hcd he I2 T st2 f2 hw fun D C s' H' ys hD hC hDC ⟨m,hm⟩ I' hn q=>?_
 have hn':upd H' D (.lst ys) C=none:=by rw [ak (Ne.symm hDC)]; exact hn
 have FC:=I2.u0 (b:=C) hC hn'
 show wpAny _ X.A (assign (.Name y py) X.env (.ref D)) _ _ _
 refine wpAny_assign_Name (pN I' hN hy hx (v:=.ref D) rfl (fun s'' I'' ⟨a,hsb,ha⟩=>?_) hf)
 have na:C≠a:=by
  rcases ha with ha | ha
  · rw [ha]; exact FC.2.1
  · exact Ne.symm (FC.2.2.2.2.1 y a ha)
 refine ⟨m,hm.sameBut hsb na,fun h' hs'=>?_⟩
 exact ⟨σ.set i (some (.ref D)),upd H' D (.lst ys),I''.turned (it:=C) (t':=s''.toks) (fun b o hb e=>(hs'.2 b hb).trans e) hn' FC.2.1 FC.2.2.2.1 FC.2.2.2.2.1 FC.2.2.2.2.2,q⟩
end
def q9 (c:D->Option Bool) (g:D->Option D):List D->Option (List D)
 | []=>some []
 | d::ds=>(c d).bind fun b=>if b=true then (g d).bind fun x=>(q9 c g ds).bind fun xs=>some (x::xs) else q9 c g ds
def iX (it:DI) (c:DT) (g:DE) (cs:List (Str×Nat)):DE:=fun τ=>(it τ).bind fun ds=>if ds.length<=100000 then (q9 (fun d=>c (.shr d::eD τ cs)) (fun d=>g (.shr d::eD τ cs)) ds).map .lst else none
section
variable {X:Cx} {e:Expr} {es:List Expr} {pos:Pos}
theorem tO {K:W.Frag} {it:DI} {c:DT} {g:DE} {cs:List (Str×Nat)} {σ:St} {H:Hp} {Q:VK} (h:rdO K (iX it c g cs) σ H Q):Ae (rdI K it) (rdT K c) (rdE K g) cs σ H Q:=by
 obtain ⟨H0,Hs,τ,fp,d,st,sm,e,k⟩:=h
 obtain ⟨ds,e1,e2⟩:=bind_some e
 split at e2
 ·rename_i hl
  obtain ⟨full,e3,rfl⟩:=Zm e2
  refine ⟨H0,Hs,τ,fp,ds,st,sm,e1,fun J Hs1 H1 g1 hJ=>?_⟩
  refine ⟨fun i m ys H'=>m=ds.length - i/\i<=ds.length/\∃ Hs2 es rest,Ext Hs1 H1 Hs2 H'/\Rps K Hs2 ys es/\es.length<=i/\q9 (fun d=>c (.shr d::eD τ cs)) (fun d=>g (.shr d::eD τ cs)) (ds.drop i)=some rest/\es++rest=full,⟨ds.length,by simp,Nat.zero_le _,Hs1,[],full,.refl g1.sh,.nil,Nat.le_refl _,by simpa using e3,rfl⟩,?_⟩
  rintro i m ys H2 ⟨rfl,hi,Hs2,es,rest,g2,ry,ley,e4,e5⟩
  obtain ⟨hgo,hstop⟩:=hJ Hs2 H2 g2.ss g2.sh
  have ly:ys.length<=i:=by rw [ry.length]; exact ley
  by_cases hlt:i < ds.length
  ·have ed:ds.drop i=ds[i]::ds.drop (i+1):=List.drop_eq_getElem_cons hlt
   rw [ed] at e4
   obtain ⟨b,q0,q0'⟩:=bind_some e4
   obtain ⟨go,yl⟩:=hgo i ds[i] (List.getElem?_eq_getElem hlt)
   refine .inr ⟨go,le5 (by omega),fun v H3 y=>?_⟩
   obtain ⟨Hs3,g3,rv⟩:=yl v H3 y
   have g13:=(g1.trans g2).trans g3
   refine ⟨H0,Hs3,.shr ds[i]::eD τ cs,[],b,.shr rv (ki (st.ext g13) cs),g3.sh,q0,fun Hs4 H4 g4=>?_⟩
   have g14:=g13.trans g4
   cases b with
   | true =>
    refine JG ?_
    obtain ⟨x,q1,q2⟩:=bind_some (show (g (.shr ds[i]::eD τ cs)).bind _=some rest from q0')
    obtain ⟨xs,q3,q4⟩:=bind_some q2
    have eq:x::xs=rest:=Zj q4
    subst eq
    refine ⟨H0,Hs4,.shr ds[i]::eD τ cs,[],x,.shr (rv.same g4.ss) (ki (st.ext g14) cs),g4.sh,q1,fun v5 Hs5 H5 g5 r5=>?_⟩
    exact ⟨ds.length - (i+1),by omega,rfl,hlt,Hs5,es++[x],xs,((g2.trans g3).trans g4).trans g5,(((ry.same g3.ss).same g4.ss).same g5.ss).append (.cons r5 .nil),by simp; omega,q3,by rw [<- e5]; simp⟩
   | false =>
    refine Hh ?_
    have q1:q9 (fun d=>c (.shr d::eD τ cs)) (fun d=>g (.shr d::eD τ cs)) (ds.drop (i+1))=some rest:=q0'
    exact ⟨ds.length - (i+1),by omega,rfl,hlt,Hs4,es,rest,(g2.trans g3).trans g4,(ry.same g3.ss).same g4.ss,by omega,q1,e5⟩
  ·have e0:i=ds.length:=by omega
   subst e0
   rw [List.drop_length] at e4
   have er:[]=rest:=Zj e4
   subst er
   rw [List.append_nil] at e5
   subst e5
   refine .inl ⟨hstop _ (Nat.le_refl _),w9 (by omega),fun p hp=>?_⟩
   have g12:=g1.trans g2
   exact k p Hs2 _ ⟨g12.ss,g12.sh.trans (aB hp _),g12.hh.trans (aB hp _),g12.fr⟩ (.lst au (g12.sh.free hp) ry) (g12.hh.free hp)
 · cases e2
end
def nt:D->Option Key
 | .int i=>some (.inl i)
 | .str x=>some (.inr x)
 | _=>none
def nq (kvs:List (Key×D)) (k:Key):Option D:=(kvs.find? fun kv=>decide (kv.1=k)).map (·.2)
theorem mC {K:W.Frag} {H:Hp} {v:V} {d:D} {k:Key} (r:Rp K H v d) (e:nt d=some k):v=kV k:=by
 cases r <;> simp [nt] at e <;> subst e <;> rfl
theorem RpK.val {K:W.Frag} {H:Hp} {k:Key}:∀ {kvs:List (Key×V)} {ds:List (Key×D)},RpK K H kvs ds->(∀ d,nq ds k=some d->∃ v,dD kvs k=some v/\Rp K H v d)/\(nq ds k=none->dD kvs k=none)
 | _,_,.nil=>⟨fun d e=>by simp [nq] at e,fun _=>rfl⟩
 | _,_,@RpK.cons _ _ j x d xs ds h r=>by
  obtain ⟨i1,i2⟩:=RpK.val (k:=k) r
  by_cases q:j=k
  ·subst q
   refine ⟨fun d' e=>?_,fun e=>?_⟩
   ·have:d=d':=by simpa [nq] using e
    subst this
    exact ⟨x,by simp [dD],h⟩
   · simp [nq] at e
  ·have e1:nq ((j,d)::ds) k=nq ds k:=by simp [nq,q]
   have e2:dD ((j,x)::xs) k=dD xs k:=by simp [dD,q]
   rw [e1,e2]
   exact ⟨i1,i2⟩
theorem RpK.length {K:W.Frag} {H:Hp}:∀ {kvs:List (Key×V)} {ds:List (Key×D)},RpK K H kvs ds->kvs.length=ds.length
 | _,_,.nil=>rfl
 | _,_,.cons _ r=>congrArg (·+1) r.length
def bC:D->D->Option D
 | .dct kvs,y=>(nt y).bind fun k=>nq kvs k
 | .dfz kvs,y=>(nt y).bind fun k=>nq kvs k
 | _,_=>none
def yt:D->D->Option D
 | y,.dct kvs=>(nt y).map fun k=>.bl (nq kvs k).isSome
 | _,_=>none
def kF:D->D->Option D
 | y,.dct kvs=>(nt y).map fun k=>.bl (!(nq kvs k).isSome)
 | _,_=>none
section
variable {X:Cx} {o i e value:Expr} {pos pos' apos cpos:Pos} {f g h:DE}
theorem B9 (hu:X.A.units+64 < cLine) (ho:PEd X o f) (hi:PEd X i g) (hs:Dv i):PEd X (.Subscript o i pos) (dOp bC f g) :=
 (oN (by omega) ho hi hs).imp fun σ H Q h=>by
   have h':=nK X.K h
   obtain ⟨H0,Hs,τ,fp,x,st,sm,e1,kk⟩:=h'
   refine ⟨H0,Hs,τ,fp,x,st,sm,e1,fun v Hs1 H1 g1 r1=>?_⟩
   obtain ⟨H0',Hs',τ',fp',y,st',sm',e2,kk2⟩:=kk v Hs1 H1 g1 r1
   refine ⟨H0',Hs',τ',fp',y,st',sm',e2,fun u Hs2 H2 g2 r2=>?_⟩
   obtain ⟨Hs3,dx,dy,d,sm3,rx,ry,eo,k⟩:=kk2 u Hs2 H2 g2 r2
   cases rx with
   | @dct a kvs ds hH rk =>
    obtain ⟨key,ek,ev⟩:=bind_some (show (nt dy).bind _=some d from eo)
    obtain ⟨w,hw,rw'⟩:=(rk.val (k:=key)).1 d ev
    have:=mC ry ek
    subst this
    exact ⟨a,w,rfl,by rw [<- hw]; exact uU.k (sm3 _ _ hH),k w Hs3 H2 (.refl sm3) rw'⟩
   | @dfz a kvs ds hH rk =>
    obtain ⟨key,ek,ev⟩:=bind_some (show (nt dy).bind _=some d from eo)
    obtain ⟨w,hw,rw'⟩:=(rk.val (k:=key)).1 d ev
    have:=mC ry ek
    subst this
    refine ⟨a,w,rfl,.inl ⟨_,key,hH.elim (fun z=>.inl (sm3 _ _ z)) (fun ⟨o,z⟩=>.inr ⟨o,sm3 _ _ z⟩),rfl,hw.symm⟩,k w Hs3 H2 (.refl sm3) rw'⟩
   | _=>simp [bC] at eo
theorem rW {neg:Bool} {σ:St} {H:Hp} {Q:VK} (K:W.Frag) (h:rdE K (dOp (if neg then kF else yt) f g) σ H Q):rdE K f σ H fun y H1=>rdE K g σ H1 fun x H2=>∃ a o,x=.ref a/\uU H2 a y o/\Q (.bl (if neg then !o.isSome else o.isSome)) H2:=by
 have h':=nK K h
 obtain ⟨H0,Hs,τ,fp,x,st,sm,e1,kk⟩:=h'
 refine ⟨H0,Hs,τ,fp,x,st,sm,e1,fun v Hs1 H1 g1 r1=>?_⟩
 obtain ⟨H0',Hs',τ',fp',y,st',sm',e2,kk2⟩:=kk v Hs1 H1 g1 r1
 refine ⟨H0',Hs',τ',fp',y,st',sm',e2,fun u Hs2 H2 g2 r2=>?_⟩
 obtain ⟨Hs3,dx,dy,d,sm3,rx,ry,eo,k⟩:=kk2 u Hs2 H2 g2 r2
 cases ry with
 | @dct a kvs ds hH rk =>
  obtain ⟨key,ek,ev⟩:∃ key,nt dx=some key/\D.bl (if neg then !(nq ds key).isSome else (nq ds key).isSome)=d:=by
   cases neg with
   | true =>
    obtain ⟨key,a1,a2⟩:=Zm (show (nt dx).map _=some d from eo)
    exact ⟨key,a1,a2⟩
   | false =>
    obtain ⟨key,a1,a2⟩:=Zm (show (nt dx).map _=some d from eo)
    exact ⟨key,a1,a2⟩
  have:=mC rx ek
  subst this
  subst ev
  have is:(dD kvs key).isSome=(nq ds key).isSome:=by
   cases q:nq ds key with
   | none=>rw [(rk.val (k:=key)).2 q]; rfl
   | some d'=>obtain ⟨w,hw,_⟩:=(rk.val (k:=key)).1 d' q; rw [hw]; rfl
  refine ⟨a,dD kvs key,rfl,uU.k (sm3 _ _ hH),?_⟩
  rw [is]
  exact k _ Hs3 H2 (.refl sm3) (.bl _)
 | _=>cases neg <;> cases rx <;> simp [yt,kF] at eo
theorem EB (hu:X.A.units+64 < cLine) (hi:PEd X i f) (ho:PEd X o g) (hm:behindInMarks .In o=false):PEd X (.Compare i [.In] [o] pos) (dOp yt f g):=(Eo (Au (by omega) hi ho) hm).imp fun σ H Q h=>rW (neg:=false) X.K h
theorem A2 {f:DE} {σ:St} {H:Hp} {Q:Bool->Hp->Prop} (K:W.Frag) (h:rdT K (dT f) σ H Q):rdE K f σ H fun x H1=>∃ c,x=.bl c/\Q c H1:=by
 obtain ⟨H0,Hs,τ,fp,d,st,sm,e,k⟩:=h
 obtain ⟨x,e1,e⟩:=bind_some e
 have hx:x=.bl d:=by cases x <;> simp at e <;> subst e <;> rfl
 subst hx
 refine ⟨H0,Hs,τ,fp,_,st,sm,e1,fun v Hs' H' g r=>?_⟩
 cases r
 exact ⟨d,rfl,k Hs' H' g⟩
theorem Bw (hu:X.A.units+64 < cLine) (hi:PEd X i f) (ho:PEd X o g) (hm:behindInMarks .In o=false):PTd X (.Compare i [.In] [o] pos) (dT (dOp yt f g)):=(Ap (Au (by omega) hi ho) hm).imp fun σ H Q h=>rW (neg:=false) X.K (Q:=fun x H1=>∃ c,x=.bl c/\Q c H1) (A2 X.K h)
theorem uc (hu:X.A.units+64 < cLine) (hi:PEd X i f) (ho:PEd X o g) (hm:behindInMarks .NotIn o=false):PTd X (.Compare i [.NotIn] [o] pos) (dT (dOp kF f g)):=(Ap (wt (by omega) hi ho) hm).imp fun σ H Q h=>rW (neg:=true) X.K (Q:=fun x H1=>∃ c,x=.bl c/\Q c H1) (A2 X.K h)
end
def scD:D->Option V
 | .int i=>some (.int i)
 | .str x=>some (.str x)
 | .non=>some .non
 | _=>none
def Dr:List D->Option (List V)
 | []=>some []
 | d::ds=>(scD d).bind fun v=>(Dr ds).map (v::·)
def inS (x:D) (ys:List D):Option Bool:=(scD x).bind fun v=>(Dr ys).map fun vs=>inV v vs
def AK:D->Option (List D)
 | .lst ys=>some ys
 | .tup ys=>some ys
 | _=>none
def Gh (x y:D):Option D:=(AK y).bind fun ys=>(inS x ys).map .bl
def mh (x y:D):Option D:=(AK y).bind fun ys=>(inS x ys).map fun b=>.bl !b
theorem DV {K:W.Frag} {H:Hp} {v w:V} {d:D} (r:Rp K H v d) (e:scD d=some w):v=w/\nI v=true:=by
 cases r <;> simp [scD] at e <;> subst e <;> exact ⟨rfl,rfl⟩
theorem Ah {K:W.Frag} {H:Hp}:∀ {vs ws:List V} {ds:List D},Rps K H vs ds->Dr ds=some ws->vs=ws/\vs.all nI=true
 | _,_,_,.nil,e=>by simp [Dr] at e; subst e; exact ⟨rfl,rfl⟩
 | _,_,_,.cons h r,e=>by
  obtain ⟨v,e1,e2⟩:=bind_some (show (scD _).bind _=_ from e)
  obtain ⟨ws,e3,e4⟩:=Zm e2
  obtain ⟨q1,q2⟩:=DV h e1
  obtain ⟨q3,q4⟩:=Ah r e3
  subst q1 q3
  exact ⟨e4,by rw [List.all_cons,q2,q4]; rfl⟩
section
variable {X:Cx}
theorem AL {K:W.Frag} {neg:Bool} {x y:V} {H:Hp} {Q:VK} (h:rdR K (if neg then mh else Gh) x y H Q):rIn K neg x y H Q:=by
 obtain ⟨Hs,dx,dy,d,sm,rx,ry,e,k⟩:=h
 obtain ⟨ys,b,e1,e2,e3⟩:∃ ys b,AK dy=some ys/\inS dx ys=some b/\d=.bl (if neg then !b else b):=by
  cases neg with
  | true =>
   obtain ⟨ys,a1,a2⟩:=bind_some (show (AK dy).bind _=some d from e)
   obtain ⟨b,a3,a4⟩:=Zm a2
   exact ⟨ys,b,a1,a3,a4.symm⟩
  | false =>
   obtain ⟨ys,a1,a2⟩:=bind_some (show (AK dy).bind _=some d from e)
   obtain ⟨b,a3,a4⟩:=Zm a2
   exact ⟨ys,b,a1,a3,a4.symm⟩
 obtain ⟨v,e4,e5⟩:=bind_some e2
 obtain ⟨vs,e6,e7⟩:=Zm e5
 obtain ⟨q1,q2⟩:=DV rx e4
 subst q1 e3
 have ry':=ry.same sm
 obtain ⟨p,xs,ep,hq,rs⟩:∃ p xs,y=.ref p/\(SqL K H p xs\/SqT K H p xs)/\Rps K H xs ys:=by
  cases ry' with
  | tup h r=>simp [AK] at e1; subst e1; exact ⟨_,_,rfl,.inr h,r⟩
  | lst h r=>simp [AK] at e1; subst e1; exact ⟨_,_,rfl,.inl (.of h),r⟩
  | _=>simp [AK] at e1
 obtain ⟨q3,q4⟩:=Ah rs e6
 subst q3
 refine ⟨p,xs,ep,hq,q2,q4,?_⟩
 rw [e7]
 exact k _ Hs H (.refl sm) (.bl _)
theorem Io:OpR X (compareOp .In) (rdR X.K Gh):=wA.imp fun x y H Q h=>AL (neg:=false) h
theorem zy:OpR X (compareOp .NotIn) (rdR X.K mh):=p4.imp fun x y H Q h=>AL (neg:=true) h
end
section
variable {X:Cx} {a b c:Expr} {pos:Pos} {f g h:DE}
theorem zX {o o':D->D->Option D} {σ:St} {H:Hp} {Q:VK} (K:W.Frag) (hh:rdE K (gI (dOp o f g) (dOp o' g h)) σ H Q):vn (rdR K o) (rdR K o') (rdE K f) (rdE K g) (rdE K h) σ H Q:=by
 obtain ⟨H0,Hs,τ,fp,d,st,sm,e,k⟩:=hh
 obtain ⟨r,e0,e⟩:=bind_some e
 obtain ⟨x,e1,e0⟩:=bind_some e0
 obtain ⟨y,e2,e0⟩:=bind_some e0
 refine ⟨H0,Hs,τ,fp,x,st,sm,e1,fun v Hs1 H1 g1 r1=>?_⟩
 refine ⟨H0,Hs1,τ,fp,y,st.ext g1,g1.sh,e2,fun u Hs2 H2 g2 r2=>?_⟩
 refine ⟨Hs2,x,y,r,g2.sh,r1.same g2.ss,r2,e0,fun w Hs3 H3 g3 r3=>?_⟩
 cases r3 with
 | bl kb =>
  refine ⟨kb,rfl,?_⟩
  cases kb with
  | false =>
   rw [if_neg Zf]
   have e':D.bl false=d:=by simpa using e
   subst e'
   exact k _ Hs3 H3 ((g1.trans g2).trans g3) (.bl false)
  | true =>
   rw [if_pos rfl]
   obtain ⟨y',q1,q2⟩:=bind_some (show (g τ).bind _=some d from e)
   have ey:y'=y:=by rw [e2] at q1; exact (Zj q1).symm
   subst ey
   obtain ⟨z,q3,q4⟩:=bind_some q2
   refine ⟨H0,Hs3,τ,fp,z,st.ext ((g1.trans g2).trans g3),g3.sh,q3,fun u' Hs4 H4 g4 r4=>?_⟩
   exact ⟨Hs4,y',z,d,g4.sh,(r2.same g3.ss).same g4.ss,r4,q4,fun w' Hs5 H5 g5 r5=>k w' Hs5 H5 ((((g1.trans g2).trans g3).trans g4).trans g5) r5⟩
 | _=>exact nn e
theorem vN {op op':CmpOp} {o o':D->D->Option D} (ho:OpR X (compareOp op) (rdR X.K o)) (ho':OpR X (compareOp op') (rdR X.K o')) (ha:PEd X a f) (hb:PEd X b g) (hc:PEd X c h)
  (hm:lastMarks [op,op'] [b,c]=false:=by with_unfolding_all rfl):PTd X (.Compare a [op,op'] [b,c] pos) (dT (gI (dOp o f g) (dOp o' g h))) :=
 (yP ho ho' ha hb hc hm).imp fun σ H Q hh=>zX X.K (Q:=fun x H'=>∃ k,x=.bl k/\Q k H') (A2 X.K hh)
end
inductive Tg where
 | l | d | o (C:Addr)
inductive Mt where
 | s (d:D)
 | n (t:Tg) (cs:List (Key×Mt))
def strOf:Key->Str
 | .inr x=>x
 | .inl _=>""
mutual
def frz:Mt->D
 | .s d=>d
 | .n .l cs=>.lst (xy cs)
 | .n .d cs=>.dct (AM cs)
 | .n (.o C) cs=>.obj C (Fy cs)
def xy:List (Key×Mt)->List D
 | []=>[]
 | (_,m)::r=>frz m::xy r
def AM:List (Key×Mt)->List (Key×D)
 | []=>[]
 | (k,m)::r=>(k,frz m)::AM r
def Fy:List (Key×Mt)->List (Str×D)
 | []=>[]
 | (k,m)::r=>(strOf k,frz m)::Fy r
end
theorem tp:∀ cs:List (Key×Mt),xy cs=cs.map fun c=>frz c.2
 | []=>rfl
 | (_,m)::r=>by rw [xy,tp r]; rfl
theorem tw:∀ cs:List (Key×Mt),AM cs=cs.map fun c=>(c.1,frz c.2)
 | []=>rfl
 | (_,m)::r=>by rw [AM,tw r]; rfl
theorem tx:∀ cs:List (Key×Mt),Fy cs=cs.map fun c=>(strOf c.1,frz c.2)
 | []=>rfl
 | (_,m)::r=>by rw [Fy,tx r]; rfl
inductive Stp where
 | k (k:Key) | i (n:Nat)
def wg (t:Tg) (cs:List (Key×Mt)) (st:Stp):Option Nat:=match t,st with
 | .l,.i n=>if n < cs.length then some n else none
 | .d,.k k=>cs.findIdx? fun c=>decide (c.1=k)
 | .o _,.k k=>cs.findIdx? fun c=>decide (c.1=k)
 | _,_=>none
def Mt.get:Mt->List Stp->Option Mt
 | m,[]=>some m
 | .s _,_::_=>none
 | .n t cs,st::p=>match wg t cs st with
  | none=>none
  | some i=>match cs[i]? with
   | none=>none
   | some c=>Mt.get c.2 p
def Mt.put:Mt->List Stp->Mt->Mt
 | _,[],m2=>m2
 | .s d,_::_,_=>.s d
 | .n t cs,st::p,m2=>match wg t cs st with
  | none=>.n t cs
  | some i=>match cs[i]? with
   | none=>.n t cs
   | some c=>.n t (cs.set i (c.1,Mt.put c.2 p m2))
inductive Lay:Tg->Addr->List (Key×V)->HO->Prop where
 | l {dx:Addr} (kvs:List (Key×V)):Lay .l dx kvs (.lst (kvs.map (·.2)))
 | d {dx:Addr} (kvs:List (Key×V)):Lay .d dx kvs (.dK kvs)
 | o {C dx:Addr} (fs:List (Str×V)):Lay (.o C) dx (fs.map fun f=>(.inr f.1,f.2)) (.ins C dx fs)
structure Kd where
 k:Key
 v:V
 m:Mt
 fp:List Addr
abbrev Kd.kv (t:Kd):Key×V:=(t.k,t.v)
abbrev Kd.km (t:Kd):Key×Mt:=(t.k,t.m)
def KU:Tg->List Kd->Prop
 | .l,_=>True
 | _,ts=>(ts.map Kd.k).Nodup
inductive Od (K:W.Frag) (Hs H:Hp):List Addr->V->Mt->Prop where
 | s {v:V} {d:D} (r:Rp K Hs v d):Od K Hs H [] v (.s d)
 | n {a dx:Addr} {t:Tg} {ts:List Kd} {u:HO} (h:H a=some u) (hl:Lay t dx (ts.map Kd.kv) u) (nh:Hs a=none) (ku:KU t ts) (nd:(a::ts.flatMap Kd.fp).Nodup) (r:∀ c ∈ ts,Od K Hs H c.fp c.v c.m):Od K Hs H (a::ts.flatMap Kd.fp) (.ref a) (.n t (ts.map Kd.km))
section
variable {K:W.Frag} {Hs H Hs' H':Hp} {fp:List Addr} {v:V} {m:Mt}
theorem Od.inv {t:Tg} {cs:List (Key×Mt)} (h:Od K Hs H fp v (.n t cs)):∃ a dx ts u,v=.ref a/\fp=a::ts.flatMap Kd.fp/\cs=ts.map Kd.km/\H a=some u/\Lay t dx (ts.map Kd.kv) u/\Hs a=none/\KU t ts/\(a::ts.flatMap Kd.fp).Nodup/\∀ c ∈ ts,Od K Hs H c.fp c.v c.m:=by
 cases h with
 | n h hl nh ku nd r=>exact ⟨_,_,_,_,rfl,rfl,rfl,h,hl,nh,ku,nd,r⟩
theorem Od.live (h:Od K Hs H fp v m):∀ b ∈ fp,Hs b=none/\H b≠none:=by
 induction h with
 | s r=>intro b h; cases h
 | n h hl nh ku nd r ih =>
  intro b hb
  rcases List.mem_cons.mp hb with e | e
  · subst e; exact ⟨nh,ja h⟩
  ·obtain ⟨c,hc,hb⟩:=List.mem_flatMap.mp e
   exact ih c hc b hb
theorem Od.nd (h:Od K Hs H fp v m):fp.Nodup:=by
 cases h with
 | s r=>exact .nil
 | n h hl nh ku nd r=>exact nd
theorem Od.mv (h:Od K Hs H fp v m) (g:bY Hs Hs'):(∀ b ∈ fp,Hs' b=none/\H' b=H b)->Od K Hs' H' fp v m:=by
 induction h with
 | s r=>exact fun _=>.s (r.same g)
 | n h hl nh ku nd r ih =>
  intro q
  have qa:=q _ (List.mem_cons_self ..)
  exact .n (by rw [qa.2]; exact h) hl qa.1 ku nd fun c hc=>ih c hc fun b hb=>q b (List.mem_cons_of_mem _ (List.mem_flatMap.mpr ⟨c,hc,hb⟩))
theorem vB:∀ {ts:List Kd},(∀ c ∈ ts,Rp K H c.v (frz c.m))->Rps K H ((ts.map Kd.kv).map (·.2)) (xy (ts.map Kd.km))
 | [],_=>.nil
 | c::ts,h=>.cons (h c (List.mem_cons_self ..)) (vB fun c hc=>h c (List.mem_cons_of_mem _ hc))
theorem Al:∀ {ts:List Kd},(∀ c ∈ ts,Rp K H c.v (frz c.m))->RpK K H (ts.map Kd.kv) (AM (ts.map Kd.km))
 | [],_=>.nil
 | c::ts,h=>.cons (h c (List.mem_cons_self ..)) (Al fun c hc=>h c (List.mem_cons_of_mem _ hc))
theorem An:∀ {ts:List Kd} {fs:List (Str×V)},(ts.map Kd.kv=fs.map fun f=>(Sum.inr f.1,f.2))->(∀ c ∈ ts,Rp K H c.v (frz c.m))->RpF K H fs (Fy (ts.map Kd.km))
 | [],[],_,_=>.nil
 | [],_::_,e,_=>by cases e
 | _::_,[],e,_=>by cases e
 | c::ts,f::fs,e,h=>by
  obtain ⟨e1,e2⟩:=List.cons.inj e
  obtain ⟨e3,e4⟩:=Prod.mk.inj e1
  obtain ⟨x,y⟩:=f
  have hc:=h c (List.mem_cons_self ..)
  show RpF K H ((x,y)::fs) ((strOf c.k,frz c.m)::_)
  have e3':c.k=Sum.inr x:=e3
  have e4':c.v=y:=e4
  rw [e3',<- e4']
  exact .cons hc (An e2 fun c hc=>h c (List.mem_cons_of_mem _ hc))
theorem Od.rp (h:Od K Hs H fp v m) (sm:bY Hs H):Rp K H v (frz m):=by
 induction h with
 | s r=>exact r.same sm
 | @n a dx t ts u h hl nh ku nd r ih =>
  have ih':∀ c ∈ ts,Rp K H c.v (frz c.m):=fun c hc=>ih c hc
  generalize ek:ts.map Kd.kv=kvs at hl
  cases hl with
  | l=>exact .lst h (by rw [<- ek]; exact vB ih')
  | d=>exact .dct h (by rw [<- ek]; exact Al ih')
  | o fs=>exact .obj h (An ek ih')
end
def vAt (H:Hp):V->List Stp->Option V
 | v,[]=>some v
 | .ref a,.k k::p=>match H a with
  | some (.ins _ _ fs)=>(dD (fs.map fun f=>((Sum.inr f.1:Key),f.2)) k).bind fun v=>vAt H v p
  | some (.dK kvs)=>(dD kvs k).bind fun v=>vAt H v p
  | _=>none
 | .ref a,.i n::p=>match H a with
  | some (.lst xs)=>(xs[n]?).bind fun v=>vAt H v p
  | _=>none
 | _,_=>none
theorem nR {α:Type} {k:Key}:∀ {cs:List (Key×α)} {i:Nat},(cs.findIdx? fun c=>decide (c.1=k))=some i->∃ l1 x l2,cs=l1++(k,x)::l2/\l1.length=i/\∀ c ∈ l1,c.1≠k
 | [],_,e=>by simp at e
 | (k',x)::cs,i,e=>by
  rw [List.findIdx?_cons] at e
  by_cases h:k'=k
  ·simp only [h,decide_true] at e
   have e':0=i:=by simpa using e
   subst h e'
   exact ⟨[],x,cs,rfl,rfl,fun c hc=>by cases hc⟩
  ·simp only [h,decide_false] at e
   obtain ⟨j,e1,rfl⟩:=Zm (by simpa using e)
   obtain ⟨l1,y,l2,e2,e3,e4⟩:=nR e1
   exact ⟨(k',x)::l1,y,l2,by rw [e2]; rfl,by rw [List.length_cons,e3],fun c hc=>by
    rcases List.mem_cons.mp hc with rfl | hc
    · exact h
    · exact e4 c hc⟩
theorem kh {k:Key} {x:V}:∀ {l1 l2:List (Key×V)},(∀ c ∈ l1,c.1≠k)->dD (l1++(k,x)::l2) k=some x
 | [],_,_=>cL rfl
 | c::l1,l2,h=>by
  rw [List.cons_append,cM (h c (List.mem_cons_self ..))]
  exact kh fun c hc=>h c (List.mem_cons_of_mem _ hc)
theorem wO {ts:List Kd}:∀ {l1 l2:List (Key×Mt)} {c:Key×Mt},ts.map Kd.km=l1++c::l2->∃ t1 t t2,ts=t1++t::t2/\t1.map Kd.km=l1/\t.km=c/\t2.map Kd.km=l2:=by
 intro l1 l2 c e
 obtain ⟨t1,r,rfl,e1,e2⟩:=List.map_eq_append_iff.mp e
 obtain ⟨t,t2,rfl,e3,e4⟩:=List.map_eq_cons_iff.mp e2
 exact ⟨t1,t,t2,rfl,e1,e3,e4⟩
theorem tP {t:Tg} {dx a:Addr} {ts:List Kd} {u:HO} {st:Stp} {i:Nat} {c:Key×Mt} {H:Hp} (h:H a=some u) (hl:Lay t dx (ts.map Kd.kv) u) (e1:wg t (ts.map Kd.km) st=some i) (e2:(ts.map Kd.km)[i]?=some c) :
  ∃ t1 k t2,ts=t1++k::t2/\t1.length=i/\k.km=c/\∀ p,vAt H (.ref a) (st::p)=vAt H k.v p:=by
 have key:∀ {kk:Key},((ts.map Kd.km).findIdx? fun c=>decide (c.1=kk))=some i->∃ t1 k t2,ts=t1++k::t2/\t1.length=i/\k.km=c/\dD (ts.map Kd.kv) kk=some k.v:=fun {kk} e=>by
  obtain ⟨l1,x,l2,h1,h2,h3⟩:=nR e
  obtain ⟨t1,k,t2,rfl,q1,q2,q3⟩:=wO h1
  refine ⟨t1,k,t2,rfl,by rw [<- h2,<- q1,List.length_map],?_,?_⟩
  ·rw [h1,<- h2,List.getElem?_append_right (Nat.le_refl _),Nat.sub_self] at e2
   rw [q2]
   exact Zj e2
  ·rw [List.map_append,List.map_cons]
   have hk:k.k=kk:=(Prod.mk.inj q2).1
   rw [show k.kv=(kk,k.v) by rw [<- hk]]
   exact kh fun c hc=>by
    obtain ⟨y,hy,rfl⟩:=List.mem_map.mp hc
    exact h3 y.km (by rw [<- q1]; exact List.mem_map_of_mem hy)
 generalize ek:ts.map Kd.kv=kvs at hl
 cases hl with
 | l kvs' =>
  cases st with
  | k k=>cases e1
  | i n =>
   have lt:n < (ts.map Kd.km).length/\n=i:=by
    have e1':(if n < (ts.map Kd.km).length then some n else none)=some i:=e1
    split at e1'
    · rename_i h; exact ⟨h,Zj e1'⟩
    · cases e1'
   obtain ⟨lt,rfl⟩:=lt
   rw [List.length_map] at lt
   have ets:ts=ts.take n++ts[n]::ts.drop (n+1):=by rw [List.getElem_cons_drop,List.take_append_drop]
   refine ⟨ts.take n,ts[n],ts.drop (n+1),ets,by rw [List.length_take]; omega,?_,fun p=>?_⟩
   ·rw [List.getElem?_map,List.getElem?_eq_getElem lt] at e2
    exact Zj e2
   ·show (match H a with | some (.lst xs)=>(xs[n]?).bind fun v=>vAt H v p | _=>none)=_
    rw [h]
    show (((kvs.map (·.2))[n]?).bind fun v=>vAt H v p)=_
    rw [<- ek,List.getElem?_map,List.getElem?_map,List.getElem?_eq_getElem lt]
    rfl
 | d kvs' =>
  cases st with
  | i n=>cases e1
  | k kk =>
   obtain ⟨t1,k,t2,q1,q2,q3,q4⟩:=key e1
   refine ⟨t1,k,t2,q1,q2,q3,fun p=>?_⟩
   show (match H a with | some (.ins _ _ fs)=>(dD (fs.map fun (f:Str×V)=>((Sum.inr f.1:Key),f.2)) kk).bind fun v=>vAt H v p | some (.dK kvs)=>(dD kvs kk).bind fun v=>vAt H v p | _=>none)=_
   rw [h]
   show ((dD kvs kk).bind fun v=>vAt H v p)=_
   rw [<- ek,q4]
   rfl
 | o fs =>
  cases st with
  | i n=>cases e1
  | k kk =>
   obtain ⟨t1,k,t2,q1,q2,q3,q4⟩:=key e1
   refine ⟨t1,k,t2,q1,q2,q3,fun p=>?_⟩
   show (match H a with | some (.ins _ _ fs)=>(dD (fs.map fun (f:Str×V)=>((Sum.inr f.1:Key),f.2)) kk).bind fun v=>vAt H v p | some (.dK kvs)=>(dD kvs kk).bind fun v=>vAt H v p | _=>none)=_
   rw [h]
   show ((dD (fs.map fun f=>((Sum.inr f.1:Key),f.2)) kk).bind fun v=>vAt H v p)=_
   rw [<- ek,q4]
   rfl
theorem wI {α:Type} {a:α} {x y z:List α} (h:(a::(x++(y++z))).Nodup):a ∉ x/\a ∉ y/\a ∉ z/\(∀ b ∈ y,b ∉ x/\b ∉ z)/\x.Nodup/\z.Nodup/\(∀ b ∈ x,b ∉ z):=by
 rw [List.nodup_cons,List.nodup_append,List.nodup_append] at h
 simp only [List.mem_append,not_or] at h
 obtain ⟨⟨h1,h2,h3⟩,hx,⟨hy,hz,hyz⟩,hxyz⟩:=h
 refine ⟨h1,h2,h3,fun b hb=>⟨fun hx'=>hxyz b hx' b (.inl hb) rfl,fun hz'=>hyz b hb b hz' rfl⟩,hx,hz,fun b hb hz'=>hxyz b hb b (.inr hz') rfl⟩
theorem nO {α:Type} {a:α} {x y z:List α} (h1:a ∉ x) (h2:a ∉ y) (h3:a ∉ z) (hy:y.Nodup) (hd:∀ b ∈ y,b ∉ x/\b ∉ z) (hx:x.Nodup) (hz:z.Nodup) (hxz:∀ b ∈ x,b ∉ z):(a::(x++(y++z))).Nodup:=by
 rw [List.nodup_cons,List.nodup_append,List.nodup_append]
 simp only [List.mem_append,not_or]
 exact ⟨⟨h1,h2,h3⟩,hx,⟨hy,hz,fun b hb c hc e=>(hd b hb).2 (e ▸ hc)⟩,fun b hb c hc e=>hc.elim (fun q=>(hd c q).1 (e ▸ hb)) fun q=>hxz b hb (e ▸ q)⟩
theorem KU.swap {t:Tg} {t1 t2:List Kd} {k k':Kd} (h:KU t (t1++k::t2)) (e:k'.k=k.k):KU t (t1++k'::t2):=by
 cases t with
 | l=>exact h
 | d =>
  show ((t1++k'::t2).map Kd.k).Nodup
  rw [List.map_append,List.map_cons,e,<- List.map_cons,<- List.map_append]
  exact h
 | o C =>
  show ((t1++k'::t2).map Kd.k).Nodup
  rw [List.map_append,List.map_cons,e,<- List.map_cons,<- List.map_append]
  exact h
section
variable {K:W.Frag} {Hs H:Hp}
theorem Od.uV:∀ (p:List Stp) {fp:List Addr} {v:V} {m m1:Mt},Od K Hs H fp v m->m.get p=some m1->∃ fp1 v1,vAt H v p=some v1/\Od K Hs H fp1 v1 m1/\(∀ b ∈ fp1,b ∈ fp) /\
  ∀ Hs' H' fp2 m2,bY Hs Hs'->(∀ b ∈ fp,b ∉ fp1->Hs' b=none/\H' b=H b)->Od K Hs' H' fp2 v1 m2->(∀ b ∈ fp2,b ∈ fp1\/b ∉ fp)->∃ fp',Od K Hs' H' fp' v (m.put p m2)/\∀ b,b ∈ fp'↔(b ∈ fp/\b ∉ fp1)\/b ∈ fp2
 | [],fp,v,m,m1,h,e=>by
  have e':m=m1:=by
   cases m <;> exact Zj e
  subst e'
  have ep:∀ m2,m.put [] m2=m2:=fun m2=>by cases m <;> rfl
  exact ⟨fp,v,by cases v <;> rfl,h,fun _ q=>q,fun Hs' H' fp2 m2 g k h2 j=>⟨fp2,by rw [ep]; exact h2,fun b=>⟨.inr,fun q=>q.elim (fun z=>absurd z.1 z.2) id⟩⟩⟩
 | st::p,fp,v,.s d,m1,h,e=>by cases e
 | st :: p,fp,v,.n t cs,m1,h,e=>by
  obtain ⟨a,dx,ts,u,rfl,rfl,rfl,ha,hl,nh,ku,nd,r⟩:=h.inv
  have e':(match wg t (ts.map Kd.km) st with | none=>none | some i=>match (ts.map Kd.km)[i]? with | none=>none | some c=>Mt.get c.2 p)=some m1:=e
  cases e1:wg t (ts.map Kd.km) st with
  | none=>rw [e1] at e'; cases e'
  | some i =>
   rw [e1] at e'
   cases e2:(ts.map Kd.km)[i]? with
   | none=>simp only [e2] at e'; cases e'
   | some c =>
    simp only [e2] at e'
    obtain ⟨t1,k,t2,rfl,q2,q3,q4⟩:=tP ha hl e1 e2
    subst q3
    obtain ⟨fp1,v1,w1,w2,w3,w4⟩:=Od.uV p (r k (List.mem_append_right _ (List.mem_cons_self ..))) e'
    rw [List.flatMap_append,List.flatMap_cons] at nd
    obtain ⟨n1,n2,n3,n4,n5,n6,n7⟩:=wI nd
    have mem:∀ b,b ∈ a::(t1++k::t2).flatMap Kd.fp↔b=a\/b ∈ t1.flatMap Kd.fp\/b ∈ k.fp\/b ∈ t2.flatMap Kd.fp:=fun b=>by
     rw [List.flatMap_append,List.flatMap_cons,List.mem_cons,List.mem_append,List.mem_append]
    refine ⟨fp1,v1,by rw [q4]; exact w1,w2,fun b hb=>(mem b).mpr (.inr (.inr (.inl (w3 b hb)))),fun Hs' H' fp2 m2 g kk h2 j=>?_⟩
    have j2:∀ b ∈ fp2,b ∈ fp1\/b ∉ k.fp:=fun b hb=>(j b hb).imp id fun z q=>z ((mem b).mpr (.inr (.inr (.inl q))))
    obtain ⟨fp',o',i'⟩:=w4 Hs' H' fp2 m2 g (fun b hb hn=>kk b ((mem b).mpr (.inr (.inr (.inl hb)))) hn) h2 j2
    have a1:a ∉ fp1:=fun z=>n2 (w3 _ z)
    have off:∀ b,b ∈ fp'->b≠a/\b ∉ t1.flatMap Kd.fp/\b ∉ t2.flatMap Kd.fp:=fun b hb=>by
     rcases (i' b).mp hb with ⟨z1,_⟩ | z
     · exact ⟨fun e=>n2 (e ▸ z1),(n4 b z1).1,(n4 b z1).2⟩
     ·rcases j b z with z1 | z1
      ·have z2:=w3 b z1
       exact ⟨fun e=>n2 (e ▸ z2),(n4 b z2).1,(n4 b z2).2⟩
      · exact ⟨fun e=>z1 ((mem b).mpr (.inl e)),fun q=>z1 ((mem b).mpr (.inr (.inl q))),fun q=>z1 ((mem b).mpr (.inr (.inr (.inr q))))⟩
    let k':Kd:=⟨k.k,k.v,k.m.put p m2,fp'⟩
    have eput:(Mt.n t ((t1++k::t2).map Kd.km)).put (st::p) m2=.n t ((t1++k'::t2).map Kd.km):=by
     show (match wg t ((t1++k::t2).map Kd.km) st with | none=>Mt.n t ((t1++k::t2).map Kd.km) | some i=>match ((t1++k::t2).map Kd.km)[i]? with | none=>Mt.n t ((t1++k::t2).map Kd.km) | some c=>.n t (((t1++k::t2).map Kd.km).set i (c.1,Mt.put c.2 p m2)))=_
     simp only [e1,e2]
     rw [List.map_append,List.map_cons,<- q2,<- List.length_map (f:=Kd.km),List.set_append_right _ _ (Nat.le_refl _),Nat.sub_self,List.map_append,List.map_cons]
     rfl
    have hkv:(t1++k'::t2).map Kd.kv=(t1++k::t2).map Kd.kv:=by rw [List.map_append,List.map_cons,List.map_append,List.map_cons]
    have qa:=kk a ((mem a).mpr (.inl rfl)) a1
    refine ⟨a::(t1++k'::t2).flatMap Kd.fp,?_,fun b=>?_⟩
    ·rw [eput]
     refine .n (dx:=dx) (by rw [qa.2]; exact ha) (by rw [hkv]; exact hl) qa.1 (ku.swap rfl) ?_ fun c hc=>?_
     ·rw [List.flatMap_append,List.flatMap_cons]
      exact nO n1 (fun z=>(off _ z).1 rfl) n3 o'.nd (fun b hb=>(off b hb).2) n5 n6 n7
     ·rcases List.mem_append.mp hc with hc | hc
      · exact (r c (List.mem_append_left _ hc)).mv g fun b hb=>kk b ((mem b).mpr (.inr (.inl (List.mem_flatMap.mpr ⟨c,hc,hb⟩)))) fun z=>(n4 b (w3 b z)).1 (List.mem_flatMap.mpr ⟨c,hc,hb⟩)
      ·rcases List.mem_cons.mp hc with rfl | hc
       · exact o'
       · exact (r c (List.mem_append_right _ (List.mem_cons_of_mem _ hc))).mv g fun b hb=>kk b ((mem b).mpr (.inr (.inr (.inr (List.mem_flatMap.mpr ⟨c,hc,hb⟩))))) fun z=>(n4 b (w3 b z)).2 (List.mem_flatMap.mpr ⟨c,hc,hb⟩)
    ·rw [List.flatMap_append,List.flatMap_cons,List.mem_cons,List.mem_append,List.mem_append,mem b,i' b]
     constructor
     ·rintro (rfl | z | (⟨z1,z2⟩ | z) | z)
      · exact .inl ⟨.inl rfl,a1⟩
      · exact .inl ⟨.inr (.inl z),fun q=>(n4 b (w3 b q)).1 z⟩
      · exact .inl ⟨.inr (.inr (.inl z1)),z2⟩
      · exact .inr z
      · exact .inl ⟨.inr (.inr (.inr z)),fun q=>(n4 b (w3 b q)).2 z⟩
     ·rintro (⟨rfl | z | z | z,z2⟩ | z)
      · exact .inl rfl
      · exact .inr (.inl z)
      · exact .inr (.inr (.inl (.inl ⟨z,z2⟩)))
      · exact .inr (.inr (.inr z))
      · exact .inr (.inr (.inl (.inr z)))
end
inductive Sm where
 | no | shr (d:D) | mu (b:Bool) (m:Mt)
def DQ:Sm->Sl
 | .no=>.no
 | .shr d=>.shr d
 | .mu _ m=>.shr (frz m)
def er1:Sm->Sl
 | .shr d=>.shr d
 | _=>.no
abbrev bB (τ:List Sm):List Sl:=τ.map DQ
abbrev er (τ:List Sm):List Sl:=τ.map er1
inductive StM (K:W.Frag) (H0 Hs H:Hp):List (Option Addr)->List (Option V)->List Sm->List Addr->Prop where
 | nil:StM K H0 Hs H [] [] [] []
 | no {p:Option Addr} {o:Option V} {ρ:List (Option Addr)} {σ:List (Option V)} {τ:List Sm} {fp:List Addr} (r:StM K H0 Hs H ρ σ τ fp):StM K H0 Hs H (p::ρ) (o::σ) (.no::τ) fp
 | shr {p:Option Addr} {v:V} {d:D} {ρ:List (Option Addr)} {σ:List (Option V)} {τ:List Sm} {fp:List Addr} (h:Rp K Hs v d) (r:StM K H0 Hs H ρ σ τ fp):StM K H0 Hs H (p::ρ) (some v::σ) (.shr d::τ) fp
 | mu {p:Option Addr} {v:V} {b:Bool} {m:Mt} {ρ:List (Option Addr)} {σ:List (Option V)} {τ:List Sm} {fq fp:List Addr} (h:Od K Hs H fq v m) (hp:b=true->∃ a,p=some a/\v=.ref a) (z:∀ c ∈ fq,H0 c=none) (j:∀ c ∈ fq,c ∉ fp) (r:StM K H0 Hs H ρ σ τ fp):StM K H0 Hs H (p::ρ) (some v::σ) (.mu b m::τ) (fq++fp)
section
variable {K:W.Frag} {H0 Hs H Hs' H':Hp} {ρ:List (Option Addr)} {σ:List (Option V)} {τ:List Sm} {fp:List Addr}
theorem StM.mv (h:StM K H0 Hs H ρ σ τ fp) (g:bY Hs Hs'):(∀ b ∈ fp,Hs' b=none/\H' b=H b)->StM K H0 Hs' H' ρ σ τ fp:=by
 induction h with
 | nil=>exact fun _=>.nil
 | no _ ih=>exact fun q=>.no (ih q)
 | shr h _ ih=>exact fun q=>.shr (h.same g) (ih q)
 | mu h hp z j _ ih=>exact fun q=>.mu (h.mv g fun b hb=>q b (List.mem_append_left _ hb)) hp z j (ih fun b hb=>q b (List.mem_append_right _ hb))
theorem StM.live (h:StM K H0 Hs H ρ σ τ fp):∀ b ∈ fp,Hs b=none/\H b≠none/\H0 b=none:=by
 induction h with
 | nil=>intro b h; cases h
 | no _ ih=>exact ih
 | shr _ _ ih=>exact ih
 | mu h hp z j _ ih =>
  intro b hb
  rcases List.mem_append.mp hb with q | q
  · exact ⟨(h.live b q).1,(h.live b q).2,z b q⟩
  · exact ih b q
theorem StM.ext (g:Ext Hs H Hs' H') (h:StM K H0 Hs H ρ σ τ fp):StM K H0 Hs' H' ρ σ τ fp:=h.mv g.ss fun b hb=>by
 obtain ⟨h1,h2,_⟩:=h.live b hb
 refine ⟨g.fr b h1 h2,?_⟩
 cases q:H b with
 | none=>exact absurd q h2
 | some u=>exact g.hh _ _ q
theorem StM.len (h:StM K H0 Hs H ρ σ τ fp):σ.length=τ.length:=by
 induction h with
 | nil=>rfl
 | no _ ih=>exact congrArg (·+1) ih
 | shr _ _ ih=>exact congrArg (·+1) ih
 | mu _ _ _ _ _ ih=>exact congrArg (·+1) ih
theorem StM.bB (h:StM K H0 Hs H ρ σ τ fp) (sm:bY Hs H):StR K H H H σ (bB τ) []:=by
 induction h with
 | nil=>exact .nil
 | no _ ih=>exact .no ih
 | shr h _ ih=>exact .shr (h.same sm) ih
 | mu h _ _ _ _ ih=>exact .shr (h.rp sm) ih
theorem StM.er (h:StM K H0 Hs H ρ σ τ fp):StR K H0 Hs H σ (er τ) []:=by
 induction h with
 | nil=>exact .nil
 | no _ ih=>exact .no ih
 | shr h _ ih=>exact .shr h ih
 | mu h _ _ _ _ ih=>exact .no ih
theorem StM.uV {i:Nat} {b:Bool} {m m1:Mt} {q:List Stp} (h:StM K H0 Hs H ρ σ τ fp):τ[i]?=some (.mu b m)->m.get q=some m1->∃ v fp1 v1,σ[i]?=some (some v)/\vAt H v q=some v1/\Od K Hs H fp1 v1 m1/\(∀ c ∈ fp1,c ∈ fp) /\
  ∀ Hs' H' fp2 m2,bY Hs Hs'->(∀ c ∈ fp,c ∉ fp1->Hs' c=none/\H' c=H c)->Od K Hs' H' fp2 v1 m2->(∀ c ∈ fp2,c ∈ fp1\/(c ∉ fp/\H0 c=none))->∃ fp',StM K H0 Hs' H' ρ σ (τ.set i (.mu b (m.put q m2))) fp'/\∀ c,c ∈ fp'↔(c ∈ fp/\c ∉ fp1)\/c ∈ fp2:=by
 induction h generalizing i with
 | nil=>intro e; simp at e
 | no r ih =>
  intro e eg
  cases i with
  | zero=>simp at e
  | succ i =>
   obtain ⟨v,fp1,v1,h1,h2,h3,h4,h5⟩:=ih (i:=i) (by simpa using e) eg
   exact ⟨v,fp1,v1,by simpa using h1,h2,h3,h4,fun Hs' H' fp2 m2 g k o j=>by
    obtain ⟨fp',s,mem⟩:=h5 Hs' H' fp2 m2 g k o j
    exact ⟨fp',.no s,mem⟩⟩
 | shr hr r ih =>
  intro e eg
  cases i with
  | zero=>simp at e
  | succ i =>
   obtain ⟨v,fp1,v1,h1,h2,h3,h4,h5⟩:=ih (i:=i) (by simpa using e) eg
   exact ⟨v,fp1,v1,by simpa using h1,h2,h3,h4,fun Hs' H' fp2 m2 g k o j=>by
    obtain ⟨fp',s,mem⟩:=h5 Hs' H' fp2 m2 g k o j
    exact ⟨fp',.shr (hr.same g) s,mem⟩⟩
 | @mu p v b' m' ρ σ τ fq fp ho hp z j r ih =>
  intro e eg
  cases i with
  | zero =>
   have e':Sm.mu b' m'=.mu b m:=by simpa using e
   injection e' with e1 e2
   subst e1 e2
   obtain ⟨fp1,v1,w1,w2,w3,w4⟩:=ho.uV q eg
   refine ⟨v,fp1,v1,rfl,w1,w2,fun c hc=>List.mem_append_left _ (w3 c hc),fun Hs' H' fp2 m2 g k o jj=>?_⟩
   obtain ⟨fp',o',i'⟩:=w4 Hs' H' fp2 m2 g (fun c hc hn=>k c (List.mem_append_left _ hc) hn) o fun c hc=>(jj c hc).imp id fun y q=>y.1 (List.mem_append_left _ q)
   refine ⟨fp'++fp,.mu o' hp (fun c hc=>?_) (fun c hc=>?_) (r.mv g fun c hc=>k c (List.mem_append_right _ hc) fun y=>j c (w3 c y) hc),fun c=>?_⟩
   ·rcases (i' c).mp hc with y | y
    · exact z c y.1
    ·rcases jj c y with y | y
     · exact z c (w3 c y)
     · exact y.2
   ·rcases (i' c).mp hc with y | y
    · exact j c y.1
    ·rcases jj c y with y | y
     · exact j c (w3 c y)
     · exact fun q=>y.1 (List.mem_append_right _ q)
   ·rw [List.mem_append,List.mem_append,i' c]
    constructor
    ·rintro ((y | y) | y)
     · exact .inl ⟨.inl y.1,y.2⟩
     · exact .inr y
     · exact .inl ⟨.inr y,fun q=>j c (w3 c q) y⟩
    ·rintro (⟨y | y,y2⟩ | y)
     · exact .inl (.inl ⟨y,y2⟩)
     · exact .inr y
     · exact .inl (.inr y)
  | succ i =>
   obtain ⟨v',fp1,v1,h1,h2,h3,h4,h5⟩:=ih (i:=i) (by simpa using e) eg
   refine ⟨v',fp1,v1,by simpa using h1,h2,h3,fun c hc=>List.mem_append_right _ (h4 c hc),fun Hs' H' fp2 m2 g k o jj=>?_⟩
   obtain ⟨fp',s,mem⟩:=h5 Hs' H' fp2 m2 g (fun c hc hn=>k c (List.mem_append_right _ hc) hn) o fun c hc=>(jj c hc).imp id fun y=>⟨fun q=>y.1 (List.mem_append_right _ q),y.2⟩
   have nf:∀ c ∈ fq,c ∉ fp1:=fun c hc q=>j c hc (h4 c q)
   refine ⟨fq++fp',.mu (ho.mv g fun c hc=>k c (List.mem_append_left _ hc) (nf c hc)) hp z (fun c hc q=>?_) s,fun c=>?_⟩
   ·rcases (mem c).mp q with y | y
    · exact j c hc y.1
    ·rcases jj c y with y | y
     · exact nf c hc y
     · exact y.1 (List.mem_append_left _ hc)
   ·rw [List.mem_append,List.mem_append,mem c]
    constructor
    ·rintro (y | y | y)
     · exact .inl ⟨.inl y,nf c y⟩
     · exact .inl ⟨.inr y.1,y.2⟩
     · exact .inr y
    ·rintro (⟨y | y,y2⟩ | y)
     · exact .inl y
     · exact .inr (.inl ⟨y,y2⟩)
     · exact .inr (.inr y)
theorem StM.Ki (i:Nat) (h:StM K H0 Hs H ρ σ τ fp):∃ fp',StM K H0 Hs H ρ σ (τ.set i .no) fp'/\∀ c ∈ fp',c ∈ fp:=by
 induction h generalizing i with
 | nil=>exact ⟨[],.nil,fun _ h=>h⟩
 | no r ih =>
  cases i with
  | zero=>exact ⟨_,.no r,fun _ h=>h⟩
  | succ i=>obtain ⟨fp',h1,h2⟩:=ih i; exact ⟨fp',.no h1,h2⟩
 | shr h r ih =>
  cases i with
  | zero=>exact ⟨_,.no r,fun _ h=>h⟩
  | succ i=>obtain ⟨fp',h1,h2⟩:=ih i; exact ⟨fp',.shr h h1,h2⟩
 | mu h hp z j r ih =>
  cases i with
  | zero=>exact ⟨_,.no r,fun _ h=>List.mem_append_right _ h⟩
  | succ i =>
   obtain ⟨fp',h1,h2⟩:=ih i
   exact ⟨_,.mu h hp z (fun c hc q=>j c hc (h2 c q)) h1,fun c hc=>(List.mem_append.mp hc).elim (List.mem_append_left _) fun q=>List.mem_append_right _ (h2 c q)⟩
theorem StM.out {i:Nat} {b:Bool} {m:Mt} (h:StM K H0 Hs H ρ σ τ fp):τ[i]?=some (.mu b m)->∃ v fq fp',σ[i]?=some (some v)/\Od K Hs H fq v m/\StM K H0 Hs H ρ σ (τ.set i .no) fp'/\(∀ c ∈ fq,c ∉ fp'/\c ∈ fp)/\(∀ c,c ∈ fp↔c ∈ fq\/c ∈ fp'):=by
 induction h generalizing i with
 | nil=>intro e; simp at e
 | no r ih =>
  intro e
  cases i with
  | zero=>simp at e
  | succ i =>
   obtain ⟨v,fq,fp',h1,h2,h3,h4,h5⟩:=ih (i:=i) (by simpa using e)
   exact ⟨v,fq,fp',by simpa using h1,h2,.no h3,h4,h5⟩
 | shr hr r ih =>
  intro e
  cases i with
  | zero=>simp at e
  | succ i =>
   obtain ⟨v,fq,fp',h1,h2,h3,h4,h5⟩:=ih (i:=i) (by simpa using e)
   exact ⟨v,fq,fp',by simpa using h1,h2,.shr hr h3,h4,h5⟩
 | @mu p v b' m' ρ σ τ fq fp ho hp z j r ih =>
  intro e
  cases i with
  | zero =>
   have e':Sm.mu b' m'=.mu b m:=by simpa using e
   injection e' with e1 e2
   subst e1 e2
   exact ⟨v,fq,fp,rfl,ho,.no r,fun c hc=>⟨j c hc,List.mem_append_left _ hc⟩,fun c=>List.mem_append⟩
  | succ i =>
   obtain ⟨v',fq',fp',h1,h2,h3,h4,h5⟩:=ih (i:=i) (by simpa using e)
   refine ⟨v',fq',fq++fp',by simpa using h1,h2,.mu ho hp z (fun c hc q=>j c hc ((h5 c).mpr (.inr q))) h3,fun c hc=>⟨fun q=>?_,List.mem_append_right _ (h4 c hc).2⟩,fun c=>?_⟩
   ·rcases List.mem_append.mp q with q | q
    · exact j c q (h4 c hc).2
    · exact (h4 c hc).1 q
   ·rw [List.mem_append,List.mem_append,h5 c]
    constructor
    ·rintro (y | y | y)
     · exact .inr (.inl y)
     · exact .inl y
     · exact .inr (.inr y)
    ·rintro (y | y | y)
     · exact .inr (.inl y)
     · exact .inl y
     · exact .inr (.inr y)
theorem StM.uW {i:Nat} {v:V} {d:D} (h:StM K H0 Hs H ρ σ τ fp) (hv:Rp K Hs v d):∃ fp',StM K H0 Hs H ρ (σ.set i (some v)) (τ.set i (.shr d)) fp'/\∀ c ∈ fp',c ∈ fp:=by
 induction h generalizing i with
 | nil=>exact ⟨[],.nil,fun _ h=>h⟩
 | no r ih =>
  cases i with
  | zero=>exact ⟨_,.shr hv r,fun _ h=>h⟩
  | succ i=>obtain ⟨fp',h1,h2⟩:=ih (i:=i); exact ⟨fp',.no h1,h2⟩
 | shr h r ih =>
  cases i with
  | zero=>exact ⟨_,.shr hv r,fun _ h=>h⟩
  | succ i=>obtain ⟨fp',h1,h2⟩:=ih (i:=i); exact ⟨fp',.shr h h1,h2⟩
 | mu h hp z j r ih =>
  cases i with
  | zero=>exact ⟨_,.shr hv r,fun _ h=>List.mem_append_right _ h⟩
  | succ i =>
   obtain ⟨fp',h1,h2⟩:=ih (i:=i)
   exact ⟨_,.mu h hp z (fun c hc q=>j c hc (h2 c q)) h1,fun c hc=>(List.mem_append.mp hc).elim (List.mem_append_left _) fun q=>List.mem_append_right _ (h2 c q)⟩
theorem StM.setM {i:Nat} {v:V} {m:Mt} {fq:List Addr} (h:StM K H0 Hs H ρ σ τ fp) (hv:Od K Hs H fq v m) (z:∀ c ∈ fq,H0 c=none/\c ∉ fp) (hi:i < τ.length):∃ fp',StM K H0 Hs H ρ (σ.set i (some v)) (τ.set i (.mu false m)) fp'/\∀ c ∈ fp',c ∈ fq\/c ∈ fp:=by
 induction h generalizing i with
 | nil=>exact absurd hi (by simp)
 | no r ih =>
  cases i with
  | zero=>exact ⟨_,.mu hv (fun e=>by cases e) (fun c hc=>(z c hc).1) (fun c hc=>(z c hc).2) r,fun c h=>List.mem_append.mp h⟩
  | succ i=>obtain ⟨fp',h1,h2⟩:=ih (i:=i) z (by simpa using hi); exact ⟨fp',.no h1,h2⟩
 | shr h r ih =>
  cases i with
  | zero=>exact ⟨_,.mu hv (fun e=>by cases e) (fun c hc=>(z c hc).1) (fun c hc=>(z c hc).2) r,fun c h=>List.mem_append.mp h⟩
  | succ i=>obtain ⟨fp',h1,h2⟩:=ih (i:=i) z (by simpa using hi); exact ⟨fp',.shr h h1,h2⟩
 | @mu p v' b' m' ρ σ τ fq' fp h hp z' j r ih =>
  have zr:∀ c ∈ fq,H0 c=none/\c ∉ fp:=fun c hc=>⟨(z c hc).1,fun q=>(z c hc).2 (List.mem_append_right _ q)⟩
  cases i with
  | zero=>exact ⟨_,.mu hv (fun e=>by cases e) (fun c hc=>(z c hc).1) (fun c hc=>(zr c hc).2) r,fun c h=>(List.mem_append.mp h).imp id fun q=>List.mem_append_right _ q⟩
  | succ i =>
   obtain ⟨fp',h1,h2⟩:=ih (i:=i) zr (by simpa using hi)
   refine ⟨_,.mu h hp z' (fun c hc q=>?_) h1,fun c hc=>?_⟩
   ·rcases h2 c q with y | y
    · exact (z c y).2 (List.mem_append_left _ hc)
    · exact j c hc y
   ·rcases List.mem_append.mp hc with y | y
    · exact .inr (List.mem_append_left _ y)
    · exact (h2 c y).imp id fun q=>List.mem_append_right _ q
end
structure bF (K:W.Frag) (Hs0 H0:Hp) (ρ:List (Option Addr)) (Hs H:Hp) (σ:St) (τ:List Sm):Prop where
 ext:Ext Hs0 H0 Hs H
 st:∃ fp,StM K H0 Hs H ρ σ τ fp
section
variable {K:W.Frag} {Hs0 H0 Hs H Hs' H':Hp} {ρ:List (Option Addr)} {σ:St} {τ:List Sm}
theorem bF.ext' (r:bF K Hs0 H0 ρ Hs H σ τ) (g:Ext Hs H Hs' H'):bF K Hs0 H0 ρ Hs' H' σ τ:=by
 obtain ⟨fp,h⟩:=r.st
 refine ⟨⟨r.ext.ss.trans g.ss,g.sh,r.ext.hh.trans g.hh,fun b h1 h2=>g.fr b (r.ext.fr b h1 h2) (r.ext.hh.live h2)⟩,fp,h.ext g⟩
theorem bF.grow (r:bF K Hs0 H0 ρ Hs H σ τ) (g:bY H H'):bF K Hs0 H0 ρ Hs H' σ τ:=r.ext' ⟨.refl _,r.ext.sh.trans g,g,fun _ h _=>h⟩
theorem bF.sm (r:bF K Hs0 H0 ρ Hs H σ τ):bY Hs H:=r.ext.sh
end
def Nf (N H0:Hp):Prop:=∀ d o u,N d=some (.frz o u)->H0 d≠none
theorem Nf.upd {N H0:Hp} {p:Addr} {u:HO} (h:Nf N H0):Nf N (upd H0 p u):=fun d o w e=>by
 by_cases z:d=p
 · rw [z,au]; simp
 · rw [ak z]; exact h d o w e
inductive Aa where
 | next (τ:List Sm) | ret (s:Sm) (τ:List Sm) | brk (τ:List Sm) | cnt (τ:List Sm)
abbrev DSm:=List Sm->Option Aa
abbrev DEm:=List Sm->Option (Sm×List Sm)
abbrev DTm:=List Sm->Option (Bool×List Sm)
abbrev DPx:=List Sm->Option (Nat×List Stp)
def Hn (K:W.Frag) (Hs0 H0:Hp) (ρ:List (Option Addr)) (E:Ends):Aa->Prop
 | .next τ=>∀ σ Hs H,bF K Hs0 H0 ρ Hs H σ τ->E.nx σ H
 | .brk τ=>∀ σ Hs H,bF K Hs0 H0 ρ Hs H σ τ->E.bk σ H
 | .cnt τ=>∀ σ Hs H,bF K Hs0 H0 ρ Hs H σ τ->E.ct σ H
 | .ret s τ=>∀ v σ Hs H,bF K Hs0 H0 (none::ρ) Hs H (some v::σ) (s::τ)->E.rt v H
def J4 (N:Hp) (K:W.Frag) (f:DSm):TS:=fun E σ H=>∃ (Hs0 H0:Hp),∃ (_:Nf N H0),∃ ρ Hs τ o,bF K Hs0 H0 ρ Hs H σ τ/\f τ=some o/\Hn K Hs0 H0 ρ E o
def KJ (N:Hp) (K:W.Frag) (f:DEm):TE:=fun σ H Q=>∃ (Hs0 H0:Hp),∃ (_:Nf N H0),∃ ρ Hs τ s τ',bF K Hs0 H0 ρ Hs H σ τ/\f τ=some (s,τ')/\∀ v Hs' H',bF K Hs0 H0 (none::ρ) Hs' H' (some v::σ) (s::τ')->Q v H'
def KG (N:Hp) (K:W.Frag) (f:DTm):TT:=fun σ H Q=>∃ (Hs0 H0:Hp),∃ (_:Nf N H0),∃ ρ Hs τ b τ',bF K Hs0 H0 ρ Hs H σ τ/\f τ=some (b,τ')/\∀ Hs' H',bF K Hs0 H0 ρ Hs' H' σ τ'->Q b H'
def PSm (X:Cx) (s:Stmt) (f:DSm):Prop:=PS X s (J4 X.H₀ X.K f)
def pF (X:Cx) (s:List Stmt) (f:DSm):Prop:=PSs X s (J4 X.H₀ X.K f)
def PEm (X:Cx) (e:Expr) (f:DEm):Prop:=PE X e (KJ X.H₀ X.K f)
def PTm (X:Cx) (e:Expr) (f:DTm):Prop:=PT X e (KG X.H₀ X.K f)
def bE (τ:List Sm) (i:Nat) (q:List Stp):Option Mt:=match τ[i]? with
 | some (.mu _ m)=>m.get q
 | _=>none
def fk (τ:List Sm) (i:Nat) (q:List Stp) (m2:Mt):List Sm:=match τ[i]? with
 | some (.mu b m)=>τ.set i (.mu b (m.put q m2))
 | _=>τ
def rdX (N:Hp) (K:W.Frag) (f:DPx):TE:=fun σ H Q=>∃ (Hs0 H0:Hp),∃ (_:Nf N H0),∃ ρ Hs τ i q m,bF K Hs0 H0 ρ Hs H σ τ/\f τ=some (i,q)/\bE τ i q=some m/\∀ v v1 H',bY H H'->σ[i]?=some (some v)->vAt H' v q=some v1->Q v1 H'
def PXm (X:Cx) (e:Expr) (f:DPx):Prop:=PE X e (rdX X.H₀ X.K f)
section
variable {X:Cx} {pins:List (Addr×Obj)} {σ:St} {H:Hp} {s:Shared} {h':Heap}
theorem Inv.A1 {t':Nat} {wr:List Addr} {T:Addr} {xs:List V} (I:Inv X pins σ H s) (hw:∀ b ∈ wr,uT X pins H b) (k:∀ b o,b ∉ wr->s.heap.get? b=some o->h'.get? b=some o)
  (hT:s.heap.objs.size<=T) (new:dA X.prog X.w (upd H T (.tup xs)) h' T (.tup xs)):Inv X pins σ (upd H T (.tup xs)) { s with heap:=h',toks:=t' }:=by
 have hn:H T=none:=I.hok.fresh hT
 have neT:∀ b u,H b=some u->b≠T:=fun b u e z=>by rw [z,hn] at e; cases e
 have neS:∀ b o,s.heap.get? b=some o->b≠T:=fun b o e z=>by
  have:=Heap.lt_size e
  rw [z] at this
  exact absurd (Nat.lt_of_lt_of_le this hT) (Nat.lt_irrefl _)
 have nw:∀ b u,H b=some u->b ∉ wr:=fun b u e z=>by rw [(hw b z).1] at e; cases e
 refine I.step (g':=s.gens) (d':=s.drawn) (ch:=wr) (fun b hb=>?_) (fun b o _ _ hc e _=>k b o hc e) (fun b o _ _ hc e _=>⟨o.slots,k b o hc e⟩) (fun b o _ e n=>by rw [ak (neS b o e)]; exact n)
  (fun b o hc e=>⟨o,k b o hc e⟩) (fun b ys e=>by rw [ak (neT b _ e)]; exact e) (fun b o u e=>by rw [ak (neT b _ e)]; exact e) (fun b ps e=>⟨#[],by rw [ak (neT b _ e),e]; simp⟩) (fun m hm=>?_) (fun b u e=>?_) I.bare
 ·obtain ⟨f0,f1,f2,f3,f4,f5⟩:=hw b hb
  exact ⟨f3,f1,f4,f5⟩
 ·obtain ⟨o,es,ep,ho,r⟩:=hm
  exact ⟨o,es,ep,k _ o (fun z=>(hw _ z).2.1 rfl) ho,r⟩
 ·by_cases hb:b=T
  ·subst hb
   rw [au] at e
   cases e
   exact new
  ·rw [ak hb] at e
   refine (I.hok b u e).yq (fun c v hc q=>k c v ?_ q) (fun c q=>by rw [ak (neT c _ q)]; exact q) fun c ys q=>by rw [ak (neT c _ q)]; exact q
   rcases hc with z | z
   · rw [z]; exact nw b u e
   · exact nw c _ z
end
structure Bx (p:Prop):Prop where
 out:p
section
variable {X:Cx} {a b c e:Expr} {es:List Expr} {pos:Pos} {f g h:DE}
theorem aa (i:Nat) {x:Str} (hN:X.N[i]?=some x:=by rfl) (hv:Vis X.env.scope x:=by first | exact Or.inl rfl | exact Or.inr (Or.inl rfl) | exact Or.inr (Or.inr rfl)) (hd:(x == ("__debug__":Str))=false:=by decide) (hcd:(x == ("__classdict__":Str))=false:=by decide):Bx (PEd X (.Name x pos) (aj i)):=⟨Es i hN hv hd hcd⟩
end
section
variable {X:Cx} {a b c e:Expr} {es:List Expr} {pos:Pos} {f g h:DE}
theorem ar {i:Int} {j}:Bx (PEd X (.Constant (.int i) j pos) (dC (.int i))):=⟨Ez ⟩
end
section
variable {X:Cx} {a b c e:Expr} {es:List Expr} {pos:Pos} {f g h:DE}
theorem dM {i:Bool} {j}:Bx (PEd X (.Constant (.bool i) j pos) (dC (.bl i))):=⟨Ib ⟩
end
section
variable {X:Cx} {a b c e:Expr} {es:List Expr} {pos:Pos} {f g h:DE}
theorem iP {j}:Bx (PEd X (.Constant .none j pos) (dC .non)):=⟨Ey ⟩
end
section
variable {X:Cx} {a b c e:Expr} {es:List Expr} {pos:Pos} {f g h:DE}
theorem lS {x:Str} {j}:Bx (PEd X (.Constant (.str x) j pos) (dC (.str x))):=⟨Eu ⟩
end
section
variable {X:Cx} {a b c e:Expr} {es:List Expr} {pos:Pos} {f g h:DE}
theorem ir {x:Str} {v:V} {u:Value} {d:D} (hg:Gl X x) (hm:X.mg x=some u) (r:RelV v u) (rd:∀ H,Rp X.K H v d) (hd:(x == ("__debug__":Str))=false:=by decide):Bx (PEd X (.Name x pos) (dC d)):=⟨B7 hg hm r rd hd⟩
end
section
variable {X:Cx} {a b c e:Expr} {es:List Expr} {pos:Pos} {f g h:DE}
theorem kO {x:Str} {n:String} (hg:Gl X x) (hm:X.mg x=none) (hv:bootBuiltins x=some (.type n)) (hn:x≠"__name__":=by decide) (hd:(x == ("__debug__":Str))=false:=by decide):Bx (PEd X (.Name x pos) (dC (.ty n))):=⟨HX hg hm hv hn hd⟩
end
section
variable {X:Cx} {a b c e:Expr} {es:List Expr} {pos:Pos} {f g h:DE}
theorem aF {op:Operator} {o:D->D->Option D} (ho:OpR X (binaryOp op) (rdR X.K o)) (ha:Bx (PEd X a f)) (hb:Bx (PEd X b g)):Bx (PEd X (.BinOp a op b pos) (dOp o f g)):=⟨HY ho ha.out hb.out⟩
end
section
variable {X:Cx} {a b c e:Expr} {es:List Expr} {pos:Pos} {f g h:DE}
theorem Dh {op:UnaryOp} {o:D->Option D} (ho:UnR X (unaryOp op) (rdU X.K o)) (ha:Bx (PEd X a f)):Bx (PEd X (.UnaryOp op a pos) (dUn o f)):=⟨HW ho ha.out⟩
end
section
variable {X:Cx} {a b c e:Expr} {es:List Expr} {pos:Pos} {f g h:DE}
theorem pC {op:CmpOp} {o:D->D->Option D} (ho:OpR X (compareOp op) (rdR X.K o)) (ha:Bx (PEd X a f)) (hb:Bx (PEd X b g)) (hm:behindInMarks op b=false):Bx (PEd X (.Compare a [op] [b] pos) (dOp o f g)):=⟨EC ho ha.out hb.out hm⟩
end
section
variable {X:Cx} {a b c e:Expr} {es:List Expr} {pos:Pos} {f g h:DE}
theorem aI {op:CmpOp} {o:D->D->Option D} (ho:OpR X (compareOp op) (rdR X.K o)) (ha:Bx (PEd X a f)) (hb:Bx (PEd X b g)) (hm:behindInMarks op b=false):Bx (PTd X (.Compare a [op] [b] pos) (dT (dOp o f g))):=⟨By ho ha.out hb.out hm⟩
end
section
variable {X:Cx} {a b c e:Expr} {es:List Expr} {pos:Pos} {f g h:DE}
theorem uP {op op':CmpOp} {o o':D->D->Option D} (ho:OpR X (compareOp op) (rdR X.K o)) (ho':OpR X (compareOp op') (rdR X.K o')) (ha:Bx (PEd X a f)) (hb:Bx (PEd X b g)) (hc:Bx (PEd X c h)) (hm:lastMarks [op,op'] [b,c]=false:=by with_unfolding_all rfl):Bx (PEd X (.Compare a [op,op'] [b,c] pos) (gI (dOp o f g) (dOp o' g h))):=⟨zt ho ho' ha.out hb.out hc.out hm⟩
end
section
variable {X:Cx} {a b c e:Expr} {es:List Expr} {pos:Pos} {f g h:DE}
theorem ag  : Bx (PAd X [] aY):=⟨Cc ⟩
end
section
variable {X:Cx} {a b c e:Expr} {es:List Expr} {pos:Pos} {f g h:DE}
theorem ab {g:DA} (ha:Bx (PEd X e f)) (hr:Bx (PAd X es g)) (hs:starEach (e::es) X.env=(false,eval e X.env)::starEach es X.env:=by rfl):Bx (PAd X (e::es) (ao f g)):=⟨zw ha.out hr.out hs⟩
end
section
variable {X:Cx} {a b c e:Expr} {es:List Expr} {pos:Pos} {f g h:DE}
theorem pA {x1} {g:DA} (h:Bx (PAd X es g)):Bx (PEd X (.Tuple es x1 pos) (C7 g)):=⟨Et h.out⟩
end
section
variable {X:Cx} {a b c e:Expr} {es:List Expr} {pos:Pos} {f g h:DE}
theorem du {g:DA} (h:Bx (PAd X es g)):Bx (PEo X (.List es pos) (rZ g)):=⟨Ef h.out⟩
end
section
variable {X:Cx} {a b c e:Expr} {es:List Expr} {pos:Pos} {f g h:DE}
theorem cU (h:Bx (PEo X e f)):Bx (PEd X e f):=⟨PEo.shr h.out⟩
end
section
variable {X:Cx} {a b c e:Expr} {es:List Expr} {pos:Pos} {f g h:DE}
theorem fQ (h:Bx (PEd X e f)) (he:∀ whole,isTrue e X.env whole=(do let v <- whole; standAt e.pos; holding [v] (truthy v)):=by intro _; rfl):Bx (PTd X e (dT f)):=⟨Bu h.out he⟩
end
section
variable {X:Cx} {a b c e:Expr} {es:List Expr} {pos:Pos} {f g h:DE}
theorem dR {f:DT} (h:Bx (PTd X e f)):Bx (PTd X (.UnaryOp .Not e pos) (uE f)):=⟨Bv h.out⟩
end
section
variable {X:Cx} {a b c e:Expr} {es:List Expr} {pos:Pos} {f g h:DE}
theorem uI {f:DT} (h:Bx (PTd X a f)):Bx (PWd X (.BoolOp .And [a] pos) f):=⟨yI h.out⟩
end
section
variable {X:Cx} {a b c e:Expr} {es:List Expr} {pos:Pos} {f g h:DE}
theorem fP {f:DT} (h:Bx (PTd X a f)):Bx (PWd X (.BoolOp .Or [a] pos) f):=⟨Bl h.out⟩
end
section
variable {X:Cx} {a b c e:Expr} {es:List Expr} {pos:Pos} {f g h:DE}
theorem xY {f g:DT} (ha:Bx (PTd X a f)) (hb:Bx (PWd X (.BoolOp .And (b::es) pos) g)):Bx (PWd X (.BoolOp .And (a::b::es) pos) (FO f g)):=⟨Bm ha.out hb.out⟩
end
section
variable {X:Cx} {a b c e:Expr} {es:List Expr} {pos:Pos} {f g h:DE}
theorem gs {f g:DT} (ha:Bx (PTd X a f)) (hb:Bx (PWd X (.BoolOp .Or (b::es) pos) g)):Bx (PWd X (.BoolOp .Or (a::b::es) pos) (dOr f g)):=⟨D7 ha.out hb.out⟩
end
section
variable {X:Cx} {a b c e:Expr} {es:List Expr} {pos:Pos} {f g h:DE}
theorem fc {f:DT} (h:Bx (PWd X e f)):Bx (PTd X e f):=⟨PWd.ptd h.out⟩
end
section
variable {X:Cx} {a b c e:Expr} {es:List Expr} {pos:Pos} {f g h:DE}
theorem pB {op} (h:Bx (PEd X a f)):Bx (PEd X (.BoolOp op [a] pos) f):=⟨Ew h.out⟩
end
section
variable {X:Cx} {a b c e:Expr} {es:List Expr} {pos:Pos} {f g h:DE}
theorem lT (ha:Bx (PEd X a f)) (hb:Bx (PEd X (.BoolOp .And (b::es) pos) g)):Bx (PEd X (.BoolOp .And (a::b::es) pos) (gI f g)):=⟨ED ha.out hb.out⟩
end
section
variable {X:Cx} {a b c e:Expr} {es:List Expr} {pos:Pos} {f g h:DE}
theorem z5 (ha:Bx (PEd X a f)):Bx (PEd X (.UnaryOp .Not a pos) (C8 f)):=⟨Ex ha.out⟩
end
section
variable {X:Cx} {a b c e:Expr} {es:List Expr} {pos:Pos} {f g h:DE}
theorem Di {t:DT} (hc:Bx (PTd X c t)) (ha:Bx (PEd X a f)) (hb:Bx (PEd X b g)):Bx (PEd X (.IfExp c a b pos) (dIf t f g)):=⟨Ia hc.out ha.out hb.out⟩
end
section
variable {X:Cx} {a b c e:Expr} {es:List Expr} {pos:Pos} {f g h:DE}
theorem cR (ha:Bx (PEd X a f)) (hb:Bx (PEd X b g)) (hs:sD b):Bx (PEd X (.Subscript a b pos) (dOp oIx f g)):=⟨HZ ha.out hb.out hs⟩
end
section
variable {X:Cx} {a b c e:Expr} {es:List Expr} {pos:Pos} {f g h:DE}
theorem nX (h:Bx (PEd X e f)):Bx (POd X (some e) (dP f)):=⟨zf h.out⟩
end
section
variable {X:Cx} {a b c e:Expr} {es:List Expr} {pos:Pos} {f g h:DE}
theorem Dg {lo hi:Option Expr} {p2:Pos} {l u:DO} (ha:Bx (PEd X a f)) (hl:Bx (POd X lo l)) (hh:Bx (POd X hi u)):Bx (PEo X (.Subscript a (.Slice lo hi none p2) pos) (dSl f l u)):=⟨HP ha.out hl.out hh.out⟩
end
section
variable {X:Cx} {a b c e:Expr} {es:List Expr} {pos:Pos} {f g h:DE}
theorem aH {x:Str} {id:String} {p:Pos} {o:List D->Option D} {g:DA} (hc:gJ X (.builtin id) (rdL X.K o)) (hg:Gl X x) (hm:X.mg x=none) (hv:bootBuiltins x=some (.builtin id)) (ha:Bx (PAd X (e::es) g)) (hn:x≠"__name__":=by decide) (hdb:(x == ("__debug__":Str))=false:=by decide) (he:starEach (e::es) X.env=(false,eval e X.env)::starEach es X.env:=by rfl) (hpl:(backTo pos (starEach es X.env)).any (·.1)=false:=by rfl):Bx (PEd X (.Call (.Name x p) (e::es) [] pos) (bR o g)):=⟨zu hc hg hm hv ha.out hn hdb he hpl⟩
end
section
variable {X:Cx} {a b c e:Expr} {es:List Expr} {pos:Pos} {f g h:DE}
theorem yb {x:Str} {p:Pos} {g:DA} (hg:Gl X x) (hm:X.mg x=none) (hv:bootBuiltins x=some (.type "list")) (ha:Bx (PAd X (e::es) g)) (hn:x≠"__name__":=by decide) (hdb:(x == ("__debug__":Str))=false:=by decide) (he:starEach (e::es) X.env=(false,eval e X.env)::starEach es X.env:=by rfl) (hpl:(backTo pos (starEach es X.env)).any (·.1)=false:=by rfl):Bx (PEo X (.Call (.Name x p) (e::es) [] pos) (bR wH g)):=⟨BN hg hm hv ha.out hn hdb he hpl⟩
end
section
variable {X:Cx} {e:Expr} {f:DE}
theorem x3 (i:Nat) {f:DT} (h:Bx (PTd X e f)):Bx (PTd X e (A9 i f)):=⟨Bz i h.out⟩
end
section
variable {X:Cx} {a b c e:Expr} {es:List Expr} {pos:Pos} {st:Stmt} {rest:List Stmt} {f g:DS}
theorem c8  : Bx (pG X [] je):=⟨yT ⟩
end
section
variable {X:Cx} {a b c e:Expr} {es:List Expr} {pos:Pos} {st:Stmt} {rest:List Stmt} {f g:DS}
theorem az (h:Bx (PSd X st f)):Bx (pG X [st] f):=⟨yS h.out⟩
end
section
variable {X:Cx} {a b c e:Expr} {es:List Expr} {pos:Pos} {st:Stmt} {rest:List Stmt} {f g:DS}
theorem ax (h1:Bx (PSd X st f)) (h2:Bx (pG X rest g)):Bx (pG X (st::rest) (dX f g)):=⟨vV h1.out h2.out⟩
end
section
variable {X:Cx} {a b c e:Expr} {es:List Expr} {pos:Pos} {st:Stmt} {rest:List Stmt} {f g:DS}
theorem jw  : Bx (PSd X st pU):=⟨wc ⟩
end
section
variable {X:Cx} {a b c e:Expr} {es:List Expr} {pos:Pos} {st:Stmt} {rest:List Stmt} {f g:DS}
theorem fD {t:DT} {x y:List Stmt} (hc:Bx (PTd X c t)) (ha:Bx (pG X x f)) (hb:Bx (pG X y g)):Bx (PSd X (.If c x y pos) (sIf t f g)):=⟨Eb hc.out ha.out hb.out⟩
end
section
variable {X:Cx} {a b c e:Expr} {es:List Expr} {pos:Pos} {st:Stmt} {rest:List Stmt} {f g:DS}
theorem bq {f:DE} (h:Bx (PEd X e f)):Bx (PSd X (.Return (some e) pos) (nA f)):=⟨BH h.out⟩
end
section
variable {X:Cx} {a b c e:Expr} {es:List Expr} {pos:Pos} {st:Stmt} {rest:List Stmt} {f g:DS}
theorem nV {f:DE} (h:Bx (PEo X e f)):Bx (PSd X (.Return (some e) pos) (ua f)):=⟨yY h.out⟩
end
section
variable {X:Cx} {a b c e:Expr} {es:List Expr} {pos:Pos} {st:Stmt} {rest:List Stmt} {f g:DS}
theorem kN (i:Nat) {x:Str} {p:Pos} (hN:X.N[i]?=some x:=by rfl) (hv:Vis X.env.scope x:=by first | exact Or.inl rfl | exact Or.inr (Or.inl rfl) | exact Or.inr (Or.inr rfl)) (hd:(x == ("__debug__":Str))=false:=by decide) (hcd:(x == ("__classdict__":Str))=false:=by decide):Bx (PSd X (.Return (some (.Name x p)) pos) (pT i)):=⟨yX i hN hv hd hcd⟩
end
section
variable {X:Cx} {a b c e:Expr} {es:List Expr} {pos:Pos} {st:Stmt} {rest:List Stmt} {f g:DS}
theorem dU {i:Nat} {x:Str} {f:DE} {pos':Pos} (hN:X.N.Nodup) (hi:X.N[i]?=some x) (hx:Loc X.env.scope x) (he:Bx (PEd X e f)) (hs:swapsWith e (some (.Name x pos')) pos.line X.env=pure false:=by rfl) (hf:X.fn x=true\/X.env.scope.names.lookup x=some .local:=by first | exact .inl rfl | exact .inr rfl | assumption):Bx (PSd X (.Assign [.Name x pos'] e pos) (pE i f)):=⟨BG hN hi hx he.out hs hf⟩
end
section
variable {X:Cx} {a b c e:Expr} {es:List Expr} {pos:Pos} {st:Stmt} {rest:List Stmt} {f g:DS}
theorem fR {i:Nat} {x:Str} {f:DE} {pos':Pos} (hN:X.N.Nodup) (hi:X.N[i]?=some x) (hx:Loc X.env.scope x) (he:Bx (PEo X e f)) (hs:swapsWith e (some (.Name x pos')) pos.line X.env=pure false:=by rfl) (hf:X.fn x=true\/X.env.scope.names.lookup x=some .local:=by first | exact .inl rfl | exact .inr rfl | assumption):Bx (PSd X (.Assign [.Name x pos'] e pos) (nz i f)):=⟨yW hN hi hx he.out hs hf⟩
end
section
variable {X:Cx} {a b c e:Expr} {es:List Expr} {pos:Pos} {st:Stmt} {rest:List Stmt} {f g:DS}
theorem iO {f:DE} (he:Bx (PEd X e f)) (hs:swapsWith e none pos.line X.env=pure false:=by rfl):Bx (PSd X (.Expr e pos) (oH f)):=⟨za he.out hs⟩
end
section
variable {X:Cx} {a b c e:Expr} {es:List Expr} {pos:Pos} {st:Stmt} {rest:List Stmt} {f g:DS}
theorem mR (i:Nat) {x:Str} {f:DE} {p apos cpos:Pos} (hN:X.N[i]?=some x) (hv:Vis X.env.scope x) (he:Bx (PEd X e f)) (hd:(x == ("__debug__":Str))=false:=by decide) (hcd:(x == ("__classdict__":Str))=false:=by decide) (hbase:attributeBase (.Name x p) "append" X.env (eval (.Name x p) X.env)=eval (.Name x p) X.env:=by rfl) (hfew:((backTo cpos (starEach [e] X.env)).all (fun x=>!x.1)&&(backToKw cpos (keywordEach [] X.env)).all (fun x=>x.1.isSome)
 && decide ([e].length+([]:List Keyword).length+(if ([]:List Keyword).isEmpty then 0 else 1) < 30))=true:=by rfl) (hline:(apos.endLine == cpos.line)=true:=by rfl) (hst:starEach [e] X.env=(false,eval e X.env)::starEach [] X.env:=by rfl) (hplain:(backTo cpos (starEach [] X.env)).any (·.1)=false:=by rfl) (hs:swapsWith (.Call (.Attribute (.Name x p) "append" apos) [e] [] cpos) none pos.line X.env=pure false:=by rfl):Bx (PSd X (.Expr (.Call (.Attribute (.Name x p) "append" apos) [e] [] cpos) pos) (vA i f)):=⟨BK i hN hv he.out hd hcd hbase hfew hline hst hplain hs⟩
end
section
variable {X:Cx} {tg l e:Expr} {es:List Expr} {pos:Pos}
theorem iq {f:DE} (h:Bx (PEd X l f)):Bx (PId X tg l (zM f)):=⟨BV h.out⟩
end
section
variable {X:Cx} {tg l e:Expr} {es:List Expr} {pos:Pos}
theorem k8 {a:Expr} {f:DA} {p:Pos} (hg:Gl X "range") (hm:X.mg "range"=none) (ha:Bx (PAd X [a] f)) (hs:starEach [a] X.env=[(false,eval a X.env)]:=by rfl):Bx (PId X tg (.Call (.Name "range" p) [a] [] pos) (mG f)):=⟨ue hg hm ha.out hs⟩
end
section
variable {X:Cx} {pos:Pos} {e:Expr} {es:List Expr}
theorem uO {i:Nat} {x:Str} (hN:X.N.Nodup) (hi:X.N[i]?=some x) (hx:Loc X.env.scope x) (hf:X.fn x=true\/X.env.scope.names.lookup x=some .local:=by first | exact .inl rfl | exact .inr rfl | assumption):Bx (PGd X (.Name x pos) (gN i)):=⟨zl hN hi hx hf⟩
end
section
variable {X:Cx} {tg iter:Expr} {body:List Stmt} {pos:Pos}
theorem ya {it:DI} {g:DG} {b:DS} (hp:PassesOwn (model X.prog X.w) X.A X.env X.xe) (hc:X.calm=true) (hi:Bx (PId X tg iter it)) (hg:Bx (PGd X tg g)) (hb:Bx (pG X body b)) (hs:∀ x,foldedSetIterable iter X.env x=pure x:=by intro _; rfl):Bx (PSd X (.For tg iter body [] pos) (Ds it g b)):=⟨BI hp hc hi.out hg.out hb.out hs⟩
end
section
variable {X:Cx} {tg iter:Expr} {body:List Stmt} {pos:Pos}
theorem gw {c:Expr} {t:DT} {b:DS} (hp:PassesOwn (model X.prog X.w) X.A X.env X.xe) (hc:Bx (PTd X c t)) (hb:Bx (pG X body b)):Bx (PSd X (.While c body [] pos) (iT t b)):=⟨wb hp hc.out hb.out⟩
end
section
variable {X:Cx} {e:Expr} {es:List Expr} {x:Str} {p pos:Pos} {k:Nat} {f:Addr} {fd:FuncData} {ps:List Str} {F:List D->Option Sl} {g:DA}
theorem aG (Fo:dg X.prog X.w X.K X.mg X.base CX0 k f fd ps (spF F X.K)) (hr:fo k X.A) (hg:Gl X x) (hm:X.mg x=some (.ref f)) (hk:W.keepIn X.K (.ref f)=true) (hb:Binds X.K fd ps []) (ha:Bx (PAd X (e::es) g)) (hdb:(x == ("__debug__":Str))=false:=by decide) (he:starEach (e::es) X.env=(false,eval e X.env)::starEach es X.env:=by rfl) (hpl:(backTo pos (starEach es X.env)).any (·.1)=false:=by rfl):Bx (PEd X (.Call (.Name x p) (e::es) [] pos) (dFn F g)):=⟨Ca Fo hr hg hm hk hb ha.out hdb he hpl⟩
end
section
variable {X:Cx} {e:Expr} {es:List Expr} {x:Str} {p pos:Pos} {k:Nat} {f:Addr} {fd:FuncData} {ps:List Str} {F:List D->Option Sl} {g:DA}
theorem qL (Fo:dg X.prog X.w X.K X.mg X.base CX0 k f fd ps (spF F X.K)) (hr:fo k X.A) (hg:Gl X x) (hm:X.mg x=some (.ref f)) (hk:W.keepIn X.K (.ref f)=true) (hb:Binds X.K fd ps []) (ha:Bx (PAd X (e::es) g)) (hdb:(x == ("__debug__":Str))=false:=by decide) (he:starEach (e::es) X.env=(false,eval e X.env)::starEach es X.env:=by rfl) (hpl:(backTo pos (starEach es X.env)).any (·.1)=false:=by rfl):Bx (PEo X (.Call (.Name x p) (e::es) [] pos) (C9 F g)):=⟨BP Fo hr hg hm hk hb ha.out hdb he hpl⟩
end
section
variable {X:Cx} {e:Expr} {es:List Expr} {pos:Pos}
theorem j7 {elt iter:Expr} {x:Str} {px:Pos} {scope:Scope} {cl:List (Str×Addr)} {cs:List (Str×Nat)} {it:DI} {g:DE} (hc:X.calm=true) (O:d6 X scope cl x cs) (hi:Bx (PId X (.Name x px) iter it)) (he:∀ s H fp C,Bx (PEd (bS X scope cl (x::cs.map (·.1)) s H fp C) elt g)) (hs:∀ x,foldedSetIterable iter X.env x=pure x:=by intro _; rfl):Bx (PEo X (.ListComp elt [⟨.Name x px,iter,[],0⟩] scope pos) (ph it g cs)):=⟨BO hc O hi.out (fun s H fp C=>(he s H fp C).out) hs⟩
end
section
variable {X:Cx} {e o:Expr} {es:List Expr} {x m f:Str} {p pos apos:Pos} {k:Nat} {C fa:Addr} {fd:FuncData} {ps:List Str} {F:List D->Option Sl} {g:DE} {ga:DA}
theorem cP (c:Cls X.K C) (n:dB X.K C f) (he:Bx (PEd X e g)) (hb:attributeBase e f X.env (eval e X.env)=eval e X.env:=by rfl):Bx (PEd X (.Attribute e f pos) (dUn (nr C f) g)):=⟨EA c n he.out hb⟩
end
section
variable {X:Cx} {e o:Expr} {es:List Expr} {x m f:Str} {p pos apos:Pos} {k:Nat} {C fa:Addr} {fd:FuncData} {ps:List Str} {F:List D->Option Sl} {g:DE} {ga:DA}
theorem aZ {pl:Sem Bool} (he:Bx (PEd X o g)) (c:Cls X.K C) (hm:rl X.K C m fa) (Fo:dg X.prog X.w X.K X.mg X.base CX0 k fa fd ps (spF F X.K)) (hr:fo k X.A) (hb:Binds X.K fd ps []) (ha:Bx (PAd X (e::es) ga)) (hst:starEach (e::es) X.env=(false,eval e X.env)::starEach es X.env:=by rfl) (hpl:(backTo pos (starEach es X.env)).any (·.1)=false:=by rfl) (ht:eval (.Call (.Attribute o m apos) (e::es) [] pos) X.env=(do
 let ov <- eval o X.env
 standAt apos.atName
 let (f,first) <- holding [ov] (getMethod ov m pl)
 callWith pos f first (backTo pos (starEach (e::es) X.env)) (backToKw pos (keywordEach [] X.env))):=by rfl):Bx (PEd X (.Call (.Attribute o m apos) (e::es) [] pos) (cS C m F g ga)):=⟨B5 he.out c hm Fo hr hb ha.out hst hpl ht⟩
end
section
variable {X:Cx} {o i e value:Expr} {pos pos' apos cpos:Pos} {f g h:DE}
theorem ba (hu:X.A.units+64 < cLine) (ho:Bx (PEd X o f)) (hi:Bx (PEd X i g)) (hs:Dv i):Bx (PEd X (.Subscript o i pos) (dOp bC f g)):=⟨B9 hu ho.out hi.out hs⟩
end
section
variable {X:Cx} {o i e value:Expr} {pos pos' apos cpos:Pos} {f g h:DE}
theorem z6 (hu:X.A.units+64 < cLine) (hi:Bx (PEd X i f)) (ho:Bx (PEd X o g)) (hm:behindInMarks .In o=false):Bx (PEd X (.Compare i [.In] [o] pos) (dOp yt f g)):=⟨EB hu hi.out ho.out hm⟩
end
section
variable {X:Cx} {o i e value:Expr} {pos pos' apos cpos:Pos} {f g h:DE}
theorem xZ (hu:X.A.units+64 < cLine) (hi:Bx (PEd X i f)) (ho:Bx (PEd X o g)) (hm:behindInMarks .In o=false):Bx (PTd X (.Compare i [.In] [o] pos) (dT (dOp yt f g))):=⟨Bw hu hi.out ho.out hm⟩
end
section
variable {X:Cx} {o i e value:Expr} {pos pos' apos cpos:Pos} {f g h:DE}
theorem qH (hu:X.A.units+64 < cLine) (hi:Bx (PEd X i f)) (ho:Bx (PEd X o g)) (hm:behindInMarks .NotIn o=false):Bx (PTd X (.Compare i [.NotIn] [o] pos) (dT (dOp kF f g))):=⟨uc hu hi.out ho.out hm⟩
end
section
variable {X:Cx} {a b c:Expr} {pos:Pos} {f g h:DE}
theorem mP {op op':CmpOp} {o o':D->D->Option D} (ho:OpR X (compareOp op) (rdR X.K o)) (ho':OpR X (compareOp op') (rdR X.K o')) (ha:Bx (PEd X a f)) (hb:Bx (PEd X b g)) (hc:Bx (PEd X c h)) (hm:lastMarks [op,op'] [b,c]=false:=by with_unfolding_all rfl):Bx (PTd X (.Compare a [op,op'] [b,c] pos) (dT (gI (dOp o f g) (dOp o' g h)))):=⟨vN ho ho' ha.out hb.out hc.out hm⟩
end
section
variable {P:Program} {w:World} {K:W.Frag} {mg:Str->Option Value} {base:Heap}
theorem gy {x qual:Str} {st:Stmt} {f:Addr} {fd:FuncData} {N ps:List Str} {k:Nat} {b:DS} (F:Fun K x qual st f fd) (S:aS N ps (ah st))
  (hbody:∀ (cdv:Value) (A:Around) (outer:List Env) (s:Shared) (H:Hp) (E:XK),fo k (A.deeper (envOfC qual (ah st) s.heap.objs.size f cdv)) ->
    Bx (pG (xS CX0 P w K mg base N qual (ah st) f cdv A outer s H E).nox (aw st) b)):dg P w K mg base CX0 (k+1) f fd ps (spF (kB N.length ps.length b) K) :=
 F.okD S fun cdv A outer s H E hr=>(hbody cdv A outer s H E hr).out
end
def Ite (K:W.Frag) (l:Addr):It where
 go:=fun i H=>∃ xs x,SqL K H l xs/\xs[i]?=some x
 yld:=fun i H v H'=>∃ T x,v=.ref T/\H T=none/\H'=upd H T (.tup [.int (i:Int),x])/\∀ xs,SqL K H l xs->xs[i]?=some x
 stop:=fun i H=>∃ xs,SqL K H l xs/\xs.length<=i
def ESt (e it l:Addr) (i:Nat) (h:Heap):Prop:=(∃ old,IsEnum h e it ((i:Nat):Int) old)/\h.IsListIter it l i
theorem ve {P:Program} {w:World} {K:W.Frag} {elts:List Expr} {k:Nat} {pos:Pos} {e it l:Addr} (ne:e≠it) :
  Turn P w K (.Tuple elts k pos) (Ite K l) [e,it] e (ESt e it l) where
 mem:=by simp
 obj:=fun i h st b hb=>by
  obtain ⟨⟨old,s1⟩,⟨o4,e4,c4,d4⟩⟩:=st
  simp only [List.mem_cons,List.not_mem_nil,or_false] at hb
  rcases hb with rfl | rfl
  · exact ⟨_,s1,fun v z=>by cases z⟩
  · exact ⟨o4,e4,fun v z=>by rw [d4] at z; cases z⟩
 keep:=fun i h h' st k=>by
  obtain ⟨⟨old,s1⟩,s4⟩:=st
  exact ⟨⟨old,k _ (by simp) _ s1⟩,s4.at fun o e=>k _ (by simp) o e⟩
 item:=by
  intro X hP hw hK hc i pins s σ H E I hf st hg
  subst hP hw hK
  obtain ⟨xs,x,hq,hx⟩:=hg
  obtain ⟨its,rv,p,hz⟩:=I.list hq
  obtain ⟨u,hu,ru⟩:=rv.get hx
  obtain ⟨⟨old,s1⟩,s4⟩:=st
  refine wpAny_pyNext_enum_item s1 s4 p.isList (x:=u) (by simpa using hu) ne fun h' a1 a2 a3 a4 hk=>?_
  have hk':∀ b o,b ∉ [e,it]->s.heap.get? b=some o->h'.get? b=some o:=fun b o hb e'=>hk b o (fun q=>hb (by simp [q])) (fun q=>hb (by simp [q])) e'
  have I1:Inv X pins σ (upd H s.heap.objs.size (.tup [.int (i:Int),x])) { s with heap:=h',toks:=s.toks+1 }:=I.A1 (t':=s.toks+1) hf hk' (Nat.le_refl _) ⟨by show 2<=sizeLine; decide,[.int i s.toks,u],.cons ⟨_,rfl⟩ (.cons ru .nil),_,a3,rfl,_,rfl⟩
  have hn:H s.heap.objs.size=none:=I.hok.fresh (Nat.le_refl _)
  refine ⟨.ref s.heap.objs.size,rfl,wpAny_letOwnedTupleGo_enum (s:={ s with heap:=h',toks:=s.toks+1 }) a1 fun h2 hz2 sb=>?_⟩
  have neT:∀ b ∈ [e,it],b≠s.heap.objs.size:=fun b hb q=>by
   have lt:∃ o,s.heap.get? b=some o:=by
    obtain ⟨o4,e4,_⟩:=s4
    simp only [List.mem_cons,List.not_mem_nil,or_false] at hb
    rcases hb with rfl | rfl
    · exact ⟨_,s1⟩
    · exact ⟨_,e4⟩
   obtain ⟨o,e'⟩:=lt
   rw [q] at e'
   exact absurd (Heap.lt_size e') (Nat.lt_irrefl _)
  obtain ⟨f0,f1,f2,f3,f4,f5⟩:=hf e (by simp)
  have I2:Inv X pins σ (upd H s.heap.objs.size (.tup [.int (i:Int),x])) { s with heap:=h2,toks:=s.toks+1 }:=I1.turned (t':=s.toks+1) (fun b o hb e'=>(sb.2 b hb).trans e') (by rw [ak (neT e (by simp))]; exact f0) f1 f3 f4 f5
  refine ⟨.ref s.heap.objs.size,_,I2,rfl,⟨s.heap.objs.size,x,rfl,hn,rfl,fun zs hz=>by rw [I.sX hz hq]; exact hx⟩,?_,fun b hb=>by rw [ak (neT b hb)]; exact (hf b hb).1⟩
  exact ⟨⟨_,hz2⟩,a2.extBut sb.extBut (Ne.symm ne)⟩
 done:=by
  intro X hP hw hK hc i pins s σ H E I hf st hg
  subst hP hw hK
  obtain ⟨xs,hq,hx⟩:=hg
  obtain ⟨its,rv,p,hz⟩:=I.list hq
  obtain ⟨⟨old,s1⟩,s4⟩:=st
  have l1:=rv.length
  refine wpAny_pyNext_enum_end (I.ok.hd hc) s1 s4 p.isList (by simp; omega) fun h' eb=>⟨rfl,?_⟩
  obtain ⟨f0,f1,f2,f3,f4,f5⟩:=hf it (by simp)
  exact I.turned (t':=s.toks) (fun b o hb e=>eb b o hb e) f0 f1 f3 f4 f5
 self:=fun _ _ _ _ _ st h=>by
  obtain ⟨⟨old,s1⟩,s4⟩:=st
  exact wpAny_pyIter_enum s1 h
theorem xW:bootBuiltins "enumerate"=some (.type "enumerate"):=by decide +kernel
def JK (K:W.Frag) (ta:TA):TI:=fun σ H R=>ta σ H fun vs H1=>∃ l xs,vs=[.ref l]/\SqL K H1 l xs/\R (Ite K l) H1
theorem BX {X:Cx} {a:Expr} {ta:TA} {elts:List Expr} {k:Nat} {pt p pos:Pos} (hg:Gl X "enumerate") (hm:X.mg "enumerate"=none) (ha:PA X [a] ta) (hs:starEach [a] X.env=[(false,eval a X.env)]:=by rfl) :
  PI X (.Tuple elts k pt) (.Call (.Name "enumerate" p) [a] [] pos) (JK X.K ta):=by
 intro pins s σ H R I h
 refine Call_ (mz I hg hm xW (PyProof.Rows.callWith_type1 (thn (ha pos pins s σ H _ I h) fun us s1 ⟨vs,H1,I1,r1,q1⟩=>?_) (by rw [hs]; rfl) (by rfl)))
 obtain ⟨l,xs,e,q1,q⟩:=q1
 subst e
 cases r1 with
 | cons r rr =>
  cases rr
  cases r
  obtain ⟨its1,rv1,p1,hz1⟩:=I1.list q1
  refine call_enumerate_list p1.isList fun h' hE hI hsz hk=>?_
  refine wpAny_pyIter_enum (s:={ s1 with heap:=h' }) hE ?_
  refine ⟨_,[s1.heap.objs.size+1,s1.heap.objs.size],_,_,H1,rfl,I1.kept (t':=s1.toks) hk,ve (Nat.succ_ne_self _),⟨⟨_,hE⟩,hI⟩,fun b hb=>?_,q⟩
  have hb':s1.heap.objs.size<=b:=by
   simp only [List.mem_cons,List.not_mem_nil,or_false] at hb
   rcases hb with rfl | rfl
   · exact Nat.le_add_right _ 1
   · exact Nat.le_refl _
  exact I1.u0 hb' (I1.hok.fresh hb')
def jV (ds:List D):List D:=ds.mapIdx fun i d=>D.tup [.int (i:Int),d]
theorem sZ {K:W.Frag} {a:Addr} {xs:List V} {Hs:Hp} {as:List D} (h1:SqL K Hs a xs) (r1:Rps K Hs xs as):ItR K (Ite K a) Hs (jV as):=fun Hs1 H g1 g2=>by
 have hq1:=g2.seq (g1.seq h1)
 have l1:=r1.length
 refine ⟨fun i d e=>?_,fun i hi=>⟨xs,hq1,?_⟩⟩
 ·unfold jV at e
  rw [List.getElem?_mapIdx] at e
  obtain ⟨p,ea,ed⟩:=Zm e
  obtain ⟨x,hx,rx⟩:=r1.get ea
  subst ed
  refine ⟨⟨xs,x,hq1,hx⟩,fun v H' ⟨T,vx,e1,hn,e2,f1⟩=>?_⟩
  subst e1 e2
  have ex:=f1 xs hq1
  rw [hx] at ex
  cases ex
  have g:=Ext.new g2 hn (.tup [.int (i:Int),x])
  exact ⟨_,g,.tup (SqT.of au) (.cons (.int _) (.cons ((rx.same g1).same g.ss) .nil))⟩
 ·have hl:(jV as).length=as.length:=by simp [jV]
  omega
def qu (f:DA):DI:=fun τ=>(f τ).bind fun ds=>match ds with | [.lst as]=>some (jV as) | [.fz as]=>some (jV as) | _=>none
theorem zi {X:Cx} {a:Expr} {f:DA} {elts:List Expr} {k:Nat} {pt p pos:Pos} (hg:Gl X "enumerate") (hm:X.mg "enumerate"=none) (ha:PAd X [a] f) (hs:starEach [a] X.env=[(false,eval a X.env)]:=by rfl) :
   PId X (.Tuple elts k pt) (.Call (.Name "enumerate" p) [a] [] pos) (qu f) :=
 (BX hg hm ha hs).imp fun σ H R ⟨H0,Hs,τ,fp,ds,st,sm,e,k⟩=>by
   obtain ⟨x,e1,e2⟩:=bind_some e
   refine ⟨H0,Hs,τ,fp,x,st,sm,e1,fun v Hs' H' g r=>?_⟩
   match x,r,e2 with
   | [y],.cons hy .nil,e2 =>
    cases hy with
    | @lst a1 xs1 ds1 h1 r1 =>
     have e':jV ds1=ds:=Zj e2
     subst e'
     exact ⟨a1,xs1,rfl,SqL.of (g.sh _ _ h1),k _ Hs' H' g (sZ (SqL.of h1) r1)⟩
    | @fz a1 xs1 ds1 h1 r1 =>
     have e':jV ds1=ds:=Zj e2
     subst e'
     exact ⟨a1,xs1,rfl,g.sh.seq h1,k _ Hs' H' g (sZ h1 r1)⟩
    | _=>exact nn e2
   | [],_,e2=>simp at e2
   | _::_::_,_,e2=>simp at e2
section
variable {X:Cx} {a b e o:Expr} {es:List Expr} {pos apos cpos:Pos} {f g:DE}
def rn:List D->Option (List Str)
 | []=>some []
 | .str x::ds=>(rn ds).map (x::·)
 | _::_=>none
theorem pM:∀ {ds:List D} {ts:List Str},rn ds=some ts->ds=ts.map .str
 | [],ts,h=>by cases h; rfl
 | .str x::ds,ts,h=>by
  obtain ⟨us,e,rfl⟩:=Zm h
  rw [pM e]; rfl
theorem Rps.lV {K:W.Frag} {H:Hp}:∀ {ts:List Str} {xs:List V},Rps K H xs (ts.map D.str)->xs=ts.map V.str
 | [],_,.nil=>rfl
 | x::ts,_,.cons h r=>by
  cases h
  rw [Rps.lV r]; rfl
def xR (f g:DE):DE:=fun τ=>(f τ).bind fun x=>(g τ).bind fun y=>match x,y with
 | .str z,.lst ds=>(rn ds).bind fun ts=>if (ts.map (·.length)).sum+ts.length * z.length<=100000 then some (.str (Txt.join z ts)) else none
 | _,_=>none
theorem B6 (ho:PEd X o f) (he:PEd X e g) (hbase:attributeBase o "join" X.env (eval o X.env)=eval o X.env:=by rfl)
   (hfew:((backTo cpos (starEach [e] X.env)).all (fun x=>!x.1)&&(backToKw cpos (keywordEach [] X.env)).all (fun x=>x.1.isSome)
     && decide ([e].length+([]:List Keyword).length+(if ([]:List Keyword).isEmpty then 0 else 1) < 30))=true:=by rfl)
   (hline:(apos.endLine == cpos.line)=true:=by rfl) (hst:starEach [e] X.env=(false,eval e X.env)::starEach [] X.env:=by rfl) (hplain:(backTo cpos (starEach [] X.env)).any (·.1)=false:=by rfl) :
   PEd X (.Call (.Attribute o "join" apos) [e] [] cpos) (xR f g) :=
 (wq PySem.F.plainAttrs_str PySem.F.slot_str_join PySem.F.type_str_join Cz ho (dm he gE hst) hbase hfew hline hst hplain).imp fun σ H Q ⟨H0,Hs,τ,fp,d,st,sm,e,k⟩=>by
   obtain ⟨x,e1,e⟩:=bind_some e
   obtain ⟨y,e2,e⟩:=bind_some e
   refine ⟨H0,Hs,τ,fp,x,st,sm,e1,fun v Hs1 H1 g1 r1=>?_⟩
   cases r1 with
   | str z =>
     refine ⟨rfl,H0,Hs1,τ,fp,y,st.ext g1,g1.sh,e2,fun u Hs2 H2 g2 r2=>?_⟩
     cases r2 with
     | @lst p xs ds h r =>
      obtain ⟨ts,e3,e4⟩:=bind_some (show (rn ds).bind _=some d from e)
      have ed:=pM e3
      subst ed
      have ex:=r.lV
      subst ex
      split at e4
      ·rename_i hs
       have e':=Zj e4
       subst e'
       exact ⟨z,p,ts,rfl,rfl,SqL.of (g2.sh _ _ h),Nat.le_trans hs (by decide),k _ Hs2 H2 (g1.trans g2) (.str _)⟩
      · cases e4
     | _=>exact nn e
   | _=>cases y <;> exact nn e
end
end L2
end
section
namespace PySem
section
variable {prog:Program} {w:World} {A:Around} {E:Value->Shared->Prop} {s:Shared}
theorem wW:typeLookup (.type "list_reverseiterator") "__len__"=pure none:=by rw [typeLookup_type,builtinLookup_eq_fast]; kernel_rfl
theorem zI:typeLookup (.type "list_reverseiterator") "__length_hint__"=pure (some (.builtin "list_reverseiterator.__length_hint__")):=by rw [typeLookup_type,builtinLookup_eq_fast]; kernel_rfl
theorem ur {it l:Addr} {i:Int} {Q:Bool->Shared->Prop} (hit:s.heap.IsRevIter it l i) (h:Q false s):wpAny (model prog w) A (Builtin.List.listLengthHint (.ref it)) Q E s:=by
 unfold Builtin.List.listLengthHint
 refine wpAny_bind (wpAny_specialOf hit.typeIs wW ?_)
 show wpAny _ _ (specialOf (Value.ref it) (Str.ofString "__length_hint__") >>= _) _ _ _
 refine wpAny_bind (wpAny_specialOf hit.typeIs zI ?_)
 generalize hid:("list_reverseiterator.__length_hint__":String)=id0
 wp_delta
 rw [show splitId id0=some ("list_reverseiterator","__length_hint__") from by subst hid; decide +kernel]
 subst hid
 refine wpAny_bind (wpAny_isInstance (b:=true) hit.typeIs (by rw [isSubtype_type]; kernel_rfl) ?_)
 exact wpAny_pure h
theorem uu {R:Result->Shared->Prop} {it l:Addr} {items:Array Value} (hh:A.handled=none) (hit:s.heap.IsRevIter it l ((items.size:Int) - 1)) (hl:s.heap.IsList l items)
  (hlen:items.size<=sizeLine) (hne:l≠it) (S:Addr) (res:Value) (c₀:Nat) (hS:s.heap.get? S=some { cls:=.type "list",data:=.seq #[] c₀ }) (hSl:S≠l) (hSi:S≠it)
  (hR:∀ h' tk acc' c',(∀ b o,b≠S->b≠it->s.heap.get? b=some o->h'.get? b=some o)->h'.get? S=some { cls:=.type "list",dict:=none,data:=.seq acc' c',slots:=#[] } ->
    ItemsOf (fun i v=>items[items.size - 1 - i]?=some v) acc' items.size->R (.ok (.ret res)) { s with heap:=h',toks:=tk }) :
  wpAny (model prog w) A.in1 (Builtin.List.listExtendWith (.ref S) (.ref it) res)
    (fun fin s'=>match fin with | .done f=>R (.ok f) s' | .again c'=>c'.quiet=true/\codeAny (model prog w) A c' R s') (fun e s'=>R (.error e) s') s:=by
 have W:=(Walks.listRev (prog:=prog) (w:=w) (A:=A.in1) hh it l hne items).toS
 have hSf:S ∉ [it,l]:=fun hm=>by
  rcases List.mem_cons.mp hm with e | hm
  · exact hSi e
  · exact hSl (List.mem_singleton.mp hm)
 unfold Builtin.List.listExtendWith
 refine wpAny_bind (wpAny_typeOf (T:="list_reverseiterator") hit.typeIs ?_)
 have h1:Builtin.List.listSameRef (.ref S) (.ref it)=false:=by simp [Builtin.List.listSameRef,hSi]
 have h2:(Value.type "list_reverseiterator" == Value.type "list")=false:=by decide
 have h3:(Value.type "list_reverseiterator" == Value.type "tuple")=false:=by decide
 simp only [h1,h2,h3,Bool.or_false,Bool.false_eq_true,if_false]
 refine wpAny_bind (wpAny_pyIter_revIter hit ?_)
 refine wpAny_bind (wpAny_holding (ur hit ?_))
 refine wpAny_ite_split (fun hab=>absurd hab (by decide)) (fun _=>?_)
 refine wpAny_pure ⟨plainId_quiet F.plain_extend_loop _,?_⟩
 have hit0:s.heap.IsRevIter it l ((items.size:Int) - 1 - ((0:Nat):Int)):=by
  simpa using hit
 refine codeAny_extend_loopS W hlen S hSf res items.size 0 _ #[] c₀ rfl (Nat.zero_le _) ⟨Nat.zero_le _,hit0,hl⟩ hS (ItemsOf.nil _) fun s' acc' c' hm hS' hacc=>?_
 rw [Moved.eq_with hm]
 refine hR s'.heap s'.toks acc' c' (fun b o hb hb2 e=>hm.heap b o (fun hmem=>?_) e) hS' hacc
 rcases List.mem_cons.mp hmem with e' | hmem
 · exact hb e'
 · exact hb2 (List.mem_singleton.mp hmem)
theorem zH {R:Result->Shared->Prop} {it l:Addr} {items:Array Value} (hh:A.handled=none) (hit:s.heap.IsRevIter it l ((items.size:Int) - 1)) (hl:s.heap.IsList l items)
  (hlen:items.size<=sizeLine) (hne:l≠it) (S:Addr) (hS:s.heap.get? S=some { cls:=.type "list",data:=.seq #[] }) (hSl:S≠l) (hSi:S≠it)
  (hR:∀ h' tk acc' c',(∀ b o,b≠S->b≠it->s.heap.get? b=some o->h'.get? b=some o)->h'.get? S=some { cls:=.type "list",dict:=none,data:=.seq acc' c',slots:=#[] } ->
    ItemsOf (fun i v=>items[items.size - 1 - i]?=some v) acc' items.size->R (.ok (.ret .none)) { s with heap:=h',toks:=tk }) :
  wpAny (model prog w) A.in1 (Builtin.«list.__init__» ⟨[.ref S,.ref it],[]⟩)
    (fun fin s'=>match fin with | .done f=>R (.ok f) s' | .again c'=>c'.quiet=true/\codeAny (model prog w) A c' R s') (fun e s'=>R (.error e) s') s:=by
 show wpAny _ _ (do let old <- Builtin.List.listItems (.ref S); Builtin.List.listUpdate (.ref S) (fun _=>#[]); letGo old.toList.reverse; Builtin.List.listExtendWith (.ref S) (.ref it) .none) _ _ s
 refine wpAny_bind ?_
 unfold Builtin.List.listItems
 refine wpAny_bind (wpAny_seqItems hS rfl (wpAny_pure ?_))
 show wpAny _ _ (updateSeq S (fun _=>#[]) >>= fun _=>letGo (#[]:Array Value).toList.reverse >>= fun _=>Builtin.List.listExtendWith (.ref S) (.ref it) .none) _ _ s
 refine wpAny_bind (wpAny_updateSeq hS rfl ?_)
 have hS₂:=Heap.get?_update_self (Obj.mapSeq (fun _=>(#[]:Array Value))) hS rfl
 have oth:∀ b o,b≠S->s.heap.get? b=some o->(s.heap.update S (Obj.mapSeq (fun _=>(#[]:Array Value)))).get? b=some o :=
  fun b o hb e=>(Heap.get?_update_other _ _ (Ne.symm hb)).trans e
 refine wpAny_bind (wpAny_letGo ?_)
 refine uu hh (hit.at fun o e=>oth it o (Ne.symm hSi) e) (hl.at fun o e=>oth l o (Ne.symm hSl) e) hlen hne S .none _ hS₂ hSl hSi fun h' tk acc' c' hk hS' hacc=>?_
 exact hR h' tk acc' c' (fun b o hb hb2 e=>hk b o hb hb2 (oth b o hb e)) hS' hacc
theorem pk {Q:Value->Shared->Prop} {it l:Addr} {items:Array Value} (hh:A.handled=none) (hit:s.heap.IsRevIter it l ((items.size:Int) - 1)) (hl:s.heap.IsList l items)
  (hlen:items.size<=sizeLine) (hne:l≠it)
  (hQ:∀ h' tk acc' c',(∀ b o,b≠it->s.heap.get? b=some o->h'.get? b=some o) ->
    h'.get? s.heap.objs.size=some { cls:=.type "list",dict:=none,data:=.seq acc' c',slots:=#[] }->ItemsOf (fun i v=>items[items.size - 1 - i]?=some v) acc' items.size->Q (.ref s.heap.objs.size) { s with heap:=h',toks:=tk }) :
  wpAny (model prog w) A (call (.type "list") [.ref it]) Q E s:=by
 refine callType_codes (Q₁:=fun obj s₁=>obj=.ref s.heap.objs.size/\s₁={ s with heap:=s.heap.push { cls:=.type "list",data:=.seq #[] } }) F.called_list (F.typeCall_list_1 _) F.entry_list_init
  (code_list_new _ ⟨rfl,rfl⟩) fun obj s₁ h₁=>?_
 obtain ⟨rfl,rfl⟩:=h₁
 have hS:(s.heap.push { cls:=.type "list",data:=.seq #[] }).get? s.heap.objs.size=some { cls:=.type "list",data:=.seq #[] }:=Heap.get?_push_size _ rfl
 have hSl:s.heap.objs.size≠l:=fun e=>by
  obtain ⟨o,ho,_⟩:=hl
  exact Nat.lt_irrefl _ (Nat.lt_of_lt_of_eq (Heap.lt_size ho) e)
 have hSi:s.heap.objs.size≠it:=fun e=>by
  obtain ⟨o,ho,_⟩:=hit
  exact Nat.lt_irrefl _ (Nat.lt_of_lt_of_eq (Heap.lt_size ho) e)
 refine ⟨⟨_,hS,rfl⟩,F.args_list_init_2 _ _,zH (A:=A.in1) hh (hit.at fun o e=>Heap.get?_push_of_some _ e) (hl.at fun o e=>Heap.get?_push_of_some _ e) hlen hne _ hS hSl hSi fun h' tk acc' c' hk hS' hacc=>?_⟩
 exact ⟨rfl,hQ h' tk acc' c' (fun b o hb e=>hk b o (Nat.ne_of_lt (Heap.lt_size e)) hb (Heap.get?_push_of_some _ e)) hS' hacc⟩
end
end PySem
namespace L2
open PySem PySem.Spec PyProof.Rows
section
variable {X:Cx} {a:Expr} {p p2 pos pos2:Pos}
def Kp (K:W.Frag) (ta:TE):TE:=fun σ H Q=>ta σ H fun x H1=>∃ q ys,x=.ref q/\SqL K H1 q ys/\∀ l,H1 l=none->Q (.ref l) (upd H1 l (.lst ys.reverse))
theorem xk {its:List Value} {acc:Array Value} (h:ItemsOf (fun i v=>its.toArray[its.toArray.size - 1 - i]?=some v) acc its.toArray.size):acc=its.reverse.toArray:=by
 obtain ⟨hs,hv⟩:=h
 refine Array.ext (by simpa using hs) fun i h1 h2=>?_
 have h3:=hv i acc[i] (Array.getElem?_eq_getElem h1)
 have h4:i < its.length:=by simpa using h2
 have h5:its[its.length - 1 - i]?=some acc[i]:=by simpa using h3
 rw [<- List.getElem?_reverse h4] at h5
 have h6:its.reverse[i]?=some (its.reverse[i]'(by simpa using h4)):=List.getElem?_eq_getElem _
 rw [h6] at h5
 simpa using (Zj h5).symm
theorem Ei {ta:TE} {x y:Str} (hc:X.calm=true) (hg:Gl X x) (hm:X.mg x=none) (hv:bootBuiltins x=some (.type "list")) (hg2:Gl X y) (hm2:X.mg y=none) (hv2:bootBuiltins y=some (.type "reversed")) (ha:PE X a ta)
  (hn:x≠"__name__":=by decide) (hdb:(x == ("__debug__":Str))=false:=by decide) (hn2:y≠"__name__":=by decide) (hdb2:(y == ("__debug__":Str))=false:=by decide)
  (he:starEach [.Call (.Name y p2) [a] [] pos2] X.env=(false,eval (.Call (.Name y p2) [a] [] pos2) X.env)::starEach [] X.env:=by rfl) (hpl:(backTo pos (starEach [] X.env)).any (·.1)=false:=by rfl)
  (he2:starEach [a] X.env=(false,eval a X.env)::starEach [] X.env:=by rfl) (hpl2:(backTo pos2 (starEach [] X.env)).any (·.1)=false:=by rfl) :
  PE X (.Call (.Name x p) [.Call (.Name y p2) [a] [] pos2] [] pos) (Kp X.K ta):=by
 intro pins s σ H Q I h
 refine wpAny_Call_Name_kw (mz I hg hm hv ?_ hn hdb)
 refine PyProof.Rows.callWith_type1 ?_ he hpl
 rw [he]
 show wpAny _ _ (spliced ((false,eval _ X.env)::backTo pos (starEach [] X.env))) _ _ s
 refine Calls.spliced_cons ?_
 refine wpAny_Call_Name_kw (mz I hg2 hm2 hv2 ?_ hn2 hdb2)
 refine PyProof.Rows.callWith_type1 (thn (dm ha gE he2 pos2 pins s σ H (fun vs H1=>match vs with | [x]=>(∃ q ys,x=V.ref q/\SqL X.K H1 q ys/\∀ l,H1 l=none->Q (.ref l) (upd H1 l (.lst ys.reverse))) | _=>False) I h) fun us s1 ⟨vs,H1,I1,r1,q1⟩=>?_) he2 hpl2
 match vs,r1,q1 with
 | [],_,q1=>exact q1.elim
 | _::_::_,_,q1=>exact q1.elim
 | [v],.cons r .nil,q1 =>
  obtain ⟨q,ys,ev,hq,k⟩:=q1
  subst ev
  cases r
  obtain ⟨its,r',pl,hz⟩:=I1.list hq
  have hlen:=r'.length
  have hql:q < s1.heap.objs.size:=by
   obtain ⟨o,ho,_⟩:=pl.isList
   exact Heap.lt_size ho
  refine call_reversed_list pl.isList ?_
  refine Calls.spliced_nil ?_
  refine pk (it:=s1.heap.objs.size) (l:=q) (I1.ok.hd hc) ⟨_,Heap.get?_push_size _ rfl,rfl,rfl⟩ (pl.isList.at fun o e=>Heap.get?_push_of_some _ e) (by simp only [List.size_toArray]; omega) (Nat.ne_of_lt hql) fun h' tk acc' c' kp e hacc=>?_
  have ea:=xk hacc
  subst ea
  have hS:s1.heap.objs.size<=(s1.heap.push (revObj q ((its.toArray.size:Int) - 1))).objs.size:=Nat.le_of_lt (Nat.lt_of_lt_of_eq (Nat.lt_succ_self _) (Heap.size_push _ _).symm)
  exact ⟨.ref _,_,I1.laid (t':=tk) (fun b o eb=>kp b o (Nat.ne_of_lt (Heap.lt_size eb)) (Heap.get?_push_of_some _ eb)) hS
   (show dA X.prog X.w _ h' _ (.lst ys.reverse) from ⟨by rw [List.length_reverse]; exact hz,its.reverse,c',r'.reverse,e⟩),rfl,k _ (I1.hok.fresh hS)⟩
def zW (f:DE):DE:=fun τ=>(f τ).bind fun x=>match x with
 | .lst ds=>some (.lst ds.reverse)
 | .fz ds=>some (.lst ds.reverse)
 | _=>none
theorem Rps.reverse {K:W.Frag} {H:Hp} {xs:List V} {ds:List D} (h:Rps K H xs ds):Rps K H xs.reverse ds.reverse:=by
 match xs,ds,h with
 | _,_,.nil=>exact .nil
 | _,_,.cons r t =>
  rw [List.reverse_cons,List.reverse_cons]
  exact (Rps.reverse t).append (.cons r .nil)
theorem Ee {f:DE} {x y:Str} (hc:X.calm=true) (hg:Gl X x) (hm:X.mg x=none) (hv:bootBuiltins x=some (.type "list")) (hg2:Gl X y) (hm2:X.mg y=none) (hv2:bootBuiltins y=some (.type "reversed")) (ha:PEd X a f)
  (hn:x≠"__name__":=by decide) (hdb:(x == ("__debug__":Str))=false:=by decide) (hn2:y≠"__name__":=by decide) (hdb2:(y == ("__debug__":Str))=false:=by decide)
  (he:starEach [.Call (.Name y p2) [a] [] pos2] X.env=(false,eval (.Call (.Name y p2) [a] [] pos2) X.env)::starEach [] X.env:=by rfl) (hpl:(backTo pos (starEach [] X.env)).any (·.1)=false:=by rfl)
  (he2:starEach [a] X.env=(false,eval a X.env)::starEach [] X.env:=by rfl) (hpl2:(backTo pos2 (starEach [] X.env)).any (·.1)=false:=by rfl) :
  PEo X (.Call (.Name x p) [.Call (.Name y p2) [a] [] pos2] [] pos) (zW f):=(Ei hc hg hm hv hg2 hm2 hv2 ha hn hdb hn2 hdb2 he hpl he2 hpl2).imp fun σ H Q ⟨H0,Hs,τ,fp,d,st,sm,e,k⟩=>by
 obtain ⟨x,e1,e⟩:=bind_some e
 refine ⟨H0,Hs,τ,fp,x,st,sm,e1,fun v Hs1 H1 g1 r1=>?_⟩
 have fin:∀ (p:Addr) (ys:List V) (ds:List D),H1 p=none->Rps X.K Hs1 ys ds->d=.lst ds->Q (.ref p) (upd H1 p (.lst ys)):=fun p ys ds hp r ed=>by
  subst ed
  exact k p Hs1 _ ⟨g1.ss,g1.sh.trans (aB hp _),g1.hh.trans (aB hp _),g1.fr⟩ (.lst au (g1.sh.free hp) r) (g1.hh.free hp)
 cases r1 with
 | @lst a ys ds h r=>exact ⟨_,_,rfl,SqL.of (g1.sh _ _ h),fun l hl=>fin l _ _ hl r.reverse (Zj e).symm⟩
 | @fz a ys ds h r=>exact ⟨_,_,rfl,g1.sh.seq h,fun l hl=>fin l _ _ hl r.reverse (Zj e).symm⟩
 | _=>exact nn e
end
end L2
end
section
namespace L2
open PySem PySem.Spec PyProof.Rows
section
theorem uM {X:Cx} {a:Expr} {f:DA} {elts:List Expr} {k:Nat} {pt p pos:Pos} (hg:Gl X "enumerate") (hm:X.mg "enumerate"=none) (ha:Bx (PAd X [a] f)) (hs:starEach [a] X.env=[(false,eval a X.env)]:=by rfl):Bx (PId X (.Tuple elts k pt) (.Call (.Name "enumerate" p) [a] [] pos) (qu f)):=⟨zi hg hm ha.out hs⟩
end
section
variable {X:Cx} {a b e o:Expr} {es:List Expr} {pos apos cpos:Pos} {f g:DE}
theorem yi (ho:Bx (PEd X o f)) (he:Bx (PEd X e g)) (hbase:attributeBase o "join" X.env (eval o X.env)=eval o X.env:=by rfl) (hfew:((backTo cpos (starEach [e] X.env)).all (fun x=>!x.1)&&(backToKw cpos (keywordEach [] X.env)).all (fun x=>x.1.isSome)
 && decide ([e].length+([]:List Keyword).length+(if ([]:List Keyword).isEmpty then 0 else 1) < 30))=true:=by rfl) (hline:(apos.endLine == cpos.line)=true:=by rfl) (hst:starEach [e] X.env=(false,eval e X.env)::starEach [] X.env:=by rfl) (hplain:(backTo cpos (starEach [] X.env)).any (·.1)=false:=by rfl):Bx (PEd X (.Call (.Attribute o "join" apos) [e] [] cpos) (xR f g)):=⟨B6 ho.out he.out hbase hfew hline hst hplain⟩
end
section
variable {X:Cx} {a:Expr} {p p2 pos pos2:Pos}
theorem pw {f:DE} {x y:Str} (hc:X.calm=true) (hg:Gl X x) (hm:X.mg x=none) (hv:bootBuiltins x=some (.type "list")) (hg2:Gl X y) (hm2:X.mg y=none) (hv2:bootBuiltins y=some (.type "reversed")) (ha:Bx (PEd X a f)) (hn:x≠"__name__":=by decide) (hdb:(x == ("__debug__":Str))=false:=by decide) (hn2:y≠"__name__":=by decide) (hdb2:(y == ("__debug__":Str))=false:=by decide) (he:starEach [.Call (.Name y p2) [a] [] pos2] X.env=(false,eval (.Call (.Name y p2) [a] [] pos2) X.env)::starEach [] X.env:=by rfl) (hpl:(backTo pos (starEach [] X.env)).any (·.1)=false:=by rfl) (he2:starEach [a] X.env=(false,eval a X.env)::starEach [] X.env:=by rfl) (hpl2:(backTo pos2 (starEach [] X.env)).any (·.1)=false:=by rfl):Bx (PEo X (.Call (.Name x p) [.Call (.Name y p2) [a] [] pos2] [] pos) (zW f)):=⟨Ee hc hg hm hv hg2 hm2 hv2 ha.out hn hdb hn2 hdb2 he hpl he2 hpl2⟩
end
section
variable {X:Cx} {pins:List (Addr×Obj)} {σ:St} {H:Hp}
def mi:List D->Option D
 | [.dct kvs]=>some (.int kvs.length)
 | _=>none
theorem xU:gJ X (.builtin "len") (rdL X.K mi):=by
 intro pins s σ H xs us Q I rr h
 obtain ⟨Hs,ds,d,sm,r,e,k⟩:=h
 match ds,r,e with
 | [x],.cons hx .nil,e =>
  obtain ⟨u,rfl,ru⟩:=vals1 rr
  cases hx with
  | @dct a kvs ds hH rk =>
   have e':D.int ds.length=d:=Zj e
   subst e'
   cases (show u=Value.ref a from ru)
   exact JT I (.inl (sm _ _ hH)) fun t s' I'=>⟨.int kvs.length,H,I',⟨t,rfl⟩,by rw [rk.length]; exact k _ Hs H (.refl sm) (.int _)⟩
  | _=>exact nn e
 | [],_,e=>simp [mi] at e
 | _::_::_,_,e=>simp [mi] at e
end
section
variable {X:Cx} {tg a e:Expr} {p p2 pos pos2:Pos}
def yF (i:Nat) (f:DE):DS:=fun τ=>(f τ).bind fun d=>match d,τ[i]? with
 | .lst es,some (.own (.lst ds))=>if ds.length+es.length<=100000 then some (.next (τ.set i (.own (.lst (ds++es))))) else none
 | _,_=>none
theorem FH {i:Nat} {f:DE} {τ:List Sl} {o:Out} (h:yF i f τ=some o):∃ es ds,f τ=some (.lst es)/\τ[i]?=some (.own (.lst ds))/\ds.length+es.length<=100000/\o=.next (τ.set i (.own (.lst (ds++es)))):=by
 obtain ⟨d,e1,e⟩:=bind_some h
 cases d with
 | lst es =>
  cases q:τ[i]? with
  | none=>rw [q] at e; cases e
  | some s =>
   rw [q] at e
   cases s with
   | own d=>cases d with
    | lst ds =>
     simp only at e
     split at e
     ·rename_i hl
      cases e
      exact ⟨es,ds,e1,rfl,hl,rfl⟩
     · cases e
    | _=>simp at e
   | _=>simp at e
 | _=>simp at e
theorem BJ (i:Nat) {x:Str} {f:DE} {p apos cpos:Pos} (hN:X.N[i]?=some x) (hv:Vis X.env.scope x) (he:PEd X e f) (hd:(x == ("__debug__":Str))=false:=by decide) (hcd:(x == ("__classdict__":Str))=false:=by decide)
   (hbase:attributeBase (.Name x p) "extend" X.env (eval (.Name x p) X.env)=eval (.Name x p) X.env:=by rfl)
   (hfew:((backTo cpos (starEach [e] X.env)).all (fun x=>!x.1)&&(backToKw cpos (keywordEach [] X.env)).all (fun x=>x.1.isSome)
     && decide ([e].length+([]:List Keyword).length+(if ([]:List Keyword).isEmpty then 0 else 1) < 30))=true:=by rfl)
   (hline:(apos.endLine == cpos.line)=true:=by rfl) (hst:starEach [e] X.env=(false,eval e X.env)::starEach [] X.env:=by rfl) (hplain:(backTo cpos (starEach [] X.env)).any (·.1)=false:=by rfl)
   (hs:swapsWith (.Call (.Attribute (.Name x p) "extend" apos) [e] [] cpos) none pos.line X.env=pure false:=by rfl) :
   PSd X (.Expr (.Call (.Attribute (.Name x p) "extend" apos) [e] [] cpos) pos) (yF i f) :=
 (jg (wq PySem.F.plainAttrs_list PySem.F.slot_list_extend PySem.F.type_list_extend wM (fw hN hv hd hcd) (dm he gE hst) hbase hfew hline hst hplain) hs).imp fun E σ H ⟨Hs0,H0,Hs,τ,o,r,e,k⟩=>by
   obtain ⟨es,ds,e1,q,hl,rfl⟩:=FH e
   obtain ⟨fp,h⟩:=r.st
   obtain ⟨a,h1,h2,h3,h4⟩:=h.CW q
   cases h2 with
   | @lst xs _ hH hn hr =>
     refine ⟨_,h1,.inl ⟨rfl,_,SqL.of hH⟩,?_⟩
     refine ⟨H0,Hs,τ,fp,_,h,r.same,e1,fun v Hs' H' g1 rv=>?_⟩
     have hH':=g1.hh _ _ hH
     have h':=h.ext g1
     have n':=g1.fr a hn (ja hH)
     cases rv with
     | @lst b ys _ hB rb =>
      refine ⟨a,b,xs,ys,rfl,rfl,hH',g1.sh _ _ hB,by rw [hr.length,rb.length]; exact w9 hl,?_⟩
      refine k σ Hs' _ ⟨⟨r.ext.ss.trans g1.ss,fun b u z=>?_,fun b u z=>?_,fun b k1 k2=>?_⟩,fp,h'.mut q h1 (.lst au n' ((hr.same g1.ss).append rb))⟩
      ·have ne:b≠a:=fun y=>by subst y; rw [n'] at z; cases z
       rw [ak ne]; exact g1.sh b u z
      ·have ne:b≠a:=fun y=>by subst y; rw [h3] at z; cases z
       rw [ak ne]; exact g1.hh b u (r.ext.hh b u z)
      · exact g1.fr b (r.ext.fr b k1 k2) (r.ext.hh.live k2)
end
def chD (z:Str):List D:=z.cps.toList.map fun c=>D.str ⟨#[c]⟩
def xr (f:DE):DI:=fun τ=>(f τ).bind fun d=>match d with | .str z=>some (chD z) | _=>none
theorem CS {K:W.Frag} {z:Str} {Hs:Hp}:ItR K (Its z) Hs (chD z):=fun Hs1 H g1 g2=>by
 refine ⟨fun i d e=>?_,fun i hi=>?_⟩
 ·unfold chD at e
  rw [List.getElem?_map] at e
  cases q:z.cps.toList[i]? with
  | none=>rw [q] at e; cases e
  | some c =>
   rw [q] at e
   have ed:D.str ⟨#[c]⟩=d:=Zj e
   subst ed
   have hi:i < z.cps.size:=by
    have:=(List.getElem?_eq_some_iff.mp q).1
    simpa using this
   have q':z.cps[i]?=some c:=by rw [<- Array.getElem?_toList]; exact q
   refine ⟨hi,?_⟩
   rintro x H' ⟨rfl,c',hc,rfl⟩
   rw [q'] at hc
   cases hc
   exact ⟨Hs1,.refl g2,.str _⟩
 ·show z.cps.size<=i
  unfold chD at hi
  rw [List.length_map] at hi
  simpa using hi
section
variable {X:Cx} {tg l:Expr} {f g:DE}
theorem BU (h:PEd X l f):PId X tg l (xr f):=(Eg h).imp fun σ H R ⟨H0,Hs,τ,fp,ds,st,sm,e,k⟩=>by
 obtain ⟨x,e1,e2⟩:=bind_some e
 refine ⟨H0,Hs,τ,fp,x,st,sm,e1,fun v Hs' H' g r=>?_⟩
 cases r with
 | str z =>
  have e':chD z=ds:=Zj e2
  subst e'
  exact ⟨z,rfl,k _ Hs' H' g CS⟩
 | _=>exact nn e2
def Gg:D->D->Option D
 | .str i,.str j=>some (.bl (!decide (j.cps.toList < i.cps.toList)))
 | _,_=>none
theorem EL:OpR X (compareOp .LtE) (rdR X.K Gg):=wz.imp fun x y H Q ⟨Hs,dx,dy,d,sm,rx,ry,e,k⟩=>by
 cases rx with
 | str i=>cases ry with
  | str j =>
   have e':D.bl (!decide (j.cps.toList < i.cps.toList))=d:=Zj e
   subst e'
   exact ⟨i,j,rfl,rfl,k _ Hs H (.refl sm) (.bl _)⟩
  | _=>exact nn e
 | _=>cases dy <;> exact nn e
def AW:List D->Option (List Bool)
 | []=>some []
 | .bl b::ds=>(AW ds).map (b::·)
 | _::_=>none
theorem j0:∀ {ds:List D} {bs:List Bool},AW ds=some bs->ds=bs.map .bl
 | [],_,e=>by cases e; rfl
 | .bl b::ds,_,e=>by
  obtain ⟨bs,e1,rfl⟩:=Zm (show (AW ds).map _=_ from e)
  rw [j0 e1]; rfl
theorem Rps.AV {K:W.Frag} {H:Hp}:∀ {bs:List Bool} {xs:List V},Rps K H xs (bs.map D.bl)->xs=bs.map V.bl
 | [],_,.nil=>rfl
 | b::bs,_,.cons h r=>by
  cases h
  rw [Rps.AV r]; rfl
def J8:List D->Option D
 | [.lst ds]=>(AW ds).map fun bs=>.bl (bs.all id)
 | _=>none
theorem JU (hc:X.calm=true):gJ X (.builtin "all") (rdL X.K J8):=(zZ hc).imp fun xs H Q ⟨Hs,ds,d,sm,r,e,k⟩=>by
 match ds,r,e with
 | [x],.cons hx .nil,e =>
  cases hx with
  | @lst a ys ds h r =>
   obtain ⟨bs,e1,e2⟩:=Zm (show (AW ds).map _=some d from e)
   have ed:=j0 e1
   subst ed
   have ey:=r.AV
   subst ey
   subst e2
   exact ⟨a,bs,rfl,SqL.of (sm _ _ h),k _ Hs H (.refl sm) (.bl _)⟩
  | _=>exact nn e
 | [],_,e=>exact nn e
 | x::y::_,_,e=>cases x <;> exact nn e
end
section
variable {X:Cx} {tg a e:Expr} {p p2 pos pos2:Pos}
theorem qK (i:Nat) {x:Str} {f:DE} {p apos cpos:Pos} (hN:X.N[i]?=some x) (hv:Vis X.env.scope x) (he:Bx (PEd X e f)) (hd:(x == ("__debug__":Str))=false:=by decide) (hcd:(x == ("__classdict__":Str))=false:=by decide) (hbase:attributeBase (.Name x p) "extend" X.env (eval (.Name x p) X.env)=eval (.Name x p) X.env:=by rfl) (hfew:((backTo cpos (starEach [e] X.env)).all (fun x=>!x.1)&&(backToKw cpos (keywordEach [] X.env)).all (fun x=>x.1.isSome)
 && decide ([e].length+([]:List Keyword).length+(if ([]:List Keyword).isEmpty then 0 else 1) < 30))=true:=by rfl) (hline:(apos.endLine == cpos.line)=true:=by rfl) (hst:starEach [e] X.env=(false,eval e X.env)::starEach [] X.env:=by rfl) (hplain:(backTo cpos (starEach [] X.env)).any (·.1)=false:=by rfl) (hs:swapsWith (.Call (.Attribute (.Name x p) "extend" apos) [e] [] cpos) none pos.line X.env=pure false:=by rfl):Bx (PSd X (.Expr (.Call (.Attribute (.Name x p) "extend" apos) [e] [] cpos) pos) (yF i f)):=⟨BJ i hN hv he.out hd hcd hbase hfew hline hst hplain hs⟩
end
section
variable {X:Cx} {tg l:Expr} {f g:DE}
theorem yg (h:Bx (PEd X l f)):Bx (PId X tg l (xr f)):=⟨BU h.out⟩
end
theorem oX {κ:Type}:∀ {kvs:List (κ×V)} {vs:List (κ×Value)},KV kvs vs->vs.map (·.1)=kvs.map (·.1)
 | _,_,.nil=>rfl
 | _,_,.cons h r=>by rw [List.map_cons,List.map_cons,oX r,h.1]
def vF:V->List V->Hp->VK->Prop:=fun x vs H Q=>∃ l xs i y,x=.ref l/\vs=[.int i,y]/\H l=some (.lst xs)/\0<=i/\i<=xs.length/\xs.length < sizeLine/\i < 2 ^ 62/\Q .non (upd H l (.lst (xs.take i.toNat++y::xs.drop i.toNat)))
section
variable {X:Cx}
theorem wL:MtM X "list.insert" vF:=by
 intro pins s σ H x vs v us Q I rx rv h
 obtain ⟨l,xs,i,y,rfl,rfl,hH,h0,h1,hz,h62,q⟩:=h
 cases rx
 cases rv with
 | cons ri rv=>cases rv with
  | cons ry rv =>
 cases rv
 obtain ⟨t,rfl⟩:=ri
 rename_i u
 obtain ⟨z,its,n,r,hl,e⟩:=I.AF hH
 refine call_meets F.slot_list_insert ⟨_,e,rfl⟩ F.entry_list_insert (F.args_list_insert_3 _ _ _) (PySem.AutoSeq1.list_insert_list_int_val_1 l its.toArray n i t u (by rw [fitsIndex_both (by omega) (by omega)]; simp) (by rw [List.size_toArray]; omega)) ⟨e,?_⟩
 refine ⟨.non,_,I.E4 (its':=its.take i.toNat++u::its.drop i.toNat) hH e ?_ ((r.take _).append (.cons ry (r.drop _))) ?_,rfl,q⟩
 · have hk:(if i < 0 then (i+(its.toArray.size:Int)).toNat else min i.toNat its.toArray.size)=i.toNat:=by
    rw [if_neg (by omega),List.size_toArray]
    omega
   show (its.toArray.extract 0 (if i < 0 then (i+(its.toArray.size:Int)).toNat else min i.toNat its.toArray.size)).push u++its.toArray.extract (if i < 0 then (i+(its.toArray.size:Int)).toNat else min i.toNat its.toArray.size)=_
   rw [hk]
   exact PySem.W.kl_ins_eq its i.toNat u
 · rw [List.length_append,List.length_cons,List.length_take,List.length_drop]; omega
theorem En {KK:W.Frag} (hK:X.K=KK) {o i e:Expr} {apos cpos:Pos} {to ti te:TE} (ho:PE X o to) (hi:PE X i ti) (he:PE X e te)
  (hbase:attributeBase o "insert" X.env (eval o X.env)=eval o X.env:=by rfl)
  (hfew:((backTo cpos (starEach [i,e] X.env)).all (fun x=>!x.1)&&(backToKw cpos (keywordEach [] X.env)).all (fun x=>x.1.isSome)
    && decide ([i,e].length+([]:List Keyword).length+(if ([]:List Keyword).isEmpty then 0 else 1) < 30))=true:=by rfl)
  (hline:(apos.endLine == cpos.line)=true:=by rfl) (hst:starEach [i,e] X.env=(false,eval i X.env)::starEach [e] X.env:=by rfl) (hst2:starEach [e] X.env=(false,eval e X.env)::starEach [] X.env:=by rfl) (hplain:(backTo cpos (starEach [e] X.env)).any (·.1)=false:=by rfl) :
  PE X (.Call (.Attribute o "insert" apos) [i,e] [] cpos) (tBM KK "list" vF to (t6 ti (t6 te Ga))):=by
 subst hK
 exact wq PySem.F.plainAttrs_list PySem.F.slot_list_insert PySem.F.type_list_insert wL ho (dm hi (dm he gE hst2) hst) hbase hfew hline hst hplain
theorem Ce:OpR X (compareOp .IsNot) (fun x y H Q=>∃ b c,x=.bl b/\y=.bl c/\Q (.bl (!(b == c))) H):=by
 intro pins s σ H x y v u Q I rx ry h
 obtain ⟨b,c,rfl,rfl,q⟩:=h
 cases rx
 cases ry
 exact wpAny_pure ⟨.bl (!(b == c)),H,I,(by cases b <;> cases c <;> rfl),q⟩
end
def ItK (d:Addr) (o:Obj) (kvs:List (Key×V)):It where
 go:=fun i H=>H d=some (.frz o (.dK kvs))/\i < kvs.length
 yld:=fun i H v H'=>H'=H/\∃ k w,kvs[i]?=some (k,w)/\v=kV k
 stop:=fun i H=>H d=some (.frz o (.dK kvs))/\kvs.length<=i
section
variable {X:Cx} {pins:List (Addr×Obj)} {σ:St} {H:Hp} {s:Shared}
theorem Inv.freeze {d:Addr} {kvs:List (Key×V)} {o:Obj} (I:Inv X pins σ H s) (hd:H d=some (.dK kvs)) (ho:s.heap.get? d=some o):Inv X pins σ (upd H d (.frz o (.dK kvs))) s:=by
 have ne:∀ b u,H b=some u->(∀ k,u≠.dK k)->b≠d:=fun b u e n z=>by rw [z,hd] at e; cases e; exact n _ rfl
 have n0:∀ b,H b=none->b≠d:=fun b e z=>by rw [z,hd] at e; cases e
 refine I.un (h':=s.heap) (t':=s.toks) ⟨fun b o e _ _ _=>e,fun b o e _ _ _=>⟨o.slots,e⟩,fun b o _ z _=>by rw [ak (n0 b z)]; exact z,fun b o e _=>⟨o,e⟩,fun b xs e=>by rw [ak (ne b _ e fun _ y=>nomatch y)]; exact e,fun b o xs e=>by rw [ak (ne b _ e fun _ y=>nomatch y)]; exact e,fun b ps e=>⟨#[],by rw [ak (ne b _ e fun _ y=>nomatch y),e]; simp⟩⟩ fun b u e=>?_
 by_cases z:b=d
 ·subst z
  rw [au] at e
  cases e
  exact ⟨ho,I.hok b _ hd⟩
 ·rw [ak z] at e
  exact (I.hok b u e).yq (fun _ _ _ q=>q) (fun c q=>by rw [ak (ne c _ q fun _ y=>nomatch y)]; exact q) fun c xs q=>by rw [ak (ne c _ q fun _ y=>nomatch y)]; exact q
theorem Inv.Kn {d:Addr} {kvs:List (Key×V)} {o:Obj} (I:Inv X pins σ H s) (hd:H d=some (.frz o (.dK kvs))) (h0:∀ o' u',X.H₀ d≠some (.frz o' u')):Inv X pins σ (upd H d (.dK kvs)) s:=by
 have ne:∀ b u,H b=some u->(∀ o k,u≠.frz o k)->b≠d:=fun b u e n z=>by rw [z,hd] at e; cases e; exact n _ _ rfl
 have n0:∀ b,H b=none->upd H d (.dK kvs) b=none:=fun b e=>by rw [ak (fun z=>by rw [z,hd] at e; cases e)]; exact e
 refine ⟨I.ok,I.os,I.bare,⟨I.base.keep,I.base.slot,fun b ob e z hx=>n0 b (I.base.free b ob e z hx),I.base.there,fun b xs e=>?_,fun b ob xs e=>?_,fun b ps e=>?_⟩,I.loc,I.cell,n0 _ I.free,fun x c e=>n0 _ (I.mK x c e),fun p hp=>⟨(I.pin p hp).1,n0 _ (I.pin p hp).2.1,(I.pin p hp).2.2⟩,fun b u e=>?_,I.len⟩
 ·have q:=I.base.vg b xs e
  rw [ak (ne b _ q fun _ _ y=>nomatch y)]; exact q
 ·have q:=I.base.uZ b ob xs e
  rw [ak (fun z=>h0 _ _ (by rw [<- z]; exact e))]; exact q
 ·obtain ⟨more,q⟩:=I.base.vj b ps e
  exact ⟨more,by rw [ak (ne b _ q fun _ _ y=>nomatch y)]; exact q⟩
 ·by_cases z:b=d
  ·subst z
   rw [au] at e
   cases e
   exact (I.hok b _ hd).2
  ·rw [ak z] at e
   exact (I.hok b u e).yq (fun _ _ _ q=>q) (fun c q=>by rw [ak (ne c _ q fun _ _ y=>nomatch y)]; exact q) fun c xs q=>by rw [ak (ne c _ q fun _ _ y=>nomatch y)]; exact q
end
theorem vf {P:Program} {w:World} {K:W.Frag} {tg:Expr} (d it:Addr) (o:Obj) (kvs:List (Key×V)) (es:Array DictEntry) (ep:Nat) (hdat:o.data=.dict es ep):Turn P w K tg (ItK d o kvs) [it] it (fun i h=>h.IsKeyIter it d i kvs.length ep) where
 mem:=by simp
 obj:=fun i h st b hb=>by
  have e:b=it:=by simpa using hb
  subst e
  obtain ⟨o,e,c,d⟩:=st
  exact ⟨o,e,fun v z=>by rw [d] at z; cases z⟩
 keep:=fun i h h' st k=>by
  obtain ⟨o,e,r⟩:=st
  exact ⟨o,k it (by simp) o e,r⟩
 item:=by
  intro X hP hw hK hc i pins s σ H E I hf st hg
  subst hP hw hK
  obtain ⟨hd,hi⟩:=hg
  obtain ⟨g,ok⟩:=I.hok d _ hd
  obtain ⟨sz,lo,vs,kv,o',es',ep',h1,h2,h3,h4⟩:=ok
  rw [g] at h1
  cases h1
  rw [hdat] at h3
  cases h3
  have lv:vs.length=kvs.length:=kv.length.symm
  have dat:s.heap.DictAt (bO X.prog X.w) d vs ep:=⟨o,es,g,h2,hdat,h4⟩
  obtain ⟨f0,f1,f2,f3,f4,f5⟩:=hf it (by simp)
  have hx:vs[i]?=some (vs[i]'(by omega)):=List.getElem?_eq_getElem (by omega)
  have hk:(kvs[i]'hi).1=(vs[i]'(by omega)).1:=by
   have e1:(vs.map (·.1))[i]?=(kvs.map (·.1))[i]?:=by rw [oX kv]
   rw [List.getElem?_map,List.getElem?_map,hx,List.getElem?_eq_getElem hi] at e1
   exact (Zj e1).symm
  refine wpAny_pyNext_dict_item (k:=(vs[i]'(by omega)).1) (v:=(vs[i]'(by omega)).2) (by rw [lv]; exact st) dat hx fun key h' ik st' sb=>?_
  have I1:Inv X pins σ H { s with heap:=h' }:=I.turned (t':=s.toks) (fun b o hb e=>(sb.2 b hb).trans e) f0 f1 f3 f4 f5
  obtain ⟨o2,e2,c2,d2⟩:=id st'
  rw [lv] at st'
  refine ⟨key,rfl,xw (s:={ s with heap:=h' }) e2 c2 d2 (by decide) ⟨kV (kvs[i]'hi).1,H,I1,?_,⟨rfl,_,_,List.getElem?_eq_getElem hi,rfl⟩,st',fun b hb=>(hf b hb).1⟩⟩
  rw [hk]
  rcases bp (show oY _ key=true from ik) with ⟨j,t,e4,e5⟩ | ⟨y,t,e4,e5⟩
  · rw [e4,e5]; exact ⟨t,rfl⟩
  · rw [e4,e5]; exact ⟨t,rfl⟩
 done:=by
  intro X hP hw hK hc i pins s σ H E I hf st hg
  subst hP hw hK
  obtain ⟨hd,hi⟩:=hg
  obtain ⟨g,ok⟩:=I.hok d _ hd
  obtain ⟨sz,lo,vs,kv,o',es',ep',h1,h2,h3,h4⟩:=ok
  rw [g] at h1
  cases h1
  rw [hdat] at h3
  cases h3
  have lv:vs.length=kvs.length:=kv.length.symm
  have dat:s.heap.DictAt (bO X.prog X.w) d vs ep:=⟨o,es,g,h2,hdat,h4⟩
  obtain ⟨f0,f1,f2,f3,f4,f5⟩:=hf it (by simp)
  exact wpAny_pyNext_dict_end (I.ok.hd hc) (by rw [lv]; exact st) dat (List.getElem?_eq_none (by omega)) fun h' eb=>⟨rfl,I.turned (t':=s.toks) (fun b o hb e=>eb b o hb e) f0 f1 f3 f4 f5⟩
 self:=fun _ _ _ _ _ st h=>wpAny_pyIter_keyiter st h
def Fn (td:TE):TI:=fun σ H R=>td σ H fun v H1=>∃ d kvs,v=.ref d/\H1 d=some (.dK kvs)/\∀ o,R (ItK d o kvs) (upd H1 d (.frz o (.dK kvs)))
theorem rD {X:Cx} {tg l:Expr} {tl:TE} (hl:PE X l tl):PI X tg l (Fn tl):=by
 intro pins s σ H R I h
 refine thn (hl pins s σ H _ I h) fun v s1 ⟨x,H1,I1,r1,q1⟩=>?_
 obtain ⟨d,kvs,e,hd,q⟩:=q1
 subst e
 cases r1
 obtain ⟨sz,lo,vs,kv,o,es,ep,h1,h2,h3,h4⟩:=xH I1.hok hd
 have lv:vs.length=kvs.length:=kv.length.symm
 refine wpAny_pyIter_dict lo ⟨o,es,h1,h2,h3,h4⟩ ?_
 have I2:=(I1.freeze hd h1).kept (t':=s1.toks) (h':=s1.heap.push { cls:=.type "dict_keyiterator",data:=.fields #[.ref d,.int 0 0,.int vs.length 0,.int ep 0] }) fun b o e=>Heap.get?_push_of_some _ e
 refine ⟨s1.heap.objs.size,[s1.heap.objs.size],_,_,_,rfl,I2,vf d _ o kvs es ep h3,⟨_,Heap.get?_push_size _ rfl,rfl,by rw [lv]; rfl⟩,fun b hb=>?_,q o⟩
 have e:b=s1.heap.objs.size:=by simpa using hb
 subst e
 exact (I1.freeze hd h1).u0 (Nat.le_refl _) ((I1.freeze hd h1).hok.fresh (Nat.le_refl _))
def DF (H0:Hp) (t:TS):TS:=fun D σ H=>t { D with nx:=fun σ1 H1=>∃ d o kvs,H1 d=some (.frz o (.dK kvs))/\(∀ o' u',H0 d≠some (.frz o' u'))/\D.nx σ1 (upd H1 d (.dK kvs)) } σ H
theorem rB {X:Cx} {st:Stmt} {t:TS} (h:PS X st t):PS X st (DF X.H₀ t):=by
 intro pins s σ H D I hh
 refine wpAny_mono (h pins s σ H _ I hh) (fun f s1 q=>?_) fun _ _ z=>z
 cases f with
 | next =>
  obtain ⟨σ',H',I',d,o,kvs,hd,h0,q⟩:=q
  exact ⟨σ',_,I'.Kn hd h0,q⟩
 | ret v=>exact q
 | brk=>exact q
 | cont=>exact q
def sca:D->Bool
 | .non=>true | .bl _=>true | .int _=>true | .str _=>true | .ty _=>true | _=>false
theorem nM {K:W.Frag} {H H':Hp} {v:V} {d:D} (h:Rp K H v d) (e:sca d=true):Rp K H' v d:=by
 cases h <;> first | exact .non | exact .bl _ | exact .int _ | exact .str _ | exact .ty _ | (simp [sca] at e)
theorem kl {K:W.Frag} {H H':Hp} {vs:List V} {ds:List D} (h:Rps K H vs ds):ds.all sca=true->Rps K H' vs ds:=by
 induction ds generalizing vs with
 | nil=>intro _; cases h; exact .nil
 | cons d ds ih =>
  intro e
  cases h with
  | cons h r =>
   rw [List.all_cons,Bool.and_eq_true] at e
   exact .cons (nM h e.1) (ih r e.2)
def toM:Sm->Option Mt
 | .shr d=>some (.s d)
 | .mu false m=>some m
 | _=>none
def KD (N:Hp) (K:W.Frag) (f:DEm):TE:=fun σ H Q=>∃ (Hs0 H0:Hp),∃ (_:Nf N H0),∃ ρ Hs τ s τ',bF K Hs0 H0 ρ Hs H σ τ/\f τ=some (s,τ')/\∀ v Hs' H',bY H H'->bF K Hs0 H0 (none::ρ) Hs' H' (some v::σ) (s::τ')->Q v H'
def PVm (X:Cx) (e:Expr) (f:DEm):Prop:=PE X e (KD X.H₀ X.K f)
def eS (g:DE):DEm:=fun τ=>(g (bB τ)).bind fun d=>if sca d=true then some (.shr d,τ) else none
def eN (g:DE):DEm:=fun τ=>(g (er τ)).map fun d=>(.shr d,τ)
def lM (ds:List D):Mt:=.n .l (ds.map fun d=>(.inl 0,.s d))
def eO (g:DE):DEm:=fun τ=>(g (bB τ)).bind fun d=>match d with
 | .lst ds=>if ds.all sca=true then some (.mu false (lM ds),τ) else none
 | _=>none
def eV (i:Nat):DEm:=fun τ=>match τ[i]? with
 | some (.mu false m)=>some (.mu false m,τ.set i .no)
 | some (.shr d)=>some (.shr d,τ)
 | _=>none
section
variable {K:W.Frag} {Hs0 H0 Hs H Hs' H':Hp} {ρ:List (Option Addr)} {σ:St} {τ:List Sm}
theorem bF.push {v:V} {d:D} (r:bF K Hs0 H0 ρ Hs H σ τ) (h:Rp K Hs v d):bF K Hs0 H0 (none::ρ) Hs H (some v::σ) (.shr d::τ):=⟨r.ext,let ⟨fp,s⟩:=r.st; ⟨fp,.shr h s⟩⟩
theorem bF.pop {p:Option Addr} {v:Option V} {s:Sm} (r:bF K Hs0 H0 (p::ρ) Hs H (v::σ) (s::τ)):bF K Hs0 H0 ρ Hs H σ τ:=⟨r.ext,by
 obtain ⟨fp,s⟩:=r.st
 cases s with
 | no r=>exact ⟨_,r⟩
 | shr h r=>exact ⟨_,r⟩
 | mu h hp z j r=>exact ⟨_,r⟩⟩
theorem bF.old (r:bF K Hs0 H0 ρ Hs H σ τ) {p:Addr} (h:H p=none):H0 p=none:=r.ext.hh.free h
theorem StM.new {fp:List Addr} (h:StM K H0 Hs H ρ σ τ fp) {p:Addr} (hp:H p=none):p ∉ fp:=fun q=>(h.live p q).2.1 hp
theorem Lr {i:Nat} {d:D} {fp:List Addr} (h:StM K H0 Hs H ρ σ τ fp) (e:τ[i]?=some (.shr d)):∃ v,σ[i]?=some (some v)/\Rp K Hs v d:=h.er.get (by rw [List.getElem?_map,e]; rfl)
theorem JE {vs:List V} {ds:List D} (h:Rps K Hs vs ds):∃ ts:List Kd,(ts.map Kd.kv).map (·.2)=vs/\ts.map Kd.km=ds.map (fun d=>((.inl 0:Key),Mt.s d))/\ts.flatMap Kd.fp=[]/\∀ H,∀ c ∈ ts,Od K Hs H c.fp c.v c.m:=by
 induction ds generalizing vs with
 | nil=>cases h; exact ⟨[],rfl,rfl,rfl,fun _ c hc=>by cases hc⟩
 | cons d ds ih =>
  cases h with
  | @cons x _ _ _ h r =>
   obtain ⟨ts,h1,h2,h3,h4⟩:=ih r
   refine ⟨⟨.inl 0,x,.s d,[]⟩::ts,by rw [List.map_cons,List.map_cons,h1],by rw [List.map_cons,List.map_cons,h2],by rw [List.flatMap_cons,h3]; rfl,fun H c hc=>?_⟩
   rcases List.mem_cons.mp hc with rfl | hc
   · exact .s h
   · exact h4 H c hc
theorem Od.lst {a:Addr} {vs:List V} {ds:List D} (h:H a=some (.lst vs)) (n:Hs a=none) (r:Rps K Hs vs ds):Od K Hs H [a] (.ref a) (lM ds):=by
 obtain ⟨ts,h1,h2,h3,h4⟩:=JE r
 have:=Od.n (K:=K) (Hs:=Hs) (H:=H) (a:=a) (dx:=0) (t:=.l) (ts:=ts) (u:=.lst vs) h (by rw [<- h1]; exact .l _) n trivial (by rw [h3]; simp) (h4 H)
 rw [h2,h3] at this
 exact this
theorem bF.Br {v:V} {m:Mt} {fq:List Addr} (r:bF K Hs0 H0 ρ Hs H σ τ) (g:bY H H') (h:Od K Hs H' fq v m) (z:∀ c ∈ fq,H c=none):bF K Hs0 H0 (none::ρ) Hs H' (some v::σ) (.mu false m::τ):=by
 obtain ⟨fp,s⟩:=r.st
 exact ⟨(r.grow g).ext,fq++fp,.mu h (fun e=>by cases e) (fun c hc=>r.old (z c hc)) (fun c hc=>s.new (z c hc)) (s.ext ⟨.refl _,r.ext.sh.trans g,g,fun _ h _=>h⟩)⟩
theorem bF.into {v:V} {s:Sm} {i:Nat} (r:bF K Hs0 H0 (none::ρ) Hs H (some v::σ) (s::τ)) (hf:i < τ.length) (hs:(toM s).isSome=true):bF K Hs0 H0 ρ Hs H (σ.set i (some v)) (τ.set i s):=⟨r.ext,by
 obtain ⟨fp,st⟩:=r.st
 cases st with
 | no r=>cases hs
 | shr h s=>obtain ⟨fp',h1,_⟩:=s.uW (i:=i) h; exact ⟨fp',h1⟩
 | @mu p v b m ρ σ τ fq fp h hp z j s =>
  cases b with
  | true=>cases hs
  | false=>obtain ⟨fp',h1,_⟩:=s.setM (i:=i) h (fun c hc=>⟨z c hc,j c hc⟩) hf; exact ⟨fp',h1⟩⟩
theorem ox {ts' ts:List Kd} (h:ts'.Sublist ts):(ts'.flatMap Kd.fp).Sublist (ts.flatMap Kd.fp):=by
 induction h with
 | slnil=>exact .slnil
 | cons a _ ih=>rw [List.flatMap_cons]; exact ih.trans (List.sublist_append_right _ _)
 | cons_cons a _ ih=>rw [List.flatMap_cons,List.flatMap_cons]; exact (List.Sublist.refl _).append ih
theorem StM.node {i:Nat} {q:List Stp} {t:Tg} {cs:List (Key×Mt)} {rt v1:V} {fp:List Addr} (rx:Ext Hs0 H0 Hs H) (st:StM K H0 Hs H ρ σ τ fp) (hg:bE τ i q=some (.n t cs)) (hi:σ[i]?=some (some rt)) (hv:vAt H rt q=some v1) :
  ∃ a dx ts u,v1=.ref a/\cs=ts.map Kd.km/\H a=some u/\Lay t dx (ts.map Kd.kv) u/\KU t ts/\Hs a=none/\H0 a=none /\
  (∀ fq l1 (k:Kd) l2 u',(l1++l2).Sublist ts->k.fp=fq->Od K Hs H fq k.v k.m->(∀ c ∈ fq,H0 c=none/\c ∉ fp)->Lay t dx ((l1++k::l2).map Kd.kv) u'->KU t (l1++k::l2)->bF K Hs0 H0 ρ Hs (upd H a u') σ (fk τ i q (.n t ((l1++k::l2).map Kd.km)))) /\
  (∀ ts' u',ts'.Sublist ts->Lay t dx (ts'.map Kd.kv) u'->KU t ts'->bF K Hs0 H0 ρ Hs (upd H a u') σ (fk τ i q (.n t (ts'.map Kd.km)))):=by
 unfold bE at hg
 split at hg
 ·rename_i b m em
  obtain ⟨v,fp1,v1',w1,w2,w3,w4,w5⟩:=st.uV em hg
  rw [hi] at w1
  cases w1
  rw [hv] at w2
  cases w2
  obtain ⟨a,dx,ts,u,rfl,rfl,rfl,ha,hl,nh,ku,nd,rr⟩:=w3.inv
  have afp:a ∈ fp:=w4 a (List.mem_cons_self ..)
  have h0:=(st.live a afp).2.2
  have ep:∀ m2,fk τ i q m2=τ.set i (.mu b (m.put q m2)):=fun m2=>by unfold fk; rw [em]
  have ex:∀ u',Ext Hs0 H0 Hs (upd H a u'):=fun u'=>by
   refine ⟨rx.ss,fun c o e=>?_,fun c o e=>?_,rx.fr⟩
   · rw [ak (fun z=>by rw [z,nh] at e; cases e)]; exact rx.sh c o e
   · rw [ak (fun z=>by rw [z,h0] at e; cases e)]; exact rx.hh c o e
  have nd1:=List.nodup_cons.mp nd
  refine ⟨a,dx,ts,u,rfl,rfl,ha,hl,ku,nh,h0,fun fq l1 k l2 u' hsub hk hod hz hl' ku'=>?_,fun ts' u' hsub hl' ku'=>?_⟩
  ·subst hk
   have zz:=hz
   have sf:=ox hsub
   rw [List.flatMap_append] at sf
   have nd2:=nd1.2.sublist sf
   rw [List.nodup_append] at nd2
   have inl:∀ c,c ∈ l1.flatMap Kd.fp\/c ∈ l2.flatMap Kd.fp->c ∈ fp:=fun c hc=>w4 c (List.mem_cons_of_mem _ (sf.subset (List.mem_append.mpr hc)))
   have nda:(a::(l1.flatMap Kd.fp++(k.fp++l2.flatMap Kd.fp))).Nodup:=nO (fun z=>nd1.1 (sf.subset (List.mem_append_left _ z))) (fun z=>(zz a z).2 afp) (fun z=>nd1.1 (sf.subset (List.mem_append_right _ z))) hod.nd (fun c hc=>⟨fun z=>(zz c hc).2 (inl c (.inl z)),fun z=>(zz c hc).2 (inl c (.inr z))⟩) nd2.1 nd2.2.1 fun c hc z=>nd2.2.2 c hc c z rfl
   have nda':(a::(l1++k::l2).flatMap Kd.fp).Nodup:=by rw [List.flatMap_append,List.flatMap_cons]; exact nda
   have od:Od K Hs (upd H a u') (a::(l1++k::l2).flatMap Kd.fp) (.ref a) (.n t ((l1++k::l2).map Kd.km)):=by
    refine .n au hl' nh ku' nda' fun c hc=>?_
    have off:∀ fp',Od K Hs H fp' c.v c.m->a ∉ fp'->Od K Hs (upd H a u') fp' c.v c.m:=fun fp' o n=>o.mv (.refl _) fun x hx=>⟨(o.live x hx).1,ak fun z=>n (z ▸ hx)⟩
    have na:a ∉ c.fp:=fun z=>(List.nodup_cons.mp nda').1 (List.mem_flatMap.mpr ⟨c,hc,z⟩)
    rcases List.mem_append.mp hc with hc | hc
    · exact off _ (rr c (hsub.subset (List.mem_append_left _ hc))) na
    ·rcases List.mem_cons.mp hc with rfl | hc
     · exact off _ hod na
     · exact off _ (rr c (hsub.subset (List.mem_append_right _ hc))) na
   obtain ⟨fp',s',_⟩:=w5 Hs (upd H a u') _ _ (.refl _) (fun c hc hn=>⟨(st.live c hc).1,ak fun z=>hn (by rw [z]; exact List.mem_cons_self ..)⟩) od fun c hc=>by
    rcases List.mem_cons.mp hc with rfl | hc
    · exact .inl (List.mem_cons_self ..)
    ·rw [List.flatMap_append,List.flatMap_cons,List.mem_append,List.mem_append] at hc
     rcases hc with hc | hc | hc
     · exact .inl (List.mem_cons_of_mem _ (sf.subset (List.mem_append_left _ hc)))
     · exact .inr ⟨(zz c hc).2,(zz c hc).1⟩
     · exact .inl (List.mem_cons_of_mem _ (sf.subset (List.mem_append_right _ hc)))
   exact ⟨ex u',fp',by rw [ep]; exact s'⟩
  ·have sf:=ox hsub
   have nda':(a::ts'.flatMap Kd.fp).Nodup:=List.nodup_cons.mpr ⟨fun z=>nd1.1 (sf.subset z),nd1.2.sublist sf⟩
   have od:Od K Hs (upd H a u') (a::ts'.flatMap Kd.fp) (.ref a) (.n t (ts'.map Kd.km)):=by
    refine .n au hl' nh ku' nda' fun c hc=>?_
    have o:=rr c (hsub.subset hc)
    exact o.mv (.refl _) fun x hx=>⟨(o.live x hx).1,ak fun z=>(List.nodup_cons.mp nda').1 (List.mem_flatMap.mpr ⟨c,hc,z ▸ hx⟩)⟩
   obtain ⟨fp',s',_⟩:=w5 Hs (upd H a u') _ _ (.refl _) (fun c hc hn=>⟨(st.live c hc).1,ak fun z=>hn (by rw [z]; exact List.mem_cons_self ..)⟩) od fun c hc=>by
    rcases List.mem_cons.mp hc with rfl | hc
    · exact .inl (List.mem_cons_self ..)
    · exact .inl (List.mem_cons_of_mem _ (sf.subset hc))
   exact ⟨ex u',fp',by rw [ep]; exact s'⟩
 · cases hg
theorem bF.zC {i:Nat} {q:List Stp} {t:Tg} {cs:List (Key×Mt)} {rt v1 v:V} {s:Sm} {mv:Mt} (r:bF K Hs0 H0 (none::ρ) Hs H (some v::σ) (s::τ)) (hs:toM s=some mv) (hg:bE τ i q=some (.n t cs)) (hi:σ[i]?=some (some rt)) (hv:vAt H rt q=some v1) :
  ∃ a dx ts u fv,v1=.ref a/\cs=ts.map Kd.km/\H a=some u/\Lay t dx (ts.map Kd.kv) u/\KU t ts /\
  ∀ l1 kk l2 u',(l1++l2).Sublist ts->Lay t dx ((l1++⟨kk,v,mv,fv⟩::l2).map Kd.kv) u'->KU t (l1++⟨kk,v,mv,fv⟩::l2)->bF K Hs0 H0 ρ Hs (upd H a u') σ (fk τ i q (.n t ((l1++⟨kk,v,mv,fv⟩::l2).map Kd.km))):=by
 obtain ⟨fp0,st⟩:=r.st
 cases st with
 | no st=>cases hs
 | shr h st =>
  cases hs
  obtain ⟨a,dx,ts,u,h1,h2,h3,h4,h5,h6,h7,h8,_⟩:=StM.node r.ext st hg hi hv
  exact ⟨a,dx,ts,u,[],h1,h2,h3,h4,h5,fun l1 kk l2 u' e1 e2 e3=>h8 [] l1 ⟨kk,v,_,[]⟩ l2 u' e1 rfl (.s h) (fun c hc=>by cases hc) e2 e3⟩
 | @mu p v b m ρ σ τ fq fp h hp z j st =>
  cases b with
  | true=>cases hs
  | false =>
   cases hs
   obtain ⟨a,dx,ts,u,h1,h2,h3,h4,h5,h6,h7,h8,_⟩:=StM.node r.ext st hg hi hv
   exact ⟨a,dx,ts,u,fq,h1,h2,h3,h4,h5,fun l1 kk l2 u' e1 e2 e3=>h8 fq l1 ⟨kk,v,_,fq⟩ l2 u' e1 rfl h (fun c hc=>⟨z c hc,j c hc⟩) e2 e3⟩
end
theorem fM {τ:List Sm} {i:Nat} {q:List Stp} {m1:Mt} (h:bE τ i q=some m1):∃ b m,τ[i]?=some (.mu b m)/\m.get q=some m1:=by
 unfold bE at h
 split at h
 · exact ⟨_,_,‹_›,h⟩
 · cases h
theorem xx {st:Stp}:∀ (q:List Stp) {m m2:Mt},m.get (q++[st])=some m2->∃ m1,m.get q=some m1/\m1.get [st]=some m2
 | [],m,m2,h=>⟨m,by cases m <;> rfl,h⟩
 | s::q,.s d,m2,h=>by cases h
 | s :: q,.n t cs,m2,h=>by
  have h':(match wg t cs s with | none=>none | some i=>match cs[i]? with | none=>none | some c=>Mt.get c.2 (q++[st]))=some m2:=h
  cases e1:wg t cs s with
  | none=>rw [e1] at h'; cases h'
  | some i =>
   rw [e1] at h'
   cases e2:cs[i]? with
   | none=>simp only [e2] at h'; cases h'
   | some c =>
    simp only [e2] at h'
    obtain ⟨m1,h1,h2⟩:=xx q h'
    refine ⟨m1,?_,h2⟩
    show (match wg t cs s with | none=>none | some i=>match cs[i]? with | none=>none | some c=>Mt.get c.2 q)=some m1
    simp only [e1,e2]
    exact h1
theorem oq {H:Hp} {st:Stp}:∀ (q:List Stp) {v v1:V},vAt H v q=some v1->vAt H v (q++[st])=vAt H v1 [st]
 | [],v,v1,h=>by
  have e:v=v1:=by cases v <;> exact Zj h
  rw [e]; rfl
 | .k k::q,v,v1,h=>by
  cases v with
  | ref a =>
   have h':(match H a with | some (.ins _ _ fs)=>(dD (fs.map fun (f:Str×V)=>((Sum.inr f.1:Key),f.2)) k).bind fun v=>vAt H v q | some (.dK kvs)=>(dD kvs k).bind fun v=>vAt H v q | _=>none)=some v1:=h
   show (match H a with | some (.ins _ _ fs)=>(dD (fs.map fun (f:Str×V)=>((Sum.inr f.1:Key),f.2)) k).bind fun v=>vAt H v (q++[st]) | some (.dK kvs)=>(dD kvs k).bind fun v=>vAt H v (q++[st]) | _=>none)=_
   split at h'
   ·obtain ⟨w,h1,h2⟩:=bind_some h'
    rw [h1]; exact oq q h2
   ·obtain ⟨w,h1,h2⟩:=bind_some h'
    rw [h1]; exact oq q h2
   · cases h'
  | _=>cases h
 | .i n::q,v,v1,h=>by
  cases v with
  | ref a =>
   have h':(match H a with | some (.lst xs)=>(xs[n]?).bind fun v=>vAt H v q | _=>none)=some v1:=h
   show (match H a with | some (.lst xs)=>(xs[n]?).bind fun v=>vAt H v (q++[st]) | _=>none)=_
   split at h'
   ·obtain ⟨w,h1,h2⟩:=bind_some h'
    rw [h1]; exact oq q h2
   · cases h'
  | _=>cases h
theorem dO {H H':Hp} (g:bY H H'):∀ (q:List Stp) {v v1:V},vAt H v q=some v1->vAt H' v q=some v1
 | [],v,v1,h=>by cases v <;> exact h
 | .k k::q,v,v1,h=>by
  cases v with
  | ref a =>
   have h':(match H a with | some (.ins _ _ fs)=>(dD (fs.map fun (f:Str×V)=>((Sum.inr f.1:Key),f.2)) k).bind fun v=>vAt H v q | some (.dK kvs)=>(dD kvs k).bind fun v=>vAt H v q | _=>none)=some v1:=h
   show (match H' a with | some (.ins _ _ fs)=>(dD (fs.map fun (f:Str×V)=>((Sum.inr f.1:Key),f.2)) k).bind fun v=>vAt H' v q | some (.dK kvs)=>(dD kvs k).bind fun v=>vAt H' v q | _=>none)=_
   split at h'
   ·rename_i e
    obtain ⟨w,h1,h2⟩:=bind_some h'
    simp only [g _ _ e]
    rw [h1]; exact dO g q h2
   ·rename_i e
    obtain ⟨w,h1,h2⟩:=bind_some h'
    simp only [g _ _ e]
    rw [h1]; exact dO g q h2
   · cases h'
  | _=>cases h
 | .i n::q,v,v1,h=>by
  cases v with
  | ref a =>
   have h':(match H a with | some (.lst xs)=>(xs[n]?).bind fun v=>vAt H v q | _=>none)=some v1:=h
   show (match H' a with | some (.lst xs)=>(xs[n]?).bind fun v=>vAt H' v q | _=>none)=_
   split at h'
   ·rename_i e
    obtain ⟨w,h1,h2⟩:=bind_some h'
    simp only [g _ _ e]
    rw [h1]; exact dO g q h2
   · cases h'
  | _=>cases h
theorem oo {x:Str}:∀ (fs:List (Str×V)),dD (fs.map fun f=>((Sum.inr f.1:Key),f.2)) (.inr x)=fs.lookup x
 | []=>rfl
 | (y,v)::fs=>by
  rw [List.map_cons,List.lookup_cons]
  by_cases h:y=x
  · rw [cL (by rw [h]),h]; simp
  ·rw [cM (fun z=>h (by injection z)),oo fs]
   have:(x == y)=false:=by simpa using fun z=>h z.symm
   rw [this]
def aU (i:Nat):DPx:=fun _=>some (i,[])
def ee (C:Addr) (x:Str) (f:DPx):DPx:=fun τ=>(f τ).bind fun p=>match bE τ p.1 p.2 with
 | some (.n (.o C') _)=>if C'=C then some (p.1,p.2++[.k (.inr x)]) else none
 | _=>none
def nB (f:DPx) (g:DE):DPx:=fun τ=>(f τ).bind fun p=>(g (bB τ)).bind fun d=>(nt d).bind fun k=>match bE τ p.1 p.2 with
 | some (.n .d _)=>some (p.1,p.2++[.k k])
 | _=>none
section
variable {K:W.Frag} {Hs0 H0 Hs H Hs' H':Hp} {ρ:List (Option Addr)} {σ:St} {τ:List Sm}
theorem bF.child {i:Nat} {q:List Stp} {st:Stp} {t:Tg} {cs:List (Key×Mt)} {m2:Mt} {rt v1:V} (r:bF K Hs0 H0 ρ Hs H σ τ) (hg:bE τ i q=some (.n t cs)) (hg2:bE τ i (q++[st])=some m2) (hi:σ[i]?=some (some rt)) (hv:vAt H rt q=some v1) :
  ∃ (a dx:Addr) (ts:List Kd) (u:HO) (w:V),v1=.ref a/\cs=ts.map Kd.km/\H a=some u/\Lay t dx (ts.map Kd.kv) u/\vAt H rt (q++[st])=some w/\vAt H (.ref a) [st]=some w:=by
 obtain ⟨fp,s⟩:=r.st
 obtain ⟨a,dx,ts,u,rfl,rfl,ha,hl,_⟩:=StM.node r.ext s hg hi hv
 obtain ⟨b,m,e1,e2⟩:=fM hg2
 obtain ⟨m1,e3,e4⟩:=xx q e2
 have e5:bE τ i q=m.get q:=by unfold bE; rw [e1]
 rw [e5,e3] at hg
 cases hg
 have e':(match wg t (ts.map Kd.km) st with | none=>none | some i=>match (ts.map Kd.km)[i]? with | none=>none | some c=>Mt.get c.2 [])=some m2:=e4
 cases e6:wg t (ts.map Kd.km) st with
 | none=>rw [e6] at e'; cases e'
 | some j =>
  rw [e6] at e'
  cases e7:(ts.map Kd.km)[j]? with
  | none=>simp only [e7] at e'; cases e'
  | some c =>
   obtain ⟨t1,k,t2,_,_,_,q4⟩:=tP ha hl e6 e7
   have w:vAt H (.ref a) [st]=some k.v:=by rw [q4]; cases k.v <;> rfl
   exact ⟨a,dx,ts,u,k.v,rfl,rfl,ha,hl,by rw [oq q hv]; exact w,w⟩
end
section
variable {X:Cx} {a b c e o:Expr} {es:List Expr} {pos apos cpos pos':Pos} {x:Str}
theorem PVm.em {f:DEm} (h:PVm X e f):PEm X e f:=PE.imp h fun σ H Q ⟨Hs0,H0,nf,ρ,Hs,τ,s,τ',r,e,k⟩=>⟨Hs0,H0,nf,ρ,Hs,τ,s,τ',r,e,fun v Hs' H' _ r'=>k v Hs' H' r'⟩
theorem K7 {g:DE} (h:PEd X e g):PVm X e (eS g):=PE.imp h fun σ H Q ⟨Hs0,H0,nf,ρ,Hs,τ,s,τ',r,e,k⟩=>by
 obtain ⟨d,e1,e2⟩:=bind_some e
 split at e2
 ·rename_i hs
  cases e2
  obtain ⟨fp,st⟩:=r.st
  exact ⟨H,H,bB τ,[],d,st.bB r.sm,.refl H,e1,fun v Hs' H' g1 rv=>k v Hs H' g1.hh ((r.grow g1.hh).push (nM rv hs))⟩
 · cases e2
theorem K5 {g:DE} (h:PEd X e g):PVm X e (eN g):=PE.imp h fun σ H Q ⟨Hs0,H0,nf,ρ,Hs,τ,s,τ',r,e,k⟩=>by
 obtain ⟨d,e1,e2⟩:=Zm e
 cases e2
 obtain ⟨fp,st⟩:=r.st
 exact ⟨H0,Hs,er τ,[],d,st.er,r.sm,e1,fun v Hs' H' g1 rv=>k v Hs' H' g1.hh ((r.ext' g1).push rv)⟩
theorem K4 {g:DE} (h:PEo X e g):PVm X e (eO g):=PE.imp h fun σ H Q ⟨Hs0,H0,nf,ρ,Hs,τ,s,τ',r,e,k⟩=>by
 obtain ⟨d,e1,e2⟩:=bind_some e
 split at e2
 ·split at e2
  ·rename_i hs
   cases e2
   obtain ⟨fp,st⟩:=r.st
   refine ⟨H,H,bB τ,[],_,st.bB r.sm,.refl H,e1,fun a Hs' H' g1 ow hn=>?_⟩
   cases ow with
   | lst h n rr=>exact k _ Hs H' g1.hh (r.Br g1.hh (Od.lst h (r.sm.free hn) (kl rr hs)) fun c hc=>by rw [List.mem_singleton.mp hc]; exact hn)
  · cases e2
 · cases e2
theorem K2 (i:Nat) {p:Pos} (hN:X.N[i]?=some x:=by rfl) (hv:Vis X.env.scope x:=by first | exact Or.inl rfl | exact Or.inr (Or.inl rfl) | exact Or.inr (Or.inr rfl)) (hd:(x == ("__debug__":Str))=false:=by decide) (hcd:(x == ("__classdict__":Str))=false:=by decide):PVm X (.Name x p) (eV i) :=
 (fw hN hv hd hcd).imp fun σ H Q ⟨Hs0,H0,nf,ρ,Hs,τ,s,τ',r,e,k⟩=>by
   obtain ⟨fp,st⟩:=r.st
   unfold eV at e
   split at e
   ·rename_i m em
    cases e
    obtain ⟨v,fq,fp',h1,h2,h3,h4,h5⟩:=st.out em
    exact ⟨v,h1,k v Hs H (.refl H) ⟨r.ext,fq++fp',.mu h2 (fun e=>by cases e) (fun c hc=>(st.live c (h4 c hc).2).2.2) (fun c hc=>(h4 c hc).1) h3⟩⟩
   ·rename_i d ed
    cases e
    obtain ⟨v,h1,h2⟩:=Lr st ed
    exact ⟨v,h1,k v Hs H (.refl H) (r.push h2)⟩
   · cases e
theorem D4 (i:Nat) {p:Pos} (hN:X.N[i]?=some x:=by rfl) (hv:Vis X.env.scope x:=by first | exact Or.inl rfl | exact Or.inr (Or.inl rfl) | exact Or.inr (Or.inr rfl)) (hd:(x == ("__debug__":Str))=false:=by decide) (hcd:(x == ("__classdict__":Str))=false:=by decide):PXm X (.Name x p) (aU i) :=
 (fw hN hv hd hcd).imp fun σ H Q ⟨Hs0,H0,nf,ρ,Hs,τ,i',q,m,r,e,eg,k⟩=>by
   cases e
   obtain ⟨b,m',e3,e4⟩:=fM eg
   obtain ⟨fp,st⟩:=r.st
   obtain ⟨v,fp1,v1,w1,w2,_⟩:=st.uV e3 e4
   exact ⟨v,w1,k v v H (.refl H) w1 (by cases v <;> rfl)⟩
theorem D6 {C:Addr} {f:DPx} (cl:Cls X.K C) (n:dB X.K C x) (he:PXm X e f) (hb:attributeBase e x X.env (eval e X.env)=eval e X.env:=by rfl):PXm X (.Attribute e x pos) (ee C x f) :=
 (As he hb).imp fun σ H Q ⟨Hs0,H0,nf,ρ,Hs,τ,i',q',m,r,e,eg,k⟩=>by
   obtain ⟨⟨i,q⟩,e1,e2⟩:=bind_some e
   split at e2
   ·rename_i C' cs en
    split at e2
    ·rename_i hc
     subst hc
     cases e2
     refine ⟨Hs0,H0,nf,ρ,Hs,τ,i,q,_,r,e1,en,fun v v1 H' g hv hq=>?_⟩
     obtain ⟨a,dx,ts,u,w,rfl,rfl,ha,hl,w1,w2⟩:=(r.grow g).child en eg hv hq
     generalize ek:ts.map Kd.kv=kvs at hl
     cases hl with
     | o fs =>
      have w3:((dD (fs.map fun f=>((Sum.inr f.1:Key),f.2)) (.inr x)).bind fun v=>vAt H' v [])=some w:=by
       have:=w2
       simp only [vAt,ha] at this
       exact this
      obtain ⟨y,h1,h2⟩:=bind_some w3
      have ey:y=w:=by cases y <;> exact Zj h2
      subst ey
      rw [oo] at h1
      exact ⟨a,C',dx,fs,y,rfl,ha,cl,n,h1,k v y H' g hv w1⟩
    · cases e2
   · cases e2
theorem D5 {f:DPx} {g:DE} (hu:X.A.units+1 < cLine) (he:PXm X a f) (hk:PEd X b g) (hs:Dv b):PXm X (.Subscript a b pos) (nB f g) :=
 (oN hu he hk hs).imp fun σ H Q ⟨Hs0,H0,nf,ρ,Hs,τ,i',q',m,r,e,eg,k⟩=>by
   obtain ⟨⟨i,q⟩,e1,e2⟩:=bind_some e
   obtain ⟨d,e3,e4⟩:=bind_some e2
   obtain ⟨ky,e5,e6⟩:=bind_some e4
   split at e6
   ·rename_i cs en
    cases e6
    refine ⟨Hs0,H0,nf,ρ,Hs,τ,i,q,_,r,e1,en,fun v v1 H1 g1 hv hq=>?_⟩
    have r1:=r.grow g1
    obtain ⟨fp,st⟩:=r1.st
    refine ⟨H1,H1,bB τ,[],d,st.bB r1.sm,.refl H1,e3,fun y Hs2 H2 g2 ry=>?_⟩
    have hy:=mC ry e5
    subst hy
    obtain ⟨a,dx,ts,u,w,rfl,rfl,ha,hl,w1,w2⟩:=(r1.grow g2.hh).child en eg hv (dO g2.hh q hq)
    generalize ek:ts.map Kd.kv=kvs at hl
    cases hl with
    | d _ =>
     have w3:((dD kvs ky).bind fun v=>vAt H2 v [])=some w:=by
      have:=w2
      simp only [vAt,ha] at this
      exact this
     obtain ⟨y,h1,h2⟩:=bind_some w3
     have ey:y=w:=by cases y <;> exact Zj h2
     subst ey
     exact ⟨a,y,rfl,by rw [<- h1]; exact uU.k ha,k v y H2 (g1.trans g2.hh) hv w1⟩
   · cases e6
end
section
variable {X:Cx}
theorem tf:∀ {ns:List Int} {us:List Value},bZ (ns.map V.int) us->IntsAre us ns
 | [],_,.nil=>.nil
 | n::ns,_,.cons r t=>by
  obtain ⟨tk,rfl⟩:=r
  exact .cons n tk (tf t)
variable {o e:Expr} {f g:DE} {apos cpos:Pos}
end
def Bi:V->List V->Hp->VK->Prop:=fun x vs H Q=>∃ l ns k,x=.ref l/\vs=[.int k]/\H l=some (.lst (List.map V.int ns))/\ns.length<=1000/\k ∈ ns/\Q .non (upd H l (.lst ((ns.eraseIdx (ns.idxOf k)).map V.int)))
section
variable {X:Cx}
theorem bZ.del:∀ {xs:List V} {us:List Value} (j:Nat),bZ xs us->bZ (xs.eraseIdx j) (us.eraseIdx j)
 | _,_,_,.nil=>.nil
 | _,_,0,.cons _ r=>r
 | _,_,j+1,.cons h r=>.cons h (bZ.del j r)
theorem mn {α β:Type} (f:α->β):∀ (l:List α) (j:Nat),(l.eraseIdx j).map f=(l.map f).eraseIdx j
 | [],_=>rfl
 | _::_,0=>rfl
 | x::l,j+1=>congrArg (f x::·) (mn f l j)
theorem wK:MtM X "list.remove" Bi:=by
 intro pins s σ H x vs v us Q I rx rv h
 obtain ⟨l,ns,k,rfl,rfl,hH,hz,hk,q⟩:=h
 cases rx
 obtain ⟨u,rfl,tu,rfl⟩:=vals1 rv
 obtain ⟨z,its,n,r,hl,e⟩:=I.AF hH
 have hi:=tf r
 have hln:=hi.length
 have hj:ns.idxOf k < ns.length:=List.idxOf_lt_length_iff.mpr hk
 refine call_meets PySem.F.slot_list_remove ⟨_,e,rfl⟩ PySem.F.entry_list_remove (PySem.F.args_list_remove_2 _ _)
  (MeetsSeq.list_remove l its.toArray n (.int k tu) (isInt k) (fun y hy=>eq_isInt k tu hi y (by simpa using hy)) (ns.idxOf k) (by rw [List.size_toArray,hln]; exact hj) ?_ (fun m h1 h2=>?_) (by rw [List.size_toArray,hln]; exact Nat.le_trans hz (by decide))) ⟨e,?_⟩
 ·show isInt k its[ns.idxOf k]=true
  rw [isInt_at k hi _ (by omega) hj]
  simpa using List.getElem_idxOf hj
 ·have h1':m < its.length:=by simpa using h1
  show isInt k its[m]=false
  rw [isInt_at k hi m h1' (by omega)]
  exact ne_of_lt_idxOf h2 _
 ·refine ⟨.non,_,I.E4 (its':=its.eraseIdx (ns.idxOf k)) hH e ?_ (by rw [mn]; exact bZ.del _ r) ?_,rfl,q⟩
  ·show its.toArray.eraseIdxIfInBounds (ns.idxOf k)=(its.eraseIdx (ns.idxOf k)).toArray
   rw [List.eraseIdxIfInBounds_toArray]
  · rw [List.length_map]; exact Nat.le_trans (List.length_eraseIdx_le ..) (by rw [List.length_map] at z; exact z)
end
def dk:DSm:=fun τ=>some (.next τ)
def kA:DSm:=fun _=>none
def aL (f g:DSm):DSm:=fun τ=>match f τ with
 | some (.next τ')=>g τ'
 | r=>r
def lE (t:DTm) (f g:DSm):DSm:=fun τ=>(t τ).bind fun x=>if x.1=true then f x.2 else g x.2
def cz (i:Nat) (f:DEm):DSm:=fun τ=>(f τ).bind fun x=>if i < x.2.length/\(toM x.1).isSome=true then some (.next (x.2.set i x.1)) else none
def fJ (f:DEm):DSm:=fun τ=>(f τ).map fun x=>.ret x.1 x.2
def l6 (f:DEm):DSm:=fun τ=>(f τ).map fun x=>.next x.2
def tS (g:DT):DTm:=fun τ=>(g (bB τ)).map fun b=>(b,τ)
def tE (f:DEm):DTm:=fun τ=>(f τ).bind fun x=>match x.1 with
 | .shr (.bl b)=>some (b,x.2)
 | _=>none
def tNt (f:DTm):DTm:=fun τ=>(f τ).map fun x=>(!x.1,x.2)
section
variable {X:Cx} {a b c e o:Expr} {es:List Expr} {pos apos cpos pos':Pos} {x:Str} {st:Stmt} {rest:List Stmt} {f g:DSm}
theorem yR:pF X [] dk:=jf.imp fun E σ H ⟨Hs0,H0,nf,ρ,Hs,τ,o,r,e,k⟩=>by
 cases e
 exact k σ Hs H r
theorem yQ (h:PSm X st f):pF X [st] f:=dJ h
theorem vU (h1:PSm X st f) (h2:pF X rest g):pF X (st::rest) (aL f g):=(eu h1 h2).imp fun E σ H ⟨Hs0,H0,nf,ρ,Hs,τ,o,r,e,k⟩=>by
 unfold aL at e
 cases q:f τ with
 | none=>rw [q] at e; cases e
 | some o1 =>
  rw [q] at e
  refine ⟨Hs0,H0,nf,ρ,Hs,τ,o1,r,q,?_⟩
  cases o1 with
  | next τ'=>exact fun σ' Hs' H' r'=>⟨Hs0,H0,nf,ρ,Hs',τ',o,r',e,k⟩
  | ret s τ'=>cases e; exact k
  | brk τ'=>cases e; exact k
  | cnt τ'=>cases e; exact k
theorem vX:PSm X st kA:=fun _ _ _ _ _ _ ⟨_,_,_,_,_,_,_,_,e,_⟩=>by cases e
theorem Ea {t:DTm} {x y:List Stmt} (hc:PTm X c t) (ha:pF X x f) (hb:pF X y g):PSm X (.If c x y pos) (lE t f g):=(pY hc ha hb).imp fun E σ H ⟨Hs0,H0,nf,ρ,Hs,τ,o,r,e,k⟩=>by
 obtain ⟨⟨bb,τ1⟩,e1,e2⟩:=bind_some e
 refine ⟨Hs0,H0,nf,ρ,Hs,τ,bb,τ1,r,e1,fun Hs' H' r'=>?_⟩
 cases bb with
 | true=>exact ⟨Hs0,H0,nf,ρ,Hs',τ1,o,r',by simpa using e2,k⟩
 | false=>exact ⟨Hs0,H0,nf,ρ,Hs',τ1,o,r',by simpa using e2,k⟩
theorem BB {f:DEm} (h:PEm X e f):PSm X (.Return (some e) pos) (fJ f):=(gU h).imp fun E σ H ⟨Hs0,H0,nf,ρ,Hs,τ,o,r,e,k⟩=>by
 obtain ⟨⟨s,τ1⟩,e1,rfl⟩:=Zm e
 exact ⟨Hs0,H0,nf,ρ,Hs,τ,s,τ1,r,e1,fun v Hs' H' r'=>k v σ Hs' H' r'⟩
theorem BA {i:Nat} {f:DEm} (hN:X.N.Nodup) (hi:X.N[i]?=some x) (hx:Loc X.env.scope x) (he:PEm X e f) (hs:swapsWith e (some (.Name x pos')) pos.line X.env=pure false:=by rfl) (hf:X.fn x=true\/X.env.scope.names.lookup x=some .local:=by first | exact .inl rfl | exact .inr rfl | assumption) :
  PSm X (.Assign [.Name x pos'] e pos) (cz i f):=(pX hN hi hx he hs hf).imp fun E σ H ⟨Hs0,H0,nf,ρ,Hs,τ,o,r,e,k⟩=>by
 obtain ⟨⟨s,τ1⟩,e1,e2⟩:=bind_some e
 split at e2
 ·rename_i h
  cases e2
  exact ⟨Hs0,H0,nf,ρ,Hs,τ,s,τ1,r,e1,fun v Hs' H' r'=>k _ Hs' H' (r'.into h.1 h.2)⟩
 · cases e2
theorem yU {f:DEm} (he:PEm X e f) (hs:swapsWith e none pos.line X.env=pure false:=by rfl):PSm X (.Expr e pos) (l6 f):=(jg he hs).imp fun E σ H ⟨Hs0,H0,nf,ρ,Hs,τ,o,r,e,k⟩=>by
 obtain ⟨⟨s,τ1⟩,e1,rfl⟩:=Zm e
 exact ⟨Hs0,H0,nf,ρ,Hs,τ,s,τ1,r,e1,fun v Hs' H' r'=>k σ Hs' H' r'.pop⟩
def fL (g:DE):DSm:=fun τ=>(g (bB τ)).map fun _=>.next τ
theorem vZ {g:DE} (he:PEd X e g) (hs:swapsWith e none pos.line X.env=pure false:=by rfl):PSm X (.Expr e pos) (fL g):=(jg he hs).imp fun E σ H ⟨Hs0,H0,nf,ρ,Hs,τ,o,r,e,k⟩=>by
 obtain ⟨d,e1,rfl⟩:=Zm e
 obtain ⟨fp,st⟩:=r.st
 exact ⟨H,H,bB τ,[],d,st.bB r.sm,.refl H,e1,fun v Hs' H' g1 rv=>k σ Hs H' (r.grow g1.hh)⟩
theorem HN {g:DT} (h:PTd X e g):PTm X e (tS g):=PT.imp h fun σ H Q ⟨Hs0,H0,nf,ρ,Hs,τ,b,τ',r,e,k⟩=>by
 obtain ⟨b',e1,e2⟩:=Zm e
 cases e2
 obtain ⟨fp,st⟩:=r.st
 exact ⟨H,H,bB τ,[],b,st.bB r.sm,.refl H,e1,fun Hs' H' g1=>k Hs H' (r.grow g1.hh)⟩
theorem Bs {f:DEm} (h:PEm X e f) (he:∀ whole,isTrue e X.env whole=(do let v <- whole; standAt e.pos; holding [v] (truthy v)):=by intro _; rfl):PTm X e (tE f):=(vO h he).imp fun σ H Q ⟨Hs0,H0,nf,ρ,Hs,τ,b,τ',r,e,k⟩=>by
 obtain ⟨⟨s,τ1⟩,e1,e2⟩:=bind_some e
 split at e2
 ·rename_i b' es
  cases e2
  have es':s=.shr (.bl b):=es
  subst es'
  refine ⟨Hs0,H0,nf,ρ,Hs,τ,_,τ1,r,e1,fun v Hs' H' r'=>?_⟩
  have:=r'.st
  obtain ⟨fp,st⟩:=this
  cases st with
  | shr h _=>cases h; exact ⟨b,rfl,k Hs' H' r'.pop⟩
 · cases e2
theorem Bt {f:DTm} (h:PTm X e f):PTm X (.UnaryOp .Not e pos) (tNt f):=(vP h).imp fun σ H Q ⟨Hs0,H0,nf,ρ,Hs,τ,b,τ',r,e,k⟩=>by
 obtain ⟨⟨b',τ1⟩,e1,e2⟩:=Zm e
 cases e2
 exact ⟨Hs0,H0,nf,ρ,Hs,τ,b',_,r,e1,fun Hs' H' r'=>k Hs' H' r'⟩
def gK (cs:List (Key×Mt)) (k:Key) (m:Mt):List (Key×Mt):=if cs.any (fun c=>decide (c.1=k)) then cs.map (fun c=>if c.1=k then (c.1,m) else c) else cs++[(k,m)]
theorem l7 {ts:List Kd} (k:Key) (nd:(ts.map Kd.k).Nodup):∃ l1 l2,(l1++l2).Sublist ts/\∀ n:Kd,n.k=k->(l1++n::l2).map Kd.kv=putK (ts.map Kd.kv) k n.v/\(l1++n::l2).map Kd.km=gK (ts.map Kd.km) k n.m/\((l1++n::l2).map Kd.k).Nodup:=by
 have ea:∀ {α:Type} (g:Kd->α),k ∈ ts.map Kd.k->((ts.map fun t=>(t.k,g t)).any fun c=>decide (c.1=k))=true:=fun g h=>by
  rw [List.any_map,List.any_eq_true]
  obtain ⟨t,ht,rfl⟩:=List.mem_map.mp h
  exact ⟨t,ht,by simp⟩
 have en:∀ {α:Type} (g:Kd->α),k ∉ ts.map Kd.k->((ts.map fun t=>(t.k,g t)).any fun c=>decide (c.1=k))=false:=fun g h=>by
  rw [List.any_map,List.any_eq_false]
  exact fun t ht z=>h (List.mem_map.mpr ⟨t,ht,by simpa using z⟩)
 by_cases h:k ∈ ts.map Kd.k
 ·obtain ⟨t,ht,et⟩:=List.mem_map.mp h
  obtain ⟨l1,l2,rfl⟩:=List.append_of_mem ht
  have nd':=nd
  rw [List.map_append,List.map_cons,List.nodup_append,List.nodup_cons] at nd'
  have n1:∀ c ∈ l1,c.k≠k:=fun c hc z=>nd'.2.2 c.k (List.mem_map_of_mem hc) t.k (List.mem_cons_self ..) (by rw [z,et])
  have n2:∀ c ∈ l2,c.k≠k:=fun c hc z=>nd'.2.1.1 (by rw [et,<- z]; exact List.mem_map_of_mem hc)
  refine ⟨l1,l2,List.Sublist.append (.refl _) (List.sublist_cons_self ..),fun n hn=>⟨?_,?_,?_⟩⟩
  ·unfold putK
   rw [show ((l1++t::l2).map Kd.kv).any (fun kv=>decide (kv.1=k))=_ from ea Kd.v h,if_pos rfl,List.map_map,List.map_append,List.map_append,List.map_cons,List.map_cons]
   congr 1
   · exact List.map_congr_left fun c hc=>(if_neg (n1 c hc)).symm
   ·rw [show ((fun kv=>if kv.1=k then (kv.1,n.v) else kv) ∘ Kd.kv) t=(t.k,n.v) from if_pos et,et,<- hn]
    congr 1
    exact List.map_congr_left fun c hc=>(if_neg (hn.symm ▸ n2 c hc)).symm
  ·unfold gK
   rw [show ((l1++t::l2).map Kd.km).any (fun kv=>decide (kv.1=k))=_ from ea Kd.m h,if_pos rfl,List.map_map,List.map_append,List.map_append,List.map_cons,List.map_cons]
   congr 1
   · exact List.map_congr_left fun c hc=>(if_neg (n1 c hc)).symm
   ·rw [show ((fun c=>if c.1=k then (c.1,n.m) else c) ∘ Kd.km) t=(t.k,n.m) from if_pos et,et,<- hn]
    congr 1
    exact List.map_congr_left fun c hc=>(if_neg (hn.symm ▸ n2 c hc)).symm
  ·rw [List.map_append,List.map_cons,hn,<- et,<- List.map_cons,<- List.map_append]
   exact nd
 ·refine ⟨ts,[],by rw [List.append_nil]; exact .refl _,fun n hn=>⟨?_,?_,?_⟩⟩
  ·unfold putK
   rw [show (ts.map Kd.kv).any (fun kv=>decide (kv.1=k))=_ from en Kd.v h,if_neg (by simp),List.map_append,<- hn]
   rfl
  ·unfold gK
   rw [show (ts.map Kd.km).any (fun kv=>decide (kv.1=k))=_ from en Kd.m h,if_neg (by simp),List.map_append,<- hn]
   rfl
  ·rw [List.map_append,List.map_cons,List.nodup_append,hn]
   exact ⟨nd,by simp,fun c hc c' hc' z=>h (by rw [<- List.mem_singleton.mp hc',<- z]; exact hc)⟩
theorem sO {x:Str} {v:V}:∀ {fs:List (Str×V)},(fs.map Prod.fst).Nodup->(nC x v fs).map (fun f=>((Sum.inr f.1:Key),f.2))=putK (fs.map fun f=>((Sum.inr f.1:Key),f.2)) (.inr x) v
 | [],_=>rfl
 | (y,w)::fs,nd=>by
  rw [List.map_cons,List.nodup_cons] at nd
  by_cases h:y=x
  ·subst h
   rw [show nC y v ((y,w)::fs)=(y,v)::fs from if_pos rfl]
   unfold putK
   rw [show ((((y,w)::fs).map fun f=>((Sum.inr f.1:Key),f.2)).any fun kv=>decide (kv.1=Sum.inr y))=true from by simp,if_pos rfl,List.map_cons,List.map_cons,List.map_cons,List.map_map]
   congr 1
   · simp
   · exact List.map_congr_left fun c hc=>(if_neg (fun z=>nd.1 (by injection z with z; exact List.mem_map.mpr ⟨c,hc,z⟩))).symm
  ·rw [show nC x v ((y,w)::fs)=(y,w)::nC x v fs from if_neg h,List.map_cons,sO nd.2]
   unfold putK
   rw [List.map_cons,List.any_cons,show decide ((Sum.inr y:Key)=Sum.inr x)=false from decide_eq_false (fun z=>h (by injection z)),Bool.false_or]
   split
   · rw [List.map_cons,if_neg (fun z=>h (by injection z))]
   · rfl
def bH (px:DPx) (gk:DE) (fv:DEm):DSm:=fun τ=>(fv τ).bind fun x=>(px x.2).bind fun p=>(gk (bB x.2)).bind fun d=>(nt d).bind fun k=>(toM x.1).bind fun mv=>match bE x.2 p.1 p.2 with
 | some (.n .d cs)=>if cs.length < 100000 then some (.next (fk x.2 p.1 p.2 (.n .d (gK cs k mv)))) else none
 | _=>none
theorem yV {px:DPx} {gk:DE} {fv:DEm} {i value:Expr} (hu:X.A.units+1 < cLine) (ho:PXm X o px) (hi:PEd X i gk) (hv:PEm X value fv) (hs:swapsWith value (some (.Subscript o i pos')) pos.line X.env=pure false:=by rfl) :
  PSm X (.Assign [.Subscript o i pos'] value pos) (bH px gk fv):=(rC hu ho hi hv hs).imp fun E σ H ⟨Hs0,H0,nf,ρ,Hs,τ,o,r,e,k⟩=>by
 obtain ⟨⟨s,τ1⟩,e1,e⟩:=bind_some e
 obtain ⟨⟨i,q⟩,e2,e⟩:=bind_some e
 obtain ⟨d,e3,e⟩:=bind_some e
 obtain ⟨ky,e4,e⟩:=bind_some e
 obtain ⟨mv,e5,e⟩:=bind_some e
 split at e
 ·rename_i cs en
  split at e
  ·rename_i hz
   cases e
   refine ⟨Hs0,H0,nf,ρ,Hs,τ,s,τ1,r,e1,fun v Hs1 H1 r1=>?_⟩
   refine ⟨Hs0,H0,nf,ρ,Hs1,τ1,i,q,_,r1.pop,e2,en,fun rt v1 H2 g2 hrt hq=>?_⟩
   have r2:=r1.grow g2
   obtain ⟨fp,st⟩:=r2.pop.st
   refine ⟨H2,H2,bB τ1,[],d,st.bB r2.sm,.refl H2,e3,fun y Hs3 H3 g3 ry=>?_⟩
   have hy:=mC ry e4
   subst hy
   obtain ⟨a,dx,ts,u,fv,rfl,rfl,ha,hl,ku,fin⟩:=(r2.grow g3.hh).zC e5 en hrt (dO g3.hh q hq)
   obtain ⟨l1,l2,hsub,spl⟩:=l7 ky ku
   obtain ⟨p1,p2,p3⟩:=spl ⟨ky,v,mv,fv⟩ rfl
   generalize ek:ts.map Kd.kv=kvs at hl
   cases hl with
   | d _ =>
    refine ⟨a,_,rfl,Dn.k ha (by rw [<- ek,List.length_map,<- List.length_map (f:=Kd.km)]; exact le5 (Nat.le_of_lt hz)),?_⟩
    have:=fin l1 ky l2 (.dK (putK kvs ky v)) hsub (by rw [p1,ek]; exact .d _) p3
    rw [p2] at this
    exact k σ Hs1 _ this
  · cases e
 · cases e
def jM (C:Addr) (x:Str) (px:DPx) (fv:DEm):DSm:=fun τ=>(fv τ).bind fun y=>(px y.2).bind fun p=>(toM y.1).bind fun mv=>match bE y.2 p.1 p.2 with
 | some (.n (.o C') cs)=>if C'=C/\cs.length < 1000 then some (.next (fk y.2 p.1 p.2 (.n (.o C) (gK cs (.inr x) mv)))) else none
 | _=>none
theorem BF {C:Addr} {px:DPx} {fv:DEm} {value:Expr} (cl:Cls X.K C) (n:dB X.K C x) (ho:PXm X o px) (hv:PEm X value fv) (hs:swapsWith value (some (.Attribute o x pos')) pos.line X.env=pure false:=by rfl) :
  PSm X (.Assign [.Attribute o x pos'] value pos) (jM C x px fv):=(Ec ho hv hs).imp fun E σ H ⟨Hs0,H0,nf,ρ,Hs,τ,o,r,e,k⟩=>by
 obtain ⟨⟨s,τ1⟩,e1,e⟩:=bind_some e
 obtain ⟨⟨i,q⟩,e2,e⟩:=bind_some e
 obtain ⟨mv,e5,e⟩:=bind_some e
 split at e
 ·rename_i C' cs en
  split at e
  ·rename_i hz
   obtain ⟨hc,hz⟩:=hz
   subst hc
   cases e
   refine ⟨Hs0,H0,nf,ρ,Hs,τ,s,τ1,r,e1,fun v Hs1 H1 r1=>?_⟩
   refine ⟨Hs0,H0,nf,ρ,Hs1,τ1,i,q,_,r1.pop,e2,en,fun rt v1 H2 g2 hrt hq=>?_⟩
   obtain ⟨a,dx,ts,u,fv,rfl,rfl,ha,hl,ku,fin⟩:=(r1.grow g2).zC e5 en hrt hq
   obtain ⟨l1,l2,hsub,spl⟩:=l7 (.inr x) ku
   obtain ⟨p1,p2,p3⟩:=spl ⟨.inr x,v,mv,fv⟩ rfl
   have ku':(ts.map Kd.k).Nodup:=ku
   generalize ek:ts.map Kd.kv=kvs at hl
   cases hl with
   | o fs =>
    have nf:(fs.map Prod.fst).Nodup:=by
     have e0:ts.map Kd.k=(fs.map Prod.fst).map (fun x=>(Sum.inr x:Key)):=by
      rw [List.map_map,show ts.map Kd.k=(ts.map Kd.kv).map Prod.fst by rw [List.map_map]; rfl,ek,List.map_map]
      rfl
     rw [e0] at ku'
     exact List.Pairwise.of_map _ (fun a b h e=>h (by rw [e])) ku'
    refine ⟨a,C',dx,fs,rfl,ha,cl,n,?_,?_⟩
    ·have:=congrArg List.length ek
     rw [List.length_map,List.length_map] at this
     rw [List.length_map] at hz
     omega
    ·have:=fin l1 (.inr x) l2 (.ins C' dx (nC x v fs)) hsub (by rw [p1,ek,<- sO nf]; exact .o _) p3
     rw [p2] at this
     exact k σ Hs1 _ this
  · cases e
 · cases e
end
section
variable {K:W.Frag} {Hs0 H0 Hs H Hs' H':Hp} {ρ:List (Option Addr)} {σ:St} {τ:List Sm}
theorem CK {dx:Addr} {ts:List Kd} {u:HO} (h:Lay .l dx (ts.map Kd.kv) u):u=.lst (ts.map Kd.v):=by
 generalize ek:ts.map Kd.kv=kvs at h
 cases h with
 | l _=>rw [<- ek,List.map_map]; rfl
theorem AI {dx:Addr} {ts:List Kd}:Lay .l dx (ts.map Kd.kv) (.lst (ts.map Kd.v)):=by
 have:=Lay.l (dx:=dx) (ts.map Kd.kv)
 rw [List.map_map] at this
 exact this
theorem xa {dx:Addr} {ts:List Kd} {u:HO} (h:Lay .d dx (ts.map Kd.kv) u):u=.dK (ts.map Kd.kv):=by
 generalize ek:ts.map Kd.kv=kvs at h
 cases h with
 | d _=>rfl
theorem bF.Co {i:Nat} {q:List Stp} {t:Tg} {cs:List (Key×Mt)} {rt v1:V} (r:bF K Hs0 H0 ρ Hs H σ τ) (hg:bE τ i q=some (.n t cs)) (hi:σ[i]?=some (some rt)) (hv:vAt H rt q=some v1) :
  ∃ (a dx:Addr) (ts:List Kd) (u:HO),v1=.ref a/\cs=ts.map Kd.km/\H a=some u/\Lay t dx (ts.map Kd.kv) u/\KU t ts/\(∀ c ∈ ts,Rp K H c.v (frz c.m)) /\
  ∀ ts' ks u',ts'.Sublist ts->(∀ k ∈ ks,k.fp=[]/\Od K Hs H [] k.v k.m)->Lay t dx ((ts'++ks).map Kd.kv) u'->KU t (ts'++ks)->bF K Hs0 H0 ρ Hs (upd H a u') σ (fk τ i q (.n t ((ts'++ks).map Kd.km))):=by
 obtain ⟨fp,st⟩:=r.st
 obtain ⟨b,m,em,eg⟩:=fM hg
 obtain ⟨v,fp1,v1',w1,w2,w3,w4,w5⟩:=st.uV em eg
 rw [hi] at w1
 cases w1
 rw [hv] at w2
 cases w2
 obtain ⟨a,dx,ts,u,rfl,rfl,rfl,ha,hl,nh,ku,nd,rr⟩:=w3.inv
 have afp:a ∈ fp:=w4 a (List.mem_cons_self ..)
 have h0:=(st.live a afp).2.2
 have nd1:=List.nodup_cons.mp nd
 refine ⟨a,dx,ts,u,rfl,rfl,ha,hl,ku,fun c hc=>(rr c hc).rp r.sm,fun ts' ks u' hsub hks hl' ku'=>?_⟩
 have ex:Ext Hs0 H0 Hs (upd H a u'):=by
  refine ⟨r.ext.ss,fun c o e=>?_,fun c o e=>?_,r.ext.fr⟩
  · rw [ak (fun z=>by rw [z,nh] at e; cases e)]; exact r.ext.sh c o e
  · rw [ak (fun z=>by rw [z,h0] at e; cases e)]; exact r.ext.hh c o e
 have kz:ks.flatMap Kd.fp=[]:=by
  rw [List.flatMap_eq_nil_iff]
  exact fun c hc=>(hks c hc).1
 have sf:=ox hsub
 have nda':(a::(ts'++ks).flatMap Kd.fp).Nodup:=by
  rw [List.flatMap_append,kz,List.append_nil]
  exact List.nodup_cons.mpr ⟨fun z=>nd1.1 (sf.subset z),nd1.2.sublist sf⟩
 have od:Od K Hs (upd H a u') (a::(ts'++ks).flatMap Kd.fp) (.ref a) (.n t ((ts'++ks).map Kd.km)):=by
  refine .n au hl' nh ku' nda' fun c hc=>?_
  have na:a ∉ c.fp:=fun z=>(List.nodup_cons.mp nda').1 (List.mem_flatMap.mpr ⟨c,hc,z⟩)
  rcases List.mem_append.mp hc with hc | hc
  ·have o:=rr c (hsub.subset hc)
   exact o.mv (.refl _) fun x hx=>⟨(o.live x hx).1,ak fun z=>na (z ▸ hx)⟩
  ·obtain ⟨k1,k2⟩:=hks c hc
   rw [k1]
   exact k2.mv (.refl _) fun x hx=>by cases hx
 obtain ⟨fp',s',_⟩:=w5 Hs (upd H a u') _ _ (.refl _) (fun c hc hn=>⟨(st.live c hc).1,ak fun z=>hn (by rw [z]; exact List.mem_cons_self ..)⟩) od fun c hc=>by
  rw [List.flatMap_append,kz,List.append_nil] at hc
  rcases List.mem_cons.mp hc with rfl | hc
  · exact .inl (List.mem_cons_self ..)
  · exact .inl (List.mem_cons_of_mem _ (sf.subset hc))
 exact ⟨ex,fp',by unfold fk; rw [em]; exact s'⟩
theorem bF.isList {i:Nat} {q:List Stp} {cs:List (Key×Mt)} {rt v1:V} (r:bF K Hs0 H0 ρ Hs H σ τ) (hg:bE τ i q=some (.n .l cs)) (hi:σ[i]?=some (some rt)) (hv:vAt H rt q=some v1):tyV K "list" v1 H:=by
 obtain ⟨a,dx,ts,u,rfl,rfl,ha,hl,_⟩:=r.Co hg hi hv
 rw [CK hl] at ha
 exact .inl ⟨rfl,_,SqL.of ha⟩
end
def Hi (cs:List (Key×Mt)) (i:Nat) (m:Mt):List (Key×Mt):=cs.take i++(.inl 0,m)::cs.drop i
def pV (px:DPx) (gi:DE) (fv:DEm):DSm:=fun τ=>(px τ).bind fun p=>match bE τ p.1 p.2 with
 | some (.n .l _)=>(gi (bB τ)).bind fun d=>(fv τ).bind fun x=>(toM x.1).bind fun mv=>match d,bE x.2 p.1 p.2 with
  | .int i,some (.n .l cs)=>if 0<=i/\i<=cs.length/\cs.length < 100000 then some (.next (fk x.2 p.1 p.2 (.n .l (Hi cs i.toNat mv)))) else none
  | _,_=>none
 | _=>none
def rA (px:DPx) (g:DE):DSm:=fun τ=>(px τ).bind fun p=>(g (bB τ)).bind fun d=>match d,bE τ p.1 p.2 with
 | .int k,some (.n .l cs)=>(eU (xy cs)).bind fun ns=>if ns.length<=1000/\k ∈ ns then some (.next (fk τ p.1 p.2 (.n .l (cs.eraseIdx (ns.idxOf k))))) else none
 | _,_=>none
section
variable {X:Cx} {a b c e o:Expr} {es:List Expr} {pos apos cpos pos':Pos} {x:Str}
theorem BD {px:DPx} {gi:DE} {fv:DEm} {i:Expr} (ho:PXm X o px) (hi:PEd X i gi) (he:PVm X e fv)
   (hbase:attributeBase o "insert" X.env (eval o X.env)=eval o X.env:=by rfl)
   (hfew:((backTo cpos (starEach [i,e] X.env)).all (fun x=>!x.1)&&(backToKw cpos (keywordEach [] X.env)).all (fun x=>x.1.isSome)
     && decide ([i,e].length+([]:List Keyword).length+(if ([]:List Keyword).isEmpty then 0 else 1) < 30))=true:=by rfl)
   (hline:(apos.endLine == cpos.line)=true:=by rfl) (hst:starEach [i,e] X.env=(false,eval i X.env)::starEach [e] X.env:=by rfl) (hst2:starEach [e] X.env=(false,eval e X.env)::starEach [] X.env:=by rfl) (hplain:(backTo cpos (starEach [e] X.env)).any (·.1)=false:=by rfl)
   (hs:swapsWith (.Call (.Attribute o "insert" apos) [i,e] [] cpos) none pos.line X.env=pure false:=by rfl) :
   PSm X (.Expr (.Call (.Attribute o "insert" apos) [i,e] [] cpos) pos) (pV px gi fv) :=
 (jg (En (KK:=X.K) rfl ho hi he hbase hfew hline hst hst2 hplain) hs).imp fun E σ H ⟨Hs0,H0,nf,ρ,Hs,τ,o,r,e,k⟩=>by
   obtain ⟨⟨i,q⟩,e1,e⟩:=bind_some e
   split at e
   · rename_i cs0 en0
     obtain ⟨d,e4,e5⟩:=bind_some e
     obtain ⟨⟨s,τ1⟩,e2,e6⟩:=bind_some e5
     obtain ⟨mv,e3,e7⟩:=bind_some e6
     clear e e5 e6
     split at e7
     ·rename_i j cs en
      split at e7
      ·rename_i hz
       obtain ⟨h0,h1,hz⟩:=hz
       cases e7
       refine ⟨Hs0,H0,nf,ρ,Hs,τ,i,q,_,r,e1,en0,fun rt v1 H1 g1 hrt hq=>⟨(r.grow g1).isList en0 hrt hq,?_⟩⟩
       have r1:=r.grow g1
       obtain ⟨fp,st⟩:=r1.st
       refine ⟨H1,H1,bB τ,[],_,st.bB r1.sm,.refl H1,e4,fun y Hs2 H2 g2 ry=>?_⟩
       cases ry
       have r2:=r1.grow g2.hh
       refine ⟨Hs0,H0,nf,ρ,Hs,τ,s,τ1,r2,e2,fun v Hs3 H3 g3 r3=>?_⟩
       obtain ⟨a,dx,ts,u,fv,rfl,rfl,ha,hl,ku,fin⟩:=r3.zC e3 en hrt (dO g3 q (dO g2.hh q hq))
       rw [CK hl] at ha
       rw [List.length_map] at h1 hz
       refine ⟨a,_,j,v,rfl,rfl,ha,h0,by rw [List.length_map]; exact h1,by rw [List.length_map]; exact le5 (Nat.le_of_lt hz),by omega,?_⟩
       have:=fin (ts.take j.toNat) (.inl 0) (ts.drop j.toNat) (.lst ((ts.map Kd.v).take j.toNat++v::(ts.map Kd.v).drop j.toNat)) (by rw [List.take_append_drop]; exact .refl _) (by
        have:=AI (dx:=dx) (ts:=ts.take j.toNat++⟨.inl 0,v,mv,fv⟩::ts.drop j.toNat)
        rw [List.map_append (f:=Kd.v),List.map_cons,List.map_take,List.map_drop] at this
        exact this) trivial
       rw [List.map_append,List.map_cons,List.map_take,List.map_drop] at this
       exact k σ Hs3 _ this
      · cases e7
     · cases e7
   · cases e
theorem BC {px:DPx} {g:DE} (ho:PXm X o px) (he:PEd X e g)
   (hbase:attributeBase o "remove" X.env (eval o X.env)=eval o X.env:=by rfl)
   (hfew:((backTo cpos (starEach [e] X.env)).all (fun x=>!x.1)&&(backToKw cpos (keywordEach [] X.env)).all (fun x=>x.1.isSome)
     && decide ([e].length+([]:List Keyword).length+(if ([]:List Keyword).isEmpty then 0 else 1) < 30))=true:=by rfl)
   (hline:(apos.endLine == cpos.line)=true:=by rfl) (hst:starEach [e] X.env=(false,eval e X.env)::starEach [] X.env:=by rfl) (hplain:(backTo cpos (starEach [] X.env)).any (·.1)=false:=by rfl)
   (hs:swapsWith (.Call (.Attribute o "remove" apos) [e] [] cpos) none pos.line X.env=pure false:=by rfl) :
   PSm X (.Expr (.Call (.Attribute o "remove" apos) [e] [] cpos) pos) (rA px g) :=
 (jg (wq PySem.F.plainAttrs_list PySem.F.slot_list_remove PySem.F.type_list_remove wK ho (dm he gE hst) hbase hfew hline hst hplain) hs).imp fun E σ H ⟨Hs0,H0,nf,ρ,Hs,τ,o,r,e,k⟩=>by
   obtain ⟨⟨i,q⟩,e1,e⟩:=bind_some e
   obtain ⟨d,e2,e⟩:=bind_some e
   split at e
   · rename_i ky cs en
     obtain ⟨ns,e3,e⟩:=bind_some e
     split at e
     ·rename_i hz
      cases e
      refine ⟨Hs0,H0,nf,ρ,Hs,τ,i,q,_,r,e1,en,fun rt v1 H1 g1 hrt hq=>⟨(r.grow g1).isList en hrt hq,?_⟩⟩
      have r1:=r.grow g1
      obtain ⟨fp,st⟩:=r1.st
      refine ⟨H1,H1,bB τ,[],_,st.bB r1.sm,.refl H1,e2,fun y Hs2 H2 g2 ry=>?_⟩
      cases ry
      have r2:=r1.grow g2.hh
      obtain ⟨a,dx,ts,u,rfl,rfl,ha,hl,ku,hrp,fin⟩:=r2.Co en hrt (dO g2.hh q hq)
      rw [CK hl] at ha
      have ev:ts.map Kd.v=ns.map V.int:=by
       have h1:=vB hrp
       rw [List.map_map,mE e3] at h1
       exact Rps.hU h1
      rw [ev] at ha
      refine ⟨a,ns,ky,rfl,rfl,ha,hz.1,hz.2,?_⟩
      have:=fin (ts.eraseIdx (ns.idxOf ky)) [] (.lst ((ns.eraseIdx (ns.idxOf ky)).map V.int)) (List.eraseIdx_sublist ..) (fun k hk=>by cases hk) (by
       have:=AI (dx:=dx) (ts:=ts.eraseIdx (ns.idxOf ky))
       rw [mn Kd.v,ev,<- mn] at this
       rw [List.append_nil]
       exact this) trivial
      rw [List.append_nil,mn Kd.km] at this
      exact k σ Hs _ this
     · cases e
   · cases e
end
def off (H:Hp) (fp:List Addr):Hp:=fun b=>if b ∈ fp then none else H b
def J5:V->Option Addr
 | .ref a=>some a
 | _=>none
abbrev iU (vs:List V):List (Option Addr):=vs.map J5
def spM (F:List Sm->Option (Sm×List Sm)) (K:W.Frag):Sp:=fun vs H Q _=>∃ Hs fp as s as',bY Hs H/\StM K (off H fp) Hs H (iU vs) (vs.map some) as fp/\F as=some (s,as') /\
 ∀ v Hs' H' fp',Ext Hs (off H fp) Hs' H'->StM K (off H fp) Hs' H' (none::iU vs) (some v::vs.map some) (s::as') fp'->Q v H'
inductive Am where
 | v (d:D) | p (i:Nat) (q:List Stp)
inductive qZ (K:W.Frag) (Hs H:Hp) (σ:St):List V->List Am->Prop where
 | nil:qZ K Hs H σ [] []
 | v {x:V} {d:D} {vs:List V} {as:List Am} (h:Rp K Hs x d) (r:qZ K Hs H σ vs as):qZ K Hs H σ (x::vs) (.v d::as)
 | p {x rt:V} {i:Nat} {q:List Stp} {vs:List V} {as:List Am} (h1:σ[i]?=some (some rt)) (h2:vAt H rt q=some x) (r:qZ K Hs H σ vs as):qZ K Hs H σ (x::vs) (.p i q::as)
theorem qZ.ext {K:W.Frag} {Hs H Hs' H':Hp} {σ:St} {vs:List V} {as:List Am} (g1:bY Hs Hs') (g2:bY H H') (h:qZ K Hs H σ vs as):qZ K Hs' H' σ vs as:=by
 induction h with
 | nil=>exact .nil
 | v h _ ih=>exact .v (h.same g1) ih
 | p h1 h2 _ ih=>exact .p h1 (dO g2 _ h2) ih
def lend:List Sm->List Am->Option (List Sm)
 | _,[]=>some []
 | τ,.v d::r=>(lend τ r).map (.shr d::·)
 | τ,.p i q::r=>match bE τ i q with
  | some (.n t cs)=>(lend (τ.set i .no) r).map (.mu true (.n t cs)::·)
  | _=>none
def back:List Sm->List Am->List Sm->Option (List Sm)
 | τ,[],_=>some τ
 | τ,.v _::r,_::as=>back τ r as
 | τ,.p i q::r,.mu true m2::as=>(back (τ.set i .no) r as).bind fun τ'=>match τ[i]? with
  | some (.mu b m)=>some (τ'.set i (.mu b (m.put q m2)))
  | _=>none
 | _,_,_=>none
section
variable {K:W.Frag} {H0 Hs H Hs' H':Hp} {ρ:List (Option Addr)} {σ:List (Option V)} {τ:List Sm} {fp:List Addr}
theorem StM.rebase {H1:Hp} (h:StM K H0 Hs H ρ σ τ fp):(∀ c ∈ fp,H1 c=none)->StM K H1 Hs H ρ σ τ fp:=by
 induction h with
 | nil=>exact fun _=>.nil
 | no _ ih=>exact fun q=>.no (ih q)
 | shr h _ ih=>exact fun q=>.shr h (ih q)
 | mu h hp z j _ ih=>exact fun q=>.mu h hp (fun c hc=>q c (List.mem_append_left _ hc)) j (ih fun c hc=>q c (List.mem_append_right _ hc))
theorem StM.pin {i:Nat} {b:Bool} {m:Mt} {v:V} (h:StM K H0 Hs H ρ σ τ fp):τ[i]?=some (.mu b m)->σ[i]?=some (some v)->b=true->∃ a,ρ[i]?=some (some a)/\v=.ref a:=by
 induction h generalizing i with
 | nil=>intro e; simp at e
 | no _ ih =>
  intro e e2 hb
  cases i with
  | zero=>simp at e
  | succ i=>simpa using ih (i:=i) (by simpa using e) (by simpa using e2) hb
 | shr h _ ih =>
  intro e e2 hb
  cases i with
  | zero=>simp at e
  | succ i=>simpa using ih (i:=i) (by simpa using e) (by simpa using e2) hb
 | @mu p v' b' m' ρ σ τ fq fp h hp z j _ ih =>
  intro e e2 hb
  cases i with
  | zero =>
   have e':Sm.mu b' m'=.mu b m:=by simpa using e
   injection e' with e1 _
   have e3:v'=v:=by simpa using e2
   subst e3
   obtain ⟨a,h1,h2⟩:=hp (e1.trans hb)
   exact ⟨a,by rw [h1]; rfl,h2⟩
  | succ i=>simpa using ih (i:=i) (by simpa using e) (by simpa using e2) hb
theorem StM.fill {i:Nat} {b:Bool} {v:V} {m:Mt} {fq:List Addr} (h:StM K H0 Hs H ρ σ τ fp) (hv:Od K Hs H fq v m) (z:∀ c ∈ fq,H0 c=none/\c ∉ fp):i < τ.length->σ[i]?=some (some v)->(b=true->∃ a,ρ[i]?=some (some a)/\v=.ref a)->∃ fp',StM K H0 Hs H ρ σ (τ.set i (.mu b m)) fp'/\∀ c ∈ fp',c ∈ fq\/c ∈ fp:=by
 induction h generalizing i with
 | nil=>intro hi; exact absurd hi (by simp)
 | @no p o ρ σ τ fp r ih =>
  intro hi e hp
  cases i with
  | zero =>
   have e':o=some v:=by simpa using e
   subst e'
   exact ⟨_,.mu hv (fun hb=>by obtain ⟨a,h1,h2⟩:=hp hb; exact ⟨a,by simpa using h1,h2⟩) (fun c hc=>(z c hc).1) (fun c hc=>(z c hc).2) r,fun c h=>List.mem_append.mp h⟩
  | succ i =>
   obtain ⟨fp',h1,h2⟩:=ih z (i:=i) (by simpa using hi) (by simpa using e) (by simpa using hp)
   exact ⟨fp',.no h1,h2⟩
 | @shr p v' d ρ σ τ fp h r ih =>
  intro hi e hp
  cases i with
  | zero =>
   have e':v'=v:=by simpa using e
   subst e'
   exact ⟨_,.mu hv (fun hb=>by obtain ⟨a,h1,h2⟩:=hp hb; exact ⟨a,by simpa using h1,h2⟩) (fun c hc=>(z c hc).1) (fun c hc=>(z c hc).2) r,fun c h=>List.mem_append.mp h⟩
  | succ i =>
   obtain ⟨fp',h1,h2⟩:=ih z (i:=i) (by simpa using hi) (by simpa using e) (by simpa using hp)
   exact ⟨fp',.shr h h1,h2⟩
 | @mu p v' b' m' ρ σ τ fq' fp h hp' z' j r ih =>
  intro hi e hp
  have zr:∀ c ∈ fq,H0 c=none/\c ∉ fp:=fun c hc=>⟨(z c hc).1,fun q=>(z c hc).2 (List.mem_append_right _ q)⟩
  cases i with
  | zero =>
   have e':v'=v:=by simpa using e
   subst e'
   exact ⟨_,.mu hv (fun hb=>by obtain ⟨a,h1,h2⟩:=hp hb; exact ⟨a,by simpa using h1,h2⟩) (fun c hc=>(z c hc).1) (fun c hc=>(zr c hc).2) r,fun c h=>(List.mem_append.mp h).imp id fun q=>List.mem_append_right _ q⟩
  | succ i =>
   obtain ⟨fp',h1,h2⟩:=ih zr (i:=i) (by simpa using hi) (by simpa using e) (by simpa using hp)
   refine ⟨_,.mu h hp' z' (fun c hc q=>?_) h1,fun c hc=>?_⟩
   ·rcases h2 c q with y | y
    · exact (z c y).2 (List.mem_append_left _ hc)
    · exact j c hc y
   ·rcases List.mem_append.mp hc with y | y
    · exact .inr (List.mem_append_left _ y)
    · exact (h2 c y).imp id fun q=>List.mem_append_right _ q
theorem tT {τ ss:List Sm}:back τ [] ss=some τ:=by cases ss <;> rw [back]
theorem pq:∀ {as:List Am} {τ ss τ':List Sm},back τ as ss=some τ'->τ'.length=τ.length
 | [],τ,ss,τ',e=>by rw [tT] at e; cases e; rfl
 | .v _::r,τ,[],τ',e=>by cases e
 | .v _::r,τ,_::as,τ',e=>pq (as:=r) e
 | .p i q::r,τ,[],τ',e=>by cases e
 | .p i q::r,τ,s::as,τ',e=>by
  cases s with
  | no=>cases e
  | shr d=>cases e
  | mu b m2 =>
   cases b with
   | false=>cases e
   | true =>
    obtain ⟨τ1,e1,e2⟩:=bind_some (show (back (τ.set i .no) r as).bind _=_ from e)
    have l1:=pq e1
    rw [List.length_set] at l1
    split at e2
    ·cases e2
     rw [List.length_set,l1]
    · cases e2
abbrev CU:Hp:=fun _=>none
theorem my : ∀ {as : List Am} {τ ss:List Sm} {fp:List Addr} {vs:List V},StM K H0 Hs H ρ σ τ fp->qZ K Hs H σ vs as->lend τ as=some ss ->
    ∃ fpa,StM K CU Hs H (iU vs) (vs.map some) ss fpa/\(∀ c ∈ fpa,c ∈ fp) /\
    ∀ Hs' H' ss' fpa' τ',bY Hs Hs'->(∀ c ∈ fp,c ∉ fpa->Hs' c=none/\H' c=H c)->StM K CU Hs' H' (iU vs) (vs.map some) ss' fpa'->(∀ c ∈ fpa',c ∈ fpa\/(c ∉ fp/\H0 c=none))->back τ as ss'=some τ' ->
      ∃ fp',StM K H0 Hs' H' ρ σ τ' fp'/\∀ c ∈ fp',(c ∈ fp/\c ∉ fpa)\/c ∈ fpa'
  | [],τ,ss,fp,[],st,.nil,e=>by
    cases e
    refine ⟨[],.nil,fun c hc=>(nomatch hc),fun Hs' H' ss' fpa' τ' g k sa j eb=>?_⟩
    rw [tT] at eb
    cases eb
    exact ⟨fp,st.mv g fun c hc=>k c hc (by simp),fun c hc=>.inl ⟨hc,by simp⟩⟩
  | .v d :: r,τ,ss,fp,_,st,.v h rr,e=>by
    obtain ⟨ss1,e1,rfl⟩:=Zm (show (lend τ r).map _=_ from e)
    obtain ⟨fpa,s1,w1,w2⟩:=my st rr e1
    refine ⟨fpa,.shr h s1,w1,fun Hs' H' ss' fpa' τ' g k sa j eb=>?_⟩
    cases ss' with
    | nil=>cases eb
    | cons s as' =>
      cases sa with
      | no sa=>exact w2 Hs' H' as' _ τ' g k sa j eb
      | shr _ sa=>exact w2 Hs' H' as' _ τ' g k sa j eb
      | mu _ _ _ _ sa =>
        obtain ⟨fp',h1,h2⟩:=w2 Hs' H' as' _ τ' g k sa (fun c hc=>j c (List.mem_append_right _ hc)) eb
        exact ⟨fp',h1,fun c hc=>(h2 c hc).imp id fun y=>List.mem_append_right _ y⟩
  | .p i q :: r, τ, ss, fp,_,st,@qZ.p _ _ _ _ x rt _ _ vs _ h1 h2 rr,e=>by
    have e':(match bE τ i q with | some (.n t cs)=>(lend (τ.set i .no) r).map (.mu true (.n t cs)::·) | _=>none)=some ss:=e
    split at e'
    · rename_i t cs eg
      obtain ⟨ss1,e1,rfl⟩:=Zm e'
      obtain ⟨b,m,em,egm⟩:=fM eg
      obtain ⟨v0,fq,fp0,o1,o2,o3,o4,o5⟩:=st.out em
      rw [h1] at o1
      cases o1
      obtain ⟨fp1,v1,w1,w2,w3,w4⟩:=o2.uV q egm
      rw [h2] at w1
      cases w1
      obtain ⟨a,dx,ts,u,rfl,_⟩:=w2.inv
      obtain ⟨fpa,s1,a1,a2⟩:=my o3 rr e1
      have dj:∀ c ∈ fp1,c ∉ fpa:=fun c hc y=>(o4 c (w3 c hc)).1 (a1 c y)
      refine ⟨fp1++fpa,.mu w2 (fun _=>⟨a,rfl,rfl⟩) (fun _ _=>rfl) dj s1,fun c hc=>?_,fun Hs' H' ss' fpa' τ' g k sa j eb=>?_⟩
      · rcases List.mem_append.mp hc with y | y
        · exact (o5 c).mpr (.inl (w3 c y))
        · exact (o5 c).mpr (.inr (a1 c y))
      · cases ss' with
        | nil=>cases eb
        | cons s as' =>
          cases s with
          | no=>cases eb
          | shr d=>cases eb
          | mu b2 m2 =>
            cases b2 with
            | false=>cases eb
            | true =>
              obtain ⟨τ1,eb1,eb2⟩:=bind_some (show (back (τ.set i .no) r as').bind _=_ from eb)
              simp only [em] at eb2
              cases eb2
              cases sa with
              | @mu _ _ _ _ _ _ _ fq2 fpr od2 _ _ jj sr =>
                obtain ⟨fpx,x1,x2⟩:=a2 Hs' H' as' fpr τ1 g (fun c hc hn=>k c ((o5 c).mpr (.inr hc)) fun y=>(List.mem_append.mp y).elim (fun y=>(o4 c (w3 c y)).1 hc) hn) sr (fun c hc=>by
                  rcases j c (List.mem_append_right _ hc) with y | y
                  · rcases List.mem_append.mp y with y | y
                    · exact .inr ⟨(o4 c (w3 c y)).1,(st.live c (o4 c (w3 c y)).2).2.2⟩
                    · exact .inl y
                  · exact .inr ⟨fun z=>y.1 ((o5 c).mpr (.inr z)),y.2⟩) eb1
                obtain ⟨fpo,y1,y2⟩:=w4 Hs' H' fq2 m2 g (fun c hc hn=>k c ((o5 c).mpr (.inl hc)) fun y=>(List.mem_append.mp y).elim hn fun y=>(o4 c hc).1 (a1 c y)) od2 (fun c hc=>by
                  rcases j c (List.mem_append_left _ hc) with y | y
                  · rcases List.mem_append.mp y with y | y
                    · exact .inl y
                    · exact .inr fun z=>(o4 c z).1 (a1 c y)
                  · exact .inr fun z=>y.1 ((o5 c).mpr (.inl z)))
                have hlen:i < τ1.length:=by
                  rw [pq eb1,List.length_set]
                  exact (List.getElem?_eq_some_iff.mp em).1
                obtain ⟨fp',z1,z2⟩:=x1.fill (i:=i) (b:=b) y1 (fun c hc=>by
                  rcases (y2 c).mp hc with y | y
                  · refine ⟨(st.live c (o4 c y.1).2).2.2,fun z=>?_⟩
                    rcases x2 c z with z | z
                    · exact (o4 c y.1).1 z.1
                    · rcases j c (List.mem_append_right _ z) with w | w
                      · rcases List.mem_append.mp w with w | w
                        · exact y.2 w
                        · exact (o4 c y.1).1 (a1 c w)
                      · exact w.1 (o4 c y.1).2
                  · refine ⟨?_,fun z=>?_⟩
                    · rcases j c (List.mem_append_left _ y) with w | w
                      · rcases List.mem_append.mp w with w | w
                        · exact (st.live c (o4 c (w3 c w)).2).2.2
                        · exact (st.live c ((o5 c).mpr (.inr (a1 c w)))).2.2
                      · exact w.2
                    · rcases x2 c z with z | z
                      · rcases j c (List.mem_append_left _ y) with w | w
                        · rcases List.mem_append.mp w with w | w
                          · exact (o4 c (w3 c w)).1 z.1
                          · exact z.2 w
                        · exact w.1 ((o5 c).mpr (.inr z.1))
                      · exact jj c y z) hlen h1 (fun hb=>st.pin em h1 hb)
                refine ⟨fp',z1,fun c hc=>?_⟩
                rcases z2 c hc with y | y
                · rcases (y2 c).mp y with y | y
                  · exact .inl ⟨(o4 c y.1).2,fun w=>(List.mem_append.mp w).elim y.2 fun w=>(o4 c y.1).1 (a1 c w)⟩
                  · exact .inr (List.mem_append_left _ y)
                · rcases x2 c y with y | y
                  · exact .inl ⟨(o5 c).mpr (.inr y.1),fun w=>(List.mem_append.mp w).elim (fun w=>(o4 c (w3 c w)).1 y.1) y.2⟩
                  · exact .inr (List.mem_append_right _ y)
    · cases e'
end
abbrev DAm:=List Sm->Option (List Am)
def KL (N:Hp) (K:W.Frag) (g:DAm):TA:=fun σ H Q=>∃ (Hs0 H0:Hp),∃ (_:Nf N H0),∃ ρ Hs τ as,bF K Hs0 H0 ρ Hs H σ τ/\g τ=some as/\∀ vs Hs' H',bY H H'->bF K Hs0 H0 ρ Hs' H' σ τ->bY Hs Hs'->qZ K Hs' H' σ vs as->Q vs H'
def PAm (X:Cx) (es:List Expr) (g:DAm):Prop:=PA X es (KL X.H₀ X.K g)
def KH (N:Hp) (K:W.Frag) (g:List Sm->Option Am):TE:=fun σ H Q=>∃ (Hs0 H0:Hp),∃ (_:Nf N H0),∃ ρ Hs τ a,bF K Hs0 H0 ρ Hs H σ τ/\g τ=some a/\∀ v Hs' H',bY H H'->bF K Hs0 H0 ρ Hs' H' σ τ->bY Hs Hs'->qZ K Hs' H' σ [v] [a]->Q v H'
def PQm (X:Cx) (e:Expr) (g:List Sm->Option Am):Prop:=PE X e (KH X.H₀ X.K g)
def qS (g:DE):List Sm->Option Am:=fun τ=>(g (bB τ)).bind fun d=>if sca d=true then some (.v d) else none
def qN (g:DE):List Sm->Option Am:=fun τ=>(g (er τ)).map .v
def qX (f:DPx):List Sm->Option Am:=fun τ=>(f τ).bind fun p=>match bE τ p.1 p.2 with
 | some (.n _ _)=>some (.p p.1 p.2)
 | some (.s d)=>some (.v d)
 | none=>none
def jA:DAm:=fun _=>some []
def aP (h:List Sm->Option Am) (g:DAm):DAm:=fun τ=>(h τ).bind fun a=>(g τ).map (a::·)
theorem qZ.app {K:W.Frag} {Hs H:Hp} {σ:St} {v:V} {a:Am} {vs:List V} {as:List Am} (h:qZ K Hs H σ [v] [a]) (r:qZ K Hs H σ vs as):qZ K Hs H σ (v::vs) (a::as):=by
 cases h with
 | v h _=>exact .v h r
 | p h1 h2 _=>exact .p h1 h2 r
def se (F:List Sm->Option (Sm×List Sm)) (τ:List Sm) (as:List Am):Option (Sm×List Sm):=(lend τ as).bind fun ss=>(F ss).bind fun x=>(back τ as x.2).map fun τ'=>(x.1,τ')
section
variable {K:W.Frag} {Hs0 H0 Hs H Hs' H':Hp} {ρ:List (Option Addr)} {σ:St} {τ:List Sm}
theorem me {fp:List Addr} {c:Addr} (h:off H fp c=none):c ∈ fp\/H c=none:=by
 unfold off at h
 split at h
 · exact .inl ‹_›
 · exact .inr h
theorem zx {fp:List Addr}:bY (off H fp) H:=fun b o e=>by
 unfold off at e
 split at e
 · cases e
 · exact e
theorem sT {fp:List Addr} {c:Addr} (h:c ∈ fp):off H fp c=none:=if_pos h
theorem kC {fp:List Addr} {c:Addr} (h:c ∉ fp):off H fp c=H c:=if_neg h
theorem bF.call {F:List Sm->Option (Sm×List Sm)} {vs:List V} {as:List Am} {s:Sm} {τ':List Sm} {Q:VK} {E:XK} (r:bF K Hs0 H0 ρ Hs H σ τ) (ha:qZ K Hs H σ vs as) (e:se F τ as=some (s,τ'))
  (k:∀ v Hs' H',bF K Hs0 H0 (none::ρ) Hs' H' (some v::σ) (s::τ')->Q v H'):spM F K vs H Q E:=by
 obtain ⟨ss,e1,e⟩:=bind_some e
 obtain ⟨⟨s0,ss'⟩,e2,e⟩:=bind_some e
 obtain ⟨τ0,e3,e4⟩:=Zm e
 obtain ⟨e4,e5⟩:=Prod.mk.inj e4
 have e4':s0=s:=e4
 subst e4' e5
 obtain ⟨fp,st⟩:=r.st
 obtain ⟨fpa,sA,sub,uV⟩:=my st ha e1
 refine ⟨Hs,fpa,ss,s0,ss',r.sm,sA.rebase fun c hc=>sT hc,e2,fun v Hs' H' fp2 g s2=>?_⟩
 have far:∀ c ∈ fp,c ∉ fpa->Hs' c=none/\H' c=H c:=fun c hc hn=>by
  obtain ⟨l1,l2,_⟩:=st.live c hc
  have ho:off H fpa c=H c:=kC hn
  refine ⟨g.fr c l1 (by rw [ho]; exact l2),?_⟩
  cases q:H c with
  | none=>exact absurd q l2
  | some u=>exact g.hh _ _ (ho.trans q)
 have ex:Ext Hs0 H0 Hs' H':=by
  have nf:∀ c,H0 c≠none->c ∉ fpa:=fun c h q=>h (st.live c (sub c q)).2.2
  refine ⟨r.ext.ss.trans g.ss,g.sh,fun c o e=>?_,fun c h1 h2=>?_⟩
  · exact g.hh _ _ ((kC (nf c (ja e))).trans (r.ext.hh _ _ e))
  · exact g.fr c (r.ext.fr c h1 h2) (by rw [kC (nf c h2)]; exact r.ext.hh.live h2)
 have fin:∀ fpr,StM K (off H fpa) Hs' H' (iU vs) (vs.map some) ss' fpr->∃ fp',StM K H0 Hs' H' ρ σ τ0 fp'/\∀ c ∈ fp',(c ∈ fp/\c ∉ fpa)\/c ∈ fpr:=fun fpr sr=>by
  refine uV Hs' H' ss' fpr τ0 g.ss far (sr.rebase fun _ _=>rfl) (fun c hc=>?_) e3
  rcases me (sr.live c hc).2.2 with y | y
  · exact .inl y
  · exact .inr ⟨st.new y,r.old y⟩
 cases s2 with
 | no sr =>
  obtain ⟨fp',h1,_⟩:=fin _ sr
  exact k v Hs' H' ⟨ex,_,.no h1⟩
 | shr h sr =>
  obtain ⟨fp',h1,_⟩:=fin _ sr
  exact k v Hs' H' ⟨ex,_,.shr h h1⟩
 | @mu _ _ b m _ _ _ fq fpr od hp z j sr =>
  obtain ⟨fp',h1,h2⟩:=fin _ sr
  refine k v Hs' H' ⟨ex,_,.mu od (fun hb=>by obtain ⟨a,q,_⟩:=hp hb; cases q) (fun c hc=>?_) (fun c hc y=>?_) h1⟩
  ·rcases me (z c hc) with y | y
   · exact (st.live c (sub c y)).2.2
   · exact r.old y
  ·rcases h2 c y with w | w
   ·rcases me (z c hc) with y | y
    · exact w.2 y
    · exact (st.live c w.1).2.1 y
   · exact j c hc w
end
def eC (F:List Sm->Option (Sm×List Sm)) (g:DAm):DEm:=fun τ=>(g τ).bind fun as=>se F τ as
def eM (C:Addr) (m:Str) (F:List Sm->Option (Sm×List Sm)) (f:DPx) (g:DAm):DEm:=fun τ=>(f τ).bind fun p=>match bE τ p.1 p.2 with
 | some (.n (.o C') cs)=>if C'=C/\(cs.any fun c=>decide (c.1=.inr m))=false then (g τ).bind fun as=>se F τ (.p p.1 p.2::as) else none
 | _=>none
def eK (C:Addr) (F:List Sm->Option (Sm×List Sm)) (g:DAm):DEm:=fun τ=>(g τ).bind fun as=>(lend τ as).bind fun ss=>(F (.mu true (.n (.o C) [])::ss)).bind fun x=>match x.1,x.2 with
 | .shr .non,.mu true m::r=>(back τ as r).map fun τ'=>(.mu false m,τ')
 | _,_=>none
section
variable {X:Cx} {a b c e o:Expr} {es:List Expr} {pos apos cpos pos' p:Pos} {x m:Str} {k:Nat} {f fa C:Addr} {fd:FuncData} {ps:List Str} {F:List Sm->Option (Sm×List Sm)} {g:DAm}
theorem K1 {g:DE} (h:PEd X e g):PQm X e (qS g):=PE.imp h fun σ H Q ⟨Hs0,H0,nf,ρ,Hs,τ,a,r,e,k⟩=>by
 obtain ⟨d,e1,e2⟩:=bind_some e
 split at e2
 ·rename_i hs
  cases e2
  obtain ⟨fp,st⟩:=r.st
  exact ⟨H,H,bB τ,[],d,st.bB r.sm,.refl H,e1,fun v Hs' H' g1 rv=>k v Hs H' g1.hh (r.grow g1.hh) (.refl _) (.v (nM rv hs) .nil)⟩
 · cases e2
theorem K0 {g:DE} (h:PEd X e g):PQm X e (qN g):=PE.imp h fun σ H Q ⟨Hs0,H0,nf,ρ,Hs,τ,a,r,e,k⟩=>by
 obtain ⟨d,e1,e2⟩:=Zm e
 cases e2
 obtain ⟨fp,st⟩:=r.st
 exact ⟨H0,Hs,er τ,[],d,st.er,r.sm,e1,fun v Hs' H' g1 rv=>k v Hs' H' g1.hh (r.ext' g1) g1.ss (.v rv .nil)⟩
theorem KZ {f:DPx} (h:PXm X e f):PQm X e (qX f):=PE.imp h fun σ H Q ⟨Hs0,H0,nf,ρ,Hs,τ,a,r,e,k⟩=>by
 obtain ⟨⟨i,q⟩,e1,e2⟩:=bind_some e
 split at e2
 ·rename_i t cs eg
  cases e2
  exact ⟨Hs0,H0,nf,ρ,Hs,τ,i,q,_,r,e1,eg,fun v v1 H' g hv hq=>k v1 Hs H' g (r.grow g) (.refl _) (.p hv hq .nil)⟩
 ·rename_i d eg
  cases e2
  refine ⟨Hs0,H0,nf,ρ,Hs,τ,i,q,_,r,e1,eg,fun v v1 H' g hv hq=>?_⟩
  have r':=r.grow g
  obtain ⟨fp,st⟩:=r'.st
  obtain ⟨b,m,e3,e4⟩:=fM eg
  obtain ⟨v',fp1,v1',w1,w2,w3,_⟩:=st.uV e3 e4
  rw [hv] at w1
  cases w1
  rw [hq] at w2
  cases w2
  cases w3 with
  | s rr=>exact k v1 Hs H' g r' (.refl _) (.v rr .nil)
 · cases e2
theorem Cb:PAm X [] jA:=gE.imp fun σ H Q ⟨Hs0,H0,nf,ρ,Hs,τ,as,r,e,k⟩=>by
 cases e
 exact k [] Hs H (.refl H) r (.refl _) .nil
theorem zv {h:List Sm->Option Am} (h1:PQm X e h) (h2:PAm X es g) (hs:starEach (e::es) X.env=(false,eval e X.env)::starEach es X.env:=by rfl):PAm X (e::es) (aP h g) :=
 (dm h1 h2 hs).imp fun σ H Q ⟨Hs0,H0,nf,ρ,Hs,τ,as,r,e,k⟩=>by
   obtain ⟨a,e1,e2⟩:=bind_some e
   obtain ⟨as',e3,e4⟩:=Zm e2
   cases e4
   refine ⟨Hs0,H0,nf,ρ,Hs,τ,a,r,e1,fun v Hs1 H1 g1 r1 s1 a1=>?_⟩
   refine ⟨Hs0,H0,nf,ρ,Hs1,τ,as',r1,e3,fun vs Hs2 H2 g2 r2 s2 a2=>?_⟩
   exact k (v::vs) Hs2 H2 (g1.trans g2) r2 (s1.trans s2) ((a1.ext s2 g2).app a2)
theorem BS (Fo:dg X.prog X.w X.K X.mg X.base CX0 k f fd ps (spM F X.K)) (hr:fo k X.A) (hg:Gl X x) (hm:X.mg x=some (.ref f)) (hk:W.keepIn X.K (.ref f)=true) (hb:Binds X.K fd ps [])
  (ha:PAm X (e::es) g) (hdb:(x == ("__debug__":Str))=false:=by decide) (he:starEach (e::es) X.env=(false,eval e X.env)::starEach es X.env:=by rfl) (hpl:(backTo pos (starEach es X.env)).any (·.1)=false:=by rfl) :
  PEm X (.Call (.Name x p) (e::es) [] pos) (eC F g):=(ma Fo hr hg hm hk hb .nil oO ha hdb he hpl).imp fun σ H Q ⟨Hs0,H0,nf,ρ,Hs,τ,s,τ',r,e,k⟩=>by
 obtain ⟨as,e1,e2⟩:=bind_some e
 refine ⟨Hs0,H0,nf,ρ,Hs,τ,as,r,e1,fun vs Hs1 H1 g1 r1 s1 a1=>?_⟩
 show spM F X.K (vs++[]) H1 Q E0
 rw [List.append_nil]
 exact r1.call a1 e2 k
theorem BQ {pl:Sem Bool} {fx:DPx} (ho:PXm X o fx) (c:Cls X.K C) (hm:rl X.K C m fa) (Fo:dg X.prog X.w X.K X.mg X.base CX0 k fa fd ps (spM F X.K)) (hr:fo k X.A) (hb:Binds X.K fd ps []) (ha:PAm X (e::es) g)
  (hst:starEach (e::es) X.env=(false,eval e X.env)::starEach es X.env:=by rfl) (hpl:(backTo pos (starEach es X.env)).any (·.1)=false:=by rfl)
  (ht:eval (.Call (.Attribute o m apos) (e::es) [] pos) X.env=(do
    let ov <- eval o X.env
    standAt apos.atName
    let (f,first) <- holding [ov] (getMethod ov m pl)
    callWith pos f first (backTo pos (starEach (e::es) X.env)) (backToKw pos (keywordEach [] X.env))):=by rfl) :
  PEm X (.Call (.Attribute o m apos) (e::es) [] pos) (eM C m F fx g):=(rE (pl:=pl) ho c hm Fo hr hb .nil oO ha hst hpl ht).imp fun σ H Q ⟨Hs0,H0,nf,ρ,Hs,τ,s,τ',r,e,k⟩=>by
 obtain ⟨⟨i,q⟩,e1,e2⟩:=bind_some e
 split at e2
 ·rename_i C' cs en
  split at e2
  · rename_i hc
    obtain ⟨hc,hn⟩:=hc
    subst hc
    obtain ⟨as,e3,e4⟩:=bind_some e2
    refine ⟨Hs0,H0,nf,ρ,Hs,τ,i,q,_,r,e1,en,fun rt v1 H1 g1 hrt hq=>?_⟩
    have r1:=r.grow g1
    obtain ⟨a,dx,ts,u,rfl,rfl,hu,hl,_⟩:=r1.Co en hrt hq
    generalize ek:ts.map Kd.kv=kvs at hl
    cases hl with
    | o fs =>
     refine ⟨a,dx,fs,rfl,hu,?_,Hs0,H0,nf,ρ,Hs,τ,as,r1,e3,fun vs Hs2 H2 g2 r2 s2 a2=>?_⟩
     ·rw [<- oo,<- ek]
      have:=jH (Sum.inr m) (ts.map Kd.kv)
      rw [List.any_map] at this hn
      have h2:(dD (ts.map Kd.kv) (Sum.inr m)).isSome=false:=this.symm.trans hn
      cases q:dD (ts.map Kd.kv) (Sum.inr m) with
      | none=>rfl
      | some y=>rw [q] at h2; cases h2
     ·show spM F X.K (V.ref a::(vs++[])) H2 Q E0
      rw [List.append_nil]
      exact r2.call (.p hrt (dO g2 q hq) a2) e4 k
  · cases e2
 · cases e2
theorem BR (M:Mk X.K C fa) (Fo:dg X.prog X.w X.K X.mg X.base CX0 k fa fd ps (spM F X.K)) (hr:fo (k+1) X.A) (hg:Gl X x) (hm:X.mg x=some (.ref C)) (hb:Binds X.K fd ps [])
  (ha:PAm X (e::es) g) (hdb:(x == ("__debug__":Str))=false:=by decide) (he:starEach (e::es) X.env=(false,eval e X.env)::starEach es X.env:=by rfl) (hpl:(backTo pos (starEach es X.env)).any (·.1)=false:=by rfl) :
  PEm X (.Call (.Name x p) (e::es) [] pos) (eK C F g):=(BZ M Fo hr hg hm hb .nil oO ha hdb he hpl).imp fun σ H Q ⟨Hs0,H0,nf,ρ,Hs,τ,s,τ',r,e,k⟩=>by
 obtain ⟨as,e1,e2⟩:=bind_some e
 obtain ⟨ss,e3,e4⟩:=bind_some e2
 obtain ⟨⟨s0,ss'⟩,e5,e6⟩:=bind_some e4
 refine ⟨Hs0,H0,nf,ρ,Hs,τ,as,r,e1,fun vs Hs1 H1 g1 r1 s1 a1 y dx hy hdx ne=>?_⟩
 rw [List.append_nil]
 split at e6
 ·rename_i m0 r0 q1 q2
  have q1':s0=.shr .non:=q1
  have q2':ss'=.mu true m0::r0:=q2
  subst q1' q2'
  obtain ⟨τ0,e7,e8⟩:=Zm e6
  cases e8
  let H2:Hp:=upd (upd H1 dx (.own y)) y (.ins C dx [])
  have hy1:upd H1 dx (.own y) y=none:=(ak (Ne.symm ne)).trans hy
  have g2:bY H1 H2:=(aB hdx _).trans (aB hy1 _)
  have r2:=r1.grow g2
  obtain ⟨fp,st⟩:=r1.st
  have st2:StM X.K H0 Hs1 H2 ρ σ τ fp:=st.ext ⟨.refl _,r1.ext.sh.trans g2,g2,fun _ h _=>h⟩
  obtain ⟨fpa,sA,sub,uV⟩:=my st2 (a1.ext (.refl _) g2) e3
  have yfp:y ∉ fp:=st.new hy
  have od:Od X.K Hs1 H2 [y] (.ref y) (.n (.o C) []):=Od.n (ts:=[]) (dx:=dx) (u:=.ins C dx []) au (.o []) (r1.sm.free hy) (by show ([]:List Key).Nodup; exact .nil) (by simp) (fun c hc=>by cases hc)
  have sN:StM X.K (off H2 (y::fpa)) Hs1 H2 (iU (.ref y::vs)) ((V.ref y::vs).map some) (.mu true (.n (.o C) [])::ss) ([y]++fpa):=.mu od (fun _=>⟨y,rfl,rfl⟩) (fun c hc=>sT (by rw [List.mem_singleton.mp hc]; exact List.mem_cons_self ..)) (fun c hc q=>yfp (sub y (by rw [<- List.mem_singleton.mp hc]; exact q))) (sA.rebase fun c hc=>sT (List.mem_cons_of_mem _ hc))
  refine ⟨Hs1,y::fpa,_,_,_,r2.sm,sN,e5,fun v Hs' H' fp2 g s2=>⟨?_,?_⟩⟩
  ·cases s2 with
   | shr h _=>cases h; rfl
  ·cases s2 with
   | shr h sr =>
   cases sr with
   | @mu _ _ _ _ _ _ _ fq fpr od2 hp z j sr =>
   have far:∀ c ∈ fp,c ∉ fpa->Hs' c=none/\H' c=H2 c:=fun c hc hn=>by
    obtain ⟨l1,l2,_⟩:=st2.live c hc
    have ho:off H2 (y::fpa) c=H2 c:=kC fun q=>(List.mem_cons.mp q).elim (fun q=>yfp (q ▸ hc)) hn
    refine ⟨g.fr c l1 (by rw [ho]; exact l2),?_⟩
    cases q:H2 c with
    | none=>exact absurd q l2
    | some u=>exact g.hh _ _ (ho.trans q)
   have h0y:H0 y=none:=r1.old hy
   have ex:Ext Hs0 H0 Hs' H':=by
    have nf:∀ c,H0 c≠none->c ∉ y::fpa:=fun c h q=>(List.mem_cons.mp q).elim (fun q=>h (q ▸ h0y)) fun q=>h (st.live c (sub c q)).2.2
    refine ⟨r1.ext.ss.trans g.ss,g.sh,fun c o e=>?_,fun c h1 h2=>?_⟩
    · exact g.hh _ _ ((kC (nf c (ja e))).trans (r2.ext.hh _ _ e))
    · exact g.fr c (r1.ext.fr c h1 h2) (by rw [kC (nf c h2)]; exact r2.ext.hh.live h2)
   obtain ⟨fp',h1,h2⟩:=uV Hs' H' r0 fpr _ g.ss far (sr.rebase fun _ _=>rfl) (fun c hc=>by
    rcases me (sr.live c hc).2.2 with w | w
    ·rcases List.mem_cons.mp w with w | w
     ·subst w
      exact .inr ⟨yfp,h0y⟩
     · exact .inl w
    · exact .inr ⟨st2.new w,r2.old w⟩) e7
   refine k (.ref y) Hs' H' ⟨ex,_,.mu od2 (fun hb=>by cases hb) (fun c hc=>?_) (fun c hc q=>?_) h1⟩
   ·rcases me (z c hc) with w | w
    ·rcases List.mem_cons.mp w with w | w
     · rw [w]; exact h0y
     · exact (st.live c (sub c w)).2.2
    · exact r2.old w
   ·rcases h2 c q with w | w
    ·rcases me (z c hc) with y' | y'
     ·rcases List.mem_cons.mp y' with y' | y'
      · exact yfp (y' ▸ w.1)
      · exact w.2 y'
     · exact (st2.live c w.1).2.1 y'
    · exact j c hc w
 · cases e6
end
def xi:Sm->Sm
 | .mu true m=>.mu true m
 | _=>.no
def q8 (n m:Nat) (b:DSm) (as:List Sm):Option (Sm×List Sm):=if as.length=m then (match b (as++List.replicate (n - as.length) .no) with
 | some (.ret s τ)=>some (s,(τ.take m).map xi)
 | some (.next τ)=>some (.shr .non,(τ.take m).map xi)
 | _=>none) else none
section
variable {K:W.Frag} {H0 Hs H:Hp}
theorem StM.startM {ρ:List (Option Addr)} {σ:List (Option V)} {τ:List Sm} {fp:List Addr} (k:Nat) (h:StM K H0 Hs H ρ σ τ fp):StM K H0 Hs H (ρ++List.replicate k none) (σ++List.replicate k none) (τ++List.replicate k .no) fp:=by
 induction h with
 | nil =>
  induction k with
  | zero=>exact .nil
  | succ k ih=>rw [List.replicate_succ,List.replicate_succ,List.replicate_succ]; exact .no ih
 | no _ ih=>exact .no ih
 | shr h _ ih=>exact .shr h ih
 | mu h hp z j _ ih=>exact .mu h hp z j ih
theorem StM.sC:∀ {vs:List V} {ρ:List (Option Addr)} {σ:List (Option V)} {τ:List Sm} {fp:List Addr},StM K H0 Hs H (iU vs++ρ) σ τ fp->∃ fp',StM K H0 Hs H (iU vs) (vs.map some) ((τ.take vs.length).map xi) fp'/\∀ c ∈ fp',c ∈ fp
 | [],ρ,σ,τ,fp,h=>⟨[],.nil,fun c hc=>(nomatch hc)⟩
 | v :: vs,ρ,σ,τ,fp,h=>by
  cases h with
  | no r =>
   obtain ⟨fp',h1,h2⟩:=StM.sC r
   exact ⟨fp',.no h1,h2⟩
  | shr _ r =>
   obtain ⟨fp',h1,h2⟩:=StM.sC r
   exact ⟨fp',.no h1,h2⟩
  | @mu _ w b m _ _ _ fq fr od hp z j r =>
   obtain ⟨fp',h1,h2⟩:=StM.sC r
   cases b with
   | false=>exact ⟨fp',.no h1,fun c hc=>List.mem_append_right _ (h2 c hc)⟩
   | true =>
    obtain ⟨a,p1,p2⟩:=hp rfl
    have ev:v=.ref a:=by
     cases v <;> simp [J5] at p1
     rw [p1]
    subst p2
    subst ev
    exact ⟨fq++fp',.mu od (fun _=>⟨a,rfl,rfl⟩) z (fun c hc q=>j c hc (h2 c q)) h1,fun c hc=>(List.mem_append.mp hc).elim (List.mem_append_left _) fun q=>List.mem_append_right _ (h2 c q)⟩
theorem Od.Cn {fp:List Addr} {v:V} {m:Mt} (h:Od K Hs H fp v m):∀ c ∈ fp,∀ o u,H c≠some (.frz o u):=by
 induction h with
 | s r=>intro c h; cases h
 | @n a dx t ts u h hl nh ku nd r ih =>
  intro c hc o w
  rcases List.mem_cons.mp hc with e | e
  ·subst e
   rw [h]
   generalize ts.map Kd.kv=kvs at hl
   cases hl <;> (intro z; cases z)
  ·obtain ⟨k,hk,hb⟩:=List.mem_flatMap.mp e
   exact ih k hk c hb o w
theorem StM.Cn {ρ:List (Option Addr)} {σ:List (Option V)} {τ:List Sm} {fp:List Addr} (h:StM K H0 Hs H ρ σ τ fp):∀ c ∈ fp,∀ o u,H c≠some (.frz o u):=by
 induction h with
 | nil=>intro c h; cases h
 | no _ ih=>exact ih
 | shr _ _ ih=>exact ih
 | mu h hp z j _ ih=>exact fun c hc=>(List.mem_append.mp hc).elim (h.Cn c) (ih c)
variable {P:Program} {w:World} {mg:Str->Option Value} {base:Heap}
theorem Fun.okM {x qual:Str} {st:Stmt} {f:Addr} {fd:FuncData} {N ps:List Str} {k:Nat} {b:DSm} (F:Fun K x qual st f fd) (S:aS N ps (ah st))
  (hbody:∀ (cdv:Value) (A:Around) (outer:List Env) (s:Shared) (H:Hp) (E:XK),fo k (A.deeper (envOfC qual (ah st) s.heap.objs.size f cdv)) ->
    pF (xS CX0 P w K mg base N qual (ah st) f cdv A outer s H E).nox (aw st) b):dg P w K mg base CX0 (k+1) f fd ps (spM (q8 N.length ps.length b) K):=by
 refine F.ok S (fun vs H Q E h=>?_) (fun cdv A outer s H vs Q E hr h=>?_)
 ·obtain ⟨Hs,fp,as,s,as',sm,r,e,_⟩:=h
  unfold q8 at e
  split at e
  · rename_i hl
    have:=r.len
    rw [List.length_map] at this
    rw [this]; exact hl
  · cases e
 obtain ⟨Hs,fp,as,sl,as',sm,r,e,q⟩:=h
 refine ⟨_,hbody cdv A outer s H E hr,?_⟩
 have lv:vs.length=as.length:=by have:=r.len; rw [List.length_map] at this; exact this
 unfold q8 at e
 split at e
 ·rename_i hl
  have h0:bF K Hs (off H fp) (iU vs++List.replicate (N.length - vs.length) none) Hs H (start N vs) (as++List.replicate (N.length - as.length) .no):=⟨⟨.refl _,sm,zx,fun _ h _=>h⟩,fp,by unfold start; rw [lv]; exact r.startM _⟩
  have nf:Nf H (off H fp):=fun d o u e z=>by
    rcases me z with q | q
    · exact r.Cn d q o u e
    · rw [q] at e; cases e
  cases q2:b (as++List.replicate (N.length - as.length) .no) with
  | none=>rw [q2] at e; cases e
  | some o =>
    rw [q2] at e
    refine ⟨Hs,off H fp,nf,_,Hs,_,o,h0,q2,?_⟩
    cases o with
    | next τ =>
     cases e
     intro σ Hs' H' r'
     obtain ⟨fp1,s1⟩:=r'.st
     obtain ⟨fp2,s2,_⟩:=s1.sC
     rw [lv,hl] at s2
     exact q .non Hs' H' fp2 r'.ext (.shr .non s2)
    | ret s τ =>
     cases e
     intro v σ Hs' H' r'
     obtain ⟨fp1,s1⟩:=r'.st
     cases s1 with
     | no s1 =>
      obtain ⟨fp2,s2,_⟩:=s1.sC
      rw [lv,hl] at s2
      exact q v Hs' H' fp2 r'.ext (.no s2)
     | shr h s1 =>
      obtain ⟨fp2,s2,_⟩:=s1.sC
      rw [lv,hl] at s2
      exact q v Hs' H' fp2 r'.ext (.shr h s2)
     | mu h hp z j s1 =>
      obtain ⟨fp2,s2,sub⟩:=s1.sC
      rw [lv,hl] at s2
      exact q v Hs' H' _ r'.ext (.mu h hp z (fun c hc y=>j c hc (sub c y)) s2)
    | brk τ=>cases e
    | cnt τ=>cases e
 · cases e
end
section
variable {K:W.Frag} {Hs0 H0 Hs H Hs' H':Hp} {ρ:List (Option Addr)} {σ:St} {τ:List Sm}
theorem bF.rebase (r:bF K Hs0 H0 ρ Hs H σ τ):bF K Hs H0 ρ Hs H σ τ:=⟨⟨.refl _,r.sm,r.ext.hh,fun _ h _=>h⟩,r.st⟩
theorem bF.kU {Hs1 H1:Hp} (a:Ext Hs0 H0 Hs1 H1) (r:bF K Hs1 H0 ρ Hs H σ τ):bF K Hs0 H0 ρ Hs H σ τ:=⟨a.sub r.ext,r.st⟩
theorem Hn.rebase {Hs1 H1:Hp} {E:Ends} {o:Aa} (a:Ext Hs0 H0 Hs1 H1) (h:Hn K Hs0 H0 ρ E o):Hn K Hs1 H0 ρ E o:=by
 cases o with
 | next τ=>exact fun σ Hs H r=>h σ Hs H (r.kU a)
 | brk τ=>exact fun σ Hs H r=>h σ Hs H (r.kU a)
 | cnt τ=>exact fun σ Hs H r=>h σ Hs H (r.kU a)
 | ret s τ=>exact fun v σ Hs H r=>h v σ Hs H (r.kU a)
theorem bF.uW {i:Nat} {v:V} {d:D} (r:bF K Hs0 H0 ρ Hs H σ τ) (h:Rp K Hs v d):bF K Hs0 H0 ρ Hs H (σ.set i (some v)) (τ.set i (.shr d)):=⟨r.ext,by
 obtain ⟨fp,st⟩:=r.st
 obtain ⟨fp',h1,_⟩:=st.uW (i:=i) h
 exact ⟨fp',h1⟩⟩
theorem bF.hold {p:Addr} {u:HO} (r:bF K Hs0 H0 ρ Hs H σ τ) (hp:H p=none):bF K Hs0 (upd H0 p u) ρ Hs (upd H p u) σ τ:=by
 obtain ⟨fp,st⟩:=r.st
 refine ⟨⟨r.ext.ss,r.sm.trans (aB hp u),fun b o e=>?_,fun b h1 h2=>?_⟩,fp,?_⟩
 ·by_cases z:b=p
  · subst z; rw [au] at e ⊢; exact e
  · rw [ak z] at e ⊢; exact r.ext.hh b o e
 ·by_cases z:b=p
  · subst z; exact r.sm.free hp
  · rw [ak z] at h2; exact r.ext.fr b h1 h2
 ·refine (st.rebase fun c hc=>?_).ext ⟨.refl _,r.sm.trans (aB hp u),aB hp u,fun _ h _=>h⟩
  rw [ak (show c≠p from fun z=>(st.live c hc).2.1 (by rw [z]; exact hp))]
  exact (st.live c hc).2.2
theorem bF.Dx {p:Addr} {u:HO} (r:bF K Hs0 (upd H0 p u) ρ Hs H σ τ) (h0:H0 p=none) (hs:Hs0 p=none):Ext Hs0 H0 Hs H/\Hs p=none/\H p=some u/\∃ fp,p ∉ fp/\StM K H0 Hs H ρ σ τ fp:=by
 obtain ⟨fp,st⟩:=r.st
 have np:p ∉ fp:=fun q=>by have:=(st.live p q).2.2; rw [au] at this; cases this
 refine ⟨⟨r.ext.ss,r.sm,fun b o e=>?_,fun b h1 h2=>?_⟩,r.ext.fr p hs (by rw [au]; simp),r.ext.hh _ _ au,fp,np,st.rebase fun c hc=>?_⟩
 · exact r.ext.hh b o (by rw [ak (show b≠p from fun z=>by rw [z,h0] at e; cases e)]; exact e)
 · exact r.ext.fr b h1 (by rw [ak (show b≠p from fun z=>h2 (by rw [z]; exact h0))]; exact h2)
 ·have:=(st.live c hc).2.2
  rw [ak (show c≠p from fun z=>np (by rw [<- z]; exact hc))] at this
  exact this
end
def eD0:DEm:=fun τ=>some (.mu false (.n .d []),τ)
def eD1 (kc:Key) (fv:DEm):DEm:=fun τ=>(fv τ).bind fun x=>(toM x.1).map fun mv=>(.mu false (.n .d [(kc,mv)]),x.2)
def eF (g:DE):DEm:=fun τ=>(g (bB τ)).bind fun d=>match d with
 | .lst ds=>if ds.all sca=true then some (.shr (.lst ds),τ) else none
 | _=>none
section
variable {X:Cx} {a b c e o:Expr} {es:List Expr} {pos apos cpos pos' p:Pos} {x m:Str}
theorem HR:PVm X (.Dict [] [] pos) eD0:=zp.imp fun σ H Q ⟨Hs0,H0,nf,ρ,Hs,τ,s,τ',r,e,k⟩=>by
 cases e
 intro p hp
 exact k (.ref p) Hs _ (aB hp _) (r.Br (aB hp _) (fq:=[p]) (Od.n (ts:=[]) (dx:=0) (u:=.dK []) au (.d []) (r.sm.free hp) (by show ([]:List Key).Nodup; exact .nil) (by simp) (fun c hc=>by cases hc)) fun c hc=>by rw [List.mem_singleton.mp hc]; exact hp)
theorem K6 {g:DE} (h:PEo X e g):PVm X e (eF g):=PE.imp h fun σ H Q ⟨Hs0,H0,nf,ρ,Hs,τ,s,τ',r,e,k⟩=>by
 obtain ⟨d,e1,e2⟩:=bind_some e
 split at e2
 ·split at e2
  ·rename_i hs
   cases e2
   obtain ⟨fp,st⟩:=r.st
   refine ⟨H,H,bB τ,[],_,st.bB r.sm,.refl H,e1,fun a Hs' H' g1 ow hn=>?_⟩
   cases ow with
   | @lst xs ds h n rr =>
    have ha:Hs a=none:=r.sm.free hn
    have ex:Ext Hs H (upd Hs a (.lst xs)) H':=by
     refine ⟨aB ha _,fun b u q=>?_,g1.hh,fun b h1 h2=>?_⟩
     ·by_cases z:b=a
      · subst z; rw [au] at q; cases q; exact h
      · rw [ak z] at q; exact g1.hh _ _ (r.sm _ _ q)
     · rw [ak (show b≠a from fun z=>h2 (by rw [z]; exact hn))]; exact h1
    exact k _ _ H' g1.hh ((r.ext' ex).push (.lst au (kl rr hs)))
  · cases e2
 · cases e2
theorem HQ {kx value:Expr} {kc:Key} {fv:DEm} (hk:PE X kx (tC (kV kc))) (hv:PVm X value fv):PVm X (.Dict [some kx] [value] pos) (eD1 kc fv) :=
 (@B1 X pos [some kx] [value] _ (@ze _ _ _ _ _ _ _ _ _ hk hv BL) rfl rfl (by simp) (by simp)).imp fun σ H Q ⟨Hs0,H0,nf,ρ,Hs,τ,s,τ',r,e,k⟩=>by
   obtain ⟨⟨s1,τ1⟩,e1,e2⟩:=bind_some e
   obtain ⟨mv,e3,e4⟩:=Zm e2
   cases e4
   intro p hp
   refine ⟨Hs0,upd H0 p (.dK []),nf.upd,ρ,Hs,τ,s1,τ1,r.hold hp,e1,fun v Hs2 H2 g2 r2=>?_⟩
   obtain ⟨ex,hsp,hpp,fp,np,st⟩:=r2.Dx (r.old hp) (r.ext.ss.free (r.sm.free hp))
   refine ⟨hpp,[(kc,v)],rfl,Zb rfl,?_⟩
   have sm0:bY H (upd H2 p (.dK [(kc,v)])):=fun b o q=>by
    have nb:b≠p:=fun z=>by rw [z,hp] at q; cases q
    rw [ak nb]
    exact g2 _ _ (by rw [ak nb]; exact q)
   have ex':Ext Hs0 H0 Hs2 (upd H2 p (.dK [(kc,v)])):=by
    refine ⟨ex.ss,fun b o q=>?_,fun b o q=>?_,ex.fr⟩
    · rw [ak (show b≠p from fun z=>by rw [z,hsp] at q; cases q)]; exact ex.sh b o q
    · rw [ak (show b≠p from fun z=>by rw [z,r.old hp] at q; cases q)]; exact ex.hh b o q
   have fin:∀ {fq fr:List Addr},Od X.K Hs2 H2 fq v mv->p ∉ fq->p ∉ fr->(∀ c ∈ fq,H0 c=none)->(∀ c ∈ fq,c ∉ fr)->StM X.K H0 Hs2 H2 ρ σ τ1 fr->Q (.ref p) (upd H2 p (.dK [(kc,v)])):=fun {fq fr} od n1 n2 z j sr=>by
    refine k (.ref p) Hs2 _ sm0 ⟨ex',(p::fq)++fr,.mu (fq:=p::fq) ?_ (fun e=>by cases e) (fun c hc=>?_) (fun c hc=>?_) (sr.mv (.refl _) fun c hc=>⟨(sr.live c hc).1,ak (show c≠p from fun q=>n2 (by rw [<- q]; exact hc))⟩)⟩
    ·have:=Od.n (K:=X.K) (Hs:=Hs2) (H:=upd H2 p (.dK [(kc,v)])) (a:=p) (dx:=0) (t:=.d) (ts:=[⟨kc,v,mv,fq⟩]) (u:=.dK [(kc,v)]) au (.d _) hsp (by show [kc].Nodup; simp) (by
      rw [List.flatMap_cons,List.flatMap_nil,List.append_nil]
      exact List.nodup_cons.mpr ⟨n1,od.nd⟩) (fun c hc=>by
      rw [List.mem_singleton.mp hc]
      exact od.mv (.refl _) fun x hx=>⟨(od.live x hx).1,ak (show x≠p from fun q=>n1 (by rw [<- q]; exact hx))⟩)
     rw [List.flatMap_cons,List.flatMap_nil,List.append_nil] at this
     exact this
    ·rcases List.mem_cons.mp hc with q | q
     · rw [q]; exact r.old hp
     · exact z c q
    ·rcases List.mem_cons.mp hc with q | q
     · rw [q]; exact n2
     · exact j c q
   cases st with
   | no st=>cases e3
   | shr h st=>cases e3; exact fin (.s h) (by simp) np (fun c hc=>by cases hc) (fun c hc=>by cases hc) st
   | @mu _ _ b _ _ _ _ fq fr od hpn z j st =>
    cases b with
    | true=>cases e3
    | false=>cases e3; exact fin od (fun q=>np (List.mem_append_left _ q)) (fun q=>np (List.mem_append_right _ q)) z j st
end
abbrev DGm:=D->List Sm->Option (List Sm)
def KI (N:Hp) (K:W.Frag) (g:DGm):TG:=fun v σ H Q=>∃ (Hs0 H0:Hp),∃ (_:Nf N H0),∃ ρ Hs τ τ' d,bF K Hs0 H0 ρ Hs H σ τ/\Rp K Hs v d/\g d τ=some τ'/\∀ σ',bF K Hs0 H0 ρ Hs H σ' τ'->Q σ' H
def PGm (X:Cx) (tg:Expr) (g:DGm):Prop:=PG X tg (KI X.H₀ X.K g)
abbrev yw:=List D->List Sm->Option (List Sm)
def HJ (N:Hp) (K:W.Frag) (g:yw):TGs:=fun v σ H Q=>∃ (Hs0 H0:Hp),∃ (_:Nf N H0),∃ ρ Hs τ τ' d,bF K Hs0 H0 ρ Hs H σ τ/\Rps K Hs v d/\g d τ=some τ'/\∀ σ',bF K Hs0 H0 ρ Hs H σ' τ'->Q σ' H
def AY (X:Cx) (tg:List Expr) (g:yw):Prop:=PGs X tg (HJ X.H₀ X.K g)
def gNm (i:Nat):DGm:=fun d τ=>some (τ.set i (.shr d))
def nQ:yw:=fun ds τ=>if ds.isEmpty=true then some τ else none
def gm (g:DGm) (h:yw):yw:=fun ds τ=>match ds with | d::r=>(g d τ).bind fun τ'=>h r τ' | []=>none
def gTm (n:Nat) (g:yw):DGm:=fun d τ=>match d with | .tup ds=>if ds.length=n then g ds τ else none | _=>none
def forM (b:D->DSm):List D->DSm
 | [],τ=>some (.next τ)
 | d::ds,τ=>match b d τ with
  | some (.next τ')=>forM b ds τ'
  | some (.cnt τ')=>forM b ds τ'
  | some (.brk τ')=>some (.next τ')
  | r=>r
def yE (it:DI) (g:DGm) (b:DSm):DSm:=fun τ=>(it (er τ)).bind fun ds=>forM (fun d τ=>(g d τ).bind b) ds τ
section
variable {X:Cx} {a b c e o tg iter:Expr} {es:List Expr} {body:List Stmt} {pos apos cpos pos' p:Pos} {x m:Str}
theorem zk {i:Nat} (hN:X.N.Nodup) (hi:X.N[i]?=some x) (hx:Loc X.env.scope x) (hf:X.fn x=true\/X.env.scope.names.lookup x=some .local:=by first | exact .inl rfl | exact .inr rfl | assumption):PGm X (.Name x pos) (gNm i) :=
 (gV hN hi hx hf).imp fun v σ H Q ⟨Hs0,H0,nf,ρ,Hs,τ,τ',d,r,rv,e,k⟩=>by
   cases e
   exact k _ (r.uW rv)
theorem zj:AY X [] nQ:=wm.imp fun v σ H Q ⟨Hs0,H0,nf,ρ,Hs,τ,τ',d,r,rv,e,k⟩=>by
 cases rv with
 | nil=>cases e; exact ⟨rfl,k σ r⟩
 | cons _ _=>simp [nQ] at e
theorem wk {g:DGm} {h:yw} (h1:PGm X e g) (h2:AY X es h) (hs:(assignEach (e::es) X.env).map (·.2)=assign e X.env::(assignEach es X.env).map (·.2):=by rfl):AY X (e::es) (gm g h) :=
 (oK h1 h2 hs).imp fun v σ H Q ⟨Hs0,H0,nf,ρ,Hs,τ,τ',d,r,rv,e,k⟩=>by
   cases rv with
   | nil=>simp [gm] at e
   | cons rx rr =>
    obtain ⟨τ1,e1,e2⟩:=bind_some e
    exact ⟨_,_,rfl,Hs0,H0,nf,ρ,Hs,τ,τ1,_,r,rx,e1,fun σ' r'=>⟨Hs0,H0,nf,ρ,Hs,τ1,τ',_,r',rr,e2,k⟩⟩
theorem BY {k':Nat} {g:yw} {n:Nat} (hc:X.calm=true) (h:AY X es g) (hn:(assignEach es X.env).length=n:=by rfl) (hst:(assignEach es X.env).findIdx? (·.1)=none:=by rfl):PGm X (.Tuple es k' pos) (gTm n g) :=
 (Aq hc h hn hst).imp fun v σ H Q ⟨Hs0,H0,nf,ρ,Hs,τ,τ',d,r,rv,e,k⟩=>by
   cases rv with
   | @tup a xs ds h rr =>
    simp only [gTm] at e
    split at e
    ·rename_i hl
     exact ⟨a,xs,rfl,r.sm.tup h,by rw [rr.length]; exact hl,Hs0,H0,nf,ρ,Hs,τ,τ',ds,r,rr,e,k⟩
    · cases e
   | _=>simp [gTm] at e
theorem BE {it:DI} {g:DGm} {b:DSm} (hp:PassesOwn (model X.prog X.w) X.A X.env X.xe) (hc:X.calm=true) (hi:PId X tg iter it) (hg:PGm X tg g) (hb:pF X body b) (hs:∀ x,foldedSetIterable iter X.env x=pure x:=by intro _; rfl) :
  PSm X (.For tg iter body [] pos) (yE it g b):=(sP hp hc hi hg hb hs).imp fun E σ H ⟨Hs0,H0,nf,ρ,Hs,τ,o,r,e,k⟩=>by
 obtain ⟨ds,e1,e2⟩:=bind_some e
 obtain ⟨fp,hst⟩:=r.st
 refine ⟨H0,Hs,er τ,[],ds,hst.er,r.sm,e1,fun J Hs1 H1 g1 hJ=>?_⟩
 have r1:=r.ext' g1
 have kk:=k.rebase r1.ext
 refine ⟨fun i m σ H=>m=ds.length - i/\i<=ds.length/\∃ Hs2 τ2,bF X.K Hs1 H0 ρ Hs2 H σ τ2/\forM (fun d τ=>(g d τ).bind b) (ds.drop i) τ2=some o,⟨ds.length,by simp,Nat.zero_le _,Hs1,τ,r1.rebase,by simpa using e2⟩,?_⟩
 rintro i m σ2 H2 ⟨rfl,hi,Hs2,τ2,r2,e3⟩
 obtain ⟨hgo,hstop⟩:=hJ Hs2 H2 r2.ext.ss r2.sm
 by_cases hlt:i < ds.length
 ·have ed:ds.drop i=ds[i]::ds.drop (i+1):=List.drop_eq_getElem_cons hlt
  rw [ed] at e3
  obtain ⟨go,yl⟩:=hgo i ds[i] (List.getElem?_eq_getElem hlt)
  refine .inr ⟨go,fun σ' H'=>∃ Hs' τ',bF X.K Hs1 H0 ρ Hs' H' σ' τ'/\forM (fun d τ=>(g d τ).bind b) (ds.drop (i+1)) τ'=some o,?_,?_⟩
  ·rintro σ' H' ⟨Hs',τ',r',e'⟩
   exact ⟨ds.length - (i+1),by omega,rfl,hlt,Hs',τ',r',e'⟩
  ·intro x H' y
   obtain ⟨Hs3,g3,rx⟩:=yl x H' y
   have r3:=r2.ext' g3
   unfold forM at e3
   cases q:(g ds[i] τ2).bind b with
   | none=>simp only [q] at e3; cases e3
   | some o1 =>
    simp only [q] at e3
    obtain ⟨τ3,q1,q2⟩:=bind_some q
    refine ⟨Hs1,H0,nf,ρ,Hs3,τ2,τ3,ds[i],r3,rx,q1,fun σ' r'=>?_⟩
    refine ⟨Hs1,H0,nf,ρ,Hs3,τ3,o1,r',q2,?_⟩
    cases o1 with
    | next τ'=>exact fun σ4 Hs4 H4 r4=>⟨Hs4,τ',r4,e3⟩
    | cnt τ'=>exact fun σ4 Hs4 H4 r4=>⟨Hs4,τ',r4,e3⟩
    | brk τ'=>cases e3; exact kk
    | ret s τ'=>cases e3; exact kk
 ·have e0:i=ds.length:=by omega
  subst e0
  rw [List.drop_length] at e3
  have e':Aa.next τ2=o:=by simpa [forM] using e3
  subst e'
  exact .inl ⟨hstop _ (Nat.le_refl _),kk σ2 Hs2 H2 r2⟩
end
def xP (i:Nat):DT:=fun τ=>match τ[i]? with
 | some (.own (.lst ds))=>some (!ds.isEmpty)
 | _=>none
def oG (i j:Nat):DS:=fun τ=>match τ[j]? with
 | some (.own (.lst ds))=>(ds[ds.length - 1]?).map fun d=>.next ((τ.set j (.own (.lst ds.dropLast))).set i (.shr d))
 | _=>none
theorem Rps.dropLast {K:W.Frag} {H:Hp} {xs:List V} {ds:List D} (r:Rps K H xs ds):Rps K H xs.dropLast ds.dropLast:=by
 rw [List.dropLast_eq_take,List.dropLast_eq_take,r.length]
 exact r.take _
theorem Rps.emp {K:W.Frag} {H:Hp} {xs:List V} {ds:List D} (r:Rps K H xs ds):xs.isEmpty=ds.isEmpty:=by cases r <;> rfl
section
variable {X:Cx} {a b c e o tg iter:Expr} {es:List Expr} {body:List Stmt} {pos apos cpos pos' p:Pos} {x y:Str}
theorem yN (i:Nat) (hN:X.N[i]?=some x:=by rfl) (hv:Vis X.env.scope x:=by first | exact Or.inl rfl | exact Or.inr (Or.inl rfl) | exact Or.inr (Or.inr rfl)) (hd:(x == ("__debug__":Str))=false:=by decide) (hcd:(x == ("__classdict__":Str))=false:=by decide):PTd X (.Name x p) (xP i) :=
 (yO (fw hN hv hd hcd) (fun _=>rfl)).imp fun σ H Q ⟨H0,Hs,τ,fp,d,st,sm,e,k⟩=>by
   unfold xP at e
   split at e
   ·rename_i ds q
    cases e
    obtain ⟨a,h1,h2,_⟩:=st.CW q
    cases h2 with
    | lst h n r=>exact ⟨_,h1,_,.inl ⟨_,SqL.of h,by rw [r.emp]⟩,k Hs H (.refl sm)⟩
   · cases e
theorem yZ (i j:Nat) {py:Pos} (hN:X.N.Nodup) (hi:X.N[i]?=some x) (hx:Loc X.env.scope x) (hj:X.N[j]?=some y) (hv:Vis X.env.scope y)
   (hd:(y == ("__debug__":Str))=false:=by decide) (hcd:(y == ("__classdict__":Str))=false:=by decide)
   (hbase:attributeBase (.Name y py) "pop" X.env (eval (.Name y py) X.env)=eval (.Name y py) X.env:=by rfl) (hline:(apos.endLine == cpos.line)=true:=by rfl)
   (hs:swapsWith (.Call (.Attribute (.Name y py) "pop" apos) [] [] cpos) (some (.Name x pos')) pos.line X.env=pure false:=by rfl) (hf:X.fn x=true\/X.env.scope.names.lookup x=some .local:=by first | exact .inl rfl | exact .inr rfl | assumption) :
   PSd X (.Assign [.Name x pos'] (.Call (.Attribute (.Name y py) "pop" apos) [] [] cpos) pos) (oG i j) :=
 (pX hN hi hx (Ep PySem.F.plainAttrs_list PySem.F.slot_list_pop PySem.F.type_list_pop EW (fw hj hv hd hcd) hbase hline) hs hf).imp fun E σ H ⟨Hs0,H0,Hs,τ,o,r,e,k⟩=>by
   unfold oG at e
   split at e
   ·rename_i ds q
    obtain ⟨d,e1,rfl⟩:=Zm e
    obtain ⟨fp,st⟩:=r.st
    obtain ⟨a,h1,h2,h3,h4⟩:=st.CW q
    cases h2 with
    | @lst xs _ hH hn hr =>
     obtain ⟨v,hv1,hv2⟩:=hr.get e1
     rw [<- hr.length] at hv1
     refine ⟨_,h1,.inl ⟨rfl,_,SqL.of hH⟩,a,xs,v,rfl,rfl,hH,hv1,?_⟩
     have s1:=st.mut q h1 (o:=.lst xs.dropLast) (d':=.lst ds.dropLast) (.lst au hn hr.dropLast)
     obtain ⟨fp',_,s2⟩:=s1.uW (i:=i) hv2
     refine k _ Hs _ ⟨⟨r.ext.ss,fun b u z=>?_,fun b u z=>?_,r.ext.fr⟩,fp',s2⟩
     · rw [ak (show b≠a from fun w=>by rw [w,hn] at z; cases z)]; exact r.ext.sh b u z
     · rw [ak (show b≠a from fun w=>by rw [w,h3] at z; cases z)]; exact r.ext.hh b u z
   · cases e
end
section
variable {K:W.Frag} {Hs0 H0 Hs H:Hp} {ρ:List (Option Addr)} {σ:St} {τ:List Sm}
theorem bF.forget (i:Nat) (v:Option V) (r:bF K Hs0 H0 ρ Hs H σ τ):bF K Hs0 H0 ρ Hs H (σ.set i v) (τ.set i .no):=by
 obtain ⟨fp,st⟩:=r.st
 refine ⟨r.ext,?_⟩
 have:∀ {i ρ σ τ fp},StM K H0 Hs H ρ σ τ fp->∃ fp',StM K H0 Hs H ρ (σ.set i v) (τ.set i .no) fp'/\∀ c ∈ fp',c ∈ fp:=fun {i ρ σ τ fp} h=>by
  induction h generalizing i with
  | nil=>exact ⟨[],.nil,fun _ h=>h⟩
  | no r ih =>
   cases i with
   | zero=>exact ⟨_,.no r,fun _ h=>h⟩
   | succ i=>obtain ⟨fp',h1,h2⟩:=ih (i:=i); exact ⟨fp',.no h1,h2⟩
  | shr h r ih =>
   cases i with
   | zero=>exact ⟨_,.no r,fun _ h=>h⟩
   | succ i=>obtain ⟨fp',h1,h2⟩:=ih (i:=i); exact ⟨fp',.shr h h1,h2⟩
  | mu h hp z j r ih =>
   cases i with
   | zero=>exact ⟨_,.no r,fun _ h=>List.mem_append_right _ h⟩
   | succ i =>
    obtain ⟨fp',h1,h2⟩:=ih (i:=i)
    exact ⟨_,.mu h hp z (fun c hc q=>j c hc (h2 c q)) h1,fun c hc=>(List.mem_append.mp hc).elim (List.mem_append_left _) fun q=>List.mem_append_right _ (h2 c q)⟩
 obtain ⟨fp',h,_⟩:=this (i:=i) st
 exact ⟨fp',h⟩
end
def kD:Key->D
 | .inl i=>.int i
 | .inr x=>.str x
theorem zL {K:W.Frag} {H:Hp} (k:Key):Rp K H (kV k) (kD k):=by
 cases k with
 | inl i=>exact .int i
 | inr x=>exact .str x
def D3:List V->Hp->VK->Prop:=fun xs H Q=>∃ (a:Addr) (kvs:List (Key×V)),xs=[.ref a]/\H a=some (.dK kvs)/\∀ l,H l=none->Q (.ref l) (upd H l (.lst (kvs.map fun kv=>kV kv.1)))
theorem u9:∀ {us:List Value} {ks:List Key},us.length=ks.length->(∀ (j:Nat) (v:Value),us[j]?=some v->∃ k,ks[j]?=some k/\oY k v=true)->bZ (ks.map kV) us
 | [],[],_,_=>.nil
 | [],_::_,e,_=>by cases e
 | _::_,[],e,_=>by cases e
 | u::us,k::ks,e,h=>by
  obtain ⟨k',e1,e2⟩:=h 0 u rfl
  cases e1
  refine .cons ?_ (u9 (Nat.succ.inj e) fun j v ev=>h (j+1) v ev)
  rcases bp e2 with ⟨i,t,rfl,rfl⟩ | ⟨y,t,rfl,rfl⟩
  · exact ⟨t,rfl⟩
  · exact ⟨t,rfl⟩
theorem uH {X:Cx} (hh:X.A.handled=none):gJ X (.type "list") D3:=by
 intro pins s σ H xs us Q I r h
 obtain ⟨a,kvs,rfl,ha,q⟩:=h
 obtain ⟨u,rfl,ru⟩:=vals1 r
 cases (show u=Value.ref a from ru)
 obtain ⟨sz,lo,vs,kv,dd⟩:=xH I.hok ha
 obtain ⟨ep,hat⟩:=dd.dictAt
 have lv:vs.length=kvs.length:=kv.length.symm
 refine PySem.W.kdl_call (PySem.W.kdl_dict (knd:=bO X.prog X.w) (kvs:=vs) (ep:=ep) lo) hh hat (by rw [lv]; exact sz) fun h' tk acc' c' hk hS hacc=>?_
 have hv:bZ ((kvs.map (·.1)).map kV) acc'.toList:=by
  refine u9 (by rw [Array.length_toList,hacc.1,List.length_map,lv]) fun j v hj=>?_
  obtain ⟨k,x,e1,e2⟩:=hacc.2 j v (by rw [<- Array.getElem?_toList]; exact hj)
  exact ⟨k,by rw [<- oX kv,List.getElem?_map,e1]; rfl,e2⟩
 rw [List.map_map] at hv
 exact ⟨.ref s.heap.objs.size,_,I.laid (t':=tk) hk (Nat.le_refl _) (show dA X.prog X.w _ h' _ (.lst (kvs.map fun kv=>kV kv.1)) from ⟨by rw [List.length_map]; exact sz,acc'.toList,c',hv,by rw [Array.toArray_toList]; exact hS⟩),rfl,q _ (I.hok.fresh (Nat.le_refl _))⟩
def tM (f:DE):DE:=fun τ=>(f τ).bind fun d=>match d with | .dct ds=>some (.lst (ds.map fun p=>kD p.1)) | _=>none
theorem sL {K:W.Frag} {H H':Hp}:∀ {kvs:List (Key×V)} {ds:List (Key×D)},RpK K H kvs ds->Rps K H' (kvs.map fun kv=>kV kv.1) (ds.map fun p=>kD p.1)
 | _,_,.nil=>.nil
 | _,_,.cons _ r=>.cons (zL _) (sL r)
theorem zg {X:Cx} {e:Expr} {f:DE} {p pos:Pos} (hh:X.A.handled=none) (hg:Gl X "list") (hm:X.mg "list"=none) (hv:bootBuiltins "list"=some (.type "list")) (he:PEd X e f) (hst:starEach [e] X.env=(false,eval e X.env)::starEach [] X.env:=by rfl) (hpl:(backTo pos (starEach [] X.env)).any (·.1)=false:=by rfl):PEo X (.Call (.Name "list" p) [e] [] pos) (tM f) :=
 (pZ (uH hh) hg hm hv (dm he gE hst) (by decide) (by decide) hst hpl).imp fun σ H Q ⟨H0,Hs,τ,fp,d,st,sm,e,k⟩=>by
   obtain ⟨x,e1,e2⟩:=bind_some e
   refine ⟨H0,Hs,τ,fp,x,st,sm,e1,fun v Hs1 H1 g1 r1=>?_⟩
   cases r1 with
   | @dct a kvs ds h r =>
    cases e2
    exact ⟨a,kvs,rfl,g1.sh _ _ h,fun p hp=>k p Hs1 _ ⟨g1.ss,g1.sh.trans (aB hp _),g1.hh.trans (aB hp _),g1.fr⟩ (.lst au (g1.sh.free hp) (sL r)) (g1.hh.free hp)⟩
   | _=>exact nn e2
def sJ (j i:Nat) (c:DT) (g:DE) (cs:List (Str×Nat)):DSm:=fun τ=>match τ[i]? with
 | some (.mu _ (.n .d ks))=>if ks.length<=100000/\j < τ.length then (q9 (fun d=>c (.shr d::eD (bB (τ.set i .no)) cs)) (fun d=>g (.shr d::eD (bB (τ.set i .no)) cs)) (ks.map fun p=>kD p.1)).bind fun es=>if es.all sca=true then some (.next (τ.set j (.shr (.lst es)))) else none else none
 | _=>none
section
variable {X:Cx} {pos:Pos}
theorem wa {elt cnd:Expr} {x y z:Str} {px py pz spos:Pos} {i j:Nat} {scope:Scope} {cl:List (Str×Addr)} {cs:List (Str×Nat)} {c:DT} {g:DE} (hN:X.N.Nodup) (hy:X.N[j]?=some y) (hx:Loc X.env.scope y)
   (hz:X.N[i]?=some z) (hv:Vis X.env.scope z) (hc:X.calm=true) (O:d6 X scope cl x cs)
   (hcd:∀ s H fp C,PTd (bS X scope cl (x::cs.map (·.1)) s H fp C) cnd c) (he:∀ s H fp C,PEd (bS X scope cl (x::cs.map (·.1)) s H fp C) elt g)
   (hd:(z == ("__debug__":Str))=false:=by decide) (hcl:(z == ("__classdict__":Str))=false:=by decide) (hs:∀ x,foldedSetIterable (.Name z pz) X.env x=pure x:=by intro _; rfl)
   (hsw:swapsWith (.ListComp elt [⟨.Name x px,.Name z pz,[cnd],0⟩] scope pos) (some (.Name y py)) spos.line X.env=pure true:=by rfl)
   (hf:X.fn y=true\/X.env.scope.names.lookup y=some .local:=by first | exact .inl rfl | exact .inr rfl | assumption) :
   PSm X (.Assign [.Name y py] (.ListComp elt [⟨.Name x px,.Name z pz,[cnd],0⟩] scope pos) spos) (sJ j i c g cs) :=
 (rB (oJ (te:=rdE X.K g) (tt:=rdT X.K c) hN hy hx hc O (rD (fw hz hv hd hcl)) hcd he hs hsw hf)).imp fun E σ H ⟨Hs0,H0,nf,ρ,Hs,τ,o,r,e,k⟩=>by
   unfold sJ at e
   split at e
   ·rename_i b0 ks ei
    split at e
    ·rename_i hl
     obtain ⟨hl,hj⟩:=hl
     obtain ⟨full,e3,e4⟩:=bind_some e
     split at e4
     ·rename_i hsc
      cases e4
      obtain ⟨fp,st⟩:=r.st
      obtain ⟨v,fq,fpr,o1,o2,o3,o4,o5⟩:=st.out ei
      obtain ⟨d,dx,ts,u,rfl,rfl,rfl,hdH,hlay,hnd,ku,ndp,rr⟩:=o2.inv
      rw [xa hlay] at hdH
      have d0:H0 d=none:=(st.live d (o4 d (List.mem_cons_self ..)).2).2.2
      refine ⟨_,o1,d,ts.map Kd.kv,rfl,hdH,fun ob=>?_⟩
      have dnf:d ∉ fpr:=(o4 d (List.mem_cons_self ..)).1
      have s1:StM X.K H0 Hs (upd H d (.frz ob (.dK (ts.map Kd.kv)))) ρ σ (τ.set i .no) fpr:=o3.mv (.refl _) fun c hc=>⟨(o3.live c hc).1,ak (show c≠d from fun q=>dnf (by rw [<- q]; exact hc))⟩
      have sm1:bY Hs (upd H d (.frz ob (.dK (ts.map Kd.kv)))):=fun c w q=>by
       rw [ak (show c≠d from fun y=>by rw [y,hnd] at q; cases q)]; exact r.sm c w q
      have snp:=s1.bB sm1
      generalize hH1:upd H d (.frz ob (.dK (ts.map Kd.kv)))=H1 at snp
      have h1d:H1 d=some (.frz ob (.dK (ts.map Kd.kv))):=by rw [<- hH1]; exact au
      let ds:List D:=(ts.map Kd.km).map fun p=>kD p.1
      have ld:ds.length=(ts.map Kd.kv).length:=by simp [ds]
      rw [List.length_map] at hl
      have ld2:ds.length=ts.length:=by simp [ds]
      refine ⟨fun n m ys H'=>m=ds.length - n/\n<=ds.length/\bY H1 H'/\∃ es rest,Rps X.K CU ys es/\es.length<=n/\q9 (fun d=>c (.shr d::eD (bB (τ.set i .no)) cs)) (fun d=>g (.shr d::eD (bB (τ.set i .no)) cs)) (ds.drop n)=some rest/\es++rest=full,⟨ds.length,by simp,Nat.zero_le _,   .refl _,[],full,.nil,Nat.le_refl _,by rw [List.drop_zero]; exact e3,rfl⟩,?_⟩
      rintro n m ys H2 ⟨rfl,hn,g2,es,rest,ry,ley,e5,e6⟩
      have ly:ys.length<=n:=by rw [ry.length]; exact ley
      have h2d:=g2 _ _ h1d
      by_cases hlt:n < ds.length
      ·have ed:ds.drop n=ds[n]::ds.drop (n+1):=List.drop_eq_getElem_cons hlt
       rw [ed] at e5
       obtain ⟨b,q0,q0'⟩:=bind_some e5
       refine .inr ⟨⟨h2d,by rw [<- ld]; exact hlt⟩,le5 (by omega),?_⟩
       rintro w H3 ⟨rfl,kk,ww,hk,rfl⟩
       have ekk:ds[n]=kD kk:=by
        have h1:ds[n]?=some (kD kk):=by
         simp only [ds]
         rw [List.getElem?_map,List.getElem?_map]
         rw [List.getElem?_map] at hk
         obtain ⟨t,ht,et⟩:=Zm hk
         rw [ht]
         have:t.k=kk:=(Prod.mk.inj et).1
         show some (kD t.k)=_
         rw [this]
        rw [List.getElem?_eq_getElem hlt] at h1
        exact Zj h1
       have snp2:StR X.K H3 H3 H3 σ (bB (τ.set i .no)) []:=by
        have s2:=s1
        rw [hH1] at s2
        exact (s2.ext ⟨.refl _,(hH1 ▸ sm1).trans g2,g2,fun _ h _=>h⟩).bB ((hH1 ▸ sm1).trans g2)
       refine ⟨H3,H3,.shr ds[n]::eD (bB (τ.set i .no)) cs,[],b,.shr (by rw [ekk]; exact zL kk) (ki snp2 cs),.refl _,q0,fun Hs4 H4 g4=>?_⟩
       cases b with
       | true =>
        refine JG ?_
        obtain ⟨x,q1,q2⟩:=bind_some (show (g (.shr ds[n]::eD (bB (τ.set i .no)) cs)).bind _=some rest from q0')
        obtain ⟨xs,q3,q4⟩:=bind_some q2
        have eq:x::xs=rest:=Zj q4
        subst eq
        have snp4:StR X.K H4 H4 H4 σ (bB (τ.set i .no)) []:=by
         have s2:=s1
         rw [hH1] at s2
         exact (s2.ext ⟨.refl _,((hH1 ▸ sm1).trans g2).trans g4.hh,g2.trans g4.hh,fun _ h _=>h⟩).bB (((hH1 ▸ sm1).trans g2).trans g4.hh)
        refine ⟨H4,H4,.shr ds[n]::eD (bB (τ.set i .no)) cs,[],x,.shr (by rw [ekk]; exact zL kk) (ki snp4 cs),.refl _,q1,fun v5 Hs5 H5 g5 r5=>?_⟩
        have sx:sca x=true:=by
         refine List.all_eq_true.mp hsc x ?_
         rw [<- e6]
         simp
        exact ⟨ds.length - (n+1),by omega,rfl,hlt,(g2.trans g4.hh).trans g5.hh,es++[x],xs,ry.append (.cons (nM r5 sx) .nil),by simp; omega,q3,by rw [<- e6]; simp⟩
       | false =>
        refine Hh ?_
        exact ⟨ds.length - (n+1),by omega,rfl,hlt,g2.trans g4.hh,es,rest,ry,by omega,q0',e6⟩
      ·have e0:n=ds.length:=by omega
       subst e0
       rw [List.drop_length] at e5
       have er:[]=rest:=Zj e5
       subst er
       rw [List.append_nil] at e6
       subst e6
       refine .inl ⟨⟨h2d,by rw [<- ld]; exact Nat.le_refl _⟩,w9 (by omega),fun p hp=>?_⟩
       have pd:p≠d:=fun q=>by rw [q,h2d] at hp; cases hp
       refine ⟨d,ob,ts.map Kd.kv,by rw [ak (Ne.symm pd)]; exact h2d,fun o' u' q=>nf d o' u' q d0,?_⟩
       let Hf:Hp:=upd (upd H2 p (.lst ys)) d (.dK (ts.map Kd.kv))
       have hpH:H p=none:=by
        have:H1 p=none:=g2.free hp
        rw [<- hH1,ak pd] at this
        exact this
       have smf:bY H Hf:=fun c w q=>by
        by_cases cd:c=d
        ·subst cd
         rw [hdH] at q
         cases q
         exact au
        ·have c1:H1 c=some w:=by rw [<- hH1,ak cd]; exact q
         have cp:c≠p:=fun y=>by rw [y,hpH] at q; cases q
         show upd (upd H2 p (.lst ys)) d _ c=_
         rw [ak cd,ak cp]
         exact g2 _ _ c1
       have hfp:Hf p=some (.lst ys):=by
        show upd (upd H2 p (.lst ys)) d _ p=_
        rw [ak pd,au]
       have hsp:Hs p=none:=r.sm.free hpH
       have ex:Ext Hs H (upd Hs p (.lst ys)) Hf:=by
        refine ⟨aB hsp _,fun c w q=>?_,smf,fun c h1 h2=>?_⟩
        ·by_cases z:c=p
         · subst z; rw [au] at q; cases q; exact hfp
         · rw [ak z] at q; exact smf _ _ (r.sm _ _ q)
        · rw [ak (show c≠p from fun z=>h2 (by rw [z]; exact hpH))]; exact h1
       exact k _ _ Hf ((r.ext' ex).uW (.lst au (kl ry hsc)))
     · cases e4
    · cases e
   · cases e
end
def spP (F:List Sm->Option D) (K:W.Frag):Sp:=fun vs H Q _=>∃ Hs fp as d,bY Hs H/\StM K (off H fp) Hs H (iU vs) (vs.map some) as fp/\F as=some d/\∀ v H',bY H H'->Rp K H' v d->Q v H'
def eP (F:List Sm->Option D) (g:DAm):DEm:=fun τ=>(g τ).bind fun as=>(lend τ as).bind fun ss=>(F ss).bind fun d=>if sca d=true then some (.shr d,τ) else none
section
variable {X:Cx} {e:Expr} {es:List Expr} {x:Str} {p pos:Pos} {k:Nat} {f:Addr} {fd:FuncData} {ps:List Str} {F:List Sm->Option D} {g:DAm}
theorem zh (Fo:dg X.prog X.w X.K X.mg X.base CX0 k f fd ps (spP F X.K)) (hr:fo k X.A) (hg:Gl X x) (hm:X.mg x=some (.ref f)) (hk:W.keepIn X.K (.ref f)=true) (hb:Binds X.K fd ps [])
  (ha:PAm X (e::es) g) (hdb:(x == ("__debug__":Str))=false:=by decide) (he:starEach (e::es) X.env=(false,eval e X.env)::starEach es X.env:=by rfl) (hpl:(backTo pos (starEach es X.env)).any (·.1)=false:=by rfl) :
  PVm X (.Call (.Name x p) (e::es) [] pos) (eP F g):=(ma Fo hr hg hm hk hb .nil oO ha hdb he hpl).imp fun σ H Q ⟨Hs0,H0,nf,ρ,Hs,τ,s,τ',r,e,k⟩=>by
 obtain ⟨as,e1,e2⟩:=bind_some e
 obtain ⟨ss,e3,e4⟩:=bind_some e2
 obtain ⟨d,e5,e6⟩:=bind_some e4
 split at e6
 ·rename_i hs
  cases e6
  refine ⟨Hs0,H0,nf,ρ,Hs,τ,as,r,e1,fun vs Hs1 H1 g1 r1 s1 a1=>?_⟩
  show spP F X.K (vs++[]) H1 Q E0
  rw [List.append_nil]
  obtain ⟨fp,st⟩:=r1.st
  obtain ⟨fpa,sA,_,_⟩:=my st a1 e3
  exact ⟨Hs1,fpa,ss,d,r1.sm,sA.rebase fun c hc=>sT hc,e5,fun v H' g' rv=>k v Hs1 H' (g1.trans g') ((r1.grow g').push (nM rv hs))⟩
 · cases e6
end
end L2
end
section
namespace L2
open PySem
section
variable {τ τ' τ1:List Sm} {f g:DSm} {s:Sm} {o:Aa} {b:Bool} {d:D} {i j:Nat} {q:List Stp} {m m2 mv:Mt} {cs:List (Key×Mt)} {k:Key}
theorem aQ (h:f τ=some (.next τ')) (h2:g τ'=some o):aL f g τ=some o:=by unfold aL; rw [h]; exact h2
theorem dF {f:DEm} (h:f τ=some (s,τ')) (hi:i < τ'.length) (hs:(toM s).isSome=true):cz i f τ=some (.next (τ'.set i s)):=by unfold cz; rw [h]; exact if_pos ⟨hi,hs⟩
theorem AE {f:DEm} (h:f τ=some (s,τ')):l6 f τ=some (.next τ'):=by unfold l6; rw [h]; rfl
theorem gf {g:DE} (h:g (bB τ)=some d):fL g τ=some (.next τ):=by unfold fL; rw [h]; rfl
theorem wU {t:DTm} (h:t τ=some (true,τ')) (h2:f τ'=some o):lE t f g τ=some o:=by unfold lE; rw [h]; show (if true=true then f τ' else g τ')=_; rw [if_pos rfl]; exact h2
theorem lI {t:DTm} (h:t τ=some (false,τ')) (h2:g τ'=some o):lE t f g τ=some o:=by unfold lE; rw [h]; show (if false=true then f τ' else g τ')=_; rw [if_neg (by simp)]; exact h2
theorem rO {f:DEm} (h:f τ=some (s,τ')):fJ f τ=some (.ret s τ'):=by unfold fJ; rw [h]; rfl
theorem v_S {g:DE} (h:g (bB τ)=some d) (hs:sca d=true):eS g τ=some (.shr d,τ):=by unfold eS; rw [h]; exact if_pos hs
theorem v_N {g:DE} (h:g (er τ)=some d):eN g τ=some (.shr d,τ):=by unfold eN; rw [h]; rfl
theorem v_O {g:DE} {ds:List D} (h:g (bB τ)=some (.lst ds)) (hs:ds.all sca=true):eO g τ=some (.mu false (lM ds),τ):=by unfold eO; rw [h]; exact if_pos hs
theorem v_F {g:DE} {ds:List D} (h:g (bB τ)=some (.lst ds)) (hs:ds.all sca=true):eF g τ=some (.shr (.lst ds),τ):=by unfold eF; rw [h]; exact if_pos hs
theorem v_V (h:τ[i]?=some (.mu false m)):eV i τ=some (.mu false m,τ.set i .no):=by unfold eV; rw [h]
theorem JZ {f:DEm} (h:f τ=some (s,τ')) (hs:toM s=some mv):eD1 k f τ=some (.mu false (.n .d [(k,mv)]),τ'):=by unfold eD1; rw [h]; show (toM s).map _=_; rw [hs]; rfl
theorem t_S {g:DT} (h:g (bB τ)=some b):tS g τ=some (b,τ):=by unfold tS; rw [h]; rfl
theorem t_E {f:DEm} (h:f τ=some (.shr (.bl b),τ')):tE f τ=some (b,τ'):=by unfold tE; rw [h]; rfl
theorem J1 {f:DTm} (h:f τ=some (b,τ')):tNt f τ=some (!b,τ'):=by unfold tNt; rw [h]; rfl
theorem p8 (h:τ[i]?=some (.mu b m)):bE τ i q=m.get q:=by unfold bE; rw [h]
theorem kY (h:τ[i]?=some (.mu b m)):fk τ i q m2=τ.set i (.mu b (m.put q m2)):=by unfold fk; rw [h]
theorem cK:aU i τ=some (i,[]):=rfl
theorem nu {C:Addr} {x:Str} {f:DPx} (h:f τ=some (i,q)) (hm:bE τ i q=some (.n (.o C) cs)):ee C x f τ=some (i,q++[.k (.inr x)]):=by
 unfold ee
 rw [h]
 show (match bE τ i q with | some (.n (.o C') _)=>if C'=C then some (i,q++[Stp.k (.inr x)]) else none | _=>none)=_
 rw [hm]
 exact if_pos rfl
theorem u6 {f:DPx} {gk:DE} (h:f τ=some (i,q)) (hk:gk (bB τ)=some d) (he:nt d=some k) (hm:bE τ i q=some (.n .d cs)):nB f gk τ=some (i,q++[.k k]):=by
 unfold nB
 rw [h]
 show (gk (bB τ)).bind _=_
 rw [hk]
 show (nt d).bind _=_
 rw [he]
 show (match bE τ i q with | some (.n .d _)=>some (i,q++[Stp.k k]) | _=>none)=_
 rw [hm]
theorem gG {px:DPx} {gk:DE} {fv:DEm} (h1:fv τ=some (s,τ1)) (h2:px τ1=some (i,q)) (h3:gk (bB τ1)=some d) (h4:nt d=some k) (h5:toM s=some mv) (h6:bE τ1 i q=some (.n .d cs)) (h7:cs.length < 100000):bH px gk fv τ=some (.next (fk τ1 i q (.n .d (gK cs k mv)))):=by
 unfold bH
 simp only [h1,h2,h3,h4,h5,h6,Option.bind_some]
 exact if_pos h7
theorem E1 {C:Addr} {x:Str} {px:DPx} {fv:DEm} (h1:fv τ=some (s,τ1)) (h2:px τ1=some (i,q)) (h5:toM s=some mv) (h6:bE τ1 i q=some (.n (.o C) cs)) (h7:cs.length < 1000):jM C x px fv τ=some (.next (fk τ1 i q (.n (.o C) (gK cs (.inr x) mv)))):=by
 unfold jM
 simp only [h1,h2,h5,h6,Option.bind_some]
 exact if_pos ⟨trivial,h7⟩
theorem zG {px:DPx} {gi:DE} {fv:DEm} {cs0:List (Key×Mt)} {n:Int} (h1:px τ=some (i,q)) (h2:bE τ i q=some (.n .l cs0)) (h3:gi (bB τ)=some (.int n)) (h4:fv τ=some (s,τ1)) (h5:toM s=some mv) (h6:bE τ1 i q=some (.n .l cs)) (h7:0<=n/\n<=cs.length/\cs.length < 100000):pV px gi fv τ=some (.next (fk τ1 i q (.n .l (Hi cs n.toNat mv)))):=by
 unfold pV
 simp only [h1,h2,h3,h4,h5,h6,Option.bind_some]
 exact if_pos h7
theorem EZ {px:DPx} {gk:DE} {n:Int} {ns:List Int} (h1:px τ=some (i,q)) (h2:gk (bB τ)=some (.int n)) (h3:bE τ i q=some (.n .l cs)) (h4:eU (xy cs)=some ns) (h5:ns.length<=1000/\n ∈ ns):rA px gk τ=some (.next (fk τ i q (.n .l (cs.eraseIdx (ns.idxOf n))))):=by
 unfold rA
 simp only [h1,h2,h3,h4,Option.bind_some]
 exact if_pos h5
theorem q_S {g:DE} (h:g (bB τ)=some d) (hs:sca d=true):qS g τ=some (.v d):=by unfold qS; rw [h]; exact if_pos hs
theorem q_N {g:DE} (h:g (er τ)=some d):qN g τ=some (.v d):=by unfold qN; rw [h]; rfl
theorem q_X {f:DPx} {t:Tg} (h:f τ=some (i,q)) (hm:bE τ i q=some (.n t cs)):qX f τ=some (.p i q):=by
 unfold qX
 rw [h]
 show (match bE τ i q with | some (.n _ _)=>some (Am.p i q) | some (.s d)=>some (.v d) | none=>none)=_
 rw [hm]
theorem bV {h:List Sm->Option Am} {g:DAm} {a:Am} {as:List Am} (h1:h τ=some a) (h2:g τ=some as):aP h g τ=some (a::as):=by unfold aP; rw [h1]; show (g τ).map _=_; rw [h2]; rfl
theorem v_C {F:List Sm->Option (Sm×List Sm)} {g:DAm} {as:List Am} {ss ss':List Sm} (h1:g τ=some as) (h2:lend τ as=some ss) (h3:F ss=some (s,ss')) (h4:back τ as ss'=some τ'):eC F g τ=some (s,τ'):=by
 unfold eC
 rw [h1]
 show se F τ as=_
 unfold se
 simp only [h2,h3,h4,Option.bind_some,Option.map_some]
theorem v_M {C:Addr} {x:Str} {F:List Sm->Option (Sm×List Sm)} {f:DPx} {g:DAm} {as:List Am} {ss ss':List Sm} (h0:f τ=some (i,q)) (hm:bE τ i q=some (.n (.o C) cs)) (hn:(cs.any fun c=>decide (c.1=.inr x))=false) (h1:g τ=some as) (h2:lend τ (.p i q::as)=some ss) (h3:F ss=some (s,ss')) (h4:back τ (.p i q::as) ss'=some τ'):eM C x F f g τ=some (s,τ'):=by
 unfold eM
 simp only [h0,hm,Option.bind_some]
 rw [if_pos ⟨trivial,hn⟩,h1]
 show se F τ _=_
 unfold se
 simp only [h2,h3,h4,Option.bind_some,Option.map_some]
theorem v_K {C:Addr} {F:List Sm->Option (Sm×List Sm)} {g:DAm} {as:List Am} {ss r:List Sm} (h1:g τ=some as) (h2:lend τ as=some ss) (h3:F (.mu true (.n (.o C) [])::ss)=some (.shr .non,.mu true m::r)) (h4:back τ as r=some τ'):eK C F g τ=some (.mu false m,τ'):=by
 unfold eK
 simp only [h1,h2,h3,Option.bind_some]
 rw [h4]
 rfl
theorem v_P {F:List Sm->Option D} {g:DAm} {as:List Am} {ss:List Sm} (h1:g τ=some as) (h2:lend τ as=some ss) (h3:F ss=some d) (hs:sca d=true):eP F g τ=some (.shr d,τ):=by
 unfold eP
 simp only [h1,h2,h3,Option.bind_some]
 exact if_pos hs
theorem gT {n mm:Nat} {bd:DSm} {as:List Sm} (h:bd (as++List.replicate (n - as.length) .no)=some (.ret s τ)) (hl:as.length=mm:=by rfl):q8 n mm bd as=some (s,(τ.take mm).map xi):=by unfold q8; rw [if_pos hl,h]
theorem DZ {n mm:Nat} {bd:DSm} {as:List Sm} (h:bd (as++List.replicate (n - as.length) .no)=some (.next τ)) (hl:as.length=mm:=by rfl):q8 n mm bd as=some (.shr .non,(τ.take mm).map xi):=by unfold q8; rw [if_pos hl,h]
theorem zV:(Mt.n .d cs).get [.k k]=(cs.find? fun c=>decide (c.1=k)).map (·.2):=by
 show (match cs.findIdx? (fun c=>decide (c.1=k)) with | none=>none | some i=>match cs[i]? with | none=>none | some c=>Mt.get c.2 [])=_
 have e:∀ m:Mt,m.get []=some m:=fun m=>by cases m <;> rfl
 rw [List.find?_eq_bind_findIdx?_getElem?]
 cases h:cs.findIdx? (fun c=>decide (c.1=k)) with
 | none=>rfl
 | some i =>
  show (match cs[i]? with | none=>none | some c=>Mt.get c.2 [])=(cs[i]?).map (·.2)
  cases cs[i]? with
  | none=>rfl
  | some c=>exact e c.2
end
end L2
end
section
namespace L2
open PySem PySem.Spec PyProof.Rows
def nuI (ns:List Int) (i:Nat):Int:=(ns[i]?).getD 0
def mxI (ns:List Int):Int:=nuI ns (argBest (fun i j=>decide (nuI ns i > nuI ns j)) (ns.length - 1))
def uj:List D->Option D
 | [.lst ds]=>(eU ds).bind fun ns=>if 0 < ns.length then some (.int (mxI ns)) else none
 | _=>none
theorem Cw {ns:List Int} (h:0 < ns.length):mxI ns ∈ ns:=by
 unfold mxI nuI
 have:=(argBest_gt (nuI ns) (ns.length - 1)).1
 have hl:argBest (fun i j=>decide (nuI ns i > nuI ns j)) (ns.length - 1) < ns.length:=by omega
 have e:ns[argBest (fun i j=>decide (nuI ns i > nuI ns j)) (ns.length - 1)]?=some (ns[argBest (fun i j=>decide (nuI ns i > nuI ns j)) (ns.length - 1)]):=List.getElem?_eq_getElem hl
 unfold nuI at e
 rw [e]
 exact List.getElem_mem _
theorem EV {ns:List Int} {a:Int} (h:a ∈ ns):a<=mxI ns:=by
 obtain ⟨i,hi,e⟩:=List.mem_iff_getElem.mp h
 have:=(argBest_gt (nuI ns) (ns.length - 1)).2 i (by omega)
 have e':nuI ns i=a:=by
  unfold nuI
  rw [List.getElem?_eq_getElem hi,e]
  rfl
 rw [e'] at this
 exact this
section
variable {X:Cx}
theorem xV (hc:X.calm=true):gJ X (.builtin "max") (fun xs H Q=>∃ (p:Addr) (ns:List Int),xs=[.ref p]/\H p=some (.lst (ns.map V.int))/\0 < ns.length/\Q (.int (mxI ns)) H):=by
 intro pins s σ H xs us Q I r h
 obtain ⟨p,ns,rfl,hH,hs,q⟩:=h
 obtain ⟨u,rfl,ru⟩:=vals1 r
 cases (show u=Value.ref p from ru)
 obtain ⟨its,rv,pl,hz⟩:=I.list (SqL.of hH)
 have hl:=pl.isList
 have hlen:=rv.length
 rw [List.length_map] at hlen
 have hlt:p < s.heap.objs.size:=by obtain ⟨_,e,_⟩:=hl; exact Heap.lt_size e
 refine call_max_walk (wpAny_pyIter_list hl ?_)
 refine ⟨s.heap.objs.size,[s.heap.objs.size,p],[s.heap.objs.size],its.toArray.size,_,_,_,rfl,Walks.list (A:=X.A.in1) (I.ok.hd hc) _ p (Nat.ne_of_lt hlt) its.toArray,
  ⟨⟨_,Heap.get?_push_size _ rfl,rfl,rfl⟩,hl.push _⟩,fun b hb=>?_,by rw [List.size_toArray,<- hlen]; exact hs,CmpOf.ints_gt (nuI ns) (fun i v hP=>hU rv i v (by simpa using hP)),fun v h' tk hP hk=>?_⟩
 ·rw [Heap.size_push]
  simp only [List.mem_cons,List.not_mem_nil,or_false] at hb
  rcases hb with rfl | rfl
  · exact Nat.lt_succ_self _
  · exact Nat.lt_succ_of_lt hlt
 ·rw [List.size_toArray,<- hlen] at hP
  obtain ⟨t,e⟩:=hU rv _ v (by simpa using hP)
  refine ⟨.int (mxI ns),H,I.kept (t':=tk) fun b x ex=>hk b x (fun hm=>?_) (Heap.get?_push_of_some _ ex),⟨t,e⟩,q⟩
  rw [List.mem_singleton.mp hm] at ex
  exact Nat.lt_irrefl _ (Heap.lt_size ex)
theorem AU (hc:X.calm=true):gJ X (.builtin "max") (rdL X.K uj):=(xV hc).imp fun xs H Q ⟨Hs,ds,d,sm,r,e,k⟩=>by
 match ds,r,e with
 | [x],.cons hx .nil,e =>
  cases hx with
  | @lst a ys ds h r =>
   obtain ⟨ns,e1,e2⟩:=bind_some (show (eU ds).bind _=some d from e)
   have ed:=mE e1
   subst ed
   have ey:=r.hU
   subst ey
   split at e2
   ·rename_i hs
    have e':D.int (mxI ns)=d:=Zj e2
    subst e'
    exact ⟨a,ns,rfl,sm _ _ h,hs,k _ Hs H (.refl sm) (.int _)⟩
   · cases e2
  | _=>exact nn e
 | [],_,e=>simp [uj] at e
 | _::_::_,_,e=>simp [uj] at e
end
section
variable {X:Cx} {a b c e o:Expr} {es:List Expr} {pos apos cpos pos':Pos} {x:Str}
theorem av {f:DEm} (h:Bx (PVm X e f)):Bx (PEm X e f):=⟨PVm.em h.out⟩
end
section
variable {X:Cx} {a b c e o:Expr} {es:List Expr} {pos apos cpos pos':Pos} {x:Str}
theorem k7 {g:DE} (h:Bx (PEd X e g)):Bx (PVm X e (eS g)):=⟨K7 h.out⟩
end
section
variable {X:Cx} {a b c e o:Expr} {es:List Expr} {pos apos cpos pos':Pos} {x:Str}
theorem bD {g:DE} (h:Bx (PEd X e g)):Bx (PVm X e (eN g)):=⟨K5 h.out⟩
end
section
variable {X:Cx} {a b c e o:Expr} {es:List Expr} {pos apos cpos pos':Pos} {x:Str}
theorem tU {g:DE} (h:Bx (PEo X e g)):Bx (PVm X e (eO g)):=⟨K4 h.out⟩
end
section
variable {X:Cx} {a b c e o:Expr} {es:List Expr} {pos apos cpos pos':Pos} {x:Str}
theorem FV (i:Nat) {p:Pos} (hN:X.N[i]?=some x:=by rfl) (hv:Vis X.env.scope x:=by first | exact Or.inl rfl | exact Or.inr (Or.inl rfl) | exact Or.inr (Or.inr rfl)) (hd:(x == ("__debug__":Str))=false:=by decide) (hcd:(x == ("__classdict__":Str))=false:=by decide):Bx (PVm X (.Name x p) (eV i)):=⟨K2 i hN hv hd hcd⟩
end
section
variable {X:Cx} {a b c e o:Expr} {es:List Expr} {pos apos cpos pos':Pos} {x:Str}
theorem aC (i:Nat) {p:Pos} (hN:X.N[i]?=some x:=by rfl) (hv:Vis X.env.scope x:=by first | exact Or.inl rfl | exact Or.inr (Or.inl rfl) | exact Or.inr (Or.inr rfl)) (hd:(x == ("__debug__":Str))=false:=by decide) (hcd:(x == ("__classdict__":Str))=false:=by decide):Bx (PXm X (.Name x p) (aU i)):=⟨D4 i hN hv hd hcd⟩
end
section
variable {X:Cx} {a b c e o:Expr} {es:List Expr} {pos apos cpos pos':Pos} {x:Str}
theorem dt {C:Addr} {f:DPx} (cl:Cls X.K C) (n:dB X.K C x) (he:Bx (PXm X e f)) (hb:attributeBase e x X.env (eval e X.env)=eval e X.env:=by rfl):Bx (PXm X (.Attribute e x pos) (ee C x f)):=⟨D6 cl n he.out hb⟩
end
section
variable {X:Cx} {a b c e o:Expr} {es:List Expr} {pos apos cpos pos':Pos} {x:Str}
theorem j4 {f:DPx} {g:DE} (hu:X.A.units+1 < cLine) (he:Bx (PXm X a f)) (hk:Bx (PEd X b g)) (hs:Dv b):Bx (PXm X (.Subscript a b pos) (nB f g)):=⟨D5 hu he.out hk.out hs⟩
end
section
variable {X:Cx} {a b c e o:Expr} {es:List Expr} {pos apos cpos pos':Pos} {x:Str} {st:Stmt} {rest:List Stmt} {f g:DSm}
theorem bT  : Bx (pF X [] dk):=⟨yR ⟩
end
section
variable {X:Cx} {a b c e o:Expr} {es:List Expr} {pos apos cpos pos':Pos} {x:Str} {st:Stmt} {rest:List Stmt} {f g:DSm}
theorem aO (h:Bx (PSm X st f)):Bx (pF X [st] f):=⟨yQ h.out⟩
end
section
variable {X:Cx} {a b c e o:Expr} {es:List Expr} {pos apos cpos pos':Pos} {x:Str} {st:Stmt} {rest:List Stmt} {f g:DSm}
theorem af (h1:Bx (PSm X st f)) (h2:Bx (pF X rest g)):Bx (pF X (st::rest) (aL f g)):=⟨vU h1.out h2.out⟩
end
section
variable {X:Cx} {a b c e o:Expr} {es:List Expr} {pos apos cpos pos':Pos} {x:Str} {st:Stmt} {rest:List Stmt} {f g:DSm}
theorem gu  : Bx (PSm X st kA):=⟨vX ⟩
end
section
variable {X:Cx} {a b c e o:Expr} {es:List Expr} {pos apos cpos pos':Pos} {x:Str} {st:Stmt} {rest:List Stmt} {f g:DSm}
theorem cX {t:DTm} {x y:List Stmt} (hc:Bx (PTm X c t)) (ha:Bx (pF X x f)) (hb:Bx (pF X y g)):Bx (PSm X (.If c x y pos) (lE t f g)):=⟨Ea hc.out ha.out hb.out⟩
end
section
variable {X:Cx} {a b c e o:Expr} {es:List Expr} {pos apos cpos pos':Pos} {x:Str} {st:Stmt} {rest:List Stmt} {f g:DSm}
theorem cT {f:DEm} (h:Bx (PEm X e f)):Bx (PSm X (.Return (some e) pos) (fJ f)):=⟨BB h.out⟩
end
section
variable {X:Cx} {a b c e o:Expr} {es:List Expr} {pos apos cpos pos':Pos} {x:Str} {st:Stmt} {rest:List Stmt} {f g:DSm}
theorem aN {i:Nat} {f:DEm} (hN:X.N.Nodup) (hi:X.N[i]?=some x) (hx:Loc X.env.scope x) (he:Bx (PEm X e f)) (hs:swapsWith e (some (.Name x pos')) pos.line X.env=pure false:=by rfl) (hf:X.fn x=true\/X.env.scope.names.lookup x=some .local:=by first | exact .inl rfl | exact .inr rfl | assumption):Bx (PSm X (.Assign [.Name x pos'] e pos) (cz i f)):=⟨BA hN hi hx he.out hs hf⟩
end
section
variable {X:Cx} {a b c e o:Expr} {es:List Expr} {pos apos cpos pos':Pos} {x:Str} {st:Stmt} {rest:List Stmt} {f g:DSm}
theorem nU {f:DEm} (he:Bx (PEm X e f)) (hs:swapsWith e none pos.line X.env=pure false:=by rfl):Bx (PSm X (.Expr e pos) (l6 f)):=⟨yU he.out hs⟩
end
section
variable {X:Cx} {a b c e o:Expr} {es:List Expr} {pos apos cpos pos':Pos} {x:Str} {st:Stmt} {rest:List Stmt} {f g:DSm}
theorem cq {g:DE} (he:Bx (PEd X e g)) (hs:swapsWith e none pos.line X.env=pure false:=by rfl):Bx (PSm X (.Expr e pos) (fL g)):=⟨vZ he.out hs⟩
end
section
variable {X:Cx} {a b c e o:Expr} {es:List Expr} {pos apos cpos pos':Pos} {x:Str} {st:Stmt} {rest:List Stmt} {f g:DSm}
theorem fF {g:DT} (h:Bx (PTd X e g)):Bx (PTm X e (tS g)):=⟨HN h.out⟩
end
section
variable {X:Cx} {a b c e o:Expr} {es:List Expr} {pos apos cpos pos':Pos} {x:Str} {st:Stmt} {rest:List Stmt} {f g:DSm}
theorem qF {f:DEm} (h:Bx (PEm X e f)) (he:∀ whole,isTrue e X.env whole=(do let v <- whole; standAt e.pos; holding [v] (truthy v)):=by intro _; rfl):Bx (PTm X e (tE f)):=⟨Bs h.out he⟩
end
section
variable {X:Cx} {a b c e o:Expr} {es:List Expr} {pos apos cpos pos':Pos} {x:Str} {st:Stmt} {rest:List Stmt} {f g:DSm}
theorem qG {f:DTm} (h:Bx (PTm X e f)):Bx (PTm X (.UnaryOp .Not e pos) (tNt f)):=⟨Bt h.out⟩
end
section
variable {X:Cx} {a b c e o:Expr} {es:List Expr} {pos apos cpos pos':Pos} {x:Str} {st:Stmt} {rest:List Stmt} {f g:DSm}
theorem bU {px:DPx} {gk:DE} {fv:DEm} {i value:Expr} (hu:X.A.units+1 < cLine) (ho:Bx (PXm X o px)) (hi:Bx (PEd X i gk)) (hv:Bx (PEm X value fv)) (hs:swapsWith value (some (.Subscript o i pos')) pos.line X.env=pure false:=by rfl):Bx (PSm X (.Assign [.Subscript o i pos'] value pos) (bH px gk fv)):=⟨yV hu ho.out hi.out hv.out hs⟩
end
section
variable {X:Cx} {a b c e o:Expr} {es:List Expr} {pos apos cpos pos':Pos} {x:Str} {st:Stmt} {rest:List Stmt} {f g:DSm}
theorem dS {C:Addr} {px:DPx} {fv:DEm} {value:Expr} (cl:Cls X.K C) (n:dB X.K C x) (ho:Bx (PXm X o px)) (hv:Bx (PEm X value fv)) (hs:swapsWith value (some (.Attribute o x pos')) pos.line X.env=pure false:=by rfl):Bx (PSm X (.Assign [.Attribute o x pos'] value pos) (jM C x px fv)):=⟨BF cl n ho.out hv.out hs⟩
end
section
variable {X:Cx} {a b c e o:Expr} {es:List Expr} {pos apos cpos pos':Pos} {x:Str}
theorem j5 {px:DPx} {gi:DE} {fv:DEm} {i:Expr} (ho:Bx (PXm X o px)) (hi:Bx (PEd X i gi)) (he:Bx (PVm X e fv)) (hbase:attributeBase o "insert" X.env (eval o X.env)=eval o X.env:=by rfl) (hfew:((backTo cpos (starEach [i,e] X.env)).all (fun x=>!x.1)&&(backToKw cpos (keywordEach [] X.env)).all (fun x=>x.1.isSome)
 && decide ([i,e].length+([]:List Keyword).length+(if ([]:List Keyword).isEmpty then 0 else 1) < 30))=true:=by rfl) (hline:(apos.endLine == cpos.line)=true:=by rfl) (hst:starEach [i,e] X.env=(false,eval i X.env)::starEach [e] X.env:=by rfl) (hst2:starEach [e] X.env=(false,eval e X.env)::starEach [] X.env:=by rfl) (hplain:(backTo cpos (starEach [e] X.env)).any (·.1)=false:=by rfl) (hs:swapsWith (.Call (.Attribute o "insert" apos) [i,e] [] cpos) none pos.line X.env=pure false:=by rfl):Bx (PSm X (.Expr (.Call (.Attribute o "insert" apos) [i,e] [] cpos) pos) (pV px gi fv)):=⟨BD ho.out hi.out he.out hbase hfew hline hst hst2 hplain hs⟩
end
section
variable {X:Cx} {a b c e o:Expr} {es:List Expr} {pos apos cpos pos':Pos} {x:Str}
theorem qJ {px:DPx} {g:DE} (ho:Bx (PXm X o px)) (he:Bx (PEd X e g)) (hbase:attributeBase o "remove" X.env (eval o X.env)=eval o X.env:=by rfl) (hfew:((backTo cpos (starEach [e] X.env)).all (fun x=>!x.1)&&(backToKw cpos (keywordEach [] X.env)).all (fun x=>x.1.isSome)
 && decide ([e].length+([]:List Keyword).length+(if ([]:List Keyword).isEmpty then 0 else 1) < 30))=true:=by rfl) (hline:(apos.endLine == cpos.line)=true:=by rfl) (hst:starEach [e] X.env=(false,eval e X.env)::starEach [] X.env:=by rfl) (hplain:(backTo cpos (starEach [] X.env)).any (·.1)=false:=by rfl) (hs:swapsWith (.Call (.Attribute o "remove" apos) [e] [] cpos) none pos.line X.env=pure false:=by rfl):Bx (PSm X (.Expr (.Call (.Attribute o "remove" apos) [e] [] cpos) pos) (rA px g)):=⟨BC ho.out he.out hbase hfew hline hst hplain hs⟩
end
section
variable {X:Cx} {a b c e o:Expr} {es:List Expr} {pos apos cpos pos' p:Pos} {x m:Str} {k:Nat} {f fa C:Addr} {fd:FuncData} {ps:List Str} {F:List Sm->Option (Sm×List Sm)} {g:DAm}
theorem FU {g:DE} (h:Bx (PEd X e g)):Bx (PQm X e (qS g)):=⟨K1 h.out⟩
end
section
variable {X:Cx} {a b c e o:Expr} {es:List Expr} {pos apos cpos pos' p:Pos} {x m:Str} {k:Nat} {f fa C:Addr} {fd:FuncData} {ps:List Str} {F:List Sm->Option (Sm×List Sm)} {g:DAm}
theorem dW {g:DE} (h:Bx (PEd X e g)):Bx (PQm X e (qN g)):=⟨K0 h.out⟩
end
section
variable {X:Cx} {a b c e o:Expr} {es:List Expr} {pos apos cpos pos' p:Pos} {x m:Str} {k:Nat} {f fa C:Addr} {fd:FuncData} {ps:List Str} {F:List Sm->Option (Sm×List Sm)} {g:DAm}
theorem j6 {f:DPx} (h:Bx (PXm X e f)):Bx (PQm X e (qX f)):=⟨KZ h.out⟩
end
section
variable {X:Cx} {a b c e o:Expr} {es:List Expr} {pos apos cpos pos' p:Pos} {x m:Str} {k:Nat} {f fa C:Addr} {fd:FuncData} {ps:List Str} {F:List Sm->Option (Sm×List Sm)} {g:DAm}
theorem dw  : Bx (PAm X [] jA):=⟨Cb ⟩
end
section
variable {X:Cx} {a b c e o:Expr} {es:List Expr} {pos apos cpos pos' p:Pos} {x m:Str} {k:Nat} {f fa C:Addr} {fd:FuncData} {ps:List Str} {F:List Sm->Option (Sm×List Sm)} {g:DAm}
theorem aD {h:List Sm->Option Am} (h1:Bx (PQm X e h)) (h2:Bx (PAm X es g)) (hs:starEach (e::es) X.env=(false,eval e X.env)::starEach es X.env:=by rfl):Bx (PAm X (e::es) (aP h g)):=⟨zv h1.out h2.out hs⟩
end
section
variable {X:Cx} {a b c e o:Expr} {es:List Expr} {pos apos cpos pos' p:Pos} {x m:Str} {k:Nat} {f fa C:Addr} {fd:FuncData} {ps:List Str} {F:List Sm->Option (Sm×List Sm)} {g:DAm}
theorem qM (Fo:dg X.prog X.w X.K X.mg X.base CX0 k f fd ps (spM F X.K)) (hr:fo k X.A) (hg:Gl X x) (hm:X.mg x=some (.ref f)) (hk:W.keepIn X.K (.ref f)=true) (hb:Binds X.K fd ps []) (ha:Bx (PAm X (e::es) g)) (hdb:(x == ("__debug__":Str))=false:=by decide) (he:starEach (e::es) X.env=(false,eval e X.env)::starEach es X.env:=by rfl) (hpl:(backTo pos (starEach es X.env)).any (·.1)=false:=by rfl):Bx (PEm X (.Call (.Name x p) (e::es) [] pos) (eC F g)):=⟨BS Fo hr hg hm hk hb ha.out hdb he hpl⟩
end
section
variable {X:Cx} {a b c e o:Expr} {es:List Expr} {pos apos cpos pos' p:Pos} {x m:Str} {k:Nat} {f fa C:Addr} {fd:FuncData} {ps:List Str} {F:List Sm->Option (Sm×List Sm)} {g:DAm}
theorem ip {pl:Sem Bool} {fx:DPx} (ho:Bx (PXm X o fx)) (c:Cls X.K C) (hm:rl X.K C m fa) (Fo:dg X.prog X.w X.K X.mg X.base CX0 k fa fd ps (spM F X.K)) (hr:fo k X.A) (hb:Binds X.K fd ps []) (ha:Bx (PAm X (e::es) g)) (hst:starEach (e::es) X.env=(false,eval e X.env)::starEach es X.env:=by rfl) (hpl:(backTo pos (starEach es X.env)).any (·.1)=false:=by rfl) (ht:eval (.Call (.Attribute o m apos) (e::es) [] pos) X.env=(do
 let ov <- eval o X.env
 standAt apos.atName
 let (f,first) <- holding [ov] (getMethod ov m pl)
 callWith pos f first (backTo pos (starEach (e::es) X.env)) (backToKw pos (keywordEach [] X.env))):=by rfl):Bx (PEm X (.Call (.Attribute o m apos) (e::es) [] pos) (eM C m F fx g)):=⟨BQ ho.out c hm Fo hr hb ha.out hst hpl ht⟩
end
section
variable {X:Cx} {a b c e o:Expr} {es:List Expr} {pos apos cpos pos' p:Pos} {x m:Str} {k:Nat} {f fa C:Addr} {fd:FuncData} {ps:List Str} {F:List Sm->Option (Sm×List Sm)} {g:DAm}
theorem yd (M:Mk X.K C fa) (Fo:dg X.prog X.w X.K X.mg X.base CX0 k fa fd ps (spM F X.K)) (hr:fo (k+1) X.A) (hg:Gl X x) (hm:X.mg x=some (.ref C)) (hb:Binds X.K fd ps []) (ha:Bx (PAm X (e::es) g)) (hdb:(x == ("__debug__":Str))=false:=by decide) (he:starEach (e::es) X.env=(false,eval e X.env)::starEach es X.env:=by rfl) (hpl:(backTo pos (starEach es X.env)).any (·.1)=false:=by rfl):Bx (PEm X (.Call (.Name x p) (e::es) [] pos) (eK C F g)):=⟨BR M Fo hr hg hm hb ha.out hdb he hpl⟩
end
section
variable {X:Cx} {a b c e o:Expr} {es:List Expr} {pos apos cpos pos' p:Pos} {x m:Str}
theorem jz  : Bx (PVm X (.Dict [] [] pos) eD0):=⟨HR ⟩
end
section
variable {X:Cx} {a b c e o:Expr} {es:List Expr} {pos apos cpos pos' p:Pos} {x m:Str}
theorem ye {g:DE} (h:Bx (PEo X e g)):Bx (PVm X e (eF g)):=⟨K6 h.out⟩
end
section
variable {X:Cx} {a b c e o:Expr} {es:List Expr} {pos apos cpos pos' p:Pos} {x m:Str}
theorem yf {kx value:Expr} {kc:Key} {fv:DEm} (hk:PE X kx (tC (kV kc))) (hv:Bx (PVm X value fv)):Bx (PVm X (.Dict [some kx] [value] pos) (eD1 kc fv)):=⟨HQ hk hv.out⟩
end
section
variable {X:Cx} {a b c e o tg iter:Expr} {es:List Expr} {body:List Stmt} {pos apos cpos pos' p:Pos} {x m:Str}
theorem nY {i:Nat} (hN:X.N.Nodup) (hi:X.N[i]?=some x) (hx:Loc X.env.scope x) (hf:X.fn x=true\/X.env.scope.names.lookup x=some .local:=by first | exact .inl rfl | exact .inr rfl | assumption):Bx (PGm X (.Name x pos) (gNm i)):=⟨zk hN hi hx hf⟩
end
section
variable {X:Cx} {a b c e o tg iter:Expr} {es:List Expr} {body:List Stmt} {pos apos cpos pos' p:Pos} {x m:Str}
theorem uN  : Bx (AY X [] nQ):=⟨zj ⟩
end
section
variable {X:Cx} {a b c e o tg iter:Expr} {es:List Expr} {body:List Stmt} {pos apos cpos pos' p:Pos} {x m:Str}
theorem mS {g:DGm} {h:yw} (h1:Bx (PGm X e g)) (h2:Bx (AY X es h)) (hs:(assignEach (e::es) X.env).map (·.2)=assign e X.env::(assignEach es X.env).map (·.2):=by rfl):Bx (AY X (e::es) (gm g h)):=⟨wk h1.out h2.out hs⟩
end
section
variable {X:Cx} {a b c e o tg iter:Expr} {es:List Expr} {body:List Stmt} {pos apos cpos pos' p:Pos} {x m:Str}
theorem yh {k':Nat} {g:yw} {n:Nat} (hc:X.calm=true) (h:Bx (AY X es g)) (hn:(assignEach es X.env).length=n:=by rfl) (hst:(assignEach es X.env).findIdx? (·.1)=none:=by rfl):Bx (PGm X (.Tuple es k' pos) (gTm n g)):=⟨BY hc h.out hn hst⟩
end
section
variable {X:Cx} {a b c e o tg iter:Expr} {es:List Expr} {body:List Stmt} {pos apos cpos pos' p:Pos} {x m:Str}
theorem x4 {it:DI} {g:DGm} {b:DSm} (hp:PassesOwn (model X.prog X.w) X.A X.env X.xe) (hc:X.calm=true) (hi:Bx (PId X tg iter it)) (hg:Bx (PGm X tg g)) (hb:Bx (pF X body b)) (hs:∀ x,foldedSetIterable iter X.env x=pure x:=by intro _; rfl):Bx (PSm X (.For tg iter body [] pos) (yE it g b)):=⟨BE hp hc hi.out hg.out hb.out hs⟩
end
section
variable {X:Cx} {a b c e o tg iter:Expr} {es:List Expr} {body:List Stmt} {pos apos cpos pos' p:Pos} {x y:Str}
theorem uJ (i:Nat) (hN:X.N[i]?=some x:=by rfl) (hv:Vis X.env.scope x:=by first | exact Or.inl rfl | exact Or.inr (Or.inl rfl) | exact Or.inr (Or.inr rfl)) (hd:(x == ("__debug__":Str))=false:=by decide) (hcd:(x == ("__classdict__":Str))=false:=by decide):Bx (PTd X (.Name x p) (xP i)):=⟨yN i hN hv hd hcd⟩
end
section
variable {X:Cx} {a b c e o tg iter:Expr} {es:List Expr} {body:List Stmt} {pos apos cpos pos' p:Pos} {x y:Str}
theorem nW (i j:Nat) {py:Pos} (hN:X.N.Nodup) (hi:X.N[i]?=some x) (hx:Loc X.env.scope x) (hj:X.N[j]?=some y) (hv:Vis X.env.scope y) (hd:(y == ("__debug__":Str))=false:=by decide) (hcd:(y == ("__classdict__":Str))=false:=by decide) (hbase:attributeBase (.Name y py) "pop" X.env (eval (.Name y py) X.env)=eval (.Name y py) X.env:=by rfl) (hline:(apos.endLine == cpos.line)=true:=by rfl) (hs:swapsWith (.Call (.Attribute (.Name y py) "pop" apos) [] [] cpos) (some (.Name x pos')) pos.line X.env=pure false:=by rfl) (hf:X.fn x=true\/X.env.scope.names.lookup x=some .local:=by first | exact .inl rfl | exact .inr rfl | assumption):Bx (PSd X (.Assign [.Name x pos'] (.Call (.Attribute (.Name y py) "pop" apos) [] [] cpos) pos) (oG i j)):=⟨yZ i j hN hi hx hj hv hd hcd hbase hline hs hf⟩
end
section
theorem uK {X:Cx} {e:Expr} {f:DE} {p pos:Pos} (hh:X.A.handled=none) (hg:Gl X "list") (hm:X.mg "list"=none) (hv:bootBuiltins "list"=some (.type "list")) (he:Bx (PEd X e f)) (hst:starEach [e] X.env=(false,eval e X.env)::starEach [] X.env:=by rfl) (hpl:(backTo pos (starEach [] X.env)).any (·.1)=false:=by rfl):Bx (PEo X (.Call (.Name "list" p) [e] [] pos) (tM f)):=⟨zg hh hg hm hv he.out hst hpl⟩
end
section
variable {X:Cx} {pos:Pos}
theorem sj {elt cnd:Expr} {x y z:Str} {px py pz spos:Pos} {i j:Nat} {scope:Scope} {cl:List (Str×Addr)} {cs:List (Str×Nat)} {c:DT} {g:DE} (hN:X.N.Nodup) (hy:X.N[j]?=some y) (hx:Loc X.env.scope y) (hz:X.N[i]?=some z) (hv:Vis X.env.scope z) (hc:X.calm=true) (O:d6 X scope cl x cs) (hcd:∀ s H fp C,Bx (PTd (bS X scope cl (x::cs.map (·.1)) s H fp C) cnd c)) (he:∀ s H fp C,Bx (PEd (bS X scope cl (x::cs.map (·.1)) s H fp C) elt g)) (hd:(z == ("__debug__":Str))=false:=by decide) (hcl:(z == ("__classdict__":Str))=false:=by decide) (hs:∀ x,foldedSetIterable (.Name z pz) X.env x=pure x:=by intro _; rfl) (hsw:swapsWith (.ListComp elt [⟨.Name x px,.Name z pz,[cnd],0⟩] scope pos) (some (.Name y py)) spos.line X.env=pure true:=by rfl) (hf:X.fn y=true\/X.env.scope.names.lookup y=some .local:=by first | exact .inl rfl | exact .inr rfl | assumption):Bx (PSm X (.Assign [.Name y py] (.ListComp elt [⟨.Name x px,.Name z pz,[cnd],0⟩] scope pos) spos) (sJ j i c g cs)):=⟨wa hN hy hx hz hv hc O (fun s H fp C=>(hcd s H fp C).out) (fun s H fp C=>(he s H fp C).out) hd hcl hs hsw hf⟩
end
section
variable {X:Cx} {e:Expr} {es:List Expr} {x:Str} {p pos:Pos} {k:Nat} {f:Addr} {fd:FuncData} {ps:List Str} {F:List Sm->Option D} {g:DAm}
theorem uL (Fo:dg X.prog X.w X.K X.mg X.base CX0 k f fd ps (spP F X.K)) (hr:fo k X.A) (hg:Gl X x) (hm:X.mg x=some (.ref f)) (hk:W.keepIn X.K (.ref f)=true) (hb:Binds X.K fd ps []) (ha:Bx (PAm X (e::es) g)) (hdb:(x == ("__debug__":Str))=false:=by decide) (he:starEach (e::es) X.env=(false,eval e X.env)::starEach es X.env:=by rfl) (hpl:(backTo pos (starEach es X.env)).any (·.1)=false:=by rfl):Bx (PVm X (.Call (.Name x p) (e::es) [] pos) (eP F g)):=⟨zh Fo hr hg hm hk hb ha.out hdb he hpl⟩
end
section
variable {P:Program} {w:World} {K:W.Frag} {mg:Str->Option Value} {base:Heap}
theorem qO {x qual:Str} {st:Stmt} {f:Addr} {fd:FuncData} {N ps:List Str} {k:Nat} {b:DSm} (F:Fun K x qual st f fd) (S:aS N ps (ah st))
  (hbody:∀ (cdv:Value) (A:Around) (outer:List Env) (s:Shared) (H:Hp) (E:XK),fo k (A.deeper (envOfC qual (ah st) s.heap.objs.size f cdv)) ->
    Bx (pF (xS CX0 P w K mg base N qual (ah st) f cdv A outer s H E).nox (aw st) b)):dg P w K mg base CX0 (k+1) f fd ps (spM (q8 N.length ps.length b) K) :=
 F.okM S fun cdv A outer s H E hr=>(hbody cdv A outer s H E hr).out
end
section
variable {X:Cx} {pos:Pos}
theorem vW {elt iter cnd:Expr} {x y:Str} {px py spos:Pos} {i:Nat} {scope:Scope} {cl:List (Str×Addr)} {cs:List (Str×Nat)} {it:DI} {c:DT} {g:DE} (hN:X.N.Nodup) (hy:X.N[i]?=some y) (hx:Loc X.env.scope y)
  (hc:X.calm=true) (O:d6 X scope cl x cs) (hi:PId X (.Name x px) iter it)
  (hcd:∀ s H fp C,PTd (bS X scope cl (x::cs.map (·.1)) s H fp C) cnd c) (he:∀ s H fp C,PEd (bS X scope cl (x::cs.map (·.1)) s H fp C) elt g) (hs:∀ x,foldedSetIterable iter X.env x=pure x:=by intro _; rfl)
  (hsw:swapsWith (.ListComp elt [⟨.Name x px,iter,[cnd],0⟩] scope pos) (some (.Name y py)) spos.line X.env=pure true:=by rfl)
  (hf:X.fn y=true\/X.env.scope.names.lookup y=some .local:=by first | exact .inl rfl | exact .inr rfl | assumption) :
  PSm X (.Assign [.Name y py] (.ListComp elt [⟨.Name x px,iter,[cnd],0⟩] scope pos) spos) (cz i (eO (iX it c g cs))):=(oJ (te:=rdE X.K g) (tt:=rdT X.K c) hN hy hx hc O hi hcd he hs hsw hf).imp fun E σ H ⟨Hs0,H0,nf,ρ,Hs,τ,o,r,e,k⟩=>by
 obtain ⟨⟨s,τ1⟩,e1,e2⟩:=bind_some e
 split at e2
 ·rename_i h
  cases e2
  obtain ⟨d,e3,e4⟩:=bind_some e1
  split at e4
  ·split at e4
   ·rename_i hsc
    cases e4
    obtain ⟨fp,st⟩:=r.st
    refine tO ⟨H,H,bB τ,[],_,st.bB r.sm,.refl H,e3,fun a Hs' H' g1 ow hn=>?_⟩
    cases ow with
    | lst h' n rr=>exact k _ Hs H' ((r.Br g1.hh (Od.lst h' (r.sm.free hn) (kl rr hsc)) fun c hc=>by rw [List.mem_singleton.mp hc]; exact hn).into h.1 h.2)
   · cases e4
  · cases e4
 · cases e2
theorem ud {elt iter cnd:Expr} {x y:Str} {px py spos:Pos} {i:Nat} {scope:Scope} {cl:List (Str×Addr)} {cs:List (Str×Nat)} {it:DI} {c:DT} {g:DE} (hN:X.N.Nodup) (hy:X.N[i]?=some y) (hx:Loc X.env.scope y)
  (hc:X.calm=true) (O:d6 X scope cl x cs) (hi:PId X (.Name x px) iter it)
  (hcd:∀ s H fp C,PTd (bS X scope cl (x::cs.map (·.1)) s H fp C) cnd c) (he:∀ s H fp C,PEd (bS X scope cl (x::cs.map (·.1)) s H fp C) elt g) (hs:∀ x,foldedSetIterable iter X.env x=pure x:=by intro _; rfl)
  (hsw:swapsWith (.ListComp elt [⟨.Name x px,iter,[cnd],0⟩] scope pos) (some (.Name y py)) spos.line X.env=pure true:=by rfl)
  (hf:X.fn y=true\/X.env.scope.names.lookup y=some .local:=by first | exact .inl rfl | exact .inr rfl | assumption) :
  PSm X (.Assign [.Name y py] (.ListComp elt [⟨.Name x px,iter,[cnd],0⟩] scope pos) spos) (cz i (eF (iX it c g cs))):=(oJ (te:=rdE X.K g) (tt:=rdT X.K c) hN hy hx hc O hi hcd he hs hsw hf).imp fun E σ H ⟨Hs0,H0,nf,ρ,Hs,τ,o,r,e,k⟩=>by
 obtain ⟨⟨s,τ1⟩,e1,e2⟩:=bind_some e
 split at e2
 ·rename_i hh
  cases e2
  obtain ⟨d,e3,e4⟩:=bind_some e1
  split at e4
  ·split at e4
   ·rename_i hsc
    cases e4
    obtain ⟨fp,st⟩:=r.st
    refine tO ⟨H,H,bB τ,[],_,st.bB r.sm,.refl H,e3,fun a Hs' H' g1 ow hn=>?_⟩
    cases ow with
    | @lst xs ds h n rr =>
     have ha:Hs a=none:=r.sm.free hn
     have ex:Ext Hs H (upd Hs a (.lst xs)) H':=by
      refine ⟨aB ha _,fun b u q=>?_,g1.hh,fun b h1 h2=>?_⟩
      ·by_cases z:b=a
       · subst z; rw [au] at q; cases q; exact h
       · rw [ak z] at q; exact g1.hh _ _ (r.sm _ _ q)
      · rw [ak (show b≠a from fun z=>h2 (by rw [z]; exact hn))]; exact h1
     exact k _ _ H' (((r.ext' ex).push (.lst au (kl rr hsc))).into hh.1 hh.2)
   · cases e4
  · cases e4
 · cases e2
theorem mQ {elt iter cnd:Expr} {x y:Str} {px py spos:Pos} {i:Nat} {scope:Scope} {cl:List (Str×Addr)} {cs:List (Str×Nat)} {it:DI} {c:DT} {g:DE} (hN:X.N.Nodup) (hy:X.N[i]?=some y) (hx:Loc X.env.scope y)
 (hc:X.calm=true) (O:d6 X scope cl x cs) (hi:Bx (PId X (.Name x px) iter it))
 (hcd:∀ s H fp C,Bx (PTd (bS X scope cl (x::cs.map (·.1)) s H fp C) cnd c)) (he:∀ s H fp C,Bx (PEd (bS X scope cl (x::cs.map (·.1)) s H fp C) elt g)) (hs:∀ x,foldedSetIterable iter X.env x=pure x:=by intro _; rfl)
 (hsw:swapsWith (.ListComp elt [⟨.Name x px,iter,[cnd],0⟩] scope pos) (some (.Name y py)) spos.line X.env=pure true:=by rfl)
 (hf:X.fn y=true\/X.env.scope.names.lookup y=some .local:=by first | exact .inl rfl | exact .inr rfl | assumption) :
 Bx (PSm X (.Assign [.Name y py] (.ListComp elt [⟨.Name x px,iter,[cnd],0⟩] scope pos) spos) (cz i (eO (iX it c g cs)))):=⟨vW hN hy hx hc O hi.out (fun s H fp C=>(hcd s H fp C).out) (fun s H fp C=>(he s H fp C).out) hs hsw hf⟩
theorem qI {elt iter cnd:Expr} {x y:Str} {px py spos:Pos} {i:Nat} {scope:Scope} {cl:List (Str×Addr)} {cs:List (Str×Nat)} {it:DI} {c:DT} {g:DE} (hN:X.N.Nodup) (hy:X.N[i]?=some y) (hx:Loc X.env.scope y)
 (hc:X.calm=true) (O:d6 X scope cl x cs) (hi:Bx (PId X (.Name x px) iter it))
 (hcd:∀ s H fp C,Bx (PTd (bS X scope cl (x::cs.map (·.1)) s H fp C) cnd c)) (he:∀ s H fp C,Bx (PEd (bS X scope cl (x::cs.map (·.1)) s H fp C) elt g)) (hs:∀ x,foldedSetIterable iter X.env x=pure x:=by intro _; rfl)
 (hsw:swapsWith (.ListComp elt [⟨.Name x px,iter,[cnd],0⟩] scope pos) (some (.Name y py)) spos.line X.env=pure true:=by rfl)
 (hf:X.fn y=true\/X.env.scope.names.lookup y=some .local:=by first | exact .inl rfl | exact .inr rfl | assumption) :
 Bx (PSm X (.Assign [.Name y py] (.ListComp elt [⟨.Name x px,iter,[cnd],0⟩] scope pos) spos) (cz i (eF (iX it c g cs)))):=⟨ud hN hy hx hc O hi.out (fun s H fp C=>(hcd s H fp C).out) (fun s H fp C=>(he s H fp C).out) hs hsw hf⟩
end
def eT (g:DA):DEm:=fun τ=>(g (bB τ)).bind fun ds=>if ds.all sca=true/\ds.length<=100000 then some (.shr (.tup ds),τ) else none
theorem v_T {τ:List Sm} {g:DA} {ds:List D} (h:g (bB τ)=some ds) (hs:ds.all sca=true) (hl:ds.length<=100000):eT g τ=some (.shr (.tup ds),τ):=by unfold eT; rw [h]; exact if_pos ⟨hs,hl⟩
section
variable {X:Cx} {es:List Expr} {pos:Pos}
theorem K3 {x1} {g:DA} (h:PAd X es g):PVm X (.Tuple es x1 pos) (eT g):=(Ar h).imp fun σ H Q ⟨Hs0,H0,nf,ρ,Hs,τ,s,τ',r,e,k⟩=>by
 obtain ⟨ds,e1,e2⟩:=bind_some e
 split at e2
 ·rename_i hs
  cases e2
  obtain ⟨fp,st⟩:=r.st
  refine ⟨H,H,bB τ,[],ds,st.bB r.sm,.refl H,e1,fun vs Hs1 H1 g1 r1=>⟨by rw [r1.length]; exact w9 hs.2,fun p hp=>?_⟩⟩
  have hp1:H p=none:=g1.hh.free hp
  have hp0:Hs p=none:=r.sm.free hp1
  have ex:Ext Hs H (upd Hs p (.tup vs)) (upd H1 p (.tup vs)):=by
   refine ⟨aB hp0 _,fun b u q=>?_,g1.hh.trans (aB hp _),fun b h1 h2=>?_⟩
   ·by_cases z:b=p
    · subst z; rw [au] at q ⊢; exact q
    · rw [ak z] at q ⊢; exact g1.hh _ _ (r.sm _ _ q)
   · rw [ak (show b≠p from fun z=>h2 (by rw [z]; exact hp1))]; exact h1
  exact k _ _ _ (g1.hh.trans (aB hp _)) ((r.ext' ex).push (.tup (SqT.of au) (kl r1 hs.1)))
 · cases e2
end
def qV (i j:Nat) (gk1:DE) (i2:Nat) (gk2:DE) (g2:DA) (g3:DE):DSm:=fun τ=>match τ[j]? with
 | some (.mu false m)=>match bH (aU i) gk1 (eV j) τ with
  | some (.next τ1)=>match bH (aU i2) gk2 (eT g2) τ1 with
   | some (.next τ2)=>(g3 ((bB τ2).set j (.shr (frz m)))).bind fun d=>if sca d=true/\i≠i2 then some (.ret (.shr d) τ2) else none
   | _=>none
  | _=>none
 | _=>none
theorem mj {τ:List Sm} {i:Nat} {m:Mt} (h:bE τ i []=some m):∃ b,τ[i]?=some (.mu b m):=by
 unfold bE at h
 split at h
 ·rename_i b m' e
  have:m'=m:=by cases m' <;> exact Zj h
  subst this
  exact ⟨b,e⟩
 · cases h
theorem Bq (cs:List (Key×Mt)) (k:Key) (m:Mt):(k,m) ∈ gK cs k m:=by
 unfold gK
 split
 ·rename_i h
  obtain ⟨c,hc,e⟩:=List.any_eq_true.mp h
  have e':c.1=k:=of_decide_eq_true e
  exact List.mem_map.mpr ⟨c,hc,by rw [if_pos e',e']⟩
 · exact List.mem_append_right _ (List.mem_singleton.mpr rfl)
theorem Dw {kvs:List (Key×V)} {k:Key} {v:V} (h:dD kvs k=some v):(k,v) ∈ kvs:=by
 unfold dD at h
 obtain ⟨c,hc,rfl⟩:=Zm h
 have e:c.1=k:=by simpa using List.find?_some hc
 rw [<- e]
 exact List.mem_of_find?_eq_some hc
theorem D9 {τ:List Sm} {i:Nat} {b:Bool} {m m2:Mt} (h:τ[i]?=some (.mu b m)):(fk τ i [] m2)[i]?=some (.mu b m2):=by
 unfold fk
 rw [h]
 have e:m.put [] m2=m2:=by cases m <;> rfl
 show (τ.set i (.mu b (m.put [] m2)))[i]?=_
 rw [e,List.getElem?_set_self (List.getElem?_eq_some_iff.mp h).1]
theorem Bn {τ:List Sm} {i k:Nat} {b:Bool} {m m2:Mt} (h:τ[i]?=some (.mu b m)) (ne:i≠k):(fk τ i [] m2)[k]?=τ[k]?:=by
 unfold fk
 rw [h]
 show (τ.set i (.mu b (m.put [] m2)))[k]?=_
 rw [List.getElem?_set_ne ne]
theorem set_same {α:Type} {l:List α} {j:Nat} {x:α} (h:l[j]?=some x):l.set j x=l:=by
 apply List.ext_getElem?
 intro n
 rw [List.getElem?_set]
 split
 ·rename_i e
  subst e
  split
  · exact h.symm
  ·rename_i hn
   rw [List.getElem?_eq_none (by omega)] at h
   cases h
 · rfl
section
variable {K:W.Frag} {Hs0 H0 Hs H:Hp} {ρ:List (Option Addr)} {σ:St} {τ:List Sm} {i:Nat} {s:Sm} {v:V} {mv m:Mt} {cs:List (Key×Mt)} {b:Bool} {a:Addr} {kvs:List (Key×V)} {ky:Key}
theorem lP (r:bF K Hs0 H0 (none::ρ) Hs H (some v::σ) (s::τ)) (hs:toM s=some mv) (hg:bE τ i []=some (.n .d cs)):∃ a kvs,σ[i]?=some (some (.ref a))/\H a=some (.dK kvs)/\kvs.length=cs.length/\∀ ky,bF K Hs0 H0 ρ Hs (upd H a (.dK (putK kvs ky v))) σ (fk τ i [] (.n .d (gK cs ky mv))):=by
 obtain ⟨b,eb⟩:=mj hg
 obtain ⟨fp,st⟩:=r.pop.st
 obtain ⟨rt,fq,fp',h1,_⟩:=st.out eb
 obtain ⟨a,dx,ts,u,fv,rfl,rfl,ha,hl,ku,fin⟩:=r.zC hs hg h1 rfl
 rw [xa hl] at ha
 refine ⟨a,_,h1,ha,by rw [List.length_map,List.length_map],fun ky=>?_⟩
 obtain ⟨l1,l2,hsub,spl⟩:=l7 ky ku
 obtain ⟨p1,p2,p3⟩:=spl ⟨ky,v,mv,fv⟩ rfl
 generalize ek:ts.map Kd.kv=kvs at hl
 cases hl with
 | d _ =>
  have:=fin l1 ky l2 (.dK (putK kvs ky v)) hsub (by rw [p1,ek]; exact .d _) p3
  rw [p2] at this
  exact this
theorem JX {cs0:List (Key×Mt)} (r:bF K Hs0 H0 ρ Hs H σ τ) (hi:τ[i]?=some (.mu b (.n .d (gK cs0 ky m)))) (ha:σ[i]?=some (some (.ref a))) (hH:H a=some (.dK kvs)) (hv:dD kvs ky=some v):Rp K H v (frz m):=by
 obtain ⟨fp,st⟩:=r.st
 obtain ⟨rt,fq,fp',h1,h2,_⟩:=st.out hi
 rw [ha] at h1
 cases h1
 obtain ⟨a',dx,ts,u,e1,_,e2,hu,hl,_,ku,_,rr⟩:=h2.inv
 cases e1
 rw [hH] at hu
 cases hu
 have e3:=xa hl
 injection e3 with e3
 have i1:=Dw hv
 rw [e3] at i1
 obtain ⟨c,hc,ec⟩:=List.mem_map.mp i1
 have i2:=Bq cs0 ky m
 rw [e2] at i2
 obtain ⟨c',hc',ec'⟩:=List.mem_map.mp i2
 have k1:c.k=ky/\c.v=v:=by injection ec with z1 z2; exact ⟨z1,z2⟩
 have k2:c'.k=ky/\c'.m=m:=by injection ec' with z1 z2; exact ⟨z1,z2⟩
 have ecc:c=c':=by
  have ku':(ts.map Kd.k).Nodup:=ku
  have:∀ {l:List Kd},(l.map Kd.k).Nodup->c ∈ l->c' ∈ l->c.k=c'.k->c=c':=fun {l}=>by
   induction l with
   | nil=>intro _ h; cases h
   | cons z l ih =>
    intro nd h h' e
    rw [List.map_cons,List.nodup_cons] at nd
    rcases List.mem_cons.mp h with e1 | g
    ·rcases List.mem_cons.mp h' with e2 | g'
     · rw [e1,e2]
     · exact absurd (List.mem_map.mpr ⟨c',g',by rw [<- e,e1]⟩) nd.1
    ·rcases List.mem_cons.mp h' with e2 | g'
     · exact absurd (List.mem_map.mpr ⟨c,g,by rw [e,e2]⟩) nd.1
     · exact ih nd.2 g g' e
  exact this ku' hc hc' (by rw [k1.1,k2.1])
 have o:=(rr c hc).rp r.sm
 rw [k1.2,ecc,k2.2] at o
 exact o
theorem vb {i2:Nat} {b2:Bool} {t t2:Tg} {cs2:List (Key×Mt)} {a2:Addr} (r:bF K Hs0 H0 ρ Hs H σ τ) (hi:τ[i]?=some (.mu b (.n t cs))) (hi2:τ[i2]?=some (.mu b2 (.n t2 cs2))) (ne:i≠i2) (ha:σ[i]?=some (some (.ref a))) (ha2:σ[i2]?=some (some (.ref a2))):a≠a2:=by
 obtain ⟨fp,st⟩:=r.st
 obtain ⟨v,fq,fp',h1,h2,h3,h4,_⟩:=st.out hi
 rw [ha] at h1
 cases h1
 obtain ⟨v2,fq2,fp2,k1,k2,_,k4,_⟩:=h3.out (i:=i2) (b:=b2) (m:=.n t2 cs2) (by rw [List.getElem?_set_ne ne]; exact hi2)
 rw [ha2] at k1
 cases k1
 obtain ⟨_,_,_,_,e1,e2,_⟩:=h2.inv
 obtain ⟨_,_,_,_,e3,e4,_⟩:=k2.inv
 cases e1
 cases e3
 intro z
 subst z
 exact (h4 a (by rw [e2]; exact List.mem_cons_self ..)).1 (k4 a (by rw [e4]; exact List.mem_cons_self ..)).2
end
section
variable {X:Cx} {posA posB posC pd pf px ps1 ps2 pt:Pos} {k1 k2 e3:Expr} {es:List Expr} {d f x:Str} {i j i2:Nat} {gk1 gk2 g3:DE} {g2:DA}
theorem vT {x1} (hu:X.A.units+1 < cLine) (hd:PE X (.Name d pd) (rm i)) (hk1:PEd X k1 gk1) (hx:PE X (.Name x px) (rm j)) (hf:PE X (.Name f pf) (rm i2)) (hk2:PEd X k2 gk2) (h2:PAd X es g2) (h3:PEd X e3 g3)
  (hsA:swapsWith (.Name x px) (some (.Subscript (.Name d pd) k1 ps1)) posA.line X.env=pure false:=by rfl) (hsB:swapsWith (.Tuple es x1 pt) (some (.Subscript (.Name f pf) k2 ps2)) posB.line X.env=pure false:=by rfl) :
  pF X [.Assign [.Subscript (.Name d pd) k1 ps1] (.Name x px) posA,.Assign [.Subscript (.Name f pf) k2 ps2] (.Tuple es x1 pt) posB,.Return (some e3) posC] (qV i j gk1 i2 gk2 g2 g3) :=
 PSs.imp (eu (rC hu hd hk1 hx hsA) (eu (rC hu hf hk2 (K3 h2) hsB) (dJ (gU h3)))) fun E σ H ⟨Hs0,H0,nf,ρ,Hs,τ,o,r,e,k⟩=>by
  unfold qV at e
  split at e
  ·rename_i m ej
   split at e
   ·rename_i τ1 eA
    split at e
    ·rename_i τ2 eB
     obtain ⟨d3,e3,e4⟩:=bind_some e
     split at e4
     ·rename_i hs
      obtain ⟨hs,hne⟩:=hs
      cases e4
      obtain ⟨⟨s,τa⟩,a1,eA⟩:=bind_some eA
      obtain ⟨⟨ia,qa⟩,a2,eA⟩:=bind_some eA
      obtain ⟨da,a3,eA⟩:=bind_some eA
      obtain ⟨ky,a4,eA⟩:=bind_some eA
      obtain ⟨mv,a5,eA⟩:=bind_some eA
      have a1':eV j τ=some (.mu false m,τ.set j .no):=by unfold eV; rw [ej]
      rw [a1'] at a1
      cases a1
      cases a2
      cases a5
      split at eA
      ·rename_i cs en
       split at eA
       ·rename_i hz
        have eA':=Zj eA
        injection eA' with eA'
        obtain ⟨fp,st⟩:=r.st
        obtain ⟨v,fq,fp',h1,h2',h3',h4,h5⟩:=st.out ej
        have r1:bF X.K Hs0 H0 (none::ρ) Hs H (some v::σ) (.mu false m::τ.set j .no):=⟨r.ext,fq++fp',.mu h2' (fun e=>by cases e) (fun c hc=>(st.live c (h4 c hc).2).2.2) (fun c hc=>(h4 c hc).1) h3'⟩
        refine ⟨v,h1,?_⟩
        obtain ⟨a,kvs,g1,g2',g3',fin⟩:=lP r1 rfl en
        refine ⟨.ref a,g1,?_⟩
        refine ⟨H,H,bB (τ.set j .no),[],da,h3'.bB r.sm,.refl H,a3,fun y Hs3 H3 gg ry=>?_⟩
        have hy:=mC ry a4
        subst hy
        obtain ⟨a',kvs',g1',g2'',g3'',fin'⟩:=lP (r1.grow gg.hh) rfl en
        rw [g1] at g1'
        cases g1'
        refine ⟨a,_,rfl,Dn.k g2'' (by rw [g3'']; exact le5 (Nat.le_of_lt hz)),?_⟩
        have r4:=fin' ky
        rw [eA'] at r4
        obtain ⟨⟨s5,τ5⟩,b1,eB1⟩:=bind_some eB
        obtain ⟨⟨ib,qb⟩,b2,eB2⟩:=bind_some eB1
        obtain ⟨db,b3,eB3⟩:=bind_some eB2
        obtain ⟨ky2,b4,eB4⟩:=bind_some eB3
        obtain ⟨mv2,b5,eB5⟩:=bind_some eB4
        clear eB eB1 eB2 eB3 eB4
        cases b2
        have e5:τ5=τ1:=by
         unfold eT at b1
         obtain ⟨ds,_,b1⟩:=bind_some b1
         split at b1
         · cases b1; rfl
         · cases b1
        subst e5
        split at eB5
        ·rename_i cs2 en2
         split at eB5
         ·rename_i hz2
          have eB':=Zj eB5
          injection eB' with eB'
          refine ⟨Hs0,H0,nf,ρ,Hs,_,s5,_,r4,b1,fun v5 Hs5 H5 s5' r5=>?_⟩
          obtain ⟨a2,kvs2,q1,q2,q3,fin2⟩:=lP r5 b5 en2
          refine ⟨.ref a2,q1,?_⟩
          obtain ⟨fp5,st5⟩:=r5.pop.st
          refine ⟨H5,H5,bB _,[],db,st5.bB r5.sm,.refl H5,b3,fun y2 Hs6 H6 gg6 ry2=>?_⟩
          have hy2:=mC ry2 b4
          subst hy2
          obtain ⟨a2',kvs2',q1',q2',q3',fin2'⟩:=lP (r5.grow gg6.hh) b5 en2
          rw [q1] at q1'
          cases q1'
          refine ⟨a2,_,rfl,Dn.k q2' (by rw [q3']; exact le5 (Nat.le_of_lt hz2)),?_⟩
          have r8:=fin2' ky2
          rw [eB'] at r8
          obtain ⟨b0,t0⟩:=mj en
          have t1:τ5[i]?=some (.mu b0 (.n .d (gK cs ky m))):=by
           rw [<- eA']
           exact D9 t0
          obtain ⟨b2,t2⟩:=mj en2
          have nea:=vb r5.pop t1 t2 hne g1 q1
          have hA:upd H6 a2 (.dK (putK kvs2' ky2 v5)) a=some (.dK (putK kvs' ky v)):=by
           rw [ak nea]
           exact gg6.hh _ _ (s5' _ _ au)
          have t3:τ2[i]?=some (.mu b0 (.n .d (gK cs ky m))):=by
           rw [<- eB']
           exact (Bn t2 (Ne.symm hne)).trans t1
          have rp:=JX r8 t3 g1 hA (by rw [yz,if_pos rfl])
          obtain ⟨fp8,st8⟩:=r8.st
          obtain ⟨fp9,n9,st9⟩:=StR.uW (i:=j) rp (st8.bB r8.sm)
          have e9:fp9=[]:=List.eq_nil_iff_forall_not_mem.mpr fun c hc=>nomatch n9 c hc
          subst e9
          rw [set_same h1] at st9
          exact ⟨_,_,_,[],d3,st9,.refl _,e3,fun v9 Hs9 H9 g9 r9=>k v9 σ Hs5 H9 ((r8.grow g9.hh).push (nM r9 hs))⟩
         · cases eB5
        · cases eB5
       · cases eA
      · cases eA
     · cases e4
    · cases e
   · cases e
  · cases e
theorem sg {x1} (hu:X.A.units+1 < cLine) (hd:PE X (.Name d pd) (rm i)) (hk1:Bx (PEd X k1 gk1)) (hx:PE X (.Name x px) (rm j)) (hf:PE X (.Name f pf) (rm i2)) (hk2:Bx (PEd X k2 gk2)) (h2:Bx (PAd X es g2)) (h3:Bx (PEd X e3 g3))
 (hsA:swapsWith (.Name x px) (some (.Subscript (.Name d pd) k1 ps1)) posA.line X.env=pure false:=by rfl) (hsB:swapsWith (.Tuple es x1 pt) (some (.Subscript (.Name f pf) k2 ps2)) posB.line X.env=pure false:=by rfl) :
 Bx (pF X [.Assign [.Subscript (.Name d pd) k1 ps1] (.Name x px) posA,.Assign [.Subscript (.Name f pf) k2 ps2] (.Tuple es x1 pt) posB,.Return (some e3) posC] (qV i j gk1 i2 gk2 g2 g3)):=⟨vT hu hd hk1.out hx hf hk2.out h2.out h3.out hsA hsB⟩
end
def xX (i jx jy:Nat) (τ:List Sm):List Sl:=bB (((τ.set i .no).set jx .no).set jy .no)
open Classical in
noncomputable def sI (i jx jy:Nat) (e:DE) (c:DT):DSm:=fun τ=>match τ[i]? with
 | some (.mu _ (.n .d ks))=>if ks.length<=100000/\∀ p ∈ ks,∃ v,e ((xX i jx jy τ).set jx (.shr (kD p.1)))=some v/\c (((xX i jx jy τ).set jx (.shr (kD p.1))).set jy (.shr v))=some false then some (.next ((τ.set jx .no).set jy .no)) else none
 | _=>none
theorem Bf {l:List Sm} {jx jy:Nat} (n:jx≠jy):((((l.set jx .no).set jy .no).set jx .no).set jy .no)=(l.set jx .no).set jy .no:=by
 rw [List.set_comm _ _ (Ne.symm n),List.set_set,List.set_set]
section
variable {X:Cx} {c e k ev:Expr} {pos px py pz ipos rpos spos:Pos} {x y z:Str} {i jx jy:Nat} {f:DE} {t:DT} {g:DE}
theorem vY (hp:PassesOwn (model X.prog X.w) X.A X.env X.xe) (hc:X.calm=true) (hz:X.N[i]?=some z) (hv:Vis X.env.scope z) (hN:X.N.Nodup) (hx:X.N[jx]?=some x) (lx:Loc X.env.scope x) (hy:X.N[jy]?=some y) (ly:Loc X.env.scope y) (n1:jx≠jy) (n2:jx≠i) (n3:jy≠i)
  (he:PEd X ev f) (ht:PTd X c t) (hk:PEd X k g)
  (hd:(z == ("__debug__":Str))=false:=by decide) (hcl:(z == ("__classdict__":Str))=false:=by decide) (hs:∀ x,foldedSetIterable (.Name z pz) X.env x=pure x:=by intro _; rfl)
  (hw:swapsWith ev (some (.Name y py)) spos.line X.env=pure false:=by rfl)
  (hfx:X.fn x=true\/X.env.scope.names.lookup x=some .local:=by first | exact .inl rfl | exact .inr rfl | assumption) (hfy:X.fn y=true\/X.env.scope.names.lookup y=some .local:=by first | exact .inl rfl | exact .inr rfl | assumption) :
  PSm X (.For (.Name x px) (.Name z pz) [.Assign [.Name y py] ev spos,.If c [.Return (some k) rpos] [] ipos] [] pos) (sI i jx jy f t) :=
 PS.imp (rB (sP hp hc (rD (fw hz hv hd hcl)) (gV hN hx lx hfx) (eu (pX hN hy ly he hw hfy) (dJ (pY ht (dJ (gU hk)) jf))) hs)) fun E σ H ⟨Hs0,H0,nf,ρ,Hs,τ,o,r,e,k⟩=>by
  unfold sI at e
  split at e
  ·rename_i b0 ks ei
   split at e
   ·rename_i hl
    obtain ⟨hl,hall⟩:=hl
    cases e
    obtain ⟨fp,st⟩:=r.st
    obtain ⟨v,fq,fpr,o1,o2,o3,o4,o5⟩:=st.out ei
    obtain ⟨d,dx,ts,u,rfl,rfl,rfl,hdH,hlay,hnd,ku,ndp,rr⟩:=o2.inv
    rw [xa hlay] at hdH
    have d0:H0 d=none:=(st.live d (o4 d (List.mem_cons_self ..)).2).2.2
    refine ⟨_,o1,d,ts.map Kd.kv,rfl,hdH,fun ob=>?_⟩
    have dnf:d ∉ fpr:=(o4 d (List.mem_cons_self ..)).1
    have s1:StM X.K H0 Hs (upd H d (.frz ob (.dK (ts.map Kd.kv)))) ρ σ (τ.set i .no) fpr:=o3.mv (.refl _) fun c hc=>⟨(o3.live c hc).1,ak (show c≠d from fun q=>dnf (by rw [<- q]; exact hc))⟩
    have sm1:bY Hs (upd H d (.frz ob (.dK (ts.map Kd.kv)))):=fun c w q=>by
     rw [ak (show c≠d from fun y=>by rw [y,hnd] at q; cases q)]; exact r.sm c w q
    have sm0:bY H0 (upd H d (.frz ob (.dK (ts.map Kd.kv)))):=fun c w q=>by
     rw [ak (show c≠d from fun y=>by rw [y,d0] at q; cases q)]; exact r.ext.hh c w q
    generalize hH1:upd H d (.frz ob (.dK (ts.map Kd.kv)))=H1 at s1 sm1 sm0
    have h1d:H1 d=some (.frz ob (.dK (ts.map Kd.kv))):=by rw [<- hH1]; exact au
    have r1:bF X.K Hs H0 ρ Hs H1 σ (τ.set i .no):=⟨⟨.refl _,sm1,sm0,fun _ h _=>h⟩,fpr,s1⟩
    have fg:∀ {Hs0 H0 Hs H:Hp} {τ:List Sm} {σ:St},bF X.K Hs0 H0 ρ Hs H σ τ->bF X.K Hs0 H0 ρ Hs H σ ((τ.set jx .no).set jy .no):=fun {Hs0 H0 Hs H τ σ} r=>by
     obtain ⟨fp,st⟩:=r.st
     obtain ⟨fp1,s1,_⟩:=st.Ki jx
     obtain ⟨fp2,s2,_⟩:=s1.Ki jy
     exact ⟨r.ext,fp2,s2⟩
    have fs:∀ {Hs0 H0 Hs H:Hp} {τ:List Sm} {σ:St} (a b:Option V),bF X.K Hs0 H0 ρ Hs H σ ((τ.set jx .no).set jy .no)->bF X.K Hs0 H0 ρ Hs H ((σ.set jx a).set jy b) ((τ.set jx .no).set jy .no):=fun {Hs0 H0 Hs H τ σ} a b r=>by
     have:=(r.forget jx a).forget jy b
     rw [Bf n1] at this
     exact this
    have lts:(ts.map Kd.kv).length=ts.length:=List.length_map _
    refine ⟨fun n m σ' H'=>m=ts.length - n/\n<=ts.length/\bY H1 H'/\bF X.K Hs H0 ρ Hs H1 σ' (((τ.set i .no).set jx .no).set jy .no)/\bF X.K Hs0 H0 ρ Hs H σ' ((τ.set jx .no).set jy .no),⟨ts.length,by simp,Nat.zero_le _,.refl _,fg r1,fg r⟩,?_⟩
    rintro n m σ' H2 ⟨rfl,hn,g2,ra,rb⟩
    have h2d:=g2 _ _ h1d
    by_cases hlt:n < ts.length
    ·refine .inr ⟨⟨h2d,by rw [lts]; exact hlt⟩,fun σ'' H'=>bY H1 H'/\bF X.K Hs H0 ρ Hs H1 σ'' (((τ.set i .no).set jx .no).set jy .no)/\bF X.K Hs0 H0 ρ Hs H σ'' ((τ.set jx .no).set jy .no),fun σ'' H' h=>⟨ts.length - (n+1),by omega,rfl,hlt,h⟩,?_⟩
     rintro w H3 ⟨rfl,kk,ww,hk',rfl⟩
     have hm:∃ p ∈ ts.map Kd.km,p.1=kk:=by
      rw [List.getElem?_map] at hk'
      obtain ⟨tt,ht',et⟩:=Zm hk'
      exact ⟨tt.km,List.mem_map.mpr ⟨tt,List.mem_of_getElem? ht',rfl⟩,(Prod.mk.inj et).1⟩
     obtain ⟨p,hp',rfl⟩:=hm
     obtain ⟨dv,e1,e2⟩:=hall p hp'
     have sb:∀ {H':Hp},bY H1 H'->StR X.K H' H' H' (σ'.set jx (some (kV p.1))) ((xX i jx jy τ).set jx (.shr (kD p.1))) []:=fun {H'} g=>by
      obtain ⟨fpa,sa⟩:=(ra.grow g).st
      obtain ⟨fp9,n9,st9⟩:=StR.uW (i:=jx) (zL p.1) (sa.bB (ra.grow g).sm)
      have e9:fp9=[]:=List.eq_nil_iff_forall_not_mem.mpr fun c hc=>nomatch n9 c hc
      subst e9
      exact st9
     refine ⟨_,_,_,[],dv,sb g2,.refl _,e1,fun v5 Hs5 H5 g5 r5=>?_⟩
     have g6:=g2.trans g5.hh
     obtain ⟨fp9,n9,st9⟩:=StR.uW (i:=jy) (r5.same g5.sh) (sb g6)
     have e9:fp9=[]:=List.eq_nil_iff_forall_not_mem.mpr fun c hc=>nomatch n9 c hc
     subst e9
     refine ⟨_,_,_,[],false,st9,.refl _,e2,fun Hs7 H7 g7=>Hh ?_⟩
     exact ⟨g6.trans g7.hh,fs _ _ ra,fs _ _ rb⟩
    ·have e0:n=ts.length:=by omega
     subst e0
     refine .inl ⟨⟨h2d,by rw [lts]; exact Nat.le_refl _⟩,d,ob,ts.map Kd.kv,h2d,fun o' u' q=>nf d o' u' q d0,?_⟩
     have smf:bY H (upd H2 d (.dK (ts.map Kd.kv))):=fun c w q=>by
      by_cases cd:c=d
      ·subst cd
       rw [hdH] at q
       cases q
       exact au
      ·rw [ak cd]
       exact g2 _ _ (by rw [<- hH1,ak cd]; exact q)
     exact k _ _ _ (rb.grow smf)
   · cases e
  · cases e
theorem si (hp:PassesOwn (model X.prog X.w) X.A X.env X.xe) (hc:X.calm=true) (hz:X.N[i]?=some z) (hv:Vis X.env.scope z) (hN:X.N.Nodup) (hx:X.N[jx]?=some x) (lx:Loc X.env.scope x) (hy:X.N[jy]?=some y) (ly:Loc X.env.scope y) (n1:jx≠jy) (n2:jx≠i) (n3:jy≠i)
 (he:Bx (PEd X ev f)) (ht:Bx (PTd X c t)) (hk:Bx (PEd X k g))
 (hd:(z == ("__debug__":Str))=false:=by decide) (hcl:(z == ("__classdict__":Str))=false:=by decide) (hs:∀ x,foldedSetIterable (.Name z pz) X.env x=pure x:=by intro _; rfl)
 (hw:swapsWith ev (some (.Name y py)) spos.line X.env=pure false:=by rfl)
 (hfx:X.fn x=true\/X.env.scope.names.lookup x=some .local:=by first | exact .inl rfl | exact .inr rfl | assumption) (hfy:X.fn y=true\/X.env.scope.names.lookup y=some .local:=by first | exact .inl rfl | exact .inr rfl | assumption) :
 Bx (PSm X (.For (.Name x px) (.Name z pz) [.Assign [.Name y py] ev spos,.If c [.Return (some k) rpos] [] ipos] [] pos) (sI i jx jy f t)):=⟨vY hp hc hz hv hN hx lx hy ly n1 n2 n3 he.out ht.out hk.out hd hcl hs hw hfx hfy⟩
end
def leS (a b:Str):Bool:=!decide (b.cps.toList < a.cps.toList)
theorem jk {a b:Str}:leS a b=true↔a.cps.toList<=b.cps.toList:=by
 unfold leS
 rw [Bool.not_eq_true',decide_eq_false_iff_not]
 exact List.not_lt
theorem qo (a b c:Str) (h1:leS a b=true) (h2:leS b c=true):leS a c=true:=jk.mpr (List.le_trans (jk.mp h1) (jk.mp h2))
theorem w6 (a b:Str):(leS a b||leS b a)=true:=by
 rcases List.le_total a.cps.toList b.cps.toList with h | h
 · rw [jk.mpr h]; rfl
 · rw [jk.mpr h,Bool.or_true]
theorem zJ {a b:Str} (h1:leS a b=true) (h2:leS b a=true):a=b:=by
 have e:=List.le_antisymm (jk.mp h1) (jk.mp h2)
 cases a
 cases b
 exact congrArg Str.mk (Array.toList_inj.mp e)
noncomputable def Af (ss:List Str):List Str:=ss.mergeSort leS
theorem pw_rising:∀ (p:Str) (l:List Str),risingS p l=true->(p::l).Pairwise (fun a b=>leS a b=true)
 | p,[],_=>List.pairwise_singleton ..
 | p,x::r,h=>by
  have h':(!ltCps x.cps.toList p.cps.toList&&risingS x r)=true:=h
  rw [Bool.and_eq_true,ltCps_eq] at h'
  have ih:=pw_rising x r h'.2
  have px:leS p x=true:=h'.1
  refine List.pairwise_cons.mpr ⟨fun y hy=>?_,ih⟩
  rcases List.mem_cons.mp hy with rfl | hy
  · exact px
  · exact qo _ _ _ px (List.rel_of_pairwise_cons ih hy)
theorem pw_sorted:∀ {l:List Str},sortedS l=true->l.Pairwise (fun a b=>leS a b=true)
 | [],_=>.nil
 | x::r,h=>pw_rising x r h
theorem DN {ss ss':List Str} (h1:ss'.Perm ss) (h2:sortedS ss'=true):ss'=Af ss :=
 List.Perm.eq_of_pairwise (fun a b _ _=>zJ) (pw_sorted h2) (List.pairwise_mergeSort qo w6 ss) (h1.trans (List.mergeSort_perm ss leS).symm)
def D2:List V->Hp->VK->Prop:=fun xs H Q=>∃ (a:Addr) (kvs:List (Key×V)) (ss:List Str),xs=[.ref a]/\H a=some (.dK kvs)/\kvs.map (·.1)=ss.map Sum.inr/\kvs.length < 64 /\
 ∀ (p:Addr),H p=none->Q (.ref p) (upd H p (.lst ((Af ss).map .str)))
theorem vo:∀ {us:List Value} {ss:List Str},us.length=ss.length->(∀ (j:Nat) (v:Value),us[j]?=some v->∃ n t,ss[j]?=some n/\v=.str n t)->StrsAre us ss
 | [],[],_,_=>.nil
 | [],_::_,e,_=>by cases e
 | _::_,[],e,_=>by cases e
 | u::us,n::ns,e,h=>by
  obtain ⟨n',t,e1,e2⟩:=h 0 u rfl
  cases e1
  subst e2
  exact .cons n t (vo (Nat.succ.inj e) fun j v ev=>h (j+1) v ev)
theorem pI:∀ {us:List Value} {ss:List Str},StrsAre us ss->bZ (ss.map V.str) us
 | _,_,.nil=>.nil
 | _,_,.cons x t h=>.cons ⟨t,rfl⟩ (pI h)
theorem qz {X:Cx} (hh:X.A.handled=none):gJ X (.builtin "sorted") D2:=by
 intro pins s σ H xs us Q I r h
 obtain ⟨a,kvs,ss,rfl,ha,ek,h64,q⟩:=h
 obtain ⟨u,rfl,ru⟩:=vals1 r
 cases (show u=Value.ref a from ru)
 obtain ⟨sz,lo,vs,kv,dd⟩:=xH I.hok ha
 obtain ⟨ep,hat⟩:=dd.dictAt
 have lv:vs.length=kvs.length:=kv.length.symm
 have ev:vs.map (·.1)=ss.map Sum.inr:=by
  rw [<- ek]
  exact oX kv
 refine Calls.call_function_entry kind_sorted plain_sorted entry_sorted (args_sorted1 _) ?_
 unfold Builtin.«sorted»
 refine wpAny_bind (m:=checkCount "sorted" 1 1 _) (wpAny_pure ?_)
 refine wpAny_bind (PySem.W.kdu_collect (A:=X.A.in1) (PySem.W.kdl_dict (knd:=bO X.prog X.w) (kvs:=vs) (ep:=ep) lo) hh hat (by rw [lv]; exact sz) fun h' tk acc hk hacc=>?_)
 have hI:StrsAre acc.toList ss:=by
  refine vo (by rw [Array.length_toList,hacc.1,<- List.length_map (f:=(Sum.inr:Str->Key)),<- ev,List.length_map]) fun j v hj=>?_
  obtain ⟨k,x,e1,e2⟩:=hacc.2 j v (by rw [<- Array.getElem?_toList]; exact hj)
  have e3:(vs.map (·.1))[j]?=some k:=by rw [List.getElem?_map,e1]; rfl
  rw [ev,List.getElem?_map] at e3
  cases q:ss[j]? with
  | none=>rw [q] at e3; cases e3
  | some n =>
   rw [q] at e3
   cases e3
   rcases bp (show oY (Sum.inr n) v=true from e2) with ⟨i,t,e4,e5⟩ | ⟨y,t,e4,e5⟩
   · cases e4
   · cases e4; exact ⟨_,t,rfl,e5⟩
 have la:acc.toList.length < 64:=by rw [Array.length_toList,hacc.1,lv]; exact h64
 refine wpAny_bind (wpAny_newList ?_ (Nat.le_trans (Nat.le_of_lt la) (by decide)))
 have hoL:(h'.push (seqObj "list" acc.toList.toArray 0)).get? h'.objs.size=some (seqObj "list" acc.toList.toArray 0):=Heap.get?_push_size _ rfl
 refine wpAny_bind (wpAny_holding (wpAny_call_entry slot_list_sort ⟨_,hoL,rfl⟩ entry_list_sort (list_sort_treeK strKind_oneLt hoL hI.keysOf (fun v₁ v₂ rest e=>keyKind_strs (by rw [<- e]; exact hI)) la fun st' hp hs=>⟨_,rfl,?_⟩) (args_list_sort _)))
 obtain ⟨ss',a1,a2,a3⟩:=sorted_out_str hI hp hs
 have a4:=DN a2 a3
 subst a4
 generalize (arrOf st').map (·.2)=out at a1 ⊢
 refine wpAny_pure ⟨_,rfl,?_⟩
 have I1:=I.kept (t':=tk) hk
 have old:∀ b o,h'.get? b=some o->(sortedHeap (h'.push (seqObj "list" acc.toList.toArray 0)) h'.objs.size acc.toList out).get? b=some o:=fun b o e1=>by
  rw [sortedHeap_old (Nat.ne_of_lt (Heap.lt_size e1)) (by rw [size_push']; exact Nat.lt_succ_of_lt (Heap.lt_size e1))]
  exact Heap.get?_push_of_some _ e1
 obtain ⟨e,he⟩:=sortedHeap_at (out:=out) hoL
 have I2:=I1.laid (a:=h'.objs.size) (o:=.lst ((Af ss).map .str)) (t':=tk) old (Nat.le_refl _) ⟨by rw [List.length_map,a2.length_eq,<- StrsAre.length hI]; exact Nat.le_trans (Nat.le_of_lt la) (by decide),out.toList,e,pI a1,by rw [he,Array.toArray_toList]⟩
 exact ⟨.ref h'.objs.size,_,I2,rfl,q _ (I1.hok.fresh (Nat.le_refl _))⟩
def xc:List (Key×D)->Option (List Str)
 | []=>some []
 | (.inr x,_)::r=>(xc r).map (x::·)
 | _=>none
theorem qp:∀ {ds:List (Key×D)} {ss:List Str},xc ds=some ss->ds.map (·.1)=ss.map Sum.inr
 | [],_,e=>by cases e; rfl
 | (.inr x,_)::r,_,e=>by
  obtain ⟨ss,e1,rfl⟩:=Zm (show (xc r).map _=_ from e)
  rw [List.map_cons,qp e1]
  rfl
 | (.inl _,_)::_,_,e=>by cases e
theorem RpK.keys {K:W.Frag} {H:Hp}:∀ {kvs:List (Key×V)} {ds:List (Key×D)},RpK K H kvs ds->kvs.map (·.1)=ds.map (·.1)
 | _,_,.nil=>rfl
 | _,_,.cons h r=>by rw [List.map_cons,List.map_cons,RpK.keys r]
noncomputable def xQ (f:DE):DE:=fun τ=>(f τ).bind fun d=>match d with | .dct kvs=>(xc kvs).bind fun ss=>if ss.length < 64 then some (.lst ((Af ss).map .str)) else none | _=>none
theorem z4 {X:Cx} {e:Expr} {f:DE} {p pos:Pos} (hh:X.A.handled=none) (hg:Gl X "sorted") (hm:X.mg "sorted"=none) (he:Bx (PEd X e f)) (hst:starEach [e] X.env=(false,eval e X.env)::starEach [] X.env:=by rfl) (hpl:(backTo pos (starEach [] X.env)).any (·.1)=false:=by rfl):Bx (PEo X (.Call (.Name "sorted" p) [e] [] pos) (xQ f)) :=
 ⟨(sR (qz hh) hg hm (by decide +kernel) (dm he.out gE hst) (by decide) (by decide) hst hpl).imp fun σ H Q h=>by
   obtain ⟨H0,Hs,τ,fp,d,st,sm,e,q⟩:=h
   obtain ⟨x,e1,e2⟩:=bind_some e
   refine ⟨H0,Hs,τ,fp,x,st,sm,e1,fun v Hs1 H1 g1 rv=>?_⟩
   cases rv with
   | @dct a kvs ds h r =>
    obtain ⟨ss,e3,e4⟩:=bind_some (show (xc ds).bind _=some d from e2)
    split at e4
    ·rename_i h64
     have e5:=Zj e4
     subst e5
     have ek:kvs.map (·.1)=ss.map Sum.inr:=r.keys.trans (qp e3)
     refine ⟨a,kvs,ss,rfl,g1.sh _ _ h,ek,?_,fun p hp=>?_⟩
     ·have:=congrArg List.length ek
      rw [List.length_map,List.length_map] at this
      omega
     ·have hHp:=g1.hh.free hp
      refine q p Hs1 _ ⟨g1.ss,g1.sh.trans (aB hp _),g1.hh.trans (aB hp _),g1.fr⟩ (.lst au (g1.sh.free hp) (Rps.strs _)) hHp
    · cases e4
   | _=>exact nn e2⟩
theorem EO {as:List Addr} {h:Heap}:∀ {K:W.Frag},as=K.map (·.1)->as.map h.get?=K.map (fun p=>some p.2)->∀ p ∈ K,h.get? p.1=some p.2:=by
 intro K e q
 subst e
 rw [List.map_map] at q
 intro p hp
 exact List.map_inj_left.mp q p hp
theorem AB {a:Addr} {o:Obj}:∀ {K:W.Frag},List.lookup a K=some o->(a,o) ∈ K
 | [],h=>by cases h
 | (b,u)::K,h=>by
  rw [List.lookup_cons] at h
  cases q:a == b with
  | true =>
   rw [q] at h
   have e1:a=b:=eq_of_beq q
   have e2:u=o:=Zj h
   subst e1 e2
   exact List.mem_cons_self ..
  | false =>
   rw [q] at h
   exact List.mem_cons_of_mem _ (AB h)
theorem yy {q:Program} {loose:List Str} {XP:(Str->Option Value)->Heap->Prop} {as:List Addr} {K:Params->W.Frag} {n t:Nat} {r:PySem.W.RowW} {d:PySem.DefRec} {kwd:List (Str×Expr)} {run:Value->List Value->Sem Value}
  (e:∀ P,as=(K P).map (·.1)) (h:PySem.W.WalkO q loose XP (PySem.W.InK K) r d kwd run):PySem.W.WalkX q loose XP (PySem.W.X.obsZ as) (PySem.W.X.valZ K n t) r d kwd run:=by
 intro w s₀ s₁ mg mb G y a o pm cd doc dV kV ho hd hcd hD hmg hg args vals bs L hpre hlay hrd hwl hlo
 have y1:as.map s₀.heap.get?=(K w.params).map (fun p=>some p.2):=congrArg Prod.fst y
 have KX:(K w.params).In s₁.heap:=fun b o' e'=>L.keeps b o' (EO (e w.params) y1 (b,o') (AB e'))
 exact h w s₀ s₁ mg mb G KX a o pm cd doc dV kV ho hd hcd hD hmg hg args vals bs hpre hlay hrd hwl hlo
abbrev Fn0 (K:W.Frag) (x:Str) (st:Stmt) (f:Addr):Prop:=∃ (od an:Option Addr) (sl:Array (Option Value)) (oc kV dc pm cd ct:Value),PySem.W.nsIn K mainGlobals x=some (some (.ref f))/\K.lookup f=some ⟨oc,od,.func (PySem.W.fnOf x x (aA st) (aw st) (ah st) .none kV dc pm an cd ct),sl⟩/\PySem.W.codeIn K cd x=true/\W.keepIn K (.ref f)=true
theorem Fn0.mk {K:W.Frag} {x:Str} {st:Stmt} {f:Addr} {h:Heap} {mg:Str->Option Value} {ps:List Str} (e:Fn0 K x st f) (X:K.In h) (G:h.Ns mainGlobals mg) (hb:∀ (kV doc pm:Value) (an:Option Addr) (cdv ct:Value) (us:List Value),us.length=ps.length->bindArgs (PySem.W.fnOf x x (aA st) (aw st) (ah st) .none kV doc pm an cdv ct) ⟨us,[]⟩=pure (ps.zip us)):∃ fd,Fun K x x st f fd/\mg x=some (.ref f)/\Binds K fd ps []:=by
 obtain ⟨od,an,sl,oc,kV,dc,pm,cd,ct,a,l,c,k⟩:=e
 exact ⟨_,fC (st:=st) l c k,PySem.W.mg_of X G a,(fC (st:=st) l c k).binds hb⟩
end L2
end
section
namespace N09
open PySem L2
def top (i:Nat):Stmt:=PySem.Challenge.pw_stylehouse_k09_move.main.body.getD i (.Pass ⟨0,0,0,0⟩)
abbrev l4:Stmt:=top 10
abbrev c5:Stmt:=inClass (top 19) 1
abbrev c6:Stmt:=inClass (top 19) 2
abbrev cN:Stmt:=inClass (top 19) 10
abbrev fV:Stmt:=top 21
abbrev jd:Stmt:=top 23
abbrev kr:Stmt:=top 24
abbrev gQ:Stmt:=top 26
abbrev gR:Stmt:=top 28
abbrev jc:Stmt:=top 29
abbrev cB:Stmt:=inClass (top 19) 11
abbrev bK:Stmt:=inClass (top 19) 12
abbrev bG:Stmt:=inClass (top 19) 15
abbrev bL:Stmt:=inClass (top 19) 16
abbrev gP:Stmt:=top 20
abbrev jb:Stmt:=top 25
abbrev eQ:Stmt:=top 27
abbrev l5:Stmt:=top 12
abbrev gO:Stmt:=top 13
abbrev bM:Stmt:=inClass (top 19) 0
abbrev dI:Stmt:=inClass (top 19) 6
abbrev cb:Stmt:=top 30
abbrev ko:Stmt:=top 14
abbrev eE:Stmt:=inClass (top 19) 3
abbrev dH:Stmt:=inClass (top 19) 5
abbrev kq:Stmt:=top 31
abbrev gS:Stmt:=top 32
abbrev t9:Stmt:=top 33
theorem t8:aS ["thing"] ["thing"] (ah l4):=⟨rfl,rfl,rfl,by decide +kernel,rfl,by decide +kernel,by decide +kernel⟩
theorem jK:aS ["self","holder","name","box"] ["self","holder","name"] (ah c5):=⟨rfl,rfl,rfl,by decide +kernel,rfl,by decide +kernel,by decide +kernel⟩
theorem oB:aS ["self","box"] ["self","box"] (ah c6):=⟨rfl,rfl,rfl,by decide +kernel,rfl,by decide +kernel,by decide +kernel⟩
theorem ny:aS ["self","box"] ["self","box"] (ah cN):=⟨rfl,rfl,rfl,by decide +kernel,rfl,by decide +kernel,by decide +kernel⟩
theorem nv:aS ["place","row"] ["place","row"] (ah fV):=⟨rfl,rfl,rfl,by decide +kernel,rfl,by decide +kernel,by decide +kernel⟩
theorem pQ:aS ["_law_script","_law_k"] ["_law_script","_law_k"] (ah jd):=⟨rfl,rfl,rfl,by decide +kernel,rfl,by decide +kernel,by decide +kernel⟩
theorem lX:aS ["_law_cell_here","_law_way","_law_first"] ["_law_cell_here","_law_way"] (ah kr):=⟨rfl,rfl,rfl,by decide +kernel,rfl,by decide +kernel,by decide +kernel⟩
theorem oA:aS ["_law_found"] ["_law_found"] (ah gQ):=⟨rfl,rfl,rfl,by decide +kernel,rfl,by decide +kernel,by decide +kernel⟩
theorem d8:aS ["_law_rows","_law_box","_law_told","_law_todo","_law_one"] ["_law_rows","_law_box"] (ah gR):=⟨rfl,rfl,rfl,by decide +kernel,rfl,by decide +kernel,by decide +kernel⟩
theorem ft:aS ["_law_facts","_law_box","_law_deep_here"] ["_law_facts","_law_box"] (ah jc):=⟨rfl,rfl,rfl,by decide +kernel,rfl,by decide +kernel,by decide +kernel⟩
theorem lZ:aS ["self","box"] ["self","box"] (ah cB):=⟨rfl,rfl,rfl,by decide +kernel,rfl,by decide +kernel,by decide +kernel⟩
theorem lA:aS ["self","box"] ["self","box"] (ah bK):=⟨rfl,rfl,rfl,by decide +kernel,rfl,by decide +kernel,by decide +kernel⟩
theorem kn:aS ["self","box"] ["self","box"] (ah bG):=⟨rfl,rfl,rfl,by decide +kernel,rfl,by decide +kernel,by decide +kernel⟩
theorem lB:aS ["self","box"] ["self","box"] (ah bL):=⟨rfl,rfl,rfl,by decide +kernel,rfl,by decide +kernel,by decide +kernel⟩
theorem oz:aS ["name"] ["name"] (ah gP):=⟨rfl,rfl,rfl,by decide +kernel,rfl,by decide +kernel,by decide +kernel⟩
theorem gM:aS ["_law_cell_here","_law_way","_law_letters","_law_size"] ["_law_cell_here","_law_way"] (ah jb):=⟨rfl,rfl,rfl,by decide +kernel,rfl,by decide +kernel,by decide +kernel⟩
theorem gD:aS ["_law_found","_law_due","_law_k"] ["_law_found","_law_due"] (ah eQ):=⟨rfl,rfl,rfl,by decide +kernel,rfl,by decide +kernel,by decide +kernel⟩
theorem iL:aS ["tree","box","found","left","one"] ["tree","box"] (ah l5):=⟨rfl,rfl,rfl,by decide +kernel,rfl,by decide +kernel,by decide +kernel⟩
theorem d7:aS ["tree","box","found","holder"] ["tree","box"] (ah gO):=⟨rfl,rfl,rfl,by decide +kernel,rfl,by decide +kernel,by decide +kernel⟩
theorem lC:aS ["self","name"] ["self","name"] (ah bM):=⟨rfl,rfl,rfl,by decide +kernel,rfl,by decide +kernel,by decide +kernel⟩
theorem pR:aS ["self","box","word"] ["self","box","word"] (ah dI):=⟨rfl,rfl,rfl,by decide +kernel,rfl,by decide +kernel,by decide +kernel⟩
theorem d9:aS ["_law_tree","_law_rows","_law_facts","_law_box","_law_holder","_law_name_here"] ["_law_tree","_law_rows","_law_facts"] (ah cb):=⟨rfl,rfl,rfl,by decide +kernel,rfl,by decide +kernel,by decide +kernel⟩
theorem ro:aS ["tree","box"] ["tree","box"] (ah ko):=⟨rfl,rfl,rfl,by decide +kernel,rfl,by decide +kernel,by decide +kernel⟩
theorem lY:aS ["self","holder","place","name","box"] ["self","holder","place","name"] (ah eE):=⟨rfl,rfl,rfl,by decide +kernel,rfl,by decide +kernel,by decide +kernel⟩
theorem fu:aS ["self","box","holder","place","under","row","lowest"] ["self","box","holder","place"] (ah dH):=⟨rfl,rfl,rfl,by decide +kernel,rfl,by decide +kernel,by decide +kernel⟩
theorem cE:aS ["_law_tree","_law_rows","_law_facts","_law_number","_law_cell_here","_law_way","_law_some","_law_draw","_law_holder","_law_place","_law_name_here","_law_made"] ["_law_tree","_law_rows","_law_facts","_law_number","_law_cell_here","_law_way"] (ah kq):=⟨rfl,rfl,rfl,by decide +kernel,rfl,by decide +kernel,by decide +kernel⟩
theorem aT:aS ["_law_tree","_law_rows","_law_facts","_law_cell_here","_law_way","_law_some","_law_box","_law_under_here","_law_tall","_law_free","_law_draw","_law_holder","_law_rest","_law_place","_law_due","_law_told"] ["_law_tree","_law_rows","_law_facts","_law_cell_here","_law_way"] (ah gS):=⟨rfl,rfl,rfl,by decide +kernel,rfl,by decide +kernel,by decide +kernel⟩
theorem jJ:aS ["_law_script","_law_name_here","_law_tree","_law_rows","_law_facts","_law_k","_law_cell_here","_law_number","_law_box","_law_due"] ["_law_script"] (ah t9):=⟨rfl,rfl,rfl,by decide +kernel,rfl,by decide +kernel,by decide +kernel⟩
structure Adr where
 mX:Addr
 mN:FuncData
 iE:Addr
 ij:FuncData
 iF:Addr
 il:FuncData
 gB:Addr
 gq:FuncData
 gA:Addr
 gn:FuncData
 jD:Addr
 js:FuncData
 kR:Addr
 kJ:FuncData
 iB:Addr
 h9:FuncData
 iC:Addr
 ic:FuncData
 jC:Addr
 jr:FuncData
 fG:Addr
 fE:FuncData
 ff:Addr
 eY:FuncData
 d5:Addr
 dZ:FuncData
 fh:Addr
 eZ:FuncData
 iA:Addr
 hZ:FuncData
 jB:Addr
 jq:FuncData
 fe:Addr
 eX:FuncData
 mY:Addr
 mO:FuncData
 iz:Addr
 hW:FuncData
 fi:Addr
 fb:FuncData
 jF:Addr
 ju:FuncData
 de:Addr
 ie:FuncData
 kP:Addr
 kH:FuncData
 kS:Addr
 kK:FuncData
 jE:Addr
 jt:FuncData
 kQ:Addr
 kI:FuncData
 iD:Addr
 ig:FuncData
 z9:Addr
 uD:FuncData
 ae:Addr
 nH:Tok
 qr:Tok
 rS:Tok
 Fe:Tok
structure Txt (K:W.Frag) (mg:Str->Option Value) (t:Adr):Prop where
 E2:mg "Tree"=some (.ref t.ae)
 ay:Cls K t.ae
 gc:dB K t.ae "given"
 cO:dB K t.ae "names"
 cG:dB K t.ae "holders"
 br:dB K t.ae "boxes"
 dr:dB K t.ae "marks"
 jP:dB K t.ae "words"
 kX:dB K t.ae "rows"
 fS:Fun K "is_name" "is_name" l4 t.mX t.mN
 wR:mg "is_name"=some (.ref t.mX)
 yj:Binds K t.mN ["thing"] []
 cJ:Fun K "enter" "Tree.enter" c5 t.iE t.ij
 jR:rl K t.ae "enter" t.iE
 k9:Binds K t.ij ["self","holder","name"] []
 aW:Fun K "check" "Tree.check" c6 t.iF t.il
 bJ:rl K t.ae "check" t.iF
 cc:Binds K t.il ["self","box"] []
 cw:Fun K "stands" "Tree.stands" cN t.gB t.gq
 nF:rl K t.ae "stands" t.gB
 pD:Binds K t.gq ["self","box"] []
 bt:Fun K "check_place" "check_place" fV t.gA t.gn
 jS:mg "check_place"=some (.ref t.gA)
 j8:Binds K t.gn ["place","row"] []
 cY:Fun K "_law_cell" "_law_cell" jd t.jD t.js
 rP:mg "_law_cell"=some (.ref t.jD)
 sk:Binds K t.js ["_law_script","_law_k"] []
 aJ:Fun K "_law_mix" "_law_mix" kr t.kR t.kJ
 c7:mg "_law_mix"=some (.ref t.kR)
 c9:Binds K t.kJ ["_law_cell_here","_law_way"] []
 bh:Fun K "_law_whole" "_law_whole" gQ t.iB t.h9
 gZ:mg "_law_whole"=some (.ref t.iB)
 iw:Binds K t.h9 ["_law_found"] []
 cI:Fun K "_law_under" "_law_under" gR t.iC t.ic
 qh:mg "_law_under"=some (.ref t.iC)
 qQ:Binds K t.ic ["_law_rows","_law_box"] []
 aV:Fun K "_law_deep" "_law_deep" jc t.jC t.jr
 gh:mg "_law_deep"=some (.ref t.jC)
 gz:Binds K t.jr ["_law_facts","_law_box"] []
 bf:Fun K "name_of" "Tree.name_of" cB t.fG t.fE
 gX:rl K t.ae "name_of" t.fG
 iZ:Binds K t.fE ["self","box"] []
 bW:Fun K "marks_of" "Tree.marks_of" bK t.ff t.eY
 lH:rl K t.ae "marks_of" t.ff
 mU:Binds K t.eY ["self","box"] []
 aE:Fun K "holder_of" "Tree.holder_of" bG t.d5 t.dZ
 bP:rl K t.ae "holder_of" t.d5
 cA:Binds K t.dZ ["self","box"] []
 aM:Fun K "boxes_of" "Tree.boxes_of" bL t.fh t.eZ
 cW:rl K t.ae "boxes_of" t.fh
 dz:Binds K t.eZ ["self","box"] []
 bg:Fun K "check_name" "check_name" gP t.iA t.hZ
 gY:mg "check_name"=some (.ref t.iA)
 iu:Binds K t.hZ ["name"] []
 cu:Fun K "_law_name" "_law_name" jb t.jB t.jq
 mq:mg "_law_name"=some (.ref t.jB)
 mT:Binds K t.jq ["_law_cell_here","_law_way"] []
 aX:Fun K "_law_same_row" "_law_same_row" eQ t.fe t.eX
 g0:mg "_law_same_row"=some (.ref t.fe)
 iy:Binds K t.eX ["_law_found","_law_due"] []
 fj:Fun K "beneath" "beneath" l5 t.mY t.mO
 wV:mg "beneath"=some (.ref t.mY)
 yk:Binds K t.mO ["tree","box"] []
 cH:Fun K "holders_of" "holders_of" gO t.iz t.hW
 qg:mg "holders_of"=some (.ref t.iz)
 qP:Binds K t.hW ["tree","box"] []
 bX:Fun K "__init__" "Tree.__init__" bM t.fi t.fb
 CC:Mk K t.ae t.fi
 mV:Binds K t.fb ["self","name"] []
 cZ:Fun K "mark" "Tree.mark" dI t.jF t.ju
 qe:rl K t.ae "mark" t.jF
 sq:Binds K t.ju ["self","box","word"] []
 cf:Fun K "_law_stood" "_law_stood" cb t.de t.ie
 qj:mg "_law_stood"=some (.ref t.de)
 qR:Binds K t.ie ["_law_tree","_law_rows","_law_facts"] []
 bw:Fun K "depth_of" "depth_of" ko t.kP t.kH
 iN:mg "depth_of"=some (.ref t.kP)
 iQ:Binds K t.kH ["tree","box"] []
 eI:Fun K "put" "Tree.put" eE t.kS t.kK
 rN:rl K t.ae "put" t.kS
 uR:Binds K t.kK ["self","holder","place","name"] []
 dN:Fun K "move" "Tree.move" dH t.jE t.jt
 qd:rl K t.ae "move" t.jE
 so:Binds K t.jt ["self","box","holder","place"] []
 cQ:Fun K "_law_put" "_law_put" kq t.kQ t.kI
 uq:mg "_law_put"=some (.ref t.kQ)
 uQ:Binds K t.kI ["_law_tree","_law_rows","_law_facts","_law_number","_law_cell_here","_law_way"] []
 cg:Fun K "_law_moved" "_law_moved" gS t.iD t.ig
 qk:mg "_law_moved"=some (.ref t.iD)
 qT:Binds K t.ig ["_law_tree","_law_rows","_law_facts","_law_cell_here","_law_way"] []
 yo:Fun K "law" "law" t9 t.z9 t.uD
 JD:mg "law"=some (.ref t.z9)
 Lw:Binds K t.uD ["_law_script"] []
 u5:mg "all"=none
 nJ:mg "bool"=none
 eJ:mg "enumerate"=none
 u4:mg "int"=none
 bu:mg "isinstance"=none
 fI:mg "len"=none
 iS:mg "list"=none
 tW:mg "max"=none
 kg:mg "range"=none
 dG:mg "reversed"=none
 jG:mg "sorted"=none
 tV:mg "str"=none
 lb:∀ (s:Shared) (u:Value),BindsTo s t.uD ⟨[u],[]⟩ [("_law_script",u)]
 nG:mg "LONGEST_NAME"=some (.int 8 t.nH)
 ql:mg "MOST_BOXES"=some (.int 90 t.qr)
 mr:mg "MOST_DEEP"=some (.int 12 t.rS)
 E3:mg "ROOT"=some (.int 0 t.Fe)
section
variable {P:Program} {w:World} {K:W.Frag} {mg:Str->Option Value} {base:Heap} {t:Adr}
set_option maxHeartbeats 4000000
noncomputable def yn:DS :=
 (dX (sIf (uE (dT (bR zA (ao (aj 0) (ao (dC (.ty "str")) aY))))) (nA (dC (.bl false))) je)
 (dX (sIf (uE (dT (gI (dOp oLe (dC (.int 1)) (bR lN (ao (aj 0) aY))) (dOp oLe (bR lN (ao (aj 0) aY)) (dC (.int 8)))))) (nA (dC (.bl false))) je)
 (nA (bR J8 (ao (ph (xr (aj 0)) (gI (dOp Gg (dC (.str "a")) (aj 0)) (dOp Gg (aj 0) (dC (.str "z")))) []) aY)))))
noncomputable def fS:List D->Option Sl:=kB 1 1 (yn)
theorem ug (T:Txt K mg t):dg P w K mg base CX0 1 t.mX t.mN ["thing"] (spF (fS) K) :=
 gy T.fS t8 fun cdv A outer s H E hr =>
  (ax (fD (dR (fQ (aH uG rfl T.bu (by decide +kernel) (ab (aa 0) (ab (kO rfl T.tV (by decide +kernel)) ag))))) (az (bq dM)) c8)
  (ax (fD (dR (mP EM EM ar (aH kL rfl T.fI PySem.boot_len (ab (aa 0) ag)) (ir rfl T.nG (show RelV (.int 8) _ from ⟨_,rfl⟩) (fun _=>.int _)))) (az (bq dM)) c8)
  (az (bq (aH (JU rfl) rfl T.u5 (by decide +kernel) (ab (cU (j7 rfl (Df rfl (by decide +kernel) (by decide +kernel) (by decide +kernel) rfl) (yg (aa 0)) (fun _ _ _ _=>(uP EL EL lS (aa 0) lS)))) ag))))))
noncomputable def ls (t:Adr):DSm :=
 (aL (cz 3 (eS (dUn (nr t.ae "given") (aj 0))))
 (aL (jM t.ae "given" (aU 0) (eN (dOp gL (aj 3) (dC (.int 1)))))
 (aL (bH (ee t.ae "names" (aU 0)) (aj 3) (eN (aj 2)))
 (aL (bH (ee t.ae "holders" (aU 0)) (aj 3) (eN (aj 1)))
 (aL (bH (ee t.ae "boxes" (aU 0)) (aj 3) (eO (rZ aY)))
 (aL (bH (ee t.ae "marks" (aU 0)) (aj 3) eD0)
 (aL (bH (ee t.ae "words" (aU 0)) (aj 3) (eO (rZ aY)))
 (aL (bH (ee t.ae "rows" (aU 0)) (aj 3) (eN (C7 aY)))
 (fJ (eN (aj 3)))))))))))
noncomputable def cJ (t:Adr):List Sm->Option (Sm×List Sm):=q8 4 3 (ls t)
theorem jN (T:Txt K mg t):dg P w K mg base CX0 1 t.iE t.ij ["self","holder","name"] (spM (cJ t) K) :=
 qO T.cJ jK fun cdv A outer s H E hr =>
  (af (aN (i:=3) jK.nd rfl (Or.inl rfl) (av (k7 (cP T.ay T.gc (aa 0)))))
  (af (dS T.ay T.gc (aC 0) (av (bD (aF eR (aa 3) ar))))
  (af (bU (gj hr) (dt T.ay T.cO (aC 0)) (aa 3) (av (bD (aa 2))))
  (af (bU (gj hr) (dt T.ay T.cG (aC 0)) (aa 3) (av (bD (aa 1))))
  (af (bU (gj hr) (dt T.ay T.br (aC 0)) (aa 3) (av (tU (du ag))))
  (af (bU (gj hr) (dt T.ay T.dr (aC 0)) (aa 3) (av jz))
  (af (bU (gj hr) (dt T.ay T.jP (aC 0)) (aa 3) (av (tU (du ag))))
  (af (bU (gj hr) (dt T.ay T.kX (aC 0)) (aa 3) (av (bD (pA ag))))
  (aO (cT (av (bD (aa 3)))))))))))))
noncomputable def lu (t:Adr):DS :=
 (sIf (dT (dOp kF (aj 1) (dUn (nr t.ae "names") (aj 0)))) pU je)
noncomputable def aW (t:Adr):List D->Option Sl:=kB 2 2 (lu t)
theorem bI (T:Txt K mg t):dg P w K mg base CX0 1 t.iF t.il ["self","box"] (spF (aW t) K) :=
 gy T.aW oB fun cdv A outer s H E hr =>
  (az (fD (qH hr.units (aa 1) (cP T.ay T.cO (aa 0)) rfl) (az jw) c8))
noncomputable def ka (t:Adr):DS :=
 (nA (dOp yt (aj 1) (dUn (nr t.ae "names") (aj 0))))
noncomputable def cw (t:Adr):List D->Option Sl:=kB 2 2 (ka t)
theorem nD (T:Txt K mg t):dg P w K mg base CX0 1 t.gB t.gq ["self","box"] (spF (cw t) K) :=
 gy T.cw ny fun cdv A outer s H E hr =>
  (az (bq (z6 hr.units (aa 1) (cP T.ay T.cO (aa 0)) rfl)))
noncomputable def j9:DS :=
 (sIf (uE (dT (gI (dOp oLe (dC (.int 0)) (aj 0)) (dOp oLe (aj 0) (bR lN (ao (aj 1) aY)))))) pU je)
noncomputable def bt:List D->Option Sl:=kB 2 2 (j9)
theorem iV (T:Txt K mg t):dg P w K mg base CX0 1 t.gA t.gn ["place","row"] (spF (bt) K) :=
 gy T.bt nv fun cdv A outer s H E hr =>
  (az (fD (dR (mP EM EM ar (aa 0) (aH kL rfl T.fI PySem.boot_len (ab (aa 1) ag)))) (az jw) c8))
noncomputable def nc:DS :=
 (dX (sIf (dT (dOp oLt (aj 1) (bR lN (ao (aj 0) aY)))) (nA (dOp oIx (aj 0) (aj 1))) je)
 (nA (dC (.int 0))))
noncomputable def cY:List D->Option Sl:=kB 2 2 (nc)
theorem p5 (T:Txt K mg t):dg P w K mg base CX0 1 t.jD t.js ["_law_script","_law_k"] (spF (cY) K) :=
 gy T.cY pQ fun cdv A outer s H E hr =>
  (ax (fD (aI Il (aa 1) (aH kL rfl T.fI PySem.boot_len (ab (aa 0) ag)) (bz _)) (az (bq (cR (aa 0) (aa 1) (fun _ _=>rfl)))) c8)
  (az (bq ar)))
noncomputable def og:DS :=
 (dX (pE 2 (dOp oMod (dOp gL (dOp uX (aj 0) (dC (.int 48271))) (dOp uX (aj 1) (dC (.int 7919)))) (dC (.int 2147483647))))
 (nA (dOp oMod (dOp uX (aj 2) (dOp gL (dC (.int 16807)) (dOp uX (dC (.int 2)) (aj 1)))) (dC (.int 1000003)))))
noncomputable def aJ:List D->Option Sl:=kB 3 2 (og)
theorem cF (T:Txt K mg t):dg P w K mg base CX0 1 t.kR t.kJ ["_law_cell_here","_law_way"] (spF (aJ) K) :=
 gy T.aJ lX fun cdv A outer s H E hr =>
  (ax (dU (i:=2) lX.nd rfl (Or.inl rfl) (aF jO (aF eR (aF wF (aa 0) ar) (aF wF (aa 1) ar)) ar))
  (az (bq (aF jO (aF wF (aa 2) (aF eR ar (aF wF ar (aa 1)))) ar))))
noncomputable def qY:DS :=
 (nA (gI (bR zA (ao (aj 0) (ao (dC (.ty "int")) aY))) (C8 (bR zA (ao (aj 0) (ao (dC (.ty "bool")) aY))))))
noncomputable def bh:List D->Option Sl:=kB 1 1 (qY)
theorem fY (T:Txt K mg t):dg P w K mg base CX0 1 t.iB t.h9 ["_law_found"] (spF (bh) K) :=
 gy T.bh oA fun cdv A outer s H E hr =>
  (az (bq (lT (aH uG rfl T.bu (by decide +kernel) (ab (aa 0) (ab (kO rfl T.u4 (by decide +kernel)) ag))) (pB (z5 (aH uG rfl T.bu (by decide +kernel) (ab (aa 0) (ab (kO rfl T.nJ (by decide +kernel)) ag))))))))
noncomputable def lj (t:Adr):DS :=
 (dX (nz 2 (rZ aY))
 (dX (nz 3 (rZ (ao (aj 1) aY)))
 (dX (iT (A9 3 (dT (dOp oGt (bR lN (ao (aj 3) aY)) (dC (.int 0))))) (dX (oG 4 3)
 (dX (vA 2 (aj 4))
 (yF 3 (zW (dOp bC (aj 0) (aj 4)))))))
 (pT 2))))
noncomputable def cI (t:Adr):List D->Option Sl:=kB 5 2 (lj t)
theorem oR (T:Txt K mg t):dg P w K mg base CX0 1 t.iC t.ic ["_law_rows","_law_box"] (spF (cI t) K) :=
 gy T.cI d8 fun cdv A outer s H E hr =>
  (ax (fR (i:=2) d8.nd rfl (Or.inl rfl) (du ag))
  (ax (fR (i:=3) d8.nd rfl (Or.inl rfl) (du (ab (aa 1) ag)))
  (ax (gw PassesOwn.never (x3 3 (aI Ge (aH kL rfl T.fI PySem.boot_len (ab (aa 3) ag)) ar (bz _))) (ax (nW 4 3 d8.nd rfl (Or.inl rfl) rfl (Or.inl rfl))
  (ax (mR 2 rfl (Or.inl rfl) (aa 4))
  (az (qK 3 rfl (Or.inl rfl) (cU (pw rfl rfl T.iS (by decide +kernel) rfl T.dG (by decide +kernel) (ba hr.units (aa 0) (aa 4) (fun _ _=>rfl)))))))))
  (az (kN 2)))))
noncomputable def m3:DS :=
 (dX (pE 2 (dC (.int 0)))
 (dX (iT (dT (dOp nE (dOp oIx (dOp bC (aj 0) (aj 1)) (dC (.int 0))) (dC .non))) (dX (pE 1 (dOp oIx (dOp bC (aj 0) (aj 1)) (dC (.int 0))))
 (pE 2 (dOp gL (aj 2) (dC (.int 1))))))
 (nA (aj 2))))
noncomputable def aV:List D->Option Sl:=kB 3 2 (m3)
theorem fA (T:Txt K mg t):dg P w K mg base CX0 1 t.jC t.jr ["_law_facts","_law_box"] (spF (aV) K) :=
 gy T.aV ft fun cdv A outer s H E hr =>
  (ax (dU (i:=2) ft.nd rfl (Or.inl rfl) ar)
  (ax (gw PassesOwn.never (aI wD (cR (ba hr.units (aa 0) (aa 1) (fun _ _=>rfl)) ar (fun _ _=>rfl)) iP (bz _)) (ax (dU (i:=1) ft.nd rfl (Or.inl rfl) (cR (ba hr.units (aa 0) (aa 1) (fun _ _=>rfl)) ar (fun _ _=>rfl)))
  (az (dU (i:=2) ft.nd rfl (Or.inl rfl) (aF eR (aa 2) ar)))))
  (az (bq (aa 2)))))
noncomputable def i9 (t:Adr):DS :=
 (dX (oH (cS t.ae "check" (aW t) (aj 0) (ao (aj 1) aY)))
 (nA (dOp bC (dUn (nr t.ae "names") (aj 0)) (aj 1))))
noncomputable def bf (t:Adr):List D->Option Sl:=kB 2 2 (i9 t)
theorem gW (T:Txt K mg t):dg P w K mg base CX0 2 t.fG t.fE ["self","box"] (spF (bf t) K) :=
 gy T.bf lZ fun cdv A outer s H E hr =>
  (ax (iO (aZ (aa 0) T.ay T.bJ (bI T) (hr.mono (by decide)) T.cc (ab (aa 1) ag)))
  (az (bq (ba hr.units (cP T.ay T.cO (aa 0)) (aa 1) (fun _ _=>rfl)))))
noncomputable def iH (t:Adr):DS :=
 (dX (oH (cS t.ae "check" (aW t) (aj 0) (ao (aj 1) aY)))
 (ua (xQ (dOp bC (dUn (nr t.ae "marks") (aj 0)) (aj 1)))))
noncomputable def bW (t:Adr):List D->Option Sl:=kB 2 2 (iH t)
theorem lF (T:Txt K mg t):dg P w K mg base CX0 2 t.ff t.eY ["self","box"] (spF (bW t) K) :=
 gy T.bW lA fun cdv A outer s H E hr =>
  (ax (iO (aZ (aa 0) T.ay T.bJ (bI T) (hr.mono (by decide)) T.cc (ab (aa 1) ag)))
  (az (nV (z4 hr.hd rfl T.jG (ba hr.units (cP T.ay T.dr (aa 0)) (aa 1) (fun _ _=>rfl))))))
noncomputable def gH (t:Adr):DS :=
 (dX (oH (cS t.ae "check" (aW t) (aj 0) (ao (aj 1) aY)))
 (nA (dOp bC (dUn (nr t.ae "holders") (aj 0)) (aj 1))))
noncomputable def aE (t:Adr):List D->Option Sl:=kB 2 2 (gH t)
theorem bN (T:Txt K mg t):dg P w K mg base CX0 2 t.d5 t.dZ ["self","box"] (spF (aE t) K) :=
 gy T.aE kn fun cdv A outer s H E hr =>
  (ax (iO (aZ (aa 0) T.ay T.bJ (bI T) (hr.mono (by decide)) T.cc (ab (aa 1) ag)))
  (az (bq (ba hr.units (cP T.ay T.cG (aa 0)) (aa 1) (fun _ _=>rfl)))))
noncomputable def iI (t:Adr):DS :=
 (dX (oH (cS t.ae "check" (aW t) (aj 0) (ao (aj 1) aY)))
 (ua (bR wH (ao (dOp bC (dUn (nr t.ae "boxes") (aj 0)) (aj 1)) aY))))
noncomputable def aM (t:Adr):List D->Option Sl:=kB 2 2 (iI t)
theorem cV (T:Txt K mg t):dg P w K mg base CX0 2 t.fh t.eZ ["self","box"] (spF (aM t) K) :=
 gy T.aM lB fun cdv A outer s H E hr =>
  (ax (iO (aZ (aa 0) T.ay T.bJ (bI T) (hr.mono (by decide)) T.cc (ab (aa 1) ag)))
  (az (nV (yb rfl T.iS (by decide +kernel) (ab (ba hr.units (cP T.ay T.br (aa 0)) (aa 1) (fun _ _=>rfl)) ag)))))
noncomputable def lh:DS :=
 (sIf (uE (dT (dFn fS (ao (aj 0) aY)))) pU je)
noncomputable def bg:List D->Option Sl:=kB 1 1 (lh)
theorem fX (T:Txt K mg t):dg P w K mg base CX0 2 t.iA t.hZ ["name"] (spF (bg) K) :=
 gy T.bg oz fun cdv A outer s H E hr =>
  (az (fD (dR (fQ (aG (ug T) (hr.mono (by decide)) rfl T.wR T.fS.kp T.yj (ab (aa 0) ag)))) (az jw) c8))
noncomputable def mZ:DS :=
 (dX (pE 2 (dC (.str "abcdefghijklmnopqrstuvwxyz")))
 (dX (pE 3 (dOp gL (dC (.int 1)) (dOp oMod (dFn aJ (ao (aj 0) (ao (dOp gL (aj 1) (dC (.int 3))) aY))) (dC (.int 8)))))
 (nA (xR (dC (.str "")) (ph (mG (ao (aj 3) aY)) (dOp oIx (aj 1) (dOp oMod (dFn aJ (ao (aj 2) (ao (dOp gL (aj 3) (dOp uX (dC (.int 5)) (aj 0))) aY))) (dC (.int 26)))) [("_law_letters",2),("_law_cell_here",0),("_law_way",1)])))))
noncomputable def cu:List D->Option Sl:=kB 4 2 (mZ)
theorem kW (T:Txt K mg t):dg P w K mg base CX0 2 t.jB t.jq ["_law_cell_here","_law_way"] (spF (cu) K) :=
 gy T.cu gM fun cdv A outer s H E hr =>
  (ax (dU (i:=2) gM.nd rfl (Or.inr rfl) lS)
  (ax (dU (i:=3) gM.nd rfl (Or.inl rfl) (aF eR ar (aF jO (aG (cF T) (hr.mono (by decide)) rfl T.c7 T.aJ.kp T.c9 (ab (aa 0) (ab (aF eR (aa 1) ar) ag))) ar)))
  (az (bq (yi lS (cU (j7 rfl (jv [("_law_letters",2),("_law_cell_here",0),("_law_way",1)] rfl rfl rfl rfl rfl (⟨rfl,rfl,rfl,trivial⟩) rfl (⟨⟨rfl,rfl,rfl⟩,⟨rfl,rfl,rfl⟩,⟨rfl,rfl,rfl⟩,trivial⟩) (by decide +kernel)) (k8 rfl T.kg (ab (aa 3) ag)) (fun _ _ _ _=>(cR (aa 1) (aF jO (aG (cF T) (hr.mono (by decide)) rfl T.c7 T.aJ.kp T.c9 (ab (aa 2) (ab (aF eR (aa 3) (aF wF ar (aa 0))) ag))) ar) (fun _ _=>rfl))))))))))
noncomputable def iG:DS :=
 (dX (sIf (dOr (uE (dT (bR zA (ao (aj 0) (ao (dC (.ty "list")) aY))))) (dT (dOp oNe (bR lN (ao (aj 0) aY)) (bR lN (ao (aj 1) aY))))) (nA (dC (.bl false))) je)
 (dX (Ds (mG (ao (bR lN (ao (aj 1) aY)) aY)) (gN 2) (sIf (dOr (uE (dT (dFn bh (ao (dOp oIx (aj 0) (aj 2)) aY)))) (dT (dOp oNe (dOp oIx (aj 0) (aj 2)) (dOp oIx (aj 1) (aj 2))))) (nA (dC (.bl false))) je))
 (nA (dC (.bl true)))))
noncomputable def aX:List D->Option Sl:=kB 3 2 (iG)
theorem gF (T:Txt K mg t):dg P w K mg base CX0 2 t.fe t.eX ["_law_found","_law_due"] (spF (aX) K) :=
 gy T.aX gD fun cdv A outer s H E hr =>
  (ax (fD (fc (gs (dR (fQ (aH uG rfl T.bu (by decide +kernel) (ab (aa 0) (ab (kO rfl T.iS (by decide +kernel)) ag))))) (fP (aI (Av hr.units) (aH kL rfl T.fI PySem.boot_len (ab (aa 0) ag)) (aH kL rfl T.fI PySem.boot_len (ab (aa 1) ag)) (bz _))))) (az (bq dM)) c8)
  (ax (ya PassesOwn.never rfl (k8 rfl T.kg (ab (aH kL rfl T.fI PySem.boot_len (ab (aa 1) ag)) ag)) (uO (i:=2) gD.nd rfl (Or.inl rfl)) (az (fD (fc (gs (dR (fQ (aG (fY T) (hr.mono (by decide)) rfl T.gZ T.bh.kp T.iw (ab (cR (aa 0) (aa 2) (fun _ _=>rfl)) ag)))) (fP (aI (Av hr.units) (cR (aa 0) (aa 2) (fun _ _=>rfl)) (cR (aa 1) (aa 2) (fun _ _=>rfl)) (bz _))))) (az (bq dM)) c8)))
  (az (bq dM))))
noncomputable def qW (t:Adr):DS :=
 (dX (nz 2 (rZ aY))
 (dX (nz 3 (zW (cS t.ae "boxes_of" (aM t) (aj 0) (ao (aj 1) aY))))
 (dX (iT (xP 3) (dX (oG 4 3)
 (dX (vA 2 (aj 4))
 (yF 3 (zW (cS t.ae "boxes_of" (aM t) (aj 0) (ao (aj 4) aY)))))))
 (pT 2))))
noncomputable def fj (t:Adr):List D->Option Sl:=kB 5 2 (qW t)
theorem uh (T:Txt K mg t):dg P w K mg base CX0 3 t.mY t.mO ["tree","box"] (spF (fj t) K) :=
 gy T.fj iL fun cdv A outer s H E hr =>
  (ax (fR (i:=2) iL.nd rfl (Or.inl rfl) (du ag))
  (ax (fR (i:=3) iL.nd rfl (Or.inl rfl) (pw rfl rfl T.iS (by decide +kernel) rfl T.dG (by decide +kernel) (aZ (aa 0) T.ay T.cW (cV T) (hr.mono (by decide)) T.dz (ab (aa 1) ag))))
  (ax (gw PassesOwn.never (uJ 3) (ax (nW 4 3 iL.nd rfl (Or.inl rfl) rfl (Or.inl rfl))
  (ax (mR 2 rfl (Or.inl rfl) (aa 4))
  (az (qK 3 rfl (Or.inl rfl) (cU (pw rfl rfl T.iS (by decide +kernel) rfl T.dG (by decide +kernel) (aZ (aa 0) T.ay T.cW (cV T) (hr.mono (by decide)) T.dz (ab (aa 4) ag)))))))))
  (az (kN 2)))))
noncomputable def lg (t:Adr):DS :=
 (dX (nz 2 (rZ aY))
 (dX (pE 3 (cS t.ae "holder_of" (aE t) (aj 0) (ao (aj 1) aY)))
 (dX (iT (dT (dOp nE (aj 3) (dC .non))) (dX (vA 2 (aj 3))
 (pE 3 (cS t.ae "holder_of" (aE t) (aj 0) (ao (aj 3) aY)))))
 (pT 2))))
noncomputable def cH (t:Adr):List D->Option Sl:=kB 4 2 (lg t)
theorem oP (T:Txt K mg t):dg P w K mg base CX0 3 t.iz t.hW ["tree","box"] (spF (cH t) K) :=
 gy T.cH d7 fun cdv A outer s H E hr =>
  (ax (fR (i:=2) d7.nd rfl (Or.inl rfl) (du ag))
  (ax (dU (i:=3) d7.nd rfl (Or.inl rfl) (aZ (aa 0) T.ay T.bP (bN T) (hr.mono (by decide)) T.cA (ab (aa 1) ag)))
  (ax (gw PassesOwn.never (aI wD (aa 3) iP (bz _)) (ax (mR 2 rfl (Or.inl rfl) (aa 3))
  (az (dU (i:=3) d7.nd rfl (Or.inl rfl) (aZ (aa 0) T.ay T.bP (bN T) (hr.mono (by decide)) T.cA (ab (aa 3) ag))))))
  (az (kN 2)))))
noncomputable def iJ (t:Adr):DSm :=
 (aL (fL (dFn bg (ao (aj 1) aY)))
 (aL (jM t.ae "given" (aU 0) (eN (dC (.int 0))))
 (aL (jM t.ae "names" (aU 0) eD0)
 (aL (jM t.ae "holders" (aU 0) eD0)
 (aL (jM t.ae "boxes" (aU 0) eD0)
 (aL (jM t.ae "marks" (aU 0) eD0)
 (aL (jM t.ae "words" (aU 0) eD0)
 (aL (jM t.ae "rows" (aU 0) eD0)
 (l6 (eM t.ae "enter" (cJ t) (aU 0) (aP (qN (dC .non)) (aP (qN (aj 1)) jA))))))))))))
noncomputable def bX (t:Adr):List Sm->Option (Sm×List Sm):=q8 2 2 (iJ t)
theorem lG (T:Txt K mg t):dg P w K mg base CX0 3 t.fi t.fb ["self","name"] (spM (bX t) K) :=
 qO T.bX lC fun cdv A outer s H E hr =>
  (af (cq (aG (fX T) (hr.mono (by decide)) rfl T.gY T.bg.kp T.iu (ab (aa 1) ag)))
  (af (dS T.ay T.gc (aC 0) (av (bD ar)))
  (af (dS T.ay T.cO (aC 0) (av jz))
  (af (dS T.ay T.cG (aC 0) (av jz))
  (af (dS T.ay T.br (aC 0) (av jz))
  (af (dS T.ay T.dr (aC 0) (av jz))
  (af (dS T.ay T.jP (aC 0) (av jz))
  (af (dS T.ay T.kX (aC 0) (av jz))
  (aO (nU (ip (aC 0) T.ay T.jR (jN T) (hr.mono (by decide)) T.k9 (aD (dW iP) (aD (dW (aa 1)) dw)))))))))))))
noncomputable def ng (t:Adr):DSm :=
 (aL (fL (cS t.ae "check" (aW t) (aj 0) (ao (aj 1) aY)))
 (aL (fL (dFn bg (ao (aj 2) aY)))
 (aL (lE (tS (dT (dOp yt (aj 2) (dOp bC (dUn (nr t.ae "marks") (aj 0)) (aj 1)))))
 (fJ (eN (dC (.bl false))))
 dk)
 (aL (bH (nB (ee t.ae "marks" (aU 0)) (aj 1)) (aj 2) (eN (dC (.bl true))))
 (fJ (eN (dC (.bl true))))))))
noncomputable def cZ (t:Adr):List Sm->Option (Sm×List Sm):=q8 3 3 (ng t)
theorem p7 (T:Txt K mg t):dg P w K mg base CX0 3 t.jF t.ju ["self","box","word"] (spM (cZ t) K) :=
 qO T.cZ pR fun cdv A outer s H E hr =>
  (af (cq (aZ (aa 0) T.ay T.bJ (bI T) (hr.mono (by decide)) T.cc (ab (aa 1) ag)))
  (af (cq (aG (fX T) (hr.mono (by decide)) rfl T.gY T.bg.kp T.iu (ab (aa 2) ag)))
  (af (cX (fF (xZ hr.units (aa 2) (ba hr.units (cP T.ay T.dr (aa 0)) (aa 1) (fun _ _=>rfl)) rfl))
  (aO (cT (av (bD dM))))
  bT)
  (af (bU (gj hr) (j4 (gj hr) (dt T.ay T.dr (aC 0)) (aa 1) (fun _ _=>rfl)) (aa 2) (av (bD dM)))
  (aO (cT (av (bD dM))))))))
noncomputable def oa (t:Adr):DS :=
 (nA (bR lN (ao (dFn (cH t) (ao (aj 0) (ao (aj 1) aY))) aY)))
noncomputable def bw (t:Adr):List D->Option Sl:=kB 2 2 (oa t)
theorem fW (T:Txt K mg t):dg P w K mg base CX0 4 t.kP t.kH ["tree","box"] (spF (bw t) K) :=
 gy T.bw ro fun cdv A outer s H E hr =>
  (az (bq (aH kL rfl T.fI PySem.boot_len (ab (aG (oP T) (hr.mono (by decide)) rfl T.qg T.cH.kp T.qP (ab (aa 0) (ab (aa 1) ag))) ag))))
noncomputable def oi (t:Adr):DSm :=
 (aL (fL (cS t.ae "check" (aW t) (aj 0) (ao (aj 1) aY)))
 (aL (fL (dFn bt (ao (aj 2) (ao (dOp bC (dUn (nr t.ae "boxes") (aj 0)) (aj 1)) aY))))
 (aL (fL (dFn bg (ao (aj 3) aY)))
 (aL (lE (tS (dT (dOp oGt (dOp gL (bR mi (ao (dUn (nr t.ae "names") (aj 0)) aY)) (dC (.int 1))) (dC (.int 90)))))
 kA
 dk)
 (aL (lE (tS (dT (dOp oGt (dOp gL (dFn (bw t) (ao (aj 0) (ao (aj 1) aY))) (dC (.int 1))) (dC (.int 12)))))
 kA
 dk)
 (aL (cz 4 (eM t.ae "enter" (cJ t) (aU 0) (aP (qN (aj 1)) (aP (qN (aj 3)) jA))))
 (aL (pV (nB (ee t.ae "boxes" (aU 0)) (aj 1)) (aj 2) (eN (aj 4)))
 (fJ (eN (aj 4))))))))))
noncomputable def eI (t:Adr):List Sm->Option (Sm×List Sm):=q8 5 4 (oi t)
theorem rH (T:Txt K mg t):dg P w K mg base CX0 5 t.kS t.kK ["self","holder","place","name"] (spM (eI t) K) :=
 qO T.eI lY fun cdv A outer s H E hr =>
  (af (cq (aZ (aa 0) T.ay T.bJ (bI T) (hr.mono (by decide)) T.cc (ab (aa 1) ag)))
  (af (cq (aG (iV T) (hr.mono (by decide)) rfl T.jS T.bt.kp T.j8 (ab (aa 2) (ab (ba hr.units (cP T.ay T.br (aa 0)) (aa 1) (fun _ _=>rfl)) ag))))
  (af (cq (aG (fX T) (hr.mono (by decide)) rfl T.gY T.bg.kp T.iu (ab (aa 3) ag)))
  (af (cX (fF (aI Ge (aF eR (aH xU rfl T.fI PySem.boot_len (ab (cP T.ay T.cO (aa 0)) ag)) ar) (ir rfl T.ql (show RelV (.int 90) _ from ⟨_,rfl⟩) (fun _=>.int _)) (bz _)))
  (aO gu)
  bT)
  (af (cX (fF (aI Ge (aF eR (aG (fW T) (hr.mono (by decide)) rfl T.iN T.bw.kp T.iQ (ab (aa 0) (ab (aa 1) ag))) ar) (ir rfl T.mr (show RelV (.int 12) _ from ⟨_,rfl⟩) (fun _=>.int _)) (bz _)))
  (aO gu)
  bT)
  (af (aN (i:=4) lY.nd rfl (Or.inl rfl) (ip (aC 0) T.ay T.jR (jN T) (hr.mono (by decide)) T.k9 (aD (dW (aa 1)) (aD (dW (aa 3)) dw))))
  (af (j5 (j4 (gj hr) (dt T.ay T.br (aC 0)) (aa 1) (fun _ _=>rfl)) (aa 2) (bD (aa 4)))
  (aO (cT (av (bD (aa 4))))))))))))
noncomputable def gC (t:Adr):DSm :=
 (aL (fL (cS t.ae "check" (aW t) (aj 0) (ao (aj 1) aY)))
 (aL (fL (cS t.ae "check" (aW t) (aj 0) (ao (aj 2) aY)))
 (aL (cz 4 (eF (C9 (fj t) (ao (aj 0) (ao (aj 1) aY)))))
 (aL (lE (tS (dOr (dT (dOp oEq (aj 1) (dC (.int 0)))) (dOr (dT (dOp oEq (aj 2) (aj 1))) (dT (dOp Gh (aj 2) (aj 4))))))
 kA
 dk)
 (aL (cz 5 (eO (iX (zM (dOp bC (dUn (nr t.ae "boxes") (aj 0)) (aj 2))) (dT (dOp oNe (aj 0) (aj 1))) (aj 0) [("box",1)])))
 (aL (fL (dFn bt (ao (aj 3) (ao (aj 5) aY))))
 (aL (cz 6 (eS (bR uj (ao (ph (zM (dOp gL (rZ (ao (aj 1) aY)) (aj 4))) (dFn (bw t) (ao (aj 1) (ao (aj 0) aY))) [("self",0)]) aY))))
 (aL (lE (tS (dT (dOp oGt (dOp Dt (dOp gL (dOp gL (dFn (bw t) (ao (aj 0) (ao (aj 2) aY))) (dC (.int 1))) (aj 6)) (dFn (bw t) (ao (aj 0) (ao (aj 1) aY)))) (dC (.int 12)))))
 kA
 dk)
 (aL (pV (aU 5) (aj 3) (eN (aj 1)))
 (aL (lE (tS (dT (dOp oEq (aj 5) (dOp bC (dUn (nr t.ae "boxes") (aj 0)) (aj 2)))))
 (fJ (eN (dC (.bl false))))
 dk)
 (aL (rA (nB (ee t.ae "boxes" (aU 0)) (dOp bC (dUn (nr t.ae "holders") (aj 0)) (aj 1))) (aj 1))
 (aL (bH (ee t.ae "boxes" (aU 0)) (aj 2) (eV 5))
 (aL (bH (ee t.ae "holders" (aU 0)) (aj 1) (eN (aj 2)))
 (fJ (eN (dC (.bl true)))))))))))))))))
noncomputable def dN (t:Adr):List Sm->Option (Sm×List Sm):=q8 7 4 (gC t)
theorem p6 (T:Txt K mg t):dg P w K mg base CX0 5 t.jE t.jt ["self","box","holder","place"] (spM (dN t) K) :=
 qO T.dN fu fun cdv A outer s H E hr =>
  (af (cq (aZ (aa 0) T.ay T.bJ (bI T) (hr.mono (by decide)) T.cc (ab (aa 1) ag)))
  (af (cq (aZ (aa 0) T.ay T.bJ (bI T) (hr.mono (by decide)) T.cc (ab (aa 2) ag)))
  (af (aN (i:=4) fu.nd rfl (Or.inl rfl) (av (ye (qL (uh T) (hr.mono (by decide)) rfl T.wV T.fj.kp T.yk (ab (aa 0) (ab (aa 1) ag))))))
  (af (cX (fF (fc (gs (aI (yr hr.units) (aa 1) (ir rfl T.E3 (show RelV (.int 0) _ from ⟨_,rfl⟩) (fun _=>.int _)) (bz _)) (gs (aI (yr hr.units) (aa 2) (aa 1) (bz _)) (fP (aI Io (aa 2) (aa 4) rfl))))))
  (aO gu)
  bT)
  (af (mQ (i:=5) fu.nd rfl (Or.inl rfl) rfl (jv [("box",1)] rfl rfl rfl rfl rfl (⟨rfl,trivial⟩) rfl (⟨⟨rfl,rfl,rfl⟩,trivial⟩) (by decide +kernel)) (iq (ba hr.units (cP T.ay T.br (aa 0)) (aa 2) (fun _ _=>rfl))) (fun _ _ _ _=>(aI (Av hr.units) (aa 0) (aa 1) (bz _))) (fun _ _ _ _=>(aa 0)))
  (af (cq (aG (iV T) (hr.mono (by decide)) rfl T.jS T.bt.kp T.j8 (ab (aa 3) (ab (aa 5) ag))))
  (af (aN (i:=6) fu.nd rfl (Or.inl rfl) (av (k7 (aH (AU rfl) rfl T.tW (by decide +kernel) (ab (cU (j7 rfl (jv [("self",0)] rfl rfl rfl rfl rfl (⟨rfl,trivial⟩) rfl (⟨⟨rfl,rfl,rfl⟩,trivial⟩) (by decide +kernel)) (iq (aF eR (cU (du (ab (aa 1) ag))) (aa 4))) (fun _ _ _ _=>(aG (fW T) (hr.mono (by decide)) rfl T.iN T.bw.kp T.iQ (ab (aa 1) (ab (aa 0) ag)))))) ag)))))
  (af (cX (fF (aI Ge (aF Cm (aF eR (aF eR (aG (fW T) (hr.mono (by decide)) rfl T.iN T.bw.kp T.iQ (ab (aa 0) (ab (aa 2) ag))) ar) (aa 6)) (aG (fW T) (hr.mono (by decide)) rfl T.iN T.bw.kp T.iQ (ab (aa 0) (ab (aa 1) ag)))) (ir rfl T.mr (show RelV (.int 12) _ from ⟨_,rfl⟩) (fun _=>.int _)) (bz _)))
  (aO gu)
  bT)
  (af (j5 (aC 5) (aa 3) (bD (aa 1)))
  (af (cX (fF (aI (yr hr.units) (aa 5) (ba hr.units (cP T.ay T.br (aa 0)) (aa 2) (fun _ _=>rfl)) (bz _)))
  (aO (cT (av (bD dM))))
  bT)
  (af (qJ (j4 (gj hr) (dt T.ay T.br (aC 0)) (ba hr.units (cP T.ay T.cG (aa 0)) (aa 1) (fun _ _=>rfl)) (fun _ _=>rfl)) (aa 1))
  (af (bU (gj hr) (dt T.ay T.br (aC 0)) (aa 2) (av (FV 5)))
  (af (bU (gj hr) (dt T.ay T.cG (aC 0)) (aa 1) (av (bD (aa 2))))
  (aO (cT (av (bD dM)))))))))))))))))
noncomputable def oe (t:Adr):DSm :=
 (aL (sJ 6 1 (dT (dOp oLt (dFn aV (ao (aj 1) (ao (aj 0) aY))) (dC (.int 12)))) (aj 0) [("_law_facts",2)])
 (aL (cz 7 (eN (dFn aJ (ao (aj 4) (ao (aj 5) aY)))))
 (aL (cz 8 (eN (dOp oIx (aj 6) (dUn Gf (dC (.int 1))))))
 (aL (lE (tS (dT (dOp oEq (dOp oMod (aj 7) (dC (.int 2))) (dC (.int 0)))))
 (cz 8 (eN (dOp oIx (aj 6) (dOp oMod (dOp oDiv (aj 7) (dC (.int 2))) (bR lN (ao (aj 6) aY))))))
 dk)
 (aL (cz 9 (eS (dOp oMod (dFn aJ (ao (aj 4) (ao (dOp gL (aj 5) (dC (.int 1))) aY))) (dOp gL (bR lN (ao (dOp bC (aj 1) (aj 8)) aY)) (dC (.int 1))))))
 (aL (cz 10 (eN (dFn cu (ao (aj 4) (ao (dOp gL (aj 5) (dC (.int 2))) aY)))))
 (aL (cz 11 (eM t.ae "put" (eI t) (aU 0) (aP (qN (aj 8)) (aP (qN (aj 9)) (aP (qN (aj 10)) jA)))))
 (aL (pV (nB (aU 1) (aj 8)) (aj 9) (eN (aj 3)))
 (aL (bH (aU 1) (aj 3) (eO (rZ aY)))
 (aL (bH (aU 2) (aj 3) (eN (C7 (ao (aj 8) (ao (aj 10) aY)))))
 (fJ (eN (gI (dFn bh (ao (aj 11) aY)) (dOp oEq (aj 11) (aj 3)))))))))))))))
noncomputable def cQ (t:Adr):List Sm->Option (Sm×List Sm):=q8 12 6 (oe t)
theorem rG (T:Txt K mg t):dg P w K mg base CX0 6 t.kQ t.kI ["_law_tree","_law_rows","_law_facts","_law_number","_law_cell_here","_law_way"] (spM (cQ t) K) :=
 qO T.cQ cE fun cdv A outer s H E hr =>
  (af (sj (i:=1) (j:=6) cE.nd rfl (Or.inl rfl) rfl (Or.inl rfl) rfl (jv [("_law_facts",2)] rfl rfl rfl rfl rfl (⟨rfl,trivial⟩) rfl (⟨⟨rfl,rfl,rfl⟩,trivial⟩) (by decide +kernel)) (fun _ _ _ _=>(aI Il (aG (fA T) (hr.mono (by decide)) rfl T.gh T.aV.kp T.gz (ab (aa 1) (ab (aa 0) ag))) ar (bz _))) (fun _ _ _ _=>(aa 0)))
  (af (aN (i:=7) cE.nd rfl (Or.inl rfl) (av (bD (aG (cF T) (hr.mono (by decide)) rfl T.c7 T.aJ.kp T.c9 (ab (aa 4) (ab (aa 5) ag))))))
  (af (aN (i:=8) cE.nd rfl (Or.inl rfl) (av (bD (cR (aa 6) (Dh Ik ar) (fun _ _=>rfl)))))
  (af (cX (fF (aI (yr hr.units) (aF jO (aa 7) ar) ar (bz _)))
  (aO (aN (i:=8) cE.nd rfl (Or.inl rfl) (av (bD (cR (aa 6) (aF jO (aF EN (aa 7) ar) (aH kL rfl T.fI PySem.boot_len (ab (aa 6) ag))) (fun _ _=>rfl))))))
  bT)
  (af (aN (i:=9) cE.nd rfl (Or.inl rfl) (av (k7 (aF jO (aG (cF T) (hr.mono (by decide)) rfl T.c7 T.aJ.kp T.c9 (ab (aa 4) (ab (aF eR (aa 5) ar) ag))) (aF eR (aH kL rfl T.fI PySem.boot_len (ab (ba hr.units (aa 1) (aa 8) (fun _ _=>rfl)) ag)) ar)))))
  (af (aN (i:=10) cE.nd rfl (Or.inl rfl) (av (bD (aG (kW T) (hr.mono (by decide)) rfl T.mq T.cu.kp T.mT (ab (aa 4) (ab (aF eR (aa 5) ar) ag))))))
  (af (aN (i:=11) cE.nd rfl (Or.inl rfl) (ip (aC 0) T.ay T.rN (rH T) (hr.mono (by decide)) T.uR (aD (dW (aa 8)) (aD (dW (aa 9)) (aD (dW (aa 10)) dw)))))
  (af (j5 (j4 (gj hr) (aC 1) (aa 8) (fun _ _=>rfl)) (aa 9) (bD (aa 3)))
  (af (bU (gj hr) (aC 1) (aa 3) (av (tU (du ag))))
  (af (bU (gj hr) (aC 2) (aa 3) (av (bD (pA (ab (aa 8) (ab (aa 10) ag))))))
  (aO (cT (av (bD (lT (aG (fY T) (hr.mono (by decide)) rfl T.gZ T.bh.kp T.iw (ab (aa 11) ag)) (pB (pC (yr hr.units) (aa 11) (aa 3) (bz _))))))))))))))))))
noncomputable def lq (t:Adr):DSm :=
 (aL (cz 5 (eF (tM (aj 1))))
 (aL (cz 6 (eN (dOp oIx (aj 5) (dOp gL (dC (.int 1)) (dOp oMod (dFn aJ (ao (aj 3) (ao (aj 4) aY))) (dOp Dt (bR lN (ao (aj 5) aY)) (dC (.int 1))))))))
 (aL (cz 7 (eF (C9 (cI t) (ao (aj 1) (ao (aj 6) aY)))))
 (aL (cz 8 (eS (dOp Dt (bR uj (ao (ph (zM (aj 7)) (dFn aV (ao (aj 1) (ao (aj 0) aY))) [("_law_facts",2)]) aY)) (dFn aV (ao (aj 2) (ao (aj 6) aY))))))
 (aL (cz 9 (eF (iX (zM (aj 5)) (FO (dT (dOp mh (aj 0) (aj 1))) (dT (dOp oLe (dOp gL (dOp gL (dFn aV (ao (aj 3) (ao (aj 0) aY))) (dC (.int 1))) (aj 2)) (dC (.int 12))))) (aj 0) [("_law_under_here",7),("_law_tall",8),("_law_facts",2)])))
 (aL (cz 10 (eN (dFn aJ (ao (aj 3) (ao (dOp gL (aj 4) (dC (.int 1))) aY)))))
 (aL (cz 11 (eN (dOp oIx (aj 9) (dOp oMod (dOp oDiv (aj 10) (dC (.int 3))) (bR lN (ao (aj 9) aY))))))
 (aL (lE (tS (dT (dOp oEq (dOp oMod (aj 10) (dC (.int 3))) (dC (.int 0)))))
 (cz 11 (eS (dOp oIx (dOp bC (aj 2) (aj 6)) (dC (.int 0)))))
 dk)
 (aL (cz 12 (eO (iX (zM (dOp bC (aj 1) (aj 11))) (dT (dOp oNe (aj 0) (aj 1))) (aj 0) [("_law_box",6)])))
 (aL (cz 13 (eS (dOp oMod (dFn aJ (ao (aj 3) (ao (dOp gL (aj 4) (dC (.int 2))) aY))) (dOp gL (bR lN (ao (aj 12) aY)) (dC (.int 1))))))
 (aL (pV (aU 12) (aj 13) (eN (aj 6)))
 (aL (cz 14 (eS (dOp oNe (aj 12) (dOp bC (aj 1) (aj 11)))))
 (aL (cz 15 (eM t.ae "move" (dN t) (aU 0) (aP (qN (aj 6)) (aP (qN (aj 11)) (aP (qN (aj 13)) jA)))))
 (aL (rA (nB (aU 1) (dOp oIx (dOp bC (aj 2) (aj 6)) (dC (.int 0)))) (aj 6))
 (qV 1 12 (aj 11) 2 (aj 6) (ao (aj 11) (ao (dOp oIx (dOp bC (aj 2) (aj 6)) (dC (.int 1))) aY)) (gI (bR zA (ao (aj 15) (ao (dC (.ty "bool")) aY))) (gI (dOp oEq (aj 15) (aj 14)) (dFn aX (ao (cS t.ae "boxes_of" (aM t) (aj 0) (ao (aj 11) aY)) (ao (aj 12) aY))))))))))))))))))))
noncomputable def cg (t:Adr):List Sm->Option (Sm×List Sm):=q8 16 5 (lq t)
theorem oT (T:Txt K mg t):dg P w K mg base CX0 6 t.iD t.ig ["_law_tree","_law_rows","_law_facts","_law_cell_here","_law_way"] (spM (cg t) K) :=
 qO T.cg aT fun cdv A outer s H E hr =>
  (af (aN (i:=5) aT.nd rfl (Or.inl rfl) (av (ye (uK hr.hd rfl T.iS (by decide +kernel) (aa 1)))))
  (af (aN (i:=6) aT.nd rfl (Or.inr rfl) (av (bD (cR (aa 5) (aF eR ar (aF jO (aG (cF T) (hr.mono (by decide)) rfl T.c7 T.aJ.kp T.c9 (ab (aa 3) (ab (aa 4) ag))) (aF Cm (aH kL rfl T.fI PySem.boot_len (ab (aa 5) ag)) ar))) (fun _ _=>rfl)))))
  (af (aN (i:=7) aT.nd rfl (Or.inr rfl) (av (ye (qL (oR T) (hr.mono (by decide)) rfl T.qh T.cI.kp T.qQ (ab (aa 1) (ab (aa 6) ag))))))
  (af (aN (i:=8) aT.nd rfl (Or.inr rfl) (av (k7 (aF Cm (aH (AU rfl) rfl T.tW (by decide +kernel) (ab (cU (j7 rfl (jv [("_law_facts",2)] rfl rfl rfl rfl rfl (⟨rfl,trivial⟩) rfl (⟨⟨rfl,rfl,rfl⟩,trivial⟩) (by decide +kernel)) (iq (aa 7)) (fun _ _ _ _=>(aG (fA T) (hr.mono (by decide)) rfl T.gh T.aV.kp T.gz (ab (aa 1) (ab (aa 0) ag)))))) ag)) (aG (fA T) (hr.mono (by decide)) rfl T.gh T.aV.kp T.gz (ab (aa 2) (ab (aa 6) ag)))))))
  (af (qI (i:=9) aT.nd rfl (Or.inl rfl) rfl (jv [("_law_under_here",7),("_law_tall",8),("_law_facts",2)] rfl rfl rfl rfl rfl (⟨rfl,rfl,rfl,trivial⟩) rfl (⟨⟨rfl,rfl,rfl⟩,⟨rfl,rfl,rfl⟩,⟨rfl,rfl,rfl⟩,trivial⟩) (by decide +kernel)) (iq (aa 5)) (fun _ _ _ _=>(fc (xY (aI zy (aa 0) (aa 1) rfl) (uI (aI EM (aF eR (aF eR (aG (fA T) (hr.mono (by decide)) rfl T.gh T.aV.kp T.gz (ab (aa 3) (ab (aa 0) ag))) ar) (aa 2)) ar (bz _)))))) (fun _ _ _ _=>(aa 0)))
  (af (aN (i:=10) aT.nd rfl (Or.inl rfl) (av (bD (aG (cF T) (hr.mono (by decide)) rfl T.c7 T.aJ.kp T.c9 (ab (aa 3) (ab (aF eR (aa 4) ar) ag))))))
  (af (aN (i:=11) aT.nd rfl (Or.inl rfl) (av (bD (cR (aa 9) (aF jO (aF EN (aa 10) ar) (aH kL rfl T.fI PySem.boot_len (ab (aa 9) ag))) (fun _ _=>rfl)))))
  (af (cX (fF (aI (yr hr.units) (aF jO (aa 10) ar) ar (bz _)))
  (aO (aN (i:=11) aT.nd rfl (Or.inl rfl) (av (k7 (cR (ba hr.units (aa 2) (aa 6) (fun _ _=>rfl)) ar (fun _ _=>rfl))))))
  bT)
  (af (mQ (i:=12) aT.nd rfl (Or.inl rfl) rfl (jv [("_law_box",6)] rfl rfl rfl rfl rfl (⟨rfl,trivial⟩) rfl (⟨⟨rfl,rfl,rfl⟩,trivial⟩) (by decide +kernel)) (iq (ba hr.units (aa 1) (aa 11) (fun _ _=>rfl))) (fun _ _ _ _=>(aI (Av hr.units) (aa 0) (aa 1) (bz _))) (fun _ _ _ _=>(aa 0)))
  (af (aN (i:=13) aT.nd rfl (Or.inl rfl) (av (k7 (aF jO (aG (cF T) (hr.mono (by decide)) rfl T.c7 T.aJ.kp T.c9 (ab (aa 3) (ab (aF eR (aa 4) ar) ag))) (aF eR (aH kL rfl T.fI PySem.boot_len (ab (aa 12) ag)) ar)))))
  (af (j5 (aC 12) (aa 13) (bD (aa 6)))
  (af (aN (i:=14) aT.nd rfl (Or.inl rfl) (av (k7 (pC (Av hr.units) (aa 12) (ba hr.units (aa 1) (aa 11) (fun _ _=>rfl)) (bz _)))))
  (af (aN (i:=15) aT.nd rfl (Or.inl rfl) (ip (aC 0) T.ay T.qd (p6 T) (hr.mono (by decide)) T.so (aD (dW (aa 6)) (aD (dW (aa 11)) (aD (dW (aa 13)) dw)))))
  (af (qJ (j4 (gj hr) (aC 1) (cR (ba hr.units (aa 2) (aa 6) (fun _ _=>rfl)) ar (fun _ _=>rfl)) (fun _ _=>rfl)) (aa 6))
  (sg (gj hr) (fw (i:=1) rfl (Or.inl rfl)) (aa 11) (fw (i:=12) rfl (Or.inl rfl)) (fw (i:=2) rfl (Or.inr (Or.inl rfl))) (aa 6) (ab (aa 11) (ab (cR (ba hr.units (aa 2) (aa 6) (fun _ _=>rfl)) ar (fun _ _=>rfl)) ag)) (lT (aH uG rfl T.bu (by decide +kernel) (ab (aa 15) (ab (kO rfl T.nJ (by decide +kernel)) ag))) (lT (pC (yr hr.units) (aa 15) (aa 14) (bz _)) (pB (aG (gF T) (hr.mono (by decide)) rfl T.g0 T.aX.kp T.iy (ab (aZ (aa 0) T.ay T.cW (cV T) (hr.mono (by decide)) T.dz (ab (aa 11) ag)) (ab (aa 12) ag)))))))))))))))))))))
end
end N09
end
section
namespace L2
open PySem
section
variable {τ τ':List Sl} {f g h:DE} {x y z d:D}
theorem ai {i:Nat} (q:τ[i]?=some (.shr d)):aj i τ=some d:=by unfold aj; rw [q]
theorem e_c:dC d τ=some d:=rfl
theorem be {o:D->D->Option D} (h1:f τ=some x) (h2:g τ=some y) (h3:o x y=some z):dOp o f g τ=some z:=by unfold dOp; rw [h1,h2]; exact h3
theorem Kk {o:D->Option D} (h1:f τ=some x) (h3:o x=some z):dUn o f τ=some z:=by unfold dUn; rw [h1]; exact h3
theorem aK:aY τ=some []:=rfl
theorem aq {ga:DA} {xs:List D} (h1:f τ=some x) (h2:ga τ=some xs):ao f ga τ=some (x::xs):=by unfold ao; rw [h1,h2]; rfl
theorem cD {o:List D->Option D} {ga:DA} {xs:List D} (h1:ga τ=some xs) (h2:o xs=some z):bR o ga τ=some z:=by unfold bR; rw [h1]; exact h2
theorem zU {ga:DA} {xs:List D} (h1:ga τ=some xs) (h2:xs.length<=100000):C7 ga τ=some (.tup xs):=by unfold C7; rw [h1]; exact if_pos h2
theorem lK {ga:DA} {xs:List D} (h1:ga τ=some xs) (h2:xs.length<=100000):rZ ga τ=some (.lst xs):=by unfold rZ; rw [h1]; exact if_pos h2
theorem jW {F:List D->Option Sl} {ga:DA} {xs:List D} {s:Sl} (h1:ga τ=some xs) (h2:F xs=some s) (h3:slD s=some z):dFn F ga τ=some z:=by unfold dFn; rw [h1]; show (F xs).bind slD=_; rw [h2]; exact h3
theorem FL {F:List D->Option Sl} {ga:DA} {xs:List D} {s:Sl} (h1:ga τ=some xs) (h2:F xs=some s) (h3:slO s=some z):C9 F ga τ=some z:=by unfold C9; rw [h1]; show (F xs).bind slO=_; rw [h2]; exact h3
theorem Lu {c:DT} {b:Bool} (h1:c τ=some b) (h2:b=true->f τ=some z) (h3:b=false->g τ=some z):dIf c f g τ=some z:=by
 unfold dIf; rw [h1]
 cases b with
 | true=>exact h2 rfl
 | false=>exact h3 rfl
theorem ck {b:Bool} (h1:f τ=some (.bl b)):dT f τ=some b:=by unfold dT; rw [h1]; rfl
theorem Hw {f g:DT} {b c:Bool} (h1:f τ=some b) (h2:b=true->g τ=some c) (h3:b=false->c=false):FO f g τ=some c:=by
 unfold FO; rw [h1]
 cases b with
 | true=>exact h2 rfl
 | false=>rw [h3 rfl]; rfl
theorem A3 {f g:DT} {b c:Bool} (h1:f τ=some b) (h2:b=false->g τ=some c) (h3:b=true->c=true):dOr f g τ=some c:=by
 unfold dOr; rw [h1]
 cases b with
 | false=>exact h2 rfl
 | true=>rw [h3 rfl]; rfl
theorem ou {f:DT} {b:Bool} (h1:f τ=some b):uE f τ=some (!b):=by unfold uE; rw [h1]; rfl
theorem wu {i:Int} (h:f τ=some (.int i)):dP f τ=some (some i):=by unfold dP; rw [h]; rfl
theorem Kl {l u:DO} {lo hi:Option Int} (h1:f τ=some x) (h2:l τ=some lo) (h3:u τ=some hi) (h4:oSl x lo hi=some z):dSl f l u τ=some z:=by unfold dSl; rw [h1]; show (l τ).bind _=_; rw [h2]; show (u τ).bind _=_; rw [h3]; exact h4
theorem tI {it:DI} {g:DE} {cs:List (Str×Nat)} {ds es:List D} (h1:it τ=some ds) (hl:ds.length<=100000) (h2:yu (fun d=>g (.shr d::eD τ cs)) ds=some es):ph it g cs τ=some (.lst es):=by
 unfold ph; rw [h1]; show (if ds.length<=100000 then _ else _)=_; rw [if_pos hl,h2]; rfl
theorem jX {C:Addr} {n:Str} {fs:List (Str×D)} (h1:f τ=some (.obj C fs)) (h2:fs.lookup n=some z):dUn (nr C n) f τ=some z:=by unfold dUn; rw [h1]; show (if C=C then _ else _)=_; rw [if_pos rfl]; exact h2
theorem eW {C:Addr} {m:Str} {F:List D->Option Sl} {o:DE} {ga:DA} {fs:List (Str×D)} {xs:List D} {s:Sl} (h1:o τ=some (.obj C fs)) (h2:ga τ=some xs) (h0:fs.lookup m=none) (h3:F (.obj C fs::xs)=some s) (h4:slD s=some z):cS C m F o ga τ=some z:=by
 unfold cS; rw [h1]; show (ga τ).bind _=_; rw [h2]; show (if C=C/\_ then _ else _)=_; rw [if_pos ⟨rfl,h0⟩,h3]; exact h4
theorem xq {ds:List D} (h:f τ=some (.lst ds)):zM f τ=some ds:=by unfold zM; rw [h]; rfl
theorem Fl {ga:DA} {j:Int} (h:ga τ=some [.int j]) (h1:-(2 ^ 62)<=j/\j < 2 ^ 62):mG ga τ=some (ub 0 j.toNat):=by unfold mG; rw [h]; exact if_pos h1
theorem Hv {i:Nat} {d0:D} {f:DT} {b:Bool} (q:τ[i]?=some (.own d0)) (h:f (τ.set i (.shr d0))=some b):A9 i f τ=some b:=by unfold A9; rw [q]; exact h
end
section
variable {τ τ':List Sl} {f g:DS} {e:DE} {d:D} {o:Out}
theorem eL (h:f τ=some (.next τ')) (h2:g τ'=some o):dX f g τ=some o:=by simp only [dX,h]; exact h2
theorem rz {i:Nat} (h:e τ=some d):pE i e τ=some (.next (τ.set i (.shr d))):=by unfold pE; rw [h]; rfl
theorem pS {i:Nat} (h:e τ=some d) (hi:i < τ.length):nz i e τ=some (.next (τ.set i (.own d))):=by unfold nz; rw [if_pos hi,h]; rfl
theorem lD (h:e τ=some d):nA e τ=some (.ret (.shr d)):=by unfold nA; rw [h]; rfl
theorem Aj (h:e τ=some d):ua e τ=some (.ret (.own d)):=by unfold ua; rw [h]; rfl
theorem vw {i:Nat} (q:τ[i]?=some (.own d)):pT i τ=some (.ret (.own d)):=by unfold pT; rw [q]
theorem DX (h:e τ=some d):oH e τ=some (.next τ):=by unfold oH; rw [h]; rfl
theorem Gc {c:DT} {b:Bool} {r:Option Out} (h:c τ=some b) (h1:b=true->f τ=r) (h2:b=false->g τ=r):sIf c f g τ=r:=by
 unfold sIf; rw [h]
 cases b with
 | true=>exact h1 rfl
 | false=>exact h2 rfl
theorem DY {i:Nat} {ds:List D} (h:e τ=some d) (q:τ[i]?=some (.own (.lst ds))) (hl:ds.length < 100000):vA i e τ=some (.next (τ.set i (.own (.lst (ds++[d]))))):=by unfold vA; rw [h]; show (match τ[i]? with | some (.own (.lst ds))=>_ | _=>_)=_; rw [q]; exact if_pos hl
theorem HF {it:DI} {gg:DG} {ds:List D} {r:Option Out} (h1:it τ=some ds) (h2:yv (fun d τ=>(gg d τ).bind f) ds τ=r):Ds it gg f τ=r:=by unfold Ds; rw [h1]; exact h2
theorem iR {n m:Nat} {b:DS} {ds:List D} {s:Sl} (h:b (nL n ds)=some (.ret s)) (hl:ds.length=m:=by rfl):kB n m b ds=some s:=by
 unfold kB
 rw [if_pos hl,h]
theorem C2 {it:DI} {gg:DG} {ds:List D} (P:Nat->List Sl->Prop) (h1:it τ=some ds) (h0:P 0 τ) (hs:∀ j d τ,ds[j]?=some d->P j τ->∃ τ1 τ2,gg d τ=some τ1/\f τ1=some (.next τ2)/\P (j+1) τ2):∃ τ',Ds it gg f τ=some (.next τ')/\P ds.length τ':=by
 obtain ⟨τ',e,p⟩:=tz (o:=.next []) (b:=fun d τ=>(gg d τ).bind f) (ds:=ds) (τ:=τ) P 0 h0 (fun j d τ hd p=>by
  rw [Nat.zero_add] at *
  obtain ⟨τ1,τ2,e1,e2,p2⟩:=hs j d τ hd p
  exact ⟨τ2,by rw [e1]; exact e2,p2⟩)
 rw [Nat.zero_add] at p
 exact ⟨τ',HF h1 e,p⟩
theorem vD {lo:Int} {n j:Nat} {d:D} (h:(ub lo n)[j]?=some d):d=.int (lo+j)/\j < n:=by
 unfold ub at h
 rw [List.getElem?_map] at h
 by_cases hj:j < n
 ·rw [List.getElem?_range hj] at h
  exact ⟨by simpa using h.symm,hj⟩
 ·rw [List.getElem?_eq_none (by simpa using hj)] at h
  cases h
theorem vC {lo:Int} {n:Nat}:(ub lo n).length=n:=by simp [ub]
end
theorem bA (i j:Int):gL (.int i) (.int j)=some (.int (i+j)):=rfl
theorem lL (i j:Int):Dt (.int i) (.int j)=some (.int (i - j)):=rfl
theorem oV (i j:Int):oLt (.int i) (.int j)=some (.bl (decide (i < j))):=rfl
theorem dq {i j:Int} (h:0 < j):oMod (.int i) (.int j)=some (.int (i % j)):=by
 simp only [oMod,Ne.symm (Int.ne_of_lt h),ne_eq,not_false_eq_true,if_true,Int.fmod_eq_emod_of_nonneg _ (Int.le_of_lt h)]
theorem oW {i j:Int} (h:0 < j) (z:Sz j):oDiv (.int i) (.int j)=some (.int (i / j)):=by
 simp only [oDiv,Ne.symm (Int.ne_of_lt h),ne_eq,not_false_eq_true,z,and_self,if_true,Int.fdiv_eq_ediv_of_nonneg _ (Int.le_of_lt h)]
theorem Aw {i j:Int} (h:-(2 ^ 64) < j) (z:j < 2 ^ 64):uX (.int i) (.int j)=some (.int (i * j)):=by
 have:AZ i j:=.inr ⟨h,z⟩
 simp only [uX,this,true_or,if_true]
theorem ER {i j:Int} (h:-(2 ^ 64) < i) (z:i < 2 ^ 64):uX (.int i) (.int j)=some (.int (i * j)):=by
 have:AZ i j:=.inl ⟨h,z⟩
 simp only [uX,this,true_or,if_true]
theorem fZ (i j:Int):oEq (.int i) (.int j)=some (.bl (decide (i=j))):=rfl
theorem kE (i j:Int):oNe (.int i) (.int j)=some (.bl (!decide (i=j))):=rfl
theorem wG (i j:Str):oNe (.str i) (.str j)=some (.bl (!decide (i=j))):=rfl
theorem FX {α:Type} (x:α) (xs:List α):atI (x::xs) 0=some x:=by simp [atI,ixN]
theorem FW {α:Type} (x y:α) (xs:List α):atI (x::y::xs) 1=some y:=by
 have:(1:Int) < ((xs.length+1+1:Nat):Int):=by omega
 simp only [atI,ixN,List.length_cons,this,if_true]
 rfl
theorem Be (d:D):slD (.shr d)=some d:=rfl
theorem nN (x:D) (xs:List D):oIx (.tup (x::xs)) (.int 0)=some x:=FX _ _
theorem sU (x y:D) (xs:List D):oIx (.tup (x::y::xs)) (.int 1)=some y:=FW _ _ _
theorem sH {τ:List Sl} {c:DT} {f g:DS} {r:Option Out} (h:c τ=some false) (h2:g τ=r):dX (sIf c f je) g τ=r:=by
 simp only [dX,sIf,h,Option.bind_some,Bool.false_eq_true,if_false,je]
 exact h2
theorem Ai {τ:List Sl} {c:DT} {f g:DS} {s:Sl} (h:c τ=some true) (h2:f τ=some (.ret s)):dX (sIf c f je) g τ=some (.ret s):=by
 simp only [dX,sIf,h,Option.bind_some,if_true,h2]
end L2
end
section
namespace L2
open PySem
section
variable {τ τ':List Sl} {f g:DS} {e e2 e3:DE} {c:DT} {b:Bool} {d x y z:D} {P:D->Prop} {R:List Sl->Prop}
theorem mL {b c:Bool} (h1:e τ=some (.bl b)) (h2:e2 τ=some (.bl c)):gI e e2 τ=some (.bl (b&&c)):=by
 unfold gI; rw [h1]; cases b <;> simp [h2]
end
theorem qU {α:Type} {xs:List α} {j:Int} (h0:0<=j) (h1:j < xs.length):∃ (h:j.toNat < xs.length),atI xs j=some xs[j.toNat]:=by
 refine ⟨by omega,?_⟩
 have e:=Dk (xs:=xs) (j:=j.toNat) (v:=xs[j.toNat]'(by omega)) (List.getElem?_eq_getElem (by omega))
 rw [show ((j.toNat:Nat):Int)=j by omega] at e
 exact e
end L2
end
section
namespace N09
open PySem L2
local macro_rules | `(tactic| walk_at "ee")=>`(tactic| first
 | with_reducible assumption
 | with_reducible exact e_c
 | ((with_reducible apply ai); exact rfl)
 | with_reducible exact aK
 | ((with_reducible apply aq) <;> walk_at "ee")
 | ((with_reducible apply be) <;> walk_at "ee")
 | ((with_reducible apply zU) <;> walk_at "ee")
 | ((with_reducible apply lK) <;> walk_at "ee")
 | ((with_reducible apply jX) <;> walk_at "ee")
 | ((with_reducible apply Kk) <;> walk_at "ee")
 | ((with_reducible apply cD) <;> walk_at "ee")
 | ((with_reducible apply jW) <;> walk_at "ee")
 | ((with_reducible apply e_make) <;> walk_at "ee")
 | ((with_reducible apply eW) <;> walk_at "ee")
 | ((with_reducible apply ck) <;> walk_at "ee")
 | ((with_reducible apply ou) <;> walk_at "ee")
 | with_reducible exact p_no
 | ((with_reducible apply wu) <;> walk_at "ee")
 | ((with_reducible apply Kl) <;> walk_at "ee")
 | ((with_reducible apply t_and2) <;> walk_at "ee")
 | ((with_reducible apply t_or2) <;> walk_at "ee")
 | ((with_reducible apply mL) <;> walk_at "ee")
 | ((with_reducible apply e_or2) <;> walk_at "ee")
 | ((with_reducible apply e_get2) <;> walk_at "ee")
 | with_reducible exact Be _
 | with_reducible exact slD_own _
 | with_reducible exact nN _ _
 | with_reducible exact sU _ _ _
 | with_reducible exact oIx_t2 _ _ _ _
 | with_reducible exact bA _ _
 | with_reducible exact lL _ _
 | with_reducible exact fZ _ _
 | with_reducible exact kE _ _
 | with_reducible exact oV _ _
 | with_reducible exact oEq_str _ _
 | with_reducible exact wG _ _
 | with_reducible exact dq (by decide)
 | with_reducible exact oW (by decide) (by decide +kernel)
 | with_reducible exact Aw (by decide) (by decide)
 | with_reducible exact ER (by decide) (by decide)
 | with_reducible exact FX _ _
 | with_reducible exact FW _ _ _
 | with_reducible exact atI_2 _ _ _ _
 | exact rfl
 | exact Zb rfl
 | skip)
theorem HK {n m:Nat} {b:DS} {ds:List D} {τ:List Sl} (h:b (nL n ds)=some (.next τ)) (hl:ds.length=m:=by rfl):kB n m b ds=some (.shr .non):=by
 unfold kB
 rw [if_pos hl,h]
theorem HE {τ:List Sl} {c:DT} {f g:DS} {b:Bool} {s:Sl} (h:c τ=some b) (h1:b=true->f τ=some (.ret s)) (h2:b=false->g τ=some (.ret s)):dX (sIf c f je) g τ=some (.ret s):=by
 cases b with
 | true=>exact Ai h (h1 rfl)
 | false=>exact sH h (h2 rfl)
theorem JH {τ:List Sl} {f:DE} {x:Str} (h:f τ=some (.str x)):xr f τ=some (chD x):=by unfold xr; rw [h]; rfl
def lower (c:Nat):Bool:=decide (97<=c)&&decide (c<=122)
def dQ (x:Str):Bool:=(decide (1<=(x.length:Int))&&decide ((x.length:Int)<=8))&&x.cps.toList.all lower
theorem lt1 (c d:Nat):[c] < [d]↔c < d:=by
 constructor
 ·intro z
  cases z with
  | rel h=>exact h
  | cons h=>cases h
 ·intro h
  exact List.Lex.rel h
theorem le1 (c d:Nat):Gg (.str ⟨#[c]⟩) (.str ⟨#[d]⟩)=some (.bl (decide (c<=d))):=by
 show some (D.bl (!decide ([d] < [c])))=_
 congr 2
 by_cases h:c<=d
 ·rw [decide_eq_true h,decide_eq_false]
  · rfl
  ·intro z
   have:=(lt1 d c).mp z
   omega
 ·rw [decide_eq_false h,decide_eq_true]
  · rfl
  · exact (lt1 d c).mpr (by omega)
theorem wQ {g:D->Option D} {t:Nat->Bool}:∀ {cs:List Nat},(∀ c ∈ cs,g (.str ⟨#[c]⟩)=some (.bl (t c)))->yu g (cs.map fun c=>.str ⟨#[c]⟩)=some (cs.map fun c=>.bl (t c))
 | [],_=>rfl
 | c::cs,h=>by
  show (g (.str ⟨#[c]⟩)).bind (fun x=>(yu g (cs.map fun c=>.str ⟨#[c]⟩)).bind fun xs=>some (x::xs))=_
  rw [h c (List.mem_cons_self ..),wQ fun c m=>h c (List.mem_cons_of_mem _ m)]
  rfl
theorem j0 (t:Nat->Bool):∀ cs:List Nat,AW (cs.map fun c=>.bl (t c))=some (cs.map t)
 | []=>rfl
 | c::cs=>by
  show (AW (cs.map fun c=>.bl (t c))).map (t c::·)=_
  rw [j0 t cs]; rfl
theorem xo (x:Str) (hx:x.length<=100):fS [.str x]=some (.shr (.bl (dQ x))):=by
 refine iR ?_
 refine sH (ou (b:=true) (ck (cD (aq (ai rfl) (aq e_c aK)) rfl))) ?_
 have hl:lN [.str x]=some (.int (x.length:Int)):=by
  show (if x.length<=100000 then _ else none)=_
  rw [if_pos (by omega)]
 refine HE (b:=!(decide (1<=(x.length:Int))&&decide ((x.length:Int)<=8))) (ou (ck (mL (be e_c (cD (aq (ai rfl) aK) hl) rfl) (be (cD (aq (ai rfl) aK) hl) e_c rfl)))) (fun h=>?_) (fun h=>?_)
 ·unfold dQ
  rw [Bool.not_eq_true'] at h
  rw [h]
  exact lD e_c
 ·rw [Bool.not_eq_false'] at h
  refine lD (cD (aq (tI (JH (ai rfl)) ?_ (wQ (t:=lower) fun c _=>mL (be e_c (ai rfl) (le1 97 c)) (be (ai rfl) e_c (le1 c 122)))) aK) ?_)
  ·show (x.cps.toList.map _).length<=_
   rw [List.length_map]
   exact Nat.le_trans hx (by decide)
  ·show (AW _).map _=_
   rw [j0]
   unfold dQ
   rw [h]
   show some (D.bl ((x.cps.toList.map lower).all id))=some (D.bl (x.cps.toList.all lower))
   rw [List.all_map]
   rfl
def scr (ns:List Int):D:=.fz (ns.map .int)
theorem CJ (ns:List Int):lN [scr ns]=some (.int ns.length):=by
 show some (D.int ((ns.map D.int).length:Nat))=_
 rw [List.length_map]
theorem Fh {ns:List Int} {j:Int} (h0:0<=j) (h1:j < ns.length):∃ c:Int,oIx (scr ns) (.int j)=some (.int c):=by
 obtain ⟨h,e⟩:=qU (xs:=ns.map D.int) h0 (by rw [List.length_map]; exact h1)
 refine ⟨ns[j.toNat]'(by rw [List.length_map] at h; exact h),?_⟩
 show atI (ns.map D.int) j=_
 rw [e,List.getElem_map]
theorem p9 (c:Int) {w:Int} (w0:0<=w) (w1:w<=10000):∃ r,aJ [.int c,.int w]=some (.shr (.int r))/\0<=r/\r < 1000003:=by
 have m0:=Int.emod_nonneg ((c * 48271+w * 7919) % 2147483647 * (16807+2 * w)) (b:=1000003) (by decide)
 have m1:=Int.emod_lt_of_pos ((c * 48271+w * 7919) % 2147483647 * (16807+2 * w)) (b:=1000003) (by decide)
 have e1:=Aw (i:=(c * 48271+w * 7919) % 2147483647) (j:=16807+2 * w) (by omega) (by omega)
 refine ⟨_,?_,m0,m1⟩
 unfold aJ og
 refine iR ?_
 show dX _ _ [.shr (.int c),.shr (.int w),.no]=_
 refine eL (rz (d:=.int ((c * 48271+w * 7919) % 2147483647)) (by walk_at "ee")) ?_
 exact lD (by walk_at "ee")
theorem FP (ns:List Int) {k:Int} (k0:0<=k):∃ c:Int,cY [scr ns,.int k]=some (.shr (.int c)):=by
 have hl:=CJ ns
 have t:=oV k (ns.length:Int)
 unfold cY nc
 by_cases h:k < (ns.length:Int)
 ·obtain ⟨c,hc⟩:=Fh (ns:=ns) k0 h
  rw [decide_eq_true h] at t
  refine ⟨c,iR ?_⟩
  show dX _ _ [.shr (scr ns),.shr (.int k)]=_
  exact Ai (by walk_at "ee") (lD (by walk_at "ee"))
 ·rw [decide_eq_false h] at t
  refine ⟨0,iR ?_⟩
  show dX _ _ [.shr (scr ns),.shr (.int k)]=_
  exact sH (by walk_at "ee") (lD e_c)
def LET:Str:="abcdefghijklmnopqrstuvwxyz"
def okS (x:Str):Bool:=x.cps.all lower
def One (z:Str):Prop:=z.length=1/\okS z=true
theorem CI:LET.cps.toList.length=26:=by decide +kernel
theorem E6:∀ c ∈ LET.cps.toList,lower c=true:=by decide +kernel
theorem E7 {k:Int} (k0:0<=k) (k1:k < 26):∃ z:Str,oIx (.str LET) (.int k)=some (.str z)/\One z:=by
 obtain ⟨h,e⟩:=qU (xs:=LET.cps.toList) k0 (by rw [CI]; omega)
 refine ⟨⟨#[LET.cps.toList[k.toNat]]⟩,?_,rfl,?_⟩
 ·show (if LET.length<=100000 then (atI LET.cps.toList k).map _ else none)=_
  rw [if_pos (by decide +kernel),e]
  rfl
 ·unfold okS
  rw [Array.all_eq_true_iff_forall_mem]
  intro c hc
  have e:c=LET.cps.toList[k.toNat]:=by simpa using hc
  rw [e]
  exact E6 _ (List.getElem_mem h)
theorem strs_map:∀ ts:List Str,L2.rn (ts.map .str)=some ts
 | []=>rfl
 | t::ts=>by
  show (L2.rn (ts.map .str)).map _=_
  rw [strs_map ts]; rfl
theorem qf {gg:D->Option D}:∀ {ds:List D},(∀ d ∈ ds,∃ z:Str,gg d=some (.str z)/\One z)->∃ ts:List Str,yu gg ds=some (ts.map .str)/\ts.length=ds.length/\∀ z ∈ ts,One z
 | [],_=>⟨[],rfl,rfl,fun q hq=>nomatch hq⟩
 | d::ds,h=>by
  obtain ⟨q,e1,p1⟩:=h d (List.mem_cons_self ..)
  obtain ⟨qs,e2,l2,p2⟩:=qf (gg:=gg) (ds:=ds) fun x hx=>h x (List.mem_cons_of_mem _ hx)
  refine ⟨q::qs,by simp only [yu,e1,e2]; rfl,by simp [l2],fun x hx=>?_⟩
  rcases List.mem_cons.mp hx with rfl | hx
  · exact p1
  · exact p2 x hx
theorem sF:∀ {ts:List Str},(∀ z ∈ ts,One z)->(ts.map (·.length)).sum=ts.length
 | [],_=>rfl
 | t::ts,h=>by
  rw [List.map_cons,List.sum_cons,(h t (List.mem_cons_self ..)).1,sF fun z hz=>h z (List.mem_cons_of_mem _ hz),List.length_cons]
  omega
theorem Bh {n:Nat} {d:D} (h:d ∈ ub 0 n):∃ j:Nat,j < n/\d=.int (j:Int):=by
 obtain ⟨j,hj⟩:=List.getElem?_of_mem h
 obtain ⟨e,l⟩:=vD hj
 exact ⟨j,l,by rw [e]; congr 1; omega⟩
theorem wB {x y:Array Nat} (hx:x.all (lower)=true) (hy:y.all (lower)=true):(x++y).all (lower)=true:=by
 rw [Array.all_eq_true_iff_forall_mem] at *
 intro c hc
 rcases Array.mem_append.mp hc with h | h
 · exact hx c h
 · exact hy c h
theorem xA:∀ (ts:List Str) (a:Array Nat),(∀ z ∈ ts,One z)->a.all (lower)=true->(ts.foldl (fun acc p=>acc++(Str.cps "")++p.cps) a).size=a.size+ts.length/\(ts.foldl (fun acc p=>acc++(Str.cps "")++p.cps) a).all (lower)=true
 | [],a,_,h=>⟨rfl,h⟩
 | t::ts,a,h,ha=>by
  have h1:=h t (List.mem_cons_self ..)
  have h0:(Str.cps "").size=0:=by decide +kernel
  have h1':t.cps.size=1:=h1.1
  obtain ⟨e1,e2⟩:=xA ts (a++(Str.cps "")++t.cps) (fun z hz=>h z (List.mem_cons_of_mem _ hz)) (wB (wB ha (by decide +kernel)) h1.2)
  refine ⟨?_,e2⟩
  rw [List.foldl_cons,e1,Array.size_append,Array.size_append,h1',h0,List.length_cons]
  omega
theorem CN {ts:List Str} (h:∀ z ∈ ts,One z) (n:ts≠[]):(Txt.join "" ts).length=ts.length/\okS (Txt.join "" ts)=true:=by
 match ts,n with
 | t::ts,_ =>
  have h1:=h t (List.mem_cons_self ..)
  have h1':t.cps.size=1:=h1.1
  obtain ⟨e1,e2⟩:=xA ts t.cps (fun z hz=>h z (List.mem_cons_of_mem _ hz)) h1.2
  refine ⟨?_,e2⟩
  show (ts.foldl (fun acc p=>acc++(Str.cps "")++p.cps) t.cps).size=_
  rw [e1,h1',List.length_cons]
  omega
theorem FK {τ:List Sl} {f g:DE} {z:Str} {ts:List Str} (h1:f τ=some (.str z)) (h2:g τ=some (.lst (ts.map .str))) (h3:(ts.map (·.length)).sum+ts.length * z.length<=100000):xR f g τ=some (.str (Txt.join z ts)):=by
 unfold xR
 rw [h1]
 show (g τ).bind _=_
 rw [h2]
 show (L2.rn (ts.map .str)).bind _=_
 rw [strs_map]
 exact if_pos h3
theorem Ay (c:Int) {w:Int} (w0:0<=w) (w1:w<=1000):∃ z:Str,cu [.int c,.int w]=some (.shr (.str z))/\dQ z=true:=by
 obtain ⟨r,er,r0,r1⟩:=p9 c (w:=w+3) (by omega) (by omega)
 have m0:=Int.emod_nonneg r (b:=8) (by decide)
 have m1:=Int.emod_lt_of_pos r (b:=8) (by decide)
 obtain ⟨ts,ets,lts,ots⟩:=qf (gg:=fun d=>dOp oIx (aj 1) (dOp oMod (dFn aJ (ao (aj 2) (ao (dOp gL (aj 3) (dOp uX (dC (.int 5)) (aj 0))) aY))) (dC (.int 26))) [.shr d,.shr (.str LET),.shr (.int c),.shr (.int w)]) (ds:=ub 0 (Int.toNat (1+r % 8))) (by
  intro d hm
  obtain ⟨j,hj,rfl⟩:=Bh hm
  obtain ⟨q,eq,q0,q1⟩:=p9 c (w:=w+5 * (j:Int)) (by omega) (by omega)
  obtain ⟨z,ez,lz⟩:=E7 (k:=q % 26) (Int.emod_nonneg _ (by decide)) (Int.emod_lt_of_pos _ (by decide))
  exact ⟨z,by walk_at "ee",lz⟩)
 rw [vC] at lts
 have ne:ts≠[]:=fun z=>by rw [z] at lts; simp at lts; omega
 obtain ⟨jl,jo⟩:=CN ots ne
 have nk:dQ (Txt.join "" ts)=true:=by
  unfold dQ
  have l1:1<=(Txt.join "" ts).length:=by omega
  have l2:(Txt.join "" ts).length<=8:=by omega
  have jo':(Txt.join "" ts).cps.toList.all lower=true:=by
   unfold okS at jo
   rw [Array.all_toList]
   exact jo
  rw [decide_eq_true (show (1:Int)<=((Txt.join "" ts).length:Int) by omega),decide_eq_true (show ((Txt.join "" ts).length:Int)<=8 by omega),jo']
  rfl
 refine ⟨Txt.join "" ts,?_,nk⟩
 unfold cu mZ
 refine iR ?_
 show dX _ _ [.shr (.int c),.shr (.int w),.no,.no]=_
 refine eL (rz (d:=.str LET) e_c) ?_
 refine eL (rz (d:=.int (1+r % 8)) (by walk_at "ee")) ?_
 exact lD (FK e_c (tI (Fl (j:=1+r % 8) rfl (by omega)) (by rw [vC]; omega) ets) (by rw [sF ots,show Str.length ""=0 by decide +kernel]; omega))
theorem gr {z:Str} (h:dQ z=true):bg [.str z]=some (.shr .non):=by
 have l:z.length<=100:=by
  unfold dQ at h
  rw [Bool.and_eq_true,Bool.and_eq_true] at h
  have:=of_decide_eq_true h.1.2
  omega
 have e:=xo z l
 rw [h] at e
 unfold bg lh
 exact HK (Gc (b:=false) (ou (b:=true) (ck (jW (aq (ai rfl) aK) e rfl))) nofun fun _=>rfl)
theorem rQ (ns:List Int):lN [.lst (ns.map .int)]=some (.int (ns.length:Int)):=by
 show some (D.int ((ns.map D.int).length:Nat))=_
 rw [List.length_map]
theorem iY {ns:List Int} {p:Int} (h0:0<=p) (h1:p<=ns.length):bt [.int p,.lst (ns.map .int)]=some (.shr .non):=by
 have hl:=rQ ns
 have e1:oLe (.int 0) (.int p)=some (.bl true):=by show some (D.bl (decide _))=_; rw [decide_eq_true h0]
 have e2:oLe (.int p) (.int (ns.length:Int))=some (.bl true):=by show some (D.bl (decide _))=_; rw [decide_eq_true h1]
 unfold bt j9
 exact HK (Gc (b:=false) (ou (b:=true) (ck (mL (be e_c (ai rfl) e1) (be (ai rfl) (cD (aq (ai rfl) aK) hl) e2)))) nofun fun _=>rfl)
theorem oj (i:Int):bh [.int i]=some (.shr (.bl true)):=rfl
theorem l0 (ns:List Int) (hl:ns.length < 1000):aX [.lst (ns.map .int),.lst (ns.map .int)]=some (.shr (.bl true)):=by
 have hn:=rQ ns
 have e0:oNe (.int (ns.length:Int)) (.int (ns.length:Int))=some (.bl false):=by rw [kE,decide_eq_true rfl]; rfl
 obtain ⟨τ',e,s2,rfl⟩:=C2 (τ:=[.shr (.lst (ns.map .int)),.shr (.lst (ns.map .int)),.no]) (f:=sIf (dOr (uE (dT (dFn bh (ao (dOp oIx (aj 0) (aj 2)) aY)))) (dT (dOp oNe (dOp oIx (aj 0) (aj 2)) (dOp oIx (aj 1) (aj 2))))) (nA (dC (.bl false))) je) (gg:=gN 2) (it:=mG (ao (bR lN (ao (aj 1) aY)) aY)) (ds:=ub 0 ns.length)
  (fun j τ=>∃ s2,τ=[.shr (.lst (ns.map .int)),.shr (.lst (ns.map .int)),s2]) ((Fl (j:=(ns.length:Int)) (aq (cD (aq (ai rfl) aK) hn) aK) (by omega)).trans (by rw [Int.toNat_natCast])) ⟨.no,rfl⟩ (fun j d τ hd ⟨s2,e⟩=>by
    subst e
    obtain ⟨e,l⟩:=vD hd
    rw [Int.zero_add] at e
    subst e
    have hx:oIx (.lst (ns.map .int)) (.int (j:Int))=some (.int ns[j]):=by
     obtain ⟨h,e⟩:=qU (xs:=ns.map D.int) (j:=(j:Int)) (by omega) (by rw [List.length_map]; omega)
     show atI (ns.map D.int) _=_
     rw [e]
     simp
    have e1:oNe (.int ns[j]) (.int ns[j])=some (.bl false):=by rw [kE,decide_eq_true rfl]; rfl
    exact ⟨_,[.shr (.lst (ns.map .int)),.shr (.lst (ns.map .int)),.shr (.int (j:Int))],rfl,Gc (b:=false) (A3 (b:=false) (ou (b:=true) (ck (jW (aq (be (ai rfl) (ai rfl) hx) aK) (oj _) rfl))) (fun _=>ck (be (be (ai rfl) (ai rfl) hx) (be (ai rfl) (ai rfl) hx) e1)) nofun) nofun fun _=>rfl,_,rfl⟩)
 unfold aX iG
 exact iR (sH (A3 (b:=false) (ou (b:=true) rfl) (fun _=>ck (be (cD (aq (ai rfl) aK) hn) (cD (aq (ai rfl) aK) hn) e0)) nofun) (eL e (lD e_c)))
end N09
end
section
namespace N09
open PySem L2 PySem.W PyProof.Rows
section
variable {K:W.Frag} {H:Hp} {σ:List (Option V)}
theorem D1 {f:DE} {τ:List Sl} {d:D} {Q:VK} (st:StR K H H H σ τ []) (e:f τ=some d) (k:∀ v H',bY H H'->Rp K H' v d->Q v H'):rdE K f σ H Q :=
 ⟨H,H,τ,[],d,st,.refl H,e,fun v _ H' g r=>k v H' g.hh (r.same g.sh)⟩
theorem pW {f:DT} {τ:List Sl} {d:Bool} {Q:Bool->Hp->Prop} (st:StR K H H H σ τ []) (e:f τ=some d) (k:∀ H',bY H H'->Q d H'):rdT K f σ H Q :=
 ⟨H,H,τ,[],d,st,.refl H,e,fun _ H' g=>k H' g.hh⟩
theorem DP {F:List D->Option Sl} {vs:List V} {ds:List D} {d:D} {Q:VK} {E:XK} (r:Rps K H vs ds) (e:F ds=some (.shr d)) (k:∀ v H',bY H H'->Rp K H' v d->Q v H'):spF F K vs H Q E :=
 ⟨H,ds,_,.refl H,r,e,fun v _ H' g q=>k v H' g.hh (Rp.same g.sh (show Rp K _ v d from q))⟩
end
abbrev HL:R2:=fun x y H Q=>∃ b c,x=.bl b/\y=.bl c/\Q (.bl (!(b == c))) H
def E5:Stmt->List Stmt
 | .For _ _ b _ _=>b
 | _=>[]
abbrev DM:List Stmt:=E5 ((aw cb).getD 0 (.Pass ⟨0,0,0,0⟩))
def pL (K:W.Frag) (t:Adr):TS :=
 (DH (Gb (A7 (rm 2) (rm 3)) (Kg K 2 (CY (mI 4) (CY (mI 5) Kh))))
 (DH (Dq (tOr (A4 (tOp HL (rdE K (cS t.ae "stands" (cw t) (aj 0) (ao (aj 3) aY))) (tC (.bl true)))) (J2 (tB (yB (spF aX K) [] E0 (t6 (A5 t.ae "boxes_of" (spF (aM t) K) [] E0 (rm 0) (t6 (rm 3) Ga)) (t6 (A7 (rm 1) (rm 3)) Ga))))))
 (Dp (tC (.bl false)))
 vm)
 (DH (Dq (rdT K (dOr (uE (dT (bR zA (ao (cS t.ae "name_of" (bf t) (aj 0) (ao (aj 3) aY)) (ao (dC (.ty "str")) aY))))) (dT (dOp oNe (cS t.ae "name_of" (bf t) (aj 0) (ao (aj 3) aY)) (aj 5)))))
 (Dp (tC (.bl false)))
 vm)
 (Dq (rdT K (dT (dOp J7 (aj 4) (dC .non))))
 (Dq (rdT K (dT (dOp nE (cS t.ae "holder_of" (aE t) (aj 0) (ao (aj 3) aY)) (dC .non))))
 (Dp (tC (.bl false)))
 vm)
 (Dq (rdT K (dOr (uE (dT (dFn bh (ao (cS t.ae "holder_of" (aE t) (aj 0) (ao (aj 3) aY)) aY)))) (dT (dOp oNe (cS t.ae "holder_of" (aE t) (aj 0) (ao (aj 3) aY)) (aj 4)))))
 (Dp (tC (.bl false)))
 vm)))))
def Ad (H:Hp) (K:W.Frag) (t:Adr):TS :=
 (DH (DF H (J3 (Fn (rm 1)) (mI 3) (pL K t)))
 (Dp (tC (.bl true))))
section
variable {P:Program} {w:World} {K:W.Frag} {mg:Str->Option Value} {base:Heap} {t:Adr} {cdv:Value} {A:Around} {outer:List Env} {s:Shared} {H:Hp} {E:XK}
abbrev XS (P:Program) (w:World) (K:W.Frag) (mg:Str->Option Value) (base:Heap) (t:Adr) (cdv:Value) (A:Around) (outer:List Env) (s:Shared) (H:Hp) (E:XK):Cx:=(xS CX0 P w K mg base ["_law_tree","_law_rows","_law_facts","_law_box","_law_holder","_law_name_here"] "_law_stood" (ah cb) t.de cdv A outer s H E).nox
theorem zd (T:Txt K mg t) (hr:fo 2 (A.deeper (envOfC "_law_stood" (ah cb) s.heap.objs.size t.de cdv))):PSs (XS P w K mg base t cdv A outer s H E) DM (pL K t) :=
  (eu (Ed (oN (gj hr) (pv 2) (pv 3) (fun _ _=>rfl)) (Aq rfl (oK (gV (i:=4) d9.nd rfl (Or.inl rfl)) (oK (gV (i:=5) d9.nd rfl (Or.inl rfl)) wm))))
      (eu (pY (PW.pt (pw_or (vQ Ce (Bx.out (aZ (aa 0) T.ay T.nF (nD T) (hr.mono (by decide)) T.pD (ab (aa 3) ag))) rF (bz _)) (pw_or1 (vP (vO (ma (gF T) (hr.mono (by decide)) rfl T.g0 T.aX.kp T.iy .nil oO (dm (rE (pv 0) T.ay T.cW (cV T) (hr.mono (by decide)) T.dz .nil oO (dm (pv 3) gE)) (dm (oN (gj hr) (pv 1) (pv 3) (fun _ _=>rfl)) gE))))))))
      (dJ (gU rF))
      jf)
      (eu (pY (Bx.out (fc (gs (dR (fQ (aH uG rfl T.bu (by decide +kernel) (ab (aZ (aa 0) T.ay T.gX (gW T) (hr.mono (by decide)) T.iZ (ab (aa 3) ag)) (ab (kO rfl T.tV (by decide +kernel)) ag))))) (fP (aI (Av hr.units) (aZ (aa 0) T.ay T.gX (gW T) (hr.mono (by decide)) T.iZ (ab (aa 3) ag)) (aa 5) (bz _))))))
      (dJ (gU rF))
      jf)
      (dJ (pY (Bx.out (aI Im (aa 4) iP (bz _)))
      (dJ (pY (Bx.out (aI wD (aZ (aa 0) T.ay T.bP (bN T) (hr.mono (by decide)) T.cA (ab (aa 3) ag)) iP (bz _)))
      (dJ (gU rF))
      jf))
      (dJ (pY (Bx.out (fc (gs (dR (fQ (aG (fY T) (hr.mono (by decide)) rfl T.gZ T.bh.kp T.iw (ab (aZ (aa 0) T.ay T.bP (bN T) (hr.mono (by decide)) T.cA (ab (aa 3) ag)) ag)))) (fP (aI (Av hr.units) (aZ (aa 0) T.ay T.bP (bN T) (hr.mono (by decide)) T.cA (ab (aa 3) ag)) (aa 4) (bz _))))))
      (dJ (gU rF))
      jf)))))))
theorem zc (T:Txt K mg t) (hr:fo 2 (A.deeper (envOfC "_law_stood" (ah cb) s.heap.objs.size t.de cdv))):PSs (XS P w K mg base t cdv A outer s H E) (aw cb) (Ad H K t) :=
  (eu (rB (sP PassesOwn.never rfl (rD (pv 1)) (gV (i:=3) d9.nd rfl (Or.inl rfl))
      (zd T hr)))
      (dJ (gU rF)))
end
def Jz:List Str:=["stands","boxes_of","name_of","holder_of"]
structure St1 (t:Adr) (fs:List (Str×D)) (fa:D) (i:Int) (nm:Str) (hd:D) (r:List Int):Prop where
 len:r.length < 1000
 fact:bC fa (.int i)=some (.tup [hd,.str nm])
 hol:hd=.non\/∃ j,hd=.int j
 st:cw t [.obj t.ae fs,.int i]=some (.shr (.bl true))
 bx:aM t [.obj t.ae fs,.int i]=some (.own (.lst (r.map .int)))
 nam:bf t [.obj t.ae fs,.int i]=some (.shr (.str nm))
 hof:aE t [.obj t.ae fs,.int i]=some (.shr hd)
structure Hl (t:Adr) (mt mf:Mt) (cs:List (Key×Mt)):Prop where
 ob:∃ fs,frz mt=.obj t.ae fs/\(∀ m ∈ Jz,fs.lookup m=none)/\∀ c ∈ cs,∃ i nm hd r,c=(.inl i,lM (r.map .int))/\St1 t fs (frz mf) i nm hd r
open Classical in
noncomputable def cf (t:Adr) (as:List Sm):Option D:=if ∃ mt cs mf,as=[.mu true mt,.mu true (.n .d cs),.mu true mf]/\Hl t mt mf cs then some (.bl true) else none
theorem yC {t:Adr} {mt mf:Mt} {cs:List (Key×Mt)} (h:Hl t mt mf cs):cf t [.mu true mt,.mu true (.n .d cs),.mu true mf]=some (.bl true):=if_pos ⟨_,_,_,rfl,h⟩
theorem kZ (ns:List D):frz (lM ns)=.lst ns:=by
 unfold lM
 rw [frz,tp,List.map_map]
 congr 1
 exact (List.map_congr_left (g:=id) fun d _=>by show frz (.s d)=id d; rw [frz]; rfl).trans (List.map_id _)
section
variable {K:W.Frag} {t:Adr} {H:Hp} {a dx lr lf al:Addr} {fv:List (Str×V)} {fs:List (Str×D)} {kvs:List (Key×V)} {fa:D} {E:Ends} {i:Int} {nm:Str} {hd:D} {r:List Int} {ob:Obj}
theorem yD {o4 o5:Option V} (ht:H a=some (.ins t.ae dx fv)) (rt:Rp K H (.ref a) (.obj t.ae fs)) (rf:RpF K H fv fs) (hm:∀ m ∈ Jz,fs.lookup m=none) (rfa:Rp K H (.ref lf) fa) (hr:H lr=some (.frz ob (.dK kvs))) (hv:dD kvs (.inl i)=some (.ref al)) (hal:H al=some (.lst (r.map .int))) (S:St1 t fs fa i nm hd r)
  (k:∀ H' o4 o5,bY H H'->E.nx [some (.ref a),some (.ref lr),some (.ref lf),some (.int i),o4,o5] H') :
  pL K t E [some (.ref a),some (.ref lr),some (.ref lf),some (.int i),o4,o5] H:=by
 unfold pL
 obtain ⟨kf,df,hf,rk⟩:∃ kf df,Rd H lf (.dK kf)/\RpK K H kf df/\nq df (.inl i)=some (.tup [hd,.str nm]):=by
  have e:=S.fact
  cases rfa with
  | dct h rk=>exact ⟨_,_,.inl h,rk,e⟩
  | dfz h rk=>exact ⟨_,_,h,rk,e⟩
  | _=>cases e
 obtain ⟨rk,ek⟩:=rk
 obtain ⟨vq,ev,rq⟩:=(rk.val (k:=.inl i)).1 _ ek
 cases rq with
 | @tup q xs _ hq rx =>
 cases rx with
 | @cons v4 _ _ _ r4 rx =>
 cases rx with
 | @cons v5 _ _ _ r5 rx =>
 cases rx
 cases r5
 refine ⟨_,rfl,_,rfl,lf,.ref q,rfl,.inl ⟨kf,.inl i,hf,rfl,ev.symm⟩,q,[v4,.str nm],rfl,hq,rfl,_,_,rfl,_,_,rfl,rfl,?_⟩
 have st:∀ {H':Hp},bY H H'->StR K H' H' H' [some (.ref a),some (.ref lr),some (.ref lf),some (.int i),some v4,some (.str nm)] [.shr (.obj t.ae fs),.no,.no,.shr (.int i),.shr hd,.shr (.str nm)] [] :=
  fun g=>.shr (rt.same g) (.no (.no (.shr (.int _) (.shr (r4.same g) (.shr (.str _) .nil)))))
 refine D1 (st (.refl H)) (eW (ai rfl) (aq (ai rfl) aK) (hm "stands" (by decide)) S.st rfl) fun v H1 g1 rv=>?_
 cases rv
 refine ⟨true,true,rfl,rfl,false,rfl,ux rfl ?_⟩
 refine ⟨_,rfl,a,dx,fv,rfl,g1 _ _ ht,rf.CH (hm "boxes_of" (by decide)),_,rfl,?_⟩
 refine ⟨H1,[.obj t.ae fs,.int i],_,.refl H1,.cons (rt.same g1) (.cons (.int _) .nil),S.bx,fun v Hs2 H2 g2 rv=>?_⟩
 obtain ⟨x,rfl,ow,hx⟩:=rv
 have s2:=g1.trans g2.hh
 cases ow with
 | lst hxx _ rr =>
 refine ⟨_,rfl,_,rfl,lr,.ref al,rfl,.inl ⟨kvs,.inl i,.inr ⟨ob,s2 _ _ hr⟩,rfl,hv.symm⟩,?_⟩
 refine DP (E:=E0) (.cons (.lst hxx (rr.same g2.sh)) (.cons (.lst (s2 _ _ hal) (Rps.ints _)) .nil)) (l0 r S.len) fun v H3 g3 rv=>?_
 cases rv
 have s3:=s2.trans g3
 refine ⟨true,rfl,ux rfl ?_⟩
 have en:∀ {τ:List Sl},τ[0]?=some (.shr (.obj t.ae fs))->τ[3]?=some (.shr (.int i))->cS t.ae "name_of" (bf t) (aj 0) (ao (aj 3) aY) τ=some (.str nm):=fun h0 h3=>eW (ai h0) (aq (ai h3) aK) (hm "name_of" (by decide)) S.nam rfl
 have eh:∀ {τ:List Sl},τ[0]?=some (.shr (.obj t.ae fs))->τ[3]?=some (.shr (.int i))->cS t.ae "holder_of" (aE t) (aj 0) (ao (aj 3) aY) τ=some hd:=fun h0 h3=>eW (ai h0) (aq (ai h3) aK) (hm "holder_of" (by decide)) S.hof rfl
 have es:oNe (.str nm) (.str nm)=some (.bl false):=by rw [wG,decide_eq_true rfl]; rfl
 refine pW (st s3) (A3 (b:=false) (ou (b:=true) (ck (cD (aq (en rfl rfl) (aq e_c aK)) rfl))) (fun _=>ck (be (en rfl rfl) (ai rfl) es)) nofun) fun H4 g4=>ux rfl ?_
 have s4:=s3.trans g4
 rcases S.hol with hh | ⟨j,hh⟩
 ·subst hh
  refine pW (st s4) (ck (be (ai rfl) e_c rfl)) fun H5 g5=>JF rfl ?_
  exact pW (st (s4.trans g5)) (ck (be (eh rfl rfl) e_c rfl)) fun H6 g6=>ux rfl (k H6 _ _ ((s4.trans g5).trans g6))
 ·subst hh
  refine pW (st s4) (ck (be (ai rfl) e_c rfl)) fun H5 g5=>ux rfl ?_
  have ej:oNe (.int j) (.int j)=some (.bl false):=by rw [kE,decide_eq_true rfl]; rfl
  exact pW (st (s4.trans g5)) (A3 (b:=false) (ou (b:=true) (ck (jW (aq (eh rfl rfl) aK) (oj _) rfl))) (fun _=>ck (be (eh rfl rfl) (ai rfl) ej)) nofun) fun H6 g6=>ux rfl (k H6 _ _ ((s4.trans g5).trans g6))
end
section
variable {P:Program} {w:World} {K:W.Frag} {mg:Str->Option Value} {base:Heap} {t:Adr}
set_option maxHeartbeats 4000000
theorem oS (T:Txt K mg t):dg P w K mg base CX0 3 t.de t.ie ["_law_tree","_law_rows","_law_facts"] (spP (cf t) K):=by
 have key:∀ {as:List Sm} {d:D},cf t as=some d->∃ mt cs mf,as=[.mu true mt,.mu true (.n .d cs),.mu true mf]/\Hl t mt mf cs/\d=.bl true:=fun {as d} e=>by
  unfold cf at e
  split at e
  ·rename_i h
   obtain ⟨mt,cs,mf,h1,h2⟩:=h
   exact ⟨mt,cs,mf,h1,h2,(Zj e).symm⟩
  · cases e
 refine T.cf.ok d9 (fun vs H Q E h=>?_) fun cdv A outer s H vs Q E hr h=>?_
 ·obtain ⟨Hs,fp,as,d,sm,st,e,_⟩:=h
  obtain ⟨mt,cs,mf,rfl,_⟩:=key e
  have:=st.len
  rw [List.length_map] at this
  exact this
 obtain ⟨Hs,fp,as,d,sm,st,e,k⟩:=h
 obtain ⟨mt,cs,mf,rfl,ok,rfl⟩:=key e
 obtain ⟨fs,efs,hm,hall⟩:=ok.ob
 refine ⟨_,zc T hr,?_⟩
 have l3:vs.length=3:=by have:=st.len; rw [List.length_map] at this; exact this
 match vs,l3,st,k with
 | [v1,v2,v3],_,st,k =>
 cases st with
 | @mu _ _ _ _ _ _ _ f1 fr1 od1 p1 z1 j1 st =>
 cases st with
 | @mu _ _ _ _ _ _ _ f2 fr2 od2 p2 z2 j2 st =>
 cases st with
 | @mu _ _ _ _ _ _ _ f3 fr3 od3 p3 z3 j3 st =>
 obtain ⟨a,q1,rfl⟩:=p1 rfl
 obtain ⟨lr,q2,rfl⟩:=p2 rfl
 obtain ⟨lf,q3,rfl⟩:=p3 rfl
 obtain ⟨lr',dx,ts,u,e1,rfl,rfl,hu,hl,nh,ku,nd,rr⟩:=od2.inv
 cases e1
 rw [xa hl] at hu
 unfold Ad
 refine ⟨_,rfl,lr,ts.map Kd.kv,rfl,hu,fun ob=>?_⟩
 have n1:∀ c ∈ f1,c≠lr:=fun c hc e=>j1 c hc (List.mem_append_left _ (by rw [e]; exact List.mem_cons_self ..))
 have n3:∀ c ∈ f3,c≠lr:=fun c hc e=>j2 lr (List.mem_cons_self ..) (List.mem_append_left _ (by rw [<- e]; exact hc))
 have n2:∀ c ∈ ts,∀ b ∈ c.fp,b≠lr:=fun c hc b hb e=>(List.nodup_cons.mp nd).1 (List.mem_flatMap.mpr ⟨c,hc,by rw [<- e]; exact hb⟩)
 generalize hH1:upd H lr (.frz ob (.dK (ts.map Kd.kv)))=H1
 have hne:∀ c,c≠lr->H1 c=H c:=fun c h=>by rw [<- hH1,ak h]
 have h1d:H1 lr=some (.frz ob (.dK (ts.map Kd.kv))):=by rw [<- hH1]; exact au
 have sm1:bY Hs H1:=fun c o q=>by rw [hne c fun e=>by rw [e,nh] at q; cases q]; exact sm c o q
 have mv:∀ {fq:List Addr} {v:V} {m:Mt},Od K Hs H fq v m->(∀ c ∈ fq,c≠lr)->Od K Hs H1 fq v m:=fun o n=>o.mv (.refl _) fun c hc=>⟨(o.live c hc).1,hne c (n c hc)⟩
 have rt:Rp K H1 (.ref a) (.obj t.ae fs):=by rw [<- efs]; exact (mv od1 n1).rp sm1
 have rfa:Rp K H1 (.ref lf) (frz mf):=(mv od3 n3).rp sm1
 obtain ⟨dxa,fv,hta,rfv⟩:∃ dxa fv,H1 a=some (.ins t.ae dxa fv)/\RpF K H1 fv fs:=by
  cases rt with
  | obj h r=>exact ⟨_,_,h,r⟩
 refine ⟨fun i m σ H'=>i+m=ts.length/\bY H1 H'/\∃ o3 o4 o5,σ=[some (.ref a),some (.ref lr),some (.ref lf),o3,o4,o5],⟨ts.length,by omega,.refl _,_,_,_,rfl⟩,?_⟩
 rintro i m σ H2 ⟨hmm,g2,o3,o4,o5,rfl⟩
 have h2d:=g2 _ _ h1d
 by_cases hi:i < ts.length
 ·refine .inr ⟨⟨h2d,by rw [List.length_map]; exact hi⟩,fun σ' H'=>bY H1 H'/\∃ o3 o4 o5,σ'=[some (.ref a),some (.ref lr),some (.ref lf),o3,o4,o5],fun σ' H' h=>⟨m - 1,by omega,by omega,h.1,h.2⟩,?_⟩
  rintro v H3 ⟨rfl,ky,wv,hk,rfl⟩
  have hb:=List.getElem?_eq_getElem hi
  have hc:=List.getElem_mem hi
  generalize ts[i]=c at hb hc
  rw [List.getElem?_map,hb] at hk
  have ek:c.k=ky:=(Prod.mk.inj (Zj hk)).1
  obtain ⟨ii,nm,hd,r,ec,S⟩:=hall c.km (List.mem_map_of_mem hc)
  obtain ⟨ec1,ec2⟩:=Prod.mk.inj ec
  have ek2:ky=.inl ii:=ek.symm.trans ec1
  subst ek2
  have odc:=mv (rr c hc) (n2 c hc)
  have ecm:c.m=lM (r.map .int):=ec2
  rw [ecm] at odc
  have rpc:=odc.rp sm1
  rw [kZ] at rpc
  obtain ⟨al,eal,hal⟩:∃ al,c.v=.ref al/\H1 al=some (.lst (r.map .int)):=by
   generalize c.v=cv at rpc
   cases rpc with
   | lst h rx=>exact ⟨_,rfl,by rw [h,Rps.hU rx]⟩
  have hvv:dD (ts.map Kd.kv) (.inl ii)=some (.ref al):=by
   have:dD (ts.map Kd.kv) c.k=some c.v:=by
    obtain ⟨l1,l2,rfl⟩:=List.append_of_mem hc
    rw [List.map_append,List.map_cons]
    refine kh fun y hy e=>?_
    obtain ⟨z,hz,rfl⟩:=List.mem_map.mp hy
    have ku':((l1++c::l2).map Kd.k).Nodup:=ku
    rw [List.map_append,List.map_cons,List.nodup_append] at ku'
    exact ku'.2.2 z.k (List.mem_map_of_mem hz) c.k (List.mem_cons_self ..) e
   rw [ek,eal] at this
   exact this
  show pL K t _ [some (.ref a),some (.ref lr),some (.ref lf),some (.int ii),o4,o5] H3
  exact yD (g2 _ _ hta) (rt.same g2) (rfv.same g2) hm (rfa.same g2) h2d hvv (g2 _ _ hal) S fun H4 o4 o5 g4=>⟨g2.trans g4,_,_,_,rfl⟩
 ·refine .inl ⟨⟨h2d,by rw [List.length_map]; omega⟩,lr,ob,ts.map Kd.kv,h2d,(fun o' u' z=>by rw [hu] at z; cases z),?_⟩
  refine k (.bl true) _ (fun c o q=>?_) (.bl true)
  by_cases e:c=lr
  ·subst e
   rw [hu] at q
   cases q
   exact au
  ·rw [ak e]
   exact g2 _ _ (by rw [hne c e]; exact q)
end
end N09
end
section
namespace N09
open PySem L2
structure B8 where
 i:Int
 h:Option Int
 n:Str
 r:List Int
 m:Bool
def mkD (b:B8):D:=.dct (if b.m=true then [((.inr b.n:Key),.bl true)] else [])
def kv {β:Type} (g:B8->β) (M:List B8):List (Key×β):=M.map fun b=>((.inl b.i:Key),g b)
def fd (M:List B8) (i:Int):Option B8:=M.find? fun b=>decide (b.i=i)
theorem kG {M:List B8} {i:Int} {b:B8} (h:fd M i=some b):b.i=i:=by simpa using List.find?_some h
theorem bc {M:List B8} {i:Int} {b:B8} (h:fd M i=some b):b ∈ M:=List.mem_of_find?_eq_some h
theorem va (g:B8->D) (M:List B8) (i:Int):nq (kv g M) (.inl i)=(fd M i).map g:=by
 unfold nq kv fd
 induction M with
 | nil=>rfl
 | cons b M ih =>
  rw [List.map_cons,List.find?_cons,List.find?_cons]
  by_cases h:b.i=i
  · simp [h]
  ·have:decide ((Sum.inl b.i:Key)=Sum.inl i)=false:=decide_eq_false fun z=>h (by injection z)
   rw [decide_eq_false h,this]
   exact ih
def hD:Option Int->D
 | none=>.non
 | some j=>.int j
def trF (gv:Int) (M:List B8):List (Str×D):=[("given",.int gv),("names",.dct (kv (fun b=>.str b.n) M)),("holders",.dct (kv (fun b=>hD b.h) M)),("boxes",.dct (kv (fun b=>.lst (b.r.map .int)) M)),("marks",.dct (kv mkD M)),("words",.dct (kv (fun _=>.lst []) M)),("rows",.dct (kv (fun _=>.tup []) M))]
def trD (C:Addr) (gv:Int) (M:List B8):D:=.obj C (trF gv M)
def faD (M:List B8):D:=.dct (kv (fun b=>.tup [hD b.h,.str b.n]) M)
theorem bQ {g:B8->D} {M:List B8} {i:Int} {b:B8} (h:fd M i=some b):bC (.dct (kv g M)) (.int i)=some (g b):=by
 show nq (kv g M) (.inl i)=_
 rw [va,h]
 rfl
theorem FN {g:B8->D} {M:List B8} {i:Int} {b:B8} (h:fd M i=some b):yt (.int i) (.dct (kv g M))=some (.bl true):=by
 show some (D.bl (nq (kv g M) (.inl i)).isSome)=_
 rw [va,h]
 rfl
theorem xG {g:B8->D} {M:List B8} {i:Int} {b:B8} (h:fd M i=some b):kF (.int i) (.dct (kv g M))=some (.bl false):=by
 show some (D.bl (!(nq (kv g M) (.inl i)).isSome))=_
 rw [va,h]
 rfl
section
variable {t:Adr} {gv:Int} {M:List B8} {i:Int} {b:B8} {z:Int}
theorem fN:(trF gv M).lookup (Str.ofString "names")=some (D.dct (kv (fun b=>.str b.n) M)):=rfl
theorem fH:(trF gv M).lookup (Str.ofString "holders")=some (D.dct (kv (fun b=>hD b.h) M)):=rfl
theorem fB:(trF gv M).lookup (Str.ofString "boxes")=some (D.dct (kv (fun b=>.lst (b.r.map .int)) M)):=rfl
theorem fK:(trF gv M).lookup (Str.ofString "marks")=some (D.dct (kv mkD M)):=rfl
theorem jZ (h:fd M i=some b):aW t [trD t.ae gv M,.int i]=some (.shr .non):=by
 have e1:=xG (g:=fun b=>.str b.n) h
 unfold aW lu
 exact HK (Gc (b:=false) (ck (be (ai rfl) (jX (ai rfl) fN) e1)) nofun fun _=>rfl)
theorem vt (h:fd M i=some b):cw t [trD t.ae gv M,.int i]=some (.shr (.bl true)):=by
 unfold cw ka
 exact iR (lD (be (ai rfl) (jX (ai rfl) fN) (FN h)))
theorem chk (h:fd M i=some b):oH (cS t.ae "check" (aW t) (aj 0) (ao (aj 1) aY)) [.shr (trD t.ae gv M),.shr (.int i)]=some (.next [.shr (trD t.ae gv M),.shr (.int i)]) :=
 DX (eW (ai rfl) (aq (ai rfl) aK) rfl (jZ h) rfl)
theorem Cr (h:fd M i=some b):bf t [trD t.ae gv M,.int i]=some (.shr (.str b.n)):=by
 unfold bf i9
 exact iR (eL (chk h) (lD (be (jX (ai rfl) fN) (ai rfl) (bQ h))))
theorem mH (h:fd M i=some b):aE t [trD t.ae gv M,.int i]=some (.shr (hD b.h)):=by
 unfold aE gH
 exact iR (eL (chk h) (lD (be (jX (ai rfl) fH) (ai rfl) (bQ h))))
theorem lR (h:fd M i=some b):aM t [trD t.ae gv M,.int i]=some (.own (.lst (b.r.map .int))):=by
 unfold aM iI
 exact iR (eL (chk h) (Aj (cD (aq (be (jX (ai rfl) fB) (ai rfl) (bQ h)) aK) rfl)))
theorem zE (h:fd M i=some b):bW t [trD t.ae gv M,.int i]=some (.own (.lst (if b.m=true then [.str b.n] else []))):=by
 unfold bW iH
 refine iR (eL (chk h) (Aj ?_))
 unfold xQ
 rw [be (jX (ai rfl) fK) (ai rfl) (bQ h)]
 unfold mkD
 cases b.m with
 | false =>
  show (if ([]:List Str).length < 64 then some (D.lst ((Af []).map .str)) else none)=_
  rw [if_pos (by decide)]
  unfold Af
  rw [List.mergeSort_nil]
  rfl
 | true =>
  show (if [b.n].length < 64 then some (D.lst ((Af [b.n]).map .str)) else none)=_
  rw [if_pos (show [b.n].length < 64 from Zb rfl)]
  unfold Af
  rw [List.mergeSort_singleton]
  rfl
inductive Ch (M:List B8):Int->Nat->Prop where
 | top {i:Int} {b:B8} (h:fd M i=some b) (e:b.h=none):Ch M i 0
 | up {i j:Int} {n:Nat} {b:B8} (h:fd M i=some b) (e:b.h=some j) (c:Ch M j n):Ch M i (n+1)
theorem Ch.get {n:Nat} (h:Ch M i n):∃ b,fd M i=some b:=by
 cases h with
 | top h _=>exact ⟨_,h⟩
 | up h _ _=>exact ⟨_,h⟩
theorem xI {n:Nat} (c:Ch M i n):∀ (m:Int),∃ x,cC (dT (dOp nE (dOp oIx (dOp bC (aj 0) (aj 1)) (dC (.int 0))) (dC .non))) (dX (pE 1 (dOp oIx (dOp bC (aj 0) (aj 1)) (dC (.int 0)))) (pE 2 (dOp gL (aj 2) (dC (.int 1))))) (n+1) [.shr (faD M),.shr (.int i),.shr (.int m)]=some (.next [.shr (faD M),.shr x,.shr (.int (m+n))]):=by
 induction c with
 | @top i b h e =>
  intro m
  have e1:bC (faD M) (.int i)=some (.tup [hD b.h,.str b.n]):=bQ h
  have t1:dT (dOp nE (dOp oIx (dOp bC (aj 0) (aj 1)) (dC (.int 0))) (dC .non)) [.shr (faD M),.shr (.int i),.shr (.int m)]=some false:=by
   rw [e] at e1
   exact ck (be (be (be (ai rfl) (ai rfl) e1) e_c (nN _ _)) e_c rfl)
  refine ⟨.int i,?_⟩
  unfold cC
  rw [t1]
  simp only [Int.natCast_zero,Int.add_zero]
 | @up i j n b h e c ih =>
  intro m
  have e1:bC (faD M) (.int i)=some (.tup [hD b.h,.str b.n]):=bQ h
  rw [e] at e1
  have t1:dT (dOp nE (dOp oIx (dOp bC (aj 0) (aj 1)) (dC (.int 0))) (dC .non)) [.shr (faD M),.shr (.int i),.shr (.int m)]=some true:=ck (be (be (be (ai rfl) (ai rfl) e1) e_c (nN _ _)) e_c rfl)
  have t2:dX (pE 1 (dOp oIx (dOp bC (aj 0) (aj 1)) (dC (.int 0)))) (pE 2 (dOp gL (aj 2) (dC (.int 1)))) [.shr (faD M),.shr (.int i),.shr (.int m)]=some (.next [.shr (faD M),.shr (.int j),.shr (.int (m+1))]) :=
   eL (τ':=[.shr (faD M),.shr (.int j),.shr (.int m)]) ((rz (be (be (ai rfl) (ai rfl) e1) e_c (nN _ _))).trans rfl) ((rz (be (ai rfl) e_c (bA _ _))).trans rfl)
  obtain ⟨x,hx⟩:=ih (m+1)
  refine ⟨x,?_⟩
  conv=>lhs; unfold cC
  rw [t1]
  simp only [t2]
  rw [hx]
  simp only [Int.natCast_add,Int.natCast_one,show m+1+(n:Int)=m+((n:Int)+1) by omega]
theorem pe {n:Nat} (c:Ch M i n):aV [faD M,.int i]=some (.shr (.int (n:Int))):=by
 obtain ⟨x,hx⟩:=xI c 0
 have w:=jL hx
 unfold aV m3
 refine iR (eL (τ':=[.shr (faD M),.shr (.int i),.shr (.int 0)]) rfl (eL w (lD ?_)))
 rw [Int.zero_add]
 exact ai rfl
theorem qv {n:Nat} (c:Ch M i n):∀ (ds:List D) (b:B8),fd M i=some b->ds.length+n < 100000->∃ es:List D,es.length=ds.length+n/\cC (dT (dOp nE (aj 3) (dC .non))) (dX (vA 2 (aj 3)) (pE 3 (cS t.ae "holder_of" (aE t) (aj 0) (ao (aj 3) aY)))) (n+1) [.shr (trD t.ae gv M),.shr (.int z),.own (.lst ds),.shr (hD b.h)]=some (.next [.shr (trD t.ae gv M),.shr (.int z),.own (.lst es),.shr .non]):=by
 induction c with
 | @top i b h e =>
  intro ds b' hb hz
  rw [h] at hb
  cases hb
  refine ⟨ds,rfl,?_⟩
  rw [e]
  have t1:dT (dOp nE (aj 3) (dC .non)) [.shr (trD t.ae gv M),.shr (.int z),.own (.lst ds),.shr (hD none)]=some false:=rfl
  unfold cC
  rw [t1]
  rfl
 | @up i j n b h e c ih =>
  intro ds b' hb hz
  rw [h] at hb
  cases hb
  obtain ⟨bj,hj⟩:=c.get
  obtain ⟨es,l,hx⟩:=ih (ds++[.int j]) bj hj (by rw [List.length_append]; show ds.length+1+n < _; omega)
  refine ⟨es,by rw [l,List.length_append]; show ds.length+1+n=_; omega,?_⟩
  rw [e]
  have t1:dT (dOp nE (aj 3) (dC .non)) [.shr (trD t.ae gv M),.shr (.int z),.own (.lst ds),.shr (hD (some j))]=some true:=rfl
  have t2:dX (vA 2 (aj 3)) (pE 3 (cS t.ae "holder_of" (aE t) (aj 0) (ao (aj 3) aY))) [.shr (trD t.ae gv M),.shr (.int z),.own (.lst ds),.shr (hD (some j))]=some (.next [.shr (trD t.ae gv M),.shr (.int z),.own (.lst (ds++[.int j])),.shr (hD bj.h)]) :=
   eL (τ':=[.shr (trD t.ae gv M),.shr (.int z),.own (.lst (ds++[.int j])),.shr (.int j)]) ((DY (ai rfl) rfl (by omega)).trans rfl) ((rz (eW (ai rfl) (aq (ai rfl) aK) rfl (mH hj) rfl)).trans rfl)
  conv=>lhs; unfold cC
  rw [t1]
  simp only [t2]
  exact hx
theorem lQ {n:Nat} (c:Ch M i n) (hn:n < 1000):bw t [trD t.ae gv M,.int i]=some (.shr (.int (n:Int))):=by
 obtain ⟨b,h⟩:=c.get
 obtain ⟨es,l,hx⟩:=qv (t:=t) (z:=i) c [] b h (by rw [List.length_nil]; omega)
 have w:=jL hx
 have e1:cH t [trD t.ae gv M,.int i]=some (.own (.lst es)):=by
  unfold cH lg
  exact iR (eL (pS (lK aK (Nat.zero_le _)) (Zb rfl)) (eL ((rz (eW (ai rfl) (aq (ai rfl) aK) rfl (mH h) rfl)).trans rfl) (eL w (vw rfl))))
 unfold bw oa
 refine iR (lD (cD (aq (jW (aq (ai rfl) (aq (ai rfl) aK)) e1 rfl) aK) ?_))
 show some (D.int (es.length:Int))=_
 rw [l,List.length_nil,Nat.zero_add]
end
end N09
end
section
namespace N09
open PySem L2
def trG (C:Addr) (g nm ho bx mk wd rw:Mt):Mt:=.n (.o C) [(.inr "given",g),(.inr "names",nm),(.inr "holders",ho),(.inr "boxes",bx),(.inr "marks",mk),(.inr "words",wd),(.inr "rows",rw)]
def kM (g:B8->Mt) (M:List B8):Mt:=.n .d (kv g M)
def mkM (b:B8):Mt:=.n .d (if b.m=true then [((.inr b.n:Key),.s (.bl true))] else [])
def bxM (M:List B8):Mt:=kM (fun b=>lM (b.r.map .int)) M
def trM (C:Addr) (gv:Int) (M:List B8):Mt:=trG C (.s (.int gv)) (kM (fun b=>.s (.str b.n)) M) (kM (fun b=>.s (hD b.h)) M) (bxM M) (kM mkM M) (kM (fun _=>lM []) M) (kM (fun _=>.s (.tup [])) M)
def faM (M:List B8):Mt:=kM (fun b=>.s (.tup [hD b.h,.str b.n])) M
theorem C0 (g:B8->Mt) (M:List B8):frz (kM g M)=.dct (kv (fun b=>frz (g b)) M):=by
 unfold kM kv
 rw [frz,tw,List.map_map]
 rfl
theorem CZ (d:D):frz (.s d)=d:=by rw [frz]
theorem Fx:frz (.n .d [])=.dct []:=by rw [frz,AM]
theorem Fw (b:B8):frz (mkM b)=mkD b:=by
 unfold mkM mkD
 cases b.m with
 | false=>exact Fx
 | true=>rw [if_pos rfl,if_pos rfl,frz,AM,AM,CZ]
theorem qx (C:Addr) (gv:Int) (M:List B8):frz (trM C gv M)=trD C gv M:=by
 unfold trM trG bxM
 rw [frz]
 simp only [tx,List.map_cons,List.map_nil,C0,CZ,kZ,Fw,strOf]
 rfl
theorem mJ (M:List B8):frz (bxM M)=.dct (kv (fun b=>.lst (b.r.map .int)) M):=by
 unfold bxM
 rw [C0]
 simp only [kZ]
theorem k5 (M:List B8):frz (faM M)=faD M:=by
 unfold faM faD
 rw [C0]
 simp only [CZ]
theorem t5 {C:Addr} {g nm ho bx mk wd rw x:Mt}:(trG C g nm ho bx mk wd rw).put [.k (.inr "boxes")] x=trG C g nm ho x mk wd rw:=by
 show Mt.n (.o C) [(.inr "given",g),(.inr "names",nm),(.inr "holders",ho),(.inr "boxes",bx.put [] x),(.inr "marks",mk),(.inr "words",wd),(.inr "rows",rw)]=_
 cases bx <;> rfl
theorem vi {C:Addr} {g nm ho bx mk wd rw:Mt} {k:Key}:(trG C g nm ho bx mk wd rw).get [.k (.inr "boxes"),.k k]=bx.get [.k k]:=rfl
theorem lU {C:Addr} {g nm ho bx mk wd rw x:Mt} {k:Key}:(trG C g nm ho bx mk wd rw).put [.k (.inr "boxes"),.k k] x=trG C g nm ho (bx.put [.k k] x) mk wd rw:=rfl
theorem qw (g:B8->Mt) (M:List B8) (i:Int):(kM g M).get [.k (.inl i)]=(fd M i).map g:=by
 unfold kM
 rw [zV]
 unfold kv fd
 induction M with
 | nil=>rfl
 | cons b M ih =>
  rw [List.map_cons,List.find?_cons,List.find?_cons]
  by_cases h:b.i=i
  · simp [h]
  ·have:decide ((Sum.inl b.i:Key)=Sum.inl i)=false:=decide_eq_false fun z=>h (by injection z)
   rw [decide_eq_false h,this]
   exact ih
end N09
end
section
namespace N09
open PySem L2
theorem vJ {C:Addr} {g ho bx mk wd rw mv:Mt} {cs:List (Key×Mt)} {b:Bool} {r:List Sm} {gk:DE} {fv:DEm} {s:Sm} {d:D} {k:Key} (h1:fv (.mu b (trG C g (.n .d cs) ho bx mk wd rw)::r)=some (s,.mu b (trG C g (.n .d cs) ho bx mk wd rw)::r)) (h3:gk (bB (.mu b (trG C g (.n .d cs) ho bx mk wd rw)::r))=some d) (h4:nt d=some k) (h5:toM s=some mv) (h7:cs.length < 100000) :
  bH (ee C "names" (aU 0)) gk fv (.mu b (trG C g (.n .d cs) ho bx mk wd rw)::r)=some (.next (.mu b (trG C g (.n .d (gK cs k mv)) ho bx mk wd rw)::r)):=by
 refine (gG h1 (nu cK rfl) h3 h4 h5 rfl h7).trans ?_
 rfl
theorem l8 {C:Addr} {g nm bx mk wd rw mv:Mt} {cs:List (Key×Mt)} {b:Bool} {r:List Sm} {gk:DE} {fv:DEm} {s:Sm} {d:D} {k:Key} (h1:fv (.mu b (trG C g nm (.n .d cs) bx mk wd rw)::r)=some (s,.mu b (trG C g nm (.n .d cs) bx mk wd rw)::r)) (h3:gk (bB (.mu b (trG C g nm (.n .d cs) bx mk wd rw)::r))=some d) (h4:nt d=some k) (h5:toM s=some mv) (h7:cs.length < 100000) :
  bH (ee C "holders" (aU 0)) gk fv (.mu b (trG C g nm (.n .d cs) bx mk wd rw)::r)=some (.next (.mu b (trG C g nm (.n .d (gK cs k mv)) bx mk wd rw)::r)):=by
 refine (gG h1 (nu cK rfl) h3 h4 h5 rfl h7).trans ?_
 rfl
theorem vM {C:Addr} {g nm ho mk wd rw mv:Mt} {cs:List (Key×Mt)} {b:Bool} {r:List Sm} {gk:DE} {fv:DEm} {s:Sm} {d:D} {k:Key} (h1:fv (.mu b (trG C g nm ho (.n .d cs) mk wd rw)::r)=some (s,.mu b (trG C g nm ho (.n .d cs) mk wd rw)::r)) (h3:gk (bB (.mu b (trG C g nm ho (.n .d cs) mk wd rw)::r))=some d) (h4:nt d=some k) (h5:toM s=some mv) (h7:cs.length < 100000) :
  bH (ee C "boxes" (aU 0)) gk fv (.mu b (trG C g nm ho (.n .d cs) mk wd rw)::r)=some (.next (.mu b (trG C g nm ho (.n .d (gK cs k mv)) mk wd rw)::r)):=by
 refine (gG h1 (nu cK rfl) h3 h4 h5 rfl h7).trans ?_
 rfl
theorem vK {C:Addr} {g nm ho bx wd rw mv:Mt} {cs:List (Key×Mt)} {b:Bool} {r:List Sm} {gk:DE} {fv:DEm} {s:Sm} {d:D} {k:Key} (h1:fv (.mu b (trG C g nm ho bx (.n .d cs) wd rw)::r)=some (s,.mu b (trG C g nm ho bx (.n .d cs) wd rw)::r)) (h3:gk (bB (.mu b (trG C g nm ho bx (.n .d cs) wd rw)::r))=some d) (h4:nt d=some k) (h5:toM s=some mv) (h7:cs.length < 100000) :
  bH (ee C "marks" (aU 0)) gk fv (.mu b (trG C g nm ho bx (.n .d cs) wd rw)::r)=some (.next (.mu b (trG C g nm ho bx (.n .d (gK cs k mv)) wd rw)::r)):=by
 refine (gG h1 (nu cK rfl) h3 h4 h5 rfl h7).trans ?_
 rfl
theorem vG {C:Addr} {g nm ho bx mk rw mv:Mt} {cs:List (Key×Mt)} {b:Bool} {r:List Sm} {gk:DE} {fv:DEm} {s:Sm} {d:D} {k:Key} (h1:fv (.mu b (trG C g nm ho bx mk (.n .d cs) rw)::r)=some (s,.mu b (trG C g nm ho bx mk (.n .d cs) rw)::r)) (h3:gk (bB (.mu b (trG C g nm ho bx mk (.n .d cs) rw)::r))=some d) (h4:nt d=some k) (h5:toM s=some mv) (h7:cs.length < 100000) :
  bH (ee C "words" (aU 0)) gk fv (.mu b (trG C g nm ho bx mk (.n .d cs) rw)::r)=some (.next (.mu b (trG C g nm ho bx mk (.n .d (gK cs k mv)) rw)::r)):=by
 refine (gG h1 (nu cK rfl) h3 h4 h5 rfl h7).trans ?_
 rfl
theorem yK {C:Addr} {g nm ho bx mk wd mv:Mt} {cs:List (Key×Mt)} {b:Bool} {r:List Sm} {gk:DE} {fv:DEm} {s:Sm} {d:D} {k:Key} (h1:fv (.mu b (trG C g nm ho bx mk wd (.n .d cs))::r)=some (s,.mu b (trG C g nm ho bx mk wd (.n .d cs))::r)) (h3:gk (bB (.mu b (trG C g nm ho bx mk wd (.n .d cs))::r))=some d) (h4:nt d=some k) (h5:toM s=some mv) (h7:cs.length < 100000) :
  bH (ee C "rows" (aU 0)) gk fv (.mu b (trG C g nm ho bx mk wd (.n .d cs))::r)=some (.next (.mu b (trG C g nm ho bx mk wd (.n .d (gK cs k mv)))::r)):=by
 refine (gG h1 (nu cK rfl) h3 h4 h5 rfl h7).trans ?_
 rfl
theorem xB {C:Addr} {g nm ho bx mk wd rw mv:Mt} {b:Bool} {r:List Sm} {fv:DEm} {s:Sm} (h1:fv (.mu b (trG C g nm ho bx mk wd rw)::r)=some (s,.mu b (trG C g nm ho bx mk wd rw)::r)) (h5:toM s=some mv) :
  jM C "given" (aU 0) fv (.mu b (trG C g nm ho bx mk wd rw)::r)=some (.next (.mu b (trG C mv nm ho bx mk wd rw)::r)):=by
 refine (E1 h1 cK h5 rfl (Zb rfl)).trans ?_
 rfl
def Nd (M:List B8):Prop:=(M.map B8.i).Nodup
theorem fd_none {M:List B8} {i:Int}:fd M i=none↔∀ b ∈ M,b.i≠i:=by
 unfold fd
 rw [List.find?_eq_none]
 exact ⟨fun h b hb e=>h b hb (by simp [e]),fun h b hb e=>h b hb (by simpa using e)⟩
theorem lJ {M:List B8} (nd:Nd M) {b:B8} (hb:b ∈ M):fd M b.i=some b:=by
 unfold Nd at nd
 unfold fd
 induction M with
 | nil=>cases hb
 | cons c M ih =>
  rw [List.map_cons,List.nodup_cons] at nd
  rw [List.find?_cons]
  rcases List.mem_cons.mp hb with rfl | hb
  · simp
  ·have ne:c.i≠b.i:=fun e=>nd.1 (by rw [e]; exact List.mem_map_of_mem hb)
   rw [decide_eq_false ne]
   exact ih nd.2 hb
theorem AX {β:Type} (g:B8->β) (M:List B8) (i:Int):((kv g M).any fun c=>decide (c.1=.inl i))=(fd M i).isSome:=by
 unfold kv fd
 rw [List.any_map,<- List.isSome_find?]
 congr 2
 funext b
 show decide ((Sum.inl b.i:Key)=Sum.inl i)=decide (b.i=i)
 exact decide_eq_decide.mpr ⟨fun z=>by injection z,fun z=>by rw [z]⟩
theorem yM {g:B8->Mt} {M:List B8} {i:Int} {m:Mt} (h:fd M i=none):gK (kv g M) (.inl i) m=kv g M++[(.inl i,m)]:=by
 unfold gK
 rw [AX,h]
 rfl
theorem CL {β:Type} (g:B8->β) (M:List B8) (b:B8):kv g (M++[b])=kv g M++[(.inl b.i,g b)]:=by
 unfold kv
 rw [List.map_append]
 rfl
theorem l9 {g:B8->Mt} {M:List B8} {b:B8} (h:fd M b.i=none):gK (kv g M) (.inl b.i) (g b)=kv g (M++[b]):=by rw [yM h,CL]
theorem iW {β:Type} (g:B8->β) (M:List B8):(kv g M).length=M.length:=List.length_map _
def upR (M:List B8) (i:Int) (r:List Int):List B8:=M.map fun b=>if b.i=i then { b with r:=r } else b
theorem tX {β:Type} (g:B8->β) (M:List B8) (i:Int) (r:List Int) (hg:∀ b:B8,g { b with r:=r }=g b):kv g (upR M i r)=kv g M:=by
 unfold kv upR
 rw [List.map_map]
 refine List.map_congr_left fun b _=>?_
 show ((Sum.inl (if b.i=i then { b with r:=r } else b).i:Key),g (if b.i=i then { b with r:=r } else b))=_
 split
 · rw [hg]
 · rfl
theorem sM {M:List B8} {i:Int} {b:B8} {r:List Int} (nd:Nd M) (h:fd M i=some b):(bxM M).put [.k (.inl i)] (lM (r.map .int))=bxM (upR M i r):=by
 unfold bxM kM
 have hb:=bc h
 have hi:=kG h
 obtain ⟨l1,l2,rfl⟩:=List.append_of_mem hb
 have nd':=nd
 unfold Nd at nd'
 rw [List.map_append,List.map_cons,List.nodup_append,List.nodup_cons] at nd'
 have n1:∀ c ∈ l1,c.i≠i:=fun c hc e=>nd'.2.2 c.i (List.mem_map_of_mem hc) b.i (List.mem_cons_self ..) (by rw [e,hi])
 have n2:∀ c ∈ l2,c.i≠i:=fun c hc e=>nd'.2.1.1 (by rw [hi,<- e]; exact List.mem_map_of_mem hc)
 have ix:((kv (fun b=>lM (b.r.map .int)) (l1++b::l2)).findIdx? fun c=>decide (c.1=.inl i))=some l1.length:=by
  unfold kv
  rw [List.findIdx?_map,List.findIdx?_append]
  have e1:(l1.findIdx? ((fun c:Key×Mt=>decide (c.1=Sum.inl i)) ∘ fun b=>((.inl b.i:Key),lM (b.r.map .int))))=none:=by
   rw [List.findIdx?_eq_none_iff]
   intro c hc
   exact decide_eq_false fun z=>n1 c hc (by injection z)
  rw [e1,List.findIdx?_cons]
  have e2:((fun c:Key×Mt=>decide (c.1=Sum.inl i)) ∘ fun b:B8=>((.inl b.i:Key),lM (b.r.map .int))) b=true:=decide_eq_true (by show (Sum.inl b.i:Key)=Sum.inl i; rw [hi])
  rw [e2]
  simp
 have gx:(kv (fun b=>lM (b.r.map .int)) (l1++b::l2))[l1.length]?=some ((.inl b.i:Key),lM (b.r.map .int)):=by
  unfold kv
  rw [List.getElem?_map,List.getElem?_append_right (Nat.le_refl _),Nat.sub_self]
  rfl
 show (match (kv (fun b=>lM (b.r.map .int)) (l1++b::l2)).findIdx? (fun c=>decide (c.1=.inl i)) with | none=>Mt.n .d (kv (fun b=>lM (b.r.map .int)) (l1++b::l2)) | some j=>match (kv (fun b=>lM (b.r.map .int)) (l1++b::l2))[j]? with | none=>Mt.n .d (kv (fun b=>lM (b.r.map .int)) (l1++b::l2)) | some c=>.n .d ((kv (fun b=>lM (b.r.map .int)) (l1++b::l2)).set j (c.1,Mt.put c.2 [] (lM (r.map .int)))))=_
 simp only [ix,gx]
 congr 1
 unfold kv upR
 rw [List.map_append,List.map_cons,List.map_append,List.map_cons,List.map_append,List.map_cons,List.set_append_right _ _ (by rw [List.length_map]; exact Nat.le_refl _),List.length_map,Nat.sub_self]
 congr 1
 ·rw [List.map_map]
  refine List.map_congr_left fun c hc=>?_
  show _=((Sum.inl (if c.i=i then { c with r:=r } else c).i:Key),lM ((if c.i=i then { c with r:=r } else c).r.map .int))
  rw [if_neg (n1 c hc)]
 ·show (_,Mt.put (lM (b.r.map .int)) [] (lM (r.map .int)))::_=_
  rw [if_pos hi]
  congr 1
  rw [List.map_map]
  refine List.map_congr_left fun c hc=>?_
  show _=((Sum.inl (if c.i=i then { c with r:=r } else c).i:Key),lM ((if c.i=i then { c with r:=r } else c).r.map .int))
  rw [if_neg (n2 c hc)]
end N09
end
section
namespace N09
open PySem L2
section
variable {t:Adr} {gv:Int} {M:List B8} {nm:Str} {h:Option Int}
theorem kj {C:Addr} {b:Bool} {r:List Sm}:bB (.mu b (trM C gv M)::r)=.shr (trD C gv M)::bB r:=by
 show DQ (.mu b (trM C gv M))::_=_
 show Sl.shr (frz (trM C gv M))::_=_
 rw [qx]
theorem tH (hl:M.length < 1000) (hf:fd M gv=none):cJ t [.mu true (trM t.ae gv M),.shr (hD h),.shr (.str nm)]=some (.shr (.int gv),[.mu true (trM t.ae (gv+1) (M++[⟨gv,h,nm,[],false⟩])),.no,.no]):=by
 unfold cJ ls
 refine (gT (s:=.shr (.int gv)) (τ:=[.mu true (trM t.ae (gv+1) (M++[⟨gv,h,nm,[],false⟩])),.shr (hD h),.shr (.str nm),.shr (.int gv)]) ?_).trans rfl
 have hz:∀ g:B8->Mt,(kv g M).length < 100000:=fun g=>by rw [iW]; omega
 refine aQ (τ':=[.mu true (trM t.ae gv M),.shr (hD h),.shr (.str nm),.shr (.int gv)]) (dF (s:=.shr (.int gv)) (v_S ?_ rfl) (Zb rfl) rfl) ?_
 ·show dUn (nr t.ae "given") (aj 0) (bB (.mu true (trM t.ae gv M)::[.shr (hD h),.shr (.str nm),.no]))=_
  rw [kj]
  exact jX (ai rfl) rfl
 refine aQ (xB (mv:=.s (.int (gv+1))) (v_N (be (ai rfl) e_c (bA _ _))) rfl) ?_
 refine aQ (vJ (v_N (ai rfl)) (ai rfl) rfl rfl (hz _)) ?_
 refine aQ (l8 (v_N (ai rfl)) (ai rfl) rfl rfl (hz _)) ?_
 refine aQ (vM (v_O (lK aK (Nat.zero_le _)) rfl) (ai rfl) rfl rfl (hz _)) ?_
 refine aQ (vK rfl (ai rfl) rfl rfl (hz _)) ?_
 refine aQ (vG (v_O (lK aK (Nat.zero_le _)) rfl) (ai rfl) rfl rfl (hz _)) ?_
 refine aQ (yK (v_N (zU aK (Nat.zero_le _))) (ai rfl) rfl rfl (hz _)) ?_
 refine (rO (v_N (ai rfl))).trans ?_
 have sn:∀ g:B8->Mt,gK (kv g M) (.inl gv) (g ⟨gv,h,nm,[],false⟩)=kv g (M++[⟨gv,h,nm,[],false⟩]):=fun g=>l9 (b:=⟨gv,h,nm,[],false⟩) hf
 unfold trM bxM kM
 rw [<- sn,<- sn,<- sn,<- sn,<- sn,<- sn]
 rfl
theorem jm {C:Addr} {x:Str} {cs:List (Key×Mt)} {mv:Mt} {b:Bool} {r:List Sm} {fv:DEm} {s:Sm} (h1:fv (.mu b (.n (.o C) cs)::r)=some (s,.mu b (.n (.o C) cs)::r)) (h5:toM s=some mv) (h7:cs.length < 1000) :
 jM C x (aU 0) fv (.mu b (.n (.o C) cs)::r)=some (.next (.mu b (.n (.o C) (gK cs (.inr x) mv))::r)):=(E1 h1 cK h5 rfl h7).trans rfl
theorem CT (hn:dQ nm=true):bX t [.mu true (.n (.o t.ae) []),.shr (.str nm)]=some (.shr .non,[.mu true (trM t.ae 1 [⟨0,none,nm,[],false⟩]),.no]):=by
 unfold bX iJ
 refine (DZ (τ:=[.mu true (trM t.ae 1 [⟨0,none,nm,[],false⟩]),.shr (.str nm)]) ?_).trans rfl
 refine aQ (gf (jW (aq (ai rfl) aK) (gr hn) rfl)) ?_
 refine aQ (jm (v_N e_c) rfl (Zb rfl)) ?_
 refine aQ (jm rfl rfl (Zb rfl)) ?_
 refine aQ (jm rfl rfl (Zb rfl)) ?_
 refine aQ (jm rfl rfl (Zb rfl)) ?_
 refine aQ (jm rfl rfl (Zb rfl)) ?_
 refine aQ (jm rfl rfl (Zb rfl)) ?_
 refine aQ (jm rfl rfl (Zb rfl)) ?_
 have e:=tH (t:=t) (gv:=0) (M:=[]) (nm:=nm) (h:=none) (by decide) rfl
 refine AE (s:=.shr (.int 0)) (v_M (C:=t.ae) (i:=0) (q:=[]) (ss:=[.mu true (trM t.ae 0 []),.shr (hD none),.shr (.str nm)]) cK rfl rfl (bV (q_N e_c) (bV (q_N (ai rfl)) rfl)) rfl e ?_)
 rfl
end
end N09
end
section
namespace N09
open PySem L2
def insI (r:List Int) (p x:Int):List Int:=r.take p.toNat++x::r.drop p.toNat
theorem tm (r:List Int) (p x:Int):Mt.n .l (Hi ((r.map D.int).map fun d=>((.inl 0:Key),Mt.s d)) p.toNat (.s (.int x)))=lM ((insI r p x).map .int):=by
 unfold lM insI Hi
 rw [List.map_append,List.map_append,List.map_cons,List.map_cons,List.map_take,List.map_take,List.map_drop,List.map_drop]
theorem FF {M:List B8} {i:Int} {b c:B8} (h:fd M i=some b):fd (M++[c]) i=some b:=by
 unfold fd at *
 rw [List.find?_append,h]
 rfl
theorem Ax {M:List B8} {b:B8} (nd:Nd M) (h:fd M b.i=none):Nd (M++[b]):=by
 unfold Nd at *
 rw [List.map_append,List.nodup_append]
 refine ⟨nd,by simp,fun x hx y hy e=>?_⟩
 obtain ⟨c,hc,rfl⟩:=List.mem_map.mp hx
 have:y=b.i:=by simpa using hy
 exact fd_none.mp h c hc (by rw [e,this])
theorem CV {i j:Int} (h:i<=j):oGt (.int i) (.int j)=some (.bl false):=by
 show some (D.bl (decide _))=_
 rw [decide_eq_false (by omega)]
theorem wZ {g:B8->D} (M:List B8):mi [.dct (kv g M)]=some (.int (M.length:Int)):=by
 show some (D.int ((kv g M).length:Nat))=_
 rw [iW]
def dY (M:List B8) (h:Int) (b:B8) (p gv:Int) (nm:Str):List B8:=upR (M++[⟨gv,some h,nm,[],false⟩]) h (insI b.r p gv)
theorem vh {C:Addr} {gv:Int} {M:List B8} {i:Int} {r:List Int}:trM C gv (upR M i r)=trG C (.s (.int gv)) (kM (fun b=>.s (.str b.n)) M) (kM (fun b=>.s (hD b.h)) M) (bxM (upR M i r)) (kM mkM M) (kM (fun _=>lM []) M) (kM (fun _=>.s (.tup [])) M):=by
 unfold trM kM
 rw [tX _ _ _ _ (fun _=>rfl),tX _ _ _ _ (fun _=>rfl),tX _ _ _ _ (fun _=>rfl),tX _ _ _ _ (fun _=>rfl),tX _ _ _ _ (fun _=>rfl)]
section
variable {t:Adr} {gv:Int} {M:List B8} {nm:Str} {h p:Int} {b:B8} {dp:Nat}
theorem D8 (nd:Nd M) (hf:fd M gv=none) (hb:fd M h=some b) (p0:0<=p) (p1:p<=(b.r.length:Int)) (hz:b.r.length < 1000) (hn:dQ nm=true) (h90:M.length < 90) (ch:Ch M h dp) (h12:dp < 12) :
  eI t [.mu true (trM t.ae gv M),.shr (.int h),.shr (.int p),.shr (.str nm)]=some (.shr (.int gv),[.mu true (trM t.ae (gv+1) (dY M h b p gv nm)),.no,.no,.no]):=by
 unfold eI oi
 refine (gT (s:=.shr (.int gv)) (τ:=[.mu true (trM t.ae (gv+1) (dY M h b p gv nm)),.shr (.int h),.shr (.int p),.shr (.str nm),.shr (.int gv)]) ?_).trans rfl
 have sn:∀ {x:Sm},bB [.mu true (trM t.ae gv M),.shr (.int h),.shr (.int p),.shr (.str nm),x]=.shr (trD t.ae gv M)::bB [.shr (.int h),.shr (.int p),.shr (.str nm),x]:=kj
 refine aQ (gf (τ:=[.mu true (trM t.ae gv M),.shr (.int h),.shr (.int p),.shr (.str nm),.no]) (by rw [sn]; exact eW (ai rfl) (aq (ai rfl) aK) rfl (jZ hb) rfl)) ?_
 refine aQ (gf (by rw [sn]; exact jW (aq (ai rfl) (aq (be (jX (ai rfl) fB) (ai rfl) (bQ hb)) aK)) (iY p0 p1) rfl)) ?_
 refine aQ (gf (by rw [sn]; exact jW (aq (ai rfl) aK) (gr hn) rfl)) ?_
 refine aQ (lI (t_S (by rw [sn]; exact ck (be (be (cD (aq (jX (ai rfl) fN) aK) (wZ M)) e_c (bA _ _)) e_c (CV (by omega))))) rfl) ?_
 refine aQ (lI (t_S (by rw [sn]; exact ck (be (be (jW (aq (ai rfl) (aq (ai rfl) aK)) (lQ ch (by omega)) rfl) e_c (bA _ _)) e_c (CV (by omega))))) rfl) ?_
 have e:=tH (t:=t) (nm:=nm) (h:=some h) (show M.length < 1000 by omega) hf
 refine aQ (τ':=[.mu true (trM t.ae (gv+1) (M++[⟨gv,some h,nm,[],false⟩])),.shr (.int h),.shr (.int p),.shr (.str nm),.shr (.int gv)]) (dF (s:=.shr (.int gv)) (v_M (C:=t.ae) (i:=0) (q:=[]) (ss:=[.mu true (trM t.ae gv M),.shr (hD (some h)),.shr (.str nm)]) (τ':=[.mu true (trM t.ae (gv+1) (M++[⟨gv,some h,nm,[],false⟩])),.shr (.int h),.shr (.int p),.shr (.str nm),.no]) cK rfl rfl (bV (q_N (ai rfl)) (bV (q_N (ai rfl)) rfl)) rfl e rfl) (Zb rfl) rfl) ?_
 have hb1:fd (M++[⟨gv,some h,nm,[],false⟩]) h=some b:=FF hb
 have nd1:Nd (M++[⟨gv,some h,nm,[],false⟩]):=Ax (b:=⟨gv,some h,nm,[],false⟩) nd hf
 have hg:bE [.mu true (trM t.ae (gv+1) (M++[⟨gv,some h,nm,[],false⟩])),.shr (.int h),.shr (.int p),.shr (.str nm),.shr (.int gv)] 0 [.k (.inr "boxes"),.k (.inl h)]=some (lM (b.r.map .int)):=by
  rw [p8 rfl]
  refine vi.trans ?_
  refine (qw _ _ _).trans ?_
  rw [hb1]
  rfl
 refine aQ (zG (cs0:=_) (u6 (nu cK rfl) (ai rfl) rfl rfl) hg (ai rfl) (v_N (ai rfl)) rfl hg ⟨p0,by rw [List.length_map,List.length_map]; exact p1,by rw [List.length_map,List.length_map]; omega⟩) ?_
 rw [kY rfl,tm]
 refine (rO (v_N (ai rfl))).trans ?_
 have ep:(trM t.ae (gv+1) (M++[⟨gv,some h,nm,[],false⟩])).put [.k (.inr "boxes"),.k (.inl h)] (lM ((insI b.r p gv).map .int))=trM t.ae (gv+1) (dY M h b p gv nm):=by
  refine lU.trans ?_
  rw [sM nd1 hb1]
  unfold dY
  rw [vh]
 show some (Aa.ret _ (List.set _ 0 (.mu true ((trM t.ae (gv+1) (M++[⟨gv,some h,nm,[],false⟩])).put [.k (.inr "boxes"),.k (.inl h)] (lM ((insI b.r p gv).map .int))))))=_
 rw [ep]
 rfl
end
end N09
end
section
namespace N09
open PySem L2
structure MOk (gv:Int) (M:List B8):Prop where
 nd:Nd M
 lt:∀ b ∈ M,0<=b.i/\b.i < gv
 root:∃ b,fd M 0=some b/\b.h=none
 hol:∀ b ∈ M,b.i≠0->∃ j p,b.h=some j/\fd M j=some p/\b.i ∈ p.r
 kid:∀ b ∈ M,∀ c ∈ b.r,∃ d,fd M c=some d/\d.h=some b.i
 rnd:∀ b ∈ M,b.r.Nodup
 ch:∀ b ∈ M,∃ n,Ch M b.i n/\n<=12
inductive Anc (M:List B8) (a:Int):Int->Prop where
 | refl:Anc M a a
 | up {x j:Int} {b:B8} (h:fd M x=some b) (e:b.h=some j) (c:Anc M a j):Anc M a x
inductive Sub (M:List B8):List Int->List Int->Prop where
 | nil:Sub M [] []
 | cons {c:Int} {cs l1 l2:List Int} {b:B8} (h:fd M c=some b) (h1:Sub M b.r l1) (h2:Sub M cs l2):Sub M (c::cs) (c::(l1++l2))
section
variable {gv:Int} {M:List B8}
theorem MOk.h0 (m:MOk gv M) {i j:Int} {b:B8} (hb:fd M i=some b) (hj:b.h=some j):i≠0:=fun e=>by
 obtain ⟨r,r1,r2⟩:=m.root
 rw [e,r1] at hb
 cases hb
 rw [r2] at hj
 cases hj
theorem MOk.CM (m:MOk gv M) {i c:Int} {b:B8} (hb:fd M i=some b) (hc:c ∈ b.r):∃ d,fd M c=some d/\d.h=some i:=by
 obtain ⟨d,h1,h2⟩:=m.kid b (bc hb) c hc
 rw [kG hb] at h2
 exact ⟨d,h1,h2⟩
theorem MOk.dp (m:MOk gv M) {i:Int} {b:B8} (hb:fd M i=some b):∃ n,Ch M i n/\n<=12:=by
 have:=m.ch b (bc hb)
 rw [kG hb] at this
 exact this
theorem Ch.uniq {i:Int} {n:Nat} (h:Ch M i n):∀ {k:Nat},Ch M i k->n=k:=by
 induction h with
 | top h e =>
  intro k h'
  cases h' with
  | top _ _=>rfl
  | up h1 e1 _=>rw [h] at h1; cases h1; rw [e] at e1; cases e1
 | up h e c ih =>
  intro k h'
  cases h' with
  | top h1 e1=>rw [h] at h1; cases h1; rw [e] at e1; cases e1
  | up h1 e1 c1 =>
   rw [h] at h1
   cases h1
   rw [e] at e1
   cases e1
   rw [ih c1]
theorem Anc.deep {a x:Int} (h:Anc M a x):∀ {n:Nat},Ch M x n->∃ k,Ch M a k/\k<=n/\(k=n->a=x):=by
 induction h with
 | refl=>intro n c; exact ⟨n,c,Nat.le_refl _,fun _=>rfl⟩
 | up h e c ih =>
  intro n cx
  cases cx with
  | top h1 e1=>rw [h] at h1; cases h1; rw [e] at e1; cases e1
  | up h1 e1 c1 =>
   rw [h] at h1
   cases h1
   rw [e] at e1
   cases e1
   obtain ⟨k,k1,k2,_⟩:=ih c1
   exact ⟨k,k1,by omega,fun e=>by omega⟩
theorem Anc.trans {a b c:Int} (h1:Anc M a b) (h2:Anc M b c):Anc M a c:=by
 induction h2 with
 | refl=>exact h1
 | up h e _ ih=>exact .up h e ih
theorem Anc.lin {a b x:Int} (h1:Anc M a x) (h2:Anc M b x):Anc M a b\/Anc M b a:=by
 induction h1 with
 | refl=>exact .inr h2
 | @up x j c h e _ ih =>
  cases h2 with
  | refl=>exact .inl (.up h e ‹_›)
  | up h' e' c' =>
   rw [h] at h'
   cases h'
   rw [e] at e'
   cases e'
   exact ih c'
theorem Sub.app {a b la lb:List Int} (h1:Sub M a la) (h2:Sub M b lb):Sub M (a++b) (la++lb):=by
 induction h1 with
 | nil=>exact h2
 | cons h _ _ ih1 ih2 =>
  have:=Sub.cons h ‹_› ih2
  rw [List.cons_append,List.cons_append,List.append_assoc]
  exact this
theorem Sub.inv {c:Int} {cs l:List Int} (h:Sub M (c::cs) l):∃ b l',fd M c=some b/\l=c::l'/\Sub M (b.r++cs) l':=by
 cases h with
 | cons h h1 h2=>exact ⟨_,_,h,rfl,h1.app h2⟩
theorem Sub.len {s l:List Int} (h:Sub M s l):s.length<=l.length:=by
 induction h with
 | nil=>exact Nat.le_refl _
 | cons _ _ _ _ ih=>rw [List.length_cons,List.length_cons,List.length_append]; omega
theorem Sub.roots {s l:List Int} (h:Sub M s l):∀ x ∈ s,x ∈ l:=by
 induction h with
 | nil=>intro x h; cases h
 | cons _ _ _ _ ih =>
  intro x hx
  rcases List.mem_cons.mp hx with rfl | hx
  · exact List.mem_cons_self ..
  · exact List.mem_cons_of_mem _ (List.mem_append_right _ (ih x hx))
theorem Sub.mem (m:MOk gv M) {s l:List Int} (h:Sub M s l):∀ x ∈ l,∃ c ∈ s,Anc M c x:=by
 induction h with
 | nil=>intro x h; cases h
 | @cons c cs l1 l2 b h h1 h2 ih1 ih2 =>
  intro x hx
  rcases List.mem_cons.mp hx with rfl | hx
  · exact ⟨_,List.mem_cons_self ..,.refl⟩
  ·rcases List.mem_append.mp hx with hx | hx
   ·obtain ⟨d,hd,a⟩:=ih1 x hx
    obtain ⟨e,e1,e2⟩:=m.CM h hd
    exact ⟨c,List.mem_cons_self ..,(Anc.up e1 e2 .refl).trans a⟩
   ·obtain ⟨d,hd,a⟩:=ih2 x hx
    exact ⟨d,List.mem_cons_of_mem _ hd,a⟩
theorem Sub.in {s l:List Int} (h:Sub M s l):∀ x ∈ l,∃ b,fd M x=some b:=by
 induction h with
 | nil=>intro x h; cases h
 | cons h _ _ ih1 ih2 =>
  intro x hx
  rcases List.mem_cons.mp hx with rfl | hx
  · exact ⟨_,h⟩
  · exact (List.mem_append.mp hx).elim (ih1 x) (ih2 x)
theorem Sub.closed {s l:List Int} (h:Sub M s l):∀ j ∈ l,∀ p,fd M j=some p->∀ c ∈ p.r,c ∈ l:=by
 induction h with
 | nil=>intro j h; cases h
 | @cons c cs l1 l2 b h h1 h2 ih1 ih2 =>
  intro j hj p hp x hx
  rcases List.mem_cons.mp hj with rfl | hj
  ·rw [h] at hp
   cases hp
   exact List.mem_cons_of_mem _ (List.mem_append_left _ (h1.roots x hx))
  ·rcases List.mem_append.mp hj with hj | hj
   · exact List.mem_cons_of_mem _ (List.mem_append_left _ (ih1 j hj p hp x hx))
   · exact List.mem_cons_of_mem _ (List.mem_append_right _ (ih2 j hj p hp x hx))
def Apart (M:List B8) (s:List Int):Prop:=s.Pairwise fun c d=>∀ x,¬(Anc M c x/\Anc M d x)
theorem uv (m:MOk gv M) {i:Int} {b:B8} (hb:fd M i=some b):Apart M b.r:=by
 have nd:=m.rnd b (bc hb)
 have:∀ s:List Int,(∀ c ∈ s,c ∈ b.r)->s.Nodup->Apart M s:=fun s=>by
  induction s with
  | nil=>intro _ _; exact .nil
  | cons c s ih =>
   intro hs nd
   rw [List.nodup_cons] at nd
   refine .cons (fun d hd x ⟨a1,a2⟩=>?_) (ih (fun y hy=>hs y (List.mem_cons_of_mem _ hy)) nd.2)
   have key:∀ {u v:Int},u ∈ b.r->v ∈ b.r->u≠v->Anc M u v->False:=fun {u v} hu hv ne a=>by
    obtain ⟨n,hn,_⟩:=m.dp hb
    obtain ⟨e,e1,e2⟩:=m.CM hb hv
    obtain ⟨f,f1,f2⟩:=m.CM hb hu
    obtain ⟨k,k1,_,k3⟩:=a.deep (.up e1 e2 hn)
    exact ne (k3 (k1.uniq (.up f1 f2 hn)))
   have hc:=hs c (List.mem_cons_self ..)
   have hd':=hs d (List.mem_cons_of_mem _ hd)
   have ne:c≠d:=fun e=>nd.1 (e ▸ hd)
   rcases a1.lin a2 with a | a
   · exact key hc hd' ne a
   · exact key hd' hc (Ne.symm ne) a
 exact this b.r (fun _ h=>h) nd
theorem Sub.nodup (m:MOk gv M) {s l:List Int} (h:Sub M s l):Apart M s->l.Nodup:=by
 induction h with
 | nil=>exact fun _=>.nil
 | @cons c cs l1 l2 b h h1 h2 ih1 ih2 =>
  intro ap
  have ap':(∀ d ∈ cs,∀ x,¬(Anc M c x/\Anc M d x))/\Apart M cs:=List.pairwise_cons.mp ap
  rw [List.nodup_cons,List.nodup_append]
  refine ⟨fun hc=>?_,ih1 (uv m h),ih2 ap'.2,fun x hx y hy e=>?_⟩
  ·rcases List.mem_append.mp hc with hc | hc
   ·obtain ⟨d,hd,a⟩:=h1.mem m c hc
    obtain ⟨e,e1,e2⟩:=m.CM h hd
    obtain ⟨n,hn,_⟩:=m.dp h
    obtain ⟨k,k1,k2,_⟩:=a.deep hn
    have:=k1.uniq (.up e1 e2 hn)
    omega
   ·obtain ⟨d,hd,a⟩:=h2.mem m c hc
    exact ap'.1 d hd c ⟨.refl,a⟩
  ·subst e
   obtain ⟨d,hd,a⟩:=h1.mem m x hx
   obtain ⟨e,e1,e2⟩:=m.CM h hd
   obtain ⟨d',hd',a'⟩:=h2.mem m x hy
   exact ap'.1 d' hd' x ⟨(Anc.up e1 e2 .refl).trans a,a'⟩
theorem Sub.ex (m:MOk gv M):∀ (k:Nat) (cs:List Int),(∀ c ∈ cs,∃ b n,fd M c=some b/\Ch M c n/\13<=k+n)->∃ l,Sub M cs l:=by
 intro k
 induction k with
 | zero =>
  intro cs h
  cases cs with
  | nil=>exact ⟨[],.nil⟩
  | cons c cs =>
   obtain ⟨b,n,hb,hn,hl⟩:=h c (List.mem_cons_self ..)
   obtain ⟨n',h1,h2⟩:=m.dp hb
   have:=hn.uniq h1
   omega
 | succ k ih =>
  intro cs
  induction cs with
  | nil=>exact fun _=>⟨[],.nil⟩
  | cons c cs ihc =>
   intro h
   obtain ⟨b,n,hb,hn,hl⟩:=h c (List.mem_cons_self ..)
   obtain ⟨l2,h2⟩:=ihc fun d hd=>h d (List.mem_cons_of_mem _ hd)
   obtain ⟨l1,h1⟩:=ih b.r fun d hd=>by
    obtain ⟨e,e1,e2⟩:=m.CM hb hd
    exact ⟨e,n+1,e1,.up e1 e2 hn,by omega⟩
   exact ⟨_,.cons hb h1 h2⟩
theorem Sub.of (m:MOk gv M) {i:Int} {b:B8} (hb:fd M i=some b):∃ l,Sub M [i] (i::l)/\Sub M b.r l:=by
 obtain ⟨n,hn,_⟩:=m.dp hb
 obtain ⟨l,h⟩:=Sub.ex m 13 [i] fun c hc=>by
  rw [List.mem_singleton.mp hc]
  exact ⟨b,n,hb,hn,by omega⟩
 obtain ⟨b',l',e1,rfl,h'⟩:=h.inv
 rw [hb] at e1
 cases e1
 rw [List.append_nil] at h'
 exact ⟨l',h,h'⟩
theorem Sub.iff (m:MOk gv M) {i:Int} {l:List Int} (h:Sub M [i] l) {x:Int} {b:B8} (hx:fd M x=some b):x ∈ l↔Anc M i x:=by
 constructor
 ·intro hl
  obtain ⟨c,hc,a⟩:=h.mem m x hl
  rw [List.mem_singleton.mp hc] at a
  exact a
 ·intro a
  have:∀ {x:Int},Anc M i x->∀ b,fd M x=some b->x ∈ l:=fun {x} a=>by
   induction a with
   | refl=>exact fun _ _=>h.roots i (List.mem_singleton.mpr rfl)
   | @up x j b h' e c ih =>
    intro b' hb'
    have ne:b.i≠0:=fun e0=>by
     obtain ⟨r,r1,r2⟩:=m.root
     have e1:=kG h'
     rw [e0] at e1
     rw [<- e1,r1] at h'
     cases h'
     rw [r2] at e
     cases e
    obtain ⟨j',p,q1,q2,q4⟩:=m.hol b (bc h') ne
    rw [e] at q1
    cases q1
    have:=h.closed j (ih p q2) p q2 b.i q4
    rw [kG h'] at this
    exact this
  exact this a b hx
theorem AH:∀ (l k:List Int),l.Nodup->(∀ x ∈ l,x ∈ k)->l.length<=k.length
 | [],_,_,_=>Nat.zero_le _
 | x::l,k,nd,h=>by
  rw [List.nodup_cons] at nd
  have hx:=h x (List.mem_cons_self ..)
  have:=AH l (k.erase x) nd.2 fun y hy=>by
   have ne:y≠x:=fun e=>nd.1 (e ▸ hy)
   exact (List.mem_erase_of_ne ne).mpr (h y (List.mem_cons_of_mem _ hy))
  rw [List.length_erase_of_mem hx] at this
  have:0 < k.length:=List.length_pos_of_mem hx
  rw [List.length_cons]
  omega
theorem sub_len {l:List Int} (nd:l.Nodup) (h:∀ x ∈ l,∃ b,fd M x=some b):l.length<=M.length:=by
 have:=AH l (M.map B8.i) nd fun x hx=>by
  obtain ⟨b,hb⟩:=h x hx
  rw [<- kG hb]
  exact List.mem_map_of_mem (bc hb)
 rw [List.length_map] at this
 exact this
end
end N09
end
section
namespace N09
open PySem L2
theorem HG {τ:List Sl} {i:Nat} {f:DE} {ds es:List D} (h:f τ=some (.lst es)) (q:τ[i]?=some (.own (.lst ds))) (hl:ds.length+es.length<=100000):yF i f τ=some (.next (τ.set i (.own (.lst (ds++es))))):=by
 unfold yF
 rw [h]
 show (match D.lst es,τ[i]? with | .lst es,some (.own (.lst ds))=>if ds.length+es.length<=100000 then some (Out.next (τ.set i (.own (.lst (ds++es))))) else none | _,_=>none)=_
 rw [q]
 exact if_pos hl
theorem FJ {τ:List Sl} {f:DE} {ds:List D} (h:f τ=some (.lst ds)):zW f τ=some (.lst ds.reverse):=by unfold zW; rw [h]; rfl
theorem DW {τ:List Sl} {i j:Nat} {ds:List D} {d:D} (q:τ[j]?=some (.own (.lst (ds++[d])))):oG i j τ=some (.next ((τ.set j (.own (.lst ds))).set i (.shr d))):=by
 unfold oG
 rw [q]
 show ((ds++[d])[(ds++[d]).length - 1]?).map _=_
 rw [List.length_append,List.length_singleton,Nat.add_sub_cancel,List.getElem?_append_right (Nat.le_refl _),Nat.sub_self,List.dropLast_concat]
 rfl
section
variable {t:Adr} {gv:Int} {M:List B8} {c:DT} {gk:DE} {x0 x1:Sl}
theorem pH (hT:∀ (a y:Sl) (ds:List D),ds≠[]->c [x0,x1,a,.own (.lst ds),y]=some true)
  (hF:∀ a y:Sl,c [x0,x1,a,.own (.lst []),y]=some false)
  (hk:∀ (a s:Sl) (k:Int) (b:B8),fd M k=some b->gk [x0,x1,a,s,.shr (.int k)]=some (.lst (b.r.map .int))) :
  ∀ (l S acc:List Int) (y:Sl),Sub M S l->acc.length+l.length<=1000->∃ y',cC c (dX (oG 4 3) (dX (vA 2 (aj 4)) (yF 3 (zW gk)))) (l.length+1) [x0,x1,.own (.lst (acc.map .int)),.own (.lst (S.reverse.map .int)),y]=some (.next [x0,x1,.own (.lst ((acc++l).map .int)),.own (.lst []),y']):=by
 intro l
 induction l with
 | nil =>
  intro S acc y h hz
  cases h
  refine ⟨y,?_⟩
  unfold cC
  rw [show ([]:List Int).reverse.map D.int=[] from rfl,hF,List.append_nil]
 | cons x l ih =>
  intro S acc y h hz
  cases S with
  | nil=>cases h
  | cons k S =>
   obtain ⟨b,l',hb,e,h'⟩:=h.inv
   cases e
   have hz':acc.length+(l.length+1)<=1000:=hz
   have hl:=h'.len
   rw [List.length_append] at hl
   obtain ⟨y',w⟩:=ih (b.r++S) (acc++[x]) (.shr (.int x)) h' (by rw [List.length_append]; show acc.length+1+_<=_; omega)
   refine ⟨y',?_⟩
   have e1:(x::S).reverse.map D.int=S.reverse.map D.int++[.int x]:=by rw [List.reverse_cons,List.map_append]; rfl
   have t1:=hT (.own (.lst (acc.map .int))) y ((x::S).reverse.map .int) (by rw [e1]; simp)
   have t2:dX (oG 4 3) (dX (vA 2 (aj 4)) (yF 3 (zW gk))) [x0,x1,.own (.lst (acc.map .int)),.own (.lst ((x::S).reverse.map .int)),y]=some (.next [x0,x1,.own (.lst ((acc++[x]).map .int)),.own (.lst ((b.r++S).reverse.map .int)),.shr (.int x)]):=by
    rw [e1]
    refine eL ((DW rfl).trans rfl) ?_
    refine eL ((DY (ai rfl) rfl (by rw [List.length_map]; omega)).trans rfl) ?_
    refine (HG (FJ (hk _ _ x b hb)) rfl (by rw [List.length_map,List.length_reverse,List.length_reverse,List.length_map]; omega)).trans ?_
    rw [List.reverse_append,List.map_append,List.map_append,<- List.map_reverse]
    rfl
   show cC c _ (l.length+1+1) _=_
   conv=>lhs; unfold cC
   rw [t1]
   simp only [t2]
   rw [w,List.append_assoc]
   rfl
theorem FT {i:Int} {b:B8} {l:List Int} (hb:fd M i=some b) (h:Sub M b.r l) (hl:l.length<=1000):fj t [trD t.ae gv M,.int i]=some (.own (.lst (l.map .int))):=by
 have hT:∀ (a y:Sl) (ds:List D),ds≠[]->xP 3 [.shr (trD t.ae gv M),.shr (.int i),a,.own (.lst ds),y]=some true:=fun a y ds ne=>by
  cases ds with
  | nil=>exact absurd rfl ne
  | cons d ds=>rfl
 obtain ⟨y',w⟩:=pH (x0:=.shr (trD t.ae gv M)) (x1:=.shr (.int i)) hT (fun _ _=>rfl) (gk:=cS t.ae "boxes_of" (aM t) (aj 0) (ao (aj 4) aY)) (fun a s k b hb=>eW (ai rfl) (aq (ai rfl) aK) rfl (lR hb) rfl) l b.r [] .no h (by rw [List.length_nil,Nat.zero_add]; exact hl)
 unfold fj qW
 refine iR (eL ((pS (lK aK (Nat.zero_le _)) (Zb rfl)).trans rfl) (eL ((pS (FJ (eW (ai rfl) (aq (ai rfl) aK) rfl (lR hb) rfl)) (Zb rfl)).trans rfl) (eL (Eq.trans ?_ (jL w)) (vw rfl))))
 rw [<- List.map_reverse]
 rfl
theorem yA {i:Int} {l:List Int} (h:Sub M [i] l) (hl:l.length<=1000):cI t [.dct (kv (fun b=>.lst (b.r.map .int)) M),.int i]=some (.own (.lst (l.map .int))):=by
 have hT:∀ (a y:Sl) (ds:List D),ds≠[]->A9 3 (dT (dOp oGt (bR lN (ao (aj 3) aY)) (dC (.int 0)))) [.shr (.dct (kv (fun b=>.lst (b.r.map .int)) M)),.shr (.int i),a,.own (.lst ds),y]=some true:=fun a y ds ne=>by
  cases ds with
  | nil=>exact absurd rfl ne
  | cons d ds =>
   refine Hv rfl (ck (be (cD (aq (ai rfl) aK) rfl) e_c ?_))
   show some (D.bl (decide _))=_
   rw [decide_eq_true (by rw [List.length_cons]; omega)]
 obtain ⟨y',w⟩:=pH (x0:=.shr (.dct (kv (fun b=>.lst (b.r.map .int)) M))) (x1:=.shr (.int i)) hT (fun _ _=>rfl) (gk:=dOp bC (aj 0) (aj 4)) (fun a s k b hb=>be (ai rfl) (ai rfl) (bQ hb)) l [i] [] .no h (by rw [List.length_nil,Nat.zero_add]; exact hl)
 unfold cI lj
 exact iR (eL ((pS (lK aK (Nat.zero_le _)) (Zb rfl)).trans rfl) (eL ((pS (lK (aq (ai rfl) aK) (Zb rfl)) (Zb rfl)).trans rfl) (eL (jL w) (vw rfl))))
end
end N09
end
section
namespace N09
open PySem L2
theorem Ho (M:List B8) (j:Int) (r:List Int):(upR M j r).map B8.i=M.map B8.i:=by
 unfold upR
 rw [List.map_map]
 refine List.map_congr_left fun b _=>?_
 show (if b.i=j then { b with r:=r } else b).i=b.i
 split <;> rfl
theorem wJ {M:List B8} (nd:Nd M) (j:Int) (r:List Int):Nd (upR M j r):=by
 unfold Nd
 rw [Ho]
 exact nd
theorem jU (M:List B8) (j:Int) (r:List Int) (x:Int):fd (upR M j r) x=(fd M x).map fun b=>if b.i=j then { b with r:=r } else b:=by
 unfold fd upR
 rw [List.find?_map]
 congr 2
 funext b
 show decide ((if b.i=j then { b with r:=r } else b).i=x)=_
 split <;> rfl
theorem g8 (M:List B8) (j:Int) (r:List Int):(upR M j r).length=M.length:=List.length_map _
theorem vE {β:Type} (f:Int->β) (x:Int):∀ r:List Int,(r.map f).eraseIdx (r.idxOf x)=(r.erase x).map f
 | []=>rfl
 | y::r=>by
  rw [List.map_cons,List.idxOf_cons,List.erase_cons]
  by_cases h:(y == x)=true
  ·rw [if_pos h,h]
   rfl
  ·rw [if_neg h,(Bool.not_eq_true _).mp h]
   show (f y::r.map f).eraseIdx (r.idxOf x+1)=_
   rw [List.eraseIdx_cons_succ,vE f x r,List.map_cons]
theorem Ao (r:List Int) (x:Int):Mt.n .l (((r.map D.int).map fun d=>((.inl 0:Key),Mt.s d)).eraseIdx (r.idxOf x))=lM ((r.erase x).map .int):=by
 unfold lM
 rw [List.map_map,vE,List.map_map]
theorem tq (r:List Int):eU (xy ((r.map D.int).map fun d=>((.inl 0:Key),Mt.s d)))=some r:=by
 have:xy ((r.map D.int).map fun d=>((.inl 0:Key),Mt.s d))=r.map .int:=by
  induction r with
  | nil=>rw [List.map_nil,List.map_nil,xy]
  | cons y r ih=>rw [List.map_cons,List.map_cons,xy,frz,ih]
 rw [this]
 exact tj r
theorem fU (r:List Int):(r.map D.int).all sca=true:=by
 rw [List.all_map]
 exact List.all_eq_true.mpr fun _ _=>rfl
end N09
end
section
namespace N09
open PySem L2
section
variable {gv:Int} {M:List B8}
theorem lO (r:List Int) (p x:Int):(insI r p x).Perm (x::r):=by
 unfold insI
 refine List.perm_middle.trans ?_
 rw [List.take_append_drop]
theorem mF {r:List Int} {p x y:Int}:y ∈ insI r p x↔y=x\/y ∈ r:=by
 rw [(lO r p x).mem_iff,List.mem_cons]
theorem MOk.new (m:MOk gv M):fd M gv=none:=fd_none.mpr fun b hb e=>by
 have:=(m.lt b hb).2
 omega
theorem MOk.pos (m:MOk gv M):0 < gv:=by
 obtain ⟨r,r1,_⟩:=m.root
 have:=m.lt r (bc r1)
 omega
theorem xC {M:List B8} {n:B8} (h:fd M n.i=none) (x:Int):fd (M++[n]) x=if x=n.i then some n else fd M x:=by
 unfold fd at *
 rw [List.find?_append]
 split
 ·rename_i e
  rw [e,h,List.find?_cons,decide_eq_true rfl]
  rfl
 ·rename_i e
  rw [List.find?_cons,decide_eq_false (Ne.symm e)]
  cases List.find? (fun b=>decide (b.i=x)) M <;> rfl
theorem Ch.mono {M':List B8} (hm:∀ x d,fd M x=some d->∃ d',fd M' x=some d'/\d'.h=d.h) {x:Int} {n:Nat} (c:Ch M x n):Ch M' x n:=by
 induction c with
 | top h e =>
  obtain ⟨d',h1,h2⟩:=hm _ _ h
  exact .top h1 (h2.trans e)
 | up h e c ih =>
  obtain ⟨d',h1,h2⟩:=hm _ _ h
  exact .up h1 (h2.trans e) ih
theorem CB (m:MOk gv M) {h p:Int} {b:B8} {nm:Str} {dp:Nat} (hb:fd M h=some b) (hc:Ch M h dp) (h12:dp < 12):MOk (gv+1) (dY M h b p gv nm):=by
 have hn:=m.new
 have gp:=m.pos
 have hl:0<=h/\h < gv:=by have:=m.lt b (bc hb); rw [kG hb] at this; exact this
 have nd':Nd (dY M h b p gv nm):=wJ (Ax (b:=⟨gv,some h,nm,[],false⟩) m.nd hn) _ _
 have fx:∀ x,fd (dY M h b p gv nm) x=(if x=gv then some ⟨gv,some h,nm,[],false⟩ else fd M x).map fun c=>if c.i=h then { c with r:=insI b.r p gv } else c:=fun x=>by
  unfold dY
  rw [jU,xC (n:=⟨gv,some h,nm,[],false⟩) hn]
 have bn:=m.rnd b (bc hb)
 have gb:gv ∉ b.r:=fun e=>by
  obtain ⟨d,d1,_⟩:=m.kid b (bc hb) gv e
  rw [hn] at d1
  cases d1
 have un:∀ c ∈ dY M h b p gv nm,(c.i=gv/\c.h=some h/\c.r=[])\/∃ d,fd M c.i=some d/\d.i=c.i/\d.h=c.h/\((c.i=h/\d=b/\c.r=insI b.r p gv)\/(c.i≠h/\c.r=d.r)):=fun c hc=>by
  have e:=lJ nd' hc
  rw [fx] at e
  split at e
  ·rename_i ei
   have e':(if gv=h then ({ i:=gv,h:=some h,n:=nm,r:=insI b.r p gv,m:=false }:B8) else ⟨gv,some h,nm,[],false⟩)=c:=Zj e
   rw [if_neg (by omega)] at e'
   subst e'
   exact .inl ⟨rfl,rfl,rfl⟩
  ·cases hd:fd M c.i with
   | none=>rw [hd] at e; cases e
   | some d =>
    rw [hd] at e
    have e':(if d.i=h then { d with r:=insI b.r p gv } else d)=c:=Zj e
    have di:=kG hd
    refine .inr ⟨d,rfl,di,?_⟩
    split at e'
    ·rename_i hij
     have ep:d=b:=by
      rw [<- di,hij,hb] at hd
      exact (Zj hd).symm
     subst e'
     subst ep
     exact ⟨rfl,.inl ⟨hij,rfl,rfl⟩⟩
    ·rename_i hij
     subst e'
     exact ⟨rfl,.inr ⟨hij,rfl⟩⟩
 have old:∀ {x:Int} {d:B8},fd M x=some d->fd (dY M h b p gv nm) x=some (if d.i=h then { d with r:=insI b.r p gv } else d):=fun {x d} hd=>by
  have ne:x≠gv:=fun e=>by rw [e,hn] at hd; cases hd
  rw [fx,if_neg ne,hd]
  rfl
 have oh:∀ d:B8,(if d.i=h then { d with r:=insI b.r p gv } else d).h=d.h:=fun d=>by split <;> rfl
 refine ⟨nd',fun c hc=>?_,?_,fun c hc c0=>?_,fun c hc x hx=>?_,fun c hc=>?_,fun c hx=>?_⟩
 ·rcases un c hc with ⟨e,_⟩ | ⟨d,hd,di,_⟩
  · omega
  ·have:=m.lt d (bc hd)
   omega
 ·obtain ⟨r,r1,r2⟩:=m.root
  exact ⟨_,old r1,by rw [oh]; exact r2⟩
 ·rcases un c hc with ⟨e,e2,_⟩ | ⟨d,hd,di,dh,_⟩
  ·refine ⟨h,_,e2,old hb,?_⟩
   rw [if_pos (kG hb),e]
   exact mF.mpr (.inl rfl)
  ·obtain ⟨j',q,q1,q2,q4⟩:=m.hol d (bc hd) (by rw [di]; exact c0)
   refine ⟨j',_,by rw [<- dh]; exact q1,old q2,?_⟩
   split
   ·rename_i hq
    have ep:q=b:=by
     rw [<- kG q2,hq,hb] at q2
     exact (Zj q2).symm
    subst ep
    rw [<- di]
    exact mF.mpr (.inr q4)
   ·rw [<- di]
    exact q4
 ·rcases un c hc with ⟨_,_,e⟩ | ⟨d,hd,di,dh,⟨e1,e2,e3⟩ | ⟨e1,e3⟩⟩
  ·rw [e] at hx
   cases hx
  ·rw [e3] at hx
   rcases mF.mp hx with rfl | hx
   ·refine ⟨⟨x,some h,nm,[],false⟩,?_,by rw [e1]⟩
    rw [fx,if_pos rfl]
    show some (if x=h then ({ i:=x,h:=some h,n:=nm,r:=insI b.r p x,m:=false }:B8) else ⟨x,some h,nm,[],false⟩)=_
    rw [if_neg (by omega)]
   ·obtain ⟨e,k1,k2⟩:=m.kid b (bc hb) x hx
    exact ⟨_,old k1,by rw [oh,k2,kG hb,e1]⟩
  ·rw [e3] at hx
   obtain ⟨e,k1,k2⟩:=m.kid d (bc hd) x hx
   exact ⟨_,old k1,by rw [oh,k2,di]⟩
 ·rcases un c hc with ⟨_,_,e⟩ | ⟨d,hd,di,dh,⟨e1,e2,e3⟩ | ⟨e1,e3⟩⟩
  · rw [e]; exact .nil
  ·rw [e3,(lO _ _ _).nodup_iff,List.nodup_cons]
   exact ⟨gb,bn⟩
  ·rw [e3]
   exact m.rnd d (bc hd)
 ·have cm:∀ {x:Int} {n:Nat},Ch M x n->Ch (dY M h b p gv nm) x n:=Ch.mono fun x d hd=>⟨_,old hd,oh d⟩
  have hf:=lJ nd' hx
  rcases un c hx with ⟨e,e2,_⟩ | ⟨d,hd,di,dh,_⟩
  · exact ⟨dp+1,.up hf e2 (cm hc),h12⟩
  ·obtain ⟨n,n1,n2⟩:=m.dp hd
   exact ⟨n,cm n1,n2⟩
end
end N09
end
section
namespace N09
open PySem L2
theorem AJ {ys:List Int} {j:Int} (h0:0<=j) (h1:j < ys.length):∃ n ∈ ys,oIx (.lst (ys.map .int)) (.int j)=some (.int n):=by
 obtain ⟨h,e⟩:=qU (xs:=ys.map D.int) h0 (by rw [List.length_map]; exact h1)
 rw [List.getElem_map] at e
 exact ⟨_,List.getElem_mem _,e⟩
theorem CP {ys:List Int} (hn:ys≠[]):∃ n ∈ ys,oIx (.lst (ys.map .int)) (.int (-1))=some (.int n):=by
 refine ⟨ys.getLast hn,List.getLast_mem hn,?_⟩
 show atI (ys.map D.int) (-1)=_
 conv=>lhs; rw [<- List.dropLast_concat_getLast hn,List.map_append]
 exact z7 _ _
section
variable {t:Adr} {gv:Int} {M:List B8}
theorem Fz (m:MOk gv M):∀ (L:List B8),(∀ b ∈ L,b ∈ M)->∃ es:List Int,q9 (fun d=>dT (dOp oLt (dFn aV (ao (aj 1) (ao (aj 0) aY))) (dC (.int 12))) [.shr d,.shr (faD M)]) (fun d=>aj 0 [.shr d,.shr (faD M)]) (L.map fun b=>.int b.i)=some (es.map .int)/\(∀ x ∈ es,∃ n,Ch M x n/\n < 12)/\(∀ b ∈ L,b.h=none->b.i ∈ es)/\es.length<=L.length:=by
 intro L
 induction L with
 | nil=>exact fun _=>⟨[],rfl,(fun x h=>nomatch h),(fun b h=>nomatch h),Nat.le_refl _⟩
 | cons b L ih =>
  intro h
  have hm:=h b (List.mem_cons_self ..)
  obtain ⟨es,e1,e2,e3,e4⟩:=ih fun c hc=>h c (List.mem_cons_of_mem _ hc)
  have hb:=lJ m.nd hm
  obtain ⟨n,hn,_⟩:=m.dp hb
  have ec:dT (dOp oLt (dFn aV (ao (aj 1) (ao (aj 0) aY))) (dC (.int 12))) [.shr (.int b.i),.shr (faD M)]=some (decide ((n:Int) < 12)):=ck (be (jW (aq (ai rfl) (aq (ai rfl) aK)) (pe hn) rfl) e_c (oV _ _))
  by_cases hl:n < 12
  ·refine ⟨b.i::es,?_,fun x hx=>?_,fun c hc h0=>?_,Nat.succ_le_succ e4⟩
   ·rw [List.map_cons,q9,ec,decide_eq_true (by omega),e1]
    rfl
   ·rcases List.mem_cons.mp hx with rfl | hx
    · exact ⟨n,hn,hl⟩
    · exact e2 x hx
   ·rcases List.mem_cons.mp hc with rfl | hc
    · exact List.mem_cons_self ..
    · exact List.mem_cons_of_mem _ (e3 c hc h0)
  ·refine ⟨es,?_,e2,fun c hc h0=>?_,Nat.le_succ_of_le e4⟩
   ·rw [List.map_cons,q9,ec,decide_eq_false (by omega),e1]
    rfl
   ·rcases List.mem_cons.mp hc with rfl | hc
    ·exfalso
     cases hn with
     | top _ _=>omega
     | up h1 h2 _=>rw [hb] at h1; cases h1; rw [h0] at h2; cases h2
    · exact e3 c hc h0
theorem FR {x:Int} {r:List Int} {b:B8} (hx:b.i≠x) (h0:b.r=[]) (hn:fd M b.i=none):Mt.n .d (gK (kv (fun b=>lM (b.r.map .int)) (upR M x r)) (.inl b.i) (lM []))=bxM (upR (M++[b]) x r):=by
 have e:upR (M++[b]) x r=upR M x r++[b]:=by
  unfold upR
  rw [List.map_append]
  show _++[if b.i=x then _ else _]=_
  rw [if_neg hx]
 have:=l9 (g:=fun b=>lM (b.r.map .int)) (M:=upR M x r) (b:=b) (by rw [jU,hn]; rfl)
 rw [h0] at this
 rw [e]
 unfold bxM kM
 rw [<- this]
 rfl
theorem FG {x:Int} {r:List Int} {b:B8} (hn:fd M b.i=none):Mt.n .d (gK (kv (fun b=>.s (.tup [hD b.h,.str b.n])) M) (.inl b.i) (.s (.tup [hD b.h,.str b.n])))=faM (upR (M++[b]) x r):=by
 unfold faM kM
 rw [tX _ _ _ _ (fun _=>rfl),<- l9 (g:=fun b=>.s (.tup [hD b.h,.str b.n])) hn]
theorem CG (m:MOk gv M) (h90:M.length < 90) {c w:Int} (w0:0<=w) (w1:w<=900) :
  ∃ x b p nm dp,fd M x=some b/\Ch M x dp/\dp < 12/\dQ nm=true/\cQ t [.mu true (trM t.ae gv M),.mu true (bxM M),.mu true (faM M),.shr (.int gv),.shr (.int c),.shr (.int w)]=some (.shr (.bl true),[.mu true (trM t.ae (gv+1) (dY M x b p gv nm)),.mu true (bxM (dY M x b p gv nm)),.mu true (faM (dY M x b p gv nm)),.no,.no,.no]):=by
 obtain ⟨es,f1,f2,f3,f4⟩:=Fz m M fun _ h=>h
 obtain ⟨r0,r1,r2⟩:=m.root
 have ne:es≠[]:=fun e=>by
  have:=f3 r0 (bc r1) r2
  rw [e] at this
  cases this
 obtain ⟨q1,e1,q10,q11⟩:=p9 c w0 (show w<=10000 by omega)
 obtain ⟨q2,e2,q20,q21⟩:=p9 c (show (0:Int)<=w+1 by omega) (show w+1<=10000 by omega)
 obtain ⟨nm,e3,hn⟩:=Ay c (show (0:Int)<=w+2 by omega) (show w+2<=1000 by omega)
 obtain ⟨xl,ml,el⟩:=CP ne
 have lp:0 < es.length:=List.length_pos_iff.mpr ne
 obtain ⟨xm,mm,em⟩:=AJ (ys:=es) (j:=q1 / 2 % (es.length:Int)) (Int.emod_nonneg _ (by omega)) (Int.emod_lt_of_pos _ (by omega))
 obtain ⟨x,hx,ex⟩:∃ x ∈ es,x=if q1 % 2=0 then xm else xl:=by
  split
  · exact ⟨xm,mm,rfl⟩
  · exact ⟨xl,ml,rfl⟩
 obtain ⟨dp,ch,h12⟩:=f2 x hx
 obtain ⟨b,hb⟩:=ch.get
 have hr:b.r.length<=M.length:=sub_len (m.rnd b (bc hb)) fun y hy=>by
  obtain ⟨d,d1,_⟩:=m.kid b (bc hb) y hy
  exact ⟨d,d1⟩
 have p0:0<=q2 % ((b.r.length:Int)+1):=Int.emod_nonneg _ (by omega)
 have p1:q2 % ((b.r.length:Int)+1)<=b.r.length:=by have:=Int.emod_lt_of_pos q2 (show 0 < (b.r.length:Int)+1 by omega); omega
 refine ⟨x,b,q2 % ((b.r.length:Int)+1),nm,dp,hb,ch,h12,hn,?_⟩
 generalize hpp:q2 % ((b.r.length:Int)+1)=p at *
 unfold cQ oe
 refine (gT (s:=.shr (.bl true)) (τ:=[.mu true (trM t.ae (gv+1) (dY M x b p gv nm)),.mu true (bxM (dY M x b p gv nm)),.mu true (faM (dY M x b p gv nm)),.shr (.int gv),.shr (.int c),.shr (.int w),.shr (.lst (es.map .int)),.shr (.int q1),.shr (.int x),.shr (.int p),.shr (.str nm),.shr (.int gv)]) ?_).trans rfl
 refine aQ (τ':=[.mu true (trM t.ae gv M),.mu true (bxM M),.mu true (faM M),.shr (.int gv),.shr (.int c),.shr (.int w),.shr (.lst (es.map .int)),.no,.no,.no,.no,.no]) ?_ ?_
 ·have ek:(kv (fun b=>lM (b.r.map .int)) M).map (fun p=>kD p.1)=M.map fun b=>.int b.i:=by
   unfold kv
   rw [List.map_map]
   rfl
  show (if (kv (fun b=>lM (b.r.map .int)) M).length<=100000/\6 < 12 then (q9 (fun d=>dT (dOp oLt (dFn aV (ao (aj 1) (ao (aj 0) aY))) (dC (.int 12))) [.shr d,.shr (frz (faM M))]) (fun d=>aj 0 [.shr d,.shr (frz (faM M))]) ((kv (fun b=>lM (b.r.map .int)) M).map fun p=>kD p.1)).bind (fun es=>if es.all sca=true then some (Aa.next [.mu true (trM t.ae gv M),.mu true (bxM M),.mu true (faM M),.shr (.int gv),.shr (.int c),.shr (.int w),.shr (.lst es),.no,.no,.no,.no,.no]) else none) else none)=_
  rw [if_pos ⟨by rw [iW]; omega,by omega⟩,k5,ek,f1]
  exact if_pos (fU _)
 refine aQ (dF (v_N (jW (aq (ai rfl) (aq (ai rfl) aK)) e1 rfl)) (Zb rfl) rfl) ?_
 refine aQ (dF (v_N (be (ai rfl) (Kk e_c rfl) el)) (Zb rfl) rfl) ?_
 refine aQ (τ':=[.mu true (trM t.ae gv M),.mu true (bxM M),.mu true (faM M),.shr (.int gv),.shr (.int c),.shr (.int w),.shr (.lst (es.map .int)),.shr (.int q1),.shr (.int x),.no,.no,.no]) ?_ ?_
 ·have et:tS (dT (dOp oEq (dOp oMod (aj 7) (dC (.int 2))) (dC (.int 0)))) [.mu true (trM t.ae gv M),.mu true (bxM M),.mu true (faM M),.shr (.int gv),.shr (.int c),.shr (.int w),.shr (.lst (es.map .int)),.shr (.int q1),.shr (.int xl),.no,.no,.no]=some (decide (q1 % 2=0),[.mu true (trM t.ae gv M),.mu true (bxM M),.mu true (faM M),.shr (.int gv),.shr (.int c),.shr (.int w),.shr (.lst (es.map .int)),.shr (.int q1),.shr (.int xl),.no,.no,.no]) :=
   t_S (ck (be (be (ai rfl) e_c (dq (by decide))) e_c (fZ _ _)))
  by_cases h2:q1 % 2=0
  ·rw [if_pos h2] at ex
   rw [decide_eq_true h2] at et
   rw [ex]
   exact wU et ((dF (v_N (be (ai rfl) (be (be (ai rfl) e_c (oW (by decide) (by decide +kernel))) (cD (aq (ai rfl) aK) (rQ es)) (dq (by omega))) em)) (Zb rfl) rfl).trans rfl)
  ·rw [if_neg h2] at ex
   rw [decide_eq_false h2] at et
   rw [ex]
   exact lI et rfl
 have sn:∀ {r:List Sm},bB (.mu true (trM t.ae gv M)::.mu true (bxM M)::r)=.shr (trD t.ae gv M)::.shr (.dct (kv (fun b=>.lst (b.r.map .int)) M))::bB r:=fun {r}=>by
  rw [kj]
  show _::Sl.shr (frz (bxM M))::_=_
  rw [mJ]
 refine aQ (dF (s:=.shr (.int p)) (v_S (by rw [sn]; exact be (jW (aq (ai rfl) (aq (be (ai rfl) e_c (bA _ _)) aK)) e2 rfl) (be (cD (aq (be (ai rfl) (ai rfl) (bQ hb)) aK) (rQ _)) e_c (bA _ _)) ((dq (by omega)).trans (by rw [hpp]))) rfl) (Zb rfl) rfl) ?_
 refine aQ (dF (v_N (jW (aq (ai rfl) (aq (be (ai rfl) e_c (bA _ _)) aK)) e3 rfl)) (Zb rfl) rfl) ?_
 have ep:=D8 (t:=t) m.nd m.new hb p0 p1 (by omega) hn h90 ch h12
 refine aQ (τ':=[.mu true (trM t.ae (gv+1) (dY M x b p gv nm)),.mu true (bxM M),.mu true (faM M),.shr (.int gv),.shr (.int c),.shr (.int w),.shr (.lst (es.map .int)),.shr (.int q1),.shr (.int x),.shr (.int p),.shr (.str nm),.shr (.int gv)]) (dF (s:=.shr (.int gv)) (v_M (C:=t.ae) (i:=0) (q:=[]) (ss:=[.mu true (trM t.ae gv M),.shr (.int x),.shr (.int p),.shr (.str nm)]) (τ':=[.mu true (trM t.ae (gv+1) (dY M x b p gv nm)),.mu true (bxM M),.mu true (faM M),.shr (.int gv),.shr (.int c),.shr (.int w),.shr (.lst (es.map .int)),.shr (.int q1),.shr (.int x),.shr (.int p),.shr (.str nm),.no]) cK rfl rfl (bV (q_N (ai rfl)) (bV (q_N (ai rfl)) (bV (q_N (ai rfl)) rfl))) rfl ep rfl) (Zb rfl) rfl) ?_
 have hg:bE [.mu true (trM t.ae (gv+1) (dY M x b p gv nm)),.mu true (bxM M),.mu true (faM M),.shr (.int gv),.shr (.int c),.shr (.int w),.shr (.lst (es.map .int)),.shr (.int q1),.shr (.int x),.shr (.int p),.shr (.str nm),.shr (.int gv)] 1 [.k (.inl x)]=some (lM (b.r.map .int)):=by
  rw [p8 rfl]
  refine (qw _ _ _).trans ?_
  rw [hb]
  rfl
 refine aQ (zG (n:=p) (u6 cK (ai rfl) rfl rfl) hg (ai rfl) (v_N (ai rfl)) rfl hg ⟨p0,by rw [List.length_map,List.length_map]; exact p1,by rw [List.length_map,List.length_map]; omega⟩) ?_
 rw [kY rfl,tm]
 have e4:(bxM M).put ([]++[.k (.inl x)]) (lM ((insI b.r p gv).map .int))=bxM (upR M x (insI b.r p gv)):=sM m.nd hb
 rw [e4]
 have xg:gv≠x:=fun e=>by
  have:=(m.lt b (bc hb)).2
  rw [kG hb] at this
  omega
 refine aQ (τ':=[.mu true (trM t.ae (gv+1) (dY M x b p gv nm)),.mu true (bxM (dY M x b p gv nm)),.mu true (faM M),.shr (.int gv),.shr (.int c),.shr (.int w),.shr (.lst (es.map .int)),.shr (.int q1),.shr (.int x),.shr (.int p),.shr (.str nm),.shr (.int gv)]) ((gG (cs:=kv (fun b=>lM (b.r.map .int)) (upR M x (insI b.r p gv))) (v_O (lK aK (Nat.zero_le _)) rfl) cK (ai rfl) rfl rfl rfl (by rw [iW,g8]; omega)).trans ?_) ?_
 ·have:=FR (M:=M) (x:=x) (r:=insI b.r p gv) (b:=⟨gv,some x,nm,[],false⟩) xg rfl m.new
  unfold dY
  rw [<- this]
  rfl
 refine aQ (τ':=[.mu true (trM t.ae (gv+1) (dY M x b p gv nm)),.mu true (bxM (dY M x b p gv nm)),.mu true (faM (dY M x b p gv nm)),.shr (.int gv),.shr (.int c),.shr (.int w),.shr (.lst (es.map .int)),.shr (.int q1),.shr (.int x),.shr (.int p),.shr (.str nm),.shr (.int gv)]) ((gG (cs:=kv (fun b=>.s (.tup [hD b.h,.str b.n])) M) (v_N (zU (aq (ai rfl) (aq (ai rfl) aK)) (Zb rfl))) cK (ai rfl) rfl rfl rfl (by rw [iW]; omega)).trans ?_) ?_
 ·have:=FG (M:=M) (x:=x) (r:=insI b.r p gv) (b:=⟨gv,some x,nm,[],false⟩) m.new
  unfold dY
  rw [<- this]
  rfl
 exact rO (v_N (mL (b:=true) (jW (aq (ai rfl) aK) (oj _) rfl) (be (ai rfl) (ai rfl) ((fZ _ _).trans (by rw [decide_eq_true rfl])))))
end
end N09
end
section
namespace N09
open PySem L2
def upH (M:List B8) (i:Int) (h:Int):List B8:=M.map fun b=>if b.i=i then { b with h:=some h } else b
theorem Hq (M:List B8) (j h:Int):(upH M j h).map B8.i=M.map B8.i:=by
 unfold upH
 rw [List.map_map]
 refine List.map_congr_left fun b _=>?_
 show (if b.i=j then { b with h:=some h } else b).i=b.i
 split <;> rfl
theorem FA (M:List B8) (j h x:Int):fd (upH M j h) x=(fd M x).map fun b=>if b.i=j then { b with h:=some h } else b:=by
 unfold fd upH
 rw [List.find?_map]
 congr 2
 funext b
 show decide ((if b.i=j then { b with h:=some h } else b).i=x)=_
 split <;> rfl
def mvB (M:List B8) (i j h:Int) (rj rh:List Int):List B8:=upH (upR (upR M j rj) h rh) i h
def mvF (i j h:Int) (rj rh:List Int) (c:B8):B8:={ c with h:=if c.i=i then some h else c.h,r:=if c.i=h then rh else if c.i=j then rj else c.r }
theorem FE (M:List B8) (i j h:Int) (rj rh:List Int) (x:Int):fd (mvB M i j h rj rh) x=(fd M x).map (mvF i j h rj rh):=by
 unfold mvB
 rw [FA,jU,jU,Option.map_map,Option.map_map]
 congr 1
 funext c
 obtain ⟨ci,ch,cn,cr,cm⟩:=c
 simp only [Function.comp,mvF]
 by_cases h1:ci=j <;> by_cases h2:ci=h <;> by_cases h3:ci=i <;> simp [h1,h2,h3] <;> (try (split <;> simp_all)) <;> (try (split <;> simp_all))
theorem Jv {M:List B8} (nd:Nd M) (i j h:Int) (rj rh:List Int):Nd (mvB M i j h rj rh):=by
 unfold Nd mvB
 rw [Hq]
 exact wJ (wJ nd _ _) _ _
section
variable {gv:Int} {M:List B8} {i j h:Int} {b p q:B8} {rj rh:List Int}
theorem EX (m:MOk gv M) (hb:fd M i=some b) (hj:b.h=some j) (hp:fd M j=some p) (hq:fd M h=some q) (na:¬ Anc M i h)
  {ni nh:Nat} (ci:Ch M i ni) (ch:Ch M h nh) (dp:∀ x n,Anc M i x->Ch M x n->n+nh+1<=12+ni)
  (ej:rj=p.r.erase i) {pl:Int} (eh:rh=insI (q.r.filter fun y=>decide (y≠i)) pl i):MOk gv (mvB M i j h rj rh):=by
 have i0:=m.h0 hb hj
 have nd':=Jv m.nd i j h rj rh
 have fx:=FE M i j h rj rh
 have bi:=kG hb
 have pi:=kG hp
 have qi:=kG hq
 have pn:=m.rnd p (bc hp)
 have qn:=m.rnd q (bc hq)
 have ih:i≠h:=fun e=>na (by rw [<- e]; exact .refl)
 have un:∀ c ∈ mvB M i j h rj rh,∃ d,fd M c.i=some d/\d.i=c.i/\c=mvF i j h rj rh d:=fun c hc=>by
  have e:=lJ nd' hc
  rw [fx] at e
  cases hd:fd M c.i with
  | none=>rw [hd] at e; cases e
  | some d =>
   rw [hd] at e
   exact ⟨d,rfl,kG hd,(Zj e).symm⟩
 have old:∀ {x:Int} {d:B8},fd M x=some d->fd (mvB M i j h rj rh) x=some (mvF i j h rj rh d):=fun {x d} hd=>by rw [fx,hd]; rfl
 have hh:∀ d:B8,d.i≠i->(mvF i j h rj rh d).h=d.h:=fun d ne=>if_neg ne
 have hi:∀ d:B8,d.i=i->(mvF i j h rj rh d).h=some h:=fun d e=>if_pos e
 have rmem:∀ y,y ∈ rh↔y=i\/(y ∈ q.r/\y≠i):=fun y=>by
  rw [eh,mF,List.mem_filter,decide_eq_true_iff]
 have c1:∀ {x:Int} {n:Nat},Ch M x n->¬ Anc M i x->Ch (mvB M i j h rj rh) x n:=fun {x n} c=>by
  induction c with
  | @top x d h1 e1 =>
   intro nx
   have ne:d.i≠i:=fun e=>nx (by rw [kG h1] at e; rw [e]; exact .refl)
   exact .top (old h1) ((hh d ne).trans e1)
  | @up x y n d h1 e1 c ihc =>
   intro nx
   have ne:d.i≠i:=fun e=>nx (by rw [kG h1] at e; rw [e]; exact .refl)
   exact .up (old h1) ((hh d ne).trans e1) (ihc fun a=>nx (.up h1 e1 a))
 have chh:=c1 ch na
 have c2:∀ {x:Int},Anc M i x->∀ d,fd M x=some d->∃ n n',Ch M x n/\Ch (mvB M i j h rj rh) x n'/\n'+ni=n+nh+1:=fun {x} a=>by
  induction a with
  | refl=>intro d hd; exact ⟨ni,nh+1,ci,.up (old hb) (hi b bi) chh,by omega⟩
  | @up x y d h1 e1 c ihc =>
   intro d' _
   obtain ⟨nx,x1,_⟩:=m.dp h1
   cases x1 with
   | top h2 e2=>rw [h1] at h2; cases h2; rw [e1] at e2; cases e2
   | up h2 e2 cy =>
    rw [h1] at h2
    cases h2
    rw [e1] at e2
    cases e2
    obtain ⟨by',hy⟩:=cy.get
    obtain ⟨n,n',k1,k2,k3⟩:=ihc by' hy
    have ne:d.i≠i:=fun e=>by
     rw [kG h1] at e
     obtain ⟨k,g1,g2,_⟩:=c.deep cy
     have:=g1.uniq ci
     rw [e] at h1
     have:=ci.uniq (.up h1 e1 cy)
     omega
    exact ⟨_,n'+1,.up h1 e1 k1,.up (old h1) ((hh d ne).trans e1) k2,by omega⟩
 refine ⟨nd',fun c hc=>?_,?_,fun c hc c0=>?_,fun c hc x hx=>?_,fun c hc=>?_,fun c hc=>?_⟩
 ·obtain ⟨d,hd,di,_⟩:=un c hc
  rw [<- di]
  exact m.lt d (bc hd)
 ·obtain ⟨r,r1,r2⟩:=m.root
  exact ⟨_,old r1,(hh r (by rw [kG r1]; exact Ne.symm i0)).trans r2⟩
 ·obtain ⟨d,hd,di,ec⟩:=un c hc
  by_cases e:d.i=i
  ·refine ⟨h,_,by rw [ec]; exact hi d e,old hq,?_⟩
   show c.i ∈ (if q.i=h then rh else if q.i=j then rj else q.r)
   rw [if_pos qi,<- di,e]
   exact (rmem i).mpr (.inl rfl)
  ·obtain ⟨j',u,u1,u2,u3⟩:=m.hol d (bc hd) (by rw [di]; exact c0)
   refine ⟨j',_,by rw [ec]; exact (hh d e).trans u1,old u2,?_⟩
   show c.i ∈ (if u.i=h then rh else if u.i=j then rj else u.r)
   rw [<- di]
   split
   ·rename_i e2
    have:u=q:=by rw [<- kG u2,e2,hq] at u2; exact (Zj u2).symm
    subst this
    exact (rmem d.i).mpr (.inr ⟨u3,e⟩)
   ·split
    ·rename_i e2
     have:u=p:=by rw [<- kG u2,e2,hp] at u2; exact (Zj u2).symm
     subst this
     rw [ej]
     exact (List.mem_erase_of_ne e).mpr u3
    · exact u3
 ·obtain ⟨d,hd,di,ec⟩:=un c hc
  have key:∀ y ∈ d.r,y≠i->∃ e,fd (mvB M i j h rj rh) y=some e/\e.h=some c.i:=fun y hy ne=>by
   obtain ⟨e,e1,e2⟩:=m.kid d (bc hd) y hy
   exact ⟨_,old e1,by rw [hh e (by rw [kG e1]; exact ne),e2,di]⟩
  rw [ec] at hx
  have hx':x ∈ (if d.i=h then rh else if d.i=j then rj else d.r):=hx
  split at hx'
  ·rename_i e2
   rcases (rmem x).mp hx' with rfl | ⟨h1,h2⟩
   · exact ⟨_,old hb,by rw [hi b bi,<- di,e2]⟩
   ·have:d=q:=by rw [<- di,e2,hq] at hd; exact (Zj hd).symm
    subst this
    exact key x h1 h2
  ·split at hx'
   ·rename_i e2
    have:d=p:=by rw [<- di,e2,hp] at hd; exact (Zj hd).symm
    subst this
    rw [ej] at hx'
    have:=pn.mem_erase_iff.mp hx'
    exact key x this.2 this.1
   ·rename_i e3
    refine key x hx' fun e=>?_
    subst e
    obtain ⟨e,e1,e2⟩:=m.kid d (bc hd) x hx'
    rw [hb] at e1
    cases e1
    rw [hj] at e2
    exact e3 (Zj e2).symm
 ·obtain ⟨d,hd,di,ec⟩:=un c hc
  rw [ec]
  show (if d.i=h then rh else if d.i=j then rj else d.r).Nodup
  split
  ·rw [eh,(lO _ _ _).nodup_iff,List.nodup_cons]
   exact ⟨fun e=>by rw [List.mem_filter] at e; exact of_decide_eq_true e.2 rfl,qn.sublist List.filter_sublist⟩
  ·split
   · rw [ej]; exact pn.erase _
   · exact m.rnd d (bc hd)
 ·obtain ⟨d,hd,di,ec⟩:=un c hc
  by_cases a:Anc M i c.i
  ·obtain ⟨n,n',k1,k2,k3⟩:=c2 a d hd
   exact ⟨n',k2,by have:=dp _ _ a k1; omega⟩
  ·obtain ⟨n,n1,n2⟩:=m.dp hd
   exact ⟨n,c1 n1 a,n2⟩
end
end N09
end
section
namespace N09
open PySem L2
theorem oE:∀ l:List Int,Dr (l.map .int)=some (l.map V.int)
 | []=>rfl
 | i::l=>by
  show (scD (.int i)).bind (fun v=>(Dr (l.map .int)).map (v::·))=_
  rw [oE l]
  rfl
theorem rT (j:Int):∀ l:List Int,inV (.int j) (l.map V.int)=decide (j ∈ l)
 | []=>by simp [inV]
 | k::l=>by
  have ih:=rT j l
  unfold inV at *
  simp only [List.map_cons,List.any_cons,ih,List.mem_cons,Bool.decide_or]
  congr 1
  show decide (k=j)=decide (j=k)
  rw [decide_eq_decide]
  omega
theorem Fk (j:Int) (l:List Int):Gh (.int j) (.lst (l.map .int))=some (.bl (decide (j ∈ l))):=by
 show (inS (.int j) (l.map .int)).map D.bl=_
 unfold inS
 rw [oE]
 show some (D.bl (inV (.int j) _))=_
 rw [rT]
theorem Cp (j:Int) (l:List Int):mh (.int j) (.lst (l.map .int))=some (.bl (!decide (j ∈ l))):=by
 show (inS (.int j) (l.map .int)).map (fun b=>D.bl !b)=_
 unfold inS
 rw [oE]
 show some (D.bl (!inV (.int j) _))=_
 rw [rT]
theorem sS (n:Nat):∀ l:List Int,rJ n (l.map .int)=true
 | []=>by rw [List.map_nil,rJ]
 | i::l=>by rw [List.map_cons,rJ,sS n l,okD]; rfl
theorem s9:∀ {a c:List Int},a.map D.int=c.map D.int->a=c
 | [],[],_=>rfl
 | [],_::_,h=>by cases h
 | _::_,[],h=>by cases h
 | x::a,y::c,h=>by
  rw [List.map_cons,List.map_cons] at h
  injection h with h1 h2
  injection h1 with h1
  rw [h1,s9 h2]
theorem tF (a c:List Int):eqO (.lst (a.map .int)) (.lst (c.map .int))=some (decide (a=c)):=by
 unfold eqO
 show (if okD 9 (.lst (a.map .int))=true/\okD 9 (.lst (c.map .int))=true then some (eqB (.lst (a.map .int)) (.lst (c.map .int))) else none)=_
 have o:∀ l:List Int,okD 9 (.lst (l.map .int))=true:=fun l=>by rw [okD]; exact sS 8 l
 rw [if_pos ⟨o a,o c⟩]
 by_cases h:a=c
 · rw [h,pb,decide_eq_true rfl]
 · rw [AQ (fun e=>h (s9 (by injection e))),decide_eq_false h]
theorem C5 (a c:List Int):oEq (.lst (a.map .int)) (.lst (c.map .int))=some (.bl (decide (a=c))):=by
 unfold oEq
 rw [tF]
 rfl
theorem Cq (a c:List Int):oNe (.lst (a.map .int)) (.lst (c.map .int))=some (.bl (!decide (a=c))):=by
 unfold oNe
 rw [tF]
 rfl
theorem rV {τ:List Sl} {it:DI} {c:DT} {g:DE} {cs:List (Str×Nat)} {ds es:List D} (h1:it τ=some ds) (hl:ds.length<=100000) (h2:q9 (fun d=>c (.shr d::eD τ cs)) (fun d=>g (.shr d::eD τ cs)) ds=some es):iX it c g cs τ=some (.lst es):=by
 unfold iX
 rw [h1]
 show (if ds.length<=100000 then _ else none)=_
 rw [if_pos hl,h2]
 rfl
theorem tD {c:D->Option Bool} {f:Int->Bool}:∀ {l:List Int},(∀ x ∈ l,c (.int x)=some (f x))->q9 c (fun d=>some d) (l.map .int)=some ((l.filter f).map .int)
 | [],_=>rfl
 | x::l,h=>by
  rw [List.map_cons,q9,h x (List.mem_cons_self ..),List.filter_cons]
  have ih:=tD (l:=l) fun y hy=>h y (List.mem_cons_of_mem _ hy)
  show (if f x=true then (some (D.int x)).bind (fun y=>(q9 c (fun d=>some d) (l.map .int)).bind fun xs=>some (y::xs)) else q9 c (fun d=>some d) (l.map .int))=_
  rw [ih]
  by_cases hx:f x=true
  · rw [if_pos hx,if_pos hx]; rfl
  · rw [if_neg hx,if_neg hx]
inductive Dps (M:List B8):List Int->List Nat->Prop where
 | nil:Dps M [] []
 | cons {x:Int} {n:Nat} {l:List Int} {ns:List Nat} (h:Ch M x n) (r:Dps M l ns):Dps M (x::l) (n::ns)
section
variable {t:Adr} {gv:Int} {M:List B8}
theorem Dps.ex (m:MOk gv M):∀ {l:List Int},(∀ x ∈ l,∃ b,fd M x=some b)->∃ ns,Dps M l ns
 | [],_=>⟨[],.nil⟩
 | x::l,h=>by
  obtain ⟨b,hb⟩:=h x (List.mem_cons_self ..)
  obtain ⟨n,hn,_⟩:=m.dp hb
  obtain ⟨ns,r⟩:=Dps.ex m (l:=l) fun y hy=>h y (List.mem_cons_of_mem _ hy)
  exact ⟨_,.cons hn r⟩
theorem Dps.mem {l:List Int} {ns:List Nat} (h:Dps M l ns):∀ x ∈ l,∀ n,Ch M x n->n ∈ ns:=by
 induction h with
 | nil=>intro x h; cases h
 | cons h r ih =>
  intro x hx n hn
  rcases List.mem_cons.mp hx with rfl | hx
  · rw [hn.uniq h]; exact List.mem_cons_self ..
  · exact List.mem_cons_of_mem _ (ih x hx n hn)
theorem Dps.back {l:List Int} {ns:List Nat} (h:Dps M l ns):∀ n ∈ ns,∃ x ∈ l,Ch M x n:=by
 induction h with
 | nil=>intro x h; cases h
 | cons h r ih =>
  intro n hn
  rcases List.mem_cons.mp hn with rfl | hn
  · exact ⟨_,List.mem_cons_self ..,h⟩
  ·obtain ⟨x,hx,h'⟩:=ih n hn
   exact ⟨x,List.mem_cons_of_mem _ hx,h'⟩
theorem Dps.map {l:List Int} {ns:List Nat} (h:Dps M l ns) {g:D->Option D} (hg:∀ x n,Ch M x n->n<=12->g (.int x)=some (.int (n:Int))) (h12:∀ n ∈ ns,n<=12):yu g (l.map .int)=some ((ns.map fun n:Nat=>(n:Int)).map .int):=by
 induction h with
 | nil=>rfl
 | @cons x n l ns h r ih =>
  show (g (.int x)).bind (fun y=>(yu g (l.map .int)).bind fun xs=>some (y::xs))=_
  rw [hg x n h (h12 n (List.mem_cons_self ..)),ih fun k hk=>h12 k (List.mem_cons_of_mem _ hk)]
  rfl
theorem Dps.len {l:List Int} {ns:List Nat} (h:Dps M l ns):ns.length=l.length:=by
 induction h with
 | nil=>rfl
 | cons _ _ ih=>rw [List.length_cons,List.length_cons,ih]
def tpI (ns:List Nat):Int:=mxI (ns.map fun n:Nat=>(n:Int))
theorem Ht {ns:List Nat} {n:Nat} (h:n ∈ ns):(n:Int)<=tpI ns:=EV (List.mem_map_of_mem (f:=fun n:Nat=>(n:Int)) h)
theorem DC {ns:List Nat} (h:0 < ns.length):∃ n ∈ ns,tpI ns=(n:Int):=by
 have:=Cw (ns:=ns.map fun n:Nat=>(n:Int)) (by rw [List.length_map]; exact h)
 obtain ⟨n,hn,e⟩:=List.mem_map.mp this
 exact ⟨n,hn,e.symm⟩
theorem AD {ns:List Nat} (h:0 < ns.length):uj [.lst ((ns.map fun n:Nat=>(n:Int)).map .int)]=some (.int (tpI ns)):=by
 show (eU ((ns.map fun n:Nat=>(n:Int)).map .int)).bind _=_
 rw [tj]
 show (if 0 < (ns.map fun n:Nat=>(n:Int)).length then _ else _)=_
 rw [List.length_map,if_pos h]
 rfl
end
end N09
end
section
namespace N09
open PySem L2
theorem jI {τ:List Sm} {i:Nat} {b:Bool} {m:Mt} {d:D} (h:τ[i]?=some (.mu b m)) (hf:frz m=d):aj i (bB τ)=some d:=by
 refine ai ?_
 rw [List.getElem?_map,h]
 show some (Sl.shr (frz m))=_
 rw [hf]
theorem vL {g:B8->Mt} {M:List B8} {i:Int} {m:Mt} {b:B8} (h:fd M i=some b):gK (kv g M) (.inl i) m=M.map fun c=>((.inl c.i:Key),if c.i=i then m else g c):=by
 unfold gK
 rw [AX,h]
 show (kv g M).map _=_
 unfold kv
 rw [List.map_map]
 refine List.map_congr_left fun c _=>?_
 show (if (Sum.inl c.i:Key)=Sum.inl i then ((Sum.inl c.i:Key),m) else (Sum.inl c.i,g c))=_
 by_cases e:c.i=i
 · rw [if_pos (by rw [e]),if_pos e]
 · rw [if_neg (fun z=>e (by injection z)),if_neg e]
theorem vH {M:List B8} {i:Int} {r:List Int} {b:B8} (h:fd M i=some b):gK (kv (fun b=>lM (b.r.map .int)) M) (.inl i) (lM (r.map .int))=kv (fun b=>lM (b.r.map .int)) (upR M i r):=by
 rw [vL h]
 unfold kv upR
 rw [List.map_map]
 refine List.map_congr_left fun c _=>?_
 show _=((Sum.inl (if c.i=i then { c with r:=r } else c).i:Key),lM ((if c.i=i then { c with r:=r } else c).r.map .int))
 split <;> rfl
theorem Bo {M:List B8} {i h:Int} {b:B8} (hb:fd M i=some b):gK (kv (fun b=>.s (hD b.h)) M) (.inl i) (.s (.int h))=kv (fun b=>.s (hD b.h)) (upH M i h):=by
 rw [vL hb]
 unfold kv upH
 rw [List.map_map]
 refine List.map_congr_left fun c _=>?_
 show _=((Sum.inl (if c.i=i then { c with h:=some h } else c).i:Key),Mt.s (hD (if c.i=i then { c with h:=some h } else c).h))
 split <;> rfl
theorem yL {M:List B8} {i h:Int} {b:B8} (nd:Nd M) (hb:fd M i=some b):gK (kv (fun b=>.s (.tup [hD b.h,.str b.n])) M) (.inl i) (.s (.tup [.int h,.str b.n]))=kv (fun b=>.s (.tup [hD b.h,.str b.n])) (upH M i h):=by
 rw [vL hb]
 unfold kv upH
 rw [List.map_map]
 refine List.map_congr_left fun c hc=>?_
 show _=((Sum.inl (if c.i=i then { c with h:=some h } else c).i:Key),Mt.s (.tup [hD (if c.i=i then { c with h:=some h } else c).h,.str (if c.i=i then { c with h:=some h } else c).n]))
 by_cases e:c.i=i
 ·have hf:=lJ nd hc
  rw [e,hb] at hf
  cases hf
  rw [if_pos e,if_pos e]
  rfl
 · rw [if_neg e,if_neg e]
theorem tY {β:Type} (g:B8->β) (M:List B8) (i h:Int) (hg:∀ b:B8,g { b with h:=some h }=g b):kv g (upH M i h)=kv g M:=by
 unfold kv upH
 rw [List.map_map]
 refine List.map_congr_left fun b _=>?_
 show ((Sum.inl (if b.i=i then { b with h:=some h } else b).i:Key),g (if b.i=i then { b with h:=some h } else b))=_
 split
 · rw [hg]
 · rfl
theorem DB {C:Addr} {gv:Int} {M:List B8} {i h:Int}:trM C gv (upH M i h)=trG C (.s (.int gv)) (kM (fun b=>.s (.str b.n)) M) (kM (fun b=>.s (hD b.h)) (upH M i h)) (bxM M) (kM mkM M) (kM (fun _=>lM []) M) (kM (fun _=>.s (.tup [])) M):=by
 unfold trM bxM kM
 rw [tY (fun b=>Mt.s (.str b.n)) _ _ _ (fun _=>rfl),tY (fun b=>lM (b.r.map .int)) _ _ _ (fun _=>rfl),tY mkM _ _ _ (fun _=>rfl),tY (fun _=>lM []) _ _ _ (fun _=>rfl),tY (fun _=>Mt.s (.tup [])) _ _ _ (fun _=>rfl)]
theorem Cy {M:List B8} (nd:Nd M) {i h:Int} {b q:B8} {rj:List Int} (hb:fd M i=some b) (hj:b.h=some h) (hq:fd M h=some q):mvB M i h h rj q.r=M:=by
 unfold mvB upH upR
 rw [List.map_map,List.map_map]
 conv=>rhs; rw [<- List.map_id M]
 refine List.map_congr_left fun c hc=>?_
 have hf:=lJ nd hc
 have e1:(if (if c.i=h then { c with r:=rj } else c).i=h then { (if c.i=h then { c with r:=rj } else c) with r:=q.r } else (if c.i=h then { c with r:=rj } else c))=c:=by
  by_cases e:c.i=h
  ·rw [e,hq] at hf
   cases hf
   rw [if_pos e]
   show (if q.i=h then _ else _)=_
   rw [if_pos e]
  · rw [if_neg e,if_neg e]
 show (if (if (if c.i=h then { c with r:=rj } else c).i=h then { (if c.i=h then { c with r:=rj } else c) with r:=q.r } else (if c.i=h then { c with r:=rj } else c)).i=i then { (if (if c.i=h then { c with r:=rj } else c).i=h then { (if c.i=h then { c with r:=rj } else c) with r:=q.r } else (if c.i=h then { c with r:=rj } else c)) with h:=some h } else (if (if c.i=h then { c with r:=rj } else c).i=h then { (if c.i=h then { c with r:=rj } else c) with r:=q.r } else (if c.i=h then { c with r:=rj } else c)))=id c
 rw [e1]
 by_cases e:c.i=i
 ·rw [e,hb] at hf
  cases hf
  rw [if_pos e,<- hj]
  rfl
 ·rw [if_neg e]
  rfl
section
variable {t:Adr} {gv:Int} {M:List B8} {i j h pl:Int} {b p q:B8} {l:List Int} {ni nh:Nat} {ns:List Nat}
theorem CA (m:MOk gv M) (h90:M.length < 90) (hb:fd M i=some b) (hj:b.h=some j) (hp:fd M j=some p) (hi:i ∈ p.r) (hq:fd M h=some q) (hs:Sub M b.r l) (hn:h ∉ i::l) (hl:l.length < 90)
  (ci:Ch M i ni) (ch:Ch M h nh) (n12:ni<=12/\nh<=12) (ds:Dps M (i::l) ns) (d12:∀ n ∈ ns,n<=12) (hd:(nh:Int)+1+tpI ns - ni<=12) {row:List Int} (er:row=insI (q.r.filter fun y=>decide (y≠i)) pl i)
  (p0:0<=pl) (p1:pl<=((q.r.filter fun y=>decide (y≠i)).length:Int)) :
  dN t [.mu true (trM t.ae gv M),.shr (.int i),.shr (.int h),.shr (.int pl)]=some (.shr (.bl (!decide (row=q.r))),[.mu true (trM t.ae gv (mvB M i j h (p.r.erase i) row)),.no,.no,.no]):=by
 have i0:=m.h0 hb hj
 have hp2:p.r.length<=M.length:=sub_len (m.rnd p (bc hp)) fun y hy=>by
  obtain ⟨d,d1,_⟩:=m.kid p (bc hp) y hy
  exact ⟨d,d1⟩
 have hq2:q.r.length<=M.length:=sub_len (m.rnd q (bc hq)) fun y hy=>by
  obtain ⟨d,d1,_⟩:=m.kid q (bc hq) y hy
  exact ⟨d,d1⟩
 have hf2:(q.r.filter fun y=>decide (y≠i)).length<=q.r.length:=List.length_filter_le _ _
 have hih:h≠i:=fun e=>hn (by rw [e]; exact List.mem_cons_self ..)
 have hnl:h ∉ l:=fun e=>hn (List.mem_cons_of_mem _ e)
 have sn:∀ {r:List Sm},bB (.mu true (trM t.ae gv M)::r)=.shr (trD t.ae gv M)::bB r:=kj
 unfold dN gC
 have go:∀ {o:Aa},(aL (lE (tS (dT (dOp oEq (aj 5) (dOp bC (dUn (nr t.ae "boxes") (aj 0)) (aj 2)))))
  (fJ (eN (dC (.bl false))))
  dk)
  (aL (rA (nB (ee t.ae "boxes" (aU 0)) (dOp bC (dUn (nr t.ae "holders") (aj 0)) (aj 1))) (aj 1))
  (aL (bH (ee t.ae "boxes" (aU 0)) (aj 2) (eV 5))
  (aL (bH (ee t.ae "holders" (aU 0)) (aj 1) (eN (aj 2)))
  (fJ (eN (dC (.bl true)))))))) [.mu true (trM t.ae gv M),.shr (.int i),.shr (.int h),.shr (.int pl),.shr (.lst (l.map .int)),.mu false (lM (row.map .int)),.shr (.int (tpI ns))]=some o ->
  (gC t) [.mu true (trM t.ae gv M),.shr (.int i),.shr (.int h),.shr (.int pl),.no,.no,.no]=some o:=fun {o} ho=>by
  unfold gC
  refine aQ (gf (τ:=[.mu true (trM t.ae gv M),.shr (.int i),.shr (.int h),.shr (.int pl),.no,.no,.no]) (by rw [sn]; exact eW (ai rfl) (aq (ai rfl) aK) rfl (jZ hb) rfl)) ?_
  refine aQ (gf (by rw [sn]; exact eW (ai rfl) (aq (ai rfl) aK) rfl (jZ hq) rfl)) ?_
  refine aQ (τ':=[.mu true (trM t.ae gv M),.shr (.int i),.shr (.int h),.shr (.int pl),.shr (.lst (l.map .int)),.no,.no]) (dF (v_F (by rw [sn]; exact FL (aq (ai rfl) (aq (ai rfl) aK)) (FT hb hs (by omega)) rfl) (fU _)) (Zb rfl) rfl) ?_
  refine aQ (lI (t_S (A3 (b:=false) (ck (be (ai rfl) e_c ((fZ _ _).trans (by rw [decide_eq_false i0])))) (fun _=>A3 (b:=false) (ck (be (ai rfl) (ai rfl) ((fZ _ _).trans (by rw [decide_eq_false hih])))) (fun _=>ck (be (ai rfl) (ai rfl) ((Fk h l).trans (by rw [decide_eq_false hnl])))) nofun) nofun)) rfl) ?_
  refine aQ (τ':=[.mu true (trM t.ae gv M),.shr (.int i),.shr (.int h),.shr (.int pl),.shr (.lst (l.map .int)),.mu false (lM ((q.r.filter fun y=>decide (y≠i)).map .int)),.no]) (dF (s:=.mu false (lM ((q.r.filter fun y=>decide (y≠i)).map .int))) (v_O (by rw [sn]; exact rV (xq (be (jX (ai rfl) fB) (ai rfl) (bQ hq))) (by rw [List.length_map]; omega) (tD (f:=fun y=>decide (y≠i)) fun x _=>ck (be (ai rfl) (ai rfl) ((kE _ _).trans (by rw [decide_not]))))) (fU _)) (Zb rfl) rfl) ?_
  refine aQ (gf (jW (aq (ai rfl) (aq (jI (b:=false) rfl (kZ _)) aK)) (iY p0 p1) rfl)) ?_
  refine aQ (τ':=[.mu true (trM t.ae gv M),.shr (.int i),.shr (.int h),.shr (.int pl),.shr (.lst (l.map .int)),.mu false (lM ((q.r.filter fun y=>decide (y≠i)).map .int)),.shr (.int (tpI ns))]) (dF (s:=.shr (.int (tpI ns))) (v_S (by
   rw [sn]
   refine cD (aq (tI (ds:=(i::l).map .int) (xq (be (lK (aq (ai rfl) aK) (Zb rfl)) (ai rfl) ?_)) (by rw [List.length_map]; show l.length+1<=_; omega) (ds.map (fun x n hx hx12=>jW (aq (ai rfl) (aq (ai rfl) aK)) (lQ hx (by omega)) rfl) d12)) aK) (AD (by rw [ds.len]; exact Nat.succ_pos _))
   show (if [D.int i].length+(l.map D.int).length<=100000 then some (D.lst ([D.int i]++l.map .int)) else none)=_
   rw [if_pos (by rw [List.length_map]; show 1+l.length<=_; omega)]
   rfl) rfl) (Zb rfl) rfl) ?_
  refine aQ (lI (t_S (by
   rw [sn]
   exact ck (be (be (be (be (jW (aq (ai rfl) (aq (ai rfl) aK)) (lQ ch (by omega)) rfl) e_c (bA _ _)) (ai rfl) (bA _ _)) (jW (aq (ai rfl) (aq (ai rfl) aK)) (lQ ci (by omega)) rfl) (lL _ _)) e_c (CV hd)))) rfl) ?_
  refine aQ (τ':=[.mu true (trM t.ae gv M),.shr (.int i),.shr (.int h),.shr (.int pl),.shr (.lst (l.map .int)),.mu false (lM (row.map .int)),.shr (.int (tpI ns))]) ((zG (n:=pl) (cs0:=_) cK rfl (ai rfl) (v_N (ai rfl)) rfl rfl ⟨p0,by rw [List.length_map,List.length_map]; exact p1,by rw [List.length_map,List.length_map]; omega⟩).trans ?_) ho
  rw [kY rfl,tm,er]
  rfl
 have eb:bC (.dct (kv (fun b=>.lst (b.r.map .int)) M)) (.int h)=some (.lst (q.r.map .int)):=bQ hq
 have et:tS (dT (dOp oEq (aj 5) (dOp bC (dUn (nr t.ae "boxes") (aj 0)) (aj 2)))) [.mu true (trM t.ae gv M),.shr (.int i),.shr (.int h),.shr (.int pl),.shr (.lst (l.map .int)),.mu false (lM (row.map .int)),.shr (.int (tpI ns))]=some (decide (row=q.r),[.mu true (trM t.ae gv M),.shr (.int i),.shr (.int h),.shr (.int pl),.shr (.lst (l.map .int)),.mu false (lM (row.map .int)),.shr (.int (tpI ns))]) :=
  t_S (ck (be (jI (b:=false) rfl (kZ _)) (be (jX (jI (b:=true) rfl (qx _ _ _)) fB) (ai rfl) eb) (C5 _ _)))
 by_cases hr:row=q.r
 ·have hjh:j=h:=by
   have:i ∈ q.r:=by rw [<- hr,er]; exact mF.mpr (.inl rfl)
   obtain ⟨d,d1,d2⟩:=m.CM hq this
   rw [hb] at d1
   cases d1
   rw [hj] at d2
   exact Zj d2
  rw [decide_eq_true hr] at et ⊢
  refine (gT (s:=.shr (.bl false)) (τ:=[.mu true (trM t.ae gv M),.shr (.int i),.shr (.int h),.shr (.int pl),.shr (.lst (l.map .int)),.mu false (lM (row.map .int)),.shr (.int (tpI ns))]) (go ?_)).trans ?_
  ·have:(lE (tS (dT (dOp oEq (aj 5) (dOp bC (dUn (nr t.ae "boxes") (aj 0)) (aj 2))))) (fJ (eN (dC (.bl false)))) dk) [.mu true (trM t.ae gv M),.shr (.int i),.shr (.int h),.shr (.int pl),.shr (.lst (l.map .int)),.mu false (lM (row.map .int)),.shr (.int (tpI ns))]=some (.ret (.shr (.bl false)) [.mu true (trM t.ae gv M),.shr (.int i),.shr (.int h),.shr (.int pl),.shr (.lst (l.map .int)),.mu false (lM (row.map .int)),.shr (.int (tpI ns))]):=wU et (rO (v_N e_c))
   unfold aL
   rw [this]
  ·rw [hjh,hr,Cy m.nd hb (hjh ▸ hj) hq]
   rfl
 ·rw [decide_eq_false hr] at et ⊢
  refine (gT (s:=.shr (.bl true)) (τ:=[.mu true (trM t.ae gv (mvB M i j h (p.r.erase i) row)),.shr (.int i),.shr (.int h),.shr (.int pl),.shr (.lst (l.map .int)),.no,.shr (.int (tpI ns))]) (go ?_)).trans rfl
  refine aQ (lI et rfl) ?_
  have hg:bE [.mu true (trM t.ae gv M),.shr (.int i),.shr (.int h),.shr (.int pl),.shr (.lst (l.map .int)),.mu false (lM (row.map .int)),.shr (.int (tpI ns))] 0 [.k (.inr "boxes"),.k (.inl j)]=some (lM (p.r.map .int)):=by
   rw [p8 rfl]
   refine vi.trans ?_
   refine (qw _ _ _).trans ?_
   rw [hp]
   rfl
  have eh:bC (.dct (kv (fun b=>hD b.h) M)) (.int i)=some (.int j):=by
   rw [bQ hb,hj]
   rfl
  refine aQ (τ':=[.mu true (trM t.ae gv (upR M j (p.r.erase i))),.shr (.int i),.shr (.int h),.shr (.int pl),.shr (.lst (l.map .int)),.mu false (lM (row.map .int)),.shr (.int (tpI ns))]) ((EZ (n:=i) (ns:=p.r) (u6 (nu cK rfl) (by rw [sn]; exact be (jX (ai rfl) fH) (ai rfl) eh) rfl rfl) (ai rfl) hg (tq _) ⟨by omega,hi⟩).trans ?_) ?_
  ·rw [kY rfl,Ao]
   have ep:(trM t.ae gv M).put ([]++[.k (.inr "boxes")]++[.k (.inl j)]) (lM ((p.r.erase i).map .int))=trM t.ae gv (upR M j (p.r.erase i)):=by
    refine lU.trans ?_
    rw [sM m.nd hp,vh]
   rw [ep]
   rfl
  have hq3:∃ q',fd (upR M j (p.r.erase i)) h=some q':=by rw [jU,hq]; exact ⟨_,rfl⟩
  obtain ⟨q',hq'⟩:=hq3
  have hb3:∃ b',fd (upR (upR M j (p.r.erase i)) h row) i=some b':=by rw [jU,jU,hb]; exact ⟨_,rfl⟩
  obtain ⟨b',hb'⟩:=hb3
  refine aQ (τ':=[.mu true (trM t.ae gv (upR (upR M j (p.r.erase i)) h row)),.shr (.int i),.shr (.int h),.shr (.int pl),.shr (.lst (l.map .int)),.no,.shr (.int (tpI ns))]) ?_ ?_
  ·refine (gG (cs:=kv (fun b=>lM (b.r.map .int)) (upR M j (p.r.erase i))) (τ1:=[.mu true (trM t.ae gv (upR M j (p.r.erase i))),.shr (.int i),.shr (.int h),.shr (.int pl),.shr (.lst (l.map .int)),.no,.shr (.int (tpI ns))]) (v_V rfl) (nu cK rfl) (ai rfl) rfl rfl rfl (by rw [iW,g8]; omega)).trans ?_
   rw [kY rfl,vH hq']
   have:trM t.ae gv (upR (upR M j (p.r.erase i)) h row)=(trM t.ae gv (upR M j (p.r.erase i))).put ([]++[.k (.inr "boxes")]) (.n .d (kv (fun b=>lM (b.r.map .int)) (upR (upR M j (p.r.erase i)) h row))):=by
    rw [vh]
    exact t5.symm
   rw [this]
   rfl
  refine aQ (τ':=[.mu true (trM t.ae gv (mvB M i j h (p.r.erase i) row)),.shr (.int i),.shr (.int h),.shr (.int pl),.shr (.lst (l.map .int)),.no,.shr (.int (tpI ns))]) ?_ (rO (v_N e_c))
  refine (l8 (cs:=kv (fun b=>.s (hD b.h)) (upR (upR M j (p.r.erase i)) h row)) (v_N (ai rfl)) (ai rfl) rfl rfl (by rw [iW,g8,g8]; omega)).trans ?_
  rw [Bo hb']
  unfold mvB
  rw [DB]
  rfl
end
end N09
end
section
namespace N09
open PySem L2
section
variable {t:Adr} {gv:Int} {M:List B8}
def Hd (M:List B8):Prop:=∃ r T,M=r::T/\r.i=0
theorem Fp {h p:Int} {b:B8} {nm:Str} (hd:Hd M):Hd (dY M h b p gv nm):=by
 obtain ⟨r,T,rfl,e⟩:=hd
 refine ⟨_,_,rfl,?_⟩
 show (if r.i=h then { r with r:=insI b.r p gv } else r).i=0
 split <;> exact e
theorem Fi (hd:Hd M) (nd:Nd M) {k:Int} (k0:1<=k) (k1:k < M.length):∃ b ∈ M,b.i≠0/\oIx (.lst ((M.map B8.i).map .int)) (.int k)=some (.int b.i):=by
 obtain ⟨r,T,rfl,e⟩:=hd
 unfold Nd at nd
 rw [List.map_cons,List.nodup_cons] at nd
 obtain ⟨h,e1⟩:=qU (xs:=((r::T).map B8.i).map D.int) (j:=k) (by omega) (by rw [List.length_map,List.length_map]; exact k1)
 obtain ⟨n,hn⟩:∃ n:Nat,k.toNat=n+1:=⟨k.toNat - 1,by omega⟩
 have hl:n < T.length:=by
  rw [List.length_cons] at k1
  omega
 refine ⟨T[n],List.mem_cons_of_mem _ (List.getElem_mem hl),fun z=>nd.1 ?_,?_⟩
 ·rw [e,<- z]
  exact List.mem_map_of_mem (List.getElem_mem hl)
 ·show atI _ k=_
  rw [e1]
  simp [hn]
theorem J0 {β:Type} (g:B8->β) (M:List B8) (j:Int) (r:List Int) (i h:Int) (hg:∀ (b:B8) (r:List Int),g { b with r:=r }=g b):kv g (upH (upR M j r) i h)=kv g (upH M i h):=by
 unfold kv upH upR
 rw [List.map_map,List.map_map,List.map_map]
 refine List.map_congr_left fun b _=>?_
 simp only [Function.comp]
 by_cases e:b.i=j
 ·rw [if_pos e]
  by_cases e2:b.i=i
  ·rw [if_pos e2,if_pos (show ({ b with r:=r }:B8).i=i from e2)]
   exact Prod.ext rfl (hg { b with h:=some h } r)
  ·rw [if_neg e2,if_neg (show ¬ ({ b with r:=r }:B8).i=i from e2)]
   exact Prod.ext rfl (hg b r)
 · rw [if_neg e]
theorem z8 {a x:Int} (h:Anc M a x) {r:B8} (r1:fd M x=some r) (r2:r.h=none):a=x:=by
 cases h with
 | refl=>rfl
 | up h1 h2 _=>rw [r1] at h1; cases h1; rw [r2] at h2; cases h2
theorem JL {i j h:Int} {rj rh:List Int} (hd:Hd M):Hd (mvB M i j h rj rh):=by
 obtain ⟨r,T,rfl,e⟩:=hd
 refine ⟨_,_,rfl,?_⟩
 have e1:(if r.i=j then { r with r:=rj } else r).i=0:=by split <;> exact e
 have e2:(if (if r.i=j then { r with r:=rj } else r).i=h then { (if r.i=j then { r with r:=rj } else r) with r:=rh } else (if r.i=j then { r with r:=rj } else r)).i=0:=by
  by_cases z:(if r.i=j then { r with r:=rj } else r).i=h
  · rw [if_pos z]; exact e1
  · rw [if_neg z]; exact e1
 show (if (if (if r.i=j then { r with r:=rj } else r).i=h then { (if r.i=j then { r with r:=rj } else r) with r:=rh } else (if r.i=j then { r with r:=rj } else r)).i=i then { (if (if r.i=j then { r with r:=rj } else r).i=h then { (if r.i=j then { r with r:=rj } else r) with r:=rh } else (if r.i=j then { r with r:=rj } else r)) with h:=some h } else (if (if r.i=j then { r with r:=rj } else r).i=h then { (if r.i=j then { r with r:=rj } else r) with r:=rh } else (if r.i=j then { r with r:=rj } else r))).i=0
 by_cases z:(if (if r.i=j then { r with r:=rj } else r).i=h then { (if r.i=j then { r with r:=rj } else r) with r:=rh } else (if r.i=j then { r with r:=rj } else r)).i=i
 · rw [if_pos z]; exact e2
 · rw [if_neg z]; exact e2
theorem AG (M:List B8) (i j h:Int) (rj rh:List Int):(mvB M i j h rj rh).length=M.length:=by
 unfold mvB upH
 rw [List.length_map,g8,g8]
theorem sn3 {b0 b1 b2:Bool} {r:List Sm}:bB (.mu b0 (trM t.ae gv M)::.mu b1 (bxM M)::.mu b2 (faM M)::r)=.shr (trD t.ae gv M)::.shr (.dct (kv (fun b=>.lst (b.r.map .int)) M))::.shr (faD M)::bB r:=by
 rw [kj]
 show _::Sl.shr (frz (bxM M))::Sl.shr (frz (faM M))::_=_
 rw [mJ,k5]
open Classical in
theorem wY (m:MOk gv M) (hd:Hd M) (h90:M.length < 90) (l2:2<=M.length) {c w:Int} (w0:0<=w) (w1:w<=900) :
  ∃ i j h rj rh,MOk gv (mvB M i j h rj rh)/\cg t [.mu true (trM t.ae gv M),.mu true (bxM M),.mu true (faM M),.shr (.int c),.shr (.int w)]=some (.shr (.bl true),[.mu true (trM t.ae gv (mvB M i j h rj rh)),.mu true (bxM (mvB M i j h rj rh)),.mu true (faM (mvB M i j h rj rh)),.no,.no]):=by
 obtain ⟨q0,e0,q00,q01⟩:=p9 c w0 (show w<=10000 by omega)
 obtain ⟨q1,e1,q10,q11⟩:=p9 c (show (0:Int)<=w+1 by omega) (show w+1<=10000 by omega)
 obtain ⟨q2,e2,q20,q21⟩:=p9 c (show (0:Int)<=w+2 by omega) (show w+2<=10000 by omega)
 have k0:0<=q0 % ((M.length:Int) - 1):=Int.emod_nonneg _ (by omega)
 have k1:q0 % ((M.length:Int) - 1) < (M.length:Int) - 1:=Int.emod_lt_of_pos _ (by omega)
 obtain ⟨b,hm,i0,ei⟩:=Fi hd m.nd (k:=1+q0 % ((M.length:Int) - 1)) (by omega) (by omega)
 have hb:=lJ m.nd hm
 obtain ⟨j,p,hj,hp,pi⟩:=m.hol b hm i0
 obtain ⟨l,hs,hs'⟩:=Sub.of m hb
 have nd:(b.i::l).Nodup:=hs.nodup m (List.pairwise_singleton _ _)
 have ll:=sub_len nd hs.in
 have lc:(b.i::l).length=l.length+1:=rfl
 obtain ⟨ni,ci,ni12⟩:=m.dp hb
 obtain ⟨ns,ds⟩:=Dps.ex m (l:=b.i::l) hs.in
 have d12:∀ n ∈ ns,n<=12:=fun n hn=>by
  obtain ⟨x,hx,hc⟩:=ds.back n hn
  obtain ⟨bb,hbb⟩:=hc.get
  obtain ⟨n',h1,h2⟩:=m.dp hbb
  rw [hc.uniq h1]; exact h2
 have nl:0 < ns.length:=by rw [ds.len]; exact Nat.succ_pos _
 have tp12:tpI ns<=12:=by
  obtain ⟨n,hn,e⟩:=DC nl
  rw [e]
  have:=d12 n hn
  omega
 obtain ⟨nj,cj,enj⟩:∃ nj,Ch M j nj/\ni=nj+1:=by
  cases ci with
  | top h e=>rw [hb] at h; cases h; rw [hj] at e; cases e
  | up h e c=>rw [hb] at h; cases h; rw [hj] at e; cases e; exact ⟨_,c,rfl⟩
 have jn:j ∉ b.i::l:=fun h=>by
  obtain ⟨k,c1,c2,_⟩:=((hs.iff m hp).mp h).deep cj
  have:=c1.uniq ci
  omega
 let f:Int->Bool:=fun x=>!decide (x ∈ b.i::l)&&decide (∃ n:Nat,Ch M x n/\(n:Int)+1+(tpI ns - ni)<=12)
 obtain ⟨fre,efr⟩:∃ fre,fre=(M.map B8.i).filter f:=⟨_,rfl⟩
 have fok:∀ x ∈ fre,(∃ q,fd M x=some q)/\x ∉ b.i::l/\∃ n:Nat,Ch M x n/\(n:Int)+1+(tpI ns - ni)<=12:=fun x hx=>by
  rw [efr,List.mem_filter] at hx
  obtain ⟨h1,h2⟩:=hx
  obtain ⟨q,hq,rfl⟩:=List.mem_map.mp h1
  simp only [f,Bool.and_eq_true,Bool.not_eq_true',decide_eq_false_iff_not,decide_eq_true_eq] at h2
  exact ⟨⟨q,lJ m.nd hq⟩,h2.1,h2.2⟩
 have fne:fre≠[]:=fun e=>by
  obtain ⟨r,r1,r2⟩:=m.root
  have:(0:Int) ∈ fre:=by
   rw [efr,List.mem_filter]
   refine ⟨List.mem_map.mpr ⟨r,bc r1,kG r1⟩,?_⟩
   have n0:(0:Int) ∉ b.i::l:=fun h=>by
    exact i0 (z8 ((hs.iff m r1).mp h) r1 r2)
   simp only [f,Bool.and_eq_true,Bool.not_eq_true',decide_eq_false_iff_not,decide_eq_true_eq]
   exact ⟨n0,0,.top r1 r2,by omega⟩
  rw [e] at this
  cases this
 have flp:0 < fre.length:=List.length_pos_iff.mpr fne
 obtain ⟨xm,mm,em⟩:=AJ (ys:=fre) (j:=q1 / 3 % (fre.length:Int)) (Int.emod_nonneg _ (by omega)) (Int.emod_lt_of_pos _ (by omega))
 obtain ⟨h,eh,⟨q,hq⟩,hn,nh,ch,hdp⟩:∃ h,h=(if q1 % 3=0 then j else xm)/\(∃ q,fd M h=some q)/\h ∉ b.i::l/\∃ n:Nat,Ch M h n/\(n:Int)+1+(tpI ns - ni)<=12:=by
  split
  · exact ⟨j,rfl,⟨p,hp⟩,jn,nj,cj,by omega⟩
  ·obtain ⟨a1,a2,a3⟩:=fok xm mm
   exact ⟨xm,rfl,a1,a2,a3⟩
 obtain ⟨nh',ch',nh12⟩:=m.dp hq
 have:=ch.uniq ch'
 subst this
 have hq2:q.r.length<=M.length:=sub_len (m.rnd q (bc hq)) fun y hy=>by
  obtain ⟨d,d1,_⟩:=m.kid q (bc hq) y hy
  exact ⟨d,d1⟩
 have hp2:p.r.length<=M.length:=sub_len (m.rnd p (bc hp)) fun y hy=>by
  obtain ⟨d,d1,_⟩:=m.kid p (bc hp) y hy
  exact ⟨d,d1⟩
 obtain ⟨rs,ers⟩:∃ rs,rs=q.r.filter fun y=>decide (y≠b.i):=⟨_,rfl⟩
 have hf2:rs.length<=q.r.length:=by rw [ers]; exact List.length_filter_le _ _
 obtain ⟨pl,epl⟩:∃ pl,pl=q2 % ((rs.length:Int)+1):=⟨_,rfl⟩
 have p0:0<=pl:=by rw [epl]; exact Int.emod_nonneg _ (by omega)
 have p1:pl<=rs.length:=by have:=Int.emod_lt_of_pos q2 (show 0 < (rs.length:Int)+1 by omega); omega
 obtain ⟨row,erow⟩:∃ row,row=insI rs pl b.i:=⟨_,rfl⟩
 have na:¬ Anc M b.i h:=fun a=>hn ((hs.iff m hq).mpr a)
 have mok:=EX m hb hj hp hq na ci ch (fun x n a hc=>by
  obtain ⟨bx,hbx⟩:=hc.get
  have:=Ht (ds.mem x ((hs.iff m hbx).mpr a) n hc)
  omega) (rj:=p.r.erase b.i) rfl (pl:=pl) (rh:=row) (by rw [erow,ers])
 refine ⟨b.i,j,h,p.r.erase b.i,row,mok,?_⟩
 unfold cg lq
 have eM:(M.map B8.i).length=M.length:=List.length_map _
 refine (gT (s:=.shr (.bl true)) (τ:=[.mu true (trM t.ae gv (mvB M b.i j h (p.r.erase b.i) row)),.mu true (bxM (mvB M b.i j h (p.r.erase b.i) row)),.mu true (faM (mvB M b.i j h (p.r.erase b.i) row)),.shr (.int c),.shr (.int w),.shr (.lst ((M.map B8.i).map .int)),.shr (.int b.i),.shr (.lst ((b.i::l).map .int)),.shr (.int (tpI ns - ni)),.shr (.lst (fre.map .int)),.shr (.int q1),.shr (.int h),.no,.shr (.int pl),.shr (.bl (!decide (row=q.r))),.shr (.bl (!decide (row=q.r)))]) ?_).trans rfl
 refine aQ (τ':=[.mu true (trM t.ae gv M),.mu true (bxM M),.mu true (faM M),.shr (.int c),.shr (.int w),.shr (.lst ((M.map B8.i).map .int)),.no,.no,.no,.no,.no,.no,.no,.no,.no,.no]) (dF (v_F ?_ (fU _)) (Zb rfl) rfl) ?_
 ·unfold tM
  rw [jI (b:=true) rfl (mJ M)]
  show some (D.lst ((kv _ M).map _))=_
  unfold kv
  rw [List.map_map,List.map_map]
  rfl
 refine aQ (τ':=[.mu true (trM t.ae gv M),.mu true (bxM M),.mu true (faM M),.shr (.int c),.shr (.int w),.shr (.lst ((M.map B8.i).map .int)),.shr (.int b.i),.no,.no,.no,.no,.no,.no,.no,.no,.no]) (dF (v_N (be (ai rfl) (be e_c (be (jW (aq (ai rfl) (aq (ai rfl) aK)) e0 rfl) (be (cD (aq (ai rfl) aK) (rQ _)) e_c (lL _ _)) (dq (by omega))) (bA _ _)) (by rw [eM]; exact ei))) (Zb rfl) rfl) ?_
 refine aQ (τ':=[.mu true (trM t.ae gv M),.mu true (bxM M),.mu true (faM M),.shr (.int c),.shr (.int w),.shr (.lst ((M.map B8.i).map .int)),.shr (.int b.i),.shr (.lst ((b.i::l).map .int)),.no,.no,.no,.no,.no,.no,.no,.no]) (dF (v_F (FL (aq (jI (b:=true) rfl (mJ M)) (aq (ai rfl) aK)) (yA hs (by omega)) rfl) (fU _)) (Zb rfl) rfl) ?_
 refine aQ (τ':=[.mu true (trM t.ae gv M),.mu true (bxM M),.mu true (faM M),.shr (.int c),.shr (.int w),.shr (.lst ((M.map B8.i).map .int)),.shr (.int b.i),.shr (.lst ((b.i::l).map .int)),.shr (.int (tpI ns - ni)),.no,.no,.no,.no,.no,.no,.no]) (dF (v_S (by
  rw [sn3]
  exact be (cD (aq (tI (xq (ai rfl)) (by rw [List.length_map]; omega) (ds.map (fun x n hx _=>jW (aq (ai rfl) (aq (ai rfl) aK)) (pe hx) rfl) d12)) aK) (AD nl)) (jW (aq (ai rfl) (aq (ai rfl) aK)) (pe ci) rfl) (lL _ _)) rfl) (Zb rfl) rfl) ?_
 refine aQ (τ':=[.mu true (trM t.ae gv M),.mu true (bxM M),.mu true (faM M),.shr (.int c),.shr (.int w),.shr (.lst ((M.map B8.i).map .int)),.shr (.int b.i),.shr (.lst ((b.i::l).map .int)),.shr (.int (tpI ns - ni)),.shr (.lst (fre.map .int)),.no,.no,.no,.no,.no,.no]) (dF (v_F (by
  rw [sn3,efr]
  refine rV (xq (ai rfl)) (by rw [List.length_map,eM]; omega) (tD (f:=f) fun x hx=>?_)
  obtain ⟨d,hd',rfl⟩:=List.mem_map.mp hx
  obtain ⟨n,hn',_⟩:=m.dp (lJ m.nd hd')
  have et:dT (dOp mh (aj 0) (aj 1)) [.shr (.int d.i),.shr (.lst ((b.i::l).map .int)),.shr (.int (tpI ns - ni)),.shr (faD M)]=some (!decide (d.i ∈ b.i::l)):=ck (be (ai rfl) (ai rfl) (Cp _ _))
  have ex:(decide (∃ n:Nat,Ch M d.i n/\(n:Int)+1+(tpI ns - ni)<=12))=decide ((n:Int)+1+(tpI ns - ni)<=12):=decide_eq_decide.mpr ⟨fun ⟨k,k1,k2⟩=>by rw [hn'.uniq k1]; exact k2,fun z=>⟨n,hn',z⟩⟩
  refine Hw (b:=!decide (d.i ∈ b.i::l)) et (fun z=>?_) (fun z=>?_)
  ·show _=some (_&&_)
   rw [z,Bool.true_and,ex]
   exact ck (be (be (be (jW (aq (ai rfl) (aq (ai rfl) aK)) (pe hn') rfl) e_c (bA _ _)) (ai rfl) (bA _ _)) e_c rfl)
  ·show (_&&_)=false
   rw [z,Bool.false_and]) (fU _)) (Zb rfl) rfl) ?_
 refine aQ (τ':=[.mu true (trM t.ae gv M),.mu true (bxM M),.mu true (faM M),.shr (.int c),.shr (.int w),.shr (.lst ((M.map B8.i).map .int)),.shr (.int b.i),.shr (.lst ((b.i::l).map .int)),.shr (.int (tpI ns - ni)),.shr (.lst (fre.map .int)),.shr (.int q1),.no,.no,.no,.no,.no]) (dF (v_N (jW (aq (ai rfl) (aq (be (ai rfl) e_c (bA _ _)) aK)) e1 rfl)) (Zb rfl) rfl) ?_
 refine aQ (τ':=[.mu true (trM t.ae gv M),.mu true (bxM M),.mu true (faM M),.shr (.int c),.shr (.int w),.shr (.lst ((M.map B8.i).map .int)),.shr (.int b.i),.shr (.lst ((b.i::l).map .int)),.shr (.int (tpI ns - ni)),.shr (.lst (fre.map .int)),.shr (.int q1),.shr (.int xm),.no,.no,.no,.no]) (dF (v_N (be (ai rfl) (be (be (ai rfl) e_c (oW (by decide) (by decide +kernel))) (cD (aq (ai rfl) aK) (rQ fre)) (dq (by omega))) em)) (Zb rfl) rfl) ?_
 refine aQ (τ':=[.mu true (trM t.ae gv M),.mu true (bxM M),.mu true (faM M),.shr (.int c),.shr (.int w),.shr (.lst ((M.map B8.i).map .int)),.shr (.int b.i),.shr (.lst ((b.i::l).map .int)),.shr (.int (tpI ns - ni)),.shr (.lst (fre.map .int)),.shr (.int q1),.shr (.int h),.no,.no,.no,.no]) ?_ ?_
 ·have et:tS (dT (dOp oEq (dOp oMod (aj 10) (dC (.int 3))) (dC (.int 0)))) [.mu true (trM t.ae gv M),.mu true (bxM M),.mu true (faM M),.shr (.int c),.shr (.int w),.shr (.lst ((M.map B8.i).map .int)),.shr (.int b.i),.shr (.lst ((b.i::l).map .int)),.shr (.int (tpI ns - ni)),.shr (.lst (fre.map .int)),.shr (.int q1),.shr (.int xm),.no,.no,.no,.no]=some (decide (q1 % 3=0),[.mu true (trM t.ae gv M),.mu true (bxM M),.mu true (faM M),.shr (.int c),.shr (.int w),.shr (.lst ((M.map B8.i).map .int)),.shr (.int b.i),.shr (.lst ((b.i::l).map .int)),.shr (.int (tpI ns - ni)),.shr (.lst (fre.map .int)),.shr (.int q1),.shr (.int xm),.no,.no,.no,.no]):=t_S (ck (be (be (ai rfl) e_c (dq (by decide))) e_c (fZ _ _)))
  by_cases z:q1 % 3=0
  ·rw [if_pos z] at eh
   rw [decide_eq_true z] at et
   rw [eh]
   have ef:bC (faD M) (.int b.i)=some (.tup [.int j,.str b.n]):=by
    refine (bQ hb).trans ?_
    rw [hj]
    rfl
   exact wU et ((dF (v_S (be (be (jI (b:=true) rfl (k5 M)) (ai rfl) ef) e_c (nN _ _)) rfl) (Zb rfl) rfl).trans rfl)
  ·rw [if_neg z] at eh
   rw [decide_eq_false z] at et
   rw [eh]
   exact lI et rfl
 refine aQ (τ':=[.mu true (trM t.ae gv M),.mu true (bxM M),.mu true (faM M),.shr (.int c),.shr (.int w),.shr (.lst ((M.map B8.i).map .int)),.shr (.int b.i),.shr (.lst ((b.i::l).map .int)),.shr (.int (tpI ns - ni)),.shr (.lst (fre.map .int)),.shr (.int q1),.shr (.int h),.mu false (lM (rs.map .int)),.no,.no,.no]) (dF (v_O (by
  rw [sn3,ers]
  exact rV (xq (be (ai rfl) (ai rfl) (bQ hq))) (by rw [List.length_map]; omega) (tD (f:=fun y=>decide (y≠b.i)) fun x _=>ck (be (ai rfl) (ai rfl) ((kE _ _).trans (by rw [decide_not]))))) (fU _)) (Zb rfl) rfl) ?_
 refine aQ (τ':=[.mu true (trM t.ae gv M),.mu true (bxM M),.mu true (faM M),.shr (.int c),.shr (.int w),.shr (.lst ((M.map B8.i).map .int)),.shr (.int b.i),.shr (.lst ((b.i::l).map .int)),.shr (.int (tpI ns - ni)),.shr (.lst (fre.map .int)),.shr (.int q1),.shr (.int h),.mu false (lM (rs.map .int)),.shr (.int pl),.no,.no]) (dF (v_S (be (jW (aq (ai rfl) (aq (be (ai rfl) e_c (bA _ _)) aK)) e2 rfl) (be (cD (aq (jI (b:=false) rfl (kZ _)) aK) (rQ rs)) e_c (bA _ _)) ((dq (by omega)).trans (by rw [epl]))) rfl) (Zb rfl) rfl) ?_
 refine aQ (τ':=[.mu true (trM t.ae gv M),.mu true (bxM M),.mu true (faM M),.shr (.int c),.shr (.int w),.shr (.lst ((M.map B8.i).map .int)),.shr (.int b.i),.shr (.lst ((b.i::l).map .int)),.shr (.int (tpI ns - ni)),.shr (.lst (fre.map .int)),.shr (.int q1),.shr (.int h),.mu false (lM (row.map .int)),.shr (.int pl),.no,.no]) ((zG (n:=pl) (cs0:=_) cK rfl (ai rfl) (v_N (ai rfl)) rfl rfl ⟨p0,by rw [List.length_map,List.length_map]; exact p1,by rw [List.length_map,List.length_map]; omega⟩).trans (by
  rw [kY rfl,tm,erow]
  rfl)) ?_
 refine aQ (τ':=[.mu true (trM t.ae gv M),.mu true (bxM M),.mu true (faM M),.shr (.int c),.shr (.int w),.shr (.lst ((M.map B8.i).map .int)),.shr (.int b.i),.shr (.lst ((b.i::l).map .int)),.shr (.int (tpI ns - ni)),.shr (.lst (fre.map .int)),.shr (.int q1),.shr (.int h),.mu false (lM (row.map .int)),.shr (.int pl),.shr (.bl (!decide (row=q.r))),.no]) (dF (v_S (be (jI (b:=false) rfl (kZ _)) (be (jI (b:=true) rfl (mJ M)) (ai rfl) (bQ hq)) (Cq _ _)) rfl) (Zb rfl) rfl) ?_
 have ep:=CA (t:=t) m h90 hb hj hp pi hq hs' hn (by omega) ci ch ⟨ni12,nh12⟩ ds d12 (by omega) (row:=row) (pl:=pl) (by rw [erow,ers]) p0 (by rw [<- ers]; exact p1)
 refine aQ (τ':=[.mu true (trM t.ae gv (mvB M b.i j h (p.r.erase b.i) row)),.mu true (bxM M),.mu true (faM M),.shr (.int c),.shr (.int w),.shr (.lst ((M.map B8.i).map .int)),.shr (.int b.i),.shr (.lst ((b.i::l).map .int)),.shr (.int (tpI ns - ni)),.shr (.lst (fre.map .int)),.shr (.int q1),.shr (.int h),.mu false (lM (row.map .int)),.shr (.int pl),.shr (.bl (!decide (row=q.r))),.shr (.bl (!decide (row=q.r)))]) (dF (s:=.shr (.bl (!decide (row=q.r)))) (v_M (C:=t.ae) (i:=0) (q:=[]) (ss:=[.mu true (trM t.ae gv M),.shr (.int b.i),.shr (.int h),.shr (.int pl)]) (τ':=[.mu true (trM t.ae gv (mvB M b.i j h (p.r.erase b.i) row)),.mu true (bxM M),.mu true (faM M),.shr (.int c),.shr (.int w),.shr (.lst ((M.map B8.i).map .int)),.shr (.int b.i),.shr (.lst ((b.i::l).map .int)),.shr (.int (tpI ns - ni)),.shr (.lst (fre.map .int)),.shr (.int q1),.shr (.int h),.mu false (lM (row.map .int)),.shr (.int pl),.shr (.bl (!decide (row=q.r))),.no]) cK rfl rfl (bV (q_N (ai rfl)) (bV (q_N (ai rfl)) (bV (q_N (ai rfl)) rfl))) rfl ep rfl) (Zb rfl) rfl) ?_
 have hg:bE [.mu true (trM t.ae gv (mvB M b.i j h (p.r.erase b.i) row)),.mu true (bxM M),.mu true (faM M),.shr (.int c),.shr (.int w),.shr (.lst ((M.map B8.i).map .int)),.shr (.int b.i),.shr (.lst ((b.i::l).map .int)),.shr (.int (tpI ns - ni)),.shr (.lst (fre.map .int)),.shr (.int q1),.shr (.int h),.mu false (lM (row.map .int)),.shr (.int pl),.shr (.bl (!decide (row=q.r))),.shr (.bl (!decide (row=q.r)))] 1 [.k (.inl j)]=some (lM (p.r.map .int)):=by
  rw [p8 rfl]
  refine (qw _ _ _).trans ?_
  rw [hp]
  rfl
 have ef:bC (faD M) (.int b.i)=some (.tup [.int j,.str b.n]):=by
  refine (bQ hb).trans ?_
  rw [hj]
  rfl
 refine aQ (τ':=[.mu true (trM t.ae gv (mvB M b.i j h (p.r.erase b.i) row)),.mu true (bxM (upR M j (p.r.erase b.i))),.mu true (faM M),.shr (.int c),.shr (.int w),.shr (.lst ((M.map B8.i).map .int)),.shr (.int b.i),.shr (.lst ((b.i::l).map .int)),.shr (.int (tpI ns - ni)),.shr (.lst (fre.map .int)),.shr (.int q1),.shr (.int h),.mu false (lM (row.map .int)),.shr (.int pl),.shr (.bl (!decide (row=q.r))),.shr (.bl (!decide (row=q.r)))]) ((EZ (n:=b.i) (ns:=p.r) (u6 cK (be (be (jI (b:=true) rfl (k5 M)) (ai rfl) ef) e_c (nN _ _)) rfl rfl) (ai rfl) hg (tq _) ⟨by omega,pi⟩).trans ?_) ?_
 ·rw [kY rfl,Ao]
  have e4:(bxM M).put ([]++[.k (.inl j)]) (lM ((p.r.erase b.i).map .int))=bxM (upR M j (p.r.erase b.i)):=sM m.nd hp
  rw [e4]
  rfl
 have hq3:∃ q',fd (upR M j (p.r.erase b.i)) h=some q':=by rw [jU,hq]; exact ⟨_,rfl⟩
 obtain ⟨q',hq'⟩:=hq3
 have bm:bxM (mvB M b.i j h (p.r.erase b.i) row)=.n .d (gK (kv (fun b=>lM (b.r.map .int)) (upR M j (p.r.erase b.i))) (.inl h) (lM (row.map .int))):=by
  rw [vH hq']
  unfold mvB bxM kM
  rw [tY _ _ _ _ (fun _=>rfl)]
 have fm:faM (mvB M b.i j h (p.r.erase b.i) row)=.n .d (gK (kv (fun b=>.s (.tup [hD b.h,.str b.n])) M) (.inl b.i) (.s (.tup [.int h,.str b.n]))):=by
  rw [yL m.nd hb]
  unfold mvB faM kM
  rw [J0 _ _ _ _ _ _ (fun _ _=>rfl),J0 _ _ _ _ _ _ (fun _ _=>rfl)]
 have s1:bH (aU 1) (aj 11) (eV 12) [.mu true (trM t.ae gv (mvB M b.i j h (p.r.erase b.i) row)),.mu true (bxM (upR M j (p.r.erase b.i))),.mu true (faM M),.shr (.int c),.shr (.int w),.shr (.lst ((M.map B8.i).map .int)),.shr (.int b.i),.shr (.lst ((b.i::l).map .int)),.shr (.int (tpI ns - ni)),.shr (.lst (fre.map .int)),.shr (.int q1),.shr (.int h),.mu false (lM (row.map .int)),.shr (.int pl),.shr (.bl (!decide (row=q.r))),.shr (.bl (!decide (row=q.r)))]=some (.next [.mu true (trM t.ae gv (mvB M b.i j h (p.r.erase b.i) row)),.mu true (bxM (mvB M b.i j h (p.r.erase b.i) row)),.mu true (faM M),.shr (.int c),.shr (.int w),.shr (.lst ((M.map B8.i).map .int)),.shr (.int b.i),.shr (.lst ((b.i::l).map .int)),.shr (.int (tpI ns - ni)),.shr (.lst (fre.map .int)),.shr (.int q1),.shr (.int h),.no,.shr (.int pl),.shr (.bl (!decide (row=q.r))),.shr (.bl (!decide (row=q.r)))]):=by
  refine (gG (cs:=kv (fun b=>lM (b.r.map .int)) (upR M j (p.r.erase b.i))) (v_V rfl) cK (ai rfl) rfl rfl rfl (by rw [iW,g8]; omega)).trans ?_
  rw [bm]
  rfl
 have s2:bH (aU 2) (aj 6) (eT (ao (aj 11) (ao (dOp oIx (dOp bC (aj 2) (aj 6)) (dC (.int 1))) aY))) [.mu true (trM t.ae gv (mvB M b.i j h (p.r.erase b.i) row)),.mu true (bxM (mvB M b.i j h (p.r.erase b.i) row)),.mu true (faM M),.shr (.int c),.shr (.int w),.shr (.lst ((M.map B8.i).map .int)),.shr (.int b.i),.shr (.lst ((b.i::l).map .int)),.shr (.int (tpI ns - ni)),.shr (.lst (fre.map .int)),.shr (.int q1),.shr (.int h),.no,.shr (.int pl),.shr (.bl (!decide (row=q.r))),.shr (.bl (!decide (row=q.r)))]=some (.next [.mu true (trM t.ae gv (mvB M b.i j h (p.r.erase b.i) row)),.mu true (bxM (mvB M b.i j h (p.r.erase b.i) row)),.mu true (faM (mvB M b.i j h (p.r.erase b.i) row)),.shr (.int c),.shr (.int w),.shr (.lst ((M.map B8.i).map .int)),.shr (.int b.i),.shr (.lst ((b.i::l).map .int)),.shr (.int (tpI ns - ni)),.shr (.lst (fre.map .int)),.shr (.int q1),.shr (.int h),.no,.shr (.int pl),.shr (.bl (!decide (row=q.r))),.shr (.bl (!decide (row=q.r)))]):=by
  refine (gG (cs:=kv (fun b=>.s (.tup [hD b.h,.str b.n])) M) (v_T (aq (ai rfl) (aq (be (be (jI (b:=true) rfl (k5 M)) (ai rfl) ef) e_c (sU _ _ _)) aK)) rfl (Zb rfl)) cK (ai rfl) rfl rfl rfl (by rw [iW]; omega)).trans ?_
  rw [fm]
  rfl
 have hqm:∃ q2,fd (mvB M b.i j h (p.r.erase b.i) row) h=some q2/\q2.r=row:=by
  rw [FE,hq]
  exact ⟨_,rfl,if_pos (kG hq)⟩
 obtain ⟨q2',hq2',eq2⟩:=hqm
 have lrow:row.length < 1000:=by
  rw [erow,(lO _ _ _).length_eq,List.length_cons]
  omega
 have bs:aM t [trD t.ae gv (mvB M b.i j h (p.r.erase b.i) row),.int h]=some (.own (.lst (row.map .int))):=by
  exact (lR hq2').trans (by rw [eq2])
 unfold qV
 show (match bH (aU 1) (aj 11) (eV 12) [.mu true (trM t.ae gv (mvB M b.i j h (p.r.erase b.i) row)),.mu true (bxM (upR M j (p.r.erase b.i))),.mu true (faM M),.shr (.int c),.shr (.int w),.shr (.lst ((M.map B8.i).map .int)),.shr (.int b.i),.shr (.lst ((b.i::l).map .int)),.shr (.int (tpI ns - ni)),.shr (.lst (fre.map .int)),.shr (.int q1),.shr (.int h),.mu false (lM (row.map .int)),.shr (.int pl),.shr (.bl (!decide (row=q.r))),.shr (.bl (!decide (row=q.r)))] with
  | some (.next τ1)=>match bH (aU 2) (aj 6) (eT (ao (aj 11) (ao (dOp oIx (dOp bC (aj 2) (aj 6)) (dC (.int 1))) aY))) τ1 with
   | some (.next τ2)=>(gI (bR zA (ao (aj 15) (ao (dC (.ty "bool")) aY))) (gI (dOp oEq (aj 15) (aj 14)) (dFn aX (ao (cS t.ae "boxes_of" (aM t) (aj 0) (ao (aj 11) aY)) (ao (aj 12) aY)))) ((bB τ2).set 12 (.shr (frz (lM (row.map .int)))))).bind fun d=>if sca d=true/\1≠2 then some (Aa.ret (.shr d) τ2) else none
   | _=>none
  | _=>none)=_
 simp only [s1,s2]
 rw [kZ]
 have e0':((bB [.mu true (trM t.ae gv (mvB M b.i j h (p.r.erase b.i) row)),.mu true (bxM (mvB M b.i j h (p.r.erase b.i) row)),.mu true (faM (mvB M b.i j h (p.r.erase b.i) row)),.shr (.int c),.shr (.int w),.shr (.lst ((M.map B8.i).map .int)),.shr (.int b.i),.shr (.lst ((b.i::l).map .int)),.shr (.int (tpI ns - ni)),.shr (.lst (fre.map .int)),.shr (.int q1),.shr (.int h),.no,.shr (.int pl),.shr (.bl (!decide (row=q.r))),.shr (.bl (!decide (row=q.r)))]).set 12 (.shr (.lst (row.map .int))))[0]?=some (.shr (trD t.ae gv (mvB M b.i j h (p.r.erase b.i) row))):=by
  show some (Sl.shr (frz (trM t.ae gv (mvB M b.i j h (p.r.erase b.i) row))))=_
  rw [qx]
 have ebl:∀ x:Bool,oEq (.bl x) (.bl x)=some (.bl true):=fun x=>by
  show some (D.bl (decide (x=x)))=_
  rw [decide_eq_true rfl]
 rw [mL (b:=true) (c:=true) (cD (aq (ai rfl) (aq e_c aK)) rfl) (mL (b:=true) (c:=true) (be (ai rfl) (ai rfl) (ebl _)) (jW (aq (eW (ai e0') (aq (ai rfl) aK) rfl bs rfl) (aq (ai rfl) aK)) (l0 row lrow) rfl))]
 rfl
end
end N09
end
section
namespace N09
open PySem L2
section
variable {P:Program} {w:World} {K:W.Frag} {mg:Str->Option Value} {base:Heap} {t:Adr}
set_option maxHeartbeats 4000000
noncomputable def FY (t:Adr):DSm :=
 (aL (cz 1 (eN (dFn cu (ao (dFn cY (ao (aj 0) (ao (dC (.int 0)) aY))) (ao (dC (.int 9)) aY)))))
 (aL (cz 2 (eK t.ae (bX t) (aP (qN (aj 1)) jA)))
 (aL (cz 3 (eD1 (.inl 0) (eO (rZ aY))))
 (aL (cz 4 (eD1 (.inl 0) (eN (C7 (ao (dC .non) (ao (aj 1) aY))))))
 (aL (yE (qu (ao (dSl (aj 0) (dP (dC (.int 1))) (dP (dC (.int 41)))) aY)) (gTm 2 (gm (gNm 5) (gm (gNm 6) nQ)))
 (lE (tS (dOr (dT (dOp oEq (dOp oMod (dFn aJ (ao (aj 6) (ao (dOp gL (dC (.int 400)) (aj 5)) aY))) (dC (.int 2))) (dC (.int 0)))) (dT (dOp oLt (bR mi (ao (aj 3) aY)) (dC (.int 3))))))
 (aL (cz 7 (eS (bR mi (ao (aj 3) aY))))
 (aL (lE (tNt (tE (eC (cQ t) (aP (qX (aU 2)) (aP (qX (aU 3)) (aP (qX (aU 4)) (aP (qN (aj 7)) (aP (qN (aj 6)) (aP (qN (aj 5)) jA)))))))))
 (fJ (eN (dC (.bl false))))
 dk)
 (lE (tS (dT (dOp oEq (dOp oMod (aj 7) (dC (.int 2))) (dC (.int 1)))))
 (l6 (eM t.ae "mark" (cZ t) (aU 2) (aP (qN (aj 7)) (aP (qS (dOp oIx (dOp bC (aj 4) (aj 7)) (dC (.int 1)))) jA))))
 dk)))
 (lE (tNt (tE (eC (cg t) (aP (qX (aU 2)) (aP (qX (aU 3)) (aP (qX (aU 4)) (aP (qN (aj 6)) (aP (qN (dOp gL (dC (.int 500)) (aj 5))) jA))))))))
 (fJ (eN (dC (.bl false))))
 dk)))
 (aL (sI 3 8 9 (dIf (dT (dOp oEq (dOp oMod (aj 8) (dC (.int 2))) (dC (.int 1)))) (rZ (ao (dOp oIx (dOp bC (aj 4) (aj 8)) (dC (.int 1))) aY)) (rZ aY)) (dT (dOp oNe (cS t.ae "marks_of" (bW t) (aj 2) (ao (aj 8) aY)) (aj 9))))
 (fJ (eP (cf t) (aP (qX (aU 2)) (aP (qX (aU 3)) (aP (qX (aU 4)) jA)))))))))))
noncomputable def yo (t:Adr):List Sm->Option (Sm×List Sm):=q8 10 1 (FY t)
theorem EK (T:Txt K mg t):dg P w K mg base CX0 7 t.z9 t.uD ["_law_script"] (spM (yo t) K) :=
 qO T.yo jJ fun cdv A outer s H E hr =>
  (af (aN (i:=1) jJ.nd rfl (Or.inl rfl) (av (bD (aG (kW T) (hr.mono (by decide)) rfl T.mq T.cu.kp T.mT (ab (aG (p5 T) (hr.mono (by decide)) rfl T.rP T.cY.kp T.sk (ab (aa 0) (ab ar ag))) (ab ar ag))))))
  (af (aN (i:=2) jJ.nd rfl (Or.inl rfl) (yd T.CC (lG T) (hr.mono (by decide)) rfl T.E2 T.mV (aD (dW (aa 1)) dw)))
  (af (aN (i:=3) jJ.nd rfl (Or.inl rfl) (av (yf (kc:=.inl 0) wo (tU (du ag)))))
  (af (aN (i:=4) jJ.nd rfl (Or.inl rfl) (av (yf (kc:=.inl 0) wo (bD (pA (ab iP (ab (aa 1) ag)))))))
  (af (x4 PassesOwn.never rfl (uM rfl T.eJ (ab (cU (Dg (aa 0) (nX ar) (nX ar))) ag)) (yh rfl (mS (nY (i:=5) jJ.nd rfl (Or.inl rfl)) (mS (nY (i:=6) jJ.nd rfl (Or.inl rfl)) uN)))
  (aO (cX (fF (fc (gs (aI (yr hr.units) (aF jO (aG (cF T) (hr.mono (by decide)) rfl T.c7 T.aJ.kp T.c9 (ab (aa 6) (ab (aF eR ar (aa 5)) ag))) ar) ar (bz _)) (fP (aI Il (aH xU rfl T.fI PySem.boot_len (ab (aa 3) ag)) ar (bz _))))))
  (af (aN (i:=7) jJ.nd rfl (Or.inl rfl) (av (k7 (aH xU rfl T.fI PySem.boot_len (ab (aa 3) ag)))))
  (af (cX (qG (qF (qM (rG T) (hr.mono (by decide)) rfl T.uq T.cQ.kp T.uQ (aD (j6 (aC 2)) (aD (j6 (aC 3)) (aD (j6 (aC 4)) (aD (dW (aa 7)) (aD (dW (aa 6)) (aD (dW (aa 5)) dw)))))))))
  (aO (cT (av (bD dM))))
  bT)
  (aO (cX (fF (aI (yr hr.units) (aF jO (aa 7) ar) ar (bz _)))
  (aO (nU (ip (aC 2) T.ay T.qe (p7 T) (hr.mono (by decide)) T.sq (aD (dW (aa 7)) (aD (FU (cR (ba hr.units (aa 4) (aa 7) (fun _ _=>rfl)) ar (fun _ _=>rfl))) dw)))))
  bT))))
  (aO (cX (qG (qF (qM (oT T) (hr.mono (by decide)) rfl T.qk T.cg.kp T.qT (aD (j6 (aC 2)) (aD (j6 (aC 3)) (aD (j6 (aC 4)) (aD (dW (aa 6)) (aD (dW (aF eR ar (aa 5))) dw))))))))
  (aO (cT (av (bD dM))))
  bT)))))
  (af (si (i:=3) (jx:=8) (jy:=9) PassesOwn.never rfl rfl (Or.inl rfl) jJ.nd rfl (Or.inl rfl) rfl (Or.inl rfl) (by decide) (by decide) (by decide) (Di (aI (yr hr.units) (aF jO (aa 8) ar) ar (bz _)) (cU (du (ab (cR (ba hr.units (aa 4) (aa 8) (fun _ _=>rfl)) ar (fun _ _=>rfl)) ag))) (cU (du ag))) (aI (Av hr.units) (aZ (aa 2) T.ay T.lH (lF T) (hr.mono (by decide)) T.mU (ab (aa 8) ag)) (aa 9) (bz _)) dM)
  (aO (cT (av (uL (oS T) (hr.mono (by decide)) rfl T.qj T.cf.kp T.qR (aD (j6 (aC 2)) (aD (j6 (aC 3)) (aD (j6 (aC 4)) dw)))))))))))))
end
end N09
end
section
namespace N09
open PySem L2
theorem zT {cs:List Int} {j:Nat} {d:D} (h:(jV (cs.map .int))[j]?=some d):∃ c:Int,d=.tup [.int (j:Int),.int c]/\cs[j]?=some c:=by
 unfold jV at h
 rw [List.getElem?_mapIdx,List.getElem?_map] at h
 obtain ⟨d',hd',rfl⟩:=Zm h
 obtain ⟨c,hc,rfl⟩:=Zm hd'
 exact ⟨c,rfl,hc⟩
theorem zS (cs:List Int):(jV (cs.map .int)).length=cs.length:=by unfold jV; rw [List.length_mapIdx,List.length_map]
theorem Fm {τ:List Sl} {f:DE} {as:List D} (h:f τ=some (.lst as)):qu (ao f aY) τ=some (jV as):=by
 unfold qu
 rw [aq h aK]
 rfl
theorem DR (ns:List Int):∃ cs:List Int,oSl (scr ns) (some 1) (some 41)=some (.lst (cs.map .int))/\cs.length<=40:=by
 refine ⟨(ns.drop (HT.sIx ns.length 0 (some 1))).take (HT.sIx ns.length ns.length (some 41) - HT.sIx ns.length 0 (some 1)),?_,?_⟩
 ·show some (D.lst (cutD (ns.map .int) _ _))=_
  unfold cutD
  rw [List.length_map,<- List.map_drop,<- List.map_take]
 ·have e1:=HT.vz ns.length 0 1
  have e2:=HT.vz ns.length ns.length 41
  rw [show ((1:Nat):Int)=1 from rfl] at e1
  rw [show ((41:Nat):Int)=41 from rfl] at e2
  rw [e1,e2,List.length_take,List.length_drop]
  omega
theorem zQ {b:D->DSm} {ds:List D} {τ:List Sm} (P:Nat->List Sm->Prop) (h0:P 0 τ) (hs:∀ j d τ,ds[j]?=some d->P j τ->∃ τ2,b d τ=some (.next τ2)/\P (j+1) τ2):∃ τ',forM b ds τ=some (.next τ')/\P ds.length τ':=by
 induction ds generalizing τ P with
 | nil=>exact ⟨τ,rfl,h0⟩
 | cons d ds ih =>
  obtain ⟨τ2,e,p⟩:=hs 0 d τ rfl h0
  obtain ⟨τ',e',p'⟩:=ih (fun j=>P (j+1)) p fun j d τ hd hp=>hs (j+1) d τ hd hp
  refine ⟨τ',?_,p'⟩
  show (match b d τ with | some (.next τ')=>forM b ds τ' | some (.cnt τ')=>forM b ds τ' | some (.brk τ')=>some (.next τ') | r=>r)=_
  rw [e]
  exact e'
section
variable {t:Adr} {gv:Int} {M:List B8}
theorem Kz (m:MOk gv M) (h90:M.length < 90):Hl t (trM t.ae gv M) (faM M) (kv (fun b=>lM (b.r.map .int)) M):=by
 refine ⟨trF gv M,qx _ _ _,fun x hx=>?_,fun c hc=>?_⟩
 ·simp only [Jz,List.mem_cons,List.not_mem_nil,or_false] at hx
  rcases hx with rfl | rfl | rfl | rfl <;> rfl
 ·unfold kv at hc
  obtain ⟨b,hb,rfl⟩:=List.mem_map.mp hc
  have hf:=lJ m.nd hb
  refine ⟨b.i,b.n,hD b.h,b.r,rfl,?_⟩
  have hr:b.r.length<=M.length:=sub_len (m.rnd b hb) fun y hy=>by
   obtain ⟨d,d1,_⟩:=m.kid b hb y hy
   exact ⟨d,d1⟩
  refine ⟨by omega,?_,?_,vt hf,lR hf,Cr hf,mH hf⟩
  ·rw [k5]
   exact bQ hf
  ·cases b.h with
   | none=>exact .inl rfl
   | some j=>exact .inr ⟨j,rfl⟩
def mkB (M:List B8) (i:Int):List B8:=M.map fun b=>if b.i=i then { b with m:=true } else b
theorem rK {β:Type} (g:B8->β) (M:List B8) (i:Int) (hg:∀ b:B8,g { b with m:=true }=g b):kv g (mkB M i)=kv g M:=by
 unfold kv mkB
 rw [List.map_map]
 refine List.map_congr_left fun b _=>?_
 show ((Sum.inl (if b.i=i then { b with m:=true } else b).i:Key),g (if b.i=i then { b with m:=true } else b))=_
 split
 · rw [hg]
 · rfl
theorem JR (M:List B8) (i x:Int):fd (mkB M i) x=(fd M x).map fun b=>if b.i=i then { b with m:=true } else b:=by
 unfold fd mkB
 rw [List.find?_map]
 congr 2
 funext b
 show decide ((if b.i=i then { b with m:=true } else b).i=x)=_
 split <;> rfl
theorem JB (M:List B8) (i:Int):(mkB M i).map B8.i=M.map B8.i:=by
 unfold mkB
 rw [List.map_map]
 refine List.map_congr_left fun b _=>?_
 show (if b.i=i then { b with m:=true } else b).i=b.i
 split <;> rfl
theorem EY (m:MOk gv M) (i:Int):MOk gv (mkB M i):=by
 have nd':Nd (mkB M i):=by unfold Nd; rw [JB]; exact m.nd
 have old:∀ {x:Int} {d:B8},fd M x=some d->fd (mkB M i) x=some (if d.i=i then { d with m:=true } else d):=fun {x d} h=>by rw [JR,h]; rfl
 have un:∀ c ∈ mkB M i,∃ d ∈ M,d.i=c.i/\d.h=c.h/\d.r=c.r:=fun c hc=>by
  unfold mkB at hc
  obtain ⟨d,hd,rfl⟩:=List.mem_map.mp hc
  refine ⟨d,hd,?_⟩
  split <;> exact ⟨rfl,rfl,rfl⟩
 have oh:∀ d:B8,(if d.i=i then { d with m:=true } else d).h=d.h:=fun d=>by split <;> rfl
 have or:∀ d:B8,(if d.i=i then { d with m:=true } else d).r=d.r:=fun d=>by split <;> rfl
 refine ⟨nd',fun c hc=>?_,?_,fun c hc c0=>?_,fun c hc x hx=>?_,fun c hc=>?_,fun c hc=>?_⟩
 ·obtain ⟨d,hd,e1,_⟩:=un c hc
  rw [<- e1]; exact m.lt d hd
 ·obtain ⟨r,r1,r2⟩:=m.root
  exact ⟨_,old r1,(oh r).trans r2⟩
 ·obtain ⟨d,hd,e1,e2,_⟩:=un c hc
  obtain ⟨j,p,h1,h2,h3⟩:=m.hol d hd (by rw [e1]; exact c0)
  exact ⟨j,_,by rw [<- e2]; exact h1,old h2,by rw [or,<- e1]; exact h3⟩
 ·obtain ⟨d,hd,e1,_,e3⟩:=un c hc
  obtain ⟨e,h1,h2⟩:=m.kid d hd x (by rw [e3]; exact hx)
  exact ⟨_,old h1,by rw [oh,h2,e1]⟩
 ·obtain ⟨d,hd,_,_,e3⟩:=un c hc
  rw [<- e3]; exact m.rnd d hd
 ·obtain ⟨d,hd,e1,_⟩:=un c hc
  obtain ⟨n,h1,h2⟩:=m.ch d hd
  rw [e1] at h1
  exact ⟨n,Ch.mono (fun x e he=>⟨_,old he,oh e⟩) h1,h2⟩
theorem Bp {g:B8->Mt} {m2:Mt} {M:List B8} {i:Int} {b:B8} (nd:Nd M) (h:fd M i=some b) (eg:∀ c:B8,(g c).put [] m2=m2):(kM g M).put [.k (.inl i)] m2=.n .d (M.map fun c=>((.inl c.i:Key),if c.i=i then m2 else g c)):=by
 unfold kM
 have hb:=bc h
 have hi:=kG h
 obtain ⟨l1,l2,rfl⟩:=List.append_of_mem hb
 have nd':=nd
 unfold Nd at nd'
 rw [List.map_append,List.map_cons,List.nodup_append,List.nodup_cons] at nd'
 have n1:∀ c ∈ l1,c.i≠i:=fun c hc e=>nd'.2.2 c.i (List.mem_map_of_mem hc) b.i (List.mem_cons_self ..) (by rw [e,hi])
 have n2:∀ c ∈ l2,c.i≠i:=fun c hc e=>nd'.2.1.1 (by rw [hi,<- e]; exact List.mem_map_of_mem hc)
 have ix:((kv g (l1++b::l2)).findIdx? fun c=>decide (c.1=.inl i))=some l1.length:=by
  unfold kv
  rw [List.findIdx?_map,List.findIdx?_append]
  have e1:(l1.findIdx? ((fun c:Key×Mt=>decide (c.1=Sum.inl i)) ∘ fun b=>((.inl b.i:Key),g b)))=none:=by
   rw [List.findIdx?_eq_none_iff]
   intro c hc
   exact decide_eq_false fun z=>n1 c hc (by injection z)
  rw [e1,List.findIdx?_cons]
  have e2:((fun c:Key×Mt=>decide (c.1=Sum.inl i)) ∘ fun b:B8=>((.inl b.i:Key),g b)) b=true:=decide_eq_true (by show (Sum.inl b.i:Key)=Sum.inl i; rw [hi])
  rw [e2]
  simp
 have gx:(kv g (l1++b::l2))[l1.length]?=some ((.inl b.i:Key),g b):=by
  unfold kv
  rw [List.getElem?_map,List.getElem?_append_right (Nat.le_refl _),Nat.sub_self]
  rfl
 show (match (kv g (l1++b::l2)).findIdx? (fun c=>decide (c.1=.inl i)) with | none=>Mt.n .d (kv g (l1++b::l2)) | some j=>match (kv g (l1++b::l2))[j]? with | none=>Mt.n .d (kv g (l1++b::l2)) | some c=>.n .d ((kv g (l1++b::l2)).set j (c.1,Mt.put c.2 [] m2)))=_
 simp only [ix,gx]
 congr 1
 unfold kv
 rw [List.map_append,List.map_cons,List.map_append,List.map_cons,List.set_append_right _ _ (by rw [List.length_map]; exact Nat.le_refl _),List.length_map,Nat.sub_self]
 congr 1
 ·refine List.map_congr_left fun c hc=>?_
  rw [if_neg (n1 c hc)]
 ·show (_,Mt.put (g b) [] m2)::_=_
  rw [if_pos hi,eg]
  congr 1
  refine List.map_congr_left fun c hc=>?_
  rw [if_neg (n2 c hc)]
theorem CF {i:Int} {b:B8} (nd:Nd M) (hb:fd M i=some b) (h0:b.m=false) (hn:dQ b.n=true):cZ t [.mu true (trM t.ae gv M),.shr (.int i),.shr (.str b.n)]=some (.shr (.bl true),[.mu true (trM t.ae gv (mkB M i)),.no,.no]):=by
 unfold cZ ng
 have sn:∀ {r:List Sm},bB (.mu true (trM t.ae gv M)::r)=.shr (trD t.ae gv M)::bB r:=kj
 refine (gT (s:=.shr (.bl true)) (τ:=[.mu true (trM t.ae gv (mkB M i)),.shr (.int i),.shr (.str b.n)]) ?_).trans rfl
 refine aQ (gf (τ:=[.mu true (trM t.ae gv M),.shr (.int i),.shr (.str b.n)]) (by rw [sn]; exact eW (ai rfl) (aq (ai rfl) aK) rfl (jZ hb) rfl)) ?_
 refine aQ (gf (jW (aq (ai rfl) aK) (gr hn) rfl)) ?_
 have ed:yt (.str b.n) (mkD b)=some (.bl false):=by
  unfold mkD
  rw [h0]
  rfl
 refine aQ (lI (t_S (by rw [sn]; exact ck (be (ai rfl) (be (jX (ai rfl) fK) (ai rfl) (bQ hb)) ed))) rfl) ?_
 have hg:bE [.mu true (trM t.ae gv M),.shr (.int i),.shr (.str b.n)] 0 [.k (.inr "marks"),.k (.inl i)]=some (.n .d []):=by
  rw [p8 rfl]
  refine (show _=(kM mkM M).get [.k (.inl i)] from rfl).trans ?_
  refine (qw _ _ _).trans ?_
  rw [hb]
  show some (mkM b)=_
  unfold mkM
  rw [h0]
  rfl
 refine aQ (τ':=[.mu true (trM t.ae gv (mkB M i)),.shr (.int i),.shr (.str b.n)]) ((gG (cs:=[]) (v_N e_c) (u6 (nu cK rfl) (ai rfl) rfl rfl) (ai rfl) rfl rfl hg (by decide)).trans ?_) (rO (v_N e_c))
 rw [kY rfl]
 have e1:(trM t.ae gv M).put ([]++[.k (.inr "marks")]++[.k (.inl i)]) (.n .d (gK [] (.inr b.n) (.s (.bl true))))=trM t.ae gv (mkB M i):=by
  refine (show _=trG t.ae (.s (.int gv)) (kM (fun b=>.s (.str b.n)) M) (kM (fun b=>.s (hD b.h)) M) (bxM M) ((kM mkM M).put [.k (.inl i)] (.n .d (gK [] (.inr b.n) (.s (.bl true))))) (kM (fun _=>lM []) M) (kM (fun _=>.s (.tup [])) M) from rfl).trans ?_
  rw [Bp nd hb (fun c=>by unfold mkM; rfl)]
  have e2:Mt.n .d (M.map fun c=>((.inl c.i:Key),if c.i=i then (.n .d (gK [] (.inr b.n) (.s (.bl true)))) else mkM c))=kM mkM (mkB M i):=by
   unfold kM kv mkB
   rw [List.map_map]
   congr 1
   refine List.map_congr_left fun c hc=>?_
   show _=((Sum.inl (if c.i=i then { c with m:=true } else c).i:Key),mkM (if c.i=i then { c with m:=true } else c))
   by_cases e:c.i=i
   ·have hf:=lJ nd hc
    rw [e,hb] at hf
    cases hf
    rw [if_pos e,if_pos e]
    rfl
   · rw [if_neg e,if_neg e]
  rw [e2]
  unfold trM bxM kM
  rw [rK (fun b=>Mt.s (.str b.n)) _ _ (fun _=>rfl),rK (fun b=>Mt.s (hD b.h)) _ _ (fun _=>rfl),rK (fun b=>lM (b.r.map .int)) _ _ (fun _=>rfl),rK (fun _=>lM []) _ _ (fun _=>rfl),rK (fun _=>Mt.s (.tup [])) _ _ (fun _=>rfl)]
 rw [e1]
 rfl
end
end N09
end
section
namespace N09
open PySem L2
theorem uk {s:Str} (h:dQ s=true):PyData.strOk s=true:=by
 unfold dQ at h
 rw [Bool.and_eq_true] at h
 have h:=List.all_eq_true.mp h.2
 unfold PyData.strOk
 rw [Array.all_eq_true_iff_forall_mem]
 intro c hc
 have:=h c (Array.mem_toList_iff.mpr hc)
 unfold lower at this
 rw [Bool.and_eq_true] at this
 have:=of_decide_eq_true this.2
 exact decide_eq_true (by omega)
structure LOk (j:Nat) (gv:Int) (M:List B8):Prop where
 m:MOk gv M
 hd:Hd M
 lv:gv=M.length
 lm:M.length<=1+j
 om:∀ b ∈ M,b.m=decide (b.i % 2=1)
 nm:∀ b ∈ M,dQ b.n=true
section
variable {t:Adr} {gv:Int} {M:List B8}
theorem oI {x p:Int} {b:B8} {nn:Str} {d:B8} (h:d ∈ dY M x b p gv nn):(d.i=gv/\d.m=false/\d.n=nn)\/∃ d0 ∈ M,d0.i=d.i/\d0.m=d.m/\d0.n=d.n:=by
 unfold dY upR at h
 obtain ⟨c,hc,rfl⟩:=List.mem_map.mp h
 rcases List.mem_append.mp hc with hc | hc
 ·refine .inr ⟨c,hc,?_⟩
  split <;> exact ⟨rfl,rfl,rfl⟩
 ·rw [List.mem_singleton.mp hc]
  refine .inl ?_
  split <;> exact ⟨rfl,rfl,rfl⟩
theorem AA {i:Int} {d:B8} (h:d ∈ mkB M i):∃ d0 ∈ M,d0.i=d.i/\d0.n=d.n/\((d.i=i/\d.m=true)\/(d.i≠i/\d.m=d0.m)):=by
 unfold mkB at h
 obtain ⟨c,hc,rfl⟩:=List.mem_map.mp h
 refine ⟨c,hc,?_⟩
 by_cases e:c.i=i
 · rw [if_pos e]; exact ⟨rfl,rfl,.inl ⟨e,rfl⟩⟩
 · rw [if_neg e]; exact ⟨rfl,rfl,.inr ⟨e,rfl⟩⟩
theorem Az {i j h:Int} {rj rh:List Int} {d:B8} (hh:d ∈ mvB M i j h rj rh):∃ d0 ∈ M,d0.i=d.i/\d0.m=d.m/\d0.n=d.n:=by
 unfold mvB upH upR at hh
 obtain ⟨c,hc,rfl⟩:=List.mem_map.mp hh
 obtain ⟨c2,hc2,rfl⟩:=List.mem_map.mp hc
 obtain ⟨c3,hc3,rfl⟩:=List.mem_map.mp hc2
 refine ⟨c3,hc3,?_⟩
 have q3:∀ z:B8,(if z.i=i then { z with h:=some h } else z).i=z.i/\(if z.i=i then { z with h:=some h } else z).m=z.m/\(if z.i=i then { z with h:=some h } else z).n=z.n:=fun z=>by split <;> exact ⟨rfl,rfl,rfl⟩
 have q2:∀ (z:B8) (a:Int) (r:List Int),(if z.i=a then { z with r:=r } else z).i=z.i/\(if z.i=a then { z with r:=r } else z).m=z.m/\(if z.i=a then { z with r:=r } else z).n=z.n:=fun z a r=>by split <;> exact ⟨rfl,rfl,rfl⟩
 have a1:=q2 c3 j rj
 have a2:=q2 (if c3.i=j then { c3 with r:=rj } else c3) h rh
 have a3:=q3 (if (if c3.i=j then { c3 with r:=rj } else c3).i=h then { (if c3.i=j then { c3 with r:=rj } else c3) with r:=rh } else (if c3.i=j then { c3 with r:=rj } else c3))
 exact ⟨((a3.1.trans a2.1).trans a1.1).symm,((a3.2.1.trans a2.2.1).trans a1.2.1).symm,((a3.2.2.trans a2.2.2).trans a1.2.2).symm⟩
noncomputable def Gd (t:Adr):DSm:=(aL (cz 7 (eS (bR mi (ao (aj 3) aY))))
 (aL (lE (tNt (tE (eC (cQ t) (aP (qX (aU 2)) (aP (qX (aU 3)) (aP (qX (aU 4)) (aP (qN (aj 7)) (aP (qN (aj 6)) (aP (qN (aj 5)) jA)))))))))
 (fJ (eN (dC (.bl false))))
 dk)
 (lE (tS (dT (dOp oEq (dOp oMod (aj 7) (dC (.int 2))) (dC (.int 1)))))
 (l6 (eM t.ae "mark" (cZ t) (aU 2) (aP (qN (aj 7)) (aP (qS (dOp oIx (dOp bC (aj 4) (aj 7)) (dC (.int 1)))) jA))))
 dk)))
noncomputable def JA (t:Adr):DSm:=(lE (tNt (tE (eC (cg t) (aP (qX (aU 2)) (aP (qX (aU 3)) (aP (qX (aU 4)) (aP (qN (aj 6)) (aP (qN (dOp gL (dC (.int 500)) (aj 5))) jA))))))))
 (fJ (eN (dC (.bl false))))
 dk)
theorem yJ {ns:List Int} {nm:Str} {j:Nat} {c:Int} {x7 x8 x9:Sm} (l:LOk j gv M) (hj:j < 40):∃ gv' M' y7,LOk (j+1) gv' M'/\Gd t [.shr (scr ns),.shr (.str nm),.mu false (trM t.ae gv M),.mu false (bxM M),.mu false (faM M),.shr (.int (j:Int)),.shr (.int c),x7,x8,x9]=some (.next [.shr (scr ns),.shr (.str nm),.mu false (trM t.ae gv' M'),.mu false (bxM M'),.mu false (faM M'),.shr (.int (j:Int)),.shr (.int c),y7,x8,x9]):=by
 have lm:=l.lm
 obtain ⟨x,b,p,nn,dp,hb,ch,h12,hn,e⟩:=CG (t:=t) (c:=c) (w:=(j:Int)) l.m (by omega) (by omega) (by omega)
 have m1:=CB l.m (p:=p) (nm:=nn) hb ch h12
 have hd1:=Fp (gv:=gv) (h:=x) (p:=p) (b:=b) (nm:=nn) l.hd
 have ln1:(dY M x b p gv nn).length=M.length+1:=by
  unfold dY
  rw [g8,List.length_append]
  rfl
 have xg:gv≠x:=fun z=>by
  have:=(l.m.lt b (bc hb)).2
  rw [kG hb] at this
  omega
 have fn:fd (dY M x b p gv nn) gv=some ⟨gv,some x,nn,[],false⟩:=by
  unfold dY
  rw [jU,xC (n:=⟨gv,some x,nn,[],false⟩) l.m.new,if_pos rfl]
  show some (if gv=x then _ else _)=_
  rw [if_neg xg]
 have s0:cz 7 (eS (bR mi (ao (aj 3) aY))) [.shr (scr ns),.shr (.str nm),.mu false (trM t.ae gv M),.mu false (bxM M),.mu false (faM M),.shr (.int (j:Int)),.shr (.int c),x7,x8,x9]=some (.next [.shr (scr ns),.shr (.str nm),.mu false (trM t.ae gv M),.mu false (bxM M),.mu false (faM M),.shr (.int (j:Int)),.shr (.int c),.shr (.int gv),x8,x9]):=by
  refine (dF (s:=.shr (.int gv)) (v_S (cD (aq (jI (b:=false) rfl (mJ M)) aK) ((wZ M).trans (by rw [<- l.lv]))) rfl) (Zb rfl) rfl).trans rfl
 have s1:(lE (tNt (tE (eC (cQ t) (aP (qX (aU 2)) (aP (qX (aU 3)) (aP (qX (aU 4)) (aP (qN (aj 7)) (aP (qN (aj 6)) (aP (qN (aj 5)) jA)))))))))
  (fJ (eN (dC (.bl false)))) dk) [.shr (scr ns),.shr (.str nm),.mu false (trM t.ae gv M),.mu false (bxM M),.mu false (faM M),.shr (.int (j:Int)),.shr (.int c),.shr (.int gv),x8,x9]=some (.next [.shr (scr ns),.shr (.str nm),.mu false (trM t.ae (gv+1) (dY M x b p gv nn)),.mu false (bxM (dY M x b p gv nn)),.mu false (faM (dY M x b p gv nn)),.shr (.int (j:Int)),.shr (.int c),.shr (.int gv),x8,x9]) :=
  lI (J1 (b:=true) (t_E (v_C (as:=[.p 2 [],.p 3 [],.p 4 [],.v (.int gv),.v (.int c),.v (.int (j:Int))]) (bV (q_X cK rfl) (bV (q_X cK rfl) (bV (q_X cK rfl) (bV (q_N (ai rfl)) (bV (q_N (ai rfl)) (bV (q_N (ai rfl)) rfl)))))) rfl e rfl))) rfl
 have et:tS (dT (dOp oEq (dOp oMod (aj 7) (dC (.int 2))) (dC (.int 1)))) [.shr (scr ns),.shr (.str nm),.mu false (trM t.ae (gv+1) (dY M x b p gv nn)),.mu false (bxM (dY M x b p gv nn)),.mu false (faM (dY M x b p gv nn)),.shr (.int (j:Int)),.shr (.int c),.shr (.int gv),x8,x9]=some (decide (gv % 2=1),[.shr (scr ns),.shr (.str nm),.mu false (trM t.ae (gv+1) (dY M x b p gv nn)),.mu false (bxM (dY M x b p gv nn)),.mu false (faM (dY M x b p gv nn)),.shr (.int (j:Int)),.shr (.int c),.shr (.int gv),x8,x9]):=t_S (ck (be (be (ai rfl) e_c (dq (by decide))) e_c (fZ _ _)))
 by_cases hg:gv % 2=1
 ·rw [decide_eq_true hg] at et
  have em:=CF (t:=t) (gv:=gv+1) m1.nd fn rfl hn
  refine ⟨gv+1,(mkB (dY M x b p gv nn) gv),.shr (.int gv),⟨EY m1 gv,?_,?_,?_,fun d hd=>?_,fun d hd=>?_⟩,?_⟩
  ·obtain ⟨r,T,e1,e2⟩:=hd1
   refine ⟨(if r.i=gv then { r with m:=true } else r),mkB T gv,?_,?_⟩
   · rw [e1]; rfl
   · split <;> exact e2
  ·unfold mkB
   rw [List.length_map,ln1,l.lv]
   rfl
  ·unfold mkB
   rw [List.length_map,ln1]
   omega
  ·obtain ⟨d0,h0,e1,_,⟨e2,e3⟩ | ⟨e2,e3⟩⟩:=AA hd
   · rw [e3,e2,decide_eq_true hg]
   ·rcases oI h0 with ⟨z,_⟩ | ⟨d1,h1,z1,z2,_⟩
    · exact absurd (e1 ▸ z) e2
    · rw [e3,<- z2,l.om d1 h1,z1,e1]
  ·obtain ⟨d0,h0,e1,e2,_⟩:=AA hd
   rw [<- e2]
   rcases oI h0 with ⟨_,_,z⟩ | ⟨d1,h1,_,_,z3⟩
   · rw [z]; exact hn
   · rw [<- z3]; exact l.nm d1 h1
  ·have ef:bC (faD (dY M x b p gv nn)) (.int gv)=some (.tup [.int x,.str nn]):=bQ fn
   have emb:bxM (mkB (dY M x b p gv nn) gv)=bxM (dY M x b p gv nn):=by unfold bxM kM; rw [rK _ _ _ (fun _=>rfl)]
   have emf:faM (mkB (dY M x b p gv nn) gv)=faM (dY M x b p gv nn):=by unfold faM kM; rw [rK _ _ _ (fun _=>rfl)]
   unfold Gd
   refine aQ s0 (aQ s1 (wU et ?_))
   rw [emb,emf]
   exact AE (s:=.shr (.bl true)) (v_M (C:=t.ae) (i:=2) (q:=[]) (ss:=[.mu true (trM t.ae (gv+1) (dY M x b p gv nn)),.shr (.int gv),.shr (.str nn)]) cK rfl rfl (bV (q_N (ai rfl)) (bV (q_S (be (be (jI (b:=false) rfl (k5 _)) (ai rfl) ef) e_c (sU _ _ _)) rfl) rfl)) rfl em rfl)
 ·rw [decide_eq_false hg] at et
  refine ⟨gv+1,dY M x b p gv nn,.shr (.int gv),⟨m1,hd1,by rw [ln1,l.lv]; rfl,by omega,fun d hd=>?_,fun d hd=>?_⟩,?_⟩
  ·rcases oI hd with ⟨z1,z2,_⟩ | ⟨d1,h1,z1,z2,_⟩
   · rw [z2,z1,decide_eq_false hg]
   · rw [<- z2,l.om d1 h1,z1]
  ·rcases oI hd with ⟨_,_,z⟩ | ⟨d1,h1,_,_,z3⟩
   · rw [z]; exact hn
   · rw [<- z3]; exact l.nm d1 h1
  ·unfold Gd
   exact aQ s0 (aQ s1 (lI et rfl))
theorem zD {ns:List Int} {nm:Str} {j:Nat} {c:Int} {x7 x8 x9:Sm} (l:LOk j gv M) (hj:j < 40) (l2:2<=M.length):∃ M',LOk (j+1) gv M'/\JA t [.shr (scr ns),.shr (.str nm),.mu false (trM t.ae gv M),.mu false (bxM M),.mu false (faM M),.shr (.int (j:Int)),.shr (.int c),x7,x8,x9]=some (.next [.shr (scr ns),.shr (.str nm),.mu false (trM t.ae gv M'),.mu false (bxM M'),.mu false (faM M'),.shr (.int (j:Int)),.shr (.int c),x7,x8,x9]):=by
 have lm:=l.lm
 obtain ⟨i,jj,h,rj,rh,mo,e⟩:=wY (t:=t) (c:=c) (w:=500+(j:Int)) l.m l.hd (by omega) l2 (by omega) (by omega)
 refine ⟨(mvB M i jj h rj rh),⟨mo,JL l.hd,by rw [AG]; exact l.lv,by rw [AG]; omega,fun d hd=>?_,fun d hd=>?_⟩,?_⟩
 ·obtain ⟨d0,h0,z1,z2,_⟩:=Az hd
  rw [<- z2,l.om d0 h0,z1]
 ·obtain ⟨d0,h0,_,_,z3⟩:=Az hd
  rw [<- z3]; exact l.nm d0 h0
 ·unfold JA
  exact lI (J1 (b:=true) (t_E (v_C (as:=[.p 2 [],.p 3 [],.p 4 [],.v (.int c),.v (.int (500+(j:Int)))]) (bV (q_X cK rfl) (bV (q_X cK rfl) (bV (q_X cK rfl) (bV (q_N (ai rfl)) (bV (q_N (be e_c (ai rfl) (bA _ _))) rfl))))) rfl e rfl))) rfl
end
end N09
end
section
namespace N09
open PySem L2
section
variable {t:Adr}
def JY (t:Adr) (ns:List Int) (nm:Str) (j:Nat) (τ:List Sm):Prop:=∃ gv M x5 x6 x7 x8 x9,LOk j gv M/\τ=[.shr (scr ns),.shr (.str nm),.mu false (trM t.ae gv M),.mu false (bxM M),.mu false (faM M),x5,x6,x7,x8,x9]
noncomputable def Bc (t:Adr):DSm:=(lE (tS (dOr (dT (dOp oEq (dOp oMod (dFn aJ (ao (aj 6) (ao (dOp gL (dC (.int 400)) (aj 5)) aY))) (dC (.int 2))) (dC (.int 0)))) (dT (dOp oLt (bR mi (ao (aj 3) aY)) (dC (.int 3))))))
 (Gd t) (JA t))
theorem Bb {ns:List Int} {nm:Str} {j:Nat} {c:Int} {τ:List Sm} (hj:j < 40) (h:JY t ns nm j τ):∃ τ2,(gTm 2 (gm (gNm 5) (gm (gNm 6) nQ)) (.tup [.int (j:Int),.int c]) τ).bind (Bc t)=some (.next τ2)/\JY t ns nm (j+1) τ2:=by
 obtain ⟨gv,M,x5,x6,x7,x8,x9,l,rfl⟩:=h
 obtain ⟨q,e1,q0,q1⟩:=p9 c (w:=400+(j:Int)) (by omega) (by omega)
 have et:tS (dOr (dT (dOp oEq (dOp oMod (dFn aJ (ao (aj 6) (ao (dOp gL (dC (.int 400)) (aj 5)) aY))) (dC (.int 2))) (dC (.int 0)))) (dT (dOp oLt (bR mi (ao (aj 3) aY)) (dC (.int 3))))) [.shr (scr ns),.shr (.str nm),.mu false (trM t.ae gv M),.mu false (bxM M),.mu false (faM M),.shr (.int (j:Int)),.shr (.int c),x7,x8,x9]=some (decide (q % 2=0)||decide ((M.length:Int) < 3),[.shr (scr ns),.shr (.str nm),.mu false (trM t.ae gv M),.mu false (bxM M),.mu false (faM M),.shr (.int (j:Int)),.shr (.int c),x7,x8,x9]):=by
  refine t_S (A3 (b:=decide (q % 2=0)) (ck (be (be (jW (aq (ai rfl) (aq (be e_c (ai rfl) (bA _ _)) aK)) e1 rfl) e_c (dq (by decide))) e_c (fZ _ _))) (fun h=>?_) (fun h=>by rw [h]; rfl))
  rw [h,Bool.false_or]
  exact ck (be (cD (aq (jI (b:=false) rfl (mJ M)) aK) (wZ M)) e_c (oV _ _))
 show ∃ τ2,Bc t [.shr (scr ns),.shr (.str nm),.mu false (trM t.ae gv M),.mu false (bxM M),.mu false (faM M),.shr (.int (j:Int)),.shr (.int c),x7,x8,x9]=_/\_
 by_cases hc:(decide (q % 2=0)||decide ((M.length:Int) < 3))=true
 ·rw [hc] at et
  obtain ⟨gv',M',y7,l',e⟩:=yJ (t:=t) (ns:=ns) (nm:=nm) (c:=c) (x7:=x7) (x8:=x8) (x9:=x9) l hj
  exact ⟨_,wU et e,_,_,_,_,_,_,_,l',rfl⟩
 ·have h1:¬ ((M.length:Int) < 3):=fun e=>hc (by rw [decide_eq_true e,Bool.or_true])
  rw [(Bool.not_eq_true _).mp hc] at et
  obtain ⟨M',l',e⟩:=zD (t:=t) (ns:=ns) (nm:=nm) (c:=c) (x7:=x7) (x8:=x8) (x9:=x9) l hj (by omega)
  exact ⟨_,lI et e,_,_,_,_,_,_,_,l',rfl⟩
theorem Lj {nm:Str} (hn:dQ nm=true):LOk 0 1 [⟨0,none,nm,[],false⟩]:=by
 refine ⟨⟨?_,fun b hb=>?_,⟨_,rfl,rfl⟩,fun b hb h0=>?_,fun b hb c hc=>?_,fun b hb=>?_,fun b hb=>?_⟩,⟨_,_,rfl,rfl⟩,rfl,Nat.le_refl _,fun b hb=>?_,fun b hb=>?_⟩
 ·unfold Nd
  simp
 ·rw [List.mem_singleton.mp hb]
  exact ⟨Int.le_refl _,by show (0:Int) < 1; omega⟩
 ·rw [List.mem_singleton.mp hb] at h0
  exact absurd rfl h0
 ·rw [List.mem_singleton.mp hb] at hc
  exact nomatch hc
 ·rw [List.mem_singleton.mp hb]
  exact .nil
 ·rw [List.mem_singleton.mp hb]
  exact ⟨0,.top rfl rfl,by omega⟩
 ·rw [List.mem_singleton.mp hb]
  rfl
 ·rw [List.mem_singleton.mp hb]
  exact hn
theorem EU {b:B8} (hn:dQ b.n=true) (c:Bool):oNe (.lst (if c=true then [.str b.n] else [])) (.lst (if c=true then [.str b.n] else []))=some (.bl false):=by
 have o:okD 9 (.lst (if c=true then [.str b.n] else []))=true:=by
  cases c with
  | false=>show okD 9 (.lst [])=true; rw [okD,rJ]
  | true=>show okD 9 (.lst [.str b.n])=true; simp [okD,rJ,uk hn]
 unfold oNe eqO
 show ((if okD 9 (.lst (if c=true then [.str b.n] else []))=true/\okD 9 (.lst (if c=true then [.str b.n] else []))=true then some (eqB (.lst (if c=true then [.str b.n] else [])) (.lst (if c=true then [.str b.n] else []))) else none)).map _=_
 rw [if_pos ⟨o,o⟩,pb]
 rfl
theorem E8 (ns:List Int):yo t [.shr (scr ns)]=some (.shr (.bl true),[.no]):=by
 obtain ⟨c0,e0⟩:=FP ns (k:=0) (Int.le_refl _)
 obtain ⟨nm,e1,hn⟩:=Ay c0 (w:=9) (by omega) (by omega)
 obtain ⟨cs,e2,hl⟩:=DR ns
 obtain ⟨τ1,f1,i1⟩:=zQ (b:=fun d τ=>(gTm 2 (gm (gNm 5) (gm (gNm 6) nQ)) d τ).bind (Bc t)) (ds:=jV (cs.map .int)) (τ:=[.shr (scr ns),.shr (.str nm),.mu false (trM t.ae 1 [⟨0,none,nm,[],false⟩]),.mu false (bxM [⟨0,none,nm,[],false⟩]),.mu false (faM [⟨0,none,nm,[],false⟩]),.no,.no,.no,.no,.no]) (JY t ns nm) ⟨_,_,_,_,_,_,_,Lj hn,rfl⟩ fun j d τ hd h=>by
  obtain ⟨c,rfl,hc⟩:=zT hd
  have:=(List.getElem?_eq_some_iff.mp hc).1
  exact Bb (by omega) h
 rw [zS] at i1
 obtain ⟨gv,M,x5,x6,x7,x8,x9,l,rfl⟩:=i1
 have m:=l.m
 have h90:M.length < 90:=by have:=l.lm; omega
 unfold yo FY
 refine (gT (s:=.shr (.bl true)) (τ:=[.shr (scr ns),.shr (.str nm),.mu false (trM t.ae gv M),.mu false (bxM M),.mu false (faM M),x5,x6,x7,.no,.no]) ?_).trans rfl
 refine aQ (τ':=[.shr (scr ns),.shr (.str nm),.no,.no,.no,.no,.no,.no,.no,.no]) (dF (v_N (jW (aq (jW (aq (ai rfl) (aq e_c aK)) e0 rfl) (aq e_c aK)) e1 rfl)) (Zb rfl) rfl) ?_
 refine aQ (τ':=[.shr (scr ns),.shr (.str nm),.mu false (trM t.ae 1 [⟨0,none,nm,[],false⟩]),.no,.no,.no,.no,.no,.no,.no]) (dF (v_K (as:=[.v (.str nm)]) (bV (q_N (ai rfl)) rfl) rfl (CT hn) rfl) (Zb rfl) rfl) ?_
 refine aQ (dF (JZ (v_O (lK aK (Nat.zero_le _)) rfl) rfl) (Zb rfl) rfl) ?_
 refine aQ (dF (JZ (v_N (zU (aq e_c (aq (ai rfl) aK)) (Zb rfl))) rfl) (Zb rfl) rfl) ?_
 refine aQ (τ':=[.shr (scr ns),.shr (.str nm),.mu false (trM t.ae gv M),.mu false (bxM M),.mu false (faM M),x5,x6,x7,x8,x9]) ?_ ?_
 ·unfold yE
  rw [Fm (Kl (ai rfl) (wu e_c) (wu e_c) e2)]
  exact f1
 refine aQ (τ':=[.shr (scr ns),.shr (.str nm),.mu false (trM t.ae gv M),.mu false (bxM M),.mu false (faM M),x5,x6,x7,.no,.no]) ?_ ?_
 ·refine if_pos ⟨by rw [iW]; omega,fun p hp=>?_⟩
  unfold kv at hp
  obtain ⟨b,hb,rfl⟩:=List.mem_map.mp hp
  have hf:=lJ m.nd hb
  have e4:(((xX 3 8 9 [.shr (scr ns),.shr (.str nm),.mu false (trM t.ae gv M),.mu false (bxM M),.mu false (faM M),x5,x6,x7,x8,x9]).set 8 (.shr (kD (.inl b.i)))))[4]?=some (.shr (faD M)):=by
   show some (Sl.shr (frz (faM M)))=_
   rw [k5]
  have e2':∀ v:D,(((xX 3 8 9 [.shr (scr ns),.shr (.str nm),.mu false (trM t.ae gv M),.mu false (bxM M),.mu false (faM M),x5,x6,x7,x8,x9]).set 8 (.shr (kD (.inl b.i)))).set 9 (.shr v))[2]?=some (.shr (trD t.ae gv M)):=fun v=>by
   show some (Sl.shr (frz (trM t.ae gv M)))=_
   rw [qx]
  have ef:bC (faD M) (.int b.i)=some (.tup [hD b.h,.str b.n]):=bQ hf
  refine ⟨.lst (if decide (b.i % 2=1)=true then [.str b.n] else []),?_,?_⟩
  ·refine Lu (b:=decide (b.i % 2=1)) (ck (be (be (ai rfl) e_c (dq (by decide))) e_c (fZ _ _))) (fun z=>?_) (fun z=>?_)
   ·rw [if_pos z]
    exact lK (aq (be (be (ai e4) (ai rfl) ef) e_c (sU _ _ _)) aK) (Zb rfl)
   ·rw [if_neg (by rw [z]; exact Zf)]
    exact lK aK (Nat.zero_le _)
  ·refine ck (be (eW (ai (e2' _)) (aq (ai rfl) aK) rfl (zE hf) rfl) (ai rfl) ?_)
   rw [l.om b hb]
   exact EU (l.nm b hb) _
 exact rO (v_P (as:=[.p 2 [],.p 3 [],.p 4 []]) (bV (q_X cK rfl) (bV (q_X cK rfl) (bV (q_X cK rfl) rfl))) rfl (yC (Kz m h90)) rfl)
end
section
variable {P:Program} {w:World} {K:W.Frag} {mg:Str->Option Value} {base:Heap} {t:Adr}
def Ag (K:W.Frag):Sp:=fun vs H Q _=>∃ (a:Addr) (ns:List Int),vs=[.ref a]/\SqL K H a (ns.map V.int)/\ns.length<=63/\∀ H',Q (.bl true) H'
theorem Cj (T:Txt K mg t):dg P w K mg base CX0 7 t.z9 t.uD ["_law_script"] (Ag K):=by
 refine (EK (P:=P) (w:=w) (base:=base) T).imp fun vs H Q E h=>?_
 obtain ⟨a,ns,rfl,hS,h63,k⟩:=h
 refine ⟨H,[],[.shr (scr ns)],.shr (.bl true),[.no],(fun _ _ h=>h),?_,E8 ns,fun v Hs' H' fp' g st=>?_⟩
 · exact .shr (.fz hS (Rps.ints ns)) .nil
 ·cases st with
  | shr r _ =>
   cases r
   exact k _
end
end N09
end
section
namespace HD09
open PySem PySem.W PySem.W.X PyProof.Rows L2
abbrev hp:Program:=PySem.Challenge.pw_stylehouse_k09_move
abbrev hl:OpenLaw:=PySem.Challenge.rw_stylehouse_k09_move
def top (i:Nat):Stmt:=PySem.Challenge.pw_stylehouse_k09_move.main.body.getD i (.Pass ⟨0,0,0,0⟩)
noncomputable abbrev tL (P:Params) (o:Params->Obj):BT:=.node (o P) .nil .nil
noncomputable abbrev tN (P:Params) (o:Params->Obj) (l r:BT):BT:=.node (o P) l r
noncomputable abbrev dE (P:Params) (n:Str) (t:Nat) (v:Value):DictEntry:=⟨PyData.keyHash P n,.str n t,v⟩
noncomputable abbrev oF (y:String) (l:List Value):Obj:=⟨.type y,none,.fields ⟨l⟩,⟨[]⟩⟩
noncomputable abbrev oQ (y:String) (l:List Value) (n:Nat):Obj:=⟨.type y,none,.seq ⟨l⟩ n,⟨[]⟩⟩
noncomputable abbrev oD (y:String) (l:List DictEntry) (n:Nat):Obj:=⟨.type y,none,.dict ⟨l⟩ n,⟨[]⟩⟩
noncomputable abbrev oM (y:String) (n q:Str) (s:Stmt) (g:Nat) (c:List (Str×Addr)) (d k dc pm:Value) (an:Option Addr) (cd ct:Value) (b:Nat):Obj:=⟨.type y,none,.func ⟨n,q,aA s,.stmts (aw s),ah s,g,c,d,k,dc,pm,an,cd,ct,b⟩,⟨[]⟩⟩
noncomputable abbrev oC (y:String) (n:Str) (a:Nat) (q:Str) (b:Nat) (f:Str) (c i1 i2 i3 i4 i5 r1:Nat) (o:Bool) (i6 r2:Nat) (v1 v2 v3 v4:Value) (i7 i8:Nat) (g:Str) (d:Nat):Obj:=⟨.type y,none,.fields ⟨[.str n a,.str q b,.str f c,.int (.ofNat i1) 0,.int (.ofNat i2) 0,.int (.ofNat i3) 0,.int (.ofNat i4) 0,.int (.ofNat i5) 0,.ref r1,.bool o,.int (.ofNat i6) 0,.ref r2,v1,v2,v3,v4,.int (.ofNat i7) 0,.int (.ofNat i8) 0,.str g d]⟩,⟨[]⟩⟩
noncomputable abbrev vI (i t:Nat):Value:=.int (.ofNat i) t
noncomputable abbrev vS (s:Str) (t:Nat):Value:=.str s t
noncomputable abbrev vR (a:Nat):Value:=.ref a
noncomputable abbrev y0:String:=PySem.W.SL.s2766695959194262286x5
noncomputable abbrev y1:String:=PySem.W.SL.s5856160107412720595x4
noncomputable abbrev y2:String:=PySem.W.SL.s658472552662922059x5
noncomputable abbrev y3:String:=PySem.W.SL.s14018661285674007319x4
noncomputable abbrev y4:String:=PySem.W.SL.s7097527257260152453x26
noncomputable abbrev y5:String:=PySem.W.SL.s7174869446012820540x8
noncomputable abbrev y6:String:=PySem.W.SL.s6070975301684473832x10
noncomputable abbrev y7:String:=PySem.W.SL.s11030030927630378310x26
noncomputable abbrev y8:String:=PySem.W.SL.s10062305145149207511x16
noncomputable abbrev y9:String:=PySem.W.SL.s17162191345867700912x4
noncomputable abbrev y10:String:=PySem.W.SL.s5946037652744460706x9
noncomputable abbrev y11:String:=PySem.W.SL.s4278001404047624695x13
noncomputable abbrev y12:String:=PySem.W.SL.s2742458400755230247x6
noncomputable abbrev y13:String:=PySem.W.SL.s4209523147560561109x18
noncomputable abbrev y14:String:=PySem.W.SL.s14755015743595814543x17
noncomputable abbrev y15:String:=PySem.W.SL.s10220274742760427390x26
noncomputable abbrev y16:String:=PySem.W.SL.s4290257624100764138x5
noncomputable abbrev y17:String:=PySem.W.SL.s4860613602091757760x24
noncomputable abbrev y18:String:=PySem.W.SL.s11443829558043349243x14
noncomputable abbrev y19:String:=PySem.W.SL.s6511155373996960695x17
noncomputable abbrev y20:String:=PySem.W.SL.s12411053484034534018x21
noncomputable def n0:Str:=⟨⟨[60,109,111,100,117,108,101,62]⟩⟩
noncomputable def n1:Str:=⟨⟨[47,99,108,97,105,109,47,99,117,116,46,112,121]⟩⟩
noncomputable def n2:Str:=⟨⟨[95,95,109,97,105,110,95,95]⟩⟩
noncomputable def n3:Str:=⟨⟨[95,95,110,97,109,101,95,95]⟩⟩
noncomputable def n4:Str:=⟨⟨[115,116,121,108,101,104,111,117,115,101,46,101,114,114,111,114,115]⟩⟩
noncomputable def n5:Str:=⟨⟨[95,95,100,111,99,95,95]⟩⟩
noncomputable def n6:Str:=⟨⟨[95,95,112,97,99,107,97,103,101,95,95]⟩⟩
noncomputable def n7:Str:=⟨⟨[95,95,108,111,97,100,101,114,95,95]⟩⟩
noncomputable def n8:Str:=⟨⟨[95,95,115,112,101,99,95,95]⟩⟩
noncomputable def n9:Str:=⟨⟨[95,95,97,110,110,111,116,97,116,105,111,110,115,95,95]⟩⟩
noncomputable def n10:Str:=⟨⟨[95,95,98,117,105,108,116,105,110,115,95,95]⟩⟩
noncomputable def n11:Str:=⟨⟨[95,95,102,105,108,101,95,95]⟩⟩
noncomputable def n12:Str:=⟨⟨[95,95,99,97,99,104,101,100,95,95]⟩⟩
noncomputable def n13:Str:=⟨⟨[95,119,97,108,108]⟩⟩
noncomputable def n14:Str:=⟨⟨[72,111,117,115,101,69,114,114,111,114]⟩⟩
noncomputable def n15:Str:=⟨⟨[78,111,66,111,120]⟩⟩
noncomputable def n16:Str:=⟨⟨[82,111,111,116,101,100]⟩⟩
noncomputable def n17:Str:=⟨⟨[107]⟩⟩
noncomputable def n18:Str:=⟨⟨[95,95,109,111,100,117,108,101,95,95]⟩⟩
noncomputable def n19:Str:=⟨⟨[95,95,113,117,97,108,110,97,109,101,95,95]⟩⟩
noncomputable def n20:Str:=⟨⟨[95,95,102,105,114,115,116,108,105,110,101,110,111,95,95]⟩⟩
noncomputable def n21:Str:=⟨⟨[95,95,115,116,97,116,105,99,95,97,116,116,114,105,98,117,116,101,115,95,95]⟩⟩
noncomputable def n22:Str:=⟨⟨[95,95,119,101,97,107,114,101,102,95,95]⟩⟩
noncomputable def n23:Str:=⟨⟨[115,116,121,108,101,104,111,117,115,101,46,116,114,101,101]⟩⟩
noncomputable def n24:Str:=⟨⟨[78,111,80,108,97,99,101]⟩⟩
noncomputable def n25:Str:=⟨⟨[78,111,78,97,109,101]⟩⟩
noncomputable def n26:Str:=⟨⟨[84,111,111,77,117,99,104]⟩⟩
noncomputable def n27:Str:=⟨⟨[76,79,78,71,69,83,84,95,78,65,77,69]⟩⟩
noncomputable def n28:Str:=⟨⟨[105,115,95,110,97,109,101]⟩⟩
noncomputable def n29:Str:=⟨⟨[98,101,110,101,97,116,104]⟩⟩
noncomputable def n30:Str:=⟨⟨[104,111,108,100,101,114,115,95,111,102]⟩⟩
noncomputable def n31:Str:=⟨⟨[100,101,112,116,104,95,111,102]⟩⟩
noncomputable def n32:Str:=⟨⟨[115,116,121,108,101,104,111,117,115,101,46,110,97,109,101,115]⟩⟩
noncomputable def n33:Str:=⟨⟨[116,114,101,101]⟩⟩
noncomputable def n34:Str:=⟨⟨[98,111,120]⟩⟩
noncomputable def n35:Str:=⟨⟨[102,111,117,110,100]⟩⟩
noncomputable def n36:Str:=⟨⟨[108,101,102,116]⟩⟩
noncomputable def n37:Str:=⟨⟨[111,110,101]⟩⟩
noncomputable def n38:Str:=⟨⟨[115,116,121,108,101,104,111,117,115,101,46,119,97,108,107,115]⟩⟩
noncomputable def n39:Str:=⟨⟨[104,111,108,100,101,114]⟩⟩
noncomputable def n40:Str:=⟨⟨[77,79,83,84,95,66,79,88,69,83]⟩⟩
noncomputable def n41:Str:=⟨⟨[77,79,83,84,95,68,69,69,80]⟩⟩
noncomputable def n42:Str:=⟨⟨[82,79,79,84]⟩⟩
noncomputable def n43:Str:=⟨⟨[84,114,101,101]⟩⟩
noncomputable def n44:Str:=⟨⟨[95,95,105,110,105,116,95,95]⟩⟩
noncomputable def n45:Str:=⟨⟨[101,110,116,101,114]⟩⟩
noncomputable def n46:Str:=⟨⟨[99,104,101,99,107]⟩⟩
noncomputable def n47:Str:=⟨⟨[112,117,116]⟩⟩
noncomputable def n48:Str:=⟨⟨[99,117,116]⟩⟩
noncomputable def n49:Str:=⟨⟨[109,111,118,101]⟩⟩
noncomputable def n50:Str:=⟨⟨[109,97,114,107]⟩⟩
noncomputable def n51:Str:=⟨⟨[98,97,114,101]⟩⟩
noncomputable def n52:Str:=⟨⟨[119,114,105,116,101]⟩⟩
noncomputable def n53:Str:=⟨⟨[100,114,101,115,115]⟩⟩
noncomputable def n54:Str:=⟨⟨[115,116,97,110,100,115]⟩⟩
noncomputable def n55:Str:=⟨⟨[110,97,109,101,95,111,102]⟩⟩
noncomputable def n56:Str:=⟨⟨[109,97,114,107,115,95,111,102]⟩⟩
noncomputable def n57:Str:=⟨⟨[119,111,114,100,115,95,111,102]⟩⟩
noncomputable def n58:Str:=⟨⟨[114,111,119,115,95,111,102]⟩⟩
noncomputable def n59:Str:=⟨⟨[104,111,108,100,101,114,95,111,102]⟩⟩
noncomputable def n60:Str:=⟨⟨[98,111,120,101,115,95,111,102]⟩⟩
noncomputable def n61:Str:=⟨⟨[115,101,108,102]⟩⟩
noncomputable def n62:Str:=⟨⟨[110,97,109,101]⟩⟩
noncomputable def n63:Str:=⟨⟨[84,114,101,101,46,95,95,105,110,105,116,95,95]⟩⟩
noncomputable def n64:Str:=⟨⟨[84,114,101,101,46,101,110,116,101,114]⟩⟩
noncomputable def n65:Str:=⟨⟨[84,114,101,101,46,99,104,101,99,107]⟩⟩
noncomputable def n66:Str:=⟨⟨[112,108,97,99,101]⟩⟩
noncomputable def n67:Str:=⟨⟨[84,114,101,101,46,112,117,116]⟩⟩
noncomputable def n68:Str:=⟨⟨[84,114,101,101,46,99,117,116]⟩⟩
noncomputable def n69:Str:=⟨⟨[84,114,101,101,46,109,111,118,101]⟩⟩
noncomputable def n70:Str:=⟨⟨[119,111,114,100]⟩⟩
noncomputable def n71:Str:=⟨⟨[84,114,101,101,46,109,97,114,107]⟩⟩
noncomputable def n72:Str:=⟨⟨[84,114,101,101,46,98,97,114,101]⟩⟩
noncomputable def n73:Str:=⟨⟨[119,111,114,100,115]⟩⟩
noncomputable def n74:Str:=⟨⟨[84,114,101,101,46,119,114,105,116,101]⟩⟩
noncomputable def n75:Str:=⟨⟨[114,111,119,115]⟩⟩
noncomputable def n76:Str:=⟨⟨[84,114,101,101,46,100,114,101,115,115]⟩⟩
noncomputable def n77:Str:=⟨⟨[84,114,101,101,46,115,116,97,110,100,115]⟩⟩
noncomputable def n78:Str:=⟨⟨[84,114,101,101,46,110,97,109,101,95,111,102]⟩⟩
noncomputable def n79:Str:=⟨⟨[84,114,101,101,46,109,97,114,107,115,95,111,102]⟩⟩
noncomputable def n80:Str:=⟨⟨[84,114,101,101,46,119,111,114,100,115,95,111,102]⟩⟩
noncomputable def n81:Str:=⟨⟨[84,114,101,101,46,114,111,119,115,95,111,102]⟩⟩
noncomputable def n82:Str:=⟨⟨[84,114,101,101,46,104,111,108,100,101,114,95,111,102]⟩⟩
noncomputable def n83:Str:=⟨⟨[84,114,101,101,46,98,111,120,101,115,95,111,102]⟩⟩
noncomputable def n84:Str:=⟨⟨[98,111,120,101,115]⟩⟩
noncomputable def n85:Str:=⟨⟨[103,105,118,101,110]⟩⟩
noncomputable def n86:Str:=⟨⟨[104,111,108,100,101,114,115]⟩⟩
noncomputable def n87:Str:=⟨⟨[109,97,114,107,115]⟩⟩
noncomputable def n88:Str:=⟨⟨[110,97,109,101,115]⟩⟩
noncomputable def n89:Str:=⟨⟨[95,95,100,105,99,116,95,95]⟩⟩
noncomputable def n90:Str:=⟨⟨[108,97,119,95,115,116,121,108,101,104,111,117,115,101,95,107,48,57,95,109,111,118,101]⟩⟩
noncomputable def n91:Str:=⟨⟨[99,104,101,99,107,95,110,97,109,101]⟩⟩
noncomputable def n92:Str:=⟨⟨[99,104,101,99,107,95,112,108,97,99,101]⟩⟩
noncomputable def n93:Str:=⟨⟨[95,108,97,119,95,99,101,108,108]⟩⟩
noncomputable def n94:Str:=⟨⟨[95,108,97,119,95,109,105,120]⟩⟩
noncomputable def n95:Str:=⟨⟨[95,108,97,119,95,110,97,109,101]⟩⟩
noncomputable def n96:Str:=⟨⟨[95,108,97,119,95,119,104,111,108,101]⟩⟩
noncomputable def n97:Str:=⟨⟨[95,108,97,119,95,115,97,109,101,95,114,111,119]⟩⟩
noncomputable def n98:Str:=⟨⟨[95,108,97,119,95,117,110,100,101,114]⟩⟩
noncomputable def n99:Str:=⟨⟨[95,108,97,119,95,100,101,101,112]⟩⟩
noncomputable def Cv:Str:=⟨⟨[95,108,97,119,95,115,116,111,111,100]⟩⟩
noncomputable def Cu:Str:=⟨⟨[95,108,97,119,95,112,117,116]⟩⟩
noncomputable def Ct:Str:=⟨⟨[95,108,97,119,95,109,111,118,101,100]⟩⟩
noncomputable def Cs:Str:=⟨⟨[108,97,119]⟩⟩
noncomputable def Li:Str:=⟨⟨[114,111,119]⟩⟩
noncomputable def Kf:Str:=⟨⟨[95,108,97,119,95,115,99,114,105,112,116]⟩⟩
noncomputable def Jy:Str:=⟨⟨[95,108,97,119,95,107]⟩⟩
noncomputable def Ke:Str:=⟨⟨[95,108,97,119,95,99,101,108,108,95,104,101,114,101]⟩⟩
noncomputable def Lh:Str:=⟨⟨[95,108,97,119,95,119,97,121]⟩⟩
noncomputable def Lg:Str:=⟨⟨[95,108,97,119,95,102,105,114,115,116]⟩⟩
noncomputable def Kc:Str:=⟨⟨[95,108,97,119,95,102,111,117,110,100]⟩⟩
noncomputable def Kb:Str:=⟨⟨[95,108,97,119,95,100,117,101]⟩⟩
noncomputable def Jx:Str:=⟨⟨[95,108,97,119,95,114,111,119,115]⟩⟩
noncomputable def Hg:Str:=⟨⟨[95,108,97,119,95,98,111,120]⟩⟩
noncomputable def Lf:Str:=⟨⟨[95,108,97,119,95,116,111,108,100]⟩⟩
noncomputable def Le:Str:=⟨⟨[95,108,97,119,95,116,111,100,111]⟩⟩
noncomputable def Ld:Str:=⟨⟨[95,108,97,119,95,111,110,101]⟩⟩
noncomputable def Jw:Str:=⟨⟨[95,108,97,119,95,102,97,99,116,115]⟩⟩
noncomputable def Lc:Str:=⟨⟨[95,108,97,119,95,100,101,101,112,95,104,101,114,101]⟩⟩
noncomputable def Ka:Str:=⟨⟨[95,108,97,119,95,116,114,101,101]⟩⟩
noncomputable def Lb:Str:=⟨⟨[95,108,97,119,95,104,111,108,100,101,114]⟩⟩
noncomputable def J9:Str:=⟨⟨[95,108,97,119,95,110,97,109,101,95,104,101,114,101]⟩⟩
noncomputable def La:Str:=⟨⟨[95,108,97,119,95,110,117,109,98,101,114]⟩⟩
noncomputable def o0 (P:Params):Obj:=oQ y0 [] 0
noncomputable def o1 (P:Params):Obj:=⟨.none,none,(.fields ⟨[]⟩),⟨[]⟩⟩
noncomputable def o2 (P:Params):Obj:=oC y1 n0 182 n0 183 n1 184 1 0 0 0 0 11 false 181 12 .none .none .none .none 185 1 n1 186
noncomputable def o3 (P:Params):Obj:=⟨(.type y2),none,.plain,⟨[(some (vR 13)),(some (vR 3)),(some (vR 3)),none,(some (vS n2 164)),none,(some (vR 0))]⟩⟩
noncomputable def o4 (P:Params):Obj:=oD y3 [dE P n3 165 (vS n4 194),dE P n5 166 .none,dE P n6 167 .none,dE P n7 168 (.builtin y4),dE P n8 169 .none,dE P n9 170 (vR 6),dE P n10 171 (vR 4),dE P n11 173 (vS n1 172),dE P n12 174 .none,dE P n13 193 (vR 21),dE P n14 213 (vR 31),dE P n15 229 (vR 44),dE P n16 245 (vR 56)] 13
noncomputable def o5 (P:Params):Obj:=⟨.none,none,(.fields ⟨[(vI 1 0),(vI 0 0),(vR 20),(vI 5 0),(vI 0 0),(vR 27),(vI 7 0),(vI 0 0),(vR 40),(vI 9 0),(vI 0 0),(vR 52)]⟩),⟨[]⟩⟩
noncomputable def o6 (P:Params):Obj:=oQ y0 [(vS n17 190)] 0
noncomputable def o7 (P:Params):Obj:=⟨.none,none,(.func ⟨n13,n13,aA (top 0),.stmts (aw (top 0)),ah (top 0),0,[],.none,.none,.none,.none,none,.none,.none,0⟩),⟨[]⟩⟩
noncomputable def o8 (P:Params):Obj:=oC y1 n13 187 n13 188 n1 189 1 1 0 0 3 15 true 181 16 .none (vR 17) (vR 18) (vR 19) 191 1 n1 192
noncomputable def o9 (P:Params):Obj:=oM y5 n13 n13 (top 0) 3 [] .none .none .none (vS n2 164) none (vR 20) .none 0
noncomputable def o10 (P:Params):Obj:=oQ y0 [(.type y6)] 0
noncomputable def o11 (P:Params):Obj:=oF y7 [(.builtin y8),(.type y9)]
noncomputable def o12 (P:Params):Obj:=oD y3 [dE P n18 203 (vS n4 194),dE P n19 205 (vS n14 204),dE P n20 207 (vI 5 206),dE P n21 208 (vR 29)] 4
noncomputable def o13 (P:Params):Obj:=oC y1 n14 198 n14 199 n1 200 5 0 0 0 0 25 false 181 26 .none .none .none .none 201 5 n1 202
noncomputable def o14 (P:Params):Obj:=⟨(.type y2),none,.plain,⟨[(some (vR 27)),(some (vR 3)),(some (vR 24)),none,(some (vS n4 194)),none,(some (vR 0))]⟩⟩
noncomputable def o15 (P:Params):Obj:=oD y3 [dE P n18 203 (vS n4 194),dE P n20 207 (vI 5 206),dE P n21 208 (vR 29),dE P n22 210 (vR 32),dE P n5 211 .none] 3
noncomputable def o16 (P:Params):Obj:=⟨(.type y9),none,(.cls ⟨n14,[(.type y6)],[(vR 31),(.type y6),(.type y10),(.type y11),(.type y12)],30,n14,true,[],[(vR 44),(vR 56)],false,none,false⟩),⟨[(some (vR 22)),none,(some (vS n14 196)),(some (vS n14 204)),(some (.builtin y13)),(some (.bool true))]⟩⟩
noncomputable def o17 (P:Params):Obj:=oF y14 [(vS n22 209),(vR 31),(.builtin y15),.none]
noncomputable def o18 (P:Params):Obj:=oF y16 [(vR 31),(vR 31),(vR 31)]
noncomputable def o19 (P:Params):Obj:=oF y7 [(.builtin y17),(vR 31)]
noncomputable def o20 (P:Params):Obj:=oQ y0 [(vR 31)] 0
noncomputable def o21 (P:Params):Obj:=oD y3 [dE P n18 221 (vS n4 194),dE P n19 223 (vS n15 222),dE P n20 225 (vI 7 224),dE P n21 226 (vR 42)] 4
noncomputable def o22 (P:Params):Obj:=oC y1 n15 216 n15 217 n1 218 7 0 0 0 0 38 false 181 39 .none .none .none .none 219 7 n1 220
noncomputable def o23 (P:Params):Obj:=⟨(.type y2),none,.plain,⟨[(some (vR 40)),(some (vR 3)),(some (vR 37)),none,(some (vS n4 194)),none,(some (vR 0))]⟩⟩
noncomputable def o24 (P:Params):Obj:=oD y3 [dE P n18 221 (vS n4 194),dE P n20 225 (vI 7 224),dE P n21 226 (vR 42),dE P n5 227 .none] 2
noncomputable def o25 (P:Params):Obj:=⟨(.type y9),none,(.cls ⟨n15,[(vR 31)],[(vR 44),(vR 31),(.type y6),(.type y10),(.type y11),(.type y12)],43,n15,true,[],[],false,none,false⟩),⟨[(some (vR 35)),none,(some (vS n15 214)),(some (vS n15 222)),(some (.builtin y13)),(some (.bool true))]⟩⟩
noncomputable def o26 (P:Params):Obj:=oF y16 [(vR 44),(vR 44),(vR 44)]
noncomputable def o27 (P:Params):Obj:=oF y7 [(.builtin y17),(vR 44)]
noncomputable def o28 (P:Params):Obj:=oD y3 [dE P n18 237 (vS n4 194),dE P n19 239 (vS n16 238),dE P n20 241 (vI 9 240),dE P n21 242 (vR 54)] 4
noncomputable def o29 (P:Params):Obj:=oC y1 n16 232 n16 233 n1 234 9 0 0 0 0 50 false 181 51 .none .none .none .none 235 9 n1 236
noncomputable def o30 (P:Params):Obj:=⟨(.type y2),none,.plain,⟨[(some (vR 52)),(some (vR 3)),(some (vR 49)),none,(some (vS n4 194)),none,(some (vR 0))]⟩⟩
noncomputable def o31 (P:Params):Obj:=oD y3 [dE P n18 237 (vS n4 194),dE P n20 241 (vI 9 240),dE P n21 242 (vR 54),dE P n5 243 .none] 2
noncomputable def o32 (P:Params):Obj:=⟨(.type y9),none,(.cls ⟨n16,[(vR 31)],[(vR 56),(vR 31),(.type y6),(.type y10),(.type y11),(.type y12)],55,n16,true,[],[],false,none,false⟩),⟨[(some (vR 47)),none,(some (vS n16 230)),(some (vS n16 238)),(some (.builtin y13)),(some (.bool true))]⟩⟩
noncomputable def o33 (P:Params):Obj:=oF y16 [(vR 56),(vR 56),(vR 56)]
noncomputable def o34 (P:Params):Obj:=oF y7 [(.builtin y17),(vR 56)]
noncomputable def o35 (P:Params):Obj:=oD y3 [dE P n3 165 (vS n23 335),dE P n5 166 .none,dE P n6 167 .none,dE P n7 168 (.builtin y4),dE P n8 169 .none,dE P n9 170 (vR 6),dE P n10 171 (vR 4),dE P n11 173 (vS n1 172),dE P n12 174 .none,dE P n13 193 (vR 21),dE P n14 213 (vR 31),dE P n15 229 (vR 44),dE P n16 245 (vR 56),dE P n24 261 (vR 68),dE P n25 277 (vR 80),dE P n26 293 (vR 92),dE P n27 297 (vI 8 296),dE P n28 303 (vR 99),dE P n29 316 (vR 106),dE P n30 326 (vR 113),dE P n31 334 (vR 120)] 21
noncomputable def o36 (P:Params):Obj:=⟨.none,none,(.fields ⟨[(vI 1 0),(vI 0 0),(vR 20),(vI 5 0),(vI 0 0),(vR 27),(vI 7 0),(vI 0 0),(vR 40),(vI 9 0),(vI 0 0),(vR 52),(vI 11 0),(vI 0 0),(vR 64),(vI 13 0),(vI 0 0),(vR 76),(vI 15 0),(vI 0 0),(vR 88),(vI 19 0),(vI 0 0),(vR 98),(vI 26 0),(vI 0 0),(vR 105),(vI 34 0),(vI 0 0),(vR 112),(vI 41 0),(vI 0 0),(vR 119)]⟩),⟨[]⟩⟩
noncomputable def o37 (P:Params):Obj:=⟨(.type y9),none,(.cls ⟨n14,[(.type y6)],[(vR 31),(.type y6),(.type y10),(.type y11),(.type y12)],30,n14,true,[],[(vR 44),(vR 56),(vR 68),(vR 80),(vR 92)],false,none,false⟩),⟨[(some (vR 22)),none,(some (vS n14 196)),(some (vS n14 204)),(some (.builtin y13)),(some (.bool true))]⟩⟩
noncomputable def o38 (P:Params):Obj:=oD y3 [dE P n18 253 (vS n4 194),dE P n19 255 (vS n24 254),dE P n20 257 (vI 11 256),dE P n21 258 (vR 66)] 4
noncomputable def o39 (P:Params):Obj:=oC y1 n24 248 n24 249 n1 250 11 0 0 0 0 62 false 181 63 .none .none .none .none 251 11 n1 252
noncomputable def o40 (P:Params):Obj:=⟨(.type y2),none,.plain,⟨[(some (vR 64)),(some (vR 3)),(some (vR 61)),none,(some (vS n4 194)),none,(some (vR 0))]⟩⟩
noncomputable def o41 (P:Params):Obj:=oD y3 [dE P n18 253 (vS n4 194),dE P n20 257 (vI 11 256),dE P n21 258 (vR 66),dE P n5 259 .none] 2
noncomputable def o42 (P:Params):Obj:=⟨(.type y9),none,(.cls ⟨n24,[(vR 31)],[(vR 68),(vR 31),(.type y6),(.type y10),(.type y11),(.type y12)],67,n24,true,[],[],false,none,false⟩),⟨[(some (vR 59)),none,(some (vS n24 246)),(some (vS n24 254)),(some (.builtin y13)),(some (.bool true))]⟩⟩
noncomputable def o43 (P:Params):Obj:=oF y16 [(vR 68),(vR 68),(vR 68)]
noncomputable def o44 (P:Params):Obj:=oF y7 [(.builtin y17),(vR 68)]
noncomputable def o45 (P:Params):Obj:=oD y3 [dE P n18 269 (vS n4 194),dE P n19 271 (vS n25 270),dE P n20 273 (vI 13 272),dE P n21 274 (vR 78)] 4
noncomputable def o46 (P:Params):Obj:=oC y1 n25 264 n25 265 n1 266 13 0 0 0 0 74 false 181 75 .none .none .none .none 267 13 n1 268
noncomputable def o47 (P:Params):Obj:=⟨(.type y2),none,.plain,⟨[(some (vR 76)),(some (vR 3)),(some (vR 73)),none,(some (vS n4 194)),none,(some (vR 0))]⟩⟩
noncomputable def o48 (P:Params):Obj:=oD y3 [dE P n18 269 (vS n4 194),dE P n20 273 (vI 13 272),dE P n21 274 (vR 78),dE P n5 275 .none] 2
noncomputable def o49 (P:Params):Obj:=⟨(.type y9),none,(.cls ⟨n25,[(vR 31)],[(vR 80),(vR 31),(.type y6),(.type y10),(.type y11),(.type y12)],79,n25,true,[],[],false,none,false⟩),⟨[(some (vR 71)),none,(some (vS n25 262)),(some (vS n25 270)),(some (.builtin y13)),(some (.bool true))]⟩⟩
noncomputable def o50 (P:Params):Obj:=oF y16 [(vR 80),(vR 80),(vR 80)]
noncomputable def o51 (P:Params):Obj:=oF y7 [(.builtin y17),(vR 80)]
noncomputable def o52 (P:Params):Obj:=oD y3 [dE P n18 285 (vS n4 194),dE P n19 287 (vS n26 286),dE P n20 289 (vI 15 288),dE P n21 290 (vR 90)] 4
noncomputable def o53 (P:Params):Obj:=oC y1 n26 280 n26 281 n1 282 15 0 0 0 0 86 false 181 87 .none .none .none .none 283 15 n1 284
noncomputable def o54 (P:Params):Obj:=⟨(.type y2),none,.plain,⟨[(some (vR 88)),(some (vR 3)),(some (vR 85)),none,(some (vS n4 194)),none,(some (vR 0))]⟩⟩
noncomputable def o55 (P:Params):Obj:=oD y3 [dE P n18 285 (vS n4 194),dE P n20 289 (vI 15 288),dE P n21 290 (vR 90),dE P n5 291 .none] 2
noncomputable def o56 (P:Params):Obj:=⟨(.type y9),none,(.cls ⟨n26,[(vR 31)],[(vR 92),(vR 31),(.type y6),(.type y10),(.type y11),(.type y12)],91,n26,true,[],[],false,none,false⟩),⟨[(some (vR 83)),none,(some (vS n26 278)),(some (vS n26 286)),(some (.builtin y13)),(some (.bool true))]⟩⟩
noncomputable def o57 (P:Params):Obj:=oF y16 [(vR 92),(vR 92),(vR 92)]
noncomputable def o58 (P:Params):Obj:=oF y7 [(.builtin y17),(vR 92)]
noncomputable def o59 (P:Params):Obj:=⟨.none,none,(.func ⟨n28,n28,aA (top 10),.stmts (aw (top 10)),ah (top 10),0,[],.none,.none,.none,.none,none,.none,.none,0⟩),⟨[]⟩⟩
noncomputable def o60 (P:Params):Obj:=oC y1 n28 298 n28 299 n1 300 19 1 0 0 3 95 true 181 96 .none .none .none (vR 97) 301 19 n1 302
noncomputable def o61 (P:Params):Obj:=oM y5 n28 n28 (top 10) 3 [] .none .none .none (vS n32 294) none (vR 98) .none 0
noncomputable def o62 (P:Params):Obj:=oQ y0 [(vS n33 309),(vS n34 310),(vS n35 311),(vS n36 312),(vS n37 313)] 0
noncomputable def o63 (P:Params):Obj:=⟨.none,none,(.func ⟨n29,n29,aA (top 12),.stmts (aw (top 12)),ah (top 12),0,[],.none,.none,.none,.none,none,.none,.none,0⟩),⟨[]⟩⟩
noncomputable def o64 (P:Params):Obj:=oC y1 n29 306 n29 307 n1 308 26 2 0 0 3 100 true 181 101 .none (vR 102) (vR 103) (vR 104) 314 26 n1 315
noncomputable def o65 (P:Params):Obj:=oM y5 n29 n29 (top 12) 3 [] .none .none .none (vS n38 304) none (vR 105) .none 0
noncomputable def o66 (P:Params):Obj:=oQ y0 [(vS n33 320),(vS n34 321),(vS n35 322),(vS n39 323)] 0
noncomputable def o67 (P:Params):Obj:=⟨.none,none,(.func ⟨n30,n30,aA (top 13),.stmts (aw (top 13)),ah (top 13),0,[],.none,.none,.none,.none,none,.none,.none,0⟩),⟨[]⟩⟩
noncomputable def o68 (P:Params):Obj:=oC y1 n30 317 n30 318 n1 319 34 2 0 0 3 107 true 181 108 .none (vR 109) (vR 110) (vR 111) 324 34 n1 325
noncomputable def o69 (P:Params):Obj:=oM y5 n30 n30 (top 13) 3 [] .none .none .none (vS n38 304) none (vR 112) .none 0
noncomputable def o70 (P:Params):Obj:=oQ y0 [(vS n33 330),(vS n34 331)] 0
noncomputable def o71 (P:Params):Obj:=⟨.none,none,(.func ⟨n31,n31,aA (top 14),.stmts (aw (top 14)),ah (top 14),0,[],.none,.none,.none,.none,none,.none,.none,0⟩),⟨[]⟩⟩
noncomputable def o72 (P:Params):Obj:=oC y1 n31 327 n31 328 n1 329 41 2 0 0 3 114 true 181 115 .none (vR 116) (vR 117) (vR 118) 332 41 n1 333
noncomputable def o73 (P:Params):Obj:=oM y5 n31 n31 (top 14) 3 [] .none .none .none (vS n38 304) none (vR 119) .none 0
noncomputable def o74 (P:Params):Obj:=oD y3 [dE P n3 165 (vS n23 335),dE P n5 166 .none,dE P n6 167 .none,dE P n7 168 (.builtin y4),dE P n8 169 .none,dE P n9 170 (vR 6),dE P n10 171 (vR 4),dE P n11 173 (vS n1 172),dE P n12 174 .none,dE P n13 193 (vR 21),dE P n14 213 (vR 31),dE P n15 229 (vR 44),dE P n16 245 (vR 56),dE P n24 261 (vR 68),dE P n25 277 (vR 80),dE P n26 293 (vR 92),dE P n27 297 (vI 8 296),dE P n28 303 (vR 99),dE P n29 316 (vR 106),dE P n30 326 (vR 113),dE P n31 334 (vR 120),dE P n40 338 (vI 90 337),dE P n41 340 (vI 12 339),dE P n42 342 (vI 0 341),dE P n43 512 (vR 247)] 25
noncomputable def o75 (P:Params):Obj:=⟨.none,none,(.fields ⟨[(vI 1 0),(vI 0 0),(vR 20),(vI 5 0),(vI 0 0),(vR 27),(vI 7 0),(vI 0 0),(vR 40),(vI 9 0),(vI 0 0),(vR 52),(vI 11 0),(vI 0 0),(vR 64),(vI 13 0),(vI 0 0),(vR 76),(vI 15 0),(vI 0 0),(vR 88),(vI 19 0),(vI 0 0),(vR 98),(vI 26 0),(vI 0 0),(vR 105),(vI 34 0),(vI 0 0),(vR 112),(vI 41 0),(vI 0 0),(vR 119),(vI 47 0),(vI 0 0),(vR 126)]⟩),⟨[]⟩⟩
noncomputable def o76 (P:Params):Obj:=oD y3 [dE P n18 350 (vS n23 335),dE P n19 352 (vS n43 351),dE P n20 354 (vI 47 353),dE P n44 362 (vR 134),dE P n45 372 (vR 141),dE P n46 380 (vR 148),dE P n47 391 (vR 155),dE P n48 399 (vR 162),dE P n49 405 (vR 167),dE P n50 414 (vR 174),dE P n51 423 (vR 181),dE P n52 432 (vR 188),dE P n53 441 (vR 195),dE P n54 449 (vR 202),dE P n55 457 (vR 209),dE P n56 465 (vR 216),dE P n57 473 (vR 223),dE P n58 481 (vR 230),dE P n59 489 (vR 237),dE P n60 497 (vR 244),dE P n21 505 (vR 245)] 21
noncomputable def o77 (P:Params):Obj:=⟨.none,none,(.fields ⟨[(vI 49 0),(vI 4 0),(vR 133),(vI 60 0),(vI 4 0),(vR 140),(vI 71 0),(vI 4 0),(vR 147),(vI 75 0),(vI 4 0),(vR 154),(vI 87 0),(vI 4 0),(vR 161),(vI 90 0),(vI 4 0),(vR 166),(vI 109 0),(vI 4 0),(vR 173),(vI 117 0),(vI 4 0),(vR 180),(vI 120 0),(vI 4 0),(vR 187),(vI 127 0),(vI 4 0),(vR 194),(vI 130 0),(vI 4 0),(vR 201),(vI 133 0),(vI 4 0),(vR 208),(vI 137 0),(vI 4 0),(vR 215),(vI 141 0),(vI 4 0),(vR 222),(vI 144 0),(vI 4 0),(vR 229),(vI 147 0),(vI 4 0),(vR 236),(vI 151 0),(vI 4 0),(vR 243)]⟩),⟨[]⟩⟩
noncomputable def o78 (P:Params):Obj:=oC y1 n43 345 n43 346 n1 347 47 0 0 0 0 124 false 181 125 .none .none .none .none 348 47 n1 349
noncomputable def o79 (P:Params):Obj:=⟨(.type y2),none,.plain,⟨[(some (vR 126)),(some (vR 3)),(some (vR 123)),none,(some (vS n23 335)),none,(some (vR 0))]⟩⟩
noncomputable def o80 (P:Params):Obj:=oQ y0 [(vS n61 358),(vS n62 359)] 0
noncomputable def o81 (P:Params):Obj:=⟨.none,none,(.func ⟨n44,n63,aA (inClass (top 19) 0),.stmts (aw (inClass (top 19) 0)),ah (inClass (top 19) 0),0,[],.none,.none,.none,.none,none,.none,.none,0⟩),⟨[]⟩⟩
noncomputable def o82 (P:Params):Obj:=oC y1 n44 355 n63 356 n1 357 49 2 0 0 3 128 true 181 129 .none (vR 130) (vR 131) (vR 132) 360 49 n1 361
noncomputable def o83 (P:Params):Obj:=oM y5 n44 n63 (inClass (top 19) 0) 3 [] .none .none .none (vS n23 335) none (vR 133) .none 0
noncomputable def o84 (P:Params):Obj:=oQ y0 [(vS n61 366),(vS n39 367),(vS n62 368),(vS n34 369)] 0
noncomputable def o85 (P:Params):Obj:=⟨.none,none,(.func ⟨n45,n64,aA (inClass (top 19) 1),.stmts (aw (inClass (top 19) 1)),ah (inClass (top 19) 1),0,[],.none,.none,.none,.none,none,.none,.none,0⟩),⟨[]⟩⟩
noncomputable def o86 (P:Params):Obj:=oC y1 n45 363 n64 364 n1 365 60 3 0 0 3 135 true 181 136 .none (vR 137) (vR 138) (vR 139) 370 60 n1 371
noncomputable def o87 (P:Params):Obj:=oM y5 n45 n64 (inClass (top 19) 1) 3 [] .none .none .none (vS n23 335) none (vR 140) .none 0
noncomputable def o88 (P:Params):Obj:=oQ y0 [(vS n61 376),(vS n34 377)] 0
noncomputable def o89 (P:Params):Obj:=⟨.none,none,(.func ⟨n46,n65,aA (inClass (top 19) 2),.stmts (aw (inClass (top 19) 2)),ah (inClass (top 19) 2),0,[],.none,.none,.none,.none,none,.none,.none,0⟩),⟨[]⟩⟩
noncomputable def o90 (P:Params):Obj:=oC y1 n46 373 n65 374 n1 375 71 2 0 0 3 142 true 181 143 .none (vR 144) (vR 145) (vR 146) 378 71 n1 379
noncomputable def o91 (P:Params):Obj:=oM y5 n46 n65 (inClass (top 19) 2) 3 [] .none .none .none (vS n23 335) none (vR 147) .none 0
noncomputable def o92 (P:Params):Obj:=oQ y0 [(vS n61 384),(vS n39 385),(vS n66 386),(vS n62 387),(vS n34 388)] 0
noncomputable def o93 (P:Params):Obj:=⟨.none,none,(.func ⟨n47,n67,aA (inClass (top 19) 3),.stmts (aw (inClass (top 19) 3)),ah (inClass (top 19) 3),0,[],.none,.none,.none,.none,none,.none,.none,0⟩),⟨[]⟩⟩
noncomputable def o94 (P:Params):Obj:=oC y1 n47 381 n67 382 n1 383 75 4 0 0 3 149 true 181 150 .none (vR 151) (vR 152) (vR 153) 389 75 n1 390
noncomputable def o95 (P:Params):Obj:=oM y5 n47 n67 (inClass (top 19) 3) 3 [] .none .none .none (vS n23 335) none (vR 154) .none 0
noncomputable def o96 (P:Params):Obj:=oQ y0 [(vS n61 395),(vS n34 396)] 0
noncomputable def o97 (P:Params):Obj:=⟨.none,none,(.func ⟨n48,n68,aA (inClass (top 19) 4),.stmts (aw (inClass (top 19) 4)),ah (inClass (top 19) 4),0,[],.none,.none,.none,.none,none,.none,.none,0⟩),⟨[]⟩⟩
noncomputable def o98 (P:Params):Obj:=oC y1 n48 392 n68 393 n1 394 87 2 0 0 3 156 true 181 157 .none (vR 158) (vR 159) (vR 160) 397 87 n1 398
noncomputable def o99 (P:Params):Obj:=oM y5 n48 n68 (inClass (top 19) 4) 3 [] .none .none .none (vS n23 335) none (vR 161) .none 0
noncomputable def He (P:Params):Obj:=⟨.none,none,(.func ⟨n49,n69,aA (inClass (top 19) 5),.stmts (aw (inClass (top 19) 5)),ah (inClass (top 19) 5),0,[],.none,.none,.none,.none,none,.none,.none,0⟩),⟨[]⟩⟩
noncomputable def Hc (P:Params):Obj:=oC y1 n49 400 n69 401 n1 402 90 4 0 0 3 163 true 181 164 .none .none .none (vR 165) 403 90 n1 404
noncomputable def Hb (P:Params):Obj:=oM y5 n49 n69 (inClass (top 19) 5) 3 [] .none .none .none (vS n23 335) none (vR 166) .none 0
noncomputable def Ha (P:Params):Obj:=oQ y0 [(vS n61 409),(vS n34 410),(vS n70 411)] 0
noncomputable def G9 (P:Params):Obj:=⟨.none,none,(.func ⟨n50,n71,aA (inClass (top 19) 6),.stmts (aw (inClass (top 19) 6)),ah (inClass (top 19) 6),0,[],.none,.none,.none,.none,none,.none,.none,0⟩),⟨[]⟩⟩
noncomputable def G8 (P:Params):Obj:=oC y1 n50 406 n71 407 n1 408 109 3 0 0 3 168 true 181 169 .none (vR 170) (vR 171) (vR 172) 412 109 n1 413
noncomputable def G7 (P:Params):Obj:=oM y5 n50 n71 (inClass (top 19) 6) 3 [] .none .none .none (vS n23 335) none (vR 173) .none 0
noncomputable def G6 (P:Params):Obj:=oQ y0 [(vS n61 418),(vS n34 419),(vS n70 420)] 0
noncomputable def G5 (P:Params):Obj:=⟨.none,none,(.func ⟨n51,n72,aA (inClass (top 19) 7),.stmts (aw (inClass (top 19) 7)),ah (inClass (top 19) 7),0,[],.none,.none,.none,.none,none,.none,.none,0⟩),⟨[]⟩⟩
noncomputable def G4 (P:Params):Obj:=oC y1 n51 415 n72 416 n1 417 117 3 0 0 3 175 true 181 176 .none (vR 177) (vR 178) (vR 179) 421 117 n1 422
noncomputable def G3 (P:Params):Obj:=oM y5 n51 n72 (inClass (top 19) 7) 3 [] .none .none .none (vS n23 335) none (vR 180) .none 0
noncomputable def G2 (P:Params):Obj:=oQ y0 [(vS n61 427),(vS n34 428),(vS n73 429)] 0
noncomputable def G1 (P:Params):Obj:=⟨.none,none,(.func ⟨n52,n74,aA (inClass (top 19) 8),.stmts (aw (inClass (top 19) 8)),ah (inClass (top 19) 8),0,[],.none,.none,.none,.none,none,.none,.none,0⟩),⟨[]⟩⟩
noncomputable def G0 (P:Params):Obj:=oC y1 n52 424 n74 425 n1 426 120 3 0 0 3 182 true 181 183 .none (vR 184) (vR 185) (vR 186) 430 120 n1 431
noncomputable def GZ (P:Params):Obj:=oM y5 n52 n74 (inClass (top 19) 8) 3 [] .none .none .none (vS n23 335) none (vR 187) .none 0
noncomputable def GY (P:Params):Obj:=oQ y0 [(vS n61 436),(vS n34 437),(vS n75 438)] 0
noncomputable def GX (P:Params):Obj:=⟨.none,none,(.func ⟨n53,n76,aA (inClass (top 19) 9),.stmts (aw (inClass (top 19) 9)),ah (inClass (top 19) 9),0,[],.none,.none,.none,.none,none,.none,.none,0⟩),⟨[]⟩⟩
noncomputable def GW (P:Params):Obj:=oC y1 n53 433 n76 434 n1 435 127 3 0 0 3 189 true 181 190 .none (vR 191) (vR 192) (vR 193) 439 127 n1 440
noncomputable def GV (P:Params):Obj:=oM y5 n53 n76 (inClass (top 19) 9) 3 [] .none .none .none (vS n23 335) none (vR 194) .none 0
noncomputable def GU (P:Params):Obj:=oQ y0 [(vS n61 445),(vS n34 446)] 0
noncomputable def GS (P:Params):Obj:=⟨.none,none,(.func ⟨n54,n77,aA (inClass (top 19) 10),.stmts (aw (inClass (top 19) 10)),ah (inClass (top 19) 10),0,[],.none,.none,.none,.none,none,.none,.none,0⟩),⟨[]⟩⟩
noncomputable def GR (P:Params):Obj:=oC y1 n54 442 n77 443 n1 444 130 2 0 0 3 196 true 181 197 .none (vR 198) (vR 199) (vR 200) 447 130 n1 448
noncomputable def GQ (P:Params):Obj:=oM y5 n54 n77 (inClass (top 19) 10) 3 [] .none .none .none (vS n23 335) none (vR 201) .none 0
noncomputable def GP (P:Params):Obj:=oQ y0 [(vS n61 453),(vS n34 454)] 0
noncomputable def GO (P:Params):Obj:=⟨.none,none,(.func ⟨n55,n78,aA (inClass (top 19) 11),.stmts (aw (inClass (top 19) 11)),ah (inClass (top 19) 11),0,[],.none,.none,.none,.none,none,.none,.none,0⟩),⟨[]⟩⟩
noncomputable def GN (P:Params):Obj:=oC y1 n55 450 n78 451 n1 452 133 2 0 0 3 203 true 181 204 .none (vR 205) (vR 206) (vR 207) 455 133 n1 456
noncomputable def GL (P:Params):Obj:=oM y5 n55 n78 (inClass (top 19) 11) 3 [] .none .none .none (vS n23 335) none (vR 208) .none 0
noncomputable def GK (P:Params):Obj:=oQ y0 [(vS n61 461),(vS n34 462)] 0
noncomputable def GJ (P:Params):Obj:=⟨.none,none,(.func ⟨n56,n79,aA (inClass (top 19) 12),.stmts (aw (inClass (top 19) 12)),ah (inClass (top 19) 12),0,[],.none,.none,.none,.none,none,.none,.none,0⟩),⟨[]⟩⟩
noncomputable def GI (P:Params):Obj:=oC y1 n56 458 n79 459 n1 460 137 2 0 0 3 210 true 181 211 .none (vR 212) (vR 213) (vR 214) 463 137 n1 464
noncomputable def GH (P:Params):Obj:=oM y5 n56 n79 (inClass (top 19) 12) 3 [] .none .none .none (vS n23 335) none (vR 215) .none 0
noncomputable def GG (P:Params):Obj:=oQ y0 [(vS n61 469),(vS n34 470)] 0
noncomputable def GF (P:Params):Obj:=⟨.none,none,(.func ⟨n57,n80,aA (inClass (top 19) 13),.stmts (aw (inClass (top 19) 13)),ah (inClass (top 19) 13),0,[],.none,.none,.none,.none,none,.none,.none,0⟩),⟨[]⟩⟩
noncomputable def GD (P:Params):Obj:=oC y1 n57 466 n80 467 n1 468 141 2 0 0 3 217 true 181 218 .none (vR 219) (vR 220) (vR 221) 471 141 n1 472
noncomputable def GC (P:Params):Obj:=oM y5 n57 n80 (inClass (top 19) 13) 3 [] .none .none .none (vS n23 335) none (vR 222) .none 0
noncomputable def GB (P:Params):Obj:=oQ y0 [(vS n61 477),(vS n34 478)] 0
noncomputable def GA (P:Params):Obj:=⟨.none,none,(.func ⟨n58,n81,aA (inClass (top 19) 14),.stmts (aw (inClass (top 19) 14)),ah (inClass (top 19) 14),0,[],.none,.none,.none,.none,none,.none,.none,0⟩),⟨[]⟩⟩
noncomputable def Gz (P:Params):Obj:=oC y1 n58 474 n81 475 n1 476 144 2 0 0 3 224 true 181 225 .none (vR 226) (vR 227) (vR 228) 479 144 n1 480
noncomputable def Gy (P:Params):Obj:=oM y5 n58 n81 (inClass (top 19) 14) 3 [] .none .none .none (vS n23 335) none (vR 229) .none 0
noncomputable def Gx (P:Params):Obj:=oQ y0 [(vS n61 485),(vS n34 486)] 0
noncomputable def Gw (P:Params):Obj:=⟨.none,none,(.func ⟨n59,n82,aA (inClass (top 19) 15),.stmts (aw (inClass (top 19) 15)),ah (inClass (top 19) 15),0,[],.none,.none,.none,.none,none,.none,.none,0⟩),⟨[]⟩⟩
noncomputable def Gv (P:Params):Obj:=oC y1 n59 482 n82 483 n1 484 147 2 0 0 3 231 true 181 232 .none (vR 233) (vR 234) (vR 235) 487 147 n1 488
noncomputable def Gu (P:Params):Obj:=oM y5 n59 n82 (inClass (top 19) 15) 3 [] .none .none .none (vS n23 335) none (vR 236) .none 0
noncomputable def Gs (P:Params):Obj:=oQ y0 [(vS n61 493),(vS n34 494)] 0
noncomputable def Gr (P:Params):Obj:=⟨.none,none,(.func ⟨n60,n83,aA (inClass (top 19) 16),.stmts (aw (inClass (top 19) 16)),ah (inClass (top 19) 16),0,[],.none,.none,.none,.none,none,.none,.none,0⟩),⟨[]⟩⟩
noncomputable def Gq (P:Params):Obj:=oC y1 n60 490 n83 491 n1 492 151 2 0 0 3 238 true 181 239 .none (vR 240) (vR 241) (vR 242) 495 151 n1 496
noncomputable def Gp (P:Params):Obj:=oM y5 n60 n83 (inClass (top 19) 16) 3 [] .none .none .none (vS n23 335) none (vR 243) .none 0
noncomputable def Gn (P:Params):Obj:=oQ y0 [(vS n84 498),(vS n85 499),(vS n86 500),(vS n87 501),(vS n88 502),(vS n75 503),(vS n73 504)] 0
noncomputable def Gm (P:Params):Obj:=oD y3 [dE P n18 350 (vS n23 335),dE P n20 354 (vI 47 353),dE P n44 362 (vR 134),dE P n45 372 (vR 141),dE P n46 380 (vR 148),dE P n47 391 (vR 155),dE P n48 399 (vR 162),dE P n49 405 (vR 167),dE P n50 414 (vR 174),dE P n51 423 (vR 181),dE P n52 432 (vR 188),dE P n53 441 (vR 195),dE P n54 449 (vR 202),dE P n55 457 (vR 209),dE P n56 465 (vR 216),dE P n57 473 (vR 223),dE P n58 481 (vR 230),dE P n59 489 (vR 237),dE P n60 497 (vR 244),dE P n21 505 (vR 245),dE P n89 507 (vR 248),dE P n22 509 (vR 249),dE P n5 510 .none] 4
noncomputable def Gk (P:Params):Obj:=⟨(.type y9),none,(.cls ⟨n43,[(.type y12)],[(vR 247),(.type y12)],246,n43,true,[],[],false,none,false⟩),⟨[none,none,(some (vS n43 343)),(some (vS n43 351)),(some (.builtin y18)),(some (.bool true))]⟩⟩
noncomputable def Gj (P:Params):Obj:=oF y14 [(vS n89 506),(vR 247),(.builtin y19),(.builtin y20)]
noncomputable def Gi (P:Params):Obj:=oF y14 [(vS n22 508),(vR 247),(.builtin y15),.none]
noncomputable def Jt (P:Params):Obj:=oF y16 [(vR 247),(vR 247),(vR 247)]
noncomputable def Js (P:Params):Obj:=oF y7 [(.builtin y17),(vR 247)]
noncomputable def Jr (P:Params):Obj:=oD y3 [dE P n3 165 (vS n90 528),dE P n5 166 .none,dE P n6 167 .none,dE P n7 168 (.builtin y4),dE P n8 169 .none,dE P n9 170 (vR 6),dE P n10 171 (vR 4),dE P n11 173 (vS n1 172),dE P n12 174 .none,dE P n13 193 (vR 21),dE P n14 213 (vR 31),dE P n15 229 (vR 44),dE P n16 245 (vR 56),dE P n24 261 (vR 68),dE P n25 277 (vR 80),dE P n26 293 (vR 92),dE P n27 297 (vI 8 296),dE P n28 303 (vR 99),dE P n29 316 (vR 106),dE P n30 326 (vR 113),dE P n31 334 (vR 120),dE P n40 338 (vI 90 337),dE P n41 340 (vI 12 339),dE P n42 342 (vI 0 341),dE P n43 512 (vR 247),dE P n91 519 (vR 258),dE P n92 527 (vR 265),dE P n93 537 (vR 272),dE P n94 546 (vR 279),dE P n95 552 (vR 284),dE P n96 559 (vR 291),dE P n97 568 (vR 298),dE P n98 579 (vR 305),dE P n99 588 (vR 312),dE P Cv 600 (vR 319),dE P Cu 606 (vR 324),dE P Ct 612 (vR 329),dE P Cs 628 (vR 336)] 38
noncomputable def Jq (P:Params):Obj:=⟨.none,none,(.fields ⟨[(vI 1 0),(vI 0 0),(vR 20),(vI 5 0),(vI 0 0),(vR 27),(vI 7 0),(vI 0 0),(vR 40),(vI 9 0),(vI 0 0),(vR 52),(vI 11 0),(vI 0 0),(vR 64),(vI 13 0),(vI 0 0),(vR 76),(vI 15 0),(vI 0 0),(vR 88),(vI 19 0),(vI 0 0),(vR 98),(vI 26 0),(vI 0 0),(vR 105),(vI 34 0),(vI 0 0),(vR 112),(vI 41 0),(vI 0 0),(vR 119),(vI 47 0),(vI 0 0),(vR 126),(vI 154 0),(vI 0 0),(vR 257),(vI 157 0),(vI 0 0),(vR 264),(vI 161 0),(vI 0 0),(vR 271),(vI 165 0),(vI 0 0),(vR 278),(vI 168 0),(vI 0 0),(vR 283),(vI 172 0),(vI 0 0),(vR 290),(vI 174 0),(vI 0 0),(vR 297),(vI 181 0),(vI 0 0),(vR 304),(vI 189 0),(vI 0 0),(vR 311),(vI 195 0),(vI 0 0),(vR 318),(vI 208 0),(vI 0 0),(vR 323),(vI 221 0),(vI 0 0),(vR 328),(vI 240 0),(vI 0 0),(vR 335)]⟩),⟨[]⟩⟩
noncomputable def Jp (P:Params):Obj:=oQ y0 [(vS n62 516)] 0
noncomputable def Jo (P:Params):Obj:=⟨.none,none,(.func ⟨n91,n91,aA (top 20),.stmts (aw (top 20)),ah (top 20),0,[],.none,.none,.none,.none,none,.none,.none,0⟩),⟨[]⟩⟩
noncomputable def Jn (P:Params):Obj:=oC y1 n91 513 n91 514 n1 515 154 1 0 0 3 252 true 181 253 .none (vR 254) (vR 255) (vR 256) 517 154 n1 518
noncomputable def Jm (P:Params):Obj:=oM y5 n91 n91 (top 20) 3 [] .none .none .none (vS n23 335) none (vR 257) .none 0
noncomputable def Jl (P:Params):Obj:=oQ y0 [(vS n66 523),(vS Li 524)] 0
noncomputable def Jk (P:Params):Obj:=⟨.none,none,(.func ⟨n92,n92,aA (top 21),.stmts (aw (top 21)),ah (top 21),0,[],.none,.none,.none,.none,none,.none,.none,0⟩),⟨[]⟩⟩
noncomputable def Jj (P:Params):Obj:=oC y1 n92 520 n92 521 n1 522 157 2 0 0 3 259 true 181 260 .none (vR 261) (vR 262) (vR 263) 525 157 n1 526
noncomputable def Ji (P:Params):Obj:=oM y5 n92 n92 (top 21) 3 [] .none .none .none (vS n23 335) none (vR 264) .none 0
noncomputable def Jh (P:Params):Obj:=oQ y0 [(vS Kf 533),(vS Jy 534)] 0
noncomputable def Jg (P:Params):Obj:=⟨.none,none,(.func ⟨n93,n93,aA (top 23),.stmts (aw (top 23)),ah (top 23),0,[],.none,.none,.none,.none,none,.none,.none,0⟩),⟨[]⟩⟩
noncomputable def Jf (P:Params):Obj:=oC y1 n93 530 n93 531 n1 532 161 2 0 0 3 266 true 181 267 .none (vR 268) (vR 269) (vR 270) 535 161 n1 536
noncomputable def Je (P:Params):Obj:=oM y5 n93 n93 (top 23) 3 [] .none .none .none (vS n90 528) none (vR 271) .none 0
noncomputable def Jd (P:Params):Obj:=oQ y0 [(vS Ke 541),(vS Lh 542),(vS Lg 543)] 0
noncomputable def Jc (P:Params):Obj:=⟨.none,none,(.func ⟨n94,n94,aA (top 24),.stmts (aw (top 24)),ah (top 24),0,[],.none,.none,.none,.none,none,.none,.none,0⟩),⟨[]⟩⟩
noncomputable def Jb (P:Params):Obj:=oC y1 n94 538 n94 539 n1 540 165 2 0 0 3 273 true 181 274 .none (vR 275) (vR 276) (vR 277) 544 165 n1 545
noncomputable def Ja (P:Params):Obj:=oM y5 n94 n94 (top 24) 3 [] .none .none .none (vS n90 528) none (vR 278) .none 0
noncomputable def I9 (P:Params):Obj:=⟨.none,none,(.func ⟨n95,n95,aA (top 25),.stmts (aw (top 25)),ah (top 25),0,[],.none,.none,.none,.none,none,.none,.none,0⟩),⟨[]⟩⟩
noncomputable def I0 (P:Params):Obj:=oC y1 n95 547 n95 548 n1 549 168 2 0 0 3 280 true 181 281 .none .none .none (vR 282) 550 168 n1 551
noncomputable def IZ (P:Params):Obj:=oM y5 n95 n95 (top 25) 3 [] .none .none .none (vS n90 528) none (vR 283) .none 0
noncomputable def IY (P:Params):Obj:=oQ y0 [(vS Kc 556)] 0
noncomputable def IX (P:Params):Obj:=⟨.none,none,(.func ⟨n96,n96,aA (top 26),.stmts (aw (top 26)),ah (top 26),0,[],.none,.none,.none,.none,none,.none,.none,0⟩),⟨[]⟩⟩
noncomputable def IW (P:Params):Obj:=oC y1 n96 553 n96 554 n1 555 172 1 0 0 3 285 true 181 286 .none (vR 287) (vR 288) (vR 289) 557 172 n1 558
noncomputable def IV (P:Params):Obj:=oM y5 n96 n96 (top 26) 3 [] .none .none .none (vS n90 528) none (vR 290) .none 0
noncomputable def IU (P:Params):Obj:=oQ y0 [(vS Kc 563),(vS Kb 564),(vS Jy 565)] 0
noncomputable def IT (P:Params):Obj:=⟨.none,none,(.func ⟨n97,n97,aA (top 27),.stmts (aw (top 27)),ah (top 27),0,[],.none,.none,.none,.none,none,.none,.none,0⟩),⟨[]⟩⟩
noncomputable def IS (P:Params):Obj:=oC y1 n97 560 n97 561 n1 562 174 2 0 0 3 292 true 181 293 .none (vR 294) (vR 295) (vR 296) 566 174 n1 567
noncomputable def IQ (P:Params):Obj:=oM y5 n97 n97 (top 27) 3 [] .none .none .none (vS n90 528) none (vR 297) .none 0
noncomputable def IP (P:Params):Obj:=oQ y0 [(vS Jx 572),(vS Hg 573),(vS Lf 574),(vS Le 575),(vS Ld 576)] 0
noncomputable def IM (P:Params):Obj:=⟨.none,none,(.func ⟨n98,n98,aA (top 28),.stmts (aw (top 28)),ah (top 28),0,[],.none,.none,.none,.none,none,.none,.none,0⟩),⟨[]⟩⟩
noncomputable def IL (P:Params):Obj:=oC y1 n98 569 n98 570 n1 571 181 2 0 0 3 299 true 181 300 .none (vR 301) (vR 302) (vR 303) 577 181 n1 578
noncomputable def IK (P:Params):Obj:=oM y5 n98 n98 (top 28) 3 [] .none .none .none (vS n90 528) none (vR 304) .none 0
noncomputable def IJ (P:Params):Obj:=oQ y0 [(vS Jw 583),(vS Hg 584),(vS Lc 585)] 0
noncomputable def II (P:Params):Obj:=⟨.none,none,(.func ⟨n99,n99,aA (top 29),.stmts (aw (top 29)),ah (top 29),0,[],.none,.none,.none,.none,none,.none,.none,0⟩),⟨[]⟩⟩
noncomputable def IH (P:Params):Obj:=oC y1 n99 580 n99 581 n1 582 189 2 0 0 3 306 true 181 307 .none (vR 308) (vR 309) (vR 310) 586 189 n1 587
noncomputable def IG (P:Params):Obj:=oM y5 n99 n99 (top 29) 3 [] .none .none .none (vS n90 528) none (vR 311) .none 0
noncomputable def IF (P:Params):Obj:=oQ y0 [(vS Ka 592),(vS Jx 593),(vS Jw 594),(vS Hg 595),(vS Lb 596),(vS J9 597)] 0
noncomputable def IE (P:Params):Obj:=⟨.none,none,(.func ⟨Cv,Cv,aA (top 30),.stmts (aw (top 30)),ah (top 30),0,[],.none,.none,.none,.none,none,.none,.none,0⟩),⟨[]⟩⟩
noncomputable def ID (P:Params):Obj:=oC y1 Cv 589 Cv 590 n1 591 195 3 0 0 3 313 true 181 314 .none (vR 315) (vR 316) (vR 317) 598 195 n1 599
noncomputable def IC (P:Params):Obj:=oM y5 Cv Cv (top 30) 3 [] .none .none .none (vS n90 528) none (vR 318) .none 0
noncomputable def IB (P:Params):Obj:=⟨.none,none,(.func ⟨Cu,Cu,aA (top 31),.stmts (aw (top 31)),ah (top 31),0,[],.none,.none,.none,.none,none,.none,.none,0⟩),⟨[]⟩⟩
noncomputable def IA (P:Params):Obj:=oC y1 Cu 601 Cu 602 n1 603 208 6 0 0 3 320 true 181 321 .none .none .none (vR 322) 604 208 n1 605
noncomputable def Iz (P:Params):Obj:=oM y5 Cu Cu (top 31) 3 [] .none .none .none (vS n90 528) none (vR 323) .none 0
noncomputable def Iy (P:Params):Obj:=⟨.none,none,(.func ⟨Ct,Ct,aA (top 32),.stmts (aw (top 32)),ah (top 32),0,[],.none,.none,.none,.none,none,.none,.none,0⟩),⟨[]⟩⟩
noncomputable def Iw (P:Params):Obj:=oC y1 Ct 607 Ct 608 n1 609 221 5 0 0 3 325 true 181 326 .none .none .none (vR 327) 610 221 n1 611
noncomputable def Iv (P:Params):Obj:=oM y5 Ct Ct (top 32) 3 [] .none .none .none (vS n90 528) none (vR 328) .none 0
noncomputable def Iu (P:Params):Obj:=oQ y0 [(vS Kf 616),(vS J9 617),(vS Ka 618),(vS Jx 619),(vS Jw 620),(vS Jy 621),(vS Ke 622),(vS La 623),(vS Hg 624),(vS Kb 625)] 0
noncomputable def Ir (P:Params):Obj:=⟨.none,none,(.func ⟨Cs,Cs,aA (top 33),.stmts (aw (top 33)),ah (top 33),0,[],.none,.none,.none,.none,none,.none,.none,0⟩),⟨[]⟩⟩
noncomputable def Iq (P:Params):Obj:=oC y1 Cs 613 Cs 614 n1 615 240 1 0 0 3 330 true 181 331 .none (vR 332) (vR 333) (vR 334) 626 240 n1 627
noncomputable def Ip (P:Params):Obj:=oM y5 Cs Cs (top 33) 3 [] .none .none .none (vS n90 528) none (vR 335) .none 0
noncomputable def lf0:Life:=⟨[],[],[],0,[],[],false,⟨[]⟩,[],0,false,false,false,(.ofNat 0),[(.ofNat 2000),(.ofNat 10),(.ofNat 10)],false,0,true,[],[],0,false⟩
noncomputable def hcd:Value:=(vR 13)
noncomputable def hq:Pos:=⟨0,0,0,0⟩
noncomputable def hE:Env:={ scope:=hp.main.scope,locals:=mainNs,globals:=mainNs,cells:=[],code:=hcd,frame:=some 14 }
noncomputable def hC:Code:=.body (behindTheImports hp) hE
noncomputable def hB:List Frame:=[topFrame hq]
noncomputable def hAn:Option Value:=(some (vR 6))
noncomputable def hA (P:Params):Heap:=⟨⟨(boot_o_0 P::boot_o_1 P::boot_o_2 P::boot_o_3 P::boot_o_4 P::boot_o_5 P::boot_o_6 P::boot_o_7 P::boot_o_8 P::boot_o_9 P::boot_o_10 P::o0 P::o1 P::o2 P::o3 P::[])⟩,lf0⟩
noncomputable def tr1 (P:Params):BT:=(tN P boot_o_0 (tN P boot_o_1 (tN P boot_o_3 (tL P boot_o_7) (tL P o0)) (tN P boot_o_5 (tL P boot_o_9) (tL P o2))) (tN P boot_o_2 (tN P boot_o_4 (tL P boot_o_8) (tL P o1)) (tN P boot_o_6 (tL P boot_o_10) (tL P o3))))
noncomputable def S1 (w:World) (os:OsState):SharedT:=⟨tr1 w.params,15,lf0,⟨[]⟩,⟨0,0,0,0⟩,187,os⟩
noncomputable def tr2 (P:Params):BT:=(tN P boot_o_0 (tN P boot_o_1 (tN P o4 (tN P boot_o_7 (tN P o0 (tL P o16) (tL P o20)) (tN P o11 (tL P o1) (tL P o31))) (tN P o0 (tN P o7 (tL P o20) (tL P o1)) (tN P o13 (tL P o24) .nil))) (tN P boot_o_5 (tN P boot_o_9 (tN P o6 (tL P o18) (tL P o28)) (tN P o0 (tL P o23) (tL P o33))) (tN P o2 (tN P o9 (tL P o21) (tL P o30)) (tN P o0 (tL P o26) .nil)))) (tN P boot_o_2 (tN P boot_o_4 (tN P boot_o_8 (tN P o1 (tL P o17) (tL P o11)) (tN P o12 (tL P o22) (tL P o32))) (tN P o5 (tN P o8 (tL P o11) (tL P o29)) (tN P o14 (tL P o25) .nil))) (tN P boot_o_6 (tN P boot_o_10 (tN P o0 (tL P o19) (tL P o0)) (tN P o1 (tL P o0) (tL P o34))) (tN P o3 (tN P o10 (tL P o0) (tL P o0)) (tN P o15 (tL P o27) .nil)))))
noncomputable def S2 (w:World) (os:OsState):SharedT:=⟨tr2 w.params,59,lf0,⟨[]⟩,⟨0,0,0,0⟩,246,os⟩
noncomputable def tr3 (P:Params):BT:=(tN P boot_o_0 (tN P boot_o_1 (tN P o35 (tN P boot_o_7 (tN P o0 (tN P o37 (tL P o1) (tL P o0)) (tN P o20 (tL P o48) (tL P o67))) (tN P o11 (tN P o1 (tL P o20) (tL P o0)) (tN P o31 (tL P o1) (tL P o72)))) (tN P o0 (tN P o7 (tN P o20 (tL P o41) (tL P o61)) (tN P o1 (tL P o20) (tL P o1))) (tN P o13 (tN P o24 (tL P o1) (tL P o0)) (tN P o20 (tL P o55) .nil)))) (tN P boot_o_5 (tN P boot_o_9 (tN P o6 (tN P o18 (tL P o40) (tL P o59)) (tN P o28 (tL P o50) (tL P o69))) (tN P o0 (tN P o23 (tL P o45) (tL P o64)) (tN P o33 (tL P o54) .nil))) (tN P o2 (tN P o9 (tN P o21 (tL P o43) (tL P o1)) (tN P o30 (tL P o52) (tL P o0))) (tN P o0 (tN P o26 (tL P o47) (tL P o66)) (tN P o38 (tL P o57) .nil))))) (tN P boot_o_2 (tN P boot_o_4 (tN P boot_o_8 (tN P o1 (tN P o17 (tL P o39) (tL P o1)) (tN P o11 (tL P o49) (tL P o68))) (tN P o12 (tN P o22 (tL P o11) (tL P o63)) (tN P o32 (tL P o53) (tL P o73)))) (tN P o36 (tN P o8 (tN P o11 (tL P o42) (tL P o0)) (tN P o29 (tL P o11) (tL P o70))) (tN P o14 (tN P o25 (tL P o46) (tL P o1)) (tN P o11 (tL P o56) .nil)))) (tN P boot_o_6 (tN P boot_o_10 (tN P o0 (tN P o19 (tL P o0) (tL P o60)) (tN P o0 (tL P o51) (tL P o0))) (tN P o1 (tN P o0 (tL P o0) (tL P o65)) (tN P o34 (tL P o0) .nil))) (tN P o3 (tN P o10 (tN P o0 (tL P o44) (tL P o62)) (tN P o0 (tL P o0) (tL P o71))) (tN P o15 (tN P o27 (tL P o0) (tL P o0)) (tN P o0 (tL P o58) .nil))))))
noncomputable def S3 (w:World) (os:OsState):SharedT:=⟨tr3 w.params,121,lf0,⟨[]⟩,⟨0,0,0,0⟩,337,os⟩
noncomputable def tr4 (P:Params):BT:=(tN P boot_o_0 (tN P boot_o_1 (tN P o74 (tN P boot_o_7 (tN P o0 (tN P o37 (tN P o1 (tL P o79) (tL P GY)) (tN P o0 (tL P o0) (tL P GC))) (tN P o20 (tN P o48 (tL P o1) (tL P GO)) (tN P o67 (tL P o0) (tL P o1)))) (tN P o11 (tN P o1 (tN P o20 (tL P o0) (tL P o0)) (tN P o0 (tL P Hb) (tL P o0))) (tN P o31 (tN P o1 (tL P o92) (tL P GI)) (tN P o72 (tL P o1) (tL P Gk))))) (tN P o0 (tN P o7 (tN P o20 (tN P o41 (tL P o0) (tL P GV)) (tN P o61 (tL P o0) (tL P o0))) (tN P o1 (tN P o20 (tL P o90) (tL P o1)) (tN P o1 (tL P G5) (tL P Gq)))) (tN P o13 (tN P o24 (tN P o1 (tL P o85) (tL P o0)) (tN P o0 (tL P o0) (tL P Gw))) (tN P o20 (tN P o55 (tL P o95) (tL P GG)) (tN P o76 (tL P G0) (tL P Js)))))) (tN P boot_o_5 (tN P boot_o_9 (tN P o6 (tN P o18 (tN P o40 (tL P o1) (tL P GX)) (tN P o59 (tL P o98) (tL P o1))) (tN P o28 (tN P o50 (tL P o0) (tL P GL)) (tN P o69 (tL P G6) (tL P o0)))) (tN P o0 (tN P o23 (tN P o45 (tL P o84) (tL P GR)) (tN P o64 (tL P o1) (tL P Gx))) (tN P o33 (tN P o54 (tL P o93) (tL P o0)) (tN P o0 (tL P o0) (tL P Gi))))) (tN P o2 (tN P o9 (tN P o21 (tN P o43 (tL P o82) (tL P o1)) (tN P o1 (tL P He) (tL P Gz))) (tN P o30 (tN P o52 (tL P o0) (tL P o0)) (tN P o0 (tL P G3) (tL P Gn)))) (tN P o0 (tN P o26 (tN P o47 (tL P o87) (tL P GP)) (tN P o66 (tL P G8) (tL P Gu))) (tN P o38 (tN P o57 (tL P o1) (tL P GF)) (tN P o77 (tL P o0) .nil)))))) (tN P boot_o_2 (tN P boot_o_4 (tN P boot_o_8 (tN P o1 (tN P o17 (tN P o39 (tL P o0) (tL P o0)) (tN P o1 (tL P o97) (tL P o0))) (tN P o11 (tN P o49 (tL P o88) (tL P GN)) (tN P o68 (tL P o1) (tL P Gs)))) (tN P o12 (tN P o22 (tN P o11 (tL P o1) (tL P GS)) (tN P o63 (tL P o0) (tL P o1))) (tN P o32 (tN P o53 (tL P o0) (tL P GH)) (tN P o73 (tL P G2) (tL P Gj))))) (tN P o75 (tN P o8 (tN P o11 (tN P o42 (tL P o81) (tL P o0)) (tN P o0 (tL P o1) (tL P GA))) (tN P o29 (tN P o11 (tL P o91) (tL P GK)) (tN P o70 (tL P G4) (tL P Gp)))) (tN P o14 (tN P o25 (tN P o46 (tL P o86) (tL P o1)) (tN P o1 (tL P G9) (tL P Gv))) (tN P o11 (tN P o56 (tL P o0) (tL P o0)) (tN P o0 (tL P GZ) .nil))))) (tN P boot_o_6 (tN P boot_o_10 (tN P o0 (tN P o19 (tN P o0 (tL P o80) (tL P GW)) (tN P o60 (tL P o99) (tL P GB))) (tN P o0 (tN P o51 (tL P o89) (tL P o0)) (tN P o0 (tL P o0) (tL P Gr)))) (tN P o1 (tN P o0 (tN P o0 (tL P o0) (tL P GQ)) (tN P o65 (tL P Ha) (tL P o0))) (tN P o34 (tN P o0 (tL P o94) (tL P o1)) (tN P o11 (tL P G1) (tL P Jt))))) (tN P o3 (tN P o10 (tN P o0 (tN P o44 (tL P o83) (tL P GU)) (tN P o62 (tL P Hc) (tL P Gy))) (tN P o0 (tN P o0 (tL P o1) (tL P GJ)) (tN P o71 (tL P o0) (tL P Gm)))) (tN P o15 (tN P o27 (tN P o0 (tL P o0) (tL P o0)) (tN P o0 (tL P G7) (tL P o0))) (tN P o0 (tN P o58 (tL P o96) (tL P GD)) (tN P o78 (tL P o1) .nil)))))))
noncomputable def S4 (w:World) (os:OsState):SharedT:=⟨tr4 w.params,252,lf0,⟨[]⟩,⟨0,0,0,0⟩,513,os⟩
noncomputable def tr5 (P:Params):BT:=(tN P boot_o_0 (tN P boot_o_1 (tN P Jr (tN P boot_o_7 (tN P o0 (tN P o37 (tN P o1 (tN P o79 (tL P o0) .nil) (tN P GY (tL P IC) .nil)) (tN P o0 (tN P o0 (tL P IY) .nil) (tL P GC))) (tN P o20 (tN P o48 (tN P o1 (tL P Jf) .nil) (tN P GO (tL P Iq) .nil)) (tN P o67 (tN P o0 (tL P IM) .nil) (tL P o1)))) (tN P o11 (tN P o1 (tN P o20 (tN P o0 (tL P Jk) .nil) (tN P o0 (tL P Iy) .nil)) (tN P o0 (tN P Hb (tL P o0) .nil) (tL P o0))) (tN P o31 (tN P o1 (tN P o92 (tL P Ja) .nil) (tL P GI)) (tN P o72 (tN P o1 (tL P IH) .nil) (tL P Gk))))) (tN P o0 (tN P o7 (tN P o20 (tN P o41 (tN P o0 (tL P o0) .nil) (tN P GV (tL P IA) .nil)) (tN P o61 (tN P o0 (tL P IV) .nil) (tL P o0))) (tN P o1 (tN P o20 (tN P o90 (tL P Jd) .nil) (tL P o1)) (tN P o1 (tN P G5 (tL P o1) .nil) (tL P Gq)))) (tN P o13 (tN P o24 (tN P o1 (tN P o85 (tL P o1) .nil) (tN P o0 (tL P o1) .nil)) (tN P o0 (tN P o0 (tL P o0) .nil) (tL P Gw))) (tN P o20 (tN P o55 (tN P o95 (tL P I0) .nil) (tL P GG)) (tN P o76 (tN P G0 (tL P IF) .nil) (tL P Js)))))) (tN P boot_o_5 (tN P boot_o_9 (tN P o6 (tN P o18 (tN P o40 (tN P o1 (tL P Jn) .nil) (tN P GX (tL P o1) .nil)) (tN P o59 (tN P o98 (tL P IX) .nil) (tL P o1))) (tN P o28 (tN P o50 (tN P o0 (tL P o0) .nil) (tL P GL)) (tN P o69 (tN P G6 (tL P IK) .nil) (tL P o0)))) (tN P o0 (tN P o23 (tN P o45 (tN P o84 (tL P Ji) .nil) (tN P GR (tL P Iv) .nil)) (tN P o64 (tN P o1 (tL P IS) .nil) (tL P Gx))) (tN P o33 (tN P o54 (tN P o93 (tL P o1) .nil) (tL P o0)) (tN P o0 (tN P o0 (tL P o0) .nil) (tL P Gi))))) (tN P o2 (tN P o9 (tN P o21 (tN P o43 (tN P o82 (tL P Jl) .nil) (tN P o1 (tL P o0) .nil)) (tN P o1 (tN P He (tL P o1) .nil) (tL P Gz))) (tN P o30 (tN P o52 (tN P o0 (tL P Jc) .nil) (tL P o0)) (tN P o0 (tN P G3 (tL P o0) .nil) (tL P Gn)))) (tN P o0 (tN P o26 (tN P o47 (tN P o87 (tL P o0) .nil) (tN P GP (tL P o0) .nil)) (tN P o66 (tN P G8 (tL P IP) .nil) (tL P Gu))) (tN P o38 (tN P o57 (tN P o1 (tL P o0) .nil) (tL P GF)) (tN P o77 (tN P o0 (tL P IE) .nil) (tL P o1))))))) (tN P boot_o_2 (tN P boot_o_4 (tN P boot_o_8 (tN P o1 (tN P o17 (tN P o39 (tN P o0 (tL P Jo) .nil) (tN P o0 (tL P o0) .nil)) (tN P o1 (tN P o97 (tL P o0) .nil) (tL P o0))) (tN P o11 (tN P o49 (tN P o88 (tL P Je) .nil) (tN P GN (tL P Ip) .nil)) (tN P o68 (tN P o1 (tL P IL) .nil) (tL P Gs)))) (tN P o12 (tN P o22 (tN P o11 (tN P o1 (tL P Jj) .nil) (tN P GS (tL P Iw) .nil)) (tN P o63 (tN P o0 (tL P IT) .nil) (tL P o1))) (tN P o32 (tN P o53 (tN P o0 (tL P o0) .nil) (tL P GH)) (tN P o73 (tN P G2 (tL P IG) .nil) (tL P Gj))))) (tN P Jq (tN P o8 (tN P o11 (tN P o42 (tN P o81 (tL P o1) .nil) (tN P o0 (tL P Iz) .nil)) (tN P o0 (tN P o1 (tL P o0) .nil) (tL P GA))) (tN P o29 (tN P o11 (tN P o91 (tL P o0) .nil) (tL P GK)) (tN P o70 (tN P G4 (tL P IJ) .nil) (tL P Gp)))) (tN P o14 (tN P o25 (tN P o46 (tN P o86 (tL P Jh) .nil) (tN P o1 (tL P Iu) .nil)) (tN P o1 (tN P G9 (tL P o1) .nil) (tL P Gv))) (tN P o11 (tN P o56 (tN P o0 (tL P IZ) .nil) (tL P o0)) (tN P o0 (tN P GZ (tL P o0) .nil) (tL P o0)))))) (tN P boot_o_6 (tN P boot_o_10 (tN P o0 (tN P o19 (tN P o0 (tN P o80 (tL P Jm) .nil) (tN P GW (tL P IB) .nil)) (tN P o60 (tN P o99 (tL P IW) .nil) (tL P GB))) (tN P o0 (tN P o51 (tN P o89 (tL P o1) .nil) (tL P o0)) (tN P o0 (tN P o0 (tL P o0) .nil) (tL P Gr)))) (tN P o1 (tN P o0 (tN P o0 (tN P o0 (tL P o0) .nil) (tN P GQ (tL P o0) .nil)) (tN P o65 (tN P Ha (tL P IQ) .nil) (tL P o0))) (tN P o34 (tN P o0 (tN P o94 (tL P I9) .nil) (tL P o1)) (tN P o11 (tN P G1 (tL P o1) .nil) (tL P Jt))))) (tN P o3 (tN P o10 (tN P o0 (tN P o44 (tN P o83 (tL P o0) .nil) (tN P GU (tL P o1) .nil)) (tN P o62 (tN P Hc (tL P IU) .nil) (tL P Gy))) (tN P o0 (tN P o0 (tN P o1 (tL P Jb) .nil) (tL P GJ)) (tN P o71 (tN P o0 (tL P II) .nil) (tL P Gm)))) (tN P o15 (tN P o27 (tN P o0 (tN P o0 (tL P Jg) .nil) (tN P o0 (tL P Ir) .nil)) (tN P o0 (tN P G7 (tL P o0) .nil) (tL P o0))) (tN P o0 (tN P o58 (tN P o96 (tL P o1) .nil) (tL P GD)) (tN P o78 (tN P o1 (tL P ID) .nil) (tL P Jp))))))))
noncomputable def S5 (w:World) (os:OsState):SharedT:=⟨tr5 w.params,337,lf0,⟨[]⟩,⟨0,0,0,0⟩,629,os⟩
noncomputable def hF (P:Params):Heap:=⟨⟨(boot_o_0 P::boot_o_1 P::boot_o_2 P::Jr P::boot_o_4 P::boot_o_5 P::boot_o_6 P::boot_o_7 P::boot_o_8 P::boot_o_9 P::boot_o_10 P::o0 P::Jq P::o2 P::o3 P::o0 P::o1 P::o6 P::o0 P::o7 P::o8 P::o9 P::o10 P::o11 P::o12 P::o0 P::o1 P::o13 P::o14 P::o0 P::o15 P::o37 P::o17 P::o18 P::o19 P::o20 P::o11 P::o21 P::o0 P::o1 P::o22 P::o23 P::o0 P::o24 P::o25 P::o26 P::o27 P::o20 P::o11 P::o28 P::o0 P::o1 P::o29 P::o30 P::o0 P::o31 P::o32 P::o33 P::o34 P::o20 P::o11 P::o38 P::o0 P::o1 P::o39 P::o40 P::o0 P::o41 P::o42 P::o43 P::o44 P::o20 P::o11 P::o45 P::o0 P::o1 P::o46 P::o47 P::o0 P::o48 P::o49 P::o50 P::o51 P::o20 P::o11 P::o52 P::o0 P::o1 P::o53 P::o54 P::o0 P::o55 P::o56 P::o57 P::o58 P::o0 P::o1 P::o59 P::o60 P::o61 P::o0 P::o1 P::o62 P::o0 P::o63 P::o64 P::o65 P::o0 P::o1 P::o66 P::o0 P::o67 P::o68 P::o69 P::o0 P::o1 P::o70 P::o0 P::o71 P::o72 P::o73 P::o0 P::o11 P::o76 P::o0 P::o77 P::o78 P::o79 P::o0 P::o1 P::o80 P::o0 P::o81 P::o82 P::o83 P::o0 P::o1 P::o84 P::o0 P::o85 P::o86 P::o87 P::o0 P::o1 P::o88 P::o0 P::o89 P::o90 P::o91 P::o0 P::o1 P::o92 P::o0 P::o93 P::o94 P::o95 P::o0 P::o1 P::o96 P::o0 P::o97 P::o98 P::o99 P::o0 P::o1 P::He P::Hc P::Hb P::o0 P::o1 P::Ha P::o0 P::G9 P::G8 P::G7 P::o0 P::o1 P::G6 P::o0 P::G5 P::G4 P::G3 P::o0 P::o1 P::G2 P::o0 P::G1 P::G0 P::GZ P::o0 P::o1 P::GY P::o0 P::GX P::GW P::GV P::o0 P::o1 P::GU P::o0 P::GS P::GR P::GQ P::o0 P::o1 P::GP P::o0 P::GO P::GN P::GL P::o0 P::o1 P::GK P::o0 P::GJ P::GI P::GH P::o0 P::o1 P::GG P::o0 P::GF P::GD P::GC P::o0 P::o1 P::GB P::o0 P::GA P::Gz P::Gy P::o0 P::o1 P::Gx P::o0 P::Gw P::Gv P::Gu P::o0 P::o1 P::Gs P::o0 P::Gr P::Gq P::Gp P::Gn P::Gm P::Gk P::Gj P::Gi P::Jt P::Js P::o0 P::o1 P::Jp P::o0 P::Jo P::Jn P::Jm P::o0 P::o1 P::Jl P::o0 P::Jk P::Jj P::Ji P::o0 P::o1 P::Jh P::o0 P::Jg P::Jf P::Je P::o0 P::o1 P::Jd P::o0 P::Jc P::Jb P::Ja P::o0 P::o1 P::I9 P::I0 P::IZ P::o0 P::o1 P::IY P::o0 P::IX P::IW P::IV P::o0 P::o1 P::IU P::o0 P::IT P::IS P::IQ P::o0 P::o1 P::IP P::o0 P::IM P::IL P::IK P::o0 P::o1 P::IJ P::o0 P::II P::IH P::IG P::o0 P::o1 P::IF P::o0 P::IE P::ID P::IC P::o0 P::o1 P::IB P::IA P::Iz P::o0 P::o1 P::Iy P::Iw P::Iv P::o0 P::o1 P::Iu P::o0 P::Ir P::Iq P::Ip P::[])⟩,lf0⟩
noncomputable def SA (w:World) (os:OsState):Shared:=⟨hA w.params,⟨[]⟩,⟨0,0,0,0⟩,187,os⟩
noncomputable def SF (w:World) (os:OsState):Shared:=⟨hF w.params,⟨[]⟩,⟨0,0,0,0⟩,629,os⟩
noncomputable def S0 (w:World) (os:OsState):Shared:=⟨boot_heap w.params,⟨[]⟩,boot_drawn,boot_toks,os⟩
noncomputable def Ky:List Stmt:=[top 0,top 1,top 2,top 3,top 4]
noncomputable def Kx:List Stmt:=[top 5,top 6,top 7,top 8,top 9,top 10,top 11,top 12,top 13,top 14,top 15]
noncomputable def Kw:List Stmt:=[top 16,top 17,top 18,top 19]
noncomputable def Kv:List Stmt:=[top 20,top 21,top 22,top 23,top 24,top 25,top 26,top 27,top 28,top 29,top 30,top 31,top 32,top 33]
noncomputable def hV:Program:={ hp with main:={ hp.main with body:=[top 0,top 2,top 3,top 4,top 5,top 6,top 7,top 9,top 10,top 12,top 13,top 14,top 16,top 17,top 18,top 19,top 20,top 21,top 23,top 24,top 25,top 26,top 27,top 28,top 29,top 30,top 31,top 32,top 33] } }
noncomputable def hAs:List Addr:=(nat_lit 0::nat_lit 1::nat_lit 2::nat_lit 3::nat_lit 4::nat_lit 5::nat_lit 6::nat_lit 7::nat_lit 8::nat_lit 9::nat_lit 10::nat_lit 11::nat_lit 12::nat_lit 13::nat_lit 14::nat_lit 15::nat_lit 16::nat_lit 17::nat_lit 18::nat_lit 19::nat_lit 20::nat_lit 21::nat_lit 22::nat_lit 29::nat_lit 30::nat_lit 31::nat_lit 32::nat_lit 35::nat_lit 42::nat_lit 43::nat_lit 44::nat_lit 47::nat_lit 54::nat_lit 55::nat_lit 56::nat_lit 59::nat_lit 66::nat_lit 67::nat_lit 68::nat_lit 71::nat_lit 78::nat_lit 79::nat_lit 80::nat_lit 83::nat_lit 90::nat_lit 91::nat_lit 92::nat_lit 95::nat_lit 96::nat_lit 97::nat_lit 98::nat_lit 99::nat_lit 100::nat_lit 101::nat_lit 102::nat_lit 103::nat_lit 104::nat_lit 105::nat_lit 106::nat_lit 107::nat_lit 108::nat_lit 109::nat_lit 110::nat_lit 111::nat_lit 112::nat_lit 113::nat_lit 114::nat_lit 115::nat_lit 116::nat_lit 117::nat_lit 118::nat_lit 119::nat_lit 120::nat_lit 128::nat_lit 129::nat_lit 130::nat_lit 131::nat_lit 132::nat_lit 133::nat_lit 134::nat_lit 135::nat_lit 136::nat_lit 137::nat_lit 138::nat_lit 139::nat_lit 140::nat_lit 141::nat_lit 142::nat_lit 143::nat_lit 144::nat_lit 145::nat_lit 146::nat_lit 147::nat_lit 148::nat_lit 149::nat_lit 150::nat_lit 151::nat_lit 152::nat_lit 153::nat_lit 154::nat_lit 155::nat_lit 156::nat_lit 157::nat_lit 158::nat_lit 159::nat_lit 160::nat_lit 161::nat_lit 162::nat_lit 163::nat_lit 164::nat_lit 165::nat_lit 166::nat_lit 167::nat_lit 168::nat_lit 169::nat_lit 170::nat_lit 171::nat_lit 172::nat_lit 173::nat_lit 174::nat_lit 175::nat_lit 176::nat_lit 177::nat_lit 178::nat_lit 179::nat_lit 180::nat_lit 181::nat_lit 182::nat_lit 183::nat_lit 184::nat_lit 185::nat_lit 186::nat_lit 187::nat_lit 188::nat_lit 189::nat_lit 190::nat_lit 191::nat_lit 192::nat_lit 193::nat_lit 194::nat_lit 195::nat_lit 196::nat_lit 197::nat_lit 198::nat_lit 199::nat_lit 200::nat_lit 201::nat_lit 202::nat_lit 203::nat_lit 204::nat_lit 205::nat_lit 206::nat_lit 207::nat_lit 208::nat_lit 209::nat_lit 210::nat_lit 211::nat_lit 212::nat_lit 213::nat_lit 214::nat_lit 215::nat_lit 216::nat_lit 217::nat_lit 218::nat_lit 219::nat_lit 220::nat_lit 221::nat_lit 222::nat_lit 223::nat_lit 224::nat_lit 225::nat_lit 226::nat_lit 227::nat_lit 228::nat_lit 229::nat_lit 230::nat_lit 231::nat_lit 232::nat_lit 233::nat_lit 234::nat_lit 235::nat_lit 236::nat_lit 237::nat_lit 238::nat_lit 239::nat_lit 240::nat_lit 241::nat_lit 242::nat_lit 243::nat_lit 244::nat_lit 245::nat_lit 246::nat_lit 247::nat_lit 248::nat_lit 249::nat_lit 252::nat_lit 253::nat_lit 254::nat_lit 255::nat_lit 256::nat_lit 257::nat_lit 258::nat_lit 259::nat_lit 260::nat_lit 261::nat_lit 262::nat_lit 263::nat_lit 264::nat_lit 265::nat_lit 266::nat_lit 267::nat_lit 268::nat_lit 269::nat_lit 270::nat_lit 271::nat_lit 272::nat_lit 273::nat_lit 274::nat_lit 275::nat_lit 276::nat_lit 277::nat_lit 278::nat_lit 279::nat_lit 280::nat_lit 281::nat_lit 282::nat_lit 283::nat_lit 284::nat_lit 285::nat_lit 286::nat_lit 287::nat_lit 288::nat_lit 289::nat_lit 290::nat_lit 291::nat_lit 292::nat_lit 293::nat_lit 294::nat_lit 295::nat_lit 296::nat_lit 297::nat_lit 298::nat_lit 299::nat_lit 300::nat_lit 301::nat_lit 302::nat_lit 303::nat_lit 304::nat_lit 305::nat_lit 306::nat_lit 307::nat_lit 308::nat_lit 309::nat_lit 310::nat_lit 311::nat_lit 312::nat_lit 313::nat_lit 314::nat_lit 315::nat_lit 316::nat_lit 317::nat_lit 318::nat_lit 319::nat_lit 320::nat_lit 321::nat_lit 322::nat_lit 323::nat_lit 324::nat_lit 325::nat_lit 326::nat_lit 327::nat_lit 328::nat_lit 329::nat_lit 330::nat_lit 331::nat_lit 332::nat_lit 333::nat_lit 334::nat_lit 335::nat_lit 336::[])
noncomputable def hK:Params->W.Frag:=fun P=>((nat_lit 0,boot_o_0 P)::(nat_lit 1,boot_o_1 P)::(nat_lit 2,boot_o_2 P)::(nat_lit 3,Jr P)::(nat_lit 4,boot_o_4 P)::(nat_lit 5,boot_o_5 P)::(nat_lit 6,boot_o_6 P)::(nat_lit 7,boot_o_7 P)::(nat_lit 8,boot_o_8 P)::(nat_lit 9,boot_o_9 P)::(nat_lit 10,boot_o_10 P)::(nat_lit 11,o0 P)::(nat_lit 12,Jq P)::(nat_lit 13,o2 P)::(nat_lit 14,o3 P)::(nat_lit 15,o0 P)::(nat_lit 16,o1 P)::(nat_lit 17,o6 P)::(nat_lit 18,o0 P)::(nat_lit 19,o7 P)::(nat_lit 20,o8 P)::(nat_lit 21,o9 P)::(nat_lit 22,o10 P)::(nat_lit 29,o0 P)::(nat_lit 30,o15 P)::(nat_lit 31,o37 P)::(nat_lit 32,o17 P)::(nat_lit 35,o20 P)::(nat_lit 42,o0 P)::(nat_lit 43,o24 P)::(nat_lit 44,o25 P)::(nat_lit 47,o20 P)::(nat_lit 54,o0 P)::(nat_lit 55,o31 P)::(nat_lit 56,o32 P)::(nat_lit 59,o20 P)::(nat_lit 66,o0 P)::(nat_lit 67,o41 P)::(nat_lit 68,o42 P)::(nat_lit 71,o20 P)::(nat_lit 78,o0 P)::(nat_lit 79,o48 P)::(nat_lit 80,o49 P)::(nat_lit 83,o20 P)::(nat_lit 90,o0 P)::(nat_lit 91,o55 P)::(nat_lit 92,o56 P)::(nat_lit 95,o0 P)::(nat_lit 96,o1 P)::(nat_lit 97,o59 P)::(nat_lit 98,o60 P)::(nat_lit 99,o61 P)::(nat_lit 100,o0 P)::(nat_lit 101,o1 P)::(nat_lit 102,o62 P)::(nat_lit 103,o0 P)::(nat_lit 104,o63 P)::(nat_lit 105,o64 P)::(nat_lit 106,o65 P)::(nat_lit 107,o0 P)::(nat_lit 108,o1 P)::(nat_lit 109,o66 P)::(nat_lit 110,o0 P)::(nat_lit 111,o67 P)::(nat_lit 112,o68 P)::(nat_lit 113,o69 P)::(nat_lit 114,o0 P)::(nat_lit 115,o1 P)::(nat_lit 116,o70 P)::(nat_lit 117,o0 P)::(nat_lit 118,o71 P)::(nat_lit 119,o72 P)::(nat_lit 120,o73 P)::(nat_lit 128,o0 P)::(nat_lit 129,o1 P)::(nat_lit 130,o80 P)::(nat_lit 131,o0 P)::(nat_lit 132,o81 P)::(nat_lit 133,o82 P)::(nat_lit 134,o83 P)::(nat_lit 135,o0 P)::(nat_lit 136,o1 P)::(nat_lit 137,o84 P)::(nat_lit 138,o0 P)::(nat_lit 139,o85 P)::(nat_lit 140,o86 P)::(nat_lit 141,o87 P)::(nat_lit 142,o0 P)::(nat_lit 143,o1 P)::(nat_lit 144,o88 P)::(nat_lit 145,o0 P)::(nat_lit 146,o89 P)::(nat_lit 147,o90 P)::(nat_lit 148,o91 P)::(nat_lit 149,o0 P)::(nat_lit 150,o1 P)::(nat_lit 151,o92 P)::(nat_lit 152,o0 P)::(nat_lit 153,o93 P)::(nat_lit 154,o94 P)::(nat_lit 155,o95 P)::(nat_lit 156,o0 P)::(nat_lit 157,o1 P)::(nat_lit 158,o96 P)::(nat_lit 159,o0 P)::(nat_lit 160,o97 P)::(nat_lit 161,o98 P)::(nat_lit 162,o99 P)::(nat_lit 163,o0 P)::(nat_lit 164,o1 P)::(nat_lit 165,He P)::(nat_lit 166,Hc P)::(nat_lit 167,Hb P)::(nat_lit 168,o0 P)::(nat_lit 169,o1 P)::(nat_lit 170,Ha P)::(nat_lit 171,o0 P)::(nat_lit 172,G9 P)::(nat_lit 173,G8 P)::(nat_lit 174,G7 P)::(nat_lit 175,o0 P)::(nat_lit 176,o1 P)::(nat_lit 177,G6 P)::(nat_lit 178,o0 P)::(nat_lit 179,G5 P)::(nat_lit 180,G4 P)::(nat_lit 181,G3 P)::(nat_lit 182,o0 P)::(nat_lit 183,o1 P)::(nat_lit 184,G2 P)::(nat_lit 185,o0 P)::(nat_lit 186,G1 P)::(nat_lit 187,G0 P)::(nat_lit 188,GZ P)::(nat_lit 189,o0 P)::(nat_lit 190,o1 P)::(nat_lit 191,GY P)::(nat_lit 192,o0 P)::(nat_lit 193,GX P)::(nat_lit 194,GW P)::(nat_lit 195,GV P)::(nat_lit 196,o0 P)::(nat_lit 197,o1 P)::(nat_lit 198,GU P)::(nat_lit 199,o0 P)::(nat_lit 200,GS P)::(nat_lit 201,GR P)::(nat_lit 202,GQ P)::(nat_lit 203,o0 P)::(nat_lit 204,o1 P)::(nat_lit 205,GP P)::(nat_lit 206,o0 P)::(nat_lit 207,GO P)::(nat_lit 208,GN P)::(nat_lit 209,GL P)::(nat_lit 210,o0 P)::(nat_lit 211,o1 P)::(nat_lit 212,GK P)::(nat_lit 213,o0 P)::(nat_lit 214,GJ P)::(nat_lit 215,GI P)::(nat_lit 216,GH P)::(nat_lit 217,o0 P)::(nat_lit 218,o1 P)::(nat_lit 219,GG P)::(nat_lit 220,o0 P)::(nat_lit 221,GF P)::(nat_lit 222,GD P)::(nat_lit 223,GC P)::(nat_lit 224,o0 P)::(nat_lit 225,o1 P)::(nat_lit 226,GB P)::(nat_lit 227,o0 P)::(nat_lit 228,GA P)::(nat_lit 229,Gz P)::(nat_lit 230,Gy P)::(nat_lit 231,o0 P)::(nat_lit 232,o1 P)::(nat_lit 233,Gx P)::(nat_lit 234,o0 P)::(nat_lit 235,Gw P)::(nat_lit 236,Gv P)::(nat_lit 237,Gu P)::(nat_lit 238,o0 P)::(nat_lit 239,o1 P)::(nat_lit 240,Gs P)::(nat_lit 241,o0 P)::(nat_lit 242,Gr P)::(nat_lit 243,Gq P)::(nat_lit 244,Gp P)::(nat_lit 245,Gn P)::(nat_lit 246,Gm P)::(nat_lit 247,Gk P)::(nat_lit 248,Gj P)::(nat_lit 249,Gi P)::(nat_lit 252,o0 P)::(nat_lit 253,o1 P)::(nat_lit 254,Jp P)::(nat_lit 255,o0 P)::(nat_lit 256,Jo P)::(nat_lit 257,Jn P)::(nat_lit 258,Jm P)::(nat_lit 259,o0 P)::(nat_lit 260,o1 P)::(nat_lit 261,Jl P)::(nat_lit 262,o0 P)::(nat_lit 263,Jk P)::(nat_lit 264,Jj P)::(nat_lit 265,Ji P)::(nat_lit 266,o0 P)::(nat_lit 267,o1 P)::(nat_lit 268,Jh P)::(nat_lit 269,o0 P)::(nat_lit 270,Jg P)::(nat_lit 271,Jf P)::(nat_lit 272,Je P)::(nat_lit 273,o0 P)::(nat_lit 274,o1 P)::(nat_lit 275,Jd P)::(nat_lit 276,o0 P)::(nat_lit 277,Jc P)::(nat_lit 278,Jb P)::(nat_lit 279,Ja P)::(nat_lit 280,o0 P)::(nat_lit 281,o1 P)::(nat_lit 282,I9 P)::(nat_lit 283,I0 P)::(nat_lit 284,IZ P)::(nat_lit 285,o0 P)::(nat_lit 286,o1 P)::(nat_lit 287,IY P)::(nat_lit 288,o0 P)::(nat_lit 289,IX P)::(nat_lit 290,IW P)::(nat_lit 291,IV P)::(nat_lit 292,o0 P)::(nat_lit 293,o1 P)::(nat_lit 294,IU P)::(nat_lit 295,o0 P)::(nat_lit 296,IT P)::(nat_lit 297,IS P)::(nat_lit 298,IQ P)::(nat_lit 299,o0 P)::(nat_lit 300,o1 P)::(nat_lit 301,IP P)::(nat_lit 302,o0 P)::(nat_lit 303,IM P)::(nat_lit 304,IL P)::(nat_lit 305,IK P)::(nat_lit 306,o0 P)::(nat_lit 307,o1 P)::(nat_lit 308,IJ P)::(nat_lit 309,o0 P)::(nat_lit 310,II P)::(nat_lit 311,IH P)::(nat_lit 312,IG P)::(nat_lit 313,o0 P)::(nat_lit 314,o1 P)::(nat_lit 315,IF P)::(nat_lit 316,o0 P)::(nat_lit 317,IE P)::(nat_lit 318,ID P)::(nat_lit 319,IC P)::(nat_lit 320,o0 P)::(nat_lit 321,o1 P)::(nat_lit 322,IB P)::(nat_lit 323,IA P)::(nat_lit 324,Iz P)::(nat_lit 325,o0 P)::(nat_lit 326,o1 P)::(nat_lit 327,Iy P)::(nat_lit 328,Iw P)::(nat_lit 329,Iv P)::(nat_lit 330,o0 P)::(nat_lit 331,o1 P)::(nat_lit 332,Iu P)::(nat_lit 333,o0 P)::(nat_lit 334,Ir P)::(nat_lit 335,Iq P)::(nat_lit 336,Ip P)::[])
noncomputable abbrev hX:Shared->Bool:=fun s=>xlAt hV [] s&&recOk (RowW.records (OpenRow.toRowW (OpenLaw.row hl))) s
end HD09
end
section
namespace HD09
open PySem PySem.W PySem.W.X PyProof.Rows L2
set_option maxHeartbeats 0
theorem JN:∀ w,(fun os=>topGo treeTable hp w 11 hAn 12 (S0 w os) (topStub hp))=fun os=>some (SA w os,⟨denote treeTable hC,hC,⟨0,0,0,0⟩,hB⟩):=by
 rewrite [PySem.W.Fast.te15667345088766844465,PySem.W.Fast.te14364793385576792824,PySem.W.Fast.te11892475500146522536]
 intro w; kernel_rfl
theorem JP:∀ w,(fun os=>segRun treeTable hp w 11 hAn 1 1 (SA w os) (blockOf (behindTheImports hp) hE hC ⟨0,0,0,0⟩ hB))=fun os=>some (Flow.next,(S1 w os).abs,hC,⟨0,0,0,0⟩):=by
 rewrite [PySem.W.Fast.te14374325043358763698,PySem.W.Fast.te14364793385576792824]
 intro w; kernel_rfl
theorem Lq:∀ w,(fun os=>segRunT treeTable hp w 11 hAn 1 651 (S1 w os) (piecesOf Ky hE hC ⟨0,0,0,0⟩ hB))=fun os=>some (Flow.next,S2 w os,hC,⟨9,0,10,8⟩):=by
 rewrite [PySem.W.Fast.te10110043849684766642,PySem.W.Fast.te14364793385576792824]
 intro w; kernel_rfl
theorem Lp:∀ w,(fun os=>segRunT treeTable hp w 11 hAn 1 797 (S2 w os) (piecesOf Kx hE hC ⟨9,0,10,8⟩ hB))=fun os=>some (Flow.next,S3 w os,hC,⟨43,0,43,8⟩):=by
 rewrite [PySem.W.Fast.te10110043849684766642,PySem.W.Fast.te14364793385576792824]
 intro w; kernel_rfl
theorem Lo:∀ w,(fun os=>segRunT treeTable hp w 11 hAn 1 773 (S3 w os) (piecesOf Kw hE hC ⟨43,0,43,8⟩ hB))=fun os=>some (Flow.next,S4 w os,hC,⟨47,0,153,36⟩):=by
 rewrite [PySem.W.Fast.te10110043849684766642,PySem.W.Fast.te14364793385576792824]
 intro w; kernel_rfl
theorem Ln:∀ w,(fun os=>segRunT treeTable hp w 11 hAn 1 404 (S4 w os) (piecesOf Kv hE hC ⟨47,0,153,36⟩ hB))=fun os=>some (Flow.next,S5 w os,hC,⟨240,0,258,55⟩):=by
 rewrite [PySem.W.Fast.te10110043849684766642,PySem.W.Fast.te14364793385576792824]
 intro w; kernel_rfl
theorem JO:∀ w,(fun os=>topRun treeTable hp w 11 hAn 2 (S5 w os).abs ⟨doneF .next,hC,⟨240,0,258,55⟩,hB⟩)=fun os=>some (SF w os):=by
 rewrite [PySem.W.Fast.te14082659384304107361,PySem.W.Fast.te14364793385576792824]
 intro w; kernel_rfl
theorem JM (w:World) (os:OsState):topRun treeTable hp w 11 hAn (12+(1+(651+(797+(773+(404+(2))))))) (S0 w os) (topStub hp)=some (SF w os):=go_top (congrFun (JN w) os) (piece_block (congrFun (JP w) os) (piece_app (segRun_of (congrFun (Lq w) os)) (piece_app (segRun_of (congrFun (Lp w) os)) (piece_app (segRun_of (congrFun (Lo w) os)) (piece_app (segRun_of (congrFun (Ln w) os)) (congrFun (JO w) os))))))
theorem Fq:∀ w:World,((boot_heap w.params).isNs mainGlobals&&(⟨[]⟩:Array GenState).size == 0,(boot_heap w.params).objs.size,(boot_heap w.params).nsMap mainGlobals "__annotations__")=(true,11,hAn):=by
 rewrite [PySem.W.Fast.te8920871248978507458]
 intro w; kernel_rfl
theorem Ft:∀ w:World,(fun os=>((staticsOk (importedModules hp.main.body) (boot_heap w.params) (hF w.params)&&namesBound hp (hF w.params)&&gensDone (SF w os)&&laidKept (boot_heap w.params) (hF w.params)),openSeen hV [] (importedModules hp.main.body) hX true (SF w os),obsZ hAs (SF w os)))=fun _=>(true,openGood hV [],valZ hK 337 629 w):=by
 rewrite [PySem.W.Fast.te5923862056798008813,PySem.W.Fast.te4187177175401517315]
 intro w; kernel_rfl
theorem Fu:LeftO hp hV [] hX (obsZ hAs) (valZ hK 337 629) 5368:=LeftO.of_pieces (boot_open (p:=hp) (N:=5368) (by kernel_rfl) (by decide) (fun _=>by kernel_rfl)) Fq JM (by decide) Ft
theorem Fs:PySem.Challenge.rw_stylehouse_k09_move.wellSaid=true:=by kernel_rfl
theorem Fv (said:(OpenLaw.row PySem.Challenge.rw_stylehouse_k09_move).wellSaid=true) (hw:(OpenRow.toRowW (OpenLaw.row PySem.Challenge.rw_stylehouse_k09_move)).promised) {d:DefRec} {kwd:List (Str×Expr)} (hdef:defOf hV (OpenLaw.row PySem.Challenge.rw_stylehouse_k09_move).name=some (d,kwd)) (hp':(OpenLaw.row PySem.Challenge.rw_stylehouse_k09_move).prog.theDef (OpenLaw.row PySem.Challenge.rw_stylehouse_k09_move).name=some (d.params,d.body,d.scope)) (hk:kwWritten? d.params.kwonlyargs d.params.kw_defaults=some kwd) (call:WalkX hV [] (XL hV []) (obsZ hAs) (valZ hK 337 629) (OpenRow.toRowW (OpenLaw.row PySem.Challenge.rw_stylehouse_k09_move)) d kwd fun f vs=>PySem.call f vs):(OpenLaw.row PySem.Challenge.rw_stylehouse_k09_move).Holds :=
 holds_openX (q:=hV) (loose:=[]) (Xt:=hX) (XP:=XL hV []) (Yf:=obsZ hAs) (Ya:=valZ hK 337 629) (N:=5368) Fu (fun s e=>xl_of s (Bool.and_eq_true_iff.mp e).1) XL.keeps hdef hp' hk (fun s e=>recFacts_of (Bool.and_eq_true_iff.mp e).2) rfl said (by decide +kernel) ⟨rfl,rfl,rfl,rfl,rfl,by decide +kernel⟩ hw call
end HD09
end
namespace N09
open PySem L2
set_option maxHeartbeats 0 in
theorem Ac {w:World} {K:W.Frag} {h:Heap} {mg:Str->Option Value} (X:K.In h) (G:h.Ns mainGlobals mg)
  {v0:Addr} (v1:PySem.W.nsIn K mainGlobals "Tree"=some (some (.ref v0)))
   (v2:PySem.W.plainGet K v0 Str.empty=true)
   (v3:PySem.W.hasDictIn K v0=true)
   (v4:PySem.W.plainOver K v0=true)
   (v5:W.findIn K (.ref v0) "__setattr__"=some (some (.builtin "object.__setattr__")))
   (v6:W.findIn K (.ref v0) "given"=some none)
   (v7:W.findIn K (.ref v0) "names"=some none)
   (v8:W.findIn K (.ref v0) "holders"=some none)
   (v9:W.findIn K (.ref v0) "boxes"=some none)
   (v10:W.findIn K (.ref v0) "marks"=some none)
   (v11:W.findIn K (.ref v0) "words"=some none)
   (v12:W.findIn K (.ref v0) "rows"=some none)
  {f0:Addr} (a0:Fn0 K "is_name" l4 f0)
  {f1:Addr} {od1 an1:Option Addr} {sl1:Array (Option Value)} {oc1 kV1 dc1 pm1 cd1 ct1:Value} (a1:W.findIn K (.ref v0) "enter"=some (some (.ref f1)))
   (i1:PySem.W.isFn K (.ref f1)=true)
   (l1:K.lookup f1=some ⟨oc1,od1,.func (PySem.W.fnOf "enter" "Tree.enter" (aA c5) (aw c5) (ah c5) .none kV1 dc1 pm1 an1 cd1 ct1),sl1⟩)
   (c1:PySem.W.codeIn K cd1 "Tree.enter"=true)
   (k1:W.keepIn K (.ref f1)=true)
  {f2:Addr} {od2 an2:Option Addr} {sl2:Array (Option Value)} {oc2 kV2 dc2 pm2 cd2 ct2:Value} (a2:W.findIn K (.ref v0) "check"=some (some (.ref f2)))
   (i2:PySem.W.isFn K (.ref f2)=true)
   (l2:K.lookup f2=some ⟨oc2,od2,.func (PySem.W.fnOf "check" "Tree.check" (aA c6) (aw c6) (ah c6) .none kV2 dc2 pm2 an2 cd2 ct2),sl2⟩)
   (c2:PySem.W.codeIn K cd2 "Tree.check"=true)
   (k2:W.keepIn K (.ref f2)=true)
  {f3:Addr} {od3 an3:Option Addr} {sl3:Array (Option Value)} {oc3 kV3 dc3 pm3 cd3 ct3:Value} (a3:W.findIn K (.ref v0) "stands"=some (some (.ref f3)))
   (i3:PySem.W.isFn K (.ref f3)=true)
   (l3:K.lookup f3=some ⟨oc3,od3,.func (PySem.W.fnOf "stands" "Tree.stands" (aA cN) (aw cN) (ah cN) .none kV3 dc3 pm3 an3 cd3 ct3),sl3⟩)
   (c3:PySem.W.codeIn K cd3 "Tree.stands"=true)
   (k3:W.keepIn K (.ref f3)=true)
  {f4:Addr} (a4:Fn0 K "check_place" fV f4)
  {f5:Addr} (a5:Fn0 K "_law_cell" jd f5)
  {f6:Addr} (a6:Fn0 K "_law_mix" kr f6)
  {f7:Addr} (a7:Fn0 K "_law_whole" gQ f7)
  {f8:Addr} (a8:Fn0 K "_law_under" gR f8)
  {f9:Addr} (a9:Fn0 K "_law_deep" jc f9)
  {f10:Addr} {od10 an10:Option Addr} {sl10:Array (Option Value)} {oc10 kV10 dc10 pm10 cd10 ct10:Value} (a10:W.findIn K (.ref v0) "name_of"=some (some (.ref f10)))
   (i10:PySem.W.isFn K (.ref f10)=true)
   (l10:K.lookup f10=some ⟨oc10,od10,.func (PySem.W.fnOf "name_of" "Tree.name_of" (aA cB) (aw cB) (ah cB) .none kV10 dc10 pm10 an10 cd10 ct10),sl10⟩)
   (c10:PySem.W.codeIn K cd10 "Tree.name_of"=true)
   (k10:W.keepIn K (.ref f10)=true)
  {f11:Addr} {od11 an11:Option Addr} {sl11:Array (Option Value)} {oc11 kV11 dc11 pm11 cd11 ct11:Value} (a11:W.findIn K (.ref v0) "marks_of"=some (some (.ref f11)))
   (i11:PySem.W.isFn K (.ref f11)=true)
   (l11:K.lookup f11=some ⟨oc11,od11,.func (PySem.W.fnOf "marks_of" "Tree.marks_of" (aA bK) (aw bK) (ah bK) .none kV11 dc11 pm11 an11 cd11 ct11),sl11⟩)
   (c11:PySem.W.codeIn K cd11 "Tree.marks_of"=true)
   (k11:W.keepIn K (.ref f11)=true)
  {f12:Addr} {od12 an12:Option Addr} {sl12:Array (Option Value)} {oc12 kV12 dc12 pm12 cd12 ct12:Value} (a12:W.findIn K (.ref v0) "holder_of"=some (some (.ref f12)))
   (i12:PySem.W.isFn K (.ref f12)=true)
   (l12:K.lookup f12=some ⟨oc12,od12,.func (PySem.W.fnOf "holder_of" "Tree.holder_of" (aA bG) (aw bG) (ah bG) .none kV12 dc12 pm12 an12 cd12 ct12),sl12⟩)
   (c12:PySem.W.codeIn K cd12 "Tree.holder_of"=true)
   (k12:W.keepIn K (.ref f12)=true)
  {f13:Addr} {od13 an13:Option Addr} {sl13:Array (Option Value)} {oc13 kV13 dc13 pm13 cd13 ct13:Value} (a13:W.findIn K (.ref v0) "boxes_of"=some (some (.ref f13)))
   (i13:PySem.W.isFn K (.ref f13)=true)
   (l13:K.lookup f13=some ⟨oc13,od13,.func (PySem.W.fnOf "boxes_of" "Tree.boxes_of" (aA bL) (aw bL) (ah bL) .none kV13 dc13 pm13 an13 cd13 ct13),sl13⟩)
   (c13:PySem.W.codeIn K cd13 "Tree.boxes_of"=true)
   (k13:W.keepIn K (.ref f13)=true)
  {f14:Addr} (a14:Fn0 K "check_name" gP f14)
  {f15:Addr} (a15:Fn0 K "_law_name" jb f15)
  {f16:Addr} (a16:Fn0 K "_law_same_row" eQ f16)
  {f17:Addr} (a17:Fn0 K "beneath" l5 f17)
  {f18:Addr} (a18:Fn0 K "holders_of" gO f18)
  {f19:Addr} {od19 an19:Option Addr} {sl19:Array (Option Value)} {oc19 kV19 dc19 pm19 cd19 ct19:Value} (a19:W.findIn K (.ref v0) "__init__"=some (some (.ref f19)))
   (i19:PySem.W.isFn K (.ref f19)=true)
   (l19:K.lookup f19=some ⟨oc19,od19,.func (PySem.W.fnOf "__init__" "Tree.__init__" (aA bM) (aw bM) (ah bM) .none kV19 dc19 pm19 an19 cd19 ct19),sl19⟩)
   (c19:PySem.W.codeIn K cd19 "Tree.__init__"=true)
   (k19:W.keepIn K (.ref f19)=true)
   (v13:PySem.W.makesIn K v0=true)
   (v14:W.keepIn K (.ref v0)=true)
  {f20:Addr} {od20 an20:Option Addr} {sl20:Array (Option Value)} {oc20 kV20 dc20 pm20 cd20 ct20:Value} (a20:W.findIn K (.ref v0) "mark"=some (some (.ref f20)))
   (i20:PySem.W.isFn K (.ref f20)=true)
   (l20:K.lookup f20=some ⟨oc20,od20,.func (PySem.W.fnOf "mark" "Tree.mark" (aA dI) (aw dI) (ah dI) .none kV20 dc20 pm20 an20 cd20 ct20),sl20⟩)
   (c20:PySem.W.codeIn K cd20 "Tree.mark"=true)
   (k20:W.keepIn K (.ref f20)=true)
  {f21:Addr} (a21:Fn0 K "_law_stood" cb f21)
  {f22:Addr} (a22:Fn0 K "depth_of" ko f22)
  {f23:Addr} {od23 an23:Option Addr} {sl23:Array (Option Value)} {oc23 kV23 dc23 pm23 cd23 ct23:Value} (a23:W.findIn K (.ref v0) "put"=some (some (.ref f23)))
   (i23:PySem.W.isFn K (.ref f23)=true)
   (l23:K.lookup f23=some ⟨oc23,od23,.func (PySem.W.fnOf "put" "Tree.put" (aA eE) (aw eE) (ah eE) .none kV23 dc23 pm23 an23 cd23 ct23),sl23⟩)
   (c23:PySem.W.codeIn K cd23 "Tree.put"=true)
   (k23:W.keepIn K (.ref f23)=true)
  {f24:Addr} {od24 an24:Option Addr} {sl24:Array (Option Value)} {oc24 kV24 dc24 pm24 cd24 ct24:Value} (a24:W.findIn K (.ref v0) "move"=some (some (.ref f24)))
   (i24:PySem.W.isFn K (.ref f24)=true)
   (l24:K.lookup f24=some ⟨oc24,od24,.func (PySem.W.fnOf "move" "Tree.move" (aA dH) (aw dH) (ah dH) .none kV24 dc24 pm24 an24 cd24 ct24),sl24⟩)
   (c24:PySem.W.codeIn K cd24 "Tree.move"=true)
   (k24:W.keepIn K (.ref f24)=true)
  {f25:Addr} (a25:Fn0 K "_law_put" kq f25)
  {f26:Addr} (a26:Fn0 K "_law_moved" gS f26)
  {f27:Addr} {od27 an27:Option Addr} {sl27:Array (Option Value)} {oc27 kV27 dc27 pm27 cd27 ct27:Value} (a27:PySem.W.nsIn K mainGlobals "law"=some (some (.ref f27)))
   (l27:K.lookup f27=some ⟨oc27,od27,.func (PySem.W.fnOf "law" "law" (aA t9) (aw t9) (ah t9) .none kV27 dc27 pm27 an27 cd27 ct27),sl27⟩)
   (c27:PySem.W.codeIn K cd27 "law"=true)
   (k27:W.keepIn K (.ref f27)=true)
   (u5:PySem.W.nsIn K mainGlobals "all"=some none)
   (nJ:PySem.W.nsIn K mainGlobals "bool"=some none)
   (eJ:PySem.W.nsIn K mainGlobals "enumerate"=some none)
   (u4:PySem.W.nsIn K mainGlobals "int"=some none)
   (bu:PySem.W.nsIn K mainGlobals "isinstance"=some none)
   (fI:PySem.W.nsIn K mainGlobals "len"=some none)
   (iS:PySem.W.nsIn K mainGlobals "list"=some none)
   (tW:PySem.W.nsIn K mainGlobals "max"=some none)
   (kg:PySem.W.nsIn K mainGlobals "range"=some none)
   (dG:PySem.W.nsIn K mainGlobals "reversed"=some none)
   (jG:PySem.W.nsIn K mainGlobals "sorted"=some none)
   (tV:PySem.W.nsIn K mainGlobals "str"=some none)
  {v15:Tok} (v16:PySem.W.nsIn K mainGlobals "LONGEST_NAME"=some (some (.int 8 v15)))
  {v17:Tok} (v18:PySem.W.nsIn K mainGlobals "MOST_BOXES"=some (some (.int 90 v17)))
  {v19:Tok} (v20:PySem.W.nsIn K mainGlobals "MOST_DEEP"=some (some (.int 12 v19)))
  {v21:Tok} (v22:PySem.W.nsIn K mainGlobals "ROOT"=some (some (.int 0 v21))) :
  ∃ t:Adr,Txt K mg t:=by
 obtain ⟨_,F0,m0,b0⟩:=a0.mk X G (ps:=["thing"]) fun _ _ _ _ _ _ us hl=>match us,hl with | [_],_=>rfl
 have F1:=fC (st:=c5) l1 c1 k1
 have b1:=F1.binds (ps:=["self","holder","name"]) fun _ _ _ _ _ _ us hl=>match us,hl with | [_,_,_],_=>rfl
 have F2:=fC (st:=c6) l2 c2 k2
 have b2:=F2.binds (ps:=["self","box"]) fun _ _ _ _ _ _ us hl=>match us,hl with | [_,_],_=>rfl
 have F3:=fC (st:=cN) l3 c3 k3
 have b3:=F3.binds (ps:=["self","box"]) fun _ _ _ _ _ _ us hl=>match us,hl with | [_,_],_=>rfl
 obtain ⟨_,F4,m4,b4⟩:=a4.mk X G (ps:=["place","row"]) fun _ _ _ _ _ _ us hl=>match us,hl with | [_,_],_=>rfl
 obtain ⟨_,F5,m5,b5⟩:=a5.mk X G (ps:=["_law_script","_law_k"]) fun _ _ _ _ _ _ us hl=>match us,hl with | [_,_],_=>rfl
 obtain ⟨_,F6,m6,b6⟩:=a6.mk X G (ps:=["_law_cell_here","_law_way"]) fun _ _ _ _ _ _ us hl=>match us,hl with | [_,_],_=>rfl
 obtain ⟨_,F7,m7,b7⟩:=a7.mk X G (ps:=["_law_found"]) fun _ _ _ _ _ _ us hl=>match us,hl with | [_],_=>rfl
 obtain ⟨_,F8,m8,b8⟩:=a8.mk X G (ps:=["_law_rows","_law_box"]) fun _ _ _ _ _ _ us hl=>match us,hl with | [_,_],_=>rfl
 obtain ⟨_,F9,m9,b9⟩:=a9.mk X G (ps:=["_law_facts","_law_box"]) fun _ _ _ _ _ _ us hl=>match us,hl with | [_,_],_=>rfl
 have F10:=fC (st:=cB) l10 c10 k10
 have b10:=F10.binds (ps:=["self","box"]) fun _ _ _ _ _ _ us hl=>match us,hl with | [_,_],_=>rfl
 have F11:=fC (st:=bK) l11 c11 k11
 have b11:=F11.binds (ps:=["self","box"]) fun _ _ _ _ _ _ us hl=>match us,hl with | [_,_],_=>rfl
 have F12:=fC (st:=bG) l12 c12 k12
 have b12:=F12.binds (ps:=["self","box"]) fun _ _ _ _ _ _ us hl=>match us,hl with | [_,_],_=>rfl
 have F13:=fC (st:=bL) l13 c13 k13
 have b13:=F13.binds (ps:=["self","box"]) fun _ _ _ _ _ _ us hl=>match us,hl with | [_,_],_=>rfl
 obtain ⟨_,F14,m14,b14⟩:=a14.mk X G (ps:=["name"]) fun _ _ _ _ _ _ us hl=>match us,hl with | [_],_=>rfl
 obtain ⟨_,F15,m15,b15⟩:=a15.mk X G (ps:=["_law_cell_here","_law_way"]) fun _ _ _ _ _ _ us hl=>match us,hl with | [_,_],_=>rfl
 obtain ⟨_,F16,m16,b16⟩:=a16.mk X G (ps:=["_law_found","_law_due"]) fun _ _ _ _ _ _ us hl=>match us,hl with | [_,_],_=>rfl
 obtain ⟨_,F17,m17,b17⟩:=a17.mk X G (ps:=["tree","box"]) fun _ _ _ _ _ _ us hl=>match us,hl with | [_,_],_=>rfl
 obtain ⟨_,F18,m18,b18⟩:=a18.mk X G (ps:=["tree","box"]) fun _ _ _ _ _ _ us hl=>match us,hl with | [_,_],_=>rfl
 have F19:=fC (st:=bM) l19 c19 k19
 have b19:=F19.binds (ps:=["self","name"]) fun _ _ _ _ _ _ us hl=>match us,hl with | [_,_],_=>rfl
 have F20:=fC (st:=dI) l20 c20 k20
 have b20:=F20.binds (ps:=["self","box","word"]) fun _ _ _ _ _ _ us hl=>match us,hl with | [_,_,_],_=>rfl
 obtain ⟨_,F21,m21,b21⟩:=a21.mk X G (ps:=["_law_tree","_law_rows","_law_facts"]) fun _ _ _ _ _ _ us hl=>match us,hl with | [_,_,_],_=>rfl
 obtain ⟨_,F22,m22,b22⟩:=a22.mk X G (ps:=["tree","box"]) fun _ _ _ _ _ _ us hl=>match us,hl with | [_,_],_=>rfl
 have F23:=fC (st:=eE) l23 c23 k23
 have b23:=F23.binds (ps:=["self","holder","place","name"]) fun _ _ _ _ _ _ us hl=>match us,hl with | [_,_,_,_],_=>rfl
 have F24:=fC (st:=dH) l24 c24 k24
 have b24:=F24.binds (ps:=["self","box","holder","place"]) fun _ _ _ _ _ _ us hl=>match us,hl with | [_,_,_,_],_=>rfl
 obtain ⟨_,F25,m25,b25⟩:=a25.mk X G (ps:=["_law_tree","_law_rows","_law_facts","_law_number","_law_cell_here","_law_way"]) fun _ _ _ _ _ _ us hl=>match us,hl with | [_,_,_,_,_,_],_=>rfl
 obtain ⟨_,F26,m26,b26⟩:=a26.mk X G (ps:=["_law_tree","_law_rows","_law_facts","_law_cell_here","_law_way"]) fun _ _ _ _ _ _ us hl=>match us,hl with | [_,_,_,_,_],_=>rfl
 have F27:=fC (st:=t9) l27 c27 k27
 have b27:=F27.binds (ps:=["_law_script"]) fun _ _ _ _ _ _ us hl=>match us,hl with | [_],_=>rfl
 exact ⟨⟨_,_,_,_,_,_,_,_,_,_,_,_,_,_,_,_,_,_,_,_,_,_,_,_,_,_,_,_,_,_,_,_,_,_,_,_,_,_,_,_,_,_,_,_,_,_,_,_,_,_,_,_,_,_,_,_,_,_,_,_,_⟩,PySem.W.mg_of X G v1,⟨v2,v3,v4,v5⟩,v6,v7,v8,v9,v10,v11,v12,F0,m0,b0,F1,⟨a1,i1,k1⟩,b1,F2,⟨a2,i2,k2⟩,b2,F3,⟨a3,i3,k3⟩,b3,F4,m4,b4,F5,m5,b5,F6,m6,b6,F7,m7,b7,F8,m8,b8,F9,m9,b9,F10,⟨a10,i10,k10⟩,b10,F11,⟨a11,i11,k11⟩,b11,F12,⟨a12,i12,k12⟩,b12,F13,⟨a13,i13,k13⟩,b13,F14,m14,b14,F15,m15,b15,F16,m16,b16,F17,m17,b17,F18,m18,b18,F19,⟨v13,a19,i19,v14⟩,b19,F20,⟨a20,i20,k20⟩,b20,F21,m21,b21,F22,m22,b22,F23,⟨a23,i23,k23⟩,b23,F24,⟨a24,i24,k24⟩,b24,F25,m25,b25,F26,m26,b26,F27,PySem.W.mg_of X G a27,b27,PySem.W.mg_none_of X G u5,PySem.W.mg_none_of X G nJ,PySem.W.mg_none_of X G eJ,PySem.W.mg_none_of X G u4,PySem.W.mg_none_of X G bu,PySem.W.mg_none_of X G fI,PySem.W.mg_none_of X G iS,PySem.W.mg_none_of X G tW,PySem.W.mg_none_of X G kg,PySem.W.mg_none_of X G dG,PySem.W.mg_none_of X G jG,PySem.W.mg_none_of X G tV,fun s v=>.of_eq rfl,PySem.W.mg_of X G v16,PySem.W.mg_of X G v18,PySem.W.mg_of X G v20,PySem.W.mg_of X G v22⟩
end N09
open PySem PySem.W PyProof.Rows
local macro_rules | `(tactic| walk_at "fn")=>`(tactic| (exact ⟨_,_,_,_,_,_,_,_,_,by k_is,by k_is,by k_is,by k_is⟩))
set_option maxRecDepth 100000 in
set_option maxHeartbeats 0 in
theorem PySem.Challenge.cw_stylehouse_k09_move_holds : PySem.Challenge.rw_stylehouse_k09_move.Holds := by
 refine PySem.W.holds_law HD09.Fs fun said=>?_
 refine HD09.Fv said ?hw (by rfl) (by rfl) (by rfl) ?hc
 case hw=>w_witness2
 k_fill
 refine L2.yy (fun P=>rfl) ?_
 refine L2.yx (l:=PySem.Challenge.rw_stylehouse_k09_move) (n:=63) (k:=7) (x:="_law_script") (CX:=L2.CX0) (sp:=N09.Ag) rfl (by decide) rfl ⟨rfl,by decide,by decide⟩ (fun w h Y=>Y) ?F ?S ?C
 case F =>
  intro w mg fa h KX G hmg
  have T:∃ t,N09.Txt (L2.KOf KX) mg t:=by
   dsimp only [L2.KOf]
   refine' N09.Ac (w:=w) KX G ?v1 ?v2 ?v3 ?v4 ?v5 ?v6 ?v7 ?v8 ?v9 ?v10 ?v11 ?v12 ?a0 ?a1 ?i1 ?l1 ?c1 ?k1 ?a2 ?i2 ?l2 ?c2 ?k2 ?a3 ?i3 ?l3 ?c3 ?k3 ?a4 ?a5 ?a6 ?a7 ?a8 ?a9 ?a10 ?i10 ?l10 ?c10 ?k10 ?a11 ?i11 ?l11 ?c11 ?k11 ?a12 ?i12 ?l12 ?c12 ?k12 ?a13 ?i13 ?l13 ?c13 ?k13 ?a14 ?a15 ?a16 ?a17 ?a18 ?a19 ?i19 ?l19 ?c19 ?k19 ?v13 ?v14 ?a20 ?i20 ?l20 ?c20 ?k20 ?a21 ?a22 ?a23 ?i23 ?l23 ?c23 ?k23 ?a24 ?i24 ?l24 ?c24 ?k24 ?a25 ?a26 ?a27 ?l27 ?c27 ?k27 ?u5 ?nJ ?eJ ?u4 ?bu ?fI ?iS ?tW ?kg ?dG ?jG ?tV ?v16 ?v18 ?v20 ?v22
   (case v1=>k_is)
   (case v2=>k_is)
   (case v3=>k_is)
   (case v4=>k_is)
   (case v5=>k_is)
   (case v6=>k_is)
   (case v7=>k_is)
   (case v8=>k_is)
   (case v9=>k_is)
   (case v10=>k_is)
   (case v11=>k_is)
   (case v12=>k_is)
   (case a0=>walk_at "fn")
   (case a1=>k_is)
   (case i1=>k_is)
   (case l1=>k_is)
   (case c1=>k_is)
   (case k1=>k_is)
   (case a2=>k_is)
   (case i2=>k_is)
   (case l2=>k_is)
   (case c2=>k_is)
   (case k2=>k_is)
   (case a3=>k_is)
   (case i3=>k_is)
   (case l3=>k_is)
   (case c3=>k_is)
   (case k3=>k_is)
   (case a4=>walk_at "fn")
   (case a5=>walk_at "fn")
   (case a6=>walk_at "fn")
   (case a7=>walk_at "fn")
   (case a8=>walk_at "fn")
   (case a9=>walk_at "fn")
   (case a10=>k_is)
   (case i10=>k_is)
   (case l10=>k_is)
   (case c10=>k_is)
   (case k10=>k_is)
   (case a11=>k_is)
   (case i11=>k_is)
   (case l11=>k_is)
   (case c11=>k_is)
   (case k11=>k_is)
   (case a12=>k_is)
   (case i12=>k_is)
   (case l12=>k_is)
   (case c12=>k_is)
   (case k12=>k_is)
   (case a13=>k_is)
   (case i13=>k_is)
   (case l13=>k_is)
   (case c13=>k_is)
   (case k13=>k_is)
   (case a14=>walk_at "fn")
   (case a15=>walk_at "fn")
   (case a16=>walk_at "fn")
   (case a17=>walk_at "fn")
   (case a18=>walk_at "fn")
   (case a19=>k_is)
   (case i19=>k_is)
   (case l19=>k_is)
   (case c19=>k_is)
   (case k19=>k_is)
   (case v13=>k_is)
   (case v14=>k_is)
   (case a20=>k_is)
   (case i20=>k_is)
   (case l20=>k_is)
   (case c20=>k_is)
   (case k20=>k_is)
   (case a21=>walk_at "fn")
   (case a22=>walk_at "fn")
   (case a23=>k_is)
   (case i23=>k_is)
   (case l23=>k_is)
   (case c23=>k_is)
   (case k23=>k_is)
   (case a24=>k_is)
   (case i24=>k_is)
   (case l24=>k_is)
   (case c24=>k_is)
   (case k24=>k_is)
   (case a25=>walk_at "fn")
   (case a26=>walk_at "fn")
   (case a27=>k_is)
   (case l27=>k_is)
   (case c27=>k_is)
   (case k27=>k_is)
   (case u5=>k_is)
   (case nJ=>k_is)
   (case eJ=>k_is)
   (case u4=>k_is)
   (case bu=>k_is)
   (case fI=>k_is)
   (case iS=>k_is)
   (case tW=>k_is)
   (case kg=>k_is)
   (case dG=>k_is)
   (case jG=>k_is)
   (case tV=>k_is)
   (case v16=>k_is)
   (case v18=>k_is)
   (case v20=>k_is)
   (case v22=>k_is)
  obtain ⟨t,T⟩:=T
  have e0:=hmg.symm.trans T.JD
  cases e0
  exact ⟨t.uD,T.lb,fun base kb nb=>N09.Cj T⟩
 case S=>exact fun K H a ns hl hO hS=>⟨a,ns,rfl,hS,hl,fun _=>rfl⟩
 case C=>exact fun H s e s' z=>z
