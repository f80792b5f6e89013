import PyProof.Rows.All
import Wide.All
import OpenK.AllK
import Wide.FinOn
import Lean
import PyProof.EqAt
import PyProof.EqKinds
import PyProof.TupleCall
import PyProof.ZipIter
import PyProof.Rows.ZipGen
import PyProof.EnumIter
import PyProof.EnumFor
import PyProof.EnumMake
import PyProof.EnumStmt
import PyProof.SliceStr2
import PyProof.StrBlockI
import PyProof.MinMaxWalk
import PyProof.Rows.CallKwBuiltin
import PyProof.Rows.Range3
import KE.KRevIter
import PyProof.AttrMissHeap
import KE.KDictOf
import PyProof.FactsAll.range_2
import PyProof.P3Eq
import PyProof.DictWalks
import PyProof.Rows.SeqMore2
import PyProof.Rows.SortStr
import PyProof.StrOps2
import KE.KPairComp
import PyProof.DictItems
import KE.KDictLaws
import KE.KSortTup
import PySem.Challenge.RW_stylehouse_k24_told_values
set_option Elab.async false
set_option linter.all false
set_option maxRecDepth 100000
set_option genSizeOfSpec false
set_option compiler.extract_closed false
noncomputable section
local macro_rules|`(tactic| walk_at "v")=>`(tactic| first|exact .inl rfl|exact .inr rfl|assumption)
local macro_rules|`(tactic| walk_at "w")=>`(tactic| first|exact .inl rfl|exact .inr (.inl rfl)|exact .inr (.inr rfl))
local macro_rules|`(tactic| walk_at "r")=>`(tactic| repeat' first|exact trivial|rfl|constructor)
local macro_rules|`(tactic| walk_at "s")=>`(tactic| exact⟨rfl,rfl,rfl,by decide +kernel,rfl,by decide +kernel,by decide +kernel⟩)
abbrev Ry.{u}(α:Type u):Type u:=List α
abbrev Rz.{u}(α:Type u):Type u:=Option α
abbrev RA:=PySem.Value
abbrev RB:=PySem.Addr
abbrev RC:=PySem.W.Frag
abbrev RD:=PySem.Shared
abbrev RE:=PySem.Params
def My:=@PySem.Heap.get?_push_of_some
def QA:=@List.getElem?_eq_getElem
def QB:=@List.getElem?_eq_some_iff
def QC:=@PySem.Heap.get?_push_size
def QD:=@List.getElem?_map
def QE:=@List.mem_of_getElem?
def QF:=@List.find?_cons
def QG:=@List.getD_eq_getElem?_getD
def QH:=@Ne.symm
def QI:=@PySem.Heap.get?_update_other
def QJ:=@List.getElem?_eq_none
def QK:=@List.getElem?_append_right
def QL:=@List.getElem?_append_left
def QM:=@List.find?_eq_none
def QN:=@PySem.Heap.get?_update_self
def QO:=@Array.getD_eq_getD_getElem?
def QP:=@List.getElem?_of_mem
def QQ:=@List.filter_sublist
def QR:=@PySem.AutoSeq1.sub_tuple_tuple
def QS:=@List.Perm.eq_of_pairwise
def QT:=@List.zip_cons_cons
def QU:=@PySem.F.args_dict_get_3
def QV:=@PySem.F.entry_dict_get
def QW:=@PySem.Txt.slice_le
def QX:=@PySem.SeqAt.canLay_of_shaped
def QY:=@Nat.zero_lt_of_lt
def QZ:=@Nat.sub_le_iff_le_add'
def Q2:=@PySem.typeIs_bool
def Q3:=@List.find?_append
def Q4:=@List.pairwise_map
def Q5:=@PySem.F.slot_tuple_gt
def Q6:=@Array.getElem?_toList
def Q7:=@List.cons_append
def Q8:=@List.isEmpty_nil
def Q9:=@List.flatMap_nil
def Ra:=@List.map_take
def Rb:=@List.map_drop
def Rc:=@List.getElem?_set_ne
def Rf:=@Nat.le_succ
def Rg:=@PySem.Around.under_plainId
def Rh:=@Int.lt_iff_le_and_ne
def Ri:=@List.mem_filter
def Rj:=@List.of_mem_zip
def Rl:=@List.filter_map
def Rm:=@List.mem_mapIdx
def Rn:=@List.filterMap_cons
def Ro:=@PySem.W.plainGet_of
def Rq:=@PySem.W.callWith_K0
def Rr:=@List.getElem?_range
def Rt:=@List.mergeSort_perm
def Ru:=@Array.toList_append
def Rv:=@Nat.ne_of_gt
def Rw:=@Nat.zero_add
def Rx:=@List.find?_map
def Zj{α:Type _}{a b:α}(h:some a=some b):a=b:=Option.some.inj h
def Zb{a b:Nat}(h:Nat.ble a b=true):a<=b:=Nat.le_of_ble_eq_true h
def Zf:false≠true:=Bool.false_ne_true
theorem Zm{α:Type _}{β:Type _}{f:α->β}{x:Rz α}{b:β}(h:x.map f=some b):∃ a,x=some a/\f a=b:=Option.map_eq_some_iff.mp h
def Za:=@List.length_map
def Zc:=@PySem.wpAny_bind
def Zd:=@List.mem_cons_of_mem
def Ze:=@List.mem_append_right
def Zg:=@List.mem_cons_self
def Zh:=@List.map_cons
def Zi:=@List.mem_cons
def Zk:=@decide_eq_true
def Zl:=@List.mem_append
def Zo:=@Nat.le_refl
def Zp:=@decide_eq_false
def Zq:=@List.map_append
def Zr:=@PySem.Heap.lt_size
def Zs:=@List.size_toArray
def Zt:=@Nat.lt_of_lt_of_le
def Zu:=@Nat.le_trans
def Zv:=@List.mem_append_left
def Zw:=@PySem.wpAny_pure
def Zx:=@Nat.ne_of_lt
def Zy:=@List.mem_singleton
def Zz:=@List.append_nil
def Z0:=@Nat.zero_le
def Z1:=@of_decide_eq_true
def Z2:=@List.length_cons
def Z3:=@List.not_mem_nil
def Z4:=@List.map_congr_left
def Z5:=@List.length_append
def Z6:=@congrArg
def Z7:=@Int.emod_nonneg
def Z8:=@List.nodup_cons
def Z9:=@Int.emod_lt_of_pos
def Yb:=@List.map_map
def Yc:=@List.length_take
def Yd:=@Bool.and_eq_true
def Ye:=@List.mem_map
def Yg:=@List.flatMap_cons
def Yh:=@List.mem_flatMap
def Yi:=@Option.bind_some
def Yj:=@PySem.sizeLine_eq
def Yk:=@beq_eq_false_iff_ne
def Yl:=@PySem.mem_of_lookup
def Ym:=@List.flatMap_append
def Yn:=@List.take_length
def Yo:=@Nat.le_of_lt
def Yp:=@PySem.wpAny_truthy_bool
def Yq:=@List.nodup_append
def Yr:=@PySem.wpAny_loadPart'
def Ys:=@PySem.wpAny_mono
def Yt:=@List.getElem_mem
def Yu:=@List.take_add_one
def Yv:=@PySem.W.kia_one
def Yw:=@PySem.wpAny_newObj_type
def Yy:=@List.length_mapIdx
def Yz:=@List.any_cons
def Y0:=@List.lookup_cons
def Y1:=@Array.length_toList
def Y2:=@Nat.lt_succ_of_lt
def Y3:=@Nat.lt_irrefl
def Y4:=@PySem.W.Fast.te14364793385576792824
def Y5:=@PySem.Calls.spliced_cons
def Y6:=@Bool.false_eq_true
def Y7:=@List.mem_range
def Y8:=@PySem.Heap.size_push
def Y9:=@PySem.Calls.callWith_builtin
def Xa:=@List.drop_eq_getElem_cons
def Xb:=@PySem.wpAny_Call_Name_kw
def Xc:=@Nat.lt_of_le_of_lt
def Xd:=@List.all_eq_true
def Xe:=@PySem.F.plain_max_loop
def Xf:=@List.getElem_map
def Xg:=@PySem.wpAny_holding
def Xh:=@Option.isSome_iff_exists
def Xi:=@PySem.F.plainAttrs_dict
def Xj:=@Bool.not_eq_true'
def Xk:=@Nat.le_of_lt_succ
def Xm:=@Int.eq_ofNat_of_zero_le
def Xn:=@Bool.eq_iff_iff
def Xo:=@List.length_nil
def Xp:=@PySem.Heap.SameBut.update
def Xq:=@PyProof.Rows.callWith_type1
def Xr:=@Nat.le_of_eq
def Xs:=@Nat.lt_of_succ_lt_succ
def Xu:=@List.filter_cons
def Xv:=@List.any_eq_true
def Xw:=@PySem.F.slot_tuple_iterator_next
def Xx:=@List.pairwise_cons
def Xy:=@Nat.lt_or_eq_of_le
def Xz:=@decide_eq_true_iff
def X0:=@PySem.F.slot_dict_get
def X1:=@Classical.choose_spec
def X2:=@List.pairwise_iff_getElem
def X3:=@PySem.wpAny_passesOwn
def X4:=@Option.map_some
def X5:=@PySem.Calls.evalArgs_plain
def X6:=@Nat.lt_trans
def X7:=@Nat.succ_add_eq_add_succ
def X8:=@List.replicate_succ
def X9:=@List.mem_map_of_mem
def Wa:=@PySem.wpAny_getItem_str_slice
def Wb:=@PySem.F.plainAttrs_list
def Wc:=@List.pairwise_mergeSort
def Wd:=@List.filter_cons_of_neg
def We:=@List.map_nil
def Wf:=@PySem.tupleKind_room_in1
def Wg:=@List.any_map
def Wh:=@List.length_set
def Wi:=@List.length_filter_le
def Wj:=@List.take_append_drop
def Wk:=@PySem.Calls.spliced_nil
def Wl:=@List.append_assoc
def Wm:=@or_false
def Wn:=@List.mem_of_mem_take
def Wo:=@Nat.lt_succ_self
def Wp:=@List.length_drop
def Wq:=@PySem.call_meetsIn
def Wr:=@List.drop_length
def Ws:=@PySem.wpAny_call_entry
def Wt:=@Nat.le_add_right
def Wu:=@decide_eq_decide
def Wv:=@Int.zero_add
def Ww:=@List.all_cons
def Wx:=@congrFun
def Wy:=@List.nil_append
def Wz:=@Nat.not_lt_zero
section
namespace L2
open PySem PySem.Spec PyProof.Rows
abbrev Key:=Sum Int Str
def rA:Key->RA->Bool
 |.inl k,v=>Value.isInt k v
 |.inr x,v=>Value.isStrOf x v
noncomputable def P8 (w:World):Key->Int
 |.inl k=>hashInt k
 |.inr x=>hashStr w x
theorem bu:∀ {k:Key} {v:RA},rA k v=true->(∃ i t,k=Sum.inl i/\v=Value.int i t)\/(∃ x t,k=Sum.inr x/\v=Value.str x t)
 |.inl i,v,h=>by
  obtain⟨t,e⟩:=Value.isInt_shape (k:=i) (v:=v) h;exact .inl ⟨i,t,rfl,e⟩
 |.inr x,v,h=>by
  obtain⟨t,e⟩:=Value.isStrOf_shape (x:=x) (v:=v) h;exact .inr ⟨x,t,rfl,e⟩
theorem AQ i (t:Tok):rA (.inl i) (.int i t)=true:=by simp[rA,Value.isInt]
theorem AO x (t:Tok):rA (.inr x) (.str x t)=true:=by simp[rA,Value.isStrOf]
theorem K6(a b:Int):decide ((Sum.inl a:Key)=Sum.inl b)=(a == b):=by
 by_cases e:a=b
 · subst e;simp
 ·have h:¬ (Sum.inl a:Key)=Sum.inl b:=λ q=>e (Sum.inl.inj q)
  rw[Zp h];exact(Yk.mpr e).symm
theorem K3(a b:Str):decide ((Sum.inr a:Key)=Sum.inr b)=decide (a=b):=by
 by_cases e:a=b
 · subst e;simp
 ·have h:¬ (Sum.inr a:Key)=Sum.inr b:=λ q=>e (Sum.inr.inj q)
  rw[Zp h,Zp e]
theorem K5 a (b:Str):decide ((Sum.inl a:Key)=Sum.inr b)=false:=Zp (λ q=>nomatch q)
theorem K4 a (b:Int):decide ((Sum.inr a:Key)=Sum.inl b)=false:=Zp (λ q=>nomatch q)
noncomputable def aV prog (w:World):PySem.KeyKind prog w Key where
 is:=rA
 hash:=P8 w
 inj:=λ v a b ha hb=>by
  rcases bu ha with ⟨i,t,rfl,rfl⟩|⟨x,t,rfl,rfl⟩
  ·rcases bu hb with ⟨j,u,rfl,e⟩ | ⟨y,u,rfl,e⟩
   · injection e with e1 _;rw[e1]
   · exact nomatch e
  ·rcases bu hb with ⟨j,u,rfl,e⟩ | ⟨y,u,rfl,e⟩
   · exact nomatch e
   · injection e with e1 _;rw[e1]
 byValue:=λ k v h=>by
  rcases bu h with ⟨i,t,rfl,rfl⟩|⟨x,t,rfl,rfl⟩<;>rfl
 pyHash:=λ hv h=>by
  rcases bu hv with ⟨i,t,rfl,rfl⟩|⟨x,t,rfl,rfl⟩
  · exact wpAny_pyHash_int h
  · exact wpAny_pyHash_str h
 eqBool:=λ hu hv h=>by
  rcases bu hu with ⟨i,t,rfl,rfl⟩|⟨x,t,rfl,rfl⟩
  ·rcases bu hv with ⟨j,u,rfl,rfl⟩ | ⟨y,u,rfl,rfl⟩
   · rw[K6]at h;exact wpAny_eqBool_int h
   · rw[K5]at h;exact SeqAt.EqAt.int_str i t y u _ _ _ _ h
  ·rcases bu hv with ⟨j,u,rfl,rfl⟩ | ⟨y,u,rfl,rfl⟩
   · rw[K4]at h;exact SeqAt.EqAt.str_int x t j u _ _ _ _ h
   · rw[K3]at h;exact wpAny_eqBool_str h
 «strs»:=λ k x t v h=>by
  rcases bu h with ⟨i,u,rfl,e⟩|⟨y,u,rfl,e⟩
  · exact nomatch e
  ·injection e with e1 _
   subst e1;cases v<;>rfl
def tW prog w i t:(aV prog w).is (.inl i) (.int i t)=true:=AQ i t
def iR prog w x t:(aV prog w).is (.inr x) (.str x t)=true:=AO x t
inductive V where
 |non|bl (b:Bool)|int (i:Int)|str (x:Str)|byt (b:Array UInt8)|flt (b:UInt64)|ref (a:Addr)|ty (n:String)
 deriving DecidableEq
noncomputable def RelV:V->RA->Prop
 |.non,u=>u=Value.none
 |.bl b,u=>u=Value.bool b
 |.int i,u=>∃ t,u=Value.int i t
 |.str x,u=>∃ t,u=Value.str x t
 |.byt b,u=>∃ t,u=Value.bytes b t
 |.flt b,u=>∃ t,u=Value.float b t
 |.ref a,u=>u=Value.ref a
 |.ty n,u=>u=Value.type n
abbrev bQ:Ry V->Ry RA->Prop:=Paired RelV
def bQ.length(r:bQ xs us):xs.length=us.length:=Paired.length r
theorem bQ.get:∀ {xs:Ry V} {us:Ry RA} {i:Nat} {x:V},bQ xs us->xs[i]?=some x->∃ u,us[i]?=some u/\RelV x u
 |_,_,_,_,.nil,e=>by simp at e
 |_,_,0,_,.cons r _,e=>by simp at e;subst e;exact⟨_,rfl,r⟩
 |_,_,i+1,x,.cons _ t,e=>by
  obtain⟨u,h1,h2⟩:=bQ.get (i:=i) (x:=x) t (by simpa using e);exact⟨u,by simpa using h1,h2⟩
theorem bQ.set (r:RelV x u):∀ {xs:Ry V} {us:Ry RA} (i:Nat),bQ xs us->bQ (xs.set i x) (us.set i u)
 |_,_,_,.nil=>.nil
 |_,_,0,.cons _ t=>.cons r t
 |_,_,i+1,.cons q t=>.cons q (bQ.set r i t)
theorem bQ.append:∀ {xs ys:Ry V} {us ws:Ry RA},bQ xs us->bQ ys ws->bQ (xs++ys) (us++ws)
 |_,_,_,_,.nil,s=>s
 |_,_,_,_,.cons r t,s=>.cons r (bQ.append t s)
theorem bQ.take:∀ {xs:Ry V} {us:Ry RA} (n:Nat),bQ xs us->bQ (xs.take n) (us.take n)
 |_,_,0,_=>.nil
 |_,_,_+1,.nil=>.nil
 |_,_,n+1,.cons r t=>.cons r (bQ.take n t)
theorem bQ.drop:∀ {xs:Ry V} {us:Ry RA} (n:Nat),bQ xs us->bQ (xs.drop n) (us.drop n)
 |_,_,0,r=>r
 |_,_,_+1,.nil=>.nil
 |_,_,n+1,.cons _ t=>bQ.drop n t
def p8:Rz V->Rz RA->Prop
 |some v,some u=>RelV v u
 |none,none=>True
 |_,_=>False
def KV{κ:Type}:Ry (κ×V)->Ry (κ×RA)->Prop:=Paired λ(p:κ×V) (q:κ×RA)=>p.1=q.1/\RelV p.2 q.2
def kV:Key->V
 |.inl i=>.int i
 |.inr x=>.str x
inductive HO where
 |lst (xs:List V)
 |tup (xs:List V)
 |dK (kvs:List (Key×V))|dT (kvs:List (List Key×V))
 |set (S:Int->Bool) (n:Nat)
 |ins (C dx:Addr) (fs:List (Str×V))
 |own (x:Addr)
 |xd (fs:List (Str×V))
 |met (f x:Addr)
 |rng (lo hi:Int)
 |frz (o:Obj) (u:HO)
 |tbl (ps:Array Value)
 |ext (φ:Heap->Prop)
abbrev Hp:=RB->Rz HO
def upd(H:Hp)(a:RB)(o:HO):Hp:=λ b=>if b=a then some o else H b
def ay:upd H a o a=some o:=by unfold upd;rw[if_pos rfl]
def ar(h:b≠a):upd H a o b=H b:=by unfold upd;rw[if_neg h]
theorem FL:upd (upd H a o) a u=upd H a u:=by
 funext b;unfold upd;split<;>rfl
theorem Nu{H:Hp}{a b}{o u}(h:H a=some o)(h':H b=some u)(d:o≠u):a≠b:=by
 intro e;subst e;rw[h]at h';exact d (Zj h')
theorem dJ{H:Hp}{a b}{o}(h:H a=some o)(h':H b=none):a≠b:=by
 intro e;subst e;rw[h]at h';cases h'
def HD(qual:Str)(pos:Pos):Obj:={ cls:=.str qual 0,data:=.fields #[.int pos.line 0,.int pos.col 0] }
def Pa(H:Hp)(h:Heap)(a:RB)(o:Obj):Prop:=∃(qual:Str) (pos:Pos) (tb:Array RA),o=HD qual pos/\h.get? a=some { cls:=.none,data:=.fields tb }/\TriplesOk tb.toList/\(codeAmong pos tb.toList=none\/∃ c,codeAmong pos tb.toList=some (.ref c)/\c≠a/\H c=some (.own a)/\h.CodeRec (.ref c) qual)
section
variable(P:Program)(w:World)
noncomputable def dZ (H:Hp) (h:Heap) (a:RB):HO->Prop
 |.lst xs=>xs.length<=sizeLine/\∃(its:Ry RA) (n:Nat),bQ xs its/\h.get? a=some { cls:=.type "list",data:=.seq its.toArray n }
 |.tup xs=>xs.length<=sizeLine/\∃ its:Ry RA,bQ xs its/\IsTup h a its.toArray
 |.dK kvs=>kvs.length<=sizeLine/\(a == sysModules)=false/\∃ vs,KV kvs vs/\h.DictOf (aV P w) a vs
 |.dT kvs=>kvs.length<=sizeLine/\(a == sysModules)=false/\∃ xs:Ry (Ry Key×RB×RA),
  Paired (λ(p:Ry Key×V) (q:Ry Key×RB×RA)=>p.1=q.1/\H q.2.1=some (.tup (p.1.map kV))/\RelV p.2 q.2.2) kvs xs/\∃ o es ep,h.get? a=some o/\o.ExactDict/\o.data=.dict es ep/\es.toList=xs.map (entryOfKey (tupleKind (aV P w)))/\(xs.map (·.1)).Nodup
 |.set S n=>h.SetOf (intKind P w) a S n
 |.ins C dx fs=>H dx=some (.own a)/\fs.length<=1000/\dx≠a/\h.get? a=some (PySem.W.instObj C dx)/\∃ mA,h.Ns1 dx mA/\(∀ f,p8 (fs.lookup f) (mA f))/\PySem.Within mA (fs.map (·.1))
 |.own _=>∃ o,h.get? a=some o
 |.xd fs=>∃ mA,h.Ns1 a mA/\∀ f,p8 (fs.lookup f) (mA f)
 |.rng lo hi=>∃ t u v,h.get? a=some { cls:=.type "range",data:=.fields #[.int lo t,.int hi u,.int 1 v] }
 |.frz o (.tbl _)=>Pa H h a o
 |.frz o u=>h.get? a=some o/\dZ H h a u
 |.tbl ps=>h.get? a=some { cls:=.none,data:=.fields ps }
 |.met f x=>h.get? a=some (PySem.W.methodObj (.ref f) (.ref x))
 |.ext φ=>φ h/\(∃ o,h.get? a=some o)/\∀ h1 h2:Heap,φ h1->(∀ o,h1.get? a=some o->h2.get? a=some o)->φ h2
def HOk(H:Hp)(h:Heap):Prop:=∀ a o,H a=some o->dZ P w H h a o
end
section
variable{P:Program}{w:World}{H H':Hp}{h h':Heap}{a:RB}{o:HO}
theorem dZ.lt(x:dZ P w H h a o):a<h.objs.size:=by
 cases o with
 |lst xs=>obtain⟨_,_,_,_,e⟩:=x;exact Zr e
 |tup xs=>obtain⟨_,_,_,p⟩:=x;exact p.lt
 |dK kvs=>obtain⟨_,_,_,_,o,_,_,e,_⟩:=x;exact Zr e
 |dT kvs=>obtain⟨_,_,_,_,o,_,_,e,_⟩:=x;exact Zr e
 |set S n=>obtain⟨o,_,_,_,e,_⟩:=x;exact Zr e
 |ins C dx fs=>obtain⟨_,_,_,e,_⟩:=x;exact Zr e
 |own y=>obtain⟨_,e⟩:=x;exact Zr e
 |xd fs=>obtain⟨_,⟨_,_,_,e,_⟩,_⟩:=x;exact Zr e
 |rng lo hi=>obtain⟨_,_,_,e⟩:=x;exact Zr e
 |frz ob u=>cases u with
  |tbl _=>obtain⟨_,_,_,_,e,_⟩:=x;exact Zr e
  |_=>obtain⟨e,_⟩:=x;exact Zr e
 |tbl ps=>exact Zr (show h.get? a=some _ from x)
 |met f y=>exact Zr (show h.get? a=some _ from x)
 |ext φ=>obtain⟨_,⟨_,e⟩,_⟩:=x;exact Zr e
theorem Paired.L0 {α β:Type} {F G:α->β->Prop}:∀ {l₁:Ry α} {l₂:Ry β},Paired F l₁ l₂->(∀ a b,F a b->G a b)->Paired G l₁ l₂
 |_,_,.nil,_=>.nil
 |_,_,.cons r t,f=>.cons (f _ _ r) (Paired.L0 t f)
theorem dZ.qj (x:dZ P w H h a o) (k:∀ b u,(b=a\/H b=some (.own a))->h.get? b=some u->h'.get? b=some u)
  (ho:∀ b,H b=some (.own a)->H' b=some (.own a)) (ht:∀ b xs,H b=some (.tup xs)->H' b=some (.tup xs)):dZ P w H' h' a o:=by
 induction o with
 |lst xs=>obtain⟨z,its,n,r,e⟩:=x;exact⟨z,its,n,r,k _ _ (.inl rfl) e⟩
 |tup xs=>obtain⟨z,its,r,ob,e,c⟩:=x;exact⟨z,its,r,ob,k _ _ (.inl rfl) e,c⟩
 |dK kvs=>obtain⟨z,y,vs,r,ob,es,ep,e,c⟩:=x;exact⟨z,y,vs,r,ob,es,ep,k _ _ (.inl rfl) e,c⟩
 |dT kvs=>
  obtain⟨z,y,xs,r,ob,es,ep,e,c⟩:=x;exact⟨z,y,xs,Paired.L0 r λ p q z=>⟨z.1,ht _ _ z.2.1,z.2.2⟩,ob,es,ep,k _ _ (.inl rfl) e,c⟩
 |set S n=>obtain⟨ob,es,ep,t,e,c⟩:=x;exact⟨ob,es,ep,t,k _ _ (.inl rfl) e,c⟩
 |ins C dx fs=>
  obtain⟨d,z,ne,e,mA,⟨od,es,ep,e2,c⟩,r⟩:=x;exact⟨ho _ d,z,ne,k _ _ (.inl rfl) e,mA,⟨od,es,ep,k _ _ (.inr d) e2,c⟩,r⟩
 |own y=>obtain⟨ob,e⟩:=x;exact⟨ob,k _ _ (.inl rfl) e⟩
 |xd fs=>obtain⟨mA,⟨od,es,ep,e,c⟩,r⟩:=x;exact⟨mA,⟨od,es,ep,k _ _ (.inl rfl) e,c⟩,r⟩
 |rng lo hi=>obtain⟨t,u,v,e⟩:=x;exact⟨t,u,v,k _ _ (.inl rfl) e⟩
 |frz ob u ih=>cases u with
  |tbl _=>
   obtain⟨qu,ps,tb,e1,e2,e3,e4⟩:=x;refine⟨qu,ps,tb,e1,k _ _ (.inl rfl) e2,e3,e4.imp id ?_⟩
   rintro⟨c,q1,q2,q3,c',oc,vs,t,q4,q5,q6⟩
   cases q4;exact⟨c,q1,q2,ho _ q3,c,oc,vs,t,rfl,k _ _ (.inr q3) q5,q6⟩
  |_=>obtain⟨e,q⟩:=x;exact⟨k _ _ (.inl rfl) e,ih q⟩
 |tbl ps=>
  have e:=x;exact k a _ (.inl rfl) e
 |met f y=>
  have e:=x;exact k a _ (.inl rfl) e
 |ext φ=>obtain⟨p,⟨o,e⟩,st⟩:=x;exact⟨st _ _ p λ o q=>k _ _ (.inl rfl) q,⟨o,k _ _ (.inl rfl) e⟩,st⟩
def HOk.lt(x:HOk P w H h)(e:H a=some o):a<h.objs.size:=(x a o e).lt
theorem HOk.fresh(x:HOk P w H h)(e:h.objs.size<=a):H a=none:=by
 cases q:H a with
 |none=>rfl
 |some u=>exact absurd (Zt (x.lt q) e) (Y3 _)
theorem HOk.kept(x:HOk P w H h)(k:∀ b u,h.get? b=some u->h'.get? b=some u):HOk P w H h':=λ a o e=>
 (x a o e).qj (λ b u _ q=>k b u q) (λ _ q=>q) λ _ _ q=>q
theorem HOk.laid(x:HOk P w H h)(k:∀ b u,h.get? b=some u->h'.get? b=some u)(hp:h.objs.size<=a)(new:dZ P w (upd H a o) h' a o):HOk P w (upd H a o) h':=λ b u e=>by
 have hn:=x.fresh hp
 by_cases hb:b=a
 · subst hb;rw[ay]at e;cases e;exact new
 ·rw [ar hb] at e
  exact(x b u e).qj (λ c v _ q=>k c v q) (λ c q=>by rw[ar (dJ q hn)];exact q) λ c xs q=>by rw[ar (dJ q hn)];exact q
end
def Rd(H:Hp)(a:RB)(u:HO):Prop:=H a=some u\/∃ o,H a=some (.frz o u)
def O9:HO->Prop
 |.tbl _=>False
 |_=>True
theorem Rd.ok(r:Rd H a u)(x:HOk P w H h)(nt:O9 u:=by trivial):dZ P w H h a u:=by
 rcases r with r|⟨o,r⟩
 · exact x a u r
 ·cases u with
  |tbl _=>exact nt.elim
  |_=>obtain⟨_,q⟩:=x a _ r;exact q
def Mut:Rz HO->Prop
 |some (.lst _)=>True
 |some (.dK _)=>True
 |some (.dT _)=>True
 |some (.set _ _)=>True
 |some (.ins _ _ _)=>True
 |some (.ext _)=>True
 |_=>False
section
variable{P:Program}{w:World}{H:Hp}{h h':Heap}{x e:RB}{o':HO}
theorem HOk.write (ok:HOk P w H h) (mu:Mut (H x)) (he:e=x\/H e=some (.own x)) (k:∀ b u,b≠e->h.get? b=some u->h'.get? b=some u) (heo:∃ u,h'.get? e=some u)
  (new:dZ P w (upd H x o') h' x o'):HOk P w (upd H x o') h':=λ b u q=>by
 have nown:∀ c y,H c=some (.own y)->c≠x:=λ c y r z=>by subst z;rw[r]at mu;exact mu
 have ntup:∀ c xs,H c=some (.tup xs)->c≠x:=λ c xs r z=>by subst z;rw[r]at mu;exact mu
 by_cases hb:b=x
 · subst hb;rw[ay]at q;cases q;exact new
 ·rw [ar hb] at q
  by_cases hbe:b=e
  ·have q':H b=some (.own x):=by
    rcases he with z|z
    · exact absurd (hbe.trans z) hb
    · rw[hbe];exact z
   rw[q]at q';cases q'
   obtain⟨v,hv⟩:=heo;exact⟨v,by rw[hbe];exact hv⟩
  ·refine (ok b u q).qj (λ c v hc r=>k c v ?_ r) (λ c r=>by rw [ar (nown c b r)]; exact r) λ c xs r=>by rw [ar (ntup c xs r)]; exact r
   rcases hc with rfl|hc
   · exact hbe
   ·rintro rfl
    rcases he with z|z
    · exact nown c b hc z
    · rw[hc]at z;cases z;exact hb rfl
end
structure Un (fs ex:List Addr) (H H':Hp) (h h':Heap):Prop where
 keep:∀ b o,h.get? b=some o->H b=none->b ∉ fs->b ∉ ex->h'.get? b=some o
 slot:∀ b o,h.get? b=some o->H b=none->b ∈ fs->b ∉ ex->∃ sl,h'.get? b=some { o with slots:=sl }
 free:∀ b o,h.get? b=some o->H b=none->b ∉ ex->H' b=none
 there:∀ b o,h.get? b=some o->b ∉ ex->∃ o',h'.get? b=some o'
 Cb:∀ b xs,H b=some (.tup xs)->H' b=some (.tup xs)
 vN:∀ b o u,H b=some (.frz o u)->H' b=some (.frz o u)
 Cc:∀ b ps,H b=some (.tbl ps)->∃ more,H' b=some (.tbl (ps++more))
section
variable{fs fs' ex ex':Ry RB}{H H1 H2:Hp}{h h1 h2 h':Heap}{a x e:RB}{o:HO}
theorem Un.any(u:Un fs ex H H1 h h1)(q:h.get? b=some ob)(n:H b=none)(hx:b ∉ ex):∃ sl,h1.get? b=some { ob with slots:=sl }:=by
 by_cases hb:b ∈ fs
 · exact u.slot b ob q n hb hx
 · exact⟨ob.slots,u.keep b ob q n hb hx⟩
theorem Un.kept(k:∀ b u,h.get? b=some u->h'.get? b=some u):Un fs ex H H h h':=
 ⟨λ b ob q _ _ _=>k b ob q,λ b ob q _ _ _=>⟨ob.slots,k b ob q⟩,λ _ _ _ n _=>n,λ b ob q _=>⟨ob,k b ob q⟩,λ _ _ q=>q,λ _ _ _ q=>q,λ _ ps q=>⟨#[],by rw[q];simp⟩⟩
def Un.refl:Un fs ex H H h h:=Un.kept λ _ _ q=>q
theorem Un.laid (k:∀ b u,h.get? b=some u->h'.get? b=some u) (hp:h.objs.size<=a) (hn:H a=none):Un fs ex H (upd H a o) h h' where
 keep:=λ b u q _ _ _=>k b u q
 slot:=λ b u q _ _ _=>⟨u.slots,k b u q⟩
 free:=λ b u q n _=>by rw[ar (Zx (Zt (Zr q) hp))];exact n
 there:=λ b u q _=>⟨u,k b u q⟩
 Cb:=λ b xs q=>by rw[ar (dJ q hn)];exact q
 vN:=λ b u xs q=>by rw[ar (dJ q hn)];exact q
 Cc:=λ b ps q=>⟨#[],by rw[ar (dJ q hn),q];simp⟩
theorem Un.write(mu:Mut (H x))(he:e=x\/H e=some (.own x))(k:∀ b u,b≠e->h.get? b=some u->h'.get? b=some u)(heo:∃ u,h'.get? e=some u):Un fs ex H (upd H x o) h h':=by
 have hx:∀ b,H b=none->b≠x:=λ b n z=>by subst z;rw[n]at mu;exact mu
 have hb:∀ b,H b=none->b≠e:=λ b n z=>by
  subst z;rcases he with r|r
  · exact hx b n r
  · rw[n]at r;cases r
 have hm:∀ b u,H b=some u->¬ Mut (some u)->b≠x:=λ b u q nm z=>by subst z;rw[q]at mu;exact nm mu
 refine⟨λ b u q n _ _=>k b u (hb b n) q,λ b u q n _ _=>⟨u.slots,k b u (hb b n) q⟩,λ b u q n _=>by rw[ar (hx b n)];exact n,λ b u q _=>?_,
  λ b xs q=>by rw[ar (hm b _ q λ z=>z)];exact q,λ b u xs q=>by rw[ar (hm b _ q λ z=>z)];exact q,λ b ps q=>⟨#[],by rw[ar (hm b _ q λ z=>z),q];simp⟩⟩
 by_cases hbe:b=e
 · subst hbe;exact heo
 · exact⟨u,k b u hbe q⟩
end
def trk(h:Heap)(H:Hp):Ry RB:=(List.range h.objs.size).filter λ a=>(H a).isSome
def DU(h:Heap)(H:Hp):Heap:=PySem.W.hideAll h (trk h H)
def A5 h (H:Hp):(DU h H).objs.size=h.objs.size:=PySem.W.hideAll_size _ _
theorem DR(e:h.get? b=some o)(n:H b=none):(DU h H).get? b=some o:=
 PySem.W.hideAll_get _ e λ hm=>by
  have q:(H b).isSome=true:=(Ri.mp hm).2;rw[n]at q;simp at q
theorem G4(e:(DU h H).get? b=some o):h.get? b=some o/\H b=none:=by
 have e':=PySem.W.of_hideAll (trk h H) e;refine⟨e',?_⟩
 cases q:H b with
 |none=>rfl
 |some x=>
  have hm:b ∈ trk h H:=Ri.mpr ⟨Y7.mpr (Zr e'),by simp[q]⟩;have z:(DU h H).get? b=none:=PySem.W.hideAll_none (trk h H) hm;rw[z]at e;cases e
structure Mod (K:W.Frag) (mg:Str->Option Value) (base:Heap):Prop where
 kin:K.In base
 glob:base.Ns mainGlobals mg
 blt:∃ mb,base.Ns builtinsNs mb/\∀ x:Str,x≠"__name__"->mb x=bootBuiltins x
 nolimit:base.NoLimit
set_option genInjectivity false in
structure Cx where
 prog:Program
 w:World
 K:W.Frag
 mg:Str->Option Value
 base:Heap
 A:Around
 N:List Str
 s₀:Shared
 H₀:Hp
 env:Env
 outer:List Env
 stack:List Env
 ex:List Addr
 fn:Str->Bool
 calm:Bool
 pn:List (Addr×Obj)
 xe:Value->Shared->Prop
abbrev Se(X:Cx)(e:Expr)(es:Ry Expr):Prop:=starEach (e::es) X.env=(false,eval e X.env)::starEach es X.env
abbrev Sb(X:Cx)(p:Pos)(es:Ry Expr):Prop:=(backTo p (starEach es X.env)).any (·.1)=false
abbrev Dg(x:Str):Prop:=(x == ("__debug__":Str))=false
abbrev Ug(X:Cx)(o:Expr)(n:Str):Prop:=attributeBase o n X.env (eval o X.env)=eval o X.env
abbrev Uh(X:Cx)(e:Expr)(c:Pos):Prop:=((backTo c (starEach [e] X.env)).all (λ x=>!x.1)&&(backToKw c (keywordEach [] X.env)).all (λ x=>x.1.isSome)&& decide ([e].length+([]:Ry Keyword).length+(if([]:Ry Keyword).isEmpty then 0 else 1)<30))=true
abbrev Ui(a c:Pos):Prop:=(a.endLine == c.line)=true
abbrev Uj(X:Cx)(x:Str):Prop:=X.env.scope.names.lookup x=some .local
def frs(l:Ry Env):Ry RB:=l.filterMap (·.frame)
abbrev Cx.fs(X:Cx):Ry RB:=frs X.outer
def Vis(sc:Scope)(x:Str):Prop:=sc.names.lookup x=some .local\/sc.names.lookup x=some .cell\/sc.names.lookup x=some .free
def Loc(sc:Scope)(x:Str):Prop:=sc.names.lookup x=some .local\/sc.names.lookup x=some .cell
def Look(env:Env)(h:Heap)(m:Str->Rz RA)(x:Str)(u:RA):Prop:=
 (env.kindOf x=some .local/\m x=some u)\/((env.kindOf x=some .cell\/env.kindOf x=some .free)/\∃ c,env.cells.lookup x=some c/\h.IsCell c (some u))
structure Cx.Ok (X:Cx):Prop where
 mod:Mod X.K X.mg X.base
 kind:X.env.scope.kind=.function
 glob:X.env.globals=mainGlobals
 blt:X.env.builtins=builtinsNs
 above:X.s₀.heap.objs.size<=X.env.locals
 inj:∀ x y c,X.env.cells.lookup x=some c->X.env.cells.lookup y=some c->x=y
 has:∀ x,(X.env.kindOf x=some .cell\/X.env.kindOf x=some .free)->∃ c,X.env.cells.lookup x=some c
 cab:∀ x c,X.fn x=true->X.env.cells.lookup x=some c->X.s₀.heap.objs.size<=c
 hd:X.calm=true->X.A.handled=none
 frames:X.A.frames=some X.stack
 stk:X.stack=X.outer\/(X.stack=X.env::X.outer/\X.env.frame=some X.env.locals)
 exf:∀ b ∈ X.ex,b≠X.env.locals/\∀ x c,X.env.cells.lookup x=some c->c≠b
 bs:∀ b o,X.base.get? b=some o->X.s₀.heap.get? b=some o/\X.H₀ b=none
 bsz:X.base.objs.size<=X.s₀.heap.objs.size
 Kr:∀ b o,X.base.get? b=some o->b ∉ X.ex
 L7:∀ b ∈ X.ex,b ∉ X.fs
 xG:X.s₀.heap.FunFrames X.base X.outer
 frf:∀ b ∈ X.fs,X.H₀ b=none
structure Inv (X:Cx) (Qv:List (Addr×Obj)) (σ:List (Option V)) (H:Hp) (s:Shared):Prop where
 ok:X.Ok
 os:s.os=X.s₀.os
 bare:AllBare s.gens
 base:Un X.fs X.ex X.H₀ H X.s₀.heap s.heap
 loc:∃ m,s.heap.Ns X.env.locals m/\∀(i:Nat) (x:Str) (v:V),X.N[i]?=some x->σ[i]?=some (some v)->Vis X.env.scope x->∃ u,RelV v u/\Look X.env s.heap m x u
 cell:∀ x c,X.env.cells.lookup x=some c->∃ v,s.heap.IsCell c v
 free:H X.env.locals=none
 nN:∀ x c,X.env.cells.lookup x=some c->H c=none
 pin:∀ p ∈ X.pn++Qv,s.heap.get? p.1=some p.2/\H p.1=none/\p.1≠X.env.locals/\p.1 ∉ X.fs/\∀ v,p.2.data≠.cell v
 hok:HOk X.prog X.w H s.heap
 len:σ.length=X.N.length
section
variable{X:Cx}{Qv:Ry (RB×Obj)}{σ:Ry (Rz V)}{H H':Hp}{s:RD}{h':Heap}
theorem Cx.Ok.P2(ok:X.Ok)(e:X.base.get? b=some o):b ∉ X.fs:=λ hb=>by
 have:=(ok.xG.mem hb).1;rw[e]at this;cases this
theorem Inv.bs(I:Inv X Qv σ H s):∀ b o,X.base.get? b=some o->s.heap.get? b=some o/\H b=none:=λ b o e=>
 ⟨I.base.keep b o (I.ok.bs b o e).1 (I.ok.bs b o e).2 (I.ok.P2 e) (I.ok.Kr b o e),I.base.free b o (I.ok.bs b o e).1 (I.ok.bs b o e).2 (I.ok.Kr b o e)⟩
def Inv.bk(I:Inv X Qv σ H s):∀ b o,X.base.get? b=some o->s.heap.get? b=some o:=λ b o e=>(I.bs b o e).1
def Inv.mod(I:Inv X Qv σ H s):Mod X.K X.mg X.base:=I.ok.mod
def Inv.kIn(I:Inv X Qv σ H s):X.K.In s.heap:=I.ok.mod.kin.keeps I.bk
def Inv.lt(I:Inv X Qv σ H s):X.env.locals<s.heap.objs.size:=let ⟨_,hn,_⟩:=I.loc;hn.lt
def Inv.sz(I:Inv X Qv σ H s):X.s₀.heap.objs.size<=s.heap.objs.size:=Zu I.ok.above (Yo I.lt)
theorem Inv.P1(I:Inv X Qv σ H s)(h:s.heap.objs.size<=a):a ∉ X.fs:=λ hb=>by
 obtain⟨_,o,ho,_⟩:=I.ok.xG.mem hb;exact absurd (Zt (Zr ho) (Zu I.sz h)) (Y3 _)
theorem Inv.cne(I:Inv X Qv σ H s):∀ x c,X.env.cells.lookup x=some c->c≠X.env.locals:=λ x c e z=>by
 obtain⟨v,o,ho,hd⟩:=I.cell x c e;obtain⟨m,⟨o',es,ep,ho',hd',_⟩,_⟩:=I.loc;rw[z,ho']at ho;cases ho;rw[hd']at hd;cases hd
theorem Inv.xG(I:Inv X Qv σ H s):s.heap.FunFrames X.base X.outer:=by
 have all:∀(l:Ry Env),(∀ b ∈ frs l,b ∈ X.fs)->X.s₀.heap.FunFrames X.base l->s.heap.FunFrames X.base l:=by
  intro l
  induction l with
  |nil=>intro _ _;trivial
  |cons env r ih=>
   intro hs hl;obtain⟨hk,⟨L,o,hf,hn,ho,hd⟩,hr⟩:=hl;have hL:=hs L (by unfold frs;rw[Rn,hf];exact Zg);obtain⟨sl,e⟩:=I.base.slot L o ho (I.ok.frf L hL) hL λ z=>I.ok.L7 L z hL
   exact⟨hk,⟨L,_,hf,hn,e,hd⟩,ih (λ b hb=>hs b (by unfold frs;rw[Rn,hf];exact Zd _ hb)) hr⟩
 exact all X.outer (λ _ hb=>hb) I.ok.xG
theorem Inv.stack(I:Inv X Qv σ H s):s.heap.FunFrames X.base X.stack:=by
 rcases I.ok.stk with e|⟨e,hf⟩
 · rw[e];exact I.xG
 ·rw [e]
  obtain⟨m,hn,_⟩:=I.loc;refine .cons (by rw[I.ok.kind];decide) hf hn ?_ I.xG;exact Heap.get?_none_of_le (Zu I.ok.bsz I.ok.above)
theorem Inv.uR(I:Inv X Qv σ H s):∀ b ∈ frs X.stack,b ∈ X.env.locals::X.fs:=λ b hb=>by
 rcases I.ok.stk with e|⟨e,hf⟩
 · rw[e]at hb;exact Zd _ hb
 ·rw [e] at hb
  unfold frs at hb;rw[Rn,hf]at hb;exact hb
theorem Inv.oX(I:Inv X Qv σ H s):∀ b ∈ frs X.stack,H b=none:=λ b hb=>by
 rcases Zi.mp (I.uR b hb) with e|hb
 · rw[e];exact I.free
 ·obtain ⟨_,o,ho,_⟩:=I.ok.xG.mem hb
  exact I.base.free b o ho (I.ok.frf b hb) λ z=>I.ok.L7 b z hb
theorem Inv.step {g'} {t'} {d'} {ch:Ry RB} (I:Inv X Qv σ H s)
  (hch:∀ b ∈ ch,(b ∈ X.ex\/X.s₀.heap.objs.size<=b)/\b≠X.env.locals/\(∀ x c,X.env.cells.lookup x=some c->c≠b)/\∀ p ∈ X.pn++Qv,p.1≠b)
  (keep:∀ b o,b≠X.env.locals->b ∉ X.fs->b ∉ ch->s.heap.get? b=some o->H b=none->h'.get? b=some o)
  (slot:∀ b o,b≠X.env.locals->b ∈ X.fs->b ∉ ch->s.heap.get? b=some o->H b=none->∃ sl,h'.get? b=some { o with slots:=sl }) (free:∀ b o,b ∉ ch->s.heap.get? b=some o->H b=none->H' b=none)
  (there:∀ b o,b ∉ ch->s.heap.get? b=some o->∃ o',h'.get? b=some o')
  (Cb:∀ b xs,H b=some (.tup xs)->H' b=some (.tup xs)) (vN:∀ b o u,H b=some (.frz o u)->H' b=some (.frz o u)) (Cc:∀ b ps,H b=some (.tbl ps)->∃ more,H' b=some (.tbl (ps++more)))
  (ns:∀ m,s.heap.Ns X.env.locals m->h'.Ns X.env.locals m) (hok:HOk X.prog X.w H' h') (hg:AllBare g'):Inv X Qv σ H' { s with heap:=h',gens:=g',drawn:=d',toks:=t' }:=by
 have neL:∀ b o,X.s₀.heap.get? b=some o->b≠X.env.locals:=λ b o e=>Zx (Zt (Zr e) I.ok.above)
 have neC:∀ b o,X.s₀.heap.get? b=some o->b ∉ X.ex->b ∉ ch:=λ b o e hx hb=>by
  rcases(hch b hb).1 with z|z
  · exact hx z
  · exact absurd (Zt (Zr e) z) (Y3 _)
 have cellK:∀ x c,X.env.cells.lookup x=some c->∀ v,s.heap.IsCell c v->h'.IsCell c v:=λ x c e v ⟨o,ho,hd⟩=>by
  have nch:c ∉ ch:=λ z=>(hch c z).2.2.1 x c e rfl
  by_cases hc:c ∈ X.fs
  ·obtain ⟨sl,q⟩:=slot c o (I.cne x c e) hc nch ho (I.nN x c e)
   exact⟨_,q,hd⟩
  · exact⟨o,keep c o (I.cne x c e) hc nch ho (I.nN x c e),hd⟩
 refine⟨I.ok,I.os,hg,⟨λ b o e n hb hx=>?_,λ b o e n hb hx=>?_,λ b o e n hx=>?_,λ b o e hx=>?_,λ b xs e=>Cb b xs (I.base.Cb b xs e),λ b o xs e=>vN b o xs (I.base.vN b o xs e),λ b ps e=>?_⟩,?_,λ x c e=>?_,?_,λ x c e=>?_,λ p hp=>?_,hok,I.len⟩
 · exact keep b o (neL b o e) hb (neC b o e hx) (I.base.keep b o e n hb hx) (I.base.free b o e n hx)
 ·obtain ⟨sl,e1⟩:=I.base.slot b o e n hb hx
  obtain⟨sl',e2⟩:=slot b _ (neL b o e) hb (neC b o e hx) e1 (I.base.free b o e n hx);exact⟨sl',e2⟩
 ·obtain ⟨o',e1⟩:=I.base.there b o e hx
  exact free b o' (neC b o e hx) e1 (I.base.free b o e n hx)
 ·obtain ⟨o',e1⟩:=I.base.there b o e hx
  exact there b o' (neC b o e hx) e1
 ·obtain ⟨m1,e1⟩:=I.base.Cc b ps e
  obtain⟨m2,e2⟩:=Cc b _ e1;exact⟨m1++m2,by rw[e2,Array.append_assoc]⟩
 ·obtain ⟨m,hn,hl⟩:=I.loc
  refine⟨m,ns m hn,λ i x v e1 e2 e3=>?_⟩;obtain⟨u,r,l⟩:=hl i x v e1 e2 e3;refine⟨u,r,?_⟩;rcases l with l|⟨k,c,e,z⟩
  · exact .inl l
  · exact .inr ⟨k,c,e,cellK x c e _ z⟩
 ·obtain ⟨v,z⟩:=I.cell x c e
  exact⟨v,cellK x c e v z⟩
 ·obtain ⟨m,⟨o,_,_,ho,_⟩,_⟩:=I.loc
  exact free _ o (λ z=>(hch _ z).2.1 rfl) ho I.free
 ·obtain ⟨v,o,ho,hd⟩:=I.cell x c e
  exact free c o (λ z=>(hch c z).2.2.1 x c e rfl) ho (I.nN x c e)
 ·obtain ⟨e,n,ne,nf,d⟩:=I.pin p hp
  have nch:p.1 ∉ ch:=λ z=>(hch p.1 z).2.2.2 p hp rfl
  exact⟨keep p.1 p.2 ne nf nch e n,free p.1 p.2 nch e n,ne,nf,d⟩
theorem Inv.un{t':Nat}(I:Inv X Qv σ H s)(u:Un X.fs [] H H' s.heap h')(hok:HOk X.prog X.w H' h'):Inv X Qv σ H' { s with heap:=h',toks:=t' }:=by
 obtain⟨m,⟨o,es,ep,ho,r⟩,_⟩:=id I.loc;obtain⟨sl,hL⟩:=u.any ho I.free (by simp)
 exact I.step (g':=s.gens) (d':=s.drawn) (ch:=[]) (λ _ z=>nomatch z) (λ b o _ hb _ e n=>u.keep b o e n hb (by simp)) (λ b o _ hb _ e n=>u.slot b o e n hb (by simp)) (λ b o _ e n=>u.free b o e n (by simp)) (λ b o _ e=>u.there b o e (by simp)) u.Cb u.vN u.Cc (λ m' hm=>by
  obtain⟨o',es',ep',ho',r'⟩:=hm;rw[ho]at ho';cases ho'
  exact⟨_,es',ep',hL,r'⟩) hok I.bare
theorem Inv.call {g'} {t'} {d'} {ch} (I:Inv X Qv σ H s) (u:Un (frs X.stack) ch H H' s.heap h') (hok:HOk X.prog X.w H' h') (hg:AllBare g')
  (hch:∀ b ∈ ch,(b ∈ X.ex\/X.s₀.heap.objs.size<=b)/\b≠X.env.locals/\(∀ x c,X.env.cells.lookup x=some c->c≠b)/\∀ p ∈ X.pn++Qv,p.1≠b):Inv X Qv σ H' { s with heap:=h',gens:=g',drawn:=d',toks:=t' }:=by
 obtain⟨m,⟨o,es,ep,ho,r⟩,_⟩:=id I.loc;obtain⟨sl,hL⟩:=u.any ho I.free λ z=>(hch _ z).2.1 rfl
 exact I.step (ch:=ch) hch (λ b o hL hb hc e n=>u.keep b o e n (λ z=>(Zi.mp (I.uR b z)).elim hL hb) hc) (λ b o _ _ hc e n=>u.any e n hc) (λ b o hc e n=>u.free b o e n hc) (λ b o hc e=>u.there b o e hc) u.Cb u.vN u.Cc (λ m' hm=>by
  obtain⟨o',es',ep',ho',r'⟩:=hm;rw[ho]at ho';cases ho'
  exact⟨_,es',ep',hL,r'⟩) hok hg
theorem Inv.turned {t'} {it:RB} (I:Inv X Qv σ H s) (k:∀ b o,b≠it->s.heap.get? b=some o->h'.get? b=some o) (hn:H it=none) (hL:it≠X.env.locals)
  (h1:it ∈ X.ex\/X.s₀.heap.objs.size<=it) (h2:∀ x c,X.env.cells.lookup x=some c->c≠it) (h3:∀ p ∈ X.pn++Qv,p.1≠it):Inv X Qv σ H { s with heap:=h',toks:=t' }:=by
 have nit:∀ b u,H b=some u->b≠it:=λ b u e z=>by rw[z,hn]at e;cases e
 refine I.step (d':=s.drawn) (ch:=[it]) (λ b hb=>?_) (λ b o _ _ hc e _=>k b o (λ z=>hc (by simp [z])) e) (λ b o _ _ hc e _=>⟨o.slots,k b o (λ z=>hc (by simp [z])) e⟩) (λ _ _ _ _ n=>n)
  (λ b o hc e=>⟨o,k b o (λ z=>hc (by simp[z])) e⟩) (λ _ _ e=>e) (λ _ _ _ e=>e) (λ b ps e=>⟨#[],by rw[e];simp⟩) (λ m hm=>?_) (λ b u e=>?_) I.bare
 ·have e:b=it:=by simpa using hb
  subst e;exact⟨h1,hL,h2,h3⟩
 ·obtain ⟨o,es,ep,ho,r⟩:=hm
  exact⟨o,es,ep,k _ o (QH hL) ho,r⟩
 ·refine (I.hok b u e).qj (λ c v hc q=>k c v ?_ q) (λ _ q=>q) λ _ _ q=>q
  rcases hc with z|z
  · rw[z];exact nit b u e
  · exact nit c _ z
theorem Inv.tok(I:Inv X Qv σ H s)(t:Nat):Inv X Qv σ H { s with toks:=t }:=I.un (h':=s.heap) (t':=t) Un.refl I.hok
theorem Inv.kept(I:Inv X Qv σ H s)(k:∀ b u,s.heap.get? b=some u->h'.get? b=some u):Inv X Qv σ H { s with heap:=h',toks:=t' }:=I.un (Un.kept k) (I.hok.kept k)
theorem Inv.laid(I:Inv X Qv σ H s)(k:∀ b u,s.heap.get? b=some u->h'.get? b=some u)(hp:s.heap.objs.size<=a)(new:dZ X.prog X.w (upd H a o) h' a o):Inv X Qv σ (upd H a o) { s with heap:=h',toks:=t' }:=I.un (Un.laid k hp (I.hok.fresh hp)) (I.hok.laid k hp new)
theorem Inv.write (I:Inv X Qv σ H s) (mu:Mut (H x)) (he:e=x\/H e=some (.own x)) (k:∀ b u,b≠e->s.heap.get? b=some u->h'.get? b=some u) (heo:∃ u,h'.get? e=some u)
 (new:dZ X.prog X.w (upd H x o) h' x o):Inv X Qv σ (upd H x o) { s with heap:=h',toks:=t' }:=I.un (Un.write mu he k heo) (I.hok.write mu he k heo new)
theorem Inv.iN(I:Inv X Qv σ H s)(h:∀ p ∈ pins',s.heap.get? p.1=some p.2/\H p.1=none/\p.1≠X.env.locals/\p.1 ∉ X.fs/\∀ v,p.2.data≠.cell v):Inv X pins' σ H s:=
 ⟨I.ok,I.os,I.bare,I.base,I.loc,I.cell,I.free,I.nN,λ p hp=>(Zl.mp hp).elim (λ z=>I.pin p (Zv _ z)) (h p),I.hok,I.len⟩
theorem vB{N:Ry Str}(hN:N.Nodup){i j:Nat}{x}(a:N[i]?=some x)(b:N[j]?=some x):i=j:=by
 obtain⟨h1,e1⟩:=QB.mp a;obtain⟨h2,e2⟩:=QB.mp b;exact(List.getElem_inj hN).mp (e1.trans e2.symm)
theorem qh {M} {A} {E} {i} {x} {v} {u} {Q} (I:Inv X Qv σ H s) (hN:X.N.Nodup) (hi:X.N[i]?=some x) (hx:Loc X.env.scope x) (r:RelV v u)
  (h:∀ s',Inv X Qv (σ.set i (some v)) H s'->(∃ a,Heap.SameBut a s.heap s'.heap/\(a=X.env.locals\/X.env.cells.lookup x=some a))->Q () s') (hf:X.fn x=true\/X.env.scope.names.lookup x=some .local:=by walk_at "v"):wpAny M A (storeName X.env x u) Q E s:=by
 obtain⟨m,hn,hl⟩:=id I.loc;have hcls:(X.env.scope.kind == .class||(X.env.scope.kind == .module&&X.env.locals != X.env.globals))=false:=by rw[I.ok.kind];rfl
 have hiσ:i<σ.length:=by rw[I.len];exact(QB.mp hi).1
 have cne:=I.cne
 have tracked:∀{a:RB} {h':Heap},(∃ o,s.heap.get? a=some o/\H a=none)->Heap.SameBut a s.heap h'->HOk X.prog X.w H h':=λ{a h'} ha hs b ob e=>by
  obtain⟨_,_,hfree⟩:=ha;refine(I.hok b ob e).qj (λ c w' hc q=>(hs.2 c ?_).trans q) (λ _ q=>q) λ _ _ q=>q
  rintro rfl
  rcases hc with rfl|hc
  · rw[hfree]at e;cases e
  · rw[hfree]at hc;cases hc
 rcases hx with hk|hk
 ·refine wpAny_storeName_local hk hn (λ h' hn' hs=>?_) hcls
  obtain⟨oL,_,_,hoL,_⟩:=id hn;refine h _ ⟨I.ok,I.os,I.bare,⟨λ b o e n hb hx=>?_,λ b o e n hb hx=>?_,I.base.free,λ b o e hx=>?_,I.base.Cb,I.base.vN,I.base.Cc⟩,⟨_,hn',λ j y v' e1 e2 e3=>?_⟩,λ y c e=>?_,I.free,I.nN,λ p hp=>?_,tracked ⟨oL,hoL,I.free⟩ hs,by simpa using I.len⟩ ⟨_,hs,.inl rfl⟩
  · exact(hs.2 b (Zx (Zt (Zr e) I.ok.above))).trans (I.base.keep b o e n hb hx)
  ·obtain ⟨sl,e1⟩:=I.base.slot b o e n hb hx
   exact⟨sl,(hs.2 b (Zx (Zt (Zr e) I.ok.above))).trans e1⟩
  ·obtain ⟨o',e1⟩:=I.base.there b o e hx
   exact⟨o',(hs.2 b (Zx (Zt (Zr e) I.ok.above))).trans e1⟩
  ·by_cases hj:j=i
   ·subst hj
    rw[hi]at e1;cases e1
    rw[List.getElem?_set_self hiσ]at e2;cases e2;exact⟨u,r,.inl ⟨hk,by simp⟩⟩
   ·rw [Rc (QH hj)] at e2
    obtain⟨u',r',q⟩:=hl j y v' e1 e2 e3;refine⟨u',r',?_⟩;rcases q with ⟨k,e⟩|⟨k,c,e,z⟩
    ·refine .inl ⟨k,?_⟩
     have:y≠x:=λ e=>hj (vB hN e1 (e ▸ hi))
     simp[this,e]
    · exact .inr ⟨k,c,e,z.sameBut hs (cne y c e)⟩
  ·obtain ⟨w',z⟩:=I.cell y c e
   exact⟨w',z.sameBut hs (cne y c e)⟩
  ·obtain ⟨e,n,ne,nf,d⟩:=I.pin p hp
   exact⟨(hs.2 p.1 ne).trans e,n,ne,nf,d⟩
 ·have hfn:X.fn x=true:=by
   rcases hf with z|z
   · exact z
   · rw[z]at hk;cases hk
  obtain⟨c,hc⟩:=I.ok.has x (.inl hk);obtain⟨w',z⟩:=I.cell x c hc;refine wpAny_storeName_cell I.ok.kind hk hc z (λ h' hc' hs=>?_);obtain⟨oc,hoc,hocd⟩:=id z;refine h { s with heap:=h' } ⟨I.ok,I.os,I.bare,⟨λ b o e n hb hx=>?_,λ b o e n hb hx=>?_,I.base.free,λ b o e hx=>?_,I.base.Cb,I.base.vN,I.base.Cc⟩,⟨m,hn.sameBut hs (QH (cne x c hc)),λ j y v' e1 e2 e3=>?_⟩,λ y c' e=>?_,I.free,I.nN,λ p hp=>?_,tracked ⟨oc,hoc,I.nN x c hc⟩ hs,by simpa using I.len⟩ ⟨c,hs,.inr hc⟩
  · exact(hs.2 b (Zx (Zt (Zr e) (I.ok.cab x c hfn hc)))).trans (I.base.keep b o e n hb hx)
  ·obtain ⟨sl,e1⟩:=I.base.slot b o e n hb hx
   exact⟨sl,(hs.2 b (Zx (Zt (Zr e) (I.ok.cab x c hfn hc)))).trans e1⟩
  ·obtain ⟨o',e1⟩:=I.base.there b o e hx
   exact⟨o',(hs.2 b (Zx (Zt (Zr e) (I.ok.cab x c hfn hc)))).trans e1⟩
  ·by_cases hj:j=i
   ·subst hj
    rw[hi]at e1;cases e1
    rw[List.getElem?_set_self hiσ]at e2;cases e2;exact⟨u,r,.inr ⟨.inl hk,c,hc,hc'⟩⟩
   ·rw [Rc (QH hj)] at e2
    obtain⟨u',r',q⟩:=hl j y v' e1 e2 e3;refine⟨u',r',?_⟩;rcases q with q|⟨k,c',e,z'⟩
    · exact .inl q
    ·refine .inr ⟨k,c',e,z'.sameBut hs ?_⟩
     rintro rfl
     exact hj (vB hN e1 (I.ok.inj _ _ _ e hc ▸ hi))
  ·by_cases hcc:c'=c
   · subst hcc;exact⟨_,hc'⟩
   ·obtain ⟨w2,z2⟩:=I.cell y c' e
    exact⟨w2,z2.sameBut hs hcc⟩
  ·obtain ⟨e,n,ne,nf,d⟩:=I.pin p hp
   refine⟨(hs.2 p.1 ?_).trans e,n,ne,nf,d⟩;intro q;rw[q,hoc]at e;have q':=Zj e;exact d w' (by rw[<- q'];exact hocd)
theorem oV (I:Inv X Qv σ H s) (hN:X.N.Nodup) (hi:X.N[i]?=some x) (hx:Loc X.env.scope x) (r:RelV v u)
  (h:∀ s',Inv X Qv (σ.set i (some v)) H s'->Q () s') (hf:X.fn x=true\/X.env.scope.names.lookup x=some .local:=by walk_at "v"):wpAny M A (storeName X.env x u) Q E s:=
 qh I hN hi hx r (λ s' I' _=>h s' I') hf
theorem Inv.Ol (I:Inv X Qv σ H s) (ho:s'.os=s.os) (u:Un (frs X.stack) ch H H' s.heap s'.heap) (hok:HOk X.prog X.w H' s'.heap) (hg:AllBare s'.gens)
  (hch:∀ b ∈ ch,(b ∈ X.ex\/X.s₀.heap.objs.size<=b)/\b≠X.env.locals/\(∀ x c,X.env.cells.lookup x=some c->c≠b)/\∀ p ∈ X.pn++Qv,p.1≠b):Inv X Qv σ H' s':=by
 obtain⟨h',g',d',t',o'⟩:=s';have e:o'=s.os:=ho;subst e;exact I.call u hok hg hch
end
abbrev XK:=RA->Rz RB->Hp->Prop
abbrev St:=Ry (Rz V)
abbrev VK:=V->Hp->Prop
abbrev TE:=St->Hp->VK->Prop
abbrev TT:=St->Hp->(Bool->Hp->Prop)->Prop
abbrev TA:=St->Hp->(Ry V->Hp->Prop)->Prop
structure Ends where
 nx:St->Hp->Prop
 rt:VK
 bk:St->Hp->Prop:=λ _ _=>False
 ct:St->Hp->Prop:=λ _ _=>False
abbrev TS:=Ends->St->Hp->Prop
def EP(X:Cx)(Qv:Ry (RB×Obj))(σ:St)(Q:VK)(u:RA)(s':RD):Prop:=∃ v H',Inv X Qv σ H' s'/\RelV v u/\Q v H'
def TP(X:Cx)(Qv:Ry (RB×Obj))(σ:St)(Q:Bool->Hp->Prop)(b:Bool)(s':RD):Prop:=∃ H',Inv X Qv σ H' s'/\Q b H'
def AP(X:Cx)(Qv:Ry (RB×Obj))(σ:St)(Q:Ry V->Hp->Prop)(us:Ry RA)(s':RD):Prop:=∃ vs H',Inv X Qv σ H' s'/\bQ vs us/\Q vs H'
def SP(X:Cx)(Qv:Ry (RB×Obj))(D:Ends)(f:Flow)(s':RD):Prop:=
 match f with
 |.next=>∃ σ' H',Inv X Qv σ' H' s'/\D.nx σ' H'
 |.brk=>∃ σ' H',Inv X Qv σ' H' s'/\D.bk σ' H'
 |.cont=>∃ σ' H',Inv X Qv σ' H' s'/\D.ct σ' H'
 |.ret u=>∃ v σ' H',Inv X Qv σ' H' s'/\RelV v u/\D.rt v H'
def PE(X:Cx)(e:Expr)(t:TE):Prop:=
 ∀(Qv:Ry (RB×Obj)) (s:RD) (σ:St) (H:Hp) (Q:VK),Inv X Qv σ H s->t σ H Q->wpAny (model X.prog X.w) X.A (eval e X.env) (EP X Qv σ Q) X.xe s
def PT(X:Cx)(e:Expr)(t:TT):Prop:=
 ∀(Qv:Ry (RB×Obj)) (s:RD) (σ:St) (H:Hp) (Q:Bool->Hp->Prop),Inv X Qv σ H s->t σ H Q->wpAny (model X.prog X.w) X.A (isTrue e X.env (eval e X.env)) (TP X Qv σ Q) X.xe s
def PW(X:Cx)(e:Expr)(t:TT):Prop:=
 ∀(whole:Sem RA) (Qv:Ry (RB×Obj)) (s:RD) (σ:St) (H:Hp) (Q:Bool->Hp->Prop),Inv X Qv σ H s->t σ H Q->wpAny (model X.prog X.w) X.A (isTrue e X.env whole) (TP X Qv σ Q) X.xe s
def PW.pt(h:PW X e t):PT X e t:=h _
def PA(X:Cx)(es:Ry Expr)(t:TA):Prop:=
 ∀(pos:Pos) (Qv:Ry (RB×Obj)) (s:RD) (σ:St) (H:Hp) (Q:Ry V->Hp->Prop),Inv X Qv σ H s->t σ H Q->wpAny (model X.prog X.w) X.A (spliced (backTo pos (starEach es X.env))) (AP X Qv σ Q) X.xe s
def PS(X:Cx)(st:Stmt)(t:TS):Prop:=
 ∀(Qv:Ry (RB×Obj)) (s:RD) (σ:St) (H:Hp) (D:Ends),Inv X Qv σ H s->t D σ H->wpAny (model X.prog X.w) X.A (exec st X.env) (SP X Qv D) X.xe s
def PSs(X:Cx)(st:Ry Stmt)(t:TS):Prop:=
 ∀(Qv:Ry (RB×Obj)) (s:RD) (σ:St) (H:Hp) (D:Ends),Inv X Qv σ H s->t D σ H->wpAny (model X.prog X.w) X.A (execs st X.env) (SP X Qv D) X.xe s
theorem thn{α}{t}{Q Q':α->RD->Prop}(h:wpAny M A t Q E s)(hQ:∀ a s,Q a s->Q' a s):wpAny M A t Q' E s:=Ys h hQ λ _ _ x=>x
section
variable{X:Cx}
def Mv(i:Nat):TE:=λ σ H Q=>∃ v,σ[i]?=some (some v)/\Q v H
def tC(v:V):TE:=λ _ H Q=>Q v H
theorem iC(hN:X.N[i]?=some x)(hv:Vis X.env.scope x)(hd:Dg x:=by decide)(hcd:(x == ("__classdict__":Str))=false:=by decide):PE X (.Name x pos) (Mv i):=by
 intro Qv s σ H Q I h;obtain⟨v,e,h⟩:=h;obtain⟨m,hn,hl⟩:=I.loc;obtain⟨u,r,l⟩:=hl i x v hN e hv;have fin:EP X Qv σ Q u s:=⟨v,H,I,r,h⟩
 rcases l with ⟨hk,hm⟩|⟨hk,c,hc,hcell⟩
 · exact wpAny_Name (wpAny_loadName_local I.ok.kind hk hn hm fin) hd
 ·rcases hk with hk | hk
  · exact wpAny_Name (wpAny_loadName_cell I.ok.kind hk hc hcell fin) hd
  · exact wpAny_Name (wpAny_loadName_free I.ok.kind hk hc hcell fin hcd) hd
theorem EO{i j pos}:PE X (.Constant (.int i) j pos) (tC (.int i)):=λ _ _ _ H _ I h=>wpAny_Constant_int ⟨.int i,H,I.tok _,⟨_,rfl⟩,h⟩
theorem MY{b j pos}:PE X (.Constant (.bool b) j pos) (tC (.bl b)):=λ _ _ _ H _ I h=>Constant_bool ⟨.bl b,H,I,rfl,h⟩
def J4{j pos}:PE X (.Constant .none j pos) (tC .non):=λ _ _ _ H _ I h=>Constant_none ⟨.non,H,I,rfl,h⟩
theorem J1{x j pos}:PE X (.Constant (.str x) j pos) (tC (.str x)):=λ _ _ _ H _ I h=>Calls.Constant_str ⟨.str x,H,I.tok _,⟨_,rfl⟩,h⟩
def Gl(X:Cx)(x:Str):Prop:=X.env.kindOf x=some .globalImplicit
theorem mz (I:Inv X Qv σ H s) (hg:Gl X x) (hm:X.mg x=some u) (h:Q u s)
  (hd:Dg x:=by decide):wpAny (model X.prog X.w) X.A (eval (.Name x pos) X.env) Q E s:=
 Calls.Name_function_global I.ok.kind hg (Calls.loadGlobal_global (by rw[I.ok.glob];exact I.mod.glob.keeps I.bk) hm h) hd
theorem mB (I:Inv X Qv σ H s) (hg:Gl X x) (hm:X.mg x=none) (hv:bootBuiltins x=some u) (h:Q u s)
  (hn:x≠"__name__":=by decide) (hd:Dg x:=by decide):wpAny (model X.prog X.w) X.A (eval (.Name x pos) X.env) Q E s:=by
 obtain⟨mb,h1,h2⟩:=I.mod.blt;exact Calls.Name_function_global I.ok.kind hg (Calls.loadGlobal_builtin (by rw[I.ok.glob];exact I.mod.glob.keeps I.bk) hm (by rw[I.ok.blt];exact h1.keeps I.bk) ((h2 x hn).trans hv) h) hd
theorem zy(hg:Gl X x)(hm:X.mg x=some u)(r:RelV v u)(hd:Dg x:=by decide):PE X (.Name x pos) (tC v):=
 λ _ _ _ H _ I h=>mz I hg hm ⟨v,H,I,r,h⟩ hd
theorem GS(hg:Gl X x)(hm:X.mg x=none)(hv:bootBuiltins x=some u)(r:RelV v u)(hn:x≠"__name__":=by decide)(hd:Dg x:=by decide):PE X (.Name x pos) (tC v):=
 λ _ _ _ H _ I h=>mB I hg hm hv ⟨v,H,I,r,h⟩ hn hd
variable{a b:Expr}{ta tb:TE}{pos:Pos}
def PC(X:Cx)(op:CmpOp)(a b:Expr)(t:TE):Prop:=
  ∀(Qv:Ry (RB×Obj)) (s:RD) (σ:St) (H:Hp) (Q:VK),Inv X Qv σ H s->t σ H Q->wpAny (model X.prog X.w) X.A (eval a X.env) (λ v s₁=>wpAny (model X.prog X.w) X.A (eval b X.env) (λ u s₂=>wpAny (model X.prog X.w) X.A (compareOp op v u) (EP X Qv σ Q) X.xe s₂) X.xe s₁) X.xe s
theorem vC(b:Expr)(h:op≠.In)(h2:op≠.NotIn):behindInMarks op b=false:=by
 have e1:(op == CmpOp.In)=false:=by cases op<;>first|rfl|exact absurd rfl h
 have e2:(op == CmpOp.NotIn)=false:=by cases op<;>first|rfl|exact absurd rfl h2
 cases b<;>simp[behindInMarks,e1,e2]
def Mz(ta:TE):TE:=λ σ H Q=>ta σ H λ x H1=>Q (.bl (!decide (x=.non))) H1
theorem RelV.Dw(r:RelV x v):(v == Value.none)=decide (x=.non):=by
 cases x with
 |non=>cases r;rfl
 |bl _=>cases r;rfl
 |int _=>obtain⟨t,rfl⟩:=r;rfl
 |str _=>obtain⟨t,rfl⟩:=r;rfl
 |byt _=>obtain⟨t,rfl⟩:=r;rfl
 |flt _=>obtain⟨t,rfl⟩:=r;rfl
 |ref _=>cases r;rfl
 |ty _=>cases r;rfl
theorem GX{j pos'}(ha:PE X a ta):PC X .IsNot a (.Constant .none j pos') (Mz ta):=by
 intro Qv s σ H Q I h;refine thn (ha Qv s σ H _ I h) λ v s1 w90=>?_
 obtain⟨x,H1,I1,r1,q1⟩:=w90;exact Constant_none (isnot_none_gen ⟨.bl _,H1,I1,by rw[r1.Dw];rfl,q1⟩)
def tB(t:TE):TT:=λ σ H Q=>t σ H λ x H1=>∃ c,x=.bl c/\Q c H1
theorem J6(h:PC X op a b t)(h1:behindInMarks op b=false:=by first|exact vC _ (by decide) (by decide)|rfl):PE X (.Compare a [op] [b] pos) t:=λ Qv s σ H Q I hw=>wpAny_Compare1 (h Qv s σ H Q I hw) h1
theorem zh(h:PC X op a b t)(h1:behindInMarks op b=false:=by first|exact vC _ (by decide) (by decide)|rfl):PT X (.Compare a [op] [b] pos) (tB t):=by
 intro Qv s σ H Q I hw;refine wpAny_isTrue_Compare1 (thn (h Qv s σ H _ I hw) λ v s1 h1=>thn h1 λ u s2 h2=>thn h2 λ c s3 ⟨x,H1,I1,r1,q1⟩=>?_) h1;obtain⟨d,rfl,q⟩:=q1;cases r1;exact Yp ⟨H1,I1,q⟩
theorem EK(h:PE X e t)(he:∀ whole,isTrue e X.env whole=(do let v <- whole;standAt e.pos;holding [v] (truthy v)):=by intro _;rfl):PT X e (tB t):=by
 intro Qv s σ H Q I hw;refine isTrue_plain (thn (h Qv s σ H _ I hw) λ v s1 ⟨x,H1,I1,r1,q1⟩=>?_) (he _);obtain⟨d,rfl,q⟩:=q1;cases r1;exact Yp ⟨H1,I1,q⟩
variable{tA tB':TT}{rest:Ry Expr}
def Pz(t u:TT):TT:=λ σ H Q=>t σ H λ c H1=>if c=true then u σ H1 Q else Q false H1
def tOr(t u:TT):TT:=λ σ H Q=>t σ H λ c H1=>if c=true then Q true H1 else u σ H1 Q
def Po(t:TT):TT:=λ σ H Q=>t σ H λ c H1=>Q (!c) H1
theorem pw_and1(ha:PT X a tA):PW X (.BoolOp .And [a] pos) tA:=by
 intro wh Qv s σ H Q I h;refine isTrue_and (thn (ha Qv s σ H Q I h) λ c s1 e=>?_)
 cases c with
 |true=>exact isTrue_and_nil e
 |false=>exact e
theorem pw_or1(ha:PT X a tA):PW X (.BoolOp .Or [a] pos) tA:=by
 intro wh Qv s σ H Q I h;refine isTrue_or (thn (ha Qv s σ H Q I h) λ c s1 e=>?_)
 cases c with
 |false=>exact isTrue_or_nil e
 |true=>exact e
theorem pw_and(ha:PT X a tA)(hb:PW X (.BoolOp .And (b::rest) pos) tB'):PW X (.BoolOp .And (a::b::rest) pos) (Pz tA tB'):=by
 intro wh Qv s σ H Q I h;refine isTrue_and (thn (ha Qv s σ H _ I h) λ c s1 w90=>?_);obtain⟨H1,I1,q1⟩:=w90
 cases c with
 |true=>exact hb wh Qv s1 σ H1 Q I1 q1
 |false=>exact⟨H1,I1,q1⟩
theorem pw_or(ha:PT X a tA)(hb:PW X (.BoolOp .Or (b::rest) pos) tB'):PW X (.BoolOp .Or (a::b::rest) pos) (tOr tA tB'):=by
 intro wh Qv s σ H Q I h;refine isTrue_or (thn (ha Qv s σ H _ I h) λ c s1 w90=>?_);obtain⟨H1,I1,q1⟩:=w90
 cases c with
 |true=>exact⟨H1,I1,q1⟩
 |false=>exact hb wh Qv s1 σ H1 Q I1 q1
theorem JU(ha:PT X a tA):PT X (.UnaryOp .Not a pos) (Po tA):=by
 intro Qv s σ H Q I h;exact isTrue_not (ha Qv s σ H (λ c H1=>Q (!c) H1) I h)
def MG(ta tb:TE):TE:=λ σ H Q=>ta σ H λ x H1=>∃ c,x=.bl c/\if c=true then tb σ H1 Q else Q (.bl false) H1
def Pn(ta tb:TE):TE:=λ σ H Q=>ta σ H λ x H1=>∃ c,x=.bl c/\if c=true then Q (.bl true) H1 else tb σ H1 Q
def Mx(ta:TE):TE:=λ σ H Q=>ta σ H λ x H1=>∃ c,x=.bl c/\Q (.bl (!c)) H1
def zu{op}(h:PE X a t):PE X (.BoolOp op [a] pos) t:=λ Qv s σ H Q I hw=>BoolOp_one (h Qv s σ H Q I hw)
theorem ES(ha:PE X a ta)(hb:PE X (.BoolOp .And (b::rest) pos) tb):PE X (.BoolOp .And (a::b::rest) pos) (MG ta tb):=by
 intro Qv s σ H Q I h;refine BoolOp_and (thn (ha Qv s σ H _ I h) λ v s1 w90=>?_);obtain⟨x,H1,I1,r1,q1⟩:=w90;obtain⟨c,rfl,q1⟩:=q1;cases r1;refine Yp ?_
 cases c with
 |true=>exact hb Qv s1 σ H1 Q I1 q1
 |false=>exact⟨.bl false,H1,I1,rfl,q1⟩
theorem MX(ha:PE X a ta)(hb:PE X (.BoolOp .Or (b::rest) pos) tb):PE X (.BoolOp .Or (a::b::rest) pos) (Pn ta tb):=by
 intro Qv s σ H Q I h;refine BoolOp_or (thn (ha Qv s σ H _ I h) λ v s1 w90=>?_);obtain⟨x,H1,I1,r1,q1⟩:=w90;obtain⟨c,rfl,q1⟩:=q1;cases r1;refine Yp ?_
 cases c with
 |false=>exact hb Qv s1 σ H1 Q I1 q1
 |true=>exact⟨.bl true,H1,I1,rfl,q1⟩
theorem J3(ha:PE X a ta):PE X (.UnaryOp .Not a pos) (Mx ta):=by
 intro Qv s σ H Q I h;refine UnaryOp_ (thn (ha Qv s σ H _ I h) λ v s1 w90=>?_);obtain⟨x,H1,I1,r1,q1⟩:=w90;obtain⟨c,rfl,q1⟩:=q1;cases r1;exact not_of (Yp ⟨.bl (!c),H1,I1,rfl,q1⟩)
def tIf(t:TT)(ta tb:TE):TE:=λ σ H Q=>t σ H λ c H1=>if c=true then ta σ H1 Q else tb σ H1 Q
theorem C9(hc:PT X c tA)(ha:PE X a ta)(hb:PE X b tb):PE X (.IfExp c a b pos) (tIf tA ta tb):=by
 intro Qv s σ H Q I h;refine wpAny_IfExp (thn (hc Qv s σ H _ I h) λ d s1 w90=>?_);obtain⟨H1,I1,q1⟩:=w90
 cases d with
 |true=>exact ha Qv s1 σ H1 Q I1 q1
 |false=>exact hb Qv s1 σ H1 Q I1 q1
end
def SqL(K:RC)(H:Hp)(a:RB)(xs:Ry V):Prop:=
 Rd H a (.lst xs)\/∃(o:Obj) (its:Array RA) (n:Nat),K.lookup a=some o/\o.cls=.type "list"/\o.dict=none/\o.data=.seq its n/\its.size<=sizeLine/\bQ xs its.toList
def SqT(K:RC)(H:Hp)(a:RB)(xs:Ry V):Prop:=
 Rd H a (.tup xs)\/∃(o:Obj) (its:Array RA) (n:Nat),K.lookup a=some o/\o.cls=.type "tuple"/\o.data=.seq its n/\its.size<=sizeLine/\bQ xs its.toList
noncomputable def Qs:RA->Rz V
 |.none=>some .non
 |.bool b=>some (.bl b)
 |.int i _=>some (.int i)
 |.str x _=>some (.str x)
 |.bytes b _=>some (.byt b)
 |.float b _=>some (.flt b)
 |.ref a=>some (.ref a)
 |.type n=>some (.ty n)
 |_=>none
theorem RelV.abs(r:RelV x u):Qs u=some x:=by
 cases x with
 |non=>cases r;rfl
 |bl _=>cases r;rfl
 |int _=>obtain⟨t,rfl⟩:=r;rfl
 |str _=>obtain⟨t,rfl⟩:=r;rfl
 |byt _=>obtain⟨t,rfl⟩:=r;rfl
 |flt _=>obtain⟨t,rfl⟩:=r;rfl
 |ref _=>cases r;rfl
 |ty _=>cases r;rfl
def RelV.inj(r:RelV x u)(q:RelV y u):x=y:=Zj (r.abs.symm.trans q.abs)
theorem bQ.inj:∀ {xs ys:Ry V} {us:Ry RA},bQ xs us->bQ ys us->xs=ys
 |_,_,_,.nil,.nil=>rfl
 |_,_,_,.cons r t,.cons r' t'=>by rw[r.inj r',bQ.inj t t']
section
variable{X:Cx}{Qv:Ry (RB×Obj)}{σ:St}{H:Hp}{s:RD}{a:RB}{xs ys:Ry V}
def SqL.of{K:RC}(h:H a=some (.lst xs)):SqL K H a xs:=.inl (.inl h)
def SqT.of{K:RC}(h:H a=some (.tup xs)):SqT K H a xs:=.inl (.inl h)
theorem Inv.list(I:Inv X Qv σ H s)(h:SqL X.K H a xs):∃ its:Ry RA,bQ xs its/\PlainL s.heap a its.toArray/\xs.length<=sizeLine:=by
 rcases h with h|⟨o,its,n,hk,hc,hd,hs,hz,r⟩
 ·obtain ⟨z,its,n,r,e⟩:=h.ok I.hok
  exact⟨its,r,⟨_,n,e,rfl,rfl,rfl⟩,z⟩
 ·refine ⟨its.toList,r,⟨o,n,I.kIn a o hk,hc,hd,by simpa using hs⟩,?_⟩
  have e:=r.length;simp only[Y1]at e
  lia
theorem Inv.tuple(I:Inv X Qv σ H s)(h:SqT X.K H a xs):∃ its:Ry RA,bQ xs its/\IsTup s.heap a its.toArray/\xs.length<=sizeLine:=by
 rcases h with h|⟨o,its,n,hk,hc,hs,hz,r⟩
 ·obtain ⟨z,its,r,p⟩:=h.ok I.hok
  exact⟨its,r,p,z⟩
 ·refine ⟨its.toList,r,⟨o,I.kIn a o hk,hc,n,by simpa using hs⟩,?_⟩
  have e:=r.length;simp only[Y1]at e
  lia
theorem Inv.DB(I:Inv X Qv σ H s)(h:SqL X.K H a xs)(h':SqL X.K H a ys):xs=ys:=by
 obtain⟨its,r,⟨o,n,e,_,_,d⟩,_⟩:=I.list h;obtain⟨its',r',⟨o',n',e',_,_,d'⟩,_⟩:=I.list h';rw[e]at e';cases e'
 rw[d]at d';injection d' with d1 _
 have:its=its':=by simpa using Z6 Array.toList d1
 subst this;exact r.inj r'
theorem Inv.qf(I:Inv X Qv σ H s)(h:SqT X.K H a xs)(h':SqT X.K H a ys):xs=ys:=by
 obtain⟨its,r,⟨o,e,_,n,d⟩,_⟩:=I.tuple h;obtain⟨its',r',⟨o',e',_,n',d'⟩,_⟩:=I.tuple h';rw[e]at e';cases e'
 rw[d]at d';injection d' with d1 _
 have:its=its':=by simpa using Z6 Array.toList d1
 subst this;exact r.inj r'
end
abbrev Cx.wR(X:Cx)(E:RA->RD->Prop):Cx:={ X with xe:=E }
abbrev Cx.nox(X:Cx):Cx:=X.wR λ _ _=>False
theorem Cx.Ok.wR{X:Cx}(ok:X.Ok)(E:RA->RD->Prop):(X.wR E).Ok:=
 ⟨ok.mod,ok.kind,ok.glob,ok.blt,ok.above,ok.inj,ok.has,ok.cab,ok.hd,ok.frames,ok.stk,ok.exf,ok.bs,ok.bsz,ok.Kr,ok.L7,ok.xG,ok.frf⟩
theorem Cx.Ok.j9{X:Cx}{E:RA->RD->Prop}(ok:(X.wR E).Ok):X.Ok:=
 ⟨ok.mod,ok.kind,ok.glob,ok.blt,ok.above,ok.inj,ok.has,ok.cab,ok.hd,ok.frames,ok.stk,ok.exf,ok.bs,ok.bsz,ok.Kr,ok.L7,ok.xG,ok.frf⟩
section
variable{X:Cx}{Qv:Ry (RB×Obj)}{σ:St}{H:Hp}{s:RD}{E:RA->RD->Prop}
theorem Inv.wR(I:Inv X Qv σ H s)(E:RA->RD->Prop):Inv (X.wR E) Qv σ H s:=⟨I.ok.wR E,I.os,I.bare,I.base,I.loc,I.cell,I.free,I.nN,I.pin,I.hok,I.len⟩
theorem Inv.j9(I:Inv (X.wR E) Qv σ H s):Inv X Qv σ H s:=⟨I.ok.j9,I.os,I.bare,I.base,I.loc,I.cell,I.free,I.nN,I.pin,I.hok,I.len⟩
theorem SP.j9(h:SP (X.wR E) Qv D f s'):SP X Qv D f s':=by
 cases f with
 |next=>obtain⟨σ',H',I,q⟩:=h;exact⟨σ',H',I.j9,q⟩
 |brk=>obtain⟨σ',H',I,q⟩:=h;exact⟨σ',H',I.j9,q⟩
 |cont=>obtain⟨σ',H',I,q⟩:=h;exact⟨σ',H',I.j9,q⟩
 |ret u=>obtain⟨v,σ',H',I,r,q⟩:=h;exact⟨v,σ',H',I.j9,r,q⟩
theorem PSs.nox{st}{t:TS}(h:PSs X.nox st t):PSs X st t:=λ Qv s σ H D I hw=>
 Ys (h Qv s σ H D (I.wR _) hw) (λ _ _ q=>q.j9) λ _ _ z=>False.elim z
end
section
variable{X:Cx}{st:Stmt}{rest:Ry Stmt}{t u:TS}{e:Expr}{te:TE}{pos:Pos}
def MA:TS:=λ D σ H=>D.nx σ H
def Pj(t u:TS):TS:=λ D σ H=>t { D with nx:=u D } σ H
def tG:PSs X [] MA:=λ _ _ σ H _ I h=>wpAny_execs_nil ⟨σ,H,I,h⟩
theorem ia(h1:PS X st t)(h2:PSs X rest u):PSs X (st::rest) (Pj t u):=by
 intro Qv s σ H D I h;refine wpAny_execs_cons (thn (h1 Qv s σ H { D with nx:=u D } I h) λ f s1 q=>?_)
 cases f with
 |next=>
  obtain⟨σ',H',I',q⟩:=q;exact h2 Qv s1 σ' H' D I' q
 |ret v=>exact q
 |brk=>exact q
 |cont=>exact q
theorem iM(h1:PS X st t):PSs X [st] t:=by
 intro Qv s σ H D I h;refine wpAny_execs_cons (thn (h1 Qv s σ H D I h) λ f s1 q=>?_)
 cases f with
 |next=>exact wpAny_execs_nil q
 |ret v=>exact q
 |brk=>exact q
 |cont=>exact q
theorem Inv.quiet(I:Inv X Qv σ H s):interactive X.env=false:=by simp[interactive,I.ok.kind]
def MB(te:TE):TS:=λ D σ H=>te σ H λ _ H1=>D.nx σ H1
theorem fG(he:PE X e te)(hs:swapsWith e none pos.line X.env=pure false:=by rfl):PS X (.Expr e pos) (MB te):=by
 intro Qv s σ H D I h;exact wpAny_Expr_any (thn (he Qv s σ H _ I h) λ v s1 ⟨x,H1,I1,r1,q1⟩=>⟨σ,H1,I1,q1⟩) I.quiet hs
def Pk(te:TE):TS:=λ D σ H=>te σ H D.rt
theorem lR(he:PE X e te):PS X (.Return (some e) pos) (Pk te):=by
 intro Qv s σ H D I h;exact wpAny_Return_some (thn (he Qv s σ H _ I h) λ v s1 ⟨x,H1,I1,r1,q1⟩=>⟨x,σ,H1,I1,r1,q1⟩)
def Pq(c:TT)(t u:TS):TS:=λ D σ H=>c σ H λ b H1=>if b=true then t D σ H1 else u D σ H1
theorem GD(hc:PT X c tc)(ha:PSs X a t)(hb:PSs X b u):PS X (.If c a b pos) (Pq tc t u):=by
 intro Qv s σ H D I h;refine wpAny_If (thn (hc Qv s σ H _ I h) λ d s1 w90=>?_);obtain⟨H1,I1,q1⟩:=w90
 cases d with
 |true=>exact ha Qv s1 σ H1 D I1 q1
 |false=>exact hb Qv s1 σ H1 D I1 q1
end
abbrev TG:=V->St->Hp->(St->Hp->Prop)->Prop
abbrev TGs:=Ry V->St->Hp->(St->Hp->Prop)->Prop
def PG(X:Cx)(target:Expr)(t:TG):Prop:=
  ∀(Qv:Ry (RB×Obj)) (s:RD) (σ:St) (H:Hp) (v:V) (u:RA) (Q:St->Hp->Prop),Inv X Qv σ H s->RelV v u->t v σ H Q->wpAny (model X.prog X.w) X.A (assign target X.env u) (λ _ s'=>∃ σ' H',Inv X Qv σ' H' s'/\Q σ' H') X.xe s
def PGs(X:Cx)(ts:Ry Expr)(t:TGs):Prop:=
  ∀(Qv:Ry (RB×Obj)) (s:RD) (σ:St) (H:Hp) (vs:Ry V) (us:Ry RA) (Q:St->Hp->Prop),Inv X Qv σ H s->bQ vs us->t vs σ H Q->wpAny (model X.prog X.w) X.A (assignInOrder ((assignEach ts X.env).map (·.2)) us) (λ _ s'=>∃ σ' H',Inv X Qv σ' H' s'/\Q σ' H') X.xe s
abbrev O7:=V->V->V->Hp->(Hp->Prop)->Prop
def O8(X:Cx)(t:O7):Prop:=
  ∀(Qv:Ry (RB×Obj)) (s:RD) (σ:St) (H:Hp) (o i v:V) (ov iv u:RA) (Q:Hp->Prop),Inv X Qv σ H s->RelV o ov->RelV i iv->RelV v u->t o i v H Q->wpAny (model X.prog X.w) X.A (setItem ov iv u) (λ _ s'=>∃ H',Inv X Qv σ H' s'/\Q H') X.xe s
abbrev TIp:=V->V->Hp->VK->Prop
def PIp(X:Cx)(op:Operator)(t:TIp):Prop:=
  ∀(Qv:Ry (RB×Obj)) (s:RD) (σ:St) (H:Hp) (x y:V) (v u:RA) (Q:VK),Inv X Qv σ H s->RelV x v->RelV y u->t x y H Q->wpAny (model X.prog X.w) X.A (inplaceOp op v u) (EP X Qv σ Q) X.xe s
section
variable{X:Cx}{pos:Pos}
def xF(i:Nat):TG:=λ v σ H Q=>Q (σ.set i (some v)) H
theorem lU(hN:X.N.Nodup)(hi:X.N[i]?=some x)(hx:Loc X.env.scope x)(hf:X.fn x=true\/X.env.scope.names.lookup x=some .local:=by walk_at "v"):PG X (.Name x pos) (xF i):=by
 intro Qv s σ H v u Q I r h;exact wpAny_assign_Name (oV I hN hi hx r (λ s' I'=>⟨_,H,I',h⟩) hf)
def Qp:TGs:=λ vs σ H Q=>vs=[]/\Q σ H
def N3(t:TG)(u:TGs):TGs:=λ vs σ H Q=>∃ v r,vs=v::r/\t v σ H λ σ' H'=>u r σ' H' Q
theorem tJ:PGs X [] Qp:=by
 intro Qv s σ H vs us Q I r h;obtain⟨e,h⟩:=h;subst e;cases r;exact assignInOrder_nil ⟨σ,H,I,h⟩
theorem lr (h1:PG X e t) (h2:PGs X es u)
  (hs:(assignEach (e::es) X.env).map (·.2)=assign e X.env::(assignEach es X.env).map (·.2):=by rfl):PGs X (e::es) (N3 t u):=by
 intro Qv s σ H vs us Q I r h;obtain⟨v,vr,e1,h⟩:=h;subst e1
 cases r with
 |cons r rr=>
  rw[hs];refine assignInOrder_cons (thn (h1 Qv s σ H _ _ _ I r h) λ _ s1 w90=>?_);obtain⟨σ1,H1,I1,q1⟩:=w90;exact h2 Qv s1 σ1 H1 _ _ Q I1 rr q1
def Qn(K:RC)(n:Nat)(t:TGs):TG:=λ v σ H Q=>∃ a xs,v=.ref a/\SqT K H a xs/\xs.length=n/\t xs σ H Q
theorem zt (hc:X.calm=true) (h:PGs X es t)
  (hn:(assignEach es X.env).length=n:=by rfl) (hst:(assignEach es X.env).findIdx? (·.1)=none:=by rfl):PG X (.Tuple es k pos) (Qn X.K n t):=by
 intro Qv s σ H v u Q I r hw;obtain⟨a,xs,e1,hq,hl,hw⟩:=hw;subst e1;cases r;obtain⟨its,rv,ht,hz⟩:=I.tuple hq;refine assign_Tuple_tuple (I.ok.hd hc) ht (by simp[hn,<- hl,rv.length]) hst λ h' hx=>?_
 have I1:Inv X Qv σ H { s with heap:=h' }:=I.kept λ b o e=>hx b o (Zx (Zr e)) e
 exact h Qv _ σ H xs _ Q I1 (by simpa using rv) hw
def Qo(to ti:TE)(t:O7):TG:=λ v σ H Q=>to σ H λ o H1=>ti σ H1 λ i H2=>t o i v H2 λ H3=>Q σ H3
theorem JZ (ho:PE X o to) (hi:PE X i ti) (hs:O8 X t)
  (ha:∀ v,assign (.Subscript o i pos) X.env v=(do
    let ov <- holding [v] (eval o X.env)
    let iv <- holding [v,ov] (eval i X.env)
    standAt pos
    holding [v,ov,iv] (setItem ov iv v)
    release [v,ov,iv] []):=by intro _;rfl):PG X (.Subscript o i pos) (Qo to ti t):=by
 intro Qv s σ H v u Q I r h;rw[ha];refine Zc (Xg (thn (ho Qv s σ H _ I h) λ ov s1 w90=>?_));obtain⟨x,H1,I1,r1,q1⟩:=w90;refine Zc (Xg (thn (hi Qv s1 σ H1 _ I1 q1) λ iv s2 w90=>?_));obtain⟨y,H2,I2,r2,q2⟩:=w90;refine Zc (wpAny_standAt (Zc (Xg (thn (hs Qv s2 σ H2 x y v ov iv u _ I2 r1 r2 r q2) λ _ s3 w90=>?_))));obtain⟨H3,I3,q3⟩:=w90;exact wpAny_release ⟨σ,H3,I3,q3⟩
def MF(te:TE)(g:TG):TS:=λ D σ H=>te σ H λ x H1=>g x σ H1 D.nx
theorem EM (he:PE X e te) (hg:PG X tg g) (hs:swapsWithSole [tg] e pos.line X.env=pure false:=by rfl) (hw:swappedStores [tg] e X.env=pure none:=by rfl)
  (h1:(assignEach [tg] X.env).map (·.2)=[assign tg X.env]:=by rfl):PS X (.Assign [tg] e pos) (MF te g):=by
 intro Qv s σ H D I h;refine wpAny_Assign_stores (thn (he Qv s σ H _ I h) λ v s1 ⟨x,H1,I1,r1,q1⟩=>?_) hs hw;rw[h1];exact thn (hg Qv s1 σ H1 x v _ I1 r1 q1) λ _ s2 q=>q
theorem qA{i}{x}{e}{te}{pos'}(hN:X.N.Nodup)(hi:X.N[i]?=some x)(hx:Loc X.env.scope x)(he:PE X e te)(hs:swapsWith e (some (.Name x pos')) pos.line X.env=pure false:=by rfl)(hf:X.fn x=true\/X.env.scope.names.lookup x=some .local:=by walk_at "v"):PS X (.Assign [.Name x pos'] e pos) (MF te (xF i)):=by
 intro Qv s σ H D I h;refine wpAny_Assign_Name (thn (he Qv s σ H _ I h) λ v s1 ⟨y,H1,I1,r1,q1⟩=>?_) hs;exact oV I1 hN hi hx r1 (λ s2 I2=>⟨_,H1,I2,q1⟩) hf
def Py(i:Nat)(te:TE)(ti:TIp):TS:=λ D σ H=>∃ x,σ[i]?=some (some x)/\te σ H λ y H1=>ti x y H1 λ z H2=>D.nx (σ.set i (some z)) H2
theorem JV(hN:X.N.Nodup)(hi:X.N[i]?=some x)(hx:Loc X.env.scope x)(he:PE X e te)(ho:PIp X op ti)(hf:X.fn x=true\/X.env.scope.names.lookup x=some .local:=by walk_at "v"):PS X (.AugAssign (.Name x pos') op e pos) (Py i te ti):=by
 intro Qv s σ H D I h;obtain⟨v,e1,h⟩:=h;obtain⟨m,hn,hl⟩:=I.loc;have vis:Vis X.env.scope x:=by rcases hx with k|k;exact .inl k;exact .inr (.inl k)
 obtain⟨u,r,l⟩:=hl i x v hi e1 vis;refine wpAny_AugAssign_Name ?_
 have go:wpAny (model X.prog X.w) X.A (eval e X.env) (λ w s₂=>wpAny (model X.prog X.w) X.A (inplaceOp op u w) (λ r s₃=>wpAny (model X.prog X.w) X.A (storeName X.env x r) (λ _=>SP X Qv D .next) X.xe s₃) X.xe s₂) X.xe s:=by
  refine thn (he Qv s σ H _ I h) λ w s1 w90=>?_
  obtain⟨y,H1,I1,r1,q1⟩:=w90;refine thn (ho Qv s1 σ H1 v y u w _ I1 r r1 q1) λ z s2 w90=>?_
  obtain⟨zv,H2,I2,r2,q2⟩:=w90;exact oV I2 hN hi hx r2 (λ s3 I3=>⟨_,H2,I3,q2⟩) hf
 rcases l with ⟨hk,hm⟩|⟨hk,c,hc,hcell⟩
 · exact wpAny_loadName_local I.ok.kind hk hn hm go
 ·rcases hk with hk | hk
  · exact wpAny_loadName_cell I.ok.kind hk hc hcell go
  ·rcases hx with k | k
   ·have:X.env.scope.names.lookup x=some .free:=hk
    rw[k]at this;cases this
   ·have:X.env.scope.names.lookup x=some .free:=hk
    rw[k]at this;cases this
def ipI(f:Int->Int->Int):TIp:=λ x y H Q=>∃ i j,x=.int i/\y=.int j/\Q (.int (f i j)) H
theorem vK:PIp X .Add (ipI λ i j=>i+j):=by
 intro Qv s σ H x y v u Q I r1 r2 h;obtain⟨i,j,e1,e2,q⟩:=h;subst e1;subst e2
 obtain⟨t,rfl⟩:=r1;obtain⟨t',rfl⟩:=r2;exact iadd_int ⟨.int _,H,I.tok _,⟨_,rfl⟩,q⟩
noncomputable def Jo(c:TT)(tb:TS):TS:=λ D σ H=>∃ W:Nat->St->Hp->Prop,(∃ m,W m σ H)/\∀ m σ H,W m σ H->c σ H λ b H1=>if b=true then ∃ N:St->Hp->Prop,(∀ σ' H',N σ' H'->∃ m',m'<m/\W m' σ' H')/\tb { D with nx:=N,ct:=N,bk:=D.nx } σ H1 else D.nx σ H1
theorem CY(hp:PassesOwn (model X.prog X.w) X.A X.env X.xe)(hc:PT X c tc)(hb:PSs X body tb):PS X (.While c body [] pos) (Jo tc tb):=by
 intro Qv s σ H D I h;obtain⟨W,⟨m0,w0⟩,turn⟩:=h;refine wpAny_While (codeAny_whileLoop (λ n s'=>∃ σ' H',Inv X Qv σ' H' s'/\W n σ' H') ?_ m0 ⟨σ,H,I,w0⟩)
 rintro n s1 ⟨σ1,H1,I1,w1⟩
 refine X3 hp (thn (hc Qv s1 σ1 H1 _ I1 (turn n σ1 H1 w1)) λ b s2 w90=>?_);obtain⟨H2,I2,q2⟩:=w90
 cases b with
 |true=>
  obtain⟨N,hN,q2⟩:=q2;rw[if_pos rfl];refine X3 hp (thn (hb Qv s2 σ1 H2 _ I2 q2) λ f s3 q3=>?_)
  cases f with
  |next=>
   obtain⟨σ3,H3,I3,n3⟩:=q3;obtain⟨m',hm,w3⟩:=hN σ3 H3 n3;exact⟨m',hm,σ3,H3,I3,w3⟩
  |cont=>
   obtain⟨σ3,H3,I3,n3⟩:=q3;obtain⟨m',hm,w3⟩:=hN σ3 H3 n3;exact⟨m',hm,σ3,H3,I3,w3⟩
  |brk=>exact q3
  |ret v=>exact q3
 |false=>
  rw[if_neg Zf];exact wpAny_execs_nil ⟨σ1,H2,I2,q2⟩
end
structure It where
 go:Nat->Hp->Prop
 yld:Nat->Hp->V->Hp->Prop
 stop:Nat->Hp->Prop
def sZ(X:Cx)(Qv:Ry (RB×Obj))(H:Hp)(b:RB):Prop:=
 H b=none/\b≠X.env.locals/\b ∉ X.fs/\(b ∈ X.ex\/X.s₀.heap.objs.size<=b)/\(∀ x c,X.env.cells.lookup x=some c->c≠b)/\∀ p ∈ X.pn++Qv,p.1≠b
theorem Inv.yt(I:Inv X Qv σ H s)(hb:s.heap.objs.size<=b)(hn:H' b=none):sZ X Qv H' b:=by
 refine⟨hn,Rv (Zt I.lt hb),I.P1 hb,.inr (Zu I.sz hb),λ x c e z=>?_,λ p hp z=>?_⟩
 ·obtain ⟨v,q⟩:=I.cell x c e
  exact absurd (Zt q.lt (by rw[z];exact hb)) (Y3 _)
 · exact absurd (Zt (Zr (I.pin p hp).1) (by rw[z];exact hb)) (Y3 _)
structure Turn (P:Program) (w:World) (K:W.Frag) (tg:Expr) (J:It) (fp:List Addr) (it:Addr) (tn:Nat->Heap->Prop):Prop where
 mem:it ∈ fp
 obj:∀ i h,tn i h->∀ b ∈ fp,∃ o,h.get? b=some o/\∀ v,o.data≠.cell v
 keep:∀ i h h',tn i h->(∀ b ∈ fp,∀ o,h.get? b=some o->h'.get? b=some o)->tn i h'
 item:∀(X:Cx),X.prog=P->X.w=w->X.K=K->X.calm=true->∀(i:Nat) (Qv:List (Addr×Obj)) (s:Shared) (σ:St) (H:Hp) (E:Value->Shared->Prop),Inv X Qv σ H s->(∀ b ∈ fp,sZ X Qv H b)->tn i s.heap->J.go i H->wpAny (model P w) X.A (pyNext (.ref it)) (λ r s1=>∃ u,r=some u/\wpAny (model P w) X.A (letOwnedTupleGo tg (.ref it) u) (λ _ s2=>∃ x H',Inv X Qv σ H' s2/\RelV x u/\J.yld i H x H'/\tn (i+1) s2.heap/\∀ b ∈ fp,H' b=none) E s1) E s
 done:∀(X:Cx),X.prog=P->X.w=w->X.K=K->X.calm=true->∀(i:Nat) (Qv:List (Addr×Obj)) (s:Shared) (σ:St) (H:Hp) (E:Value->Shared->Prop),Inv X Qv σ H s->(∀ b ∈ fp,sZ X Qv H b)->tn i s.heap->J.stop i H->wpAny (model P w) X.A (pyNext (.ref it)) (λ r s1=>r=none/\Inv X Qv σ H s1) E s
 self:∀(A:Around) (i:Nat) (s:Shared) (Q:Value->Shared->Prop) (E:Value->Shared->Prop),tn i s.heap->Q (.ref it) s->wpAny (model P w) A (pyIter (.ref it)) Q E s
abbrev TI:=St->Hp->(It->Hp->Prop)->Prop
def PIE(X:Cx)(Qv:Ry (RB×Obj))(σ:St)(tg:Expr)(R:It->Hp->Prop)(itv:RA)(s2:RD):Prop:=
 ∃(it:RB) (fp:Ry RB) (tn:Nat->Heap->Prop) (J:It) (H':Hp),itv=.ref it/\Inv X Qv σ H' s2/\Turn X.prog X.w X.K tg J fp it tn/\tn 0 s2.heap/\(∀ b ∈ fp,sZ X Qv H' b)/\R J H'
def PI(X:Cx)(tg iter:Expr)(wi:TI):Prop:=
  ∀(Qv:Ry (RB×Obj)) (s:RD) (σ:St) (H:Hp) (R:It->Hp->Prop),Inv X Qv σ H s->wi σ H R->wpAny (model X.prog X.w) X.A (eval iter X.env) (λ v s1=>wpAny (model X.prog X.w) X.A (pyIter v) (PIE X Qv σ tg R) X.xe s1) X.xe s
theorem A8 (ho:s.heap.get? it=some o) (hc:o.cls=.type n) (hd:o.data=.fields vs)
    (hn:["enumerate","zip","dict_itemiterator","dict_reverseitemiterator","odict_iterator","itertools.zip_longest","itertools.pairwise"].contains n=false) (hQ:Q () s):wpAny M A (letOwnedTupleGo tg (.ref it) u) Q E s:=by
  unfold letOwnedTupleGo
  cases tg <;> first
    |exact Zw hQ
    | (cases u <;> first
        |exact Zw hQ
        | (refine Zc (wpAny_load ho ?_)
           rw[hc,hd];show wpAny M A (if(["enumerate","zip","dict_itemiterator","dict_reverseitemiterator","odict_iterator","itertools.zip_longest","itertools.pairwise"].contains n&&vs[0]? == some (rawInt _))=true then _ else _) Q E s;rw[if_neg (by intro h;rw[hn,Bool.false_and]at h;cases h)]
           exact Zw hQ))
def Itl(K:RC)(a:RB):It:=
 ⟨λ i H=>∃ xs x,SqL K H a xs/\xs[i]?=some x,λ i H x H'=>H'=H/\∀ xs,SqL K H a xs->xs[i]?=some x,λ i H=>∃ xs,SqL K H a xs/\xs.length<=i⟩
def Itt(K:RC)(a:RB):It:=
 ⟨λ i H=>∃ xs x,SqT K H a xs/\xs[i]?=some x,λ i H x H'=>H'=H/\∀ xs,SqT K H a xs->xs[i]?=some x,λ i H=>∃ xs,SqT K H a xs/\xs.length<=i⟩
def Itr(lo:Int)(n:Nat):It:=⟨λ i _=>i<n,λ i H x H'=>H'=H/\x=.int (lo+i),λ i _=>n<=i⟩
theorem yB {P:Program} {w:World} {K:RC} {tg:Expr} (a it:RB):Turn P w K tg (Itl K a) [it] it (λ i h=>h.IsListIter it a i) where
 mem:=by simp
 obj:=λ i h st b hb=>by
  have e:b=it:=by simpa using hb
  subst e;obtain⟨o,e,c,d⟩:=st;exact⟨o,e,λ v z=>by rw[d]at z;cases z⟩
 keep:=λ i h h' st k=>st.at λ o e=>k it (by simp) o e
 item:=by
  intro X hP hw hK hc i Qv s σ H E I hf st hg;subst hP hw hK;obtain⟨xs,x,hq,hx⟩:=hg;obtain⟨its,rv,p,hz⟩:=I.list hq;obtain⟨u,hu,ru⟩:=rv.get hx;obtain⟨f0,f1,f2,f3,f4,f5⟩:=hf it (by simp);refine wpAny_pyNext_list_item st p.isList (by simpa using hu) λ h' st' sb=>?_
  have I1:=I.turned (t':=s.toks) (λ b o hb e=>(sb.2 b hb).trans e) f0 f1 f3 f4 f5;obtain⟨o,e,c,d⟩:=id st';exact⟨u,rfl,A8 e c d (by decide) ⟨x,H,I1,ru,⟨rfl,λ ys hy=>by rw[I.DB hy hq];exact hx⟩,st',λ b hb=>(hf b hb).1⟩⟩
 done:=by
  intro X hP hw hK hc i Qv s σ H E I hf st hg;subst hP hw hK;obtain⟨xs,hq,hx⟩:=hg;obtain⟨its,rv,p,hz⟩:=I.list hq;obtain⟨f0,f1,f2,f3,f4,f5⟩:=hf it (by simp);have hl:=rv.length;exact wpAny_pyNext_list_end (I.ok.hd hc) st p.isList (by simp;lia) λ h' eb=>⟨rfl,I.turned (t':=s.toks) (λ b o hb e=>eb b o hb e) f0 f1 f3 f4 f5⟩
 self:=λ _ _ _ _ _ st h=>wpAny_pyIter_listiter st h
theorem wW {P:Program} {w:World} {K:RC} {tg:Expr} (a it:RB):Turn P w K tg (Itt K a) [it] it (λ i h=>h.IsTupleIter it a i) where
 mem:=by simp
 obj:=λ i h st b hb=>by
  have e:b=it:=by simpa using hb
  subst e;obtain⟨o,e,c,d⟩:=st;exact⟨o,e,λ v z=>by rw[d]at z;cases z⟩
 keep:=λ i h h' st k=>st.at λ o e=>k it (by simp) o e
 item:=by
  intro X hP hw hK hc i Qv s σ H E I hf st hg;subst hP hw hK;obtain⟨xs,x,hq,hx⟩:=hg;obtain⟨its,rv,p,hz⟩:=I.tuple hq;obtain⟨u,hu,ru⟩:=rv.get hx;obtain⟨f0,f1,f2,f3,f4,f5⟩:=hf it (by simp);refine wpAny_pyNext_tuple_item st (p) (x:=u) (by simpa using hu) λ h' st' sb=>?_
  have I1:=I.turned (t':=s.toks) (λ b o hb e=>(sb.2 b hb).trans e) f0 f1 f3 f4 f5;obtain⟨o,e,c,d⟩:=id st';exact⟨u,rfl,A8 (s:={ s with heap:=h' }) e c d (by decide) ⟨x,H,I1,ru,⟨rfl,λ ys hy=>by rw[I.qf hy hq];exact hx⟩,st',λ b hb=>(hf b hb).1⟩⟩
 done:=by
  intro X hP hw hK hc i Qv s σ H E I hf st hg;subst hP hw hK;obtain⟨xs,hq,hx⟩:=hg;obtain⟨its,rv,p,hz⟩:=I.tuple hq;obtain⟨f0,f1,f2,f3,f4,f5⟩:=hf it (by simp);have hl:=rv.length;exact wpAny_pyNext_tuple_end (I.ok.hd hc) st (show s.heap.IsTuple a its.toArray from p) (by simp;lia) λ h' eb=>⟨rfl,I.turned (t':=s.toks) (λ b o hb e=>eb b o hb e) f0 f1 f3 f4 f5⟩
 self:=λ _ _ _ _ _ st h=>wpAny_pyIter_tupleiter st h
theorem wX {P:Program} {w:World} {K:RC} {tg:Expr} (it:RB) (lo:Int) (n:Nat):Turn P w K tg (Itr lo n) [it] it (λ i h=>IsRangeIter h it (lo+(i:Nat) * 1) ((n:Int) - (i:Nat)) 1) where
 mem:=by simp
 obj:=λ i h st b hb=>by
  have e:b=it:=by simpa using hb
  subst e
  exact⟨_,st,λ v z=>by
   have z':=z
   cases z'⟩
 keep:=λ i h h' st k=>k it (by simp) _ st
 item:=by
  intro X hP hw hK hc i Qv s σ H E I hf st hg;subst hP hw hK;obtain⟨f0,f1,f2,f3,f4,f5⟩:=hf it (by simp);have W:=Walks.range (prog:=X.prog) (w:=X.w) (I.ok.hd hc) it lo 1 n;refine W.item i s _ _ hg st λ v h' tk hv st' kk=>?_
  obtain⟨t,rfl⟩:=hv;have I1:Inv X Qv σ H { s with heap:=h',toks:=tk }:=I.turned (λ b o hb e=>kk b o (by simpa using hb) e) f0 f1 f3 f4 f5;refine⟨_,rfl,A8 st' rfl rfl (by decide) ⟨.int (lo+i),H,I1,⟨t,?_⟩,⟨rfl,rfl⟩,st',λ b hb=>(hf b hb).1⟩⟩;rw[Int.mul_one]
 done:=by
  intro X hP hw hK hc i Qv s σ H E I hf st hg;subst hP hw hK;obtain⟨f0,f1,f2,f3,f4,f5⟩:=hf it (by simp);exact wpAny_pyNext_range_end (I.ok.hd hc) st (by have:n<=i:=hg;lia) λ h' eb=>⟨rfl,I.turned (λ b o hb e=>eb b o hb e) f0 f1 f3 f4 f5⟩
 self:=λ _ _ _ _ _ st h=>wpAny_pyIter_rangeiter st h
section
variable{X:Cx}{tg:Expr}
def NX(K:RC)(tl:TE):TI:=λ σ H R=>tl σ H λ x H1=>∃ a,x=.ref a/\(∃ xs,SqL K H1 a xs)/\R (Itl K a) H1
def Qc(K:RC)(tl:TE):TI:=λ σ H R=>tl σ H λ x H1=>∃ a,x=.ref a/\(∃ xs,SqT K H1 a xs)/\R (Itt K a) H1
theorem zq{l}{tl:TE}(hl:PE X l tl):PI X tg l (NX X.K tl):=by
 intro Qv s σ H R I h;refine thn (hl Qv s σ H _ I h) λ v s1 w90=>?_
 obtain⟨x,H1,I1,r1,q1⟩:=w90;obtain⟨a,e,⟨xs,hq⟩,q⟩:=q1;subst e;cases r1;obtain⟨its,rv,p,hz⟩:=I1.list hq;refine wpAny_pyIter_list p.isList ?_
 refine⟨s1.heap.objs.size,[s1.heap.objs.size],_,_,H1,rfl,I1.kept (t':=s1.toks) λ b o e=>My _ e,yB a _,⟨_,QC _ rfl,rfl,rfl⟩,λ b hb=>?_,q⟩;have e:b=s1.heap.objs.size:=by simpa using hb
 subst e;exact I1.yt (Zo _) (I1.hok.fresh (Zo _))
theorem JX{l}{tl:TE}(hl:PE X l tl):PI X tg l (Qc X.K tl):=by
 intro Qv s σ H R I h;refine thn (hl Qv s σ H _ I h) λ v s1 w90=>?_
 obtain⟨x,H1,I1,r1,q1⟩:=w90;obtain⟨a,e,⟨xs,hq⟩,q⟩:=q1;subst e;cases r1;obtain⟨its,rv,p,hz⟩:=I1.tuple hq;refine wpAny_pyIter_tuple (show s1.heap.IsTuple a its.toArray from p) ?_
 refine⟨s1.heap.objs.size,[s1.heap.objs.size],_,_,H1,rfl,I1.kept λ b o e=>My _ e,wW a _,⟨_,QC _ rfl,rfl,rfl⟩,λ b hb=>?_,q⟩;have e:b=s1.heap.objs.size:=by simpa using hb
 subst e;exact I1.yt (Zo _) (I1.hok.fresh (Zo _))
theorem u9 {Qv} {σ:St} {H} {s} {R} {E} {lo hi} {t u v} {tk} (I:Inv X Qv σ H s) (h1:-(2 ^ 62)<=lo) (h2:lo < 2 ^ 62) (h3:-(2 ^ 62)<=hi) (h4:hi < 2 ^ 62)
  (q:R (Itr lo (hi - lo).toNat) H):wpAny (model X.prog X.w) X.A (pyIter (.ref s.heap.objs.size)) (PIE X Qv σ tg R) E { s with heap:=s.heap.push { cls:=.type "range",data:=.fields #[.int lo t,.int hi u,.int 1 v] },toks:=tk }:=by
 refine wpAny_pyIter_range (IsRange.new ..) (small_one h1 h2 h3 h4) ?_
 have I1:Inv X Qv σ H { s with heap:=s.heap.push { cls:=.type "range",data:=.fields #[.int lo t,.int hi u,.int 1 v] },toks:=tk }:=I.kept λ b o e=>My _ e
 refine⟨(s.heap.push { cls:=.type "range",data:=.fields #[.int lo t,.int hi u,.int 1 v] }).objs.size,[(s.heap.push { cls:=.type "range",data:=.fields #[.int lo t,.int hi u,.int 1 v] }).objs.size],_,_,H,rfl,
  I1.kept λ b o e=>My _ e,wX _ lo (hi - lo).toNat,?_,λ b hb=>?_,q⟩
 ·have e1:lo+((0:Nat):Int) * 1=lo:=by simp
  have e2:(((hi - lo).toNat:Nat):Int) - ((0:Nat):Int)=Builtin.Range.rangeSize lo hi 1:=by rw[rangeSize_one];split<;>lia
  rw[e1,e2];exact QC _ rfl
 ·have e:b=(s.heap.push { cls:=.type "range",data:=.fields #[.int lo t,.int hi u,.int 1 v] }).objs.size:=by simpa using hb
  subst e;exact I1.yt (Zo _) (I1.hok.fresh (Zo _))
def NW(ta:TA):TI:=λ σ H R=>ta σ H λ vs H1=>∃ j:Int,vs=[.int j]/\-(2 ^ 62)<=j/\j<2 ^ 62/\R (Itr 0 j.toNat) H1
def NV(ta:TA):TI:=λ σ H R=>ta σ H λ vs H1=>∃ i j:Int,vs=[.int i,.int j]/\(-(2 ^ 62)<=i/\i<2 ^ 62/\-(2 ^ 62)<=j/\j<2 ^ 62)/\R (Itr i (j - i).toNat) H1
theorem qC{a}{ta}{p pos}(hg:Gl X "range")(hm:X.mg "range"=none)(ha:PA X [a] ta)(hs:starEach [a] X.env=[(false,eval a X.env)]:=by rfl):PI X tg (.Call (.Name "range" p) [a] [] pos) (NW ta):=by
 intro Qv s σ H R I h;refine Call_ (mB I hg hm boot_range (Xq (thn (ha pos Qv s σ H _ I h) λ us s1 ⟨vs,H1,I1,r1,q1⟩=>?_) hs rfl));obtain⟨j,e,q1,q2,q⟩:=q1;subst e
 cases r1 with
 |cons r rr=>
  cases rr;obtain⟨t,rfl⟩:=r;exact call_range_1 (u9 I1 (by lia) (by lia) q1 q2 (by simpa using q))
theorem zp(hg:Gl X "range")(hm:X.mg "range"=none)(ha:PA X [a,b] ta)(hs:starEach [a,b] X.env=[(false,eval a X.env),(false,eval b X.env)]:=by rfl)(hs2:starEach [b] X.env=[(false,eval b X.env)]:=by rfl):PI X tg (.Call (.Name "range" p) [a,b] [] pos) (NV ta):=by
 intro Qv s σ H R I h;refine Call_ (mB I hg hm boot_range (Xq (thn (ha pos Qv s σ H _ I h) λ us s1 ⟨vs,H1,I1,r1,q1⟩=>?_) (by rw[hs,hs2]) (by rw[hs2];rfl)));obtain⟨i,j,e,⟨q1,q2,q3,q4⟩,q⟩:=q1;subst e
 cases r1 with
 |cons r rr=>
  cases rr with
  |cons r' rr=>
   cases rr;obtain⟨t,rfl⟩:=r;obtain⟨t',rfl⟩:=r';exact call_range_2 (u9 I1 q1 q2 q3 q4 q)
noncomputable def Pu(wi:TI)(g:TG)(tb:TS):TS:=λ D σ H=>wi σ H λ J H1=>∃ W:Nat->Nat->St->Hp->Prop,(∃ m,W 0 m σ H1)/\∀ i m σ H,W i m σ H->(J.stop i H/\D.nx σ H)\/(J.go i H/\∃ N:St->Hp->Prop,(∀ σ' H',N σ' H'->∃ m',m'<m/\W (i+1) m' σ' H')/\∀ x H',J.yld i H x H'->g x σ H' λ σ2 H2=>tb { D with nx:=N,ct:=N,bk:=D.nx } σ2 H2)
def ve(fp:Ry RB)(h:Heap):Ry (RB×Obj):=fp.filterMap λ b=>(h.get? b).map λ o=>(b,o)
theorem ic(hb:b ∈ fp)(e:h.get? b=some o):(b,o) ∈ ve fp h:=List.mem_filterMap.mpr ⟨b,hb,by rw[e];rfl⟩
theorem Ab(hp:p ∈ ve fp h):p.1 ∈ fp/\h.get? p.1=some p.2:=by
 obtain⟨b,hb,e⟩:=List.mem_filterMap.mp hp
 cases q:h.get? b with
 |none=>rw[q]at e;cases e
 |some o=>
  rw[q]at e;have e':(b,o)=p:=Zj e;subst e';exact⟨hb,q⟩
theorem Inv.pinned(I:Inv X Qv σ H s)(hf:∀ b ∈ fp,sZ X Qv H b)(ho:∀ b ∈ fp,∃ o,s.heap.get? b=some o/\∀ v,o.data≠.cell v):Inv X (Qv++ve fp s.heap) σ H s:=
 I.iN λ p hp=>(Zl.mp hp).elim (λ z=>I.pin p (Ze _ z)) λ z=>by
  obtain⟨hb,e⟩:=Ab z;obtain⟨f0,f1,f2,_⟩:=hf p.1 hb;obtain⟨o,e',d⟩:=ho p.1 hb;rw[e]at e';cases e'
  exact⟨e,f0,f1,f2,d⟩
def Inv.jd(I:Inv X (Qv++pl) σ H s):Inv X Qv σ H s:=I.iN λ p hp=>I.pin p (Ze _ (Zv _ hp))
theorem zi (hp:PassesOwn (model X.prog X.w) X.A X.env X.xe) (hc:X.calm=true) (hi:PI X tg iter wi) (hg:PG X tg g) (hb:PSs X body tb)
  (hs:∀ x,foldedSetIterable iter X.env x=pure x:=by intro _;rfl):PS X (.For tg iter body [] pos) (Pu wi g tb):=by
 intro Qv s σ H D I h;refine wpAny_For (thn (hi Qv s σ H _ I h) λ v s1 h1=>thn h1 λ itv s2 h2=>?_) hs;obtain⟨it,fp,tn,J,H2,e,I2,T,st2,f2,W,⟨m0,w0⟩,turn⟩:=h2;subst e;have stat:∀{H':Hp},(∀ b ∈ fp,H' b=none)->∀ b ∈ fp,sZ X Qv H' b:=λ hn b hb=>⟨hn b hb,(f2 b hb).2⟩
 refine codeAny_forLoop_any (λ n s'=>∃ i σ' H',Inv X Qv σ' H' s'/\tn i s'.heap/\(∀ b ∈ fp,H' b=none)/\W i n σ' H') ?_ m0 ⟨0,σ,H2,I2,st2,λ b hb=>(f2 b hb).1,w0⟩
 rintro n s3 ⟨i,σ3,H3,I3,st3,fr3,w3⟩
 rcases turn i n σ3 H3 w3 with ⟨stop,qn⟩|⟨go,N,hN,step⟩
 ·refine X3 hp (thn (T.done X rfl rfl rfl hc i Qv s3 σ3 H3 X.xe I3 (stat fr3) st3 stop) λ r s4 w90=>?_)
  obtain⟨hr,I4⟩:=w90;subst hr;exact wpAny_execs_nil ⟨σ3,H3,I4,qn⟩
 ·refine X3 hp (thn (T.item X rfl rfl rfl hc i Qv s3 σ3 H3 X.xe I3 (stat fr3) st3 go) λ r s4 w90=>?_)
  obtain⟨u,hr,h4⟩:=w90;subst hr;refine X3 hp (thn h4 λ _ s5 w90=>?_);obtain⟨x,H5,I5,r5,y5,st5,fr5⟩:=w90;have I5':=I5.pinned (stat fr5) (T.obj _ _ st5);refine X3 hp (thn (hg _ s5 σ3 H5 x u _ I5' r5 (step x H5 y5)) λ _ s6 w90=>?_);obtain⟨σ6,H6,I6,q6⟩:=w90;refine X3 hp (thn (hb _ s6 σ6 H6 _ I6 q6) λ f s7 q7=>?_)
  have again:∀{σ7:St} {H7:Hp},Inv X (Qv++ve fp s5.heap) σ7 H7 s7->N σ7 H7->∃ m,m<n/\∃ i σ' H',Inv X Qv σ' H' s7/\tn i s7.heap/\(∀ b ∈ fp,H' b=none)/\W i m σ' H':=λ{σ7 H7} I7 n7=>by
   obtain⟨m',hm,w7⟩:=hN σ7 H7 n7;refine⟨m',hm,i+1,σ7,H7,I7.jd,T.keep _ _ _ st5 λ b hb o e=>(I7.pin (b,o) (Ze _ (Ze _ (ic hb e)))).1,λ b hb=>?_,w7⟩;obtain⟨o,e,d⟩:=T.obj _ _ st5 b hb;exact(I7.pin (b,o) (Ze _ (Ze _ (ic hb e)))).2.1
  cases f with
  |next=>obtain⟨σ7,H7,I7,n7⟩:=q7;exact again I7 n7
  |cont=>obtain⟨σ7,H7,I7,n7⟩:=q7;exact again I7 n7
  |brk=>obtain⟨σ7,H7,I7,q7⟩:=q7;exact⟨σ7,H7,I7.jd,q7⟩
  |ret v=>obtain⟨x7,σ7,H7,I7,r7,q7⟩:=q7;exact⟨x7,σ7,H7,I7.jd,r7,q7⟩
end
abbrev R2:=V->V->Hp->VK->Prop
def OpR(X:Cx)(f:RA->RA->Sem RA)(r:R2):Prop:=
  ∀(Qv:Ry (RB×Obj)) (s:RD) (σ:St) (H:Hp) (x y:V) (v u:RA) (Q:VK),Inv X Qv σ H s->RelV x v->RelV y u->r x y H Q->wpAny (model X.prog X.w) X.A (f v u) (EP X Qv σ Q) X.xe s
def UnR(X:Cx)(f:RA->Sem RA)(r:V->Hp->VK->Prop):Prop:=
  ∀(Qv:Ry (RB×Obj)) (s:RD) (σ:St) (H:Hp) (x:V) (v:RA) (Q:VK),Inv X Qv σ H s->RelV x v->r x H Q->wpAny (model X.prog X.w) X.A (f v) (EP X Qv σ Q) X.xe s
def gf(X:Cx)(f:RA)(r:Ry V->Hp->VK->Prop):Prop:=
  ∀(Qv:Ry (RB×Obj)) (s:RD) (σ:St) (H:Hp) (xs:Ry V) (us:Ry RA) (Q:VK),Inv X Qv σ H s->bQ xs us->r xs H Q->wpAny (model X.prog X.w) X.A (call f us) (EP X Qv σ Q) X.xe s
def tOp(r:R2)(ta tb:TE):TE:=λ σ H Q=>ta σ H λ x H1=>tb σ H1 λ y H2=>r x y H2 Q
def tUn(r:V->Hp->VK->Prop)(ta:TE):TE:=λ σ H Q=>ta σ H λ x H1=>r x H1 Q
def rI(C:Int->Int->Prop)(g:Int->Int->V):R2:=λ x y H Q=>∃ i j,x=.int i/\y=.int j/\C i j/\Q (g i j) H
def rI0(g:Int->Int->V):R2:=λ x y H Q=>∃ i j,x=.int i/\y=.int j/\Q (g i j) H
def rU(g:Int->V):V->Hp->VK->Prop:=λ x H Q=>∃ i,x=.int i/\Q (g i) H
section
variable{X:Cx}{a b c:Expr}{ta tb tc:TE}{pos:Pos}
theorem Oq (ha:PE X a ta) (hb:PE X b tb) {Qv} {s} {σ:St} {H} {R:V->V->Hp->Prop} (I:Inv X Qv σ H s)
  (h:ta σ H λ x H1=>tb σ H1 λ y H2=>R x y H2) {Q} {f:RA->RA->Sem RA}
  (hf:∀ v u s2 x y H2,Inv X Qv σ H2 s2->RelV x v->RelV y u->R x y H2->wpAny (model X.prog X.w) X.A (f v u) Q X.xe s2):wpAny (model X.prog X.w) X.A (eval a X.env) (λ v s₁=>wpAny (model X.prog X.w) X.A (eval b X.env) (λ u s₂=>wpAny (model X.prog X.w) X.A (f v u) Q X.xe s₂) X.xe s₁) X.xe s:=by
 refine thn (ha Qv s σ H _ I h) λ v s1 w90=>?_
 obtain⟨x,H1,I1,r1,q1⟩:=w90;refine thn (hb Qv s1 σ H1 _ I1 q1) λ u s2 w90=>?_
 obtain⟨y,H2,I2,r2,q2⟩:=w90;exact hf v u s2 x y H2 I2 r1 r2 q2
theorem J2{op}{r:R2}(ho:OpR X (binaryOp op) r)(ha:PE X a ta)(hb:PE X b tb):PE X (.BinOp a op b pos) (tOp r ta tb):=by
 intro Qv s σ H Q I h;exact wpAny_BinOp (Oq ha hb I h λ v u s2 x y H2 I2 rx ry q=>ho Qv s2 σ H2 x y v u Q I2 rx ry q)
theorem MW(ho:UnR X (unaryOp op) r)(ha:PE X a ta):PE X (.UnaryOp op a pos) (tUn r ta):=by
 intro Qv s σ H Q I h;exact UnaryOp_ (thn (ha Qv s σ H _ I h) λ v s1 ⟨x,H1,I1,r1,q1⟩=>ho Qv s1 σ H1 x v Q I1 r1 q1)
theorem opI {f} {C} {g:Int->Int->Int}
  (rule:∀ i j t u s Q E,C i j->Q (.int (g i j) s.toks) { s with toks:=s.toks+1 }->wpAny (model X.prog X.w) X.A (f (.int i t) (.int j u)) Q E s):OpR X f (rI C λ i j=>.int (g i j)):=by
 intro Qv s σ H x y v u Q I rx ry h;obtain⟨i,j,rfl,rfl,hc,q⟩:=h;obtain⟨t,rfl⟩:=rx;obtain⟨t',rfl⟩:=ry;exact rule i j t t' s _ _ hc ⟨.int (g i j),H,I.tok _,⟨_,rfl⟩,q⟩
theorem OT {f} {g:Int->Int->Int}
  (rule:∀ i j t u s Q E,Q (.int (g i j) s.toks) { s with toks:=s.toks+1 }->wpAny (model X.prog X.w) X.A (f (.int i t) (.int j u)) Q E s):OpR X f (rI0 λ i j=>.int (g i j)):=by
 intro Qv s σ H x y v u Q I rx ry h;obtain⟨i,j,rfl,rfl,q⟩:=h;obtain⟨t,rfl⟩:=rx;obtain⟨t',rfl⟩:=ry;exact rule i j t t' s _ _ ⟨.int (g i j),H,I.tok _,⟨_,rfl⟩,q⟩
theorem M6 {f} {g:Int->Int->Bool}
  (rule:∀ i j t u s Q E,Q (.bool (g i j)) s->wpAny (model X.prog X.w) X.A (f (.int i t) (.int j u)) Q E s):OpR X f (rI0 λ i j=>.bl (g i j)):=by
 intro Qv s σ H x y v u Q I rx ry h;obtain⟨i,j,rfl,rfl,q⟩:=h;obtain⟨t,rfl⟩:=rx;obtain⟨t',rfl⟩:=ry;exact rule i j t t' s _ _ ⟨.bl (g i j),H,I,rfl,q⟩
def Ml(i j:Int):Prop:=0<=j/\j<=1000000/\i.natAbs<2 ^ 64
def FE(i j:Int):Prop:=(-(2 ^ 64)<i/\i<2 ^ 64)\/(-(2 ^ 64)<j/\j<2 ^ 64)
theorem FE.ok(h:FE i j):IntMulOk i j:=by
 rcases h with ⟨h1,h2⟩|⟨h1,h2⟩
 · exact .of_left (intBits_le_64 h1 h2)
 · exact .of_right (intBits_le_64 h1 h2)
def Ki:OpR X (binaryOp .Add) (rI0 λ i j=>.int (i+j)):=OT λ _ _ _ _ _ _ _ q=>add_int q
def Ka:OpR X (binaryOp .Sub) (rI0 λ i j=>.int (i - j)):=OT λ _ _ _ _ _ _ _ q=>sub_int q
theorem G1:OpR X (binaryOp .Mod) (rI (λ _ j=>j≠0) λ i j=>.int (i.fmod j)):=opI λ _ _ _ _ _ _ _ hc q=>mod_int' hc q
theorem Kb:OpR X (binaryOp .Pow) (rI Ml λ i j=>.int (i ^ j.toNat)):=opI λ _ _ _ _ _ _ _ hc q=>pow_int_small hc.1 hc.2.1 hc.2.2 q
theorem unI {f} {g:Int->Int}
  (rule:∀ i t s Q E,Q (.int (g i) s.toks) { s with toks:=s.toks+1 }->wpAny (model X.prog X.w) X.A (f (.int i t)) Q E s):UnR X f (rU λ i=>.int (g i)):=by
 intro Qv s σ H x v Q I rx h;obtain⟨i,rfl,q⟩:=h;obtain⟨t,rfl⟩:=rx;exact rule i t s _ _ ⟨.int (g i),H,I.tok _,⟨_,rfl⟩,q⟩
def Jf:UnR X (unaryOp .USub) (rU λ i=>.int (-i)):=unI λ _ _ _ _ _ q=>neg_int q
end
noncomputable def MJ:V->V->Bool
 |.non,.non=>true|.non,.int _=>true|.int _,.non=>true|.non,.bl _=>true|.bl _,.non=>true|.non,.str _=>true|.str _,.non=>true
 |.int _,.int _=>true|.bl _,.bl _=>true|.str _,.str _=>true|.byt _,.byt _=>true
 |.int _,.str _=>true|.str _,.int _=>true|.bl _,.str _=>true|.str _,.bl _=>true
 |_,_=>false
def rEq:R2:=λ x y H Q=>MJ x y=true/\Q (.bl (decide (x=y))) H
def rNe:R2:=λ x y H Q=>MJ x y=true/\Q (.bl (!decide (x=y))) H
def Bw:decide (V.int i=V.int j)=(i == j):=by
 rw[Xn];simp
def Fp:decide (V.bl i=V.bl j)=(i == j):=by
 rw[Xn];simp
def Bv:decide (V.str i=V.str j)=(i == j):=by
 rw[Xn];simp
theorem By:decide (V.byt i=V.byt j)=(i.toList == j.toList):=by
 rw[Xn];cases i;cases j;simp
section
variable{X:Cx}{a b c:Expr}{ta tb tc:TE}{pos:Pos}
theorem bq(I:Inv X Qv σ H s)(q:Q (.bl k) H)(e:k=k'):EP X Qv σ Q (.bool k') s:=by
 subst e;exact⟨.bl k,H,I,rfl,q⟩
theorem M5:OpR X (compareOp .Eq) rEq:=by
 intro Qv s σ H x y v u Q I rx ry h;obtain⟨hs,q⟩:=h
 cases x with
 |non=>
  cases rx
  cases y with
  |non=>cases ry;exact PySem.EqNone.eq_none_none (bq I q (by simp))
  |bl j=>cases ry;exact PySem.EqNone.eq_none_bool (bq I q (by simp))
  |int j=>obtain⟨t',rfl⟩:=ry;exact PySem.EqNone.eq_none_int (bq I q (by simp))
  |str j=>obtain⟨t',rfl⟩:=ry;exact PySem.EqNone.eq_none_str (bq I q (by simp))
  |_=>exact absurd (show false=true from hs) Zf
 |bl i=>
  cases rx
  cases y with
  |non=>cases ry;exact PySem.EqNone.eq_bool_none (bq I q (by simp))
  |bl j=>cases ry;exact eq_bool (bq I q Fp)
  |str j=>obtain⟨t',rfl⟩:=ry;exact PySem.EqMixed.eq_bool_str (bq I q (by simp))
  |_=>exact absurd (show false=true from hs) Zf
 |int i=>
  obtain⟨t,rfl⟩:=rx
  cases y with
  |non=>cases ry;exact PySem.EqNone.eq_int_none (bq I q (by simp))
  |int j=>obtain⟨t',rfl⟩:=ry;exact eq_int (bq I q Bw)
  |str j=>obtain⟨t',rfl⟩:=ry;exact PySem.EqMixed.eq_int_str (bq I q (by simp))
  |_=>exact absurd (show false=true from hs) Zf
 |str i=>
  obtain⟨t,rfl⟩:=rx
  cases y with
  |non=>cases ry;exact PySem.EqNone.eq_str_none (bq I q (by simp))
  |bl j=>cases ry;exact PySem.EqMixed.eq_str_bool (bq I q (by simp))
  |int j=>obtain⟨t',rfl⟩:=ry;exact PySem.EqMixed.eq_str_int (bq I q (by simp))
  |str j=>obtain⟨t',rfl⟩:=ry;exact eq_str (bq I q Bv)
  |_=>exact absurd (show false=true from hs) Zf
 |byt i=>
  obtain⟨t,rfl⟩:=rx
  cases y with
  |byt j=>obtain⟨t',rfl⟩:=ry;exact PySem.W.eq_bytes (bq I q By)
  |_=>exact absurd (show false=true from hs) Zf
 |_=>cases y<;>exact absurd (show false=true from hs) Zf
theorem MZ:OpR X (compareOp .NotEq) rNe:=by
 intro Qv s σ H x y v u Q I rx ry h;obtain⟨hs,q⟩:=h
 cases x with
 |non=>
  cases rx
  cases y with
  |non=>cases ry;exact PySem.EqNone.ne_none_none (bq I q (by simp))
  |bl j=>cases ry;exact PySem.EqNone.ne_none_bool (bq I q (by simp))
  |int j=>obtain⟨t',rfl⟩:=ry;exact PySem.EqNone.ne_none_int (bq I q (by simp))
  |str j=>obtain⟨t',rfl⟩:=ry;exact PySem.EqNone.ne_none_str (bq I q (by simp))
  |_=>exact absurd (show false=true from hs) Zf
 |bl i=>
  cases rx
  cases y with
  |non=>cases ry;exact PySem.EqNone.ne_bool_none (bq I q (by simp))
  |bl j=>cases ry;exact ne_bool (bq I q (Z6 not Fp))
  |str j=>obtain⟨t',rfl⟩:=ry;exact PySem.EqMixed.ne_bool_str (bq I q (by simp))
  |_=>exact absurd (show false=true from hs) Zf
 |int i=>
  obtain⟨t,rfl⟩:=rx
  cases y with
  |non=>cases ry;exact PySem.EqNone.ne_int_none (bq I q (by simp))
  |int j=>obtain⟨t',rfl⟩:=ry;exact ne_int (bq I q (Z6 not Bw))
  |str j=>obtain⟨t',rfl⟩:=ry;exact PySem.EqMixed.ne_int_str (bq I q (by simp))
  |_=>exact absurd (show false=true from hs) Zf
 |str i=>
  obtain⟨t,rfl⟩:=rx
  cases y with
  |non=>cases ry;exact PySem.EqNone.ne_str_none (bq I q (by simp))
  |bl j=>cases ry;exact PySem.EqMixed.ne_str_bool (bq I q (by simp))
  |int j=>obtain⟨t',rfl⟩:=ry;exact PySem.EqMixed.ne_str_int (bq I q (by simp))
  |str j=>obtain⟨t',rfl⟩:=ry;exact ne_str (bq I q (Z6 not Bv))
  |_=>exact absurd (show false=true from hs) Zf
 |byt i=>
  obtain⟨t,rfl⟩:=rx
  cases y with
  |byt j=>obtain⟨t',rfl⟩:=ry;exact PySem.W.ne_bytes (bq I q (Z6 not By))
  |_=>exact absurd (show false=true from hs) Zf
 |_=>cases y<;>exact absurd (show false=true from hs) Zf
def M0:OpR X (compareOp .Lt) (rI0 λ i j=>.bl (decide (i<j))):=M6 λ _ _ _ _ _ _ _ q=>lt_int q
def M3:OpR X (compareOp .LtE) (rI0 λ i j=>.bl (decide (i<=j))):=M6 λ _ _ _ _ _ _ _ q=>le_int q
def M4:OpR X (compareOp .Gt) (rI0 λ i j=>.bl (decide (j<i))):=M6 λ _ _ _ _ _ _ _ q=>gt_int q
theorem zL:OpR X (compareOp .Lt) (λ x y H Q=>∃ i j,x=.str i/\y=.str j/\Q (.bl (decide (i.cps.toList<j.cps.toList))) H):=by
 intro Qv s σ H x y v u Q I rx ry h;obtain⟨i,j,rfl,rfl,q⟩:=h;obtain⟨t,rfl⟩:=rx;obtain⟨t',rfl⟩:=ry;exact lt_str (bq I q rfl)
theorem Kf:OpR X (compareOp .Is) (λ x y H Q=>y=.non/\Q (.bl (decide (x=.non))) H):=by
 intro Qv s σ H x y v u Q I rx ry h;obtain⟨rfl,q⟩:=h;cases ry;refine is_none_gen (bq I q ?_)
 cases x <;> first
  |(cases rx;rfl)
  |(obtain⟨t,rfl⟩:=rx;rfl)
theorem GZ:OpR X (compareOp .IsNot) (λ x y H Q=>y=.non/\Q (.bl (!decide (x=.non))) H):=by
 intro Qv s σ H x y v u Q I rx ry h;obtain⟨rfl,q⟩:=h;cases ry;refine isnot_none_gen (bq I q ?_)
 cases x <;> first
  |(cases rx;rfl)
  |(obtain⟨t,rfl⟩:=rx;rfl)
theorem OpR.or(h:OpR X f r)(h':OpR X f r'):OpR X f (λ x y H Q=>r x y H Q\/r' x y H Q):=by
 intro Qv s σ H x y v u Q I rx ry q;rcases q with q|q
 · exact h Qv s σ H x y v u Q I rx ry q
 · exact h' Qv s σ H x y v u Q I rx ry q
theorem EY(b:Expr)(h:op≠.In:=by decide)(h2:op≠.NotIn:=by decide):behindInMarks op b=false:=by
 have e1:(op == CmpOp.In)=false:=by cases op<;>first|rfl|exact absurd rfl h
 have e2:(op == CmpOp.NotIn)=false:=by cases op<;>first|rfl|exact absurd rfl h2
 cases b<;>simp[behindInMarks,e1,e2]
theorem GR(ho:OpR X (compareOp op) r)(ha:PE X a ta)(hb:PE X b tb)(hm:behindInMarks op b=false):PE X (.Compare a [op] [b] pos) (tOp r ta tb):=by
 intro Qv s σ H Q I h;exact wpAny_Compare1 (Oq ha hb I h λ v u s2 x y H2 I2 rx ry q=>ho Qv s2 σ H2 x y v u Q I2 rx ry q) hm
def Jp(t:TE):TT:=λ σ H Q=>t σ H λ x H'=>∃ k,x=.bl k/\Q k H'
theorem GB(ho:OpR X (compareOp op) r)(ha:PE X a ta)(hb:PE X b tb)(hm:behindInMarks op b=false):PT X (.Compare a [op] [b] pos) (Jp (tOp r ta tb)):=by
 intro Qv s σ H Q I h
 refine wpAny_isTrue_Compare1 (thn (ha Qv s σ H _ I h) λ v s1 ⟨x,H1,I1,r1,q1⟩=>thn (hb Qv s1 σ H1 _ I1 q1) λ u s2 ⟨y,H2,I2,r2,q2⟩=>
  thn (ho Qv s2 σ H2 x y v u _ I2 r1 r2 q2) λ c s3 ⟨z,H3,I3,r3,k,e,q3⟩=>?_) hm
 subst e;cases r3;exact Yp ⟨H3,I3,q3⟩
def yG(r r':R2)(ta tb tc:TE):TE:=λ σ H Q=>ta σ H λ x H1=>tb σ H1 λ y H2=>r x y H2 λ z H3=>∃ k,z=.bl k/\(if k=true then tc σ H3 λ w' H4=>r' y w' H4 Q else Q (.bl false) H3)
theorem Dj (ho:OpR X (compareOp op) r) (ho':OpR X (compareOp op') r') (ha:PE X a ta) (hb:PE X b tb) (hc:PE X c tc)
  (hm:lastMarks [op,op'] [b,c]=false:=by with_unfolding_all rfl):PE X (.Compare a [op,op'] [b,c] pos) (yG r r' ta tb tc):=by
 intro Qv s σ H Q I h
 refine Compare_chain (thn (ha Qv s σ H _ I h) λ v s1 ⟨x,H1,I1,r1,q1⟩=>chain_link (thn (hb Qv s1 σ H1 _ I1 q1) λ u s2 ⟨y,H2,I2,r2,q2⟩=>
  thn (ho Qv s2 σ H2 x y v u _ I2 r1 r2 q2) λ d s3 ⟨z,H3,I3,r3,k,e,q3⟩=>?_)) hm
 subst e;cases r3;refine Yp ?_
 cases k with
 |false=>exact ite_ff ⟨.bl false,H3,I3,rfl,q3⟩
 |true=>exact ite_tt (chain_last (thn (hc Qv s3 σ H3 _ I3 q3) λ w' s4 ⟨z',H4,I4,r4,q4⟩=>ho' Qv s4 σ H4 y z' u w' Q I4 r2 r4 q4))
theorem CV (ho:OpR X (compareOp op) r) (ho':OpR X (compareOp op') r') (ha:PE X a ta) (hb:PE X b tb) (hc:PE X c tc)
  (hm:lastMarks [op,op'] [b,c]=false:=by with_unfolding_all rfl):PT X (.Compare a [op,op'] [b,c] pos) (Jp (yG r r' ta tb tc)):=by
 intro Qv s σ H Q I h
 refine isTrue_chain (thn (ha Qv s σ H _ I h) λ v s1 ⟨x,H1,I1,r1,q1⟩=>test_link (thn (hb Qv s1 σ H1 _ I1 q1) λ u s2 ⟨y,H2,I2,r2,q2⟩=>
  thn (ho Qv s2 σ H2 x y v u _ I2 r1 r2 q2) λ d s3 ⟨z,H3,I3,r3,k,e,q3⟩=>?_)) hm
 subst e;cases r3;refine Yp ?_
 cases k with
 |false=>
  obtain⟨k',e',q'⟩:=q3;cases e';exact ite_ff ⟨H3,I3,q'⟩
 |true=>
  refine ite_tt (test_last (thn (hc Qv s3 σ H3 _ I3 q3) λ w' s4 ⟨z',H4,I4,r4,q4⟩=>thn (ho' Qv s4 σ H4 y z' u w' _ I4 r2 r4 q4) λ d' s5 w90=>?_));obtain⟨z2,H5,I5,r5,k2,e2,q5⟩:=w90;subst e2;cases r5;exact Yp ⟨H5,I5,q5⟩
def q8:(sizeLine:Nat)<2 ^ 63:=by rw[Yj];decide
theorem xj:OpR X (binaryOp .Add) (λ x y H Q=>∃ i j,x=.str i/\y=.str j/\i.length+j.length<=sizeLine/\Q (.str (i++j)) H):=by
 intro Qv s σ H x y v u Q I rx ry h;obtain⟨i,j,rfl,rfl,hz,q⟩:=h;obtain⟨t,rfl⟩:=rx;obtain⟨t',rfl⟩:=ry;exact add_str (λ t' tk=>⟨.str (i++j),H,I.tok _,⟨_,rfl⟩,q⟩) hz
theorem vals1(r:bQ [x] us):∃ u,us=[u]/\RelV x u:=by
 cases r with
 |cons r1 r2=>cases r2;exact⟨_,rfl,r1⟩
theorem vals2(r:bQ [x,y] us):∃ u w',us=[u,w']/\RelV x u/\RelV y w':=by
 cases r with
 |cons r1 r2=>
  cases r2 with
  |cons r3 r4=>cases r4;exact⟨_,_,rfl,r1,r3⟩
def Qt(K:RC)(x:V)(H:Hp)(n:Nat):Prop:=
 match x with
 |.str y=>y.length<=sizeLine/\n=y.length
 |.byt y=>y.size<=sizeLine/\n=y.size
 |.ref p=>(∃ xs,SqL K H p xs/\n=xs.length)\/∃ xs,SqT K H p xs/\n=xs.length
 |_=>False
theorem Ed:gf X (.builtin "len") (λ xs H Q=>∃ x n,xs=[x]/\Qt X.K x H n/\Q (.int n) H):=by
 intro Qv s σ H xs us Q I r h;obtain⟨x,n,rfl,e,q⟩:=h;obtain⟨u,rfl,rx⟩:=vals1 r;have hl:=q8;have hs:sizeLine=16777216:=Yj
 cases x with
 |str y=>
  obtain⟨t,rfl⟩:=rx;obtain⟨hy,e'⟩:y.length<=sizeLine/\n=y.length:=e;subst e';exact len_str (by omega) ⟨.int _,H,I.tok _,⟨_,rfl⟩,q⟩
 |byt y=>
  obtain⟨t,rfl⟩:=rx;obtain⟨hy,e'⟩:y.size<=sizeLine/\n=y.size:=e;subst e';exact PySem.W.len_bytes (by omega) ⟨.int _,H,I.tok _,⟨_,rfl⟩,q⟩
 |ref p=>
  cases rx;have e':(∃ xs,SqL X.K H p xs/\n=xs.length)\/∃ xs,SqT X.K H p xs/\n=xs.length:=e
  rcases e' with ⟨xs,hx,e'⟩|⟨xs,hx,e'⟩
  ·subst e'
   obtain⟨its,r',pl,hz⟩:=I.list hx;have hlen:=r'.length;exact Calls.call_len_list pl.isList (by simp only[Zs];omega) ⟨.int xs.length,H,I.tok _,⟨_,by simp only[Zs];rw[hlen]⟩,q⟩
  ·subst e'
   obtain⟨its,r',pl,hz⟩:=I.tuple hx;have hlen:=r'.length;exact len_tuple pl (by simp only[Zs];omega) ⟨.int xs.length,H,I.tok _,⟨_,by simp only[Zs];rw[hlen]⟩,q⟩
 |_=>exact(show False from e).elim
end
structure Iz (h:Heap) (x dx C:Addr) (mA:Str->Option Value):Prop where
 obj:h.get? x=some (PySem.W.instObj C dx)
 ns:h.Ns1 dx mA
 ne:dx≠x
theorem AB{h:Heap}{dx}{mA}(n:h.Ns1 dx mA):∃ od,h.get? dx=some od/\∀ name,PySem.W.lookIn name od=some (mA name):=by
 obtain⟨o,es,ep,ho,hd,hk,_,hm⟩:=n;refine⟨o,ho,λ name=>?_⟩;have e:=hm name;unfold nsFind findBy at e;rw[<- Array.find?_toList]at e;unfold PySem.W.lookIn;rw[hd];dsimp only;split
 ·rename_i y q
  rw[q]at e;exact Z6 some e
 ·rename_i q
  rw[q]at e
  have a:es.toList.any (·.refKey)=false:=by
   rw[List.any_eq_false];intro y hy;obtain⟨z,t,hkey⟩:=hk y (Array.mem_toList_iff.mp hy);simp[DictEntry.refKey,hkey]
  have a':¬ es.toList.any (·.refKey)=true:=by rw[a];exact Zf
  rw[if_neg a'];exact Z6 some e
theorem Iz.look(I:Iz h x dx C mA):∃ od,PySem.W.InstAt h x (PySem.W.instObj C dx) C (some od)/\∀ name,PySem.W.lookIn name od=some (mA name):=
 let ⟨od,ho,hl⟩:=AB I.ns
 ⟨od,⟨I.obj,rfl,rfl,ho⟩,hl⟩
section
variable{prog:Program}{w:World}{A:Around}{E:RA->RD->Prop}{s:RD}{K:RC}{x dx C f:RB}{mA:Str->Rz RA}{name:Str}{v:RA}
theorem get_map (X:K.In s.heap) (I:Iz s.heap x dx C mA) (hg:PySem.W.plainGet K C name=true) (hh:PySem.W.hasDictIn K C=true)
  (ha:W.findIn K (.ref C) name=some none) (hv:mA name=some v) (hv':PySem.W.handedIn v=true) (h:Q v { s with toks:=s.toks+1 }):wpAny (model prog w) A (getAttr (.ref x) name expr) Q E s:=by
 obtain⟨od,J,hl⟩:=I.look;exact PySem.W.get_value X J (Ro hg).1 (PySem.W.findObj_own hh ha rfl (by rw[hl,hv])) hv' h
theorem DW (X:K.In s.heap) (I:Iz s.heap x dx C mA) (hg:PySem.W.plainGet K C name=true)
  (hf:W.findIn K (.ref C) name=some (some (.ref f))) (ht:PySem.W.isFn K (.ref f)=true) (hv:mA name=none) (h:Q (.ref f,[.ref x]) s):wpAny (model prog w) A (getMethod (.ref x) name pl) Q E s:=by
 obtain⟨od,J,hl⟩:=I.look;exact PySem.W.method_fn X J (Ro hg).1 (Ro hg).2 hf (beq_iff_eq.mp ht) (by show(PySem.W.lookIn name od).map (·.isSome)=some false;rw[hl,hv];rfl) h
theorem F6 (X:K.In s.heap) (I:Iz s.heap x dx C mA)
  (hs:W.findIn K (.ref C) "__setattr__"=some (some (.builtin "object.__setattr__"))) (hp:PySem.W.plainOver K C=true) (ht:PySem.W.takerIn K C name=some none) (hh:PySem.W.hasDictIn K C=true)
  (hw:PySem.Within mA ns) (hsz:ns.length<=sizeLine)
  (h:∀ h',Iz h' x dx C (λ y=>if y=name then some v else mA y)->Heap.SameBut dx s.heap h'->Q () { s with heap:=h',toks:=s.toks+2 }):wpAny (model prog w) A (setAttr (.ref x) name v) Q E s:=by
 obtain⟨od,J,hl⟩:=I.look;refine PySem.W.set_plain X J hs (PySem.W.osa_open X J hp ht λ b=>?_);obtain⟨cd,hc,hd'⟩:=PySem.W.any_some hh;have hx:s.heap.get? x=some ⟨.ref C,some dx,.plain,#[]⟩:=I.obj;refine Zc (Zw (Zc (Zc (wpAny_loadPart hx (Zc (PySem.W.Looks.here (s:={ s with toks:=s.toks+1 }) (PySem.W.looks_clsIn X hc) ?_))))));rw[hd'];refine Zw (Zc (Zw (Zc ?_)));refine wpAny_nsSet1 (s:={ s with toks:=s.toks+1 }) I.ns λ h' hn2 hs2=>?_
 obtain⟨oD,esD,epD,hoD,hdD,hcD⟩:=hn2.count (PySem.Within.cons name v hw);refine Zc (wpAny_lookBehind hoD (by rw[hdD];exact pastItsLine_dict (Zu hcD (by rw[Z2];lia))) ?_);exact Zw (h _ ⟨(hs2.2 _ (QH I.ne)).trans I.obj,hn2,I.ne⟩ hs2)
theorem Dy (X:K.In s.heap) (hm:PySem.W.makesIn K C=true)
  (hi:W.findIn K (.ref C) "__init__"=some (some (.ref f))) (hf:PySem.W.typeIn K (.ref f)=some (.type "function"))
  (h : codeAny (model prog w) (A.under (.builtin "type.__call__" ⟨.ref C::vs,kw⟩)) (.call (.ref f) ⟨.ref (s.heap.objs.size+1)::vs,kw⟩) (PySem.W.InitBack (s.heap.objs.size+1) R)
    { s with heap:=(s.heap.push PySem.W.emptyDict).push (PySem.W.instObj C s.heap.objs.size) }):codeAny (model prog w) A (.call (.ref C) ⟨vs,kw⟩) R s:=by
 obtain⟨hh,g,d,t,os⟩:=s;exact PySem.W.make_core (PySem.W.makes_of X hm) (PySem.W.looks_findIn X hi) (λ self=>PySem.W.bind_fn X self hf) (.inl rfl) h
end
def nB (f:Str) (v:V):Ry (Str×V)->Ry (Str×V)
 |[]=>[(f,v)]
 |(g,x)::r=>if g=f then(g,v)::r else(g,x)::nB f v r
theorem mo (f g:Str) (v:V):∀ fs:Ry (Str×V),(nB f v fs).lookup g=if g=f then some v else fs.lookup g
 |[]=>by
  show List.lookup g [(f,v)]=_
  by_cases h:g=f
  ·have hb:(g == f)=true:=beq_iff_eq.mpr h
   simp only[List.lookup,hb,if_pos h]
  ·have hb:(g == f)=false:=Yk.mpr h
   simp only[List.lookup,hb,if_neg h]
 |(k,x)::r=>by
  have ih:=mo f g v r;rw[show nB f v ((k,x)::r)=(if k=f then(k,v)::r else(k,x)::nB f v r) from rfl]
  by_cases hk:k=f
  ·rw [if_pos hk]
   by_cases h:g=k
   ·have hb:(g == k)=true:=beq_iff_eq.mpr h
    simp only[List.lookup,hb,if_pos (h.trans hk)]
   ·have hb:(g == k)=false:=Yk.mpr h
    simp only[List.lookup,hb,if_neg (λ e:g=f=>h (e.trans hk.symm))]
  ·rw [if_neg hk]
   by_cases h:g=k
   ·have hb:(g == k)=true:=beq_iff_eq.mpr h
    simp only[List.lookup,hb,if_neg (λ e:g=f=>hk (h.symm.trans e))]
   ·have hb:(g == k)=false:=Yk.mpr h
    simp only[List.lookup,hb];exact ih
theorem mC (f:Str) (v:V):∀ fs:Ry (Str×V),f ∈ (nB f v fs).map (·.1)/\∀ g,g ∈ fs.map (·.1)->g ∈ (nB f v fs).map (·.1)
 |[]=>⟨by simp[nB],λ g h=>by simp at h⟩
 |(k,x)::r=>by
  obtain⟨i1,i2⟩:=mC f v r;rw[show nB f v ((k,x)::r)=(if k=f then(k,v)::r else(k,x)::nB f v r) from rfl]
  by_cases hk:k=f
  ·rw [if_pos hk]
   subst hk;exact⟨by simp,λ g h=>by simpa using h⟩
  ·rw [if_neg hk]
   refine⟨?_,λ g h=>?_⟩
   ·rw [Zh]
    exact Zd _ i1
   ·rw [Zh] at h ⊢
    rcases Zi.mp h with e|e
    · exact Zi.mpr (.inl e)
    · exact Zd _ (i2 g e)
theorem mq (f:Str) (v:V):∀ fs:Ry (Str×V),(nB f v fs).length<=fs.length+1
 |[]=>by simp[nB]
 |(k,x)::r=>by
  have ih:=mq f v r;rw[show nB f v ((k,x)::r)=(if k=f then(k,v)::r else(k,x)::nB f v r) from rfl]
  by_cases hk:k=f
  · rw[if_pos hk,Z2,Z2];omega
  · rw[if_neg hk,Z2,Z2];omega
theorem p8.some_of(r:p8 (some v) o):∃ u,o=some u/\RelV v u:=by
 cases o with
 |none=>exact(show False from r).elim
 |some u=>exact⟨u,rfl,r⟩
theorem p8.none_of(r:p8 none o):o=none:=by
 cases o with
 |none=>rfl
 |some u=>exact(show False from r).elim
theorem A6(r:RelV v u):PySem.W.handedIn u=true:=by
 cases v with
 |non=>cases(r);rfl
 |bl b=>cases(r);rfl
 |int i=>obtain⟨t,e⟩:=(r);cases e;rfl
 |str x=>obtain⟨t,e⟩:=(r);cases e;rfl
 |byt b=>obtain⟨t,e⟩:=(show ∃ t,u=Value.bytes b t from r);cases e;rfl
 |flt b=>obtain⟨t,e⟩:=(show ∃ t,u=Value.float b t from r);cases e;rfl
 |ref a=>cases(r);rfl
 |ty n=>cases(r);rfl
section
variable{P:Program}{w:World}{H H':Hp}{h h':Heap}{a C dx:RB}{fs fs':Ry (Str×V)}
theorem pG(hok:HOk P w H h)(e:H a=some (.ins C dx fs)):∃ mA,Iz h a dx C mA/\(∀ f,p8 (fs.lookup f) (mA f))/\PySem.Within mA (fs.map (·.1))/\fs.length<=1000/\H dx=some (.own a):=by
 obtain⟨d,z,ne,ob,mA,n,r,q⟩:=(show dZ P w H h a (.ins C dx fs) from hok a _ e)
 exact⟨mA,⟨ob,n,ne⟩,r,q,z,d⟩
end
structure Cls (K:W.Frag) (C:Addr):Prop where
 pg:PySem.W.plainGet K C Str.empty=true
 hd:PySem.W.hasDictIn K C=true
 po:PySem.W.plainOver K C=true
 sa:W.findIn K (.ref C) "__setattr__"=some (some (.builtin "object.__setattr__"))
def Cls.get{K}{C}(c:Cls K C) f:PySem.W.plainGet K C f=true:=c.pg
def cT(K:RC)(C:RB)(f:Str):Prop:=W.findIn K (.ref C) f=some none
theorem cT.Mu{K}{C}{f}(n:cT K C f):PySem.W.takerIn K C f=some none:=by
 unfold PySem.W.takerIn;rw[show W.findIn K (.ref C) f=some none from n];rfl
structure FA (K:W.Frag) (C:Addr) (m:Str) (f:Addr):Prop where
 at_:W.findIn K (.ref C) m=some (some (.ref f))
 fn:PySem.W.isFn K (.ref f)=true
 kp:W.keepIn K (.ref f)=true
section
variable{X:Cx}{Qv:Ry (RB×Obj)}{σ:St}{H:Hp}{s:RD}{a C dx:RB}{fs:Ry (Str×V)}{f:Str}{v:V}{A:Around}{E:RA->RD->Prop}
theorem xE (I:Inv X Qv σ H s) (e:H a=some (.ins C dx fs)) (c:Cls X.K C) (n:cT X.K C f) (l:fs.lookup f=some v)
  (h:∀ u s',Inv X Qv σ H s'->RelV v u->Q u s'):wpAny (model X.prog X.w) A (getAttr (.ref a) f b) Q E s:=by
 obtain⟨mA,O,r,_,_,_⟩:=pG I.hok e;obtain⟨u,hu,ru⟩:=p8.some_of (v:=v) (o:=mA f) (by rw[<- l];exact r f);exact get_map I.kIn O (c.get f) c.hd n hu (A6 ru) (h u _ (I.tok _) ru)
theorem ot (I:Inv X Qv σ H s) (e:H a=some (.ins C dx fs)) (c:Cls X.K C) (k:FA X.K C m g) (l:fs.lookup m=none)
  (h:Q (.ref g,[.ref a]) s):wpAny (model X.prog X.w) A (getMethod (.ref a) m pl) Q E s:=by
 obtain⟨mA,O,r,_,_,_⟩:=pG I.hok e;have hn:mA m=none:=p8.none_of (by rw[<- l];exact r m);exact DW I.kIn O (c.get m) k.at_ k.fn hn h
theorem xf (I:Inv X Qv σ H s) (e:H a=some (.ins C dx fs)) (c:Cls X.K C) (n:cT X.K C f) (hl:fs.length < 1000) (ry:RelV y u)
  (h:∀ s',Inv X Qv σ (upd H a (.ins C dx (nB f y fs))) s'->Q () s'):wpAny (model X.prog X.w) A (setAttr (.ref a) f u) Q E s:=by
 obtain⟨mA,O,r,wi,_,ho⟩:=pG I.hok e;have hz:(fs.map (·.1)).length<=sizeLine:=by rw[Za,Yj];lia
 refine F6 I.kIn O c.sa c.po n.Mu c.hd wi hz λ h' O' sb=>h _ ?_
 have hd:∃ o,h'.get? dx=some o:=let ⟨o,_,_,e',_⟩:=O'.ns;⟨o,e'⟩
 refine I.write (by rw[e];exact True.intro) (.inr ho) (λ b q hb z=>(sb.2 b hb).trans z) hd ?_
 refine⟨by rw[ar O.ne];exact ho,?_,O.ne,O'.obj,_,O'.ns,λ g=>?_,λ g hg=>?_⟩
 · have:=mq f y fs;lia
 ·show p8 ((nB f y fs).lookup g) (if g=f then some u else mA g)
  rw[mo]
  by_cases q:g=f
  · rw[if_pos q,if_pos q];exact ry
  · rw[if_neg q,if_neg q];exact r g
 ·by_cases q:g=f
  · rw[q];exact(mC f y fs).1
  ·refine (mC f y fs).2 g (wi g λ z=>hg ?_)
   show(if g=f then some u else mA g)=none;rw[if_neg q];exact z
theorem Inv.made (I:Inv X Qv σ H s):Inv X Qv σ (upd (upd H s.heap.objs.size (.own (s.heap.objs.size+1))) (s.heap.objs.size+1) (.ins C s.heap.objs.size []))
  { s with heap:=(s.heap.push PySem.W.emptyDict).push (PySem.W.instObj C s.heap.objs.size) }:=by
 have e1:(s.heap.push PySem.W.emptyDict).get? s.heap.objs.size=some PySem.W.emptyDict:=QC s.heap rfl
 have e2:((s.heap.push PySem.W.emptyDict).push (PySem.W.instObj C s.heap.objs.size)).get? (s.heap.objs.size+1)=some (PySem.W.instObj C s.heap.objs.size):=by
  have:=QC (s.heap.push PySem.W.emptyDict) (o:=PySem.W.instObj C s.heap.objs.size) rfl
  rwa [Y8]at this
 have e3:(s.heap.push PySem.W.emptyDict).Ns s.heap.objs.size (λ _=>none):=⟨PySem.W.emptyDict,#[],_,e1,rfl,(λ e he=>absurd he (by simp)),λ _=>rfl⟩
 have I1:=I.laid (o:=.own (s.heap.objs.size+1)) (t':=s.toks) (λ b u q=>My _ q) (Zo _) ⟨_,e1⟩;refine I1.laid (t':=s.toks) (λ b u q=>My _ q) (Xr (Y8 _ _)) ?_
 have ne:s.heap.objs.size≠s.heap.objs.size+1:=Zx (Wo _);refine⟨by rw[ar ne,ay],Z0 _,ne,e2,λ _=>none,(Heap.Ns1.of_empty e3).at λ o q=>My _ q,λ _=>True.intro,λ y hy=>absurd rfl hy⟩
theorem Iq (hb:attributeBase e f env (eval e env)=eval e env)
  (h:wpAny (model prog w) A (eval e env) (λ o s₁=>wpAny (model prog w) A (getAttr o f true) Q E s₁) E s):wpAny (model prog w) A (eval (.Attribute e f pos) env) Q E s:=
 Attribute_any_ h (by rw[arm_eval_Attribute,hb])
end
def Pw(K:RC)(ta:TE)(f:Str):TE:=λ σ H Q=>ta σ H λ x H1=>∃ a C dx fs v,x=.ref a/\H1 a=some (.ins C dx fs)/\Cls K C/\cT K C f/\fs.lookup f=some v/\Q v H1
def PF(K:RC)(ta tv:TE)(f:Str):TS:=λ D σ H=>tv σ H λ y H1=>ta σ H1 λ x H2=>∃ a C dx fs,x=.ref a/\H2 a=some (.ins C dx fs)/\Cls K C/\cT K C f/\fs.length<1000/\D.nx σ (upd H2 a (.ins C dx (nB f y fs)))
section
variable{X:Cx}{o e value:Expr}{f:Str}{pos pos' tpos:Pos}{ta tv:TE}
theorem ER(he:PE X e ta)(hb:attributeBase e f X.env (eval e X.env)=eval e X.env):PE X (.Attribute e f pos) (Pw X.K ta f):=by
 intro Qv s σ H Q I h;refine Iq hb (thn (he Qv s σ H _ I h) λ u s1 w90=>?_);obtain⟨x,H1,I1,rx,a,C,dx,fs,v,ex,ea,c,n,l,q⟩:=w90;subst ex;obtain rfl:u=Value.ref a:=rx;exact xE I1 ea c n l λ u' s2 I2 ru=>⟨v,H1,I2,ru,q⟩
theorem EL(ha:PE X o ta)(hv:PE X value tv)(hs:swapsWith value (some (.Attribute o f pos')) pos.line X.env=pure false):PS X (.Assign [.Attribute o f pos'] value pos) (PF X.K ta tv f):=by
 intro Qv s σ H D I h;refine plainObj_wpAny_Assign_Attribute (thn (hv Qv s σ H _ I h) λ u s1 ⟨y,H1,I1,ry,q⟩=>thn (ha Qv s1 σ H1 _ I1 q) λ ov s2 ⟨x,H2,I2,rx,a,C,dx,fs,ex,ea,c,n,l,q2⟩=>?_) hs;subst ex;obtain rfl:ov=Value.ref a:=rx;exact xf I2 ea c n l ry λ s3 I3=>⟨σ,_,I3,q2⟩
end
section
variable{X:Cx}{Qv:Ry (RB×Obj)}{σ:St}{H:Hp}{s:RD}{A:Around}{E:RA->RD->Prop}{Q:RA->RD->Prop}{c:RA}{b:Bool}
inductive yk (K:W.Frag) (H:Hp):V->Value->Prop where
 |non:yk K H .non (.type "NoneType")
 |bl (x:Bool):yk K H (.bl x) (.type "bool")
 |int (i:Int):yk K H (.int i) (.type "int")
 |str (x:Str):yk K H (.str x) (.type "str")
 |flt (x:UInt64):yk K H (.flt x) (.type "float")
 |lst {a:Addr} {xs:List V} (e:H a=some (.lst xs)):yk K H (.ref a) (.type "list")
 |frz {a:Addr} {o:Obj} {xs:List V} (e:H a=some (.frz o (.lst xs))):yk K H (.ref a) (.type "list")
 |tup {a:Addr} {xs:List V} (e:H a=some (.tup xs)):yk K H (.ref a) (.type "tuple")
 |dK {a:Addr} {kvs:List (Key×V)} (e:H a=some (.dK kvs)):yk K H (.ref a) (.type "dict")
 |dT {a:Addr} {kvs:List (List Key×V)} (e:H a=some (.dT kvs)):yk K H (.ref a) (.type "dict")
 | ins {a C dx:Addr} {fs:List (Str×V)} (e:H a=some (.ins C dx fs)) (cl:Cls K C) (ha:W.findIn K (.ref C) "__class__"=some (some (.builtin "object.__class__")))
  (hn:PySem.W.specialIn K (.builtin "object.__class__") "__get__"=some (some (.builtin "getset_descriptor.__get__"))) (htk:PySem.W.takesIn K (.builtin "object.__class__")=some true)
  (hm:PySem.W.mroIn K C (.type "object")=some true):yk K H (.ref a) (.ref C)
theorem AW(I:Inv X Qv σ H s)(rx:RelV x u)(ty:yk X.K H x t)(e:PySem.W.kitOne X.K t c=some b)(h:∀ tk,Q (.bool b) { s with toks:=tk }):wpAny (model X.prog X.w) A (call (.builtin "isinstance") [u,c]) Q E s:=by
 cases ty with
 |non=>cases(rx);exact Yv PySem.W.kitx_none I.kIn True.intro e (λ z=>nomatch z) h
 |bl y=>cases(rx);exact Yv PySem.W.kitx_bool I.kIn True.intro e (λ z=>nomatch z) h
 |int i=>obtain⟨t,q⟩:=(rx);cases q;exact Yv PySem.W.kitx_int I.kIn True.intro e (λ z=>nomatch z) h
 |str y=>obtain⟨t,q⟩:=(rx);cases q;exact Yv PySem.W.kitx_str I.kIn True.intro e (λ z=>nomatch z) h
 |flt y=>obtain⟨t,q⟩:=(rx);cases q;exact Yv PySem.W.kitx_float I.kIn True.intro e (λ z=>nomatch z) h
 |@lst a xs ea=>
  cases(show u=Value.ref a from rx);obtain⟨_,_,n,_,h1⟩:=(show dZ X.prog X.w H s.heap a (.lst xs) from I.hok a _ ea)
  exact Yv PySem.W.kitx_list I.kIn ⟨_,h1,rfl⟩ e (λ z=>nomatch z) h
 |@frz a ob xs ea=>
  cases(show u=Value.ref a from rx);obtain⟨_,_,_,n,_,h1⟩:=(show dZ X.prog X.w H s.heap a (.frz ob (.lst xs)) from I.hok a _ ea)
  exact Yv PySem.W.kitx_list I.kIn ⟨_,h1,rfl⟩ e (λ z=>nomatch z) h
 |@tup a xs ea=>
  cases(show u=Value.ref a from rx);obtain⟨_,_,_,p⟩:=(I.hok a _ ea)
  obtain⟨o,h1,h2,_⟩:=p;exact Yv PySem.W.kitx_tuple I.kIn ⟨o,h1,h2⟩ e (λ z=>nomatch z) h
 |@dK a kvs ea=>
  cases(show u=Value.ref a from rx);obtain⟨_,_,vs,_,p⟩:=(I.hok a _ ea)
  obtain⟨o,es,ep,h1,h2,_⟩:=p;exact Yv PySem.W.kitx_dict I.kIn ⟨o,h1,h2.1⟩ e (λ z=>nomatch z) h
 |@dT a kvs ea=>
  cases(show u=Value.ref a from rx);obtain⟨_,_,xs,_,o,es,ep,h1,h2,_⟩:=(I.hok a _ ea)
  exact Yv PySem.W.kitx_dict I.kIn ⟨o,h1,h2.1⟩ e (λ z=>nomatch z) h
 |@ins a C dx fs ea cl ha hn htk hm=>
  cases(show u=Value.ref a from rx);obtain⟨mA,O,_⟩:=pG I.hok ea;obtain⟨od,J,_⟩:=O.look;exact Yv (PySem.W.kitx_own (cl.get _) cl.hd ha hn htk hm) I.kIn J e (λ z=>nomatch z) h
end
structure cp (k:Nat) (A:Around):Prop where
 hd:A.handled=none
 dp:A.depth+3 * k+5<recursionLimit
 un:A.units+16 * k+200<cLine
theorem cp.mono(r:cp k A)(h:j<=k):cp j A:=⟨r.hd,by have:=r.dp;lia,by have:=r.un;lia⟩
theorem cp.deeper(r:cp (k+1) A)(env:Env):cp k (A.deeper env):=
 ⟨r.hd,by have:=r.dp;show A.depth+1+3 * k+5<_;lia,by have:=r.un;show A.units+3+16 * k+200<_;lia⟩
theorem cp.in1(r:cp (k+1) A):cp k A.in1:=
 ⟨r.hd,by have:=r.dp;show A.depth+3 * k+5<_;lia,by have:=r.un;show A.units+1+16 * k+200<_;lia⟩
theorem xB{A:Around}{C}{us}{kw}:(A.under (.builtin "type.__call__" ⟨.ref C::us,kw⟩)).depth=A.depth+1:=by
 first|rfl|simp[Around.under,Code.weight,Code.isCreation,Code.isGuard,Code.isCaller,Code.frames,Code.isFrame,guardIds]
theorem xA{A:Around}{C}{us}{kw}:(A.under (.builtin "type.__call__" ⟨.ref C::us,kw⟩)).units=A.units+1:=by
 first|rfl|simp[Around.under,Code.cUnits,Code.frames,Code.isFrame]
theorem cp.make(r:cp (k+1) A) C us kw:cp k (A.under (.builtin "type.__call__" ⟨.ref C::us,kw⟩)):=
 ⟨r.hd,by have:=r.dp;rw[xB];lia,by have:=r.un;rw[xA];lia⟩
def cp.depth(r:cp k A):A.depth<recursionLimit:=by have:=r.dp;lia
def cp.units(r:cp k A):A.units+64<cLine:=by have:=r.un;lia
def Jq:TA:=λ _ H Q=>Q [] H
def FV(ta:TE)(tr:TA):TA:=λ σ H Q=>ta σ H λ x H1=>tr σ H1 λ xs H2=>Q (x::xs) H2
section
variable{X:Cx}{e:Expr}{es:Ry Expr}{te:TE}{t:TA}{pos:Pos}
def dB:PA X [] Jq:=λ _ _ _ _ H Q I h=>Wk ⟨[],H,I,.nil,h⟩
theorem be(ha:PE X e te)(hr:PA X es t)(hs:Se X e es:=by rfl):PA X (e::es) (FV te t):=by
 intro pos Qv s σ H Q I h;rw[hs];show wpAny _ _ (spliced ((false,eval e X.env)::backTo pos (starEach es X.env))) _ _ s;refine Y5 (thn (ha Qv s σ H _ I h) λ u s1 w90=>?_);obtain⟨x,H1,I1,r1,q1⟩:=w90;exact thn (hr pos Qv s1 σ H1 _ I1 q1) λ us s2 ⟨xs,H2,I2,r2,q2⟩=>⟨x::xs,H2,I2,.cons r1 r2,q2⟩
def Ph(t:TA):TE:=λ σ H Q=>t σ H λ xs H1=>xs.length<=sizeLine/\∀ p,H1 p=none->Q (.ref p) (upd H1 p (.tup xs))
def Pp(t:TA):TE:=λ σ H Q=>t σ H λ xs H1=>xs.length<=sizeLine/\∀ p,H1 p=none->Q (.ref p) (upd H1 p (.lst xs))
theorem vg{x1}(h:PA X es t):PE X (.Tuple es x1 pos) (Ph t):=by
 intro Qv s σ H Q I hq;refine wpAny_Tuple_spliced (thn (h pos Qv s σ H _ I hq) λ us s1 ⟨xs,H1,I1,r,z,q⟩=>⟨by rw[<- r.length];exact z,?_⟩);have hf:H1 s1.heap.objs.size=none:=I1.hok.fresh (Zo _);refine⟨.ref s1.heap.objs.size,upd H1 s1.heap.objs.size (.tup xs),I1.laid (λ b u e=>My _ e) (Zo _) ?_,rfl,q _ hf⟩;exact⟨z,us,r,⟨_,QC _ rfl,rfl,_,rfl⟩⟩
theorem EN(h:PA X es t):PE X (.List es pos) (Pp t):=by
 intro Qv s σ H Q I hq;refine wpAny_List_spliced (thn (h pos Qv s σ H _ I hq) λ us s1 ⟨xs,H1,I1,r,z,q⟩=>⟨by rw[<- r.length];exact z,?_⟩);have hf:H1 s1.heap.objs.size=none:=I1.hok.fresh (Zo _);refine⟨.ref s1.heap.objs.size,upd H1 s1.heap.objs.size (.lst xs),I1.laid (λ b u e=>My _ e) (Zo _) ?_,rfl,q _ hf⟩;exact⟨z,us,0,r,QC _ rfl⟩
end
abbrev Sp:=Ry V->Hp->VK->XK->Prop
abbrev CXT:=Ry Env->Hp->RD->XK->RA->RD->Prop
structure Cj (P:Program) (w:World) (K:W.Frag) (mg:Str->Option Value) (base:Heap) (A:Around) (outer:List Env) (s:Shared) (H:Hp):Prop where
 frames:A.frames=some outer
 mod:Mod K mg base
 bs:∀ b o,base.get? b=some o->s.heap.get? b=some o/\H b=none
 bsz:base.objs.size<=s.heap.objs.size
 xG:s.heap.FunFrames base outer
 frf:∀ b ∈ frs outer,H b=none
 hok:HOk P w H s.heap
 bare:AllBare s.gens
def CE(outer:Ry Env)(P:Program)(w:World)(H:Hp)(s:RD)(Q:VK)(u:RA)(s':RD):Prop:=
 ∃ v H',s'.os=s.os/\AllBare s'.gens/\Un (frs outer) [] H H' s.heap s'.heap/\HOk P w H' s'.heap/\RelV v u/\Q v H'
def CR(CX:CXT)(outer:Ry Env)(P:Program)(w:World)(H:Hp)(s:RD)(Q:VK)(E:XK)(r:Result)(s':RD):Prop:=
 match r with
 |.ok (.ret u)=>CE outer P w H s Q u s'
 |.ok _=>False
 |.error e=>CX outer H s E e s'
structure ir (P:Program) (w:World) (K:W.Frag) (mg:Str->Option Value) (base:Heap) (CX:CXT) (k:Nat) (f:Addr) (fd:FuncData) (ps:List Str) (sp:Sp):Prop where
 len:∀ vs H Q E,sp vs H Q E->vs.length=ps.length
 run:∀(A:Around) (outer:List Env) (s:Shared) (H:Hp) (args:Args) (us:List Value) (vs:List V) (Q:VK) (E:XK),cp k A->Cj P w K mg base A outer s H->BindsTo s fd args (ps.zip us)->bQ vs us->sp vs H Q E->codeAny (model P w) A (.call (.ref f) args) (CR CX outer P w H s Q E) s
theorem ir.imp {P} {w} {K} {mg} {base} {CX} {k} {f} {fd} {ps} {sp sp'} (F:ir P w K mg base CX k f fd ps sp)
  (h:∀ vs H Q E,sp' vs H Q E->sp vs H Q E):ir P w K mg base CX k f fd ps sp':=
 ⟨λ vs H Q E q=>F.len vs H Q E (h _ _ _ _ q),λ A outer s H args us vs Q E hr he hb hv hs=>F.run A outer s H args us vs Q E hr he hb hv (h _ _ _ _ hs)⟩
theorem Cj.make {P} {w} {K} {mg} {base} {A} {outer} {s} {H} (e:Cj P w K mg base A outer s H) C us kw :
 Cj P w K mg base (A.under (.builtin "type.__call__" ⟨.ref C::us,kw⟩)) outer s H:=⟨by first|exact e.frames|(simpa [Around.under,Code.envs,Code.isFrame,pushEnvs] using e.frames),e.mod,e.bs,e.bsz,e.xG,e.frf,e.hok,e.bare⟩
section
variable{X:Cx}{Qv:Ry (RB×Obj)}{σ:St}{H:Hp}{s s':RD}
theorem Inv.O3(I:Inv X Qv σ H s):Cj X.prog X.w X.K X.mg X.base X.A X.stack s H:=
 ⟨I.ok.frames,I.ok.mod,I.bs,Zu I.ok.bsz I.sz,I.stack,I.oX,I.hok,I.bare⟩
theorem Inv.after(I:Inv X Qv σ H s)(h:CE X.stack X.prog X.w H s Q u s'):EP X Qv σ Q u s':=by
 obtain⟨v,H',os,bare,un,hok,r,q⟩:=h;obtain⟨hh,g,d,t,os'⟩:=s';obtain rfl:os'=s.os:=os;exact⟨v,H',I.call (h':=hh) (ch:=[]) un hok bare (λ b z=>absurd z (by simp)),r,q⟩
end
def Cy(sp:Sp)(dvs:Ry V)(E:XK)(t:TA):TE:=λ σ H Q=>t σ H λ vs H1=>sp (vs++dvs) H1 Q E
def FR(C:RB)(m:Str)(sp:Sp)(dvs:Ry V)(E:XK)(ta:TE)(t:TA):TE:=λ σ H Q=>ta σ H λ x H1=>∃ a dx fs,x=.ref a/\H1 a=some (.ins C dx fs)/\fs.lookup m=none/\t σ H1 λ vs H2=>sp (x::(vs++dvs)) H2 Q E
noncomputable def FT(C:RB)(sp:Sp)(dvs:Ry V)(E:XK)(t:TA):TE:=λ σ H Q=>t σ H λ vs H1=>∀ x dx,H1 x=none->H1 dx=none->dx≠x->sp (.ref x::(vs++dvs)) (upd (upd H1 dx (.own x)) x (.ins C dx [])) (λ v H2=>v=.non/\Q (.ref x) H2) E
def Binds(K:RC)(fd:FuncData)(ps:Ry Str)(ds:Ry RA):Prop:=
 ∀(s:RD) (us:Ry RA),K.In s.heap->(us++ds).length=ps.length->BindsTo s fd ⟨us,[]⟩ (ps.zip (us++ds))
theorem Binds.all{K}{fd}{ps}(h:∀ us,us.length=ps.length->bindArgs fd ⟨us,[]⟩=pure (ps.zip us)):Binds K fd ps []:=λ s us _ hl=>by
 rw[Zz]at hl ⊢;exact .of_eq (h us hl)
def jA(CX:CXT)(X:Cx)(E:XK):Prop:=∀(Qv:Ry (RB×Obj)) (σ:St) (H:Hp) (s:RD) (e:RA) (s':RD),Inv X Qv σ H s->CX X.stack H s E e s'->X.xe e s'
section
variable{X:Cx}{CX:CXT}{k:Nat}{f C:RB}{fd:FuncData}{ps:Ry Str}{sp:Sp}{dvs:Ry V}{ds:Ry RA}{E:XK}{x m:Str}{p pos Qw:Pos}{e o:Expr}{es:Ry Expr}{ta:TE}{t:TA}
theorem uV (F:ir X.prog X.w X.K X.mg X.base CX k f fd ps sp) (hr:cp k X.A) (hb:Binds X.K fd ps ds) (hd:bQ dvs ds) (hx:jA CX X E)
  (I:Inv X Qv σ H s) (r:bQ vs us) (h:sp (vs++dvs) H Q E):wpAny (model X.prog X.w) X.A (call (.ref f) us) (EP X Qv σ Q) X.xe s:=by
 have r2:=r.append hd;have hl:(us++ds).length=ps.length:=by rw[<- r2.length];exact F.len _ _ _ _ h
 refine wpAny_call (codeAny_mono (F.run X.A X.stack s H ⟨us,[]⟩ (us++ds) (vs++dvs) Q E hr I.O3 (hb s us I.kIn hl) r2 h) λ r s' hq=>?_)
 cases r with
 |error e=>exact hx Qv σ H s e s' I hq
 |ok fl=>
  cases fl with
  |ret u=>exact I.after hq
  |next=>exact False.elim hq
  |brk=>exact False.elim hq
  |cont=>exact False.elim hq
theorem iO (F:ir X.prog X.w X.K X.mg X.base CX k f fd ps sp) (hr:cp k X.A) (hg:Gl X x) (hm:X.mg x=some (.ref f)) (hk:W.keepIn X.K (.ref f)=true) (hb:Binds X.K fd ps ds) (hd:bQ dvs ds) (hx:jA CX X E)
  (ha:PA X (e::es) t) (hdb:Dg x:=by decide) (he:Se X e es:=by rfl) (hpl:Sb X pos es:=by rfl):PE X (.Call (.Name x p) (e::es) [] pos) (Cy sp dvs E t):=by
 intro Qv s σ H Q I h;refine Xb (mz I hg hm ?_ hdb);refine PySem.W.callWith_K (h₀:=X.base) I.ok.mod.kin hk (thn (ha pos Qv s σ H _ I h) λ us s1 ⟨vs,H1,I1,r,q⟩=>⟨I1.kIn,?_⟩) he hpl;exact uV F hr hb hd hx I1 r q
theorem Dk (F:ir X.prog X.w X.K X.mg X.base CX k f fd ps sp) (hr:cp k X.A) (hg:Gl X x) (hm:X.mg x=some (.ref f)) (hk:W.keepIn X.K (.ref f)=true) (hb:Binds X.K fd ps ds) (hd:bQ dvs ds) (hx:jA CX X E)
  (hdb:Dg x:=by decide):PE X (.Call (.Name x p) [] [] pos) (Cy sp dvs E Jq):=by
 intro Qv s σ H Q I h;refine Xb (mz I hg hm ?_ hdb);exact Rq I.kIn hk (uV (us:=[]) F hr hb hd hx I .nil h)
theorem zw (he:PE X o ta) (c:Cls X.K C) (hm:FA X.K C m f) (F:ir X.prog X.w X.K X.mg X.base CX k f fd ps sp) (hr:cp k X.A) (hb:Binds X.K fd ps ds) (hd:bQ dvs ds) (hx:jA CX X E) (ha:PA X (e::es) t)
  (hst:Se X e es:=by rfl) (hpl:Sb X pos es:=by rfl)
  (ht:eval (.Call (.Attribute o m Qw) (e::es) [] pos) X.env=(do
    let ov <- eval o X.env
    standAt Qw.atName
    let (f,first) <- holding [ov] (getMethod ov m pl)
    callWith pos f first (backTo pos (starEach (e::es) X.env)) (backToKw pos (keywordEach [] X.env))):=by rfl):PE X (.Call (.Attribute o m Qw) (e::es) [] pos) (FR C m sp dvs E ta t):=by
 intro Qv s σ H Q I h;refine PySem.W.methodCall_KW (thn (he Qv s σ H _ I h) λ u s1 ⟨x,H1,I1,rx,a,dx,fs,ex,ea,l,q⟩=>?_) ht;subst ex;obtain rfl:u=Value.ref a:=rx;refine ot I1 ea c hm l ?_
 refine PySem.W.callWith_K I.ok.mod.kin hm.kp (thn (ha pos Qv s1 σ H1 _ I1 q) λ us s2 ⟨vs,H2,I2,r,q2⟩=>⟨I2.kIn,?_⟩) hst hpl;exact uV (us:=.ref a::us) (vs:=.ref a::vs) F hr hb hd hx I2 (.cons rfl r) q2
theorem C6 (he:PE X o ta) (c:Cls X.K C) (hm:FA X.K C m f) (F:ir X.prog X.w X.K X.mg X.base CX k f fd ps sp) (hr:cp k X.A) (hb:Binds X.K fd ps ds) (hd:bQ dvs ds) (hx:jA CX X E)
  (ht:eval (.Call (.Attribute o m Qw) [] [] pos) X.env=(do
    let ov <- eval o X.env
    standAt Qw.atName
    let (f,first) <- holding [ov] (getMethod ov m pl)
    callWith pos f first (backTo pos (starEach [] X.env)) (backToKw pos (keywordEach [] X.env))):=by rfl):PE X (.Call (.Attribute o m Qw) [] [] pos) (FR C m sp dvs E ta Jq):=by
 intro Qv s σ H Q I h;refine PySem.W.methodCall_KW (thn (he Qv s σ H _ I h) λ u s1 ⟨x,H1,I1,rx,a,dx,fs,ex,ea,l,q⟩=>?_) ht;subst ex;obtain rfl:u=Value.ref a:=rx;refine ot I1 ea c hm l ?_
 exact Rq (first:=[.ref a]) I1.kIn hm.kp (uV (us:=[.ref a]) (vs:=[.ref a]) F hr hb hd hx I1 (.cons rfl .nil) q)
structure Mk (K:W.Frag) (C f:Addr):Prop where
 makes:PySem.W.makesIn K C=true
 init:W.findIn K (.ref C) "__init__"=some (some (.ref f))
 fn:PySem.W.isFn K (.ref f)=true
 kp:W.keepIn K (.ref C)=true
theorem uU (M:Mk X.K C f) (F:ir X.prog X.w X.K X.mg X.base CX k f fd ps sp) (hr:cp (k+1) X.A) (hb:Binds X.K fd ps ds) (hd:bQ dvs ds)
  (hx:jA CX X E) (I:Inv X Qv σ H s) (r:bQ vs us)
  (h:∀ x dx,H x=none->H dx=none->dx≠x->sp (.ref x::(vs++dvs)) (upd (upd H dx (.own x)) x (.ins C dx [])) (λ v H2=>v=.non/\Q (.ref x) H2) E):wpAny (model X.prog X.w) X.A (call (.ref C) us) (EP X Qv σ Q) X.xe s:=by
 have hq:=h (s.heap.objs.size+1) s.heap.objs.size (I.hok.fresh (Rf _)) (I.hok.fresh (Zo _)) (Zx (Wo _));have I2:=Inv.made (C:=C) I;have r2:bQ (V.ref (s.heap.objs.size+1)::(vs++dvs)) (Value.ref (s.heap.objs.size+1)::(us++ds)):=.cons rfl (r.append hd)
 have hl:(Value.ref (s.heap.objs.size+1)::us++ds).length=ps.length:=by
  have e:=r2.length;rw[F.len _ _ _ _ hq]at e;exact e.symm
 refine wpAny_call (Dy I.kIn M.makes M.init (beq_iff_eq.mp M.fn) (codeAny_mono (F.run _ X.stack _ _ ⟨Value.ref (s.heap.objs.size+1)::us,[]⟩ (Value.ref (s.heap.objs.size+1)::(us++ds)) _ _ E (hr.make C us [])
  (I2.O3.make C us []) (hb _ (Value.ref (s.heap.objs.size+1)::us) I2.kIn hl) r2 hq) λ r s' hq'=>?_))
 cases r with
 |error e=>exact hx Qv σ _ _ e s' I2 hq'
 |ok fl=>
  cases fl with
  |ret u=>
   obtain⟨v,H',I3,rv,ev,q3⟩:=I2.after hq';subst ev;exact⟨rv,⟨V.ref (s.heap.objs.size+1),H',I3,rfl,q3⟩⟩
  |next=>exact False.elim hq'
  |brk=>exact False.elim hq'
  |cont=>exact False.elim hq'
theorem zx (M:Mk X.K C f) (F:ir X.prog X.w X.K X.mg X.base CX k f fd ps sp) (hr:cp (k+1) X.A) (hg:Gl X x) (hm:X.mg x=some (.ref C)) (hb:Binds X.K fd ps ds) (hd:bQ dvs ds) (hx:jA CX X E)
  (ha:PA X (e::es) t) (hdb:Dg x:=by decide) (he:Se X e es:=by rfl) (hpl:Sb X pos es:=by rfl):PE X (.Call (.Name x p) (e::es) [] pos) (FT C sp dvs E t):=by
 intro Qv s σ H Q I h;refine Xb (mz I hg hm ?_ hdb);refine PySem.W.callWith_K (h₀:=X.base) I.ok.mod.kin M.kp (thn (ha pos Qv s σ H _ I h) λ us s1 ⟨vs,H1,I1,r,q⟩=>⟨I1.kIn,?_⟩) he hpl;exact uU M F hr hb hd hx I1 r q
theorem C7 (M:Mk X.K C f) (F:ir X.prog X.w X.K X.mg X.base CX k f fd ps sp) (hr:cp (k+1) X.A) (hg:Gl X x) (hm:X.mg x=some (.ref C)) (hb:Binds X.K fd ps ds) (hd:bQ dvs ds) (hx:jA CX X E)
  (hdb:Dg x:=by decide):PE X (.Call (.Name x p) [] [] pos) (FT C sp dvs E Jq):=by
 intro Qv s σ H Q I h;refine Xb (mz I hg hm ?_ hdb);exact Rq I.kIn M.kp (uU (us:=[]) M F hr hb hd hx I .nil h)
end
structure cB (N P:List Str) (sc:Scope):Prop where
 kind:sc.kind=.function
 co:sc.isCoroutine=false
 gen:sc.isGenerator=false
 nd:N.Nodup
 pre:N.take P.length=P
 par:∀ x ∈ P,sc.names.lookup x=some .local\/sc.names.lookup x=some .cell
 An:∀ y ∈ sc.names,y.2≠.free
theorem sL {kindOf:Str->Rz NameKind} {x:Str}:∀ {binds:Ry (Str×RA)} {m:Str->Rz RA},(∀ v,(x,v) ∉ binds)->bindL kindOf binds m x=m x
 |[],_,_=>rfl
 |(n,v)::r,m,h=>by
  unfold bindL;rw[sL λ w hw=>h w (Zd _ hw)];split
  ·have:x≠n:=by rintro rfl; exact h v Zg
   simp[this]
  · rfl
theorem sO {kindOf:Str->Rz NameKind} {x:Str}:∀ {binds:Ry (Str×RA)} {m:Str->Rz RA},(∀ v,(x,v) ∉ binds)->bindC kindOf binds m x=m x
 |[],_,_=>rfl
 |(n,v)::r,m,h=>by
  unfold bindC;rw[sO λ w hw=>h w (Zd _ hw)];split
  · rfl
  ·have:x≠n:=by rintro rfl; exact h v Zg
   simp[this]
theorem sM {kindOf:Str->Rz NameKind} {x:Str} {v:RA}:∀ {P:Ry Str} {vs:Ry RA} {i:Nat} {m:Str->Rz RA},P.Nodup->P[i]?=some x->vs[i]?=some v->kindOf x=some .local->bindL kindOf (P.zip vs) m x=some v
 |[],_,_,_,_,h,_,_=>by simp at h
 |_::_,[],_,_,_,_,h,_=>by simp at h
 |p::P,w::vs,0,m,nd,h1,h2,hk=>by
  simp at h1 h2;subst h1;subst h2
  show bindL kindOf ((p,w)::P.zip vs) m p=_;unfold bindL;rw[sL λ v hv=>(Z8.mp nd).1 (Rj hv).1,if_pos hk];simp
 |p::P,w::vs,i+1,m,nd,h1,h2,hk=>by
  show bindL kindOf ((p,w)::P.zip vs) m x=_;unfold bindL;exact sM (i:=i) (Z8.mp nd).2 (by simpa using h1) (by simpa using h2) hk
theorem sP {kindOf:Str->Rz NameKind} {x:Str} {v:RA}:∀ {P:Ry Str} {vs:Ry RA} {i:Nat} {m:Str->Rz RA},P.Nodup->P[i]?=some x->vs[i]?=some v->kindOf x≠some .local->bindC kindOf (P.zip vs) m x=some v
 |[],_,_,_,_,h,_,_=>by simp at h
 |_::_,[],_,_,_,_,h,_=>by simp at h
 |p::P,w::vs,0,m,nd,h1,h2,hk=>by
  simp at h1 h2;subst h1;subst h2
  show bindC kindOf ((p,w)::P.zip vs) m p=_;unfold bindC;rw[sO λ v hv=>(Z8.mp nd).1 (Rj hv).1,if_neg hk];simp
 |p::P,w::vs,i+1,m,nd,h1,h2,hk=>by
  show bindC kindOf ((p,w)::P.zip vs) m x=_;unfold bindC;exact sP (i:=i) (Z8.mp nd).2 (by simpa using h1) (by simpa using h2) hk
def start(N:Ry Str)(vs:Ry V):St:=vs.map some++List.replicate (N.length - vs.length) none
noncomputable def wm (CX:CXT) (P:Program) (w:World) (K:RC) (mg:Str->Rz RA) (base:Heap) (N:Ry Str) (qual:Str) (scope:Scope) (f:RB) (cd:RA) (A:Around) (outer:Ry Env) (s:RD) (H:Hp) (E:XK):Cx where
 prog:=P
 w:=w
 K:=K
 mg:=mg
 base:=base
 A:=A.deeper (envOfC qual scope s.heap.objs.size f cd)
 N:=N
 s₀:=s
 H₀:=H
 env:=envOfC qual scope s.heap.objs.size f cd
 outer:=outer
 stack:=envOfC qual scope s.heap.objs.size f cd::outer
 ex:=[]
 calm:=true
 fn:=λ _=>true
 pn:=[]
 xe:=λ e s'=>wpAny (model P w) (A.deeper (envOfC qual scope s.heap.objs.size f cd)) (leaving (envOfC qual scope s.heap.objs.size f cd) e) (λ _ s''=>CX outer H s E e s'') (λ e' s''=>CX outer H s E e' s'') s'
theorem wx{sc:Scope}{n}{x}(h:sc.names.lookup x=some .cell):∃ c,(cellsFrom n sc.names []).lookup x=some c:=by
 have q:=PySem.W.cellsFrom_some sc.names n [] (.inl h);exact Xh.mp q
theorem AY {CX} {P} {w} {K} {mg} {base} {N ps} {qual} {scope} {f} {cd} {A} {outer} {s s1} {H} {E} {us} {vs}
  (S:cB N ps scope) (hd:A.handled=none) (e0:Cj P w K mg base A outer s H) (hl:vs.length=ps.length) (r:bQ vs us)
  (x:InCallC s s.heap.objs.size (bindL (envOfC qual scope s.heap.objs.size f cd).kindOf (ps.zip us) λ _=>none) (cellsFrom (s.heap.objs.size+1) scope.names []) (bindC (envOfC qual scope s.heap.objs.size f cd).kindOf (ps.zip us) λ _=>none) s1):Inv (wm CX P w K mg base N qual scope f cd A outer s H E) [] (start N vs) H s1:=by
 have hpl:ps.length<=N.length:=by have:=Z6 List.length S.pre;rw[Yc]at this;lia
 obtain⟨h1,tk,rfl,hk⟩:=x.done;have noA:∀ b:RB,b ∉ (wm CX P w K mg base N qual scope f cd A outer s H E).ex:=λ b z=>absurd (show b ∈ ([]:Ry RB) from z) (by simp)
 refine⟨⟨e0.mod,S.kind,rfl,rfl,Zo _,λ y z c h1 h2=>?_,λ y hy=>?_,λ y c _ h=>?_,λ _=>hd,Around.frames_deeper e0.frames,.inr ⟨rfl,rfl⟩,λ b z=>absurd z (noA b),e0.bs,e0.bsz,λ b _ _=>noA b,λ b z=>absurd z (noA b),e0.xG,e0.frf⟩,
  rfl,e0.bare,Un.kept hk,⟨_,x.toInCall.ns,λ i y v h1 h2 h3=>?_⟩,λ y c h=>⟨_,x.cell y c h⟩,e0.hok.fresh (Zo _),λ y c h=>?_,λ p hp=>absurd (show p ∈ ([]:Ry (RB×Obj)) from hp) (by simp),e0.hok.kept hk,?_⟩
 · exact name_of_addr x.apart (Yl h1) (Yl h2)
 ·have hy:=hy
  rcases hy with hy|hy
  · exact wx hy
  · exact absurd rfl (S.An _ (Yl hy))
 · exact Yo (x.above y c (Yl h))
 ·have hi:i<vs.length:=by
   unfold start at h2
   by_cases hi:i<vs.length
   · exact hi
   ·rw [QK (by simpa using hi)] at h2
    rw[List.getElem?_replicate]at h2;split at h2<;>cases h2
  have ha:vs[i]?=some v:=by
   unfold start at h2;rw[QL (by simpa using hi),QD]at h2
   cases e:vs[i]? with
   |none=>rw[e]at h2;cases h2
   |some a=>rw[e]at h2;cases h2;rfl
  obtain⟨u,hu,rv⟩:=r.get ha
  have hp:ps[i]?=some y:=by
   rw[<- S.pre,List.getElem?_take_of_lt (by lia)];exact h1
  have ndP:ps.Nodup:=by rw[<- S.pre];exact S.nd.sublist (List.take_sublist _ _)
  refine⟨u,rv,?_⟩;rcases S.par y (QE hp) with k|k
  · exact .inl ⟨k,sM ndP hp hu k⟩
  ·obtain ⟨c,e⟩:=wx k
   refine .inr ⟨.inl k,c,e,?_⟩;have q:=x.cell y c e;rw[sP ndP hp hu (by show scope.names.lookup y≠_;rw[k];decide)]at q;exact q
 · exact e0.hok.fresh (Yo (x.above y c (Yl h)))
 ·unfold start
  show _=N.length;rw[Z5,Za,List.length_replicate]
  lia
theorem Lu {CX} {P} {w} {K} {mg} {base} {k} {f} {name qual} {params} {body} {scope} {dV kV doc pm cdv ct oc} {an od}
  {osl} {N ps} {sp} (lk:K.lookup f=some ⟨oc,od,.func (PySem.W.fnOf name qual params body scope dV kV doc pm an cdv ct),osl⟩) (hcd:PySem.W.codeIn K cdv qual=true) (S:cB N ps scope)
  (len:∀ vs H Q E,sp vs H Q E->vs.length=ps.length)
  (hbody:∀ A outer s H vs Q E,cp k (A.deeper (envOfC qual scope s.heap.objs.size f cdv))->sp vs H Q E->∃ t,PSs (wm CX P w K mg base N qual scope f cdv A outer s H E) body t/\t { nx:=λ _ H'=>Q .non H',rt:=Q } (start N vs) H):ir P w K mg base CX (k+1) f (PySem.W.fnOf name qual params body scope dV kV doc pm an cdv ct) ps sp:=by
 refine⟨len,λ A outer s H args us vs Q E hr e0 hb r hsp=>?_⟩;have hl:=len _ _ _ _ hsp;have KX:=e0.mod.kin.keeps λ b o e=>(e0.bs b o e).1
 have lim:=e0.mod.nolimit.keeps λ b o e=>(e0.bs b o e).1
 have hkind:∀ y ∈ ps.zip us,scope.names.lookup y.1=some .local\/(scope.names.lookup y.1=some .cell/\((cellsFrom (s.heap.objs.size+1) scope.names []).lookup y.1).isSome=true):=λ⟨n,v⟩ hy=>by
  rcases S.par n (Rj hy).1 with q|q
  · exact .inl q
  · exact .inr ⟨q,PySem.W.cellsFrom_some _ _ _ (.inl q)⟩
 refine codeAny_call_function hr.depth (KX _ _ lk) rfl S.co S.gen rfl (PySem.W.codeRec_of KX hcd) (hb _ _ _ _ ?_);refine wpAny_newFunctionEnv_cells S.kind hkind λ env he s1 x=>?_
 subst he;refine⟨lim.keeps x.toInCall.keep,codeAny_func ?_⟩;obtain⟨t,ht,hq⟩:=hbody A outer s H vs Q E (hr.deeper _) hsp;have I:Inv (wm CX P w K mg base N qual scope f cdv A outer s H E) [] (start N vs) H s1:=AY S hr.hd e0 hl r x;refine Ys (ht [] s1 (start N vs) H _ I hq) (λ fl s' hs=>?_) λ e s' hs=>hs
 have fin:∀{σ':St} {H':Hp} {v:V} {u:RA},Inv (wm CX P w K mg base N qual scope f cdv A outer s H E) [] σ' H' s'->RelV v u->Q v H'->CE outer P w H s Q u s':=
  λ{σ' H' v u} J rv q=>⟨v,H',J.os,J.bare,J.base,J.hok,rv,q⟩
 cases fl with
 |ret u=>
  obtain⟨v,σ',H',J,rv,q⟩:=hs;exact fin J rv q
 |next=>
  obtain⟨σ',H',J,q⟩:=hs;exact fin (v:=V.non) J rfl q
 |brk=>
  obtain⟨_,_,_,q⟩:=hs;exact False.elim q
 |cont=>
  obtain⟨_,_,_,q⟩:=hs;exact False.elim q
section
variable{X:Cx}{x:Str}{p pos:Pos}{e:Expr}{es:Ry Expr}{t:TA}{id T:String}{r:Ry V->Hp->VK->Prop}
def tCB(r:Ry V->Hp->VK->Prop)(t:TA):TE:=λ σ H Q=>t σ H λ vs H1=>r vs H1 Q
theorem o9 (hc:gf X (.builtin id) r) (hg:Gl X x) (hm:X.mg x=none) (hv:bootBuiltins x=some (.builtin id)) (ha:PA X (e::es) t) (hn:x≠"__name__":=by decide) (hdb:Dg x:=by decide)
  (he:Se X e es:=by rfl) (hpl:Sb X pos es:=by rfl):PE X (.Call (.Name x p) (e::es) [] pos) (tCB r t):=by
 intro Qv s σ H Q I h;refine Xb (mB I hg hm hv ?_ hn hdb);exact PyProof.Rows.callWith_builtin1 (thn (ha pos Qv s σ H _ I h) λ us s1 ⟨vs,H1,I1,r1,q1⟩=>hc Qv s1 σ H1 vs us Q I1 r1 q1) he hpl
theorem zB (hc:gf X (.type T) r) (hg:Gl X x) (hm:X.mg x=none) (hv:bootBuiltins x=some (.type T)) (ha:PA X (e::es) t) (hn:x≠"__name__":=by decide) (hdb:Dg x:=by decide)
  (he:Se X e es:=by rfl) (hpl:Sb X pos es:=by rfl):PE X (.Call (.Name x p) (e::es) [] pos) (tCB r t):=by
 intro Qv s σ H Q I h;refine Xb (mB I hg hm hv ?_ hn hdb);exact Xq (thn (ha pos Qv s σ H _ I h) λ us s1 ⟨vs,H1,I1,r1,q1⟩=>hc Qv s1 σ H1 vs us Q I1 r1 q1) he hpl
end
end L2
namespace HT
open PySem PyProof.Rows
noncomputable def lexLt:Ry Int->Ry Int->Bool
 |[],[]=>false
 |[],_::_=>true
 |_::_,[]=>false
 |x::xs,y::ys=>if x=y then lexLt xs ys else decide (x<y)
def cx x y (xs ys:Ry Int):lexLt (x::xs) (y::ys)=if x=y then lexLt xs ys else decide (x<y):=rfl
def pE:lexLt [] []=false:=rfl
def nK y (ys:Ry Int):lexLt [] (y::ys)=true:=rfl
def nL x (xs:Ry Int):lexLt (x::xs) []=false:=rfl
theorem v7 A s a t c u:∃ e,SeqAt.EqAt A s (.int a t) (.int c u) e/\(e=true↔a=c):=
 ⟨(a == c),SeqAt.EqAt.int_int a t c u,by simp⟩
theorem CS A s a t c u prog w E Q (h:Q (.bool (decide (a<c))) s):wpAny (model prog w) A (richCompare .Lt (.int a t) (.int c u)) Q E s:=
 (PyProof.Rows.lt_int h:wpAny (model prog w) A (compareOp .Lt (.int a t) (.int c u)) Q E s)
section
open PySem.SeqAt
open PySem.AutoSeq1 (wpAny_loadPart')
open PySem.MeetsSeq PySem.MeetsSeq2 PySem.MeetsSeq3
theorem oS l b items items2 n n2 dd dd2 sl sl2 ns ms (hi:IntsAre items.toList ns) (hj:IntsAre items2.toList ms):Meets (Builtin.«tuple.__lt__» ⟨[.ref l,.ref b],[]⟩)
   (λ _ R s=>s.heap.get? l=some { cls:=.type "tuple",dict:=dd,data:=.seq items n,slots:=sl }/\s.heap.get? b=some { cls:=.type "tuple",dict:=dd2,data:=.seq items2 n2,slots:=sl2 }/\R (.ok (.ret (.bool (lexLt ns ms)))) s):=
 .of_wp λ prog w A R s h=>by
  obtain⟨hp,g,d,tk,os⟩:=s;obtain⟨hl,hb,h⟩:=h
  have f2:=QR;have z1:items.size=ns.length:=by rw[<- hi.length];simp
  have z2:items2.size=ms.length:=by rw[<- hj.length];simp
  wp_walk using Yr hl,Yr hb,wpAny_forIn_list _ (λ rest b s'=>b.1=none/\s'=⟨hp,g,d,tk,os⟩/\∃(vs ws:Ry RA) (ns' ms':Ry Int),rest=vs.zip ws/\IntsAre vs ns'/\IntsAre ws ms'/\ns'.length+items2.size=ms'.length+items.size/\R (.ok (.ret (.bool (lexLt ns' ms')))) ⟨hp,g,d,tk,os⟩) _
  case turn=>
   rintro⟨y,x⟩ rest b s' ⟨hb',rfl,vs,ws,ns',ms',hz,hvi,hwi,hlen,hR⟩
   cases hvi with
   |nil=>rw[List.zip_nil_left]at hz;cases hz
   |cons a t hvi'=>
     cases hwi with
     |nil=>rw[List.zip_nil_right]at hz;cases hz
     |cons c u hwi'=>
      rw[QT]at hz;injection hz with hyx hrest
      injection hyx with hy hx
      subst hy hx;rw[cx]at hR;simp only[Z2]at hlen;obtain⟨e,he,hiff⟩:=v7 A.in1 ⟨hp,g,d,tk,os⟩ a t c u;refine Zc (he prog w _ _ ?_)
      cases e with
      |true=>
       rw[if_pos (hiff.mp rfl)]at hR
       wp_walk
       exact⟨rfl,rfl,_,_,_,_,hrest,hvi',hwi',by lia,hR⟩
      |false=>
       rw[if_neg (λ q=>absurd (hiff.mpr q) Zf)]at hR;have hri:=CS A.in1 ⟨hp,g,d,tk,os⟩ a t c u prog w
       wp_walk using hri
       exact⟨_,rfl,by simpa using hR⟩
  case fin=>
   rintro⟨b1,b2⟩ s' ⟨hb',rfl,vs,ws,ns',ms',hz,hvi,hwi,hlen,hR⟩
   subst hb'
   have hv:lexLt ns' ms'=decide (items.size<items2.size):=by
     cases hvi with
     |nil=>
      cases hwi with
      |nil=>
       simp only[Xo]at hlen;rw[pE];exact(Zp (by lia)).symm
      |cons c u hw=>
       simp only[Xo,Z2]at hlen;rw[nK];exact(Zk (by lia)).symm
     |cons a t hv=>
      cases hwi with
      |nil=>
       simp only[Xo,Z2]at hlen;rw[nL];exact(Zp (by lia)).symm
      |cons c u hw=>
       rw[QT]at hz;cases hz
   rw[hv]at hR
   wp_walk
   exact⟨_,rfl,by simpa [Builtin.Tuple.tupleCompareSizes] using hR⟩
  case h=>
   exact⟨rfl,rfl,items.toList,items2.toList,ns,ms,rfl,hi,hj,by lia,h⟩
end
section
variable{prog:Program}{w:World}{A:Around}{E:RA->RD->Prop}{s:RD}
theorem xC (hl:IsTup s.heap l items) (hb:IsTup s.heap b items2) (hi:IntsAre items.toList ns) (hj:IntsAre items2.toList ms)
  (hu:A.units<cLine) (h:Q (.bool (lexLt ns ms)) s):wpAny (model prog w) A (compareOp .Lt (.ref l) (.ref b)) Q E s:=by
 obtain⟨⟨cls,dd,data,sl⟩,ho,hc,n,hd⟩:=id hl;obtain⟨⟨cls2,dd2,data2,sl2⟩,ho2,hc2,n2,hd2⟩:=id hb;simp only at hc hd hc2 hd2;subst hc hd hc2 hd2
 exact richCompare_meets_room (op:=.Lt) ⟨_,ho,rfl⟩ ⟨_,ho2,rfl⟩ PySem.F.slot_tuple_lt PySem.F.entry_tuple_lt (PySem.F.args_tuple_lt_2 _ _) (oS l b items items2 n n2 dd dd2 sl sl2 ns ms hi hj)
  ⟨ho,ho2,show Value.bool (lexLt ns ms)≠Value.notImplemented/\Q (.bool (lexLt ns ms)) s from⟨(λ x=>nomatch x),h⟩⟩ hu
noncomputable def sIx (n d:Nat):Rz Int->Nat
 |none=>d
 |some v=>if v<0 then(v+(n:Int)).toNat else min v.toNat n
end
end HT
namespace L2
open PySem PySem.Spec PyProof.Rows
abbrev TO:=St->Hp->(Rz Int->Hp->Prop)->Prop
def PO(X:Cx)(e:Rz Expr)(t:TO):Prop:=
  ∀(Qv:Ry (RB×Obj)) (s:RD) (σ:St) (H:Hp) (Q:Rz Int->Hp->Prop),Inv X Qv σ H s->t σ H Q->wpAny (model X.prog X.w) X.A (evalPart e X.env) (λ u s'=>∃ o H',Inv X Qv σ H' s'/\IsPart u o/\Q o H') X.xe s
def FQ:TO:=λ _ H Q=>Q none H
def Mw(t:TE):TO:=λ σ H Q=>t σ H λ x H1=>∃ i,x=.int i/\Q (some i) H1
section
variable{X:Cx}{e:Expr}{te:TE}{lo hi:Rz Expr}{tl th:TO}{pos p2:Pos}
theorem GH:PO X none FQ:=by
 intro Qv s σ H Q I h;rw[evalPart_none];exact Zw ⟨none,H,I,.none,h⟩
theorem GG(h:PE X e te):PO X (some e) (Mw te):=by
 intro Qv s σ H Q I hw;rw[evalPart_some];refine thn (h Qv s σ H _ I hw) λ u s1 w90=>?_
 obtain⟨x,H1,I1,r1,q1⟩:=w90;obtain⟨i,rfl,q⟩:=q1;obtain⟨t,rfl⟩:=r1;exact⟨some i,H1,I1,.int i t,q⟩
def SlR(X:Cx)(r:V->Rz Int->Rz Int->Hp->VK->Prop):Prop:=
  ∀(Qv:Ry (RB×Obj)) (s:RD) (σ:St) (H:Hp) (x:V) (v vl vu:RA) (lo hi:Rz Int) (sl:RB) (Q:VK),Inv X Qv σ H s->RelV x v->s.heap.IsSliceOf sl vl vu .none->IsPart vl lo->IsPart vu hi->r x lo hi H Q->∃ T id,typeLookup (.type T) "__getitem__"=pure (some (.builtin id))/\s.TypeIs v T/\wpAny (model X.prog X.w) X.A (getItem v (.ref sl)) (EP X Qv σ Q) X.xe s
def tSl(r:V->Rz Int->Rz Int->Hp->VK->Prop)(te:TE)(tl th:TO):TE:=λ σ H Q=>te σ H λ x H1=>tl σ H1 λ l H2=>th σ H2 λ u H3=>r x l u H3 Q
theorem vh(hr:SlR X r)(he:PE X e te)(hl:PO X lo tl)(hu:PO X hi th):PE X (.Subscript e (.Slice lo hi none p2) pos) (tSl r te tl th):=by
 intro Qv s σ H Q I h;refine Subscript_ (thn (he Qv s σ H _ I h) λ v s1 w90=>?_);obtain⟨x,H1,I1,r1,q1⟩:=w90;refine wpAny_Slice (thn (hl Qv s1 σ H1 _ I1 q1) λ vl s2 ⟨l,H2,I2,pl,q2⟩=>thn (hu Qv s2 σ H2 _ I2 q2) λ vu s3 w90=>?_);obtain⟨u,H3,I3,pu,q3⟩:=w90;rw[evalPart_none];refine Zw ?_
 have I4:Inv X Qv σ H3 { s3 with heap:=s3.heap.push { cls:=.type "slice",data:=.fields #[vl,vu,.none] } }:=I3.kept λ b ob q=>My _ q
 obtain⟨T,id,hT,ht,hg⟩:=hr Qv { s3 with heap:=s3.heap.push { cls:=.type "slice",data:=.fields #[vl,vu,.none] } } σ H3 x v vl vu l u s3.heap.objs.size Q I4 r1 (Heap.IsSliceOf.new ..) pl pu q3;show wpAny (model X.prog X.w) X.A (subscriptTail e (.Slice lo hi none p2) v (.ref s3.heap.objs.size)) (EP X Qv σ Q) X.xe { s3 with heap:=s3.heap.push { cls:=.type "slice",data:=.fields #[vl,vu,.none] } };exact tail_any ht hT hg (by with_unfolding_all rfl)
def IT(xs:Ry V)(lo hi:Rz Int):Ry V:=(xs.drop (HT.sIx xs.length 0 lo)).take (HT.sIx xs.length xs.length hi - HT.sIx xs.length 0 lo)
theorem uw xs (lo hi:Rz Int):(IT xs lo hi).length<=xs.length:=by
 unfold IT;rw[Yc,Wp]
 lia
end
def ixN(n:Nat)(i:Int):Rz Nat:=if 0<=i then(if i<n then some i.toNat else none) else if -(n:Int)<=i then some (i+n).toNat else none
def atI{α:Type}(xs:Ry α)(i:Int):Rz α:=(ixN xs.length i).bind λ j=>xs[j]?
theorem AU(h:ixN n i=some j):seqIndex? i n=some j/\j<n/\-(n:Int)<=i/\i<n:=by
 unfold ixN at h
 by_cases h0:0<=i
 ·rw [if_pos h0] at h
  by_cases h1:i<n
  ·rw [if_pos h1] at h
   have e:=Zj h;exact⟨by rw[seqIndex_of h0 h1,e],by lia,by lia,h1⟩
  · rw[if_neg h1]at h;cases h
 ·rw [if_neg h0] at h
  by_cases h1:-(n:Int)<=i
  ·rw [if_pos h1] at h
   have e:=Zj h;exact⟨by rw[seqIndex_neg (by lia) h1,e],by lia,h1,by lia⟩
  · rw[if_neg h1]at h;cases h
theorem uC{α}{xs}{v:α}(h:atI xs i=some v):∃ j,seqIndex? i xs.length=some j/\xs[j]?=some v/\j<xs.length/\-(xs.length:Int)<=i/\i<xs.length:=by
 unfold atI at h
 cases e:ixN xs.length i with
 |none=>rw[e]at h;cases h
 |some j=>
  rw[e]at h;obtain⟨h1,h2,h3,h4⟩:=AU e;exact⟨j,h1,h,h2,h3,h4⟩
theorem iW{α}{xs}{j:Nat}{v:α}(h:xs[j]?=some v):atI xs (j:Int)=some v:=by
 have hj:=(QB.mp h).1
 have e:ixN xs.length (j:Int)=some j:=by
  unfold ixN;rw[if_pos (by lia),if_pos (by lia)];simp
 unfold atI;rw[e];exact h
def uG(b:Expr):Prop:=∀ o i,subscripted b false o i=operate [o,i] (getItem o i)
def IxR(X:Cx)(r:R2):Prop:=
  ∀(value slice:Expr) (Qv:Ry (RB×Obj)) (s:RD) (σ:St) (H:Hp) (x y:V) (v u:RA) (Q:VK),Inv X Qv σ H s->RelV x v->RelV y u->r x y H Q->subscripted slice false v u=operate [v,u] (getItem v u)->wpAny (model X.prog X.w) X.A (subscriptTail value slice v u) (EP X Qv σ Q) X.xe s
def MtR(X:Cx)(id:String)(r:V->Ry V->Hp->VK->Prop):Prop:=
  ∀(Qv:Ry (RB×Obj)) (s:RD) (σ:St) (H:Hp) (x:V) (xs:Ry V) (v:RA) (us:Ry RA) (Q:VK),Inv X Qv σ H s->RelV x v->bQ xs us->r x xs H Q->wpAny (model X.prog X.w) X.A (call (.builtin id) (v::us)) (EP X Qv σ Q) X.xe s
section
variable{X:Cx}{a b:Expr}{ta tb:TE}{pos:Pos}
theorem IxR.or(h:IxR X r)(h':IxR X r'):IxR X (λ x y H Q=>r x y H Q\/r' x y H Q):=by
 intro value slice Qv s σ H x y v u Q I rx ry q hs;rcases q with q|q
 · exact h value slice Qv s σ H x y v u Q I rx ry q hs
 · exact h' value slice Qv s σ H x y v u Q I rx ry q hs
theorem GN(hr:IxR X r)(ha:PE X a ta)(hb:PE X b tb)(hs:uG b):PE X (.Subscript a b pos) (tOp r ta tb):=by
 intro Qv s σ H Q I h;exact Subscript_ (Oq ha hb I h λ v u s2 x y H2 I2 rx ry q=>hr a b Qv s2 σ H2 x y v u Q I2 rx ry q (hs _ _))
def PU(K:RC):R2:=λ x y H Q=>∃ p xs i v,x=.ref p/\y=.int i/\SqL K H p xs/\atI xs i=some v/\Q v H
def MR(K:RC):R2:=λ x y H Q=>∃ p xs i v,x=.ref p/\y=.int i/\SqT K H p xs/\atI xs i=some v/\Q v H
def PR:R2:=λ x y H Q=>∃ z i c,x=.str z/\y=.int i/\z.length<=sizeLine/\atI z.cps.toList i=some c/\Q (.str ⟨#[c]⟩) H
theorem AS:IxR X (PU X.K):=by
 intro value slice Qv s σ H x y v u Q I rx ry h hs;obtain⟨p,xs,i,z,rfl,rfl,hq,he,q⟩:=h;cases rx;obtain⟨t,rfl⟩:=ry;obtain⟨its,r,pl,hz⟩:=I.list hq;obtain⟨j,h1,h2,h3,h4,h5⟩:=uC he;obtain⟨w,ew,rw'⟩:=r.get h2;have hl:=r.length;have hn:=q8;have fin:EP X Qv σ Q w s:=⟨z,H,I,rw',q⟩
 by_cases h0:0<=i
 ·have hj:i.toNat=j:=by
   rw[seqIndex_of h0 h5]at h1;exact Zj h1
  exact item_listR pl.isList h0 (by lia) (by rw[hj];simpa using ew) fin hs
 ·have hj:(i+(its.toArray.size:Int)).toNat=j:=by
   rw[seqIndex_neg (by lia) h4]at h1;rw[Zs,<- hl];exact Zj h1
  exact subscriptTail_builtinR pl.isList.typeIs slot_list_getitem.lookup
   (wpAny_getItem_list_neg (Q:=λ r s'=>r=w/\EP X Qv σ Q r s') pl.isList (by lia) (by rw[Zs]<;>lia) (by lia) (by rw[hj];simpa using ew) ⟨rfl,fin⟩) hs
theorem E6:IxR X (MR X.K):=by
 intro value slice Qv s σ H x y v u Q I rx ry h hs;obtain⟨p,xs,i,z,rfl,rfl,hq,he,q⟩:=h;cases rx;obtain⟨t,rfl⟩:=ry;obtain⟨its,r,pl,hz⟩:=I.tuple hq;obtain⟨j,h1,h2,h3,h4,h5⟩:=uC he;obtain⟨w,ew,rw'⟩:=r.get h2;have hl:=r.length;have hn:=q8;have fin:EP X Qv σ Q w s:=⟨z,H,I,rw',q⟩
 exact subscriptTail_builtinR pl.typeIs slot_tuple_getitem.lookup
  (getItem_tuple (Q:=λ r s'=>r=w/\EP X Qv σ Q r s') pl (by lia) (by lia) (by rw[Zs,<- hl];exact h1) (by simpa using ew) ⟨rfl,fin⟩) hs
theorem K8:IxR X PR:=by
 intro value slice Qv s σ H x y v u Q I rx ry h hs;obtain⟨z,i,c,rfl,rfl,hz,he,q⟩:=h;obtain⟨t,rfl⟩:=rx;obtain⟨t',rfl⟩:=ry;obtain⟨j,h1,h2,h3,h4,h5⟩:=uC he;have hl:z.cps.toList.length=z.length:=by simp[Str.length]
 rw[hl]at h1 h4 h5;have hn:=q8
 exact tail_any (typeIs_str s z t) slot_str_getitem.lookup (getItem_str (by
  have e1:decide (i < -(2 ^ 63:Int))=false:=Zp (by lia);have e2:decide (i ≥ 2 ^ 63)=false:=Zp (by lia)
  rw[e1,e2,Bool.or_false]) (by rw[h1];simpa using h2) ⟨.str ⟨#[c]⟩,H,I.tok _,⟨_,rfl⟩,q⟩) hs
theorem xy(its:Ry RA) n j u:Obj.mapSeq (·.setIfInBounds j u) { cls:=.type "list",data:=.seq its.toArray n }={ cls:=.type "list",data:=.seq (its.set j u).toArray n }:=by
 simp[Obj.mapSeq]
theorem Inv.lst(I:Inv X Qv σ H s)(h:H p=some (.lst xs)):∃(its:Ry RA) (n:Nat),bQ xs its/\s.heap.get? p=some { cls:=.type "list",data:=.seq its.toArray n }/\xs.length<=sizeLine:=by
 obtain⟨z,its,n,r,e⟩:=I.hok p _ h;exact⟨its,n,r,e,z⟩
theorem Inv.KN {Qv} {σ:St} {H} {s} {p} {xs ys} {its its':Ry RA} {n n'} {f} (I:Inv X Qv σ H s) (h:H p=some (.lst xs))
  (ho:s.heap.get? p=some { cls:=.type "list",data:=.seq its.toArray n }) (hf:f { cls:=.type "list",data:=.seq its.toArray n }={ cls:=.type "list",data:=.seq its'.toArray n' }) (r:bQ ys its') (hz:ys.length<=sizeLine) t :
  Inv X Qv σ (upd H p (.lst ys)) { s with heap:=s.heap.update p f,toks:=t }:=by
 have e:(s.heap.update p f).get? p=some { cls:=.type "list",data:=.seq its'.toArray n' }:=by
  rw[QN f ho (by rw[hf]<;>rfl),hf]
 refine I.write (x:=p) (by rw[h];trivial) (.inl rfl) (λ b u hb q=>(QI _ _ (QH hb)).trans q) ⟨_,e⟩ ?_
 exact⟨hz,its',n',r,e⟩
def MQ:V->V->V->Hp->(Hp->Prop)->Prop:=λ o i v H Q=>∃ p xs k j,o=.ref p/\i=.int k/\H p=some (.lst xs)/\ixN xs.length k=some j/\Q (upd H p (.lst (xs.set j v)))
theorem set_list:O8 X MQ:=by
 intro Qv s σ H o i v ov iv u Q I ro ri rv h;obtain⟨p,xs,k,j,rfl,rfl,hp,hj,q⟩:=h;cases ro;obtain⟨t,rfl⟩:=ri;obtain⟨its,n,r,ho,hz⟩:=I.lst hp;obtain⟨h1,h2,h3,h4⟩:=AU hj;have hl:=r.length;have hn:=q8
 have I':Inv X Qv σ (upd H p (.lst (xs.set j v))) { s with heap:=s.heap.update p (Obj.mapSeq (·.setIfInBounds j u)) }:=
  I.KN hp ho (xy its n j u) (r.set rv j) (by rw[Wh];exact hz) s.toks
 by_cases h0:0<=k
 ·have hk:k.toNat=j:=by
   rw[seqIndex_of h0 h4]at h1;exact Zj h1
  exact PySem.W.ki_setAt ho h0 (by lia) (by rw[Zs,<- hl];exact h4) (by rw[hk];exact⟨_,I',q⟩)
 ·have hk:(k+(its.toArray.size:Int)).toNat=j:=by
   rw[seqIndex_neg (by lia) h3]at h1;rw[Zs,<- hl];exact Zj h1
  exact PySem.W.ki_setBack ho (by lia) (by rw[Zs,<- hl];exact h3) (by lia) (by rw[hk];exact⟨_,I',q⟩)
theorem ql lo hi (n:Nat):(sliceBounds lo hi none n).1=((HT.sIx n 0 lo:Nat):Int)/\(sliceBounds lo hi none n).2.1=((HT.sIx n n hi:Nat):Int)/\(sliceBounds lo hi none n).2.2=1:=by
 refine⟨?_,?_,rfl⟩
 ·cases lo with
  |none=>simp[sliceBounds,HT.sIx]
  |some i=>
   simp only[sliceBounds,HT.sIx,Option.getD_none,show(1:Int)>0 by decide,if_true]
   by_cases h:i<0
   · simp only[h,if_true]<;>lia
   · simp only[h,if_false]<;>lia
 ·cases hi with
  |none=>simp[sliceBounds,HT.sIx]
  |some i=>
   simp only[sliceBounds,HT.sIx,Option.getD_none,show(1:Int)>0 by decide,if_true]
   by_cases h:i<0
   · simp only[h,if_true]<;>lia
   · simp only[h,if_false]<;>lia
theorem o7(its:Ry RA)(lo hi:Rz Int):slicePick its.toArray lo hi none=((its.drop (HT.sIx its.length 0 lo)).take (HT.sIx its.length its.length hi - HT.sIx its.length 0 lo)).toArray:=by
 obtain⟨h1,h2,h3⟩:=ql lo hi its.toArray.size;unfold slicePick;rw[h1,h2,h3];simp only[sliceRange_one,pick_run,Zs]<;>rfl
def PN(K:RC):V->Rz Int->Rz Int->Hp->VK->Prop:=λ x lo hi H Q=>∃ a xs,x=.ref a/\SqL K H a xs/\∀ p,H p=none->Q (.ref p) (upd H p (.lst (IT xs lo hi)))
theorem F5:SlR X (PN X.K):=by
 intro Qv s σ H x v vl vu lo hi sl Q I rx hs pl pu h;obtain⟨a,xs,rfl,hx,q⟩:=h;cases rx;obtain⟨its,r,ht,hz⟩:=I.list hx;have hlen:=r.length;refine⟨"list",_,slot_list_getitem.lookup,ht.isList.typeIs,?_⟩;refine wpAny_getItem_list_slice ht.isList hs pl pu .none (by simp) ?_ (by rw[Zs]<;>lia)
 rw[o7,<- hlen];refine⟨.ref s.heap.objs.size,_,I.laid (o:=.lst (IT xs lo hi)) (λ b ob q=>My _ q) (Zo _) ?_,rfl,q _ (I.hok.fresh (Zo _))⟩;exact⟨Zu (uw xs lo hi) hz,_,0,(r.drop (HT.sIx xs.length 0 lo)).take (HT.sIx xs.length xs.length hi - HT.sIx xs.length 0 lo),QC _ rfl⟩
def nO:V->Bool
 |.non=>true
 |.bl _=>true
 |.int _=>true
 |.str _=>true
 |_=>false
noncomputable def eqV:V->V->Bool
 |.non,.non=>true
 |.bl a,.bl b=>a == b
 |.bl a,.int b=>(if a then 1 else 0) == b
 |.int a,.bl b=>a == (if b then 1 else 0)
 |.int a,.int b=>a == b
 |.str a,.str b=>a == b
 |_,_=>false
theorem Ly(ry:RelV y u)(rx:RelV x v)(fy:nO y=true)(fx:nO x=true):SeqAt.EqAt A s u v (eqV y x):=by
 cases y with
 |non=>
  cases ry
  cases x with
  |non=>cases rx;exact SeqAt.EqAt.same _
  |bl b=>cases rx;exact SeqAt.EqAt.none_bool b
  |int b=>obtain⟨t,rfl⟩:=rx;exact SeqAt.EqAt.none_int b t
  |str b=>obtain⟨t,rfl⟩:=rx;exact SeqAt.EqAt.none_str b t
  |_=>exact absurd (show false=true from fx) Zf
 |bl a=>
  cases ry
  cases x with
  |non=>cases rx;exact SeqAt.EqAt.bool_none a
  |bl b=>cases rx;exact SeqAt.EqAt.bool_bool a b
  |int b=>obtain⟨t,rfl⟩:=rx;exact SeqAt.EqAt.bool_int a b t
  |str b=>obtain⟨t,rfl⟩:=rx;exact SeqAt.EqAt.bool_str a b t
  |_=>exact absurd (show false=true from fx) Zf
 |int a=>
  obtain⟨t',rfl⟩:=ry
  cases x with
  |non=>cases rx;exact SeqAt.EqAt.int_none a t'
  |bl b=>cases rx;exact SeqAt.EqAt.int_bool a t' b
  |int b=>obtain⟨t,rfl⟩:=rx;exact SeqAt.EqAt.int_int a t' b t
  |str b=>obtain⟨t,rfl⟩:=rx;exact SeqAt.EqAt.int_str a t' b t
  |_=>exact absurd (show false=true from fx) Zf
 |str a=>
  obtain⟨t',rfl⟩:=ry
  cases x with
  |non=>cases rx;exact SeqAt.EqAt.str_none a t'
  |bl b=>cases rx;exact SeqAt.EqAt.str_bool a t' b
  |int b=>obtain⟨t,rfl⟩:=rx;exact SeqAt.EqAt.str_int a t' b t
  |str b=>obtain⟨t,rfl⟩:=rx;exact SeqAt.EqAt.str_str a t' b t
  |_=>exact absurd (show false=true from fx) Zf
 |_=>exact absurd (show false=true from fy) Zf
def eqU(x:V)(u:RA):Bool:=match u with
 |.none=>eqV .non x
 |.bool b=>eqV (.bl b) x
 |.int i _=>eqV (.int i) x
 |.str z _=>eqV (.str z) x
 |_=>false
theorem Fm(r:RelV y u)(f:nO y=true):eqU x u=eqV y x:=by
 cases y with
 |non=>cases r;rfl
 |bl b=>cases r;rfl
 |int i=>obtain⟨t,rfl⟩:=r;rfl
 |str z=>obtain⟨t,rfl⟩:=r;rfl
 |_=>exact absurd (show false=true from f) Zf
theorem mV:∀ {xs:Ry V} {us:Ry RA},bQ xs us->xs.all nO=true->us.any (eqU x)=xs.any λ y=>eqV y x
 |_,_,.nil,_=>rfl
 |y::xs,u::us,.cons r t,f=>by
  rw[Ww,Yd]at f;rw[Yz,Yz,Fm r f.1,mV t f.2]
theorem jl (rx:RelV x v) (fx:nO x=true):∀ {xs:Ry V} {us:Ry RA},bQ xs us->xs.all nO=true->∀ u ∈ us,SeqAt.EqAt A s u v (eqU x u)
 |_,_,.nil,_=>λ u hu=>by cases hu
 |y::xs,u::us,.cons r t,f=>λ u' hu=>by
  rw[Ww,Yd]at f;rcases Zi.mp hu with rfl|hu
  · rw[Fm r f.1];exact Ly r rx f.1 fx
  · exact jl rx fx t f.2 u' hu
def inV(x:V)(xs:Ry V):Bool:=xs.any λ y=>eqV y x
def rIn(K:RC)(neg:Bool):R2:=λ x y H Q=>∃ p xs,y=.ref p/\(SqL K H p xs\/SqT K H p xs)/\nO x=true/\xs.all nO=true/\Q (.bl (if neg then !inV x xs else inV x xs)) H
theorem zO:OpR X (compareOp .In) (rIn X.K false):=by
 intro Qv s σ H x y v u Q I rx ry h;obtain⟨p,xs,rfl,hq,fx,fs,q⟩:=h;cases ry;rcases hq with hq|hq
 ·obtain ⟨its,r,pl,hz⟩:=I.list hq
  refine SeqAt.in_listAt (eqU x) pl.isList (λ w hw=>jl rx fx r fs w (by simpa using hw)) ⟨.bl _,H,I,rfl,?_⟩;rw[show its.toArray.any (eqU x)=its.any (eqU x) by simp,mV r fs];exact q
 ·obtain ⟨its,r,pl,hz⟩:=I.tuple hq
  refine SeqAt.in_tupleAt (eqU x) pl (λ w hw=>jl rx fx r fs w (by simpa using hw)) ⟨.bl _,H,I,rfl,?_⟩;rw[show its.toArray.any (eqU x)=its.any (eqU x) by simp,mV r fs];exact q
theorem qE:OpR X (compareOp .NotIn) (rIn X.K true):=by
 intro Qv s σ H x y v u Q I rx ry h;obtain⟨p,xs,rfl,hq,fx,fs,q⟩:=h;cases ry;rcases hq with hq|hq
 ·obtain ⟨its,r,pl,hz⟩:=I.list hq
  refine SeqAt.notIn_listAt (eqU x) pl.isList (λ w hw=>jl rx fx r fs w (by simpa using hw)) ⟨.bl _,H,I,rfl,?_⟩;rw[show its.toArray.any (eqU x)=its.any (eqU x) by simp,mV r fs];exact q
 ·obtain ⟨its,r,pl,hz⟩:=I.tuple hq
  refine SeqAt.notIn_tupleAt (eqU x) pl (λ w hw=>jl rx fx r fs w (by simpa using hw)) ⟨.bl _,H,I,rfl,?_⟩;rw[show its.toArray.any (eqU x)=its.any (eqU x) by simp,mV r fs];exact q
theorem pX:gf X (.type "tuple") (λ xs H Q=>∃ p ys,xs=[.ref p]/\((SqL X.K H p ys/\∀ l,H l=none->Q (.ref l) (upd H l (.tup ys)))\/(SqT X.K H p ys/\Q (.ref p) H))):=by
 intro Qv s σ H xs us Q I r h;obtain⟨p,ys,rfl,h⟩:=h;obtain⟨u,rfl,rx⟩:=vals1 r;cases rx;rcases h with ⟨hq,q⟩|⟨hq,q⟩
 ·obtain ⟨its,r',pl,hz⟩:=I.list hq
  have hlen:=r'.length;refine call_tuple_list pl.isList (λ h' kp=>?_) (by simp only[Zs]<;>lia);have I1:Inv X Qv σ H { s with heap:=h' }:=I.kept (t':=s.toks) kp
  have I2:Inv X Qv σ (upd H h'.objs.size (.tup ys)) { s with heap:=h'.push { cls:=.type "tuple",data:=.seq its.toArray } }:=
   I1.laid (t':=s.toks) (λ b o e=>My _ e) (Zo _) (⟨hz,its,r',IsTup.new _ _⟩)
  exact⟨.ref h'.objs.size,_,I2,rfl,q _ (I1.hok.fresh (Zo _))⟩
 ·obtain ⟨its,r',pl,hz⟩:=I.tuple hq
  exact call_tuple_same pl ⟨.ref p,H,I,rfl,q⟩
def tyV(K:RC)(T:String)(x:V)(H:Hp):Prop:=match x with
 |.str _=>T="str"
 |.int _=>T="int"
 |.ref p=>(T="list"/\∃ xs,SqL K H p xs)\/(T="tuple"/\∃ o,K.lookup p=some o/\o.cls=.type "tuple"/\o.dict=none)\/(T="dict"/\((∃ kvs,H p=some (.dK kvs))\/∃ kvs,H p=some (.dT kvs)))\/(T="set"/\∃ S n,H p=some (.set S n))
 |_=>False
theorem Jh(I:Inv X Qv σ H s)(r:RelV x v)(ty:tyV X.K T x H):s.TypeIs v T/\∀ a,v=.ref a->∃ ob,s.heap.get? a=some ob/\ob.dict=none:=by
 cases x with
 |str z=>
  obtain⟨t,rfl⟩:=r;cases(show T="str" from ty);exact⟨typeIs_str s z t,λ _ e=>nomatch e⟩
 |int i=>
  obtain⟨t,rfl⟩:=r;cases(show T="int" from ty);exact⟨typeIs_int s i t,λ _ e=>nomatch e⟩
 |ref p=>
  cases r;rcases ty with ⟨rfl,xs,hq⟩|⟨rfl,o,hk,hc,hd⟩|⟨rfl,hk⟩|⟨rfl,S,n,hk⟩
  ·obtain ⟨its,_,pl,_⟩:=I.list hq
   refine⟨pl.isList.typeIs,λ a e=>?_⟩;cases e;obtain⟨o,n,e,c,hd,_⟩:=pl;exact⟨o,e,hd⟩
  ·refine ⟨⟨o,I.kIn p o hk,hc⟩,λ a e=>?_⟩
   cases e;exact⟨o,I.kIn _ o hk,hd⟩
  ·have z:∃ o,s.heap.get? p=some o/\o.ExactDict:=by
    rcases hk with ⟨kvs,hk⟩|⟨kvs,hk⟩
    ·obtain ⟨_,_,_,_,o,_,_,e,ex,_⟩:=I.hok p _ hk
     exact⟨o,e,ex⟩
    ·obtain ⟨_,_,_,_,o,_,_,e,ex,_⟩:=I.hok p _ hk
     exact⟨o,e,ex⟩
   obtain⟨o,e,ex⟩:=z;refine⟨⟨o,e,ex.1⟩,λ a e2=>?_⟩;cases e2;exact⟨o,e,ex.2.1⟩
  ·obtain ⟨o,_,_,_,e,ex,_⟩:=I.hok p _ hk
   refine⟨⟨o,e,ex.1⟩,λ a e2=>?_⟩;cases e2;exact⟨o,e,ex.2.1⟩
 |_=>exact False.elim ty
def tBM(K:RC)(T:String)(r:V->Ry V->Hp->VK->Prop)(to:TE)(t:TA):TE:=λ σ H Q=>to σ H λ x H1=>tyV K T x H1/\t σ H1 λ xs H2=>r x xs H2 Q
variable{o e:Expr}{es:Ry Expr}{to:TE}{t:TA}{name:Str}{Qw Qx:Pos}{T id:String}{r:V->Ry V->Hp->VK->Prop}
theorem zG (pa:PlainAttrs T) (slot:Slot T name id) (hty:typeOf (.builtin id)=pure (.type "method_descriptor")) (hm:MtR X id r) (ho:PE X o to) (ha:PA X (e::es) t)
  (Q1:Ug X o name:=by rfl)
  (Qy:((backTo Qx (starEach (e::es) X.env)).all (λ x=>!x.1)&&(backToKw Qx (keywordEach [] X.env)).all (λ x=>x.1.isSome)
    && decide ((e::es).length+([]:Ry Keyword).length+(if([]:Ry Keyword).isEmpty then 0 else 1)<30))=true:=by rfl)
  (Qz:Ui Qw Qx:=by rfl) (hs:Se X e es:=by rfl) (Q0:Sb X Qx es:=by rfl):PE X (.Call (.Attribute o name Qw) (e::es) [] Qx) (tBM X.K T r to t):=by
 intro Qv s σ H Q I h;refine wpAny_Call_method_late Q1 Qy Qz rfl (thn (ho Qv s σ H _ I h) λ v s1 w90=>?_);obtain⟨x,H1,I1,r1,ty,q1⟩:=w90;obtain⟨h1,h2⟩:=Jh I1 r1 ty;refine⟨T,id,pa,slot,hty,h1,h2,?_⟩;have hA:=ha Qx Qv s1 σ H1 _ I1 q1;rw[hs]at hA ⊢;refine Y9 (by show(false||(backTo Qx (starEach es X.env)).any (·.1))=false;rw[Q0]<;>rfl) (X5 ?_);exact thn hA λ us s2 ⟨vs,H2,I2,r2,q2⟩=>hm Qv s2 σ H2 x vs v us Q I2 r1 r2 q2
end
def MtM(X:Cx)(id:String)(r:V->Ry V->Hp->VK->Prop):Prop:=
  ∀(Qv:Ry (RB×Obj)) (s:RD) (σ:St) (H:Hp) (x:V) (xs:Ry V) (v:RA) (us:Ry RA) (Q:VK),Inv X Qv σ H s->RelV x v->bQ xs us->r x xs H Q->wpAny (model X.prog X.w) X.A (call (.builtin id) (v::us)) (EP X Qv σ Q) X.xe s
theorem bQ.one:∀ {x:V} {us:Ry RA},bQ [x] us->∃ u,us=[u]/\RelV x u
 |_,_,.cons r .nil=>⟨_,rfl,r⟩
section
variable{X:Cx}{Qv:Ry (RB×Obj)}{σ:St}{H:Hp}{s:RD}{l b:RB}{xs ys zs:Ry V}
theorem Inv.NA {its its':Ry RA} {n} {f} {t'} (I:Inv X Qv σ H s) (hH:H l=some (.lst xs))
  (e:s.heap.get? l=some { cls:=.type "list",data:=.seq its.toArray n }) (hf:f its.toArray=its'.toArray) (hv:bQ ys its') (hz:ys.length<=sizeLine):Inv X Qv σ (upd H l (.lst ys)) { s with heap:=s.heap.update l (Obj.mapSeq f),toks:=t' }:=by
 have q:=PySem.IsL.update e f;rw[hf]at q;refine I.write (x:=l) (by rw[hH];exact trivial) (.inl rfl) (λ b' u hb hu=>(QI s.heap (Obj.mapSeq f) (QH hb)).trans hu) ⟨_,q⟩ ?_
 exact⟨hz,its',_,hv,q⟩
theorem Inv.P6(I:Inv X Qv σ H s)(hv:bQ ys its)(hz:ys.length<=sizeLine):Inv X Qv σ (upd H s.heap.objs.size (.lst ys)) { s with heap:=s.heap.push { cls:=.type "list",data:=.seq its.toArray },toks:=t' }:=
 I.laid (λ _ _ q=>My _ q) (Zo _) ⟨hz,its,0,hv,QC _ rfl⟩
def Inv.fresh(I:Inv X Qv σ H s):H s.heap.objs.size=none:=I.hok.fresh (Zo _)
theorem Inv.IP(I:Inv X Qv σ H s)(hH:H l=some (.lst xs)):xs.length<=sizeLine/\∃(its:Ry RA) (n:Nat),bQ xs its/\xs.length=its.length/\s.heap.get? l=some { cls:=.type "list",data:=.seq its.toArray n }:=by
 obtain⟨z,its,n,r,e⟩:=I.hok l _ hH;exact⟨z,its,n,r,r.length,e⟩
theorem Dv(h:n<=sizeLine):Builtin.List.listTooLong n=false:=by
 unfold Builtin.List.listTooLong;exact Zp (by lia)
end
section
variable{X:Cx}
def Gv:V->Ry V->Hp->VK->Prop:=λ x vs H Q=>∃ l xs y,x=.ref l/\vs=[y]/\H l=some (.lst xs)/\xs.length<sizeLine/\Q .non (upd H l (.lst (xs++[y])))
theorem qW:MtM X "list.append" Gv:=by
 intro Qv s σ H x vs v us Q I rx rv h;obtain⟨l,xs,y,rfl,rfl,hH,hz,q⟩:=h;cases rx;obtain⟨u,rfl,ru⟩:=rv.one;obtain⟨z,its,n,r,hl,e⟩:=I.IP hH;refine call_meets F.slot_list_append ⟨_,e,rfl⟩ F.entry_list_append (F.args_list_append_2 _ _) (PySem.list_append l its.toArray n u (by rw[Zs];lia)) ⟨e,?_⟩;refine⟨.non,_,I.NA (its':=its++[u]) hH e (by simp) (r.append (.cons ru .nil)) ?_,rfl,q⟩;rw[Z5,List.length_singleton]
 lia
def Gu:V->Ry V->Hp->VK->Prop:=λ x vs H Q=>∃ l b xs zs,x=.ref l/\vs=[.ref b]/\H l=some (.lst xs)/\H b=some (.lst zs)/\xs.length+zs.length<=sizeLine/\Q .non (upd H l (.lst (xs++zs)))
theorem Aq:MtM X "list.extend" Gu:=by
 intro Qv s σ H x vs v us Q I rx rv h;obtain⟨l,b,xs,zs,rfl,rfl,hH,hB,hz,q⟩:=h;cases rx;obtain⟨u,rfl,ru⟩:=rv.one;cases ru;obtain⟨z,its,n,r,hl,e⟩:=I.IP hH;obtain⟨z2,its2,n2,r2,hl2,e2⟩:=I.IP hB;have hsz:its.toArray.size+its2.toArray.size<=sizeLine:=by rw[Zs,Zs];lia
 have hlong:¬ (!its.toArray.isEmpty&&Builtin.List.listTooLong (its.toArray.size+its2.toArray.size))=true:=by
  rw[Dv hsz,Bool.and_false];exact Zf
 refine call_meets F.slot_list_extend ⟨_,e,rfl⟩ F.entry_list_extend (F.args_list_extend_2 _ _)
  (AutoSeq1.list_extend_list_list_0 l its.toArray n b its2.toArray n2 hlong (by rw[Zs];lia) (by lia)) ⟨e,e2,?_⟩
 refine⟨.non,_,I.NA hH e (by simp) (r.append r2) ?_,rfl,q⟩;rw[Z5]
 lia
def PX:R2:=λ x y H Q=>∃ l b xs zs,x=.ref l/\y=.ref b/\H l=some (.lst xs)/\H b=some (.lst zs)/\xs.length+zs.length<=sizeLine/\∀ p,H p=none->Q (.ref p) (upd H p (.lst (xs++zs)))
theorem EU:OpR X (binaryOp .Add) PX:=by
 intro Qv s σ H x y v u Q I rx ry h;obtain⟨l,b,xs,zs,rfl,rfl,hH,hB,hz,q⟩:=h;cases rx;cases ry;obtain⟨z,its,n,r,hl,e⟩:=I.IP hH;obtain⟨z2,its2,n2,r2,hl2,e2⟩:=I.IP hB;refine PySem.P.add_list e e2 ?_ (by rw[Zs,Zs];lia)
 have ea:its.toArray++its2.toArray=(its++its2).toArray:=by simp
 rw[ea];exact⟨.ref _,_,I.P6 (t':=s.toks) (r.append r2) (by rw[Z5];lia),rfl,q _ I.fresh⟩
end
end L2
namespace Att
open PySem PySem.W PySem.Calls PyProof.Rows
theorem mE:∀ ns (vs:Ry RA),WellAll P h vs (ns.map WData.int)->IntsAre vs ns:=by
 intro ns
 induction ns with
 |nil=>
  intro vs w;rw[We]at w;cases w;exact .nil
 |cons n ns ih=>
  intro vs w;rw[Zh]at w
  cases w with
  |cons a b=>
   cases a;exact .cons _ _ (ih _ b)
theorem yL {l:OpenLaw} {n} (hn:l.most=some n) {P} {h} {args} {vals}
  (hpre:l.row.toRowW.claim.pre args=true) (hwl:WellAll P h vals args):∃ a vs ns,vals=[Value.ref a]/\args=[WData.list (ns.map WData.int)]/\h.get? a=some { cls:=.type "list",data:=.seq vs.toArray }/\IntsAre vs ns/\ns.length<=n:=by
 have hsh:WShape.hasAll [] args [.list .int]=true:=(pre_splitW hpre).1;have hc:l.pre.holds [] { args:=args }=true:=(pre_splitW hpre).2;obtain⟨d,r,rfl,h1,h2⟩:=hasAllW_cons hsh;obtain rfl:=hasAllW_nil h2;obtain⟨xs,rfl,h3⟩:=hasW_list h1;obtain⟨ns,rfl⟩:=items_int h3
 have hlen:ns.length<=n:=by
  have h4:(WTm.not (.lt (.lit (.int (n:Int))) (.len (.arg 0)))).holds [] { args:=[.list (ns.map .int)] }=true:=by
   have h4:=(holds_andW hc).1;rw[hn]at h4;exact h4
  have h5:=condW_of h4 (w_not (w_lt w_lit (w_len_list (w_arg rfl))));rw[Za]at h5;refine Nat.le_of_not_lt λ q=>?_
  first
   |(rw[Zk q']at h5;exact absurd h5 (by decide))
   |(simp at h5;lia)
 cases hwl with
 |cons w1 w2=>
  cases w2
  cases w1 with
  |list ho hall=>exact⟨_,_,ns,rfl,rfl,ho,mE ns _ hall,hlen⟩
theorem zm(l:OpenLaw)(args:Ry WData):l.row.toRowW.claim.post args (.bool true) args=true:=
 postW_of
  (show WShape.has [] (.bool true) .bool=true by first|rfl|decide|simp[WShape.has,WShape.arms,WShape.armsAll])
  (show(WTm.eq .res (.lit (.bool true))).value [] { args:=args,res:=some (.bool true),after:=args }=some (.bool (true == true)) from w_eq_bool (w_res rfl) w_lit) rfl
theorem uA {l:OpenLaw} {n} {q} {loose} {XP} {YP} {d}
  (hn:l.most=some n) (hdf:d.params.defaults=[])
  (call:∀ w s₀ s₁ mg mb fa o pm cd doc a vs ns,
    Ground q loose [] XP w s₀ mg mb s₁.heap->YP w s₁.heap->s₁.heap.get? fa=some o->o.data=.func (docDef d.name d.params d.body d.scope pm cd doc)->s₁.heap.CodeRec cd d.name->mg d.name=some (.ref fa)->s₁.heap.get? a=some { cls:=.type "list",data:=.seq vs.toArray }->IntsAre vs ns->ns.length<=n->s₁.gens=#[]->codeAny (model l.prog w) callerA (.call (.ref fa) ⟨[.ref a],[]⟩) (λ r s'=>r=.ok (.ret (.bool true))/\OldK s₁.heap s'.heap/\s'.os=s₁.os/\AllBare s'.gens) s₁):WalkO q loose XP YP l.row.toRowW d [] (λ f vs=>PySem.call f vs):=by
 intro w s₀ s₁ mg mb G Y fa o pm cd doc dV kV ho hd hcd hD hmg hg args vals as hpre hlay hrd hwl hlo;obtain rfl:dV=.none:=Dflts.none hD hdf;obtain rfl:kV=.none:=Dflts.noKw hD;obtain⟨a,vs,ns,rfl,rfl,hobj,hints,hlen⟩:=yL hn hpre hwl;refine enter_call (codeAny_mono (call w s₀ s₁ mg mb fa o pm cd doc a vs ns G Y ho (fd_plain hd) hcd hmg hobj hints hlen hg) λ r s' hq=>?_);obtain⟨rfl,h2,h3,h4⟩:=hq;exact⟨.inl ⟨.bool true,.bool true,[],rfl,λ _=>rfl,.bool true,zm l _,λ _=>⟨List.Pairwise.nil,λ _ hm=>(nomatch hm)⟩⟩,h2,h3,h4⟩
end Att
namespace L2
open PySem PySem.Spec PyProof.Rows
theorem lL:∀ {vs:Ry RA} {ns:Ry Int},IntsAre vs ns->bQ (ns.map V.int) vs
 |_,_,.nil=>.nil
 |_,_,.cons n t h=>.cons ⟨t,rfl⟩ (lL h)
abbrev KOf{K:RC}{h:Heap}(_:K.In h):RC:=K
end L2
namespace L2
open PySem PySem.Spec PyProof.Rows
def inClass(s:Stmt)(j:Nat):Stmt:=match s with
 |.ClassDef _ _ _ body _ _ _ _ _ _ _=>body.getD j (.Pass ⟨0,0,0,0⟩)
 |_=>.Pass ⟨0,0,0,0⟩
noncomputable def b9(s:Stmt):Arguments:=match s with
 |.FunctionDef _ a _ _ _ _ _ _ _ _=>a
 |_=>{ posonlyargs:=[],args:=[],vararg:=none,kwonlyargs:=[],kw_defaults:=[],kwarg:=none,defaults:=[] }
def bh(s:Stmt):Ry Stmt:=match s with
 |.FunctionDef _ _ b _ _ _ _ _ _ _=>b
 |_=>[]
def aG(s:Stmt):Scope:=match s with
 |.FunctionDef _ _ _ _ _ _ sc _ _ _=>sc
 |_=>{ kind:=.function,names:=[],isGenerator:=false,isCoroutine:=false }
abbrev CX0:CXT:=λ _ _ _ _ _ _=>False
abbrev E0:XK:=λ _ _ _=>False
def jf:jA CX0 X E0:=λ _ _ _ _ _ _ _ h=>h.elim
structure Fun (K:W.Frag) (x qual:Str) (st:Stmt) (f:Addr) (fd:FuncData):Prop where
 ex:∃(oc:Value) (od:Option Addr) (kV doc pm:Value) (an:Option Addr) (cdv ct:Value) (osl:Array (Option Value)),
  fd=PySem.W.fnOf x qual (b9 st) (bh st) (aG st) .none kV doc pm an cdv ct/\K.lookup f=some ⟨oc,od,.func fd,osl⟩/\PySem.W.codeIn K cdv qual=true
 kp:W.keepIn K (.ref f)=true
section
variable{P:Program}{w:World}{K:RC}{mg:Str->Rz RA}{base:Heap}
theorem Fun.ok {x qual} {st} {f} {fd} {N ps} {k} {sp} (F:Fun K x qual st f fd) (S:cB N ps (aG st)) (len:∀ vs H Q E,sp vs H Q E->vs.length=ps.length)
  (hbody:∀ cdv A outer s H vs Q E,cp k (A.deeper (envOfC qual (aG st) s.heap.objs.size f cdv))->sp vs H Q E->∃ t,PSs (wm CX0 P w K mg base N qual (aG st) f cdv A outer s H E).nox (bh st) t/\t { nx:=λ _ H'=>Q .non H',rt:=Q } (start N vs) H):ir P w K mg base CX0 (k+1) f fd ps sp:=by
 obtain⟨oc,od,kV,doc,pm,an,cdv,ct,osl,rfl,lk,hcd⟩:=F.ex;refine Lu lk hcd S len λ A outer s H vs Q E hr hsp=>?_
 obtain⟨t,h,q⟩:=hbody cdv A outer s H vs Q E hr hsp;exact⟨t,h.nox,q⟩
theorem Fun.binds {x qual} {st} {f} {fd} {ps} (F:Fun K x qual st f fd)
  (h:∀ kV doc pm an cdv ct us,us.length=ps.length->bindArgs (PySem.W.fnOf x qual (b9 st) (bh st) (aG st) .none kV doc pm an cdv ct) ⟨us,[]⟩=pure (ps.zip us)):Binds K fd ps []:=by
 obtain⟨oc,od,kV,doc,pm,an,cdv,ct,osl,rfl,lk,hcd⟩:=F.ex;exact .all (h kV doc pm an cdv ct)
theorem jq {x qual} {st} {f} {oc} {od an} {osl} {kV doc pm cdv ct} (l:K.lookup f=some ⟨oc,od,.func (PySem.W.fnOf x qual (b9 st) (bh st) (aG st) .none kV doc pm an cdv ct),osl⟩)
 (c:PySem.W.codeIn K cdv qual=true) (k:W.keepIn K (.ref f)=true):Fun K x qual st f (PySem.W.fnOf x qual (b9 st) (bh st) (aG st) .none kV doc pm an cdv ct):=⟨⟨oc,od,kV,doc,pm,an,cdv,ct,osl,rfl,l,c⟩,k⟩
end
theorem fc(hr:cp k A):A.units+1<cLine:=Xc (Nat.add_le_add_left (by decide:1<=64) _) hr.units
section
variable{X:Cx}
theorem pv (i:Nat) (hN:X.N[i]?=some x:=by rfl) (hv:Vis X.env.scope x:=by walk_at "w") (hd:Dg x:=by decide)
 (hcd:(x == ("__classdict__":Str))=false:=by decide):PE X (.Name x pos) (Mv i):=iC hN hv hd hcd
end
theorem L4{A B:Prop}(h:B):if false=true then A else B:=by
 rw[if_neg Zf];exact h
theorem IQ{A B:Prop}(h:A):if true=true then A else B:=by
 rw[if_pos rfl];exact h
def bM(H H':Hp):Prop:=∀ b o,H b=some o->H' b=some o
def bM.refl(H:Hp):bM H H:=λ _ _ h=>h
def bM.trans(a:bM H H1)(b:bM H1 H2):bM H H2:=λ c o h=>b c o (a c o h)
theorem bM.free(e:bM H H')(h:H' l=Option.none):H l=Option.none:=by
 cases q:H l with
 |none=>rfl
 |some o=>
  rw[e l o q]at h;cases h
theorem bM.seq{K}{H H'}{a}{xs}(e:bM H H')(h:SqL K H a xs):SqL K H' a xs:=by
 rcases h with (h|⟨o,h⟩)|h
 · exact .inl (.inl (e _ _ h))
 · exact .inl (.inr ⟨o,e _ _ h⟩)
 · exact .inr h
end L2
end
section
namespace HD24
open PySem PySem.W PySem.W.X PyProof.Rows L2
abbrev hp:Program:=PySem.Challenge.pw_stylehouse_k24_told_values
abbrev hl:OpenLaw:=PySem.Challenge.rw_stylehouse_k24_told_values
def Uc(i:Nat):Stmt:=PySem.Challenge.pw_stylehouse_k24_told_values.main.body.getD i (.Pass ⟨0,0,0,0⟩)
abbrev vI(i t:Nat):RA:=.int (.ofNat i) t
abbrev vS(s:Str)(t:Nat):RA:=.str s t
abbrev vR(a:Nat):RA:=.ref a
abbrev dE(P:RE)(n:Str)(t:Nat)(v:RA):DictEntry:=⟨PyData.keyHash P n,.str n t,v⟩
abbrev y0:String:=PySem.W.SL.s2766695959194262286x5
abbrev y1:String:=PySem.W.SL.s5856160107412720595x4
abbrev y2:String:=PySem.W.SL.s658472552662922059x5
abbrev y3:String:=PySem.W.SL.s14018661285674007319x4
abbrev y5:String:=PySem.W.SL.s7174869446012820540x8
abbrev y6:String:=PySem.W.SL.s11030030927630378310x26
abbrev y7:String:=PySem.W.SL.s10062305145149207511x16
abbrev y8:String:=PySem.W.SL.s17162191345867700912x4
abbrev y9:String:=PySem.W.SL.s2742458400755230247x6
abbrev y10:String:=PySem.W.SL.s11443829558043349243x14
abbrev y11:String:=PySem.W.SL.s14755015743595814543x17
abbrev y12:String:=PySem.W.SL.s6511155373996960695x17
abbrev y13:String:=PySem.W.SL.s12411053484034534018x21
abbrev y14:String:=PySem.W.SL.s10220274742760427390x26
abbrev y15:String:=PySem.W.SL.s4290257624100764138x5
abbrev y16:String:=PySem.W.SL.s4860613602091757760x24
abbrev y17:String:=PySem.W.SL.s6070975301684473832x10
abbrev y18:String:=PySem.W.SL.s5946037652744460706x9
abbrev y19:String:=PySem.W.SL.s4278001404047624695x13
abbrev y20:String:=PySem.W.SL.s4209523147560561109x18
abbrev oQ(l:Ry RA):Obj:=⟨.type y0,none,.seq ⟨l⟩ 0,⟨[]⟩⟩
abbrev oD(l:Ry DictEntry)(n:Nat):Obj:=⟨.type y3,none,.dict ⟨l⟩ n,⟨[]⟩⟩
abbrev qF:Str:="/claim/cut.py"
def zQ(l:Ry RA):Obj:=⟨.type y0,none,.seq ⟨l⟩ 0,⟨[]⟩⟩
def zF(c:RA)(l:Ry RA):Obj:=⟨c,none,.fields ⟨l⟩,⟨[]⟩⟩
def zV(l:Ry DictEntry)(n:Nat):Obj:=⟨.type y3,none,.dict ⟨l⟩ n,⟨[]⟩⟩
def zI(i:Nat):RA:=.int (.ofNat i) 0
def zT(l:Ry Str)(t:Nat):Ry RA:=match l with
 |[]=>[]
 |x::r=>.str x t::zT r (t+1)
def zE(P:RE)(x:Str)(t:Nat)(v:RA):DictEntry:=⟨PyData.keyHash P x,.str x t,v⟩
noncomputable def zC(x q:Str)(l a f r:Nat)(b:Bool)(v1 v2 v3:RA)(t s:Nat):Obj:=zF (.type y1) [.str x t,.str q (t+1),.str qF (t+2),zI l,zI a,zI 0,zI 0,zI f,.ref r,.bool b,zI 181,.ref (r+1),.none,v1,v2,v3,zI s,zI l,.str qF (s+1)]
noncomputable def zN(s:Stmt):Str×Nat:=match s with
 |.FunctionDef x _ _ _ _ _ _ _ _ p=>(x,p.line)
 |.ClassDef x _ _ _ _ _ _ _ _ _ p=>(x,p.line)
 |_=>("",0)
noncomputable def zD(q:Str)(m:RA)(n t e:Nat)(s:Stmt):Ry Obj:=match s with
 |.FunctionDef x as b _ _ _ sc _ _ p=>
  let N (g:Nat) (m c:RA):Data:=.func ⟨x,q++x,as,.stmts b,sc,g,[],.none,.none,.none,m,none,c,.none,0⟩
  match Nat.beq e (n+7) with
  |true=>[zQ [],zF .none [],zQ (zT ((sc.names.filter (·.2 == .local)).map (·.1)) (t+3)),zQ [],⟨.none,none,N 0 .none .none,⟨[]⟩⟩,zC x (q++x) p.line as.args.length 3 n true (.ref (n+2)) (.ref (n+3)) (.ref (n+4)) t (t+3+(sc.names.filter (·.2 == .local)).length),⟨.type y5,none,N 3 m (.ref (n+5)),⟨[]⟩⟩]
  |false=>[zQ [],zF .none [],⟨.none,none,N 0 .none .none,⟨[]⟩⟩,zC x (q++x) p.line as.args.length 3 n true .none .none (.ref (n+2)) t (t+3),⟨.type y5,none,N 3 m (.ref (n+3)),⟨[]⟩⟩]
 |_=>[]
def wO(q:Str)(m:RA)(f:Nat->Stmt)(l:Ry Nat)(k:Ry Obj):Ry Obj:=match l with
 |n::t::i::e::r=>zD q m n t e (f i)++wO q m f (e::r) k
 |_=>k
def wG(P:RE)(f:Nat->Stmt)(l:Ry Nat)(k:Ry DictEntry):Ry DictEntry:=match l with
 |_::_::i::n::t::r=>zE P (zN (f i)).1 (t - 1) (.ref (n - 1))::wG P f (n::t::r) k
 |_=>k
def wP(c:Nat)(f:Nat->Stmt)(l:Ry Nat)(k:Ry RA):Ry RA:=match l with
 |_::_::i::n::t::r=>zI (zN (f i)).2::zI c::.ref (n - 2)::wP c f (n::t::r) k
 |_=>k
noncomputable def kO(P:RE)(m:RA)(n t:Nat)(k:Nat)(vb mr:Ry RA)(s:Stmt)(a:Nat)(u:Nat)(l:Ry Nat)(K:Ry Obj):Ry Obj:=match s with
 |.ClassDef x _ _ _ _ _ _ _ _ sa p=>
  let c:=a+2
  let b:=u+sa.length
  let me (r:Ry DictEntry):Ry DictEntry:=zE P "__firstlineno__" (t+11) (.int (.ofNat p.line) (t+10))::wG P (inClass s) l (zE P "__static_attributes__" b (.ref a)::r)
  let h:=zE P "__module__" (t+7) m
  let w (x:Str) (i j:Nat) (a b:RA):DictEntry×Obj:=(zE P x (i+1) (.ref (c+j)),zF (.type y11) [.str x i,.ref c,a,b])
  let ds:=match k with
   |0=>[w "__dict__" (b+1) 1 (.builtin y12) (.builtin y13),w "__weakref__" (b+3) 2 (.builtin y14) .none]
   |1=>[w "__weakref__" (b+1) 1 (.builtin y14) .none]
   |_=>[]
  zQ (match k with|0=>[]|_=>vb)::zF (.type y6) [.builtin y7,.type y8]::zV (h::zE P "__qualname__" (t+9) (.str x (t+8))::me []) (4+l.length / 3)::zQ []::zF .none (wP 4 (inClass s) l [])::zC x x p.line 0 0 (n+3) false .none .none .none (t+2) (t+5)::⟨.type y2,none,.plain,⟨[some (.ref (n+5)),some (.ref 3),some (.ref (n+2)),none,some m,none,some (.ref 0)]⟩⟩::wO (x++".") m (inClass s) l (zQ (zT sa u)::zV (h::me (ds.map (·.1)++[zE P "__doc__" (b+1+2 * ds.length) .none])) (ds.length+2)::⟨.type y8,none,.cls ⟨x,vb,.ref c::mr,a+1,x,true,[],[],false,none,false⟩,⟨[match k with|0=>none|_=>some (.ref n),none,some (.str x t),some (.str x (t+8)),some (.builtin (match k with|0=>y10|_=>y20)),some (.bool true)]⟩⟩::(ds.map (·.2)++zF (.type y15) [.ref c,.ref c,.ref c]::zF (.type y6) [.builtin y16,.ref c]::K))
 |_=>K
def zS(v:Ry RA)(o:Obj):Obj:=match o with
 |⟨a,b,.cls c,d⟩=>⟨a,b,.cls { c with subclasses:=v },d⟩
 |o=>o
def zX(a:Nat)(f:Obj->Obj)(l:Ry Obj):Ry Obj:=match l,a with
 |x::r,0=>f x::r
 |x::r,a+1=>x::zX a f r
 |[],_=>[]
noncomputable def zo(l:Ry Obj):Ry Obj:=match l with
 |x::_::r=>x::zo r
 |l=>l
def zH(f:Nat)(l:Ry Obj):BT:=match f,l with
 |f+1,x::r=>.node x (zH f (zo r)) (zH f (match r with|_::r=>zo r|_=>[]))
 |_,_=>.nil
def tp(a n:Nat):Ry Stmt:=((behindTheImports hp).drop a).take n
def OL:=tp 0 20
def OK:=tp 20 9
def OJ:=tp 29 3
def OI:=tp 32 16
def OH:=tp 48 8
def OG:=tp 56 2
def OF:=tp 58 16
def OE:=tp 74 7
def lf0:Life:=⟨[],[],[],0,[],[],false,⟨[]⟩,[],0,false,false,false,(.ofNat 0),[(.ofNat 2000),(.ofNat 10),(.ofNat 10)],false,0,true,[],[],0,false⟩
def hcd:RA:=(vR 13)
def hq:Pos:=⟨0,0,0,0⟩
def hE:Env:={ scope:=hp.main.scope,locals:=mainNs,globals:=mainNs,cells:=[],code:=hcd,frame:=some 14 }
def hC:Code:=.body (behindTheImports hp) hE
def hB:Ry Frame:=[topFrame hq]
def hAn:Rz RA:=(some (vR 6))
def w0:RA:=.str "__main__" 164
def w1:RA:=.str "stylehouse.walks" 194
def w2:RA:=.str "stylehouse.traits" 241
def w3:RA:=.str "stylehouse.patterns" 316
def w4:RA:=.str "stylehouse.claims" 379
def w5:RA:=.str "stylehouse.errors" 446
def w6:RA:=.str "stylehouse.names" 562
def w7:RA:=.str "stylehouse.shares" 572
def w8:RA:=.str "stylehouse.props" 581
def w9:RA:=.str "stylehouse.worth" 677
def w10:RA:=.str "stylehouse.tree" 697
def w11:RA:=.str "stylehouse.sheet" 892
def w12:RA:=.str "law_stylehouse_k24_told_values" 973
def NO:Ry Nat:=[15,187,0,22,194]
def NN:Ry Nat:=[22,196,2,29,205,3,36,214,4,43,224,5,50,232,6,57,241]
def Hm:Ry Nat:=[92,288,9,99,295,10,104,301,11,111,310,12,116,316]
def Hk:Ry Nat:=[116,318,14,121,324,15,128,336,16,135,348,17,142,360,18,149,369,19,156,379]
def NM:Ry Nat:=[156,381,21,163,394,22,170,408,23,177,419,24,184,433,25,191,446]
def NL:Ry Nat:=[276,566,36,281,572]
def NK:Ry Nat:=[281,574,38,288,581]
def Hj:Ry Nat:=[298,639,45,305,646,46,312,653,47,319,661]
def NJ:Ry Nat:=[319,661,48,326,669,49,333,677]
def NI:Ry Nat:=[333,679,51,340,688,52,347,697]
def NH:Ry Nat:=[480,877,57,487,884]
def NG:Ry Nat:=[487,884,58,494,892]
def NF:Ry Nat:=[550,965,62,557,973]
def Hi:Ry Nat:=[557,975,64,564,983,65,571,991,66,578,1004,67,585,1011,68,592,1019,69,599,1030,70,606,1044,71,613,1054,72,620,1064,73,627,1074]
def ND:Ry Nat:=[627,1074,74,632,1080,75,639,1093,76,646,1102,77,653,1116,78,660,1137,79,667,1154,80,674,1170]
def cO0(P:RE)(k:Ry Obj):Ry Obj:=wO "" w0 Uc NO (wO "" w1 Uc NN (kO P w2 57 243 0 [(.type y9)] [(.type y9)] (Uc 8) 85 279 [64,255,0,71,263,1,78,272,2,85,279] (wO "" w2 Uc Hm (wO "" w3 Uc Hk k))))
def cG0(P:RE)(k:Ry DictEntry):Ry DictEntry:=wG P Uc NO (wG P Uc NN (dE P "Trait" 287 (vR 87)::(wG P Uc Hm (wG P Uc Hk k))))
def cP0(k:Ry RA):Ry RA:=wP 0 Uc NO (wP 0 Uc NN (zI (zN (Uc 8)).2::zI 0::vR 62::(wP 0 Uc Hm (wP 0 Uc Hk k))))
noncomputable def cO1(P:RE)(k:Ry Obj):Ry Obj:=wO "" w4 Uc NM (kO P w5 191 448 1 [(.type y17)] [(.type y17),(.type y18),(.type y19),(.type y9)] (Uc 27) 198 460 [198,460] (kO P w5 204 466 2 [vR 200] [vR 200,(.type y17),(.type y18),(.type y19),(.type y9)] (Uc 28) 211 478 [211,478] k))
def cG1(P:RE)(k:Ry DictEntry):Ry DictEntry:=wG P Uc NM (dE P "HouseError" 465 (vR 200)::(dE P "NoBox" 481 (vR 213)::k))
def cP1(k:Ry RA):Ry RA:=wP 0 Uc NM (zI (zN (Uc 27)).2::zI 0::vR 196::(zI (zN (Uc 28)).2::zI 0::vR 209::k))
noncomputable def cO2(P:RE)(k:Ry Obj):Ry Obj:=kO P w5 216 482 2 [vR 200] [vR 200,(.type y17),(.type y18),(.type y19),(.type y9)] (Uc 29) 223 494 [223,494] (kO P w5 228 498 2 [vR 200] [vR 200,(.type y17),(.type y18),(.type y19),(.type y9)] (Uc 30) 235 510 [235,510] (kO P w5 240 514 2 [vR 200] [vR 200,(.type y17),(.type y18),(.type y19),(.type y9)] (Uc 31) 247 526 [247,526] k))
def cG2(P:RE)(k:Ry DictEntry):Ry DictEntry:=dE P "NoPlace" 497 (vR 225)::(dE P "NoName" 513 (vR 237)::(dE P "TooMuch" 529 (vR 249)::k))
def cP2(k:Ry RA):Ry RA:=zI (zN (Uc 29)).2::zI 0::vR 221::(zI (zN (Uc 30)).2::zI 0::vR 233::(zI (zN (Uc 31)).2::zI 0::vR 245::k))
noncomputable def cO3(P:RE)(k:Ry Obj):Ry Obj:=kO P w5 252 530 2 [vR 200] [vR 200,(.type y17),(.type y18),(.type y19),(.type y9)] (Uc 32) 259 542 [259,542] (kO P w5 264 546 2 [vR 200] [vR 200,(.type y17),(.type y18),(.type y19),(.type y9)] (Uc 33) 271 558 [271,558] (wO "" w6 Uc NL (wO "" w7 Uc NK ([oQ [vS "ink" 583,vS "size" 584,vS "wide" 585,vS "least" 586,vS "most" 587,vS "grow" 588,vS "shrink" 589,vS "gap" 590,vS "pad" 591,vS "tall" 592,vS "flow" 593,vS "spread" 594,vS "stand" 595]]++([oQ [vS "size" 597,vS "wide" 598,vS "least" 599,vS "most" 600,vS "grow" 601,vS "shrink" 602,vS "gap" 603,vS "pad" 604,vS "tall" 605]]++([oQ [vS "wide" 607,vS "least" 608,vS "most" 609]]++([oQ [vS "ink" 611,vS "size" 612]]++([oD [dE P "wide" 614 (vR 293),dE P "most" 616 (vR 294),dE P "flow" 618 (vR 295),dE P "spread" 623 (vR 296),dE P "stand" 628 (vR 297)] 5,oQ [vS "auto" 615],oQ [vS "none" 617],oQ [vS "stack" 619,vS "row" 620,vS "wrap" 621,vS "fair" 622],oQ [vS "left" 624,vS "middle" 625,vS "right" 626,vS "apart" 627],oQ [vS "top" 629,vS "middle" 630,vS "bottom" 631,vS "full" 632]]++(wO "" w8 Uc Hj k)))))))))
noncomputable def cG3(P:RE)(k:Ry DictEntry):Ry DictEntry:=dE P "NoRule" 545 (vR 261)::(dE P "NoValue" 561 (vR 273)::(dE P "LONGEST_NAME" 565 (vI 8 564)::(wG P Uc NL (wG P Uc NK (dE P "PROPS" 596 (vR 288)::(dE P "NUMBER_PROPS" 606 (vR 289)::(dE P "PART_PROPS" 610 (vR 290)::(dE P "HANDED_PROPS" 613 (vR 291)::(dE P "WORDS" 638 (vR 292)::(wG P Uc Hj k))))))))))
def cP3(k:Ry RA):Ry RA:=zI (zN (Uc 32)).2::zI 0::vR 257::(zI (zN (Uc 33)).2::zI 0::vR 269::(wP 0 Uc NL (wP 0 Uc NK (wP 0 Uc Hj k))))
def cO4(P:RE)(k:Ry Obj):Ry Obj:=wO "" w8 Uc NJ (wO "" w9 Uc NI k)
def cG4(P:RE)(k:Ry DictEntry):Ry DictEntry:=wG P Uc NJ (wG P Uc NI (dE P "MOST_BOXES" 700 (vI 90 699)::(dE P "MOST_DEEP" 702 (vI 12 701)::k)))
def cP4(k:Ry RA):Ry RA:=wP 0 Uc NJ (wP 0 Uc NI k)
noncomputable def cO5(P:RE)(k:Ry Obj):Ry Obj:=kO P w10 347 703 0 [(.type y9)] [(.type y9)] (Uc 56) 473 862 [354,715,0,361,723,1,368,733,2,375,741,3,382,752,4,389,760,5,396,770,6,403,779,7,410,788,8,417,797,9,424,806,10,431,814,11,438,822,12,445,830,13,452,838,14,459,846,15,466,854,16,473,862] (wO "" w10 Uc NH k)
def cG5(P:RE)(k:Ry DictEntry):Ry DictEntry:=dE P "Tree" 876 (vR 475)::(wG P Uc NH k)
def cP5(k:Ry RA):Ry RA:=zI (zN (Uc 56)).2::zI 0::vR 352::(wP 0 Uc NH k)
noncomputable def cO6(P:RE)(k:Ry Obj):Ry Obj:=wO "" w10 Uc NG (kO P w11 494 896 0 [(.type y9)] [(.type y9)] (Uc 61) 543 955 [501,908,0,508,915,1,515,923,2,522,932,3,529,940,4,536,948,5,543,955] (wO "" w11 Uc NF (wO "" w12 Uc Hi k)))
def cG6(P:RE)(k:Ry DictEntry):Ry DictEntry:=wG P Uc NG (dE P "MOST_RULES" 895 (vI 40 894)::(dE P "Sheet" 964 (vR 545)::(wG P Uc NF (wG P Uc Hi k))))
def cP6(k:Ry RA):Ry RA:=wP 0 Uc NG (zI (zN (Uc 61)).2::zI 0::vR 499::(wP 0 Uc NF (wP 0 Uc Hi k)))
def cO7(P:RE)(k:Ry Obj):Ry Obj:=wO "" w12 Uc ND k
def cG7(P:RE)(k:Ry DictEntry):Ry DictEntry:=wG P Uc ND k
def cP7(k:Ry RA):Ry RA:=wP 0 Uc ND k
def sT(z:RE->Ry Obj)(n t:Nat)(w:World)(os:OsState):SharedT:=⟨zH 20 (z w.params),n,lf0,⟨[]⟩,⟨0,0,0,0⟩,t,os⟩
noncomputable def zA(P:RE)(k:Ry Obj):Ry Obj:=boot_o_0 P::boot_o_1 P::boot_o_2 P::boot_o_3 P::boot_o_4 P::boot_o_5 P::boot_o_6 P::boot_o_7 P::boot_o_8 P::boot_o_9 P::boot_o_10 P::zQ []::zF .none []::zC "<module>" "<module>" 1 0 0 11 false .none .none .none 182 185::⟨(.type y2),none,.plain,⟨[(some (vR 13)),(some (vR 3)),(some (vR 3)),none,(some (vS "__main__" 164)),none,(some (vR 0))]⟩⟩::k
def hA(P:RE):Heap:=⟨⟨zA P []⟩,lf0⟩
def bG(P:RE)(v:RA)(k:Ry DictEntry):Ry DictEntry:=match(boot_o_3 P).data with
 |.dict ⟨e::g⟩ _=>⟨e.hash,e.key,v⟩::(g++k)
 |_=>[]
def z0(P:RE):Ry Obj:=zA P []
def S1:=sT z0 15 187
def z1(P:RE):Ry Obj:=zX 3 (λ _=>zV (bG P (vS "stylehouse.patterns" 316) (cG0 P [])) 26) (zX 12 (λ _=>zF .none (cP0 [])) (zA P (cO0 P [])))
def S2:=sT z1 156 379
def z2(P:RE):Ry Obj:=zX 200 (zS [vR 213]) (zX 3 (λ _=>zV (bG P (vS "stylehouse.errors" 446) (cG0 P (cG1 P []))) 33) (zX 12 (λ _=>zF .none (cP0 (cP1 []))) (zA P (cO0 P (cO1 P [])))))
def S3:=sT z2 216 482
noncomputable def z3(P:RE):Ry Obj:=zX 200 (zS [vR 213,vR 225,vR 237,vR 249]) (zX 3 (λ _=>zV (bG P (vS "stylehouse.errors" 446) (cG0 P (cG1 P (cG2 P [])))) 36) (zX 12 (λ _=>zF .none (cP0 (cP1 (cP2 [])))) (zA P (cO0 P (cO1 P (cO2 P []))))))
def S4:=sT z3 252 530
noncomputable def z4(P:RE):Ry Obj:=zX 200 (zS [vR 213,vR 225,vR 237,vR 249,vR 261,vR 273]) (zX 3 (λ _=>zV (bG P (vS "stylehouse.props" 581) (cG0 P (cG1 P (cG2 P (cG3 P []))))) 49) (zX 12 (λ _=>zF .none (cP0 (cP1 (cP2 (cP3 []))))) (zA P (cO0 P (cO1 P (cO2 P (cO3 P [])))))))
def S5:=sT z4 319 661
noncomputable def z5(P:RE):Ry Obj:=zX 200 (zS [vR 213,vR 225,vR 237,vR 249,vR 261,vR 273]) (zX 3 (λ _=>zV (bG P (vS "stylehouse.tree" 697) (cG0 P (cG1 P (cG2 P (cG3 P (cG4 P [])))))) 55) (zX 12 (λ _=>zF .none (cP0 (cP1 (cP2 (cP3 (cP4 [])))))) (zA P (cO0 P (cO1 P (cO2 P (cO3 P (cO4 P []))))))))
def S6:=sT z5 347 703
noncomputable def z6(P:RE):Ry Obj:=zX 200 (zS [vR 213,vR 225,vR 237,vR 249,vR 261,vR 273]) (zX 3 (λ _=>zV (bG P (vS "stylehouse.tree" 697) (cG0 P (cG1 P (cG2 P (cG3 P (cG4 P (cG5 P []))))))) 57) (zX 12 (λ _=>zF .none (cP0 (cP1 (cP2 (cP3 (cP4 (cP5 []))))))) (zA P (cO0 P (cO1 P (cO2 P (cO3 P (cO4 P (cO5 P [])))))))))
def S7:=sT z6 487 884
noncomputable def z7(P:RE):Ry Obj:=zX 200 (zS [vR 213,vR 225,vR 237,vR 249,vR 261,vR 273]) (zX 3 (λ _=>zV (bG P (vS "law_stylehouse_k24_told_values" 973) (cG0 P (cG1 P (cG2 P (cG3 P (cG4 P (cG5 P (cG6 P [])))))))) 71) (zX 12 (λ _=>zF .none (cP0 (cP1 (cP2 (cP3 (cP4 (cP5 (cP6 [])))))))) (zA P (cO0 P (cO1 P (cO2 P (cO3 P (cO4 P (cO5 P (cO6 P []))))))))))
def S8:=sT z7 627 1074
noncomputable def z8(P:RE):Ry Obj:=zX 200 (zS [vR 213,vR 225,vR 237,vR 249,vR 261,vR 273]) (zX 3 (λ _=>zV (bG P (vS "law_stylehouse_k24_told_values" 973) (cG0 P (cG1 P (cG2 P (cG3 P (cG4 P (cG5 P (cG6 P (cG7 P []))))))))) 78) (zX 12 (λ _=>zF .none (cP0 (cP1 (cP2 (cP3 (cP4 (cP5 (cP6 (cP7 []))))))))) (zA P (cO0 P (cO1 P (cO2 P (cO3 P (cO4 P (cO5 P (cO6 P (cO7 P [])))))))))))
def S9:=sT z8 674 1170
def hF(P:RE):Heap:=⟨⟨z8 P⟩,lf0⟩
def SA(w:World)(os:OsState):RD:=⟨hA w.params,⟨[]⟩,⟨0,0,0,0⟩,187,os⟩
def SF(w:World)(os:OsState):RD:=⟨hF w.params,⟨[]⟩,⟨0,0,0,0⟩,1170,os⟩
def S0(w:World)(os:OsState):RD:=⟨boot_heap w.params,⟨[]⟩,boot_drawn,boot_toks,os⟩
noncomputable def hV:Program:={ hp with main:={ hp.main with body:=[Uc 0,Uc 2,Uc 3,Uc 4,Uc 5,Uc 6,Uc 8,Uc 9,Uc 10,Uc 11,Uc 12,Uc 14,Uc 15,Uc 16,Uc 17,Uc 18,Uc 19,Uc 21,Uc 22,Uc 23,Uc 24,Uc 25,Uc 27,Uc 28,Uc 29,Uc 30,Uc 31,Uc 32,Uc 33,Uc 35,Uc 36,Uc 38,Uc 40,Uc 41,Uc 42,Uc 43,Uc 44,Uc 45,Uc 46,Uc 47,Uc 48,Uc 49,Uc 51,Uc 52,Uc 54,Uc 55,Uc 56,Uc 57,Uc 58,Uc 60,Uc 61,Uc 62,Uc 64,Uc 65,Uc 66,Uc 67,Uc 68,Uc 69,Uc 70,Uc 71,Uc 72,Uc 73,Uc 74,Uc 75,Uc 76,Uc 77,Uc 78,Uc 79,Uc 80] } }
abbrev hX:RD->Bool:=λ s=>xlAt hV [] s&&recOk (RowW.records (OpenRow.toRowW (OpenLaw.row hl))) s
noncomputable def hAs:Ry RB:=164::0::1::2::3::4::5::6::7::8::9::10::13::14::20::21::27::28::34::35::41::42::48::49::55::56::69::70::76::77::83::84::85::86::87::88::89::97::98::102::103::109::110::114::115::119::120::126::127::133::134::140::141::147::148::154::155::161::162::168::169::175::176::182::183::189::190::198::199::200::201::211::212::213::223::224::225::235::236::237::247::248::249::259::260::261::271::272::273::279::280::286::287::288::289::290::291::292::293::294::295::296::297::303::304::310::311::317::318::324::325::331::332::338::339::345::346::359::360::366::367::373::374::380::381::387::388::394::395::401::402::408::409::415::416::422::423::429::430::436::437::443::444::450::451::457::458::464::465::471::472::473::474::475::476::477::485::486::492::493::506::507::513::514::520::521::527::528::534::535::541::542::543::544::545::546::547::555::556::562::563::569::570::576::577::583::584::590::591::597::598::604::605::611::612::618::619::625::626::630::631::637::638::644::645::651::652::658::659::665::666::672::673::[]
def ob(P:RE)(a:Nat):Obj:=(z8 P).getD a (zQ [])
def hKc(P:RE):RC:=(hAs.drop 1).map λ a=>(a,ob P a)
def hK:Params->W.Frag:=λ P=>(nat_lit 164,zF .none [])::hKc P
set_option maxHeartbeats 0
theorem jK(r:String){Q:World->Prop}(h:∀(w:World) (b:Bool),Q { w with params:={ w.params with followText:=λ x=>if x == r then b else w.params.followText x } })(w:World):Q w:=by
 have e:(λ x=>if x == r then w.params.followText r else w.params.followText x)=w.params.followText:=by
  funext x
  by_cases z:x=r
  · subst z;simp
  · simp[z]
 have:=h w (w.params.followText r);rw[e]at this;exact this
theorem N0:∀ w,(λ os=>topGo treeTable hp w 11 hAn 12 (S0 w os) (topStub hp))=λ os=>some (SA w os,⟨denote treeTable hC,hC,⟨0,0,0,0⟩,hB⟩):=by
 rewrite [PySem.W.Fast.te15667345088766844465,Y4,PySem.W.Fast.te11892475500146522536]
 refine jK "special-get-raises" ?_;intro w b0;cases b0<;>kernel_rfl
theorem N2:∀ w,(λ os=>segRun treeTable hp w 11 hAn 1 1 (SA w os) (blockOf (behindTheImports hp) hE hC ⟨0,0,0,0⟩ hB))=λ os=>some (Flow.next,(S1 w os).abs,hC,⟨0,0,0,0⟩):=by
 rewrite [PySem.W.Fast.te14374325043358763698,Y4]
 refine jK "special-get-raises" ?_;intro w b0;cases b0<;>kernel_rfl
def RQ(k:Nat)(S S':World->OsState->SharedT)(l:Ry Stmt)(p p':Pos):Prop:=∀ w,(λ os=>segRunT treeTable hp w 11 hAn 1 k (S w os) (piecesOf l hE hC p hB))=λ os=>some (Flow.next,S' w os,hC,p')
local macro_rules|`(tactic| walk_at "hr")=>`(tactic| (unfold RQ;rewrite [PySem.W.Fast.te10110043849684766642,Y4];refine jK "special-get-raises" ?_;intro w b0;cases b0<;>kernel_rfl))
def Ql:RQ 801 S1 S2 OL ⟨0,0,0,0⟩ ⟨97,0,101,15⟩:=by walk_at "hr"
theorem Qk:RQ 593 S2 S3 OK ⟨97,0,101,15⟩ ⟨143,0,144,8⟩:=by walk_at "hr"
theorem Qj:RQ 640 S3 S4 OJ ⟨143,0,144,8⟩ ⟨149,0,150,8⟩:=by walk_at "hr"
theorem Qi:RQ 777 S4 S5 OI ⟨149,0,150,8⟩ ⟨178,0,191,16⟩:=by walk_at "hr"
theorem Qh:RQ 159 S5 S6 OH ⟨178,0,191,16⟩ ⟨213,0,213,9⟩:=by walk_at "hr"
theorem Qg:RQ 781 S6 S7 OG ⟨213,0,213,9⟩ ⟨310,0,312,67⟩:=by walk_at "hr"
theorem Qf:RQ 789 S7 S8 OF ⟨310,0,312,67⟩ ⟨425,0,429,15⟩:=by walk_at "hr"
theorem Qe:RQ 249 S8 S9 OE ⟨425,0,429,15⟩ ⟨509,0,526,78⟩:=by walk_at "hr"
theorem N1:∀ w,(λ os=>topRun treeTable hp w 11 hAn 2 (S9 w os).abs ⟨doneF .next,hC,⟨509,0,526,78⟩,hB⟩)=λ os=>some (SF w os):=by
 rewrite [PySem.W.Fast.te14082659384304107361,Y4]
 refine jK "special-get-raises" ?_;intro w b0;cases b0<;>kernel_rfl
theorem h_b:behindTheImports hp=OL++(OK++(OJ++(OI++(OH++(OG++(OF++(OE++[]))))))):=by kernel_rfl
theorem NZ(w:World)(os:OsState):topRun treeTable hp w 11 hAn (12+(1+(801+(593+(640+(777+(159+(781+(789+(249+(2))))))))))) (S0 w os) (topStub hp)=some (SF w os):=go_top (Wx (N0 w) os) (piece_block (Wx (N2 w) os) (by
 rw[h_b]
 exact piece_app (segRun_of (Wx (Ql w) os)) (piece_app (segRun_of (Wx (Qk w) os)) (piece_app (segRun_of (Wx (Qj w) os)) (piece_app (segRun_of (Wx (Qi w) os)) (piece_app (segRun_of (Wx (Qh w) os)) (piece_app (segRun_of (Wx (Qg w) os)) (piece_app (segRun_of (Wx (Qf w) os)) (piece_app (segRun_of (Wx (Qe w) os)) (Wx (N1 w) os))))))))))
theorem Le:∀ w:World,((boot_heap w.params).isNs mainGlobals&&(⟨[]⟩:Array GenState).size == 0,(boot_heap w.params).objs.size,(boot_heap w.params).nsMap mainGlobals "__annotations__")=(true,11,hAn):=by
 rewrite [PySem.W.Fast.te8920871248978507458]
 refine jK "special-get-raises" ?_;intro w b0;cases b0<;>kernel_rfl
def AA(w:World):Prop:=(λ os=>((staticsOk (importedModules hp.main.body) (boot_heap w.params) (hF w.params)&&namesBound hp (hF w.params)&&gensDone (SF w os)&&laidKept (boot_heap w.params) (hF w.params)),openSeen hV ["WORDS"] (importedModules hp.main.body) hX true (SF w os),obsZ hAs (SF w os)))=λ _=>(true,openGood hV ["WORDS"],valZ hK 674 1170 w)
theorem HB:∀ w:World,AA { w with params:={ w.params with followText:=λ x=>if x == "special-get-raises" then false else w.params.followText x } }:=by
 unfold AA
 rewrite [PySem.W.Fast.te5923862056798008813,PySem.W.Fast.te4187177175401517315]
 intro w;kernel_rfl
theorem HA:∀ w:World,AA { w with params:={ w.params with followText:=λ x=>if x == "special-get-raises" then true else w.params.followText x } }:=by
 unfold AA
 rewrite [PySem.W.Fast.te5923862056798008813,PySem.W.Fast.te4187177175401517315]
 intro w;kernel_rfl
theorem Lh:∀ w:World,(λ os=>((staticsOk (importedModules hp.main.body) (boot_heap w.params) (hF w.params)&&namesBound hp (hF w.params)&&gensDone (SF w os)&&laidKept (boot_heap w.params) (hF w.params)),openSeen hV ["WORDS"] (importedModules hp.main.body) hX true (SF w os),obsZ hAs (SF w os)))=λ _=>(true,openGood hV ["WORDS"],valZ hK 674 1170 w):=λ w=>jK "special-get-raises" (Q:=AA) (λ w b=>by cases b;exact HB w;exact HA w) w
theorem Li:LeftO hp hV ["WORDS"] hX (obsZ hAs) (valZ hK 674 1170) 9688:=LeftO.of_pieces (boot_open (p:=hp) (N:=9688) (by kernel_rfl) (by decide) (λ _=>by kernel_rfl)) Le NZ (by decide) Lh
def Lg:hl.wellSaid=true:=by kernel_rfl
theorem Lj(said:(OpenLaw.row hl).wellSaid=true)(hw:(OpenRow.toRowW (OpenLaw.row hl)).promised){d:DefRec}{kwd:Ry (Str×Expr)}(hdef:defOf hV (OpenLaw.row hl).name=some (d,kwd))(hp':(OpenLaw.row hl).prog.theDef (OpenLaw.row hl).name=some (d.params,d.body,d.scope))(hk:kwWritten? d.params.kwonlyargs d.params.kw_defaults=some kwd)(call:WalkX hV ["WORDS"] (XL hV []) (obsZ hAs) (valZ hK 674 1170) (OpenRow.toRowW (OpenLaw.row hl)) d kwd λ f vs=>PySem.call f vs):(OpenLaw.row hl).Holds:=
 holds_openX (q:=hV) (loose:=["WORDS"]) (Xt:=hX) (XP:=XL hV []) (Yf:=obsZ hAs) (Ya:=valZ hK 674 1170) (N:=9688) Li (λ s e=>xl_of s (Bool.and_eq_true_iff.mp e).1) XL.keeps hdef hp' hk (λ s e=>recFacts_of (Bool.and_eq_true_iff.mp e).2) rfl said (by decide +kernel) ⟨rfl,rfl,rfl,rfl,rfl,by decide +kernel⟩ hw call
end HD24
end
section
namespace L2
open PySem PySem.Spec PyProof.Rows
section
variable{X:Cx}
def Sz(i:Int):Prop:=i.natAbs<2 ^ 4000
theorem Sz.bits(h:Sz i):Builtin.Int.intBits i<=2 ^ 20:=Zu (PySem.intBits_le_iff.mpr h) (by decide)
theorem Sz.log(h:Sz i):i.natAbs.log2<9000:=by
 by_cases z:i.natAbs=0
 · rw[z];decide
 · exact(Nat.log2_lt z).mpr (X6 h (Nat.pow_lt_pow_right (by decide) (by decide)))
theorem G2:OpR X (binaryOp .FloorDiv) (rI (λ _ j=>j≠0/\Sz j) λ i j=>.int (i.fdiv j)):=opI λ _ _ _ _ _ _ _ hc q=>floordiv_int hc.1 q (.inl (PyProof.noPylong_of_log2 hc.2.log))
end
open PySem.W in
mutual
inductive RdD (K:W.Frag) (H:Hp):V->Dat->Prop where
 |non:RdD K H .non .none
 |int (i:Int):RdD K H (.int i) (.int i)
 |str (x:Str):RdD K H (.str x) (.str x)
 |tup {a:Addr} {xs:List V} {ds:List Dat} (h:SqT K H a xs) (r:ym K H xs ds):RdD K H (.ref a) (.tuple ds)
 |lst {a:Addr} {xs:List V} {ds:List Dat} (h:SqL K H a xs) (r:ym K H xs ds):RdD K H (.ref a) (.list ds)
inductive ym (K:W.Frag) (H:Hp):List V->List Dat->Prop where
 |nil:ym K H [] []
 |cons {x:V} {d:Dat} {xs:List V} {ds:List Dat} (h:RdD K H x d) (r:ym K H xs ds):ym K H (x::xs) (d::ds)
end
section
open PySem.W
variable{X:Cx}{Qv:Ry (RB×Obj)}{σ:St}{H:Hp}{s:RD}
mutual
theorem RdD.reads (I:Inv X Qv σ H s):∀ {v:V} {d:Dat} {u:RA},RdD X.K H v d->RelV v u->∃ as,Reads s.heap u (kqdP d) as
 |_,_,u,.non,rv=>by cases(show u=Value.none from rv);exact⟨_,Reads.none⟩
 |_,_,u,.int i,rv=>by obtain⟨t,rfl⟩:=(show ∃ t,u=Value.int i t from rv);exact⟨_,Reads.int i t⟩
 |_,_,u,.str x,rv=>by obtain⟨t,rfl⟩:=(show ∃ t,u=Value.str x t from rv);exact⟨_,Reads.str x t⟩
 |_,_,u,@RdD.tup _ _ a xs ds h r,rv=>by
  cases(show u=Value.ref a from rv);obtain⟨its,vs,p,_⟩:=I.tuple h;obtain⟨as,q⟩:=ym.reads I r vs;obtain⟨o,h1,h2,n,h3⟩:=p;rw[kqdP];exact⟨as,reads_tuple_at h1 h2 h3 (by simpa using q)⟩
 |_,_,u,@RdD.lst _ _ a xs ds h r,rv=>by
  cases(show u=Value.ref a from rv);obtain⟨its,vs,p,_⟩:=I.list h;obtain⟨as,q⟩:=ym.reads I r vs;obtain⟨o,h1,h2,n,h3⟩:=p.isList;rw[kqdP];exact⟨a::as,reads_list_at h1 h2 h3 (by simpa using q)⟩
theorem ym.reads (I:Inv X Qv σ H s):∀ {vs:Ry V} {ds:Ry Dat} {us:Ry RA},ym X.K H vs ds->bQ vs us->∃ as,ReadsAll s.heap us (kqdPs ds) as
 |_,_,_,.nil,.nil=>by rw[kqdPs];exact⟨_,ReadsAll.nil⟩
 |_,_,_,.cons h r,.cons rv rs=>by
  obtain⟨as,q⟩:=RdD.reads I h rv;obtain⟨bs,p⟩:=ym.reads I r rs;rw[kqdPs];exact⟨_,ReadsAll.cons q p⟩
end
theorem cG(h:kqdOk 9 d=true):SeqAt.shaped (kqdP d)=true:=by
 have la:=kqd_lay 9 d h;unfold SeqAt.shaped;rw[la.1,Bool.true_and];exact Zk (Zu la.2 (by decide))
open Classical in
theorem mK(h:kqdOk 9 d=true)(h':kqdOk 9 e=true):PyData.eqv (kqdP d) (kqdP e)=decide (d=e):=by
 have q:=kqd_eqv 9 d e 9 h h'
 by_cases hq:d=e
 · rw[Zk hq];exact q.mpr hq
 · rw[Zp hq];exact Bool.eq_false_iff.mpr λ x=>hq (q.mp x)
open Classical in
def eqD(d e:Dat):Bool:=decide (d=e)
open Classical in
def D1(h:d=e):eqD d e=true:=Zk h
open Classical in
def Bq(h:d≠e):eqD d e=false:=Zp h
def PV(K:RC):R2:=λ x y H Q=>∃ d e,RdD K H x d/\RdD K H y e/\kqdOk 9 d=true/\kqdOk 9 e=true/\Q (.bl (eqD d e)) H
def PQ(K:RC):R2:=λ x y H Q=>∃ d e,RdD K H x d/\RdD K H y e/\kqdOk 9 d=true/\kqdOk 9 e=true/\Q (.bl (!eqD d e)) H
theorem Kh(hu:X.A.units+64<cLine):OpR X (compareOp .Eq) (PV X.K):=by
 intro Qv s σ H x y v u Q I rx ry h;obtain⟨d,e,hd,he,kd,ke,q⟩:=h;obtain⟨as,ra⟩:=hd.reads I rx;obtain⟨bs,rb⟩:=he.reads I ry;refine eq_dataH ra rb (cG kd) (cG ke) hu ⟨.bl _,H,I,rfl,?_⟩;rw[mK kd ke];exact q
theorem Ke(hu:X.A.units+64<cLine):OpR X (compareOp .NotEq) (PQ X.K):=by
 intro Qv s σ H x y v u Q I rx ry h;obtain⟨d,e,hd,he,kd,ke,q⟩:=h;obtain⟨as,ra⟩:=hd.reads I rx;obtain⟨bs,rb⟩:=he.reads I ry;refine ne_dataH ra rb (cG kd) (cG ke) hu ⟨.bl _,H,I,rfl,?_⟩;rw[mK kd ke];exact q
end
theorem bM.tup{K:RC}{H H':Hp}{a:RB}{xs:Ry V}(e:bM H H')(h:SqT K H a xs):SqT K H' a xs:=by
 rcases h with (h|⟨o,h⟩)|h
 · exact .inl (.inl (e _ _ h))
 · exact .inl (.inr ⟨o,e _ _ h⟩)
 · exact .inr h
def aF(h:H p=none)(o:HO):bM H (upd H p o):=λ b u q=>by rw[ar (dJ q h)];exact q
abbrev OD(ifs:Ry Expr)(env:Env):Sem Bool:=forIn ifs true λ c r=>if r=true then do let ok <- isTrue c env (eval c env);pure (ForInStep.yield ok) else pure (ForInStep.yield r)
section
variable{prog:Program}{w:World}{A:Around}{R:Result->RD->Prop}{s:RD}
theorem pW {EE:RA->RD->Prop} (I:Nat->RD->Prop)
  (turn:∀ n s,I n s->wpAny (model prog w) A (pyNext it) (λ r s₁=>match r with
    |none=>R (.ok .next) s₁
    |some v=>wpAny (model prog w) A (letOwnedTupleGo target it v) (λ _ s₁'=>wpAny (model prog w) A (assign target env v) (λ _ s₂=>wpAny (model prog w) A (OD ifs env) (λ ok s₂'=>if ok=true then wpAny (model prog w) A (eval elt env) (λ x s₃=>
     wpAny (model prog w) A (call (.builtin "list.append") [acc,x]) (λ _ s₄=>∃ m,m<n/\I m s₄) EE s₃) EE s₂' else ∃ m,m<n/\I m s₂') EE s₂) EE s₁') EE s₁) EE s)
  (n:Nat) (h:I n s) (hE:∀ e s,EE e s->notedBy (model prog w) A env (λ e s'=>R (.error e) s') e s):codeAny (model prog w) A (.compLoop (.ListComp elt [⟨target,iter,ifs,0⟩] scope pos) 0 it acc env) R s:=by
 refine codeAny_loop rfl I (λ n s hI=>?_) n h;refine wpAny_noted ?_
 rw[compTurn_list];refine Zc (wpAny_standAt (Zc (Ys (turn n s hI) (λ r s₁ h₁=>?_) hE)))
 cases r with
 |none=>exact Zw h₁
 |some v=>
  refine Zc (Ys h₁ (λ _ s₁' h₁'=>?_) hE);refine Zc (Ys h₁' (λ _ s₂ h₂=>?_) hE);refine Zc (Ys h₂ (λ ok s₃ h₃=>?_) hE)
  cases ok with
  |false=>
    rw[if_neg Zf]at h₃
    rw[if_neg Zf];exact Zc (Zw (Zw ⟨rfl,h₃⟩))
  |true=>
    rw[if_pos rfl]at h₃
    rw[if_pos rfl];exact Zc (Zc (Ys h₃ (λ x s₄ h₄=>Zc (Ys h₄ (λ _ s₅ h₅=>Zw (Zw ⟨rfl,h₅⟩)) hE)) hE))
end
noncomputable def cW (X:Cx) (scope:Scope) (cl:Ry (Str×RB)) (N:Ry Str) (s:RD) (H:Hp) (fp:Ry RB) (C:RB):Cx where
 prog:=X.prog
 w:=X.w
 K:=X.K
 mg:=X.mg
 base:=X.base
 A:=X.A
 N:=N
 s₀:=s
 H₀:=H
 env:=compEnvC scope cl C X.env
 outer:=X.stack
 stack:=X.stack
 ex:=fp
 calm:=X.calm
 fn:=λ _=>false
 pn:=[]
 xe:=λ _ _=>False
structure eX (X:Cx) (scope:Scope) (cl:List (Str×Addr)) (x:Str) (cs:List (Str×Nat)):Prop where
 kB:closureFor scope X.env=pure cl
 kind:scope.kind=.function
 oi:∀ y ∈ scope.names,y.2≠.cell
 names:∀ y ∈ scope.names,y.2=.local->scope.names.lookup y.1=some .local
 own:scope.names.lookup x=some .local
 sub:∀ y c,cl.lookup y=some c->X.env.cells.lookup y=some c
 has:∀ y,((relabel scope X.env).names.lookup y=some .cell\/(relabel scope X.env).names.lookup y=some .free)->∃ c,cl.lookup y=some c
 Oj:∀ p ∈ cs,X.N[p.2]?=some p.1/\(X.env.kindOf p.1=some .cell\/X.env.kindOf p.1=some .free)/\((relabel scope X.env).names.lookup p.1=some .cell\/(relabel scope X.env).names.lookup p.1=some .free)
 nd:(x::cs.map (·.1)).Nodup
def aQ(σ:St)(cs:Ry (Str×Nat)):St:=cs.map λ p=>(σ[p.2]?).join
section
variable{X:Cx}{Qv:Ry (RB×Obj)}{σ:St}{H:Hp}{s:RD}{scope:Scope}{cl:Ry (Str×RB)}{x:Str}{cs:Ry (Str×Nat)}{fp:Ry RB}{C:RB}{h':Heap}{t':Nat}
theorem xU (O:eX X scope cl x cs) (I:Inv X Qv σ H s) (f2:∀ b ∈ fp,sZ X Qv H b) (there:∀ b ∈ fp,b < s.heap.objs.size) (hC:s.heap.objs.size<=C)
  (old:∀ b o,s.heap.get? b=some o->h'.get? b=some o) (hn:h'.Ns C λ _=>none):Inv (cW X scope cl (x::cs.map (·.1)) s H fp C) [] (none::aQ σ cs) H { s with heap:=h',toks:=t' }:=by
 refine⟨⟨I.ok.mod,O.kind,I.ok.glob,I.ok.blt,hC,λ y z c h1 h2=>I.ok.inj y z c (O.sub y c h1) (O.sub z c h2),λ y hy=>O.has y hy,λ _ _ h=>absurd (h) Zf,I.ok.hd,I.ok.frames,.inl rfl,
   λ b hb=>⟨Zx (Zt (there b hb) hC),λ y c e=>(f2 b hb).2.2.2.2.1 y c (O.sub y c e)⟩,I.bs,Zu I.ok.bsz I.sz,λ b o e hb=>?_,λ b hb z=>?_,I.stack,I.oX⟩,
  rfl,I.bare,Un.kept old,⟨_,hn,λ i y v e1 e2 e3=>?_⟩,λ y c e=>?_,I.hok.fresh hC,λ y c e=>I.nN y c (O.sub y c e),λ p hp=>absurd (show p ∈ ([]:Ry (RB×Obj)) from hp) (by simp),I.hok.kept old,?_⟩
 ·rcases (f2 b hb).2.2.2.1 with z | z
  · exact I.ok.Kr b o e z
  · exact absurd (Zt (Zr e) (Zu I.ok.bsz z)) (Y3 _)
 · exact(Zi.mp (I.uR b z)).elim (f2 b hb).2.1 (f2 b hb).2.2.1
 ·cases i with
  |zero=>simp at e2
  |succ j=>
   have e1':(cs.map (·.1))[j]?=some y:=by simpa [cW] using e1
   have e2':(aQ σ cs)[j]?=some (some v):=by simpa using e2
   unfold aQ at e2';rw[QD]at e1' e2'
   cases q:cs[j]? with
   |none=>rw[q]at e1';cases e1'
   |some p=>
    rw[q]at e1' e2';have ey:p.1=y:=by simpa using e1'
    have ev:(σ[p.2]?).join=some v:=by simpa using e2'
    have ev':σ[p.2]?=some (some v):=by
     cases z:σ[p.2]? with
     |none=>rw[z]at ev;cases ev
     |some o=>rw[z]at ev;exact Z6 some ev
    obtain⟨c1,c2,c3⟩:=O.Oj p (QE q);subst ey;obtain⟨m,hm,hl⟩:=I.loc
    obtain⟨u,ru,lk⟩:=hl p.2 p.1 v c1 ev' (by
     rcases c2 with c2|c2
     · exact .inr (.inl c2)
     · exact .inr (.inr c2))
    obtain⟨c',ec'⟩:=O.has p.1 c3;refine⟨u,ru,.inr ⟨c3,c',ec',?_⟩⟩;rcases lk with ⟨k,_⟩|⟨_,c,ec,o,ho,hd⟩
    ·rcases c2 with c2 | c2
     · rw[c2]at k;cases k
     · rw[c2]at k;cases k
    ·have:=O.sub p.1 c' ec'
     rw[ec]at this;cases this;exact⟨o,old _ o ho,hd⟩
 ·obtain ⟨v,o,ho,hd⟩:=I.cell y c (O.sub y c e)
  exact⟨v,o,old c o ho,hd⟩
 · simp[cW,aQ]
end
def PTs(X:Cx)(ifs:Ry Expr)(t:TT):Prop:=∀(Qv:Ry (RB×Obj)) (s:RD) (σ:St) (H:Hp) (Q:Bool->Hp->Prop),Inv X Qv σ H s->t σ H Q->wpAny (model X.prog X.w) X.A (OD ifs X.env) (TP X Qv σ Q) X.xe s
def GA{X:Cx}:PTs X [] λ _ H Q=>Q true H:=λ _ _ _ H _ I h=>Zw ⟨H,I,h⟩
theorem Gz{X:Cx}{c:Expr}{t:TT}(h:PT X c t):PTs X [c] t:=λ Qv s σ H Q I q=>wpAny_tests_one (h Qv s σ H Q I q)
def Ey(J:It)(te:TE)(cs:Ry (Str×Nat))(σ:St)(Q:VK)(H1:Hp):Prop:=∃ W:Nat->Nat->Ry V->Hp->Prop,(∃ m,W 0 m [] H1)/\∀ i m ys H',W i m ys H'->(J.stop i H'/\ys.length<=sizeLine/\∀ p,H' p=none->Q (.ref p) (upd H' p (.lst ys)))\/(J.go i H'/\ys.length<sizeLine/\∀ v H2,J.yld i H' v H2->te (some v::aQ σ cs) H2 λ y H3=>∃ m',m'<m/\W (i+1) m' (ys++[y]) H3)
def Jw(wi:TI)(te:TE)(cs:Ry (Str×Nat)):TE:=λ σ H Q=>wi σ H λ J H1=>Ey J te cs σ Q H1
section
variable{X:Cx}
theorem BH {ifs:Ry Expr} {tt:TT} {elt iter:Expr} {x:Str} {px pos:Pos} {scope:Scope} {cs:Ry (Str×Nat)} {te:TE} {Qv:Ry (RB×Obj)} {σ:St} {H:Hp} {s s1:RD} {Q:VK} {it:RB} {fp:Ry RB} {tn:Nat->Heap->Prop} {J:It}
  {RR:RA->RB->Result->RD->Prop} {Y:Cx} {ev:Env} {C D:RB} {W:Nat->Nat->Ry V->Hp->Prop} {m0:Nat} (hc:X.calm=true)
  (I:Inv X Qv σ H s) (T:Turn X.prog X.w X.K (.Name x px) J fp it tn) (f2:∀ b ∈ fp,sZ X Qv H b) (there:∀ b ∈ fp,b<s.heap.objs.size) (w0:W 0 m0 [] H)
  (turn:∀ i m ys H',W i m ys H'->(J.stop i H'/\ys.length<=sizeLine/\∀ p,H' p=none->Q (.ref p) (upd H' p (.lst ys)))\/(J.go i H'/\ys.length<sizeLine/\∀ v H2,J.yld i H' v H2->tt (some v::aQ σ cs) H2 λ b H3=>if b=true then te (some v::aQ σ cs) H3 λ y H4=>∃ m',m'<m/\W (i+1) m' (ys++[y]) H4 else ∃ m',m'<m/\W (i+1) m' ys H3))
  (hRR:∀ D C s' H' ys,s.heap.objs.size<=D->s.heap.objs.size<=C->D≠C->(∃ m,s'.heap.Ns C m)->Inv X Qv σ (upd H' D (.lst ys)) s'->H' C=none->Q (.ref D) (upd H' D (.lst ys))->RR (.ref D) C (.ok .next) s')
  (hD:s.heap.objs.size=D) (hDC:D≠C) (hCle:D<=C) (st1:tn 0 s1.heap) (hacc:s1.heap.get? D=some { cls:=.type "list",data:=.seq ([]:Ry RA).toArray 0 }) (I1:Inv Y [] (none::aQ σ cs) H s1) (pgx:PG Y (.Name x px) (xF 0)) (ptY:PTs Y ifs tt) (peY:PE Y elt te)
  (Yx:Y.prog=X.prog/\Y.w=X.w/\Y.K=X.K/\Y.A=X.A/\Y.env=ev/\Y.calm=X.calm/\Y.pn=[]/\Y.ex=fp/\Y.fs=frs X.stack/\Y.s₀=s/\Y.H₀=H) (yl0:ev.locals=C) (hZ:∀ e s',Y.xe e s'->notedBy (model X.prog X.w) X.A ev (λ x s''=>RR (.ref D) C (.error x) s'') e s') (yc:∀ z c,Y.env.cells.lookup z=some c->D<c\/X.env.cells.lookup z=some c):codeAny (model X.prog X.w) X.A (.compStart (.ListComp elt [⟨.Name x px,iter,ifs,0⟩] scope pos) 0 (.ref it) (.ref D) ev) (RR (.ref D) C) s1:=by
 have FD:=I.yt (b:=D) (by rw[<- hD];exact Zo _) (I.hok.fresh (by rw[<- hD];exact Zo _));have nfpD:∀ b ∈ fp,b≠D:=λ b hb=>by rw[<- hD];exact Zx (there b hb)
 have nfpC:∀ b ∈ fp,b≠C:=λ b hb=>Zx (Zt (there b hb) (by rw[hD];exact hCle))
 obtain⟨y1,y2,y3,y4,y5,y6,y8,y9,y10,y11,y12⟩:=Yx;have nstk:∀ b,b≠X.env.locals->b ∉ X.fs->b ∉ Y.fs:=λ b h1 h2 z=>by rw[y10]at z;exact(Zi.mp (I.uR b z)).elim h1 h2
 have yl:Y.env.locals=C:=by rw[y5];exact yl0
 have stat:∀{ps:Ry (RB×Obj)} {H':Hp},(∀ b ∈ fp,H' b=none)->(∀ p ∈ ps,p.1=D)->∀ b ∈ fp,sZ Y ps H' b:=λ{ps H'} hn hp b hb=>
  ⟨hn b hb,by rw[yl];exact nfpC b hb,nstk b (f2 b hb).2.1 (f2 b hb).2.2.1,.inl (by rw[y9];exact hb),λ z c e=>(yc z c e).elim (λ e=>Rv (X6 (hD ▸ there b hb) e)) ((f2 b hb).2.2.2.2.1 z c),λ p hq=>by
    rw[y8,Wy]at hq;rw[hp p hq]
    exact QH (nfpD b hb)⟩
 have pinD:∀{σ':St} {H':Hp} {s':RD} {ob:Obj},Inv Y [] σ' H' s'->H' D=none->s'.heap.get? D=some ob->(∀ v,ob.data≠.cell v)->Inv Y [(D,ob)] σ' H' s':=λ{σ' H' s' ob} I' hn e hd=>
  I'.iN λ p hp=>by
    have e1:p=(D,ob):=by simpa using hp
    subst e1;exact⟨e,hn,by rw[yl];exact hDC,nstk D FD.2.1 FD.2.2.1,hd⟩
 have loop:∀ s₃:RD,s₃=s1->codeAny (model X.prog X.w) X.A (.compLoop (.ListComp elt [⟨.Name x px,iter,ifs,0⟩] scope pos) 0 (.ref it) (.ref D) ev) (RR (.ref D) C) s₃:=by
  rintro s₃ rfl
  refine pW (λ n s'=>∃ i o H' ys its k,Inv Y [] (o::aQ σ cs) H' s'/\tn i s'.heap/\(∀ b ∈ fp,H' b=none)/\H' D=none/\s'.heap.get? D=some { cls:=.type "list",data:=.seq (its:Ry RA).toArray k }/\bQ ys its/\W i n ys H') ?_ m0
    ⟨0,none,H,[],[],0,I1,st1,λ b hb=>(f2 b hb).1,FD.1,hacc,.nil,w0⟩ hZ
  rintro n s3 ⟨i,o,H3,ys,its,k,I3,st3,fr3,frD,e3,vs3,w3⟩
  have I3p:=pinD I3 frD e3 (by intro v z;cases z)
  have onlyD:∀ p ∈ [(D,({ cls:=.type "list",data:=.seq its.toArray k }:Obj))],p.1=D:=λ p hp=>by
    have e1:=Zy.mp hp;rw[e1]
  rcases turn i n ys H3 w3 with ⟨stop,hz,q⟩|⟨go,hz,step⟩
  · have dn:=T.done Y y1 y2 y3 (by rw [y6]; exact hc) i _ s3 (o::aQ σ cs) H3 Y.xe I3p (stat fr3 onlyD) st3 stop
    rw[y4]at dn;refine thn dn λ r s4 w90=>?_
    obtain⟨hr,I4⟩:=w90;subst hr;obtain⟨e4,_⟩:=I4.pin (D,_) (Ze _ (Zy.mpr rfl));have b4:=I4.base;rw[y9,y10,y11,y12]at b4;have hk4:=I4.hok;rw[y1,y2]at hk4;have hCn:H3 C=none:=by have:=I4.free;rw[yl]at this;exact this
    refine hRR D C s4 H3 ys (by rw[<- hD];exact Zo _) (by rw[hD];exact hCle) hDC (by obtain⟨m,hm,_⟩:=I4.loc;rw[yl]at hm;exact⟨m,hm⟩) ?_ hCn (q D frD);have neD:∀ b o,s.heap.get? b=some o->b≠D:=λ b o e=>by rw[<- hD];exact Zx (Zr e)
    have neDH:∀ b u,H b=some u->b≠D:=λ b u e=>by rw[<- hD];exact Zx (I.hok.lt e)
    refine I.Ol (by have:=I4.os;rw[y11]at this;exact this) ⟨b4.keep,b4.slot,λ b o e n hx=>?_,b4.there,λ b xs e=>?_,λ b o u e=>?_,λ b ps e=>?_⟩ (λ b u e=>?_) I4.bare λ b hb=>?_
    · rw[ar (neD b o e)];exact b4.free b o e n hx
    · rw[ar (neDH b _ e)];exact b4.Cb b xs e
    · rw[ar (neDH b _ e)];exact b4.vN b o u e
    · rw[ar (neDH b _ e)];exact b4.Cc b ps e
    ·have t1:∀ c u,H3 c=some u->upd H3 D (.lst ys) c=some u:=λ c u z=>by
      rw[ar (λ zz=>by rw[zz,frD]at z;cases z)];exact z
     by_cases hb:b=D
     ·subst hb
      rw[ay]at e;cases e;exact⟨hz,its,k,vs3,e4⟩
     ·rw [ar hb] at e
      exact(hk4 b u e).qj (λ _ _ _ z=>z) (λ c z=>t1 c _ z) λ c xs z=>t1 c _ z
    · exact⟨(f2 b hb).2.2.2.1,(f2 b hb).2.1,(f2 b hb).2.2.2.2.1,(f2 b hb).2.2.2.2.2⟩
  · have im:=T.item Y y1 y2 y3 (by rw [y6]; exact hc) i _ s3 (o::aQ σ cs) H3 Y.xe I3p (stat fr3 onlyD) st3 go
    rw[y4]at im;refine thn im λ r s4 w90=>?_
    obtain⟨u,hr,h4⟩:=w90;subst hr;refine thn h4 λ _ s5 w90=>?_
    obtain⟨v,H5,I5,r5,y5',st5,fr5⟩:=w90;have I5':=I5.pinned (stat fr5 onlyD) (T.obj _ _ st5);have as:=pgx _ s5 (o::aQ σ cs) H5 v u _ I5' r5 (show xF 0 v (o::aQ σ cs) H5 (λ σ' H'=>σ'=some v::aQ σ cs/\H'=H5) from⟨rfl,rfl⟩);rw[y1,y2,y4,y5]at as;refine thn as λ _ s6 w90=>?_
    obtain⟨σ6,H6,I6,e6,e6'⟩:=w90;subst e6 e6';have ts:=ptY _ s6 _ H6 _ I6 (step v H6 y5');rw[y1,y2,y4,y5]at ts;refine thn ts λ bb s7 w90=>?_
    obtain⟨H7,I7,q7⟩:=w90
    have fpk:∀ b ∈ fp,∀ o,s5.heap.get? b=some o->s7.heap.get? b=some o/\H7 b=none:=λ b hb o e=>by
     obtain⟨z1,z2,_⟩:=I7.pin (b,o) (Ze _ (Ze _ (ic hb e)));exact⟨z1,z2⟩
    cases bb with
    |false=>
     obtain⟨m',hm',w7⟩:=(by rw[if_neg Zf]at q7;exact q7)
     rw[if_neg Zf];obtain⟨e7,n7,_⟩:=I7.pin (D,_) (Ze _ (Zv _ (Zy.mpr rfl)));have I7n:Inv Y [] (some v::aQ σ cs) H7 s7:=I7.iN λ p hp=>absurd hp (by simp)
     refine⟨m',hm',i+1,some v,H7,ys,its,k,I7n,T.keep _ _ _ st5 λ b hb o e=>(fpk b hb o e).1,λ b hb=>?_,n7,e7,vs3,w7⟩;obtain⟨o',e',_⟩:=T.obj _ _ st5 b hb;exact(fpk b hb o' e').2
    |true=>
    rw[if_pos rfl];have q7':=q7;rw[if_pos rfl]at q7';have el:=peY _ s7 _ H7 _ I7 q7';rw[y1,y2,y4,y5]at el;refine thn el λ u8 s8 w90=>?_
    obtain⟨y8',H8,I8,r8,m',hm',w8⟩:=w90;obtain⟨e8,n8,_⟩:=I8.pin (D,_) (Ze _ (Zv _ (Zy.mpr rfl)));have hl3:=vs3.length;refine call_meets F.slot_list_append ⟨_,e8,rfl⟩ F.entry_list_append (F.args_list_append_2 _ _) (PySem.list_append D its.toArray k u8 (by rw[Zs];lia)) ⟨e8,?_⟩;obtain⟨k',up⟩:∃ k',(s8.heap.update D (Obj.mapSeq (·.push u8))).get? D=some { cls:=.type "list",data:=.seq (its.toArray.push u8) k' }:=⟨_,PySem.IsL.update e8 (·.push u8)⟩
    have fpk8:∀ b ∈ fp,∀ o,s5.heap.get? b=some o->s8.heap.get? b=some o/\H8 b=none:=λ b hb o e=>by
     obtain⟨z1,z2,_⟩:=I8.pin (b,o) (Ze _ (Ze _ (ic hb e)));exact⟨z1,z2⟩
    have I8n:Inv Y [] (some v::aQ σ cs) H8 s8:=I8.iN λ p hp=>absurd hp (by simp)
    refine⟨m',hm',i+1,some v,H8,ys++[y8'],its++[u8],k',?_,?_,?_,n8,?_,vs3.append (.cons r8 .nil),w8⟩
    ·refine I8n.turned (λ b o hb e=>(QI s8.heap (Obj.mapSeq (·.push u8)) (QH hb)).trans e) n8 (by rw [yl]; exact hDC) (.inr (by rw [y11,<- hD]; exact Zo _)) (λ z c e=>(yc z c e).elim Rv (FD.2.2.2.2.1 z c)) λ p hp=>?_
     rw[y8]at hp;exact absurd hp (by simp)
    ·refine T.keep _ _ _ st5 λ b hb o e=>?_
     exact(QI s8.heap (Obj.mapSeq (·.push u8)) (QH (nfpD b hb))).trans (fpk8 b hb o e).1
    ·intro b hb
     obtain⟨o',e',_⟩:=T.obj _ _ st5 b hb;exact(fpk8 b hb o' e').2
    ·rw [List.push_toArray] at up
     exact up
 exact codeAny_compStart_list (loop _ rfl) (T.self _ 0 _ _ _ st1 (loop _ rfl))
theorem ux {Z:RB->RA->RD->Prop} {ifs:Ry Expr} {tt:TT} {elt iter:Expr} {x:Str} {px pos:Pos} {scope:Scope} {cl:Ry (Str×RB)} {cs:Ry (Str×Nat)} {te:TE} {Qv:Ry (RB×Obj)} {σ:St} {H:Hp} {s:RD} {Q:VK} {it:RB} {fp:Ry RB} {tn:Nat->Heap->Prop} {J:It}
  {RR:RA->Env->Result->RD->Prop} {E:RA->RD->Prop} (hc:X.calm=true) (O:eX X scope cl x cs) (hcd:∀ C,s.heap.objs.size<=C->PTs ((cW X scope cl (x::cs.map (·.1)) s H fp C).wR (Z C)) ifs tt) (he:∀ C,s.heap.objs.size<=C->PE ((cW X scope cl (x::cs.map (·.1)) s H fp C).wR (Z C)) elt te)
  (hZ:∀ D C e s',Z C e s'->notedBy (model X.prog X.w) X.A (compEnvC scope cl C X.env) (λ x s''=>RR (.ref D) (compEnvC scope cl C X.env) (.error x) s'') e s')
  (I:Inv X Qv σ H s) (T:Turn X.prog X.w X.K (.Name x px) J fp it tn) (st:tn 0 s.heap) (f2:∀ b ∈ fp,sZ X Qv H b)
  (h : ∃ W:Nat->Nat->Ry V->Hp->Prop,(∃ m,W 0 m [] H)/\∀ i m ys H',W i m ys H'->(J.stop i H'/\ys.length<=sizeLine/\∀ p,H' p=none->Q (.ref p) (upd H' p (.lst ys)))\/(J.go i H'/\ys.length<sizeLine/\∀ v H2,J.yld i H' v H2->tt (some v::aQ σ cs) H2 λ b H3=>if b=true then te (some v::aQ σ cs) H3 λ y H4=>∃ m',m'<m/\W (i+1) m' (ys++[y]) H4 else ∃ m',m'<m/\W (i+1) m' ys H3))
  (hRR:∀ D C s' H' ys,s.heap.objs.size<=D->s.heap.objs.size<=C->D≠C->(∃ m,s'.heap.Ns C m)->Inv X Qv σ (upd H' D (.lst ys)) s'->H' C=none->Q (.ref D) (upd H' D (.lst ys))->RR (.ref D) (compEnvC scope cl C X.env) (.ok .next) s'):wpAny (model X.prog X.w) X.A (newList []) (λ acc s₃=>wpAny (model X.prog X.w) X.A (newFunctionEnv scope X.env.globals cl [] X.env.qual none .none (some X.env)) (λ cenv s₄=>
    codeAny (model X.prog X.w) X.A (.compStart (.ListComp elt [⟨.Name x px,iter,ifs,0⟩] scope pos) 0 (.ref it) acc { cenv with scope:=relabel scope X.env }) (RR acc { cenv with scope:=relabel scope X.env }) s₄) E s₃) E s:=by
 obtain⟨W,⟨m0,w0⟩,turn⟩:=h;refine Yw (wpAny_newFunctionEnv O.oi (by intro y hy;simp at hy) (λ h₁ hns₁ hsb₁=>?_) O.kind);generalize hH2:s.heap.push { cls:=.type "list",dict:=none,data:=.seq ([]:Ry RA).toArray }=H2 at hns₁ hsb₁ ⊢
 have hC:H2.objs.size=s.heap.objs.size+1:=by rw[<- hH2,Y8]
 have hDC:s.heap.objs.size≠H2.objs.size:=by rw[hC];exact Zx (Wo _)
 have hCle:s.heap.objs.size<=H2.objs.size:=by rw[hC];exact Rf _
 have neC:∀ b,b<s.heap.objs.size->b≠H2.objs.size:=λ b hb=>by rw[hC];exact Zx (Y2 hb)
 have old:∀ b o,s.heap.get? b=some o->h₁.get? b=some o:=λ b o e=>hsb₁.extBut b o (neC b (Zr e)) (My _ (hH2 ▸ My _ e))
 have hacc:=hsb₁.extBut _ _ hDC (My _ (hH2 ▸ QC _ rfl))
 have there:∀ b ∈ fp,b<s.heap.objs.size:=λ b hb=>by
  obtain⟨o,e,_⟩:=T.obj _ _ st b hb;exact Zr e
 have hns:h₁.Ns H2.objs.size λ _=>none:=by
  have e:(λ x=>List.lookup x ([]:Ry (Str×RA)).reverse)=λ _=>none:=by funext y;rfl
  rw[e]at hns₁
  exact hns₁
 generalize hD:s.heap.objs.size=D at hDC hCle hacc;generalize hCC:H2.objs.size=C at hDC hCle hns ⊢;have st1:=T.keep _ _ _ st λ b _ o e=>old b o e
 have I1:Inv (cW X scope cl (x::cs.map (·.1)) s H fp C) [] (none::aQ σ cs) H { s with heap:=h₁,toks:=s.toks+([]:Ry (Str×RA)).length }:=
  xU O I f2 there (by rw[hD];exact hCle) old hns
 exact BH (RR:=λ acc C=>RR acc (compEnvC scope cl C X.env)) hc I T f2 there w0 turn hRR hD hDC hCle st1 hacc (I1.wR _) (lU O.nd rfl (.inl (lookup_relabel_local O.own)) (.inr (lookup_relabel_local O.own))) (hcd C (by rw[hD];exact hCle)) (he C (by rw[hD];exact hCle)) ⟨rfl,rfl,rfl,rfl,rfl,rfl,rfl,rfl,rfl,rfl,rfl⟩ rfl (hZ D C) λ z c e=>.inr (O.sub z c e)
theorem ox {ifs:Ry Expr} {tt:TT} {elt iter:Expr} {x:Str} {px pos:Pos} {scope:Scope} {cl:Ry (Str×RB)} {cs:Ry (Str×Nat)} {te:TE} {Qv:Ry (RB×Obj)} {σ:St} {H:Hp} {s:RD} {Q:VK} {it:RB} {fp:Ry RB} {tn:Nat->Heap->Prop} {J:It}
  {RR:RA->RB->Result->RD->Prop} {E:RA->RD->Prop} (hc:X.calm=true) (O:eX X scope cl x cs) (hcd:∀ s H fp C,PTs (cW X scope cl (x::cs.map (·.1)) s H fp C) ifs tt) (he:∀ s H fp C,PE (cW X scope cl (x::cs.map (·.1)) s H fp C) elt te)
  (I:Inv X Qv σ H s) (T:Turn X.prog X.w X.K (.Name x px) J fp it tn) (st:tn 0 s.heap) (f2:∀ b ∈ fp,sZ X Qv H b)
  (h : ∃ W:Nat->Nat->Ry V->Hp->Prop,(∃ m,W 0 m [] H)/\∀ i m ys H',W i m ys H'->(J.stop i H'/\ys.length<=sizeLine/\∀ p,H' p=none->Q (.ref p) (upd H' p (.lst ys)))\/(J.go i H'/\ys.length<sizeLine/\∀ v H2,J.yld i H' v H2->tt (some v::aQ σ cs) H2 λ b H3=>if b=true then te (some v::aQ σ cs) H3 λ y H4=>∃ m',m'<m/\W (i+1) m' (ys++[y]) H4 else ∃ m',m'<m/\W (i+1) m' ys H3))
  (hRR:∀ D C s' H' ys,s.heap.objs.size<=D->s.heap.objs.size<=C->D≠C->(∃ m,s'.heap.Ns C m)->Inv X Qv σ (upd H' D (.lst ys)) s'->H' C=none->Q (.ref D) (upd H' D (.lst ys))->RR (.ref D) C (.ok .next) s'):wpAny (model X.prog X.w) X.A (newList []) (λ acc s₃=>wpAny (model X.prog X.w) X.A (newFunctionEnv scope X.env.globals cl [] X.env.qual none .none (some X.env)) (λ cenv s₄=>
    codeAny (model X.prog X.w) X.A (.compStart (.ListComp elt [⟨.Name x px,iter,ifs,0⟩] scope pos) 0 (.ref it) acc { cenv with scope:=relabel scope X.env }) (RR acc cenv.locals) s₄) E s₃) E s:=
 ux (RR:=λ acc ev=>RR acc ev.locals) hc O (λ _ _=>hcd _ _ _ _) (λ _ _=>he _ _ _ _) (λ _ _ _ _ h=>h.elim) I T st f2 h hRR
theorem Ct{J:It}{te:TE}{cs:Ry (Str×Nat)}{σ:St}{Q:VK}{H1:Hp}(h:Ey J te cs σ Q H1):∃ W:Nat->Nat->Ry V->Hp->Prop,(∃ m,W 0 m [] H1)/\∀ i m ys H',W i m ys H'->(J.stop i H'/\ys.length<=sizeLine/\∀ p,H' p=none->Q (.ref p) (upd H' p (.lst ys)))\/(J.go i H'/\ys.length<sizeLine/\∀ v H2,J.yld i H' v H2->(λ _ H Q=>Q true H:TT) (some v::aQ σ cs) H2 λ b H3=>if b=true then te (some v::aQ σ cs) H3 λ y H4=>∃ m',m'<m/\W (i+1) m' (ys++[y]) H4 else ∃ m',m'<m/\W (i+1) m' ys H3):=
 have⟨W,w0,t⟩:=h
 ⟨W,w0,λ i m ys H' w=>(t i m ys H' w).imp id λ⟨a,b,c⟩=>⟨a,b,λ v H2 y=>by show ite _ _ _;rw[if_pos rfl];exact c v H2 y⟩⟩
theorem GQ {elt iter:Expr} {x:Str} {px pos:Pos} {scope:Scope} {cl:Ry (Str×RB)} {cs:Ry (Str×Nat)} {wi:TI} {te:TE} (hc:X.calm=true) (O:eX X scope cl x cs) (hi:PI X (.Name x px) iter wi)
  (he:∀ s H fp C,PE (cW X scope cl (x::cs.map (·.1)) s H fp C) elt te) (hs:∀ x,foldedSetIterable iter X.env x=pure x:=by intro _;rfl):PE X (.ListComp elt [⟨.Name x px,iter,[],0⟩] scope pos) (Jw wi te cs):=by
 intro Qv s σ H Q I h;rw[eval_ListComp];refine wpAny_comprehension_free rfl hs O.kB O.kind O.names (thn (hi Qv s σ H _ I h) λ v s1 h1=>thn h1 λ itv s2 h2=>?_);obtain⟨it,fp,tn,J,H2,rfl,I2,T,st2,f2,hw⟩:=h2;refine ox hc O (λ _ _ _ _=>GA) he I2 T st2 f2 (Ct hw) λ D C s' H' ys hD hC hDC w90 I' hn q=>?_
 obtain⟨m,hm⟩:=w90;refine⟨m,hm,λ h' hs'=>?_⟩;have hn':upd H' D (.lst ys) C=none:=by rw[ar (QH hDC)];exact hn
 have FC:=I2.yt hC hn';exact⟨.ref D,upd H' D (.lst ys),I'.turned (λ b o hb e=>(hs'.2 b hb).trans e) hn' FC.2.1 FC.2.2.2.1 FC.2.2.2.2.1 FC.2.2.2.2.2,rfl,q⟩
end
theorem HZ (h1:scope.kind=.function) (h2:∀ y ∈ scope.names,y.2≠.cell) (h3:∀ y ∈ scope.names,y.2≠.free) (h4:∀ y ∈ scope.names,y.2=.local->scope.names.lookup y.1=some .local) (h5:scope.names.lookup x=some .local):eX X scope [] x [] where
 kB:=closureFor_none h3
 kind:=h1
 oi:=h2
 names:=h4
 own:=h5
 sub:=λ _ _ e=>by cases e
 has := λ y hy=>by
  have rel:(relabel scope X.env).names=scope.names:=by
   exact map_eq_self λ z hz=>by
    obtain⟨n,k⟩:=z;have:(k == NameKind.free)=false:=by simpa using h3 _ hz
    simp[this]
  rw[rel]at hy;rcases hy with hy|hy
  · exact absurd rfl (h2 _ (Yl hy))
  · exact absurd rfl (h3 _ (Yl hy))
 Oj:=λ _ h=>by cases h
 nd:=by simp
def ixT{K:RC}{X:Cx}(h:X.K=K):IxR X (MR K):=by subst h;exact E6
section
variable{κ:Type}[DecidableEq κ]
def cC(kvs:Ry (κ×V))(k:κ):Rz V:=(kvs.find? λ kv=>decide (kv.1=k)).map (·.2)
def putK(kvs:Ry (κ×V))(k:κ)(v:V):Ry (κ×V):=
 if(kvs.any λ kv=>decide (kv.1=k))=true then kvs.map (λ kv=>if kv.1=k then(kv.1,v) else kv) else kvs++[(k,v)]
def pU(kvs:Ry (κ×V))(k:κ):Ry (κ×V):=kvs.filter λ kv=>decide (kv.1≠k)
theorem cu{p}{r}{k:κ}(e:p.1=k):cC (p::r) k=some p.2:=by simp[cC,QF,e]
theorem cw{p}{r}{k:κ}(e:¬ p.1=k):cC (p::r) k=cC r k:=by simp[cC,QF,e]
theorem fD (k:κ):∀ kvs:Ry (κ×V),(kvs.any λ kv=>decide (kv.1=k))=(cC kvs k).isSome
 |[]=>rfl
 |p::r=>by
  rw[Yz]
  by_cases e:p.1=k
  · simp only[cu e,Zk e,Bool.true_or,Option.isSome_some]
  · rw[cw e,Zp e,Bool.false_or];exact fD k r
theorem uL (k j:κ) (y:V):∀ kvs:Ry (κ×V),cC (kvs.map λ kv=>if kv.1=k then (kv.1,y) else kv) j=(cC kvs j).map λ x=>if j=k then y else x
 |[]=>rfl
 |p::r=>by
  have ih:=uL k j y r;rw[Zh]
  by_cases h:p.1=k
  ·rw [if_pos h]
   by_cases e:p.1=j
   · rw[cu (p:=(p.1,y)) e,cu e,X4,if_pos (e.symm.trans h)]
   · rw[cw (p:=(p.1,y)) e,cw e,ih]
  ·rw [if_neg h]
   by_cases e:p.1=j
   · rw[cu (p:=p) e,cu e,X4,if_neg (λ z=>h (e.trans z))]
   · rw[cw (p:=p) e,cw e,ih]
theorem qe (k j:κ) (y:V):∀ kvs:Ry (κ×V),cC kvs k=none->cC (kvs++[(k,y)]) j=if j=k then some y else cC kvs j
 |[],_=>by
  by_cases e:k=j
  · rw[if_pos e.symm];exact cu (p:=(k,y)) e
  · rw[if_neg (λ z=>e z.symm)];exact cw (p:=(k,y)) e
 |p::r,hn=>by
  rw[Q7];have hk:¬ p.1=k:=λ z=>by rw[cu z]at hn;cases hn
  rw[cw hk]at hn;have ih:=qe k j y r hn
  by_cases e:p.1=j
  · rw[cu e,cu e,if_neg (λ z=>hk (e.trans z))]
  · rw[cw e,cw e,ih]
theorem Cr kvs (k j:κ) y:cC (putK kvs k y) j=if j=k then some y else cC kvs j:=by
 unfold putK
 by_cases a:(kvs.any λ kv=>decide (kv.1=k))=true
 ·rw [if_pos a,uL]
  rw[fD]at a
  by_cases e:j=k
  ·obtain ⟨x,hx⟩:=Xh.mp a
   rw[if_pos e,e,hx,X4,if_pos rfl]
  ·rw [if_neg e]
   cases cC kvs j with
   |none=>rfl
   |some x=>rw[X4,if_neg e]
 ·rw [if_neg a]
  refine qe k j y kvs ?_
  rw[fD]at a
  cases q:cC kvs k with
  |none=>rfl
  |some x=>rw[q]at a;exact(a rfl).elim
theorem fM kvs (k:κ) v:(putK kvs k v).length<=kvs.length+1:=by
 unfold putK;split
 · rw[Za];lia
 · rw[Z5,Z2,Xo];lia
theorem p8.gF(r:p8 o u):o.isSome=u.isSome:=by
 cases o with
 |none=>cases u with
  |none=>rfl
  |some _=>exact(r).elim
 |some _=>cases u with
  |none=>exact(r).elim
  |some _=>rfl
theorem p8.getD(r:p8 o u)(rd:RelV d d'):RelV (o.getD d) (u.getD d'):=by
 cases o with
 |none=>cases u with
  |none=>exact rd
  |some _=>exact(r).elim
 |some _=>cases u with
  |none=>exact(r).elim
  |some _=>exact r
theorem KV.val{kvs}{vs}(r:KV kvs vs)(k:κ):p8 (cC kvs k) (valueAt vs k):=by
 induction r with
 |nil=>exact True.intro
 |@cons p q ps qs h t ih=>
  obtain⟨h1,h2⟩:=h
  by_cases e:p.1=k
  ·have e':=h1.symm.trans e
   have b:valueAt (q::qs) k=some q.2:=by simp[valueAt,QF,e']
   rw[cu e,b];exact h2
  ·have e':¬ q.1=k:=λ z=>e (h1.trans z)
   have b:valueAt (q::qs) k=valueAt qs k:=by simp[valueAt,QF,e']
   rw[cw e,b];exact ih
theorem KV.any{kvs}{vs}(r:KV kvs vs)(k:κ):(kvs.any λ kv=>decide (kv.1=k))=vs.any λ kv=>decide (kv.1=k):=by
 induction r with
 |nil=>rfl
 |cons h t ih=>rw[Yz,Yz,ih,h.1]
theorem KV.Gs{kvs}{vs}(r:KV kvs vs)(k:κ)(ry:RelV y u):KV (kvs.map λ kv=>if kv.1=k then(kv.1,y) else kv) (vs.map λ kv=>if kv.1=k then(kv.1,u) else kv):=by
 induction r with
 |nil=>exact .nil
 |@cons p q ps qs h t ih=>
  rw[Zh,Zh];refine .cons ?_ ih;obtain⟨h1,h2⟩:=h
  by_cases e:p.1=k
  · rw[if_pos e,if_pos (h1.symm.trans e)];exact⟨h1,ry⟩
  · rw[if_neg e,if_neg (λ z=>e (h1.trans z))];exact⟨h1,h2⟩
theorem KV.put{kvs}{vs}(r:KV kvs vs)(k:κ)(ry:RelV y u):KV (putK kvs k y) (stored vs k u):=by
 unfold putK stored;rw[r.any k]
 by_cases e:(vs.any λ kv=>decide (kv.1=k))=true
 · rw[if_pos e,if_pos e];exact r.Gs k ry
 · rw[if_neg e,if_neg e];exact Paired.snoc r ⟨rfl,ry⟩
theorem KV.drop{kvs}{vs}(r:KV kvs vs)(k:κ):KV (pU kvs k) (without vs k):=by
 unfold pU without
 induction r with
 |nil=>exact .nil
 |@cons p q ps qs h t ih=>
  obtain⟨h1,h2⟩:=h;rw[Xu,Xu]
  by_cases e:p.1=k
  ·have a:¬ decide (p.1≠k)=true:=by simp [e]
   have b:¬ decide (q.1≠k)=true:=by simp[h1.symm.trans e]
   rw[if_neg a,if_neg b];exact ih
  ·have e':¬ q.1=k:=λ z=>e (h1.trans z)
   have a:decide (p.1≠k)=true:=by simp[e]
   have b:decide (q.1≠k)=true:=by simp[e']
   rw[if_pos a,if_pos b];exact .cons ⟨h1,h2⟩ ih
def KV.length{kvs}{vs:Ry (κ×RA)}(r:KV kvs vs):kvs.length=vs.length:=Paired.length r
def D5 kvs (k:κ):(pU kvs k).length<=kvs.length:=Wi _ _
end
theorem nM(r:RelV (kV k) u):(aV P w).is k u=true:=by
 cases k with
 |inl i=>obtain⟨t,e⟩:=(r);subst e;exact tW P w i t
 |inr x=>obtain⟨t,e⟩:=(r);subst e;exact iR P w x t
theorem rC:∀ {ks:Ry Key} {us:Ry RA},bQ (ks.map kV) us->ItemsAre (aV P w) ks us
 |[],_,r=>by rw[We]at r;cases r;exact .nil
 |k::ks,_,r=>by
  rw[Zh]at r
  cases r with
  |cons h t=>exact .cons (nM h) (rC t)
abbrev KT(H:Hp):Ry (Ry Key×V)->Ry (Ry Key×RB×RA)->Prop:=Paired λ p q=>p.1=q.1/\H q.2.1=some (.tup (p.1.map kV))/\RelV p.2 q.2.2
theorem KT.val(r:KT H kvs xs) k:p8 (cC kvs k) ((atKey xs k).map (·.2)):=by
 induction r with
 |nil=>exact True.intro
 |@cons p q ps qs h t ih=>
  obtain⟨h1,_,h2⟩:=h
  by_cases e:p.1=k
  ·have e':=h1.symm.trans e
   have b:atKey (q::qs) k=some q.2:=by simp[atKey,QF,e']
   rw[cu e,b];exact h2
  ·have e':¬ q.1=k:=λ z=>e (h1.trans z)
   have b:atKey (q::qs) k=atKey qs k:=by simp[atKey,QF,e']
   rw[cw e,b];exact ih
theorem KT.Gs(r:KT H kvs xs) k (ry:RelV y u):KT H (kvs.map λ kv=>if kv.1=k then(kv.1,y) else kv) (xs.map (putAt k u)):=by
 induction r with
 |nil=>exact .nil
 |@cons p q ps qs h t ih=>
  rw[Zh,Zh];refine .cons ?_ ih;obtain⟨h1,h2,h3⟩:=h;unfold putAt
  by_cases e:p.1=k
  · rw[if_pos e,if_pos (h1.symm.trans e)];exact⟨h1,h2,ry⟩
  · rw[if_neg e,if_neg (λ z=>e (h1.trans z))];exact⟨h1,h2,h3⟩
theorem KT.put(r:KT H kvs xs) k (hb:H b=some (.tup (k.map kV))) (ry:RelV y u):KT H (putK kvs k y) (storedH xs k b u):=by
 have e:(kvs.any λ kv=>decide (kv.1=k))=(atKey xs k).isSome:=by
  rw[fD,(r.val k).gF,Option.isSome_map]
 unfold putK storedH;rw[e]
 by_cases q:(atKey xs k).isSome=true
 · rw[if_pos q,if_pos q];exact r.Gs k ry
 · rw[if_neg q,if_neg q];exact Paired.snoc r ⟨rfl,hb,ry⟩
theorem KT.keeps(r:KT H kvs xs)(ht:∀ b ys,H b=some (.tup ys)->H' b=some (.tup ys)):KT H' kvs xs:=
 Paired.L0 r λ _ _ z=>⟨z.1,ht _ _ z.2.1,z.2.2⟩
section
variable{P:Program}{w:World}{H:Hp}{h:Heap}{a:RB}
theorem JP(ok:HOk P w H h)(e:Rd H a u)(nt:O9 u:=by trivial):dZ P w H h a u:=e.ok ok nt
theorem sg(ok:HOk P w H h)(e:Rd H a (.dK kvs)):kvs.length<=sizeLine/\(a == sysModules)=false/\∃ vs,KV kvs vs/\h.DictOf (aV P w) a vs:=
 show dZ P w H h a (.dK kvs) from JP ok e
theorem si(ok:HOk P w H h)(e:H a=some (.dK kvs)):kvs.length<=sizeLine/\(a == sysModules)=false/\∃ vs,KV kvs vs/\h.DictOf (aV P w) a vs:=sg ok (.inl e)
theorem oq(ok:HOk P w H h)(e:H a=some (.tup (ks.map kV))):(tupleKind (aV P w)).is h ks a:=by
 obtain⟨_,its,r,o,h1,h2,n,h3⟩:=(ok a _ e)
 exact⟨o,its.toArray,n,h1,h2,h3,by simpa using rC r⟩
theorem uu(ok:HOk P w H h)(e:Rd H a (.dT kvs)):kvs.length<=sizeLine/\(a == sysModules)=false/\∃ xs,KT H kvs xs/\h.DictOfH (tupleKind (aV P w)) a xs:=by
 obtain⟨z,y,xs,r,o,es,ep,h1,h2,h3,h4,h5⟩:=(JP ok e)
 refine⟨z,y,xs,r,o,es,ep,h1,h2,h3,h4,λ x hx=>?_,h5⟩
 have all:∀{l:Ry (Ry Key×V)} {m:Ry (Ry Key×RB×RA)},KT H l m->∀ x ∈ m,(tupleKind (aV P w)).is h x.1 x.2.1:=by
  intro l m q
  induction q with
  |nil=>intro x hx;exact nomatch hx
  |@cons p q ps qs hq t ih=>
   intro x hx;rcases Zi.mp hx with e|hx
   ·subst e
    exact oq ok (by rw[<- hq.1];exact hq.2.1)
   · exact ih x hx
 exact all r x hx
theorem N8(ok:HOk P w H h)(e:H a=some (.dT kvs)):kvs.length<=sizeLine/\(a == sysModules)=false/\∃ xs,KT H kvs xs/\h.DictOfH (tupleKind (aV P w)) a xs:=uu ok (.inl e)
end
def oM(H:Hp)(a:RB)(y:V)(r:Rz V):Prop:=
 (∃ kvs k,Rd H a (.dK kvs)/\y=kV k/\r=cC kvs k)\/∃ kvs k b,Rd H a (.dT kvs)/\y=.ref b/\H b=some (.tup (k.map kV))/\r=cC kvs k
def Ck(H:Hp)(a:RB)(y v:V)(H':Hp):Prop:=
 (∃ kvs k,H a=some (.dK kvs)/\y=kV k/\kvs.length<sizeLine/\H'=upd H a (.dK (putK kvs k v)))\/∃ kvs k b,H a=some (.dT kvs)/\y=.ref b/\H b=some (.tup (k.map kV))/\kvs.length<sizeLine/\H'=upd H a (.dT (putK kvs k v))
def oM.k{H}{a}{kvs}{k}(e:H a=some (.dK kvs)):oM H a (kV k) (cC kvs k):=.inl ⟨kvs,k,.inl e,rfl,rfl⟩
theorem oM.t{H}{a b}{kvs}{k}(e:H a=some (.dT kvs))(eb:H b=some (.tup (k.map kV))):oM H a (.ref b) (cC kvs k):=.inr ⟨kvs,k,b,.inl e,rfl,eb,rfl⟩
theorem Ck.k{H}{a}{kvs}{k}{v}(e:H a=some (.dK kvs))(hl:kvs.length<sizeLine):Ck H a (kV k) v (upd H a (.dK (putK kvs k v))):=.inl ⟨kvs,k,e,rfl,hl,rfl⟩
theorem Ck.t{H}{a b}{kvs}{k}{v}(e:H a=some (.dT kvs))(eb:H b=some (.tup (k.map kV)))(hl:kvs.length<sizeLine):Ck H a (.ref b) v (upd H a (.dT (putK kvs k v))):=.inr ⟨kvs,k,b,e,rfl,eb,hl,rfl⟩
section
variable{X:Cx}{Qv:Ry (RB×Obj)}{σ:St}{H:Hp}{s:RD}{a:RB}{y v:V}{u r:RA}{o:Rz V}{A:Around}{E:RA->RD->Prop}
theorem Inv.big(I:Inv X Qv σ H s):sysModules<s.heap.objs.size:=by
 have h:=(I.mod.glob.keeps I.bk).lt;exact X6 (by decide) h
theorem BA(hu:A.units+1<cLine)(I:Inv X Qv σ H s)(g:oM H a y (some v))(ry:RelV y u)(h:∀ w' s',Inv X Qv σ H s'->RelV v w'->Q w' s'):wpAny (model X.prog X.w) A (getItem (.ref a) u) Q E s:=by
 rcases g with ⟨kvs,k,e,ey,l⟩|⟨kvs,k,b,e,ey,eb,l⟩
 ·subst ey
  obtain⟨z,hd,vs,rel,dd⟩:=sg I.hok e;obtain⟨w',hw,rw'⟩:=p8.some_of (by rw[l];exact rel.val k);exact wpAny_getItem_of (nM ry) dd.mapOf hw (h w' _ (I.tok _) rw')
 ·subst ey
  cases(ry);obtain⟨z,hd,xs,rel,dd⟩:=uu I.hok e;obtain⟨w',hw,rw'⟩:=p8.some_of (by rw[l];exact rel.val k);obtain⟨p,hp,hp2⟩:=Zm hw;refine wpAny_getItem_heap (Wf hu) (oq I.hok eb) dd hp ?_
  rw[hp2];exact h w' _ (I.tok _) rw'
theorem Qr(hu:A.units+1<cLine)(I:Inv X Qv σ H s)(g:oM H a y o)(ry:RelV y u)(h:∀ s',Inv X Qv σ H s'->Q (.bool o.isSome) s'):wpAny (model X.prog X.w) A (compareOp .In u (.ref a)) Q E s:=by
 rcases g with ⟨kvs,k,e,ey,l⟩|⟨kvs,k,b,e,ey,eb,l⟩
 ·subst ey
  obtain⟨z,hd,vs,rel,dd⟩:=sg I.hok e;refine wpAny_in_of (nM ry) hd dd.mapOf ?_
  rw[<- (rel.val k).gF,<- l];exact h _ (I.tok _)
 ·subst ey
  cases(ry);obtain⟨z,hd,xs,rel,dd⟩:=uu I.hok e;refine wpAny_in_heap (Wf hu) (oq I.hok eb) hd dd ?_
  have q:=(rel.val k).gF;rw[Option.isSome_map]at q;rw[<- q,<- l];exact h _ (I.tok _)
theorem HP(hu:A.units+1<cLine)(I:Inv X Qv σ H s)(g:oM H a y o)(ry:RelV y u)(h:∀ s',Inv X Qv σ H s'->Q (.bool (!o.isSome)) s'):wpAny (model X.prog X.w) A (compareOp .NotIn u (.ref a)) Q E s:=by
 rcases g with ⟨kvs,k,e,ey,l⟩|⟨kvs,k,b,e,ey,eb,l⟩
 ·subst ey
  obtain⟨z,hd,vs,rel,dd⟩:=sg I.hok e;refine wpAny_notIn_of (nM ry) hd dd.mapOf ?_
  rw[<- (rel.val k).gF,<- l];exact h _ (I.tok _)
 ·subst ey
  cases(ry);obtain⟨z,hd,xs,rel,dd⟩:=uu I.hok e;refine wpAny_notIn_heap (Wf hu) (oq I.hok eb) hd dd ?_
  have q:=(rel.val k).gF;rw[Option.isSome_map]at q;rw[<- q,<- l];exact h _ (I.tok _)
theorem mM(I:Inv X Qv σ H s)(mu:Mut (H a))(hs:Heap.SameBut a s.heap h')(he:∃ q,h'.get? a=some q)(new:dZ X.prog X.w (upd H a ob) h' a ob):Inv X Qv σ (upd H a ob) { s with heap:=h',toks:=t' }:=
 I.write mu (.inl rfl) (λ b q hb z=>(hs.2 b hb).trans z) he new
theorem wb(z:kvs.length<=sizeLine)(hd:(a == sysModules)=false)(rel:KV kvs vs)(dd:h'.DictOf (aV P w) a vs):dZ P w H' h' a (.dK kvs):=⟨z,hd,vs,rel,dd⟩
theorem Bz(hu:A.units+1<cLine)(I:Inv X Qv σ H s)(g:Ck H a y v H')(ry:RelV y u)(rv:RelV v r)(h:∀ s',Inv X Qv σ H' s'->Q () s'):wpAny (model X.prog X.w) A (setItem (.ref a) u r) Q E s:=by
 rcases g with ⟨kvs,k,e,ey,l,eH⟩|⟨kvs,k,b,e,ey,eb,l,eH⟩
 ·subst ey eH
  obtain⟨z,hd,vs,rel,dd⟩:=si I.hok e;have hz:vs.length<=sizeLine:=by rw[<- rel.length];exact z
  have hl:(putK kvs k v).length<=sizeLine:=by have:=fM kvs k v;lia
  refine wpAny_setItem_pairs (nM ry) dd λ h' dd' hs=>h _ ?_
  have he:∃ q,h'.get? a=some q:=let ⟨q,_,_,hq,_⟩:=dd';⟨q,hq⟩
  exact mM I (by rw[e];exact True.intro) hs he (wb hl hd (rel.put k rv) dd')
 ·subst ey eH
  cases(ry);obtain⟨z,hd,xs,rel,dd⟩:=N8 I.hok e;have hz:xs.length<=sizeLine:=by rw[<- Paired.length rel];exact z
  have hl:(putK kvs k v).length<=sizeLine:=by have:=fM kvs k v;lia
  refine wpAny_setItem_heap (Wf hu) (oq I.hok eb) dd λ h' dd' hs=>h _ ?_
  obtain⟨q,es,ep,hq,h2,h3,h4,_,h5⟩:=dd';refine mM I (by rw[e];exact True.intro) hs ⟨q,hq⟩ ⟨hl,hd,_,(rel.put k eb rv).keeps λ c ys ec=>?_,q,es,ep,hq,h2,h3,h4,h5⟩;rw[ar (Nu ec e (λ z=>nomatch z))];exact ec
end
section
variable{X:Cx}{Qv:Ry (RB×Obj)}{σ:St}{H:Hp}{s:RD}{a:RB}{kvs:Ry (Key×V)}{k:Key}{u:RA}{A:Around}{E:RA->RD->Prop}
theorem Oa (I:Inv X Qv σ H s) (e:H a=some (.dK kvs)) (ry:RelV (kV k) u) (l:cC kvs k=some v) (hm:more=[]\/∃ x,more=[x])
  (h:∀ w' s',Inv X Qv σ (upd H a (.dK (pU kvs k))) s'->RelV v w'->Q w' s'):wpAny (model X.prog X.w) A (call (.builtin "dict.pop") (.ref a::u::more)) Q E s:=by
 obtain⟨z,hd,vs,rel,dd⟩:=si I.hok e;obtain⟨w',hw,rw'⟩:=p8.some_of (by rw[<- l];exact rel.val k)
 have hp:(keyPart u).isSome=true:=by
  cases k with
  |inl i=>obtain⟨t,q⟩:=(ry);subst q;rfl
  |inr x=>obtain⟨t,q⟩:=(ry);subst q;rfl
 have ha:argsOk "dict.pop" ⟨.ref a::u::more,[]⟩:=by
  rcases hm with q|⟨x,q⟩
  · subst q;exact PySem.F.args_dict_pop_2 _ _
  · subst q;exact PySem.F.args_dict_pop_3 _ _ _
 refine Wq PySem.F.slot_dict_pop dd.typeIs PySem.F.entry_dict_pop ha (meets_dict_pop_there (aV X.prog X.w) a (nM ry) more hm hp)
  ⟨vs,w',dd,by rw[<- rel.length];exact z,hw,λ h' dd' hs=>h w' _ ?_ rw'⟩
 have he:∃ q,h'.get? a=some q:=let ⟨q,_,_,hq,_⟩:=dd';⟨q,hq⟩
 exact mM I (by rw[e];exact True.intro) hs he (wb (Zu (D5 kvs k) z) hd (rel.drop k) dd')
theorem Ob(I:Inv X Qv σ H s)(e:Rd H a (.dK kvs))(h:∀ t s',Inv X Qv σ H s'->Q (.int kvs.length t) s'):wpAny (model X.prog X.w) A (call (.builtin "len") [.ref a]) Q E s:=by
 obtain⟨z,hd,vs,rel,dd⟩:=sg I.hok e;refine call_len_dict hd dd (by rw[<- rel.length];rw[Yj]at z;lia) ?_
 rw[<- rel.length];exact h _ _ (I.tok _)
end
def Mi(i:Expr):Prop:=∀ ov iv,subscripted i false ov iv=operate [ov,iv] (getItem ov iv)
theorem FX {prog} {w} {A} {E} {s} {env} {value slice} {pos} {T id} {Q}
  (hl:typeLookup (.type T) "__getitem__"=pure (some (.builtin id))) (hs:Mi slice)
  (h:wpAny (model prog w) A (eval value env) (λ o s₁=>wpAny (model prog w) A (eval slice env) (λ i s₂=>s₂.TypeIs o T/\wpAny (model prog w) A (getItem o i) Q E s₂) E s₁) E s):wpAny (model prog w) A (eval (.Subscript value slice pos) env) Q E s:=by
 refine Subscript_ (Ys h (λ o s₁ h₁=>Ys h₁ (λ i s₂ h₂=>?_) λ _ _ x=>x) λ _ _ x=>x);obtain⟨hT,h₂⟩:=h₂;refine Zc ?_
 rw[getitemInPython_of_ne hT.not_modules];refine Zc (wpAny_specialOf hT hl ?_)
 have fin:wpAny (model prog w) A (subscripted slice false o i) (λ r s₃=>wpAny (model prog w) A (letTemporaryGo value o r >>= λ _=>pure r) Q E s₃) E s₂:=by
  rw[hs o i];exact wpAny_operating (Ys h₂ (λ r s₃ h₃=>Zc (wpAny_letTemporaryGo (Zw h₃))) λ _ _ x=>x)
 first
  |exact Zw (Zc fin)
  |exact Zc (Zw (Zc fin))
  |exact Zc fin
theorem uv(I:Inv X Qv σ H s)(g:oM H a y o):s.TypeIs (.ref a) "dict":=by
 rcases g with ⟨kvs,k,e,_,_⟩|⟨kvs,k,b,e,_,_,_⟩
 ·obtain ⟨_,_,vs,_,dd⟩:=sg I.hok e
  exact dd.typeIs
 ·obtain ⟨_,_,xs,_,dd⟩:=uu I.hok e
  exact dd.typeIs
def ME(td ty:TE):TE:=λ σ H Q=>td σ H λ x H1=>ty σ H1 λ y H2=>∃ a v,x=.ref a/\oM H2 a y (some v)/\Q v H2
def Px(ty td:TE):TE:=λ σ H Q=>ty σ H λ y H1=>td σ H1 λ x H2=>∃ a o,x=.ref a/\oM H2 a y o/\Q (.bl o.isSome) H2
def FU(ty td:TE):TE:=λ σ H Q=>ty σ H λ y H1=>td σ H1 λ x H2=>∃ a o,x=.ref a/\oM H2 a y o/\Q (.bl (!o.isSome)) H2
def ML(td ty tv:TE):TS:=λ D σ H=>tv σ H λ v H1=>td σ H1 λ x H2=>ty σ H2 λ y H3=>∃ a H4,x=.ref a/\Ck H3 a y v H4/\D.nx σ H4
section
variable{X:Cx}{o i e value:Expr}{pos pos' tpos:Pos}{td ty tv:TE}
theorem tK(hu:X.A.units+1<cLine)(ho:PE X o td)(hi:PE X i ty)(hs:Mi i):PE X (.Subscript o i pos) (ME td ty):=by
 intro Qv s σ H Q I h;refine FX PySem.F.slot_dict_getitem.lookup hs (thn (ho Qv s σ H _ I h) λ u s1 ⟨x,H1,I1,rx,q1⟩=>thn (hi Qv s1 σ H1 _ I1 q1) λ iv s2 w90=>?_);obtain⟨y,H2,I2,ry,a,v,ex,g,q2⟩:=w90;subst ex;obtain rfl:u=Value.ref a:=rx;exact⟨uv I2 g,BA hu I2 g ry λ w' s3 I3 rw'=>⟨v,H2,I3,rw',q2⟩⟩
theorem J7(hu:X.A.units+1<cLine)(hi:PE X i ty)(ho:PE X o td):PC X .In i o (Px ty td):=by
 intro Qv s σ H Q I h;refine thn (hi Qv s σ H _ I h) λ iv s1 ⟨y,H1,I1,ry,q1⟩=>thn (ho Qv s1 σ H1 _ I1 q1) λ u s2 w90=>?_
 obtain⟨x,H2,I2,rx,a,ov,ex,g,q2⟩:=w90;subst ex;obtain rfl:u=Value.ref a:=rx;exact Qr hu I2 g ry λ s3 I3=>⟨.bl ov.isSome,H2,I3,rfl,q2⟩
theorem qD(hu:X.A.units+1<cLine)(hi:PE X i ty)(ho:PE X o td):PC X .NotIn i o (FU ty td):=by
 intro Qv s σ H Q I h;refine thn (hi Qv s σ H _ I h) λ iv s1 ⟨y,H1,I1,ry,q1⟩=>thn (ho Qv s1 σ H1 _ I1 q1) λ u s2 w90=>?_
 obtain⟨x,H2,I2,rx,a,ov,ex,g,q2⟩:=w90;subst ex;obtain rfl:u=Value.ref a:=rx;exact HP hu I2 g ry λ s3 I3=>⟨.bl (!ov.isSome),H2,I3,rfl,q2⟩
theorem tH(hu:X.A.units+1<cLine)(ho:PE X o td)(hi:PE X i ty)(hv:PE X value tv)(hs:swapsWith value (some (.Subscript o i pos')) pos.line X.env=pure false):PS X (.Assign [.Subscript o i pos'] value pos) (ML td ty tv):=by
 intro Qv s σ H D I h;refine wpAny_Assign_Subscript (thn (hv Qv s σ H _ I h) λ r s1 ⟨v,H1,I1,rv,q1⟩=>thn (ho Qv s1 σ H1 _ I1 q1) λ u s2 ⟨x,H2,I2,rx,q2⟩=>thn (hi Qv s2 σ H2 _ I2 q2) λ iv s3 ⟨y,H3,I3,ry,a,H4,ex,g,q3⟩=>?_) hs;subst ex;obtain rfl:u=Value.ref a:=rx;exact Bz hu I3 g ry rv λ s4 I4=>⟨σ,H4,I4,q3⟩
end
theorem wc(h:Heap)(hb:sysModules<h.objs.size):dZ P w H (h.push { cls:=.type "dict",data:=.dict #[] }) h.objs.size (.dK []):=
 ⟨Z0 _,Yk.mpr (QH (Zx hb)),[],.nil,Heap.DictOf.new h⟩
theorem D4(h:Heap)(hb:sysModules<h.objs.size):dZ P w H (h.push { cls:=.type "dict",data:=.dict #[] }) h.objs.size (.dT []):=
 ⟨Z0 _,Yk.mpr (QH (Zx hb)),[],.nil,_,#[],0,QC _ rfl,⟨rfl,rfl,rfl⟩,rfl,rfl,List.nodup_nil⟩
def Ju:TE:=λ _ H Q=>∀ p,H p=none->Q (.ref p) (upd H p (.dK []))
def Jt:TE:=λ _ H Q=>∀ p,H p=none->Q (.ref p) (upd H p (.dT []))
section
variable{X:Cx}{pos:Pos}
theorem vn:PE X (.Dict [] [] pos) Ju:=λ Qv s σ H Q I h=>
 wpAny_Dict_empty ⟨.ref s.heap.objs.size,_,I.laid (λ _ _ q=>My _ q) (Zo _) (wc s.heap I.big),rfl,h _ (I.hok.fresh (Zo _))⟩
theorem De:PE X (.Dict [] [] pos) Jt:=λ Qv s σ H Q I h=>
 wpAny_Dict_empty ⟨.ref s.heap.objs.size,_,I.laid (λ _ _ q=>My _ q) (Zo _) (D4 s.heap I.big),rfl,h _ (I.hok.fresh (Zo _))⟩
end
def uQ:Ry (TE×TE)->St->Hp->(Ry (V×V)->Hp->Prop)->Prop
 |[],_,H,Q=>Q [] H
 |(tk,tv)::r,σ,H,Q=>tk σ H λ x H1=>tv σ H1 λ y H2=>uQ r σ H2 λ ps H3=>Q ((x,y)::ps) H3
abbrev VV:Ry (V×V)->Ry (RA×RA)->Prop:=Paired λ p q=>RelV p.1 q.1/\RelV p.2 q.2
def PPs(X:Cx)(pos:Pos)(keys:Ry (Rz Expr))(values:Ry Expr)(trs:Ry (TE×TE)):Prop:=
  ∀(Qv:Ry (RB×Obj)) (s:RD) (σ:St) (H:Hp) (Q:Ry (V×V)->Hp->Prop),Inv X Qv σ H s->uQ trs σ H Q->wpAny (model X.prog X.w) X.A (evalPairs (pairTrees keys values X.env pos)) (λ vs s'=>∃ ps H',Inv X Qv σ H' s'/\VV ps vs/\Q ps H') X.xe s
def GF:PPs X pos [] [] []:=λ Qv s σ H Q I h=>pairTrees_nil_walk ⟨[],H,I,.nil,h⟩
theorem C4{X}{pos}{k v}{ks}{vs}{tk tv}{trs}(hk:PE X k tk)(hv:PE X v tv)(hr:PPs X pos ks vs trs):PPs X pos (some k::ks) (v::vs) ((tk,tv)::trs):=λ Qv s σ H Q I h=>
 pairTrees_cons_walk (thn (hk Qv s σ H _ I h) λ u s1 ⟨x,H1,I1,rx,q1⟩=>thn (hv Qv s1 σ H1 _ I1 q1) λ w2 s2 ⟨y,H2,I2,ry,q2⟩=>
  thn (hr Qv s2 σ H2 _ I2 q2) λ ws s3 ⟨ps,H3,I3,rel,q3⟩=>⟨(x,y)::ps,H3,I3,.cons ⟨rx,ry⟩ rel,q3⟩)
def mh(kvs more:Ry (Key×V)):Ry (Key×V):=more.foldl (λ acc kv=>putK acc kv.1 kv.2) kvs
theorem KV.merge:∀{more} {rs} {kvs} {vs},KV more rs->KV kvs vs->KV (mh kvs more) (merged vs rs):=by
 intro more rs kvs vs r
 induction r generalizing kvs vs with
 |nil=>intro q;exact q
 |@cons p q ps qs h t ih=>
  intro r0
  have e:KV (putK kvs p.1 p.2) (stored vs q.1 q.2):=by
   have:=r0.put p.1 h.2;rw[<- h.1];exact this
  exact ih e
theorem jm:∀ (more kvs:Ry (Key×V)),(mh kvs more).length<=kvs.length+more.length
 |[],kvs=>by show kvs.length<=kvs.length+0;omega
 |p::r,kvs=>by
  have h1:=jm r (putK kvs p.1 p.2);have h2:=fM kvs p.1 p.2;show(mh (putK kvs p.1 p.2) r).length<=_;rw[Z2];omega
theorem oy:∀ {kvs:Ry (Key×V)} {ws:Ry (RA×RA)},VV (kvs.map λ kv=>(kV kv.1,kv.2)) ws->∃ rs,Carries (aV P w) ws rs/\KV kvs rs
 |[],_,r=>by rw[We]at r;cases r;exact⟨[],True.intro,.nil⟩
 |p::kvs,_,r=>by
  rw[Zh]at r
  cases r with
  |@cons a b as bs h t=>
   obtain⟨rs,c,q⟩:=oy (P:=P) (w:=w) t;obtain⟨b1,b2⟩:=b;exact⟨(p.1,b2)::rs,⟨nM h.1,rfl,c⟩,.cons ⟨rfl,h.2⟩ q⟩
noncomputable def MC(trs:Ry (TE×TE)):TE:=λ σ H Q=>∀ p,H p=none->uQ trs σ (upd H p (.dK [])) λ ps H2=>H2 p=some (.dK [])/\∃ kvs:Ry (Key×V),ps=kvs.map (λ kv=>(kV kv.1,kv.2))/\kvs.length<=15/\Q (.ref p) (upd H2 p (.dK (mh [] kvs)))
theorem GP {X} {pos} {keys} {values} {trs} (h:PPs X pos keys values trs) (hall:keys.all (·.isSome)=true) (hl:keys.length=values.length) (h0:keys≠[])
  (h15:keys.length<=15):PE X (.Dict keys values pos) (MC trs):=by
 intro Qv s σ H Q I q;have hn:=I.hok.fresh (Zo s.heap.objs.size);have I1:=I.laid (t':=s.toks) (λ _ _ q=>My _ q) (Zo _) (wc s.heap I.big);refine wpAny_Dict_walk (knd:=aV X.prog X.w) hall hl h0 h15 (thn (h Qv _ σ _ _ I1 (q _ hn)) λ ws s2 w90=>?_);obtain⟨ps,H2,I2,rel,e,kvs,ep,lk,q2⟩:=w90;subst ep;obtain⟨rs,c,rk⟩:=oy rel;obtain⟨z,hd,vs0,r0,dd⟩:=si I2.hok e;cases r0;refine⟨rs,c,dd,λ h' dd' hs=>⟨.ref s.heap.objs.size,_,?_,rfl,q2⟩⟩
 have hz:(mh [] kvs).length<=sizeLine:=by
  have h1:=jm kvs [];rw[Xo]at h1;rw[Yj];lia
 have he:∃ q,h'.get? s.heap.objs.size=some q:=let ⟨q,_,_,hq,_⟩:=dd';⟨q,hq⟩
 exact mM I2 (by rw[e];exact True.intro) hs he (wb hz hd (rk.merge .nil) dd')
structure M1 (X:Cx) (o:Expr) (m:Str) (Qw:Pos) (e:Expr) (Qx:Pos):Prop where
 base:attributeBase o m X.env (eval o X.env)=eval o X.env
 few:((backTo Qx (starEach [e] X.env)).all (λ x=>!x.1)&&(backToKw Qx (keywordEach [] X.env)).all (λ x=>x.1.isSome)
  && decide (([e]:List Expr).length+([]:List Keyword).length+(if([]:List Keyword).isEmpty then 0 else 1)<30))=true
 line:(Qw.endLine == Qx.line)=true
 trees:backTo Qx (starEach [e] X.env)=[(false,eval e X.env)]
structure M2 (X:Cx) (o:Expr) (m:Str) (Qw:Pos) (e f:Expr) (Qx:Pos):Prop where
 base:attributeBase o m X.env (eval o X.env)=eval o X.env
 few:((backTo Qx (starEach [e,f] X.env)).all (λ x=>!x.1)&&(backToKw Qx (keywordEach [] X.env)).all (λ x=>x.1.isSome)
  && decide (([e,f]:List Expr).length+([]:List Keyword).length+(if([]:List Keyword).isEmpty then 0 else 1)<30))=true
 line:(Qw.endLine == Qx.line)=true
 trees:backTo Qx (starEach [e,f] X.env)=[(false,eval e X.env),(false,eval f X.env)]
def IsD(H:Hp)(a:RB):Prop:=(∃ kvs,Rd H a (.dK kvs))\/∃ kvs,Rd H a (.dT kvs)
theorem vJ(I:Inv X Qv σ H s)(d:IsD H a):s.TypeIs (.ref a) "dict"/\(∀ b,Value.ref a=.ref b->∃ ob,s.heap.get? b=some ob/\ob.dict=none)/\(a == sysModules)=false:=by
 rcases d with ⟨kvs,e⟩|⟨kvs,e⟩
 ·obtain ⟨_,hd,vs,_,dd⟩:=sg I.hok e
  refine⟨dd.typeIs,λ b q=>?_,hd⟩;cases q;obtain⟨ob,_,_,h1,h2,_⟩:=dd;exact⟨ob,h1,h2.2.1⟩
 ·obtain ⟨_,hd,xs,_,dd⟩:=uu I.hok e
  refine⟨dd.typeIs,λ b q=>?_,hd⟩;cases q;obtain⟨ob,_,_,h1,h2,_⟩:=dd;exact⟨ob,h1,h2.2.1⟩
section
variable{X:Cx}{Qv:Ry (RB×Obj)}{σ:St}{H:Hp}{s:RD}{a:RB}{y d:V}{u r:RA}{o:Rz V}{A:Around}{E:RA->RD->Prop}
theorem LF(hu:A.units+1<cLine)(I:Inv X Qv σ H s)(g:oM H a y o)(ry:RelV y u)(rd:RelV d r)(h:∀ w' s',Inv X Qv σ H s'->RelV (o.getD d) w'->Q w' s'):wpAny (model X.prog X.w) A (call (.builtin "dict.get") [.ref a,u,r]) Q E s:=by
 rcases g with ⟨kvs,k,e,ey,l⟩|⟨kvs,k,b,e,ey,eb,l⟩
 ·subst ey
  obtain⟨z,hd,vs,rel,dd⟩:=sg I.hok e;refine Wq X0 dd.typeIs QV (QU _ _ _) (meets_dict_get_default (aV X.prog X.w) a (nM ry) hd r) ⟨_,dd.mapOf,h _ _ (I.tok _) ?_⟩;rw[l];exact(rel.val k).getD rd
 ·subst ey
  cases(ry);obtain⟨z,hd,xs,rel,dd⟩:=uu I.hok e;refine Wq X0 dd.typeIs QV (QU _ _ _) (meetsH_dict_get_default (tupleKind (aV X.prog X.w)) a b hd r) ⟨Wf hu,k,xs,oq I.hok eb,dd,h _ _ (I.tok _) ?_⟩;rw[l];exact(rel.val k).getD rd
end
def Jv(td ty tx:TE):TE:=λ σ H Q=>td σ H λ x H1=>∃ a,x=.ref a/\IsD H1 a/\ty σ H1 λ y H2=>tx σ H2 λ z H3=>∃ o,oM H3 a y o/\Q (o.getD z) H3
def Js(td ty:TE):TE:=λ σ H Q=>td σ H λ x H1=>∃ a,x=.ref a/\IsD H1 a/\ty σ H1 λ y H2=>∃ kvs k v,H2 a=some (.dK kvs)/\y=kV k/\cC kvs k=some v/\Q v (upd H2 a (.dK (pU kvs k)))
section
variable{X:Cx}{o e f:Expr}{Qw Qx:Pos}{td ty tx:TE}
theorem Dh(hu:X.A.units+1<cLine)(ho:PE X o td)(he:PE X e ty)(hf:PE X f tx)(m:M2 X o "get" Qw e f Qx):PE X (.Call (.Attribute o "get" Qw) [e,f] [] Qx) (Jv td ty tx):=by
 intro Qv s σ H Q I h;refine wpAny_Call_method m.base m.few m.line Xi X0 PySem.F.type_dict_get (thn (ho Qv s σ H _ I h) λ u s1 w90=>?_);obtain⟨x,H1,I1,rx,a,ex,d,q1⟩:=w90;subst ex;obtain rfl:u=Value.ref a:=rx;obtain⟨t1,t2,_⟩:=vJ I1 d;refine⟨t1,t2,?_⟩;rw[m.trees]
 refine Y9 rfl (X5 (Y5 (thn (he Qv s1 σ H1 _ I1 q1) λ iv s2 ⟨y,H2,I2,ry,q2⟩=>
  Y5 (thn (hf Qv s2 σ H2 _ I2 q2) λ fv s3 ⟨z,H3,I3,rz,ov,g,q3⟩=>Wk ?_))))
 exact LF hu I3 g ry rz λ w' s4 I4 rw'=>⟨_,H3,I4,rw',q3⟩
theorem vm(ho:PE X o td)(he:PE X e ty)(m:M1 X o "pop" Qw e Qx):PE X (.Call (.Attribute o "pop" Qw) [e] [] Qx) (Js td ty):=by
 intro Qv s σ H Q I h;refine wpAny_Call_method m.base m.few m.line Xi PySem.F.slot_dict_pop PySem.F.type_dict_pop (thn (ho Qv s σ H _ I h) λ u s1 w90=>?_);obtain⟨x,H1,I1,rx,a,ex,d,q1⟩:=w90;subst ex;obtain rfl:u=Value.ref a:=rx;obtain⟨t1,t2,_⟩:=vJ I1 d;refine⟨t1,t2,?_⟩;rw[m.trees];refine Y9 rfl (X5 (Y5 (thn (he Qv s1 σ H1 _ I1 q1) λ iv s2 ⟨y,H2,I2,ry,kvs,k,v,ea,ey,l,q2⟩=>Wk ?_)));subst ey;exact Oa I2 ea ry l (.inl rfl) λ w' s3 I3 rw'=>⟨v,_,I3,rw',q2⟩
end
def Its(z:Str):It:=⟨λ i _=>i<z.cps.size,λ i H x H'=>H'=H/\∃ c,z.cps[i]?=some c/\x=.str ⟨#[c]⟩,λ i _=>z.cps.size<=i⟩
theorem xa {P:Program} {w:World} {K:RC} {tg:Expr} (it:RB) (z:Str) (t:Tok):Turn P w K tg (Its z) [it] it (λ i h=>h.IsStrIter it "str_ascii_iterator" z t i) where
 mem:=by simp
 obj:=λ i h st b hb=>by
  have e:b=it:=by simpa using hb
  subst e;obtain⟨o,e,c,d⟩:=st;exact⟨o,e,λ v z=>by rw[d]at z;cases z⟩
 keep:=λ i h h' st k=>let ⟨o,ho,r⟩:=st;⟨o,k it (by simp) o ho,r⟩
 item:=by
  intro X hP hw hK hc i Qv s σ H E I hf st hg;subst hP hw hK;obtain⟨f0,f1,f2,f3,f4,f5⟩:=hf it (by simp);have hg':i<z.cps.size:=hg;have hx:z.cps[i]?=some z.cps[i]:=by simp[hg']
  refine wpAny_pyNext_ascii_item st hx λ h' st' sb=>?_
  have I1:Inv X Qv σ H { s with heap:=h',toks:=s.toks+1 }:=I.turned (λ b o hb e=>(sb.2 b hb).trans e) f0 f1 f3 f4 f5;obtain⟨o,e,c,d⟩:=id st';exact⟨_,rfl,A8 e c d (by decide) ⟨.str ⟨#[z.cps[i]]⟩,H,I1,⟨_,rfl⟩,⟨rfl,_,hx,rfl⟩,st',λ b hb=>(hf b hb).1⟩⟩
 done:=by
  intro X hP hw hK hc i Qv s σ H E I hf st hg;subst hP hw hK;obtain⟨f0,f1,f2,f3,f4,f5⟩:=hf it (by simp);have hg':z.cps.size<=i:=hg;exact wpAny_pyNext_ascii_end (I.ok.hd hc) st (by simp[hg']) λ h' eb=>⟨rfl,I.turned (λ b o hb e=>eb b o hb e) f0 f1 f3 f4 f5⟩
 self:=λ _ _ _ _ _ st h=>wpAny_pyIter_striter_ascii st h
theorem yA {P:Program} {w:World} {K:RC} {tg:Expr} (it:RB) (z:Str) (t:Tok):Turn P w K tg (Its z) [it] it (λ i h=>h.IsStrIter it "str_iterator" z t i) where
 mem:=by simp
 obj:=λ i h st b hb=>by
  have e:b=it:=by simpa using hb
  subst e;obtain⟨o,e,c,d⟩:=st;exact⟨o,e,λ v z=>by rw[d]at z;cases z⟩
 keep:=λ i h h' st k=>let ⟨o,ho,r⟩:=st;⟨o,k it (by simp) o ho,r⟩
 item:=by
  intro X hP hw hK hc i Qv s σ H E I hf st hg;subst hP hw hK;obtain⟨f0,f1,f2,f3,f4,f5⟩:=hf it (by simp);have hg':i<z.cps.size:=hg;have hx:z.cps[i]?=some z.cps[i]:=by simp[hg']
  refine wpAny_pyNext_wide_item st hx λ h' st' sb=>?_
  have I1:Inv X Qv σ H { s with heap:=h',toks:=s.toks+1 }:=I.turned (λ b o hb e=>(sb.2 b hb).trans e) f0 f1 f3 f4 f5;obtain⟨o,e,c,d⟩:=id st';exact⟨_,rfl,A8 e c d (by decide) ⟨.str ⟨#[z.cps[i]]⟩,H,I1,⟨_,rfl⟩,⟨rfl,_,hx,rfl⟩,st',λ b hb=>(hf b hb).1⟩⟩
 done:=by
  intro X hP hw hK hc i Qv s σ H E I hf st hg;subst hP hw hK;obtain⟨f0,f1,f2,f3,f4,f5⟩:=hf it (by simp);have hg':z.cps.size<=i:=hg;exact wpAny_pyNext_wide_end (I.ok.hd hc) st (by simp[hg']) λ h' eb=>⟨rfl,I.turned (λ b o hb e=>eb b o hb e) f0 f1 f3 f4 f5⟩
 self:=λ _ _ _ _ _ st h=>wpAny_pyIter_striter_wide st h
section
variable{X:Cx}{tg:Expr}
def Qd(tl:TE):TI:=λ σ H R=>tl σ H λ x H1=>∃ z,x=.str z/\R (Its z) H1
theorem JY{l}{tl}(hl:PE X l tl):PI X tg l (Qd tl):=by
 intro Qv s σ H R I h;refine thn (hl Qv s σ H _ I h) λ v s1 w90=>?_
 obtain⟨x,H1,I1,r1,q1⟩:=w90;obtain⟨z,e,q⟩:=q1;subst e;obtain⟨t,rfl⟩:=r1
 have fp:∀ b ∈ [s1.heap.objs.size],sZ X Qv H1 b:=λ b hb=>by
  have e:b=s1.heap.objs.size:=by simpa using hb
  subst e;exact I1.yt (Zo _) (I1.hok.fresh (Zo _))
 cases ha:z.cps.all (· < 128)
 ·refine wpAny_pyIter_wide ha ?_
  exact⟨s1.heap.objs.size,[s1.heap.objs.size],_,_,H1,rfl,I1.kept λ b o e=>My _ e,yA _ z t,⟨_,QC _ rfl,rfl,rfl⟩,fp,q⟩
 ·refine wpAny_pyIter_ascii ha ?_
  exact⟨s1.heap.objs.size,[s1.heap.objs.size],_,_,H1,rfl,I1.kept (t':=s1.toks) λ b o e=>My _ e,xa _ z t,⟨_,QC _ rfl,rfl,rfl⟩,fp,q⟩
theorem zM:OpR X (compareOp .LtE) (λ x y H Q=>∃ i j,x=.str i/\y=.str j/\Q (.bl (!decide (j.cps.toList<i.cps.toList))) H):=by
 intro Qv s σ H x y v u Q I rx ry h;obtain⟨i,j,rfl,rfl,q⟩:=h;obtain⟨t,rfl⟩:=rx;obtain⟨t',rfl⟩:=ry;exact PySem.P.le_str (bq I q (by simp))
theorem wI:∀ {bs:Ry Bool} {us:Ry RA},bQ (bs.map V.bl) us->∀ (i:Nat) (v:RA),us[i]?=some v->∃ b,bs[i]?=some b/\v=Value.bool b
 |[],_,.nil,i,v,e=>by simp at e
 |b::bs,_,.cons r t,0,v,e=>by
  simp at e;subst e;exact⟨b,by simp,r⟩
 |b::bs,_,.cons r t,i+1,v,e=>by
  obtain⟨c,h1,h2⟩:=wI t i v (by simpa using e);exact⟨c,by simpa using h1,h2⟩
theorem Ef(hc:X.calm=true):gf X (.builtin "all") (λ xs H Q=>∃(p:RB) (bs:Ry Bool),xs=[.ref p]/\SqL X.K H p (bs.map V.bl)/\Q (.bl (bs.all id)) H):=by
 intro Qv s σ H xs us Q I r h;obtain⟨p,bs,rfl,hL,q⟩:=h;obtain⟨u,rfl,ru⟩:=vals1 r;cases(ru);obtain⟨its,rv,pl,hz⟩:=I.list hL;have hl:=pl.isList;have hlen:=rv.length;rw[Za]at hlen;have hlt:p<s.heap.objs.size:=by obtain⟨_,e,_⟩:=hl;exact Zr e
 refine call_all_walk (wpAny_pyIter_list hl ?_)
 refine⟨s.heap.objs.size,[s.heap.objs.size,p],[s.heap.objs.size],its.toArray.size,_,_,λ i=>(bs[i]?).getD true,rfl,Walks.list (A:=X.A.in1) (I.ok.hd hc) _ p (Zx hlt) its.toArray,
  ⟨⟨_,QC _ rfl,rfl,rfl⟩,hl.push _⟩,λ i v s' Q' E' hP hQ=>?_,λ h' tk hk=>?_⟩
 ·obtain ⟨b,e,rfl⟩:=wI rv i v (by simpa using hP)
  simp only[e,Option.getD_some]at hQ;exact Yp hQ
 ·have e:((List.range its.toArray.size).all λ i=>(bs[i]?).getD true)=bs.all id:=by
   rw[Zs,<- hlen,Xn,Xd,Xd];constructor
   ·intro hh b hb
    obtain⟨i,hi,rfl⟩:=List.getElem_of_mem hb;have:=hh i (Y7.mpr hi)
    simpa [QA hi] using this
   ·intro hh i hi
    have hi':=Y7.mp hi;simp only[QA hi',Option.getD_some];exact hh _ (Yt hi')
  rw[e];refine⟨.bl _,H,I.kept λ b x ex=>hk b x (λ hm=>?_) (My _ ex),rfl,q⟩;rw[Zy.mp hm]at ex;exact Y3 _ (Zr ex)
end
theorem HY (h0:closureFor scope X.env=pure cl) (h1:scope.kind=.function) (h2:(scope.names.all λ y=>!(y.2 == .cell))=true)
  (h3:(scope.names.all λ y=>!(y.2 == .local)||(scope.names.lookup y.1 == some .local))=true) (h4:scope.names.lookup x=some .local) (h5:∀ p ∈ cl,X.env.cells.lookup p.1=some p.2)
  (h6:((relabel scope X.env).names.all λ p=>!(p.2 == .cell||p.2 == .free)||(cl.lookup p.1).isSome)=true)
  (h7:∀ p ∈ cs,X.N[p.2]?=some p.1/\X.env.kindOf p.1=some .cell/\(relabel scope X.env).names.lookup p.1=some .cell) (h8:(x::cs.map (·.1)).Nodup):eX X scope cl x cs where
 kB:=h0
 kind:=h1
 oi:=λ y hy z=>by
  have:=Xd.mp h2 y hy;rw[z]at this;exact absurd this (by decide)
 names:=λ y hy z=>by
  have:=Xd.mp h3 y hy;rw[z]at this
  simpa using this
 own:=h4
 sub:=λ y c e=>h5 (y,c) (Yl e)
 has:=λ y hy=>by
  have key:∀ k,(relabel scope X.env).names.lookup y=some k->(k=.cell\/k=.free)->∃ c,cl.lookup y=some c:=λ k e hk=>by
   have:=Xd.mp h6 (y,k) (Yl e);rcases hk with rfl|rfl
   · exact Xh.mp (by simpa using this)
   · exact Xh.mp (by simpa using this)
  rcases hy with hy|hy
  · exact key _ hy (.inl rfl)
  · exact key _ hy (.inr rfl)
 Oj:=λ p hp=>⟨(h7 p hp).1,.inl (h7 p hp).2.1,.inl (h7 p hp).2.2⟩
 nd:=h8
def IV (X:Cx):Ry (Str×RB)->Prop
 |[]=>True
 |p::r=>X.env.cells.lookup p.1=some p.2/\IV X r
def AllP (X:Cx) (scope:Scope):Ry (Str×Nat)->Prop
 |[]=>True
 |p::r=>(X.N[p.2]?=some p.1/\X.env.kindOf p.1=some .cell/\(relabel scope X.env).names.lookup p.1=some .cell)/\AllP X scope r
theorem IV.all:∀ {cl:Ry (Str×RB)},IV X cl->∀ p ∈ cl,X.env.cells.lookup p.1=some p.2
 |[],_,p,h=>by cases h
 |q::r,a,p,h=>by
  rcases Zi.mp h with rfl|h
  · exact a.1
  · exact IV.all a.2 p h
theorem AllP.all:∀ {cs:Ry (Str×Nat)},AllP X scope cs->∀ p ∈ cs,X.N[p.2]?=some p.1/\X.env.kindOf p.1=some .cell/\(relabel scope X.env).names.lookup p.1=some .cell
 |[],_,p,h=>by cases h
 |q::r,a,p,h=>by
  rcases Zi.mp h with rfl|h
  · exact a.1
  · exact AllP.all a.2 p h
theorem HX cs (h0:closureFor scope X.env=pure cl) (h1:scope.kind=.function) (h2:(scope.names.all λ y=>!(y.2 == .cell))=true)
 (h3:(scope.names.all λ y=>!(y.2 == .local)||(scope.names.lookup y.1 == some .local))=true) (h4:scope.names.lookup x=some .local) (h5:IV X cl)
 (h6:((relabel scope X.env).names.all λ p=>!(p.2 == .cell||p.2 == .free)||(cl.lookup p.1).isSome)=true)
 (h7:AllP X scope cs) (h8:(x::cs.map (·.1)).Nodup):eX X scope cl x cs:=HY h0 h1 h2 h3 h4 h5.all h6 h7.all h8
end L2
end
section
namespace L2
theorem g54{α β γ δ ε}{A B C D:α->β->γ->δ->ε->Prop}{P:Prop}(h:∃ a b c d e,A a b c d e/\B a b c d e/\C a b c d e/\D a b c d e)(k:∀ a b c d e,A a b c d e->B a b c d e->C a b c d e->D a b c d e->P):P:=by obtain⟨_,_,_,_,_,x0,x1,x2,x3⟩:=h;exact k _ _ _ _ _ x0 x1 x2 x3
theorem g53{α β γ δ ε}{A B C:α->β->γ->δ->ε->Prop}{P:Prop}(h:∃ a b c d e,A a b c d e/\B a b c d e/\C a b c d e)(k:∀ a b c d e,A a b c d e->B a b c d e->C a b c d e->P):P:=by obtain⟨_,_,_,_,_,x0,x1,x2⟩:=h;exact k _ _ _ _ _ x0 x1 x2
theorem g64{α β γ δ ε ζ}{A B C D:α->β->γ->δ->ε->ζ->Prop}{P:Prop}(h:∃ a b c d e f,A a b c d e f/\B a b c d e f/\C a b c d e f/\D a b c d e f)(k:∀ a b c d e f,A a b c d e f->B a b c d e f->C a b c d e f->D a b c d e f->P):P:=by obtain⟨_,_,_,_,_,_,x0,x1,x2,x3⟩:=h;exact k _ _ _ _ _ _ x0 x1 x2 x3
theorem g45{α β γ δ}{A B C D E:α->β->γ->δ->Prop}{P:Prop}(h:∃ a b c d,A a b c d/\B a b c d/\C a b c d/\D a b c d/\E a b c d)(k:∀ a b c d,A a b c d->B a b c d->C a b c d->D a b c d->E a b c d->P):P:=by obtain⟨_,_,_,_,x0,x1,x2,x3,x4⟩:=h;exact k _ _ _ _ x0 x1 x2 x3 x4
theorem g34{α β γ}{A B C D:α->β->γ->Prop}{P:Prop}(h:∃ a b c,A a b c/\B a b c/\C a b c/\D a b c)(k:∀ a b c,A a b c->B a b c->C a b c->D a b c->P):P:=by obtain⟨_,_,_,x0,x1,x2,x3⟩:=h;exact k _ _ _ x0 x1 x2 x3
theorem g73{α β δ ε ζ η}{N:β->Prop}{A B C:α->β->δ->ε->ζ->η->Prop}{P:Prop}(h:∃ a b,∃(_:N b),∃ d e f g,A a b d e f g/\B a b d e f g/\C a b d e f g)(k:∀ a b,N b->∀ d e f g,A a b d e f g->B a b d e f g->C a b d e f g->P):P:=by obtain⟨_,_,y,_,_,_,_,x0,x1,x2⟩:=h;exact k _ _ y _ _ _ _ x0 x1 x2
theorem g83{α β δ ε ζ η θ}{N:β->Prop}{A B C:α->β->δ->ε->ζ->η->θ->Prop}{P:Prop}(h:∃ a b,∃(_:N b),∃ d e f g h,A a b d e f g h/\B a b d e f g h/\C a b d e f g h)(k:∀ a b,N b->∀ d e f g h,A a b d e f g h->B a b d e f g h->C a b d e f g h->P):P:=by obtain⟨_,_,y,_,_,_,_,_,x0,x1,x2⟩:=h;exact k _ _ y _ _ _ _ _ x0 x1 x2
theorem g84{α β δ ε ζ η θ}{N:β->Prop}{A B C D:α->β->δ->ε->ζ->η->θ->Prop}{P:Prop}(h:∃ a b,∃(_:N b),∃ d e f g h,A a b d e f g h/\B a b d e f g h/\C a b d e f g h/\D a b d e f g h)(k:∀ a b,N b->∀ d e f g h,A a b d e f g h->B a b d e f g h->C a b d e f g h->D a b d e f g h->P):P:=by obtain⟨_,_,y,_,_,_,_,_,x0,x1,x2,x3⟩:=h;exact k _ _ y _ _ _ _ _ x0 x1 x2 x3
theorem g94{α β δ ε ζ η θ ι}{N:β->Prop}{A B C D:α->β->δ->ε->ζ->η->θ->ι->Prop}{P:Prop}(h:∃ a b,∃(_:N b),∃ d e f g h i,A a b d e f g h i/\B a b d e f g h i/\C a b d e f g h i/\D a b d e f g h i)(k:∀ a b,N b->∀ d e f g h i,A a b d e f g h i->B a b d e f g h i->C a b d e f g h i->D a b d e f g h i->P):P:=by obtain⟨_,_,y,_,_,_,_,_,_,x0,x1,x2,x3⟩:=h;exact k _ _ y _ _ _ _ _ _ x0 x1 x2 x3
end L2
end
section
namespace L2
open PySem PySem.Spec PyProof.Rows
inductive D where
 |non|bl (b:Bool)|int (i:Int)|str (x:Str)|ty (n:String)
 |tup (ds:List D)|lst (ds:List D)|fz (ds:List D)|dct (kvs:List (Key×D))|obj (C:Addr) (fs:List (Str×D))|cls (C:Addr)|dfz (kvs:List (Key×D))
mutual
inductive Rp (K:W.Frag) (H:Hp):V->D->Prop where
 |non:Rp K H .non .non
 |bl (b:Bool):Rp K H (.bl b) (.bl b)
 |int (i:Int):Rp K H (.int i) (.int i)
 |str (x:Str):Rp K H (.str x) (.str x)
 |ty (n:String):Rp K H (.ty n) (.ty n)
 |cls (C:Addr):Rp K H (.ref C) (.cls C)
 |tup {a:Addr} {xs:List V} {ds:List D} (h:SqT K H a xs) (r:Rps K H xs ds):Rp K H (.ref a) (.tup ds)
 |lst {a:Addr} {xs:List V} {ds:List D} (h:H a=some (.lst xs)) (r:Rps K H xs ds):Rp K H (.ref a) (.lst ds)
 |fz {a:Addr} {xs:List V} {ds:List D} (h:SqL K H a xs) (r:Rps K H xs ds):Rp K H (.ref a) (.fz ds)
 |dct {a:Addr} {kvs:List (Key×V)} {ds:List (Key×D)} (h:H a=some (.dK kvs)) (r:RpK K H kvs ds):Rp K H (.ref a) (.dct ds)
 |obj {a C dx:Addr} {fs:List (Str×V)} {ds:List (Str×D)} (h:H a=some (.ins C dx fs)) (r:RpF K H fs ds):Rp K H (.ref a) (.obj C ds)
 |dfz {a:Addr} {kvs:List (Key×V)} {ds:List (Key×D)} (h:∃ o,H a=some (.frz o (.dK kvs))) (r:RpK K H kvs ds):Rp K H (.ref a) (.dfz ds)
inductive Rps (K:W.Frag) (H:Hp):List V->List D->Prop where
 |nil:Rps K H [] []
 |cons {x:V} {d:D} {xs:List V} {ds:List D} (h:Rp K H x d) (r:Rps K H xs ds):Rps K H (x::xs) (d::ds)
inductive RpK (K:W.Frag) (H:Hp):List (Key×V)->List (Key×D)->Prop where
 |nil:RpK K H [] []
 |cons {k:Key} {x:V} {d:D} {xs:List (Key×V)} {ds:List (Key×D)} (h:Rp K H x d) (r:RpK K H xs ds):RpK K H ((k,x)::xs) ((k,d)::ds)
inductive RpF (K:W.Frag) (H:Hp):List (Str×V)->List (Str×D)->Prop where
 |nil:RpF K H [] []
 |cons {k:Str} {x:V} {d:D} {xs:List (Str×V)} {ds:List (Str×D)} (h:Rp K H x d) (r:RpF K H xs ds):RpF K H ((k,x)::xs) ((k,d)::ds)
end
section
variable{K:RC}{H H':Hp}
mutual
theorem Rp.same (g:bM H H'):∀ {v:V} {d:D},Rp K H v d->Rp K H' v d
 |_,_,.non=>.non
 |_,_,.bl b=>.bl b
 |_,_,.int i=>.int i
 |_,_,.str x=>.str x
 |_,_,.ty n=>.ty n
 |_,_,.cls n=>.cls n
 |_,_,.tup h r=>.tup (g.tup h) (Rps.same g r)
 |_,_,.lst h r=>.lst (g _ _ h) (Rps.same g r)
 |_,_,.fz h r=>.fz (g.seq h) (Rps.same g r)
 |_,_,.dct h r=>.dct (g _ _ h) (RpK.same g r)
 |_,_,.obj h r=>.obj (g _ _ h) (RpF.same g r)
 |_,_,.dfz h r=>.dfz (h.imp λ _ z=>g _ _ z) (RpK.same g r)
theorem Rps.same (g:bM H H'):∀ {v:Ry V} {d:Ry D},Rps K H v d->Rps K H' v d
 |_,_,.nil=>.nil
 |_,_,.cons h r=>.cons (Rp.same g h) (Rps.same g r)
theorem RpK.same (g:bM H H'):∀ {v:Ry (Key×V)} {d:Ry (Key×D)},RpK K H v d->RpK K H' v d
 |_,_,.nil=>.nil
 |_,_,.cons h r=>.cons (Rp.same g h) (RpK.same g r)
theorem RpF.same (g:bM H H'):∀ {v:Ry (Str×V)} {d:Ry (Str×D)},RpF K H v d->RpF K H' v d
 |_,_,.nil=>.nil
 |_,_,.cons h r=>.cons (Rp.same g h) (RpF.same g r)
end
theorem Rps.length:∀ {xs:Ry V} {ds:Ry D},Rps K H xs ds->xs.length=ds.length
 |_,_,.nil=>rfl
 |_,_,.cons _ r=>Z6 (·+1) r.length
theorem Rps.get:∀ {xs:Ry V} {ds:Ry D} {i:Nat} {d:D},Rps K H xs ds->ds[i]?=some d->∃ x,xs[i]?=some x/\Rp K H x d
 |_,_,_,_,.nil,e=>by simp at e
 |_,_,0,_,.cons h _,e=>by simp at e;subst e;exact⟨_,by simp,h⟩
 |_,_,i+1,d,.cons _ r,e=>by
  obtain⟨x,h1,h2⟩:=Rps.get (i:=i) (d:=d) r (by simpa using e);exact⟨x,by simpa using h1,h2⟩
theorem Rps.get':∀ {xs:Ry V} {ds:Ry D} {i:Nat} {x:V},Rps K H xs ds->xs[i]?=some x->∃ d,ds[i]?=some d/\Rp K H x d
 |_,_,_,_,.nil,e=>by simp at e
 |_,_,0,_,.cons h _,e=>by simp at e;subst e;exact⟨_,by simp,h⟩
 |_,_,i+1,x,.cons _ r,e=>by
  obtain⟨d,h1,h2⟩:=Rps.get' (i:=i) (x:=x) r (by simpa using e);exact⟨d,by simpa using h1,h2⟩
theorem Rps.append:∀ {xs ys:Ry V} {ds es:Ry D},Rps K H xs ds->Rps K H ys es->Rps K H (xs++ys) (ds++es)
 |_,_,_,_,.nil,h=>h
 |_,_,_,_,.cons h r,h'=>.cons h (Rps.append r h')
theorem Rps.take:∀ {xs:Ry V} {ds:Ry D} (n:Nat),Rps K H xs ds->Rps K H (xs.take n) (ds.take n)
 |_,_,0,_=>.nil
 |_,_,_+1,.nil=>.nil
 |_,_,n+1,.cons h r=>.cons h (Rps.take n r)
theorem Rps.drop:∀ {xs:Ry V} {ds:Ry D} (n:Nat),Rps K H xs ds->Rps K H (xs.drop n) (ds.drop n)
 |_,_,0,h=>h
 |_,_,_+1,.nil=>.nil
 |_,_,n+1,.cons _ r=>Rps.drop n r
theorem Rps.ints:∀ (ns:Ry Int),Rps K H (ns.map V.int) (ns.map D.int)
 |[]=>.nil
 |n::ns=>.cons (.int n) (Rps.ints ns)
theorem Rps.strs:∀ (ns:Ry Str),Rps K H (ns.map V.str) (ns.map D.str)
 |[]=>.nil
 |n::ns=>.cons (.str n) (Rps.strs ns)
end
theorem Rps.uc{K:RC}{H:Hp}{xs}{d}{ds}(h:Rps K H xs (d::ds)):∃ x ys,xs=x::ys/\Rp K H x d/\Rps K H ys ds:=by cases h with|cons a b=>exact⟨_,_,rfl,a,b⟩
theorem Rps.un{K:RC}{H:Hp}{xs}(h:Rps K H xs []):xs=[]:=by cases h;rfl
theorem Rp.ut{K:RC}{H:Hp}{v}{ds}(h:Rp K H v (.tup ds)):∃ a xs,v=.ref a/\SqT K H a xs/\Rps K H xs ds:=by cases h with|tup a b=>exact⟨_,_,rfl,a,b⟩
theorem Rp.ui{K:RC}{H:Hp}{v}{i}(h:Rp K H v (.int i)):v=.int i:=by cases h;rfl
theorem Rp.ub{K:RC}{H:Hp}{v}{i}(h:Rp K H v (.bl i)):v=.bl i:=by cases h;rfl
theorem Rp.us{K:RC}{H:Hp}{v}{i}(h:Rp K H v (.str i)):v=.str i:=by cases h;rfl
def Rp.u0{K:RC}{H:Hp}{v}(h:Rp K H v .non):v=.non:=by cases h;rfl
theorem qr{K:RC}{H:Hp}{xs}{a b}(h:Rps K H xs [a,b]):∃ x y,xs=[x,y]/\Rp K H x a/\Rp K H y b:=by
 obtain⟨_,_,rfl,p,h⟩:=h.uc;obtain⟨_,_,rfl,q,h⟩:=h.uc;cases h.un;exact⟨_,_,rfl,p,q⟩
structure Ext (Hs H Hs' H':Hp):Prop where
 ss:bM Hs Hs'
 sh:bM Hs' H'
 hh:bM H H'
 fr:∀ b,Hs b=none->H b≠none->Hs' b=none
def Ext.refl(h:bM Hs H):Ext Hs H Hs H:=⟨.refl _,h,.refl _,λ _ h _=>h⟩
def gu{α:Type}{o}{x:α}(h:o=some x):o≠none:=by rw[h];simp
theorem bM.live(g:bM H H')(h:H b≠none):H' b≠none:=by
 cases q:H b with
 |none=>exact absurd q h
 |some o=>rw[g _ _ q];simp
theorem Ext.trans(a:Ext Hs H Hs1 H1)(b:Ext Hs1 H1 Hs2 H2):Ext Hs H Hs2 H2:=
 ⟨a.ss.trans b.ss,b.sh,a.hh.trans b.hh,λ c h1 h2=>b.fr c (a.fr c h1 h2) (a.hh.live h2)⟩
theorem Ext.new(h:bM Hs H)(hp:H p=none) o:Ext Hs H (upd Hs p o) (upd H p o):=by
 refine⟨aF (h.free hp) o,λ b u q=>?_,aF hp o,λ b h1 h2=>?_⟩
 ·by_cases e:b=p
  · subst e;rw[ay]at q ⊢;exact q
  · rw[ar e]at q ⊢;exact h _ _ q
 ·by_cases e:b=p
  · subst e;exact absurd hp h2
  · rw[ar e];exact h1
inductive Sl where
 |no|shr (d:D)|own (d:D)
inductive Ow (K:W.Frag) (Hs H:Hp) (a:Addr):D->Prop where
 |lst {xs:List V} {ds:List D} (h:H a=some (.lst xs)) (n:Hs a=none) (r:Rps K Hs xs ds):Ow K Hs H a (.lst ds)
 |dct {kvs:List (Key×V)} {ds:List (Key×D)} (h:H a=some (.dK kvs)) (n:Hs a=none) (r:RpK K Hs kvs ds):Ow K Hs H a (.dct ds)
theorem Ow.hid{K}{Hs H}{a}{d}(h:Ow K Hs H a d):Hs a=none:=by cases h<;>assumption
theorem Ow.live{K}{Hs H}{a}{d}(h:Ow K Hs H a d):H a≠none:=by
 cases h with
 |lst h _ _=>exact gu h
 |dct h _ _=>exact gu h
theorem Ow.ext{K}{Hs H Hs' H'}{a}{d}(g:Ext Hs H Hs' H')(h:Ow K Hs H a d):Ow K Hs' H' a d:=by
 have n':=g.fr a h.hid h.live
 cases h with
 |lst h n r=>exact .lst (g.hh _ _ h) n' (r.same g.ss)
 |dct h n r=>exact .dct (g.hh _ _ h) n' (r.same g.ss)
theorem Ow.off{K}{Hs H H'}{a}{d}(h:Ow K Hs H a d)(e:H' a=H a):Ow K Hs H' a d:=by
 cases h with
 |lst h n r=>exact .lst (e.trans h) n r
 |dct h n r=>exact .dct (e.trans h) n r
inductive StR (K:W.Frag) (H0 Hs H:Hp):List (Option V)->List Sl->List Addr->Prop where
 |nil:StR K H0 Hs H [] [] []
 |no {o:Option V} {σ:List (Option V)} {τ:List Sl} {fp:List Addr} (r:StR K H0 Hs H σ τ fp):StR K H0 Hs H (o::σ) (.no::τ) fp
 |shr {v:V} {d:D} {σ:List (Option V)} {τ:List Sl} {fp:List Addr} (h:Rp K Hs v d) (r:StR K H0 Hs H σ τ fp):StR K H0 Hs H (some v::σ) (.shr d::τ) fp
 |own {a:Addr} {d:D} {σ:List (Option V)} {τ:List Sl} {fp:List Addr} (h:Ow K Hs H a d) (z:H0 a=none) (m:a ∉ fp) (r:StR K H0 Hs H σ τ fp):StR K H0 Hs H (some (.ref a)::σ) (.own d::τ) (a::fp)
section
variable{K:RC}{H0 Hs H Hs' H':Hp}{σ:Ry (Rz V)}{τ:Ry Sl}{fp:Ry RB}
theorem StR.ext(g:Ext Hs H Hs' H')(h:StR K H0 Hs H σ τ fp):StR K H0 Hs' H' σ τ fp:=by
 induction h with
 |nil=>exact .nil
 |no _ ih=>exact .no ih
 |shr h _ ih=>exact .shr (h.same g.ss) ih
 |own h z m _ ih=>exact .own (h.ext g) z m ih
theorem StR.off(h:StR K H0 Hs H σ τ fp)(m:a ∉ fp):StR K H0 Hs (upd H a o) σ τ fp:=by
 induction h with
 |nil=>exact .nil
 |no _ ih=>exact .no (ih m)
 |shr h _ ih=>exact .shr h (ih m)
 |@own b d σ τ fp h z n _ ih=>
  have ne:b≠a:=λ e=>m (by rw[e];exact Zg ..)
  exact .own (h.off (ar ne)) z n (ih (λ q=>m (Zd _ q)))
theorem StR.HH(h:StR K H0 Hs H σ τ fp):∀ a ∈ fp,Hs a=none/\H0 a=none/\H a≠none:=by
 induction h with
 |nil=>intro a h;cases h
 |no _ ih=>exact ih
 |shr _ _ ih=>exact ih
 |own h z m _ ih=>
  intro b hb;rcases Zi.mp hb with e|e
  · subst e;exact⟨h.hid,z,h.live⟩
  · exact ih b e
theorem StR.get{i:Nat}{d}(h:StR K H0 Hs H σ τ fp):τ[i]?=some (.shr d)->∃ v,σ[i]?=some (some v)/\Rp K Hs v d:=by
 induction h generalizing i with
 |nil=>intro e;simp at e
 |no _ ih=>
  intro e
  cases i with
  |zero=>simp at e
  |succ i=>exact ih (by simpa using e)
 |shr h _ ih=>
  intro e
  cases i with
  |zero=>simp at e;subst e;exact⟨_,rfl,h⟩
  |succ i=>exact ih (by simpa using e)
 |own _ _ _ _ ih=>
  intro e
  cases i with
  |zero=>simp at e
  |succ i=>exact ih (by simpa using e)
theorem StR.Lo{i:Nat}{d}(h:StR K H0 Hs H σ τ fp):τ[i]?=some (.own d)->∃ a,σ[i]?=some (some (.ref a))/\Ow K Hs H a d/\H0 a=none/\a ∈ fp:=by
 induction h generalizing i with
 |nil=>intro e;simp at e
 |no _ ih=>
  intro e
  cases i with
  |zero=>simp at e
  |succ i=>exact ih (by simpa using e)
 |shr h _ ih=>
  intro e
  cases i with
  |zero=>simp at e
  |succ i=>exact ih (by simpa using e)
 |own h z m _ ih=>
  intro e
  cases i with
  |zero=>simp at e;subst e;exact⟨_,rfl,h,z,Zg ..⟩
  |succ i=>
   obtain⟨a,h1,h2,h3,h4⟩:=ih (by simpa using e);exact⟨a,h1,h2,h3,Zd _ h4⟩
theorem StR.Cd(hv:Rp K Hs v d)(h:StR K H0 Hs H σ τ fp):∃ fp',(∀ a ∈ fp',a ∈ fp)/\StR K H0 Hs H (σ.set i (some v)) (τ.set i (.shr d)) fp':=by
 induction h generalizing i with
 |nil=>exact⟨[],λ _ h=>h,.nil⟩
 |no r ih=>
  cases i with
  |zero=>exact⟨_,λ _ h=>h,.shr hv r⟩
  |succ i=>obtain⟨fp',h1,h2⟩:=ih;exact⟨fp',h1,.no h2⟩
 |shr h r ih=>
  cases i with
  |zero=>exact⟨_,λ _ h=>h,.shr hv r⟩
  |succ i=>obtain⟨fp',h1,h2⟩:=ih;exact⟨fp',h1,.shr h h2⟩
 |own h z m r ih=>
  cases i with
  |zero=>exact⟨_,λ _ h=>Zd _ h,.shr hv r⟩
  |succ i=>
   obtain⟨fp',h1,h2⟩:=ih (i:=i);exact⟨_::fp',λ b hb=>(Zi.mp hb).elim (λ e=>by subst e;exact Zg ..) λ e=>Zd _ (h1 b e),.own h z (λ q=>m (h1 _ q)) h2⟩
theorem StR.PB(hv:Ow K Hs H a d)(z0:H0 a=none)(h:StR K H0 Hs H σ τ fp)(m0:a ∉ fp)(hi:i<τ.length):∃ fp',(∀ b ∈ fp',b=a\/b ∈ fp)/\StR K H0 Hs H (σ.set i (some (.ref a))) (τ.set i (.own d)) fp':=by
 induction h generalizing i with
 |nil=>exact absurd hi (by simp)
 |@no o σ τ fp r ih=>
  cases i with
  |zero=>exact⟨a::fp,λ b h=>Zi.mp h,.own hv z0 m0 r⟩
  |succ i=>obtain⟨fp',h1,h2⟩:=ih m0 (by simpa using hi);exact⟨fp',h1,.no h2⟩
 |@shr v d σ τ fp h r ih=>
  cases i with
  |zero=>exact⟨a::fp,λ b h=>Zi.mp h,.own hv z0 m0 r⟩
  |succ i=>obtain⟨fp',h1,h2⟩:=ih m0 (by simpa using hi);exact⟨fp',h1,.shr h h2⟩
 |@own b d' σ τ fp h z m r ih=>
  have m1:a ∉ fp:=λ q=>m0 (Zd _ q)
  cases i with
  |zero=>exact⟨a::fp,λ c hc=>(Zi.mp hc).imp id λ e=>Zd _ e,.own hv z0 m1 r⟩
  |succ i=>
   obtain⟨fp',h1,h2⟩:=ih m1 (i:=i) (by simpa using hi);refine⟨b::fp',λ c hc=>?_,.own h z (λ q=>?_) h2⟩
   ·rcases Zi.mp hc with e | e
    · exact .inr (by subst e;exact Zg ..)
    · exact(h1 c e).imp id λ e=>Zd _ e
   ·rcases h1 _ q with e | e
    · exact m0 (by rw[<- e];exact Zg ..)
    · exact m e
theorem StR.mut{i}{a}{d d'}{o}(h:StR K H0 Hs H σ τ fp):τ[i]?=some (.own d)->σ[i]?=some (some (.ref a))->Ow K Hs (upd H a o) a d'->StR K H0 Hs (upd H a o) σ (τ.set i (.own d')) fp:=by
 induction h generalizing i with
 |nil=>intro e;simp at e
 |no _ ih=>
  intro e e2 hv
  cases i with
  |zero=>simp at e
  |succ i=>exact .no (ih (by simpa using e) (by simpa using e2) hv)
 |shr h _ ih=>
  intro e e2 hv
  cases i with
  |zero=>simp at e
  |succ i=>exact .shr h (ih (by simpa using e) (by simpa using e2) hv)
 |@own b d1 σ τ fp h z m r ih=>
  intro e e2 hv
  cases i with
  |zero=>
   have q:b=a:=by simpa using e2
   subst q;exact .own hv z m (r.off m)
  |succ i=>
   have e':τ[i]?=some (.own d):=by simpa using e
   have e2':σ[i]?=some (some (.ref a)):=by simpa using e2
   obtain⟨c,h1,h2,h3,h4⟩:=r.Lo e';have q:c=a:=by rw[e2']at h1;simpa using h1.symm
   subst q;have ne:b≠c:=λ e=>m (by rw[e];exact h4)
   exact .own (h.off (ar ne)) z m (ih e' e2' hv)
end
theorem Ow.rp{K}{Hs H}{a}{d}(h:Ow K Hs H a d):∃ o,H a=some o/\Rp K (upd Hs a o) (.ref a) d:=by
 cases h with
 |lst h n r=>exact⟨_,h,.lst ay (r.same (aF n _))⟩
 |dct h n r=>exact⟨_,h,.dct ay (r.same (aF n _))⟩
section
variable{K:RC}{H0 Hs H Hs' H':Hp}{σ:Ry (Rz V)}{τ:Ry Sl}{fp:Ry RB}
theorem StR.Qq(h:StR K H0 Hs H σ τ fp)(n:Hs a=none)(m:a ∉ fp):StR K H0 (upd Hs a o) H σ τ fp:=by
 induction h with
 |nil=>exact .nil
 |no _ ih=>exact .no (ih m)
 |shr h _ ih=>exact .shr (h.same (aF n o)) (ih m)
 |@own b d σ τ fp h z k _ ih=>
  have ne:b≠a:=λ e=>m (by rw[e];exact Zg ..)
  refine .own ?_ z k (ih (λ q=>m (Zd _ q)))
  cases h with
  |lst h n' r=>exact .lst h (by rw[ar ne];exact n') (r.same (aF n o))
  |dct h n' r=>exact .dct h (by rw[ar ne];exact n') (r.same (aF n o))
theorem StR.frz{i}{d}(h:StR K H0 Hs H σ τ fp):τ[i]?=some (.own d)->∃ a o fp',H a=some o/\Hs a=none/\H0 a=none/\StR K H0 (upd Hs a o) H σ (τ.set i (.shr d)) fp'/\a ∉ fp'/\(∀ b ∈ fp',b ∈ fp)/\σ[i]?=some (some (.ref a))/\Ow K Hs H a d:=by
 induction h generalizing i with
 |nil=>intro e;simp at e
 |no _ ih=>
  intro e
  cases i with
  |zero=>simp at e
  |succ i=>
   obtain⟨a,o,fp',h1,h2,h3,h4,h5,h6,h7,h8⟩:=ih (by simpa using e);exact⟨a,o,fp',h1,h2,h3,.no h4,h5,h6,h7,h8⟩
 |shr h _ ih=>
  intro e
  cases i with
  |zero=>simp at e
  |succ i=>
   obtain⟨a,o,fp',h1,h2,h3,h4,h5,h6,h7,h8⟩:=ih (by simpa using e);exact⟨a,o,fp',h1,h2,h3,.shr (h.same (aF h2 o)) h4,h5,h6,h7,h8⟩
 |@own b d1 σ τ fp h z m r ih=>
  intro e
  cases i with
  |zero=>
   simp at e;subst e;obtain⟨o,h1,h2⟩:=h.rp;exact⟨b,o,fp,h1,h.hid,z,.shr h2 (r.Qq h.hid m),m,λ _ q=>Zd _ q,rfl,h⟩
  |succ i=>
   obtain⟨a,o,fp',h1,h2,h3,h4,h5,h6,h7,h8⟩:=ih (i:=i) (by simpa using e);obtain⟨c,k1,k2,k3,k4⟩:=r.Lo (i:=i) (by simpa using e);have q:c=a:=by rw[h7]at k1;simpa using k1.symm
   subst q;have ne:b≠c:=λ e=>m (by rw[e];exact k4)
   refine⟨c,o,b::fp',h1,h2,h3,.own ?_ z (λ q=>m (h6 _ q)) h4,?_,?_,h7,h8⟩
   ·cases h with
    |lst h n' r=>exact .lst h (by rw[ar ne];exact n') (r.same (aF h2 o))
    |dct h n' r=>exact .dct h (by rw[ar ne];exact n') (r.same (aF h2 o))
   ·intro q
    rcases Zi.mp q with e|e
    · exact ne e.symm
    · exact h5 e
   ·intro c' hc
    rcases Zi.mp hc with e|e
    · subst e;exact Zg ..
    · exact Zd _ (h6 _ e)
end
abbrev DE:=Ry Sl->Rz D
abbrev DT:=Ry Sl->Rz Bool
abbrev DA:=Ry Sl->Rz (Ry D)
inductive Out where
 |next (τ:List Sl)|ret (s:Sl)|brk (τ:List Sl)|cnt (τ:List Sl)
abbrev DS:=Ry Sl->Rz Out
def SlV (K:RC) (H0 Hs H:Hp) (v:V):Sl->Prop
 |.no=>False
 |.shr d=>Rp K Hs v d
 |.own d=>∃ a,v=.ref a/\Ow K Hs H a d/\H0 a=none
structure Rep (K:W.Frag) (Hs0 H0 Hs H:Hp) (σ:St) (τ:List Sl):Prop where
 ext:Ext Hs0 H0 Hs H
 st:∃ fp,StR K H0 Hs H σ τ fp
def rdE(K:RC)(f:DE):TE:=λ σ H Q=>∃ H0 Hs τ fp d,StR K H0 Hs H σ τ fp/\bM Hs H/\f τ=some d/\∀ v Hs' H',Ext Hs H Hs' H'->Rp K Hs' v d->Q v H'
def rdT(K:RC)(f:DT):TT:=λ σ H Q=>∃ H0 Hs τ fp d,StR K H0 Hs H σ τ fp/\bM Hs H/\f τ=some d/\∀ Hs' H',Ext Hs H Hs' H'->Q d H'
def rdA(K:RC)(f:DA):TA:=λ σ H Q=>∃ H0 Hs τ fp d,StR K H0 Hs H σ τ fp/\bM Hs H/\f τ=some d/\∀ v Hs' H',Ext Hs H Hs' H'->Rps K Hs' v d->Q v H'
def rdO(K:RC)(f:DE):TE:=λ σ H Q=>∃ H0 Hs τ fp d,StR K H0 Hs H σ τ fp/\bM Hs H/\f τ=some d/\∀ a Hs' H',Ext Hs H Hs' H'->Ow K Hs' H' a d->H a=none->Q (.ref a) H'
def PEd(X:Cx)(e:Expr)(f:DE):Prop:=PE X e (rdE X.K f)
def PEo(X:Cx)(e:Expr)(f:DE):Prop:=PE X e (rdO X.K f)
def PTd(X:Cx)(e:Expr)(f:DT):Prop:=PT X e (rdT X.K f)
def PAd(X:Cx)(es:Ry Expr)(f:DA):Prop:=PA X es (rdA X.K f)
noncomputable def Fin (K:RC) (Hs0 H0:Hp) (E:Ends):Out->Prop
 |.next τ=>∀ σ Hs H,Rep K Hs0 H0 Hs H σ τ->E.nx σ H
 |.brk τ=>∀ σ Hs H,Rep K Hs0 H0 Hs H σ τ->E.bk σ H
 |.cnt τ=>∀ σ Hs H,Rep K Hs0 H0 Hs H σ τ->E.ct σ H
 |.ret s=>∀ v Hs H,Ext Hs0 H0 Hs H->SlV K H0 Hs H v s->E.rt v H
def rdS(K:RC)(f:DS):TS:=λ E σ H=>∃ Hs0 H0 Hs τ o,Rep K Hs0 H0 Hs H σ τ/\f τ=some o/\Fin K Hs0 H0 E o
def PSd(X:Cx)(s:Stmt)(f:DS):Prop:=PS X s (rdS X.K f)
def yn(X:Cx)(s:Ry Stmt)(f:DS):Prop:=PSs X s (rdS X.K f)
theorem PE.imp(h:PE X e t)(hi:∀ σ H Q,t' σ H Q->t σ H Q):PE X e t':=λ Qv s σ H Q I q=>h Qv s σ H Q I (hi _ _ _ q)
theorem PT.imp(h:PT X e t)(hi:∀ σ H Q,t' σ H Q->t σ H Q):PT X e t':=λ Qv s σ H Q I q=>h Qv s σ H Q I (hi _ _ _ q)
theorem PA.imp(h:PA X e t)(hi:∀ σ H Q,t' σ H Q->t σ H Q):PA X e t':=λ pos Qv s σ H Q I q=>h pos Qv s σ H Q I (hi _ _ _ q)
theorem PS.imp(h:PS X e t)(hi:∀ E σ H,t' E σ H->t E σ H):PS X e t':=λ Qv s σ H E I q=>h Qv s σ H E I (hi _ _ _ q)
theorem PSs.imp(h:PSs X e t)(hi:∀ E σ H,t' E σ H->t E σ H):PSs X e t':=λ Qv s σ H E I q=>h Qv s σ H E I (hi _ _ _ q)
noncomputable def bf(i:Nat):DE:=λ τ=>match τ[i]? with|some (.shr d)=>some d|_=>none
def dC(d:D):DE:=λ _=>some d
def dOp(o:D->D->Rz D)(f g:DE):DE:=λ τ=>(f τ).bind λ x=>(g τ).bind λ y=>o x y
def dUn(o:D->Rz D)(f:DE):DE:=λ τ=>(f τ).bind o
def eF:DA:=λ _=>some []
def aX(f:DE)(g:DA):DA:=λ τ=>(f τ).bind λ x=>(g τ).bind λ xs=>some (x::xs)
def BE(o:Ry D->Rz D)(f:DA):DE:=λ τ=>(f τ).bind o
def D7(f:DA):DE:=λ τ=>(f τ).bind λ ds=>if ds.length<=100000 then some (.tup ds) else none
def Ma(f:DA):DE:=λ τ=>(f τ).bind λ ds=>if ds.length<=100000 then some (.lst ds) else none
def dIf(c:DT)(f g:DE):DE:=λ τ=>(c τ).bind λ b=>if b=true then f τ else g τ
def so(f g:DE):DE:=λ τ=>(f τ).bind λ x=>match x with|.bl true=>g τ|.bl false=>some (.bl false)|_=>none
def HQ(f:DE):DE:=λ τ=>(f τ).bind λ x=>match x with|.bl b=>some (.bl (!b))|_=>none
def dT(f:DE):DT:=λ τ=>(f τ).bind λ x=>match x with|.bl b=>some b|_=>none
def Cg(f g:DT):DT:=λ τ=>(f τ).bind λ b=>if b=true then g τ else some false
def dOr(f g:DT):DT:=λ τ=>(f τ).bind λ b=>if b=true then some true else g τ
def L9(f:DT):DT:=λ τ=>(f τ).map (!·)
theorem le5(h:n<=100000):n<sizeLine:=Xc h (by rw[Yj];decide)
def yr(h:n<=100000):n<=sizeLine:=Yo (le5 h)
theorem nn{α:Type}{d}{p:Prop}(h:(none:Rz α)=some d):p:=nomatch h
def Ub{α β:Type}{o}{f:α->Rz β}{b}(h:o.bind f=some b):∃ a,o=some a/\f a=some b:=Option.bind_eq_some_iff.mp h
section
variable{X:Cx}{a b c e:Expr}{es:Ry Expr}{pos:Pos}{f g h:DE}
theorem ib(h:PE X e (tC v))(r:∀ H,Rp X.K H v d):PEd X e (dC d):=
 h.imp λ σ H Q w0=>g54 w0 λ H0 Hs τ fp d' st sm e k=>by
  have e':=Zj e;subst e';exact k v Hs H (.refl sm) (r Hs)
theorem zJ(hg:Gl X x)(hm:X.mg x=some u)(r:RelV v u)(rd:∀ H,Rp X.K H v d)(hd:Dg x:=by decide):PEd X (.Name x pos) (dC d):=ib (zy hg hm r hd) rd
def rdR(K:RC)(o:D->D->Rz D):R2:=λ x y H Q=>∃ Hs dx dy d,bM Hs H/\Rp K Hs x dx/\Rp K Hs y dy/\o dx dy=some d/\∀ v Hs' H',Ext Hs H Hs' H'->Rp K Hs' v d->Q v H'
def rdU(K:RC)(o:D->Rz D):V->Hp->VK->Prop:=λ x H Q=>∃ Hs dx d,bM Hs H/\Rp K Hs x dx/\o dx=some d/\∀ v Hs' H',Ext Hs H Hs' H'->Rp K Hs' v d->Q v H'
def rdL(K:RC)(o:Ry D->Rz D):Ry V->Hp->VK->Prop:=λ xs H Q=>∃ Hs ds d,bM Hs H/\Rps K Hs xs ds/\o ds=some d/\∀ v Hs' H',Ext Hs H Hs' H'->Rp K Hs' v d->Q v H'
theorem n9 K (hh:rdE K (dOp o f g) σ H Q):tOp (rdR K o) (rdE K f) (rdE K g) σ H Q:=by
 obtain⟨H0,Hs,τ,fp,d,st,sm,e,k⟩:=hh;obtain⟨x,e1,e⟩:=Ub e;obtain⟨y,e2,e⟩:=Ub e;refine⟨H0,Hs,τ,fp,x,st,sm,e1,λ v Hs1 H1 g1 r1=>?_⟩;refine⟨H0,Hs1,τ,fp,y,st.ext g1,g1.sh,e2,λ u Hs2 H2 g2 r2=>?_⟩;exact⟨Hs2,x,y,d,g2.sh,r1.same g2.ss,r2,e,λ w Hs3 H3 g3 r3=>k w Hs3 H3 ((g1.trans g2).trans g3) r3⟩
theorem PEo.shr(h:PEo X e f):PEd X e f:=
 PE.imp h λ σ H Q w0=>g54 w0 λ H0 Hs τ fp d st sm e k=>⟨H0,Hs,τ,fp,d,st,sm,e,λ a Hs' H' g o z=>by
  obtain⟨ob,h1,h2⟩:=o.rp;refine k _ (upd Hs' a ob) H' ⟨g.ss.trans (aF o.hid ob),λ b u q=>?_,g.hh,λ b h3 h4=>?_⟩ h2
  ·by_cases eb:b=a
   · subst eb;rw[ay]at q;rw[h1];exact q
   · rw[ar eb]at q;exact g.sh _ _ q
  ·by_cases eb:b=a
   · subst eb;exact absurd z h4
   · rw[ar eb];exact g.fr b h3 h4⟩
def PWd(X:Cx)(e:Expr)(f:DT):Prop:=PW X e (rdT X.K f)
theorem PW.imp(h:PW X e t)(hi:∀ σ H Q,t' σ H Q->t σ H Q):PW X e t':=λ wh Qv s σ H Q I q=>h wh Qv s σ H Q I (hi _ _ _ q)
def PWd.ptd{f}(h:PWd X e f):PTd X e f:=PW.pt h
end
instance {i j:Int}:Decidable (FE i j):=by unfold FE;infer_instance
instance {i:Int}:Decidable (Sz i):=by unfold Sz;infer_instance
instance {i j:Int}:Decidable (Ml i j):=by unfold Ml;infer_instance
noncomputable def tV:D->D->Rz D
 |.int i,.int j=>some (.int (i+j))
 |.str x,.str y=>if x.length+y.length<=100000 then some (.str (x++y)) else none
 |.lst x,.lst y=>if x.length+y.length<=100000 then some (.lst (x++y)) else none
 |_,_=>none
noncomputable def LW:D->D->Rz D
 |.int i,.int j=>some (.int (i - j))
 |_,_=>none
def EX:D->D->Rz D
 |.int i,.int j=>if FE i j\/(Sz i/\Sz j) then some (.int (i * j)) else none
 |_,_=>none
def oDiv:D->D->Rz D
 |.int i,.int j=>if j≠0/\Sz j then some (.int (i.fdiv j)) else none
 |_,_=>none
def oMod:D->D->Rz D
 |.int i,.int j=>if j≠0 then some (.int (i.fmod j)) else none
 |_,_=>none
def LX:D->D->Rz D
 |.int i,.int j=>if Ml i j then some (.int (i ^ j.toNat)) else none
 |_,_=>none
def Ko:D->Rz D
 |.int i=>some (.int (-i))
 |_=>none
def oLt:D->D->Rz D
 |.int i,.int j=>some (.bl (decide (i<j)))
 |.str i,.str j=>some (.bl (decide (i.cps.toList<j.cps.toList)))
 |_,_=>none
def oLe:D->D->Rz D
 |.int i,.int j=>some (.bl (decide (i<=j)))
 |_,_=>none
def oGt:D->D->Rz D
 |.int i,.int j=>some (.bl (decide (j<i)))
 |_,_=>none
def Np:D->D->Rz D
 |.non,.non=>some (.bl true)
 |_,.non=>some (.bl false)
 |_,_=>none
def xr:D->D->Rz D
 |.non,.non=>some (.bl false)
 |_,.non=>some (.bl true)
 |_,_=>none
noncomputable def eqS(d e:D):Rz Bool:=match d with
 |.non=>(match e with|.non=>some true|.int _=>some false|.bl _=>some false|.str _=>some false|_=>none)
 |.int i=>(match e with|.non=>some false|.int j=>some (decide (i=j))|.str _=>some false|_=>none)
 |.bl i=>(match e with|.non=>some false|.bl j=>some (decide (i=j))|.str _=>some false|_=>none)
 |.str i=>(match e with|.non=>some false|.int _=>some false|.bl _=>some false|.str j=>some (decide (i=j))|_=>none)
 |_=>none
mutual
noncomputable def jG:D->PySem.W.Dat
 |.non=>.none|.bl b=>.bool b|.int i=>.int i|.str x=>.str x|.ty _=>.bytes #[]
 |.tup ds=>.tuple (fP ds)|.lst ds=>.list (fP ds)|.fz _=>.bytes #[]|.dct _=>.bytes #[]|.obj _ _=>.bytes #[]|.cls _=>.bytes #[]|.dfz _=>.bytes #[]
noncomputable def fP:Ry D->Ry PySem.W.Dat
 |[]=>[]
 |d::ds=>jG d::fP ds
end
mutual
noncomputable def okD:Nat->D->Bool
 |_,.non=>true
 |_,.int _=>true
 |_,.str x=>PyData.strOk x
 |n+1,.tup ds=>kX n ds
 |n+1,.lst ds=>kX n ds
 |_,_=>false
noncomputable def kX:Nat->Ry D->Bool
 |_,[]=>true
 |n,d::ds=>okD n d&&kX n ds
end
open PySem.W in
mutual
theorem iP:∀ (n:Nat) (d:D),okD n d=true->kqdOk n (jG d)=true
 |_,.non,_=>by simp[jG,kqdOk]
 |_,.int _,_=>by simp[jG,kqdOk]
 |n,.str x,h=>by simp[okD]at h;simp[jG,kqdOk,h]
 |n+1,.tup ds,h=>by
  simp[okD]at h;rw[jG,kqdOk];exact pb n ds h
 |n+1,.lst ds,h=>by
  simp[okD]at h;rw[jG,kqdOk];exact pb n ds h
 |_,.bl _,h=>by simp[okD]at h
 |_,.ty _,h=>by simp[okD]at h
 |_,.cls _,h=>by simp[okD]at h
 |_,.dct _,h=>by simp[okD]at h
 |_,.fz _,h=>by simp[okD]at h
 |_,.obj _ _,h=>by simp[okD]at h
 |_,.dfz _,h=>by simp[okD]at h
 |0,.tup _,h=>by simp[okD]at h
 |0,.lst _,h=>by simp[okD]at h
theorem pb:∀ (n:Nat) (ds:Ry D),kX n ds=true->(fP ds).all (kqdOk n)=true
 |_,[],_=>by simp[fP]
 |n,d::ds,h=>by
  simp[kX]at h;simp only[fP,Ww,Yd];exact⟨iP n d h.1,pb n ds h.2⟩
end
mutual
theorem wg:∀ (n:Nat) (d e:D),okD n d=true->okD n e=true->jG d=jG e->d=e
 |_,.non,e,_,h,q=>by cases e<;>simp[jG]at q<;>simp[okD]at h<;>rfl
 |_,.int _,e,_,h,q=>by cases e<;>simp[jG]at q<;>simp[okD]at h<;>rw[q]
 |_,.str x,e,_,h,q=>by cases e<;>simp[jG]at q<;>simp[okD]at h<;>rw[q]
 |n+1,.tup ds,e,h1,h,q=>by
  cases e<;>simp[jG]at q<;>simp[okD]at h
  simp[okD]at h1;rw[mL n _ _ h1 h q]
 |n+1,.lst ds,e,h1,h,q=>by
  cases e<;>simp[jG]at q<;>simp[okD]at h
  simp[okD]at h1;rw[mL n _ _ h1 h q]
 |_,.bl _,_,h,_,_=>by simp[okD]at h
 |_,.ty _,_,h,_,_=>by simp[okD]at h
 |_,.cls _,_,h,_,_=>by simp[okD]at h
 |_,.dct _,_,h,_,_=>by simp[okD]at h
 |_,.fz _,_,h,_,_=>by simp[okD]at h
 |_,.obj _ _,_,h,_,_=>by simp[okD]at h
 |_,.dfz _,_,h,_,_=>by simp[okD]at h
 |0,.tup _,_,h,_,_=>by simp[okD]at h
 |0,.lst _,_,h,_,_=>by simp[okD]at h
theorem mL:∀ (n:Nat) (d e:Ry D),kX n d=true->kX n e=true->fP d=fP e->d=e
 |_,[],e,_,h,q=>by cases e<;>simp[fP]at q;rfl
 |n,d::ds,e,h1,h,q=>by
  cases e with
  |nil=>simp[fP]at q
  |cons e es=>
   simp[fP]at q;simp[kX]at h h1;rw[wg n d e h1.1 h.1 q.1,mL n ds es h1.2 h.2 q.2]
end
section
variable{K:RC}{H:Hp}
mutual
theorem Rp.rdD:∀ {v:V} {d:D} (n:Nat),Rp K H v d->okD n d=true->RdD K H v (jG d)
 |_,_,_,.non,_=>by rw[jG];exact .non
 |_,_,_,.int i,_=>by rw[jG];exact .int i
 |_,_,_,.str i,_=>by rw[jG];exact .str i
 |_,_,n,.tup h r,o=>by
  cases n with
  |zero=>simp[okD]at o
  |succ n=>simp[okD]at o;rw[jG];exact .tup h (Rps.rdD n r o)
 |_,_,n,.lst h r,o=>by
  cases n with
  |zero=>simp[okD]at o
  |succ n=>simp[okD]at o;rw[jG];exact .lst (SqL.of h) (Rps.rdD n r o)
 |_,_,_,.bl _,o=>by simp[okD]at o
 |_,_,_,.ty _,o=>by simp[okD]at o
 |_,_,_,.cls _,o=>by simp[okD]at o
 |_,_,_,.dct _ _,o=>by simp[okD]at o
 |_,_,_,.fz _ _,o=>by simp[okD]at o
 |_,_,_,.obj _ _,o=>by simp[okD]at o
 |_,_,_,.dfz _ _,o=>by simp[okD]at o
theorem Rps.rdD:∀ {v:Ry V} {d:Ry D} (n:Nat),Rps K H v d->kX n d=true->ym K H v (fP d)
 |_,_,_,.nil,_=>by rw[fP];exact .nil
 |_,_,n,.cons h r,o=>by
  simp[kX]at o;rw[fP];exact .cons (Rp.rdD n h o.1) (Rps.rdD n r o.2)
end
end
open Classical in
def eqB(d e:D):Bool:=decide (d=e)
def lF d:eqB d d=true:=by unfold eqB;simp
def vZ(h:d≠e):eqB d e=false:=by unfold eqB;simp[h]
def eqO(d e:D):Rz Bool:=match eqS d e with
 |some b=>some b
 |none=>if okD 9 d=true/\okD 9 e=true then some (eqB d e) else none
def oEq(d e:D):Rz D:=(eqO d e).map D.bl
def oNe(d e:D):Rz D:=(eqO d e).map λ b=>.bl (!b)
section
variable{X:Cx}
theorem OpR.imp(h:OpR X fn r)(hi:∀ x y H Q,r' x y H Q->r x y H Q):OpR X fn r':=λ Qv s σ H x y v u Q I rx ry q=>h Qv s σ H x y v u Q I rx ry (hi _ _ _ _ q)
theorem Nm : OpR X (binaryOp .Add) (rdR X.K tV):=
  ((Ki.or xj).or EU).imp λ x y H Q w0=>g45 w0 λ Hs dx dy d sm rx ry e k=>by
    cases rx with
    |int i => cases ry with
      | int j => have e':D.int (i+j)=d:=by simpa [tV] using e
                 subst e';exact .inl (.inl ⟨i,j,rfl,rfl,k _ Hs H (.refl sm) (.int _)⟩)
      |_=>exact nn e
    |str x=>cases ry with
      |str y=>
        by_cases hl:x.length+y.length<=100000
        · have e':D.str (x++y)=d:=by simpa [tV,hl] using e
          subst e';exact .inl (.inr ⟨x,y,rfl,rfl,yr hl,k _ Hs H (.refl sm) (.str _)⟩)
        · simp[tV,hl]at e
      |_=>exact nn e
    |@lst a xs ds h r=>cases ry with
      |@lst b ys es h' r'=>
        by_cases hl:ds.length+es.length<=100000
        · have e':D.lst (ds++es)=d:=by simpa [tV,hl] using e
          subst e';refine .inr ⟨a,b,xs,ys,rfl,rfl,sm _ _ h,sm _ _ h',by rw[r.length,r'.length];exact yr hl,λ p hp=>?_⟩;have g:=Ext.new sm hp (.lst (xs++ys));exact k _ _ _ g (.lst ay ((r.same g.ss).append (r'.same g.ss)))
        · simp[tV,hl]at e
      |_=>exact nn e
    |_=>exact nn e
theorem tM {fn} {C} [∀ i j,Decidable (C i j)] {gv} {gd:Int->Int->D} {o} (h:OpR X fn (rI C gv)) (hg:∀ i j H,Rp X.K H (gv i j) (gd i j))
  (ho:∀ x y d,o x y=some d->∃ i j,x=.int i/\y=.int j/\C i j/\d=gd i j):OpR X fn (rdR X.K o):=
 h.imp λ x y H Q w0=>g45 w0 λ Hs dx dy d sm rx ry e k=>by
  obtain⟨i,j,rfl,rfl,c,rfl⟩:=ho _ _ _ e;cases rx.ui;cases ry.ui;exact⟨i,j,rfl,rfl,c,k _ Hs H (.refl sm) (hg i j Hs)⟩
theorem MS(h:OpR X fn (rI0 g)):OpR X fn (rI (λ _ _=>True) g):=h.imp λ x y H Q ⟨i,j,h1,h2,_,q⟩=>⟨i,j,h1,h2,q⟩
theorem M8:OpR X (binaryOp .Sub) (rdR X.K LW):=tM (MS Ka) (λ _ _ _=>.int _) λ x y d e=>by
 unfold LW at e;split at e
 · exact⟨_,_,rfl,rfl,trivial,(Zj e).symm⟩
 · cases e
theorem G0:OpR X (binaryOp .Mult) (rI (λ i j=>FE i j\/(Sz i/\Sz j)) λ i j=>.int (i * j)):=opI λ _ _ _ _ _ _ _ hc q=>mul_int q (hc.elim (·.ok) λ h=>PySem.IntMulOk.of_bits h.1.bits h.2.bits)
theorem Nb:OpR X (binaryOp .Mult) (rdR X.K EX):=tM G0 (λ _ _ _=>.int _) λ x y d e=>by
 unfold EX at e;split at e
 ·split at e
  ·rename_i c
   exact⟨_,_,rfl,rfl,c,(Zj e).symm⟩
  · cases e
 · cases e
theorem Nl:OpR X (binaryOp .FloorDiv) (rdR X.K oDiv):=tM G2 (λ _ _ _=>.int _) λ x y d e=>by
 unfold oDiv at e;split at e
 ·split at e
  ·rename_i c
   exact⟨_,_,rfl,rfl,c,(Zj e).symm⟩
  · cases e
 · cases e
theorem Nc:OpR X (binaryOp .Mod) (rdR X.K oMod):=tM G1 (λ _ _ _=>.int _) λ x y d e=>by
 unfold oMod at e;split at e
 ·split at e
  ·rename_i c
   exact⟨_,_,rfl,rfl,c,(Zj e).symm⟩
  · cases e
 · cases e
theorem M9:OpR X (binaryOp .Pow) (rdR X.K LX):=tM Kb (λ _ _ _=>.int _) λ x y d e=>by
 unfold LX at e;split at e
 ·split at e
  ·rename_i c
   exact⟨_,_,rfl,rfl,c,(Zj e).symm⟩
  · cases e
 · cases e
theorem EW:OpR X (compareOp .LtE) (rdR X.K oLe):=tM (MS M3) (λ _ _ _=>.bl _) λ x y d e=>by
 unfold oLe at e;split at e
 · exact⟨_,_,rfl,rfl,trivial,(Zj e).symm⟩
 · cases e
theorem PZ:OpR X (compareOp .Gt) (rdR X.K oGt):=tM (MS M4) (λ _ _ _=>.bl _) λ x y d e=>by
 unfold oGt at e;split at e
 · exact⟨_,_,rfl,rfl,trivial,(Zj e).symm⟩
 · cases e
theorem Ng:OpR X (compareOp .Lt) (rdR X.K oLt):=(M0.or zL).imp λ x y H Q w0=>g45 w0 λ Hs dx dy d sm rx ry e k=>by
 cases rx with
 |int i=>cases ry with
  |int j=>
   have e':D.bl (decide (i<j))=d:=by simpa [oLt] using e
   subst e';exact .inl ⟨i,j,rfl,rfl,k _ Hs H (.refl sm) (.bl _)⟩
  |_=>exact nn e
 |str i=>cases ry with
  |str j=>
   have e':=Zj e;subst e';exact .inr ⟨i,j,rfl,rfl,k _ Hs H (.refl sm) (.bl _)⟩
  |_=>exact nn e
 |_=>exact nn e
theorem Na:UnR X (unaryOp .USub) (rdU X.K Ko):=λ Qv s σ H x v Q I rx w0=>g34 w0 λ Hs dx d sm r e k=>Jf Qv s σ H x v Q I rx (by
 cases r with
 |int i=>
  have e':D.int (-i)=d:=by simpa [Ko] using e
  subst e';exact⟨i,rfl,k _ Hs H (.refl sm) (.int _)⟩
 |_=>simp[Ko]at e)
theorem Nh:OpR X (compareOp .Is) (rdR X.K Np):=Kf.imp λ x y H Q w0=>g45 w0 λ Hs dx dy d sm rx ry e k=>by
 have hy:dy=.non:=by
  unfold Np at e;split at e<;>first|rfl|cases e
 subst hy;cases ry;refine⟨rfl,?_⟩;cases rx<;>(have e':=Zj e;subst e';exact k _ Hs H (.refl sm) (.bl _))
theorem Kj:OpR X (compareOp .IsNot) (rdR X.K xr):=GZ.imp λ x y H Q w0=>g45 w0 λ Hs dx dy d sm rx ry e k=>by
 have hy:dy=.non:=by
  unfold xr at e;split at e<;>first|rfl|cases e
 subst hy;cases ry;refine⟨rfl,?_⟩;cases rx<;>(have e':=Zj e;subst e';exact k _ Hs H (.refl sm) (.bl _))
theorem Fn{K}{H}{x y}{dx dy}{b}(rx:Rp K H x dx)(ry:Rp K H y dy)(e:eqS dx dy=some b):MJ x y=true/\decide (x=y)=b:=by
  unfold eqS at e
  split at e <;> (try split at e) <;> first
    |(cases e;done)
    | (have e':=Zj e
       subst e'
       first|cases rx.ui|cases rx.ub|cases rx.us|cases rx.u0
       first|cases ry.ui|cases ry.ub|cases ry.us|cases ry.u0
       first|exact⟨rfl,rfl⟩|exact⟨rfl,by simp⟩)
theorem pT(h:okD n d=true)(h':okD n e=true):eqD (jG d) (jG e)=eqB d e:=by
 by_cases q:d=e
 · subst q;rw[lF,D1 rfl]
 · rw[vZ q,Bq λ z=>q (wg n _ _ h h' z)]
theorem OV(hu:X.A.units+64<cLine):OpR X (compareOp .Eq) (rdR X.K oEq):=(M5.or (Kh hu)).imp λ x y H Q w0=>g45 w0 λ Hs dx dy d sm rx ry e k=>by
 obtain⟨b,e',rfl⟩:=Zm (e);have e:=e';unfold eqO at e;split at e
 ·rename_i b' q
  have e':=Zj e;subst e';obtain⟨h1,h2⟩:=Fn rx ry q;refine .inl ⟨h1,?_⟩;rw[h2];exact k _ Hs H (.refl sm) (.bl _)
 ·split at e
  ·rename_i h
   have e':=Zj e;subst e';refine .inr ⟨jG dx,jG dy,(rx.same sm).rdD 9 h.1,(ry.same sm).rdD 9 h.2,iP 9 _ h.1,iP 9 _ h.2,?_⟩;rw[pT h.1 h.2];exact k _ Hs H (.refl sm) (.bl _)
  · cases e
theorem PY(hu:X.A.units+64<cLine):OpR X (compareOp .NotEq) (rdR X.K oNe):=(MZ.or (Ke hu)).imp λ x y H Q w0=>g45 w0 λ Hs dx dy d sm rx ry e k=>by
 obtain⟨b,e',rfl⟩:=Zm (e);have e:=e';unfold eqO at e;split at e
 ·rename_i b' q
  have e':=Zj e;subst e';obtain⟨h1,h2⟩:=Fn rx ry q;refine .inl ⟨h1,?_⟩;rw[h2];exact k _ Hs H (.refl sm) (.bl _)
 ·split at e
  ·rename_i h
   have e':=Zj e;subst e';refine .inr ⟨jG dx,jG dy,(rx.same sm).rdD 9 h.1,(ry.same sm).rdD 9 h.2,iP 9 _ h.1,iP 9 _ h.2,?_⟩;rw[pT h.1 h.2];exact k _ Hs H (.refl sm) (.bl _)
  · cases e
end
noncomputable def oIx:D->D->Rz D
 |.tup ds,.int i=>atI ds i
 |.lst ds,.int i=>atI ds i
 |.fz ds,.int i=>atI ds i
 |.str z,.int i=>if z.length<=100000 then(atI z.cps.toList i).map λ c=>.str ⟨#[c]⟩ else none
 |_,_=>none
def DO:=Ry Sl->Rz (Rz Int)
def O5:DO:=λ _=>some none
def dP(f:DE):DO:=λ τ=>(f τ).bind λ x=>match x with|.int i=>some (some i)|_=>none
def cutD(xs:Ry D)(lo hi:Rz Int):Ry D:=(xs.drop (HT.sIx xs.length 0 lo)).take (HT.sIx xs.length xs.length hi - HT.sIx xs.length 0 lo)
def oSl:D->Rz Int->Rz Int->Rz D
 |.lst ds,lo,hi=>some (.lst (cutD ds lo hi))
 |.fz ds,lo,hi=>some (.lst (cutD ds lo hi))
 |_,_,_=>none
def dSl(f:DE)(lo hi:DO):DE:=λ τ=>(f τ).bind λ x=>(lo τ).bind λ l=>(hi τ).bind λ u=>oSl x l u
def vA:Ry D->Rz D
 |[.str z]=>if z.length<=100000 then some (.int z.length) else none
 |[.tup ds]=>some (.int ds.length)
 |[.lst ds]=>some (.int ds.length)
 |[.fz ds]=>some (.int ds.length)
 |_=>none
def Ah:Ry D->Rz D
 |[.tup ds]=>some (.tup ds)
 |[.lst ds]=>some (.tup ds)
 |_=>none
noncomputable def tyN:D->Rz String
 |.non=>some "NoneType" | .bl _=>some "bool" | .int _=>some "int" | .str _=>some "str" | .tup _=>some "tuple" | .lst _=>some "list" | .dct _=>some "dict" | _=>none
def NQ(t n:String):Bool:=t == n||(t == "bool"&&n == "int")
def kinds:Ry String:=["int","bool","str","list","tuple","dict"]
def OX:Ry D->Rz D
 |[d,.ty n]=>(tyN d).bind λ t=>if n ∈ kinds then some (.bl (NQ t n)) else none
 |_=>none
theorem uB{K}{H}{xs}{ds}{i}{d}(r:Rps K H xs ds)(e:atI ds i=some d):∃ v,atI xs i=some v/\Rp K H v d:=by
 unfold atI at *;obtain⟨j,e1,e2⟩:=Ub e;obtain⟨v,h1,h2⟩:=r.get e2;exact⟨v,by rw[r.length,e1];exact h1,h2⟩
theorem BF{K}{H}{xs}{ds} lo hi (r:Rps K H xs ds):Rps K H (IT xs lo hi) (cutD ds lo hi):=by
 unfold IT cutD;rw[r.length];exact(r.drop _).take _
theorem AM{K}{t n}(ht:t ∈ ["NoneType","bool","int","str","tuple","list","dict"])(hn:n ∈ kinds):PySem.W.kitOne K (.type t) (.type n)=some (NQ t n):=by
 simp only[kinds,Zi,Z3,Wm]at ht hn;rcases ht with rfl|rfl|rfl|rfl|rfl|rfl|rfl<;>rcases hn with rfl|rfl|rfl|rfl|rfl|rfl<;>kernel_rfl
section
variable{X:Cx}{a b c e:Expr}{es:Ry Expr}{pos:Pos}{f g h:DE}
theorem IxR.imp{r r'}(h:IxR X r)(hi:∀ x y H Q,r' x y H Q->r x y H Q):IxR X r':=λ value slice Qv s σ H x y v u Q I rx ry q=>h value slice Qv s σ H x y v u Q I rx ry (hi _ _ _ _ q)
theorem ixd:IxR X (rdR X.K oIx):=((AS.or E6).or K8).imp λ x y H Q w0=>g45 w0 λ Hs dx dy d sm rx ry e k=>by
 obtain⟨i,rfl⟩:∃ i,dy=.int i:=by
  unfold oIx at e;split at e<;>first|exact⟨_,rfl⟩|cases e
 cases ry
 cases rx with
 |tup h r=>
  obtain⟨v,h1,h2⟩:=uB r (e);exact .inl (.inr ⟨_,_,i,v,rfl,rfl,sm.tup h,h1,k v Hs H (.refl sm) h2⟩)
 |lst h r=>
  obtain⟨v,h1,h2⟩:=uB r (e);exact .inl (.inl ⟨_,_,i,v,rfl,rfl,SqL.of (sm _ _ h),h1,k v Hs H (.refl sm) h2⟩)
 |fz h r=>
  obtain⟨v,h1,h2⟩:=uB r (show atI _ i=some d from e);exact .inl (.inl ⟨_,_,i,v,rfl,rfl,sm.seq h,h1,k v Hs H (.refl sm) h2⟩)
 |str z=>
  by_cases hl:z.length<=100000
  ·have e0:(atI z.cps.toList i).map (λ c=>D.str ⟨#[c]⟩)=some d:=by simpa only [oIx,hl,if_true] using e
   obtain⟨c,e1,rfl⟩:=Zm e0;exact .inr ⟨z,i,c,rfl,rfl,yr hl,e1,k _ Hs H (.refl sm) (.str _)⟩
  · simp[oIx,hl]at e
 |_=>exact nn e
def rdP(K:RC)(f:DO):TO:=λ σ H Q=>∃ H0 Hs τ fp d,StR K H0 Hs H σ τ fp/\bM Hs H/\f τ=some d/\∀ Hs' H',Ext Hs H Hs' H'->Q d H'
def POd(X:Cx)(e:Rz Expr)(f:DO):Prop:=PO X e (rdP X.K f)
theorem PO.imp{e}{t t'}(h:PO X e t)(hi:∀ σ H Q,t' σ H Q->t σ H Q):PO X e t':=λ Qv s σ H Q I q=>h Qv s σ H Q I (hi _ _ _ q)
theorem gf.imp{fn}{r r'}(h:gf X fn r)(hi:∀ x H Q,r' x H Q->r x H Q):gf X fn r':=λ Qv s σ H x u Q I rx q=>h Qv s σ H x u Q I rx (hi _ _ _ q)
theorem call_of{o}{g}{σ}{H}{Q} K (hh:rdE K (BE o g) σ H Q):tCB (rdL K o) (rdA K g) σ H Q:=by
 obtain⟨H0,Hs,τ,fp,d,st,sm,e,k⟩:=hh;obtain⟨xs,e1,e⟩:=Ub e;exact⟨H0,Hs,τ,fp,xs,st,sm,e1,λ v Hs1 H1 g1 r1=>⟨Hs1,xs,d,g1.sh,r1,e,λ w Hs2 H2 g2 r2=>k w Hs2 H2 (g1.trans g2) r2⟩⟩
theorem eC:gf X (.builtin "len") (rdL X.K vA):=Ed.imp λ xs H Q w0=>g34 w0 λ Hs ds d sm r e k=>by
 cases r with
 |nil=>simp[vA]at e
 |@cons _ x _ _ hx r0=>
 cases r0 with
 |@cons _ _ _ _ _ _=>simp[vA]at e
 |nil=>
  cases hx with
  |str z=>
   by_cases hl:z.length<=100000
   ·have e':D.int z.length=d:=by simpa [vA,hl] using e
    subst e';exact⟨_,_,rfl,⟨yr hl,rfl⟩,k _ Hs H (.refl sm) (.int _)⟩
   · simp[vA,hl]at e
  |@tup a ys ds h r=>
   have e':=Zj e;subst e';exact⟨_,_,rfl,.inr ⟨_,sm.tup h,rfl⟩,by rw[r.length];exact k _ Hs H (.refl sm) (.int _)⟩
  |@lst a ys ds h r=>
   have e':=Zj e;subst e';exact⟨_,_,rfl,.inl ⟨_,SqL.of (sm _ _ h),rfl⟩,by rw[r.length];exact k _ Hs H (.refl sm) (.int _)⟩
  |@fz a ys ds h r=>
   have e':D.int ds.length=d:=Zj e;subst e';exact⟨_,_,rfl,.inl ⟨_,sm.seq h,rfl⟩,by rw[r.length];exact k _ Hs H (.refl sm) (.int _)⟩
  |_=>exact nn e
theorem su:gf X (.builtin "isinstance") (rdL X.K OX):=by
 rintro Qv s σ H xs us Q I rv ⟨Hs,ds,d,sm,r,e,k⟩
 have sh:∃ x n,ds=[x,.ty n]:=by
   unfold OX at e;split at e
   · exact⟨_,_,rfl⟩
   · cases e
 obtain⟨x,n,rfl⟩:=sh
 obtain⟨_,_,rfl,hx,hy⟩:=qr r
 · cases hy;obtain⟨t,e1,e2⟩:=Ub (e)
   by_cases hn:n ∈ kinds
   ·rw [if_pos hn] at e2
    have e':=Zj e2;subst e';obtain⟨u,w',rfl,ru,rw'⟩:=vals2 rv;have e2:=rw';subst e2;have fin:∀ tk,EP X Qv σ Q (.bool (NQ t n)) { s with toks:=tk }:=λ tk=>⟨.bl _,H,I.tok tk,rfl,k _ Hs H (.refl sm) (.bl _)⟩
    have low:∀{v:V} {T:String},yk X.K H v (.type T)->RelV v u->T ∈ ["NoneType","bool","int","str","tuple","list","dict"]->some T=some t->wpAny (model X.prog X.w) X.A (call (.builtin "isinstance") [u,.type n]) (EP X Qv σ Q) X.xe s:=λ ty ru hm et=>by
     have et':=Zj et;subst et';exact AW I ru ty (AM hm hn) fin
    cases hx with
    |non=>exact low (.non) ru (by decide) e1
    |bl b=>exact low (.bl b) ru (by decide) e1
    |int i=>exact low (.int i) ru (by decide) e1
    |str z=>exact low (.str z) ru (by decide) e1
    |lst h _=>exact low (.lst (sm _ _ h)) ru (by decide) e1
    |dct h _=>exact low (.dK (sm _ _ h)) ru (by decide) e1
    |@tup p ys ds h _=>
     have et':=Zj e1;subst et';cases(ru);obtain⟨its,_,⟨o,h1,h2,_⟩,_⟩:=I.tuple (sm.tup h);exact Yv PySem.W.kitx_tuple I.kIn ⟨o,h1,h2⟩ (AM (by decide) hn) (λ z=>nomatch z) fin
    |ty m=>exact nn e1
    |cls m=>exact nn e1
    |dfz _ _=>exact nn e1
    |fz _ _=>exact nn e1
    |obj _ _=>exact nn e1
   · rw[if_neg hn]at e2;cases e2
theorem BL:gf X (.type "tuple") (rdL X.K Ah):=pX.imp λ xs H Q w0=>g34 w0 λ Hs ds d sm r e k=>by
 cases r with
 |nil=>simp[Ah]at e
 |@cons _ x _ _ hx r0=>
 cases r0 with
 |@cons _ _ _ _ _ _=>simp[Ah]at e
 |nil=>
  cases hx with
  |@tup a ys ds h r=>
   have e':=Zj e;subst e';exact⟨_,_,rfl,.inr ⟨sm.tup h,k _ Hs H (.refl sm) (.tup h r)⟩⟩
  |@lst a ys ds h r=>
   have e':=Zj e;subst e';refine⟨_,_,rfl,.inl ⟨SqL.of (sm _ _ h),λ l hl=>?_⟩⟩;have g:=Ext.new sm hl (.tup ys);exact k _ _ _ g (.tup (SqT.of ay) (r.same g.ss))
  |_=>exact nn e
end
mutual
def gp:D->Bool
 |.non=>true|.bl _=>true|.int _=>true|.str _=>true|.ty _=>true
 |.tup ds=>cA ds
 |_=>false
def cA:Ry D->Bool
 |[]=>true
 |d::ds=>gp d&&cA ds
end
def jQ(a:RB)(H:Hp):Hp:=λ b=>if b=a then none else H b
section
variable{K:RC}{H:Hp}{a:RB}{o:HO}
theorem DP(ha:H a=some o)(ho:(∃ ys,o=.lst ys)\/∃ kv,o=.dK kv)(h:SqT K H b xs):SqT K (jQ a H) b xs:=by
 have ne:∀ u,H b=some u->(∀ ys,u≠.lst ys)->(∀ kv,u≠.dK kv)->jQ a H b=some u:=λ u e n1 n2=>by
  have:b≠a:=λ z=>by
   subst z;rw[ha]at e;have e':=Zj e;subst e';rcases ho with ⟨ys,z⟩|⟨kv,z⟩
   · exact n1 _ z
   · exact n2 _ z
  unfold jQ;rw[if_neg this];exact e
 rcases h with (h|⟨o',h⟩)|h
 · exact .inl (.inl (ne _ h (λ _ z=>nomatch z) (λ _ z=>nomatch z)))
 · exact .inl (.inr ⟨o',ne _ h (λ _ z=>nomatch z) (λ _ z=>nomatch z)⟩)
 · exact .inr h
mutual
theorem Rp.hide (ha:H a=some o) (ho:(∃ ys,o=.lst ys)\/∃ kv,o=.dK kv):∀ {v:V} {d:D},Rp K H v d->gp d=true->Rp K (jQ a H) v d
 |_,_,.non,_=>.non
 |_,_,.bl b,_=>.bl b
 |_,_,.int i,_=>.int i
 |_,_,.str x,_=>.str x
 |_,_,.ty n,_=>.ty n
 |_,_,.tup h r,f=>.tup (DP ha ho h) (Rps.hide ha ho r (by simpa [gp] using f))
 |_,_,.lst _ _,f=>by simp[gp]at f
 |_,_,.fz _ _,f=>by simp[gp]at f
 |_,_,.cls _,f=>by simp[gp]at f
 |_,_,.dct _ _,f=>by simp[gp]at f
 |_,_,.obj _ _,f=>by simp[gp]at f
 |_,_,.dfz _ _,f=>by simp[gp]at f
theorem Rps.hide (ha:H a=some o) (ho:(∃ ys,o=.lst ys)\/∃ kv,o=.dK kv):∀ {v:Ry V} {d:Ry D},Rps K H v d->cA d=true->Rps K (jQ a H) v d
 |_,_,.nil,_=>.nil
 |_,_,.cons h r,f=>by
  simp[cA]at f;exact .cons (Rp.hide ha ho h f.1) (Rps.hide ha ho r f.2)
end
end
def Mb(i:Nat)(f:DE):DE:=λ τ=>match τ[i]? with
 |some (.own d0)=>(f (τ.set i (.shr d0))).bind λ d=>if gp d=true then some d else none
 |_=>f τ
def LS(i:Nat)(f:DT):DT:=λ τ=>match τ[i]? with
 |some (.own d0)=>f (τ.set i (.shr d0))
 |_=>f τ
theorem Ow.obj{K}{Hs H}{a}{d}{o}(h:Ow K Hs H a d)(e:H a=some o):(∃ ys,o=.lst ys)\/∃ kv,o=.dK kv:=by
 cases h with
 |lst h _ _=>rw[h]at e;exact .inl ⟨_,(Zj e).symm⟩
 |dct h _ _=>rw[h]at e;exact .inr ⟨_,(Zj e).symm⟩
theorem Ext.FN(n:Hs a=none)(ha:H a=some o)(g:Ext (upd Hs a o) H Hs' H'):Ext Hs H (jQ a Hs') H':=by
 refine⟨λ b u q=>?_,λ b u q=>?_,g.hh,λ b h1 h2=>?_⟩
 ·have ne:b≠a:=λ z=>by subst z; rw [n] at q; cases q
  unfold jQ;rw[if_neg ne];exact g.ss b u (by rw[ar ne];exact q)
 ·unfold jQ at q
  split at q
  · cases q
  · exact g.sh b u q
 ·unfold jQ
  by_cases z:b=a
  · rw[if_pos z]
  ·rw [if_neg z]
   exact g.fr b (by rw[ar z];exact h1) h2
theorem bM.frz(sm:bM Hs H)(ha:H a=some o):bM (upd Hs a o) H:=λ b u q=>by
 by_cases z:b=a
 · subst z;rw[ay]at q;rw[ha];exact q
 · rw[ar z]at q;exact sm b u q
def gr(f g:DS):DS:=λ τ=>match f τ with
 |some (.next τ')=>g τ'
 |r=>r
def qo:DS:=λ τ=>some (.next τ)
def sIf(c:DT)(f g:DS):DS:=λ τ=>(c τ).bind λ b=>if b=true then f τ else g τ
def xg(i:Nat)(f:DE):DS:=λ τ=>(f τ).map λ d=>.next (τ.set i (.shr d))
def CI(i:Nat)(f:DE):DS:=λ τ=>if i<τ.length then(f τ).map λ d=>.next (τ.set i (.own d)) else none
def LU(f:DE):DS:=λ τ=>(f τ).map λ d=>.ret (.shr d)
def Ga(f:DE):DS:=λ τ=>(f τ).map λ d=>.ret (.own d)
def CJ(i:Nat):DS:=λ τ=>match τ[i]? with
 |some (.own d)=>some (.ret (.own d))
 |some (.shr d)=>some (.ret (.shr d))
 |_=>none
def CQ(f:DE):DS:=λ τ=>(f τ).map λ _=>.next τ
def LV(i:Nat)(f:DS):DS:=λ τ=>match τ[i]? with
 |some (.own d)=>f (τ.set i (.shr d))
 |_=>f τ
def ED:DS:=λ _=>none
def IH(i:Nat)(f:DE):DS:=λ τ=>(f τ).bind λ d=>match τ[i]? with
 |some (.own (.lst ds))=>if ds.length<100000 then some (.next (τ.set i (.own (.lst (ds++[d]))))) else none
 |_=>none
section
variable{X:Cx}{a b c e:Expr}{es:Ry Expr}{pos:Pos}{st:Stmt}{rest:Ry Stmt}{f g:DS}
def Rep.same{K}{Hs0 H0 Hs H}{σ}{τ}(r:Rep K Hs0 H0 Hs H σ τ):bM Hs H:=r.ext.sh
theorem Rep.ext'{K}{Hs0 H0 Hs H Hs' H'}{σ}{τ}(r:Rep K Hs0 H0 Hs H σ τ)(g:Ext Hs H Hs' H'):Rep K Hs0 H0 Hs' H' σ τ:=⟨r.ext.trans g,let ⟨fp,h⟩:=r.st;⟨fp,h.ext g⟩⟩
def Rep.old{K}{Hs0 H0 Hs H}{σ}{τ}(r:Rep K Hs0 H0 Hs H σ τ){p}(h:H p=none):H0 p=none:=r.ext.hh.free h
def zK{K}{H0 Hs H}{σ:St}{τ}{fp}(h:StR K H0 Hs H σ τ fp){p}(hp:H p=none):p ∉ fp:=λ q=>(h.HH p q).2.2 hp
theorem Rep.frz{K}{Hs0 H0 Hs H}{σ}{τ}{i}{d}(r:Rep K Hs0 H0 Hs H σ τ)(q:τ[i]?=some (.own d)):∃ Hs',Rep K Hs0 H0 Hs' H σ (τ.set i (.shr d)):=by
 obtain⟨fp,h⟩:=r.st;obtain⟨a,o,fp',h1,h2,h3,h4,h5,h6,h7,h8⟩:=h.frz q;refine⟨upd Hs a o,⟨r.ext.ss.trans (aF h2 o),r.same.frz h1,r.ext.hh,λ b k1 k2=>?_⟩,fp',h4⟩;have ne:b≠a:=λ z=>by subst z;exact k2 h3
 rw[ar ne];exact r.ext.fr b k1 k2
end
abbrev DI:=Ry Sl->Rz (Ry D)
def ItR(K:RC)(J:It)(Hs:Hp)(ds:Ry D):Prop:=∀ Hs1 H,bM Hs Hs1->bM Hs1 H->(∀ i d,ds[i]?=some d->J.go i H/\∀ x H',J.yld i H x H'->∃ Hs2,Ext Hs1 H Hs2 H'/\Rp K Hs2 x d)/\∀ i,ds.length<=i->J.stop i H
def rdI(K:RC)(f:DI):TI:=λ σ H R=>∃ H0 Hs τ fp ds,StR K H0 Hs H σ τ fp/\bM Hs H/\f τ=some ds/\∀ J Hs' H',Ext Hs H Hs' H'->ItR K J Hs' ds->R J H'
def PId(X:Cx)(tg iter:Expr)(f:DI):Prop:=PI X tg iter (rdI X.K f)
def NU(f:DE):DI:=λ τ=>(f τ).bind λ d=>match d with|.lst ds=>some ds|.fz ds=>some ds|_=>none
noncomputable def A2(f:DE):DI:=λ τ=>(f τ).bind λ d=>match d with|.tup ds=>some ds|_=>none
noncomputable def o8(lo:Int)(n:Nat):Ry D:=(List.range n).map λ(i:Nat)=>D.int (lo+(i:Int))
def rF(f:DA):DI:=λ τ=>(f τ).bind λ ds=>match ds with|[.int j]=>if -(2 ^ 62)<=j/\j<2 ^ 62 then some (o8 0 j.toNat) else none|_=>none
theorem vH{K}{a}{xs}{Hs}{ds}(h:SqL K Hs a xs)(r:Rps K Hs xs ds):ItR K (Itl K a) Hs ds:=λ Hs1 H g1 g2=>by
 have hq:=g2.seq (g1.seq h);refine⟨λ i d e=>?_,λ i hi=>⟨xs,hq,by rw[r.length];exact hi⟩⟩;obtain⟨x,h1,h2⟩:=r.get e;refine⟨⟨xs,x,hq,h1⟩,λ x' H' w90=>?_⟩;obtain⟨e1,e2⟩:=w90;subst e1;have e3:=e2 xs hq;rw[h1]at e3;cases e3;exact⟨Hs1,.refl g2,h2.same g1⟩
theorem mD{K}{Hs} lo n:ItR K (Itr lo n) Hs (o8 lo n):=λ Hs1 H g1 g2=>by
 refine⟨λ i d e=>?_,λ i hi=>show n<=i by simpa [o8] using hi⟩;unfold o8 at e;rw[QD]at e
 by_cases hi:i<n
 ·rw [Rr hi] at e
  have e':D.int (lo+i)=d:=by simpa using e
  subst e';refine⟨hi,λ x H' w90=>?_⟩;obtain⟨e1,e2⟩:=w90;subst e1 e2;exact⟨Hs1,.refl g2,.int _⟩
 ·rw [QJ (by simpa using hi)] at e
  cases e
theorem PI.imp(h:PI X tg iter t)(hi:∀ σ H R,t' σ H R->t σ H R):PI X tg iter t':=λ Qv s σ H R I q=>h Qv s σ H R I (hi _ _ _ q)
theorem Ht{K}{a}{xs}{Hs}{ds}(h:SqT K Hs a xs)(r:Rps K Hs xs ds):ItR K (Itt K a) Hs ds:=λ Hs1 H g1 g2=>by
 have hq:=g2.tup (g1.tup h);refine⟨λ i d e=>?_,λ i hi=>⟨xs,hq,by rw[r.length];exact hi⟩⟩;obtain⟨x,h1,h2⟩:=r.get e;refine⟨⟨xs,x,hq,h1⟩,λ x' H' w90=>?_⟩;obtain⟨e1,e2⟩:=w90;subst e1;have e3:=e2 xs hq;rw[h1]at e3;cases e3;exact⟨Hs1,.refl g2,h2.same g1⟩
def A3(f:DA):DI:=λ τ=>(f τ).bind λ ds=>match ds with|[.int i,.int j]=>if -(2 ^ 62)<=i/\i<2 ^ 62/\-(2 ^ 62)<=j/\j<2 ^ 62 then some (o8 i (j - i).toNat) else none|_=>none
abbrev DG:=D->Ry Sl->Rz (Ry Sl)
def rdG(K:RC)(g:DG):TG:=λ v σ H Q=>∃ Hs0 H0 Hs τ τ' d,Rep K Hs0 H0 Hs H σ τ/\Rp K Hs v d/\g d τ=some τ'/\∀ σ',Rep K Hs0 H0 Hs H σ' τ'->Q σ' H
def PGd(X:Cx)(tg:Expr)(g:DG):Prop:=PG X tg (rdG X.K g)
theorem PG.imp(h:PG X tg t)(hi:∀ v σ H Q,t' v σ H Q->t v σ H Q):PG X tg t':=λ Qv s σ H v u Q I r q=>h Qv s σ H v u Q I r (hi _ _ _ _ q)
abbrev DGs:=Ry D->Ry Sl->Rz (Ry Sl)
def PL(K:RC)(g:DGs):TGs:=λ v σ H Q=>∃ Hs0 H0 Hs τ τ' d,Rep K Hs0 H0 Hs H σ τ/\Rps K Hs v d/\g d τ=some τ'/\∀ σ',Rep K Hs0 H0 Hs H σ' τ'->Q σ' H
def Mh(X:Cx)(tg:Ry Expr)(g:DGs):Prop:=PGs X tg (PL X.K g)
theorem PGs.imp(h:PGs X tg t)(hi:∀ v σ H Q,t' v σ H Q->t v σ H Q):PGs X tg t':=λ Qv s σ H v u Q I r q=>h Qv s σ H v u Q I r (hi _ _ _ _ q)
def gN(i:Nat):DG:=λ d τ=>some (τ.set i (.shr d))
def Ln:DGs:=λ ds τ=>if ds.isEmpty=true then some τ else none
def Fe(g:DG)(h:DGs):DGs:=λ ds τ=>match ds with|d::r=>(g d τ).bind λ τ'=>h r τ'|[]=>none
def gT(n:Nat)(g:DGs):DG:=λ d τ=>match d with|.tup ds=>if ds.length=n then g ds τ else none|_=>none
def xI (b:D->DS):Ry D->DS
 |[],τ=>some (.next τ)
 |d::ds,τ=>match b d τ with
  |some (.next τ')=>xI b ds τ'
  |some (.cnt τ')=>xI b ds τ'
  |some (.brk τ')=>some (.next τ')
  |r=>r
def CN(it:DI)(g:DG)(b:DS):DS:=λ τ=>(it τ).bind λ ds=>xI (λ d τ=>(g d τ).bind b) ds τ
noncomputable def c9 (c:DT) (b:DS):Nat->DS
 |0,_=>none
 |n+1,τ=>match c τ with
  |none=>none
  |some false=>some (.next τ)
  |some true=>match b τ with
   |some (.next τ')=>c9 c b n τ'
   |some (.cnt τ')=>c9 c b n τ'
   |some (.brk τ')=>some (.next τ')
   |r=>r
open Classical in
def qm(c:DT)(b:DS):DS:=λ τ=>if h:∃ n o,c9 c b n τ=some o then some (Classical.choose (X1 h)) else none
theorem fC:∀ {n m:Nat} {τ:Ry Sl} {o:Out},c9 c b n τ=some o->n<=m->c9 c b m τ=some o
 |0,_,_,_,h,_=>by simp[c9]at h
 |n+1,0,_,_,_,l=>by omega
 |n + 1,m+1,τ,o,h,l=>by
  have l':n<=m:=by omega
  unfold c9 at h ⊢
  cases q:c τ with
  |none=>rw[q]at h;cases h
  |some x=>
   rw[q]at h
   cases x with
   |false=>exact h
   |true=>
    simp only at h ⊢
    cases q2:b τ with
    |none=>rw[q2]at h;exact h
    |some o'=>
     rw[q2]at h
     cases o' with
     |next τ'=>exact fC h l'
     |cnt τ'=>exact fC h l'
     |brk τ'=>exact h
     |ret s=>exact h
theorem yQ(h:c9 c b n τ=some o):qm c b τ=some o:=by
 have hx:∃ n o,c9 c b n τ=some o:=⟨n,o,h⟩
 unfold qm;rw[dif_pos hx];have h2:=X1 (X1 hx);have h3:=fC h2 (Nat.le_max_left _ n);have h4:=fC h (Nat.le_max_right (Classical.choose hx) n);rw[h3]at h4;exact h4
theorem yP(h:qm c b τ=some o):∃ n,c9 c b n τ=some o:=by
 unfold qm at h;split at h
 ·rename_i hx
  have e:=Zj h;subst e;exact⟨_,X1 (X1 hx)⟩
 · cases h
theorem Ext.sub(a:Ext Hs0 H0 Hs1 H1)(b:Ext Hs1 H0 Hs H):Ext Hs0 H0 Hs H:=⟨a.ss.trans b.ss,b.sh,b.hh,λ c h1 h2=>b.fr c (a.fr c h1 h2) h2⟩
theorem Rep.rebase{K}{Hs0 H0 Hs H}{σ}{τ}(r:Rep K Hs0 H0 Hs H σ τ):Rep K Hs H0 Hs H σ τ:=⟨⟨.refl _,r.same,r.ext.hh,λ _ h _=>h⟩,r.st⟩
theorem Rep.kg{K}{Hs0 H0 Hs1 H1 Hs H}{σ}{τ}(a:Ext Hs0 H0 Hs1 H1)(r:Rep K Hs1 H0 Hs H σ τ):Rep K Hs0 H0 Hs H σ τ:=⟨a.sub r.ext,r.st⟩
theorem Fin.rebase{K}{Hs0 H0 Hs1 H1}{E}{o}(a:Ext Hs0 H0 Hs1 H1)(h:Fin K Hs0 H0 E o):Fin K Hs1 H0 E o:=by
 cases o with
 |next τ=>exact λ σ Hs H r=>h σ Hs H (r.kg a)
 |brk τ=>exact λ σ Hs H r=>h σ Hs H (r.kg a)
 |cnt τ=>exact λ σ Hs H r=>h σ Hs H (r.kg a)
 |ret s=>exact λ v Hs H g r=>h v Hs H (a.sub g) r
noncomputable def kh(n:Nat)(ds:Ry D):Ry Sl:=ds.map .shr++List.replicate (n - ds.length) .no
def cH(n m:Nat)(b:DS)(ds:Ry D):Rz Sl:=if ds.length=m then(match b (kh n ds) with|some (.ret s)=>some s|some (.next _)=>some (.shr .non)|_=>none) else none
def spF(F:Ry D->Rz Sl)(K:RC):Sp:=λ vs H Q _=>∃ Hs ds s,bM Hs H/\Rps K Hs vs ds/\F ds=some s/\∀ v Hs' H',Ext Hs H Hs' H'->SlV K H Hs' H' v s->Q v H'
theorem lN {K:RC} {H0 Hs H:Hp}:∀ {vs:Ry V} {ds:Ry D} (k:Nat),Rps K Hs vs ds->StR K H0 Hs H (vs.map some++List.replicate k none) (ds.map .shr++List.replicate k .no) []
 |_,_,0,.nil=>.nil
 |_,_,k+1,.nil=>by
  rw[X8,X8];exact .no (lN k .nil)
 |_,_,k,.cons h r=>.shr h (lN k r)
section
variable{P:Program}{w:World}{K:RC}{mg:Str->Rz RA}{base:Heap}
def spT(Am:Hp->Prop)(sp:Sp):Sp:=λ vs H Q E=>Am H/\sp vs H Q E
theorem Fun.OU {x qual} {st} {f} {fd} {N ps} {k} {b} Am (F:Fun K x qual st f fd) (S:cB N ps (aG st))
  (hbody:∀ cdv A outer s H E,Am H->cp k (A.deeper (envOfC qual (aG st) s.heap.objs.size f cdv))->yn (wm CX0 P w K mg base N qual (aG st) f cdv A outer s H E).nox (bh st) b):ir P w K mg base CX0 (k+1) f fd ps (spT Am (spF (cH N.length ps.length b) K)):=by
 refine F.ok S (λ vs H Q E h=>?_) (λ cdv A outer s H vs Q E hr h=>?_)
 ·obtain ⟨_,Hs,ds,s,sm,r,e,_⟩:=h
  unfold cH at e;split at e
  · rename_i hl
    rw[r.length];exact hl
  · cases e
 obtain⟨am,Hs,ds,sl,sm,r,e,q⟩:=h;refine⟨_,hbody cdv A outer s H E am hr,?_⟩;unfold cH at e;split at e
 ·have h0:Rep K Hs H Hs H (start N vs) (kh N.length ds):=⟨.refl sm,[],by unfold start kh; rw [r.length]; exact lN _ r⟩
  cases q2:b (kh N.length ds) with
  |none=>rw[q2]at e;cases e
  |some o=>
    rw[q2]at e;refine⟨Hs,H,Hs,_,o,h0,q2,?_⟩
    cases o with
    |next τ=>
     have e':=Zj e;subst e';exact λ σ Hs' H' r'=>q .non Hs' H' r'.ext .non
    |ret s=>
     have e':=Zj e;subst e';exact λ v Hs' H' g rv=>q v Hs' H' g rv
    |brk τ=>cases e
    |cnt τ=>cases e
 · cases e
theorem Fun.okD {x qual} {st} {f} {fd} {N ps} {k} {b} (F:Fun K x qual st f fd) (S:cB N ps (aG st))
  (hbody:∀ cdv A outer s H E,cp k (A.deeper (envOfC qual (aG st) s.heap.objs.size f cdv))->yn (wm CX0 P w K mg base N qual (aG st) f cdv A outer s H E).nox (bh st) b):ir P w K mg base CX0 (k+1) f fd ps (spF (cH N.length ps.length b) K):=
 (F.OU (λ _=>True) S λ cdv A outer s H E _=>hbody cdv A outer s H E).imp λ _ _ _ _ h=>⟨trivial,h⟩
end
noncomputable def slD:Sl->Rz D
 |.shr d=>some d
 |.own d=>some d
 |.no=>none
def slO:Sl->Rz D
 |.own d=>some d
 |_=>none
def dFn(F:Ry D->Rz Sl)(f:DA):DE:=λ τ=>(f τ).bind λ ds=>(F ds).bind slD
def Fq(F:Ry D->Rz Sl)(f:DA):DE:=λ τ=>(f τ).bind λ ds=>(F ds).bind slO
theorem SlV.shr{K}{H0 Hs H Hs0}{v}{s}{d}(g:Ext Hs0 H0 Hs H)(h:SlV K H0 Hs H v s)(e:slD s=some d):∃ Hs',Ext Hs0 H0 Hs' H/\Rp K Hs' v d:=by
 cases s with
 |no=>cases h
 |shr d'=>
  have e':=Zj e;subst e';exact⟨Hs,g,h⟩
 |own d'=>
  have e':=Zj e;subst e';obtain⟨a,rfl,o,z⟩:=h;obtain⟨ob,h1,h2⟩:=o.rp;refine⟨upd Hs a ob,⟨g.ss.trans (aF o.hid ob),g.sh.frz h1,g.hh,λ b h3 h4=>?_⟩,h2⟩;have ne:b≠a:=λ y=>by subst y;exact h4 z
  rw[ar ne];exact g.fr b h3 h4
section
variable{X:Cx}{e:Expr}{es:Ry Expr}{x:Str}{p pos:Pos}{k:Nat}{f:RB}{fd:FuncData}{ps:Ry Str}{F:Ry D->Rz Sl}{g:DA}
theorem Bc{σ}{H}{Q} K (h:rdE K (dFn F g) σ H Q):Cy (spF F K) [] E0 (rdA K g) σ H Q:=by
 obtain⟨H0,Hs,τ,fp,d,st,sm,e,q⟩:=h;obtain⟨ds,e1,e2⟩:=Ub e;obtain⟨s,e2,e3⟩:=Ub e2;refine⟨H0,Hs,τ,fp,ds,st,sm,e1,λ vs Hs1 H1 g1 r1=>?_⟩;refine⟨Hs1,ds,s,g1.sh,by rw[Zz];exact r1,e2,λ v Hs2 H2 g2 rv=>?_⟩;obtain⟨Hs3,g3,r3⟩:=rv.shr g2 e3;exact q v Hs3 H2 (g1.trans g3) r3
theorem Bb K (h:rdO K (Fq F g) σ H Q):Cy (spF F K) [] E0 (rdA K g) σ H Q:=by
 obtain⟨H0,Hs,τ,fp,d,st,sm,e,q⟩:=h;obtain⟨ds,e1,e2⟩:=Ub e;obtain⟨s,e2,e3⟩:=Ub e2;refine⟨H0,Hs,τ,fp,ds,st,sm,e1,λ vs Hs1 H1 g1 r1=>?_⟩;refine⟨Hs1,ds,s,g1.sh,by rw[Zz];exact r1,e2,λ v Hs2 H2 g2 rv=>?_⟩
 cases s with
 |own d'=>
  have e':=Zj e3;subst e';obtain⟨a,rfl,o,z⟩:=rv;exact q a Hs2 H2 (g1.trans g2) o (g1.hh.free z)
 |shr _=>cases e3
 |no=>cases e3
theorem GW (Fo:ir X.prog X.w X.K X.mg X.base CX0 k f fd ps (spF F X.K)) (hr:cp k X.A) (hg:Gl X x) (hm:X.mg x=some (.ref f)) (hk:W.keepIn X.K (.ref f)=true) (hb:Binds X.K fd ps [])
 (ha:PAd X (e::es) g) (hdb:Dg x:=by decide) (he:Se X e es:=by rfl) (hpl:Sb X pos es:=by rfl):PEd X (.Call (.Name x p) (e::es) [] pos) (dFn F g):=(iO Fo hr hg hm hk hb .nil jf ha hdb he hpl).imp λ σ H Q h=>Bc X.K h
theorem GI (Fo:ir X.prog X.w X.K X.mg X.base CX0 k f fd ps (spF F X.K)) (hr:cp k X.A) (hg:Gl X x) (hm:X.mg x=some (.ref f)) (hk:W.keepIn X.K (.ref f)=true) (hb:Binds X.K fd ps [])
 (ha:PAd X (e::es) g) (hdb:Dg x:=by decide) (he:Se X e es:=by rfl) (hpl:Sb X pos es:=by rfl):PEo X (.Call (.Name x p) (e::es) [] pos) (Fq F g):=(iO Fo hr hg hm hk hb .nil jf ha hdb he hpl).imp λ σ H Q h=>Bb X.K h
theorem Dm (Fo:ir X.prog X.w X.K X.mg X.base CX0 k f fd ps (spF F X.K)) (hr:cp k X.A) (hg:Gl X x) (hm:X.mg x=some (.ref f)) (hk:W.keepIn X.K (.ref f)=true) (hb:Binds X.K fd ps [])
  (hdb:Dg x:=by decide):PEd X (.Call (.Name x p) [] [] pos) (dFn F eF):=(Dk Fo hr hg hm hk hb .nil jf hdb).imp λ σ H Q h=>by
 obtain⟨H0,Hs,τ,fp,d,st,sm,e,q⟩:=h;obtain⟨ds,e1,e2⟩:=Ub e;have e':=Zj e1;subst e';obtain⟨s,e2,e3⟩:=Ub e2;refine⟨Hs,[],s,sm,.nil,e2,λ v Hs2 H2 g2 rv=>?_⟩;obtain⟨Hs3,g3,r3⟩:=rv.shr g2 e3;exact q v Hs3 H2 g3 r3
end
def IM (g:D->Rz D):Ry D->Rz (Ry D)
 |[]=>some []
 |d::ds=>(g d).bind λ x=>(IM g ds).bind λ xs=>some (x::xs)
def JC:Rz Sl->Sl
 |some (.shr d)=>.shr d
 |_=>.no
def jt(τ:Ry Sl)(cs:Ry (Str×Nat)):Ry Sl:=cs.map λ p=>JC τ[p.2]?
def D8(it:DI)(g:DE)(cs:Ry (Str×Nat)):DE:=λ τ=>(it τ).bind λ ds=>if ds.length<=100000 then(IM (λ d=>g (.shr d::jt τ cs)) ds).map .lst else none
theorem oU {K:RC} {H0 Hs H:Hp} {σ:St} {τ:Ry Sl} {fp:Ry RB} (st:StR K H0 Hs H σ τ fp):∀ cs:Ry (Str×Nat),StR K H0 Hs H (aQ σ cs) (jt τ cs) []
 |[]=>.nil
 |p :: cs=>by
  have ih:=oU st cs;show StR K H0 Hs H ((σ[p.2]?).join::aQ σ cs) (JC τ[p.2]?::jt τ cs) []
  cases q:τ[p.2]? with
  |none=>exact .no ih
  |some sl=>
   cases sl with
   |no=>exact .no ih
   |own d=>exact .no ih
   |shr d=>
    obtain⟨v,h1,h2⟩:=st.get q;rw[h1];exact .shr h2 ih
section
variable{X:Cx}{e:Expr}{es:Ry Expr}{pos:Pos}
theorem HW{K:RC}{it:DI}{g:DE}{cs:Ry (Str×Nat)}{σ:St}{H:Hp}{Q:VK}(h:rdO K (D8 it g cs) σ H Q):Jw (rdI K it) (rdE K g) cs σ H Q:=by
 obtain⟨H0,Hs,τ,fp,d,st,sm,e,k⟩:=h;obtain⟨ds,e1,e2⟩:=Ub e;split at e2
 ·rename_i hl
  obtain⟨full,e3,rfl⟩:=Zm e2;refine⟨H0,Hs,τ,fp,ds,st,sm,e1,λ J Hs1 H1 g1 hJ=>?_⟩;refine⟨λ i m ys H'=>m=ds.length - i/\i<=ds.length/\∃ Hs2 es rest,Ext Hs1 H1 Hs2 H'/\Rps K Hs2 ys es/\es.length=i/\IM (λ d=>g (.shr d::jt τ cs)) (ds.drop i)=some rest/\es++rest=full,⟨ds.length,by simp,Z0 _,Hs1,[],full,.refl g1.sh,.nil,rfl,by simpa using e3,rfl⟩,?_⟩
  rintro i m ys H2 ⟨rfl,hi,Hs2,es,rest,g2,ry,ley,e4,e5⟩
  obtain⟨hgo,hstop⟩:=hJ Hs2 H2 g2.ss g2.sh;have ly:ys.length=i:=by rw[ry.length,ley]
  by_cases hlt:i<ds.length
  ·have ed:=Xa hlt
   rw[ed]at e4;obtain⟨x,q1,q2⟩:=Ub e4;obtain⟨xs,q3,q4⟩:=Ub q2;have eq:=Zj q4;subst eq;obtain⟨go,yl⟩:=hgo i ds[i] (QA hlt);refine .inr ⟨go,by rw[ly];exact le5 (by lia),λ v H3 y=>?_⟩;obtain⟨Hs3,g3,rv⟩:=yl v H3 y;have g13:=(g1.trans g2).trans g3;refine⟨H0,Hs3,.shr ds[i]::jt τ cs,[],x,.shr rv (oU (st.ext g13) cs),g3.sh,q1,λ v4 Hs4 H4 g4 r4=>?_⟩;exact⟨ds.length - (i+1),by lia,rfl,hlt,Hs4,es++[x],xs,(g2.trans g3).trans g4,((ry.same g3.ss).same g4.ss).append (.cons r4 .nil),by simp[ley],q3,by rw[<- e5];simp⟩
  ·have e0:i=ds.length:=by lia
   subst e0;rw[Wr]at e4;have er:=Zj e4;subst er;rw[Zz]at e5;subst e5;refine .inl ⟨hstop _ (Zo _),by rw[ly];exact yr hl,λ p hp=>?_⟩;have g12:=g1.trans g2;exact k p Hs2 _ ⟨g12.ss,g12.sh.trans (aF hp _),g12.hh.trans (aF hp _),g12.fr⟩ (.lst ay (g12.sh.free hp) ry) (g12.hh.free hp)
 · cases e2
def JI(i:Nat)(o:D->D->Rz D)(f:DE):DS:=λ τ=>(bf i τ).bind λ x=>(f τ).bind λ y=>(o x y).map λ z=>.next (τ.set i (.shr z))
def DM:D->D->Rz D
 |.int i,.int j=>some (.int (i+j))
 |_,_=>none
theorem lA:∀ x y z,DM x y=some z->∃ i j,x=.int i/\y=.int j/\z=.int (i+j):=λ x y z h=>by cases x<;>cases y<;>simp[DM]at h;exact⟨_,_,rfl,rfl,h.symm⟩
end
theorem vT {b:D->DS} {o:Out} (P:Nat->Ry Sl->Prop):∀ {ds:Ry D} {τ:Ry Sl} (i:Nat),P i τ->(∀ j d τ,ds[j]?=some d->P (i+j) τ->∃ τ',b d τ=some (.next τ')/\P (i+j+1) τ')->∃ τ',xI b ds τ=some (.next τ')/\P (i+ds.length) τ'
 |[],τ,i,h,_=>⟨τ,rfl,h⟩
 |d::ds,τ,i,h,hs=>by
  obtain⟨τ1,e1,p1⟩:=hs 0 d τ rfl h
  obtain⟨τ2,e2,p2⟩:=vT (o:=o) P (ds:=ds) (τ:=τ1) (i+1) p1 λ j d' τ' hj p=>by
   have:=hs (j+1) d' τ' (by simpa using hj) (by rw[show i+(j+1)=i+1+j by omega];exact p);rw[show i+(j+1)+1=i+1+j+1 by omega]at this;exact this
  refine⟨τ2,?_,?_⟩
  · simp only[xI,e1];exact e2
  · rw[Z2,show i+(ds.length+1)=i+1+ds.length by omega];exact p2
def IL (C:RB) (f:Str):D->Rz D
 |.obj C' fs=>if C'=C then fs.lookup f else none
 |_=>none
theorem RpF.look {K:RC} {H:Hp} {f:Str} {d:D}:∀ {fs:Ry (Str×V)} {ds:Ry (Str×D)},RpF K H fs ds->ds.lookup f=some d->∃ v,fs.lookup f=some v/\Rp K H v d
 |_,_,.nil,e=>by simp at e
 |_,_,@RpF.cons _ _ k x d' xs ds h r,e=>by
  rw[Y0]at e ⊢
  by_cases q:f == k
  ·simp only [q] at e ⊢
   cases e;exact⟨x,rfl,h⟩
  ·simp only [Bool.not_eq_true] at q
   simp only[q]at e ⊢;exact RpF.look r e
theorem RpF.KO {K:RC} {H:Hp} {f:Str}:∀ {fs:Ry (Str×V)} {ds:Ry (Str×D)},RpF K H fs ds->ds.lookup f=none->fs.lookup f=none
 |_,_,.nil,e=>rfl
 |_,_,@RpF.cons _ _ k x d' xs ds h r,e=>by
  rw[Y0]at e ⊢
  by_cases q:f == k
  · simp only[q]at e;cases e
  ·simp only [Bool.not_eq_true] at q
   simp only[q]at e ⊢;exact RpF.KO r e
theorem RpF.zip {K:RC} {H:Hp}:∀ {ns:Ry Str} {vs:Ry V} {ds:Ry D},Rps K H vs ds->RpF K H (ns.zip vs) (ns.zip ds)
 |[],_,_,_=>by simp;exact .nil
 |_::_,_,_,.nil=>by simp;exact .nil
 |n::ns,_,_,.cons h r=>by
  rw[QT,QT];exact .cons h (RpF.zip r)
section
variable{X:Cx}{e o:Expr}{es:Ry Expr}{x m f:Str}{p pos Qw:Pos}{k:Nat}{C fa:RB}{fd:FuncData}{ps:Ry Str}{F:Ry D->Rz Sl}{g:DE}{ga:DA}
def jR(C:RB)(m:Str)(F:Ry D->Rz Sl)(o:DE)(g:DA):DE:=λ τ=>(o τ).bind λ x=>(g τ).bind λ ds=>match x with
 |.obj C' fs=>if C'=C/\fs.lookup m=none then(F (x::ds)).bind slD else none
 |_=>none
theorem Ar(K:RC)(h:rdE K (jR C m F g ga) σ H Q):FR C m (spF F K) [] E0 (rdE K g) (rdA K ga) σ H Q:=by
 obtain⟨H0,Hs,τ,fp,d,st,sm,e,q⟩:=h;obtain⟨x,e1,e2⟩:=Ub e;obtain⟨ds,e3,e4⟩:=Ub e2;refine⟨H0,Hs,τ,fp,x,st,sm,e1,λ v Hs1 H1 g1 r1=>?_⟩
 cases r1 with
 |@obj a C' dx fs dd h r=>
  simp only at e4;split at e4
  ·rename_i hc
   obtain⟨hc1,hc2⟩:=hc;subst hc1;obtain⟨s,e5,e6⟩:=Ub e4;refine⟨a,dx,fs,rfl,g1.sh _ _ h,r.KO hc2,?_⟩;refine⟨H0,Hs1,τ,fp,ds,st.ext g1,g1.sh,e3,λ vs Hs2 H2 g2 r2=>?_⟩;refine⟨Hs2,_,s,g2.sh,.cons ((Rp.obj h r).same g2.ss) (by rw[Zz];exact r2),e5,λ v Hs3 H3 g3 rv=>?_⟩;obtain⟨Hs4,g4,r4⟩:=rv.shr g3 e6;exact q v Hs4 H3 ((g1.trans g2).trans g4) r4
  · cases e4
 |_=>exact nn e4
theorem GU (he:PEd X o g) (c:Cls X.K C) (hm:FA X.K C m fa) (Fo:ir X.prog X.w X.K X.mg X.base CX0 k fa fd ps (spF F X.K)) (hr:cp k X.A) (hb:Binds X.K fd ps []) (ha:PAd X (e::es) ga)
 (hst:Se X e es:=by rfl) (hpl:Sb X pos es:=by rfl)
 (ht:eval (.Call (.Attribute o m Qw) (e::es) [] pos) X.env=(do
   let ov <- eval o X.env
   standAt Qw.atName
   let (f,first) <- holding [ov] (getMethod ov m pl)
   callWith pos f first (backTo pos (starEach (e::es) X.env)) (backToKw pos (keywordEach [] X.env))):=by rfl):PEd X (.Call (.Attribute o m Qw) (e::es) [] pos) (jR C m F g ga):=(zw he c hm Fo hr hb .nil jf ha hst hpl ht).imp λ σ H Q h=>Ar X.K h
theorem Dl (he:PEd X o g) (c:Cls X.K C) (hm:FA X.K C m fa) (Fo:ir X.prog X.w X.K X.mg X.base CX0 k fa fd ps (spF F X.K)) (hr:cp k X.A) (hb:Binds X.K fd ps [])
  (ht:eval (.Call (.Attribute o m Qw) [] [] pos) X.env=(do
    let ov <- eval o X.env
    standAt Qw.atName
    let (f,first) <- holding [ov] (getMethod ov m pl)
    callWith pos f first (backTo pos (starEach [] X.env)) (backToKw pos (keywordEach [] X.env))):=by rfl):PEd X (.Call (.Attribute o m Qw) [] [] pos) (jR C m F g eF):=(C6 he c hm Fo hr hb .nil jf ht).imp λ σ H Q h=>by
 have h':=Ar X.K h;obtain⟨H0,Hs,τ,fp,x,st,sm,e1,kk⟩:=h';refine⟨H0,Hs,τ,fp,x,st,sm,e1,λ v Hs1 H1 g1 r1=>?_⟩;obtain⟨a,dx,fs,h1,h2,h3,H0',Hs',τ',fp',ds,st',sm',e',k'⟩:=kk v Hs1 H1 g1 r1;have ed:=Zj e';subst ed;exact⟨a,dx,fs,h1,h2,h3,k' [] Hs' H1 (.refl sm') .nil⟩
def yJ(C:RB)(ns:Ry Str):Sp:=λ vs H Q _=>∃ x ws dx,vs=.ref x::ws/\ws.length=ns.length/\H x=some (.ins C dx [])/\Q .non (upd H x (.ins C dx (ns.zip ws)))
def LG(C:RB)(ns:Ry Str)(g:DA):DE:=λ τ=>(g τ).bind λ ds=>if ds.length=ns.length then some (.obj C (ns.zip ds)) else none
def Cs{H:Hp}{p:RB}{a b:HO}:upd (upd H p a) p b=upd H p b:=FL
theorem GV (M:Mk X.K C fa) (Fo:ir X.prog X.w X.K X.mg X.base CX0 k fa fd ps (yJ C ns)) (hr:cp (k+1) X.A) (hg:Gl X x) (hm:X.mg x=some (.ref C)) (hb:Binds X.K fd ps [])
  (ha:PAd X (e::es) ga) (hdb:Dg x:=by decide) (he:Se X e es:=by rfl) (hpl:Sb X pos es:=by rfl):PEd X (.Call (.Name x p) (e::es) [] pos) (LG C ns ga):=(zx M Fo hr hg hm hb .nil jf ha hdb he hpl).imp λ σ H Q w0=>g54 w0 λ H0 Hs τ fp d st sm e q=>by
 obtain⟨ds,e1,e2⟩:=Ub e;split at e2
 ·rename_i hl
  have ed:=Zj e2;subst ed;refine⟨H0,Hs,τ,fp,ds,st,sm,e1,λ vs Hs1 H1 g1 r1 x dx hx hdx ne=>?_⟩;refine⟨x,vs,dx,by rw[Zz],by rw[r1.length];exact hl,ay,rfl,?_⟩;rw[Cs];have g2:=Ext.new g1.sh hdx (.own x);have hx':upd H1 dx (.own x) x=none:=by rw[ar (QH ne)];exact hx
  have g3:=Ext.new g2.sh hx' (.ins C dx (ns.zip vs));exact q _ _ _ ((g1.trans g2).trans g3) (.obj ay (RpF.zip ((r1.same g2.ss).same g3.ss)))
 · cases e2
end
theorem DY{P}{w}{K}{mg}{base}{f}{fd}{ps}{k}:ir P w K mg base CX0 k f fd ps (spF (λ _=>none) K):=
 ⟨λ _ _ _ _ ⟨_,_,_,_,_,e,_⟩=>(nomatch e),λ _ _ _ _ _ _ _ _ _ _ _ _ _ ⟨_,_,_,_,_,e,_⟩=>(nomatch e)⟩
def FW(J:It)(tt:TT)(te:TE)(cs:Ry (Str×Nat))(σ:St)(Q:VK)(H1:Hp):Prop:=∃ W:Nat->Nat->Ry V->Hp->Prop,(∃ m,W 0 m [] H1)/\∀ i m ys H',W i m ys H'->(J.stop i H'/\ys.length<=sizeLine/\∀ p,H' p=none->Q (.ref p) (upd H' p (.lst ys)))\/(J.go i H'/\ys.length<sizeLine/\∀ v H2,J.yld i H' v H2->tt (some v::aQ σ cs) H2 λ b H3=>if b=true then te (some v::aQ σ cs) H3 λ y H4=>∃ m',m'<m/\W (i+1) m' (ys++[y]) H4 else ∃ m',m'<m/\W (i+1) m' ys H3)
def yF(wi:TI)(tt:TT)(te:TE)(cs:Ry (Str×Nat)):TE:=λ σ H Q=>wi σ H λ J H1=>FW J tt te cs σ Q H1
section
variable{X:Cx}
theorem mN {elt iter} {x} {px pos} {scope} {cl} {cs} {te} {tt} {cnd} {Qv} {σ:St} {H} {s} {Q:VK} {it:RB} {fp} {tn} {J}
 {RR:RA->RB->Result->RD->Prop} {E:RA->RD->Prop} (hc:X.calm=true) (O:eX X scope cl x cs) (hcd:∀ s H fp C,PT (cW X scope cl (x::cs.map (·.1)) s H fp C) cnd tt) (he:∀ s H fp C,PE (cW X scope cl (x::cs.map (·.1)) s H fp C) elt te)
 (I:Inv X Qv σ H s) (T:Turn X.prog X.w X.K (.Name x px) J fp it tn) (st:tn 0 s.heap) (f2:∀ b ∈ fp,sZ X Qv H b)
 (h : ∃ W:Nat->Nat->Ry V->Hp->Prop,(∃ m,W 0 m [] H)/\∀ i m ys H',W i m ys H'->(J.stop i H'/\ys.length<=sizeLine/\∀ p,H' p=none->Q (.ref p) (upd H' p (.lst ys)))\/(J.go i H'/\ys.length<sizeLine/\∀ v H2,J.yld i H' v H2->tt (some v::aQ σ cs) H2 λ b H3=>if b=true then te (some v::aQ σ cs) H3 λ y H4=>∃ m',m'<m/\W (i+1) m' (ys++[y]) H4 else ∃ m',m'<m/\W (i+1) m' ys H3))
 (hRR:∀ D C s' H' ys,s.heap.objs.size<=D->s.heap.objs.size<=C->D≠C->(∃ m,s'.heap.Ns C m)->Inv X Qv σ (upd H' D (.lst ys)) s'->H' C=none->Q (.ref D) (upd H' D (.lst ys))->RR (.ref D) C (.ok .next) s'):wpAny (model X.prog X.w) X.A (newList []) (λ acc s₃=>wpAny (model X.prog X.w) X.A (newFunctionEnv scope X.env.globals cl [] X.env.qual none .none (some X.env)) (λ cenv s₄=>
   codeAny (model X.prog X.w) X.A (.compStart (.ListComp elt [⟨.Name x px,iter,[cnd],0⟩] scope pos) 0 (.ref it) acc { cenv with scope:=relabel scope X.env }) (RR acc cenv.locals) s₄) E s₃) E s:=ox hc O (λ s H fp C=>Gz (hcd s H fp C)) he I T st f2 h hRR
theorem Di {elt iter} {x} {px pos} {scope} {cl} {cs} {wi} {te} {tt} {cnd} (hc:X.calm=true) (O:eX X scope cl x cs) (hi:PI X (.Name x px) iter wi)
  (hcd:∀ s H fp C,PT (cW X scope cl (x::cs.map (·.1)) s H fp C) cnd tt) (he:∀ s H fp C,PE (cW X scope cl (x::cs.map (·.1)) s H fp C) elt te) (hs:∀ x,foldedSetIterable iter X.env x=pure x:=by intro _;rfl):PE X (.ListComp elt [⟨.Name x px,iter,[cnd],0⟩] scope pos) (yF wi tt te cs):=by
 intro Qv s σ H Q I h;rw[eval_ListComp];refine wpAny_comprehension_free rfl hs O.kB O.kind O.names (thn (hi Qv s σ H _ I h) λ v s1 h1=>thn h1 λ itv s2 h2=>?_);obtain⟨it,fp,tn,J,H2,rfl,I2,T,st2,f2,hw⟩:=h2;refine mN hc O hcd he I2 T st2 f2 hw λ D C s' H' ys hD hC hDC w90 I' hn q=>?_
 obtain⟨m,hm⟩:=w90;refine⟨m,hm,λ h' hs'=>?_⟩;have hn':upd H' D (.lst ys) C=none:=by rw[ar (QH hDC)];exact hn
 have FC:=I2.yt hC hn';exact⟨.ref D,upd H' D (.lst ys),I'.turned (λ b o hb e=>(hs'.2 b hb).trans e) hn' FC.2.1 FC.2.2.2.1 FC.2.2.2.2.1 FC.2.2.2.2.2,rfl,q⟩
theorem CZ {elt iter} {x y} {px py pos spos} {i} {scope} {cl} {cs} {wi} {te} {tt} {cnd} (hN:X.N.Nodup) (hy:X.N[i]?=some y) (hx:Loc X.env.scope y)
  (hc:X.calm=true) (O:eX X scope cl x cs) (hi:PI X (.Name x px) iter wi)
  (hcd:∀ s H fp C,PT (cW X scope cl (x::cs.map (·.1)) s H fp C) cnd tt) (he:∀ s H fp C,PE (cW X scope cl (x::cs.map (·.1)) s H fp C) elt te) (hs:∀ x,foldedSetIterable iter X.env x=pure x:=by intro _;rfl)
  (hsw:swapsWith (.ListComp elt [⟨.Name x px,iter,[cnd],0⟩] scope pos) (some (.Name y py)) spos.line X.env=pure true:=by rfl)
  (hf:X.fn y=true\/X.env.scope.names.lookup y=some .local:=by walk_at "v"):PS X (.Assign [.Name y py] (.ListComp elt [⟨.Name x px,iter,[cnd],0⟩] scope pos) spos) (MF (yF wi tt te cs) (xF i)):=by
 intro Qv s σ H Dd I h;rw[exec_Assign_Name_used _ _ _ _ hsw];refine Zc (wpAny_standAt (Zc ?_))
 refine Zc (Ys (wpAny_comprehension_free rfl hs O.kB O.kind O.names (thn (hi Qv s σ H _ I h) λ v s1 h1=>thn h1 λ itv s2 h2=>?_))
  (λ _ s' hq=>Zw (Zw hq)) λ _ _ e=>e)
 obtain⟨it,fp,tn,J,H2,rfl,I2,T,st2,f2,hw⟩:=h2;refine mN (Q:=λ v H1=>xF i v σ H1 Dd.nx) hc O hcd he I2 T st2 f2 hw λ D C s' H' ys hD hC hDC w90 I' hn q=>?_
 obtain⟨m,hm⟩:=w90;have hn':upd H' D (.lst ys) C=none:=by rw[ar (QH hDC)];exact hn
 have FC:=I2.yt hC hn';refine wpAny_assign_Name (qh I' hN hy hx (v:=.ref D) rfl (λ s'' I'' ⟨a,hsb,ha⟩=>?_) hf)
 have na:C≠a:=by
  rcases ha with ha|ha
  · rw[ha];exact FC.2.1
  · exact QH (FC.2.2.2.2.1 y a ha)
 refine⟨m,hm.sameBut hsb na,λ h' hs'=>?_⟩;exact⟨σ.set i (some (.ref D)),upd H' D (.lst ys),I''.turned (λ b o hb e=>(hs'.2 b hb).trans e) hn' FC.2.1 FC.2.2.2.1 FC.2.2.2.2.1 FC.2.2.2.2.2,q⟩
end
def HI (c:D->Rz Bool) (g:D->Rz D):Ry D->Rz (Ry D)
 |[]=>some []
 |d::ds=>(c d).bind λ b=>if b=true then(g d).bind λ x=>(HI c g ds).bind λ xs=>some (x::xs) else HI c g ds
def wj(it:DI)(c:DT)(g:DE)(cs:Ry (Str×Nat)):DE:=λ τ=>(it τ).bind λ ds=>if ds.length<=100000 then(HI (λ d=>c (.shr d::jt τ cs)) (λ d=>g (.shr d::jt τ cs)) ds).map .lst else none
section
variable{X:Cx}{e:Expr}{es:Ry Expr}{pos:Pos}
theorem D9{K}{it}{c}{g}{cs}{σ}{H}{Q}(h:rdO K (wj it c g cs) σ H Q):yF (rdI K it) (rdT K c) (rdE K g) cs σ H Q:=by
 obtain⟨H0,Hs,τ,fp,d,st,sm,e,k⟩:=h;obtain⟨ds,e1,e2⟩:=Ub e;split at e2
 ·rename_i hl
  obtain⟨full,e3,rfl⟩:=Zm e2;refine⟨H0,Hs,τ,fp,ds,st,sm,e1,λ J Hs1 H1 g1 hJ=>?_⟩;refine⟨λ i m ys H'=>m=ds.length - i/\i<=ds.length/\∃ Hs2 es rest,Ext Hs1 H1 Hs2 H'/\Rps K Hs2 ys es/\es.length<=i/\HI (λ d=>c (.shr d::jt τ cs)) (λ d=>g (.shr d::jt τ cs)) (ds.drop i)=some rest/\es++rest=full,⟨ds.length,by simp,Z0 _,Hs1,[],full,.refl g1.sh,.nil,Zo _,by simpa using e3,rfl⟩,?_⟩
  rintro i m ys H2 ⟨rfl,hi,Hs2,es,rest,g2,ry,ley,e4,e5⟩
  obtain⟨hgo,hstop⟩:=hJ Hs2 H2 g2.ss g2.sh;have ly:ys.length<=i:=by rw[ry.length];exact ley
  by_cases hlt:i<ds.length
  ·have ed:=Xa hlt
   rw[ed]at e4;obtain⟨b,q0,q0'⟩:=Ub e4;obtain⟨go,yl⟩:=hgo i ds[i] (QA hlt);refine .inr ⟨go,le5 (by lia),λ v H3 y=>?_⟩;obtain⟨Hs3,g3,rv⟩:=yl v H3 y;have g13:=(g1.trans g2).trans g3;refine⟨H0,Hs3,.shr ds[i]::jt τ cs,[],b,.shr rv (oU (st.ext g13) cs),g3.sh,q0,λ Hs4 H4 g4=>?_⟩;have g14:=g13.trans g4
   cases b with
   |true=>
    refine IQ ?_
    obtain⟨x,q1,q2⟩:=Ub (q0');obtain⟨xs,q3,q4⟩:=Ub q2;have eq:=Zj q4;subst eq;refine⟨H0,Hs4,.shr ds[i]::jt τ cs,[],x,.shr (rv.same g4.ss) (oU (st.ext g14) cs),g4.sh,q1,λ v5 Hs5 H5 g5 r5=>?_⟩;exact⟨ds.length - (i+1),by lia,rfl,hlt,Hs5,es++[x],xs,((g2.trans g3).trans g4).trans g5,(((ry.same g3.ss).same g4.ss).same g5.ss).append (.cons r5 .nil),by simp;lia,q3,by rw[<- e5];simp⟩
   |false=>
    refine L4 ?_
    have q1:=q0';exact⟨ds.length - (i+1),by lia,rfl,hlt,Hs4,es,rest,(g2.trans g3).trans g4,(ry.same g3.ss).same g4.ss,by lia,q1,e5⟩
  ·have e0:i=ds.length:=by lia
   subst e0;rw[Wr]at e4;have er:=Zj e4;subst er;rw[Zz]at e5;subst e5;refine .inl ⟨hstop _ (Zo _),yr (by lia),λ p hp=>?_⟩;have g12:=g1.trans g2;exact k p Hs2 _ ⟨g12.ss,g12.sh.trans (aF hp _),g12.hh.trans (aF hp _),g12.fr⟩ (.lst ay (g12.sh.free hp) ry) (g12.hh.free hp)
 · cases e2
end
noncomputable def jn:D->Rz Key
 |.int i=>some (.inl i)
 |.str x=>some (.inr x)
 |_=>none
def du(kvs:Ry (Key×D))(k:Key):Rz D:=(kvs.find? λ kv=>decide (kv.1=k)).map (·.2)
def putD(kvs:Ry (Key×D))(k:Key)(v:D):Ry (Key×D):=if kvs.any (λ kv=>decide (kv.1=k)) then kvs.map (λ kv=>if kv.1=k then(kv.1,v) else kv) else kvs++[(k,v)]
theorem gm{K}{H}{v}{d}{k}(r:Rp K H v d)(e:jn d=some k):v=kV k:=by
 cases r<;>simp[jn]at e<;>subst e<;>rfl
theorem RpK.val {K:RC} {H:Hp} {k:Key}:∀ {kvs:Ry (Key×V)} {ds:Ry (Key×D)},RpK K H kvs ds->(∀ d,du ds k=some d->∃ v,cC kvs k=some v/\Rp K H v d)/\(du ds k=none->cC kvs k=none)
 |_,_,.nil=>⟨λ d e=>by simp[du]at e,λ _=>rfl⟩
 |_,_,@RpK.cons _ _ j x d xs ds h r=>by
  obtain⟨i1,i2⟩:=RpK.val (k:=k) r
  by_cases q:j=k
  ·subst q
   refine⟨λ d' e=>?_,λ e=>?_⟩
   ·have:d=d':=by simpa [du] using e
    subst this;exact⟨x,by simp[cC],h⟩
   · simp[du]at e
  ·have e1:du ((j,d)::ds) k=du ds k:=by simp [du,q]
   have e2:cC ((j,x)::xs) k=cC xs k:=by simp[cC,q]
   rw[e1,e2];exact⟨i1,i2⟩
theorem RpK.any {K:RC} {H:Hp} {k:Key}:∀ {kvs:Ry (Key×V)} {ds:Ry (Key×D)},RpK K H kvs ds->kvs.any (λ kv=>decide (kv.1=k))=ds.any (λ kv=>decide (kv.1=k))
 |_,_,.nil=>rfl
 |_,_,.cons h r=>by simp only[Yz,RpK.any r]
theorem RpK.Gs {K:RC} {H:Hp} {k:Key} {v:V} {d:D} (hv:Rp K H v d):∀ {kvs:Ry (Key×V)} {ds:Ry (Key×D)},RpK K H kvs ds->RpK K H (kvs.map λ kv=>if kv.1=k then (kv.1,v) else kv) (ds.map λ kv=>if kv.1=k then (kv.1,d) else kv)
 |_,_,.nil=>.nil
 |_,_,@RpK.cons _ _ j x d' xs ds h r=>by
  simp only[Zh]
  by_cases q:j=k
  · rw[if_pos q,if_pos q];exact .cons hv (RpK.Gs hv r)
  · rw[if_neg q,if_neg q];exact .cons h (RpK.Gs hv r)
theorem RpK.snoc {K:RC} {H:Hp} {k:Key} {v:V} {d:D} (hv:Rp K H v d):∀ {kvs:Ry (Key×V)} {ds:Ry (Key×D)},RpK K H kvs ds->RpK K H (kvs++[(k,v)]) (ds++[(k,d)])
 |_,_,.nil=>.cons hv .nil
 |_,_,.cons h r=>.cons h (RpK.snoc hv r)
theorem RpK.put{K}{H}{k}{v}{d}{kvs}{ds}(h:RpK K H kvs ds)(hv:Rp K H v d):RpK K H (putK kvs k v) (putD ds k d):=by
 unfold putK putD;rw[h.any];split
 · exact h.Gs hv
 · exact h.snoc hv
theorem RpK.length {K:RC} {H:Hp}:∀ {kvs:Ry (Key×V)} {ds:Ry (Key×D)},RpK K H kvs ds->kvs.length=ds.length
 |_,_,.nil=>rfl
 |_,_,.cons _ r=>Z6 (·+1) r.length
def xu:D->D->Rz D
 |.dct kvs,y=>(jn y).bind λ k=>du kvs k
 |.dfz kvs,y=>(jn y).bind λ k=>du kvs k
 |_,_=>none
def Cf:D->D->Rz D
 |y,.dct kvs=>(jn y).map λ k=>.bl (du kvs k).isSome
 |y,.dfz kvs=>(jn y).map λ k=>.bl (du kvs k).isSome
 |_,_=>none
def gC:D->D->Rz D
 |y,.dct kvs=>(jn y).map λ k=>.bl (!(du kvs k).isSome)
 |y,.dfz kvs=>(jn y).map λ k=>.bl (!(du kvs k).isSome)
 |_,_=>none
section
variable{X:Cx}{o i e value:Expr}{pos pos' Qw Qx:Pos}{f g h:DE}
theorem Bu{neg:Bool}{σ}{H}{Q} K (h:rdE K (dOp (if neg then gC else Cf) f g) σ H Q):rdE K f σ H λ y H1=>rdE K g σ H1 λ x H2=>∃ a o,x=.ref a/\oM H2 a y o/\Q (.bl (if neg then !o.isSome else o.isSome)) H2:=by
 have h':=n9 K h;obtain⟨H0,Hs,τ,fp,x,st,sm,e1,kk⟩:=h';refine⟨H0,Hs,τ,fp,x,st,sm,e1,λ v Hs1 H1 g1 r1=>?_⟩;obtain⟨H0',Hs',τ',fp',y,st',sm',e2,kk2⟩:=kk v Hs1 H1 g1 r1;refine⟨H0',Hs',τ',fp',y,st',sm',e2,λ u Hs2 H2 g2 r2=>?_⟩;obtain⟨Hs3,dx,dy,d,sm3,rx,ry,eo,k⟩:=kk2 u Hs2 H2 g2 r2
 obtain⟨ds,key,ey,ek,ev⟩:∃ ds key,(dy=.dct ds\/dy=.dfz ds)/\jn dx=some key/\D.bl (if neg then !(du ds key).isSome else(du ds key).isSome)=d:=by
  cases neg with
  |true=>
   have eo:gC dx dy=some d:=eo;unfold gC at eo;split at eo
   ·obtain ⟨key,a1,a2⟩:=Zm eo
    exact⟨_,key,.inl rfl,a1,a2⟩
   ·obtain ⟨key,a1,a2⟩:=Zm eo
    exact⟨_,key,.inr rfl,a1,a2⟩
   · cases eo
  |false=>
   have eo:Cf dx dy=some d:=eo;unfold Cf at eo;split at eo
   ·obtain ⟨key,a1,a2⟩:=Zm eo
    exact⟨_,key,.inl rfl,a1,a2⟩
   ·obtain ⟨key,a1,a2⟩:=Zm eo
    exact⟨_,key,.inr rfl,a1,a2⟩
   · cases eo
 obtain⟨a,kvs,rfl,hH,rk⟩:∃ a kvs,u=.ref a/\Rd H2 a (.dK kvs)/\RpK K Hs3 kvs ds:=by
  rcases ey with rfl|rfl
  ·cases ry with
   |dct hH rk=>exact⟨_,_,rfl,.inl (sm3 _ _ hH),rk⟩
  ·cases ry with
   |dfz hH rk=>exact⟨_,_,rfl,.inr (hH.imp λ _ z=>sm3 _ _ z),rk⟩
 have:=gm rx ek;subst this;subst ev
 have is:(cC kvs key).isSome=(du ds key).isSome:=by
  cases q:du ds key with
  |none=>rw[(rk.val).2 q];rfl
  |some d'=>obtain⟨w,hw,_⟩:=(rk.val).1 d' q;rw[hw];rfl
 refine⟨a,cC kvs key,rfl,.inl ⟨kvs,key,hH,rfl,rfl⟩,?_⟩;rw[is];exact k _ Hs3 H2 (.refl sm3) (.bl _)
theorem FP K (h:rdT K (dT f) σ H Q):rdE K f σ H λ x H1=>∃ c,x=.bl c/\Q c H1:=by
 obtain⟨H0,Hs,τ,fp,d,st,sm,e,k⟩:=h;obtain⟨x,e1,e⟩:=Ub e;have hx:x=.bl d:=by cases x<;>simp at e<;>subst e<;>rfl
 subst hx;refine⟨H0,Hs,τ,fp,_,st,sm,e1,λ v Hs' H' g r=>?_⟩;cases r;exact⟨d,rfl,k Hs' H' g⟩
def HR(f g h:DE):DE:=λ τ=>(f τ).bind λ x=>(g τ).bind λ y=>(h τ).bind λ z=>match x with
 |.dct kvs=>(jn y).map λ k=>(du kvs k).getD z
 |_=>none
noncomputable def yW(j:Nat)(f g:DE):DS:=λ τ=>(f τ).bind λ v=>(g τ).bind λ y=>match τ[j]? with
 |some (.own (.dct kvs))=>(jn y).bind λ k=>if kvs.length<100000 then some (.next (τ.set j (.own (.dct (putD kvs k v))))) else none
 |_=>none
end
def scD:D->Rz V
 |.int i=>some (.int i)
 |.str x=>some (.str x)
 |.non=>some .non
 |_=>none
def IF:Ry D->Rz (Ry V)
 |[]=>some []
 |d::ds=>(scD d).bind λ v=>(IF ds).map (v::·)
def inS(x:D)(ys:Ry D):Rz Bool:=(scD x).bind λ v=>(IF ys).map λ vs=>inV v vs
def Hr:D->Rz (Ry D)
 |.lst ys=>some ys
 |.tup ys=>some ys
 |_=>none
def IK(x y:D):Rz D:=(Hr y).bind λ ys=>(inS x ys).map .bl
def jP(x y:D):Rz D:=(Hr y).bind λ ys=>(inS x ys).map λ b=>.bl !b
theorem JD{K}{H}{v w}{d}(r:Rp K H v d)(e:scD d=some w):v=w/\nO v=true:=by
 cases r<;>simp[scD]at e<;>subst e<;>exact⟨rfl,rfl⟩
theorem EA {K:RC} {H:Hp}:∀ {vs ws:Ry V} {ds:Ry D},Rps K H vs ds->IF ds=some ws->vs=ws/\vs.all nO=true
 |_,_,_,.nil,e=>by simp[IF]at e;subst e;exact⟨rfl,rfl⟩
 |_,_,_,.cons h r,e=>by
  obtain⟨v,e1,e2⟩:=Ub (show(scD _).bind _=_ from e);obtain⟨ws,e3,e4⟩:=Zm e2;obtain⟨q1,q2⟩:=JD h e1;obtain⟨q3,q4⟩:=EA r e3;subst q1 q3;exact⟨e4,by rw[Ww,q2,q4];rfl⟩
section
variable{X:Cx}
theorem Fc{K}{neg:Bool}{x y}{H}{Q}(h:rdR K (if neg then jP else IK) x y H Q):rIn K neg x y H Q:=by
 obtain⟨Hs,dx,dy,d,sm,rx,ry,e,k⟩:=h
 obtain⟨ys,b,e1,e2,e3⟩:∃ ys b,Hr dy=some ys/\inS dx ys=some b/\d=.bl (if neg then !b else b):=by
  cases neg with
  |true=>
   obtain⟨ys,a1,a2⟩:=Ub (e);obtain⟨b,a3,a4⟩:=Zm a2;exact⟨ys,b,a1,a3,a4.symm⟩
  |false=>
   obtain⟨ys,a1,a2⟩:=Ub (show(Hr dy).bind _=some d from e);obtain⟨b,a3,a4⟩:=Zm a2;exact⟨ys,b,a1,a3,a4.symm⟩
 obtain⟨v,e4,e5⟩:=Ub e2;obtain⟨vs,e6,e7⟩:=Zm e5;obtain⟨q1,q2⟩:=JD rx e4;subst q1 e3;have ry':=ry.same sm
 obtain⟨p,xs,ep,hq,rs⟩:∃ p xs,y=.ref p/\(SqL K H p xs\/SqT K H p xs)/\Rps K H xs ys:=by
  cases ry' with
  |tup h r=>simp[Hr]at e1;subst e1;exact⟨_,_,rfl,.inr h,r⟩
  |lst h r=>simp[Hr]at e1;subst e1;exact⟨_,_,rfl,.inl (.of h),r⟩
  |_=>simp[Hr]at e1
 obtain⟨q3,q4⟩:=EA rs e6;subst q3;refine⟨p,xs,ep,hq,q2,q4,?_⟩;rw[e7];exact k _ Hs H (.refl sm) (.bl _)
def Kl:OpR X (compareOp .In) (rdR X.K IK):=zO.imp λ x y H Q h=>Fc h
def vz:OpR X (compareOp .NotIn) (rdR X.K jP):=qE.imp λ x y H Q h=>Fc h
end
section
variable{X:Cx}{a b c:Expr}{pos:Pos}{f g h:DE}
theorem Ec K (hh:rdE K (so (dOp o f g) (dOp o' g h)) σ H Q):yG (rdR K o) (rdR K o') (rdE K f) (rdE K g) (rdE K h) σ H Q:=by
 obtain⟨H0,Hs,τ,fp,d,st,sm,e,k⟩:=hh;obtain⟨r,e0,e⟩:=Ub e;obtain⟨x,e1,e0⟩:=Ub e0;obtain⟨y,e2,e0⟩:=Ub e0;refine⟨H0,Hs,τ,fp,x,st,sm,e1,λ v Hs1 H1 g1 r1=>?_⟩;refine⟨H0,Hs1,τ,fp,y,st.ext g1,g1.sh,e2,λ u Hs2 H2 g2 r2=>?_⟩;refine⟨Hs2,x,y,r,g2.sh,r1.same g2.ss,r2,e0,λ w Hs3 H3 g3 r3=>?_⟩
 cases r3 with
 |bl kb=>
  refine⟨kb,rfl,?_⟩
  cases kb with
  |false=>
   rw[if_neg Zf];have e':D.bl false=d:=by simpa using e
   subst e';exact k _ Hs3 H3 ((g1.trans g2).trans g3) (.bl false)
  |true=>
   rw[if_pos rfl];obtain⟨y',q1,q2⟩:=Ub (e);have ey:y'=y:=by rw[e2]at q1;exact(Zj q1).symm
   subst ey;obtain⟨z,q3,q4⟩:=Ub q2;refine⟨H0,Hs3,τ,fp,z,st.ext ((g1.trans g2).trans g3),g3.sh,q3,λ u' Hs4 H4 g4 r4=>?_⟩;exact⟨Hs4,y',z,d,g4.sh,(r2.same g3.ss).same g4.ss,r4,q4,λ w' Hs5 H5 g5 r5=>k w' Hs5 H5 ((((g1.trans g2).trans g3).trans g4).trans g5) r5⟩
 |_=>exact nn e
end
def BD:Ry (DE×DE)->Ry Sl->Rz (Ry (Key×D))
 |[],_=>some []
 |p::ps,τ=>(p.1 τ).bind λ k=>(jn k).bind λ k'=>(p.2 τ).bind λ v=>(BD ps τ).map ((k',v)::·)
def As(kvs more:Ry (Key×D)):Ry (Key×D):=more.foldl (λ acc kv=>putD acc kv.1 kv.2) kvs
def Of(ps:Ry (DE×DE)):DE:=λ τ=>(BD ps τ).bind λ kvs=>if kvs.length<=15 then some (.dct (As [] kvs)) else none
theorem RpK.merge {K:RC} {H:Hp}:∀ {more:Ry (Key×V)} {ms:Ry (Key×D)} {kvs:Ry (Key×V)} {ds:Ry (Key×D)},RpK K H more ms->RpK K H kvs ds->RpK K H (mh kvs more) (As ds ms)
 |_,_,_,_,.nil,h=>h
 |_,_,kvs,ds,@RpK.cons _ _ j x d xs es hv r,h=>show RpK K H (mh (putK kvs j x) xs) (As (putD ds j d) es) from RpK.merge r (h.put hv)
section
variable{X:Cx}{pos:Pos}
def PPd(X:Cx)(pos:Pos)(keys:Ry (Rz Expr))(values:Ry Expr)(ps:Ry (DE×DE)):Prop:=PPs X pos keys values (ps.map λ p=>(rdE X.K p.1,rdE X.K p.2))
theorem vo {K:RC} {σ:St} {τ:Ry Sl} {H0:Hp}:∀ {ps:Ry (DE×DE)} {Hs H:Hp} {fp:Ry RB} {kvs:Ry (Key×D)} {Q:Ry (V×V)->Hp->Prop},StR K H0 Hs H σ τ fp->bM Hs H->BD ps τ=some kvs->(∀ ws Hs' H',Ext Hs H Hs' H'->RpK K Hs' ws kvs->Q (ws.map λ kv=>(kV kv.1,kv.2)) H')->uQ (ps.map λ p=>(rdE K p.1,rdE K p.2)) σ H Q
 |[],Hs,H,fp,kvs,Q,st,sm,e,k=>by
  have e':[]=kvs:=Zj e;subst e';exact k [] Hs H (.refl sm) .nil
 |p::ps,Hs,H,fp,kvs,Q,st,sm,e,k=>by
  obtain⟨dk,e1,e⟩:=Ub (show(p.1 τ).bind _=some kvs from e);obtain⟨k',e2,e⟩:=Ub e;obtain⟨dv,e3,e⟩:=Ub e;obtain⟨rest,e4,rfl⟩:=Zm e;refine⟨H0,Hs,τ,fp,dk,st,sm,e1,λ v Hs1 H1 g1 r1=>?_⟩;refine⟨H0,Hs1,τ,fp,dv,st.ext g1,g1.sh,e3,λ u Hs2 H2 g2 r2=>?_⟩;refine vo ((st.ext g1).ext g2) g2.sh e4 λ ws Hs3 H3 g3 r3=>?_
  have:=gm r1 e2;subst this;exact k ((k',u)::ws) Hs3 H3 ((g1.trans g2).trans g3) (.cons (r2.same g3.ss) r3)
end
inductive Tg where
 |l|d|o (C:Addr)
inductive Mt where
 |s (d:D)
 |n (t:Tg) (cs:List (Key×Mt))
noncomputable def strOf:Key->Str
 |.inr x=>x
 |.inl _=>""
mutual
def frz:Mt->D
 |.s d=>d
 |.n .l cs=>.lst (DX cs)
 |.n .d cs=>.dct (lD cs)
 |.n (.o C) cs=>.obj C (Fj cs)
def DX:Ry (Key×Mt)->Ry D
 |[]=>[]
 |(_,m)::r=>frz m::DX r
def lD:Ry (Key×Mt)->Ry (Key×D)
 |[]=>[]
 |(k,m)::r=>(k,frz m)::lD r
def Fj:Ry (Key×Mt)->Ry (Str×D)
 |[]=>[]
 |(k,m)::r=>(strOf k,frz m)::Fj r
end
theorem vP:∀ cs:Ry (Key×Mt),DX cs=cs.map λ c=>frz c.2
 |[]=>rfl
 |(_,m)::r=>by rw[DX,vP r];rfl
theorem pJ:∀ cs:Ry (Key×Mt),lD cs=cs.map λ c=>(c.1,frz c.2)
 |[]=>rfl
 |(_,m)::r=>by rw[lD,pJ r];rfl
theorem vQ:∀ cs:Ry (Key×Mt),Fj cs=cs.map λ c=>(strOf c.1,frz c.2)
 |[]=>rfl
 |(_,m)::r=>by rw[Fj,vQ r];rfl
inductive Stp where
 |k (k:Key)|i (n:Nat)
noncomputable def qB(t:Tg)(cs:Ry (Key×Mt))(st:Stp):Rz Nat:=match t,st with
 |.l,.i n=>if n<cs.length then some n else none
 |.d,.k k=>cs.findIdx? λ c=>decide (c.1=k)
 |.o _,.k k=>cs.findIdx? λ c=>decide (c.1=k)
 |_,_=>none
def Mt.get:Mt->Ry Stp->Rz Mt
 |m,[]=>some m
 |.s _,_::_=>none
 |.n t cs,st::p=>match qB t cs st with
  |none=>none
  |some i=>match cs[i]? with
   |none=>none
   |some c=>Mt.get c.2 p
noncomputable def Mt.put:Mt->Ry Stp->Mt->Mt
 |_,[],m2=>m2
 |.s d,_::_,_=>.s d
 |.n t cs,st::p,m2=>match qB t cs st with
  |none=>.n t cs
  |some i=>match cs[i]? with
   |none=>.n t cs
   |some c=>.n t (cs.set i (c.1,Mt.put c.2 p m2))
inductive Lay:Tg->Addr->List (Key×V)->HO->Prop where
 |l {dx:Addr} (kvs:List (Key×V)):Lay .l dx kvs (.lst (kvs.map (·.2)))
 |d {dx:Addr} (kvs:List (Key×V)):Lay .d dx kvs (.dK kvs)
 |o {C dx:Addr} (fs:List (Str×V)):Lay (.o C) dx (fs.map λ f=>(.inr f.1,f.2)) (.ins C dx fs)
structure Kd where
 k:Key
 v:V
 m:Mt
 fp:List Addr
abbrev Kd.kv(t:Kd):Key×V:=(t.k,t.v)
abbrev Kd.km(t:Kd):Key×Mt:=(t.k,t.m)
def KU:Tg->Ry Kd->Prop
 |.l,_=>True
 |_,ts=>(ts.map Kd.k).Nodup
inductive Od (K:W.Frag) (Hs H:Hp):List Addr->V->Mt->Prop where
 |s {v:V} {d:D} (r:Rp K Hs v d):Od K Hs H [] v (.s d)
 |n {a dx:Addr} {t:Tg} {ts:List Kd} {u:HO} (h:H a=some u) (hl:Lay t dx (ts.map Kd.kv) u) (nh:Hs a=none) (ku:KU t ts) (nd:(a::ts.flatMap Kd.fp).Nodup) (r:∀ c ∈ ts,Od K Hs H c.fp c.v c.m):Od K Hs H (a::ts.flatMap Kd.fp) (.ref a) (.n t (ts.map Kd.km))
section
variable{K:RC}{Hs H Hs' H':Hp}{fp:Ry RB}{v:V}{m:Mt}
theorem Od.inv(h:Od K Hs H fp v (.n t cs)):∃ a dx ts u,v=.ref a/\fp=a::ts.flatMap Kd.fp/\cs=ts.map Kd.km/\H a=some u/\Lay t dx (ts.map Kd.kv) u/\Hs a=none/\KU t ts/\(a::ts.flatMap Kd.fp).Nodup/\∀ c ∈ ts,Od K Hs H c.fp c.v c.m:=by
 cases h with
 |n h hl nh ku nd r=>exact⟨_,_,_,_,rfl,rfl,rfl,h,hl,nh,ku,nd,r⟩
theorem Od.live(h:Od K Hs H fp v m):∀ b ∈ fp,Hs b=none/\H b≠none:=by
 induction h with
 |s r=>intro b h;cases h
 |n h hl nh ku nd r ih=>
  intro b hb;rcases Zi.mp hb with e|e
  · subst e;exact⟨nh,gu h⟩
  ·obtain ⟨c,hc,hb⟩:=Yh.mp e
   exact ih c hc b hb
theorem Od.nd(h:Od K Hs H fp v m):fp.Nodup:=by
 cases h with
 |s r=>exact .nil
 |n h hl nh ku nd r=>exact nd
theorem Od.mv(h:Od K Hs H fp v m)(g:bM Hs Hs'):(∀ b ∈ fp,Hs' b=none/\H' b=H b)->Od K Hs' H' fp v m:=by
 induction h with
 |s r=>exact λ _=>.s (r.same g)
 |n h hl nh ku nd r ih=>
  intro q;have qa:=q _ (Zg ..);exact .n (by rw[qa.2];exact h) hl qa.1 ku nd λ c hc=>ih c hc λ b hb=>q b (Zd _ (Yh.mpr ⟨c,hc,hb⟩))
theorem uX:∀ {ts:Ry Kd},(∀ c ∈ ts,Rp K H c.v (frz c.m))->Rps K H ((ts.map Kd.kv).map (·.2)) (DX (ts.map Kd.km))
 |[],_=>.nil
 |c::ts,h=>.cons (h c (Zg ..)) (uX λ c hc=>h c (Zd _ hc))
theorem qt:∀ {ts:Ry Kd},(∀ c ∈ ts,Rp K H c.v (frz c.m))->RpK K H (ts.map Kd.kv) (lD (ts.map Kd.km))
 |[],_=>.nil
 |c::ts,h=>.cons (h c (Zg ..)) (qt λ c hc=>h c (Zd _ hc))
theorem yZ:∀ {ts:Ry Kd} {fs:Ry (Str×V)},(ts.map Kd.kv=fs.map λ f=>(Sum.inr f.1,f.2))->(∀ c ∈ ts,Rp K H c.v (frz c.m))->RpF K H fs (Fj (ts.map Kd.km))
 |[],[],_,_=>.nil
 |[],_::_,e,_=>by cases e
 |_::_,[],e,_=>by cases e
 |c::ts,f::fs,e,h=>by
  obtain⟨e1,e2⟩:=List.cons.inj e;obtain⟨e3,e4⟩:=Prod.mk.inj e1;obtain⟨x,y⟩:=f;have hc:=h c (Zg ..);show RpF K H ((x,y)::fs) ((strOf c.k,frz c.m)::_);have e3':c.k=Sum.inr x:=e3;have e4':c.v=y:=e4;rw[e3',<- e4'];exact .cons hc (yZ e2 λ c hc=>h c (Zd _ hc))
theorem Od.rp(h:Od K Hs H fp v m)(sm:bM Hs H):Rp K H v (frz m):=by
 induction h with
 |s r=>exact r.same sm
 |@n a dx t ts u h hl nh ku nd r ih=>
  have ih':∀ c ∈ ts,Rp K H c.v (frz c.m):=λ c hc=>ih c hc
  generalize ek:ts.map Kd.kv=kvs at hl
  cases hl with
  |l=>exact .lst h (by rw[<- ek];exact uX ih')
  |d=>exact .dct h (by rw[<- ek];exact qt ih')
  |o fs=>exact .obj h (yZ ek ih')
end
noncomputable def vAt (H:Hp):V->Ry Stp->Rz V
 |v,[]=>some v
 |.ref a,.k k::p=>match H a with
  |some (.ins _ _ fs)=>(cC (fs.map λ f=>((Sum.inr f.1:Key),f.2)) k).bind λ v=>vAt H v p
  |some (.dK kvs)=>(cC kvs k).bind λ v=>vAt H v p
  |_=>none
 |.ref a,.i n::p=>match H a with
  |some (.lst xs)=>(xs[n]?).bind λ v=>vAt H v p
  |_=>none
 |_,_=>none
theorem ou {α:Type}:∀ {cs:Ry (Key×α)} {i:Nat},(cs.findIdx? λ c=>decide (c.1=k))=some i->∃ l1 x l2,cs=l1++(k,x)::l2/\l1.length=i/\∀ c ∈ l1,c.1≠k
 |[],_,e=>by simp at e
 |(k',x)::cs,i,e=>by
  rw[List.findIdx?_cons]at e
  by_cases h:k'=k
  ·simp only [h,decide_true] at e
   have e':0=i:=by simpa using e
   subst h e';exact⟨[],x,cs,rfl,rfl,λ c hc=>by cases hc⟩
  ·simp only [h,decide_false] at e
   obtain⟨j,e1,rfl⟩:=Zm (by simpa using e);obtain⟨l1,y,l2,e2,e3,e4⟩:=ou e1
   exact⟨(k',x)::l1,y,l2,by rw[e2];rfl,by rw[Z2,e3],λ c hc=>by
    rcases Zi.mp hc with rfl|hc
    · exact h
    · exact e4 c hc⟩
theorem nZ:∀ {l1 l2:Ry (Key×V)},(∀ c ∈ l1,c.1≠k)->cC (l1++(k,x)::l2) k=some x
 |[],_,_=>cu rfl
 |c::l1,l2,h=>by
  rw[Q7,cw (h c (Zg ..))];exact nZ λ c hc=>h c (Zd _ hc)
theorem Au:∀{l1 l2} {c},ts.map Kd.km=l1++c::l2->∃ t1 t t2,ts=t1++t::t2/\t1.map Kd.km=l1/\t.km=c/\t2.map Kd.km=l2:=by
 intro l1 l2 c e;obtain⟨t1,r,rfl,e1,e2⟩:=List.map_eq_append_iff.mp e;obtain⟨t,t2,rfl,e3,e4⟩:=List.map_eq_cons_iff.mp e2;exact⟨t1,t,t2,rfl,e1,e3,e4⟩
theorem wu{t}{dx a}{ts}{u}{st}{i}{c}{H}(h:H a=some u)(hl:Lay t dx (ts.map Kd.kv) u)(e1:qB t (ts.map Kd.km) st=some i)(e2:(ts.map Kd.km)[i]?=some c):∃ t1 k t2,ts=t1++k::t2/\t1.length=i/\k.km=c/\∀ p,vAt H (.ref a) (st::p)=vAt H k.v p:=by
 have key:∀{kk:Key},((ts.map Kd.km).findIdx? λ c=>decide (c.1=kk))=some i->∃ t1 k t2,ts=t1++k::t2/\t1.length=i/\k.km=c/\cC (ts.map Kd.kv) kk=some k.v:=λ{kk} e=>by
  obtain⟨l1,x,l2,h1,h2,h3⟩:=ou e;obtain⟨t1,k,t2,rfl,q1,q2,q3⟩:=Au h1;refine⟨t1,k,t2,rfl,by rw[<- h2,<- q1,Za],?_,?_⟩
  ·rw [h1,<- h2,QK (Zo _),Nat.sub_self] at e2
   rw[q2];exact Zj e2
  ·rw [Zq,Zh]
   have hk:=(Prod.mk.inj q2).1;rw[show k.kv=(kk,k.v) by rw[<- hk]]
   exact nZ λ c hc=>by
    obtain⟨y,hy,rfl⟩:=Ye.mp hc;exact h3 y.km (by rw[<- q1];exact X9 hy)
 generalize ek:ts.map Kd.kv=kvs at hl
 cases hl with
 |l kvs'=>
  cases st with
  |k k=>cases e1
  |i n=>
   have lt:n<(ts.map Kd.km).length/\n=i:=by
    have e1':(if n<(ts.map Kd.km).length then some n else none)=some i:=e1;split at e1'
    · rename_i h;exact⟨h,Zj e1'⟩
    · cases e1'
   obtain⟨lt,rfl⟩:=lt;rw[Za]at lt;have ets:ts=ts.take n++ts[n]::ts.drop (n+1):=by rw[List.getElem_cons_drop,Wj]
   refine⟨ts.take n,ts[n],ts.drop (n+1),ets,by rw[Yc];lia,?_,λ p=>?_⟩
   ·rw [QD,QA lt] at e2
    exact Zj e2
   ·show (match H a with | some (.lst xs)=>(xs[n]?).bind λ v=>vAt H v p | _=>none)=_
    rw[h];show(((kvs.map (·.2))[n]?).bind λ v=>vAt H v p)=_;rw[<- ek,QD,QD,QA lt];rfl
 |d kvs'=>
  cases st with
  |i n=>cases e1
  |k kk=>
   obtain⟨t1,k,t2,q1,q2,q3,q4⟩:=key e1;refine⟨t1,k,t2,q1,q2,q3,λ p=>?_⟩;show(match H a with|some (.ins _ _ fs)=>(cC (fs.map λ(f:Str×V)=>((Sum.inr f.1:Key),f.2)) kk).bind λ v=>vAt H v p|some (.dK kvs)=>(cC kvs kk).bind λ v=>vAt H v p|_=>none)=_;rw[h];show((cC kvs kk).bind λ v=>vAt H v p)=_;rw[<- ek,q4];rfl
 |o fs=>
  cases st with
  |i n=>cases e1
  |k kk=>
   obtain⟨t1,k,t2,q1,q2,q3,q4⟩:=key e1;refine⟨t1,k,t2,q1,q2,q3,λ p=>?_⟩;show(match H a with|some (.ins _ _ fs)=>(cC (fs.map λ(f:Str×V)=>((Sum.inr f.1:Key),f.2)) kk).bind λ v=>vAt H v p|some (.dK kvs)=>(cC kvs kk).bind λ v=>vAt H v p|_=>none)=_;rw[h];show((cC (fs.map λ f=>((Sum.inr f.1:Key),f.2)) kk).bind λ v=>vAt H v p)=_;rw[<- ek,q4];rfl
theorem Ao{α:Type}{a}{x y z:Ry α}(h:(a::(x++(y++z))).Nodup):a ∉ x/\a ∉ y/\a ∉ z/\(∀ b ∈ y,b ∉ x/\b ∉ z)/\x.Nodup/\z.Nodup/\(∀ b ∈ x,b ∉ z):=by
 rw[Z8,Yq,Yq]at h;simp only[Zl,not_or]at h;obtain⟨⟨h1,h2,h3⟩,hx,⟨hy,hz,hyz⟩,hxyz⟩:=h;refine⟨h1,h2,h3,λ b hb=>⟨λ hx'=>hxyz b hx' b (.inl hb) rfl,λ hz'=>hyz b hb b hz' rfl⟩,hx,hz,λ b hb hz'=>hxyz b hb b (.inr hz') rfl⟩
theorem oh{α:Type}{a}{x y z:Ry α}(h1:a ∉ x)(h2:a ∉ y)(h3:a ∉ z)(hy:y.Nodup)(hd:∀ b ∈ y,b ∉ x/\b ∉ z)(hx:x.Nodup)(hz:z.Nodup)(hxz:∀ b ∈ x,b ∉ z):(a::(x++(y++z))).Nodup:=by
 rw[Z8,Yq,Yq];simp only[Zl,not_or];exact⟨⟨h1,h2,h3⟩,hx,⟨hy,hz,λ b hb c hc e=>(hd b hb).2 (e ▸ hc)⟩,λ b hb c hc e=>hc.elim (λ q=>(hd c q).1 (e ▸ hb)) λ q=>hxz b hb (e ▸ q)⟩
theorem KU.swap(h:KU t (t1++k::t2))(e:k'.k=k.k):KU t (t1++k'::t2):=by
 cases t with
 |l=>exact h
 |d=>
  show((t1++k'::t2).map Kd.k).Nodup;rw[Zq,Zh,e,<- Zh,<- Zq];exact h
 |o C=>
  show((t1++k'::t2).map Kd.k).Nodup;rw[Zq,Zh,e,<- Zh,<- Zq];exact h
section
variable{K:RC}{Hs H:Hp}
theorem Od.uJ:∀ (p:Ry Stp) {fp:Ry RB} {v:V} {m m1:Mt},Od K Hs H fp v m->m.get p=some m1->∃ fp1 v1,vAt H v p=some v1/\Od K Hs H fp1 v1 m1/\(∀ b ∈ fp1,b ∈ fp)/\∀ Hs' H' fp2 m2,bM Hs Hs'->(∀ b ∈ fp,b ∉ fp1->Hs' b=none/\H' b=H b)->Od K Hs' H' fp2 v1 m2->(∀ b ∈ fp2,b ∈ fp1\/b ∉ fp)->∃ fp',Od K Hs' H' fp' v (m.put p m2)/\∀ b,b ∈ fp'↔(b ∈ fp/\b ∉ fp1)\/b ∈ fp2
 |[],fp,v,m,m1,h,e=>by
  have e':m=m1:=by
   cases m<;>exact Zj e
  subst e';have ep:∀ m2,m.put [] m2=m2:=λ m2=>by cases m<;>rfl
  exact⟨fp,v,by cases v<;>rfl,h,λ _ q=>q,λ Hs' H' fp2 m2 g k h2 j=>⟨fp2,by rw[ep];exact h2,λ b=>⟨.inr,λ q=>q.elim (λ z=>absurd z.1 z.2) id⟩⟩⟩
 |st::p,fp,v,.s d,m1,h,e=>by cases e
 |st :: p,fp,v,.n t cs,m1,h,e=>by
  obtain⟨a,dx,ts,u,rfl,rfl,rfl,ha,hl,nh,ku,nd,r⟩:=h.inv;have e':(match qB t (ts.map Kd.km) st with|none=>none|some i=>match(ts.map Kd.km)[i]? with|none=>none|some c=>Mt.get c.2 p)=some m1:=e
  cases e1:qB t (ts.map Kd.km) st with
  |none=>rw[e1]at e';cases e'
  |some i=>
   rw[e1]at e'
   cases e2:(ts.map Kd.km)[i]? with
   |none=>simp only[e2]at e';cases e'
   |some c=>
    simp only[e2]at e';obtain⟨t1,k,t2,rfl,q2,q3,q4⟩:=wu ha hl e1 e2;subst q3;obtain⟨fp1,v1,w1,w2,w3,w4⟩:=Od.uJ p (r k (Ze _ (Zg ..))) e';rw[Ym,Yg]at nd;obtain⟨n1,n2,n3,n4,n5,n6,n7⟩:=Ao nd
    have mem:∀ b,b ∈ a::(t1++k::t2).flatMap Kd.fp↔b=a\/b ∈ t1.flatMap Kd.fp\/b ∈ k.fp\/b ∈ t2.flatMap Kd.fp:=λ b=>by
     rw[Ym,Yg,Zi,Zl,Zl]
    refine⟨fp1,v1,by rw[q4];exact w1,w2,λ b hb=>(mem b).mpr (.inr (.inr (.inl (w3 b hb)))),λ Hs' H' fp2 m2 g kk h2 j=>?_⟩;have j2:∀ b ∈ fp2,b ∈ fp1\/b ∉ k.fp:=λ b hb=>(j b hb).imp id λ z q=>z ((mem b).mpr (.inr (.inr (.inl q))))
    obtain⟨fp',o',i'⟩:=w4 Hs' H' fp2 m2 g (λ b hb hn=>kk b ((mem b).mpr (.inr (.inr (.inl hb)))) hn) h2 j2;have a1:a ∉ fp1:=λ z=>n2 (w3 _ z)
    have off:∀ b,b ∈ fp'->b≠a/\b ∉ t1.flatMap Kd.fp/\b ∉ t2.flatMap Kd.fp:=λ b hb=>by
     rcases(i' b).mp hb with ⟨z1,_⟩|z
     · exact⟨λ e=>n2 (e ▸ z1),(n4 b z1).1,(n4 b z1).2⟩
     ·rcases j b z with z1 | z1
      ·have z2:=w3 b z1
       exact⟨λ e=>n2 (e ▸ z2),(n4 b z2).1,(n4 b z2).2⟩
      · exact⟨λ e=>z1 ((mem b).mpr (.inl e)),λ q=>z1 ((mem b).mpr (.inr (.inl q))),λ q=>z1 ((mem b).mpr (.inr (.inr (.inr q))))⟩
    let k':Kd:=⟨k.k,k.v,k.m.put p m2,fp'⟩
    have eput:(Mt.n t ((t1++k::t2).map Kd.km)).put (st::p) m2=.n t ((t1++k'::t2).map Kd.km):=by
     show(match qB t ((t1++k::t2).map Kd.km) st with|none=>Mt.n t ((t1++k::t2).map Kd.km)|some i=>match((t1++k::t2).map Kd.km)[i]? with|none=>Mt.n t ((t1++k::t2).map Kd.km)|some c=>.n t (((t1++k::t2).map Kd.km).set i (c.1,Mt.put c.2 p m2)))=_;simp only[e1,e2];rw[Zq,Zh,<- q2,<- Za (f:=Kd.km),List.set_append_right _ _ (Zo _),Nat.sub_self,Zq,Zh];rfl
    have hkv:(t1++k'::t2).map Kd.kv=(t1++k::t2).map Kd.kv:=by rw[Zq,Zh,Zq,Zh]
    have qa:=kk a ((mem a).mpr (.inl rfl)) a1;refine⟨a::(t1++k'::t2).flatMap Kd.fp,?_,λ b=>?_⟩
    ·rw [eput]
     refine .n (dx:=dx) (by rw[qa.2];exact ha) (by rw[hkv];exact hl) qa.1 (ku.swap rfl) ?_ λ c hc=>?_
     ·rw [Ym,Yg]
      exact oh n1 (λ z=>(off _ z).1 rfl) n3 o'.nd (λ b hb=>(off b hb).2) n5 n6 n7
     ·rcases Zl.mp hc with hc | hc
      · exact(r c (Zv _ hc)).mv g λ b hb=>kk b ((mem b).mpr (.inr (.inl (Yh.mpr ⟨c,hc,hb⟩)))) λ z=>(n4 b (w3 b z)).1 (Yh.mpr ⟨c,hc,hb⟩)
      ·rcases Zi.mp hc with rfl | hc
       · exact o'
       · exact(r c (Ze _ (Zd _ hc))).mv g λ b hb=>kk b ((mem b).mpr (.inr (.inr (.inr (Yh.mpr ⟨c,hc,hb⟩))))) λ z=>(n4 b (w3 b z)).2 (Yh.mpr ⟨c,hc,hb⟩)
    ·rw [Ym,Yg,Zi,Zl,Zl,mem b,i' b]
     constructor
     ·rintro (rfl | z | (⟨z1,z2⟩ | z) | z)
      · exact .inl ⟨.inl rfl,a1⟩
      · exact .inl ⟨.inr (.inl z),λ q=>(n4 b (w3 b q)).1 z⟩
      · exact .inl ⟨.inr (.inr (.inl z1)),z2⟩
      · exact .inr z
      · exact .inl ⟨.inr (.inr (.inr z)),λ q=>(n4 b (w3 b q)).2 z⟩
     ·rintro (⟨rfl | z | z | z,z2⟩ | z)
      · exact .inl rfl
      · exact .inr (.inl z)
      · exact .inr (.inr (.inl (.inl ⟨z,z2⟩)))
      · exact .inr (.inr (.inr z))
      · exact .inr (.inr (.inl (.inr z)))
end
inductive Sm where
 |no|shr (d:D)|mu (b:Bool) (m:Mt)
def MI:Sm->Sl
 |.no=>.no
 |.shr d=>.shr d
 |.mu _ m=>.shr (frz m)
noncomputable def er1:Sm->Sl
 |.shr d=>.shr d
 |_=>.no
abbrev b6(τ:Ry Sm):Ry Sl:=τ.map MI
abbrev er(τ:Ry Sm):Ry Sl:=τ.map er1
inductive StM (K:W.Frag) (H0 Hs H:Hp):List (Option Addr)->List (Option V)->List Sm->List Addr->Prop where
 |nil:StM K H0 Hs H [] [] [] []
 |no {p:Option Addr} {o:Option V} {ρ:List (Option Addr)} {σ:List (Option V)} {τ:List Sm} {fp:List Addr} (r:StM K H0 Hs H ρ σ τ fp):StM K H0 Hs H (p::ρ) (o::σ) (.no::τ) fp
 |shr {p:Option Addr} {v:V} {d:D} {ρ:List (Option Addr)} {σ:List (Option V)} {τ:List Sm} {fp:List Addr} (h:Rp K Hs v d) (r:StM K H0 Hs H ρ σ τ fp):StM K H0 Hs H (p::ρ) (some v::σ) (.shr d::τ) fp
 |mu {p:Option Addr} {v:V} {b:Bool} {m:Mt} {ρ:List (Option Addr)} {σ:List (Option V)} {τ:List Sm} {fq fp:List Addr} (h:Od K Hs H fq v m) (hp:b=true->∃ a,p=some a/\v=.ref a) (z:∀ c ∈ fq,H0 c=none) (j:∀ c ∈ fq,c ∉ fp) (r:StM K H0 Hs H ρ σ τ fp):StM K H0 Hs H (p::ρ) (some v::σ) (.mu b m::τ) (fq++fp)
section
variable{K:RC}{H0 Hs H Hs' H':Hp}{ρ:Ry (Rz RB)}{σ:Ry (Rz V)}{τ:Ry Sm}{fp:Ry RB}
theorem StM.mv(h:StM K H0 Hs H ρ σ τ fp)(g:bM Hs Hs'):(∀ b ∈ fp,Hs' b=none/\H' b=H b)->StM K H0 Hs' H' ρ σ τ fp:=by
 induction h with
 |nil=>exact λ _=>.nil
 |no _ ih=>exact λ q=>.no (ih q)
 |shr h _ ih=>exact λ q=>.shr (h.same g) (ih q)
 |mu h hp z j _ ih=>exact λ q=>.mu (h.mv g λ b hb=>q b (Zv _ hb)) hp z j (ih λ b hb=>q b (Ze _ hb))
theorem StM.live(h:StM K H0 Hs H ρ σ τ fp):∀ b ∈ fp,Hs b=none/\H b≠none/\H0 b=none:=by
 induction h with
 |nil=>intro b h;cases h
 |no _ ih=>exact ih
 |shr _ _ ih=>exact ih
 |mu h hp z j _ ih=>
  intro b hb;rcases Zl.mp hb with q|q
  · exact⟨(h.live b q).1,(h.live b q).2,z b q⟩
  · exact ih b q
theorem StM.ext(g:Ext Hs H Hs' H')(h:StM K H0 Hs H ρ σ τ fp):StM K H0 Hs' H' ρ σ τ fp:=h.mv g.ss λ b hb=>by
 obtain⟨h1,h2,_⟩:=h.live b hb;refine⟨g.fr b h1 h2,?_⟩
 cases q:H b with
 |none=>exact absurd q h2
 |some u=>exact g.hh _ _ q
theorem StM.len(h:StM K H0 Hs H ρ σ τ fp):σ.length=τ.length:=by
 induction h with
 |nil=>rfl
 |no _ ih=>exact Z6 (·+1) ih
 |shr _ _ ih=>exact Z6 (·+1) ih
 |mu _ _ _ _ _ ih=>exact Z6 (·+1) ih
theorem StM.b6(h:StM K H0 Hs H ρ σ τ fp)(sm:bM Hs H):StR K H H H σ (b6 τ) []:=by
 induction h with
 |nil=>exact .nil
 |no _ ih=>exact .no ih
 |shr h _ ih=>exact .shr (h.same sm) ih
 |mu h _ _ _ _ ih=>exact .shr (h.rp sm) ih
theorem StM.er(h:StM K H0 Hs H ρ σ τ fp):StR K H0 Hs H σ (er τ) []:=by
 induction h with
 |nil=>exact .nil
 |no _ ih=>exact .no ih
 |shr h _ ih=>exact .shr h ih
 |mu h _ _ _ _ ih=>exact .no ih
theorem StM.uJ(h:StM K H0 Hs H ρ σ τ fp):τ[i]?=some (.mu b m)->m.get q=some m1->∃ v fp1 v1,σ[i]?=some (some v)/\vAt H v q=some v1/\Od K Hs H fp1 v1 m1/\(∀ c ∈ fp1,c ∈ fp)/\∀ Hs' H' fp2 m2,bM Hs Hs'->(∀ c ∈ fp,c ∉ fp1->Hs' c=none/\H' c=H c)->Od K Hs' H' fp2 v1 m2->(∀ c ∈ fp2,c ∈ fp1\/(c ∉ fp/\H0 c=none))->∃ fp',StM K H0 Hs' H' ρ σ (τ.set i (.mu b (m.put q m2))) fp'/\∀ c,c ∈ fp'↔(c ∈ fp/\c ∉ fp1)\/c ∈ fp2:=by
 induction h generalizing i with
 |nil=>intro e;simp at e
 |no r ih=>
  intro e eg
  cases i with
  |zero=>simp at e
  |succ i=>
   obtain⟨v,fp1,v1,h1,h2,h3,h4,h5⟩:=ih (by simpa using e) eg
   exact⟨v,fp1,v1,by simpa using h1,h2,h3,h4,λ Hs' H' fp2 m2 g k o j=>by
    obtain⟨fp',s,mem⟩:=h5 Hs' H' fp2 m2 g k o j
    exact⟨fp',.no s,mem⟩⟩
 |shr hr r ih=>
  intro e eg
  cases i with
  |zero=>simp at e
  |succ i=>
   obtain⟨v,fp1,v1,h1,h2,h3,h4,h5⟩:=ih (i:=i) (by simpa using e) eg
   exact⟨v,fp1,v1,by simpa using h1,h2,h3,h4,λ Hs' H' fp2 m2 g k o j=>by
    obtain⟨fp',s,mem⟩:=h5 Hs' H' fp2 m2 g k o j
    exact⟨fp',.shr (hr.same g) s,mem⟩⟩
 |@mu p v b' m' ρ σ τ fq fp ho hp z j r ih=>
  intro e eg
  cases i with
  |zero=>
   have e':Sm.mu b' m'=.mu b m:=by simpa using e
   injection e' with e1 e2
   subst e1 e2;obtain⟨fp1,v1,w1,w2,w3,w4⟩:=ho.uJ q eg;refine⟨v,fp1,v1,rfl,w1,w2,λ c hc=>Zv _ (w3 c hc),λ Hs' H' fp2 m2 g k o jj=>?_⟩;obtain⟨fp',o',i'⟩:=w4 Hs' H' fp2 m2 g (λ c hc hn=>k c (Zv _ hc) hn) o λ c hc=>(jj c hc).imp id λ y q=>y.1 (Zv _ q)
   refine⟨fp'++fp,.mu o' hp (λ c hc=>?_) (λ c hc=>?_) (r.mv g λ c hc=>k c (Ze _ hc) λ y=>j c (w3 c y) hc),λ c=>?_⟩
   ·rcases (i' c).mp hc with y | y
    · exact z c y.1
    ·rcases jj c y with y | y
     · exact z c (w3 c y)
     · exact y.2
   ·rcases (i' c).mp hc with y | y
    · exact j c y.1
    ·rcases jj c y with y | y
     · exact j c (w3 c y)
     · exact λ q=>y.1 (Ze _ q)
   ·rw [Zl,Zl,i' c]
    constructor
    ·rintro ((y | y) | y)
     · exact .inl ⟨.inl y.1,y.2⟩
     · exact .inr y
     · exact .inl ⟨.inr y,λ q=>j c (w3 c q) y⟩
    ·rintro (⟨y | y,y2⟩ | y)
     · exact .inl (.inl ⟨y,y2⟩)
     · exact .inr y
     · exact .inl (.inr y)
  |succ i=>
   obtain⟨v',fp1,v1,h1,h2,h3,h4,h5⟩:=ih (i:=i) (by simpa using e) eg;refine⟨v',fp1,v1,by simpa using h1,h2,h3,λ c hc=>Ze _ (h4 c hc),λ Hs' H' fp2 m2 g k o jj=>?_⟩;obtain⟨fp',s,mem⟩:=h5 Hs' H' fp2 m2 g (λ c hc hn=>k c (Ze _ hc) hn) o λ c hc=>(jj c hc).imp id λ y=>⟨λ q=>y.1 (Ze _ q),y.2⟩
   have nf:∀ c ∈ fq,c ∉ fp1:=λ c hc q=>j c hc (h4 c q)
   refine⟨fq++fp',.mu (ho.mv g λ c hc=>k c (Zv _ hc) (nf c hc)) hp z (λ c hc q=>?_) s,λ c=>?_⟩
   ·rcases (mem c).mp q with y | y
    · exact j c hc y.1
    ·rcases jj c y with y | y
     · exact nf c hc y
     · exact y.1 (Zv _ hc)
   ·rw [Zl,Zl,mem c]
    constructor
    ·rintro (y | y | y)
     · exact .inl ⟨.inl y,nf c y⟩
     · exact .inl ⟨.inr y.1,y.2⟩
     · exact .inr y
    ·rintro (⟨y | y,y2⟩ | y)
     · exact .inl y
     · exact .inr (.inl ⟨y,y2⟩)
     · exact .inr (.inr y)
theorem StM.out(h:StM K H0 Hs H ρ σ τ fp):τ[i]?=some (.mu b m)->∃ v fq fp',σ[i]?=some (some v)/\Od K Hs H fq v m/\StM K H0 Hs H ρ σ (τ.set i .no) fp'/\(∀ c ∈ fq,c ∉ fp'/\c ∈ fp)/\(∀ c,c ∈ fp↔c ∈ fq\/c ∈ fp'):=by
 induction h generalizing i with
 |nil=>intro e;simp at e
 |no r ih=>
  intro e
  cases i with
  |zero=>simp at e
  |succ i=>
   obtain⟨v,fq,fp',h1,h2,h3,h4,h5⟩:=ih (by simpa using e);exact⟨v,fq,fp',by simpa using h1,h2,.no h3,h4,h5⟩
 |shr hr r ih=>
  intro e
  cases i with
  |zero=>simp at e
  |succ i=>
   obtain⟨v,fq,fp',h1,h2,h3,h4,h5⟩:=ih (i:=i) (by simpa using e);exact⟨v,fq,fp',by simpa using h1,h2,.shr hr h3,h4,h5⟩
 |@mu p v b' m' ρ σ τ fq fp ho hp z j r ih=>
  intro e
  cases i with
  |zero=>
   have e':Sm.mu b' m'=.mu b m:=by simpa using e
   injection e' with e1 e2
   subst e1 e2;exact⟨v,fq,fp,rfl,ho,.no r,λ c hc=>⟨j c hc,Zv _ hc⟩,λ c=>Zl⟩
  |succ i=>
   obtain⟨v',fq',fp',h1,h2,h3,h4,h5⟩:=ih (i:=i) (by simpa using e);refine⟨v',fq',fq++fp',by simpa using h1,h2,.mu ho hp z (λ c hc q=>j c hc ((h5 c).mpr (.inr q))) h3,λ c hc=>⟨λ q=>?_,Ze _ (h4 c hc).2⟩,λ c=>?_⟩
   ·rcases Zl.mp q with q | q
    · exact j c q (h4 c hc).2
    · exact(h4 c hc).1 q
   ·rw [Zl,Zl,h5 c]
    constructor
    ·rintro (y | y | y)
     · exact .inr (.inl y)
     · exact .inl y
     · exact .inr (.inr y)
    ·rintro (y | y | y)
     · exact .inr (.inl y)
     · exact .inl y
     · exact .inr (.inr y)
theorem StM.Cd(h:StM K H0 Hs H ρ σ τ fp)(hv:Rp K Hs v d):∃ fp',StM K H0 Hs H ρ (σ.set i (some v)) (τ.set i (.shr d)) fp'/\∀ c ∈ fp',c ∈ fp:=by
 induction h generalizing i with
 |nil=>exact⟨[],.nil,λ _ h=>h⟩
 |no r ih=>
  cases i with
  |zero=>exact⟨_,.shr hv r,λ _ h=>h⟩
  |succ i=>obtain⟨fp',h1,h2⟩:=ih;exact⟨fp',.no h1,h2⟩
 |shr h r ih=>
  cases i with
  |zero=>exact⟨_,.shr hv r,λ _ h=>h⟩
  |succ i=>obtain⟨fp',h1,h2⟩:=ih (i:=i);exact⟨fp',.shr h h1,h2⟩
 |mu h hp z j r ih=>
  cases i with
  |zero=>exact⟨_,.shr hv r,λ _ h=>Ze _ h⟩
  |succ i=>
   obtain⟨fp',h1,h2⟩:=ih (i:=i);exact⟨_,.mu h hp z (λ c hc q=>j c hc (h2 c q)) h1,λ c hc=>(Zl.mp hc).elim (Zv _) λ q=>Ze _ (h2 c q)⟩
theorem StM.setM(h:StM K H0 Hs H ρ σ τ fp)(hv:Od K Hs H fq v m)(z:∀ c ∈ fq,H0 c=none/\c ∉ fp)(hi:i<τ.length):∃ fp',StM K H0 Hs H ρ (σ.set i (some v)) (τ.set i (.mu false m)) fp'/\∀ c ∈ fp',c ∈ fq\/c ∈ fp:=by
 induction h generalizing i with
 |nil=>exact absurd hi (by simp)
 |no r ih=>
  cases i with
  |zero=>exact⟨_,.mu hv (λ e=>by cases e) (λ c hc=>(z c hc).1) (λ c hc=>(z c hc).2) r,λ c h=>Zl.mp h⟩
  |succ i=>obtain⟨fp',h1,h2⟩:=ih z (by simpa using hi);exact⟨fp',.no h1,h2⟩
 |shr h r ih=>
  cases i with
  |zero=>exact⟨_,.mu hv (λ e=>by cases e) (λ c hc=>(z c hc).1) (λ c hc=>(z c hc).2) r,λ c h=>Zl.mp h⟩
  |succ i=>obtain⟨fp',h1,h2⟩:=ih (i:=i) z (by simpa using hi);exact⟨fp',.shr h h1,h2⟩
 |@mu p v' b' m' ρ σ τ fq' fp h hp z' j r ih=>
  have zr:∀ c ∈ fq,H0 c=none/\c ∉ fp:=λ c hc=>⟨(z c hc).1,λ q=>(z c hc).2 (Ze _ q)⟩
  cases i with
  |zero=>exact⟨_,.mu hv (λ e=>by cases e) (λ c hc=>(z c hc).1) (λ c hc=>(zr c hc).2) r,λ c h=>(Zl.mp h).imp id λ q=>Ze _ q⟩
  |succ i=>
   obtain⟨fp',h1,h2⟩:=ih (i:=i) zr (by simpa using hi);refine⟨_,.mu h hp z' (λ c hc q=>?_) h1,λ c hc=>?_⟩
   ·rcases h2 c q with y | y
    · exact(z c y).2 (Zv _ hc)
    · exact j c hc y
   ·rcases Zl.mp hc with y | y
    · exact .inr (Zv _ y)
    · exact(h2 c y).imp id λ q=>Ze _ q
end
structure b7 (K:W.Frag) (Hs0 H0:Hp) (ρ:List (Option Addr)) (Hs H:Hp) (σ:St) (τ:List Sm):Prop where
 ext:Ext Hs0 H0 Hs H
 st:∃ fp,StM K H0 Hs H ρ σ τ fp
section
variable{K:RC}{Hs0 H0 Hs H Hs' H':Hp}{ρ:Ry (Rz RB)}{σ:St}{τ:Ry Sm}
theorem b7.ext'(r:b7 K Hs0 H0 ρ Hs H σ τ)(g:Ext Hs H Hs' H'):b7 K Hs0 H0 ρ Hs' H' σ τ:=by
 obtain⟨fp,h⟩:=r.st;refine⟨⟨r.ext.ss.trans g.ss,g.sh,r.ext.hh.trans g.hh,λ b h1 h2=>g.fr b (r.ext.fr b h1 h2) (r.ext.hh.live h2)⟩,fp,h.ext g⟩
theorem b7.grow(r:b7 K Hs0 H0 ρ Hs H σ τ)(g:bM H H'):b7 K Hs0 H0 ρ Hs H' σ τ:=r.ext' ⟨.refl _,r.ext.sh.trans g,g,λ _ h _=>h⟩
def b7.sm(r:b7 K Hs0 H0 ρ Hs H σ τ):bM Hs H:=r.ext.sh
end
def Nf(N H0:Hp):Prop:=∀ d o u,N d=some (.frz o u)->H0 d≠none
inductive En where
 |next (τ:List Sm)|ret (s:Sm) (τ:List Sm)|brk (τ:List Sm)|cnt (τ:List Sm)
abbrev DSm:=Ry Sm->Rz En
abbrev DEm:=Ry Sm->Rz (Sm×Ry Sm)
abbrev DTm:=Ry Sm->Rz (Bool×Ry Sm)
abbrev DPx:=Ry Sm->Rz (Nat×Ry Stp)
noncomputable def Mj (K:RC) (Hs0 H0:Hp) (ρ:Ry (Rz RB)) (E:Ends):En->Prop
 |.next τ=>∀ σ Hs H,b7 K Hs0 H0 ρ Hs H σ τ->E.nx σ H
 |.brk τ=>∀ σ Hs H,b7 K Hs0 H0 ρ Hs H σ τ->E.bk σ H
 |.cnt τ=>∀ σ Hs H,b7 K Hs0 H0 ρ Hs H σ τ->E.ct σ H
 |.ret s τ=>∀ v σ Hs H,b7 K Hs0 H0 (none::ρ) Hs H (some v::σ) (s::τ)->E.rt v H
def MO(N:Hp)(K:RC)(f:DSm):TS:=λ E σ H=>∃(Hs0 H0:Hp),∃(_:Nf N H0),∃ ρ Hs τ o,b7 K Hs0 H0 ρ Hs H σ τ/\f τ=some o/\Mj K Hs0 H0 ρ E o
def OP(N:Hp)(K:RC)(f:DEm):TE:=λ σ H Q=>∃(Hs0 H0:Hp),∃(_:Nf N H0),∃ ρ Hs τ s τ',b7 K Hs0 H0 ρ Hs H σ τ/\f τ=some (s,τ')/\∀ v Hs' H',b7 K Hs0 H0 (none::ρ) Hs' H' (some v::σ) (s::τ')->Q v H'
def PJ(N:Hp)(K:RC)(f:DTm):TT:=λ σ H Q=>∃(Hs0 H0:Hp),∃(_:Nf N H0),∃ ρ Hs τ b τ',b7 K Hs0 H0 ρ Hs H σ τ/\f τ=some (b,τ')/\∀ Hs' H',b7 K Hs0 H0 ρ Hs' H' σ τ'->Q b H'
def PSm(X:Cx)(s:Stmt)(f:DSm):Prop:=PS X s (MO X.H₀ X.K f)
def uH(X:Cx)(s:Ry Stmt)(f:DSm):Prop:=PSs X s (MO X.H₀ X.K f)
def PEm(X:Cx)(e:Expr)(f:DEm):Prop:=PE X e (OP X.H₀ X.K f)
def PTm(X:Cx)(e:Expr)(f:DTm):Prop:=PT X e (PJ X.H₀ X.K f)
def a6(τ:Ry Sm)(i:Nat)(q:Ry Stp):Rz Mt:=match τ[i]? with
 |some (.mu _ m)=>m.get q
 |_=>none
def cX(τ:Ry Sm)(i:Nat)(q:Ry Stp)(m2:Mt):Ry Sm:=match τ[i]? with
 |some (.mu b m)=>τ.set i (.mu b (m.put q m2))
 |_=>τ
noncomputable def rdX(N:Hp)(K:RC)(f:DPx):TE:=λ σ H Q=>∃(Hs0 H0:Hp),∃(_:Nf N H0),∃ ρ Hs τ i q m,b7 K Hs0 H0 ρ Hs H σ τ/\f τ=some (i,q)/\a6 τ i q=some m/\∀ v v1 H',bM H H'->σ[i]?=some (some v)->vAt H' v q=some v1->Q v1 H'
def PXm(X:Cx)(e:Expr)(f:DPx):Prop:=PE X e (rdX X.H₀ X.K f)
section
variable{X:Cx}{a e i o:Expr}{pos:Pos}{f g:DE}
def KDv(P:Program)(w:World)(K:RC)(a:RB)(kvs:Ry (Key×V)):Prop:=
 ∃(o:Obj) (es:Array DictEntry) (ep:Nat) (vs:Ry (Key×RA)),K.lookup a=some o/\o.ExactDict/\o.data=.dict es ep/\KeysOf (aV P w) es/\Pairs (aV P w) es.toList vs/\(vs.map (·.1)).Nodup/\KV kvs vs
structure KD (w:World) (K:W.Frag) (a:Addr) (ds:List (Key×D)):Prop where
 is:∀(P:Program) (H:Hp),∃ kvs,KDv P w K a kvs/\RpK K H kvs ds
end
inductive KEs (w:World) (K:W.Frag):List DictEntry->List (Str×D)->Prop
 |nil:KEs w K [] []
 |cons {h:Int} {x:Str} {t:Tok} {u:Value} {v:V} {d:D} {es ds} (hh:h=PyData.keyHash w.params x) (rv:RelV v u) (r:∀ H,Rp K H v d) (k:KEs w K es ds):KEs w K (⟨h,.str x t,u⟩::es) ((x,d)::ds)
theorem KEs.out{w}{K}{es}{ds}(k:KEs w K es ds) P H:∃(vs:Ry (Key×RA)) (kvs:Ry (Key×V)),
  (∀ e ∈ es,∃ k,(aV P w).is k e.key=true/\e.hash=(aV P w).hash k)/\Pairs (aV P w) es vs/\vs.map (·.1)=ds.map (λ p=>(Sum.inr p.1:Key))/\KV kvs vs/\RpK K H kvs (ds.map λ p=>((Sum.inr p.1:Key),p.2)):=by
 induction k with
 |nil=>exact⟨[],[],(λ e h=>nomatch h),.nil,rfl,Paired.nil,.nil⟩
 |@cons h x t u v d es ds hh rv r k ih=>
  obtain⟨vs,kvs,i1,i2,i3,i4,i5⟩:=ih;refine⟨(.inr x,u)::vs,(.inr x,v)::kvs,λ e he=>?_,.cons (iR P w x t) rfl i2,?_,Paired.cons ⟨rfl,rv⟩ i4,.cons (r H) i5⟩
  ·rcases Zi.mp he with rfl | he
   · exact⟨.inr x,iR P w x t,hh⟩
   · exact i1 e he
  · rw[Zh,Zh,i3]
theorem NP{w}{K}{a}{es}{ep}{ds}(hl:K.lookup a=some ⟨.type "dict",none,.dict es.toArray ep,#[]⟩)(hn:(ds.map λ p=>(Sum.inr p.1:Key)).Nodup)(k:KEs w K es ds):KD w K a (ds.map λ p=>((Sum.inr p.1:Key),p.2)):=⟨λ P H=>by
 obtain⟨vs,kvs,i1,i2,i3,i4,i5⟩:=k.out P H
 exact⟨kvs,⟨_,_,ep,vs,hl,⟨rfl,rfl,rfl⟩,rfl,λ e he=>i1 e (by simpa using he),by simpa using i2,by rw[i3];exact hn,i4⟩,i5⟩⟩
section
variable{X:Cx}{Qv:Ry (RB×Obj)}{σ:St}{H:Hp}{s:RD}{h':Heap}
theorem Inv.yz {t':Nat} {wr:Ry RB} {T:RB} {xs:Ry V} (I:Inv X Qv σ H s) (hw:∀ b ∈ wr,sZ X Qv H b) (k:∀ b o,b ∉ wr->s.heap.get? b=some o->h'.get? b=some o)
  (hT:s.heap.objs.size<=T) (new:dZ X.prog X.w (upd H T (.tup xs)) h' T (.tup xs)):Inv X Qv σ (upd H T (.tup xs)) { s with heap:=h',toks:=t' }:=by
 have hn:=I.hok.fresh hT;have neT:∀ b u,H b=some u->b≠T:=λ b u e z=>by rw[z,hn]at e;cases e
 have neS:∀ b o,s.heap.get? b=some o->b≠T:=λ b o e z=>by
  have:=Zr e;rw[z]at this;exact absurd (Zt this hT) (Y3 _)
 have nw:∀ b u,H b=some u->b ∉ wr:=λ b u e z=>by rw[(hw b z).1]at e;cases e
 refine I.step (λ b hb=>?_) (λ b o _ _ hc e _=>k b o hc e) (λ b o _ _ hc e _=>⟨o.slots,k b o hc e⟩) (λ b o _ e n=>by rw [ar (neS b o e)]; exact n)
  (λ b o hc e=>⟨o,k b o hc e⟩) (λ b ys e=>by rw[ar (neT b _ e)];exact e) (λ b o u e=>by rw[ar (neT b _ e)];exact e) (λ b ps e=>⟨#[],by rw[ar (neT b _ e),e];simp⟩) (λ m hm=>?_) (λ b u e=>?_) I.bare
 ·obtain ⟨f0,f1,f2,f3,f4,f5⟩:=hw b hb
  exact⟨f3,f1,f4,f5⟩
 ·obtain ⟨o,es,ep,ho,r⟩:=hm
  exact⟨o,es,ep,k _ o (λ z=>(hw _ z).2.1 rfl) ho,r⟩
 ·by_cases hb:b=T
  ·subst hb
   rw[ay]at e;cases e;exact new
  ·rw [ar hb] at e
   refine(I.hok b u e).qj (λ c v hc q=>k c v ?_ q) (λ c q=>by rw[ar (neT c _ q)];exact q) λ c ys q=>by rw[ar (neT c _ q)];exact q
   rcases hc with z|z
   · rw[z];exact nw b u e
   · exact nw c _ z
end
def HS(i:Nat)(f:DE):DE:=λ τ=>match τ[i]? with
 |some (.own d0)=>(f (τ.set i (.shr d0))).bind λ d=>match d with
  |.lst ds=>if cA ds=true then some (.lst ds) else none
  |_=>none
 |_=>f τ
theorem Io{K:RC}{i:Nat}{f:DE}{σ:St}{H:Hp}{Q:VK}(h:rdO K (HS i f) σ H Q):rdO K f σ H Q:=by
 obtain⟨H0,Hs,τ,fp,d,st,sm,e,k⟩:=h;unfold HS at e;split at e
 ·rename_i d0 q
  obtain⟨d1,e1,e2⟩:=Ub e
  cases d1 with
  |lst ds=>
   simp only at e2
   by_cases hf:cA ds=true
   ·rw [if_pos hf] at e2
    have e':=Zj e2;subst e';obtain⟨a,o,fp',h1,h2,h3,h4,h5,h6,h7,h8⟩:=st.frz q;refine⟨H0,upd Hs a o,_,fp',_,h4,sm.frz h1,e1,λ p Hs' H' g r z=>?_⟩;refine k p (jQ a Hs') H' (g.FN h2 h1) ?_ z
    cases r with
    |@lst xs _ hH hn hr=>
     refine .lst hH ?_ (hr.hide (g.ss _ _ ay) (h8.obj h1) hf)
     unfold jQ;split
     · rfl
     · exact hn
   · rw[if_neg hf]at e2;cases e2
  |_=>simp at e2
 · exact⟨H0,Hs,τ,fp,d,st,sm,e,k⟩
structure Bx (p:Prop):Prop where
 out:p
def B2:bootBuiltins "enumerate"=some (.type "enumerate"):=by rfl
def lq(ds:Ry D):Ry D:=ds.mapIdx λ i d=>D.tup [.int (i:Int),d]
section
variable{X:Cx}{a b e o:Expr}{es:Ry Expr}{pos Qw Qx:Pos}{f g:DE}
theorem JB:SlR X (λ x lo hi H Q=>∃ z,x=.str z/\z.length<=sizeLine/\Q (.str (Txt.slice z lo hi)) H):=by
 intro Qv s σ H x v vl vu lo hi sl Q I rx hs pl pu h;obtain⟨z,rfl,hz,q⟩:=h;obtain⟨t,rfl⟩:=rx;have fin:∀ t' k,EP X Qv σ Q (.str (Txt.slice z lo hi) t') { s with toks:=k }:=λ t' k=>⟨.str _,H,I.tok k,⟨_,rfl⟩,q⟩
 refine⟨"str",_,PySem.F.slot_str_getitem.lookup,typeIs_str s z t,?_⟩
 cases pl with
 |none=>cases pu with
  |none=>exact Wa (l:=none) (u:=none) (st:=none) hs rfl (post_val_or_str ⟨Zu (QW z _ _) hz,fin⟩)
  |int j t2=>exact Wa (l:=none) (u:=some (j,t2)) (st:=none) hs rfl (post_val_or_str ⟨Zu (QW z _ _) hz,fin⟩)
 |int i t1=>cases pu with
  |none=>exact Wa (l:=some (i,t1)) (u:=none) (st:=none) hs rfl (post_val_or_str ⟨Zu (QW z _ _) hz,fin⟩)
  |int j t2=>exact Wa (l:=some (i,t1)) (u:=some (j,t2)) (st:=none) hs rfl (post_val_or_str ⟨Zu (QW z _ _) hz,fin⟩)
def OW:D->Rz Int->Rz Int->Rz D
 |.str z,l,u=>if z.length<=100000 then some (.str (Txt.slice z l u)) else none
 |_,_,_=>none
def Oc(f:DE)(l u:DO):DE:=λ τ=>(f τ).bind λ x=>(l τ).bind λ l'=>(u τ).bind λ u'=>OW x l' u'
end
end L2
end
section
namespace HT
open PySem PyProof.Rows
theorem u6 A s a t c u prog w E Q (h:Q (.bool (decide (c<a))) s):wpAny (model prog w) A (richCompare .Gt (.int a t) (.int c u)) Q E s:=
 (PyProof.Rows.gt_int h:wpAny (model prog w) A (compareOp .Gt (.int a t) (.int c u)) Q E s)
section
open PySem.SeqAt
open PySem.AutoSeq1 (wpAny_loadPart')
open PySem.MeetsSeq PySem.MeetsSeq2 PySem.MeetsSeq3
noncomputable def gtR:Ry (Int×Int)->Bool
 |[]=>false
 |(x,y)::r=>if x=y then gtR r else decide (y<x)
inductive sR:List (Value×Value)->List (Int×Int)->Prop where
 |nil:sR [] []
 |cons (a c:Int) (t u:Tok) {vs:List (Value×Value)} {ns:List (Int×Int)} (h:sR vs ns):sR ((.int a t,.int c u)::vs) ((a,c)::ns)
theorem nv l b items items2 n n2 dd dd2 sl sl2 ns (hz:items.size=items2.size) (hi:sR (items.toList.zip items2.toList) ns):Meets (Builtin.«tuple.__gt__» ⟨[.ref l,.ref b],[]⟩)
   (λ _ R s=>s.heap.get? l=some { cls:=.type "tuple",dict:=dd,data:=.seq items n,slots:=sl }/\s.heap.get? b=some { cls:=.type "tuple",dict:=dd2,data:=.seq items2 n2,slots:=sl2 }/\R (.ok (.ret (.bool (gtR ns)))) s):=
 .of_wp λ prog w A R s h=>by
  obtain⟨hp,g,d,tk,os⟩:=s;obtain⟨hl,hb,h⟩:=h
  have f2:=QR
  wp_walk using Yr hl,Yr hb,wpAny_forIn_list _ (λ rest b s'=>b.1=none/\s'=⟨hp,g,d,tk,os⟩/\∃ ns',sR rest ns'/\R (.ok (.ret (.bool (gtR ns')))) ⟨hp,g,d,tk,os⟩) _
  case turn=>
   rintro⟨y,x⟩ rest b s' ⟨hb',rfl,ns',hv,hR⟩
   cases hv with
   |cons a c t u hv'=>
     rw[gtR]at hR;obtain⟨e,he,hiff⟩:=v7 A.in1 ⟨hp,g,d,tk,os⟩ a t c u;refine Zc (he prog w _ _ ?_)
     cases e with
     |true=>
      rw[if_pos (hiff.mp rfl)]at hR
      wp_walk
      exact⟨rfl,rfl,_,hv',hR⟩
     |false=>
      rw[if_neg (λ q=>absurd (hiff.mpr q) Zf)]at hR;have hri:=u6 A.in1 ⟨hp,g,d,tk,os⟩ a t c u prog w
      wp_walk using hri
      exact⟨_,rfl,by simpa using hR⟩
  case fin=>
   rintro⟨b1,b2⟩ s' ⟨hb',rfl,ns',hv,hR⟩
   subst hb';cases hv
   wp_walk
   exact⟨_,rfl,by simpa [Builtin.Tuple.tupleCompareSizes,gtR,hz] using hR⟩
  case h=>
   exact⟨rfl,rfl,ns,hi,h⟩
end
section
variable{prog:Program}{w:World}{A:Around}{I S:RB}{kw:Ry (Str×RA)}{fp:Ry RB}{n:Nat}{Pv:Nat->RA->Prop}{St:Nat->Heap->Prop}
def mW(I S:RB)(h h':Heap):Prop:=∀ b o,b≠I->b≠S->h.get? b=some o->h'.get? b=some o
def mW.trans(a:mW I S h1 h2)(b:mW I S h2 h3):mW I S h1 h3:=λ c o n1 n2 e=>b c o n1 n2 (a c o n1 n2 e)
theorem jJ(k:∀ b o,b ∉ [I]->h.get? b=some o->h'.get? b=some o):mW I S h h':=λ b o n1 _ e=>k b o (by simpa using n1) e
def gs f:mW I S h (h.update S f):=λ b o _ n e=>(QI _ _ (QH n)).trans e
structure Ox (prog:Program) (w:World) (A:Around) (I S:Addr) (Pv:Nat->Value->Prop) (Good:Heap->Prop) (bt:Nat->Nat->Bool):Prop where
 qj:∀ h h',Good h->mW I S h h'->Good h'
 cmp:∀ i j vi vj (s:Shared) (Q:Value->Shared->Prop) (E:Value->Shared->Prop),Pv i vi->Pv j vj->Good s.heap->Q (.bool (bt i j)) s->wpAny (model prog w) A.in1 (richCompare .Gt vi vj) Q E s
theorem md:(toString "max"++toString ".loop":String)="max.loop":=by decide
theorem Ha{R}{Good}{bt}(M:Ox prog w A I S Pv Good bt)(W:Walks prog w A.in1 I fp [I] n Pv St)(n2:S≠I)(n3:S ∉ fp):∀ k j s vb c,n=j+1+k->St (j+1) s.heap->Good s.heap->Pv (argBest bt j) vb->s.heap.get? S=some { cls:=.type "list",dict:=none,data:=.seq #[vb,vb] c,slots:=#[] }->(∀ v h' tk,Pv (argBest bt (n - 1)) v->mW I S s.heap h'->R (.ok (.ret v)) { s with heap:=h',toks:=tk })->codeAny (model prog w) A (.builtin "max.loop" ⟨[.ref I,.none,.ref S],kw⟩) R s:=by
  have nw:S ∉ [I]:=by simpa using n2
  intro k
  induction k with
  |zero=>
    intro j s vb c hk hi hg hb hS fin;refine codeAny_builtin F.entry_max_loop ?_
    rw[Rg Xe _];refine Zc (wpAny_seqItems hS rfl ?_);refine Zc (wpAny_tryCatch (W.done s _ _ (by rw[hk];exact hi) λ h' tk keep=>?_));have hS':=keep S _ nw hS;refine Zc (wpAny_updateSeq hS' rfl (Zc (wpAny_letGo (Zw ?_))));exact fin vb _ tk (by rw[hk];exact hb) ((jJ keep).trans (gs _))
  |succ k ih=>
    intro j s vb c hk hi hg hb hS fin;refine codeAny_builtin F.entry_max_loop ?_
    rw[Rg Xe _];show wpAny _ A.in1 (seqItems? (.ref S) >>= _) _ _ s;refine Zc (wpAny_seqItems hS rfl ?_);show wpAny _ A.in1 (tryCatch (pyNext (.ref I)) _ >>= _) _ _ s;refine Zc (wpAny_tryCatch (W.item (j+1) s _ _ (by lia) hi λ v h' tk hv hi' keep=>?_));have hS':=keep S _ nw hS;have st:mW I S s.heap h':=jJ keep;have hg':=M.qj _ _ hg st;show wpAny _ A.in1 (tryCatch (holding [v,v] (richCompare .Gt v vb >>= _)) _ >>= _) _ _ _;refine Zc (wpAny_tryCatch (Xg (Zc (M.cmp (j+1) (argBest bt j) v vb _ _ _ hv hb hg' ?_))));refine Zc (Xg (Yp (Zc (wpAny_letGo (Zw ?_)))))
    cases e:bt (j+1) (argBest bt j) with
    |true=>
      refine Zc (wpAny_updateSeq hS' rfl (Zc (wpAny_letGo ?_)));rw[md];have f:=W.frame (j+2) h' (h'.update S (Obj.mapSeq λ _=>#[v,v])) hi' λ b hbf o eb=>(QI _ _ (λ q:S=b=>n3 (q ▸ hbf))).trans eb
      refine Zw ⟨plainId_quiet Xe _,ih (j+1) _ v _ (by lia) f (M.qj _ _ hg' (gs _)) (by simp only[argBest,e,if_true];exact hv) (QN _ hS' rfl) λ v' h2 t2 hv' st2=>?_⟩;exact fin v' h2 t2 hv' (st.trans ((gs _).trans st2))
    |false=>
      refine Zc (wpAny_letGo ?_);rw[md];refine Zw ⟨plainId_quiet Xe _,ih (j+1) _ vb c (by lia) hi' hg' (by simp only[argBest,e,Y6,if_false];exact hb) hS' λ v' h2 t2 hv' st2=>?_⟩;exact fin v' h2 t2 hv' (st.trans st2)
theorem qV {R} {Good} {bt} (M:Ox prog w A I S Pv Good bt) (W:Walks prog w A.in1 I fp [I] n Pv St) (n2:S≠I) (n3:S ∉ fp) {s} {c} (hi:St 0 s.heap) (hg:Good s.heap)
  (hS:s.heap.get? S=some { cls:=.type "list",dict:=none,data:=.seq #[] c,slots:=#[] }) (z:0<n)
  (fin:∀ v h' tk,Pv (argBest bt (n - 1)) v->mW I S s.heap h'->R (.ok (.ret v)) { s with heap:=h',toks:=tk }):codeAny (model prog w) A (.builtin "max.loop" ⟨[.ref I,.none,.ref S],kw⟩) R s:=by
 have nw:S ∉ [I]:=by simpa using n2
 refine codeAny_builtin F.entry_max_loop ?_
 rw[Rg Xe _];refine Zc (wpAny_seqItems hS rfl ?_);refine Zc (wpAny_tryCatch (W.item 0 s _ _ (by omega) hi λ v h' tk hv hi' keep=>?_));have hS':=keep S _ nw hS;have st:mW I S s.heap h':=jJ keep;show wpAny _ A.in1 (updateSeq S (λ _=>#[v,v]) >>= _) _ _ _;refine Zc (wpAny_updateSeq hS' rfl ?_);rw[md];have f:=W.frame 1 h' (h'.update S (Obj.mapSeq λ _=>#[v,v])) hi' λ b hbf o eb=>(QI _ _ (λ q:S=b=>n3 (q ▸ hbf))).trans eb
 refine Zw ⟨plainId_quiet Xe _,Ha M W n2 n3 (n - 1) 0 _ v _ (by lia) f (M.qj _ _ (M.qj _ _ hg st) (gs _)) hv (QN _ hS' rfl) λ v' h2 t2 hv' st2=>?_⟩;exact fin v' h2 t2 hv' (st.trans ((gs _).trans st2))
end
def gtP(p q:Int×Int):Bool:=gtR [(p.1,q.1),(p.2,q.2)]
def btP(ps:Ry (Int×Int))(i j:Nat):Bool:=gtP (ps.getD i (0,0)) (ps.getD j (0,0))
def B9(ps:Ry (Int×Int))(items:Array RA)(B:Nat)(h:Heap):Prop:=∀(i:Nat) (v:RA),items[i]?=some v->∃(a:RB) (t1 t2:Tok) (p:Int×Int),v=Value.ref a/\a<B/\ps[i]?=some p/\IsTup h a #[.int p.1 t1,.int p.2 t2]
section
variable{prog:Program}{w:World}{A:Around}{E:RA->RD->Prop}{s:RD}
theorem vM(h1:IsTup s.heap a #[.int p.1 t1,.int p.2 t2])(h2:IsTup s.heap b #[.int q.1 t3,.int q.2 t4])(hu:A.units<cLine)(h:Q (.bool (gtP p q)) s):wpAny (model prog w) A (richCompare .Gt (.ref a) (.ref b)) Q E s:=by
 obtain⟨⟨cls,dd,data,sl⟩,ho,hc,n,hd⟩:=id h1;obtain⟨⟨cls2,dd2,data2,sl2⟩,ho2,hc2,n2,hd2⟩:=id h2;subst hc hd hc2 hd2
 exact richCompare_meets_room ⟨_,ho,rfl⟩ ⟨_,ho2,rfl⟩ Q5 PySem.F.entry_tuple_gt (PySem.F.args_tuple_gt_2 _ _) (nv a b #[.int p.1 t1,.int p.2 t2] #[.int q.1 t3,.int q.2 t4] n n2 dd dd2 sl sl2 [(p.1,q.1),(p.2,q.2)] rfl (.cons _ _ _ _ (.cons _ _ _ _ .nil)))
  ⟨ho,ho2,show Value.bool (gtP p q)≠Value.notImplemented/\Q (.bool (gtP p q)) s from⟨(λ x=>nomatch x),h⟩⟩ hu
end
end HT
end
section
namespace L2
open PySem PySem.Spec PyProof.Rows
def prD:D->Rz (Int×Int)
 |.tup [.int a,.int b]=>some (a,b)
 |_=>none
def MU:Ry D->Rz (Ry (Int×Int))
 |[]=>some []
 |d::r=>(prD d).bind λ p=>(MU r).map (p::·)
theorem zk{d}{p}(e:prD d=some p):d=.tup [.int p.1,.int p.2]:=by
 unfold prD at e;split at e
 · cases e;rfl
 · cases e
theorem C0{ds:Ry D}:∀{ps:Ry (Int×Int)},MU ds=some ps->∀{i:Nat} {d:D},ds[i]?=some d->∃ p,ps[i]?=some p/\d=.tup [.int p.1,.int p.2]:=by
 induction ds with
 |nil=>intro ps h i d e;simp at e
 |cons x r ih=>
  intro ps h i d e;obtain⟨p,e0,e1⟩:=Ub h;obtain⟨qs,e2,rfl⟩:=Zm e1
  cases i with
  |zero=>cases e;exact⟨p,rfl,zk e0⟩
  |succ i=>exact ih e2 e
theorem bQ.ints2(r:bQ [.int a,.int b] us):∃ t1 t2,us=[.int a t1,.int b t2]:=by
 cases r with
 |cons h r=>
  cases r with
  |cons h' r'=>
   cases r';obtain⟨t1,rfl⟩:=h;obtain⟨t2,rfl⟩:=h';exact⟨t1,t2,rfl⟩
def Og(f g:DE):DE:=λ τ=>(f τ).bind λ x=>(g τ).bind λ y=>match x,y with
 |.lst a,.lst b=>if a.length+b.length<=100000 then some (.lst (a++b)) else none
 |_,_=>none
section
variable{X:Cx}{Qv:Ry (RB×Obj)}{σ:St}{H:Hp}
def xt:Ry D->Rz D
 |[.dct kvs]=>some (.int kvs.length)
 |_=>none
theorem wy:gf X (.builtin "len") (rdL X.K xt):=by
 intro Qv s σ H xs us Q I rr h;obtain⟨Hs,ds,d,sm,r,e,k⟩:=h
 cases r with
 |nil=>simp[xt]at e
 |@cons _ x _ _ hx r0=>
 cases r0 with
 |@cons _ _ _ _ _ _=>simp[xt]at e
 |nil=>
  obtain⟨u,rfl,ru⟩:=vals1 rr
  cases hx with
  |@dct a kvs ds hH rk=>
   have e':=Zj e;subst e';cases(ru);exact Ob I (.inl (sm _ _ hH)) λ t s' I'=>⟨.int kvs.length,H,I',⟨t,rfl⟩,by rw[rk.length];exact k _ Hs H (.refl sm) (.int _)⟩
  |_=>exact nn e
end
def chD(z:Str):Ry D:=z.cps.toList.map λ c=>D.str ⟨#[c]⟩
def Hx(f:DE):DI:=λ τ=>(f τ).bind λ d=>match d with|.str z=>some (chD z)|_=>none
theorem Hu{K:RC}{z:Str}{Hs:Hp}:ItR K (Its z) Hs (chD z):=λ Hs1 H g1 g2=>by
 refine⟨λ i d e=>?_,λ i hi=>?_⟩
 ·unfold chD at e
  rw[QD]at e
  cases q:z.cps.toList[i]? with
  |none=>rw[q]at e;cases e
  |some c=>
   rw[q]at e;have ed:=Zj e;subst ed
   have hi:i<z.cps.size:=by
    have:=(QB.mp q).1
    simpa using this
   have q':z.cps[i]?=some c:=by rw[<- Q6];exact q
   refine⟨hi,?_⟩
   rintro x H' ⟨rfl,c',hc,rfl⟩
   rw[q']at hc;cases hc;exact⟨Hs1,.refl g2,.str _⟩
 ·show z.cps.size<=i
  unfold chD at hi;rw[Za]at hi
  simpa using hi
section
variable{X:Cx}{tg l:Expr}{f g:DE}
def Nn:D->D->Rz D
 |.str i,.str j=>some (.bl (!decide (j.cps.toList<i.cps.toList)))
 |_,_=>none
theorem Kk:OpR X (compareOp .LtE) (rdR X.K Nn):=zM.imp λ x y H Q w0=>g45 w0 λ Hs dx dy d sm rx ry e k=>by
 unfold Nn at e;split at e
 ·cases rx
  cases ry;have e':=Zj e;subst e';exact⟨_,_,rfl,rfl,k _ Hs H (.refl sm) (.bl _)⟩
 · cases e
def Ip:Ry D->Rz (Ry Bool)
 |[]=>some []
 |.bl b::ds=>(Ip ds).map (b::·)
 |_::_=>none
theorem jz:∀ {ds:Ry D} {bs:Ry Bool},Ip ds=some bs->ds=bs.map .bl
 |[],_,e=>by cases e;rfl
 |.bl b::ds,_,e=>by
  obtain⟨bs,e1,rfl⟩:=Zm (show(Ip ds).map _=_ from e);rw[jz e1];rfl
theorem Rps.Fy {K:RC} {H:Hp}:∀ {bs:Ry Bool} {xs:Ry V},Rps K H xs (bs.map D.bl)->xs=bs.map V.bl
 |[],_,.nil=>rfl
 |b::bs,_,.cons h r=>by
  cases h;rw[Rps.Fy r];rfl
def P0:Ry D->Rz D
 |[.lst ds]=>(Ip ds).map λ bs=>.bl (bs.all id)
 |_=>none
theorem Oi(hc:X.calm=true):gf X (.builtin "all") (rdL X.K P0):=(Ef hc).imp λ xs H Q w0=>g34 w0 λ Hs ds d sm r e k=>by
 cases r with
 |nil=>exact nn e
 |@cons _ x _ _ hx r0=>
 cases r0 with
 |@cons _ y _ _ _ _=>cases x<;>exact nn e
 |nil=>
  cases hx with
  |@lst a ys ds h r=>
   obtain⟨bs,e1,e2⟩:=Zm (e);have ed:=jz e1;subst ed;have ey:=r.Fy;subst ey;subst e2;exact⟨a,bs,rfl,SqL.of (sm _ _ h),k _ Hs H (.refl sm) (.bl _)⟩
  |_=>exact nn e
end
def cp.Je(r:cp k A):A.units+100<cLine:=by have:=r.un;lia
section
variable{X:Cx}{tg l a b c e i o:Expr}{pos:Pos}{f g h:DE}
open Classical in
theorem Kg(hu:X.A.units+100<cLine):OpR X (compareOp .In) (λ x y H Q=>∃ p xs ds d,y=.ref p/\SqT X.K H p xs/\ym X.K H xs ds/\RdD X.K H x d/\(∀ z ∈ ds,PySem.W.kqdOk 9 z=true)/\PySem.W.kqdOk 9 d=true/\Q (.bl (ds.any λ z=>eqD z d)) H):=by
 intro Qv s σ H x y v u Q I rx ry h;obtain⟨p,xs,ds,d,rfl,hq,rs,rd,ks,kd,q⟩:=h;cases ry;obtain⟨its,r,pl,hz⟩:=I.tuple hq;obtain⟨as,ra⟩:=rd.reads I rx;have hu1:X.A.in1.units+64<cLine:=by show X.A.units+1+64<cLine;lia
 let e:RA->Bool:=λ w=>decide (∃ z cs,PySem.W.kqdOk 9 z=true/\Reads s.heap w (PySem.W.kqdP z) cs/\eqD z d=true)
 have one:∀{w:RA} {z:PySem.W.Dat} {cs:Ry RB},PySem.W.kqdOk 9 z=true->Reads s.heap w (PySem.W.kqdP z) cs->e w=eqD z d:=λ{w z cs} kz rz=>by
  by_cases hb:eqD z d=true
  ·rw [hb]
   exact Zk ⟨z,cs,kz,rz,hb⟩
  ·rw [Bool.not_eq_true] at hb
   rw[hb];refine Zp λ w90=>?_
   obtain⟨z',cs',kz',rz',hb'⟩:=w90;have un:=SeqAt.Reads.unique _ _ w cs cs' (QX (cG kz)) rz rz';have e1:=mK kz kd;have e2:=mK kz' kd;rw[un]at e1;rw[e1]at e2;have:eqD z d=eqD z' d:=e2;rw[hb,hb']at this;cases this
 have all:∀{vs:Ry V} {zs:Ry PySem.W.Dat} {us:Ry RA},ym X.K H vs zs->bQ vs us->(∀ z ∈ zs,PySem.W.kqdOk 9 z=true)->(∀ w ∈ us,SeqAt.EqAt X.A.in1 s w v (e w))/\us.any e=zs.any λ z=>eqD z d:=λ{vs zs us} h1=>by
  induction vs generalizing zs us with
  |nil=>
   intro h2 _;cases h1;cases h2;exact⟨(λ w hw=>nomatch hw),rfl⟩
  |cons v0 vs ih=>
   intro h2 h3
   cases h1 with
   |@cons _ z0 _ zs0 hz0 rz0=>
    cases h2 with
    |@cons _ u0 _ us0 hu0 ru0=>
     obtain⟨cs,rc⟩:=hz0.reads I hu0;have k0:=h3 z0 (Zg ..);have ee:=one k0 rc;obtain⟨i1,i2⟩:=ih rz0 ru0 (λ z hz=>h3 z (Zd _ hz));refine⟨λ w hw=>?_,?_⟩
     ·rcases Zi.mp hw with rfl | hw
      ·rw [ee]
       have q1:=SeqAt.eqAt_reads _ _ X.A.in1 s w v cs as rc ra (QX (cG k0)) (QX (cG kd)) (SeqAt.room_of_shaped (cG k0) hu1);rw[mK k0 kd]at q1;exact q1
      · exact i1 w hw
     · rw[Yz,Yz,ee,i2]
 obtain⟨a1,a2⟩:=all rs r ks;refine SeqAt.in_tupleAt e pl (λ w hw=>a1 w (by simpa using hw)) ⟨.bl _,H,I,rfl,?_⟩;rw[show its.toArray.any e=its.any e by simp,a2];exact q
def LY:D->D->Rz D
 |x,.tup ys=>if okD 9 x=true/\kX 9 ys=true then some (.bl (ys.any λ y=>eqB y x)) else none
 |_,_=>none
theorem sk:∀ {ys:Ry D} {x:D},kX 9 ys=true->okD 9 x=true->((fP ys).any λ z=>eqD z (jG x))=ys.any λ y=>eqB y x
 |[],_,_,_=>rfl
 |y::ys,x,h,hx=>by
  simp only[kX,Yd]at h;rw[fP,Yz,Yz,sk h.2 hx,pT h.1 hx]
theorem z9:∀ {ys:Ry D},kX 9 ys=true->∀ z ∈ fP ys,PySem.W.kqdOk 9 z=true
 |[],_,z,hz=>by cases hz
 |y::ys,h,z,hz=>by
  simp only[kX,Yd]at h;rw[fP]at hz;rcases Zi.mp hz with rfl|hz
  · exact iP 9 y h.1
  · exact z9 h.2 z hz
theorem Ni(hu:X.A.units+100<cLine):OpR X (compareOp .In) (rdR X.K LY):=(Kg hu).imp λ x y H Q w0=>g45 w0 λ Hs dx dy d sm rx ry e k=>by
 cases ry with
 |@tup p xs ds h r=>
  unfold LY at e;simp only at e;split at e
  ·rename_i hk
   have e':=Zj e;subst e';refine⟨p,xs,fP ds,jG dx,rfl,sm.tup h,(Rps.rdD 9 (r.same sm) hk.2),(Rp.rdD 9 (rx.same sm) hk.1),z9 hk.2,iP 9 dx hk.1,?_⟩;rw[sk hk.2 hk.1];exact k _ Hs H (.refl sm) (.bl _)
  · cases e
 |_=>exact nn e
variable{dd:Expr}{kk:DE}
noncomputable def Jr(P:Program)(w:World)(K:RC)(td ty tx:TE):TE:=λ σ H Q=>td σ H λ x H1=>∃ a kvs,x=.ref a/\KDv P w K a kvs/\(a == sysModules)=false/\(∃ ob,K.lookup a=some ob/\ob.dict=none)/\ty σ H1 λ y H2=>∃ k,y=kV k/\tx σ H2 λ z H3=>Q ((cC kvs k).getD z) H3
theorem C8(ho:PE X o td)(he:PE X ee ty)(hf:PE X ff tx)(m:M2 X o "get" Qw ee ff Qx):PE X (.Call (.Attribute o "get" Qw) [ee,ff] [] Qx) (Jr X.prog X.w X.K td ty tx):=by
 intro Qv s σ H Q I h;refine wpAny_Call_method m.base m.few m.line Xi X0 PySem.F.type_dict_get (thn (ho Qv s σ H _ I h) λ u s1 w90=>?_);obtain⟨x,H1,I1,rx,a,kvs,ex,hK,hd,⟨ob0,hl0,hn0⟩,q1⟩:=w90;subst ex;obtain rfl:u=Value.ref a:=rx;obtain⟨ob,es,ep,vs,hl,hx,hdd,hk,hp,hn,rel⟩:=hK;have d1:s1.heap.DictOf (aV X.prog X.w) a vs:=⟨ob,es,ep,I1.kIn _ _ hl,hx,hdd,hk,hp,hn⟩
 refine⟨d1.typeIs,λ a' e=>?_,?_⟩
 ·cases e
  exact⟨ob0,I1.kIn _ _ hl0,hn0⟩
 rw[m.trees]
 refine Y9 rfl (X5 (Y5 (thn (he Qv s1 σ H1 _ I1 q1) λ iv s2 ⟨y,H2,I2,ry,key,ey,q2⟩=>
  Y5 (thn (hf Qv s2 σ H2 _ I2 q2) λ fv s3 ⟨z,H3,I3,rz,q3⟩=>Wk ?_))))
 subst ey;have d3:s3.heap.DictOf (aV X.prog X.w) a vs:=⟨ob,es,ep,I3.kIn _ _ hl,hx,hdd,hk,hp,hn⟩
 refine Wq X0 d3.typeIs QV (QU _ _ _) (meets_dict_get_default (aV X.prog X.w) a (nM ry) hd fv) ⟨_,d3.mapOf,?_⟩;exact⟨_,H3,I3.tok _,(rel.val key).getD rz,q3⟩
def LH(ds:Ry (Key×D))(f g:DE):DE:=λ τ=>(f τ).bind λ y=>(g τ).bind λ z=>(jn y).map λ k=>(du ds k).getD z
structure KD2 (w:World) (K:W.Frag) (a:Addr) (ds:List (Key×D)):Prop where
 kd:KD w K a ds
 ns:(a == sysModules)=false
 no:∃ ob,K.lookup a=some ob/\ob.dict=none
end
def JR:Ry V->Hp->VK->Prop:=λ xs H Q=>∃(a:RB) (kvs:Ry (Key×V)) (ns:Ry Int),xs=[.ref a]/\H a=some (.dK kvs)/\kvs.map (·.1)=ns.map Sum.inl/\kvs.length<64/\∀(p:RB) (ns':Ry Int),H p=none->ns'.Perm ns->ns'.Pairwise (·<=·)->Q (.ref p) (upd H p (.lst (ns'.map .int)))
theorem t8 {κ:Type}:∀ {kvs:Ry (κ×V)} {vs:Ry (κ×RA)},KV kvs vs->vs.map (·.1)=kvs.map (·.1)
 |_,_,.nil=>rfl
 |_,_,.cons h r=>by rw[Zh,Zh,t8 r,h.1]
theorem AZ:∀ {us:Ry RA} {ns:Ry Int},us.length=ns.length->(∀ (j:Nat) (v:RA),us[j]?=some v->∃ n t,ns[j]?=some n/\v=.int n t)->IntsAre us ns
 |[],[],_,_=>.nil
 |[],_::_,e,_=>by cases e
 |_::_,[],e,_=>by cases e
 |u::us,n::ns,e,h=>by
  obtain⟨n',t,e1,e2⟩:=h 0 u rfl;cases e1;subst e2;exact .cons n t (AZ (Nat.succ.inj e) λ j v ev=>h (j+1) v ev)
theorem sx(hh:X.A.handled=none):gf X (.builtin "sorted") JR:=by
 intro Qv s σ H xs us Q I r h;obtain⟨a,kvs,ns,rfl,ha,ek,h64,q⟩:=h;obtain⟨u,rfl,ru⟩:=vals1 r;cases(show u=Value.ref a from ru);obtain⟨sz,lo,vs,kv,dd⟩:=si I.hok ha;obtain⟨ep,hat⟩:=dd.dictAt;have lv:vs.length=kvs.length:=kv.length.symm
 have ev:vs.map (·.1)=ns.map Sum.inl:=by
  rw[<- ek];exact t8 kv
 refine Calls.call_function_entry kind_sorted plain_sorted entry_sorted (args_sorted1 _) ?_
 unfold Builtin.«sorted»;refine Zc (m:=checkCount "sorted" 1 1 _) (Zw ?_);refine Zc (PySem.W.kdu_collect (A:=X.A.in1) (PySem.W.kdl_dict (knd:=aV X.prog X.w) (kvs:=vs) (ep:=ep) lo) hh hat (by rw[lv];exact sz) λ h' tk acc hk hacc=>?_)
 have hI:IntsAre acc.toList ns:=by
  refine AZ (by rw[Y1,hacc.1,<- Za (f:=(Sum.inl:Int->Key)),<- ev,Za]) λ j v hj=>?_
  obtain⟨k,x,e1,e2⟩:=hacc.2 j v (by rw[<- Q6];exact hj);have e3:(vs.map (·.1))[j]?=some k:=by rw[QD,e1];rfl
  rw[ev,QD]at e3
  cases q:ns[j]? with
  |none=>rw[q]at e3;cases e3
  |some n=>
   rw[q]at e3;cases e3;rcases bu (show rA (Sum.inl n) v=true from e2) with ⟨i,t,e4,e5⟩|⟨y,t,e4,e5⟩
   · cases e4;exact⟨_,t,rfl,e5⟩
   · cases e4
 have la:acc.toList.length<64:=by rw[Y1,hacc.1,lv];exact h64
 refine Zc (wpAny_newList ?_ (Zu (Yo la) (by decide)));have hoL:(h'.push (seqObj "list" acc.toList.toArray 0)).get? h'.objs.size=some (seqObj "list" acc.toList.toArray 0):=QC _ rfl;refine Zc (Xg (Ws slot_list_sort ⟨_,hoL,rfl⟩ entry_list_sort (list_sort_tree hoL hI la λ out ns' a1 a2 a3=>⟨_,rfl,?_⟩) (args_list_sort _)));refine Zw ⟨_,rfl,?_⟩;have I1:=I.kept (t':=tk) hk
 have old:∀ b o,h'.get? b=some o->(sortedHeap (h'.push (seqObj "list" acc.toList.toArray 0)) h'.objs.size acc.toList out).get? b=some o:=λ b o e1=>by
  rw[sortedHeap_old (Zx (Zr e1)) (by rw[size_push'];exact Y2 (Zr e1))];exact My _ e1
 obtain⟨e,he⟩:=sortedHeap_at (out:=out) hoL;have I2:=I1.laid (a:=h'.objs.size) (o:=.lst (ns'.map .int)) (t':=tk) old (Zo _) ⟨by rw[Za,a2.length_eq,<- IntsAre.length hI];exact Zu (Yo la) (by decide),out.toList,e,lL a1,by rw[he,Array.toArray_toList]⟩;exact⟨.ref h'.objs.size,_,I2,rfl,q _ ns' (I1.hok.fresh (Zo _)) a2 a3⟩
def zf:V->Ry V->Hp->VK->Prop:=λ x vs H Q=>∃ l xs i y,x=.ref l/\vs=[.int i,y]/\H l=some (.lst xs)/\0<=i/\i<=xs.length/\xs.length<sizeLine/\i<2 ^ 62/\Q .non (upd H l (.lst (xs.take i.toNat++y::xs.drop i.toNat)))
section
variable{X:Cx}
theorem Ap:MtM X "list.insert" zf:=by
 intro Qv s σ H x vs v us Q I rx rv h;obtain⟨l,xs,i,y,rfl,rfl,hH,h0,h1,hz,h62,q⟩:=h;cases rx
 cases rv with
 |cons ri rv=>cases rv with
  |cons ry rv=>
 cases rv;obtain⟨t,rfl⟩:=ri;rename_i u;obtain⟨z,its,n,r,hl,e⟩:=I.IP hH;refine call_meets F.slot_list_insert ⟨_,e,rfl⟩ F.entry_list_insert (F.args_list_insert_3 _ _ _) (PySem.AutoSeq1.list_insert_list_int_val_1 l its.toArray n i t u (by rw[fitsIndex_both (by lia) (by lia)];simp) (by rw[Zs];lia)) ⟨e,?_⟩;refine⟨.non,_,I.NA hH e ?_ ((r.take _).append (.cons ry (r.drop _))) ?_,rfl,q⟩
 · have hk:(if i<0 then(i+(its.toArray.size:Int)).toNat else min i.toNat its.toArray.size)=i.toNat:=by
    rw[if_neg (by lia),Zs]
    lia
   rw[hk];exact PySem.W.kl_ins_eq its i.toNat u
 · rw[Z5,Z2,Yc,Wp];lia
theorem J5 {KK:RC} (hK:X.K=KK) {o i e:Expr} {Qw Qx:Pos} {to ti te:TE} (ho:PE X o to) (hi:PE X i ti) (he:PE X e te)
  (Q1:Ug X o "insert":=by rfl)
  (Qy:((backTo Qx (starEach [i,e] X.env)).all (λ x=>!x.1)&&(backToKw Qx (keywordEach [] X.env)).all (λ x=>x.1.isSome)
    && decide ([i,e].length+([]:Ry Keyword).length+(if([]:Ry Keyword).isEmpty then 0 else 1)<30))=true:=by rfl)
  (Qz:Ui Qw Qx:=by rfl) (hst:starEach [i,e] X.env=(false,eval i X.env)::starEach [e] X.env:=by rfl) (hst2:Se X e []:=by rfl) (Q0:(backTo Qx (starEach [e] X.env)).any (·.1)=false:=by rfl):PE X (.Call (.Attribute o "insert" Qw) [i,e] [] Qx) (tBM KK "list" zf to (FV ti (FV te Jq))):=by
 subst hK;exact zG Wb PySem.F.slot_list_insert PySem.F.type_list_insert Ap ho (be hi (be he dB hst2) hst) Q1 Qy Qz hst Q0
end
section
variable{X:Cx}{Qv:Ry (RB×Obj)}{σ:St}{H:Hp}{s:RD}
theorem Inv.freeze(I:Inv X Qv σ H s)(hd:H d=some (.dK kvs))(ho:s.heap.get? d=some o):Inv X Qv σ (upd H d (.frz o (.dK kvs))) s:=by
 have ne:∀ b u,H b=some u->(∀ k,u≠.dK k)->b≠d:=λ b u e n z=>by rw[z,hd]at e;cases e;exact n _ rfl
 have n0:∀ b,H b=none->b≠d:=λ b e z=>by rw[z,hd]at e;cases e
 refine I.un ⟨λ b o e _ _ _=>e,λ b o e _ _ _=>⟨o.slots,e⟩,λ b o _ z _=>by rw[ar (n0 b z)];exact z,λ b o e _=>⟨o,e⟩,λ b xs e=>by rw[ar (ne b _ e λ _ y=>nomatch y)];exact e,λ b o xs e=>by rw[ar (ne b _ e λ _ y=>nomatch y)];exact e,λ b ps e=>⟨#[],by rw[ar (ne b _ e λ _ y=>nomatch y),e];simp⟩⟩ λ b u e=>?_
 by_cases z:b=d
 ·subst z
  rw[ay]at e;cases e;exact⟨ho,I.hok b _ hd⟩
 ·rw [ar z] at e
  exact(I.hok b u e).qj (λ _ _ _ q=>q) (λ c q=>by rw[ar (ne c _ q λ _ y=>nomatch y)];exact q) λ c xs q=>by rw[ar (ne c _ q λ _ y=>nomatch y)];exact q
end
def sca:D->Bool
 |.non=>true|.bl _=>true|.int _=>true|.str _=>true|.ty _=>true|_=>false
theorem yM{K}{H H'}{v}{d}(h:Rp K H v d)(e:sca d=true):Rp K H' v d:=by
 cases h<;>first|exact .non|exact .bl _|exact .int _|exact .str _|exact .ty _|(simp[sca]at e)
theorem F7{K}{H H'}{vs}{ds}(h:Rps K H vs ds):ds.all sca=true->Rps K H' vs ds:=by
 induction ds generalizing vs with
 |nil=>intro _;cases h;exact .nil
 |cons d ds ih=>
  intro e
  cases h with
  |cons h r=>
   rw[Ww,Yd]at e;exact .cons (yM h e.1) (ih r e.2)
noncomputable def toM:Sm->Rz Mt
 |.shr d=>some (.s d)
 |.mu false m=>some m
 |_=>none
def PH(N:Hp)(K:RC)(f:DEm):TE:=λ σ H Q=>∃(Hs0 H0:Hp),∃(_:Nf N H0),∃ ρ Hs τ s τ',b7 K Hs0 H0 ρ Hs H σ τ/\f τ=some (s,τ')/\∀ v Hs' H',bM H H'->b7 K Hs0 H0 (none::ρ) Hs' H' (some v::σ) (s::τ')->Q v H'
def PVm(X:Cx)(e:Expr)(f:DEm):Prop:=PE X e (PH X.H₀ X.K f)
def eS(g:DE):DEm:=λ τ=>(g (b6 τ)).bind λ d=>if sca d=true then some (.shr d,τ) else none
def eN(g:DE):DEm:=λ τ=>(g (er τ)).map λ d=>(.shr d,τ)
def lM(ds:Ry D):Mt:=.n .l (ds.map λ d=>(.inl 0,.s d))
def eO(g:DE):DEm:=λ τ=>(g (b6 τ)).bind λ d=>match d with
 |.lst ds=>if ds.all sca=true then some (.mu false (lM ds),τ) else none
 |_=>none
def eV(i:Nat):DEm:=λ τ=>match τ[i]? with
 |some (.mu false m)=>some (.mu false m,τ.set i .no)
 |some (.shr d)=>some (.shr d,τ)
 |_=>none
section
variable{K:RC}{Hs0 H0 Hs H Hs' H':Hp}{ρ:Ry (Rz RB)}{σ:St}{τ:Ry Sm}
theorem b7.push(r:b7 K Hs0 H0 ρ Hs H σ τ)(h:Rp K Hs v d):b7 K Hs0 H0 (none::ρ) Hs H (some v::σ) (.shr d::τ):=⟨r.ext,let ⟨fp,s⟩:=r.st;⟨fp,.shr h s⟩⟩
theorem b7.pop(r:b7 K Hs0 H0 (p::ρ) Hs H (v::σ) (s::τ)):b7 K Hs0 H0 ρ Hs H σ τ:=⟨r.ext,by
 obtain⟨fp,s⟩:=r.st
 cases s with
 |no r=>exact⟨_,r⟩
 |shr h r=>exact⟨_,r⟩
 |mu h hp z j r=>exact⟨_,r⟩⟩
def b7.old(r:b7 K Hs0 H0 ρ Hs H σ τ)(h:H p=none):H0 p=none:=r.ext.hh.free h
def StM.new(h:StM K H0 Hs H ρ σ τ fp)(hp:H p=none):p ∉ fp:=λ q=>(h.live p q).2.1 hp
theorem Qm{i:Nat}{d}{fp}(h:StM K H0 Hs H ρ σ τ fp)(e:τ[i]?=some (.shr d)):∃ v,σ[i]?=some (some v)/\Rp K Hs v d:=h.er.get (by rw[QD,e];rfl)
theorem K1(h:Rps K Hs vs ds):∃ ts:Ry Kd,(ts.map Kd.kv).map (·.2)=vs/\ts.map Kd.km=ds.map (λ d=>((.inl 0:Key),Mt.s d))/\ts.flatMap Kd.fp=[]/\∀ H,∀ c ∈ ts,Od K Hs H c.fp c.v c.m:=by
 induction ds generalizing vs with
 |nil=>cases h;exact⟨[],rfl,rfl,rfl,λ _ c hc=>by cases hc⟩
 |cons d ds ih=>
  cases h with
  |@cons x _ _ _ h r=>
   obtain⟨ts,h1,h2,h3,h4⟩:=ih r;refine⟨⟨.inl 0,x,.s d,[]⟩::ts,by rw[Zh,Zh,h1],by rw[Zh,Zh,h2],by rw[Yg,h3];rfl,λ H c hc=>?_⟩;rcases Zi.mp hc with rfl|hc
   · exact .s h
   · exact h4 H c hc
theorem Od.lst(h:H a=some (.lst vs))(n:Hs a=none)(r:Rps K Hs vs ds):Od K Hs H [a] (.ref a) (lM ds):=by
 obtain⟨ts,h1,h2,h3,h4⟩:=K1 r;have:=Od.n (dx:=0) (t:=.l) h (by rw[<- h1];exact .l _) n trivial (by rw[h3];simp) (h4 H);rw[h2,h3]at this;exact this
theorem b7.Gy(r:b7 K Hs0 H0 ρ Hs H σ τ)(g:bM H H')(h:Od K Hs H' fq v m)(z:∀ c ∈ fq,H c=none):b7 K Hs0 H0 (none::ρ) Hs H' (some v::σ) (.mu false m::τ):=by
 obtain⟨fp,s⟩:=r.st;exact⟨(r.grow g).ext,fq++fp,.mu h (λ e=>by cases e) (λ c hc=>r.old (z c hc)) (λ c hc=>s.new (z c hc)) (s.ext ⟨.refl _,r.ext.sh.trans g,g,λ _ h _=>h⟩)⟩
theorem b7.into(r:b7 K Hs0 H0 (none::ρ) Hs H (some v::σ) (s::τ))(hf:i<τ.length)(hs:(toM s).isSome=true):b7 K Hs0 H0 ρ Hs H (σ.set i (some v)) (τ.set i s):=⟨r.ext,by
 obtain⟨fp,st⟩:=r.st
 cases st with
 |no r=>cases hs
 |shr h s=>obtain⟨fp',h1,_⟩:=s.Cd h;exact⟨fp',h1⟩
 |@mu p v b m ρ σ τ fq fp h hp z j s=>
  cases b with
  |true=>cases hs
  |false=>obtain⟨fp',h1,_⟩:=s.setM h (λ c hc=>⟨z c hc,j c hc⟩) hf;exact⟨fp',h1⟩⟩
theorem oT{ts' ts:Ry Kd}(h:ts'.Sublist ts):(ts'.flatMap Kd.fp).Sublist (ts.flatMap Kd.fp):=by
 induction h with
 |slnil=>exact .slnil
 |cons a _ ih=>rw[Yg];exact ih.trans (List.sublist_append_right _ _)
 |cons_cons a _ ih=>rw[Yg,Yg];exact(List.Sublist.refl _).append ih
theorem StM.node{i}{q}{t}{cs}{rt v1}{fp}(rx:Ext Hs0 H0 Hs H)(st:StM K H0 Hs H ρ σ τ fp)(hg:a6 τ i q=some (.n t cs))(hi:σ[i]?=some (some rt))(hv:vAt H rt q=some v1):∃ a dx ts u,v1=.ref a/\cs=ts.map Kd.km/\H a=some u/\Lay t dx (ts.map Kd.kv) u/\KU t ts/\Hs a=none/\H0 a=none/\(∀ fq l1 (k:Kd) l2 u',(l1++l2).Sublist ts->k.fp=fq->Od K Hs H fq k.v k.m->(∀ c ∈ fq,H0 c=none/\c ∉ fp)->Lay t dx ((l1++k::l2).map Kd.kv) u'->KU t (l1++k::l2)->b7 K Hs0 H0 ρ Hs (upd H a u') σ (cX τ i q (.n t ((l1++k::l2).map Kd.km))))/\(∀ ts' u',ts'.Sublist ts->Lay t dx (ts'.map Kd.kv) u'->KU t ts'->b7 K Hs0 H0 ρ Hs (upd H a u') σ (cX τ i q (.n t (ts'.map Kd.km)))):=by
 unfold a6 at hg;split at hg
 ·rename_i b m em
  obtain⟨v,fp1,v1',w1,w2,w3,w4,w5⟩:=st.uJ em hg;rw[hi]at w1;cases w1;rw[hv]at w2;cases w2;obtain⟨a,dx,ts,u,rfl,rfl,rfl,ha,hl,nh,ku,nd,rr⟩:=w3.inv;have afp:=w4 a (Zg ..);have h0:=(st.live a afp).2.2;have ep:∀ m2,cX τ i q m2=τ.set i (.mu b (m.put q m2)):=λ m2=>by unfold cX;rw[em]
  have ex:∀ u',Ext Hs0 H0 Hs (upd H a u'):=λ u'=>by
   refine⟨rx.ss,λ c o e=>?_,λ c o e=>?_,rx.fr⟩
   · rw[ar (λ z=>by rw[z,nh]at e;cases e)];exact rx.sh c o e
   · rw[ar (λ z=>by rw[z,h0]at e;cases e)];exact rx.hh c o e
  have nd1:=Z8.mp nd;refine⟨a,dx,ts,u,rfl,rfl,ha,hl,ku,nh,h0,λ fq l1 k l2 u' hsub hk hod hz hl' ku'=>?_,λ ts' u' hsub hl' ku'=>?_⟩
  ·subst hk
   have zz:=hz;have sf:=oT hsub;rw[Ym]at sf;have nd2:=nd1.2.sublist sf;rw[Yq]at nd2;have inl:∀ c,c ∈ l1.flatMap Kd.fp\/c ∈ l2.flatMap Kd.fp->c ∈ fp:=λ c hc=>w4 c (Zd _ (sf.subset (Zl.mpr hc)))
   have nda:=oh (λ z=>nd1.1 (sf.subset (Zv _ z))) (λ z=>(zz a z).2 afp) (λ z=>nd1.1 (sf.subset (Ze _ z))) hod.nd (λ c hc=>⟨λ z=>(zz c hc).2 (inl c (.inl z)),λ z=>(zz c hc).2 (inl c (.inr z))⟩) nd2.1 nd2.2.1 λ c hc z=>nd2.2.2 c hc c z rfl
   have nda':(a::(l1++k::l2).flatMap Kd.fp).Nodup:=by rw[Ym,Yg];exact nda
   have od:Od K Hs (upd H a u') (a::(l1++k::l2).flatMap Kd.fp) (.ref a) (.n t ((l1++k::l2).map Kd.km)):=by
    refine .n ay hl' nh ku' nda' λ c hc=>?_
    have off:∀ fp',Od K Hs H fp' c.v c.m->a ∉ fp'->Od K Hs (upd H a u') fp' c.v c.m:=λ fp' o n=>o.mv (.refl _) λ x hx=>⟨(o.live x hx).1,ar λ z=>n (z ▸ hx)⟩
    have na:a ∉ c.fp:=λ z=>(Z8.mp nda').1 (Yh.mpr ⟨c,hc,z⟩)
    rcases Zl.mp hc with hc|hc
    · exact off _ (rr c (hsub.subset (Zv _ hc))) na
    ·rcases Zi.mp hc with rfl | hc
     · exact off _ hod na
     · exact off _ (rr c (hsub.subset (Ze _ hc))) na
   obtain⟨fp',s',_⟩:=w5 Hs (upd H a u') _ _ (.refl _) (λ c hc hn=>⟨(st.live c hc).1,ar λ z=>hn (by rw[z];exact Zg ..)⟩) od λ c hc=>by
    rcases Zi.mp hc with rfl|hc
    · exact .inl (Zg ..)
    ·rw [Ym,Yg,Zl,Zl] at hc
     rcases hc with hc|hc|hc
     · exact .inl (Zd _ (sf.subset (Zv _ hc)))
     · exact .inr ⟨(zz c hc).2,(zz c hc).1⟩
     · exact .inl (Zd _ (sf.subset (Ze _ hc)))
   exact⟨ex u',fp',by rw[ep];exact s'⟩
  ·have sf:=oT hsub
   have nda':=Z8.mpr ⟨λ z=>nd1.1 (sf.subset z),nd1.2.sublist sf⟩
   have od:Od K Hs (upd H a u') (a::ts'.flatMap Kd.fp) (.ref a) (.n t (ts'.map Kd.km)):=by
    refine .n ay hl' nh ku' nda' λ c hc=>?_
    have o:=rr c (hsub.subset hc);exact o.mv (.refl _) λ x hx=>⟨(o.live x hx).1,ar λ z=>(Z8.mp nda').1 (Yh.mpr ⟨c,hc,z ▸ hx⟩)⟩
   obtain⟨fp',s',_⟩:=w5 Hs (upd H a u') _ _ (.refl _) (λ c hc hn=>⟨(st.live c hc).1,ar λ z=>hn (by rw[z];exact Zg ..)⟩) od λ c hc=>by
    rcases Zi.mp hc with rfl|hc
    · exact .inl (Zg ..)
    · exact .inl (Zd _ (sf.subset hc))
   exact⟨ex u',fp',by rw[ep];exact s'⟩
 · cases hg
theorem b7.xw(r:b7 K Hs0 H0 (none::ρ) Hs H (some v::σ) (s::τ))(hs:toM s=some mv)(hg:a6 τ i q=some (.n t cs))(hi:σ[i]?=some (some rt))(hv:vAt H rt q=some v1):∃ a dx ts u fv,v1=.ref a/\cs=ts.map Kd.km/\H a=some u/\Lay t dx (ts.map Kd.kv) u/\KU t ts/\∀ l1 kk l2 u',(l1++l2).Sublist ts->Lay t dx ((l1++⟨kk,v,mv,fv⟩::l2).map Kd.kv) u'->KU t (l1++⟨kk,v,mv,fv⟩::l2)->b7 K Hs0 H0 ρ Hs (upd H a u') σ (cX τ i q (.n t ((l1++⟨kk,v,mv,fv⟩::l2).map Kd.km))):=by
 obtain⟨fp0,st⟩:=r.st
 cases st with
 |no st=>cases hs
 |shr h st=>
  cases hs;obtain⟨a,dx,ts,u,h1,h2,h3,h4,h5,h6,h7,h8,_⟩:=StM.node r.ext st hg hi hv;exact⟨a,dx,ts,u,[],h1,h2,h3,h4,h5,λ l1 kk l2 u' e1 e2 e3=>h8 [] l1 ⟨kk,v,_,[]⟩ l2 u' e1 rfl (.s h) (λ c hc=>by cases hc) e2 e3⟩
 |@mu p v b m ρ σ τ fq fp h hp z j st=>
  cases b with
  |true=>cases hs
  |false=>
   cases hs;obtain⟨a,dx,ts,u,h1,h2,h3,h4,h5,h6,h7,h8,_⟩:=StM.node r.ext st hg hi hv;exact⟨a,dx,ts,u,fq,h1,h2,h3,h4,h5,λ l1 kk l2 u' e1 e2 e3=>h8 fq l1 ⟨kk,v,_,fq⟩ l2 u' e1 rfl h (λ c hc=>⟨z c hc,j c hc⟩) e2 e3⟩
end
theorem cY(h:a6 τ i q=some m1):∃ b m,τ[i]?=some (.mu b m)/\m.get q=some m1:=by
 unfold a6 at h;split at h
 · exact⟨_,_,‹_›,h⟩
 · cases h
theorem A9 {st:Stp}:∀ (q:Ry Stp) {m m2:Mt},m.get (q++[st])=some m2->∃ m1,m.get q=some m1/\m1.get [st]=some m2
 |[],m,m2,h=>⟨m,by cases m<;>rfl,h⟩
 |s::q,.s d,m2,h=>by cases h
 |s :: q,.n t cs,m2,h=>by
  have h':(match qB t cs s with|none=>none|some i=>match cs[i]? with|none=>none|some c=>Mt.get c.2 (q++[st]))=some m2:=h
  cases e1:qB t cs s with
  |none=>rw[e1]at h';cases h'
  |some i=>
   rw[e1]at h'
   cases e2:cs[i]? with
   |none=>simp only[e2]at h';cases h'
   |some c=>
    simp only[e2]at h';obtain⟨m1,h1,h2⟩:=A9 q h';refine⟨m1,?_,h2⟩;show(match qB t cs s with|none=>none|some i=>match cs[i]? with|none=>none|some c=>Mt.get c.2 q)=some m1;simp only[e1,e2];exact h1
theorem oR {H:Hp} {st:Stp}:∀ (q:Ry Stp) {v v1:V},vAt H v q=some v1->vAt H v (q++[st])=vAt H v1 [st]
 |[],v,v1,h=>by
  have e:v=v1:=by cases v<;>exact Zj h
  rw[e];rfl
 |.k k::q,v,v1,h=>by
  cases v with
  |ref a=>
   have h':(match H a with|some (.ins _ _ fs)=>(cC (fs.map λ(f:Str×V)=>((Sum.inr f.1:Key),f.2)) k).bind λ v=>vAt H v q|some (.dK kvs)=>(cC kvs k).bind λ v=>vAt H v q|_=>none)=some v1:=h;show(match H a with|some (.ins _ _ fs)=>(cC (fs.map λ(f:Str×V)=>((Sum.inr f.1:Key),f.2)) k).bind λ v=>vAt H v (q++[st])|some (.dK kvs)=>(cC kvs k).bind λ v=>vAt H v (q++[st])|_=>none)=_;split at h'
   ·obtain ⟨w,h1,h2⟩:=Ub h'
    rw[h1];exact oR q h2
   ·obtain ⟨w,h1,h2⟩:=Ub h'
    rw[h1];exact oR q h2
   · cases h'
  |_=>cases h
 |.i n::q,v,v1,h=>by
  cases v with
  |ref a=>
   have h':(match H a with|some (.lst xs)=>(xs[n]?).bind λ v=>vAt H v q|_=>none)=some v1:=h;show(match H a with|some (.lst xs)=>(xs[n]?).bind λ v=>vAt H v (q++[st])|_=>none)=_;split at h'
   ·obtain ⟨w,h1,h2⟩:=Ub h'
    rw[h1];exact oR q h2
   · cases h'
  |_=>cases h
theorem bF (g:bM H H'):∀ (q:Ry Stp) {v v1:V},vAt H v q=some v1->vAt H' v q=some v1
 |[],v,v1,h=>by cases v<;>exact h
 |.k k::q,v,v1,h=>by
  cases v with
  |ref a=>
   have h':(match H a with|some (.ins _ _ fs)=>(cC (fs.map λ(f:Str×V)=>((Sum.inr f.1:Key),f.2)) k).bind λ v=>vAt H v q|some (.dK kvs)=>(cC kvs k).bind λ v=>vAt H v q|_=>none)=some v1:=h;show(match H' a with|some (.ins _ _ fs)=>(cC (fs.map λ(f:Str×V)=>((Sum.inr f.1:Key),f.2)) k).bind λ v=>vAt H' v q|some (.dK kvs)=>(cC kvs k).bind λ v=>vAt H' v q|_=>none)=_;split at h'
   ·rename_i e
    obtain⟨w,h1,h2⟩:=Ub h';simp only[g _ _ e];rw[h1];exact bF g q h2
   ·rename_i e
    obtain⟨w,h1,h2⟩:=Ub h';simp only[g _ _ e];rw[h1];exact bF g q h2
   · cases h'
  |_=>cases h
 |.i n::q,v,v1,h=>by
  cases v with
  |ref a=>
   have h':(match H a with|some (.lst xs)=>(xs[n]?).bind λ v=>vAt H v q|_=>none)=some v1:=h;show(match H' a with|some (.lst xs)=>(xs[n]?).bind λ v=>vAt H' v q|_=>none)=_;split at h'
   ·rename_i e
    obtain⟨w,h1,h2⟩:=Ub h';simp only[g _ _ e];rw[h1];exact bF g q h2
   · cases h'
  |_=>cases h
theorem oP:∀ (fs:Ry (Str×V)),cC (fs.map λ f=>((Sum.inr f.1:Key),f.2)) (.inr x)=fs.lookup x
 |[]=>rfl
 |(y,v)::fs=>by
  rw[Zh,Y0]
  by_cases h:y=x
  · rw[cu (by rw[h]),h];simp
  ·rw [cw (λ z=>h (by injection z)),oP fs]
   have:(x == y)=false:=by simpa using λ z=>h z.symm
   rw[this]
def nA(i:Nat):DPx:=λ _=>some (i,[])
def Gw(C:RB)(x:Str)(f:DPx):DPx:=λ τ=>(f τ).bind λ p=>match a6 τ p.1 p.2 with
 |some (.n (.o C') _)=>if C'=C then some (p.1,p.2++[.k (.inr x)]) else none
 |_=>none
def tE(f:DPx)(g:DE):DPx:=λ τ=>(f τ).bind λ p=>(g (b6 τ)).bind λ d=>(jn d).bind λ k=>match a6 τ p.1 p.2 with
 |some (.n .d _)=>some (p.1,p.2++[.k k])
 |_=>none
def MT(f:DPx)(g:DE):DPx:=λ τ=>(f τ).bind λ p=>(g (b6 τ)).bind λ d=>match d,a6 τ p.1 p.2 with
 |.int i,some (.n .l _)=>if 0<=i then some (p.1,p.2++[.i i.toNat]) else none
 |_,_=>none
section
variable{K:RC}{Hs0 H0 Hs H Hs' H':Hp}{ρ:Ry (Rz RB)}{σ:St}{τ:Ry Sm}
theorem b7.child{i:Nat}{q:Ry Stp}{st:Stp}{t:Tg}{cs:Ry (Key×Mt)}{m2:Mt}{rt v1:V}(r:b7 K Hs0 H0 ρ Hs H σ τ)(hg:a6 τ i q=some (.n t cs))(hg2:a6 τ i (q++[st])=some m2)(hi:σ[i]?=some (some rt))(hv:vAt H rt q=some v1):∃(a dx:RB) (ts:Ry Kd) (u:HO) (w:V),v1=.ref a/\cs=ts.map Kd.km/\H a=some u/\Lay t dx (ts.map Kd.kv) u/\vAt H rt (q++[st])=some w/\vAt H (.ref a) [st]=some w:=by
 obtain⟨fp,s⟩:=r.st;obtain⟨a,dx,ts,u,rfl,rfl,ha,hl,_⟩:=StM.node r.ext s hg hi hv;obtain⟨b,m,e1,e2⟩:=cY hg2;obtain⟨m1,e3,e4⟩:=A9 q e2;have e5:a6 τ i q=m.get q:=by unfold a6;rw[e1]
 rw[e5,e3]at hg;cases hg;have e':(match qB t (ts.map Kd.km) st with|none=>none|some i=>match(ts.map Kd.km)[i]? with|none=>none|some c=>Mt.get c.2 [])=some m2:=e4
 cases e6:qB t (ts.map Kd.km) st with
 |none=>rw[e6]at e';cases e'
 |some j=>
  rw[e6]at e'
  cases e7:(ts.map Kd.km)[j]? with
  |none=>simp only[e7]at e';cases e'
  |some c=>
   obtain⟨t1,k,t2,_,_,_,q4⟩:=wu ha hl e6 e7;have w:vAt H (.ref a) [st]=some k.v:=by rw[q4];cases k.v<;>rfl
   exact⟨a,dx,ts,u,k.v,rfl,rfl,ha,hl,by rw[oR q hv];exact w,w⟩
end
section
variable{X:Cx}{a b c e o:Expr}{es:Ry Expr}{pos Qw Qx pos':Pos}{x:Str}
theorem PVm.em(h:PVm X e f):PEm X e f:=PE.imp h λ σ H Q w0=>g83 w0 λ Hs0 H0 nf ρ Hs τ s τ' r e k=>⟨Hs0,H0,nf,ρ,Hs,τ,s,τ',r,e,λ v Hs' H' _ r'=>k v Hs' H' r'⟩
end
def EC:DSm:=λ τ=>some (.next τ)
def Gc:DSm:=λ _=>none
def jL(f g:DSm):DSm:=λ τ=>match f τ with
 |some (.next τ')=>g τ'
 |r=>r
def IG(t:DTm)(f g:DSm):DSm:=λ τ=>(t τ).bind λ x=>if x.1=true then f x.2 else g x.2
def yR(i:Nat)(f:DEm):DSm:=λ τ=>(f τ).bind λ x=>if i<x.2.length/\(toM x.1).isSome=true then some (.next (x.2.set i x.1)) else none
def Gb(f:DEm):DSm:=λ τ=>(f τ).map λ x=>.ret x.1 x.2
def qp(f:DEm):DSm:=λ τ=>(f τ).map λ x=>.next x.2
def tS(g:DT):DTm:=λ τ=>(g (b6 τ)).map λ b=>(b,τ)
section
variable{X:Cx}{a b c e o:Expr}{es:Ry Expr}{pos Qw Qx pos':Pos}{x:Str}{st:Stmt}{rest:Ry Stmt}{f g:DSm}
def yU(g:DE):DSm:=λ τ=>(g (b6 τ)).map λ _=>.next τ
def ki(cs:Ry (Key×Mt))(k:Key)(m:Mt):Ry (Key×Mt):=if cs.any (λ c=>decide (c.1=k)) then cs.map (λ c=>if c.1=k then(c.1,m) else c) else cs++[(k,m)]
def nW(cs:Ry (Key×Mt))(k:Key):Ry (Key×Mt):=cs.filter λ c=>decide (c.1≠k)
theorem lQ(k:Key)(nd:(ts.map Kd.k).Nodup):∃ l1 l2,(l1++l2).Sublist ts/\∀ n:Kd,n.k=k->(l1++n::l2).map Kd.kv=putK (ts.map Kd.kv) k n.v/\(l1++n::l2).map Kd.km=ki (ts.map Kd.km) k n.m/\((l1++n::l2).map Kd.k).Nodup:=by
 have ea:∀{α:Type} (g:Kd->α),k ∈ ts.map Kd.k->((ts.map λ t=>(t.k,g t)).any λ c=>decide (c.1=k))=true:=λ g h=>by
  rw[Wg,Xv];obtain⟨t,ht,rfl⟩:=Ye.mp h;exact⟨t,ht,by simp⟩
 have en:∀{α:Type} (g:Kd->α),k ∉ ts.map Kd.k->((ts.map λ t=>(t.k,g t)).any λ c=>decide (c.1=k))=false:=λ g h=>by
  rw[Wg,List.any_eq_false];exact λ t ht z=>h (Ye.mpr ⟨t,ht,by simpa using z⟩)
 by_cases h:k ∈ ts.map Kd.k
 ·obtain ⟨t,ht,et⟩:=Ye.mp h
  obtain⟨l1,l2,rfl⟩:=List.append_of_mem ht;have nd':=nd;rw[Zq,Zh,Yq,Z8]at nd';have n1:∀ c ∈ l1,c.k≠k:=λ c hc z=>nd'.2.2 c.k (X9 hc) t.k (Zg ..) (by rw[z,et])
  have n2:∀ c ∈ l2,c.k≠k:=λ c hc z=>nd'.2.1.1 (by rw[et,<- z];exact X9 hc)
  refine⟨l1,l2,List.Sublist.append (.refl _) (List.sublist_cons_self ..),λ n hn=>⟨?_,?_,?_⟩⟩
  ·unfold putK
   rw[show((l1++t::l2).map Kd.kv).any (λ kv=>decide (kv.1=k))=_ from ea Kd.v h,if_pos rfl,Yb,Zq,Zq,Zh,Zh];congr 1
   · exact Z4 λ c hc=>(if_neg (n1 c hc)).symm
   ·rw [show ((λ kv=>if kv.1=k then (kv.1,n.v) else kv) ∘ Kd.kv) t=(t.k,n.v) from if_pos et,et,<- hn]
    congr 1;exact Z4 λ c hc=>(if_neg (hn.symm ▸ n2 c hc)).symm
  ·unfold ki
   rw[show((l1++t::l2).map Kd.km).any (λ kv=>decide (kv.1=k))=_ from ea Kd.m h,if_pos rfl,Yb,Zq,Zq,Zh,Zh];congr 1
   · exact Z4 λ c hc=>(if_neg (n1 c hc)).symm
   ·rw [show ((λ c=>if c.1=k then (c.1,n.m) else c) ∘ Kd.km) t=(t.k,n.m) from if_pos et,et,<- hn]
    congr 1;exact Z4 λ c hc=>(if_neg (hn.symm ▸ n2 c hc)).symm
  ·rw [Zq,Zh,hn,<- et,<- Zh,<- Zq]
   exact nd
 ·refine ⟨ts,[],by rw [Zz]; exact .refl _,λ n hn=>⟨?_,?_,?_⟩⟩
  ·unfold putK
   rw[show(ts.map Kd.kv).any (λ kv=>decide (kv.1=k))=_ from en Kd.v h,if_neg (by simp),Zq,<- hn];rfl
  ·unfold ki
   rw[show(ts.map Kd.km).any (λ kv=>decide (kv.1=k))=_ from en Kd.m h,if_neg (by simp),Zq,<- hn];rfl
  ·rw [Zq,Zh,Yq,hn]
   exact⟨nd,by simp,λ c hc c' hc' z=>h (by rw[<- Zy.mp hc',<- z];exact hc)⟩
theorem va:∀ {fs:Ry (Str×V)},(fs.map Prod.fst).Nodup->(nB x v fs).map (λ f=>((Sum.inr f.1:Key),f.2))=putK (fs.map λ f=>((Sum.inr f.1:Key),f.2)) (.inr x) v
 |[],_=>rfl
 |(y,w)::fs,nd=>by
  rw[Zh,Z8]at nd
  by_cases h:y=x
  ·subst h
   rw[show nB y v ((y,w)::fs)=(y,v)::fs from if_pos rfl];unfold putK;rw[show((((y,w)::fs).map λ f=>((Sum.inr f.1:Key),f.2)).any λ kv=>decide (kv.1=Sum.inr y))=true from by simp,if_pos rfl,Zh,Zh,Zh,Yb];congr 1
   · simp
   · exact Z4 λ c hc=>(if_neg (λ z=>nd.1 (by injection z with z;exact Ye.mpr ⟨c,hc,z⟩))).symm
  ·rw [show nB x v ((y,w)::fs)=(y,w)::nB x v fs from if_neg h,Zh,va nd.2]
   unfold putK;rw[Zh,Yz,show decide ((Sum.inr y:Key)=Sum.inr x)=false from Zp (λ z=>h (by injection z)),Bool.false_or];split
   · rw[Zh,if_neg (λ z=>h (by injection z))]
   · rfl
noncomputable def yV(px:DPx)(gk:DE)(fv:DEm):DSm:=λ τ=>(fv τ).bind λ x=>(px x.2).bind λ p=>(gk (b6 x.2)).bind λ d=>(jn d).bind λ k=>(toM x.1).bind λ mv=>match a6 x.2 p.1 p.2 with
 |some (.n .d cs)=>if cs.length<100000 then some (.next (cX x.2 p.1 p.2 (.n .d (ki cs k mv)))) else none
 |_=>none
noncomputable def CO(C:RB)(x:Str)(px:DPx)(fv:DEm):DSm:=λ τ=>(fv τ).bind λ y=>(px y.2).bind λ p=>(toM y.1).bind λ mv=>match a6 y.2 p.1 p.2 with
 |some (.n (.o C') cs)=>if C'=C/\cs.length<1000 then some (.next (cX y.2 p.1 p.2 (.n (.o C) (ki cs (.inr x) mv)))) else none
 |_=>none
end
section
variable{K:RC}{Hs0 H0 Hs H Hs' H':Hp}{ρ:Ry (Rz RB)}{σ:St}{τ:Ry Sm}
theorem t7{dx}{ts:Ry Kd}{u}(h:Lay .l dx (ts.map Kd.kv) u):u=.lst (ts.map Kd.v):=by
 generalize ek:ts.map Kd.kv=kvs at h
 cases h with
 |l _=>rw[<- ek,Yb];rfl
theorem vF{dx}{ts:Ry Kd}:Lay .l dx (ts.map Kd.kv) (.lst (ts.map Kd.v)):=by
 have:=Lay.l (dx:=dx) (ts.map Kd.kv);rw[Yb]at this;exact this
theorem pF{dx}{ts:Ry Kd}{u}(h:Lay .d dx (ts.map Kd.kv) u):u=.dK (ts.map Kd.kv):=by
 generalize ek:ts.map Kd.kv=kvs at h
 cases h with
 |d _=>rfl
theorem b7.qT(r:b7 K Hs0 H0 ρ Hs H σ τ)(hg:a6 τ i q=some (.n t cs))(hi:σ[i]?=some (some rt))(hv:vAt H rt q=some v1):∃(a dx:RB) (ts:Ry Kd) (u:HO),v1=.ref a/\cs=ts.map Kd.km/\H a=some u/\Lay t dx (ts.map Kd.kv) u/\KU t ts/\(∀ c ∈ ts,Rp K H c.v (frz c.m))/\∀ ts' ks u',ts'.Sublist ts->(∀ k ∈ ks,k.fp=[]/\Od K Hs H [] k.v k.m)->Lay t dx ((ts'++ks).map Kd.kv) u'->KU t (ts'++ks)->b7 K Hs0 H0 ρ Hs (upd H a u') σ (cX τ i q (.n t ((ts'++ks).map Kd.km))):=by
 obtain⟨fp,st⟩:=r.st;obtain⟨b,m,em,eg⟩:=cY hg;obtain⟨v,fp1,v1',w1,w2,w3,w4,w5⟩:=st.uJ em eg;rw[hi]at w1;cases w1;rw[hv]at w2;cases w2;obtain⟨a,dx,ts,u,rfl,rfl,rfl,ha,hl,nh,ku,nd,rr⟩:=w3.inv;have afp:a ∈ fp:=w4 a (Zg ..);have h0:=(st.live a afp).2.2;have nd1:=Z8.mp nd;refine⟨a,dx,ts,u,rfl,rfl,ha,hl,ku,λ c hc=>(rr c hc).rp r.sm,λ ts' ks u' hsub hks hl' ku'=>?_⟩
 have ex:Ext Hs0 H0 Hs (upd H a u'):=by
  refine⟨r.ext.ss,λ c o e=>?_,λ c o e=>?_,r.ext.fr⟩
  · rw[ar (λ z=>by rw[z,nh]at e;cases e)];exact r.ext.sh c o e
  · rw[ar (λ z=>by rw[z,h0]at e;cases e)];exact r.ext.hh c o e
 have kz:ks.flatMap Kd.fp=[]:=by
  rw[List.flatMap_eq_nil_iff];exact λ c hc=>(hks c hc).1
 have sf:=oT hsub
 have nda':(a::(ts'++ks).flatMap Kd.fp).Nodup:=by
  rw[Ym,kz,Zz];exact Z8.mpr ⟨λ z=>nd1.1 (sf.subset z),nd1.2.sublist sf⟩
 have od:Od K Hs (upd H a u') (a::(ts'++ks).flatMap Kd.fp) (.ref a) (.n t ((ts'++ks).map Kd.km)):=by
  refine .n ay hl' nh ku' nda' λ c hc=>?_
  have na:a ∉ c.fp:=λ z=>(Z8.mp nda').1 (Yh.mpr ⟨c,hc,z⟩)
  rcases Zl.mp hc with hc|hc
  ·have o:=rr c (hsub.subset hc)
   exact o.mv (.refl _) λ x hx=>⟨(o.live x hx).1,ar λ z=>na (z ▸ hx)⟩
  ·obtain ⟨k1,k2⟩:=hks c hc
   rw[k1];exact k2.mv (.refl _) λ x hx=>by cases hx
 obtain⟨fp',s',_⟩:=w5 Hs (upd H a u') _ _ (.refl _) (λ c hc hn=>⟨(st.live c hc).1,ar λ z=>hn (by rw[z];exact Zg ..)⟩) od λ c hc=>by
  rw[Ym,kz,Zz]at hc;rcases Zi.mp hc with rfl|hc
  · exact .inl (Zg ..)
  · exact .inl (Zd _ (sf.subset hc))
 exact⟨ex,fp',by unfold cX;rw[em];exact s'⟩
theorem b7.isList(r:b7 K Hs0 H0 ρ Hs H σ τ)(hg:a6 τ i q=some (.n .l cs))(hi:σ[i]?=some (some rt))(hv:vAt H rt q=some v1):tyV K "list" v1 H:=by
 obtain⟨a,dx,ts,u,rfl,rfl,ha,hl,_⟩:=r.qT hg hi hv;rw[t7 hl]at ha;exact .inl ⟨rfl,_,SqL.of ha⟩
end
noncomputable def Ge(px:DPx)(fv:DEm):DSm:=λ τ=>(px τ).bind λ p=>match a6 τ p.1 p.2 with
 |some (.n .l _)=>(fv τ).bind λ x=>(toM x.1).bind λ mv=>match a6 x.2 p.1 p.2 with
  |some (.n .l cs)=>if cs.length<100000 then some (.next (cX x.2 p.1 p.2 (.n .l (cs++[(.inl 0,mv)])))) else none
  |_=>none
 |_=>none
def L5(cs:Ry (Key×Mt))(i:Nat)(m:Mt):Ry (Key×Mt):=cs.take i++(.inl 0,m)::cs.drop i
noncomputable def Gd(px:DPx)(gi:DE)(fv:DEm):DSm:=λ τ=>(px τ).bind λ p=>match a6 τ p.1 p.2 with
 |some (.n .l _)=>(gi (b6 τ)).bind λ d=>(fv τ).bind λ x=>(toM x.1).bind λ mv=>match d,a6 x.2 p.1 p.2 with
  |.int i,some (.n .l cs)=>if 0<=i/\i<=cs.length/\cs.length<100000 then some (.next (cX x.2 p.1 p.2 (.n .l (L5 cs i.toNat mv)))) else none
  |_,_=>none
 |_=>none
noncomputable def CK(px:DPx)(gk:DE):DSm:=λ τ=>(px τ).bind λ p=>(gk (b6 τ)).bind λ d=>(jn d).bind λ k=>match a6 τ p.1 p.2 with
 |some (.n .d cs)=>if(cs.any λ c=>decide (c.1=k))=true then some (.next (cX τ p.1 p.2 (.n .d (nW cs k)))) else none
 |_=>none
theorem Iu{ts:Ry Kd}{k}(h:((ts.map Kd.km).any λ c=>decide (c.1=k))=true):∃ v,cC (ts.map Kd.kv) k=some v:=by
 rw[<- Xh,<- fD];rw[Wg]at h ⊢;exact h
def off(H:Hp)(fp:Ry RB):Hp:=λ b=>if b ∈ fp then none else H b
def OR:V->Rz RB
 |.ref a=>some a
 |_=>none
abbrev iB(vs:Ry V):Ry (Rz RB):=vs.map OR
noncomputable def spM(F:Ry Sm->Rz (Sm×Ry Sm))(K:RC):Sp:=λ vs H Q _=>∃ Hs fp as s as',bM Hs H/\StM K (off H fp) Hs H (iB vs) (vs.map some) as fp/\F as=some (s,as')/\∀ v Hs' H' fp',Ext Hs (off H fp) Hs' H'->StM K (off H fp) Hs' H' (none::iB vs) (some v::vs.map some) (s::as') fp'->Q v H'
inductive Am where
 |v (d:D)|p (i:Nat) (q:List Stp)
inductive sY (K:W.Frag) (Hs H:Hp) (σ:St):List V->List Am->Prop where
 |nil:sY K Hs H σ [] []
 |v {x:V} {d:D} {vs:List V} {as:List Am} (h:Rp K Hs x d) (r:sY K Hs H σ vs as):sY K Hs H σ (x::vs) (.v d::as)
 |p {x rt:V} {i:Nat} {q:List Stp} {vs:List V} {as:List Am} (h1:σ[i]?=some (some rt)) (h2:vAt H rt q=some x) (r:sY K Hs H σ vs as):sY K Hs H σ (x::vs) (.p i q::as)
theorem sY.ext{K}{Hs H Hs' H'}{σ}{vs}{as}(g1:bM Hs Hs')(g2:bM H H')(h:sY K Hs H σ vs as):sY K Hs' H' σ vs as:=by
 induction h with
 |nil=>exact .nil
 |v h _ ih=>exact .v (h.same g1) ih
 |p h1 h2 _ ih=>exact .p h1 (bF g2 _ h2) ih
noncomputable def lend:Ry Sm->Ry Am->Rz (Ry Sm)
 |_,[]=>some []
 |τ,.v d::r=>(lend τ r).map (.shr d::·)
 |τ,.p i q::r=>match a6 τ i q with
  |some (.n t cs)=>(lend (τ.set i .no) r).map (.mu true (.n t cs)::·)
  |_=>none
noncomputable def back:Ry Sm->Ry Am->Ry Sm->Rz (Ry Sm)
 |τ,[],_=>some τ
 |τ,.v _::r,_::as=>back τ r as
 |τ,.p i q::r,.mu true m2::as=>(back (τ.set i .no) r as).bind λ τ'=>match τ[i]? with
  |some (.mu b m)=>some (τ'.set i (.mu b (m.put q m2)))
  |_=>none
 |_,_,_=>none
section
variable{K:RC}{H0 Hs H Hs' H':Hp}{ρ:Ry (Rz RB)}{σ:Ry (Rz V)}{τ:Ry Sm}{fp:Ry RB}
theorem StM.rebase(h:StM K H0 Hs H ρ σ τ fp):(∀ c ∈ fp,H1 c=none)->StM K H1 Hs H ρ σ τ fp:=by
 induction h with
 |nil=>exact λ _=>.nil
 |no _ ih=>exact λ q=>.no (ih q)
 |shr h _ ih=>exact λ q=>.shr h (ih q)
 |mu h hp z j _ ih=>exact λ q=>.mu h hp (λ c hc=>q c (Zv _ hc)) j (ih λ c hc=>q c (Ze _ hc))
theorem StM.pin{i:Nat}{b}{m}{v}(h:StM K H0 Hs H ρ σ τ fp):τ[i]?=some (.mu b m)->σ[i]?=some (some v)->b=true->∃ a,ρ[i]?=some (some a)/\v=.ref a:=by
 induction h generalizing i with
 |nil=>intro e;simp at e
 |no _ ih=>
  intro e e2 hb
  cases i with
  |zero=>simp at e
  |succ i=>simpa using ih (by simpa using e) (by simpa using e2) hb
 |shr h _ ih=>
  intro e e2 hb
  cases i with
  |zero=>simp at e
  |succ i=>simpa using ih (by simpa using e) (by simpa using e2) hb
 |@mu p v' b' m' ρ σ τ fq fp h hp z j _ ih=>
  intro e e2 hb
  cases i with
  |zero=>
   have e':Sm.mu b' m'=.mu b m:=by simpa using e
   injection e' with e1 _
   have e3:v'=v:=by simpa using e2
   subst e3;obtain⟨a,h1,h2⟩:=hp (e1.trans hb);exact⟨a,by rw[h1];rfl,h2⟩
  |succ i=>simpa using ih (i:=i) (by simpa using e) (by simpa using e2) hb
theorem StM.fill(h:StM K H0 Hs H ρ σ τ fp)(hv:Od K Hs H fq v m)(z:∀ c ∈ fq,H0 c=none/\c ∉ fp):i<τ.length->σ[i]?=some (some v)->(b=true->∃ a,ρ[i]?=some (some a)/\v=.ref a)->∃ fp',StM K H0 Hs H ρ σ (τ.set i (.mu b m)) fp'/\∀ c ∈ fp',c ∈ fq\/c ∈ fp:=by
 induction h generalizing i with
 |nil=>intro hi;exact absurd hi (by simp)
 |@no p o ρ σ τ fp r ih=>
  intro hi e hp
  cases i with
  |zero=>
   have e':o=some v:=by simpa using e
   subst e';exact⟨_,.mu hv (λ hb=>by obtain⟨a,h1,h2⟩:=hp hb;exact⟨a,by simpa using h1,h2⟩) (λ c hc=>(z c hc).1) (λ c hc=>(z c hc).2) r,λ c h=>Zl.mp h⟩
  |succ i=>
   obtain⟨fp',h1,h2⟩:=ih z (by simpa using hi) (by simpa using e) (by simpa using hp);exact⟨fp',.no h1,h2⟩
 |@shr p v' d ρ σ τ fp h r ih=>
  intro hi e hp
  cases i with
  |zero=>
   have e':v'=v:=by simpa using e
   subst e';exact⟨_,.mu hv (λ hb=>by obtain⟨a,h1,h2⟩:=hp hb;exact⟨a,by simpa using h1,h2⟩) (λ c hc=>(z c hc).1) (λ c hc=>(z c hc).2) r,λ c h=>Zl.mp h⟩
  |succ i=>
   obtain⟨fp',h1,h2⟩:=ih z (by simpa using hi) (by simpa using e) (by simpa using hp);exact⟨fp',.shr h h1,h2⟩
 |@mu p v' b' m' ρ σ τ fq' fp h hp' z' j r ih=>
  intro hi e hp;have zr:∀ c ∈ fq,H0 c=none/\c ∉ fp:=λ c hc=>⟨(z c hc).1,λ q=>(z c hc).2 (Ze _ q)⟩
  cases i with
  |zero=>
   have e':v'=v:=by simpa using e
   subst e';exact⟨_,.mu hv (λ hb=>by obtain⟨a,h1,h2⟩:=hp hb;exact⟨a,by simpa using h1,h2⟩) (λ c hc=>(z c hc).1) (λ c hc=>(zr c hc).2) r,λ c h=>(Zl.mp h).imp id λ q=>Ze _ q⟩
  |succ i=>
   obtain⟨fp',h1,h2⟩:=ih zr (i:=i) (by simpa using hi) (by simpa using e) (by simpa using hp);refine⟨_,.mu h hp' z' (λ c hc q=>?_) h1,λ c hc=>?_⟩
   ·rcases h2 c q with y | y
    · exact(z c y).2 (Zv _ hc)
    · exact j c hc y
   ·rcases Zl.mp hc with y | y
    · exact .inr (Zv _ y)
    · exact(h2 c y).imp id λ q=>Ze _ q
def wJ:back τ [] ss=some τ:=by cases ss<;>rw[back]
theorem p5:∀ {as:Ry Am} {τ ss τ':Ry Sm},back τ as ss=some τ'->τ'.length=τ.length
 |[],τ,ss,τ',e=>by rw[wJ]at e;cases e;rfl
 |.v _::r,τ,[],τ',e=>by cases e
 |.v _::r,τ,_::as,τ',e=>p5 (as:=r) e
 |.p i q::r,τ,[],τ',e=>by cases e
 |.p i q::r,τ,s::as,τ',e=>by
  cases s with
  |no=>cases e
  |shr d=>cases e
  |mu b m2=>
   cases b with
   |false=>cases e
   |true=>
    obtain⟨τ1,e1,e2⟩:=Ub (show(back (τ.set i .no) r as).bind _=_ from e);have l1:=p5 e1;rw[Wh]at l1;split at e2
    ·cases e2
     rw[Wh,l1]
    · cases e2
abbrev Lk:Hp:=λ _=>none
theorem mw{as : Ry Am} : ∀{τ ss:Ry Sm} {fp:Ry RB} {vs:Ry V},StM K H0 Hs H ρ σ τ fp->sY K Hs H σ vs as->lend τ as=some ss->∃ fpa,StM K Lk Hs H (iB vs) (vs.map some) ss fpa/\(∀ c ∈ fpa,c ∈ fp)/\∀ Hs' H' ss' fpa' τ',bM Hs Hs'->(∀ c ∈ fp,c ∉ fpa->Hs' c=none/\H' c=H c)->StM K Lk Hs' H' (iB vs) (vs.map some) ss' fpa'->(∀ c ∈ fpa',c ∈ fpa\/(c ∉ fp/\H0 c=none))->back τ as ss'=some τ'->∃ fp',StM K H0 Hs' H' ρ σ τ' fp'/\∀ c ∈ fp',(c ∈ fp/\c ∉ fpa)\/c ∈ fpa':=by
  induction as with
  |nil=>
    intro τ ss fp vs st rr e;cases rr;cases e;refine⟨[],.nil,λ c hc=>(nomatch hc),λ Hs' H' ss' fpa' τ' g k sa j eb=>?_⟩;rw[wJ]at eb;cases eb;exact⟨fp,st.mv g λ c hc=>k c hc (by simp),λ c hc=>.inl ⟨hc,by simp⟩⟩
  |cons am r mw=>
  intro τ ss fp vs st rr e
  cases rr with
  |v h rr=>
    obtain⟨ss1,e1,rfl⟩:=Zm (show(lend τ r).map _=_ from e);obtain⟨fpa,s1,w1,w2⟩:=mw st rr e1;refine⟨fpa,.shr h s1,w1,λ Hs' H' ss' fpa' τ' g k sa j eb=>?_⟩
    cases ss' with
    |nil=>cases eb
    |cons s as'=>
      cases sa with
      |no sa=>exact w2 Hs' H' as' _ τ' g k sa j eb
      |shr _ sa=>exact w2 Hs' H' as' _ τ' g k sa j eb
      |mu _ _ _ _ sa=>
        obtain⟨fp',h1,h2⟩:=w2 Hs' H' as' _ τ' g k sa (λ c hc=>j c (Ze _ hc)) eb;exact⟨fp',h1,λ c hc=>(h2 c hc).imp id λ y=>Ze _ y⟩
  |@p x rt i q vs _ h1 h2 rr=>
    have e':(match a6 τ i q with|some (.n t cs)=>(lend (τ.set i .no) r).map (.mu true (.n t cs)::·)|_=>none)=some ss:=e;split at e'
    · rename_i t cs eg
      obtain⟨ss1,e1,rfl⟩:=Zm e';obtain⟨b,m,em,egm⟩:=cY eg;obtain⟨v0,fq,fp0,o1,o2,o3,o4,o5⟩:=st.out em;rw[h1]at o1;cases o1;obtain⟨fp1,v1,w1,w2,w3,w4⟩:=o2.uJ q egm;rw[h2]at w1;cases w1;obtain⟨a,dx,ts,u,rfl,_⟩:=w2.inv;obtain⟨fpa,s1,a1,a2⟩:=mw o3 rr e1;have dj:∀ c ∈ fp1,c ∉ fpa:=λ c hc y=>(o4 c (w3 c hc)).1 (a1 c y)
      refine⟨fp1++fpa,.mu w2 (λ _=>⟨a,rfl,rfl⟩) (λ _ _=>rfl) dj s1,λ c hc=>?_,λ Hs' H' ss' fpa' τ' g k sa j eb=>?_⟩
      · rcases Zl.mp hc with y | y
        · exact(o5 c).mpr (.inl (w3 c y))
        · exact(o5 c).mpr (.inr (a1 c y))
      · cases ss' with
        |nil=>cases eb
        |cons s as'=>
          cases s with
          |no=>cases eb
          |shr d=>cases eb
          |mu b2 m2=>
            cases b2 with
            |false=>cases eb
            |true=>
              obtain⟨τ1,eb1,eb2⟩:=Ub (show(back (τ.set i .no) r as').bind _=_ from eb);simp only[em]at eb2;cases eb2
              cases sa with
              |@mu _ _ _ _ _ _ _ fq2 fpr od2 _ _ jj sr=>
                obtain⟨fpx,x1,x2⟩:=a2 Hs' H' as' fpr τ1 g (λ c hc hn=>k c ((o5 c).mpr (.inr hc)) λ y=>(Zl.mp y).elim (λ y=>(o4 c (w3 c y)).1 hc) hn) sr (λ c hc=>by
                  rcases j c (Ze _ hc) with y|y
                  · rcases Zl.mp y with y | y
                    · exact .inr ⟨(o4 c (w3 c y)).1,(st.live c (o4 c (w3 c y)).2).2.2⟩
                    · exact .inl y
                  · exact .inr ⟨λ z=>y.1 ((o5 c).mpr (.inr z)),y.2⟩) eb1
                obtain⟨fpo,y1,y2⟩:=w4 Hs' H' fq2 m2 g (λ c hc hn=>k c ((o5 c).mpr (.inl hc)) λ y=>(Zl.mp y).elim hn λ y=>(o4 c hc).1 (a1 c y)) od2 (λ c hc=>by
                  rcases j c (Zv _ hc) with y|y
                  · rcases Zl.mp y with y | y
                    · exact .inl y
                    · exact .inr λ z=>(o4 c z).1 (a1 c y)
                  · exact .inr λ z=>y.1 ((o5 c).mpr (.inl z)))
                have hlen:i<τ1.length:=by
                  rw[p5 eb1,Wh];exact(QB.mp em).1
                obtain⟨fp',z1,z2⟩:=x1.fill (i:=i) (b:=b) y1 (λ c hc=>by
                  rcases(y2 c).mp hc with y|y
                  · refine ⟨(st.live c (o4 c y.1).2).2.2,λ z=>?_⟩
                    rcases x2 c z with z|z
                    · exact(o4 c y.1).1 z.1
                    · rcases j c (Ze _ z) with w | w
                      · rcases Zl.mp w with w | w
                        · exact y.2 w
                        · exact(o4 c y.1).1 (a1 c w)
                      · exact w.1 (o4 c y.1).2
                  · refine ⟨?_,λ z=>?_⟩
                    · rcases j c (Zv _ y) with w | w
                      · rcases Zl.mp w with w | w
                        · exact(st.live c (o4 c (w3 c w)).2).2.2
                        · exact(st.live c ((o5 c).mpr (.inr (a1 c w)))).2.2
                      · exact w.2
                    · rcases x2 c z with z | z
                      · rcases j c (Zv _ y) with w | w
                        · rcases Zl.mp w with w | w
                          · exact(o4 c (w3 c w)).1 z.1
                          · exact z.2 w
                        · exact w.1 ((o5 c).mpr (.inr z.1))
                      · exact jj c y z) hlen h1 (λ hb=>st.pin em h1 hb)
                refine⟨fp',z1,λ c hc=>?_⟩;rcases z2 c hc with y|y
                · rcases (y2 c).mp y with y | y
                  · exact .inl ⟨(o4 c y.1).2,λ w=>(Zl.mp w).elim y.2 λ w=>(o4 c y.1).1 (a1 c w)⟩
                  · exact .inr (Zv _ y)
                · rcases x2 c y with y | y
                  · exact .inl ⟨(o5 c).mpr (.inr y.1),λ w=>(Zl.mp w).elim (λ w=>(o4 c (w3 c w)).1 y.1) y.2⟩
                  · exact .inr (Ze _ y)
    · cases e'
end
abbrev DAm:=Ry Sm->Rz (Ry Am)
def OQ(N:Hp)(K:RC)(g:DAm):TA:=λ σ H Q=>∃(Hs0 H0:Hp),∃(_:Nf N H0),∃ ρ Hs τ as,b7 K Hs0 H0 ρ Hs H σ τ/\g τ=some as/\∀ vs Hs' H',bM H H'->b7 K Hs0 H0 ρ Hs' H' σ τ->bM Hs Hs'->sY K Hs' H' σ vs as->Q vs H'
def PAm(X:Cx)(es:Ry Expr)(g:DAm):Prop:=PA X es (OQ X.H₀ X.K g)
noncomputable def PK(N:Hp)(K:RC)(g:Ry Sm->Rz Am):TE:=λ σ H Q=>∃(Hs0 H0:Hp),∃(_:Nf N H0),∃ ρ Hs τ a,b7 K Hs0 H0 ρ Hs H σ τ/\g τ=some a/\∀ v Hs' H',bM H H'->b7 K Hs0 H0 ρ Hs' H' σ τ->bM Hs Hs'->sY K Hs' H' σ [v] [a]->Q v H'
def PQm(X:Cx)(e:Expr)(g:Ry Sm->Rz Am):Prop:=PE X e (PK X.H₀ X.K g)
def qS(g:DE):Ry Sm->Rz Am:=λ τ=>(g (b6 τ)).bind λ d=>if sca d=true then some (.v d) else none
def qN(g:DE):Ry Sm->Rz Am:=λ τ=>(g (er τ)).map .v
def qX(f:DPx):Ry Sm->Rz Am:=λ τ=>(f τ).bind λ p=>match a6 τ p.1 p.2 with
 |some (.n _ _)=>some (.p p.1 p.2)
 |some (.s d)=>some (.v d)
 |none=>none
def Em:DAm:=λ _=>some []
def sQ(h:Ry Sm->Rz Am)(g:DAm):DAm:=λ τ=>(h τ).bind λ a=>(g τ).map (a::·)
theorem sY.app{K}{Hs H}{σ}{v}{a}{vs}{as}(h:sY K Hs H σ [v] [a])(r:sY K Hs H σ vs as):sY K Hs H σ (v::vs) (a::as):=by
 cases h with
 |v h _=>exact .v h r
 |p h1 h2 _=>exact .p h1 h2 r
def Eg(F:Ry Sm->Rz (Sm×Ry Sm))(τ:Ry Sm)(as:Ry Am):Rz (Sm×Ry Sm):=(lend τ as).bind λ ss=>(F ss).bind λ x=>(back τ as x.2).map λ τ'=>(x.1,τ')
section
variable{K:RC}{Hs0 H0 Hs H Hs' H':Hp}{ρ:Ry (Rz RB)}{σ:St}{τ:Ry Sm}
theorem lV(h:off H fp c=none):c ∈ fp\/H c=none:=by
 unfold off at h;split at h
 · exact .inl ‹_›
 · exact .inr h
def Dq:bM (off H fp) H:=λ b o e=>by
 unfold off at e;split at e
 · cases e
 · exact e
def Aa(h:c ∈ fp):off H fp c=none:=if_pos h
def iQ(h:c ∉ fp):off H fp c=H c:=if_neg h
theorem b7.call (r:b7 K Hs0 H0 ρ Hs H σ τ) (ha:sY K Hs H σ vs as) (e:Eg F τ as=some (s,τ'))
  (k:∀ v Hs' H',b7 K Hs0 H0 (none::ρ) Hs' H' (some v::σ) (s::τ')->Q v H'):spM F K vs H Q E:=by
 obtain⟨ss,e1,e⟩:=Ub e;obtain⟨⟨s0,ss'⟩,e2,e⟩:=Ub e;obtain⟨τ0,e3,e4⟩:=Zm e;obtain⟨e4,e5⟩:=Prod.mk.inj e4;have e4':=e4;subst e4' e5;obtain⟨fp,st⟩:=r.st;obtain⟨fpa,sA,sub,uJ⟩:=mw st ha e1;refine⟨Hs,fpa,ss,s0,ss',r.sm,sA.rebase λ c hc=>Aa hc,e2,λ v Hs' H' fp2 g s2=>?_⟩
 have far:∀ c ∈ fp,c ∉ fpa->Hs' c=none/\H' c=H c:=λ c hc hn=>by
  obtain⟨l1,l2,_⟩:=st.live c hc;have ho:off H fpa c=H c:=iQ hn;refine⟨g.fr c l1 (by rw[ho];exact l2),?_⟩
  cases q:H c with
  |none=>exact absurd q l2
  |some u=>exact g.hh _ _ (ho.trans q)
 have ex:Ext Hs0 H0 Hs' H':=by
  have nf:∀ c,H0 c≠none->c ∉ fpa:=λ c h q=>h (st.live c (sub c q)).2.2
  refine⟨r.ext.ss.trans g.ss,g.sh,λ c o e=>?_,λ c h1 h2=>?_⟩
  · exact g.hh _ _ ((iQ (nf c (gu e))).trans (r.ext.hh _ _ e))
  · exact g.fr c (r.ext.fr c h1 h2) (by rw[iQ (nf c h2)];exact r.ext.hh.live h2)
 have fin:∀ fpr,StM K (off H fpa) Hs' H' (iB vs) (vs.map some) ss' fpr->∃ fp',StM K H0 Hs' H' ρ σ τ0 fp'/\∀ c ∈ fp',(c ∈ fp/\c ∉ fpa)\/c ∈ fpr:=λ fpr sr=>by
  refine uJ Hs' H' ss' fpr τ0 g.ss far (sr.rebase λ _ _=>rfl) (λ c hc=>?_) e3;rcases lV (sr.live c hc).2.2 with y|y
  · exact .inl y
  · exact .inr ⟨st.new y,r.old y⟩
 cases s2 with
 |no sr=>
  obtain⟨fp',h1,_⟩:=fin _ sr;exact k v Hs' H' ⟨ex,_,.no h1⟩
 |shr h sr=>
  obtain⟨fp',h1,_⟩:=fin _ sr;exact k v Hs' H' ⟨ex,_,.shr h h1⟩
 |@mu _ _ b m _ _ _ fq fpr od hp z j sr=>
  obtain⟨fp',h1,h2⟩:=fin _ sr;refine k v Hs' H' ⟨ex,_,.mu od (λ hb=>by obtain⟨a,q,_⟩:=hp hb;cases q) (λ c hc=>?_) (λ c hc y=>?_) h1⟩
  ·rcases lV (z c hc) with y | y
   · exact(st.live c (sub c y)).2.2
   · exact r.old y
  ·rcases h2 c y with w | w
   ·rcases lV (z c hc) with y | y
    · exact w.2 y
    · exact(st.live c w.1).2.1 y
   · exact j c hc w
end
noncomputable def eM(C:RB)(m:Str)(F:Ry Sm->Rz (Sm×Ry Sm))(f:DPx)(g:DAm):DEm:=λ τ=>(f τ).bind λ p=>match a6 τ p.1 p.2 with
 |some (.n (.o C') cs)=>if C'=C/\(cs.any λ c=>decide (c.1=.inr m))=false then(g τ).bind λ as=>Eg F τ (.p p.1 p.2::as) else none
 |_=>none
noncomputable def eK(C:RB)(F:Ry Sm->Rz (Sm×Ry Sm))(g:DAm):DEm:=λ τ=>(g τ).bind λ as=>(lend τ as).bind λ ss=>(F (.mu true (.n (.o C) [])::ss)).bind λ x=>match x.1,x.2 with
 |.shr .non,.mu true m::r=>(back τ as r).map λ τ'=>(.mu false m,τ')
 |_,_=>none
section
variable{X:Cx}{a b c e o:Expr}{es:Ry Expr}{pos Qw Qx pos' p:Pos}{x m:Str}{k:Nat}{f fa C:RB}{fd:FuncData}{ps:Ry Str}{F:Ry Sm->Rz (Sm×Ry Sm)}{g:DAm}
theorem GK (ho:PXm X o fx) (c:Cls X.K C) (hm:FA X.K C m fa) (Fo:ir X.prog X.w X.K X.mg X.base CX0 k fa fd ps (spM F X.K)) (hr:cp k X.A) (hb:Binds X.K fd ps []) (ha:PAm X (e::es) g)
  (hst:Se X e es:=by rfl) (hpl:Sb X pos es:=by rfl)
  (ht:eval (.Call (.Attribute o m Qw) (e::es) [] pos) X.env=(do
    let ov <- eval o X.env
    standAt Qw.atName
    let (f,first) <- holding [ov] (getMethod ov m pl)
    callWith pos f first (backTo pos (starEach (e::es) X.env)) (backToKw pos (keywordEach [] X.env))):=by rfl):PEm X (.Call (.Attribute o m Qw) (e::es) [] pos) (eM C m F fx g):=(zw ho c hm Fo hr hb .nil jf ha hst hpl ht).imp λ σ H Q w0=>g83 w0 λ Hs0 H0 nf ρ Hs τ s τ' r e k=>by
 obtain⟨⟨i,q⟩,e1,e2⟩:=Ub e;split at e2
 ·rename_i C' cs en
  split at e2
  · rename_i hc
    obtain⟨hc,hn⟩:=hc;subst hc;obtain⟨as,e3,e4⟩:=Ub e2;refine⟨Hs0,H0,nf,ρ,Hs,τ,i,q,_,r,e1,en,λ rt v1 H1 g1 hrt hq=>?_⟩;have r1:=r.grow g1;obtain⟨a,dx,ts,u,rfl,rfl,hu,hl,_⟩:=r1.qT en hrt hq;generalize ek:ts.map Kd.kv=kvs at hl
    cases hl with
    |o fs=>
     refine⟨a,dx,fs,rfl,hu,?_,Hs0,H0,nf,ρ,Hs,τ,as,r1,e3,λ vs Hs2 H2 g2 r2 s2 a2=>?_⟩
     ·rw [<- oP,<- ek]
      have:=fD (Sum.inr m) (ts.map Kd.kv);rw[Wg]at this hn;have h2:=this.symm.trans hn
      cases q:cC (ts.map Kd.kv) (Sum.inr m) with
      |none=>rfl
      |some y=>rw[q]at h2;cases h2
     ·show spM F X.K (V.ref a::(vs++[])) H2 Q E0
      rw[Zz];exact r2.call (.p hrt (bF g2 q hq) a2) e4 k
  · cases e2
 · cases e2
theorem vD{σ}{H}{Q:V->Hp->Prop}(w0:OP X.H₀ X.K (eK C F g) σ H Q):FT C (spM F X.K) [] E0 (OQ X.H₀ X.K g) σ H Q:=g83 w0 λ Hs0 H0 nf ρ Hs τ s τ' r e k=>by
 obtain⟨as,e1,e2⟩:=Ub e;obtain⟨ss,e3,e4⟩:=Ub e2;obtain⟨⟨s0,ss'⟩,e5,e6⟩:=Ub e4;refine⟨Hs0,H0,nf,ρ,Hs,τ,as,r,e1,λ vs Hs1 H1 g1 r1 s1 a1 y dx hy hdx ne=>?_⟩;rw[Zz];split at e6
 ·rename_i m0 r0 q1 q2
  have q1':=q1;have q2':=q2;subst q1' q2';obtain⟨τ0,e7,e8⟩:=Zm e6;cases e8
  let H2:Hp:=upd (upd H1 dx (.own y)) y (.ins C dx [])
  have hy1:upd H1 dx (.own y) y=none:=(ar (QH ne)).trans hy;have g2:bM H1 H2:=(aF hdx _).trans (aF hy1 _);have r2:=r1.grow g2;obtain⟨fp,st⟩:=r1.st;have st2:=st.ext ⟨.refl _,r1.ext.sh.trans g2,g2,λ _ h _=>h⟩;obtain⟨fpa,sA,sub,uJ⟩:=mw st2 (a1.ext (.refl _) g2) e3;have yfp:=st.new hy;have od:Od X.K Hs1 H2 [y] (.ref y) (.n (.o C) []):=Od.n (ts:=[]) ay (.o []) (r1.sm.free hy) (by show([]:Ry Key).Nodup;exact .nil) (by simp) (λ c hc=>by cases hc);have sN:StM X.K (off H2 (y::fpa)) Hs1 H2 (iB (.ref y::vs)) ((V.ref y::vs).map some) (.mu true (.n (.o C) [])::ss) ([y]++fpa):=.mu od (λ _=>⟨y,rfl,rfl⟩) (λ c hc=>Aa (by rw[Zy.mp hc];exact Zg ..)) (λ c hc q=>yfp (sub y (by rw[<- Zy.mp hc];exact q))) (sA.rebase λ c hc=>Aa (Zd _ hc));refine⟨Hs1,y::fpa,_,_,_,r2.sm,sN,e5,λ v Hs' H' fp2 g s2=>⟨?_,?_⟩⟩
  ·cases s2 with
   |shr h _=>cases h;rfl
  ·cases s2 with
   |shr h sr=>
   cases sr with
   |@mu _ _ _ _ _ _ _ fq fpr od2 hp z j sr=>
   have far:∀ c ∈ fp,c ∉ fpa->Hs' c=none/\H' c=H2 c:=λ c hc hn=>by
    obtain⟨l1,l2,_⟩:=st2.live c hc;have ho:off H2 (y::fpa) c=H2 c:=iQ λ q=>(Zi.mp q).elim (λ q=>yfp (q ▸ hc)) hn
    refine⟨g.fr c l1 (by rw[ho];exact l2),?_⟩
    cases q:H2 c with
    |none=>exact absurd q l2
    |some u=>exact g.hh _ _ (ho.trans q)
   have h0y:=r1.old hy
   have ex:Ext Hs0 H0 Hs' H':=by
    have nf:∀ c,H0 c≠none->c ∉ y::fpa:=λ c h q=>(Zi.mp q).elim (λ q=>h (q ▸ h0y)) λ q=>h (st.live c (sub c q)).2.2
    refine⟨r1.ext.ss.trans g.ss,g.sh,λ c o e=>?_,λ c h1 h2=>?_⟩
    · exact g.hh _ _ ((iQ (nf c (gu e))).trans (r2.ext.hh _ _ e))
    · exact g.fr c (r1.ext.fr c h1 h2) (by rw[iQ (nf c h2)];exact r2.ext.hh.live h2)
   obtain⟨fp',h1,h2⟩:=uJ Hs' H' r0 fpr _ g.ss far (sr.rebase λ _ _=>rfl) (λ c hc=>by
    rcases lV (sr.live c hc).2.2 with w|w
    ·rcases Zi.mp w with w | w
     ·subst w
      exact .inr ⟨yfp,h0y⟩
     · exact .inl w
    · exact .inr ⟨st2.new w,r2.old w⟩) e7
   refine k (.ref y) Hs' H' ⟨ex,_,.mu od2 (λ hb=>by cases hb) (λ c hc=>?_) (λ c hc q=>?_) h1⟩
   ·rcases lV (z c hc) with w | w
    ·rcases Zi.mp w with w | w
     · rw[w];exact h0y
     · exact(st.live c (sub c w)).2.2
    · exact r2.old w
   ·rcases h2 c q with w | w
    ·rcases lV (z c hc) with y' | y'
     ·rcases Zi.mp y' with y' | y'
      · exact yfp (y' ▸ w.1)
      · exact w.2 y'
     · exact(st2.live c w.1).2.1 y'
    · exact j c hc w
 · cases e6
theorem GL (M:Mk X.K C fa) (Fo:ir X.prog X.w X.K X.mg X.base CX0 k fa fd ps (spM F X.K)) (hr:cp (k+1) X.A) (hg:Gl X x) (hm:X.mg x=some (.ref C)) (hb:Binds X.K fd ps [])
 (ha:PAm X (e::es) g) (hdb:Dg x:=by decide) (he:Se X e es:=by rfl) (hpl:Sb X pos es:=by rfl):PEm X (.Call (.Name x p) (e::es) [] pos) (eK C F g):=(zx M Fo hr hg hm hb .nil jf ha hdb he hpl).imp λ _ _ _=>vD
end
def AR:Sm->Sm
 |.mu true m=>.mu true m
 |_=>.no
noncomputable def iA(n m:Nat)(b:DSm)(as:Ry Sm):Rz (Sm×Ry Sm):=if as.length=m then(match b (as++List.replicate (n - as.length) .no) with
 |some (.ret s τ)=>some (s,(τ.take m).map AR)
 |some (.next τ)=>some (.shr .non,(τ.take m).map AR)
 |_=>none) else none
section
variable{K:RC}{H0 Hs H:Hp}
theorem StM.startM k (h:StM K H0 Hs H ρ σ τ fp):StM K H0 Hs H (ρ++List.replicate k none) (σ++List.replicate k none) (τ++List.replicate k .no) fp:=by
 induction h with
 |nil=>
  induction k with
  |zero=>exact .nil
  |succ k ih=>rw[X8,X8,X8];exact .no ih
 |no _ ih=>exact .no ih
 |shr h _ ih=>exact .shr h ih
 |mu h hp z j _ ih=>exact .mu h hp z j ih
theorem StM.uE:∀ {vs:Ry V} {ρ:Ry (Rz RB)} {σ:Ry (Rz V)} {τ:Ry Sm} {fp:Ry RB},StM K H0 Hs H (iB vs++ρ) σ τ fp->∃ fp',StM K H0 Hs H (iB vs) (vs.map some) ((τ.take vs.length).map AR) fp'/\∀ c ∈ fp',c ∈ fp
 |[],ρ,σ,τ,fp,h=>⟨[],.nil,λ c hc=>(nomatch hc)⟩
 |v :: vs,ρ,σ,τ,fp,h=>by
  cases h with
  |no r=>
   obtain⟨fp',h1,h2⟩:=StM.uE r;exact⟨fp',.no h1,h2⟩
  |shr _ r=>
   obtain⟨fp',h1,h2⟩:=StM.uE r;exact⟨fp',.no h1,h2⟩
  |@mu _ w b m _ _ _ fq fr od hp z j r=>
   obtain⟨fp',h1,h2⟩:=StM.uE r
   cases b with
   |false=>exact⟨fp',.no h1,λ c hc=>Ze _ (h2 c hc)⟩
   |true=>
    obtain⟨a,p1,p2⟩:=hp rfl
    have ev:v=.ref a:=by
     cases v<;>simp[OR]at p1
     rw[p1]
    subst p2;subst ev;exact⟨fq++fp',.mu od (λ _=>⟨a,rfl,rfl⟩) z (λ c hc q=>j c hc (h2 c q)) h1,λ c hc=>(Zl.mp hc).elim (Zv _) λ q=>Ze _ (h2 c q)⟩
theorem Od.G7(h:Od K Hs H fp v m):∀ c ∈ fp,∀ o u,H c≠some (.frz o u):=by
 induction h with
 |s r=>intro c h;cases h
 |@n a dx t ts u h hl nh ku nd r ih=>
  intro c hc o w;rcases Zi.mp hc with e|e
  ·subst e
   rw[h];generalize ts.map Kd.kv=kvs at hl;cases hl<;>(intro z;cases z)
  ·obtain ⟨k,hk,hb⟩:=Yh.mp e
   exact ih k hk c hb o w
theorem StM.G7(h:StM K H0 Hs H ρ σ τ fp):∀ c ∈ fp,∀ o u,H c≠some (.frz o u):=by
 induction h with
 |nil=>intro c h;cases h
 |no _ ih=>exact ih
 |shr _ _ ih=>exact ih
 |mu h hp z j _ ih=>exact λ c hc=>(Zl.mp hc).elim (h.G7 c) (ih c)
variable{P:Program}{w:World}{mg:Str->Rz RA}{base:Heap}
theorem OY{N ps:Ry Str}{b}{vs}{H}{Q}{E}(h:spM (iA N.length ps.length b) K vs H Q E):vs.length=ps.length:=by
 obtain⟨Hs,fp,as,s,as',sm,r,e,_⟩:=h;unfold iA at e;split at e
 ·rename_i hl
  have:=r.len;rw[Za]at this;rw[this];exact hl
 · cases e
theorem LI{N ps:Ry Str}{b}{vs}{H}{Q}{E}(h:spM (iA N.length ps.length b) K vs H Q E):MO H K b { nx:=λ _ H'=>Q .non H',rt:=Q } (start N vs) H:=by
 obtain⟨Hs,fp,as,sl,as',sm,r,e,q⟩:=h;have lv:vs.length=as.length:=by have:=r.len;rw[Za]at this;exact this
 unfold iA at e;split at e
 ·rename_i hl
  have h0:b7 K Hs (off H fp) (iB vs++List.replicate (N.length - vs.length) none) Hs H (start N vs) (as++List.replicate (N.length - as.length) .no):=⟨⟨.refl _,sm,Dq,λ _ h _=>h⟩,fp,by unfold start;rw[lv];exact r.startM _⟩
  have nf:Nf H (off H fp):=λ d o u e z=>by
   rcases lV z with q|q
   · exact r.G7 d q o u e
   · rw[q]at e;cases e
  cases q2:b (as++List.replicate (N.length - as.length) .no) with
  |none=>rw[q2]at e;cases e
  |some o=>
   rw[q2]at e;refine⟨Hs,off H fp,nf,_,Hs,_,o,h0,q2,?_⟩
   cases o with
   |next τ=>
    cases e;intro σ Hs' H' r';obtain⟨fp1,s1⟩:=r'.st;obtain⟨fp2,s2,_⟩:=s1.uE;rw[lv,hl]at s2;exact q .non Hs' H' fp2 r'.ext (.shr .non s2)
   |ret s τ=>
    cases e;intro v σ Hs' H' r';obtain⟨fp1,s1⟩:=r'.st
    cases s1 with
    |no s1=>
     obtain⟨fp2,s2,_⟩:=s1.uE;rw[lv,hl]at s2;exact q v Hs' H' fp2 r'.ext (.no s2)
    |shr h s1=>
     obtain⟨fp2,s2,_⟩:=s1.uE;rw[lv,hl]at s2;exact q v Hs' H' fp2 r'.ext (.shr h s2)
    |mu h hp z j s1=>
     obtain⟨fp2,s2,sub⟩:=s1.uE;rw[lv,hl]at s2;exact q v Hs' H' _ r'.ext (.mu h hp z (λ c hc y=>j c hc (sub c y)) s2)
   |brk τ=>cases e
   |cnt τ=>cases e
 · cases e
theorem Fun.M7 {x qual} {st} {f} {fd} {N ps} {k} {b} Am (F:Fun K x qual st f fd) (S:cB N ps (aG st))
  (hbody:∀ cdv A outer s H E,Am H->cp k (A.deeper (envOfC qual (aG st) s.heap.objs.size f cdv))->uH (wm CX0 P w K mg base N qual (aG st) f cdv A outer s H E).nox (bh st) b):ir P w K mg base CX0 (k+1) f fd ps (spT Am (spM (iA N.length ps.length b) K)):=by
 exact F.ok S (λ vs H Q E h=>OY h.2) λ cdv A outer s H vs Q E hr h=>⟨_,hbody cdv A outer s H E h.1 hr,LI h.2⟩
theorem Fun.okM {x qual} {st} {f} {fd} {N ps} {k} {b} (F:Fun K x qual st f fd) (S:cB N ps (aG st))
  (hbody:∀ cdv A outer s H E,cp k (A.deeper (envOfC qual (aG st) s.heap.objs.size f cdv))->uH (wm CX0 P w K mg base N qual (aG st) f cdv A outer s H E).nox (bh st) b):ir P w K mg base CX0 (k+1) f fd ps (spM (iA N.length ps.length b) K):=
 (F.M7 (λ _=>True) S λ cdv A outer s H E _=>hbody cdv A outer s H E).imp λ _ _ _ _ h=>⟨trivial,h⟩
end
section
variable{K:RC}{Hs0 H0 Hs H Hs' H':Hp}{ρ:Ry (Rz RB)}{σ:St}{τ:Ry Sm}
theorem b7.rebase(r:b7 K Hs0 H0 ρ Hs H σ τ):b7 K Hs H0 ρ Hs H σ τ:=⟨⟨.refl _,r.sm,r.ext.hh,λ _ h _=>h⟩,r.st⟩
def b7.kg(a:Ext Hs0 H0 Hs1 H1)(r:b7 K Hs1 H0 ρ Hs H σ τ):b7 K Hs0 H0 ρ Hs H σ τ:=⟨a.sub r.ext,r.st⟩
theorem Mj.rebase(a:Ext Hs0 H0 Hs1 H1)(h:Mj K Hs0 H0 ρ E o):Mj K Hs1 H0 ρ E o:=by
 cases o with
 |next τ=>exact λ σ Hs H r=>h σ Hs H (r.kg a)
 |brk τ=>exact λ σ Hs H r=>h σ Hs H (r.kg a)
 |cnt τ=>exact λ σ Hs H r=>h σ Hs H (r.kg a)
 |ret s τ=>exact λ v σ Hs H r=>h v σ Hs H (r.kg a)
theorem b7.Cd(r:b7 K Hs0 H0 ρ Hs H σ τ)(h:Rp K Hs v d):b7 K Hs0 H0 ρ Hs H (σ.set i (some v)) (τ.set i (.shr d)):=⟨r.ext,by
 obtain⟨fp,st⟩:=r.st;obtain⟨fp',h1,_⟩:=st.Cd (i:=i) h
 exact⟨fp',h1⟩⟩
end
def eD0:DEm:=λ τ=>some (.mu false (.n .d []),τ)
abbrev DGm:=D->Ry Sm->Rz (Ry Sm)
def PM(N:Hp)(K:RC)(g:DGm):TG:=λ v σ H Q=>∃(Hs0 H0:Hp),∃(_:Nf N H0),∃ ρ Hs τ τ' d,b7 K Hs0 H0 ρ Hs H σ τ/\Rp K Hs v d/\g d τ=some τ'/\∀ σ',b7 K Hs0 H0 ρ Hs H σ' τ'->Q σ' H
def PGm(X:Cx)(tg:Expr)(g:DGm):Prop:=PG X tg (PM X.H₀ X.K g)
abbrev IU:=Ry D->Ry Sm->Rz (Ry Sm)
def MP(N:Hp)(K:RC)(g:IU):TGs:=λ v σ H Q=>∃(Hs0 H0:Hp),∃(_:Nf N H0),∃ ρ Hs τ τ' d,b7 K Hs0 H0 ρ Hs H σ τ/\Rps K Hs v d/\g d τ=some τ'/\∀ σ',b7 K Hs0 H0 ρ Hs H σ' τ'->Q σ' H
def Mg(X:Cx)(tg:Ry Expr)(g:IU):Prop:=PGs X tg (MP X.H₀ X.K g)
def gNm(i:Nat):DGm:=λ d τ=>some (τ.set i (.shr d))
def A7:IU:=λ ds τ=>if ds.isEmpty=true then some τ else none
def pH(g:DGm)(h:IU):IU:=λ ds τ=>match ds with|d::r=>(g d τ).bind λ τ'=>h r τ'|[]=>none
def gTm(n:Nat)(g:IU):DGm:=λ d τ=>match d with|.tup ds=>if ds.length=n then g ds τ else none|_=>none
def forM (b:D->DSm):Ry D->DSm
 |[],τ=>some (.next τ)
 |d::ds,τ=>match b d τ with
  |some (.next τ')=>forM b ds τ'
  |some (.cnt τ')=>forM b ds τ'
  |some (.brk τ')=>some (.next τ')
  |r=>r
def xh(it:DI)(g:DGm)(b:DSm):DSm:=λ τ=>(it (er τ)).bind λ ds=>forM (λ d τ=>(g d τ).bind b) ds τ
theorem Od.PD{K}{Hs H}{fp}{v}{d}(h:Od K Hs H fp v (.s d)):Rp K Hs v d:=by
 cases h with
 |s r=>exact r
def kD:Key->D
 |.inl i=>.int i
 |.inr x=>.str x
end L2
end
section
namespace L2
open PySem
section
variable{τ τ' τ1:Ry Sm}{f g:DSm}{s:Sm}{o:En}{b:Bool}{d:D}{i j:Nat}{q:Ry Stp}{m m2 mv:Mt}{cs:Ry (Key×Mt)}{k:Key}
theorem a7(h:f τ=some (.next τ'))(h2:g τ'=some o):jL f g τ=some o:=by unfold jL;rw[h];exact h2
theorem dS{f}(h:f τ=some (s,τ'))(hi:i<τ'.length)(hs:(toM s).isSome=true):yR i f τ=some (.next (τ'.set i s)):=by unfold yR;rw[h];exact if_pos ⟨hi,hs⟩
theorem mj{f}(h:f τ=some (s,τ')):qp f τ=some (.next τ'):=by unfold qp;rw[h];rfl
theorem fL{g}(h:g (b6 τ)=some d):yU g τ=some (.next τ):=by unfold yU;rw[h];rfl
theorem Dz(h:t τ=some (true,τ'))(h2:f τ'=some o):IG t f g τ=some o:=by unfold IG;rw[h];show(if true=true then f τ' else g τ')=_;rw[if_pos rfl];exact h2
theorem pB(h:t τ=some (false,τ'))(h2:g τ'=some o):IG t f g τ=some o:=by unfold IG;rw[h];show(if false=true then f τ' else g τ')=_;rw[if_neg (by simp)];exact h2
theorem mi{f}(h:f τ=some (s,τ')):Gb f τ=some (.ret s τ'):=by unfold Gb;rw[h];rfl
theorem v_S{g}(h:g (b6 τ)=some d)(hs:sca d=true):eS g τ=some (.shr d,τ):=by unfold eS;rw[h];exact if_pos hs
theorem v_N{g}(h:g (er τ)=some d):eN g τ=some (.shr d,τ):=by unfold eN;rw[h];rfl
theorem v_O{g}{ds}(h:g (b6 τ)=some (.lst ds))(hs:ds.all sca=true):eO g τ=some (.mu false (lM ds),τ):=by unfold eO;rw[h];exact if_pos hs
theorem v_V(h:τ[i]?=some (.mu false m)):eV i τ=some (.mu false m,τ.set i .no):=by unfold eV;rw[h]
theorem t_S{g}(h:g (b6 τ)=some b):tS g τ=some (b,τ):=by unfold tS;rw[h];rfl
theorem mf(h:τ[i]?=some (.mu b m)):a6 τ i q=m.get q:=by unfold a6;rw[h]
theorem iD(h:τ[i]?=some (.mu b m)):cX τ i q m2=τ.set i (.mu b (m.put q m2)):=by unfold cX;rw[h]
def cq:nA i τ=some (i,[]):=rfl
theorem lK{C}{x}{f}(h:f τ=some (i,q))(hm:a6 τ i q=some (.n (.o C) cs)):Gw C x f τ=some (i,q++[.k (.inr x)]):=by
 unfold Gw;rw[h];show(match a6 τ i q with|some (.n (.o C') _)=>if C'=C then some (i,q++[Stp.k (.inr x)]) else none|_=>none)=_;rw[hm];exact if_pos rfl
theorem wQ{f}{gk}(h:f τ=some (i,q))(hk:gk (b6 τ)=some d)(he:jn d=some k)(hm:a6 τ i q=some (.n .d cs)):tE f gk τ=some (i,q++[.k k]):=by
 unfold tE;rw[h];show(gk (b6 τ)).bind _=_;rw[hk];show(jn d).bind _=_;rw[he];show(match a6 τ i q with|some (.n .d _)=>some (i,q++[Stp.k k])|_=>none)=_;rw[hm]
theorem gj(h1:fv τ=some (s,τ1))(h2:px τ1=some (i,q))(h3:gk (b6 τ1)=some d)(h4:jn d=some k)(h5:toM s=some mv)(h6:a6 τ1 i q=some (.n .d cs))(h7:cs.length<100000):yV px gk fv τ=some (.next (cX τ1 i q (.n .d (ki cs k mv)))):=by
 unfold yV;simp only[h1,h2,h3,h4,h5,h6,Yi];exact if_pos h7
theorem He(h1:fv τ=some (s,τ1))(h2:px τ1=some (i,q))(h5:toM s=some mv)(h6:a6 τ1 i q=some (.n (.o C) cs))(h7:cs.length<1000):CO C x px fv τ=some (.next (cX τ1 i q (.n (.o C) (ki cs (.inr x) mv)))):=by
 unfold CO;simp only[h1,h2,h5,h6,Yi];exact if_pos ⟨trivial,h7⟩
theorem KG{px}{gi}{fv}{cs0}{n:Int}(h1:px τ=some (i,q))(h2:a6 τ i q=some (.n .l cs0))(h3:gi (b6 τ)=some (.int n))(h4:fv τ=some (s,τ1))(h5:toM s=some mv)(h6:a6 τ1 i q=some (.n .l cs))(h7:0<=n/\n<=cs.length/\cs.length<100000):Gd px gi fv τ=some (.next (cX τ1 i q (.n .l (L5 cs n.toNat mv)))):=by
 unfold Gd;simp only[h1,h2,h3,h4,h5,h6,Yi];exact if_pos h7
theorem Nz(h1:px τ=some (i,q))(h2:gk (b6 τ)=some d)(h3:jn d=some k)(h4:a6 τ i q=some (.n .d cs))(h5:(cs.any λ c=>decide (c.1=k))=true):CK px gk τ=some (.next (cX τ i q (.n .d (nW cs k)))):=by
 unfold CK;simp only[h1,h2,h3,h4,Yi];exact if_pos h5
theorem q_S{g}(h:g (b6 τ)=some d)(hs:sca d=true):qS g τ=some (.v d):=by unfold qS;rw[h];exact if_pos hs
theorem q_N{g}(h:g (er τ)=some d):qN g τ=some (.v d):=by unfold qN;rw[h];rfl
theorem cS{h}{g}{a}{as}(h1:h τ=some a)(h2:g τ=some as):sQ h g τ=some (a::as):=by unfold sQ;rw[h1];show(g τ).map _=_;rw[h2];rfl
theorem v_M{C}{x}{F}{f}{g}{as}{ss ss'}(h0:f τ=some (i,q))(hm:a6 τ i q=some (.n (.o C) cs))(hn:(cs.any λ c=>decide (c.1=.inr x))=false)(h1:g τ=some as)(h2:lend τ (.p i q::as)=some ss)(h3:F ss=some (s,ss'))(h4:back τ (.p i q::as) ss'=some τ'):eM C x F f g τ=some (s,τ'):=by
 unfold eM;simp only[h0,hm,Yi];rw[if_pos ⟨trivial,hn⟩,h1];show Eg F τ _=_;unfold Eg;simp only[h2,h3,h4,Yi,X4]
theorem v_K{C}{F}{g}{as}{ss r}(h1:g τ=some as)(h2:lend τ as=some ss)(h3:F (.mu true (.n (.o C) [])::ss)=some (.shr .non,.mu true m::r))(h4:back τ as r=some τ'):eK C F g τ=some (.mu false m,τ'):=by
 unfold eK;simp only[h1,h2,h3,Yi];rw[h4];rfl
theorem fE(h:bd (as++List.replicate (n - as.length) .no)=some (.ret s τ))(hl:as.length=mm:=by rfl):iA n mm bd as=some (s,(τ.take mm).map AR):=by unfold iA;rw[if_pos hl,h]
theorem EF(h:bd (as++List.replicate (n - as.length) .no)=some (.next τ))(hl:as.length=mm:=by rfl):iA n mm bd as=some (.shr .non,(τ.take mm).map AR):=by unfold iA;rw[if_pos hl,h]
theorem pV:(Mt.n .d cs).get [.k k]=(cs.find? λ c=>decide (c.1=k)).map (·.2):=by
 show(match cs.findIdx? (λ c=>decide (c.1=k)) with|none=>none|some i=>match cs[i]? with|none=>none|some c=>Mt.get c.2 [])=_;have e:∀ m:Mt,m.get []=some m:=λ m=>by cases m<;>rfl
 rw[List.find?_eq_bind_findIdx?_getElem?]
 cases h:cs.findIdx? (λ c=>decide (c.1=k)) with
 |none=>rfl
 |some i=>
  show(match cs[i]? with|none=>none|some c=>Mt.get c.2 [])=(cs[i]?).map (·.2)
  cases cs[i]? with
  |none=>rfl
  |some c=>exact e c.2
end
end L2
end
section
namespace L2
open PySem PySem.Spec PyProof.Rows
open AutoSeq1 (wpAny_loadPart')
section
variable{prog:Program}{w:World}{A:Around}{E:RA->RD->Prop}{s:RD}{it T:RB}{i:Nat}{items:Array RA}{x:RA}{Q:RA->RD->Prop}
theorem xx(hit:s.heap.IsTupleIter it T i)(ht:s.heap.IsTuple T items)(hx:items[i]?=some x)(k:∀ h',h'.IsTupleIter it T (i+1)->Heap.SameBut it s.heap h'->Q x { s with heap:=h' }):wpAny (model prog w) A (Builtin.SmallTypes.nextOf (.ref it)) Q E s:=by
 have⟨o,ho,hc,hd⟩:=hit;have⟨ol,hol,_,nl,hdl⟩:=ht
 delta Builtin.SmallTypes.nextOf;refine Zc (wpAny_callSpecial?_slot hit.typeIs Xw (Ws Xw hit.typeIs F.entry_tuple_iterator_next ?_ (F.args_tuple_iterator_next_1 _)))
 show wpAny _ _ (field (.ref it) 0 >>= _) _ _ s;refine Zc (wpAny_field ho hd (x:=.ref T) rfl ?_);show wpAny _ _ (if(Value.ref T == Value.none)=true then _ else _) _ _ s;rw[if_neg (by exact Zf)]
 show wpAny _ _ (field (.ref it) 1 >>= _) _ _ s;refine Zc (wpAny_field ho hd (x:=.int i 0) rfl ?_);show wpAny _ _ (seqItems? (.ref T) >>= _) _ _ s;refine Zc (wpAny_seqItems hol hdl ?_);simp only[Int.toNat_natCast,hx]
 refine Zc (wpAny_setField ho hd (by simp) (Zw ⟨x,rfl,Zw (k _ ⟨_,QN _ ho (Obj.isFreed_of_fields (Obj.data_mapFields hd _)),(Obj.cls_mapFields ..).trans hc,?_⟩ (Xp ..))⟩));rw[Obj.data_mapFields hd];simp[rawInt]
theorem qU (hh:A.handled=none) (hit:s.heap.IsTupleIter it T i) (ht:s.heap.IsTuple T items) (hx:items[i]?=none)
  (k:∀ h' e,Heap.ExtBut it s.heap h'->(∃ o,h'.get? e=some o/\o.cls=.type "StopIteration")->E (.ref e) { s with heap:=h' }):wpAny (model prog w) A (Builtin.SmallTypes.nextOf (.ref it)) Q E s:=by
 have⟨o,ho,hc,hd⟩:=hit;have⟨ol,hol,_,nl,hdl⟩:=ht
 delta Builtin.SmallTypes.nextOf;refine Zc (wpAny_callSpecial?_slot hit.typeIs Xw (Ws Xw hit.typeIs F.entry_tuple_iterator_next ?_ (F.args_tuple_iterator_next_1 _)))
 show wpAny _ _ (field (.ref it) 0 >>= _) _ _ s;refine Zc (wpAny_field ho hd (x:=.ref T) rfl ?_);show wpAny _ _ (if(Value.ref T == Value.none)=true then _ else _) _ _ s;rw[if_neg (by exact Zf)]
 show wpAny _ _ (field (.ref it) 1 >>= _) _ _ s;refine Zc (wpAny_field ho hd (x:=.int i 0) rfl ?_);show wpAny _ _ (seqItems? (.ref T) >>= _) _ _ s;refine Zc (wpAny_seqItems hol hdl ?_);simp only[Int.toNat_natCast,hx]
 refine Zc (wpAny_rule (Zc (wpAny_setField ho hd (by simp) ?_)));show wpAny _ _ (newExc (.type "StopIteration") [] >>= _) _ _ _;refine Zc ?_;simp only[newExc,newTuple]
 refine Zc (Yw (Zc (wpAny_of_eq (a:=Value.none) (by simp only[firstArgMember];rfl) (Yw ?_ (by size_fits)))) (by size_fits));simp only[raiseNew];refine Zc (wpAny_handled ?_);rw[show A.in1.handled=none from hh]
 exact Zc (Zw (wpAny_throw (k _ _ (((Xp ..).extBut.push _).push _) ⟨_,QC _ rfl,rfl⟩)))
theorem Bs (hh:A.handled=none) (it T:RB) (ne:T≠it) (items:Array RA):Draws prog w A it [it,T] items.size (λ i v=>items[i]?=some v) (λ i h=>h.IsTupleIter it T i/\h.IsTuple T items) where
 live:=λ _ _ ⟨⟨o,ho,_⟩,_⟩=>⟨o,ho⟩
 frame:=λ _ _ _ ⟨⟨o,ho,r⟩,⟨o2,ho2,r2⟩⟩ hk=>⟨⟨o,hk it (by simp) o ho,r⟩,⟨o2,hk T (by simp) o2 ho2,r2⟩⟩
 item:=λ i s Q E hi ⟨st,ht⟩ hQ=>xx st ht (x:=items[i]) (by simp[hi]) λ h' st' hs'=>hQ _ h' s.toks (by simp[hi]) ⟨st',by
  obtain⟨o2,ho2,r2⟩:=ht
  exact⟨o2,hs'.extBut _ _ ne ho2,r2⟩⟩ hs'
 done:=λ s Q E ⟨st,ht⟩ hE=>qU hh st ht (by simp) hE
theorem xT (hh:A.handled=none) (it T:RB) (items:Array RA) (i:Nat) (hi:items.size<=i):Draws prog w A it [it,T] 0 (λ _ _=>False) (λ n h=>n=0/\h.IsTupleIter it T i/\h.IsTuple T items) where
 live:=λ _ _ ⟨_,⟨o,ho,_⟩,_⟩=>⟨o,ho⟩
 frame:=λ _ _ _ ⟨z,⟨o,ho,r⟩,⟨o2,ho2,r2⟩⟩ hk=>⟨z,⟨o,hk it (by simp) o ho,r⟩,⟨o2,hk T (by simp) o2 ho2,r2⟩⟩
 item:=λ i s Q E hi _ _=>absurd hi (Wz _)
 done:=λ s Q E ⟨_,st,ht⟩ hE=>qU hh st ht (by simp[hi]) hE
set_option maxHeartbeats 1000000 in
theorem tX l items n dct sl :
    Meets (Builtin.«enumerate.__new__» ⟨[.type "enumerate",.ref l],[]⟩) (λ _ R s=>s.heap.get? l=some { cls:=.type "tuple",dict:=dct,data:=.seq items n,slots:=sl }/\R (.ok (.ret (.ref (s.heap.push { cls:=.type "tuple_iterator",data:=.fields #[.ref l,.int 0 0] }).objs.size)))
        { s with heap:=(s.heap.push { cls:=.type "tuple_iterator",data:=.fields #[.ref l,.int 0 0] }).push { cls:=.type "enumerate",data:=.fields #[.none,.bool false,.ref s.heap.objs.size,rawInt 0,.none,.none] } }):=
  .of_wp λ prog w A R s h=>by
    obtain⟨hp,g,d,tk,os⟩:=s;obtain⟨hl,h⟩:=h;have hsub:=sub_enumerate
    have hL:Heap.IsTuple (Shared.heap ⟨hp,g,d,tk,os⟩) l items:=⟨_,hl,rfl,n,rfl⟩
    wp_walk using Yr hl
    refine wpAny_stack_any λ st=>Zw (by
      split
      · rename_i c _ _ _ _ _
        cases(c == Value.type "enumerate")<;>(wp_walk using Yr hl,wpAny_pyIter_tuple hL;exact⟨_,rfl,h⟩)
      · wp_walk using Yr hl,wpAny_pyIter_tuple hL;exact⟨_,rfl,h⟩)
theorem xX(hL:s.heap.IsTuple l items)(k:∀ h',IsEnum h' (s.heap.objs.size+1) s.heap.objs.size 0 .none->h'.IsTupleIter s.heap.objs.size l 0->(∀ b o,s.heap.get? b=some o->h'.get? b=some o)->Q (.ref (s.heap.objs.size+1)) { s with heap:=h' }):wpAny (model prog w) A (call (.type "enumerate") [.ref l]) Q E s:=by
 obtain⟨⟨c,dct,dt,sl⟩,hl,hc,n,hd⟩:=hL;cases(hc);cases(hd)
 refine callType_new F.called_enumerate (by decide) (F.typeCall_enumerate_1 _) (F.newCall_enumerate_1 _) (λ obj=>F.args_object_init_2 obj _) F.entry_enumerate_new (tX l items n dct sl) ⟨hl,?_⟩;generalize hp:s.heap.push { cls:=.type "tuple_iterator",data:=.fields #[.ref l,.int 0 0] }=h1;have hz:h1.objs.size=s.heap.objs.size+1:=by rw[<- hp,Y8]
 have g1:h1.get? s.heap.objs.size=some { cls:=.type "tuple_iterator",data:=.fields #[.ref l,.int 0 0] }:=by rw[<- hp];exact QC _ rfl
 have g2:=QC h1 (o:={ cls:=.type "enumerate",data:=.fields #[.none,.bool false,.ref s.heap.objs.size,rawInt 0,.none,.none] }) rfl;rw[hz]at g2;rw[hz];exact⟨⟨_,g2,rfl⟩,k _ g2 ⟨_,My _ g1,rfl,rfl⟩ λ b o y=>My _ (by rw[<- hp];exact My _ y)⟩
end
noncomputable def Oy (K:RC) (l:RB):It where
 go:=λ i H=>∃ xs x,SqT K H l xs/\xs[i]?=some x
 yld:=λ i H v H'=>∃ T x,v=.ref T/\H T=none/\H'=upd H T (.tup [.int (i:Int),x])/\∀ xs,SqT K H l xs->xs[i]?=some x
 stop:=λ i H=>∃ xs,SqT K H l xs/\xs.length<=i
def Qu(K:RC)(e it l:RB)(i:Nat)(h:Heap):Prop:=(∃ old,IsEnum h e it ((i:Nat):Int) old)/\h.IsTupleIter it l i
theorem wZ {P:Program} {w:World} {K:RC} {elts:Ry Expr} {k:Nat} {pos:Pos} {e it l:RB} (ne:e≠it):Turn P w K (.Tuple elts k pos) (Oy K l) [e,it] e (Qu K e it l) where
 mem:=by simp
 obj:=λ i h st b hb=>by
  obtain⟨⟨old,s1⟩,⟨o4,e4,c4,d4⟩⟩:=st;simp only[Zi,Z3,Wm]at hb;rcases hb with rfl|rfl
  · exact⟨_,s1,λ v z=>by cases z⟩
  · exact⟨o4,e4,λ v z=>by rw[d4]at z;cases z⟩
 keep:=λ i h h' st k=>by
  obtain⟨⟨old,s1⟩,⟨o4,e4,r4⟩⟩:=st;exact⟨⟨old,k _ (by simp) _ s1⟩,⟨o4,k _ (by simp) _ e4,r4⟩⟩
 item:=by
  intro X hP hw hK hc i Qv s σ H E I hf st hg;subst hP hw hK;obtain⟨xs,x,hq,hx⟩:=hg;obtain⟨its,rv,p,hz⟩:=I.tuple hq;obtain⟨u,hu,ru⟩:=rv.get hx;obtain⟨⟨old,s1⟩,s4⟩:=st;have ht:=p
  have nT:l≠it/\l≠e:=by
   obtain⟨o2,e2,c2,_⟩:=ht;obtain⟨o4,e4,c4,_⟩:=s4;refine⟨λ z=>?_,λ z=>?_⟩
   · subst z;rw[e4]at e2;cases e2;rw[c4]at c2;exact absurd c2 (by simp)
   · subst z;rw[show s.heap.get? l=_ from s1]at e2;cases e2;exact absurd c2 (by simp)
  have dr:=Bs (prog:=X.prog) (w:=X.w) (A:=X.A.in1) (I.ok.hd hc) it l nT.1 its.toArray
  have li:i<its.toArray.size:=by
   have:=(QB.mp hu).1
   simpa using this
  refine wpAny_pyNext_enum_itemD dr s1 ⟨s4,ht⟩ li ne (by simp;exact⟨ne,QH nT.2⟩) λ u' h' tk hu' a1 a2 a3 a4 hk=>?_
  have eu:u'=u:=by
   have h1:=hu';have h2:its.toArray[i]?=some u:=by simpa using hu
   rw[h1]at h2;exact Zj h2
  subst eu;have hk':∀ b o,b ∉ [e,it]->s.heap.get? b=some o->h'.get? b=some o:=λ b o hb e'=>hk b o (λ q=>hb (by simp[q])) (λ q=>hb (by simp[q])) e'
  have I1:Inv X Qv σ (upd H s.heap.objs.size (.tup [.int (i:Int),x])) { s with heap:=h',toks:=tk+1 }:=I.yz hf hk' (Zo _) ⟨by show 2<=sizeLine;decide,[.int i tk,u'],.cons ⟨_,rfl⟩ (.cons ru .nil),_,a3,rfl,_,rfl⟩;have hn:=I.hok.fresh (Zo _);refine⟨.ref s.heap.objs.size,rfl,wpAny_letOwnedTupleGo_enum a1 λ h2 hz2 sb=>?_⟩
  have neT:∀ b ∈ [e,it],b≠s.heap.objs.size:=λ b hb q=>by
   have lt:∃ o,s.heap.get? b=some o:=by
    obtain⟨o4,e4,_⟩:=s4;simp only[Zi,Z3,Wm]at hb;rcases hb with rfl|rfl
    · exact⟨_,s1⟩
    · exact⟨_,e4⟩
   obtain⟨o,e'⟩:=lt;rw[q]at e';exact absurd (Zr e') (Y3 _)
  obtain⟨f0,f1,f2,f3,f4,f5⟩:=hf e (by simp);have I2:=I1.turned (t':=tk+1) (λ b o hb e'=>(sb.2 b hb).trans e') (by rw[ar (neT e (by simp))];exact f0) f1 f3 f4 f5;refine⟨.ref s.heap.objs.size,_,I2,rfl,⟨s.heap.objs.size,x,rfl,hn,rfl,λ zs hz=>by rw[I.qf hz hq];exact hx⟩,?_,λ b hb=>by rw[ar (neT b hb)];exact(hf b hb).1⟩;obtain⟨⟨o4,e4,r4⟩,_⟩:=a2;exact⟨⟨_,hz2⟩,⟨o4,(sb.2 it (QH ne)).trans e4,r4⟩⟩
 done:=by
  intro X hP hw hK hc i Qv s σ H E I hf st hg;subst hP hw hK;obtain⟨xs,hq,hx⟩:=hg;obtain⟨its,rv,p,hz⟩:=I.tuple hq;obtain⟨⟨old,s1⟩,s4⟩:=st;have l1:=rv.length;have ht:s.heap.IsTuple l its.toArray:=p;have dr:=xT (prog:=X.prog) (w:=X.w) (A:=X.A.in1) (I.ok.hd hc) it l its.toArray i (by simp;lia);refine wpAny_pyNext_enum_endD dr s1 ⟨rfl,s4,ht⟩ λ h' eb=>⟨rfl,?_⟩
  obtain⟨f0,f1,f2,f3,f4,f5⟩:=hf it (by simp);exact I.turned (λ b o hb e=>eb b o hb e) f0 f1 f3 f4 f5
 self:=λ _ _ _ _ _ st h=>by
  obtain⟨⟨old,s1⟩,s4⟩:=st;exact wpAny_pyIter_enum s1 h
def Ld(K:RC)(ta:TA):TI:=λ σ H R=>ta σ H λ vs H1=>∃ l xs,vs=[.ref l]/\SqT K H1 l xs/\R (Oy K l) H1
theorem C5{X}{a}{ta}{elts}{k}{pt p pos}(hg:Gl X "enumerate")(hm:X.mg "enumerate"=none)(ha:PA X [a] ta)(hs:starEach [a] X.env=[(false,eval a X.env)]:=by rfl):PI X (.Tuple elts k pt) (.Call (.Name "enumerate" p) [a] [] pos) (Ld X.K ta):=by
 intro Qv s σ H R I h;refine Call_ (mB I hg hm B2 (Xq (thn (ha pos Qv s σ H _ I h) λ us s1 ⟨vs,H1,I1,r1,q1⟩=>?_) (by rw[hs];rfl) (by rfl)));obtain⟨l,xs,e,q1,q⟩:=q1;subst e
 cases r1 with
 |cons r rr=>
  cases rr;cases r;obtain⟨its1,rv1,p1,hz1⟩:=I1.tuple q1;refine xX (p1) λ h' hE hI hk=>?_
  refine wpAny_pyIter_enum hE ?_
  refine⟨_,[s1.heap.objs.size+1,s1.heap.objs.size],_,_,H1,rfl,I1.kept hk,wZ (Nat.succ_ne_self _),⟨⟨_,hE⟩,hI⟩,λ b hb=>?_,q⟩
  have hb':s1.heap.objs.size<=b:=by
   simp only[Zi,Z3,Wm]at hb;rcases hb with rfl|rfl
   · exact Wt _ 1
   · exact Zo _
  exact I1.yt hb' (I1.hok.fresh hb')
theorem AV{K}{a}{xs}{Hs}{as}(h1:SqT K Hs a xs)(r1:Rps K Hs xs as):ItR K (Oy K a) Hs (lq as):=λ Hs1 H g1 g2=>by
 have hq1:=g2.tup (g1.tup h1);have l1:=r1.length;refine⟨λ i d e=>?_,λ i hi=>⟨xs,hq1,?_⟩⟩
 ·unfold lq at e
  rw[List.getElem?_mapIdx]at e;obtain⟨p,ea,ed⟩:=Zm e;obtain⟨x,hx,rx⟩:=r1.get ea;subst ed;refine⟨⟨xs,x,hq1,hx⟩,λ v H' w90=>?_⟩;obtain⟨T,vx,e1,hn,e2,f1⟩:=w90;subst e1 e2;have ex:=f1 xs hq1;rw[hx]at ex;cases ex;have g:=Ext.new g2 hn (.tup [.int (i:Int),x]);exact⟨_,g,.tup (SqT.of ay) (.cons (.int _) (.cons ((rx.same g1).same g.ss) .nil))⟩
 ·have hl:(lq as).length=as.length:=by simp [lq]
  lia
def ud(f:DA):DI:=λ τ=>(f τ).bind λ ds=>match ds with|[.tup as]=>some (lq as)|_=>none

def leS(a b:Str):Bool:=!decide (b.cps.toList<a.cps.toList)
theorem iT:leS a b=true↔a.cps.toList<=b.cps.toList:=by
 unfold leS;rw[Xj,decide_eq_false_iff_not];exact List.not_lt
theorem rh(a b c:Str)(h1:leS a b=true)(h2:leS b c=true):leS a c=true:=iT.mpr (List.le_trans (iT.mp h1) (iT.mp h2))
theorem AG(a b:Str):(leS a b||leS b a)=true:=by
 rcases List.le_total a.cps.toList b.cps.toList with h|h
 · rw[iT.mpr h];rfl
 · rw[iT.mpr h,Bool.or_true]
theorem DF(h1:leS a b=true)(h2:leS b a=true):a=b:=by
 have e:=List.le_antisymm (iT.mp h1) (iT.mp h2);cases a;cases b;exact Z6 Str.mk (Array.toList_inj.mp e)
def CC(ss:Ry Str):Ry Str:=ss.mergeSort leS
theorem pw_rising:∀ (p:Str) (l:Ry Str),risingS p l=true->(p::l).Pairwise (λ a b=>leS a b=true)
 |p,[],_=>List.pairwise_singleton ..
 |p,x::r,h=>by
  have h':(!ltCps x.cps.toList p.cps.toList&&risingS x r)=true:=h;rw[Yd,ltCps_eq]at h';have ih:=pw_rising x r h'.2;have px:leS p x=true:=h'.1;refine Xx.mpr ⟨λ y hy=>?_,ih⟩;rcases Zi.mp hy with rfl|hy
  · exact px
  · exact rh _ _ _ px (List.rel_of_pairwise_cons ih hy)
theorem pw_sorted:∀ {l:Ry Str},sortedS l=true->l.Pairwise (λ a b=>leS a b=true)
 |[],_=>.nil
 |x::r,h=>pw_rising x r h
theorem Jy(h1:ss'.Perm ss)(h2:sortedS ss'=true):ss'=CC ss:=
 QS (λ a b _ _=>DF) (pw_sorted h2) (Wc rh AG ss) (h1.trans (Rt ss leS).symm)
def JQ:Ry V->Hp->VK->Prop:=λ xs H Q=>∃(a:RB) (kvs:Ry (Key×V)) (ss:Ry Str),xs=[.ref a]/\H a=some (.dK kvs)/\kvs.map (·.1)=ss.map Sum.inr/\kvs.length<64/\∀(p:RB),H p=none->Q (.ref p) (upd H p (.lst ((CC ss).map .str)))
theorem yH:∀ {us:Ry RA} {ss:Ry Str},us.length=ss.length->(∀ (j:Nat) (v:RA),us[j]?=some v->∃ n t,ss[j]?=some n/\v=.str n t)->StrsAre us ss
 |[],[],_,_=>.nil
 |[],_::_,e,_=>by cases e
 |_::_,[],e,_=>by cases e
 |u::us,n::ns,e,h=>by
  obtain⟨n',t,e1,e2⟩:=h 0 u rfl;cases e1;subst e2;exact .cons n t (yH (Nat.succ.inj e) λ j v ev=>h (j+1) v ev)
theorem qc:∀ {us:Ry RA} {ss:Ry Str},StrsAre us ss->bQ (ss.map V.str) us
 |_,_,.nil=>.nil
 |_,_,.cons x t h=>.cons ⟨t,rfl⟩ (qc h)
theorem sv(hh:X.A.handled=none):gf X (.builtin "sorted") JQ:=by
 intro Qv s σ H xs us Q I r h;obtain⟨a,kvs,ss,rfl,ha,ek,h64,q⟩:=h;obtain⟨u,rfl,ru⟩:=vals1 r;cases(show u=Value.ref a from ru);obtain⟨sz,lo,vs,kv,dd⟩:=si I.hok ha;obtain⟨ep,hat⟩:=dd.dictAt;have lv:vs.length=kvs.length:=kv.length.symm
 have ev:vs.map (·.1)=ss.map Sum.inr:=by
  rw[<- ek];exact t8 kv
 refine Calls.call_function_entry kind_sorted plain_sorted entry_sorted (args_sorted1 _) ?_
 unfold Builtin.«sorted»;refine Zc (m:=checkCount "sorted" 1 1 _) (Zw ?_);refine Zc (PySem.W.kdu_collect (A:=X.A.in1) (PySem.W.kdl_dict (knd:=aV X.prog X.w) (kvs:=vs) (ep:=ep) lo) hh hat (by rw[lv];exact sz) λ h' tk acc hk hacc=>?_)
 have hI:StrsAre acc.toList ss:=by
  refine yH (by rw[Y1,hacc.1,<- Za (f:=(Sum.inr:Str->Key)),<- ev,Za]) λ j v hj=>?_
  obtain⟨k,x,e1,e2⟩:=hacc.2 j v (by rw[<- Q6];exact hj);have e3:(vs.map (·.1))[j]?=some k:=by rw[QD,e1];rfl
  rw[ev,QD]at e3
  cases q:ss[j]? with
  |none=>rw[q]at e3;cases e3
  |some n=>
   rw[q]at e3;cases e3;rcases bu (show rA (Sum.inr n) v=true from e2) with ⟨i,t,e4,e5⟩|⟨y,t,e4,e5⟩
   · cases e4
   · cases e4;exact⟨_,t,rfl,e5⟩
 have la:acc.toList.length<64:=by rw[Y1,hacc.1,lv];exact h64
 refine Zc (wpAny_newList ?_ (Zu (Yo la) (by decide)));have hoL:(h'.push (seqObj "list" acc.toList.toArray 0)).get? h'.objs.size=some (seqObj "list" acc.toList.toArray 0):=QC _ rfl;refine Zc (Xg (Ws slot_list_sort ⟨_,hoL,rfl⟩ entry_list_sort (list_sort_treeK strKind_oneLt hoL hI.keysOf (λ v₁ v₂ rest e=>keyKind_strs (by rw[<- e];exact hI)) la λ st' hp hs=>⟨_,rfl,?_⟩) (args_list_sort _)));obtain⟨ss',a1,a2,a3⟩:=sorted_out_str hI hp hs;have a4:=Jy a2 a3;subst a4;generalize (arrOf st').map (·.2)=out at a1 ⊢;refine Zw ⟨_,rfl,?_⟩;have I1:=I.kept (t':=tk) hk
 have old:∀ b o,h'.get? b=some o->(sortedHeap (h'.push (seqObj "list" acc.toList.toArray 0)) h'.objs.size acc.toList out).get? b=some o:=λ b o e1=>by
  rw[sortedHeap_old (Zx (Zr e1)) (by rw[size_push'];exact Y2 (Zr e1))];exact My _ e1
 obtain⟨e,he⟩:=sortedHeap_at (out:=out) hoL;have I2:=I1.laid (a:=h'.objs.size) (o:=.lst ((CC ss).map .str)) (t':=tk) old (Zo _) ⟨by rw[Za,a2.length_eq,<- StrsAre.length hI];exact Zu (Yo la) (by decide),out.toList,e,qc a1,by rw[he,Array.toArray_toList]⟩;exact⟨.ref h'.objs.size,_,I2,rfl,q _ (I1.hok.fresh (Zo _))⟩
def rm:Ry (Key×D)->Rz (Ry Str)
 |[]=>some []
 |(.inr x,_)::r=>(rm r).map (x::·)
 |_=>none
theorem rj:∀ {ds:Ry (Key×D)} {ss:Ry Str},rm ds=some ss->ds.map (·.1)=ss.map Sum.inr
 |[],_,e=>by cases e;rfl
 |(.inr x,_)::r,_,e=>by
  obtain⟨ss,e1,rfl⟩:=Zm (show(rm r).map _=_ from e);rw[Zh,rj e1];rfl
 |(.inl _,_)::_,_,e=>by cases e
theorem RpK.keys {K:RC} {H:Hp}:∀ {kvs:Ry (Key×V)} {ds:Ry (Key×D)},RpK K H kvs ds->kvs.map (·.1)=ds.map (·.1)
 |_,_,.nil=>rfl
 |_,_,.cons h r=>by rw[Zh,Zh,RpK.keys r]
def BB(f:DE):DE:=λ τ=>(f τ).bind λ d=>match d with|.dct kvs=>(rm kvs).bind λ ss=>if ss.length<64 then some (.lst ((CC ss).map .str)) else none|_=>none
theorem Ej(hh:X.A.handled=none)(hg:Gl X "sorted")(hm:X.mg "sorted"=none)(he:Bx (PEd X e f))(hst:Se X e []:=by rfl)(hpl:Sb X pos []:=by rfl):Bx (PEo X (.Call (.Name "sorted" p) [e] [] pos) (BB f)):=
 ⟨(o9 (sv hh) hg hm (by decide +kernel) (be he.out dB hst) (by decide) (by decide) hst hpl).imp λ σ H Q h=>by
   obtain⟨H0,Hs,τ,fp,d,st,sm,e,q⟩:=h;obtain⟨x,e1,e2⟩:=Ub e;refine⟨H0,Hs,τ,fp,x,st,sm,e1,λ v Hs1 H1 g1 rv=>?_⟩
   cases rv with
   |@dct a kvs ds h r=>
    obtain⟨ss,e3,e4⟩:=Ub (show(rm ds).bind _=some d from e2);split at e4
    ·rename_i h64
     have e5:=Zj e4;subst e5;have ek:kvs.map (·.1)=ss.map Sum.inr:=r.keys.trans (rj e3);refine⟨a,kvs,ss,rfl,g1.sh _ _ h,ek,?_,λ p hp=>?_⟩
     ·have:=Z6 List.length ek
      rw[Za,Za]at this
      lia
     ·have hHp:=g1.hh.free hp
      refine q p Hs1 _ ⟨g1.ss,g1.sh.trans (aF hp _),g1.hh.trans (aF hp _),g1.fr⟩ (.lst ay (g1.sh.free hp) (Rps.strs _)) hHp
    · cases e4
   |_=>exact nn e2⟩
def eON(g:DE):DEm:=λ τ=>(g (er τ)).bind λ d=>match d with
 |.lst ds=>some (.mu false (lM ds),τ)
 |_=>none
def my:Ry (Key×Mt)->Rz (Ry D)
 |[]=>some []
 |(_,.s d)::r=>(my r).map (d::·)
 |_=>none
theorem om {K:RC} {Hs H:Hp}:∀ {ts:Ry Kd} {ds:Ry D},my (ts.map Kd.km)=some ds->(∀ c ∈ ts,Od K Hs H c.fp c.v c.m)->Rps K Hs (ts.map Kd.v) ds
 |[],_,e,_=>by cases e;exact .nil
 |⟨k,v,.s d,fp⟩::ts,_,e,h=>by
  obtain⟨ds,e1,rfl⟩:=Zm (show(my (ts.map Kd.km)).map _=_ from e);have h0:Od K Hs H fp v (.s d):=h _ (Zg ..)
  cases h0 with
  |s r=>exact .cons r (om e1 λ c hc=>h c (Zd _ hc))
 |⟨k,v,.n t cs,fp⟩::ts,_,e,h=>by cases e
section
variable{X:Cx}{a b c e o i value:Expr}{es:Ry Expr}{pos Qw Qx pos' p:Pos}{x:Str}
noncomputable def yT(px:DPx)(gi:DE)(fv:DEm):DSm:=λ τ=>(fv τ).bind λ x=>(px x.2).bind λ p=>(gi (b6 x.2)).bind λ d=>(toM x.1).bind λ mv=>match d,a6 x.2 p.1 p.2 with
 |.int j,some (.n .l cs)=>if 0<=j/\j.toNat<cs.length then some (.next (cX x.2 p.1 p.2 (.n .l (cs.set j.toNat (.inl 0,mv))))) else none
 |_,_=>none
end
theorem CG{α:Type}{l:Ry α}{i:Nat}{x:α}(h:l[i]?=some x):l.set i x=l:=by
 obtain⟨h1,h2⟩:=QB.mp h;rw[<- h2,List.set_getElem_self]
abbrev Fn0(K:RC)(x:Str)(st:Stmt)(f:RB):Prop:=∃(od an:Rz RB) (sl:Array (Rz RA)) (oc kV dc pm cd ct:RA),PySem.W.nsIn K mainGlobals x=some (some (.ref f))/\K.lookup f=some ⟨oc,od,.func (PySem.W.fnOf x x (b9 st) (bh st) (aG st) .none kV dc pm an cd ct),sl⟩/\PySem.W.codeIn K cd x=true/\W.keepIn K (.ref f)=true
theorem Fn0.mk{K}{x}{st}{f}{h}{mg}{ps}(e:Fn0 K x st f)(X:K.In h)(G:h.Ns mainGlobals mg)(hb:∀ kV doc pm an cdv ct us,us.length=ps.length->bindArgs (PySem.W.fnOf x x (b9 st) (bh st) (aG st) .none kV doc pm an cdv ct) ⟨us,[]⟩=pure (ps.zip us)):∃ fd,Fun K x x st f fd/\mg x=some (.ref f)/\Binds K fd ps []:=by
 obtain⟨od,an,sl,oc,kV,dc,pm,cd,ct,a,l,c,k⟩:=e;exact⟨_,jq (st:=st) l c k,PySem.W.mg_of X G a,(jq (st:=st) l c k).binds hb⟩
theorem Km{as}{h:Heap}:∀{K:RC},as=K.map (·.1)->as.map h.get?=K.map (λ p=>some p.2)->∀ p ∈ K,h.get? p.1=some p.2:=by
 intro K e q;subst e;rw[Yb]at q;intro p hp;exact List.map_inj_left.mp q p hp
theorem EZ:∀ {K:RC},List.lookup a K=some o->(a,o) ∈ K
 |[],h=>by cases h
 |(b,u)::K,h=>by
  rw[Y0]at h
  cases q:a == b with
  |true=>
   rw[q]at h;have e1:a=b:=eq_of_beq q;have e2:u=o:=Zj h;subst e1 e2;exact Zg ..
  |false=>
   rw[q]at h;exact Zd _ (EZ h)
theorem Co {q} {loose} {XP} {as} {K} {n t} {r} {d} {kwd} {run}
  (e:∀ P,as=(K P).map (·.1)) (h:PySem.W.WalkO q loose XP (PySem.W.InK K) r d kwd run):PySem.W.WalkX q loose XP (PySem.W.X.obsZ as) (PySem.W.X.valZ K n t) r d kwd run:=by
 intro w s₀ s₁ mg mb G y a o pm cd doc dV kV ho hd hcd hD hmg hg args vals bs L hpre hlay hrd hwl hlo;have y1:as.map s₀.heap.get?=(K w.params).map (λ p=>some p.2):=Z6 Prod.fst y;have KX:(K w.params).In s₁.heap:=λ b o' e'=>L.keeps b o' (Km (e w.params) y1 (b,o') (EZ e'))
 exact h w s₀ s₁ mg mb G KX a o pm cd doc dV kV ho hd hcd hD hmg hg args vals bs hpre hlay hrd hwl hlo
def leI(a b:Int):Bool:=decide (a<=b)
def OM(ns:Ry Int):Ry Int:=ns.mergeSort leI
def AH(a b c:Int)(x:leI a b=true)(y:leI b c=true):leI a c=true:=Zk (Int.le_trans (Z1 x) (Z1 y))
theorem AI(a b:Int):(leI a b||leI b a)=true:=by
 rcases Int.le_total a b with h|h
 · rw[show leI a b=true from Zk h];rfl
 · rw[show leI b a=true from Zk h,Bool.or_true]
def DH(x:leI a b=true)(y:leI b a=true):a=b:=Int.le_antisymm (Z1 x) (Z1 y)
theorem yI(h1:ns'.Perm ns)(h2:ns'.Pairwise (·<=·)):ns'=OM ns:=
 QS (λ a b _ _=>DH) (h2.imp λ x=>Zk x) (Wc AH AI ns) (h1.trans (Rt ns leI).symm)
def rq:Ry (Key×D)->Rz (Ry Int)
 |[]=>some []
 |(.inl x,_)::r=>(rq r).map (x::·)
 |_=>none
theorem rn:∀ {ds:Ry (Key×D)} {ns:Ry Int},rq ds=some ns->ds.map (·.1)=ns.map Sum.inl
 |[],_,e=>by cases e;rfl
 |(.inl x,_)::r,_,e=>by
  obtain⟨ns,e1,rfl⟩:=Zm (show(rq r).map _=_ from e);rw[Zh,rn e1];rfl
 |(.inr _,_)::_,_,e=>by cases e
def BC(f:DE):DE:=λ τ=>(f τ).bind λ d=>match d with|.dct kvs=>(rq kvs).bind λ ns=>if ns.length<64 then some (.lst ((OM ns).map .int)) else none|_=>none
theorem Ek(hh:X.A.handled=none)(hg:Gl X "sorted")(hm:X.mg "sorted"=none)(he:Bx (PEd X e f))(hst:Se X e []:=by rfl)(hpl:Sb X pos []:=by rfl):Bx (PEo X (.Call (.Name "sorted" p) [e] [] pos) (BC f)):=
 ⟨(o9 (sx hh) hg hm (by decide +kernel) (be he.out dB hst) (by decide) (by decide) hst hpl).imp λ σ H Q h=>by
   obtain⟨H0,Hs,τ,fp,d,st,sm,e,q⟩:=h;obtain⟨x,e1,e2⟩:=Ub e;refine⟨H0,Hs,τ,fp,x,st,sm,e1,λ v Hs1 H1 g1 rv=>?_⟩
   cases rv with
   |@dct a kvs ds h r=>
    obtain⟨ns,e3,e4⟩:=Ub (show(rq ds).bind _=some d from e2);split at e4
    ·rename_i h64
     have e5:=Zj e4;subst e5;have ek:kvs.map (·.1)=ns.map Sum.inl:=r.keys.trans (rn e3);refine⟨a,kvs,ns,rfl,g1.sh _ _ h,ek,?_,λ p ns' hp hP hS=>?_⟩
     ·have:=Z6 List.length ek
      rw[Za,Za]at this
      lia
     ·rw [yI hP hS]
      refine q p Hs1 _ ⟨g1.ss,g1.sh.trans (aF hp _),g1.hh.trans (aF hp _),g1.fr⟩ (.lst ay (g1.sh.free hp) (Rps.ints _)) (g1.hh.free hp)
    · cases e4
   |_=>exact nn e2⟩
end L2
end
section
namespace L2
open PySem PySem.Spec PyProof.Rows
abbrev Dc(x:Str):Prop:=(x == ("__classdict__":Str))=false
abbrev Fs(X:Cx)(i:Expr):Prop:=∀ x,foldedSetIterable i X.env x=pure x
abbrev Xl(X:Cx)(x:Str):Prop:=X.fn x=true\/X.env.scope.names.lookup x=some .local
abbrev Sw(X:Cx)(e:Expr)(x:Str)(p pos:Pos):Prop:=swapsWith e (some (.Name x p)) pos.line X.env=pure false
def Df(K:RC)(mg:Str->Rz RA)(x:Str)(st:Stmt)(ps:Ry Str):Prop:=∃ a d,Fun K x x st a d/\mg x=some (.ref a)/\Binds K d ps []
def Mf(K:RC)(C:RB)(x q:Str)(st:Stmt)(ps:Ry Str):Prop:=∃ a d,Fun K x q st a d/\FA K C x a/\Binds K d ps []
def If(K:RC)(C:RB)(q:Str)(st:Stmt)(ps:Ry Str):Prop:=∃ a d,Fun K "__init__" q st a d/\Mk K C a/\Binds K d ps []
structure Go (P:Program) (w:World) (K:W.Frag) (mg:Str->Option Value) (base:Heap) (k:Nat) (x:Str) (sp:Sp):Prop where
 go:∃ f fd ps,mg x=some (.ref f)/\W.keepIn K (.ref f)=true/\Binds K fd ps []/\ir P w K mg base CX0 k f fd ps sp
structure GoM (P:Program) (w:World) (K:W.Frag) (mg:Str->Option Value) (base:Heap) (k:Nat) (C:Addr) (x:Str) (sp:Sp):Prop where
 go:∃ f fd ps,FA K C x f/\Binds K fd ps []/\ir P w K mg base CX0 k f fd ps sp
structure GoI (P:Program) (w:World) (K:W.Frag) (mg:Str->Option Value) (base:Heap) (k:Nat) (C:Addr) (sp:Sp):Prop where
 go:∃ f fd ps,Mk K C f/\Binds K fd ps []/\ir P w K mg base CX0 k f fd ps sp
theorem aa i (hN:X.N[i]?=some x:=by exact rfl) (hv:Vis X.env.scope x:=by walk_at "w") (hd:Dg x:=by decide) (hcd:Dc x:=by decide):Bx (PEd X (.Name x pos) (bf i)):=⟨(iC hN hv hd hcd).imp λ σ H Q w0=>g54 w0 λ H0 Hs τ fp d st sm e k=>by
 have e':τ[i]?=some (.shr d):=by
  unfold bf at e;split at e
  · rename_i d' q;rw[q];simpa using e
  · cases e
 obtain⟨v,h1,h2⟩:=st.get e'
 exact⟨v,h1,k v Hs H (.refl sm) h2⟩⟩
def ae  : Bx (PEd X (.Constant (.int i) j pos) (dC (.int i))):=⟨ib EO λ _=>.int i⟩
def bB  : Bx (PEd X (.Constant (.bool i) j pos) (dC (.bl i))):=⟨ib MY λ _=>.bl i⟩
def jx  : Bx (PEd X (.Constant .none j pos) (dC .non)):=⟨ib J4 λ _=>.non⟩
def ai  : Bx (PEd X (.Constant (.str x) j pos) (dC (.str x))):=⟨ib J1 λ _=>.str x⟩
theorem gM(hm:X.mg x=none)(hg:Gl X x:=by rfl)(hv:bootBuiltins x=some (.type n):=by decide +kernel)(hn:x≠"__name__":=by decide)(hd:Dg x:=by decide):Bx (PEd X (.Name x pos) (dC (.ty n))):=⟨ib (v:=.ty n) (GS hg hm hv (rfl) hn hd) λ _=>.ty n⟩
theorem jU(ho:OpR X (binaryOp op) (rdR X.K o))(ha:Bx (PEd X a f))(hb:Bx (PEd X b g)):Bx (PEd X (.BinOp a op b pos) (dOp o f g)):=⟨have ha:=ha.out;have hb:=hb.out;(J2 ho ha hb).imp λ σ H Q h=>n9 X.K h⟩
theorem Ik(ho:UnR X (unaryOp op) (rdU X.K o))(ha:Bx (PEd X a f)):Bx (PEd X (.UnaryOp op a pos) (dUn o f)):=⟨have ha:=ha.out;(MW ho ha).imp λ σ H Q w0=>g54 w0 λ H0 Hs τ fp d st sm e k=>by
 obtain⟨x,e1,e⟩:=Ub e
 exact⟨H0,Hs,τ,fp,x,st,sm,e1,λ v Hs1 H1 g1 r1=>⟨Hs1,x,d,g1.sh,r1,e,λ w Hs3 H3 g3 r3=>k w Hs3 H3 (g1.trans g3) r3⟩⟩⟩
theorem pZ(ho:OpR X (compareOp op) (rdR X.K o))(ha:Bx (PEd X a f))(hb:Bx (PEd X b g))(hm:behindInMarks op b=false:=by first|exact EY _|rfl):Bx (PEd X (.Compare a [op] [b] pos) (dOp o f g)):=⟨have ha:=ha.out;have hb:=hb.out;(GR ho ha hb hm).imp λ σ H Q h=>n9 X.K h⟩
theorem cg(ho:OpR X (compareOp op) (rdR X.K o))(ha:Bx (PEd X a f))(hb:Bx (PEd X b g))(hm:behindInMarks op b=false:=by first|exact EY _|rfl):Bx (PTd X (.Compare a [op] [b] pos) (dT (dOp o f g))):=⟨have ha:=ha.out;have hb:=hb.out;(GB ho ha hb hm).imp λ σ H Q w0=>g54 w0 λ H0 Hs τ fp d st sm e k=>by
 obtain⟨x,e1,e⟩:=Ub e;have hx:x=.bl d:=by cases x<;>simp at e<;>subst e<;>rfl
 subst hx;refine n9 X.K ⟨H0,Hs,τ,fp,_,st,sm,e1,λ v Hs' H' g r=>?_⟩;cases r
 exact⟨d,rfl,k Hs' H' g⟩⟩
theorem jV(ho:OpR X (compareOp op) (rdR X.K o))(ho':OpR X (compareOp op') (rdR X.K o'))(ha:Bx (PEd X a f))(hb:Bx (PEd X b g))(hc:Bx (PEd X c h))(hm:lastMarks [op,op'] [b,c]=false:=by with_unfolding_all rfl):Bx (PEd X (.Compare a [op,op'] [b,c] pos) (so (dOp o f g) (dOp o' g h))):=⟨have ha:=ha.out;have hb:=hb.out;have hc:=hc.out;(Dj ho ho' ha hb hc hm).imp λ σ H Q w0=>g54 w0 λ H0 Hs τ fp d st sm e k=>by
 obtain⟨r,e0,e⟩:=Ub e;obtain⟨x,e1,e0⟩:=Ub e0;obtain⟨y,e2,e0⟩:=Ub e0;refine⟨H0,Hs,τ,fp,x,st,sm,e1,λ v Hs1 H1 g1 r1=>?_⟩;refine⟨H0,Hs1,τ,fp,y,st.ext g1,g1.sh,e2,λ u Hs2 H2 g2 r2=>?_⟩;refine⟨Hs2,x,y,r,g2.sh,r1.same g2.ss,r2,e0,λ w Hs3 H3 g3 r3=>?_⟩
 cases r3 with
 |bl kb=>
  refine⟨kb,rfl,?_⟩
  cases kb with
  |false=>
   rw[if_neg Zf];have e':D.bl false=d:=by simpa using e
   subst e';exact k _ Hs3 H3 ((g1.trans g2).trans g3) (.bl false)
  |true=>
   rw[if_pos rfl];obtain⟨y',q1,q2⟩:=Ub (e);have ey:y'=y:=by rw[e2]at q1;exact(Zj q1).symm
   subst ey;obtain⟨z,q3,q4⟩:=Ub q2;refine⟨H0,Hs3,τ,fp,z,st.ext ((g1.trans g2).trans g3),g3.sh,q3,λ u' Hs4 H4 g4 r4=>?_⟩;exact⟨Hs4,y',z,d,g4.sh,(r2.same g3.ss).same g4.ss,r4,q4,λ w' Hs5 H5 g5 r5=>k w' Hs5 H5 ((((g1.trans g2).trans g3).trans g4).trans g5) r5⟩
 |_=>exact nn e⟩
theorem a9  : Bx (PAd X [] eF):=⟨dB.imp λ σ H Q w0=>g54 w0 λ H0 Hs τ fp d st sm e k=>by
 have e':=Zj e;subst e'
 exact k [] Hs H (.refl sm) .nil⟩
theorem aw(ha:Bx (PEd X e f))(hr:Bx (PAd X es g))(hs:Se X e es:=by rfl):Bx (PAd X (e::es) (aX f g)):=⟨have ha:=ha.out;have hr:=hr.out;(be ha hr hs).imp λ σ H Q w0=>g54 w0 λ H0 Hs τ fp d st sm e k=>by
 obtain⟨x,e1,e⟩:=Ub e;obtain⟨xs,e2,e⟩:=Ub e;have e':=Zj e;subst e';refine⟨H0,Hs,τ,fp,x,st,sm,e1,λ v Hs1 H1 g1 r1=>?_⟩
 exact⟨H0,Hs1,τ,fp,xs,st.ext g1,g1.sh,e2,λ u Hs2 H2 g2 r2=>k _ Hs2 H2 (g1.trans g2) (.cons (r1.same g2.ss) r2)⟩⟩
theorem az(h:Bx (PAd X es g)):Bx (PEd X (.Tuple es x1 pos) (D7 g)):=⟨have h:=h.out;(vg h).imp λ σ H Q w0=>g54 w0 λ H0 Hs τ fp d st sm e k=>by
 obtain⟨xs,e1,e⟩:=Ub e
 by_cases hl:xs.length<=100000
 ·rw [if_pos hl] at e
  have e':=Zj e;subst e';refine⟨H0,Hs,τ,fp,xs,st,sm,e1,λ v Hs1 H1 g1 r1=>?_⟩;refine⟨by rw[r1.length];exact yr hl,λ p hp=>?_⟩;have g2:=Ext.new g1.sh hp (.tup v);exact k _ _ _ (g1.trans g2) (.tup (SqT.of ay) (r1.same g2.ss))
 · rw[if_neg hl]at e;cases e⟩
theorem aR(h:Bx (PAd X es g)):Bx (PEo X (.List es pos) (Ma g)):=⟨have h:=h.out;(EN h).imp λ σ H Q w0=>g54 w0 λ H0 Hs τ fp d st sm e k=>by
 obtain⟨xs,e1,e⟩:=Ub e
 by_cases hl:xs.length<=100000
 ·rw [if_pos hl] at e
  have e':=Zj e;subst e';refine⟨H0,Hs,τ,fp,xs,st,sm,e1,λ v Hs1 H1 g1 r1=>?_⟩;refine⟨by rw[r1.length];exact yr hl,λ p hp=>?_⟩;refine k p Hs1 _ ⟨g1.ss,g1.sh.trans (aF hp _),g1.hh.trans (aF hp _),g1.fr⟩ (.lst ay (g1.sh.free hp) r1) (g1.hh.free hp)
 · rw[if_neg hl]at e;cases e⟩
def bc(h:Bx (PEo X e f)):Bx (PEd X e f):=⟨PEo.shr h.out⟩
theorem bw(h:Bx (PEd X e f))(he:∀ whole,isTrue e X.env whole=(do let v <- whole;standAt e.pos;holding [v] (truthy v)):=by intro _;rfl):Bx (PTd X e (dT f)):=⟨have h:=h.out;(EK h he).imp λ σ H Q w0=>g54 w0 λ H0 Hs τ fp d st sm e k=>by
 obtain⟨x,e1,e⟩:=Ub e;have hx:x=.bl d:=by cases x<;>simp at e<;>subst e<;>rfl
 subst hx;refine⟨H0,Hs,τ,fp,_,st,sm,e1,λ v Hs' H' g r=>?_⟩;cases r
 exact⟨d,rfl,k Hs' H' g⟩⟩
theorem bJ(h:Bx (PTd X e f)):Bx (PTd X (.UnaryOp .Not e pos) (L9 f)):=⟨have h:=h.out;(JU h).imp λ σ H Q w0=>g54 w0 λ H0 Hs τ fp d st sm e k=>by
 obtain⟨x,e1,e⟩:=Zm e;subst e
 exact⟨H0,Hs,τ,fp,x,st,sm,e1,λ Hs' H' g=>k Hs' H' g⟩⟩
def cJ(h:Bx (PTd X a f)):Bx (PWd X (.BoolOp .And [a] pos) f):=⟨have h:=h.out;pw_and1 h⟩
def cf(h:Bx (PTd X a f)):Bx (PWd X (.BoolOp .Or [a] pos) f):=⟨have h:=h.out;pw_or1 h⟩
theorem dg(ha:Bx (PTd X a f))(hb:Bx (PWd X (.BoolOp .And (b::es) pos) g)):Bx (PWd X (.BoolOp .And (a::b::es) pos) (Cg f g)):=⟨have ha:=ha.out;have hb:=hb.out;PW.imp (pw_and ha hb) λ σ H Q w0=>g54 w0 λ H0 Hs τ fp d st sm e k=>by
 obtain⟨x,e1,e⟩:=Ub e;refine⟨H0,Hs,τ,fp,x,st,sm,e1,λ Hs' H' g1=>?_⟩
 cases x with
 |true=>exact⟨H0,Hs',τ,fp,d,st.ext g1,g1.sh,e,λ Hs2 H2 g2=>k Hs2 H2 (g1.trans g2)⟩
 |false=>
  have e':false=d:=by simpa using e
  subst e'
  exact k Hs' H' g1⟩
theorem cO(ha:Bx (PTd X a f))(hb:Bx (PWd X (.BoolOp .Or (b::es) pos) g)):Bx (PWd X (.BoolOp .Or (a::b::es) pos) (dOr f g)):=⟨have ha:=ha.out;have hb:=hb.out;PW.imp (pw_or ha hb) λ σ H Q w0=>g54 w0 λ H0 Hs τ fp d st sm e k=>by
 obtain⟨x,e1,e⟩:=Ub e;refine⟨H0,Hs,τ,fp,x,st,sm,e1,λ Hs' H' g1=>?_⟩
 cases x with
 |false=>exact⟨H0,Hs',τ,fp,d,st.ext g1,g1.sh,e,λ Hs2 H2 g2=>k Hs2 H2 (g1.trans g2)⟩
 |true=>
  have e':true=d:=by simpa using e
  subst e'
  exact k Hs' H' g1⟩
def ba(h:Bx (PWd X e f)):Bx (PTd X e f):=⟨PWd.ptd h.out⟩
def il(h:Bx (PEd X a f)):Bx (PEd X (.BoolOp op [a] pos) f):=⟨have h:=h.out;zu h⟩
theorem fW(ha:Bx (PEd X a f))(hb:Bx (PEd X (.BoolOp .And (b::es) pos) g)):Bx (PEd X (.BoolOp .And (a::b::es) pos) (so f g)):=⟨have ha:=ha.out;have hb:=hb.out;(ES ha hb).imp λ σ H Q w0=>g54 w0 λ H0 Hs τ fp d st sm e k=>by
 obtain⟨x,e1,e⟩:=Ub e;refine⟨H0,Hs,τ,fp,x,st,sm,e1,λ v Hs' H' g1 r=>?_⟩
 cases r with
 |bl kb=>
  refine⟨kb,rfl,?_⟩
  cases kb with
  |true=>exact⟨H0,Hs',τ,fp,d,st.ext g1,g1.sh,e,λ v Hs2 H2 g2 r=>k v Hs2 H2 (g1.trans g2) r⟩
  |false=>
   have e':D.bl false=d:=by simpa using e
   subst e';exact k _ Hs' H' g1 (.bl false)
 |_=>exact nn e⟩
theorem pY(ha:Bx (PEd X a f)):Bx (PEd X (.UnaryOp .Not a pos) (HQ f)):=⟨have ha:=ha.out;(J3 ha).imp λ σ H Q w0=>g54 w0 λ H0 Hs τ fp d st sm e k=>by
 obtain⟨x,e1,e⟩:=Ub e;refine⟨H0,Hs,τ,fp,x,st,sm,e1,λ v Hs' H' g1 r=>?_⟩
 cases r with
 |bl kb=>
  have e':D.bl (!kb)=d:=by simpa using e
  subst e';exact⟨kb,rfl,k _ Hs' H' g1 (.bl _)⟩
 |_=>exact nn e⟩
theorem B0(hc:Bx (PTd X c t))(ha:Bx (PEd X a f))(hb:Bx (PEd X b g)):Bx (PEd X (.IfExp c a b pos) (dIf t f g)):=⟨have hc:=hc.out;have ha:=ha.out;have hb:=hb.out;(C9 hc ha hb).imp λ σ H Q w0=>g54 w0 λ H0 Hs τ fp d st sm e k=>by
 obtain⟨x,e1,e⟩:=Ub e;refine⟨H0,Hs,τ,fp,x,st,sm,e1,λ Hs' H' g1=>?_⟩
 cases x with
 |true=>exact⟨H0,Hs',τ,fp,d,st.ext g1,g1.sh,by simpa using e,λ v Hs2 H2 g2 r=>k v Hs2 H2 (g1.trans g2) r⟩
 |false=>exact⟨H0,Hs',τ,fp,d,st.ext g1,g1.sh,by simpa using e,λ v Hs2 H2 g2 r=>k v Hs2 H2 (g1.trans g2) r⟩⟩
theorem aM(ha:Bx (PEd X a f))(hb:Bx (PEd X b g))(hs:uG b:=by exact λ _ _=>rfl):Bx (PEd X (.Subscript a b pos) (dOp oIx f g)):=⟨have ha:=ha.out;have hb:=hb.out;(GN ixd ha hb hs).imp λ σ H Q h=>n9 X.K h⟩
theorem oA  : Bx (POd X none O5):=⟨GH.imp λ σ H Q w0=>g54 w0 λ H0 Hs τ fp d st sm e k=>by
 have e':=Zj e;subst e'
 exact k Hs H (.refl sm)⟩
theorem ij(h:Bx (PEd X e f)):Bx (POd X (some e) (dP f)):=⟨have h:=h.out;(GG h).imp λ σ H Q w0=>g54 w0 λ H0 Hs τ fp d st sm e k=>by
 obtain⟨x,e1,e⟩:=Ub e;refine⟨H0,Hs,τ,fp,x,st,sm,e1,λ v Hs' H' g r=>?_⟩
 cases r with
 |int i=>
  have e':=Zj e;subst e';exact⟨i,rfl,k Hs' H' g⟩
 |_=>exact nn e⟩
section
variable{X:Cx}{a b c e:Expr}{es:Ry Expr}{pos:Pos}{f g h:DE}
theorem Ig{lo hi}{p2}{l u}(ha:Bx (PEd X a f))(hl:Bx (POd X lo l))(hh:Bx (POd X hi u)):Bx (PEo X (.Subscript a (.Slice lo hi none p2) pos) (dSl f l u)):=⟨have ha:=ha.out;have hl:=hl.out;have hh:=hh.out;(vh F5 ha hl hh).imp λ σ H Q w0=>g54 w0 λ H0 Hs τ fp d st sm e k=>by
 obtain⟨x,e1,e⟩:=Ub e;obtain⟨l',e2,e⟩:=Ub e;obtain⟨u',e3,e⟩:=Ub e;refine⟨H0,Hs,τ,fp,x,st,sm,e1,λ v Hs1 H1 g1 r1=>?_⟩;refine⟨H0,Hs1,τ,fp,l',st.ext g1,g1.sh,e2,λ Hs2 H2 g2=>?_⟩;refine⟨H0,Hs2,τ,fp,u',(st.ext g1).ext g2,g2.sh,e3,λ Hs3 H3 g3=>?_⟩;have g13:=(g1.trans g2).trans g3;have r3:=(r1.same g2.ss).same g3.ss
 have fin:∀(p:RB) (ys:Ry V) (ds:Ry D),H3 p=none->Rps X.K Hs3 ys ds->d=.lst ds->Q (.ref p) (upd H3 p (.lst ys)):=λ p ys ds hp r ed=>by
  subst ed;exact k p Hs3 _ ⟨g13.ss,g13.sh.trans (aF hp _),g13.hh.trans (aF hp _),g13.fr⟩ (.lst ay (g13.sh.free hp) r) (g13.hh.free hp)
 cases r3 with
 |@lst a xs ds h r=>
  have e':=Zj e;exact⟨a,xs,rfl,SqL.of (g3.sh _ _ h),λ p hp=>fin p _ _ hp (BF l' u' r) e'.symm⟩
 |@fz a xs ds h r=>
  have e':=Zj e;exact⟨a,xs,rfl,g3.sh.seq h,λ p hp=>fin p _ _ hp (BF l' u' r) e'.symm⟩
 |_=>exact nn e⟩
theorem aD{x}{id}{p}{o}{g}(hc:gf X (.builtin id) (rdL X.K o))(hm:X.mg x=none)(ha:Bx (PAd X (e::es) g))(hg:Gl X x:=by rfl)(hv:bootBuiltins x=some (.builtin id):=by decide +kernel)(hn:x≠"__name__":=by decide)(hdb:Dg x:=by decide)(he:Se X e es:=by rfl)(hpl:Sb X pos es:=by rfl):Bx (PEd X (.Call (.Name x p) (e::es) [] pos) (BE o g)):=⟨have ha:=ha.out;(o9 hc hg hm hv ha hn hdb he hpl).imp λ σ H Q h=>call_of X.K h⟩
end
theorem mT(hc:gf X (.type T) (rdL X.K o))(hm:X.mg x=none)(ha:Bx (PAd X (e::es) g))(hg:Gl X x:=by rfl)(hv:bootBuiltins x=some (.type T):=by decide +kernel)(hn:x≠"__name__":=by decide)(hdb:Dg x:=by decide)(he:Se X e es:=by rfl)(hpl:Sb X pos es:=by rfl):Bx (PEd X (.Call (.Name x p) (e::es) [] pos) (BE o g)):=⟨have ha:=ha.out;(zB hc hg hm hv ha hn hdb he hpl).imp λ σ H Q h=>call_of X.K h⟩
theorem p4 i (h:Bx (PEd X e f)):Bx (PEd X e (Mb i f)):=⟨have h:=h.out;PE.imp h λ σ H Q w0=>g54 w0 λ H0 Hs τ fp d st sm e k=>by
 unfold Mb at e;split at e
 ·rename_i d0 q
  obtain⟨d1,e1,e2⟩:=Ub e
  by_cases hf:gp d1=true
  ·rw [if_pos hf] at e2
   have e':=Zj e2;subst e';obtain⟨a,o,fp',h1,h2,h3,h4,h5,h6,h7,h8⟩:=st.frz q;refine⟨H0,upd Hs a o,_,fp',d1,h4,sm.frz h1,e1,λ v Hs' H' g r=>?_⟩;exact k v (jQ a Hs') H' (g.FN h2 h1) (r.hide (g.ss _ _ ay) (h8.obj h1) hf)
  · rw[if_neg hf]at e2;cases e2
 · exact⟨H0,Hs,τ,fp,d,st,sm,e,k⟩⟩
theorem sy i (h:Bx (PTd X e f)):Bx (PTd X e (LS i f)):=⟨have h:=h.out;PT.imp h λ σ H Q w0=>g54 w0 λ H0 Hs τ fp d st sm e k=>by
 unfold LS at e;split at e
 ·rename_i d0 q
  obtain⟨a,o,fp',h1,h2,h3,h4,h5,h6,h7,h8⟩:=st.frz q;exact⟨H0,upd Hs a o,_,fp',d,h4,sm.frz h1,e,λ Hs' H' g=>k (jQ a Hs') H' (g.FN h2 h1)⟩
 · exact⟨H0,Hs,τ,fp,d,st,sm,e,k⟩⟩
theorem ak  : Bx (yn X [] qo):=⟨tG.imp λ E σ H w0=>g53 w0 λ Hs0 H0 Hs τ o r e k=>by
 have e':=Zj e;subst e'
 exact k σ Hs H r⟩
section
variable{X:Cx}{a b c e:Expr}{es:Ry Expr}{pos:Pos}{st:Stmt}{rest:Ry Stmt}{f g:DS}
def ag(h:Bx (PSd X st f)):Bx (yn X [st] f):=⟨have h:=h.out;iM h⟩
theorem ab(h1:Bx (PSd X st f))(h2:Bx (yn X rest g)):Bx (yn X (st::rest) (gr f g)):=⟨have h1:=h1.out;have h2:=h2.out;(ia h1 h2).imp λ E σ H w0=>g53 w0 λ Hs0 H0 Hs τ o r e k=>by
 unfold gr at e
 cases q:f τ with
 |none=>rw[q]at e;cases e
 |some o1=>
  rw[q]at e;refine⟨Hs0,H0,Hs,τ,o1,r,q,?_⟩
  cases o1 with
  |next τ'=>exact λ σ' Hs' H' r'=>⟨Hs0,H0,Hs',τ',o,r',e,k⟩
  |ret s=>cases e;exact k
  |brk τ'=>cases e;exact k
  |cnt τ'=>cases e;exact k⟩
def bg  : Bx (PSd X st ED):=⟨λ _ _ _ _ _ _ ⟨_,_,_,_,_,_,e,_⟩=>by cases e⟩
end
theorem aC(hc:Bx (PTd X c t))(ha:Bx (yn X x f))(hb:Bx (yn X y g)):Bx (PSd X (.If c x y pos) (sIf t f g)):=⟨have hc:=hc.out;have ha:=ha.out;have hb:=hb.out;(GD hc ha hb).imp λ E σ H w0=>g53 w0 λ Hs0 H0 Hs τ o r e k=>by
 obtain⟨bb,e1,e2⟩:=Ub e;obtain⟨fp,h⟩:=r.st;refine⟨H0,Hs,τ,fp,bb,h,r.same,e1,λ Hs' H' g1=>?_⟩
 cases bb with
 |true=>exact⟨Hs0,H0,Hs',τ,o,r.ext' g1,by simpa using e2,k⟩
 |false=>exact⟨Hs0,H0,Hs',τ,o,r.ext' g1,by simpa using e2,k⟩⟩
theorem ao(h:Bx (PEd X e f)):Bx (PSd X (.Return (some e) pos) (LU f)):=⟨have h:=h.out;(lR h).imp λ E σ H w0=>g53 w0 λ Hs0 H0 Hs τ o r e k=>by
 obtain⟨d,e1,rfl⟩:=Zm e;obtain⟨fp,h⟩:=r.st
 exact⟨H0,Hs,τ,fp,d,h,r.same,e1,λ v Hs' H' g1 rv=>k v Hs' H' (r.ext.trans g1) rv⟩⟩
theorem jS(h:Bx (PEo X e f)):Bx (PSd X (.Return (some e) pos) (Ga f)):=⟨have h:=h.out;(lR h).imp λ E σ H w0=>g53 w0 λ Hs0 H0 Hs τ o r e k=>by
 obtain⟨d,e1,rfl⟩:=Zm e;obtain⟨fp,h⟩:=r.st
 exact⟨H0,Hs,τ,fp,d,h,r.same,e1,λ v Hs' H' g1 rv z=>k _ Hs' H' (r.ext.trans g1) ⟨v,rfl,rv,r.old z⟩⟩⟩
theorem c5 i (hN:X.N[i]?=some x:=by exact rfl) (hv:Vis X.env.scope x:=by walk_at "w") (hd:Dg x:=by decide) (hcd:Dc x:=by decide):Bx (PSd X (.Return (some (.Name x p)) pos) (CJ i)):=⟨(lR (iC hN hv hd hcd)).imp λ E σ H w0=>g53 w0 λ Hs0 H0 Hs τ o r e k=>by
 obtain⟨fp,h⟩:=r.st;unfold CJ at e;split at e
 ·rename_i d q
  cases e;obtain⟨a,h1,h2,h3,h4⟩:=h.Lo q;exact⟨_,h1,k _ Hs H r.ext ⟨a,rfl,h2,h3⟩⟩
 ·rename_i d q
  cases e;obtain⟨v,h1,h2⟩:=h.get q;exact⟨_,h1,k _ Hs H r.ext h2⟩
 · cases e⟩
theorem BP i (hN:X.N.Nodup) (hi:X.N[i]?=some x:=by exact rfl) (he:Bx (PEd X e f)) (hx:Loc X.env.scope x:=by walk_at "v") (hs:Sw X e x pos' pos:=by rfl) (hf:Xl X x:=by walk_at "v"):Bx (PSd X (.Assign [.Name x pos'] e pos) (xg i f)):=⟨have he:=he.out;(qA hN hi hx he hs hf).imp λ E σ H w0=>g53 w0 λ Hs0 H0 Hs τ o r e k=>by
 obtain⟨d,e1,rfl⟩:=Zm e;obtain⟨fp,h⟩:=r.st;refine⟨H0,Hs,τ,fp,d,h,r.same,e1,λ v Hs' H' g1 rv=>?_⟩;obtain⟨fp',_,h'⟩:=(h.ext g1).Cd rv
 exact k _ Hs' H' ⟨r.ext.trans g1,fp',h'⟩⟩
theorem br i (hN:X.N.Nodup) (hi:X.N[i]?=some x:=by exact rfl) (he:Bx (PEo X e f)) (hx:Loc X.env.scope x:=by walk_at "v") (hs:Sw X e x pos' pos:=by rfl) (hf:Xl X x:=by walk_at "v"):Bx (PSd X (.Assign [.Name x pos'] e pos) (CI i f)):=⟨have he:=he.out;(qA hN hi hx he hs hf).imp λ E σ H w0=>g53 w0 λ Hs0 H0 Hs τ o r e k=>by
 unfold CI at e;split at e
 ·rename_i hl
  obtain⟨d,e1,rfl⟩:=Zm e;obtain⟨fp,h⟩:=r.st;refine⟨H0,Hs,τ,fp,d,h,r.same,e1,λ v Hs' H' g1 rv z=>?_⟩;obtain⟨fp',_,h'⟩:=(h.ext g1).PB rv (r.old z) (zK h z) hl;exact k _ Hs' H' ⟨r.ext.trans g1,fp',h'⟩
 · cases e⟩
theorem dN(he:Bx (PEd X e f))(hs:swapsWith e none pos.line X.env=pure false:=by rfl):Bx (PSd X (.Expr e pos) (CQ f)):=⟨have he:=he.out;(fG he hs).imp λ E σ H w0=>g53 w0 λ Hs0 H0 Hs τ o r e k=>by
 obtain⟨d,e1,rfl⟩:=Zm e;obtain⟨fp,h⟩:=r.st
 exact⟨H0,Hs,τ,fp,d,h,r.same,e1,λ v Hs' H' g1 rv=>k _ Hs' H' (r.ext' g1)⟩⟩
section
variable{X:Cx}{a b c e:Expr}{es:Ry Expr}{pos:Pos}{st:Stmt}{rest:Ry Stmt}{f g:DS}
theorem ju i (h:Bx (PSd X st f)):Bx (PSd X st (LV i f)):=⟨have h:=h.out;PS.imp h λ E σ H w0=>g53 w0 λ Hs0 H0 Hs τ o r e k=>by
 unfold LV at e;split at e
 ·rename_i d q
  obtain⟨Hs',r'⟩:=r.frz q;exact⟨Hs0,H0,Hs',_,o,r',e,k⟩
 · exact⟨Hs0,H0,Hs,τ,o,r,e,k⟩⟩
end
theorem dh i (hN:X.N[i]?=some x:=by exact rfl) (he:Bx (PEd X e f)) (hv:Vis X.env.scope x:=by walk_at "w") (hd:Dg x:=by decide) (hcd:Dc x:=by decide) (Q1:Ug X (.Name x p) "append":=by rfl) (Qy:Uh X e Qx:=by rfl) (Qz:Ui Qw Qx:=by rfl) (hst:Se X e []:=by rfl) (Q0:Sb X Qx []:=by rfl) (hs:swapsWith (.Call (.Attribute (.Name x p) "append" Qw) [e] [] Qx) none pos.line X.env=pure false:=by rfl):Bx (PSd X (.Expr (.Call (.Attribute (.Name x p) "append" Qw) [e] [] Qx) pos) (IH i f)):=⟨have he:=he.out;(fG (zG Wb PySem.F.slot_list_append PySem.F.type_list_append qW (iC hN hv hd hcd) (be he dB hst) Q1 Qy Qz hst Q0) hs).imp λ E σ H w0=>g53 w0 λ Hs0 H0 Hs τ o r e k=>by
 obtain⟨d,e1,e2⟩:=Ub e;obtain⟨fp,h⟩:=r.st;split at e2
 ·rename_i ds q
  split at e2
  ·rename_i hl
   cases e2;obtain⟨a,h1,h2,h3,h4⟩:=h.Lo q
   cases h2 with
   |@lst xs _ hH hn hr=>
    refine⟨_,h1,.inl ⟨rfl,_,SqL.of hH⟩,?_⟩;refine⟨H0,Hs,τ,fp,d,h,r.same,e1,λ v Hs' H' g1 rv=>?_⟩;have hH':=g1.hh _ _ hH;have h':=h.ext g1;have n':=g1.fr a hn (gu hH);refine⟨a,xs,v,rfl,rfl,hH',by rw[hr.length];exact le5 (Yo hl),?_⟩;refine k σ Hs' _ ⟨⟨r.ext.ss.trans g1.ss,λ b u z=>?_,λ b u z=>?_,λ b k1 k2=>?_⟩,fp,h'.mut q h1 (.lst ay n' ((hr.same g1.ss).append (.cons rv .nil)))⟩
    ·have ne:b≠a:=λ y=>by subst y; rw [n'] at z; cases z
     rw[ar ne];exact g1.sh b u z
    ·have ne:b≠a:=λ y=>by subst y; rw [h3] at z; cases z
     rw[ar ne];exact g1.hh b u (r.ext.hh b u z)
    · exact g1.fr b (r.ext.fr b k1 k2) (r.ext.hh.live k2)
  · cases e2
 · cases e2⟩
theorem dY(h:Bx (PEd X l f)):Bx (PId X tg l (NU f)):=⟨have h:=h.out;(zq h).imp λ σ H R w0=>g54 w0 λ H0 Hs τ fp ds st sm e k=>by
 obtain⟨x,e1,e2⟩:=Ub e;refine⟨H0,Hs,τ,fp,x,st,sm,e1,λ v Hs' H' g r=>?_⟩
 cases r with
 |@lst a xs ds' h r=>
  have e':=Zj e2;subst e';exact⟨a,rfl,⟨xs,SqL.of (g.sh _ _ h)⟩,k _ Hs' H' g (vH (SqL.of h) r)⟩
 |@fz a xs ds' h r=>
  have e':=Zj e2;subst e';exact⟨a,rfl,⟨xs,g.sh.seq h⟩,k _ Hs' H' g (vH h r)⟩
 |_=>exact nn e2⟩
theorem cP(h:Bx (PEd X l f)):Bx (PId X tg l (A2 f)):=⟨have h:=h.out;(JX h).imp λ σ H R w0=>g54 w0 λ H0 Hs τ fp ds st sm e k=>by
 obtain⟨x,e1,e2⟩:=Ub e;refine⟨H0,Hs,τ,fp,x,st,sm,e1,λ v Hs' H' g r=>?_⟩
 cases r with
 |@tup a xs ds' h r=>
  have e':=Zj e2;subst e';exact⟨a,rfl,⟨xs,g.sh.tup h⟩,k _ Hs' H' g (Ht h r)⟩
 |_=>exact nn e2⟩
theorem ck(hm:X.mg "range"=none)(ha:Bx (PAd X [a] f))(hg:Gl X "range":=by rfl)(hs:starEach [a] X.env=[(false,eval a X.env)]:=by rfl):Bx (PId X tg (.Call (.Name "range" p) [a] [] pos) (rF f)):=⟨have ha:=ha.out;(qC hg hm ha hs).imp λ σ H R w0=>g54 w0 λ H0 Hs τ fp ds st sm e k=>by
 obtain⟨x,e1,e2⟩:=Ub e;refine⟨H0,Hs,τ,fp,x,st,sm,e1,λ v Hs' H' g r=>?_⟩
 cases r with
 |nil=>simp at e2
 |@cons _ y _ _ hy r0=>
 cases r0 with
 |@cons _ _ _ _ _ _=>simp at e2
 |nil=>
  cases hy with
  |int j=>
   simp only at e2;split at e2
   ·rename_i hj
    have e':=Zj e2;subst e';exact⟨j,rfl,hj.1,hj.2,k _ Hs' H' g (mD _ _)⟩
   · cases e2
  |_=>exact nn e2⟩
theorem aN i (hN:X.N.Nodup) (hi:X.N[i]?=some x:=by exact rfl) (hx:Loc X.env.scope x:=by walk_at "v") (hf:Xl X x:=by walk_at "v"):Bx (PGd X (.Name x pos) (gN i)):=⟨(lU hN hi hx hf).imp λ v σ H Q w0=>g64 w0 λ Hs0 H0 Hs τ τ' d r rv e k=>by
 have e':=Zj e;subst e';obtain⟨fp,h⟩:=r.st;obtain⟨fp',_,h'⟩:=h.Cd rv
 exact k _ ⟨r.ext,fp',h'⟩⟩
theorem jT  : Bx (Mh X [] Ln):=⟨tJ.imp λ v σ H Q w0=>g64 w0 λ Hs0 H0 Hs τ τ' d r rv e k=>by
 cases rv with
 |nil=>
  have e':=Zj e;subst e';exact⟨rfl,k σ r⟩
 |cons _ _=>simp[Ln]at e⟩
theorem c6(h1:Bx (PGd X e g))(h2:Bx (Mh X es h))(hs:(assignEach (e::es) X.env).map (·.2)=assign e X.env::(assignEach es X.env).map (·.2):=by rfl):Bx (Mh X (e::es) (Fe g h)):=⟨have h1:=h1.out;have h2:=h2.out;(lr h1 h2 hs).imp λ v σ H Q w0=>g64 w0 λ Hs0 H0 Hs τ τ' d r rv e k=>by
 cases rv with
 |nil=>simp[Fe]at e
 |cons rx rr=>
  obtain⟨τ1,e1,e2⟩:=Ub e
  exact⟨_,_,rfl,Hs0,H0,Hs,τ,τ1,_,r,rx,e1,λ σ' r'=>⟨Hs0,H0,Hs,τ1,τ',_,r',rr,e2,k⟩⟩⟩
theorem mS(h:Bx (Mh X es g))(hc:X.calm=true:=by rfl)(hn:(assignEach es X.env).length=n:=by rfl)(hst:(assignEach es X.env).findIdx? (·.1)=none:=by rfl):Bx (PGd X (.Tuple es k' pos) (gT n g)):=⟨have h:=h.out;(zt hc h hn hst).imp λ v σ H Q w0=>g64 w0 λ Hs0 H0 Hs τ τ' d r rv e k=>by
 cases rv with
 |@tup a xs ds h rr=>
  simp only[gT]at e;split at e
  ·rename_i hl
   exact⟨a,xs,rfl,r.same.tup h,by rw[rr.length];exact hl,Hs0,H0,Hs,τ,τ',ds,r,rr,e,k⟩
  · cases e
 |_=>simp[gT]at e⟩
theorem aZ(hi:Bx (PId X tg iter it))(hg:Bx (PGd X tg g))(hb:Bx (yn X body b))(hp:PassesOwn (model X.prog X.w) X.A X.env X.xe:=by exact .never)(hc:X.calm=true:=by rfl)(hs:Fs X iter:=by intro _;rfl):Bx (PSd X (.For tg iter body [] pos) (CN it g b)):=⟨have hi:=hi.out;have hg:=hg.out;have hb:=hb.out;(zi hp hc hi hg hb hs).imp λ E σ H w0=>g53 w0 λ Hs0 H0 Hs τ o r e k=>by
 obtain⟨ds,e1,e2⟩:=Ub e;obtain⟨fp,hst⟩:=r.st;refine⟨H0,Hs,τ,fp,ds,hst,r.same,e1,λ J Hs1 H1 g1 hJ=>?_⟩;have r1:=r.ext' g1;have kk:=k.rebase r1.ext;refine⟨λ i m σ H=>m=ds.length - i/\i<=ds.length/\∃ Hs2 τ2,Rep X.K Hs1 H0 Hs2 H σ τ2/\xI (λ d τ=>(g d τ).bind b) (ds.drop i) τ2=some o,⟨ds.length,by simp,Z0 _,Hs1,τ,r1.rebase,by simpa using e2⟩,?_⟩
 rintro i m σ2 H2 ⟨rfl,hi,Hs2,τ2,r2,e3⟩
 obtain⟨hgo,hstop⟩:=hJ Hs2 H2 r2.ext.ss r2.same
 by_cases hlt:i<ds.length
 ·have ed:=Xa hlt
  rw[ed]at e3;obtain⟨go,yl⟩:=hgo i ds[i] (QA hlt);refine .inr ⟨go,λ σ' H'=>∃ Hs' τ',Rep X.K Hs1 H0 Hs' H' σ' τ'/\xI (λ d τ=>(g d τ).bind b) (ds.drop (i+1)) τ'=some o,?_,?_⟩
  ·rintro σ' H' ⟨Hs',τ',r',e'⟩
   exact⟨ds.length - (i+1),by omega,rfl,hlt,Hs',τ',r',e'⟩
  ·intro x H' y
   obtain⟨Hs3,g3,rx⟩:=yl x H' y;have r3:=r2.ext' g3;unfold xI at e3
   cases q:(g ds[i] τ2).bind b with
   |none=>simp only[q]at e3;cases e3
   |some o1=>
    simp only[q]at e3;obtain⟨τ3,q1,q2⟩:=Ub q;refine⟨Hs1,H0,Hs3,τ2,τ3,ds[i],r3,rx,q1,λ σ' r'=>?_⟩;refine⟨Hs1,H0,Hs3,τ3,o1,r',q2,?_⟩
    cases o1 with
    |next τ'=>exact λ σ4 Hs4 H4 r4=>⟨Hs4,τ',r4,e3⟩
    |cnt τ'=>exact λ σ4 Hs4 H4 r4=>⟨Hs4,τ',r4,e3⟩
    |brk τ'=>cases e3;exact kk
    |ret s=>cases e3;exact kk
 ·have e0:i=ds.length:=by omega
  subst e0;rw[Wr]at e3;have e':Out.next τ2=o:=by simpa [xI] using e3
  subst e'
  exact .inl ⟨hstop _ (Zo _),kk σ2 Hs2 H2 r2⟩⟩
theorem uz(hc:Bx (PTd X c t))(hb:Bx (yn X body b))(hp:PassesOwn (model X.prog X.w) X.A X.env X.xe:=by exact .never):Bx (PSd X (.While c body [] pos) (qm t b)):=⟨have hc:=hc.out;have hb:=hb.out;(CY hp hc hb).imp λ E σ H w0=>g53 w0 λ Hs0 H0 Hs τ o r e k=>by
 obtain⟨n,e⟩:=yP e;refine⟨λ m σ H=>∃ Hs2 τ2,Rep X.K Hs0 H0 Hs2 H σ τ2/\c9 t b m τ2=some o,⟨n,Hs,τ,r,e⟩,?_⟩
 rintro m σ2 H2 ⟨Hs2,τ2,r2,e2⟩
 obtain⟨fp,hst⟩:=r2.st
 cases m with
 |zero=>simp[c9]at e2
 |succ m=>
  unfold c9 at e2
  cases q:t τ2 with
  |none=>rw[q]at e2;cases e2
  |some bb=>
   rw[q]at e2;refine⟨H0,Hs2,τ2,fp,bb,hst,r2.same,q,λ Hs3 H3 g3=>?_⟩;have r3:=r2.ext' g3
   cases bb with
   |false=>
    have e':Out.next τ2=o:=by simpa using e2
    subst e';exact L4 (k σ2 Hs3 H3 r3)
   |true=>
    refine IQ ?_
    refine⟨λ σ' H'=>∃ Hs' τ',Rep X.K Hs0 H0 Hs' H' σ' τ'/\c9 t b m τ'=some o,?_,?_⟩
    ·rintro σ' H' ⟨Hs',τ',r',e'⟩
     exact⟨m,by omega,Hs',τ',r',e'⟩
    ·cases q2:b τ2 with
     |none=>rw[q2]at e2;cases e2
     |some o1=>
      rw[q2]at e2;refine⟨Hs0,H0,Hs3,τ2,o1,r3,q2,?_⟩
      cases o1 with
      |next τ'=>exact λ σ4 Hs4 H4 r4=>⟨Hs4,τ',r4,e2⟩
      |cnt τ'=>exact λ σ4 Hs4 H4 r4=>⟨Hs4,τ',r4,e2⟩
      |brk τ'=>cases e2;exact k
      |ret s=>cases e2;exact k⟩
theorem au(Fo:Go X.prog X.w X.K X.mg X.base k x (spF F X.K))(hr:cp jj X.A)(ha:Bx (PAd X (e::es) g))(hj:k<=jj:=by decide)(hg:Gl X x:=by rfl)(hdb:Dg x:=by decide)(he:Se X e es:=by rfl)(hpl:Sb X pos es:=by rfl):Bx (PEd X (.Call (.Name x p) (e::es) [] pos) (dFn F g)):=by
 obtain⟨f',fd',ps',hm,hk,hb,Fo⟩:=Fo.go;have hr:=hr.mono hj;exact⟨GW Fo hr hg hm hk hb ha.out hdb he hpl⟩
theorem jw(Fo:Go X.prog X.w X.K X.mg X.base k x (spF F X.K))(hr:cp jj X.A)(ha:Bx (PAd X (e::es) g))(hj:k<=jj:=by decide)(hg:Gl X x:=by rfl)(hdb:Dg x:=by decide)(he:Se X e es:=by rfl)(hpl:Sb X pos es:=by rfl):Bx (PEo X (.Call (.Name x p) (e::es) [] pos) (Fq F g)):=by
 obtain⟨f',fd',ps',hm,hk,hb,Fo⟩:=Fo.go;have hr:=hr.mono hj;exact⟨GI Fo hr hg hm hk hb ha.out hdb he hpl⟩
theorem iq(Fo:Go X.prog X.w X.K X.mg X.base k x (spF F X.K))(hr:cp jj X.A)(hj:k<=jj:=by decide)(hg:Gl X x:=by rfl)(hdb:Dg x:=by decide):Bx (PEd X (.Call (.Name x p) [] [] pos) (dFn F eF)):=by
 obtain⟨f',fd',ps',hm,hk,hb,Fo⟩:=Fo.go;have hr:=hr.mono hj;exact⟨Dm Fo hr hg hm hk hb hdb⟩
theorem BU(O:eX X scope cl x cs)(hi:Bx (PId X (.Name x px) iter it))(he:∀ s H fp C,Bx (PEd (cW X scope cl (x::cs.map (·.1)) s H fp C) elt g):=by intros;walk_at "g")(hc:X.calm=true:=by rfl)(hs:Fs X iter:=by intro _;rfl):Bx (PEo X (.ListComp elt [⟨.Name x px,iter,[],0⟩] scope pos) (D8 it g cs)):=⟨have hi:=hi.out;have he:=(λ s H fp C=>(he s H fp C).out);(GQ (te:=rdE X.K g) hc O hi he hs).imp λ σ H Q h=>HW h⟩
theorem jv i (ho:PIp X op (ipI fi)) (hoo:∀ x y z,o x y=some z->∃ i j,x=.int i/\y=.int j/\z=.int (fi i j)) (hN:X.N.Nodup) (hi:X.N[i]?=some x:=by exact rfl) (he:Bx (PEd X e f)) (hx:Loc X.env.scope x:=by walk_at "v") (hf:Xl X x:=by walk_at "v"):Bx (PSd X (.AugAssign (.Name x pos') op e pos) (JI i o f)):=⟨have he:=he.out;(JV hN hi hx he ho hf).imp λ E σ H w0=>g53 w0 λ Hs0 H0 Hs τ oo r e k=>by
 obtain⟨dx,e1,e2⟩:=Ub e;obtain⟨dy,e3,e4⟩:=Ub e2;obtain⟨dz,e5,rfl⟩:=Zm e4;obtain⟨ii,jj,rfl,rfl,rfl⟩:=hoo _ _ _ e5;obtain⟨fp,h⟩:=r.st
 have e1':τ[i]?=some (.shr (.int ii)):=by
  unfold bf at e1;split at e1
  · rename_i d' q;rw[q];simpa using e1
  · cases e1
 obtain⟨v,h1,h2⟩:=h.get e1';refine⟨v,h1,H0,Hs,τ,fp,_,h,r.same,e3,λ u Hs' H' g1 ru=>?_⟩;cases h2;cases ru;refine⟨ii,jj,rfl,rfl,?_⟩;obtain⟨fp',_,h'⟩:=(h.ext g1).Cd (.int _)
 exact k _ Hs' H' ⟨r.ext.trans g1,fp',h'⟩⟩
theorem bK(c:Cls X.K C)(n:cT X.K C f)(he:Bx (PEd X e g))(hb:Ug X e f:=by rfl):Bx (PEd X (.Attribute e f pos) (dUn (IL C f) g)):=⟨have he:=he.out;(ER he hb).imp λ σ H Q w0=>g54 w0 λ H0 Hs τ fp d st sm e k=>by
 obtain⟨x,e1,e2⟩:=Ub e;refine⟨H0,Hs,τ,fp,x,st,sm,e1,λ v Hs' H' g' r=>?_⟩
 cases r with
 |@obj a C' dx fs ds h r=>
  simp only[IL]at e2;split at e2
  ·rename_i hc
   subst hc;obtain⟨v,h1,h2⟩:=r.look e2;exact⟨a,C',dx,fs,v,rfl,g'.sh _ _ h,c,n,h1,k v Hs' H' g' h2⟩
  · cases e2
 |_=>exact nn e2⟩
theorem bA (c:Cls X.K C) (Fo:GoM X.prog X.w X.K X.mg X.base k C m (spF F X.K)) (hr:cp jj X.A) (he:Bx (PEd X o g)) (ha:Bx (PAd X (e::es) ga)) (hj:k<=jj:=by decide) (hst:Se X e es:=by rfl) (hpl:Sb X pos es:=by rfl) (ht:eval (.Call (.Attribute o m Qw) (e::es) [] pos) X.env=(do
  let ov <- eval o X.env
  standAt Qw.atName
  let (f,first) <- holding [ov] (getMethod ov m pl)
  callWith pos f first (backTo pos (starEach (e::es) X.env)) (backToKw pos (keywordEach [] X.env))):=by rfl):Bx (PEd X (.Call (.Attribute o m Qw) (e::es) [] pos) (jR C m F g ga)):=by
 obtain⟨f',fd',ps',hm,hb,Fo⟩:=Fo.go;have hr:=hr.mono hj;exact⟨GU he.out c hm Fo hr hb ha.out hst hpl ht⟩
theorem oF (c:Cls X.K C) (Fo:GoM X.prog X.w X.K X.mg X.base k C m (spF F X.K)) (hr:cp jj X.A) (he:Bx (PEd X o g)) (hj:k<=jj:=by decide) (ht:eval (.Call (.Attribute o m Qw) [] [] pos) X.env=(do
  let ov <- eval o X.env
  standAt Qw.atName
  let (f,first) <- holding [ov] (getMethod ov m pl)
  callWith pos f first (backTo pos (starEach [] X.env)) (backToKw pos (keywordEach [] X.env))):=by rfl):Bx (PEd X (.Call (.Attribute o m Qw) [] [] pos) (jR C m F g eF)):=by
 obtain⟨f',fd',ps',hm,hb,Fo⟩:=Fo.go;have hr:=hr.mono hj;exact⟨Dl he.out c hm Fo hr hb ht⟩
theorem BZ(Fo:GoI X.prog X.w X.K X.mg X.base k C (yJ C ns))(hr:cp jj X.A)(hm:X.mg x=some (.ref C))(ha:Bx (PAd X (e::es) ga))(hj:k+1<=jj:=by decide)(hg:Gl X x:=by rfl)(hdb:Dg x:=by decide)(he:Se X e es:=by rfl)(hpl:Sb X pos es:=by rfl):Bx (PEd X (.Call (.Name x p) (e::es) [] pos) (LG C ns ga)):=by
 obtain⟨f',fd',ps',M,hb,Fo⟩:=Fo.go;have hr:=hr.mono hj;exact⟨GV M Fo hr hg hm hb ha.out hdb he hpl⟩
theorem sE i (hN:X.N.Nodup) (O:eX X scope cl x cs) (hy:X.N[i]?=some y:=by exact rfl) (hi:Bx (PId X (.Name x px) iter it)) (hcd:∀ s H fp C,Bx (PTd (cW X scope cl (x::cs.map (·.1)) s H fp C) cnd c):=by intros;walk_at "h") (he:∀ s H fp C,Bx (PEd (cW X scope cl (x::cs.map (·.1)) s H fp C) elt g):=by intros;walk_at "g") (hx:Loc X.env.scope y:=by walk_at "v") (hc:X.calm=true:=by rfl) (hs:Fs X iter:=by intro _;rfl) (hsw:swapsWith (.ListComp elt [⟨.Name x px,iter,[cnd],0⟩] scope pos) (some (.Name y py)) spos.line X.env=pure true:=by rfl) (hf:Xl X y:=by walk_at "v"):Bx (PSd X (.Assign [.Name y py] (.ListComp elt [⟨.Name x px,iter,[cnd],0⟩] scope pos) spos) (xg i (wj it c g cs))):=⟨have hi:=hi.out;have hcd:=(λ s H fp C=>(hcd s H fp C).out);have he:=(λ s H fp C=>(he s H fp C).out);(CZ (te:=rdE X.K g) (tt:=rdT X.K c) hN hy hx hc O hi hcd he hs hsw hf).imp λ E σ H w0=>g53 w0 λ Hs0 H0 Hs τ o r e k=>by
 obtain⟨d,e1,rfl⟩:=Zm e;obtain⟨fp,h⟩:=r.st;refine D9 ⟨H0,Hs,τ,fp,d,h,r.same,e1,λ a Hs' H' g1 rv z=>?_⟩;obtain⟨Hs2,g2,r2⟩:=SlV.shr (s:=.own d) g1 ⟨a,rfl,rv,z⟩ rfl;obtain⟨fp',_,h'⟩:=(h.ext g2).Cd r2
 exact k _ Hs2 H' ⟨r.ext.trans g2,fp',h'⟩⟩
theorem cm(hu:X.A.units+64<cLine)(hs:Mi i)(ho:Bx (PEd X o f))(hi:Bx (PEd X i g)):Bx (PEd X (.Subscript o i pos) (dOp xu f g)):=⟨have ho:=ho.out;have hi:=hi.out;(tK (by omega) ho hi hs).imp λ σ H Q h=>by
 have h':=n9 X.K h;obtain⟨H0,Hs,τ,fp,x,st,sm,e1,kk⟩:=h';refine⟨H0,Hs,τ,fp,x,st,sm,e1,λ v Hs1 H1 g1 r1=>?_⟩;obtain⟨H0',Hs',τ',fp',y,st',sm',e2,kk2⟩:=kk v Hs1 H1 g1 r1;refine⟨H0',Hs',τ',fp',y,st',sm',e2,λ u Hs2 H2 g2 r2=>?_⟩;obtain⟨Hs3,dx,dy,d,sm3,rx,ry,eo,k⟩:=kk2 u Hs2 H2 g2 r2
 cases rx with
 |@dct a kvs ds hH rk=>
  obtain⟨key,ek,ev⟩:=Ub (eo);obtain⟨w,hw,rw'⟩:=(rk.val).1 d ev;have:=gm ry ek;subst this;exact⟨a,w,rfl,by rw[<- hw];exact oM.k (sm3 _ _ hH),k w Hs3 H2 (.refl sm3) rw'⟩
 |@dfz a kvs ds hH rk=>
  obtain⟨key,ek,ev⟩:=Ub (show(jn dy).bind _=some d from eo);obtain⟨w,hw,rw'⟩:=(rk.val).1 d ev;have:=gm ry ek;subst this;refine⟨a,w,rfl,.inl ⟨_,key,.inr (hH.imp λ _ z=>sm3 _ _ z),rfl,hw.symm⟩,k w Hs3 H2 (.refl sm3) rw'⟩
 |_=>simp[xu]at eo⟩
theorem mP(hu:X.A.units+64<cLine)(hm:behindInMarks .In o=false)(hi:Bx (PEd X i f))(ho:Bx (PEd X o g)):Bx (PTd X (.Compare i [.In] [o] pos) (dT (dOp Cf f g))):=⟨have hi:=hi.out;have ho:=ho.out;(zh (J7 (by omega) hi ho) hm).imp λ σ H Q h=>Bu (neg:=false) X.K (FP X.K h)⟩
theorem gL(hu:X.A.units+64<cLine)(hm:behindInMarks .NotIn o=false)(hi:Bx (PEd X i f))(ho:Bx (PEd X o g)):Bx (PTd X (.Compare i [.NotIn] [o] pos) (dT (dOp gC f g))):=⟨have hi:=hi.out;have ho:=ho.out;(zh (qD (by omega) hi ho) hm).imp λ σ H Q h=>Bu (neg:=true) X.K (FP X.K h)⟩
theorem sJ(hu:X.A.units+64<cLine)(ho:Bx (PEd X o f))(he:Bx (PEd X e g))(hv:Bx (PEd X value h))(m:M2 X o "get" Qw e value Qx:=by exact⟨rfl,rfl,rfl,rfl⟩):Bx (PEd X (.Call (.Attribute o "get" Qw) [e,value] [] Qx) (HR f g h)):=⟨have ho:=ho.out;have he:=he.out;have hv:=hv.out;(Dh (by omega) ho he hv m).imp λ σ H Q w0=>g54 w0 λ H0 Hs τ fp d st sm e k=>by
 obtain⟨x,e1,e⟩:=Ub e;obtain⟨y,e2,e⟩:=Ub e;obtain⟨z,e3,e⟩:=Ub e;refine⟨H0,Hs,τ,fp,x,st,sm,e1,λ v Hs1 H1 g1 r1=>?_⟩
 cases r1 with
 |@dct a kvs ds hH rk=>
  obtain⟨key,ek,ev⟩:=Zm (e);refine⟨a,rfl,.inl ⟨kvs,.inl (g1.sh _ _ hH)⟩,?_⟩;refine⟨H0,Hs1,τ,fp,y,st.ext g1,g1.sh,e2,λ u Hs2 H2 g2 r2=>?_⟩;refine⟨H0,Hs2,τ,fp,z,(st.ext g1).ext g2,g2.sh,e3,λ w Hs3 H3 g3 r3=>?_⟩;have:=gm r2 ek;subst this;have hH3:=g3.sh _ _ (g3.ss _ _ (g2.ss _ _ hH));refine⟨cC kvs key,oM.k hH3,?_⟩;have g13:=(g1.trans g2).trans g3;subst ev;have rk3:=(rk.same g2.ss).same g3.ss
  cases q:du ds key with
  |none=>
   rw[q]at k;rw[(rk3.val).2 q];exact k w Hs3 H3 g13 r3
  |some d'=>
   obtain⟨w',hw,rw'⟩:=(rk3.val (k:=key)).1 d' q;rw[q]at k;rw[hw];exact k w' Hs3 H3 g13 rw'
 |_=>exact nn e⟩
theorem mQ  : Bx (PEo X (.Dict [] [] pos) (dC (.dct []))):=⟨vn.imp λ σ H Q ⟨H0,Hs,τ,fp,d,st,sm,e,k⟩ p hp=>by
 have e':=Zj e;subst e'
 exact k p Hs _ ⟨.refl _,sm.trans (aF hp _),aF hp _,λ _ h _=>h⟩ (.dct ay (sm.free hp) .nil) hp⟩
theorem bY j (hu:X.A.units+64<cLine) (hN:X.N[j]?=some x:=by exact rfl) (hval:Bx (PEd X value f)) (hi:Bx (PEd X i g)) (hv:Vis X.env.scope x:=by walk_at "w") (hs:swapsWith value (some (.Subscript (.Name x p) i pos')) pos.line X.env=pure false:=by rfl) (hd:Dg x:=by decide) (hcd:Dc x:=by decide):Bx (PSd X (.Assign [.Subscript (.Name x p) i pos'] value pos) (yW j f g)):=⟨have hval:=hval.out;have hi:=hi.out;(tH (by omega) (iC hN hv hd hcd) hi hval hs).imp λ E σ H w0=>g53 w0 λ Hs0 H0 Hs τ o r e k=>by
 obtain⟨dv,e1,e⟩:=Ub e;obtain⟨dy,e2,e⟩:=Ub e;obtain⟨fp,h⟩:=r.st;split at e
 ·rename_i ds q
  obtain⟨key,ek,e⟩:=Ub e;split at e
  ·rename_i hl
   cases e;obtain⟨a,h1,h2,h3,h4⟩:=h.Lo q
   cases h2 with
   |@dct kvs _ hH hn hr=>
    refine⟨H0,Hs,τ,fp,dv,h,r.same,e1,λ v Hs1 H1 g1 rv=>?_⟩;refine⟨_,h1,?_⟩;refine⟨H0,Hs1,τ,fp,dy,h.ext g1,g1.sh,e2,λ y Hs2 H2 g2 ry=>?_⟩;have g12:=g1.trans g2;have hH':=g12.hh _ _ hH;have h':=h.ext g12;have n':=g12.fr a hn (gu hH);have:=gm ry ek;subst this;refine⟨a,_,rfl,Ck.k hH' (by rw[hr.length];exact le5 (Yo hl)),?_⟩;refine k σ Hs2 _ ⟨⟨r.ext.ss.trans g12.ss,λ b u z=>?_,λ b u z=>?_,λ b k1 k2=>?_⟩,fp,h'.mut q h1 (.dct ay n' ((hr.same g12.ss).put (rv.same g2.ss)))⟩
    ·have ne:b≠a:=λ y=>by subst y; rw [n'] at z; cases z
     rw[ar ne];exact g12.sh b u z
    ·have ne:b≠a:=λ y=>by subst y; rw [h3] at z; cases z
     rw[ar ne];exact g12.hh b u (r.ext.hh b u z)
    · exact g12.fr b (r.ext.fr b k1 k2) (r.ext.hh.live k2)
  · cases e
 · cases e⟩
theorem iV(ho:OpR X (compareOp op) (rdR X.K o))(ho':OpR X (compareOp op') (rdR X.K o'))(ha:Bx (PEd X a f))(hb:Bx (PEd X b g))(hc:Bx (PEd X c h))(hm:lastMarks [op,op'] [b,c]=false:=by with_unfolding_all rfl):Bx (PTd X (.Compare a [op,op'] [b,c] pos) (dT (so (dOp o f g) (dOp o' g h)))):=⟨have ha:=ha.out;have hb:=hb.out;have hc:=hc.out;(CV ho ho' ha hb hc hm).imp λ σ H Q hh=>Ec X.K (FP X.K hh)⟩
def BR  : Bx (PPd X pos [] [] []):=⟨GF⟩
theorem oz(hk:Bx (PEd X k f))(hv:Bx (PEd X v g))(hr:Bx (PPd X pos ks vs ps)):Bx (PPd X pos (some k::ks) (v::vs) ((f,g)::ps)):=⟨have hk:=hk.out;have hv:=hv.out;have hr:=hr.out;C4 hk hv hr⟩
theorem BS(h:Bx (PPd X pos keys values ps))(hall:keys.all (·.isSome)=true:=by rfl)(hl:keys.length=values.length:=by rfl)(h0:keys≠[]:=by exact List.cons_ne_nil _ _)(h15:keys.length<=15:=by exact Zb rfl):Bx (PEo X (.Dict keys values pos) (Of ps)):=⟨have h:=h.out;(GP h hall hl h0 h15).imp λ σ H Q ⟨H0,Hs,τ,fp,d,st,sm,e,k⟩ p hp=>by
 obtain⟨kvs,e1,e⟩:=Ub e;split at e
 ·rename_i hk
  cases e;have hsp:=sm.free hp;have g0:Ext Hs H Hs (upd H p (.dK [])):=⟨.refl _,sm.trans (aF hp _),aF hp _,λ _ h _=>h⟩
  refine vo (st.ext g0) g0.sh e1 λ ws Hs' H' g r=>?_
  have hp':=g.hh _ _ ay;have hs':=g.fr p hsp (by rw[ay];simp);refine⟨hp',ws,rfl,by rw[r.length];exact hk,?_⟩;refine k p Hs' _ ⟨g.ss,λ b u z=>?_,λ b u z=>?_,λ b k1 k2=>?_⟩ (.dct ay hs' (r.merge .nil)) hp
  ·have ne:b≠p:=λ y=>by subst y; rw [hs'] at z; cases z
   rw[ar ne];exact g.sh b u z
  ·have ne:b≠p:=λ y=>by subst y; rw [hp] at z; cases z
   rw[ar ne];exact g.hh b u (by rw[ar ne];exact z)
  ·by_cases z:b=p
   · subst z;exact hs'
   · exact g.fr b k1 (by rw[ar z];exact k2)
 · cases e⟩
theorem La{α:Type}{g:Int->Int->Rz α}{x:Ry D}{y:α}(h:(match x with|[.int i,.int j]=>g i j|_=>none)=some y):∃ i j,x=[.int i,.int j]/\g i j=some y:=by
 split at h
 · exact⟨_,_,rfl,h⟩
 · cases h
theorem sG(hm:X.mg "range"=none)(ha:Bx (PAd X [a,b] f))(hg:Gl X "range":=by rfl)(hs:starEach [a,b] X.env=[(false,eval a X.env),(false,eval b X.env)]:=by rfl)(hs2:starEach [b] X.env=[(false,eval b X.env)]:=by rfl):Bx (PId X tg (.Call (.Name "range" p) [a,b] [] pos) (A3 f)):=⟨have ha:=ha.out;(zp hg hm ha hs hs2).imp λ σ H R w0=>g54 w0 λ H0 Hs τ fp ds st sm e k=>by
 obtain⟨x,e1,e2⟩:=Ub e;refine⟨H0,Hs,τ,fp,x,st,sm,e1,λ v Hs' H' g r=>?_⟩;obtain⟨i,j,rfl,e3⟩:=La e2;obtain⟨_,_,rfl,hy,hz⟩:=qr r;cases hy.ui;cases hz.ui
 split at e3
 ·rename_i hj
  have e':=Zj e3;subst e';exact⟨i,j,rfl,hj,k _ Hs' H' g (mD _ _)⟩
 · cases e3⟩
def wC i (h:Bx (PEo X e f)):Bx (PEo X e (HS i f)):=⟨have h:=h.out;PE.imp h λ σ H Q q=>Io q⟩
section
variable{X:Cx}{a b e o:Expr}{es:Ry Expr}{pos Qw Qx:Pos}{f g:DE}
theorem wF{lo hi}{p2}{l u}(ha:Bx (PEd X a f))(hl:Bx (POd X lo l))(hh:Bx (POd X hi u)):Bx (PEd X (.Subscript a (.Slice lo hi none p2) pos) (Oc f l u)):=⟨have ha:=ha.out;have hl:=hl.out;have hh:=hh.out;(vh JB ha hl hh).imp λ σ H Q w0=>g54 w0 λ H0 Hs τ fp d st sm e k=>by
 obtain⟨x,e1,e⟩:=Ub e;obtain⟨l',e2,e⟩:=Ub e;obtain⟨u',e3,e⟩:=Ub e;refine⟨H0,Hs,τ,fp,x,st,sm,e1,λ v Hs1 H1 g1 r1=>?_⟩;refine⟨H0,Hs1,τ,fp,l',st.ext g1,g1.sh,e2,λ Hs2 H2 g2=>?_⟩;refine⟨H0,Hs2,τ,fp,u',(st.ext g1).ext g2,g2.sh,e3,λ Hs3 H3 g3=>?_⟩
 cases r1 with
 |str z=>
  unfold OW at e;simp only at e;split at e
  ·rename_i hz
   have e':=Zj e;subst e';exact⟨z,rfl,yr hz,k _ Hs3 H3 ((g1.trans g2).trans g3) (.str _)⟩
  · cases e
 |_=>exact nn e⟩
end
theorem sF(ha:Bx (PEd X a f))(hb:Bx (PEd X b g)):Bx (PEo X (.BinOp a .Add b pos) (Og f g)):=⟨have ha:=ha.out;have hb:=hb.out;(J2 EU ha hb).imp λ σ H Q w0=>g54 w0 λ H0 Hs τ fp d st sm e k=>by
 obtain⟨x,e1,e⟩:=Ub e;obtain⟨y,e2,e⟩:=Ub e
 obtain⟨ds,es,rfl,rfl⟩:∃ ds es,x=.lst ds/\y=.lst es:=by
  split at e
  · exact⟨_,_,rfl,rfl⟩
  · cases e
 refine⟨H0,Hs,τ,fp,_,st,sm,e1,λ v Hs1 H1 g1 r1=>?_⟩;refine⟨H0,Hs1,τ,fp,_,st.ext g1,g1.sh,e2,λ u Hs2 H2 g2 r2=>?_⟩
 cases r1 with
 |@lst p xs _ h r=>cases r2 with
  |@lst p' ys _ h' r'=>
   simp only at e;split at e
   ·rename_i hh
    have e':=Zj e;subst e';have g12:=g1.trans g2;refine⟨p,p',xs,ys,rfl,rfl,g2.sh _ _ (g2.ss _ _ h),g2.sh _ _ h',by rw[r.length,r'.length];exact yr hh,λ q hq=>?_⟩;exact k q Hs2 _ ⟨g12.ss,g12.sh.trans (aF hq _),g12.hh.trans (aF hq _),g12.fr⟩ (.lst ay (g12.sh.free hq) ((r.same g2.ss).append r')) (g12.hh.free hq)
   · cases e⟩
theorem BY(h:Bx (PEd X l f)):Bx (PId X tg l (Hx f)):=⟨have h:=h.out;(JY h).imp λ σ H R w0=>g54 w0 λ H0 Hs τ fp ds st sm e k=>by
 obtain⟨x,e1,e2⟩:=Ub e;refine⟨H0,Hs,τ,fp,x,st,sm,e1,λ v Hs' H' g r=>?_⟩
 cases r with
 |str z=>
  have e':=Zj e2;subst e';exact⟨z,rfl,k _ Hs' H' g Hu⟩
 |_=>exact nn e2⟩
theorem yh(hm:X.mg x=some (.ref bb))(hk:KD2 X.w X.K bb ds)(he:Bx (PEd X ee f))(hf:Bx (PEd X ff g))(hg:Gl X x:=by rfl)(hd:Dg x:=by decide)(m:M2 X (.Name x p1) "get" Qw ee ff Qx:=by exact⟨rfl,rfl,rfl,rfl⟩):Bx (PEd X (.Call (.Attribute (.Name x p1) "get" Qw) [ee,ff] [] Qx) (LH ds f g)):=⟨have he:=he.out;have hf:=hf.out;(C8 (zy (v:=.ref bb) hg hm rfl hd) he hf m).imp λ σ H Q w0=>g54 w0 λ H0 Hs τ fp d st sm e k=>by
 obtain⟨y,e1,e⟩:=Ub e;obtain⟨z,e2,e⟩:=Ub e;obtain⟨key,ek,ev⟩:=Zm e;obtain⟨kvs,hv,rk⟩:=hk.kd.is X.prog Hs;refine⟨bb,kvs,rfl,hv,hk.ns,hk.no,H0,Hs,τ,fp,y,st,sm,e1,λ u Hs1 H1 g1 r1=>?_⟩;have:=gm r1 ek;subst this;refine⟨key,rfl,H0,Hs1,τ,fp,z,st.ext g1,g1.sh,e2,λ w Hs2 H2 g2 r2=>?_⟩;subst ev;have rk2:=(rk.same g1.ss).same g2.ss
 cases q:du ds key with
 |none=>
  rw[q]at k;rw[(rk2.val).2 q];exact k w Hs2 H2 (g1.trans g2) r2
 |some d'=>
  obtain⟨w',hw,rw'⟩:=(rk2.val).1 d' q;rw[q]at k;rw[hw]
  exact k w' Hs2 H2 (g1.trans g2) rw'⟩
theorem mR(hm:X.mg "enumerate"=none)(ha:Bx (PAd X [a] f))(hg:Gl X "enumerate":=by rfl)(hs:starEach [a] X.env=[(false,eval a X.env)]:=by rfl):Bx (PId X (.Tuple elts k pt) (.Call (.Name "enumerate" p) [a] [] pos) (ud f)):=⟨have ha:=ha.out;(C5 hg hm ha hs).imp λ σ H R w0=>g54 w0 λ H0 Hs τ fp ds st sm e k=>by
 obtain⟨x,e1,e2⟩:=Ub e;refine⟨H0,Hs,τ,fp,x,st,sm,e1,λ v Hs' H' g r=>?_⟩
 cases r with
 |nil=>simp at e2
 |@cons _ y _ _ hy r0=>
 cases r0 with
 |@cons _ _ _ _ _ _=>simp at e2
 |nil=>
  cases hy with
  |@tup a1 xs1 ds1 h1 r1=>
   have e':=Zj e2;subst e';exact⟨a1,xs1,rfl,g.sh.tup h1,k _ Hs' H' g (AV h1 r1)⟩
  |_=>exact nn e2⟩
def aA(h:Bx (PVm X e f)):Bx (PEm X e f):=⟨PVm.em h.out⟩
theorem oC(h:Bx (PEd X e g)):Bx (PVm X e (eS g)):=⟨have h:=h.out;PE.imp h λ σ H Q w0=>g83 w0 λ Hs0 H0 nf ρ Hs τ s τ' r e k=>by
 obtain⟨d,e1,e2⟩:=Ub e;split at e2
 ·rename_i hs
  cases e2;obtain⟨fp,st⟩:=r.st;exact⟨H,H,b6 τ,[],d,st.b6 r.sm,.refl H,e1,λ v Hs' H' g1 rv=>k v Hs H' g1.hh ((r.grow g1.hh).push (yM rv hs))⟩
 · cases e2⟩
theorem bz(h:Bx (PEd X e g)):Bx (PVm X e (eN g)):=⟨have h:=h.out;PE.imp h λ σ H Q w0=>g83 w0 λ Hs0 H0 nf ρ Hs τ s τ' r e k=>by
 obtain⟨d,e1,e2⟩:=Zm e;cases e2;obtain⟨fp,st⟩:=r.st
 exact⟨H0,Hs,er τ,[],d,st.er,r.sm,e1,λ v Hs' H' g1 rv=>k v Hs' H' g1.hh ((r.ext' g1).push rv)⟩⟩
theorem wD(h:Bx (PEo X e g)):Bx (PVm X e (eO g)):=⟨have h:=h.out;PE.imp h λ σ H Q w0=>g83 w0 λ Hs0 H0 nf ρ Hs τ s τ' r e k=>by
 obtain⟨d,e1,e2⟩:=Ub e;split at e2
 ·split at e2
  ·rename_i hs
   cases e2;obtain⟨fp,st⟩:=r.st;refine⟨H,H,b6 τ,[],_,st.b6 r.sm,.refl H,e1,λ a Hs' H' g1 ow hn=>?_⟩
   cases ow with
   |lst h n rr=>exact k _ Hs H' g1.hh (r.Gy g1.hh (Od.lst h (r.sm.free hn) (F7 rr hs)) λ c hc=>by rw[Zy.mp hc];exact hn)
  · cases e2
 · cases e2⟩
theorem Fw i (hN:X.N[i]?=some x:=by exact rfl) (hv:Vis X.env.scope x:=by walk_at "w") (hd:Dg x:=by decide) (hcd:Dc x:=by decide):Bx (PVm X (.Name x p) (eV i)):=⟨(iC hN hv hd hcd).imp λ σ H Q w0=>g83 w0 λ Hs0 H0 nf ρ Hs τ s τ' r e k=>by
 obtain⟨fp,st⟩:=r.st;unfold eV at e;split at e
 ·rename_i m em
  cases e;obtain⟨v,fq,fp',h1,h2,h3,h4,h5⟩:=st.out em;exact⟨v,h1,k v Hs H (.refl H) ⟨r.ext,fq++fp',.mu h2 (λ e=>by cases e) (λ c hc=>(st.live c (h4 c hc).2).2.2) (λ c hc=>(h4 c hc).1) h3⟩⟩
 ·rename_i d ed
  cases e;obtain⟨v,h1,h2⟩:=Qm st ed;exact⟨v,h1,k v Hs H (.refl H) (r.push h2)⟩
 · cases e⟩
theorem aI i (hN:X.N[i]?=some x:=by exact rfl) (hv:Vis X.env.scope x:=by walk_at "w") (hd:Dg x:=by decide) (hcd:Dc x:=by decide):Bx (PXm X (.Name x p) (nA i)):=⟨(iC hN hv hd hcd).imp λ σ H Q w0=>g94 w0 λ Hs0 H0 nf ρ Hs τ i' q m r e eg k=>by
 cases e;obtain⟨b,m',e3,e4⟩:=cY eg;obtain⟨fp,st⟩:=r.st;obtain⟨v,fp1,v1,w1,w2,_⟩:=st.uJ e3 e4
 exact⟨v,w1,k v v H (.refl H) w1 (by cases v<;>rfl)⟩⟩
theorem cN(cl:Cls X.K C)(n:cT X.K C x)(he:Bx (PXm X e f))(hb:Ug X e x:=by rfl):Bx (PXm X (.Attribute e x pos) (Gw C x f)):=⟨have he:=he.out;(ER he hb).imp λ σ H Q w0=>g94 w0 λ Hs0 H0 nf ρ Hs τ i' q' m r e eg k=>by
 obtain⟨⟨i,q⟩,e1,e2⟩:=Ub e;split at e2
 ·rename_i C' cs en
  split at e2
  ·rename_i hc
   subst hc;cases e2;refine⟨Hs0,H0,nf,ρ,Hs,τ,i,q,_,r,e1,en,λ v v1 H' g hv hq=>?_⟩;obtain⟨a,dx,ts,u,w,rfl,rfl,ha,hl,w1,w2⟩:=(r.grow g).child en eg hv hq;generalize ek:ts.map Kd.kv=kvs at hl
   cases hl with
   |o fs=>
    have w3:((cC (fs.map λ f=>((Sum.inr f.1:Key),f.2)) (.inr x)).bind λ v=>vAt H' v [])=some w:=by
     have:=w2;simp only[vAt,ha]at this;exact this
    obtain⟨y,h1,h2⟩:=Ub w3;have ey:y=w:=by cases y<;>exact Zj h2
    subst ey;rw[oP]at h1;exact⟨a,C',dx,fs,y,rfl,ha,cl,n,h1,k v y H' g hv w1⟩
  · cases e2
 · cases e2⟩
theorem ig(hu:X.A.units+1<cLine)(hs:Mi b)(he:Bx (PXm X a f))(hk:Bx (PEd X b g)):Bx (PXm X (.Subscript a b pos) (tE f g)):=⟨have he:=he.out;have hk:=hk.out;(tK hu he hk hs).imp λ σ H Q w0=>g94 w0 λ Hs0 H0 nf ρ Hs τ i' q' m r e eg k=>by
 obtain⟨⟨i,q⟩,e1,e2⟩:=Ub e;obtain⟨d,e3,e4⟩:=Ub e2;obtain⟨ky,e5,e6⟩:=Ub e4;split at e6
 ·rename_i cs en
  cases e6;refine⟨Hs0,H0,nf,ρ,Hs,τ,i,q,_,r,e1,en,λ v v1 H1 g1 hv hq=>?_⟩;have r1:=r.grow g1;obtain⟨fp,st⟩:=r1.st;refine⟨H1,H1,b6 τ,[],d,st.b6 r1.sm,.refl H1,e3,λ y Hs2 H2 g2 ry=>?_⟩;have hy:=gm ry e5;subst hy;obtain⟨a,dx,ts,u,w,rfl,rfl,ha,hl,w1,w2⟩:=(r1.grow g2.hh).child en eg hv (bF g2.hh q hq);generalize ek:ts.map Kd.kv=kvs at hl
  cases hl with
  |d _=>
   have w3:((cC kvs ky).bind λ v=>vAt H2 v [])=some w:=by
    have:=w2;simp only[vAt,ha]at this;exact this
   obtain⟨y,h1,h2⟩:=Ub w3;have ey:y=w:=by cases y<;>exact Zj h2
   subst ey;exact⟨a,y,rfl,by rw[<- h1];exact oM.k ha,k v y H2 (g1.trans g2.hh) hv w1⟩
 · cases e6⟩
theorem Ie(he:Bx (PXm X a f))(hk:Bx (PEd X b g))(hs:uG b:=by exact λ _ _=>rfl):Bx (PXm X (.Subscript a b pos) (MT f g)):=⟨have he:=he.out;have hk:=hk.out;(GN AS he hk hs).imp λ σ H Q w0=>g94 w0 λ Hs0 H0 nf ρ Hs τ i' q' m r e eg k=>by
 obtain⟨⟨i,q⟩,e1,e2⟩:=Ub e;obtain⟨d,e3,e4⟩:=Ub e2;split at e4
 ·rename_i j cs en
  split at e4
  ·rename_i hj
   cases e4;refine⟨Hs0,H0,nf,ρ,Hs,τ,i,q,_,r,e1,en,λ v v1 H1 g1 hv hq=>?_⟩;have r1:=r.grow g1;obtain⟨fp,st⟩:=r1.st;refine⟨H1,H1,b6 τ,[],_,st.b6 r1.sm,.refl H1,e3,λ y Hs2 H2 g2 ry=>?_⟩;cases ry;obtain⟨a,dx,ts,u,w,rfl,rfl,ha,hl,w1,w2⟩:=(r1.grow g2.hh).child en eg hv (bF g2.hh q hq);generalize ek:ts.map Kd.kv=kvs at hl
   cases hl with
   |l _=>
    have w3:(((kvs.map (·.2))[j.toNat]?).bind λ v=>vAt H2 v [])=some w:=by
     have:=w2;simp only[vAt,ha]at this;exact this
    obtain⟨y,h1,h2⟩:=Ub w3;have ey:y=w:=by cases y<;>exact Zj h2
    subst ey;refine⟨a,kvs.map (·.2),j,y,rfl,rfl,SqL.of ha,?_,k v y H2 (g1.trans g2.hh) hv w1⟩;have lt:=(QB.mp h1).1;unfold atI ixN;rw[if_pos (by omega)];rw[if_pos (by omega)];exact h1
  · cases e4
 · cases e4⟩
theorem cy  : Bx (uH X [] EC):=⟨tG.imp λ E σ H w0=>g73 w0 λ Hs0 H0 nf ρ Hs τ o r e k=>by
 cases e
 exact k σ Hs H r⟩
section
variable{X:Cx}{a b c e o:Expr}{es:Ry Expr}{pos Qw Qx pos':Pos}{x:Str}{st:Stmt}{rest:Ry Stmt}{f g:DSm}
def aJ(h:Bx (PSm X st f)):Bx (uH X [st] f):=⟨have h:=h.out;iM h⟩
theorem ah(h1:Bx (PSm X st f))(h2:Bx (uH X rest g)):Bx (uH X (st::rest) (jL f g)):=⟨have h1:=h1.out;have h2:=h2.out;(ia h1 h2).imp λ E σ H w0=>g73 w0 λ Hs0 H0 nf ρ Hs τ o r e k=>by
 unfold jL at e
 cases q:f τ with
 |none=>rw[q]at e;cases e
 |some o1=>
  rw[q]at e;refine⟨Hs0,H0,nf,ρ,Hs,τ,o1,r,q,?_⟩
  cases o1 with
  |next τ'=>exact λ σ' Hs' H' r'=>⟨Hs0,H0,nf,ρ,Hs',τ',o,r',e,k⟩
  |ret s τ'=>cases e;exact k
  |brk τ'=>cases e;exact k
  |cnt τ'=>cases e;exact k⟩
def fU  : Bx (PSm X st Gc):=⟨λ _ _ _ _ _ _ ⟨_,_,_,_,_,_,_,_,e,_⟩=>by cases e⟩
end
theorem dG(hc:Bx (PTm X c t))(ha:Bx (uH X x f))(hb:Bx (uH X y g)):Bx (PSm X (.If c x y pos) (IG t f g)):=⟨have hc:=hc.out;have ha:=ha.out;have hb:=hb.out;(GD hc ha hb).imp λ E σ H w0=>g73 w0 λ Hs0 H0 nf ρ Hs τ o r e k=>by
 obtain⟨⟨bb,τ1⟩,e1,e2⟩:=Ub e;refine⟨Hs0,H0,nf,ρ,Hs,τ,bb,τ1,r,e1,λ Hs' H' r'=>?_⟩
 cases bb with
 |true=>exact⟨Hs0,H0,nf,ρ,Hs',τ1,o,r',by simpa using e2,k⟩
 |false=>exact⟨Hs0,H0,nf,ρ,Hs',τ1,o,r',by simpa using e2,k⟩⟩
theorem bX(h:Bx (PEm X e f)):Bx (PSm X (.Return (some e) pos) (Gb f)):=⟨have h:=h.out;(lR h).imp λ E σ H w0=>g73 w0 λ Hs0 H0 nf ρ Hs τ o r e k=>by
 obtain⟨⟨s,τ1⟩,e1,rfl⟩:=Zm e
 exact⟨Hs0,H0,nf,ρ,Hs,τ,s,τ1,r,e1,λ v Hs' H' r'=>k v σ Hs' H' r'⟩⟩
theorem aS i (hN:X.N.Nodup) (hi:X.N[i]?=some x:=by exact rfl) (he:Bx (PEm X e f)) (hx:Loc X.env.scope x:=by walk_at "v") (hs:Sw X e x pos' pos:=by rfl) (hf:Xl X x:=by walk_at "v"):Bx (PSm X (.Assign [.Name x pos'] e pos) (yR i f)):=⟨have he:=he.out;(qA hN hi hx he hs hf).imp λ E σ H w0=>g73 w0 λ Hs0 H0 nf ρ Hs τ o r e k=>by
 obtain⟨⟨s,τ1⟩,e1,e2⟩:=Ub e;split at e2
 ·rename_i h
  cases e2;exact⟨Hs0,H0,nf,ρ,Hs,τ,s,τ1,r,e1,λ v Hs' H' r'=>k _ Hs' H' (r'.into h.1 h.2)⟩
 · cases e2⟩
theorem cZ(he:Bx (PEm X e f))(hs:swapsWith e none pos.line X.env=pure false:=by rfl):Bx (PSm X (.Expr e pos) (qp f)):=⟨have he:=he.out;(fG he hs).imp λ E σ H w0=>g73 w0 λ Hs0 H0 nf ρ Hs τ o r e k=>by
 obtain⟨⟨s,τ1⟩,e1,rfl⟩:=Zm e
 exact⟨Hs0,H0,nf,ρ,Hs,τ,s,τ1,r,e1,λ v Hs' H' r'=>k σ Hs' H' r'.pop⟩⟩
theorem bW(he:Bx (PEd X e g))(hs:swapsWith e none pos.line X.env=pure false:=by rfl):Bx (PSm X (.Expr e pos) (yU g)):=⟨have he:=he.out;(fG he hs).imp λ E σ H w0=>g73 w0 λ Hs0 H0 nf ρ Hs τ o r e k=>by
 obtain⟨d,e1,rfl⟩:=Zm e;obtain⟨fp,st⟩:=r.st
 exact⟨H,H,b6 τ,[],d,st.b6 r.sm,.refl H,e1,λ v Hs' H' g1 rv=>k σ Hs H' (r.grow g1.hh)⟩⟩
theorem fT(h:Bx (PTd X e g)):Bx (PTm X e (tS g)):=⟨have h:=h.out;PT.imp h λ σ H Q w0=>g83 w0 λ Hs0 H0 nf ρ Hs τ b τ' r e k=>by
 obtain⟨b',e1,e2⟩:=Zm e;cases e2;obtain⟨fp,st⟩:=r.st
 exact⟨H,H,b6 τ,[],b,st.b6 r.sm,.refl H,e1,λ Hs' H' g1=>k Hs H' (r.grow g1.hh)⟩⟩
theorem bE(hu:X.A.units+1<cLine)(ho:Bx (PXm X o px))(hi:Bx (PEd X i gk))(hv:Bx (PEm X value fv))(hs:swapsWith value (some (.Subscript o i pos')) pos.line X.env=pure false:=by rfl):Bx (PSm X (.Assign [.Subscript o i pos'] value pos) (yV px gk fv)):=⟨have ho:=ho.out;have hi:=hi.out;have hv:=hv.out;(tH hu ho hi hv hs).imp λ E σ H w0=>g73 w0 λ Hs0 H0 nf ρ Hs τ o r e k=>by
 obtain⟨⟨s,τ1⟩,e1,e⟩:=Ub e;obtain⟨⟨i,q⟩,e2,e⟩:=Ub e;obtain⟨d,e3,e⟩:=Ub e;obtain⟨ky,e4,e⟩:=Ub e;obtain⟨mv,e5,e⟩:=Ub e;split at e
 ·rename_i cs en
  split at e
  ·rename_i hz
   cases e;refine⟨Hs0,H0,nf,ρ,Hs,τ,s,τ1,r,e1,λ v Hs1 H1 r1=>?_⟩;refine⟨Hs0,H0,nf,ρ,Hs1,τ1,i,q,_,r1.pop,e2,en,λ rt v1 H2 g2 hrt hq=>?_⟩;have r2:=r1.grow g2;obtain⟨fp,st⟩:=r2.pop.st;refine⟨H2,H2,b6 τ1,[],d,st.b6 r2.sm,.refl H2,e3,λ y Hs3 H3 g3 ry=>?_⟩;have hy:=gm ry e4;subst hy;obtain⟨a,dx,ts,u,fv,rfl,rfl,ha,hl,ku,fin⟩:=(r2.grow g3.hh).xw e5 en hrt (bF g3.hh q hq);obtain⟨l1,l2,hsub,spl⟩:=lQ ky ku;obtain⟨p1,p2,p3⟩:=spl ⟨ky,v,mv,fv⟩ rfl;generalize ek:ts.map Kd.kv=kvs at hl
   cases hl with
   |d _=>
    refine⟨a,_,rfl,Ck.k ha (by rw[<- ek,Za,<- Za];exact le5 (Yo hz)),?_⟩;have:=fin l1 ky l2 (.dK (putK kvs ky v)) hsub (by rw[p1,ek];exact .d _) p3;rw[p2]at this;exact k σ Hs1 _ this
  · cases e
 · cases e⟩
theorem cj(cl:Cls X.K C)(n:cT X.K C x)(ho:Bx (PXm X o px))(hv:Bx (PEm X value fv))(hs:swapsWith value (some (.Attribute o x pos')) pos.line X.env=pure false:=by rfl):Bx (PSm X (.Assign [.Attribute o x pos'] value pos) (CO C x px fv)):=⟨have ho:=ho.out;have hv:=hv.out;(EL ho hv hs).imp λ E σ H w0=>g73 w0 λ Hs0 H0 nf ρ Hs τ o r e k=>by
 obtain⟨⟨s,τ1⟩,e1,e⟩:=Ub e;obtain⟨⟨i,q⟩,e2,e⟩:=Ub e;obtain⟨mv,e5,e⟩:=Ub e;split at e
 ·rename_i C' cs en
  split at e
  ·rename_i hz
   obtain⟨hc,hz⟩:=hz;subst hc;cases e;refine⟨Hs0,H0,nf,ρ,Hs,τ,s,τ1,r,e1,λ v Hs1 H1 r1=>?_⟩;refine⟨Hs0,H0,nf,ρ,Hs1,τ1,i,q,_,r1.pop,e2,en,λ rt v1 H2 g2 hrt hq=>?_⟩;obtain⟨a,dx,ts,u,fv,rfl,rfl,ha,hl,ku,fin⟩:=(r1.grow g2).xw e5 en hrt hq;obtain⟨l1,l2,hsub,spl⟩:=lQ (.inr x) ku;obtain⟨p1,p2,p3⟩:=spl ⟨.inr x,v,mv,fv⟩ rfl;have ku':(ts.map Kd.k).Nodup:=ku;generalize ek:ts.map Kd.kv=kvs at hl
   cases hl with
   |o fs=>
    have nf:(fs.map Prod.fst).Nodup:=by
     have e0:ts.map Kd.k=(fs.map Prod.fst).map (λ x=>(Sum.inr x:Key)):=by
      rw[Yb,show ts.map Kd.k=(ts.map Kd.kv).map Prod.fst by rw[Yb];rfl,ek,Yb];rfl
     rw[e0]at ku';exact List.Pairwise.of_map _ (λ a b h e=>h (by rw[e])) ku'
    refine⟨a,C',dx,fs,rfl,ha,cl,n,?_,?_⟩
    ·have:=Z6 List.length ek
     rw[Za,Za]at this;rw[Za]at hz;omega
    ·have:=fin l1 (.inr x) l2 (.ins C' dx (nB x v fs)) hsub (by rw [p1,ek,<- va nf]; exact .o _) p3
     rw[p2]at this;exact k σ Hs1 _ this
  · cases e
 · cases e⟩
theorem sD(ho:Bx (PXm X o px))(he:Bx (PVm X e fv))(Q1:Ug X o "append":=by rfl)(Qy:Uh X e Qx:=by rfl)(Qz:Ui Qw Qx:=by rfl)(hst:Se X e []:=by rfl)(Q0:Sb X Qx []:=by rfl)(hs:swapsWith (.Call (.Attribute o "append" Qw) [e] [] Qx) none pos.line X.env=pure false:=by rfl):Bx (PSm X (.Expr (.Call (.Attribute o "append" Qw) [e] [] Qx) pos) (Ge px fv)):=⟨have ho:=ho.out;have he:=he.out;(fG (zG Wb PySem.F.slot_list_append PySem.F.type_list_append qW ho (be he dB hst) Q1 Qy Qz hst Q0) hs).imp λ E σ H w0=>g73 w0 λ Hs0 H0 nf ρ Hs τ o r e k=>by
 obtain⟨⟨i,q⟩,e1,e⟩:=Ub e;split at e
 ·rename_i cs0 en0
  obtain⟨⟨s,τ1⟩,e2,e⟩:=Ub e;obtain⟨mv,e3,e⟩:=Ub e;split at e
  ·rename_i cs en
   split at e
   ·rename_i hz
    cases e;refine⟨Hs0,H0,nf,ρ,Hs,τ,i,q,_,r,e1,en0,λ rt v1 H1 g1 hrt hq=>⟨(r.grow g1).isList en0 hrt hq,?_⟩⟩;refine⟨Hs0,H0,nf,ρ,Hs,τ,s,τ1,r.grow g1,e2,λ v Hs2 H2 g2 r2=>?_⟩;obtain⟨a,dx,ts,u,fv,rfl,rfl,ha,hl,ku,fin⟩:=r2.xw e3 en hrt (bF g2 q hq);rw[t7 hl]at ha;refine⟨a,_,v,rfl,rfl,ha,by rw[Za];rw[Za]at hz;exact le5 (Yo hz),?_⟩
    have:=fin ts (.inl 0) [] (.lst (ts.map Kd.v++[v])) (by rw[Zz];exact .refl _) (by
     have:=vF (dx:=dx) (ts:=ts++[⟨.inl 0,v,mv,fv⟩]);rw[Zq (f:=Kd.v)]at this
     exact this) trivial
    rw[Zq]at this;exact k σ Hs2 _ this
   · cases e
  · cases e
 · cases e⟩
theorem sC (ho:Bx (PXm X o px)) (hi:Bx (PEd X i gi)) (he:Bx (PVm X e fv)) (Q1:Ug X o "insert":=by rfl) (Qy:((backTo Qx (starEach [i,e] X.env)).all (λ x=>!x.1)&&(backToKw Qx (keywordEach [] X.env)).all (λ x=>x.1.isSome)
  && decide ([i,e].length+([]:Ry Keyword).length+(if([]:Ry Keyword).isEmpty then 0 else 1)<30))=true:=by rfl) (Qz:Ui Qw Qx:=by rfl) (hst:starEach [i,e] X.env=(false,eval i X.env)::starEach [e] X.env:=by rfl) (hst2:Se X e []:=by rfl) (Q0:(backTo Qx (starEach [e] X.env)).any (·.1)=false:=by rfl) (hs:swapsWith (.Call (.Attribute o "insert" Qw) [i,e] [] Qx) none pos.line X.env=pure false:=by rfl):Bx (PSm X (.Expr (.Call (.Attribute o "insert" Qw) [i,e] [] Qx) pos) (Gd px gi fv)):=⟨have ho:=ho.out;have hi:=hi.out;have he:=he.out;(fG (J5 rfl ho hi he Q1 Qy Qz hst hst2 Q0) hs).imp λ E σ H w0=>g73 w0 λ Hs0 H0 nf ρ Hs τ o r e k=>by
 obtain⟨⟨i,q⟩,e1,e⟩:=Ub e;split at e
 ·rename_i cs0 en0
  obtain⟨d,e4,e5⟩:=Ub e;obtain⟨⟨s,τ1⟩,e2,e6⟩:=Ub e5;obtain⟨mv,e3,e7⟩:=Ub e6;clear e e5 e6;split at e7
  ·rename_i j cs en
   split at e7
   ·rename_i hz
    obtain⟨h0,h1,hz⟩:=hz;cases e7;refine⟨Hs0,H0,nf,ρ,Hs,τ,i,q,_,r,e1,en0,λ rt v1 H1 g1 hrt hq=>⟨(r.grow g1).isList en0 hrt hq,?_⟩⟩;have r1:=r.grow g1;obtain⟨fp,st⟩:=r1.st;refine⟨H1,H1,b6 τ,[],_,st.b6 r1.sm,.refl H1,e4,λ y Hs2 H2 g2 ry=>?_⟩;cases ry;have r2:=r1.grow g2.hh;refine⟨Hs0,H0,nf,ρ,Hs,τ,s,τ1,r2,e2,λ v Hs3 H3 g3 r3=>?_⟩;obtain⟨a,dx,ts,u,fv,rfl,rfl,ha,hl,ku,fin⟩:=r3.xw e3 en hrt (bF g3 q (bF g2.hh q hq));rw[t7 hl]at ha;rw[Za]at h1 hz;refine⟨a,_,j,v,rfl,rfl,ha,h0,by rw[Za];exact h1,by rw[Za];exact le5 (Yo hz),by omega,?_⟩
    have:=fin (ts.take j.toNat) (.inl 0) (ts.drop j.toNat) (.lst ((ts.map Kd.v).take j.toNat++v::(ts.map Kd.v).drop j.toNat)) (by rw[Wj];exact .refl _) (by
     have:=vF (dx:=dx) (ts:=ts.take j.toNat++⟨.inl 0,v,mv,fv⟩::ts.drop j.toNat);rw[Zq (f:=Kd.v),Zh,Ra,Rb]at this
     exact this) trivial
    rw[Zq,Zh,Ra,Rb]at this;exact k σ Hs3 _ this
   · cases e7
  · cases e7
 · cases e⟩
theorem BO(m:M1 X o "pop" Qw e Qx)(ho:Bx (PXm X o px))(he:Bx (PEd X e gk))(hs:swapsWith (.Call (.Attribute o "pop" Qw) [e] [] Qx) none pos.line X.env=pure false:=by rfl):Bx (PSm X (.Expr (.Call (.Attribute o "pop" Qw) [e] [] Qx) pos) (CK px gk)):=⟨have ho:=ho.out;have he:=he.out;(fG (vm ho he m) hs).imp λ E σ H w0=>g73 w0 λ Hs0 H0 nf ρ Hs τ o r e k=>by
 obtain⟨⟨i,q⟩,e1,e⟩:=Ub e;obtain⟨d,e2,e⟩:=Ub e;obtain⟨ky,e3,e⟩:=Ub e;split at e
 ·rename_i cs en
  split at e
  ·rename_i hz
   cases e;refine⟨Hs0,H0,nf,ρ,Hs,τ,i,q,_,r,e1,en,λ rt v1 H1 g1 hrt hq=>?_⟩;have r1:=r.grow g1;obtain⟨a,dx,ts,u,rfl,rfl,ha,hl,ku,hrp,fin⟩:=r1.qT en hrt hq;rw[pF hl]at ha;obtain⟨fp,st⟩:=r1.st;refine⟨a,rfl,.inl ⟨_,.inl ha⟩,H1,H1,b6 τ,[],_,st.b6 r1.sm,.refl H1,e2,λ y Hs2 H2 g2 ry=>?_⟩;have hy:=gm ry e3;subst hy;have r2:=r1.grow g2.hh;obtain⟨a',dx',ts',u',ea,ec,ha',hl',ku',hrp',fin'⟩:=r2.qT en hrt (bF g2.hh q hq);cases ea;have ha2:=ha';rw[pF hl']at ha2;have eq:=g2.hh _ _ ha;rw[ha2]at eq;rw[ec]at hz;obtain⟨w,hw⟩:=Iu hz;refine⟨_,ky,w,ha2,rfl,hw,?_⟩
   have:=fin' (ts'.filter λ c=>decide (c.k≠ky)) [] (.dK (pU (ts'.map Kd.kv) ky)) QQ (λ k hk=>by cases hk) (by
    rw[Zz];unfold pU;rw[Rl]
    exact .d _) (by
    rw[Zz]
    exact List.Nodup.sublist (QQ.map _) ku')
   rw[Zz]at this
   have em:(ts'.filter λ c=>decide (c.k≠ky)).map Kd.km=nW (ts.map Kd.km) ky:=by
    rw[ec];unfold nW;rw[Rl];rfl
   rw[em]at this;exact k σ Hs _ this
  · cases e
 · cases e⟩
theorem Fv(h:Bx (PEd X e g)):Bx (PQm X e (qS g)):=⟨have h:=h.out;PE.imp h λ σ H Q w0=>g73 w0 λ Hs0 H0 nf ρ Hs τ a r e k=>by
 obtain⟨d,e1,e2⟩:=Ub e;split at e2
 ·rename_i hs
  cases e2;obtain⟨fp,st⟩:=r.st;exact⟨H,H,b6 τ,[],d,st.b6 r.sm,.refl H,e1,λ v Hs' H' g1 rv=>k v Hs H' g1.hh (r.grow g1.hh) (.refl _) (.v (yM rv hs) .nil)⟩
 · cases e2⟩
theorem dD(h:Bx (PEd X e g)):Bx (PQm X e (qN g)):=⟨have h:=h.out;PE.imp h λ σ H Q w0=>g73 w0 λ Hs0 H0 nf ρ Hs τ a r e k=>by
 obtain⟨d,e1,e2⟩:=Zm e;cases e2;obtain⟨fp,st⟩:=r.st
 exact⟨H0,Hs,er τ,[],d,st.er,r.sm,e1,λ v Hs' H' g1 rv=>k v Hs' H' g1.hh (r.ext' g1) g1.ss (.v rv .nil)⟩⟩
theorem LL(h:Bx (PXm X e f)):Bx (PQm X e (qX f)):=⟨have h:=h.out;PE.imp h λ σ H Q w0=>g73 w0 λ Hs0 H0 nf ρ Hs τ a r e k=>by
 obtain⟨⟨i,q⟩,e1,e2⟩:=Ub e;split at e2
 ·rename_i t cs eg
  cases e2;exact⟨Hs0,H0,nf,ρ,Hs,τ,i,q,_,r,e1,eg,λ v v1 H' g hv hq=>k v1 Hs H' g (r.grow g) (.refl _) (.p hv hq .nil)⟩
 ·rename_i d eg
  cases e2;refine⟨Hs0,H0,nf,ρ,Hs,τ,i,q,_,r,e1,eg,λ v v1 H' g hv hq=>?_⟩;have r':=r.grow g;obtain⟨fp,st⟩:=r'.st;obtain⟨b,m,e3,e4⟩:=cY eg;obtain⟨v',fp1,v1',w1,w2,w3,_⟩:=st.uJ e3 e4;rw[hv]at w1;cases w1;rw[hq]at w2;cases w2
  cases w3 with
  |s rr=>exact k v1 Hs H' g r' (.refl _) (.v rr .nil)
 · cases e2⟩
theorem cD  : Bx (PAm X [] Em):=⟨dB.imp λ σ H Q w0=>g73 w0 λ Hs0 H0 nf ρ Hs τ as r e k=>by
 cases e
 exact k [] Hs H (.refl H) r (.refl _) .nil⟩
theorem aW(h1:Bx (PQm X e h))(h2:Bx (PAm X es g))(hs:Se X e es:=by rfl):Bx (PAm X (e::es) (sQ h g)):=⟨have h1:=h1.out;have h2:=h2.out;(be h1 h2 hs).imp λ σ H Q w0=>g73 w0 λ Hs0 H0 nf ρ Hs τ as r e k=>by
 obtain⟨a,e1,e2⟩:=Ub e;obtain⟨as',e3,e4⟩:=Zm e2;cases e4;refine⟨Hs0,H0,nf,ρ,Hs,τ,a,r,e1,λ v Hs1 H1 g1 r1 s1 a1=>?_⟩;refine⟨Hs0,H0,nf,ρ,Hs1,τ,as',r1,e3,λ vs Hs2 H2 g2 r2 s2 a2=>?_⟩
 exact k (v::vs) Hs2 H2 (g1.trans g2) r2 (s1.trans s2) ((a1.ext s2 g2).app a2)⟩
theorem dq (c:Cls X.K C) (Fo:GoM X.prog X.w X.K X.mg X.base k C m (spM F X.K)) (hr:cp jj X.A) (ho:Bx (PXm X o fx)) (ha:Bx (PAm X (e::es) g)) (hj:k<=jj:=by decide) (hst:Se X e es:=by rfl) (hpl:Sb X pos es:=by rfl) (ht:eval (.Call (.Attribute o m Qw) (e::es) [] pos) X.env=(do
  let ov <- eval o X.env
  standAt Qw.atName
  let (f,first) <- holding [ov] (getMethod ov m pl)
  callWith pos f first (backTo pos (starEach (e::es) X.env)) (backToKw pos (keywordEach [] X.env))):=by rfl):Bx (PEm X (.Call (.Attribute o m Qw) (e::es) [] pos) (eM C m F fx g)):=by
 obtain⟨f',fd',ps',hm,hb,Fo⟩:=Fo.go;have hr:=hr.mono hj;exact⟨GK ho.out c hm Fo hr hb ha.out hst hpl ht⟩
theorem BX(Fo:GoI X.prog X.w X.K X.mg X.base k C (spM F X.K))(hr:cp jj X.A)(hm:X.mg x=some (.ref C))(ha:Bx (PAm X (e::es) g))(hj:k+1<=jj:=by decide)(hg:Gl X x:=by rfl)(hdb:Dg x:=by decide)(he:Se X e es:=by rfl)(hpl:Sb X pos es:=by rfl):Bx (PEm X (.Call (.Name x p) (e::es) [] pos) (eK C F g)):=by
 obtain⟨f',fd',ps',M,hb,Fo⟩:=Fo.go;have hr:=hr.mono hj;exact⟨GL M Fo hr hg hm hb ha.out hdb he hpl⟩
theorem dX  : Bx (PVm X (.Dict [] [] pos) eD0):=⟨vn.imp λ σ H Q w0=>g83 w0 λ Hs0 H0 nf ρ Hs τ s τ' r e k=>by
 cases e;intro p hp
 exact k (.ref p) Hs _ (aF hp _) (r.Gy (aF hp _) (Od.n (ts:=[]) (dx:=0) (u:=.dK []) ay (.d []) (r.sm.free hp) (by show([]:Ry Key).Nodup;exact .nil) (by simp) (λ c hc=>by cases hc)) λ c hc=>by rw[Zy.mp hc];exact hp)⟩
theorem bZ i (hN:X.N.Nodup) (hi:X.N[i]?=some x:=by exact rfl) (hx:Loc X.env.scope x:=by walk_at "v") (hf:Xl X x:=by walk_at "v"):Bx (PGm X (.Name x pos) (gNm i)):=⟨(lU hN hi hx hf).imp λ v σ H Q w0=>g84 w0 λ Hs0 H0 nf ρ Hs τ τ' d r rv e k=>by
 cases e
 exact k _ (r.Cd rv)⟩
theorem oE  : Bx (Mg X [] A7):=⟨tJ.imp λ v σ H Q w0=>g84 w0 λ Hs0 H0 nf ρ Hs τ τ' d r rv e k=>by
 cases rv with
 |nil=>cases e;exact⟨rfl,k σ r⟩
 |cons _ _=>simp[A7]at e⟩
theorem fV(h1:Bx (PGm X e g))(h2:Bx (Mg X es h))(hs:(assignEach (e::es) X.env).map (·.2)=assign e X.env::(assignEach es X.env).map (·.2):=by rfl):Bx (Mg X (e::es) (pH g h)):=⟨have h1:=h1.out;have h2:=h2.out;(lr h1 h2 hs).imp λ v σ H Q w0=>g84 w0 λ Hs0 H0 nf ρ Hs τ τ' d r rv e k=>by
 cases rv with
 |nil=>simp[pH]at e
 |cons rx rr=>
  obtain⟨τ1,e1,e2⟩:=Ub e
  exact⟨_,_,rfl,Hs0,H0,nf,ρ,Hs,τ,τ1,_,r,rx,e1,λ σ' r'=>⟨Hs0,H0,nf,ρ,Hs,τ1,τ',_,r',rr,e2,k⟩⟩⟩
theorem sI(h:Bx (Mg X es g))(hc:X.calm=true:=by rfl)(hn:(assignEach es X.env).length=n:=by rfl)(hst:(assignEach es X.env).findIdx? (·.1)=none:=by rfl):Bx (PGm X (.Tuple es k' pos) (gTm n g)):=⟨have h:=h.out;(zt hc h hn hst).imp λ v σ H Q w0=>g84 w0 λ Hs0 H0 nf ρ Hs τ τ' d r rv e k=>by
 cases rv with
 |@tup a xs ds h rr=>
  simp only[gTm]at e;split at e
  ·rename_i hl
   exact⟨a,xs,rfl,r.sm.tup h,by rw[rr.length];exact hl,Hs0,H0,nf,ρ,Hs,τ,τ',ds,r,rr,e,k⟩
  · cases e
 |_=>simp[gTm]at e⟩
theorem dW(hi:Bx (PId X tg iter it))(hg:Bx (PGm X tg g))(hb:Bx (uH X body b))(hp:PassesOwn (model X.prog X.w) X.A X.env X.xe:=by exact .never)(hc:X.calm=true:=by rfl)(hs:Fs X iter:=by intro _;rfl):Bx (PSm X (.For tg iter body [] pos) (xh it g b)):=⟨have hi:=hi.out;have hg:=hg.out;have hb:=hb.out;(zi hp hc hi hg hb hs).imp λ E σ H w0=>g73 w0 λ Hs0 H0 nf ρ Hs τ o r e k=>by
 obtain⟨ds,e1,e2⟩:=Ub e;obtain⟨fp,hst⟩:=r.st;refine⟨H0,Hs,er τ,[],ds,hst.er,r.sm,e1,λ J Hs1 H1 g1 hJ=>?_⟩;have r1:=r.ext' g1;have kk:=k.rebase r1.ext;refine⟨λ i m σ H=>m=ds.length - i/\i<=ds.length/\∃ Hs2 τ2,b7 X.K Hs1 H0 ρ Hs2 H σ τ2/\forM (λ d τ=>(g d τ).bind b) (ds.drop i) τ2=some o,⟨ds.length,by simp,Z0 _,Hs1,τ,r1.rebase,by simpa using e2⟩,?_⟩
 rintro i m σ2 H2 ⟨rfl,hi,Hs2,τ2,r2,e3⟩
 obtain⟨hgo,hstop⟩:=hJ Hs2 H2 r2.ext.ss r2.sm
 by_cases hlt:i<ds.length
 ·have ed:=Xa hlt
  rw[ed]at e3;obtain⟨go,yl⟩:=hgo i ds[i] (QA hlt);refine .inr ⟨go,λ σ' H'=>∃ Hs' τ',b7 X.K Hs1 H0 ρ Hs' H' σ' τ'/\forM (λ d τ=>(g d τ).bind b) (ds.drop (i+1)) τ'=some o,?_,?_⟩
  ·rintro σ' H' ⟨Hs',τ',r',e'⟩
   exact⟨ds.length - (i+1),by omega,rfl,hlt,Hs',τ',r',e'⟩
  ·intro x H' y
   obtain⟨Hs3,g3,rx⟩:=yl x H' y;have r3:=r2.ext' g3;unfold forM at e3
   cases q:(g ds[i] τ2).bind b with
   |none=>simp only[q]at e3;cases e3
   |some o1=>
    simp only[q]at e3;obtain⟨τ3,q1,q2⟩:=Ub q;refine⟨Hs1,H0,nf,ρ,Hs3,τ2,τ3,ds[i],r3,rx,q1,λ σ' r'=>?_⟩;refine⟨Hs1,H0,nf,ρ,Hs3,τ3,o1,r',q2,?_⟩
    cases o1 with
    |next τ'=>exact λ σ4 Hs4 H4 r4=>⟨Hs4,τ',r4,e3⟩
    |cnt τ'=>exact λ σ4 Hs4 H4 r4=>⟨Hs4,τ',r4,e3⟩
    |brk τ'=>cases e3;exact kk
    |ret s τ'=>cases e3;exact kk
 ·have e0:i=ds.length:=by omega
  subst e0;rw[Wr]at e3;have e':En.next τ2=o:=by simpa [forM] using e3
  subst e'
  exact .inl ⟨hstop _ (Zo _),kk σ2 Hs2 H2 r2⟩⟩
theorem BW(h:Bx (PEo X e g)):Bx (PVm X e (eON g)):=⟨have h:=h.out;PE.imp h λ σ H Q w0=>g83 w0 λ Hs0 H0 nf ρ Hs τ s τ' r e k=>by
 obtain⟨d,e1,e2⟩:=Ub e;split at e2
 ·cases e2
  obtain⟨fp,st⟩:=r.st;refine⟨H0,Hs,er τ,[],_,st.er,r.sm,e1,λ a Hs' H' g1 ow hn=>?_⟩
  cases ow with
  |lst h n rr=>exact k _ Hs' H' g1.hh ⟨(r.ext' g1).ext,_,.mu (Od.lst h n rr) (λ e=>by cases e) (λ c hc=>by rw[Zy.mp hc];exact r.old hn) (λ c hc=>by rw[Zy.mp hc];exact st.new hn) (st.ext g1)⟩
 · cases e2⟩
theorem xZ (ho:Bx (PXm X o px)) (hi:Bx (PEd X i gi)) (hv:Bx (PEm X value fv)) (ha:∀ v,assign (.Subscript o i pos') X.env v=(do
   let ov <- holding [v] (eval o X.env)
   let iv <- holding [v,ov] (eval i X.env)
   standAt pos'
   holding [v,ov,iv] (setItem ov iv v)
   release [v,ov,iv] []):=by intro _;rfl) (hs:swapsWithSole [.Subscript o i pos'] value pos.line X.env=pure false:=by rfl) (hw:swappedStores [.Subscript o i pos'] value X.env=pure none:=by rfl) (h1:(assignEach [.Subscript o i pos'] X.env).map (·.2)=[assign (.Subscript o i pos') X.env]:=by rfl):Bx (PSm X (.Assign [.Subscript o i pos'] value pos) (yT px gi fv)):=⟨have ho:=ho.out;have hi:=hi.out;have hv:=hv.out;(EM hv (JZ ho hi set_list ha) hs hw h1).imp λ E σ H w0=>g73 w0 λ Hs0 H0 nf ρ Hs τ o r e k=>by
 obtain⟨⟨s,τ1⟩,e1,e⟩:=Ub e;obtain⟨⟨i,q⟩,e2,e⟩:=Ub e;obtain⟨d,e3,e⟩:=Ub e;obtain⟨mv,e5,e⟩:=Ub e;split at e
 ·rename_i j cs en e
  split at e
  ·rename_i hz
   cases e;refine⟨Hs0,H0,nf,ρ,Hs,τ,s,τ1,r,e1,λ v Hs1 H1 r1=>?_⟩;refine⟨Hs0,H0,nf,ρ,Hs1,τ1,i,q,_,r1.pop,e2,en,λ rt v1 H2 g2 hrt hq=>?_⟩;have r2:=r1.grow g2;obtain⟨fp,st⟩:=r2.pop.st;refine⟨H2,H2,b6 τ1,[],_,st.b6 r2.sm,.refl H2,e3,λ y Hs3 H3 g3 ry=>?_⟩;cases ry;obtain⟨a,dx,ts,u,fv,rfl,rfl,ha,hl,ku,fin⟩:=(r2.grow g3.hh).xw e5 en hrt (bF g3.hh q hq);rw[t7 hl]at ha;rw[Za]at hz
   have es:∀{α:Type} (f:Kd->α),(ts.take j.toNat++⟨.inl 0,v,mv,fv⟩::ts.drop (j.toNat+1)).map f=(ts.map f).set j.toNat (f ⟨.inl 0,v,mv,fv⟩):=λ f=>by
    rw[List.set_eq_take_append_cons_drop,if_pos (by rw[Za];exact hz.2),Zq,Zh,Ra,Rb]
   refine⟨a,_,j,j.toNat,rfl,rfl,ha,?_,?_⟩
   ·unfold ixN
    rw[if_pos hz.1,if_pos (by have:=hz.2;rw[Za];omega)]
   ·have:=fin (ts.take j.toNat) (.inl 0) (ts.drop (j.toNat+1)) (.lst ((ts.map Kd.v).set j.toNat v)) (by
     conv=>rhs;rw[<- Wj j.toNat ts]
     exact(List.Sublist.refl _).append (by rw[<- List.drop_drop];exact List.drop_sublist _ _)) (by
     have:=vF (dx:=dx) (ts:=ts.take j.toNat++⟨.inl 0,v,mv,fv⟩::ts.drop (j.toNat+1));rw[es Kd.v]at this
     exact this) trivial
    rw[es Kd.km]at this;exact k σ Hs1 _ this
  · cases e
 · cases e⟩
theorem ye(hh:X.A.handled=none)(hm:X.mg "sorted"=none)(he:Bx (PEd X e f))(hg:Gl X "sorted":=by rfl)(hst:Se X e []:=by rfl)(hpl:Sb X pos []:=by rfl):Bx (PEo X (.Call (.Name "sorted" p) [e] [] pos) (BB f)):=⟨have he:=he.out;(Ej hh hg hm ⟨he⟩ hst hpl).out⟩
def cR(ha:Bx (PEd X a f))(hb:Bx (PEd X b g)):Bx (PEd X (.BinOp a .Add b pos) (dOp tV f g)):=jU Nm ha hb
def Ei(ha:Bx (PEd X a f))(hb:Bx (PEd X b g)):Bx (PEd X (.BinOp a .Sub b pos) (dOp LW f g)):=jU M8 ha hb
theorem kE(ha:Bx (PEd X a f))(hb:Bx (PEd X b g)):Bx (PEd X (.BinOp a .Mult b pos) (dOp EX f g)):=jU Nb ha hb
theorem aK(ha:Bx (PEd X a f))(hb:Bx (PEd X b g)):Bx (PEd X (.BinOp a .FloorDiv b pos) (dOp oDiv f g)):=jU Nl ha hb
theorem bP(ha:Bx (PEd X a f))(hb:Bx (PEd X b g)):Bx (PEd X (.BinOp a .Mod b pos) (dOp oMod f g)):=jU Nc ha hb
theorem yi(ha:Bx (PEd X a f))(hb:Bx (PEd X b g)):Bx (PEd X (.BinOp a .Pow b pos) (dOp LX f g)):=jU M9 ha hb
theorem Ia(ha:Bx (PEd X a f))(hb:Bx (PEd X b g)):Bx (PTd X (.Compare a [.Lt] [b] pos) (dT (dOp oLt f g))):=cg Ng ha hb
theorem BM(ha:Bx (PEd X a f))(hb:Bx (PEd X b g)):Bx (PTd X (.Compare a [.Gt] [b] pos) (dT (dOp oGt f g))):=cg PZ ha hb
theorem Om(ha:Bx (PEd X a f))(hb:Bx (PEd X b g)):Bx (PTd X (.Compare a [.Is] [b] pos) (dT (dOp Np f g))):=cg Nh ha hb
theorem wB(ha:Bx (PEd X a f))(hb:Bx (PEd X b g)):Bx (PTd X (.Compare a [.IsNot] [b] pos) (dT (dOp xr f g))):=cg Kj ha hb
theorem Im(ha:Bx (PEd X a f))(hb:Bx (PEd X b g))(hm:behindInMarks .In b=false:=by rfl): Bx (PEd X (.Compare a [.In] [b] pos) (dOp IK f g)):=pZ Kl ha hb hm
theorem Ib(ha:Bx (PEd X a f))(hb:Bx (PEd X b g))(hm:behindInMarks .In b=false:=by rfl): Bx (PTd X (.Compare a [.In] [b] pos) (dT (dOp IK f g))):=cg Kl ha hb hm
theorem Il(ha:Bx (PEd X a f))(hb:Bx (PEd X b g))(hm:behindInMarks .NotIn b=false:=by rfl): Bx (PEd X (.Compare a [.NotIn] [b] pos) (dOp jP f g)):=pZ vz ha hb hm
theorem wA(ha:Bx (PEd X a f))(hb:Bx (PEd X b g))(hm:behindInMarks .NotIn b=false:=by rfl): Bx (PTd X (.Compare a [.NotIn] [b] pos) (dT (dOp jP f g))):=cg vz ha hb hm
theorem Md(ha:Bx (PEd X a f))(hb:Bx (PEd X b g))(hr:cp jj X.A:=by assumption):Bx (PEd X (.Compare a [.Eq] [b] pos) (dOp oEq f g)):=pZ (OV hr.units) ha hb
theorem cb(ha:Bx (PEd X a f))(hb:Bx (PEd X b g))(hr:cp jj X.A:=by assumption):Bx (PTd X (.Compare a [.Eq] [b] pos) (dT (dOp oEq f g))):=cg (OV hr.units) ha hb
theorem fS(ha:Bx (PEd X a f))(hb:Bx (PEd X b g))(hr:cp jj X.A:=by assumption):Bx (PTd X (.Compare a [.NotEq] [b] pos) (dT (dOp oNe f g))):=cg (PY hr.units) ha hb
def jy(ha:Bx (PEd X a f)):Bx (PEd X (.UnaryOp .USub a pos) (dUn Ko f)):=Ik Na ha
theorem bC(h:Bx (PEd X e f))(he:Se X e []:=by rfl):Bx (PAd X [e] (aX f eF)):=aw h a9 he
theorem cV{e2}{f2}(h:Bx (PEd X e f))(h2:Bx (PEd X e2 f2))(he:Se X e [e2]:=by rfl)(he2:Se X e2 []:=by rfl):Bx (PAd X [e,e2] (aX f (aX f2 eF))):=aw h (bC h2 he2) he
theorem eG{e2 e3}{f2 f3}(h:Bx (PEd X e f))(h2:Bx (PEd X e2 f2))(h3:Bx (PEd X e3 f3))(he:Se X e [e2,e3]:=by rfl)(he2:Se X e2 [e3]:=by rfl)(he3:Se X e3 []:=by rfl):Bx (PAd X [e,e2,e3] (aX f (aX f2 (aX f3 eF)))):=aw h (cV h2 h3 he2 he3) he
theorem cU i {j} (hN:X.N[i]?=some x:=by exact rfl) (hv:Vis X.env.scope x:=by walk_at "w") (hd:Dg x:=by decide) (hcd:Dc x:=by decide):Bx (PEd X (.Subscript (.Name x p) (.Constant (.int j) k q) r) (dOp oIx (bf i) (dC (.int j)))):=aM (aa i hN hv hd hcd) ae (λ _ _=>rfl)
theorem gJ i {x} {f} {pos'} (hN:X.N.Nodup) (he:Bx (PEd X e f)) (hi:X.N[i]?=some x:=by exact rfl) (hx:Loc X.env.scope x:=by walk_at "v") (hs:Sw X e x pos' pos:=by rfl) (hf:Xl X x:=by walk_at "v"):Bx (PSd X (.Assign [.Name x pos'] e pos) (xg i f)):=BP i hN hi he hx hs hf
def Ic(mg:Str->Rz RA)(x:Str)(i:Int):Prop:=∃ t,mg x=some (.int i t)
theorem Mc(h:Ic X.mg x i)(hg:Gl X x:=by rfl)(hd:Dg x:=by decide):Bx (PEd X (.Name x pos) (dC (.int i))):=h.elim λ _ h=>⟨zJ (v:=.int i) hg h ⟨_,rfl⟩ (λ _=>.int _) hd⟩
def Kc(K:RC)(mg:Str->Rz RA)(x:Str)(d:D):Prop:=∃ a,mg x=some (.ref a)/\∀ H,Rp K H (.ref a) d
theorem Fx(h:Kc X.K X.mg x d)(hg:Gl X x:=by rfl)(hd:Dg x:=by decide):Bx (PEd X (.Name x pos) (dC d)):=h.elim λ a h=>⟨zJ (v:=.ref a) hg h.1 rfl h.2 hd⟩
theorem ckN {X} {scope} {cl} {x} cs (h0:closureFor scope X.env=pure cl:=by rfl) (h1:scope.kind=.function:=by rfl) (h2:(scope.names.all λ y=>!(y.2 == .cell))=true:=by rfl)
 (h3:(scope.names.all λ y=>!(y.2 == .local)||(scope.names.lookup y.1 == some .local))=true:=by rfl) (h4:scope.names.lookup x=some .local:=by rfl) (h5:IV X cl:=by walk_at "r")
 (h6:((relabel scope X.env).names.all λ p=>!(p.2 == .cell||p.2 == .free)||(cl.lookup p.1).isSome)=true:=by rfl)
 (h7:AllP X scope cs:=by walk_at "r") (h8:(x::cs.map (·.1)).Nodup:=by decide +kernel):eX X scope cl x cs:=HX cs h0 h1 h2 h3 h4 h5 h6 h7 h8
theorem ck0{X}{scope}{x}(h1:scope.kind=.function:=by rfl)(h2:∀ y ∈ scope.names,y.2≠.cell:=by decide +kernel)(h3:∀ y ∈ scope.names,y.2≠.free:=by decide +kernel)(h4:∀ y ∈ scope.names,y.2=.local->scope.names.lookup y.1=some .local:=by decide +kernel)(h5:scope.names.lookup x=some .local:=by rfl):eX X scope [] x []:=HZ h1 h2 h3 h4 h5
section
variable{P:Program}{w:World}{K:RC}{mg:Str->Rz RA}{base:Heap}{x q:Str}{st:Stmt}{ps:Ry Str}{k:Nat}{C:RB}
abbrev Bdy(P:Program)(w:World)(K:RC)(mg:Str->Rz RA)(base:Heap)(k:Nat)(q:Str)(st:Stmt)(N:Ry Str)(J:Cx->Ry Stmt->Prop):Prop:=∀{cdv:RA} {A:Around} {outer:Ry Env} {s:RD} {H:Hp} {E:XK} {f:RB},cp k (A.deeper (envOfC q (aG st) s.heap.objs.size f cdv))->N.Nodup->Bx (J (wm CX0 P w K mg base N q (aG st) f cdv A outer s H E).nox (bh st))
theorem oD N {b} (D:Df K mg x st ps) (h:Bdy P w K mg base k x st N λ X b'=>yn X b' b) (S:cB N ps (aG st):=by walk_at "s"):Go P w K mg base (k+1) x (spF (cH N.length ps.length b) K):=
 have⟨a,d,F,m,bi⟩:=D
 ⟨a,d,ps,m,F.kp,bi,F.okD S λ cdv A outer s H E hr=>(h hr S.nd).out⟩
theorem oDm N {b} (D:Mf K C x q st ps) (h:Bdy P w K mg base k q st N λ X b'=>yn X b' b) (S:cB N ps (aG st):=by walk_at "s"):GoM P w K mg base (k+1) C x (spF (cH N.length ps.length b) K):=
 have⟨a,d,F,m,bi⟩:=D
 ⟨a,d,ps,m,bi,F.okD S λ cdv A outer s H E hr=>(h hr S.nd).out⟩
theorem oMm N {b} (D:Mf K C x q st ps) (h:Bdy P w K mg base k q st N λ X b'=>uH X b' b) (S:cB N ps (aG st):=by walk_at "s"):GoM P w K mg base (k+1) C x (spM (iA N.length ps.length b) K):=
 have⟨a,d,F,m,bi⟩:=D
 ⟨a,d,ps,m,bi,F.okM S λ cdv A outer s H E hr=>(h hr S.nd).out⟩
theorem oMi N {b} (D:If K C q st ps) (h:Bdy P w K mg base k q st N λ X b'=>uH X b' b) (S:cB N ps (aG st):=by walk_at "s"):GoI P w K mg base (k+1) C (spM (iA N.length ps.length b) K):=
 have⟨a,d,F,m,bi⟩:=D
 ⟨a,d,ps,m,bi,F.okM S λ cdv A outer s H E hr=>(h hr S.nd).out⟩
theorem Fn0.df{f}{h}(e:Fn0 K x st f)(X:K.In h)(G:h.Ns mainGlobals mg)(hb:∀ kV doc pm an cdv ct us,us.length=ps.length->bindArgs (PySem.W.fnOf x x (b9 st) (bh st) (aG st) .none kV doc pm an cdv ct) ⟨us,[]⟩=pure (ps.zip us)):Df K mg x st ps:=
 have⟨d,F,m,b⟩:=e.mk X G hb
 ⟨f,d,F,m,b⟩
theorem Nx{f}{oc}{od an}{osl}{kV doc pm cdv ct}(a:W.findIn K (.ref C) x=some (some (.ref f)))(i:PySem.W.isFn K (.ref f)=true)(l:K.lookup f=some ⟨oc,od,.func (PySem.W.fnOf x q (b9 st) (bh st) (aG st) .none kV doc pm an cdv ct),osl⟩)(c:PySem.W.codeIn K cdv q=true)(k:W.keepIn K (.ref f)=true)(hb:∀ kV doc pm an cdv ct us,us.length=ps.length->bindArgs (PySem.W.fnOf x q (b9 st) (bh st) (aG st) .none kV doc pm an cdv ct) ⟨us,[]⟩=pure (ps.zip us)):Mf K C x q st ps:=
 ⟨f,_,jq (st:=st) l c k,⟨a,i,k⟩,(jq (st:=st) l c k).binds hb⟩
theorem NS{f}{oc}{od an}{osl}{kV doc pm cdv ct}(a:W.findIn K (.ref C) "__init__"=some (some (.ref f)))(i:PySem.W.isFn K (.ref f)=true)(l:K.lookup f=some ⟨oc,od,.func (PySem.W.fnOf "__init__" q (b9 st) (bh st) (aG st) .none kV doc pm an cdv ct),osl⟩)(c:PySem.W.codeIn K cdv q=true)(k:W.keepIn K (.ref f)=true)(mk:PySem.W.makesIn K C=true)(kc:W.keepIn K (.ref C)=true)(hb:∀ kV doc pm an cdv ct us,us.length=ps.length->bindArgs (PySem.W.fnOf "__init__" q (b9 st) (bh st) (aG st) .none kV doc pm an cdv ct) ⟨us,[]⟩=pure (ps.zip us)):If K C q st ps:=
 ⟨f,_,jq (st:=st) l c k,⟨mk,a,i,kc⟩,(jq (st:=st) l c k).binds hb⟩
def Lf(K:RC)(mg:Str->Rz RA)(x:Str)(st:Stmt)(y:Str):Prop:=∃ a d,Fun K x x st a d/\mg x=some (.ref a)/\∀(s:RD) (u:RA),BindsTo s d ⟨[u],[]⟩ [(y,u)]
theorem NB{f}{y}{h}(e:Fn0 K x st f)(X:K.In h)(G:h.Ns mainGlobals mg)(hb:∀ kV doc pm an cdv ct s u,BindsTo s (PySem.W.fnOf x x (b9 st) (bh st) (aG st) .none kV doc pm an cdv ct) ⟨[u],[]⟩ [(y,u)]):Lf K mg x st y:=by
 obtain⟨od,an,sl,oc,kV,dc,pm,cd,ct,a,l,c,k⟩:=e;exact⟨_,_,jq (st:=st) l c k,PySem.W.mg_of X G a,hb _ _ _ _ _ _⟩
end
end L2
end
section
end
section
end
section
end
section
namespace L2
open PySem PySem.Spec PyProof.Rows
section
variable{X:Cx}{a b c e o tg iter:Expr}{es:Ry Expr}{body:Ry Stmt}{pos Qw Qx pos' p:Pos}{x y:Str}
theorem Pg{K}{Hs0 H0 Hs H}{ρ}{σ:St}{τ}{v}{s}{m}(r:b7 K Hs0 H0 (none::ρ) Hs H (some v::σ) (s::τ))(hs:toM s=some m):∃ fq fp,Od K Hs H fq v m/\(∀ c ∈ fq,H0 c=none)/\(∀ c ∈ fq,c ∉ fp)/\StM K H0 Hs H ρ σ τ fp:=by
 obtain⟨fp0,st⟩:=r.st
 cases st with
 |no st=>cases hs
 |shr h st=>cases hs;exact⟨[],_,.s h,(λ c hc=>by cases hc),(λ c hc=>by cases hc),st⟩
 |@mu _ _ b _ _ _ _ fq fr od hpn z j st=>
  cases b with
  |true=>cases hs
  |false=>cases hs;exact⟨fq,fr,od,z,j,st⟩
end
end L2
end
section
end
section
namespace L2
open PySem PySem.Spec PyProof.Rows
abbrev Kd2(w:World)(K:RC)(mg:Str->Rz RA)(x:Str)(a:RB)(d:Ry (Key×D)):Prop:=mg x=some (.ref a)/\KD2 w K a d
section
variable{X:Cx}{o e a b:Expr}{f g:DE}{Qw Qx pos py:Pos}{y:Str}
theorem Hb:MtR X "str.find" (λ x xs H Q=>∃ i j:Str,x=.str i/\xs=[.str j]/\Q (.int (Txt.find i j)) H):=by
 intro Qv s σ H x xs v us Q I rx rv h;obtain⟨i,j,rfl,rfl,q⟩:=h;obtain⟨t,rfl⟩:=rx;obtain⟨u,rfl,tu,rfl⟩:=vals1 rv;exact SC.find ⟨.int _,H,I.tok _,⟨_,rfl⟩,q⟩
def Nr:D->D->Rz D
 |.str i,.str j=>some (.int (Txt.find i j))
 |_,_=>none
theorem B1 (ho:Bx (PEd X o f)) (he:Bx (PEd X e g)) (Q1:Ug X o "find":=by rfl)
   (Qy:Uh X e Qx:=by rfl)
   (Qz:Ui Qw Qx:=by rfl) (hst:Se X e []:=by rfl) (Q0:Sb X Qx []:=by rfl):Bx (PEd X (.Call (.Attribute o "find" Qw) [e] [] Qx) (dOp Nr f g)):=
 ⟨(zG PySem.F.plainAttrs_str PySem.F.slot_str_find PySem.F.type_str_find Hb ho.out (be he.out dB hst) Q1 Qy Qz hst Q0).imp λ σ H Q w0=>g54 w0 λ H0 Hs τ fp d st sm e k=>by
   obtain⟨x,e1,e⟩:=Ub e;obtain⟨y,e2,e⟩:=Ub e;refine⟨H0,Hs,τ,fp,x,st,sm,e1,λ v Hs1 H1 g1 r1=>?_⟩
   cases r1 with
   |str i=>
     refine⟨rfl,H0,Hs1,τ,fp,y,st.ext g1,g1.sh,e2,λ u Hs2 H2 g2 r2=>?_⟩
     cases r2 with
     |str j=>
      have e':=Zj e;subst e';exact⟨i,j,rfl,rfl,k _ Hs2 H2 (g1.trans g2) (.int _)⟩
     |_=>exact nn e
   |_=>cases y<;>exact nn e⟩
end
end L2
end
section
namespace L2
open PySem
section
variable{τ τ':Ry Sl}{f g h:DE}{x y z d:D}
theorem aB{i}(q:τ[i]?=some (.shr d)):bf i τ=some d:=by unfold bf;rw[q]
def e_v{i}(q:τ[i]?=some (.shr d):=by rfl):bf i τ=some d:=aB q
def Ua:dC d τ=some d:=rfl
theorem av{o}(h1:f τ=some x)(h2:g τ=some y)(h3:o x y=some z):dOp o f g τ=some z:=by unfold dOp;rw[h1,h2];exact h3
def Ud{i:Nat}{d y z:D}{o:D->D->Rz D}{τ:Ry Sl}(q:τ[i]?=some (.shr d)):o d y=some z->dOp o (bf i) (dC y) τ=some z:=av (aB q) Ua
theorem D2{o}(h1:f τ=some x)(h3:o x=some z):dUn o f τ=some z:=by unfold dUn;rw[h1];exact h3
def aq:eF τ=some []:=rfl
theorem af{ga}{xs}(h1:f τ=some x)(h2:ga τ=some xs):aX f ga τ=some (x::xs):=by unfold aX;rw[h1,h2];rfl
theorem a8{o}{ga}{xs}(h1:ga τ=some xs)(h2:o xs=some z):BE o ga τ=some z:=by unfold BE;rw[h1];exact h2
theorem bV{ga}{xs}(h1:ga τ=some xs)(h2:xs.length<=100000):D7 ga τ=some (.tup xs):=by unfold D7;rw[h1];exact if_pos h2
theorem iy{ga}{xs}(h1:ga τ=some xs)(h2:xs.length<=100000):Ma ga τ=some (.lst xs):=by unfold Ma;rw[h1];exact if_pos h2
theorem c7{F}{ga}{xs}{s}(h1:ga τ=some xs)(h2:F xs=some s)(h3:slD s=some z):dFn F ga τ=some z:=by unfold dFn;rw[h1];show(F xs).bind slD=_;rw[h2];exact h3
theorem xS{F}{ga}{xs}{s}(h1:ga τ=some xs)(h2:F xs=some s)(h3:slO s=some z):Fq F ga τ=some z:=by unfold Fq;rw[h1];show(F xs).bind slO=_;rw[h2];exact h3
theorem O4{c}{b}(h1:c τ=some b)(h2:b=true->f τ=some z)(h3:b=false->g τ=some z):dIf c f g τ=some z:=by
 unfold dIf;rw[h1]
 cases b with
 |true=>exact h2 rfl
 |false=>exact h3 rfl
theorem ur{b}(h1:f τ=some (.bl b))(h2:b=true->g τ=some z)(h3:b=false->z=.bl false):so f g τ=some z:=by
 unfold so;rw[h1]
 cases b with
 |true=>exact h2 rfl
 |false=>rw[h3 rfl];rfl
theorem LA{b}(h1:f τ=some (.bl b)):HQ f τ=some (.bl (!b)):=by unfold HQ;rw[h1];rfl
theorem aO{b}(h1:f τ=some (.bl b)):dT f τ=some b:=by unfold dT;rw[h1];rfl
theorem Jn{f g}{b c}(h1:f τ=some b)(h2:b=true->g τ=some c)(h3:b=false->c=false):Cg f g τ=some c:=by
 unfold Cg;rw[h1]
 cases b with
 |true=>exact h2 rfl
 |false=>rw[h3 rfl];rfl
theorem yE{f g}{b c}(h1:f τ=some b)(h2:b=false->g τ=some c)(h3:b=true->c=true):dOr f g τ=some c:=by
 unfold dOr;rw[h1]
 cases b with
 |false=>exact h2 rfl
 |true=>rw[h3 rfl];rfl
theorem kW{f}{b}(h1:f τ=some b):L9 f τ=some (!b):=by unfold L9;rw[h1];rfl
def OS:O5 τ=some none:=rfl
theorem ET{i}(h:f τ=some (.int i)):dP f τ=some (some i):=by unfold dP;rw[h];rfl
theorem LC{it}{g}{cs}{ds es}(h1:it τ=some ds)(hl:ds.length<=100000)(h2:IM (λ d=>g (.shr d::jt τ cs)) ds=some es):D8 it g cs τ=some (.lst es):=by
 unfold D8;rw[h1];show(if ds.length<=100000 then _ else _)=_;rw[if_pos hl,h2];rfl
theorem gq{C}{n}{fs}(h1:f τ=some (.obj C fs))(h2:fs.lookup n=some z):dUn (IL C n) f τ=some z:=by unfold dUn;rw[h1];show(if C=C then _ else _)=_;rw[if_pos rfl];exact h2
theorem dU{C}{m}{F}{o}{ga}{fs}{xs}{s}(h1:o τ=some (.obj C fs))(h2:ga τ=some xs)(h0:fs.lookup m=none)(h3:F (.obj C fs::xs)=some s)(h4:slD s=some z):jR C m F o ga τ=some z:=by
 unfold jR;rw[h1];show(ga τ).bind _=_;rw[h2];show(if C=C/\_ then _ else _)=_;rw[if_pos ⟨rfl,h0⟩,h3];exact h4
theorem rE{ds}(h:f τ=some (.lst ds)):NU f τ=some ds:=by unfold NU;rw[h];rfl
theorem rD{ds}(h:f τ=some (.tup ds)):A2 f τ=some ds:=by unfold A2;rw[h];rfl
theorem ua{ga}{j}(h:ga τ=some [.int j])(h1:-(2 ^ 62)<=j/\j<2 ^ 62):rF ga τ=some (o8 0 j.toNat):=by unfold rF;rw[h];exact if_pos h1
theorem HM{i}{d0}(q:τ[i]?=some (.own d0))(h:f (τ.set i (.shr d0))=some z)(hf:gp z=true):Mb i f τ=some z:=by unfold Mb;rw[q];show(f _).bind _=_;rw[h];exact if_pos hf
theorem Jm{i}{d0}{f}{b}(q:τ[i]?=some (.own d0))(h:f (τ.set i (.shr d0))=some b):LS i f τ=some b:=by unfold LS;rw[q];exact h
end
section
variable{τ τ':Ry Sl}{f g:DS}{e:DE}{d:D}{o:Out}
theorem bp(h:f τ=some (.next τ'))(h2:g τ'=some o):gr f g τ=some o:=by simp only[gr,h];exact h2
theorem JF{s}(h:f τ=some (.ret s)):gr f g τ=some (.ret s):=by simp only[gr,h]
theorem bO{i}(h:e τ=some d):xg i e τ=some (.next (τ.set i (.shr d))):=by unfold xg;rw[h];rfl
theorem gw{i}(h:e τ=some d)(hi:i<τ.length):CI i e τ=some (.next (τ.set i (.own d))):=by unfold CI;rw[if_pos hi,h];rfl
theorem bU(h:e τ=some d):LU e τ=some (.ret (.shr d)):=by unfold LU;rw[h];rfl
theorem yN(h:e τ=some d):Ga e τ=some (.ret (.own d)):=by unfold Ga;rw[h];rfl
theorem lO{i}(q:τ[i]?=some (.own d)):CJ i τ=some (.ret (.own d)):=by unfold CJ;rw[q]
theorem EB(h:e τ=some d):CQ e τ=some (.next τ):=by unfold CQ;rw[h];rfl
theorem lP{c}{b}{r}(h:c τ=some b)(h1:b=true->f τ=r)(h2:b=false->g τ=r):sIf c f g τ=r:=by
 unfold sIf;rw[h]
 cases b with
 |true=>exact h1 rfl
 |false=>exact h2 rfl
theorem tj{i}{ds}(h:e τ=some d)(q:τ[i]?=some (.own (.lst ds)))(hl:ds.length<100000):IH i e τ=some (.next (τ.set i (.own (.lst (ds++[d]))))):=by unfold IH;rw[h];show(match τ[i]? with|some (.own (.lst ds))=>_|_=>_)=_;rw[q];exact if_pos hl
theorem MK{i}(q:τ[i]?=some (.own d))(h:f (τ.set i (.shr d))=some o):LV i f τ=some o:=by unfold LV;rw[q];exact h
theorem JH{i}{oo}{x z}(h1:bf i τ=some x)(h2:e τ=some d)(h3:oo x d=some z):JI i oo e τ=some (.next (τ.set i (.shr z))):=by unfold JI;rw[h1];show(e τ).bind _=_;rw[h2];show(oo x d).map _=_;rw[h3];rfl
theorem yO{it}{gg}{ds}{r}(h1:it τ=some ds)(h2:xI (λ d τ=>(gg d τ).bind f) ds τ=r):CN it gg f τ=r:=by unfold CN;rw[h1];exact h2
theorem bH{n m}{b}{ds}{s}(h:b (kh n ds)=some (.ret s))(hl:ds.length=m:=by rfl):cH n m b ds=some s:=by
 unfold cH;rw[if_pos hl,h]
theorem gH{it}{gg}{ds}(P:Nat->Ry Sl->Prop)(h1:it τ=some ds)(h0:P 0 τ)(hs:∀ j d τ,ds[j]?=some d->P j τ->∃ τ1 τ2,gg d τ=some τ1/\f τ1=some (.next τ2)/\P (j+1) τ2):∃ τ',CN it gg f τ=some (.next τ')/\P ds.length τ':=by
 obtain⟨τ',e,p⟩:=vT (o:=.next []) (b:=λ d τ=>(gg d τ).bind f) P 0 h0 (λ j d τ hd p=>by
  rw[Rw]at *;obtain⟨τ1,τ2,e1,e2,p2⟩:=hs j d τ hd p
  exact⟨τ2,by rw[e1];exact e2,p2⟩)
 rw[Rw]at p;exact⟨τ',yO h1 e,p⟩
theorem fF{lo}{n j}{d}(h:(o8 lo n)[j]?=some d):d=.int (lo+j)/\j<n:=by
 unfold o8 at h;rw[QD]at h
 by_cases hj:j<n
 ·rw [Rr hj] at h
  exact⟨by simpa using h.symm,hj⟩
 ·rw [QJ (by simpa using hj)] at h
  cases h
def jM{lo}{n}:(o8 lo n).length=n:=by simp[o8]
end
def aU i j:tV (.int i) (.int j)=some (.int (i+j)):=rfl
def ji i j:LW (.int i) (.int j)=some (.int (i - j)):=rfl
def pq i j:oLt (.int i) (.int j)=some (.bl (decide (i<j))):=rfl
theorem aH{i j}(h:0<j):oMod (.int i) (.int j)=some (.int (i % j)):=by
 simp only[oMod,QH (Int.ne_of_lt h),ne_eq,not_false_eq_true,if_true,Int.fmod_eq_emod_of_nonneg _ (Int.le_of_lt h)]
theorem aY{i j}(h:0<j)(z:Sz j):oDiv (.int i) (.int j)=some (.int (i / j)):=by
 simp only[oDiv,QH (Int.ne_of_lt h),ne_eq,not_false_eq_true,z,and_self,if_true,Int.fdiv_eq_ediv_of_nonneg _ (Int.le_of_lt h)]
theorem l7{i j}(h:-(2 ^ 64)<j)(z:j<2 ^ 64):EX (.int i) (.int j)=some (.int (i * j)):=by
 have:FE i j:=.inr ⟨h,z⟩;simp only[EX,this,true_or,if_true]
theorem Ak{i j}(h:-(2 ^ 64)<i)(z:i<2 ^ 64):EX (.int i) (.int j)=some (.int (i * j)):=by
 have:FE i j:=.inl ⟨h,z⟩;simp only[EX,this,true_or,if_true]
def pz i j:oEq (.int i) (.int j)=some (.bl (decide (i=j))):=rfl
def G5 i j:oNe (.int i) (.int j)=some (.bl (!decide (i=j))):=rfl
def l8 i j:oEq (.str i) (.str j)=some (.bl (decide (i=j))):=rfl
def Ai i j:oNe (.str i) (.str j)=some (.bl (!decide (i=j))):=rfl
def Ov{α} x (xs:Ry α):atI (x::xs) 0=some x:=by simp[atI,ixN]
theorem Ou{α} x y (xs:Ry α):atI (x::y::xs) 1=some y:=by
 have:(1:Int)<((xs.length+1+1:Nat):Int):=by lia
 simp only[atI,ixN,Z2,this,if_true];rfl
theorem Ot{α} x y z (xs:Ry α):atI (x::y::z::xs) 2=some z:=by
 have:(2:Int)<((xs.length+1+1+1:Nat):Int):=by lia
 simp only[atI,ixN,Z2,this,if_true];rfl
def bS x xs:oIx (.tup (x::xs)) (.int 0)=some x:=Ov _ _
def cI x y xs:oIx (.tup (x::y::xs)) (.int 1)=some y:=Ou _ _ _
def fj x y z xs:oIx (.tup (x::y::z::xs)) (.int 2)=some z:=Ot _ _ _ _
theorem aT{τ}{c}{f g}{r}(h:c τ=some false)(h2:g τ=r):gr (sIf c f qo) g τ=r:=by
 simp only[gr,sIf,h,Yi,Y6,if_false,qo];exact h2
theorem dQ{τ}{c}{f g}{s}(h:c τ=some true)(h2:f τ=some (.ret s)):gr (sIf c f qo) g τ=some (.ret s):=by
 simp only[gr,sIf,h,Yi,if_true,h2]
section
variable{τ τ':Ry Sl}{f g:DS}{e e2 e3:DE}{c:DT}{b:Bool}{d x y z:D}{P:D->Prop}{R:Ry Sl->Prop}
theorem Ex{f g}{b c}(h1:f τ=some b)(h2:g τ=some c):Cg f g τ=some (b&&c):=by
 unfold Cg;rw[h1];cases b<;>simp[h2]
theorem Jl{f g}{b c}(h1:f τ=some b)(h2:g τ=some c):dOr f g τ=some (b||c):=by
 unfold dOr;rw[h1];cases b<;>simp[h2]
theorem v9{b c}(h1:e τ=some (.bl b))(h2:e2 τ=some (.bl c)):so e e2 τ=some (.bl (b&&c)):=by
 unfold so;rw[h1];cases b<;>simp[h2]
theorem oa{j}{kvs}{k}(h1:e τ=some d)(h2:e2 τ=some y)(q:τ[j]?=some (.own (.dct kvs)))(hk:jn y=some k)(hl:kvs.length<100000):yW j e e2 τ=some (.next (τ.set j (.own (.dct (putD kvs k d))))):=by
 unfold yW;rw[h1];show(e2 τ).bind _=_;rw[h2];show(match τ[j]? with|some (.own (.dct kvs))=>_|_=>_)=_;rw[q];show(jn y).bind _=_;rw[hk];exact if_pos hl
theorem LB{kvs}{k}(h1:e τ=some (.dct kvs))(h2:e2 τ=some y)(h3:e3 τ=some z)(hk:jn y=some k):HR e e2 e3 τ=some ((du kvs k).getD z):=by
 unfold HR;rw[h1];show(e2 τ).bind _=_;rw[h2];show(e3 τ).bind _=_;rw[h3];show(jn y).map _=_;rw[hk];rfl
end
theorem vw {n:Nat}:∀ {ds:Ry D},(∀ d ∈ ds,okD n d=true)->kX n ds=true
 |[],_=>rfl
 |d::ds,h=>by
  rw[kX,h d (Zg ..),vw λ e m=>h e (Zd _ m)];rfl
theorem Aj{xs ys}(h:kX 8 xs=true)(h':kX 8 ys=true):oNe (.lst xs) (.lst ys)=some (.bl (!eqB (.lst xs) (.lst ys))):=by
 unfold oNe eqO;rw[if_pos ⟨h,h'⟩];rfl
theorem vY{xs}:eqB (.lst xs) (.lst [])=xs.isEmpty:=by
 cases xs with
 |nil=>exact lF _
 |cons x xs=>exact vZ (λ h=>by injection h with h;cases h)
theorem wK{α}{xs:Ry α}{j:Int}(h0:0<=j)(h1:j<xs.length):∃(h:j.toNat<xs.length),atI xs j=some xs[j.toNat]:=by
 refine⟨by lia,?_⟩;have e:=iW (xs:=xs) (j:=j.toNat) (QA (by lia));rw[show((j.toNat:Nat):Int)=j by lia]at e;exact e
end L2
end
section
namespace L2
open PySem PySem.Spec PyProof.Rows
noncomputable def ItI (d:RB) (o:Obj) (kvs:Ry (Key×V)):It where
 go:=λ i H=>H d=some (.frz o (.dK kvs))/\i<kvs.length
 yld:=λ i H v H'=>∃ T k w,kvs[i]?=some (k,w)/\v=.ref T/\H T=none/\H'=upd H T (.tup [kV k,w])
 stop:=λ i H=>H d=some (.frz o (.dK kvs))/\kvs.length<=i
theorem E5 {κ:Type}:∀ {kvs:Ry (κ×V)} {vs:Ry (κ×RA)} {i:Nat} {k:κ} {w:V},KV kvs vs->kvs[i]?=some (k,w)->∃ u,vs[i]?=some (k,u)/\RelV w u
 |_,_,_,_,_,.nil,e=>by simp at e
 |_,_,0,k,w,.cons (b:=b) h r,e=>by
  have e':=Zj e;subst e';obtain⟨h1,h2⟩:=h;exact⟨b.2,Z6 some (Prod.ext h1.symm rfl),h2⟩
 |_,_,i+1,k,w,.cons h r,e=>by
  obtain⟨u,h1,h2⟩:=E5 (i:=i) r (by simpa using e);exact⟨u,by simpa using h1,h2⟩
theorem wY {P:Program} {w:World} {K:RC} {elts:Ry Expr} {k:Nat} {pos:Pos} (d it:RB) (o:Obj) (kvs:Ry (Key×V)) (es:Array DictEntry) (ep:Nat) (hdat:o.data=.dict es ep) (nd:it≠d):Turn P w K (.Tuple elts k pos) (ItI d o kvs) [it] it (λ i h=>∃ ok ov,IsItemIter h it d i kvs.length ep ok ov) where
 mem:=by simp
 obj:=λ i h st b hb=>by
  have e:b=it:=by simpa using hb
  subst e;obtain⟨ok,ov,e⟩:=st;exact⟨_,e,λ v z=>by cases z⟩
 keep:=λ i h h' st k=>by
  obtain⟨ok,ov,e⟩:=st;exact⟨ok,ov,k it (by simp) _ e⟩
 item:=by
  intro X hP hw hK hc i Qv s σ H E I hf st hg;subst hP hw hK;obtain⟨hd,hi⟩:=hg;obtain⟨g,okk⟩:=I.hok d _ hd;obtain⟨sz,lo,vs,kv,o',es',ep',h1,h2,h3,h4⟩:=okk;rw[g]at h1;cases h1;rw[hdat]at h3;cases h3;have lv:=kv.length.symm;have dat:s.heap.DictAt (aV X.prog X.w) d vs ep:=⟨o,es,g,h2,hdat,h4⟩
  obtain⟨ok,ov,st⟩:=st;have ek:kvs[i]?=some ((kvs[i]'hi).1,(kvs[i]'hi).2):=QA hi;generalize (kvs[i]'hi).1=kk at ek;generalize (kvs[i]'hi).2=vv at ek;obtain⟨u,hx,ru⟩:=E5 kv ek;refine wpAny_pyNext_items_item (by rw[lv];exact st) dat hx λ key h' ik a1 a3 a4 hk=>?_
  rw[lv]at a1;have hk':∀ b o,b ∉ [it]->s.heap.get? b=some o->h'.get? b=some o:=λ b o hb e'=>hk b o (λ q=>hb (by simp[q])) e'
  have rk:RelV (kV kk) key:=by
   rcases bu ik with ⟨j,t,e4,e5⟩|⟨y,t,e4,e5⟩
   · rw[e4,e5];exact⟨t,rfl⟩
   · rw[e4,e5];exact⟨t,rfl⟩
  have I1:Inv X Qv σ (upd H s.heap.objs.size (.tup [kV kk,vv])) { s with heap:=h',toks:=s.toks }:=I.yz hf hk' (Zo _) ⟨by show 2<=sizeLine;decide,[key,u],.cons rk (.cons ru .nil),_,a3,rfl,_,rfl⟩;have hn:=I.hok.fresh (Zo _);refine⟨.ref s.heap.objs.size,rfl,wpAny_letOwnedTupleGo_items a1 λ h2 hz2 sb=>?_⟩
  have neT:it≠s.heap.objs.size:=λ q=>by
   rw[q]at st;exact absurd (Zr st) (Y3 _)
  obtain⟨f0,f1,f2,f3,f4,f5⟩:=hf it (by simp);have I2:=I1.turned (t':=s.toks) (λ b o hb e'=>(sb.2 b hb).trans e') (by rw[ar neT];exact f0) f1 f3 f4 f5
  exact⟨.ref s.heap.objs.size,_,I2,rfl,⟨s.heap.objs.size,kk,vv,ek,rfl,hn,rfl⟩,⟨_,_,hz2⟩,λ b hb=>by
   have e:b=it:=by simpa using hb
   subst e;rw[ar neT]
   exact f0⟩
 done:=by
  intro X hP hw hK hc i Qv s σ H E I hf st hg;subst hP hw hK;obtain⟨hd,hi⟩:=hg;obtain⟨g,okk⟩:=I.hok d _ hd;obtain⟨sz,lo,vs,kv,o',es',ep',h1,h2,h3,h4⟩:=okk;rw[g]at h1;cases h1;rw[hdat]at h3;cases h3;have lv:=kv.length.symm;have dat:s.heap.DictAt (aV X.prog X.w) d vs ep:=⟨o,es,g,h2,hdat,h4⟩
  obtain⟨f0,f1,f2,f3,f4,f5⟩:=hf it (by simp);obtain⟨ok,ov,st⟩:=st;exact wpAny_pyNext_items_end (I.ok.hd hc) (by rw[lv];exact st) dat (QJ (by lia)) λ h' eb=>⟨rfl,I.turned (t':=s.toks) (λ b o hb e=>eb b o hb e) f0 f1 f3 f4 f5⟩
 self:=λ _ _ _ _ _ ⟨ok,ov,st⟩ h=>PySem.W.kcp_self st h
def Lc(td:TE):TI:=λ σ H R=>td σ H λ v H1=>∃ d kvs,v=.ref d/\((H1 d=some (.dK kvs)/\∀ o,R (ItI d o kvs) (upd H1 d (.frz o (.dK kvs))))\/∃ o,H1 d=some (.frz o (.dK kvs))/\R (ItI d o kvs) H1)
theorem vf{X}{o}{elts}{k}{pt Qw Qx}{td}(ho:PE X o td)(Q1:Ug X o "items":=by rfl)(Qz:Ui Qw Qx:=by rfl):PI X (.Tuple elts k pt) (.Call (.Attribute o "items" Qw) [] [] Qx) (Lc td):=by
 intro Qv s σ H R I h;refine wpAny_Call_method0_late Q1 Qz (thn (ho Qv s σ H _ I h) λ v s1 w90=>?_);obtain⟨x,H1,I1,r1,q1⟩:=w90;obtain⟨d,kvs,e,q⟩:=q1;subst e;cases r1
 obtain⟨H2,ob,I2,hd,qq⟩:∃ H2 ob,Inv X Qv σ H2 s1/\H2 d=some (.frz ob (.dK kvs))/\R (ItI d ob kvs) H2:=by
  rcases q with ⟨hd,q⟩|⟨ob,hd,q⟩
  ·obtain ⟨sz,lo,vs,kv,ob,es,ep,h1,h2,h3,h4⟩:=si I1.hok hd
   exact⟨_,ob,I1.freeze hd h1,ay,q ob⟩
  · exact⟨_,ob,I1,hd,q⟩
 obtain⟨t1,t2,lo⟩:=vJ I2 (.inl ⟨kvs,.inr ⟨ob,hd⟩⟩);obtain⟨g,okk⟩:=I2.hok d _ hd;obtain⟨sz,_,vs,kv,o',es,ep,h1,h2,h3,h4⟩:=okk;rw[g]at h1;cases h1;have lv:=kv.length.symm;have dat:s1.heap.DictAt (aV X.prog X.w) d vs ep:=⟨ob,es,g,h2,h3,h4⟩
 refine⟨"dict","dict.items",Xi,PySem.F.slot_dict_items,PySem.F.type_dict_items,t1,t2,Y9 rfl (PySem.evalArgs_none ?_)⟩;refine Wq PySem.F.slot_dict_items t1 PySem.F.entry_dict_items (PySem.F.args_dict_items_1 _) (meets_dict_items (aV X.prog X.w) d lo) ⟨⟨vs,ob,es,ep,g,h2,h3,h4⟩,?_⟩;have dat2:(s1.heap.push { cls:=.type "dict_items",data:=.fields #[.ref d] }).DictAt (aV X.prog X.w) d vs ep:=dat.at' λ o e=>My _ e
 refine wpAny_pyIter_items ⟨_,QC _ rfl,rfl,rfl⟩ dat2 ?_
 have I3:=I2.kept (t':=s1.toks) (h':=(s1.heap.push { cls:=.type "dict_items",data:=.fields #[.ref d] }).push { cls:=.type "dict_itemiterator",data:=.fields #[.none,.bool false,.ref d,.int 0 0,.int vs.length 0,.int ep 0,.none,.none] }) λ b o e=>My _ (My _ e)
 have le:s1.heap.objs.size<=(s1.heap.push { cls:=.type "dict_items",data:=.fields #[.ref d] }).objs.size:=by rw[Y8];exact Rf _
 have nd:(s1.heap.push { cls:=.type "dict_items",data:=.fields #[.ref d] }).objs.size≠d:=λ q=>by
  have:=Zt (Zr g) le;rw[q]at this;exact Y3 _ this
 refine⟨_,[_],_,_,_,rfl,I3,wY d _ ob kvs es ep h3 nd,⟨.none,.none,by rw[<- lv];exact QC _ rfl⟩,λ b hb=>?_,qq⟩;have e:=Zy.mp hb;subst e;exact I2.yt le (I2.hok.fresh le)
def kx(kvs:Ry (Key×D)):Ry D:=kvs.map λ p=>.tup [kD p.1,p.2]
theorem K7 {K:RC} {H:Hp}:∀ k:Key,Rp K H (kV k) (kD k)
 |.inl i=>.int i
 |.inr x=>.str x
theorem yY {K:RC} {H:Hp}:∀ {kvs:Ry (Key×V)} {ds:Ry (Key×D)} {i:Nat} {k:Key} {d:D},RpK K H kvs ds->ds[i]?=some (k,d)->∃ w,kvs[i]?=some (k,w)/\Rp K H w d
 |_,_,_,_,_,.nil,e=>by simp at e
 |_,_,0,k,d,.cons h r,e=>by
  cases Zj e;exact⟨_,rfl,h⟩
 |_,_,i+1,k,d,.cons h r,e=>by
  obtain⟨w,h1,h2⟩:=yY (i:=i) r (by simpa using e);exact⟨w,by simpa using h1,h2⟩
theorem yX {K:RC} {H:Hp}:∀ {kvs:Ry (Key×V)} {ds:Ry (Key×D)},RpK K H kvs ds->kvs.length=ds.length
 |_,_,.nil=>rfl
 |_,_,.cons _ r=>Z6 (·+1) (yX r)
theorem rB{K}{d}{ob}{kvs}{Hs}{ds}(h:Hs d=some (.frz ob (.dK kvs)))(r:RpK K Hs kvs ds):ItR K (ItI d ob kvs) Hs (kx ds):=λ Hs1 H g1 g2=>by
 have hq:=g2 _ _ (g1 _ _ h);refine⟨λ i p e=>?_,λ i hi=>⟨hq,by rw[yX r];simpa [kx] using hi⟩⟩;unfold kx at e;rw[QD]at e;obtain⟨⟨k,y⟩,ea,ed⟩:=Zm e;subst ed;obtain⟨x,hx,rx⟩:=yY r ea;refine⟨⟨hq,(QB.mp hx).1⟩,λ v H' ⟨T,k',w',e1,e2,hn,e3⟩=>?_⟩;subst e2 e3;rw[hx]at e1;cases e1;have g:=Ext.new g2 hn (.tup [kV k,x]);exact⟨_,g,.tup (SqT.of ay) (.cons (K7 _) (.cons ((rx.same g1).same g.ss) .nil))⟩
def A4(f:DE):DI:=λ τ=>(f τ).bind λ d=>match d with|.dfz kvs=>some (kx kvs)|_=>none
def mF(f:DE):DI:=λ τ=>(f τ).bind λ d=>match d with|.dct kvs=>some (kx kvs)|_=>none
section
variable{X:Cx}{o:Expr}{elts:Ry Expr}{k:Nat}{pt Qw Qx:Pos}{f:DE}
theorem sH(ho:Bx (PEd X o f))(Q1:Ug X o "items":=by rfl)(Qz:Ui Qw Qx:=by rfl):Bx (PId X (.Tuple elts k pt) (.Call (.Attribute o "items" Qw) [] [] Qx) (A4 f)):=
 ⟨(vf ho.out Q1 Qz).imp λ σ H R w0=>g54 w0 λ H0 Hs τ fp ds st sm e k=>by
   obtain⟨x,e1,e2⟩:=Ub e;refine⟨H0,Hs,τ,fp,x,st,sm,e1,λ v Hs' H' g r=>?_⟩
   cases r with
   |@dfz a kvs ds1 h1 r1=>
    have e':=Zj e2;subst e';obtain⟨ob,h1⟩:=h1;exact⟨a,kvs,rfl,.inr ⟨ob,g.sh _ _ h1,k _ Hs' H' g (rB h1 r1)⟩⟩
   |_=>exact nn e2⟩
theorem kC(ho:Bx (PEo X o f))(Q1:Ug X o "items":=by rfl)(Qz:Ui Qw Qx:=by rfl):Bx (PId X (.Tuple elts k pt) (.Call (.Attribute o "items" Qw) [] [] Qx) (mF f)):=
 ⟨(vf ho.out Q1 Qz).imp λ σ H R w0=>g54 w0 λ H0 Hs τ fp ds st sm e k=>by
   obtain⟨x,e1,e2⟩:=Ub e;refine⟨H0,Hs,τ,fp,x,st,sm,e1,λ a Hs' H' g ow hn=>?_⟩
   cases ow with
   |lst _ _ _=>exact nn e2
   |@dct kvs ds1 h1 n1 r1=>
    have e':=Zj e2;subst e';refine⟨a,kvs,rfl,.inl ⟨h1,λ ob=>?_⟩⟩;have na:=n1;have ss:bM Hs' (upd Hs' a (.frz ob (.dK kvs))):=aF na _;refine k _ (upd Hs' a (.frz ob (.dK kvs))) _ ⟨g.ss.trans ss,λ b u q=>?_,λ b u q=>?_,λ b q1 q2=>?_⟩ (rB ay (r1.same ss))
    ·by_cases z:b=a
     · subst z;rw[ay]at q ⊢;exact q
     · rw[ar z]at q ⊢;exact g.sh _ _ q
    ·have z:b≠a:=λ y=>by rw [y,hn] at q; cases q
     rw[ar z];exact g.hh _ _ q
    ·have z:b≠a:=λ y=>q2 (by rw [y]; exact hn)
     rw[ar z]
     exact g.fr b q1 q2⟩
end
noncomputable def MD(td ty tv:TE):TE:=λ σ H Q=>td σ H λ x H1=>∃ a,x=.ref a/\IsD H1 a/\ty σ H1 λ y H2=>tv σ H2 λ z H3=>∃ kvs k,H3 a=some (.dK kvs)/\y=kV k/\kvs.length<sizeLine/\(∀ w,cC kvs k=some w->Q w H3)/\(cC kvs k=none->Q z (upd H3 a (.dK (putK kvs k z))))
section
variable{X:Cx}{o e f:Expr}{td ty tv:TE}{Qw Qx pos:Pos}
theorem GO(ho:PE X o td)(he:PE X e ty)(hf:PE X f tv)(m:M2 X o "setdefault" Qw e f Qx):PE X (.Call (.Attribute o "setdefault" Qw) [e,f] [] Qx) (MD td ty tv):=by
 intro Qv s σ H Q I h;refine wpAny_Call_method m.base m.few m.line Xi PySem.F.slot_dict_setdefault PySem.F.type_dict_setdefault (thn (ho Qv s σ H _ I h) λ u s1 w90=>?_);obtain⟨x,H1,I1,rx,a,ex,d,q1⟩:=w90;subst ex;obtain rfl:u=Value.ref a:=rx;obtain⟨t1,t2,_⟩:=vJ I1 d;refine⟨t1,t2,?_⟩;rw[m.trees]
 refine Y9 rfl (X5 (Y5 (thn (he Qv s1 σ H1 _ I1 q1) λ iv s2 ⟨y,H2,I2,ry,q2⟩=>
  Y5 (thn (hf Qv s2 σ H2 _ I2 q2) λ fv s3 ⟨z,H3,I3,rz,kvs,k,ea,ey,l,q3,q4⟩=>Wk ?_))))
 subst ey;obtain⟨zz,hd,vs,rel,dd⟩:=si I3.hok ea
 refine Wq PySem.F.slot_dict_setdefault dd.typeIs PySem.F.entry_dict_setdefault (PySem.F.args_dict_setdefault_3 _ _ _) (kt_meets_setdefault (aV X.prog X.w) a (nM ry) hd fv)
  ⟨vs,dd,by rw[<- rel.length];exact zz,λ v hv=>?_,λ hn h' dd' hs=>?_⟩
 ·obtain⟨w,hw,rw'⟩:∃ w,cC kvs k=some w/\RelV w v:=by
   have q:=rel.val k;rw[hv]at q
   cases e1:cC kvs k with
   |none=>rw[e1]at q;exact q.elim
   |some w=>rw[e1]at q;exact⟨w,rfl,q⟩
  exact⟨w,H3,I3.tok _,rw',q3 w hw⟩
 ·have e1:cC kvs k=none:=by
   have q:=rel.val k;rw[hn]at q
   cases e1:cC kvs k with
   |none=>rfl
   |some w=>rw[e1]at q;exact q.elim
  have hl:(putK kvs k z).length<=sizeLine:=by have:=fM kvs k z;lia
  have he:∃ q,h'.get? a=some q:=let ⟨q,_,_,hq,_⟩:=dd';⟨q,hq⟩
  exact⟨z,_,mM I3 (by rw[ea];exact True.intro) hs he (wb hl hd (rel.put k rz) dd'),rz,q4 e1⟩
noncomputable def yS(px:DPx)(gk:DE)(fv:DEm):DSm:=λ τ=>(px τ).bind λ p=>match a6 τ p.1 p.2 with
 |some (.n .d cs)=>(gk (b6 τ)).bind λ d=>(jn d).bind λ k=>(fv τ).bind λ x=>(toM x.1).bind λ mv=>match a6 x.2 p.1 p.2 with
  |some (.n .d cs2)=>if cs2.length<100000/\cs2.map (·.1)=cs.map (·.1) then(if(cs2.any λ c=>decide (c.1=k))=true then some (.next x.2) else some (.next (cX x.2 p.1 p.2 (.n .d (ki cs2 k mv))))) else none
  |_=>none
 |_=>none
theorem GC{px:DPx}{gk:DE}{fv:DEm}(ho:PXm X o px)(he:PEd X e gk)(hv:PVm X f fv)(m:M2 X o "setdefault" Qw e f Qx)(hs:swapsWith (.Call (.Attribute o "setdefault" Qw) [e,f] [] Qx) none pos.line X.env=pure false:=by rfl):PSm X (.Expr (.Call (.Attribute o "setdefault" Qw) [e,f] [] Qx) pos) (yS px gk fv):=
 (fG (GO ho he hv m) hs).imp λ E σ H w0=>g73 w0 λ Hs0 H0 nf ρ Hs τ o r e k=>by
   obtain⟨⟨i,q⟩,e1,e⟩:=Ub e;split at e
   ·rename_i cs en
    obtain⟨d,e2,e⟩:=Ub e;obtain⟨ky,e3,e⟩:=Ub e;obtain⟨⟨s,τ1⟩,e4,e⟩:=Ub e;obtain⟨mv,e5,e⟩:=Ub e;split at e
    ·rename_i cs2 en2
     split at e
     ·rename_i hz
      refine⟨Hs0,H0,nf,ρ,Hs,τ,i,q,_,r,e1,en,λ rt v1 H1 g1 hrt hq=>?_⟩;have r1:=r.grow g1;obtain⟨a,dx,ts,u,rfl,rfl,ha,hl,ku,hrp,fin⟩:=r1.qT en hrt hq;rw[pF hl]at ha;obtain⟨fp,st⟩:=r1.st;refine⟨a,rfl,.inl ⟨_,.inl ha⟩,H1,H1,b6 τ,[],_,st.b6 r1.sm,.refl H1,e2,λ y Hs2 H2 g2 ry=>?_⟩;have hy:=gm ry e3;subst hy;have r2:=r1.grow g2.hh;refine⟨Hs0,H0,nf,ρ,Hs,τ,s,τ1,r2,e4,λ v Hs3 H3 g3 r3=>?_⟩;obtain⟨a',dx',ts',u',fv',ea,ec,ha',hl',ku',fin'⟩:=r3.xw e5 en2 hrt (bF g3 q (bF g2.hh q hq));cases ea;have ha2:=ha';rw[pF hl']at ha2
      have hk:∀ kk,((ts'.map Kd.km).any λ c=>decide (c.1=kk))=(cC (ts'.map Kd.kv) kk).isSome:=λ kk=>by
       rw[<- fD kk (ts'.map Kd.kv),Wg,Wg];rfl
      subst ec;rw[hk]at e;refine⟨_,ky,ha2,rfl,by rw[Za,<- Za];exact Zt hz.1 (by decide),λ w hw=>?_,λ hn=>?_⟩
      ·rw [hw] at e
       have e':=e;cases e';exact k σ Hs3 H3 r3.pop
      ·rw [hn] at e
       have e':=e;cases e';obtain⟨l1,l2,hsub,spl⟩:=lQ ky ku';obtain⟨p1,p2,p3⟩:=spl ⟨ky,v,mv,fv'⟩ rfl;have:=fin' l1 ky l2 (.dK (putK (ts'.map Kd.kv) ky v)) hsub (by rw[p1];exact .d _) p3;rw[p2]at this;exact k σ Hs3 _ this
     · cases e
    · cases e
   · cases e
theorem BN{px:DPx}{gk:DE}{fv:DEm}(ho:Bx (PXm X o px))(he:Bx (PEd X e gk))(hv:Bx (PVm X f fv))(m:M2 X o "setdefault" Qw e f Qx:=by exact⟨rfl,rfl,rfl,rfl⟩)(hs:swapsWith (.Call (.Attribute o "setdefault" Qw) [e,f] [] Qx) none pos.line X.env=pure false:=by rfl):Bx (PSm X (.Expr (.Call (.Attribute o "setdefault" Qw) [e,f] [] Qx) pos) (yS px gk fv)):=⟨GC ho.out he.out hv.out m hs⟩
end
end L2
end
section
namespace L2
open PySem PySem.W PyProof.Rows
def kq {α:Type} (n:Nat) (lt:Nat->Nat->Bool):KasT α->(α->Prop)->Prop
 |.ret a,Q=>Q a
 |.ask i j k,Q=>i<n/\j<n/\kq n lt (k (lt i j)) Q
theorem kq.bind {α β:Type} {n:Nat} {lt:Nat->Nat->Bool} {f:α->KasT β} {Q:β->Prop}:∀ {t:KasT α},kq n lt t (λ a=>kq n lt (f a) Q)->kq n lt (t.bind f) Q
 |.ret a,h=>h
 |.ask i j k,h=>⟨h.1,h.2.1,kq.bind h.2.2⟩
theorem kq.mono {α:Type} {n:Nat} {lt:Nat->Nat->Bool} {Q Q':α->Prop}:∀ {t:KasT α},kq n lt t Q->(∀ a,Q a->Q' a)->kq n lt t Q'
 |.ret a,h,g=>g a h
 |.ask i j k,h,g=>⟨h.1,h.2.1,h.2.2.mono g⟩
theorem kq.wp {α:Type} {n:Nat} {lt:Nat->Nat->Bool} {Q:α->Prop} {P:RD->Prop} {cmp:Nat->Nat->(Bool->RD->Prop)->RD->Prop} {R:α->RD->Prop}
  (hc:∀ i j C s,i<n->j<n->P s->(∀ s',P s'->C (lt i j) s')->cmp i j C s) (hr:∀ a s,Q a->P s->R a s):∀{t:KasT α} {s:RD},kq n lt t Q->P s->t.kasWp cmp R s
 |.ret a,s,h,p=>hr a s h p
 |.ask i j k,s,h,p=>hc i j _ s h.1 h.2.1 p λ s' p'=>kq.wp hc hr h.2.2 p'
section
variable{n:Nat}{r:Nat->Int}
abbrev ltR(r:Nat->Int)(i j:Nat):Bool:=decide (r i<r j)
abbrev RR(r:Nat->Int)(p:Array Nat)(k:Nat):Int:=r (p.getD k 0)
structure Pm (n:Nat) (r:Nat->Int) (p:Array Nat):Prop where
 sz:p.size=n
 pm:p.toList.Perm (List.range n)
theorem Pm.of{p q:Array Nat}(h:Pm n r p)(e:q.Perm p):Pm n r q:=⟨e.size_eq.trans h.sz,(Array.perm_iff_toList_perm.mp e).trans h.pm⟩
theorem Pm.lt{p:Array Nat}(h:Pm n r p)(hn:0<n)(k:Nat):p.getD k 0<n:=by
 by_cases hk:k<p.size
 ·have:p.getD k 0=p[k]:=by simp [Array.getD,hk]
  rw[this];have:p[k] ∈ p.toList:=by simp
  exact Y7.mp (h.pm.mem_iff.mp this)
 ·have:p.getD k 0=0:=by simp [Array.getD,hk]
  rw[this];exact hn
theorem Pm.ne{p:Array Nat}(inj:∀ i j,i<n->j<n->r i=r j->i=j)(h:Pm n r p){i j:Nat}(hi:i<n)(hj:j<n)(ne:i≠j):RR r p i≠RR r p j:=by
 have hi':i<p.size:=by rw[h.sz];exact hi
 have hj':j<p.size:=by rw[h.sz];exact hj
 have nd:p.toList.Nodup:=h.pm.nodup_iff.mpr List.nodup_range;intro e;have hn:0<n:=by lia
 have e2:=inj _ _ (h.lt hn i) (h.lt hn j) e;have e3:p.getD i 0=p[i]:=by simp[Array.getD,hi']
 have e4:p.getD j 0=p[j]:=by simp[Array.getD,hj']
 rw[e3,e4]at e2;have:p.toList[i]'(by simpa using hi')=p.toList[j]'(by simpa using hj'):=by simpa using e2
 exact ne ((List.getElem_inj nd).mp this)
def Srt(r:Nat->Int)(p:Array Nat)(k:Nat):Prop:=∀ i j,i<j->j<k->RR r p i<RR r p j
def Dsc(r:Nat->Int)(p:Array Nat)(k:Nat):Prop:=∀ i j,i<j->j<k->RR r p j<RR r p i
variable(inj:∀ i j,i<n->j<n->r i=r j->i=j)
include inj
omit inj in
theorem Jd{P:Nat->Nat->Prop}(tr:∀ a b c,P a b->P b c->P a c){m:Nat}(lt1:m - 1<m)(s:∀ i j,i<j->j<m->P i j)(c:P (m - 1) m):∀ i j,i<j->j<m+1->P i j:=λ i j hij hj=>by
 rcases Xy (Xk hj) with e|e
 · exact s i j hij e
 ·subst e
  rcases Xy (Nat.le_sub_one_of_lt hij) with e|e
  · exact tr _ _ _ (s i (j - 1) e lt1) c
  · exact e ▸ c
omit inj in
theorem Jx{p:Array Nat}{m:Nat}(lt1:m - 1<m)(s:Srt r p m)(c:RR r p (m - 1)<RR r p m):Srt r p (m+1):=Jd (P:=λ i j=>RR r p i<RR r p j) (λ _ _ _=>Int.lt_trans) lt1 s c
theorem uD {p:Array Nat} (h:Pm n r p):∀ (f m:Nat),1<=m->m+f<=n->Srt r p m->kq n (ltR r) (kas_asc p f m) λ m'=>m<=m'/\m'<=m+f/\Srt r p m'/\(m' < m+f->RR r p m' < RR r p (m' - 1))
 |0,m,_,_,s=>⟨Zo _,Zo _,s,λ z=>absurd z (Y3 _)⟩
 |f+1,m,h1,h2,s=>by
  have ea:=Xr (X7 m f);have h2':=Zu ea h2;have mn:m<n:=Zu (Wt _ _) h2';have n0:=QY mn;have lt1:m - 1<m:=Nat.sub_lt h1 Nat.one_pos;refine⟨h.lt n0 _,h.lt n0 _,?_⟩
  by_cases c:RR r p m<RR r p (m - 1)
  ·rw [show ltR r (p.getD m 0) (p.getD (m - 1) 0)=true from Zk c]
   exact⟨Zo _,Wt _ _,s,λ _=>c⟩
  ·rw [show ltR r (p.getD m 0) (p.getD (m - 1) 0)=false from Zp c]
   have c':RR r p (m - 1)<RR r p m:=Rh.mpr ⟨Int.not_lt.mp c,h.ne inj (X6 lt1 mn) mn (Zx lt1)⟩;refine(uD h f (m+1) (Nat.succ_pos _) h2' (Jx lt1 s c')).mono λ m' ⟨a,b,c,d⟩=>⟨Nat.le_of_succ_le a,Zu b ea,c,λ z=>d (Zt z (Xr (X7 m f).symm))⟩
theorem we {p:Array Nat} (h:Pm n r p):∀ (f m:Nat),1<=m->m+f<=n->Dsc r p m->kq n (ltR r) (kas_desc f p m 0) λ x=>x.1=p/\x.2.2=0/\m<=x.2.1/\x.2.1<=m+f/\Dsc r p x.2.1
 |0,m,_,_,s=>⟨rfl,rfl,Zo _,Zo _,s⟩
 |f+1,m,h1,h2,s=>by
  have ea:=Xr (X7 m f);have h2':=Zu ea h2;have mn:m<n:=Zu (Wt _ _) h2';have n0:=QY mn;have lt1:m - 1<m:=Nat.sub_lt h1 Nat.one_pos;refine⟨h.lt n0 _,h.lt n0 _,?_⟩
  by_cases c:RR r p m<RR r p (m - 1)
  ·rw [show ltR r (p.getD m 0) (p.getD (m - 1) 0)=true from Zk c]
   exact(we h f (m+1) (Nat.succ_pos _) h2' (Jd (P:=λ i j=>RR r p j<RR r p i) (λ _ _ _ a b=>Int.lt_trans b a) lt1 s c)).mono λ x ⟨a,b,c,d,e⟩=>⟨a,b,Nat.le_of_succ_le c,Zu d ea,e⟩
  ·rw [show ltR r (p.getD m 0) (p.getD (m - 1) 0)=false from Zp c]
   refine⟨h.lt n0 _,h.lt n0 _,?_⟩;rw[show ltR r (p.getD (m - 1) 0) (p.getD m 0)=true from Zk (Rh.mpr ⟨Int.not_lt.mp c,h.ne inj (X6 lt1 mn) mn (Zx lt1)⟩)];exact⟨rfl,rfl,Zo _,Wt _ _,s⟩
omit inj in
theorem pI{p:Array Nat}{i j:Nat}{q:Array Nat}(h:q[i]?=p[j]?):q.getD i 0=p.getD j 0:=by
 rw[QO,QO,h]
omit inj in
theorem Gr{p:Array Nat}{m:Nat}(hm:m<=p.size)(d:Dsc r p m):Srt r (kas_rev p 0 m) m:=λ i j hij hj=>by
 have e:∀ k,k<m->(kas_rev p 0 m).getD k 0=p.getD (m - 1 - k) 0:=λ k hk=>pI (by
  unfold kas_rev
  rw[getElem?_mirror_all hm,if_pos ⟨Z0 _,hk⟩,Rw])
 unfold RR;have hi:=X6 hij hj;rw[e i hi,e j hj];exact d _ _ (Nat.sub_lt_sub_left (Zt hij (Nat.le_sub_one_of_lt hj)) hij) (Xc (Nat.sub_le _ _) (Nat.sub_lt (QY hi) Nat.one_pos))
theorem yD{p:Array Nat}(h:Pm n r p){m:Nat}(h1:1<=m)(hm:m<=n)(d:Dsc r p m):kq n (ltR r) (kas_tail3 m n p) λ x=>Pm n r x.2/\1<=x.1/\x.1<=n/\Srt r x.2 x.1:=by
 have h':Pm n r (kas_rev p 0 m):=h.of (mirror_perm _ _ _ _);refine kq.bind ((uD inj h' (n - m) m h1 (Xr (Nat.add_sub_of_le hm)) (Gr (by rw[h.sz];exact hm) d)).mono λ m' w90=>?_);obtain⟨a,b,c,_⟩:=w90;exact⟨h',Zu h1 a,Zu b (Xr (Nat.add_sub_of_le hm)),c⟩
theorem sj{p:Array Nat}(h:Pm n r p)(h2:2<=n)(d:Dsc r p 2):kq n (ltR r) (kas_descPart 1 n p) λ x=>Pm n r x.2/\1<=x.1/\x.1<=n/\Srt r x.2 x.1:=by
 refine kq.bind ((we inj h (n - 2) 2 (by lia) (by lia) d).mono λ x w90=>?_);obtain⟨a,b,c,e,g⟩:=w90;rw[b,if_neg (by lia),a];exact yD inj h (by lia) (by lia) g
theorem BG{p:Array Nat}(h:Pm n r p)(h2:2<=n):kq n (ltR r) (kas_count n p) λ x=>Pm n r x.2/\1<=x.1/\x.1<=n/\Srt r x.2 x.1:=by
 refine kq.bind ((uD inj h (n - 1) 1 (Zo _) (by lia) λ i j a b=>by lia).mono λ m w90=>?_);obtain⟨a,b,c,d⟩:=w90
 by_cases e:m=n
 ·rw [if_pos (by simp [e])]
  exact⟨h,a,by lia,c⟩
 ·rw [if_neg (by simpa using e)]
  by_cases e1:m>1
  ·rw [if_pos e1]
   refine⟨h.lt (by lia) _,h.lt (by lia) _,?_⟩;rw[show ltR r (p.getD 0 0) (p.getD (m - 1) 0)=true from Zk (c 0 (m - 1) (by lia) (by lia))];exact⟨h,a,by lia,c⟩
  ·rw [if_neg e1]
   have e2:m=1:=by lia
   subst e2;refine sj inj h h2 λ i j hij hj=>?_
   have:i=0/\j=1:=by lia
   obtain⟨rfl,rfl⟩:=this;exact d (by lia)
omit inj in
theorem Ky{l u f:Nat}(h1:u - l<=f+1)(c:¬ l ≥ u):l<=(l+u) / 2/\(l+u) / 2<u/\(l+u) / 2 - l<=f/\u - ((l+u) / 2+1)<=f:=by
 have c:=Nat.not_le.mp c;have a:l<=(l+u) / 2:=(Nat.le_div_iff_mul_le Nat.two_pos).mpr (by rw[Nat.mul_two];exact Nat.add_le_add_left (Yo c) _);have b:(l+u) / 2<u:=Nat.div_lt_of_lt_mul (by rw[Nat.two_mul];exact Nat.add_lt_add_right c _);have h:=QZ.mp h1;exact⟨a,b,QZ.mpr (Xk (Zt b h)),QZ.mpr (Zu h (Zu (Nat.add_le_add_right a _) (Xr (X7 _ _).symm)))⟩
theorem lT {p:Array Nat} (h:Pm n r p) {k:Nat} (hk:k < n) (s:Srt r p k):∀ (f l u:Nat),u - l<=f->l<=u->u<=k->(∀ i,i < l->RR r p i < RR r p k)->(∀ i,u<=i->i < k->RR r p k < RR r p i)->kq n (ltR r) (kas_place p k f l u) λ l'=>l'<=k/\(∀ i,i < l'->RR r p i < RR r p k)/\∀ i,l'<=i->i < k->RR r p k < RR r p i
 |0,l,u,h1,h2,h3,h4,h5=>⟨Zu h2 h3,h4,λ i a b=>h5 i (Zu (Nat.sub_eq_zero_iff_le.mp (Nat.le_zero.mp h1)) a) b⟩
 |f + 1,l,u,h1,h2,h3,h4,h5=>by
  unfold kas_place
  by_cases c:l ≥ u
  · rw[if_pos c];exact⟨Zu h2 h3,h4,λ i a b=>h5 i (Zu c a) b⟩
  ·rw [if_neg c]
   obtain⟨z1,z2,z3,z4⟩:=Ky h1 c;generalize (l+u) / 2=m at z1 z2 z3 z4 ⊢;have mk:=Zt z2 h3;have n0:=QY hk;refine⟨h.lt n0 _,h.lt n0 _,?_⟩
   by_cases d:RR r p k<RR r p m
   ·rw [show ltR r (p.getD k 0) (p.getD m 0)=true from Zk d]
    refine lT h hk s f l m z3 z1 (Yo mk) h4 λ i a b=>?_
    rcases Xy a with e|e
    · exact Int.lt_trans d (s m i e b)
    · exact e ▸ d
   ·rw [show ltR r (p.getD k 0) (p.getD m 0)=false from Zp d]
    have d':RR r p m<RR r p k:=Rh.mpr ⟨Int.not_lt.mp d,h.ne inj (X6 mk hk) hk (Zx mk)⟩;refine lT h hk s f (m+1) u z4 z2 h3 (λ i a=>?_) h5;rcases Xy (Xk a) with e|e
    · exact Int.lt_trans (s i m e mk) d'
    · exact e ▸ d'
omit inj in
theorem yj{p:Array Nat}{k l:Nat}(hk:k<p.size)(hl:l<=k)(s:Srt r p k)(h1:∀ i,i<l->RR r p i<RR r p k)(h2:∀ i,l<=i->i<k->RR r p k<RR r p i):Srt r (bubble p k (k - l)) (k+1):=λ i j hij hj=>by
 have e:=getElem?_bubble hk (k - l) (Nat.sub_le _ _);rw[Nat.sub_sub_self hl]at e;have e1:∀ m,m<l->(bubble p k (k - l)).getD m 0=p.getD m 0:=λ m z=>pI (by rw[e,if_neg (Zx z),if_neg λ y=>Nat.lt_asymm y.1 z])
 have e2:(bubble p k (k - l)).getD l 0=p.getD k 0:=pI (by rw[e,if_pos rfl]);have e3:∀ m,l<=m->m<k->(bubble p k (k - l)).getD (m+1) 0=p.getD m 0:=λ m z y=>pI (by rw[e,if_neg (Rv (Nat.lt_succ_of_le z)),if_pos ⟨Nat.lt_succ_of_le z,y⟩];rfl)
 clear e;unfold RR;generalize bubble p k (k - l)=q at *;rcases Nat.lt_or_ge i l with a|a
 ·rw [e1 i a]
  rcases Nat.lt_or_ge j l with b|b
  · rw[e1 j b];exact s i j hij (Zt b hl)
  ·rcases Xy b with b | b
   ·cases j with
    |zero=>exact absurd b (Wz _)
    |succ j=>rw[e3 j (Xk b) (Xs hj)];exact s i j (Zt a (Xk b)) (Xs hj)
   · rw[<- b,e2];exact h1 i a
 ·cases j with
  |zero=>exact absurd hij (Wz _)
  |succ j=>
   have y:=Xs hj;have b:=Zu a (Xk hij);rw[e3 j b y];rcases Xy a with a|a
   ·cases i with
    |zero=>exact absurd a (Wz _)
    |succ i=>rw[e3 i (Xk a) (X6 (Xs hij) y)];exact s i j (Xs hij) y
   · rw[<- a,e2];exact h2 j b y
theorem B3:∀ (f:Nat) (p:Array Nat) (k:Nat),Pm n r p->1<=k->k+f=n->Srt r p k->kq n (ltR r) (kas_bin f p k) λ q=>Pm n r q/\Srt r q n
 |0,p,k,h,_,e,s=>⟨h,by rw[<- e];exact s⟩
 |f+1,p,k,h,h1,e,s=>by
  refine kq.bind ((lT inj h (by omega) s k 0 k (by omega) (Z0 _) (Zo _) (λ i z=>absurd z (Wz _)) λ i a b=>by omega).mono λ l w90=>?_);obtain⟨a,b,c⟩:=w90;exact B3 f _ (k+1) (h.of (bubble_perm _ _ _)) (by omega) (by omega) (yj (by rw[h.sz];omega) a s b c)
theorem CD(h2:2<=n):kq n (ltR r) (kas_sort n) λ q=>Pm n r q/\Srt r q n:=by
 have h0:Pm n r (List.toArray (List.range n)):=⟨by simp,by simp⟩
 refine kq.bind ((BG inj h0 h2).mono λ x w90=>?_);obtain⟨a,b,c,d⟩:=w90
 by_cases e:x.1<n
 ·rw [if_pos e,show max x.1 1=x.1 by lia]
  exact B3 inj _ _ _ a b (by lia) d
 ·rw [if_neg e]
  exact⟨a,by rw[show n=x.1 by lia];exact d⟩
end
end L2
end
section
namespace L2
open PySem PySem.W PySem.Calls PyProof.Rows
section
variable{prog:Program}{w:World}{A:Around}{E:RA->RD->Prop}{s:RD}{a kS:RB}{vs ks:Ry RA}
theorem uT {st} {e e1} {out} {P} (hout:(arrOf st).map (·.2)=List.toArray out) (hz:out.length < 64) (hkz:ks.length < 64) (hf:failedOf st=none)
  (hk:s.heap.get? kS=some (seqObj "list" (List.toArray ks) e)) (ha:s.heap.get? a=some (seqObj "list" #[] e1)) (ne:kS≠a)
  (h:∀ h' c,(∀ b,b≠kS->b≠a->h'.get? b=s.heap.get? b)->h'.get? a=some (seqObj "list" (List.toArray out) c)->P (.done (.ret .none)) { s with heap:=h' }):wpAny (model prog w) A (ksk_tail a false e1 (.ref kS) st) P E s:=by
 have s1:=Xp s.heap kS (Obj.mapSeq λ _=>(#[]:Array RA));have ha1:=(s1.2 a ne.symm).trans ha;have s2:=Xp (s.heap.update kS (Obj.mapSeq λ _=>(#[]:Array RA))) a (Obj.mapSeq λ _=>List.toArray out);obtain⟨c2,hc2⟩:∃ c2,((s.heap.update kS (Obj.mapSeq λ _=>(#[]:Array RA))).update a (Obj.mapSeq λ _=>List.toArray out)).get? a=some (seqObj "list" (List.toArray out) c2):=⟨_,get?_update_seq ha1 λ _=>List.toArray out⟩
 unfold ksk_tail;try dsimp only
 rw[hout];refine Zc (listUpdate_at hk rfl ?_ (by rw[Zs,Yj];lia) (Z0 _));refine Zc (wpAny_letGo ?_);refine Zc (seqEpoch_at ha1 rfl ?_);refine Zc (listUpdate_at ha1 rfl ?_ (Z0 _) (by rw[if_neg Zf,Zs,Yj];lia));rw[hf];simp only[bne_self_eq_false,Y6,if_false];exact Zw (h _ c2 (λ b h1 h2=>(s2.2 b h2).trans (s1.2 b h1)) hc2)
theorem FZ {e e1} {r:Nat->Int} {P} (hl:ks.length=vs.length) (h64:vs.length < 64) (inj:∀ i j,i < vs.length->j < vs.length->r i=r j->i=j)
  (hkind:2<=vs.length->∀ Q,Q (tuples' true) s->wpAny (model prog w) A (keyKind' (List.toArray ks)) Q (λ _ _=>False) s)
  (hlt:∀ i j,i<vs.length->j<vs.length->∀ C,C (decide (r i<r j)) s->wpAny (model prog w) A (keyLt' (tuples' true) (ks.getD i Value.none) (ks.getD j Value.none)) C (λ _ _=>False) s)
  (hk:s.heap.get? kS=some (seqObj "list" (List.toArray ks) e)) (ha:s.heap.get? a=some (seqObj "list" #[] e1)) (ne:kS≠a)
  (h:∀ p:Ry Nat,p.Perm (List.range vs.length)->p.Pairwise (λ i j=>r i<r j)->∀ h' c,(∀ b,b≠kS->b≠a->h'.get? b=s.heap.get? b)->h'.get? a=some (seqObj "list" (List.toArray (p.map λ i=>vs.getD i Value.none)) c)->P (.done (.ret .none)) { s with heap:=h' }):wpAny (model prog w) A (ksk_end a false vs.toArray e1 (.ref kS) (List.toArray ks)) P E s:=by
 unfold ksk_end;try dsimp only
 by_cases h2:vs.length<2
 ·have hn:vs.toArray.size < 2:=by rw [Zs]; exact h2
  rw[if_pos hn,if_pos hn];refine Zc (Zw ?_);rw[StateT.run_pure];refine Zc (Zw ?_);refine uT ?_ (by simpa using h64) (by lia) rfl hk ha ne λ h' c hb hc=>h (List.range vs.length) (.refl _) ?_ h' c hb hc
  ·show ((List.toArray ks).zip vs.toArray).map (·.2)=_
   apply Array.toList_inj.mp;rw[Array.toList_map,Array.toList_zip];simp only[List.toList_toArray];rw[<- List.unzip_snd,List.unzip_zip_right (by lia)];apply List.ext_getElem?;intro i;rw[QD]
   by_cases hi:i<vs.length
   ·rw [Rr hi,QA hi]
    simp[hi]
   ·rw [QJ (by lia),QJ (by simpa using hi)]
    rfl
  ·match hv:vs.length,h2 with
   |0,_=>exact List.Pairwise.nil
   |1,_=>exact List.pairwise_singleton ..
 ·have hn:¬ vs.toArray.size < 2:=by rw [Zs]; exact h2
  rw[if_neg hn,if_neg hn];simp only[Y6,if_false];refine Zc (Ys (hkind (by lia) (λ κ s'=>κ=tuples' true/\s'=s) ⟨rfl,rfl⟩) (λ κ s0 hk'=>?_) λ _ _ x=>x.elim);obtain⟨rfl,rfl⟩:=hk'
  refine Zc (Ys (kat_run (Q:=λ st' s'=>s'=s0/\∃ p:Array Nat,p.size=vs.length/\arrOf st'=p.map (kas_item ((List.toArray ks).zip (List.toArray vs)))/\failedOf st'=none/\Pm vs.length r p/\Srt r p vs.length) (G:=λ p s'=>s'=s0/\Pm vs.length r p/\Srt r p vs.length)
   hl (by lia) h64 (λ p' st' s' a1 a2 a3 a4=>⟨a4.1,p',a1,a2,a3,a4.2⟩) ?_) ?_ λ _ _ x=>x)
  · exact kq.wp (P:=λ s'=>s'=s0) (λ i j C s' hi hj e hC=>by subst e;exact hlt i j hi hj C (hC _ rfl)) (λ p s' q e=>⟨e,q⟩) (CD inj (by lia)) rfl
  ·rintro ⟨⟨⟩,st'⟩ s' ⟨rfl,p,hp,har,hf,pm,srt⟩
   refine uT (kat_snds hl har) (by rw[Za,Y1,hp];exact h64) (by lia) hf hk ha ne λ h' c hb hc=>h p.toList pm.pm ?_ h' c hb hc
   rw[X2];intro i j hi hj hij;have hi':i<p.size:=by simpa using hi
   have hj':j<p.size:=by simpa using hj
   have q:=srt i j hij (by rw[<- hp];exact hj');have e1:p.getD i 0=p[i]:=by simp[Array.getD,hi']
   have e2:p.getD j 0=p[j]:=by simp[Array.getD,hj']
   unfold RR at q;rw[e1,e2]at q
   simpa using q
theorem CA {f} {e1} {kz} {P} (J:Nat->RD->Prop) (h64:vs.length < 64) (hz:kz.length=vs.length)
  (hcall:∀ i v k s',vs[i]?=some v->kz[i]?=some k->J i s'->wpAny (model prog w) A (call f [v]) (λ k' s''=>k'=k/\J i s'') (λ _ _=>False) s')
  (hpush:∀ i s',i<=vs.length->J i s'->∃ e,s'.heap.get? kS=some (seqObj "list" (List.toArray (kz.take i)) e)/\∀ h' c,Heap.SameBut kS s'.heap h'->h'.get? kS=some (seqObj "list" (List.toArray (kz.take (i+1))) c)->J (i+1) { s' with heap:=h' })
  (h0:J 0 s) (hend:∀ s' e,J vs.length s'->s'.heap.get? kS=some (seqObj "list" (List.toArray kz) e)->wpAny (model prog w) A (ksk_end a false vs.toArray e1 (.ref kS) (List.toArray kz)) P E s'):wpAny (model prog w) A (ksk_rest a f false vs.toArray e1 (.ref kS)) P E s:=by
 refine Zc (wpAny_rule ?_)
 first
  |rw[List.forIn_toArray]
  |(rw[<- Array.forIn_toList];simp only[List.toList_toArray])
  |rw[<- Array.forIn_toList]
 refine Zc (ksk_fold J vs 0 s h0 (λ j x s' hx hJ=>?_) λ s' hJ=>?_)
 ·rw [Rw] at hJ ⊢
  have hj:=(QB.mp hx).1;obtain⟨k,hk⟩:∃ k,kz[j]?=some k:=⟨_,QA (by lia)⟩
  refine Zc (wpAny_attempt (Ys (hcall j x k s' hx hk hJ) (λ k' s'' q=>?_) λ _ _ hF=>hF.elim));obtain⟨rfl,hJ2⟩:=q;obtain⟨e,g,hp⟩:=hpush j s'' (by lia) hJ2;have s1:=Xp s''.heap kS (Obj.mapSeq (·.push k'));have ea:(List.toArray (kz.take j)).push k'=List.toArray (kz.take (j+1)):=by rw[Yu,hk];simp
  obtain⟨c2,hc2⟩:∃ c2,(s''.heap.update kS (Obj.mapSeq (·.push k'))).get? kS=some (seqObj "list" (List.toArray (kz.take (j+1))) c2):=⟨_,by rw[<- ea];exact get?_update_seq g (·.push k')⟩
  have lz:(kz.take j).length<=64:=by rw[Yc];lia
  try dsimp only
  refine Zc (listUpdate_at g rfl ?_ (by rw[Zs,Yj];lia) (Zu (Xr (Array.size_push ..)) (by rw[Zs,Yj];lia)));exact Zw ⟨rfl,hp _ c2 s1 hc2⟩
 ·rw [Rw] at hJ
  obtain⟨e,g,_⟩:=hpush vs.length s' (Zo _) hJ;rw[List.take_of_length_le (by lia)]at g;try dsimp only
  refine Zc (listItems_at g rfl ?_);exact hend s' e hJ g
theorem CB {l} {q} {kz} {r:Nat->Int} {Q} (J:RB->RB->Nat->Nat->RD->Prop) (hl:s.heap.IsList l vs.toArray) (h64:vs.length < 64) (hz:kz.length=vs.length) (inj:∀ i j,i < vs.length->j < vs.length->r i=r j->i=j)
  (hcall:∀ a kS e1 i v k s',vs[i]?=some v->kz[i]?=some k->J a kS e1 i s'->wpAny (model prog w) A.in1.in1 (call (.ref q) [v]) (λ k' s''=>k'=k/\J a kS e1 i s'') (λ _ _=>False) s')
  (hpush:∀ a kS e1 i s',i<=vs.length->J a kS e1 i s'->s'.heap.get? a=some (seqObj "list" #[] e1)/\∃ e,s'.heap.get? kS=some (seqObj "list" (List.toArray (kz.take i)) e)/\∀ h' c,Heap.SameBut kS s'.heap h'->h'.get? kS=some (seqObj "list" (List.toArray (kz.take (i+1))) c)->J a kS e1 (i+1) { s' with heap:=h' })
  (h0:∀ a kS e1 h',s.heap.objs.size<=a->a<kS->(∀ b o,s.heap.get? b=some o->h'.get? b=some o)->h'.get? a=some (seqObj "list" #[] e1)->h'.get? kS=some (seqObj "list" #[] 0)->J a kS e1 0 { s with heap:=h' })
  (hkind:∀ a kS e1 s',J a kS e1 vs.length s'->2<=vs.length->∀ Q,Q (tuples' true) s'->wpAny (model prog w) A.in1.in1 (keyKind' (List.toArray kz)) Q (λ _ _=>False) s')
  (hlt:∀ a kS e1 s',J a kS e1 vs.length s'->∀ i j,i<vs.length->j<vs.length->∀ C,C (decide (r i<r j)) s'->wpAny (model prog w) A.in1.in1 (keyLt' (tuples' true) (kz.getD i Value.none) (kz.getD j Value.none)) C (λ _ _=>False) s')
  (h:∀ a kS e1 s',J a kS e1 vs.length s'->∀ p:Ry Nat,p.Perm (List.range vs.length)->p.Pairwise (λ i j=>r i<r j)->∀ h' c,(∀ b,b≠kS->b≠a->h'.get? b=s'.heap.get? b)->h'.get? a=some (seqObj "list" (List.toArray (p.map λ i=>vs.getD i Value.none)) c)->Q (.ref a) { s' with heap:=h' }):wpAny (model prog w) A (call (.builtin "sorted") [.ref l] [(Str.ofString "key",.ref q)]) Q E s:=by
 refine call_function_entry_kw kind_sorted plain_sorted entry_sorted (ksk_s1 _ _) ?_
 refine Zc (Zw ?_);refine Zc (collect_list hl ?_ (by rw[Yj];lia));refine Zc (wpAny_newList ?_ (by rw[Yj];lia))
 have hsz:((s.heap.push (seqObj "list" #[] 0)).update s.heap.objs.size (Obj.mapSeq (·++vs.toArray))).objs.size=s.heap.objs.size+1:=by
  rw[Heap.size_update,size_push']
 have hoL:(((s.heap.push (seqObj "list" #[] 0)).update s.heap.objs.size (Obj.mapSeq (·++vs.toArray))).push (seqObj "list" vs.toArray 0)).get? (s.heap.objs.size+1)=some (seqObj "list" vs.toArray 0):=by
  rw[<- hsz];exact QC _ rfl
 have keep:∀ b o,s.heap.get? b=some o->(((s.heap.push (seqObj "list" #[] 0)).update s.heap.objs.size (Obj.mapSeq (·++vs.toArray))).push (seqObj "list" vs.toArray 0)).get? b=some o:=λ b o q=>by
  have hlt:=Zr q;rw[Heap.get?_push_ne _ _ _ (by rw[hsz];exact Zx (Y2 hlt)),Heap.get?_update_ne _ _ _ _ (Zx hlt),Heap.get?_push_ne _ _ _ (Zx hlt)];exact q
 rw[hsz];generalize ((s.heap.push (seqObj "list" #[] 0)).update s.heap.objs.size (Obj.mapSeq (·++vs.toArray))).push (seqObj "list" vs.toArray 0)=h1 at hoL keep ⊢;refine Zc (Xg (wpAny_call_entry_kw slot_list_sort ⟨_,hoL,rfl⟩ entry_list_sort ?body (ksk_l1 _ _)))
 case body=>
  rw[ksk_t1];have la:s.heap.objs.size<=s.heap.objs.size+1:=Rf _;generalize s.heap.objs.size+1=a at hoL la ⊢;have ha:=Zr hoL;have s1:=Xp h1 a (Obj.mapSeq λ _=>(#[]:Array RA));obtain⟨e1,ho1⟩:∃ e1,(h1.update a (Obj.mapSeq λ _=>(#[]:Array RA))).get? a=some (seqObj "list" #[] e1):=⟨_,get?_update_seq hoL λ _=>#[]⟩
  refine Zc (listItems_at hoL rfl ?_);refine Zc (listUpdate_at hoL rfl ?_ (by rw[Zs,Yj];lia) (Z0 _));refine Zc (seqEpoch_at ho1 rfl ?_);refine Zc (wpAny_newTuple ?_ (by show vs.length<=_;rw[Yj];lia));refine Zc (wpAny_newList ?_ (Z0 _));refine Xg ?_
  have hkS:((h1.update a (Obj.mapSeq λ _=>(#[]:Array RA))).push (seqObj "tuple" vs.toArray 0)).objs.size=h1.objs.size+1:=by rw[size_push',Heap.size_update]
  have keep2:∀ b o,s.heap.get? b=some o->(((h1.update a (Obj.mapSeq λ _=>(#[]:Array RA))).push (seqObj "tuple" vs.toArray 0)).push (seqObj "list" #[] 0)).get? b=some o:=λ b o q=>by
   have hb:b≠a:=λ z=>absurd (Zr q) (by rw[z];exact Nat.not_lt.mpr la)
   exact My _ (My _ ((s1.2 b hb).trans (keep b o q)))
  have hal:a<((h1.update a (Obj.mapSeq λ _=>(#[]:Array RA))).push (seqObj "tuple" vs.toArray 0)).objs.size:=by rw[hkS];exact Y2 ha
  have J0:=h0 a _ e1 _ la hal keep2 (My _ (My _ ho1)) (QC _ rfl);generalize hK:((h1.update a (Obj.mapSeq λ _=>(#[]:Array RA))).push (seqObj "tuple" vs.toArray 0)).objs.size=kS at hal J0 ⊢;refine CA (J a kS e1) h64 hz (hcall a kS e1) (λ i s' hi hJ=>(hpush a kS e1 i s' hi hJ).2) J0 λ s' e hJ hk=>?_
  obtain⟨ga,_⟩:=hpush a kS e1 _ s' (Zo _) hJ;refine FZ hz h64 inj (hkind a kS e1 s' hJ) (hlt a kS e1 s' hJ) hk ga (Rv hal) λ p pm pw h' c hb hc=>?_
  exact⟨_,rfl,Zw ⟨_,rfl,h a kS e1 s' hJ p pm pw h' c hb hc⟩⟩
end
end L2
end
section
namespace L2
open PySem PySem.Spec PySem.W PySem.Calls PyProof.Rows
noncomputable def b2i(b:Bool):Int:=if b=true then 1 else 0
section
variable{prog:Program}{w:World}{A:Around}{E:RA->RD->Prop}{s:RD}{fin:Bool}{Q:Bool->RD->Prop}
theorem pS{u v}{d e}{as bs}(r1:Reads s.heap u d as)(r2:Reads s.heap v e bs)(c1:PyData.canLay0 d=true)(c2:PyData.canLay0 e=true)(hu:A.units+64<cLine)(hd:min d.depth e.depth<=64)(h:Q (PyData.eqv d e) s):wpAny (model prog w) A (eqBool u v) Q E s:=
 SeqAt.eqBoolOverData prog w A E s u v d e as bs Q r1 r2 c1 c2 (by lia) h
theorem lt_bool{a c}{Q}(h:Q (.bool (decide (b2i a<b2i c))) s):wpAny (model prog w) A (call (.builtin "int.__lt__") [.bool a,.bool c]) Q E s:=by
 refine Ws PySem.F.slot_bool_lt (Q2 s a) entry_int_lt ?_ (args_int_lt _ _)
 have e:decide (b2i a<b2i c)=(!a&&c):=by cases a<;>cases c<;>rfl
 rw[e]at h;cases a<;>cases c<;>exact Zw ⟨_,rfl,h⟩
theorem xk{a c}(h:Q (decide (b2i a<b2i c)) s):wpAny (model prog w) A (oneLt' true (.bool a) (.bool c)) Q E s:=by
 rw[oneLt'_eq];refine Zc (wpAny_cRoomFor_byValue rfl ?_);refine Zc (wpAny_callSpecialIfBound?_slot (Q2 s a) PySem.F.slot_bool_lt (lt_bool ?_));exact Yp h
theorem DD{a c}{r}(hu:A.units+64<cLine)(h1:a=c->KatLex prog w A true fin Q r 1 s)(h2:a≠c->Q (decide (b2i a<b2i c)) s):KatLex prog w A true fin Q ((.bool a,.bool c)::r) 0 s:=by
 refine kat_cons (pS (.bool a) (.bool c) rfl rfl hu (by show min 0 _<=64;lia) ?_);have e:PyData.eqv (.bool a) (.bool c)=decide (a=c):=by cases a<;>cases c<;>rfl
 rw[e]
 by_cases z:a=c
 · rw[Zk z];exact kat_yes (h1 z)
 · rw[Zp z];exact kat_no (xk (h2 z))
theorem pD{x y}{t u}{i}{r}(h1:x=y->KatLex prog w A true fin Q r (i+2) s)(h2:x≠y->Q (decide (x<y)) s):KatLex prog w A true fin Q ((.int x t,.int y u)::r) (i+1) s:=by
 refine kat_cons (wpAny_eqBool_int ?_)
 by_cases z:x=y
 · rw[show(x == y)=true by simpa using z];exact kat_yes (h1 z)
 ·rw [show (x == y)=false by simpa using z]
  refine kat_no ?_
  rw[show(true&&(i+1 == 0))=false by simp];exact kat_one _ _ (lt_int (h2 z))
theorem vX{l b}{x1 x2 y1 y2}{t1 t2 u1 u2}(hl:IsTup s.heap l #[.int x1 t1,.int x2 t2])(hb:IsTup s.heap b #[.int y1 u1,.int y2 u2])(hu:A.units+64<cLine)(h:Q (decide (x1=y1/\x2=y2)) s):wpAny (model prog w) A (eqBool (.ref l) (.ref b)) Q E s:=by
 have rd:∀{l:RB} {x1 x2:Int} {t1 t2:Tok},IsTup s.heap l #[.int x1 t1,.int x2 t2]->Reads s.heap (.ref l) (.tuple [.int x1,.int x2]) ([]++([]++[])):=λ{l x1 x2 t1 t2} h=>by
  obtain⟨o,ho,hc,n,hd⟩:=h;exact .tuple ho hc hd (.cons (.int _ _) (.cons (.int _ _) .nil))
 refine pS (rd hl) (rd hb) (by rfl) (by rfl) hu (Zu (Nat.min_le_left _ _) (by show(PyData.tuple [PyData.int x1,PyData.int x2]).depth<=64;simp[PyData.depth,PyData.depthAll])) ?_
 have e:PyData.eqv (.tuple [.int x1,.int x2]) (.tuple [.int y1,.int y2])=decide (x1=y1/\x2=y2):=by
  rw[Xn];simp[PyData.eqv,PyData.eqvAll]
 rw[e];exact h
theorem DC {l b} {x1 x2 y1 y2} {t1 t2 u1 u2} {i} {r} (hl:IsTup s.heap l #[.int x1 t1,.int x2 t2]) (hb:IsTup s.heap b #[.int y1 u1,.int y2 u2]) (hu:A.units+64 < cLine)
  (h1:x1=y1->x2=y2->KatLex prog w A true fin Q r (i+2) s) (h2:¬ (x1=y1/\x2=y2)->Q (HT.lexLt [x1,x2] [y1,y2]) s):KatLex prog w A true fin Q ((.ref l,.ref b)::r) (i+1) s:=by
 refine kat_cons (vX hl hb hu ?_)
 by_cases z:x1=y1/\x2=y2
 · rw[Zk z];exact kat_yes (h1 z.1 z.2)
 ·rw [Zp z]
  refine kat_no ?_
  rw[show(true&&(i+1 == 0))=false by simp];exact kat_one _ _ (HT.xC hl hb (.cons _ _ (.cons _ _ .nil)) (.cons _ _ (.cons _ _ .nil)) (by lia) (h2 z))
end
def Rk(K:RC)(H:Hp)(k:V)(ns:Ry Int):Prop:=∃ b pr b0 i1 i2 p0 p1 i4 i5,k=.ref b/\SqT K H b [.bl b0,.int i1,.int i2,.ref pr,.int i4,.int i5]/\SqT K H pr [.int p0,.int p1]/\ns=[b2i b0,i1,i2,p0,p1,i4,i5]
theorem Rk.same{K}{H H'}{k}{ns}(g:bM H H')(h:Rk K H k ns):Rk K H' k ns:=by
 obtain⟨b,pr,b0,i1,i2,p0,p1,i4,i5,e,h1,h2,e2⟩:=h;exact⟨b,pr,b0,i1,i2,p0,p1,i4,i5,e,g.tup h1,g.tup h2,e2⟩
theorem B4{a c}(h:b2i a=b2i c):a=c:=by cases a<;>cases c<;>first|rfl|(exfalso;revert h;decide)
theorem jH{x}{xs}{us}(h:bQ (x::xs) us):∃ u ys,us=u::ys/\RelV x u/\bQ xs ys:=by cases h with|cons a b=>exact⟨_,_,rfl,a,b⟩
def FJ{us}(h:bQ [] us):us=[]:=by cases h;rfl
theorem yv{us}{a b c d e f}(h:bQ [a,b,c,d,e,f] us):∃ x y z u v w,us=[x,y,z,u,v,w]/\RelV a x/\RelV b y/\RelV c z/\RelV d u/\RelV e v/\RelV f w:=by
 obtain⟨_,_,rfl,p,h⟩:=jH h;obtain⟨_,_,rfl,q,h⟩:=jH h;obtain⟨_,_,rfl,r,h⟩:=jH h;obtain⟨_,_,rfl,s,h⟩:=jH h;obtain⟨_,_,rfl,t,h⟩:=jH h;obtain⟨_,_,rfl,o,h⟩:=jH h;cases FJ h;exact⟨_,_,_,_,_,_,rfl,p,q,r,s,t,o⟩
theorem za{X}{Qv}{σ:L2.St}{H}{s}{k}{u}{ns}(I:Inv X Qv σ H s)(h:Rk X.K H k ns)(r:RelV k u):∃ b pr b0 i1 i2 p0 p1 i4 i5 t1 t2 t3 t4 t5 t6,u=.ref b/\IsTup s.heap b #[.bool b0,.int i1 t1,.int i2 t2,.ref pr,.int i4 t3,.int i5 t4]/\IsTup s.heap pr #[.int p0 t5,.int p1 t6]/\ns=[b2i b0,i1,i2,p0,p1,i4,i5]:=by
 obtain⟨b,pr,b0,i1,i2,p0,p1,i4,i5,rfl,h1,h2,e⟩:=h;obtain⟨its,rv,p,_⟩:=I.tuple h1;obtain⟨its2,rv2,p2,_⟩:=I.tuple h2;obtain⟨_,_,_,_,_,_,rfl,a0,a1,a2,a3,a4,a5⟩:=yv rv;obtain⟨t5,t6,rfl⟩:=rv2.ints2;obtain⟨t1,rfl⟩:=a1;obtain⟨t2,rfl⟩:=a2;obtain⟨t3,rfl⟩:=a4;obtain⟨t4,rfl⟩:=a5;cases(a0);cases(a3);exact⟨b,pr,b0,i1,i2,p0,p1,i4,i5,t1,t2,t3,t4,t5,t6,r,p,p2,e⟩
theorem MN {X} {Qv} {σ:L2.St} {H} {s} {A} {E} {k k'} {u u'} {ns ms} {C} (I:Inv X Qv σ H s) (hu:A.units+64 < cLine) (h1:Rk X.K H k ns) (h2:Rk X.K H k' ms) (r1:RelV k u) (r2:RelV k' u')
  (hC:C (HT.lexLt ns ms) s):wpAny (model X.prog X.w) A (keyLt' (tuples' true) u u') C E s:=by
 obtain⟨b,pr,b0,i1,i2,p0,p1,i4,i5,t1,t2,t3,t4,t5,t6,rfl,q1,q2,rfl⟩:=za I h1 r1;obtain⟨c,pr',c0,j1,j2,p0',p1',j4,j5,_,_,_,_,_,_,rfl,q3,q4,rfl⟩:=za I h2 r2;obtain⟨o,ho,hc,n,hd⟩:=q1;obtain⟨o',ho',hc',n',hd'⟩:=q3;refine kat_lt ho hd ho' hd' ?_
 refine DD hu (λ e=>?_) λ e=>?_
 ·subst e
  refine pD (λ e=>?_) λ e=>?_
  ·subst e
   refine pD (λ e=>?_) λ e=>?_
   ·subst e
    refine DC q2 q4 hu (λ e e'=>?_) λ e=>?_
    ·subst e e'
     refine pD (λ e=>?_) λ e=>?_
     ·subst e
      refine pD (λ e=>?_) λ e=>?_
      ·subst e
       refine kat_nil ?_
       simpa [HT.lexLt] using hC
      · simpa [HT.lexLt,e] using hC
     · simpa [HT.lexLt,e] using hC
    ·by_cases z:p0=p0'
     ·have z':p1≠p1':=λ y=>e ⟨z,y⟩
      simpa [HT.lexLt,z,z'] using hC
     · simpa [HT.lexLt,z] using hC
   · simpa [HT.lexLt,e] using hC
  · simpa [HT.lexLt,e] using hC
 ·have e':b2i b0≠b2i c0:=λ z=>e (B4 z)
  simpa [HT.lexLt,e'] using hC
theorem Gq{X}{Qv}{σ:L2.St}{H}{s}{A}{E}{C}(I:Inv X Qv σ H s){kz}{us}{rs}(h:Paired (Rk X.K H) kz rs)(r:bQ kz us)(h2:0<kz.length)(hC:C (tuples' true) s):wpAny (model X.prog X.w) A (keyKind' (List.toArray us)) C E s:=by
 have go:∀{kz:Ry V} {us:Ry RA} {rs:Ry (Ry Int)},Paired (Rk X.K H) kz rs->bQ kz us->∃ fs:Ry RA,fs.length=kz.length/\KatTups s.heap us fs/\∀ v ∈ fs,∃ b,v=.bool b:=λ{kz us rs} h=>by
  induction h generalizing us with
  |nil=>intro r;cases r;exact⟨[],rfl,.nil,λ v z=>absurd z Z3⟩
  |cons a _ ih=>
   intro r
   cases r with
   |cons r1 r=>
   obtain⟨fs,e1,e2,e3⟩:=ih r;obtain⟨b,pr,b0,i1,i2,p0,p1,i4,i5,t1,t2,t3,t4,t5,t6,rfl,⟨o,ho,hc,n,hd⟩,q2,_⟩:=za I a r1;exact⟨.bool b0::fs,Z6 (·+1) e1,.cons ho hc hd rfl e2,λ v z=>(Zi.mp z).elim (λ y=>⟨b0,y⟩) (e3 v)⟩
 obtain⟨fs,e1,e2,e3⟩:=go h r;refine kat_kind (T:=.type "bool") e2 (by lia) (λ v hv=>?_) (by rfl) hC;obtain⟨b,rfl⟩:=e3 v hv;exact .now
theorem JK{K}{H}{xs}{a b c d e f}(h:Rps K H xs [a,b,c,d,e,f]):∃ x y z u v w,xs=[x,y,z,u,v,w]/\Rp K H x a/\Rp K H y b/\Rp K H z c/\Rp K H u d/\Rp K H v e/\Rp K H w f:=by
 obtain⟨_,_,rfl,p,h⟩:=h.uc;obtain⟨_,_,rfl,q,h⟩:=h.uc;obtain⟨_,_,rfl,r,h⟩:=h.uc;obtain⟨_,_,rfl,s,h⟩:=h.uc;obtain⟨_,_,rfl,t⟩:=qr h;exact⟨_,_,_,_,_,_,rfl,p,q,r,s,t⟩
theorem JM{K}{H}{x}{a b c e f}{p q}(h:Rp K H x (.tup [a,b,c,.tup [.int p,.int q],e,f])):∃ n m x' y z v w,x=.ref n/\SqT K H n [x',y,z,.ref m,v,w]/\SqT K H m [.int p,.int q]/\Rp K H x' a/\Rp K H y b/\Rp K H z c/\Rp K H v e/\Rp K H w f:=by
 obtain⟨_,_,rfl,g,r⟩:=h.ut;obtain⟨_,_,_,_,_,_,rfl,h1,h2,h3,h4,h5,h6⟩:=JK r;obtain⟨_,_,rfl,g2,r2⟩:=h4.ut;obtain⟨_,_,rfl,k1,k2⟩:=qr r2;cases k1.ui;cases k2.ui
 exact⟨_,_,_,_,_,_,_,rfl,g,g2,h1,h2,h3,h5,h6⟩
def gI:D->Int|.int i=>i|_=>0
def gB:D->Bool|.bl i=>i|_=>true
def gTu:D->Ry D|.tup i=>i|_=>[]
end L2
end
section
namespace L2
open PySem PySem.Spec PySem.W PyProof.Rows
section
variable{X:Cx}{Qv:Ry (RB×Obj)}{σ:St}{H:Hp}{s:RD}{h':Heap}
def FnAt(q:RB)(ob:Obj):Heap->Prop:=λ h=>h.get? q=some ob
theorem Bd{Pr}{w}{h}{q}{ob}(e:h.get? q=some ob):dZ Pr w H h q (.ext (FnAt q ob)):=
 ⟨e,⟨ob,e⟩,λ _ _ z k=>k _ z⟩
end
theorem KQ {y:Str} {u:RA}:∀ {l:Ry (Str×RA)},(l.map (·.1)).Nodup->(y,u) ∈ l->l.lookup y=some u
 |[],_,m=>nomatch m
 |(z,v)::l,nd,m=>by
  rw[Zh,Z8]at nd;rw[Y0];rcases Zi.mp m with e|m
  ·injection e with e1 e2
   subst e1 e2;rw[beq_self_eq_true]
  ·have ne:(y == z)=false:=Yk.mpr λ e=>nd.1 (by rw [<- e]; exact Ye.mpr ⟨_,m,rfl⟩)
   rw[ne];exact KQ nd.2 m
noncomputable def HU (CX:CXT) (P:Program) (w:World) (K:RC) (mg:Str->Rz RA) (base:Heap) (N:Ry Str) (qual:Str) (scope:Scope) (q:RB) (cd:RA) (kB:Ry (Str×RB)) (A:Around) (outer:Ry Env) (s:RD) (H H0:Hp) (E:XK):Cx where
 prog:=P
 w:=w
 K:=K
 mg:=mg
 base:=base
 A:=A.deeper (envX qual scope s.heap.objs.size q cd kB)
 N:=N
 s₀:=s
 H₀:=H0
 env:=envX qual scope s.heap.objs.size q cd kB
 outer:=outer
 stack:=envX qual scope s.heap.objs.size q cd kB::outer
 ex:=[]
 calm:=true
 fn:=λ _=>false
 pn:=[]
 xe:=λ e s'=>wpAny (model P w) (A.deeper (envX qual scope s.heap.objs.size q cd kB)) (leaving (envX qual scope s.heap.objs.size q cd kB) e) (λ _ s''=>CX outer H s E e s'') (λ e' s''=>CX outer H s E e' s'') s'
abbrev fnE(qual:Str)(params:Arguments)(body:Expr)(scope:Scope)(kB:Ry (Str×RB))(pm:RA)(c':RA)(ctv:RA):FuncData:={ fnX "<lambda>" qual params [] scope kB .none .none .none pm none c' ctv with body:=.expr body }
abbrev L1(qual:Str)(params:Arguments)(body:Expr)(scope:Scope)(kB:Ry (Str×RB))(pm:RA)(c':RB)(ctv:RA):Obj:={ cls:=.type "function",data:=.func (fnE qual params body scope kB pm (.ref c') ctv) }
section
variable{M:Model}{A:Around}{E:RA->RD->Prop}{s:RD}{qual:Str}{params:Arguments}{body:Expr}{scope:Scope}{env:Env}{c P:RB}{ps:Array RA}{pos:Pos}{firstLine:Nat}{mg:Str->Rz RA}{kB:Ry (Str×RB)}{Q:RA->RD->Prop}
theorem Nw (hcl:closureFor scope env=pure kB) (hge0:env.globals=mainGlobals) (hg:s.heap.Ns mainGlobals mg) (hcode:env.code=.ref c) (C:CodeHd s.heap c P) (hP:s.heap.get? P=some (tabObj ps)) (ht:TriplesOk ps.toList)
  (hnf:codeAmong pos ps.toList=none) (hgP:mainGlobals≠P) (hb:s.heap.BuiltinsAt mg P)
  (h : ∀ c' ctv h' tk,Heap.ExtBut P s.heap h'->s.heap.objs.size<=c'->c'<h'.objs.size->h'.CodeRec (.ref c') qual->h'.get? P=some (tabObj (ps++#[rawInt pos.line,rawInt pos.col,.ref c']))->Q (.ref h'.objs.size) { s with heap:=h'.push (L1 qual params body scope kB ((mg "__name__").getD .none) c' ctv),toks:=tk }):wpAny M A (makeFunction "<lambda>" qual params (.expr body) scope env [] [] [] pos firstLine) Q E s:=by
 rw[makeFunction_eq];simp only[List.zip_nil_right,List.filterMap_nil,Q8,if_true,pure_bind];obtain⟨bm,ob,hbm,hne0,_,hneP,hbo,hcls,hdict,hdata⟩:=hb;unfold makeTail;rw[hcl,hge0];refine Zc (Zw ?_)
 cases kB with
 |nil=>
  simp only[Q8,if_true];refine Zc (Zw ?_);refine Zc (wpAny_functionCodeX hcode (C.code hP ht) (C.tab hP) hnf λ c' h' tk hx hge hlt _ hrec htb _=>?_);have hg':=hg.extBut hx hgP;refine Zc (wpAny_builtinsFor hg' hbm hne0 (hx _ _ hneP hbo) hcls hdict hdata ?_);refine Zc (wpAny_nsGet hg' ?_);exact Zc (Zw (Yw (h c' .none h' tk hx hge hlt hrec htb.2) (by size_fits)))
 |cons q r=>
  simp only[List.isEmpty_cons,Y6,if_false];refine Zc (wpAny_newTextTuple ?_);refine Zc (wpAny_functionCodeX hcode ((C.keeps λ b o e=>My _ e).code (My _ hP) ht) ((C.keeps λ b o e=>My _ e).tab (My _ hP)) hnf λ c' h' tk hx hge hlt _ hrec htb _=>?_);have hg':=(hg.push _).extBut hx hgP;have hx':Heap.ExtBut P s.heap h':=λ b o hb' e=>hx b o hb' (My _ e)
  have hge':s.heap.objs.size<=c':=Zu (by rw[Y8];lia) hge;refine Zc (wpAny_builtinsFor hg' hbm hne0 (hx' _ _ hneP hbo) hcls hdict hdata ?_);refine Zc (wpAny_nsGet hg' ?_);exact Zc (Zw (Yw (h c' _ h' tk hx' hge' hlt hrec htb.2) (by size_fits)))
theorem Kx {cv:RB} (hcl:closureFor scope env=pure kB) (hge0:env.globals=mainGlobals) (hg:s.heap.Ns mainGlobals mg) (hcode:env.code=.ref c) (C:CodeHd s.heap c P) (hP:s.heap.get? P=some (tabObj ps)) (ht:TriplesOk ps.toList)
  (hf:codeAmong pos ps.toList=some (.ref cv)) (hb:s.heap.BuiltinsAt mg P)
  (h : ∀(ctv:RA) (h':Heap) (tk:Tok),(∀ b o,s.heap.get? b=some o->h'.get? b=some o)->s.heap.objs.size<=h'.objs.size->Q (.ref h'.objs.size) { s with heap:=h'.push (L1 qual params body scope kB ((mg "__name__").getD .none) cv ctv),toks:=tk }):wpAny M A (makeFunction "<lambda>" qual params (.expr body) scope env [] [] [] pos firstLine) Q E s:=by
 rw[makeFunction_eq];simp only[List.zip_nil_right,List.filterMap_nil,Q8,if_true,pure_bind];obtain⟨bm,ob,hbm,hne0,_,hneP,hbo,hcls,hdict,hdata⟩:=hb;unfold makeTail;rw[hcl,hge0];refine Zc (Zw ?_)
 cases kB with
 |nil=>
  simp only[Q8,if_true];refine Zc (Zw ?_);refine Zc (wpAny_functionCode_hit hcode (C.code hP ht) hf ?_);refine Zc (wpAny_builtinsFor hg hbm hne0 hbo hcls hdict hdata ?_);refine Zc (wpAny_nsGet hg ?_);exact Zc (Zw (Yw (h .none s.heap s.toks (λ _ _ e=>e) (Zo _)) (by size_fits)))
 |cons q r=>
  simp only[List.isEmpty_cons,Y6,if_false];refine Zc (wpAny_newTextTuple ?_);refine Zc (wpAny_functionCode_hit hcode ((C.keeps λ b o e=>My _ e).code (My _ hP) ht) hf ?_);refine Zc (wpAny_builtinsFor (hg.push _) hbm hne0 (My _ hbo) hcls hdict hdata ?_);refine Zc (wpAny_nsGet (hg.push _) ?_);exact Zc (Zw (Yw (h _ _ s.toks (λ b o e=>My _ e) (by rw[Y8];lia)) (by size_fits)))
end
section
variable{X:Cx}{params:Arguments}{body:Expr}{scope:Scope}{pos:Pos}{c P:RB}{kB:Ry (Str×RB)}
abbrev DL(X:Cx)(params:Arguments)(body:Expr)(scope:Scope)(kB:Ry (Str×RB))(c':RB)(ctv:RA):Obj:=L1 (X.env.qual++"<lambda>") params body scope kB ((X.mg "__name__").getD Value.none) c' ctv
end
section
variable{prog:Program}{w:World}{A:Around}{s:RD}{R:Result->RD->Prop}
theorem Ea{e}{env}(h:wpAny (model prog w) (A.deeper env) (eval e env) (λ v s'=>R (.ok (.ret v)) s') (λ e s'=>wpAny (model prog w) (A.deeper env) (leaving env e) (λ _ s''=>R (.error e) s'') (λ e' s''=>R (.error e') s'') s') s):codeAny (model prog w) A (.expr e env) R s:=by
 refine codeAny_of_tree ?_
 show wpAny _ (A.deeper env) (do point;ret (<- (eval e env).onRaise (leaving env))) _ _ s;exact Zc (wpAny_point (Zc (wpAny_onRaise (Ys h (λ f s' h'=>Zw h') λ _ _ h'=>h'))))
theorem Ee {a} {args} {o} {fd} {body} (hroom:A.depth < recursionLimit)
  (ho:s.heap.get? a=some o)
  (hd':o.data=.func fd) (hco:fd.scope.isCoroutine=false) (hgen:fd.scope.isGenerator=false) (hbody:fd.body=.expr body) (hcd:s.heap.CodeRec fd.code fd.qualname)
  (h : wpAny (model prog w) A.in1 (bindArgs fd args) (λ binds s₁=>
    wpAny (model prog w) A.in1 (newFunctionEnv fd.scope fd.globals fd.closure binds (fd.qualname++".<locals>.") (some a) fd.code none fd.builtins)
     (λ env s₂=>s₂.heap.NoLimit/\codeAny (model prog w) A (.expr body env) R s₂) (λ e s'=>R (.error e) s') s₁) (λ e s'=>R (.error e) s') s):codeAny (model prog w) A (.call (.ref a) args) R s:=by
 refine codeAny_of_tree ?_
 show wpAny _ A.in1 (callAny (.ref a) args) _ _ s;simp only[callAny];refine Zc (wpAny_load ho ?_);obtain⟨c,oc,vs,tq,hc,hoc,hdc,hq⟩:=hcd;simp only[hd',callFunction,hco,hgen,hbody,hc];rw[hc]at h;refine Zc (m:=field (.ref c) 1) (wpAny_field hoc hdc hq (Zc (Zw ?_)))
 exact Zc (Ys h (λ binds s₁ h₁=>Zc (Ys h₁ (λ env s₂ h₂=>Zc (wpAny_enterFrame h₂.1 hroom
  (Zw (And.intro rfl h₂.2)))) λ _ _ h'=>h')) λ _ _ h'=>h')
end
section
variable{CX:CXT}{P:Program}{w:World}{K:RC}{mg:Str->Rz RA}{base:Heap}{N ps:Ry Str}{n1 n2 x qual:Str}{scope:Scope}{q c' c1 c2:RB}{kB:Ry (Str×RB)}{A:Around}{outer:Ry Env}{s:RD}{H:Hp}{E:XK}{us:Ry RA}{vs:Ry V}{v1 v2:V}{Q:VK}
structure lH (ps:List Str) (sc:Scope):Prop where
 kind:sc.kind=.function
 co:sc.isCoroutine=false
 gen:sc.isGenerator=false
 nd:ps.Nodup
 par:∀ x ∈ ps,sc.names.lookup x=some .local
 oi:∀ y ∈ sc.names,y.2≠.cell
 An:∀ y ∈ sc.names,y.2≠.free
theorem DN {h'} {tk} (S:lH ps scope) (hd:A.handled=none) (e0:Cj P w K mg base A outer s H)
  (hl:vs.length=ps.length) (r:bQ vs us) (hns:h'.Ns s.heap.objs.size λ y=>(ps.zip us).reverse.lookup y) (hk:∀ b u,s.heap.get? b=some u->h'.get? b=some u):Inv (HU CX P w K mg base ps qual scope q (.ref c') [] A outer s H H E) [] (vs.map some) H { s with heap:=h',toks:=tk }:=by
 have noA:∀ b:RB,b ∉ (HU CX P w K mg base ps qual scope q (.ref c') [] A outer s H H E).ex:=λ b z=>absurd (show b ∈ ([]:Ry RB) from z) (by simp)
 have no:∀{y:Str} {c:RB},([]:Ry (Str×RB)).lookup y=some c->False:=λ{y c} z=>by cases z
 refine⟨⟨e0.mod,S.kind,rfl,rfl,Zo _,λ y z c a b=>(no a).elim,λ y hy=>?_,λ y c z _=>absurd (show false=true from z) Zf,λ _=>hd,Around.frames_deeper e0.frames,.inr ⟨rfl,rfl⟩,λ b z=>absurd z (noA b),λ b o e=>⟨(e0.bs b o e).1,(e0.bs b o e).2⟩,e0.bsz,λ b _ _=>noA b,λ b z=>absurd z (noA b),e0.xG,λ b z=>e0.frf b z⟩,
  rfl,e0.bare,Un.kept hk,⟨_,hns,λ i y v a b z=>?_⟩,λ y c a=>(no a).elim,e0.hok.fresh (Zo _),λ y c a=>(no a).elim,λ p hp=>absurd (show p ∈ ([]:Ry (RB×Obj)) from hp) (by simp),e0.hok.kept hk,?_⟩
 ·have hy:scope.names.lookup y=some .cell\/scope.names.lookup y=some .free:=hy
  rcases hy with hy|hy
  · exact absurd rfl (S.oi _ (Yl hy))
  · exact absurd rfl (S.An _ (Yl hy))
 ·have a:ps[i]?=some y:=a
  rw[QD]at b
  cases e:vs[i]? with
  |none=>rw[e]at b;cases b
  |some v'=>
   rw[e]at b;cases b
   obtain⟨u,hu,rv⟩:=r.get e;have kl:=S.par y (QE a);refine⟨u,rv,.inl ⟨kl,?_⟩⟩;have lu:us.length=ps.length:=by rw[<- r.length,hl]
   refine KQ ?_ (List.mem_reverse.mpr ?_)
   ·rw [List.map_reverse,List.map_fst_zip (by lia)]
    exact List.pairwise_reverse.mpr (S.nd.imp λ h=>QH h)
   ·refine QE (i:=i) ?_
    rw[List.getElem?_zip_eq_some];exact⟨a,hu⟩
 ·show _=ps.length
  rw[Za,hl]
end
abbrev gtO(qual:Str)(pos:Pos):HO:=.frz (HD qual pos) (.tbl #[])
theorem wz {p p':Pos} (h1:p.line=p'.line) (h2:p.col=p'.col):∀ l:Ry RA,codeAmong p l=codeAmong p' l
 |[]=>rfl
 |[x]=>by cases x<;>rfl
 |[x,y]=>by cases x<;>cases y<;>rfl
 |x::y::c::r=>by
  have ih:=wz h1 h2 r
  cases x with
  |int i t=>cases y with
   |int j u=>show(if(i == p.line&&j == p.col)=true then some c else codeAmong p r)=(if(i == p'.line&&j == p'.col)=true then some c else codeAmong p' r);rw[h1,h2,ih]
   |_=>rfl
  |_=>rfl
theorem uN {c:RA} {i j:Int} {t u:Tok}:∀ {l:Ry RA},TriplesOk l->TriplesOk (l++[.int i t,.int j u,c])
 |[],_=>trivial
 |[x],h=>by cases x<;>exact h.elim
 |[x,y],h=>by cases x<;>first|exact h.elim|(cases y<;>exact h.elim)
 |x::y::z::r,h=>by
  cases x with
  |int _ _=>cases y with
   |int _ _=>exact uN (l:=r) h
   |_=>exact h.elim
  |_=>exact h.elim
theorem Ll{H}{h}{a}{qual}{pos}(x:Pa H h a (HD qual pos)):∃ tb,h.get? a=some (tabObj tb)/\TriplesOk tb.toList/\(codeAmong pos tb.toList=none\/∃ c,codeAmong pos tb.toList=some (.ref c)/\c≠a/\H c=some (.own a)/\h.CodeRec (.ref c) qual):=by
 obtain⟨q,p,tb,e,e1,e2,e3⟩:=x;injection e with e4 _ e5
 injection e4 with e6
 injection e5 with e7
 have e8:[Value.int (pos.line:Int) 0,.int (pos.col:Int) 0]=[.int (p.line:Int) 0,.int (p.col:Int) 0]:=by simpa using e7
 simp only[List.cons.injEq,Value.int.injEq,and_true]at e8;subst e6;have l1:p.line=pos.line:=by have:=e8.1;lia
 have l2:p.col=pos.col:=by have:=e8.2;lia
 rw[wz l1 l2]at e3;exact⟨tb,e1,e2,e3⟩
def Hd(H:Hp)(P b:RB):Prop:=b=P\/H b=some (.own P)
open Classical in
def hid(H:Hp)(P:RB):Hp:=λ b=>if Hd H P b then none else H b
open Classical in
def unh(H H2:Hp)(P:RB):Hp:=λ b=>if Hd H P b then H b else H2 b
section
variable{H H2:Hp}{P b:RB}{u:HO}{o:Obj}{ps:Array RA}
def rJ(h:Hd H P b):hid H P b=none:=if_pos h
def gG(h:¬ Hd H P b):hid H P b=H b:=if_neg h
def uM(h:Hd H P b):unh H H2 P b=H b:=if_pos h
def ka(h:¬ Hd H P b):unh H H2 P b=H2 b:=if_neg h
theorem DQ(e:hid H P b=some u):¬ Hd H P b/\H b=some u:=by
 by_cases h:Hd H P b
 · rw[rJ h]at e;cases e
 · rw[gG h]at e;exact⟨h,e⟩
theorem jo(e:H b=none):hid H P b=none:=by
 by_cases h:Hd H P b
 · exact rJ h
 · rw[gG h];exact e
theorem ma(hP:H P=some (.frz o (.tbl ps)))(e:H b=some u)(n1:∀ o ps,u≠.frz o (.tbl ps))(n2:u≠.own P):¬ Hd H P b:=by
 rintro (z|z)
 · rw[z,hP]at e;cases e;exact n1 _ _ rfl
 · rw[z]at e;cases e;exact n2 rfl
theorem G6(hP:H P=some (.frz o (.tbl ps)))(e:H b=none):¬ Hd H P b:=by
 rintro (z|z)
 · rw[z,hP]at e;cases e
 · rw[z]at e;cases e
theorem Hz{Pr}{w}{h}(x:HOk Pr w H h)(hP:H P=some (.frz o (.tbl ps))):HOk Pr w (hid H P) h:=λ b u e=>by
 obtain⟨n,e'⟩:=DQ e;refine(x b u e').qj (λ _ _ _ q=>q) (λ d q=>?_) λ d xs q=>?_
 · rw[gG (ma hP q (λ _ _ z=>nomatch z) λ z=>by cases z;exact n (.inl rfl))];exact q
 · rw[gG (ma hP q (λ _ _ z=>nomatch z) λ z=>nomatch z)];exact q
theorem Jg{fs}{h h'}(hP:H P=some (.frz o (.tbl ps)))(u:Un fs [] (hid H P) H2 h h'):Un fs [] H (unh H H2 P) h h':=by
 refine⟨λ b ob q n=>u.keep b ob q (jo n),λ b ob q n=>u.slot b ob q (jo n),λ b ob q n hx=>by rw[ka (G6 hP n)];exact u.free b ob q (jo n) hx,u.there,λ b xs q=>?_,λ b ob v q=>?_,λ b ps' q=>?_⟩
 ·have n:=ma hP q (λ _ _ z=>nomatch z) λ z=>nomatch z
  rw[ka n];exact u.Cb b xs ((gG n).trans q)
 ·by_cases n:Hd H P b
  · rw[uM n];exact q
  · rw[ka n];exact u.vN b ob v ((gG n).trans q)
 ·have n:=ma hP q (λ _ _ z=>nomatch z) λ z=>nomatch z
  rw[ka n];exact u.Cc b ps' ((gG n).trans q)
theorem Hy{Pr}{w}{fs}{h h'}(hP:H P=some (.frz o (.tbl ps)))(x:HOk Pr w H h)(nf:∀ b,H b≠none->b ∉ fs)(u:Un fs [] (hid H P) H2 h h')(x2:HOk Pr w H2 h'):HOk Pr w (unh H H2 P) h':=by
 have kp:∀{d:RB} {ob:Obj},Hd H P d->h.get? d=some ob->h'.get? d=some ob:=λ{d ob} hd e=>u.keep d ob e (rJ hd) (nf d (by rcases hd with z|z<;>rw[z]<;>first|(rw[hP];simp)|simp)) Z3
 have lv:∀{d:RB},Hd H P d->∃ ob,h.get? d=some ob:=λ{d} hd=>by
  rcases hd with rfl|z
  · obtain⟨_,_,_,_,e,_⟩:=x _ _ hP;exact⟨_,e⟩
  · exact x d _ z
 have fr:∀{d:RB},Hd H P d->H2 d=none:=λ{d} hd=>by
  obtain⟨ob,e⟩:=lv hd;exact u.free d ob e (rJ hd) Z3
 intro b v e
 by_cases hb:Hd H P b
 ·rw [uM hb] at e
  rcases hb with rfl|z
  ·rw [hP] at e
   cases e;obtain⟨q,p,tb,e1,e2,e3,e4⟩:=x _ _ hP;refine⟨q,p,tb,e1,kp (.inl rfl) e2,e3,e4.imp id ?_⟩
   rintro⟨c,q1,q2,q3,c1,oc,vc,tc,q4,q5,q6⟩
   cases q4;exact⟨c,q1,q2,(uM (.inr q3)).trans q3,c,oc,vc,tc,rfl,kp (.inr q3) q5,q6⟩
  ·rw [z] at e
   cases e;obtain⟨ob,e⟩:=lv (.inr z);exact⟨ob,kp (.inr z) e⟩
 ·rw [ka hb] at e
  refine(x2 b v e).qj (λ _ _ _ q=>q) (λ d q=>?_) λ d xs q=>?_
  · rw[ka λ z=>by rw[fr z]at q;cases q];exact q
  · rw[ka λ z=>by rw[fr z]at q;cases q];exact q
end
section
variable{X:Cx}{Qv:Ry (RB×Obj)}{σ:L2.St}{H:Hp}{s:RD}{P:RB}
def IA(X:Cx)(Qv:Ry (RB×Obj))(σ:L2.St)(H:Hp)(P:RB)(params:Arguments)(body:Expr)(scope:Scope)(v:RA)(s1:RD):Prop:=
 ∃ q c' ctv H1,v=.ref q/\Inv X Qv σ (upd H1 q (.ext (FnAt q (DL X params body scope [] c' ctv)))) s1/\bM H H1/\H1 c'=some (.own P)/\c'≠P/\H1 q=none/\s1.heap.CodeRec (.ref c') (X.env.qual++"<lambda>")
theorem DJ {params} {body} {scope} {pos} {c} (hcl:closureFor scope X.env=pure []) (hc:X.env.code=.ref c) (hC:CodeHd X.base c P) (hPg:mainGlobals≠P) (hB:X.base.BuiltinsAt X.mg P)
  (hd:params.defaults=[]:=by rfl) (hkd:params.kw_defaults=[]:=by rfl) (I:Inv X Qv σ H s) (hP:H P=some (gtO (X.env.qual++"<lambda>") pos)):wpAny (model X.prog X.w) X.A (eval (.Lambda params body scope pos) X.env) (IA X Qv σ H P params body scope) X.xe s:=by
 rw[arm_eval_Lambda,defaultsOf_eq,hd,hkd];refine Zc (Zw (Zc (Xg (Zw ?_))));have kb:∀ b o,X.base.get? b=some o->s.heap.get? b=some o:=λ b o e=>(I.bs b o e).1
 have hC':=hC.keeps kb
 have hB':s.heap.BuiltinsAt X.mg P:=by
  obtain⟨bm,o,e1,e2,e3,e4,e5,r⟩:=hB;exact⟨bm,o,e1,e2,e3,e4,kb _ _ e5,r⟩
 obtain⟨tb,t1,t2,t3⟩:=Ll (I.hok P _ hP);rcases t3 with t3|⟨c',t3,t4,t5,t6⟩
 ·refine Nw hcl I.ok.glob (by have:=I.mod.glob.keeps kb; exact this) hc hC' t1 t2 t3 hPg hB' λ c' ctv h' tk ext l1 l2 cr nP=>?_
  have nc:=I.hok.fresh l1;have ncP:c'≠P:=λ z=>by rw[z,hP]at nc;cases nc
  have ne:∀ b u,H b=some u->b≠c':=λ b u e z=>by rw[z,nc]at e;cases e
  have lt:∀{b:RB} {o:Obj},s.heap.get? b=some o->b≠c':=λ{b o} e z=>by
   have:=Zr e;rw[z]at this;exact absurd l1 (Nat.not_le.mpr this)
  have nPH:∀ b,H b=none->b≠P:=λ b e z=>by rw[z,hP]at e;cases e
  have u:Un X.fs [] H (upd H c' (.own P)) s.heap h':=by
   refine⟨λ b o e n _ _=>ext b o (nPH b n) e,λ b o e n _ _=>⟨o.slots,ext b o (nPH b n) e⟩,λ b o e n _=>by rw[ar (lt e)];exact n,λ b o e _=>?_,λ b xs e=>by rw[ar (ne b _ e)];exact e,λ b o v e=>by rw[ar (ne b _ e)];exact e,λ b ps e=>⟨#[],by rw[ar (ne b _ e),e];simp⟩⟩
   by_cases z:b=P
   · rw[z];exact⟨_,nP⟩
   · exact⟨o,ext b o z e⟩
  have ok:HOk X.prog X.w (upd H c' (.own P)) h':=λ b v e=>by
   by_cases zc:b=c'
   ·subst zc
    rw[ay]at e;cases e;obtain⟨c1,o,vs,t,e1,e2,_⟩:=cr;cases e1;exact⟨o,e2⟩
   ·rw [ar zc] at e
    by_cases zP:b=P
    ·subst zP
     rw[hP]at e;cases e;refine⟨_,pos,tb++#[rawInt (pos.line:Int),rawInt (pos.col:Int),.ref c'],rfl,nP,?_,.inr ⟨c',?_,ncP,ay,cr⟩⟩
     · rw[Ru];exact uN t2
     · rw[Ru];exact codeAmong_snoc _ t2 t3
    ·refine (I.hok b v e).qj (λ d ob hd q=>ext d ob ?_ q) (λ d q=>by rw [ar (ne d _ q)]; exact q) λ d xs q=>by rw [ar (ne d _ q)]; exact q
     rcases hd with rfl|hd
     · exact zP
     · intro z;rw[z,hP]at hd;cases hd
  have I1:=I.un (t':=tk) u ok;have I3:=I1.laid (h':=h'.push (DL X params body scope [] c' ctv)) (t':=tk) (λ b u e=>My _ e) (Zo _) (Bd (QC _ rfl));refine⟨_,c',ctv,upd H c' (.own P),rfl,I3,aF nc _,ay,ncP,I1.hok.fresh (Zo _),?_⟩;obtain⟨c1,o,vs,t,e1,e2,e3⟩:=cr;exact⟨c1,o,vs,t,e1,My _ e2,e3⟩
 ·refine Kx hcl I.ok.glob (by have:=I.mod.glob.keeps kb; exact this) hc hC' t1 t2 t3 hB' λ ctv h' tk ext sz=>?_
  have I1:=I.kept (t':=tk) ext;have I3:=I1.laid (a:=h'.objs.size) (o:=.ext (FnAt h'.objs.size (DL X params body scope [] c' ctv))) (h':=h'.push (DL X params body scope [] c' ctv)) (t':=tk) (λ b u e=>My _ e) (Zo _) (Bd (QC _ rfl));refine⟨_,c',ctv,H,rfl,I3,.refl _,t5,t4,I1.hok.fresh (Zo _),?_⟩;obtain⟨c1,o,vs,t,e1,e2,e3⟩:=t6;exact⟨c1,o,vs,t,e1,My _ (ext _ _ e2),e3⟩
end
section
variable{CX:CXT}{P:Program}{w:World}{K:RC}{mg:Str->Rz RA}{base:Heap}{ps:Ry Str}{qual:Str}{scope:Scope}{q c':RB}{A:Around}{outer:Ry Env}{s:RD}{H:Hp}{E:XK}{us:Ry RA}{vs:Ry V}{Q:VK}
theorem AK {k} {params} {body} {pm ctv} {args} (S:lH ps scope) (hr:cp (k+1) A) (e0:Cj P w K mg base A outer s H)
  (hq:H q=some (.ext (FnAt q (L1 qual params body scope [] pm c' ctv)))) (hcd:s.heap.CodeRec (.ref c') qual)
  (hb:BindsTo s (fnE qual params body scope [] pm (.ref c') ctv) args (ps.zip us)) (hl:vs.length=ps.length) (r:bQ vs us)
  (hbody:cp k (A.deeper (envX qual scope s.heap.objs.size q (.ref c') []))->∃ t,PE (HU CX P w K mg base ps qual scope q (.ref c') [] A outer s H H E) body t/\t (vs.map some) H Q):codeAny (model P w) A (.call (.ref q) args) (CR CX outer P w H s Q E) s:=by
 have lim:=e0.mod.nolimit.keeps λ b o e=>(e0.bs b o e).1
 have eq:=(e0.hok q _ hq).1;refine Ee hr.depth eq rfl S.co S.gen rfl hcd (hb _ _ _ _ ?_);refine wpAny_newFunctionEnv S.oi (λ y hy=>S.par y.1 (Rj hy).1) (λ h' hns hsb=>?_) S.kind
 have hk:∀ b u,s.heap.get? b=some u->h'.get? b=some u:=λ b u e=>by
  rw[hsb.2 b (Zx (Zr e))];exact My _ e
 refine⟨lim.keeps hk,Ea ?_⟩;have I:=DN (CX:=CX) (qual:=qual) (q:=q) (c':=c') (E:=E) (tk:=s.toks+(ps.zip us).length) S hr.hd e0 hl r hns hk;obtain⟨t,ht,hq'⟩:=hbody (hr.deeper _);refine Ys (ht [] _ _ _ _ I hq') (λ u s' ⟨v,H',J,rv,z⟩=>?_) λ e s' hs=>hs
 exact⟨v,H',J.os,J.bare,J.base,J.hok,rv,z⟩
end
theorem F3{K}{H}{P a}{o}{ps}{xs}(hP:H P=some (.frz o (.tbl ps)))(h:SqT K H a xs):SqT K (hid H P) a xs:=by
 rcases h with (h|⟨ob,h⟩)|h
 · exact .inl (.inl ((gG (ma hP h (λ _ _ z=>nomatch z) λ z=>nomatch z)).trans h))
 · exact .inl (.inr ⟨ob,(gG (ma hP h (λ _ _ z=>nomatch z) λ z=>nomatch z)).trans h⟩)
 · exact .inr h
section
variable{X:Cx}{Qv:Ry (RB×Obj)}{σ:L2.St}{H:Hp}{s:RD}{P:RB}{E:RA->RD->Prop}
theorem DK {y} {params} {scope} {pos p1 p2 p3} {q c' ax} {ctv} {k} {r} {ku} {kk} {A} (hA:A.frames=X.A.frames) (S:lH [y] scope) (hr:cp 1 A) (I:Inv X Qv σ H s) (hP:H P=some (gtO (X.env.qual++"<lambda>") pos)) (hc:H c'=some (.own P))
  (hq:H q=some (.ext (FnAt q (DL X params (.Subscript (.Name y p1) (.Constant (.int 0) kk p2) p3) scope [] c' ctv)))) (hcd:s.heap.CodeRec (.ref c') (X.env.qual++"<lambda>"))
  (hb:∀ s u,BindsTo s (fnE (X.env.qual++"<lambda>") params (.Subscript (.Name y p1) (.Constant (.int 0) kk p2) p3) scope [] ((X.mg "__name__").getD Value.none) (.ref c') ctv) ⟨[u],[]⟩ [(y,u)])
  (hx:SqT X.K H ax (k::r)) (hk:RelV k ku) (kr:∃ b,k=.ref b) (dy:(y == ("__debug__":Str))=false) (dc:(y == ("__classdict__":Str))=false):wpAny (model X.prog X.w) A (call (.ref q) [.ref ax]) (λ k' s'=>k'=ku/\∃ H',Inv X Qv σ H' s'/\bM H H'/\s'.heap.CodeRec (.ref c') (X.env.qual++"<lambda>")) E s:=by
 have e0:Cj X.prog X.w X.K X.mg X.base A X.stack s (hid H P):=⟨hA.trans I.ok.frames,I.ok.mod,λ b o e=>⟨(I.bs b o e).1,jo (I.bs b o e).2⟩,Zu I.ok.bsz I.sz,I.stack,λ b hb=>jo (I.oX b hb),Hz I.hok hP,I.bare⟩
 refine wpAny_call (codeAny_mono (AK (CX:=CX0) (E:=E0) (vs:=[.ref ax]) (Q:=λ v H2=>v=k/\bM (hid H P) H2) S hr e0 ((gG (ma hP hq (λ _ _ z=>nomatch z) λ z=>nomatch z)).trans hq) hcd (hb s _) rfl (.cons rfl .nil) λ hr'=>⟨tOp (MR X.K) (Mv 0) (tC (.int 0)),?_,?_⟩) λ rr s' hq'=>?_)
 · exact GN (ixT rfl) (iC rfl (.inl (S.par y (Zy.mpr rfl))) dy dc) EO λ _ _=>rfl
 · exact⟨_,rfl,ax,k::r,0,k,rfl,rfl,F3 hP hx,iW rfl,rfl,.refl _⟩
 ·cases rr with
  |error e=>exact False.elim hq'
  |ok fl=>
   cases fl with
   |ret v=>
    obtain⟨w',H2,os,bare,un,hok,rv,rfl,sm⟩:=hq';obtain⟨b,rfl⟩:=kr;cases rv;cases hk;have nf:∀ b,H b≠none->b ∉ frs X.stack:=λ b n z=>n (I.oX b z)
    obtain⟨c1,oc,vc,tc,e1,e2,e3⟩:=hcd;cases e1;have kc:=un.keep c' _ e2 (rJ (.inr hc)) (nf c' (by rw[hc];simp)) Z3
    obtain⟨v2,H3,I3,rv2,sm2⟩:=I.after (Q:=λ v H'=>bM H H') ⟨.ref b,unh H H2 P,os,bare,Jg hP un,Hy hP I.hok nf un hok,rfl,λ d u e=>by
     by_cases hd:Hd H P d
     · rw[uM hd];exact e
     · rw[ka hd];exact sm _ _ ((gG hd).trans e)⟩
    exact⟨rfl,H3,I3,sm2,c',oc,vc,tc,rfl,kc,e3⟩
   |next=>exact False.elim hq'
   |brk=>exact False.elim hq'
   |cont=>exact False.elim hq'
end
open Classical in
noncomputable def xi(d:D):Rz (Ry Int):=
 let g i:=(gTu ((gTu d).headD .non)).getD i .non
 let p i:=(gTu (g 3)).getD i .non
 if d=.tup (.tup [.bl (gB (g 0)),.int (gI (g 1)),.int (gI (g 2)),.tup [.int (gI (p 0)),.int (gI (p 1))],.int (gI (g 4)),.int (gI (g 5))]::(gTu d).tail) then some [b2i (gB (g 0)),gI (g 1),gI (g 2),gI (p 0),gI (p 1),gI (g 4),gI (g 5)] else none
theorem qx{d}{ns}(e:xi d=some ns):∃ b i j p q k l r,d=.tup (.tup [.bl b,.int i,.int j,.tup [.int p,.int q],.int k,.int l]::r)/\ns=[b2i b,i,j,p,q,k,l]:=by
 unfold xi at e;dsimp only at e
 split at e
 · exact⟨_,_,_,_,_,_,_,_,‹_›,(Zj e).symm⟩
 · cases e
def tz:Ry D->Rz (Ry (Ry Int))
 |[]=>some []
 |d::r=>(xi d).bind λ n=>(tz r).map (n::·)
def p9(rs:Ry (Ry Int))(i:Nat):Int:=((rs.filter λ x=>HT.lexLt x (rs.getD i [])).length:Int)
def ID(rs:Ry (Ry Int)):Ry Nat:=(List.range rs.length).mergeSort λ i j=>decide (p9 rs i<=p9 rs j)
def Jz(ds:Ry D):Rz (Ry D):=(tz ds).bind λ rs=>if ds.length<64/\rs.Nodup then some ((ID rs).map λ i=>ds.getD i .non) else none
def L8(px:DPx):DEm:=λ τ=>(px τ).bind λ p=>match a6 τ p.1 p.2 with
 |some (.n .l cs)=>(my cs).bind λ ds=>(Jz ds).map λ ds'=>(.mu false (lM ds'),τ)
 |_=>none
theorem qw:∀ {ds:Ry D} {rs:Ry (Ry Int)},tz ds=some rs->rs.length=ds.length
 |[],_,e=>by cases e;rfl
 |d::r,_,e=>by
  obtain⟨n,e1,e2⟩:=Ub e;obtain⟨rs,e3,rfl⟩:=Zm e2;exact Z6 (·+1) (qw e3)
theorem EJ:∀ {ds:Ry D} {rs:Ry (Ry Int)},tz ds=some rs->∀ r ∈ rs,r.length=7
 |[],_,e,r,h=>by cases e;exact absurd h Z3
 |d::q,_,e,r,h=>by
  obtain⟨n,e1,e2⟩:=Ub e;obtain⟨rs,e3,rfl⟩:=Zm e2;rcases Zi.mp h with rfl|h
  ·obtain ⟨_,_,_,_,_,_,_,_,_,rfl⟩:=qx e1
   rfl
  · exact EJ e3 r h
theorem tZ:∀ l:Ry Int,HT.lexLt l l=false
 |[]=>rfl
 |x::l=>by rw[HT.cx,if_pos rfl];exact tZ l
theorem lex_trans:∀ {a b c:Ry Int},a.length=b.length->b.length=c.length->HT.lexLt a b=true->HT.lexLt b c=true->HT.lexLt a c=true
 |[],[],[],_,_,h,_=>by cases h
 |x :: a,y::b,z::c,h1,h2,h3,h4=>by
  rw[HT.cx]at h3 h4 ⊢
  by_cases e1:x=y
  ·subst e1
   rw[if_pos rfl]at h3
   by_cases e2:x=z
   ·subst e2
    rw[if_pos rfl]at h4 ⊢;exact lex_trans (by simpa using h1) (by simpa using h2) h3 h4
   · rw[if_neg e2]at h4 ⊢;exact h4
  ·rw [if_neg e1] at h3
   have l1:=Z1 h3
   by_cases e2:y=z
   · subst e2;rw[if_neg e1];exact h3
   ·rw [if_neg e2] at h4
    have l2:=Z1 h4;rw[if_neg (by omega)];exact Zk (by omega)
theorem pC:∀ {a b:Ry Int},a.length=b.length->a≠b->HT.lexLt a b=true\/HT.lexLt b a=true
 |[],[],_,h=>absurd rfl h
 |x::a,y::b,h1,h=>by
  rw[HT.cx,HT.cx]
  by_cases e1:x=y
  ·subst e1
   rw[if_pos rfl,if_pos rfl];exact pC (by simpa using h1) λ z=>h (by rw[z])
  ·rw [if_neg e1,if_neg (QH e1)]
   rcases Int.lt_or_lt_of_ne e1 with q|q
   · exact .inl (Zk q)
   · exact .inr (Zk q)
theorem wq{rs}{n}(hs:∀ r ∈ rs,r.length=n){i j}(hi:i<rs.length)(hj:j<rs.length)(h:HT.lexLt (rs.getD i []) (rs.getD j [])=true):p9 rs i<p9 rs j:=by
 have ei:rs.getD i []=rs[i]:=by simp[hi]
 have ej:rs.getD j []=rs[j]:=by simp[hj]
 unfold p9;rw[ei,ej]at h ⊢
 have sub:∀(l:Ry (Ry Int)),(∀ r ∈ l,r.length=n)->(l.filter λ x=>HT.lexLt x rs[i]).length<=(l.filter λ x=>HT.lexLt x rs[j]).length/\(rs[i] ∈ l->(l.filter λ x=>HT.lexLt x rs[i]).length<(l.filter λ x=>HT.lexLt x rs[j]).length):=λ l=>by
  induction l with
  |nil=>exact λ _=>⟨Zo _,λ z=>absurd z Z3⟩
  |cons x l ih=>
   intro hl;obtain⟨a,b⟩:=ih λ r hr=>hl r (Zd _ hr)
   have lx:=hl x (Zg ..);have li:=hs rs[i] (Yt hi);have lj:=hs rs[j] (Yt hj)
   by_cases c:HT.lexLt x rs[i]=true
   ·have c':=lex_trans (lx.trans li.symm) (li.trans lj.symm) c h
    simp only[Xu,c,c',if_true,Z2];refine⟨Nat.succ_le_succ a,λ z=>?_⟩;rcases Zi.mp z with e|z
    · rw[<- e,tZ]at c;cases c
    · exact Nat.succ_lt_succ (b z)
   ·simp only [Xu,c,Y6,if_false]
    by_cases c2:HT.lexLt x rs[j]=true
    ·simp only [c2,if_true,Z2]
     exact⟨Nat.le_succ_of_le a,λ _=>Nat.lt_succ_of_le a⟩
    ·simp only [c2,Y6,if_false]
     refine⟨a,λ z=>?_⟩;rcases Zi.mp z with e|z
     · rw[<- e]at c2;exact absurd h c2
     · exact b z
 exact Int.ofNat_lt.mpr ((sub rs hs).2 (Yt hi))
theorem BK{rs}{n}(hs:∀ r ∈ rs,r.length=n)(nd:rs.Nodup){i j}(hi:i<rs.length)(hj:j<rs.length):decide (p9 rs i<p9 rs j)=HT.lexLt (rs.getD i []) (rs.getD j []):=by
 cases h:HT.lexLt (rs.getD i []) (rs.getD j []) with
 |true=>exact Zk (wq hs hi hj h)
 |false=>
  refine Zp λ c=>?_
  have ei:rs.getD i []=rs[i]:=by simp[hi]
  have ej:rs.getD j []=rs[j]:=by simp[hj]
  by_cases e:rs.getD i []=rs.getD j []
  ·have:p9 rs i=p9 rs j:=by unfold p9; rw [e]
   lia
  ·rcases pC (by rw [ei,ej,hs _ (Yt hi),hs _ (Yt hj)]) e with q | q
   · rw[h]at q;cases q
   · have:=wq hs hj hi q;lia
theorem uy{rs}{n}(hs:∀ r ∈ rs,r.length=n)(nd:rs.Nodup){i j}(hi:i<rs.length)(hj:j<rs.length)(e:p9 rs i=p9 rs j):i=j:=by
 have ei:rs.getD i []=rs[i]:=by simp[hi]
 have ej:rs.getD j []=rs[j]:=by simp[hj]
 by_cases q:rs.getD i []=rs.getD j []
 · rw[ei,ej]at q;exact(List.getElem_inj nd).mp q
 ·rcases pC (by rw [ei,ej,hs _ (Yt hi),hs _ (Yt hj)]) q with z | z
  · have:=wq hs hi hj z;lia
  · have:=wq hs hj hi z;lia
def fh rs:(ID rs).Perm (List.range rs.length):=Rt _ _
theorem Cz{rs}{n}(hs:∀ r ∈ rs,r.length=n)(nd:rs.Nodup){p}(pm:p.Perm (List.range rs.length))(pw:p.Pairwise λ i j=>p9 rs i<p9 rs j):p=ID rs:=by
 refine QS (λ a b ha hb h1 h2=>?_) (pw.imp λ h=>Zk (by lia)) (Wc (λ a b c h1 h2=>?_) (λ a b=>?_) _) (pm.trans (fh rs).symm)
 ·have h1:=Z1 h1
  have h2:=Z1 h2;exact uy hs nd (Y7.mp (pm.mem_iff.mp ha)) (Y7.mp ((fh rs).mem_iff.mp hb)) (by lia)
 ·have h1:=Z1 h1
  have h2:=Z1 h2;exact Zk (by lia)
 · rw[Bool.or_eq_true,Xz,Xz];lia
theorem F0{rs}{n}(hs:∀ r ∈ rs,r.length=n)(nd:rs.Nodup):(ID rs).Pairwise λ i j=>HT.lexLt (rs.getD i []) (rs.getD j [])=true:=by
 have h:=Wc (le:=λ i j=>decide (p9 rs i<=p9 rs j)) (λ a b c h1 h2=>by
  have h1:=Z1 h1;have h2:=Z1 h2
  exact Zk (by lia)) (λ a b=>by rw[Bool.or_eq_true,Xz,Xz];lia) (List.range rs.length)
 have nd2:=(fh rs).nodup_iff.mpr List.nodup_range;refine(List.Pairwise.and h nd2).imp_of_mem λ{i j} hi hj ⟨h1,h2⟩=>?_
 have hi':=Y7.mp ((fh rs).mem_iff.mp hi);have hj':=Y7.mp ((fh rs).mem_iff.mp hj);rw[<- BK hs nd hi' hj'];have h1:=Z1 h1;have:p9 rs i≠p9 rs j:=λ e=>h2 (uy hs nd hi' hj' e)
 exact Zk (by lia)
theorem MM{K}{H}{x}{d}{ns}(h:Rp K H x d)(e:xi d=some ns):∃ a k r,x=.ref a/\SqT K H a (k::r)/\Rk K H k ns:=by
 obtain⟨_,_,_,_,_,_,_,_,rfl,rfl⟩:=qx e;obtain⟨_,_,rfl,h,rr⟩:=h.ut;obtain⟨_,_,rfl,hk,_⟩:=rr.uc;obtain⟨_,_,_,_,_,_,_,rfl,hb,hp,q0,q1,q2,q4,q5⟩:=JM hk;cases q0.ub;cases q1.ui;cases q2.ui;cases q4.ui;cases q5.ui
 exact⟨_,_,_,rfl,h,_,_,_,_,_,_,_,_,_,rfl,hb,hp,rfl⟩
theorem EH {K:RC} {H:Hp}:∀ {xs:Ry V} {ds:Ry D} {rs:Ry (Ry Int)},Rps K H xs ds->tz ds=some rs->∃ kz:Ry V,kz.length=xs.length/\Paired (Rk K H) kz rs/\∀ (i:Nat) (x k:V),xs[i]?=some x->kz[i]?=some k->∃ a r,x=.ref a/\SqT K H a (k::r)
 |_,_,_,.nil,e=>by cases e;exact⟨[],rfl,.nil,λ i x k h=>by simp at h⟩
 |_,_,_,.cons h r,e=>by
  obtain⟨n,e1,e2⟩:=Ub e;obtain⟨rs,e3,rfl⟩:=Zm e2;obtain⟨kz,l,p,f⟩:=EH r e3;obtain⟨a,k,rr,rfl,q1,q2⟩:=MM h e1;refine⟨k::kz,Z6 (·+1) l,.cons q2 p,λ i x k' h1 h2=>?_⟩
  cases i with
  |zero=>simp at h1 h2;subst h1 h2;exact⟨a,rr,rfl,q1⟩
  |succ i=>exact f i x k' (by simpa using h1) (by simpa using h2)
theorem jN {α β:Type} {F:α->β->Prop}:∀ {l:Ry α} {m:Ry β} {i:Nat} {a:α} {b:β},Paired F l m->l[i]?=some a->m[i]?=some b->F a b
 |_,_,_,_,_,.nil,e,_=>by simp at e
 |_,_,0,_,_,.cons h _,e,e'=>by simp at e e';subst e e';exact h
 |_,_,i+1,_,_,.cons _ r,e,e'=>jN (i:=i) r (by simpa using e) (by simpa using e')
theorem uK:∀ {kz:Ry V},(∀ k ∈ kz,∃ b,k=.ref b)->bQ kz (kz.map λ k=>match k with | .ref b=>Value.ref b | _=>.none)
 |[],_=>.nil
 |k::kz,h=>by
  obtain⟨b,rfl⟩:=h k (Zg ..);exact .cons rfl (uK λ k hk=>h k (Zd _ hk))
theorem uW {K:RC} {H:Hp} {xs:Ry V} {ds:Ry D} (r:Rps K H xs ds):∀ {p:Ry Nat},(∀ i ∈ p,i < xs.length)->Rps K H (p.map λ i=>xs.getD i .non) (p.map λ i=>ds.getD i .non)
 |[],_=>.nil
 |i::p,h=>by
  have hi:=h i (Zg ..);obtain⟨d,e,q⟩:=r.get' (QA hi);refine .cons ?_ (uW r λ j hj=>h j (Zd _ hj))
  dsimp only;rw[QG,QA hi,QG,e];exact q
theorem qd {xs:Ry V} {us:Ry RA} (r:bQ xs us):∀ {p:Ry Nat},(∀ i ∈ p,i < xs.length)->bQ (p.map λ i=>xs.getD i .non) (p.map λ i=>us.getD i Value.none)
 |[],_=>.nil
 |i::p,h=>by
  have hi:=h i (Zg ..);obtain⟨u,e,q⟩:=r.get (QA hi);refine .cons ?_ (qd r λ j hj=>h j (Zd _ hj))
  dsimp only;rw[QG,QA hi,QG,e];exact q
section
variable{X:Cx}{e:Expr}{px:DPx}{P c:RB}{y:Str}{params:Arguments}{scope:Scope}{lpos p p1 p2 p3 kp pos:Pos}{kk:Nat}
structure LP (X:Cx) (P:Addr) (y:Str) (params:Arguments) (scope:Scope) (body:Expr) (lpos:Pos):Prop where
 cl:closureFor scope X.env=pure []
 code:∃ c,X.env.code=.ref c/\∀ h:Heap,X.K.In h->CodeHd h c P
 pg:mainGlobals≠P
 bi:∀ h:Heap,X.K.In h->h.BuiltinsAt X.mg P
 df:params.defaults=[]
 kd:params.kw_defaults=[]
 sc:lH [y] scope
 bd:∀ c' ctv s u,BindsTo s (fnE (X.env.qual++"<lambda>") params body scope [] ((X.mg "__name__").getD Value.none) (.ref c') ctv) ⟨[u],[]⟩ [(y,u)]
 h0:X.H₀ P=some (gtO (X.env.qual++"<lambda>") lpos)
 dy:(y == ("__debug__":Str))=false
 dc:(y == ("__classdict__":Str))=false
theorem JW (L:LP X P y params scope (.Subscript (.Name y p1) (.Constant (.int 0) kk p2) p3) lpos) (hr:cp 3 X.A) (hg:Gl X "sorted") (hm:X.mg "sorted"=none) (ho:PXm X e px)
  (hst:Se X e []:=by rfl) (hb:backTo pos (starEach [e] X.env)=(false,eval e X.env)::backTo pos (starEach [] X.env):=by rfl) (Q0:(backTo pos (starEach [e] X.env)).any (·.1)=false:=by rfl):PEm X (.Call (.Name "sorted" p) [e] [⟨some "key",.Lambda params (.Subscript (.Name y p1) (.Constant (.int 0) kk p2) p3) scope lpos,kp⟩] pos) (L8 px):=by
 intro Qv s σ H Q I w0;obtain⟨Hs0,H0,nf,ρ,Hs,τ,sl,τ',r,ee,k⟩:=w0;obtain⟨⟨i,q⟩,e1,ee⟩:=Ub ee;split at ee
 ·rename_i cs en
  obtain⟨ds,e2,ee⟩:=Ub ee;obtain⟨ds',e3,ee⟩:=Zm ee;cases ee;refine Xb (mB I hg hm boot_sorted ?_ (by decide) (by decide));refine callWith_kw ?_ hb Q0 rfl rfl;refine thn (be ho dB hst pos Qv s σ H (λ vs H1=>∃ a xs,vs=[.ref a]/\bM H H1/\H1 a=some (.lst xs)/\Rps X.K Hs xs ds) I ⟨Hs0,H0,nf,ρ,Hs,τ,i,q,_,r,e1,en,λ rt v1 H1 g1 hrt hq=>?_⟩) λ us s1 ⟨vs,H1,I1,rv,a,xs,ev,g1,ha,rr⟩=>?_
  ·obtain ⟨fp,st⟩:=(r.grow g1).st
   obtain⟨b,m,em,eg⟩:=cY en;obtain⟨v',fp1,v1',w1,w2,w3,_⟩:=st.uJ em eg;rw[hrt]at w1;cases w1;rw[hq]at w2;cases w2;obtain⟨a,dx,ts,u,rfl,rfl,rfl,hu,hl,nh,ku,nd,ro⟩:=w3.inv;rw[t7 hl]at hu;exact⟨_,_,rfl,g1,hu,om e2 ro⟩
  ·subst ev
   obtain⟨u1,rfl,ru1⟩:=vals1 rv;cases(ru1);have hP1:=I1.base.vN _ _ _ L.h0;obtain⟨c,hc1,hc2⟩:=L.code;refine wpAny_evalAll_cons (Zc (thn (DJ L.cl hc1 (hc2 _ I1.ok.mod.kin) L.pg (L.bi _ I1.ok.mod.kin) L.df L.kd I1 hP1) λ qv s2 ⟨q2,c',ctv,H2,eq,I2,g2,oc,ncP,nq,cr⟩=>Zc (wpAny_standAt (Zw (wpAny_evalAll_nil ?_)))));subst eq;have g2':bM H2 (upd H2 q2 (.ext (FnAt q2 (DL X params (.Subscript (.Name y p1) (.Constant (.int 0) kk p2) p3) scope [] c' ctv)))):=aF nq _;have hq2:(upd H2 q2 (.ext (FnAt q2 (DL X params (.Subscript (.Name y p1) (.Constant (.int 0) kk p2) p3) scope [] c' ctv)))) q2=some (.ext (FnAt q2 (DL X params (.Subscript (.Name y p1) (.Constant (.int 0) kk p2) p3) scope [] c' ctv))):=ay;generalize upd H2 q2 (.ext (FnAt q2 (DL X params (.Subscript (.Name y p1) (.Constant (.int 0) kk p2) p3) scope [] c' ctv)))=H3 at I2 g2' hq2;have g3:=g2.trans g2';have hP3:=g3 _ _ hP1;have oc3:=g2' _ _ oc;have gs3:=(r.sm.trans g1).trans g3;obtain⟨rs,e4,e5⟩:=Ub e3;split at e5
   ·rename_i hz
    have e5':=Zj e5;obtain⟨its,rvv,pl,hsz⟩:=I2.list (SqL.of (g3 _ _ ha));obtain⟨kz,lk,pk,fk⟩:=EH rr e4;have lxd:=rr.length;have lrs:=qw e4;have lit:=rvv.length
    have kref:∀ k ∈ kz,∃ b,k=.ref b:=λ k hk=>by
     obtain⟨i,hi,ei⟩:=List.getElem_of_mem hk;obtain⟨b,_,_,_,_,_,_,_,_,eb,_⟩:=jN pk (QA hi) (QA (by lia:i<rs.length));exact⟨b,ei ▸ eb⟩
    have vk:=uK kref;generalize (kz.map λ k=>match k with|.ref b=>Value.ref b|_=>.none)=kus at vk;have lku:=vk.length;have h7:=EJ e4;have iu:∀{A:Around},A=X.A.in1.in1->A.units+64<cLine:=λ{A} e=>by subst e;have:=hr.un;show X.A.units+1+1+64<cLine;lia
    have gd:∀{s':RD} {H':Hp} {pl:Ry (RB×Obj)},Inv X pl σ H' s'->bM H3 H'->∀ i,i<its.length->∃ k ku,kz[i]?=some k/\kus[i]?=some ku/\RelV k ku/\Rk X.K H' k (rs.getD i []):=λ{s' H' pl} I' g' i hi=>by
     have h1:i<kz.length:=by lia
     have h2:i<rs.length:=by lia
     obtain⟨ku,e1,rk⟩:=vk.get (QA h1);have q:=jN pk (QA h1) (QA h2);refine⟨_,ku,QA h1,e1,rk,?_⟩;rw[QG,QA h2];exact(q.same gs3).same g'
    refine CB (kz:=kus) (J:=λ a' kS e1 n s'=>∃ ek H',Inv X (Qv++[(a',seqObj "list" #[] e1),(kS,seqObj "list" (List.toArray (kus.take n)) ek)]) σ H' s'/\bM H3 H'/\s'.heap.CodeRec (.ref c') (X.env.qual++"<lambda>")/\sZ X Qv H3 a'/\sZ X Qv H3 kS/\a'≠kS)
     pl.isList (by lia) (by lia) (λ i j hi hj e=>uy h7 hz.2 (by lia) (by lia) e) ?call ?push ?init ?kind ?lt ?fin
    case call=>
     rintro a' kS e1 i v ku s' hv hk ⟨ek,H',I',g',cr',f1,f2,ne⟩
     have hi:i<xs.length:=by have:=(QB.mp hv).1;lia
     obtain⟨u',eu,ru⟩:=rvv.get (QA hi);rw[hv]at eu;cases eu;obtain⟨k,ku',q1,q2,q3,q4⟩:=gd I' g' i (by lia);rw[hk]at q2;cases q2;obtain⟨ax,rx,ex,hx⟩:=fk i _ k (QA hi) q1;rw[ex]at ru;cases(ru);refine Ys (DK rfl L.sc (hr.in1.in1.mono (by lia)) I' (g' _ _ hP3) (g' _ _ oc3) (g' _ _ hq2) cr' (L.bd c' ctv) ((gs3.tup hx |> g'.tup)) q3 (kref k (QE q1)) L.dy L.dc) (λ k' s'' z=>?_) λ _ _ z=>z
     obtain⟨z1,H'',I'',g'',cr''⟩:=z;exact⟨z1,ek,H'',I'',g'.trans g'',cr'',f1,f2,ne⟩
    case push=>
     rintro a' kS e1 i s' hi ⟨ek,H',I',g',cr',f1,f2,ne⟩
     obtain⟨pa,na,la,fa,da⟩:=I'.pin (a',seqObj "list" #[] e1) (by simp);obtain⟨pk',nk,lk',fk',dk⟩:=I'.pin (kS,seqObj "list" (List.toArray (kus.take i)) ek) (by simp);refine⟨pa,ek,pk',λ h' c sb hc=>⟨c,H',?_,g',?_,f1,f2,ne⟩⟩
     ·have I0:=I'.jd
      obtain⟨_,k1,k2,k3,k4,k5⟩:=f2;have I1:=I0.turned (t':=s'.toks) (λ b o hb e=>(sb.2 b hb).trans e) nk k1 k3 k4 k5;refine I1.iN λ p hp=>?_
      rcases Zl.mp hp with hp|hp
      · exact I1.pin p (Ze _ hp)
      ·simp only [Zi,Z3,Wm] at hp
       rcases hp with rfl|rfl
       · exact⟨(sb.2 a' ne).trans pa,na,la,fa,da⟩
       · exact⟨hc,nk,lk',fk',λ v z=>by cases z⟩
     ·obtain ⟨c1,o1,v1,t1,z1,z2,z3⟩:=cr'
      cases z1;exact⟨c',o1,v1,t1,rfl,(sb.2 c' λ z=>by rw[z]at oc3;have:=g' _ _ oc3;rw[nk]at this;cases this).trans z2,z3⟩
    case init=>
     intro a' kS e1 h' la lt kp ga gk;have fa:=I2.hok.fresh la;have lk':=Zu la (Yo lt);have fk':=I2.hok.fresh lk';have F1:=I2.yt la fa;have F2:=I2.yt lk' fk';have I3:=I2.kept (t':=s2.toks) kp;refine⟨0,H3,?_,.refl _,?_,F1,F2,Zx lt⟩
     ·refine I3.iN λ p hp=>?_
      rcases Zl.mp hp with hp|hp
      · exact I3.pin p (Ze _ hp)
      ·simp only [Zi,Z3,Wm] at hp
       rcases hp with rfl|rfl
       · exact⟨ga,fa,F1.2.1,F1.2.2.1,λ v z=>by cases z⟩
       · exact⟨gk,fk',F2.2.1,F2.2.2.1,λ v z=>by cases z⟩
     ·obtain ⟨c1,o1,v1,t1,z1,z2,z3⟩:=cr
      exact⟨c1,o1,v1,t1,z1,kp _ _ z2,z3⟩
    case kind=>
     rintro a' kS e1 s' ⟨ek,H',I',g',cr',f1,f2,ne⟩ h2 C hC
     exact Gq I' (Paired.L0 pk λ k n q=>(q.same gs3).same g') vk (by lia) hC
    case lt=>
     rintro a' kS e1 s' ⟨ek,H',I',g',cr',f1,f2,ne⟩ i j hi hj C hC
     obtain⟨k1,u1,a1,a2,a3,a4⟩:=gd I' g' i hi;obtain⟨k2,u2,b1,b2,b3,b4⟩:=gd I' g' j hj;rw[QG,a2,QG,b2];refine MN I' (iu rfl) a4 b4 a3 b3 ?_
     rw[<- BK h7 hz.2 (by lia) (by lia)];exact hC
    case fin=>
     rintro a' kS e1 s' ⟨ek,H',I',g',cr',f1,f2,ne⟩ p pm pw h' c hb' hc'
     obtain⟨pa,na,la,fa,da⟩:=I'.pin (a',seqObj "list" #[] e1) (by simp);obtain⟨pk',nk,lk',fk',dk⟩:=I'.pin (kS,seqObj "list" (List.toArray (kus.take its.length)) ek) (by simp);have pm':p.Perm (List.range rs.length):=by rw[lrs,<- lxd,lit];exact pm
     have ep:=Cz h7 hz.2 pm' pw;have hp:∀ i ∈ p,i<xs.length:=λ i hi=>by have:=Y7.mp (pm.mem_iff.mp hi);lia
     have vy:=qd rvv hp;have ry:=uW rr hp;have ey:p.map (λ i=>ds.getD i D.non)=ds':=by rw[ep];exact e5'
     rw[ey]at ry;generalize (p.map λ i=>xs.getD i V.non)=ys at vy ry;have I0:=I'.jd;have ly:ys.length<=sizeLine:=by rw[vy.length,Za,pm.length_eq,List.length_range,Yj];lia
     have neH:∀ b u,H' b=some u->b≠a'/\b≠kS:=λ b u e=>⟨(λ z=>by rw[z,na]at e;cases e),(λ z=>by rw[z,nk]at e;cases e)⟩
     have un:Un (frs X.stack) [kS,a'] H' (upd H' a' (.lst ys)) s'.heap h':=by
      have sp:∀{b:RB},b ∉ [kS,a']->b≠kS/\b≠a':=λ{b} z=>⟨λ y=>z (by simp[y]),λ y=>z (by simp[y])⟩
      refine⟨λ b o e n _ hx=>(hb' b (sp hx).1 (sp hx).2).trans e,λ b o e n _ hx=>⟨o.slots,(hb' b (sp hx).1 (sp hx).2).trans e⟩,λ b o e n hx=>by rw[ar (sp hx).2];exact n,λ b o e hx=>⟨o,(hb' b (sp hx).1 (sp hx).2).trans e⟩,λ b xs e=>by rw[ar (neH b _ e).1];exact e,λ b o u e=>by rw[ar (neH b _ e).1];exact e,λ b ps e=>⟨#[],by rw[ar (neH b _ e).1,e];simp⟩⟩
     have ok:HOk X.prog X.w (upd H' a' (.lst ys)) h':=λ b u e=>by
      by_cases z:b=a'
      ·subst z
       rw[ay]at e;cases e;exact⟨ly,_,c,vy,hc'⟩
      ·rw [ar z] at e
       refine(I0.hok b u e).qj (λ d ob hd q=>?_) (λ d q=>by rw[ar (neH d _ q).1];exact q) λ d xs q=>by rw[ar (neH d _ q).1];exact q
       have dd:d≠a'/\d≠kS:=by
        rcases hd with rfl|hd
        · exact neH _ _ e
        · exact neH _ _ hd
       exact(hb' d dd.2 dd.1).trans q
     have If:=I0.call (h':=h') (d':=s'.drawn) (t':=s'.toks) un ok I0.bare (λ b hb=>by
      simp only[Zi,Z3,Wm]at hb;rcases hb with rfl|rfl
      · exact⟨f2.2.2.2.1,f2.2.1,f2.2.2.2.2.1,f2.2.2.2.2.2⟩
      · exact⟨f1.2.2.2.1,f1.2.1,f1.2.2.2.2.1,f1.2.2.2.2.2⟩)
     have sa:bM H (upd H' a' (.lst ys)):=((g1.trans g3).trans g').trans (aF na _);have Hn:=((g1.trans g3).trans g').free na;exact⟨.ref a',_,If,rfl,k _ Hs _ (r.Gy sa (Od.lst ay (r.sm.free Hn) ry) λ c hc=>by rw[Zy.mp hc];exact Hn)⟩
   · cases e5
 · cases ee
end
abbrev Amb(P:RB)(q:Str)(p:Pos):Hp->Prop:=λ H=>H P=some (gtO q p)
section
variable{X:Cx}{P:RB}{q:Str}{p:Pos}
theorem PE.amb{e}{t t'}(hP:Amb P q p X.H₀)(h:PE X e t')(hi:∀ σ H Q,Amb P q p H->t σ H Q->t' σ H Q):PE X e t:=λ Qv s σ H Q I w=>h Qv s σ H Q I (hi σ H Q (I.base.vN _ _ _ hP) w)
theorem uY{K}{g}{σ}{H}{R}(h:rdA K g σ H R):rdA K g σ H λ vs H1=>bM H H1/\R vs H1:=by
 obtain⟨H0,Hs,τ,fp,ds,st,sm,e,k⟩:=h;exact⟨H0,Hs,τ,fp,ds,st,sm,e,λ vs Hs' H' g r=>⟨g.hh,k vs Hs' H' g r⟩⟩
theorem uZ{K}{g}{σ}{H}{R R'}(h:rdA K g σ H R)(hi:∀ vs H1,R vs H1->R' vs H1):rdA K g σ H R':=by
 obtain⟨H0,Hs,τ,fp,ds,st,sm,e,k⟩:=h;exact⟨H0,Hs,τ,fp,ds,st,sm,e,λ vs Hs' H' g r=>hi _ _ (k vs Hs' H' g r)⟩
variable{F:Ry D->Rz Sl}{k jj:Nat}{x:Str}{e:Expr}{es:Ry Expr}{g:DA}{p' pos:Pos}
theorem ip(Fo:Go X.prog X.w X.K X.mg X.base k x (spT (Amb P q p) (spF F X.K)))(hP:Amb P q p X.H₀)(hr:cp jj X.A)(ha:Bx (PAd X (e::es) g))(hj:k<=jj:=by decide)(hg:Gl X x:=by rfl)(hdb:Dg x:=by decide)(he:Se X e es:=by rfl)(hpl:Sb X pos es:=by rfl):Bx (PEd X (.Call (.Name x p') (e::es) [] pos) (dFn F g)):=by
 have⟨f',fd',ps',hm,hk,hb,Fo⟩:=Fo.go;exact⟨PE.amb hP (iO Fo (hr.mono hj) hg hm hk hb .nil jf ha.out hdb he hpl) λ σ H Q eP h=>uZ (uY (Bc X.K h)) λ vs H1 z=>⟨z.1 _ _ eP,z.2⟩⟩
theorem oB(Fo:Go X.prog X.w X.K X.mg X.base k x (spT (Amb P q p) (spF F X.K)))(hP:Amb P q p X.H₀)(hr:cp jj X.A)(ha:Bx (PAd X (e::es) g))(hj:k<=jj:=by decide)(hg:Gl X x:=by rfl)(hdb:Dg x:=by decide)(he:Se X e es:=by rfl)(hpl:Sb X pos es:=by rfl):Bx (PEo X (.Call (.Name x p') (e::es) [] pos) (Fq F g)):=by
 have⟨f',fd',ps',hm,hk,hb,Fo⟩:=Fo.go;exact⟨PE.amb hP (iO Fo (hr.mono hj) hg hm hk hb .nil jf ha.out hdb he hpl) λ σ H Q eP h=>uZ (uY (Bb X.K h)) λ vs H1 z=>⟨z.1 _ _ eP,z.2⟩⟩
end
noncomputable def HG(F:Ry Sm->Rz (Sm×Ry Sm)):Ry D->Rz Sl:=λ ds=>match F (ds.map .shr) with
 |some (.shr d,_)=>some (.shr d)
 |some (.mu false m,_)=>match m with
  |.n .d cs=>some (.own (.dct (lD cs)))
  |.n .l cs=>some (.own (.lst (DX cs)))
  |_=>none
 |_=>none
theorem oW {K:RC} {H0 Hs H:Hp}:∀ {vs:Ry V} {ds:Ry D},Rps K Hs vs ds->StM K H0 Hs H (iB vs) (vs.map some) (ds.map .shr) []
 |_,_,.nil=>.nil
 |_,_,.cons h r=>.shr h (oW r)
def B7(Hs H:Hp)(fp:Ry RB):Hp:=λ b=>if b ∈ fp then H b else Hs b
theorem EV{K}{Hs H Hs'}{fp}{v}{m}(h:Od K Hs H fp v m)(g:bM Hs Hs'):(∀ b ∈ fp,Hs' b=H b)->Rp K Hs' v (frz m):=by
 induction h with
 |s r=>exact λ _=>r.same g
 |@n a dx t ts u h hl nh ku nd r ih=>
  intro q;have ih':∀ c ∈ ts,Rp K Hs' c.v (frz c.m):=λ c hc=>ih c hc λ b hb=>q b (Zd _ (Yh.mpr ⟨c,hc,hb⟩))
  have ha:=(q a (Zg ..)).trans h;generalize ek:ts.map Kd.kv=kvs at hl
  cases hl with
  |l=>exact .lst ha (by rw[<- ek];exact uX ih')
  |d=>exact .dct ha (by rw[<- ek];exact qt ih')
  |o fs=>exact .obj ha (yZ ek ih')
theorem JA{F}{K}{vs}{H}{Q}{E}(h:spF (HG F) K vs H Q E):spM F K vs H Q E:=by
 obtain⟨Hs,ds,s,sm,r,e,k⟩:=h;unfold HG at e;have o0:off H []=H:=funext λ c=>iQ Z3
 split at e
 ·rename_i d as' ef
  cases e;refine⟨Hs,[],ds.map .shr,_,_,sm,oW r,ef,λ v Hs' H' fp' g st=>?_⟩;rw[o0]at g st
  cases st with
  |shr h _=>exact k v Hs' H' g h
 ·rename_i m as' ef
  have fin:∀{t:Tg} {cs:Ry (Key×Mt)} {d:D},(t=.d/\d=.dct (lD cs))\/(t=.l/\d=.lst (DX cs))->F (ds.map .shr)=some (.mu false (.n t cs),as')->(∀ v Hs' H',Ext Hs H Hs' H'->SlV K H Hs' H' v (.own d)->Q v H')->spM F K vs H Q E:=λ{t cs d} ht ef k=>by
   refine⟨Hs,[],ds.map .shr,_,_,sm,oW r,ef,λ v Hs' H' fp' g st=>?_⟩;rw[o0]at g st
   cases st with
   |@mu _ _ _ _ _ _ _ fq fp od hp z j st=>
   obtain⟨a,dx,ts,u,rfl,rfl,rfl,ha,hl,nh,ku,nd,ro⟩:=od.inv;have nd':=Z8.mp nd
   have ex:Ext Hs H (B7 Hs' H' (ts.flatMap Kd.fp)) H':=by
    refine⟨λ b o e=>?_,λ b o e=>?_,g.hh,λ b e1 e2=>?_⟩
    ·unfold B7
     split
     · exact g.sh _ _ (g.ss _ _ e)
     · exact g.ss _ _ e
    ·unfold B7 at e
     split at e
     · exact e
     · exact g.sh _ _ e
    ·unfold B7
     split
     · rename_i hb;exact absurd (z b (Zd _ hb)) e2
     · exact g.fr b e1 e2
   have s2:bM Hs' (B7 Hs' H' (ts.flatMap Kd.fp)):=λ b o e=>by
    unfold B7;split
    · exact g.sh _ _ e
    · exact e
   have ih':∀ c ∈ ts,Rp K (B7 Hs' H' (ts.flatMap Kd.fp)) c.v (frz c.m):=λ c hc=>EV (ro c hc) s2 λ b hb=>if_pos (Yh.mpr ⟨c,hc,hb⟩)
   have na:B7 Hs' H' (ts.flatMap Kd.fp) a=none:=(if_neg nd'.1).trans nh;refine k _ _ H' ex ?_
   rcases ht with ⟨rfl,rfl⟩|⟨rfl,rfl⟩
   ·rw [pF hl] at ha
    exact⟨a,rfl,.dct ha na (qt ih'),z a (Zg ..)⟩
   ·rw [t7 hl] at ha
    exact⟨a,rfl,.lst ha na (by have:=uX ih';rw[Yb]at this;exact this),z a (Zg ..)⟩
  split at e
  ·rename_i cs ef'
   cases e;exact fin (.inl ⟨rfl,rfl⟩) ef k
  ·rename_i cs ef'
   cases e;exact fin (.inr ⟨rfl,rfl⟩) ef k
  · cases e
 · cases e
theorem Go.frz{P}{w}{K}{mg}{base}{k}{x}{Am}{F}(h:Go P w K mg base k x (spT Am (spM F K))):Go P w K mg base k x (spT Am (spF (HG F) K)):=by
 have⟨f,fd,ps,hm,hk,hb,Fo⟩:=h.go;exact⟨f,fd,ps,hm,hk,hb,Fo.imp λ vs H Q E z=>⟨z.1,JA z.2⟩⟩
structure DfC (K:W.Frag) (mg:Str->Option Value) (x:Str) (st:Stmt) (ps:List Str) (Pt:Addr):Prop where
 ex:∃ a d c,Fun K x x st a d/\mg x=some (.ref a)/\Binds K d ps []/\d.code=.ref c/\(∀ h:Heap,K.In h->CodeHd h c Pt)
 pg:mainGlobals≠Pt
 bl:∀ h:Heap,K.In h->h.BuiltinsAt mg Pt
section
variable{P:Program}{w:World}{K:RC}{mg:Str->Rz RA}{base:Heap}{k:Nat}{x:Str}{st:Stmt}{ps:Ry Str}{Pt:RB}{q:Str}{p:Pos}
theorem Fun.okC {f c} {fd} {N} {sp} (F:Fun K x x st f fd) (hc:fd.code=.ref c) (S:cB N ps (aG st)) (len:∀ vs H Q E,sp vs H Q E->vs.length=ps.length)
  (hbody:∀ A outer s H vs Q E,cp k (A.deeper (envOfC x (aG st) s.heap.objs.size f (.ref c)))->sp vs H Q E->∃ t,PSs (wm CX0 P w K mg base N x (aG st) f (.ref c) A outer s H E).nox (bh st) t/\t { nx:=λ _ H'=>Q .non H',rt:=Q } (start N vs) H):ir P w K mg base CX0 (k+1) f fd ps sp:=by
 obtain⟨oc,od,kV,doc,pm,an,cdv,ct,osl,rfl,lk,hcd⟩:=F.ex;have e:=hc;subst e;refine Lu lk hcd S len λ A outer s H vs Q E hr hsp=>?_
 obtain⟨t,h,q⟩:=hbody A outer s H vs Q E hr hsp;exact⟨t,h.nox,q⟩
theorem oMC N {b} (D:DfC K mg x st ps Pt)
  (h:∀{c} {A} {outer} {s} {H} {E} {f},(∀ h,K.In h->CodeHd h c Pt)->Amb Pt q p H->cp k (A.deeper (envOfC x (aG st) s.heap.objs.size f (.ref c)))->N.Nodup->Bx (uH (wm CX0 P w K mg base N x (aG st) f (.ref c) A outer s H E).nox (bh st) b))
  (S:cB N ps (aG st):=by walk_at "s"):Go P w K mg base (k+1) x (spT (Amb Pt q p) (spM (iA N.length ps.length b) K)):=
 have⟨a,d,c,F,m,bi,hc,hC⟩:=D.ex
 ⟨a,d,ps,m,F.kp,bi,F.okC hc S (λ vs H Q E h=>OY h.2) λ A outer s H vs Q E hr z=>⟨_,(h hC z.1 hr S.nd).out,LI z.2⟩⟩
abbrev Pb(Am:Hp->Prop)(P:Program)(w:World)(K:RC)(mg:Str->Rz RA)(base:Heap)(k:Nat)(q:Str)(st:Stmt)(N:Ry Str)(J:Cx->Ry Stmt->Prop):Prop:=∀{cdv:RA} {A:Around} {outer:Ry Env} {s:RD} {H:Hp} {E:XK} {f:RB},Am H->cp k (A.deeper (envOfC q (aG st) s.heap.objs.size f cdv))->N.Nodup->Bx (J (wm CX0 P w K mg base N q (aG st) f cdv A outer s H E).nox (bh st))
theorem oDT{Am} N {b} (D:Df K mg x st ps) (h:Pb Am P w K mg base k x st N λ X b'=>yn X b' b) (S:cB N ps (aG st):=by walk_at "s"):Go P w K mg base (k+1) x (spT Am (spF (cH N.length ps.length b) K)):=
 have⟨a,d,F,m,bi⟩:=D
 ⟨a,d,ps,m,F.kp,bi,F.OU Am S λ cdv A outer s H E am hr=>(h am hr S.nd).out⟩
theorem oMT{Am} N {b} (D:Df K mg x st ps) (h:Pb Am P w K mg base k x st N λ X b'=>uH X b' b) (S:cB N ps (aG st):=by walk_at "s"):Go P w K mg base (k+1) x (spT Am (spM (iA N.length ps.length b) K)):=
 have⟨a,d,F,m,bi⟩:=D
 ⟨a,d,ps,m,F.kp,bi,F.M7 Am S λ cdv A outer s H E am hr=>(h am hr S.nd).out⟩
end
section
variable{X:Cx}{e:Expr}{px:DPx}{P:RB}{y:Str}{params:Arguments}{scope:Scope}{lpos p p1 p2 p3 kp pos:Pos}{kk jj:Nat}
theorem Eh (L:LP X P y params scope (.Subscript (.Name y p1) (.Constant (.int 0) kk p2) p3) lpos) (hr:cp jj X.A) (hm:X.mg "sorted"=none) (ho:Bx (PXm X e px)) (hj:3<=jj:=by decide) (hg:Gl X "sorted":=by rfl)
 (hst:Se X e []:=by rfl) (hb:backTo pos (starEach [e] X.env)=(false,eval e X.env)::backTo pos (starEach [] X.env):=by rfl) (Q0:(backTo pos (starEach [e] X.env)).any (·.1)=false:=by rfl):Bx (PEm X (.Call (.Name "sorted" p) [e] [⟨some "key",.Lambda params (.Subscript (.Name y p1) (.Constant (.int 0) kk p2) p3) scope lpos,kp⟩] pos) (L8 px)):=⟨JW L (hr.mono hj) hg hm ho.out hst hb Q0⟩
end
def O6(K:RC)(H0 Hs H:Hp)(v1 v2:V)(x:Sm×Sm):Prop:=∃ m1 m2 fq1 fq2,x=(.mu false m1,.mu false m2)/\Od K Hs H fq1 v1 m1/\Od K Hs H fq2 v2 m2/\(∀ c ∈ fq1,H0 c=none)/\(∀ c ∈ fq2,H0 c=none)/\∀ c ∈ fq1,c ∉ fq2
abbrev DS2:=Ry Sm->Rz (Sm×Sm)
noncomputable def rd2(N:Hp)(K:RC)(b:DS2):TS:=λ E σ H=>∃(Hs0 H0:Hp),∃(_:Nf N H0),∃ ρ Hs τ x,b7 K Hs0 H0 ρ Hs H σ τ/\b τ=some x/\∀ a v1 v2 Hs' H',Ext Hs0 H0 Hs' H'->H' a=some (.tup [v1,v2])->O6 K H0 Hs' H' v1 v2 x->E.rt (.ref a) H'
def PS2(X:Cx)(s:Ry Stmt)(b:DS2):Prop:=PSs X s (rd2 X.H₀ X.K b)
def IE(f:DSm)(g:DS2):DS2:=λ τ=>match f τ with
 |some (.next τ')=>g τ'
 |_=>none
def OO(i j:Nat):DS2:=λ τ=>match τ[i]?,τ[j]? with
 |some (.mu _ m1),some (.mu _ m2)=>if i≠j then some (.mu false m1,.mu false m2) else none
 |_,_=>none
section
variable{X:Cx}{i j:Nat}{x y:Str}{p1 p2 pt pr:Pos}{kk:Nat}
theorem fm{s}{ss}{f}{g}(h1:Bx (PSm X s f))(h2:Bx (PS2 X ss g)):Bx (PS2 X (s::ss) (IE f g)):=
 ⟨(ia h1.out h2.out).imp λ E σ H w=>by
   obtain⟨Hs0,H0,nf,ρ,Hs,τ,x,r,e,k⟩:=w;unfold IE at e;split at e
   ·rename_i τ' ef
    exact⟨Hs0,H0,nf,ρ,Hs,τ,_,r,ef,λ σ' Hs' H' r'=>⟨Hs0,H0,nf,ρ,Hs',τ',x,r',e,k⟩⟩
   · cases e⟩
theorem BQ i j (hi:X.N[i]?=some x:=by exact rfl) (hj:X.N[j]?=some y:=by exact rfl) (vx:Vis X.env.scope x:=by walk_at "w") (vy:Vis X.env.scope y:=by walk_at "w") (d1:Dg x:=by decide) (d2:Dc x:=by decide) (d3:Dg y:=by decide) (d4:Dc y:=by decide):Bx (PS2 X [.Return (some (.Tuple [.Name x p1,.Name y p2] kk pt)) pr] (OO i j)):=
 ⟨(iM (lR (vg (be (iC hi vx d1 d2) (be (iC hj vy d3 d4) dB))))).imp λ E σ H w=>by
   obtain⟨Hs0,H0,nf,ρ,Hs,τ,z,r,e,k⟩:=w;unfold OO at e;split at e
   ·rename_i b1 m1 b2 m2 e1 e2
    split at e
    ·rename_i ne
     cases e;obtain⟨fp,st⟩:=r.st;obtain⟨v1,fq1,fp1,o1,o2,o3,o4,o5⟩:=st.out e1;obtain⟨v2,fq2,fp2,q1,q2,q3,q4,q5⟩:=o3.out (by rw[Rc ne];exact e2);refine⟨v1,o1,v2,q1,by rw[Yj];exact(by decide:2<=16777216),λ p hp=>?_⟩;have sm:=aF hp (.tup [v1,v2])
     have mv:∀{fq:Ry RB},(∀ c ∈ fq,c ∈ fp)->∀ b ∈ fq,Hs b=none/\upd H p (.tup [v1,v2]) b=H b:=λ{fq} sub b hb=>by
      obtain⟨l1,l2,_⟩:=st.live b (sub b hb);exact⟨l1,ar λ z=>l2 (z ▸ hp)⟩
     have s1:∀ c ∈ fq1,c ∈ fp:=λ c hc=>(o4 c hc).2
     have s2:∀ c ∈ fq2,c ∈ fp:=λ c hc=>(o5 c).mpr (.inr (q4 c hc).2)
     exact k p v1 v2 Hs _ (r.grow sm).ext ay ⟨m1,m2,fq1,fq2,rfl,o2.mv (.refl _) (mv s1),q2.mv (.refl _) (mv s2),λ c hc=>(st.live c (s1 c hc)).2.2,λ c hc=>(st.live c (s2 c hc)).2.2,λ c hc hc'=>(o4 c hc).1 (q4 c hc').2⟩
    · cases e
   · cases e⟩
end
def sp2(F:Ry D->Rz (Sm×Sm))(K:RC):Sp:=λ vs H Q _=>∃ Hs ds x,bM Hs H/\Rps K Hs vs ds/\F ds=some x/\∀ a v1 v2 Hs' H',Ext Hs H Hs' H'->H' a=some (.tup [v1,v2])->O6 K H Hs' H' v1 v2 x->Q (.ref a) H'
def II(n m:Nat)(b:DS2)(ds:Ry D):Rz (Sm×Sm):=if ds.length=m then b (ds.map .shr++List.replicate (n - ds.length) .no) else none
theorem o2{P}{w}{K}{mg}{base}{k}{x}{st}{ps} N {b} (D:Df K mg x st ps) (h:Bdy P w K mg base k x st N λ X b'=>PS2 X b' b) (S:cB N ps (aG st):=by walk_at "s"):Go P w K mg base (k+1) x (sp2 (II N.length ps.length b) K):=by
 obtain⟨a,d,F,m,bi⟩:=D;refine⟨a,d,ps,m,F.kp,bi,F.ok S (λ vs H Q E h=>?_) λ cdv A outer s H vs Q E hr z=>⟨_,(h hr S.nd).out,?_⟩⟩
 ·obtain ⟨Hs,ds,x,sm,r,e,_⟩:=h
  unfold II at e;split at e
  · rw[r.length];assumption
  · cases e
 ·obtain ⟨Hs,ds,x,sm,r,e,q⟩:=z
  unfold II at e;split at e
  ·have lv:=r.length
   exact⟨Hs,H,λ d o u e=>gu e,_,Hs,_,x,⟨.refl sm,[],by unfold start;rw[lv];exact(oW r).startM _⟩,e,q⟩
  · cases e
def F9(i j:Nat)(F:Ry D->Rz (Sm×Sm))(g:DA):DSm:=λ τ=>(g (er τ)).bind λ ds=>(F ds).bind λ x=>if i≠j/\i<τ.length/\j<τ.length then some (.next ((τ.set i x.1).set j x.2)) else none
section
variable{X:Cx}{e:Expr}{es:Ry Expr}{x y z:Str}{p1 p2 pt pf pos spos:Pos}{kk k jj:Nat}{F:Ry D->Rz (Sm×Sm)}{g:DA}
theorem xY i j (Fo:Go X.prog X.w X.K X.mg X.base k z (sp2 F X.K)) (hr:cp jj X.A) (hN:X.N.Nodup) (ha:Bx (PAd X (e::es) g)) (hj:k<=jj:=by decide) (hi:X.N[i]?=some x:=by exact rfl) (hj':X.N[j]?=some y:=by exact rfl) (lx:Loc X.env.scope x:=by walk_at "v") (ly:Loc X.env.scope y:=by walk_at "v") (hc:X.calm=true:=by rfl)
  (hg:Gl X z:=by rfl) (hdb:Dg z:=by decide) (he:Se X e es:=by rfl) (hpl:Sb X pos es:=by rfl)
  (hfx:X.fn x=true\/X.env.scope.names.lookup x=some .local:=by walk_at "v") (hfy:X.fn y=true\/X.env.scope.names.lookup y=some .local:=by walk_at "v")
  (hs:swapsWithSole [.Tuple [.Name x p1,.Name y p2] kk pt] (.Call (.Name z pf) (e::es) [] pos) spos.line X.env=pure false:=by rfl) (hw:swappedStores [.Tuple [.Name x p1,.Name y p2] kk pt] (.Call (.Name z pf) (e::es) [] pos) X.env=pure none:=by rfl)
  (h1:(assignEach [.Tuple [.Name x p1,.Name y p2] kk pt] X.env).map (·.2)=[assign (.Tuple [.Name x p1,.Name y p2] kk pt) X.env]:=by rfl):Bx (PSm X (.Assign [.Tuple [.Name x p1,.Name y p2] kk pt] (.Call (.Name z pf) (e::es) [] pos) spos) (F9 i j F g)):=by
 obtain⟨f',fd',ps',hm,hk,hb,Fo⟩:=Fo.go
 exact⟨(EM (iO Fo (hr.mono hj) hg hm hk hb .nil jf ha.out hdb he hpl) (zt hc (lr (lU hN hi lx hfx) (lr (lU hN hj' ly hfy) tJ))) hs hw h1).imp λ E σ H w0=>g73 w0 λ Hs0 H0 nf ρ Hs τ o r e k=>by
  obtain⟨ds,e1,e2⟩:=Ub e;obtain⟨x,e3,e4⟩:=Ub e2;split at e4
  ·rename_i hz
   obtain⟨ne,li,lj⟩:=hz;cases e4;obtain⟨fp,st⟩:=r.st;refine⟨H0,Hs,er τ,[],ds,st.er,r.sm,e1,λ vs Hs1 H1 g1 r1=>?_⟩;refine⟨Hs1,ds,x,g1.sh,by rw[Zz];exact r1,e3,λ a v1 v2 Hs2 H2 g2 ht tw=>?_⟩;obtain⟨m1,m2,fq1,fq2,rfl,od1,od2,z1,z2,dj⟩:=tw;have gg:=g1.trans g2;have rr:=r.ext' gg;have s2:=st.ext gg;have fr:∀{c:RB},H1 c=none->H0 c=none/\c ∉ fp:=λ{c} hc=>⟨r.old (g1.hh.free hc),st.new (g1.hh.free hc)⟩
   obtain⟨fpa,sa,suba⟩:=s2.setM od1 (λ c hc=>fr (z1 c hc)) li;obtain⟨fpb,sb,_⟩:=sa.setM od2 (λ c hc=>⟨(fr (z2 c hc)).1,λ q=>(suba c q).elim (λ q=>dj c q hc) (fr (z2 c hc)).2⟩) (by rw[Wh];exact lj);refine⟨a,[v1,v2],rfl,SqT.of ht,rfl,v1,[v2],rfl,?_⟩;refine⟨v2,[],rfl,?_⟩;exact⟨rfl,k _ Hs2 H2 ⟨rr.ext,fpb,sb⟩⟩
  · cases e4⟩
end
def CL(i:Nat)(f:DSm):DSm:=λ τ=>match τ[i]? with
 |some (.mu _ (.n .d cs))=>f (τ.set i (.shr (.dfz (lD cs))))
 |_=>none
theorem ya{X}{st}{f} i (h:Bx (PSm X st f)):Bx (PSm X st (CL i f)):=⟨λ Qv s σ H E I w=>by
 obtain⟨Hs0,H0,nf,ρ,Hs,τ,o,r,e,k⟩:=w;unfold CL at e;split at e
 ·rename_i b cs ei
  obtain⟨fp,stt⟩:=r.st;obtain⟨v,fq,fp',o1,o2,o3,o4,o5⟩:=stt.out ei;obtain⟨d,dx,ts,u,rfl,rfl,rfl,hd,hl,nh,ku,nd,ro⟩:=o2.inv;rw[pF hl]at hd;obtain⟨sz,lo,vs,kv,ob,es,ep,q1,q2⟩:=si I.hok hd;have I2:=I.freeze hd q1;have nd':=Z8.mp nd;have lv:=λ c hc=>stt.live c (o4 c hc).2
  have d0:=lv d (Zg ..);generalize hH2:upd H d (.frz ob (.dK (ts.map Kd.kv)))=H2 at I2;have h2d:H2 d=some (.frz ob (.dK (ts.map Kd.kv))):=by rw[<- hH2];exact ay
  have h2n:∀{b:RB},b≠d->H2 b=H b:=λ{b} n=>by rw[<- hH2];exact ar n
  have sub:∀ b ∈ ts.flatMap Kd.fp,b ∈ d::ts.flatMap Kd.fp:=λ b hb=>Zd _ hb
  let Hs2:Hp:=upd (B7 Hs H (ts.flatMap Kd.fp)) d (.frz ob (.dK (ts.map Kd.kv)))
  have hs2d:Hs2 d=some (.frz ob (.dK (ts.map Kd.kv))):=ay
  have hs2n:∀{b:RB},b ∉ d::ts.flatMap Kd.fp->Hs2 b=Hs b:=λ{b} n=>by
   show upd (B7 Hs H (ts.flatMap Kd.fp)) d _ b=_;rw[ar (λ z=>n (by rw[z];exact Zg ..))];exact if_neg λ z=>n (sub b z)
  have hs2i:∀{b:RB},b ∈ ts.flatMap Kd.fp->Hs2 b=H b:=λ{b} hb=>by
   show upd (B7 Hs H (ts.flatMap Kd.fp)) d _ b=_;rw[ar (λ z=>nd'.1 (by rw[<- z];exact hb))];exact if_pos hb
  have ss:bM Hs Hs2:=λ b w e=>by
   rw[hs2n λ z=>by rw[(lv b z).1]at e;cases e];exact e
  have sh:bM Hs2 H2:=λ b w e=>by
   by_cases bd:b=d
   · subst bd;rw[h2d,<- hs2d];exact e
   ·rw [h2n bd]
    by_cases hb:b ∈ ts.flatMap Kd.fp
    · rw[<- hs2i hb];exact e
    ·rw [hs2n λ z=>(Zi.mp z).elim bd hb] at e
     exact r.sm _ _ e
  have hh:bM H0 H2:=λ b w e=>by
   rw[h2n λ z=>by rw[z,d0.2.2]at e;cases e];exact r.ext.hh _ _ e
  have rp:Rp X.K Hs2 (.ref d) (.dfz (lD (ts.map Kd.km))):=.dfz ⟨ob,hs2d⟩ (qt λ c hc=>EV (ro c hc) ss λ b hb=>hs2i (Yh.mpr ⟨c,hc,hb⟩))
  have o6:=o3.mv ss λ b hb=>by
   have nb:b ∉ d::ts.flatMap Kd.fp:=λ z=>(o4 b z).1 hb
   exact⟨(hs2n nb).trans (o3.live b hb).1,h2n λ z=>nb (z ▸ Zg ..)⟩
  obtain⟨fp2,s2,_⟩:=o6.Cd rp;rw[CG o1,List.set_set]at s2
  exact h.out Qv s σ H2 E I2 ⟨Hs0,H0,nf,ρ,Hs2,_,o,⟨⟨r.ext.ss.trans ss,sh,hh,λ b e1 e2=>by
   rw[hs2n λ z=>e2 (lv b z).2.2]
   exact r.ext.fr b e1 e2⟩,fp2,s2⟩,e,k⟩
 · cases e⟩
end L2
end
section
namespace HT
open PySem PyProof.Rows
section
variable{prog:Program}{w:World}{A:Around}{E:RA->RD->Prop}{s:RD}{Q:RA->RD->Prop}{ps:Ry (Int×Int)}
theorem Ku{I S:RB}{items}{B:Nat}(hI:B<=I)(hS:B<=S)(hu:A.units+64<cLine):Ox prog w A I S (λ i v=>items[i]?=some v) (B9 ps items B) (btP ps):=by
 refine⟨λ h h' g st i v e=>?_,λ i j vi vj s1 Q' E' ei ej g q=>?_⟩
 ·obtain ⟨a,t1,t2,p,e1,e2,e3,o,ho,r⟩:=g i v e
  exact⟨a,t1,t2,p,e1,e2,e3,o,st a o (Zx (Zt e2 hI)) (Zx (Zt e2 hS)) ho,r⟩
 ·obtain ⟨a,t1,t2,p,rfl,_,e3,e4⟩:=g i vi ei
  obtain⟨b,t3,t4,p',rfl,_,f3,f4⟩:=g j vj ej;refine vM e4 f4 (by show A.units+1<cLine;lia) ?_
  have h1:btP ps i j=gtP p p':=by
   unfold btP;rw[QG,QG,e3,f3];rfl
  rw[<- h1];exact q
theorem vd{items}{B}{h h'}(g:B9 ps items B h)(k:∀ b o,h.get? b=some o->h'.get? b=some o):B9 ps items B h':=λ i v e=>by
 obtain⟨a,t1,t2,p,e1,e2,e3,o,ho,r⟩:=g i v e;exact⟨a,t1,t2,p,e1,e2,e3,o,k _ _ ho,r⟩
theorem xW {ax} {items} (hh:A.in1.handled=none) (hu:A.units+64 < cLine) (hl:s.heap.IsList ax items) (hp:B9 ps items s.heap.objs.size s.heap) (hn:0 < items.size)
  (fin:∀ v h' tk,items[argBest (btP ps) (items.size - 1)]?=some v->(∀ b o,s.heap.get? b=some o->h'.get? b=some o)->Q v { s with heap:=h',toks:=tk }):wpAny (model prog w) A (call (.builtin "max") [.ref ax]) Q E s:=by
 have hax:ax<s.heap.objs.size:=by obtain⟨_,e,_⟩:=hl;exact Zr e
 refine call_function_tree F.kind_max F.plain_max F.entry_max (F.args_max1 _) ?_
 refine Zc (wpAny_of_eq (rfl) ?_);refine Zc (Zw ?_);refine Zc (wpAny_pyIter_list hl ?_);refine Zc (Yw ?_);rw[md];have keep:∀ b o,s.heap.get? b=some o->(((s.heap.push { cls:=.type "list_iterator",data:=.fields #[.ref ax,.int 0 0] }).push { cls:=.type "list",data:=.seq #[] }).get? b=some o):=λ b o e=>My _ (My _ e)
 have hsz:(s.heap.push { cls:=.type "list_iterator",data:=.fields #[.ref ax,.int 0 0] }).objs.size=s.heap.objs.size+1:=Y8 ..;have nI:(s.heap.push { cls:=.type "list_iterator",data:=.fields #[.ref ax,.int 0 0] }).objs.size≠s.heap.objs.size:=by rw[hsz];exact Nat.succ_ne_self _
 refine Zw ⟨plainId_quiet Xe _,qV (Ku (Zo _) (by rw [hsz]; exact Rf _) hu) (Walks.list hh _ ax (Zx hax) items) nI (by simp only [Zi,Z3,Wm,not_or]; exact ⟨nI,by rw [hsz]; exact (Zx (Y2 hax)).symm⟩)
  ⟨⟨_,My _ (QC _ rfl),rfl,rfl⟩,(hl.push _).push _⟩ (vd hp keep) (QC _ rfl) hn λ v h' tk hv st=>?_⟩
 exact fin v h' tk hv λ b o e=>st b o (Zx (Zr e)) (by rw[hsz];exact Zx (Y2 (Zr e))) (keep b o e)
theorem xV {a b} {t1 t2 t3 t4} {p q} (hh:A.in1.handled=none) (hu:A.units+64 < cLine) (h1:IsTup s.heap a #[.int p.1 t1,.int p.2 t2]) (h2:IsTup s.heap b #[.int q.1 t3,.int q.2 t4])
  (fin:∀ h' tk,(∀ b o,s.heap.get? b=some o->h'.get? b=some o)->Q (.ref (if gtP q p=true then b else a)) { s with heap:=h',toks:=tk }):wpAny (model prog w) A (call (.builtin "max") [.ref a,.ref b]) Q E s:=by
 refine call_function_tree F.kind_max F.plain_max F.entry_max (F.args_max2 _ _) ?_
 refine Zc (wpAny_of_eq (rfl) ?_);refine Zc (Yw ?_);have hT:(s.heap.push { cls:=.type "tuple",data:=.seq #[.ref a,.ref b] }).IsTuple s.heap.objs.size #[.ref a,.ref b]:=⟨_,QC _ rfl,rfl,0,rfl⟩
 refine Zc (wpAny_pyIter_tuple hT ?_);refine Zc (Yw ?_);rw[md];have z1:(s.heap.push { cls:=.type "tuple",data:=.seq #[.ref a,.ref b] }).objs.size=s.heap.objs.size+1:=Y8 ..;generalize hh1:s.heap.push { cls:=.type "tuple",data:=.seq #[.ref a,.ref b] }=g1 at hT z1;have k1:∀ b o,s.heap.get? b=some o->g1.get? b=some o:=λ b o e=>by rw[<- hh1];exact My _ e
 have z2:(g1.push { cls:=.type "tuple_iterator",data:=.fields #[.ref s.heap.objs.size,.int 0 0] }).objs.size=g1.objs.size+1:=Y8 ..;have keep:∀ b o,s.heap.get? b=some o->(((g1.push { cls:=.type "tuple_iterator",data:=.fields #[.ref s.heap.objs.size,.int 0 0] }).push { cls:=.type "list",data:=.seq #[] }).get? b=some o):=λ b o e=>My _ (My _ (k1 b o e))
 have nI:(g1.push { cls:=.type "tuple_iterator",data:=.fields #[.ref s.heap.objs.size,.int 0 0] }).objs.size≠g1.objs.size:=by rw[z2];exact Nat.succ_ne_self _
 have la:a<s.heap.objs.size:=by obtain⟨_,e,_⟩:=h1;exact Zr e
 have lb:b<s.heap.objs.size:=by obtain⟨_,e,_⟩:=h2;exact Zr e
 have pr:B9 [p,q] #[.ref a,.ref b] s.heap.objs.size s.heap:=λ i v e=>by
  match i,e with
  |0,e=>cases Zj e;exact⟨a,t1,t2,p,rfl,la,rfl,h1⟩
  |1,e=>cases Zj e;exact⟨b,t3,t4,q,rfl,lb,rfl,h2⟩
  |i+2,e=>simp at e
 have l1:s.heap.objs.size<=g1.objs.size:=by rw[z1];exact Rf _
 refine Zw ⟨plainId_quiet Xe _,qV (n:=2) (Ku l1 (by rw[z2];exact Nat.le_succ_of_le l1) hu) (Walks.tuple hh _ s.heap.objs.size (by rw[z1];exact Zx (Wo _)) #[.ref a,.ref b]) nI (by
   simp only[Zi,Z3,Wm,not_or];exact⟨nI,by rw[z2,z1];exact(Zx (Y2 (Wo _))).symm⟩)
  ⟨⟨_,My _ (QC _ rfl),rfl,rfl⟩,(hT.push _).push _⟩ (vd pr keep) (QC _ rfl) (by decide) λ v h' tk hv st=>?_⟩
 have ek:∀ b o,s.heap.get? b=some o->h'.get? b=some o:=λ b o e=>st b o (Zx (Zt (Zr e) l1)) (by rw[z2];exact Zx (Y2 (Zt (Zr e) l1))) (keep b o e)
 have ev:v=.ref (if gtP q p=true then b else a):=by
  have hv':=hv;have eb:argBest (btP [p,q]) 1=if gtP q p=true then 1 else 0:=rfl
  rw[eb]at hv';split
  · rename_i z;rw[if_pos z]at hv';exact(Zj hv').symm
  · rename_i z;rw[if_neg z]at hv';exact(Zj hv').symm
 have f:=fin h' tk ek;rw[<- ev]at f;subst hh1;exact f
end
inductive El (h:Heap):Value->Value->List Int->List Int->Prop where
 |bl (a c:Bool):El h (.bool a) (.bool c) [L2.b2i a] [L2.b2i c]
 |int (a c:Int) (t u:Tok):El h (.int a t) (.int c u) [a] [c]
 |pair {l b:Addr} {x1 x2 y1 y2:Int} {t1 t2 u1 u2:Tok} (h1:IsTup h l #[.int x1 t1,.int x2 t2]) (h2:IsTup h b #[.int y1 u1,.int y2 u2]):El h (.ref l) (.ref b) [x1,x2] [y1,y2]
inductive Els (h:Heap):List (Value×Value)->List Int->List Int->Prop where
 |nil:Els h [] [] []
 |cons {y x:Value} {ns ms ns' ms':List Int} {r:List (Value×Value)} (e:El h y x ns ms) (q:Els h r ns' ms'):Els h ((y,x)::r) (ns++ns') (ms++ms')
theorem q9:∀ {a b c d:Ry Int},a.length=b.length->lexLt (a++c) (b++d)=if a=b then lexLt c d else lexLt a b
 |[],[],c,d,_=>by simp
 |x :: a,y::b,c,d,h=>by
  have ih:=q9 (a:=a) (b:=b) (c:=c) (d:=d) (by simpa using h);rw[Q7,Q7,cx,cx,ih]
  by_cases e:x=y
  ·subst e
   by_cases e2:a=b
   · subst e2;simp
   ·have:¬ (x::a=x::b):=λ z=>e2 (List.cons.inj z).2
    rw[if_pos rfl,if_neg e2,if_neg this,if_pos rfl]
  ·have:¬ (x::a=y::b):=λ z=>e (List.cons.inj z).1
   rw[if_neg e,if_neg this,if_neg e]
theorem El.len{h}{y x}{ns ms}(e:El h y x ns ms):ns.length=ms.length:=by cases e<;>rfl
section
variable{prog:Program}{w:World}{A:Around}{E:RA->RD->Prop}{s:RD}
theorem gt_bool{a c}{Q}(h:Q (.bool (decide (L2.b2i c<L2.b2i a))) s):wpAny (model prog w) A (richCompare .Gt (.bool a) (.bool c)) Q E s:=by
 refine richCompare_gives (Q2 s a) (Q2 s c) PySem.F.slot_bool_gt PySem.F.entry_int_gt (PySem.F.args_int_gt_2 _ _) (m:=.val (.bool (decide (L2.b2i c<L2.b2i a)))) ?_ (λ x=>nomatch x) h;cases a<;>cases c<;>exact .of_eq rfl
theorem El.eq{y x}{ns ms}(e:El s.heap y x ns ms)(hu:A.units+64<cLine){Q}(h:Q (decide (ns=ms)) s):wpAny (model prog w) A (eqBool y x) Q E s:=by
 cases e with
 |bl a c=>
  refine L2.pS (.bool a) (.bool c) rfl rfl hu (by show min 0 _<=64;lia) ?_
  have:PyData.eqv (.bool a) (.bool c)=decide ([L2.b2i a]=[L2.b2i c]):=by cases a<;>cases c<;>rfl
  rw[this];exact h
 |int a c t u=>
  refine wpAny_eqBool_int ?_
  have:(a == c)=decide ([a]=[c]):=by rw[Xn];simp
  rw[this];exact h
 |pair h1 h2=>exact L2.vX h1 h2 hu (by simpa using h)
theorem El.gt{y x}{ns ms}(e:El s.heap y x ns ms)(hu:A.units+64<cLine){Q}(h:Q (.bool (lexLt ms ns)) s):wpAny (model prog w) A (richCompare .Gt y x) Q E s:=by
 cases e with
 |bl a c=>
  refine gt_bool ?_
  have:decide (L2.b2i c<L2.b2i a)=lexLt [L2.b2i c] [L2.b2i a]:=by cases a<;>cases c<;>rfl
  rw[this];exact h
 |int a c t u=>
  refine u6 _ _ _ _ _ _ _ _ _ _ ?_
  have:decide (c<a)=lexLt [c] [a]:=by
   by_cases z:c=a
   · subst z;simp[lexLt]
   · simp[lexLt,z]
  rw[this];exact h
 |@pair l b x1 x2 y1 y2 _ _ _ _ h1 h2=>
  refine vM (p:=(x1,x2)) (q:=(y1,y2)) h1 h2 (by lia) ?_
  have:gtP (x1,x2) (y1,y2)=lexLt [y1,y2] [x1,x2]:=by
   unfold gtP gtR
   by_cases z:x1=y1
   ·subst z
    by_cases z2:x2=y2
    · subst z2;simp[lexLt,gtR]
    · simp[lexLt,gtR,z2,QH z2]
   · simp[lexLt,z,QH z]
  rw[this];exact h
open PySem.SeqAt in
open PySem.AutoSeq1 (wpAny_loadPart') in
open PySem.MeetsSeq PySem.MeetsSeq2 PySem.MeetsSeq3 in
theorem qg l b items items2 n n2 dd dd2 sl sl2 ns ms (hz:items.size=items2.size):MeetsIn prog w (Builtin.«tuple.__gt__» ⟨[.ref l,.ref b],[]⟩)
   (λ A R s=>A.units+66<cLine/\s.heap.get? l=some { cls:=.type "tuple",dict:=dd,data:=.seq items n,slots:=sl }/\s.heap.get? b=some { cls:=.type "tuple",dict:=dd2,data:=.seq items2 n2,slots:=sl2 }/\Els s.heap (items.toList.zip items2.toList) ns ms/\R (.ok (.ret (.bool (lexLt ms ns)))) s):=
 .of_wp λ A R s h=>by
  obtain⟨hp,g,d,tk,os⟩:=s;obtain⟨hu,hl,hb,hi,h⟩:=h
  have f2:=QR
  wp_walk using Yr hl,Yr hb,wpAny_forIn_list _ (λ rest b s'=>b.1=none/\s'=⟨hp,g,d,tk,os⟩/\∃ ns' ms',Els hp rest ns' ms'/\R (.ok (.ret (.bool (lexLt ms' ns')))) ⟨hp,g,d,tk,os⟩) _
  case turn=>
   rintro⟨y,x⟩ rest b s' ⟨hb',rfl,ns',ms',hv,hR⟩
   cases hv with
   |cons e q=>
     rw[q9 e.len.symm]at hR;rename_i ns0 ms0 ns1 ms1;refine Zc (El.eq e (by show A.units+1+64<cLine;lia) ?_)
     by_cases z:ns0=ms0
     ·rw [Zk z]
      rw[if_pos z.symm]at hR
      wp_walk
      exact⟨rfl,rfl,_,_,q,hR⟩
     ·rw [Zp z]
      rw[if_neg (QH z)]at hR;have hri:=λ E Q h=>El.gt (prog:=prog) (w:=w) (A:=A.in1) (E:=E) (Q:=Q) (s:=⟨hp,g,d,tk,os⟩) e (by show A.units+1+64<cLine;lia) h
      wp_walk using hri
      exact⟨_,rfl,by simpa using hR⟩
  case fin=>
   rintro⟨b1,b2⟩ s' ⟨hb',rfl,ns',ms',hv,hR⟩
   subst hb';cases hv
   wp_walk
   exact⟨_,rfl,by simpa [Builtin.Tuple.tupleCompareSizes,lexLt,hz] using hR⟩
  case h=>
   exact⟨rfl,rfl,ns,ms,hi,h⟩
theorem Lm{l b}{items items2}{ns ms}{Q}(h1:IsTup s.heap l items)(h2:IsTup s.heap b items2)(hz:items.size=items2.size)(hi:Els s.heap (items.toList.zip items2.toList) ns ms)(hu:A.units+80<cLine)(h:Q (.bool (lexLt ms ns)) s):wpAny (model prog w) A (compareOp .Gt (.ref l) (.ref b)) Q E s:=by
 obtain⟨⟨cls,dd,data,sl⟩,ho,hc,n,hd⟩:=id h1;obtain⟨⟨cls2,dd2,data2,sl2⟩,ho2,hc2,n2,hd2⟩:=id h2;subst hc hd hc2 hd2;refine wpAny_richCompare_same_or (op:=.Gt) ⟨_,ho,rfl⟩ ⟨_,ho2,rfl⟩ Q5 ?_ (.inr (by lia))
 exact Wq Q5 ⟨_,ho,rfl⟩ PySem.F.entry_tuple_gt (PySem.F.args_tuple_gt_2 _ _) (qg l b items items2 n n2 dd dd2 sl sl2 ns ms hz) ⟨by lia,ho,ho2,hi,(λ x=>nomatch x),h⟩
end
end HT
namespace L2
open PySem PySem.Spec PyProof.Rows
open Classical in
noncomputable def ze(d:D):Rz (Ry Int):=
 let g i:=(gTu d).getD i .non
 let p i:=(gTu (g 3)).getD i .non
 if d=.tup [.bl (gB (g 0)),.bl (gB (g 1)),.int (gI (g 2)),.tup [.int (gI (p 0)),.int (gI (p 1))],.int (gI (g 4)),.int (gI (g 5))] then some [b2i (gB (g 0)),b2i (gB (g 1)),gI (g 2),gI (p 0),gI (p 1),gI (g 4),gI (g 5)] else none
def Nq(x y:D):Rz D:=(ze x).bind λ a=>(ze y).map λ b=>.bl (HT.lexLt b a)
def Du:Ry D->Rz D
 |[.lst ds]=>(MU ds).bind λ ps=>if ds.length=0 then none else ds[argBest (HT.btP ps) (ds.length - 1)]?
 |_=>none
def Dt:Ry D->Rz D
 |[x,y]=>(prD x).bind λ p=>(prD y).map λ q=>if HT.gtP q p=true then y else x
 |_=>none
section
variable{X:Cx}{Qv:Ry (RB×Obj)}{σ:L2.St}{H Hs:Hp}{s:RD}
theorem qy{v}{u}{d}{ns}(I:Inv X Qv σ H s)(h:Rp X.K H v d)(e:ze d=some ns)(r:RelV v u):∃ b pr b0 b1 i p q j k t1 t2 t3 t4 t5,u=.ref b/\IsTup s.heap b #[.bool b0,.bool b1,.int i t1,.ref pr,.int j t2,.int k t3]/\IsTup s.heap pr #[.int p t4,.int q t5]/\ns=[b2i b0,b2i b1,i,p,q,j,k]:=by
 have:∃ b0 b1 i p q j k,d=.tup [.bl b0,.bl b1,.int i,.tup [.int p,.int q],.int j,.int k]/\ns=[b2i b0,b2i b1,i,p,q,j,k]:=by
  unfold ze at e;dsimp only at e
  split at e
  · exact⟨_,_,_,_,_,_,_,‹_›,(Zj e).symm⟩
  · cases e
 obtain⟨_,_,_,_,_,_,_,rfl,rfl⟩:=this;obtain⟨_,_,_,_,_,_,_,rfl,h,hp,q0,q1,q2,q4,q5⟩:=JM h;cases q0.ub;cases q1.ub;cases q2.ui;cases q4.ui;cases q5.ui
 obtain⟨_,rv,p1,_⟩:=I.tuple h;obtain⟨_,rv2,p2,_⟩:=I.tuple hp;obtain⟨_,_,_,_,_,_,rfl,a0,a1,a2,a3,a4,a5⟩:=yv rv;obtain⟨t4,t5,rfl⟩:=rv2.ints2;obtain⟨t1,rfl⟩:=a2;obtain⟨t2,rfl⟩:=a4;obtain⟨t3,rfl⟩:=a5;cases(a0);cases(a1);cases(a3);exact⟨_,_,_,_,_,_,_,_,_,t1,t2,t3,t4,t5,r,p1,p2,rfl⟩
theorem Nj(hu:X.A.units+80<cLine):OpR X (compareOp .Gt) (rdR X.K Nq):=by
 intro Qv s σ H x y v u Q I rx ry h;obtain⟨Hs,dx,dy,d,sm,hx,hy,e,k⟩:=h;obtain⟨ns,e1,e2⟩:=Ub e;obtain⟨ms,e3,rfl⟩:=Zm e2;obtain⟨b,pr,b0,b1,i,p,q,j,l,_,_,_,_,_,rfl,g1,g2,rfl⟩:=qy I (hx.same sm) e1 rx;obtain⟨b',pr',c0,c1,i',p',q',j',l',_,_,_,_,_,rfl,g3,g4,rfl⟩:=qy I (hy.same sm) e3 ry;refine HT.Lm g1 g3 rfl (.cons (.bl _ _) (.cons (.bl _ _) (.cons (.int _ _ _ _) (.cons (.pair g2 g4) (.cons (.int _ _ _ _) (.cons (.int _ _ _ _) .nil)))))) hu ?_
 exact⟨.bl _,H,I,rfl,k _ Hs H (.refl sm) (.bl _)⟩
theorem zj{v}{u}{d}{p}(I:Inv X Qv σ H s)(h:Rp X.K H v d)(e:prD d=some p)(r:RelV v u):∃ a t1 t2,v=.ref a/\u=.ref a/\IsTup s.heap a #[.int p.1 t1,.int p.2 t2]:=by
 cases zk e;obtain⟨_,_,rfl,h,rr⟩:=h.ut;obtain⟨_,_,rfl,q0,q1⟩:=qr rr;cases q0.ui;cases q1.ui
 obtain⟨its,rv,p1,_⟩:=I.tuple h;obtain⟨t4,t5,rfl⟩:=rv.ints2;exact⟨_,t4,t5,rfl,r,p1⟩
theorem LJ(hu:X.A.units+64<cLine)(hc:X.calm=true):gf X (.builtin "max") (rdL X.K Dt):=by
 intro Qv s σ H xs us Q I r h;obtain⟨Hs,ds,d,sm,rr,e,k⟩:=h;unfold Dt at e;split at e
 ·rename_i x y
  obtain⟨p,e1,e2⟩:=Ub e;obtain⟨q,e3,rfl⟩:=Zm e2;cases rr with|cons hx rr=>cases rr with|cons hy rr=>
  cases rr;cases r with|cons r1 r=>cases r with|cons r2 r=>
  cases r;obtain⟨a,t1,t2,rfl,rfl,g1⟩:=zj I (hx.same sm) e1 r1;obtain⟨b,t3,t4,rfl,rfl,g2⟩:=zj I (hy.same sm) e3 r2;refine HT.xV (I.ok.hd hc) hu g1 g2 λ h' tk hk=>?_
  refine⟨.ref (if HT.gtP q p=true then b else a),H,I.kept hk,rfl,k _ Hs H (.refl sm) ?_⟩;split
  · exact hy
  · exact hx
 · cases e
theorem LK(hu:X.A.units+64<cLine)(hc:X.calm=true):gf X (.builtin "max") (rdL X.K Du):=by
 intro Qv s σ H xs us Q I r h;obtain⟨Hs,ds,d,sm,rr,e,k⟩:=h;unfold Du at e;split at e
 ·rename_i es
  obtain⟨ps,e1,e2⟩:=Ub e;split at e2
  · cases e2
  ·rename_i hz
   cases rr with|cons hx rr=>
   cases rr
   cases hx with
   |@lst a ys _ hL ry=>
   obtain⟨u,rfl,ru⟩:=vals1 r;cases(ru);obtain⟨its,rvv,pl,_⟩:=I.list (SqL.of (sm _ _ hL));have l1:=rvv.length;have l2:=ry.length;refine HT.xW (ps:=ps) (I.ok.hd hc) hu pl.isList (λ i v hi=>?_) (by rw[Zs];lia) λ v h' tk hv hk=>?_
   ·have hi':its[i]?=some v:=by simpa using hi
    have hlt:=(QB.mp hi').1;obtain⟨v',hv',r'⟩:=rvv.get (QA _);rw[hi']at hv';cases hv';obtain⟨d',hd',rd⟩:=ry.get' (QA (by lia:i<ys.length));obtain⟨pp,hp,rfl⟩:=C0 e1 hd';obtain⟨b,t1,t2,eb,rfl,g⟩:=zj I (rd.same sm) rfl r';have lt:b<s.heap.objs.size:=by obtain⟨_,e6,_⟩:=g;exact Zr e6
    exact⟨b,t1,t2,pp,rfl,lt,hp,g⟩
   ·have hn:its.toArray.size=es.length:=by rw [Zs]; lia
    rw[hn]at hv;have hv':its[argBest (HT.btP ps) (es.length - 1)]?=some v:=by simpa using hv
    obtain⟨x',hx,rx⟩:=ry.get e2;obtain⟨v2,hv2,r'⟩:=rvv.get hx;rw[hv']at hv2;cases hv2;exact⟨x',H,I.kept hk,r',k x' Hs H (.refl sm) rx⟩
 · cases e
end
end L2
namespace L2
theorem cp.u80{k}{A}(r:cp k A):A.units+80<PySem.cLine:=by have:=r.un;lia
end L2
end
section
namespace L2
open PySem PySem.Spec PyProof.Rows
def CM(f:DEm)(g:DGm)(b:DSm):DSm:=λ τ=>(f τ).bind λ x=>match x.1 with
 |.shr (.int j)=>if -(2 ^ 62)<=j/\j<2 ^ 62 then forM (λ d τ=>(g d τ).bind b) (o8 0 j.toNat) x.2 else none
 |_=>none
section
variable{X:Cx}{tg a:Expr}{body:Ry Stmt}{p pos Qx:Pos}
theorem CW{f}{g}{b}(hm:X.mg "range"=none)(ha:PEm X a f)(hg:PGm X tg g)(hb:uH X body b)(hp:PassesOwn (model X.prog X.w) X.A X.env X.xe)(hc:X.calm=true)(hgl:Gl X "range")(hst:starEach [a] X.env=[(false,eval a X.env)])(hs:∀ x,foldedSetIterable (.Call (.Name "range" p) [a] [] Qx) X.env x=pure x):PSm X (.For tg (.Call (.Name "range" p) [a] [] Qx) body [] pos) (CM f g b):=(zi hp hc (qC hgl hm (be ha dB hst) hst) hg hb hs).imp λ E σ H w0=>g73 w0 λ Hs0 H0 nf ρ Hs τ o r e k=>by
 obtain⟨⟨s,τ1⟩,e1,e⟩:=Ub e;refine⟨Hs0,H0,nf,ρ,Hs,τ,s,τ1,r,e1,λ v Hs1 H1 rr=>?_⟩;have r1:=rr.pop;obtain⟨fp,st⟩:=rr.st
 cases st with
 |no st=>exact nn e
 |mu _ _ _ _ st=>exact nn e
 |shr h st=>
 cases h with
 |int j=>
  simp only at e;split at e
  ·rename_i hj
   refine⟨j,rfl,hj.1,hj.2,?_⟩;have kk:=k.rebase r1.ext;have hJ:=mD (K:=X.K) (Hs:=Hs1) 0 j.toNat;generalize o8 0 j.toNat=ds at e hJ;refine⟨λ i m σ H=>m=ds.length - i/\i<=ds.length/\∃ Hs2 τ2,b7 X.K Hs1 H0 ρ Hs2 H σ τ2/\forM (λ d τ=>(g d τ).bind b) (ds.drop i) τ2=some o,⟨ds.length,by simp,Z0 _,Hs1,τ1,r1.rebase,by simpa using e⟩,?_⟩
   rintro i m σ2 H2 ⟨rfl,hi,Hs2,τ2,r2,e3⟩
   obtain⟨hgo,hstop⟩:=hJ Hs2 H2 r2.ext.ss r2.sm
   by_cases hlt:i<ds.length
   ·have ed:=Xa hlt
    rw[ed]at e3;obtain⟨go,yl⟩:=hgo i ds[i] (QA hlt);refine .inr ⟨go,λ σ' H'=>∃ Hs' τ',b7 X.K Hs1 H0 ρ Hs' H' σ' τ'/\forM (λ d τ=>(g d τ).bind b) (ds.drop (i+1)) τ'=some o,?_,?_⟩
    ·rintro σ' H' ⟨Hs',τ',r',e'⟩
     exact⟨ds.length - (i+1),by lia,rfl,hlt,Hs',τ',r',e'⟩
    ·intro x H' y
     obtain⟨Hs3,g3,rx⟩:=yl x H' y;have r3:=r2.ext' g3;unfold forM at e3
     cases q:(g ds[i] τ2).bind b with
     |none=>simp only[q]at e3;cases e3
     |some o1=>
      simp only[q]at e3;obtain⟨τ3,q1,q2⟩:=Ub q;refine⟨Hs1,H0,nf,ρ,Hs3,τ2,τ3,ds[i],r3,rx,q1,λ σ' r'=>?_⟩;refine⟨Hs1,H0,nf,ρ,Hs3,τ3,o1,r',q2,?_⟩
      cases o1 with
      |next τ'=>exact λ σ4 Hs4 H4 r4=>⟨Hs4,τ',r4,e3⟩
      |cnt τ'=>exact λ σ4 Hs4 H4 r4=>⟨Hs4,τ',r4,e3⟩
      |brk τ'=>cases e3;exact kk
      |ret s τ'=>cases e3;exact kk
   ·have e0:i=ds.length:=by lia
    subst e0;rw[Wr]at e3;have e':En.next τ2=o:=by simpa [forM] using e3
    subst e';exact .inl ⟨hstop _ (Zo _),kk σ2 Hs2 H2 r2⟩
  · cases e
 |_=>exact nn e
theorem yb{f}{g}{b}(hm:X.mg "range"=none)(ha:Bx (PEm X a f))(hg:Bx (PGm X tg g))(hb:Bx (uH X body b))(hp:PassesOwn (model X.prog X.w) X.A X.env X.xe:=by exact .never)(hc:X.calm=true:=by rfl)(hgl:Gl X "range":=by rfl)(hst:starEach [a] X.env=[(false,eval a X.env)]:=by rfl)(hs:Fs X (.Call (.Name "range" p) [a] [] Qx):=by intro _;rfl):Bx (PSm X (.For tg (.Call (.Name "range" p) [a] [] Qx) body [] pos) (CM f g b)):=⟨CW hm ha.out hg.out hb.out hp hc hgl hst hs⟩
end
noncomputable def unV:Ry Am->Rz (Ry D)
 |[]=>some []
 |.v d::r=>(unV r).map (d::·)
 |_::_=>none
def eTm(g:DAm):DEm:=λ τ=>(g τ).bind λ as=>(unV as).bind λ ds=>if ds.length<=100000 then some (.shr (.tup ds),τ) else none
theorem Eu {K:RC} {Hs H:Hp} {σ:St}:∀ {vs:Ry V} {as:Ry Am} {ds:Ry D},sY K Hs H σ vs as->unV as=some ds->Rps K Hs vs ds
 |_,_,_,.nil,e=>by cases e;exact .nil
 |_,_,_,.v h r,e=>by
  obtain⟨ds',e1,e2⟩:=Zm e;cases e2;exact .cons h (Eu r e1)
 |_,_,_,.p _ _ _,e=>by cases e
section
variable{X:Cx}{es:Ry Expr}{pos:Pos}
theorem MV{x1}{g}(h:PAm X es g):PVm X (.Tuple es x1 pos) (eTm g):=(vg h).imp λ σ H Q w0=>g83 w0 λ Hs0 H0 nf ρ Hs τ s τ' r e k=>by
 obtain⟨as,e1,e⟩:=Ub e;obtain⟨ds,e2,e⟩:=Ub e;split at e
 ·rename_i hl
  cases e;refine⟨Hs0,H0,nf,ρ,Hs,τ,as,r,e1,λ vs Hs1 H1 g1 r1 s1 a1=>?_⟩;have rr:=Eu a1 e2;refine⟨by rw[rr.length];exact yr hl,λ p hp=>?_⟩;have hp0:=r1.sm.free hp
  have ex:Ext Hs1 H1 (upd Hs1 p (.tup vs)) (upd H1 p (.tup vs)):=by
   refine⟨aF hp0 _,λ b u q=>?_,aF hp _,λ b h1 h2=>?_⟩
   ·by_cases z:b=p
    · subst z;rw[ay]at q ⊢;exact q
    · rw[ar z]at q ⊢;exact r1.sm _ _ q
   · rw[ar (λ z=>h2 (by rw[z];exact hp))];exact h1
  exact k _ _ _ (g1.trans (aF hp _)) ((r1.ext' ex).push (.tup (SqT.of ay) (Rps.same (aF hp0 _) rr)))
 · cases e
def Ih{x1}{g}(h:Bx (PAm X es g)):Bx (PVm X (.Tuple es x1 pos) (eTm g)):=⟨MV h.out⟩
end
noncomputable def D3(px:DPx)(gk:DE):DEm:=λ τ=>(px τ).bind λ p=>(gk (b6 τ)).bind λ d=>(jn d).bind λ k=>match a6 τ p.1 p.2 with
 |some (.n .d cs)=>match cs.find? λ c=>decide (c.1=k) with
  |some (_,.s d)=>some (.shr d,cX τ p.1 p.2 (.n .d (nW cs k)))
  |_=>none
 |_=>none
section
variable{X:Cx}{o e:Expr}{Qw Qx:Pos}
theorem GJ{px}{gk}(m:M1 X o "pop" Qw e Qx)(ho:PXm X o px)(he:PEd X e gk):PEm X (.Call (.Attribute o "pop" Qw) [e] [] Qx) (D3 px gk):=
 (vm ho he m).imp λ σ H Q w0=>g83 w0 λ Hs0 H0 nf ρ Hs τ s τ' r e k=>by
   obtain⟨⟨i,q⟩,e1,e⟩:=Ub e;obtain⟨d,e2,e⟩:=Ub e;obtain⟨ky,e3,e⟩:=Ub e;split at e
   ·rename_i cs en
    split at e
    ·rename_i k0 d0 hz
     cases e;refine⟨Hs0,H0,nf,ρ,Hs,τ,i,q,_,r,e1,en,λ rt v1 H1 g1 hrt hq=>?_⟩;have r1:=r.grow g1;obtain⟨a,dx,ts,u,rfl,ecs,ha,hl,ku,hrp,fin⟩:=r1.qT en hrt hq;rw[pF hl]at ha;obtain⟨fp,st⟩:=r1.st;refine⟨a,rfl,.inl ⟨_,.inl ha⟩,H1,H1,b6 τ,[],_,st.b6 r1.sm,.refl H1,e2,λ y Hs2 H2 g2 ry=>?_⟩;have hy:=gm ry e3;subst hy;have r2:=r1.grow g2.hh;have hq2:=bF g2.hh q hq;obtain⟨fp2,st2⟩:=r2.st;obtain⟨b,m,em,eg⟩:=cY en;obtain⟨v,fp1,v1',w1,w2,w3,w4,w5⟩:=st2.uJ em eg;rw[hrt]at w1;cases w1;rw[hq2]at w2;cases w2;obtain⟨a',dx',ts',u',ea,ec,ha',hl',ku',hrp',fin'⟩:=r2.qT en hrt hq2;obtain⟨b1,dx1,ts1,u1,k1,k2,k3,k4,k5,k6,k7,k8,k9⟩:=w3.inv;cases ea;cases k1;have ha2:=ha';rw[pF hl']at ha2;rw[pF k5]at k4;have ets:ts'.map Kd.kv=ts1.map Kd.kv:=by rw[ha2]at k4;exact HO.dK.inj (Zj k4)
     rw[k3,Rx]at hz;obtain⟨c,hc,ec1⟩:=Zm hz;have oc:=k9 c (List.mem_of_find?_eq_some hc);have ecm:=(Prod.mk.inj ec1).2;rw[ecm]at oc
     have hw:cC (ts'.map Kd.kv) ky=some c.v:=by
      rw[ets];unfold cC;rw[Rx];have:(ts1.find? ((λ c=>decide (c.1=ky)) ∘ Kd.kv))=some c:=hc;rw[this];rfl
     refine⟨_,ky,c.v,ha2,rfl,hw,?_⟩
     have rf:=fin' (ts'.filter λ c=>decide (c.k≠ky)) [] (.dK (pU (ts'.map Kd.kv) ky)) QQ (λ k hk=>by cases hk) (by
      rw[Zz];unfold pU;rw[Rl]
      exact .d _) (by
      rw[Zz]
      exact List.Nodup.sublist (QQ.map _) ku')
     rw[Zz]at rf
     have em:(ts'.filter λ c=>decide (c.k≠ky)).map Kd.km=nW cs ky:=by
      rw[ec];unfold nW;rw[Rl];rfl
     rw[em]at rf;obtain⟨fpf,sf⟩:=rf.st;exact k c.v Hs _ ⟨rf.ext,fpf,.shr oc.PD sf⟩
    · cases e
   · cases e
theorem BV{px}{gk}(m:M1 X o "pop" Qw e Qx)(ho:Bx (PXm X o px))(he:Bx (PEd X e gk)):Bx (PEm X (.Call (.Attribute o "pop" Qw) [e] [] Qx) (D3 px gk)):=⟨GJ m ho.out he.out⟩
end
def eL1(f:DEm):DEm:=λ τ=>(f τ).bind λ x=>(toM x.1).map λ m=>(.mu false (.n .l [(.inl 0,m)]),x.2)
section
variable{X:Cx}{e:Expr}{pos:Pos}
theorem Ij{f}(h:Bx (PVm X e f))(hst:Se X e []:=by rfl):Bx (PVm X (.List [e] pos) (eL1 f)):=
 ⟨(EN (be h.out dB hst)).imp λ σ H Q w0=>g83 w0 λ Hs0 H0 nf ρ Hs τ s τ' r e k=>by
   obtain⟨⟨s1,τ1⟩,e1,e⟩:=Ub e;obtain⟨m1,e2,e⟩:=Zm e;cases e;refine⟨Hs0,H0,nf,ρ,Hs,τ,s1,τ1,r,e1,λ v1 Hs1 H1 g1 r1=>?_⟩;obtain⟨q1,p1,od1,z1,j1,st1⟩:=Pg r1 e2;refine⟨by rw[Yj];exact(by decide:1<=16777216),λ p hp=>?_⟩;have np1:p ∉ q1:=λ h=>(od1.live p h).2 hp
   have npf:=st1.new hp;have h0p:=r1.ext.hh.free hp;have hsp:=r1.ext.sh.free hp
   have od:Od X.K Hs1 (upd H1 p (.lst [v1])) (p::q1) (.ref p) (.n .l [(.inl 0,m1)]):=by
    have:=Od.n (dx:=0) (ts:=[⟨.inl 0,v1,m1,q1⟩]) ay (.l _) hsp trivial (by
     rw[Yg,Q9,Zz]
     exact Z8.mpr ⟨np1,od1.nd⟩) (λ c hc=>by
     rw[Zy.mp hc]
     exact od1.mv (.refl _) λ x hx=>⟨(od1.live x hx).1,ar (λ z=>np1 (z ▸ hx))⟩)
    rw[Yg,Q9,Zz]at this;exact this
   have ex':Ext Hs0 H0 Hs1 (upd H1 p (.lst [v1])):=by
    refine⟨r1.ext.ss,λ b o q=>?_,λ b o q=>?_,r1.ext.fr⟩
    · rw[ar (λ z=>by rw[z,hsp]at q;cases q)];exact r1.ext.sh b o q
    · rw[ar (λ z=>by rw[z,h0p]at q;cases q)];exact r1.ext.hh b o q
   refine k (.ref p) Hs1 _ (g1.trans (aF hp _)) ⟨ex',(p::q1)++p1,.mu od (λ e=>by cases e) (λ c hc=>?_) (λ c hc=>?_) (st1.mv (.refl _) λ c hc=>⟨(st1.live c hc).1,ar (λ q=>npf (by rw[<- q];exact hc))⟩)⟩
   ·rcases Zi.mp hc with q | q
    · rw[q];exact h0p
    · exact z1 c q
   ·rcases Zi.mp hc with q | q
    · rw[q];exact npf
    · exact j1 c q⟩
end
theorem yg{X}{k jj}{C}{F}{x}{p pos}(Fo:GoI X.prog X.w X.K X.mg X.base k C (spM F X.K))(hr:cp jj X.A)(hm:X.mg x=some (.ref C))(hj:k+1<=jj:=by decide)(hg:Gl X x:=by rfl)(hdb:Dg x:=by decide):Bx (PEm X (.Call (.Name x p) [] [] pos) (eK C F Em)):=by
 obtain⟨f',fd',ps',M,hb,Fo⟩:=Fo.go;have hr:=hr.mono hj
 exact⟨(C7 M Fo hr hg hm hb .nil jf hdb).imp λ σ H Q w0=>by
  obtain⟨Hs0,H0,nf,ρ,Hs,τ,as,r,e,k⟩:=vD w0;cases e
  exact k [] Hs H (.refl H) r (.refl _) .nil⟩
def dM(ds:Ry (Key×D)):Mt:=.n .d (ds.map λ p=>(p.1,.s p.2))
def eOD(g:DE):DEm:=λ τ=>(g (er τ)).bind λ d=>match d with
 |.dct ds=>if(ds.map (·.1)).Nodup then some (.mu false (dM ds),τ) else none
 |_=>none
theorem K2 {K:RC} {Hs:Hp}:∀ {kvs:Ry (Key×V)} {ds:Ry (Key×D)},RpK K Hs kvs ds->∃ ts:Ry Kd,kvs=ts.map Kd.kv/\ts.map Kd.km=ds.map (λ p=>(p.1,.s p.2))/\ts.flatMap Kd.fp=[]/\ts.map Kd.k=ds.map (·.1)/\∀ H,∀ c ∈ ts,Od K Hs H c.fp c.v c.m
 |_,_,.nil=>⟨[],rfl,rfl,rfl,rfl,λ _ c hc=>by cases hc⟩
 |_,_,.cons (k:=k) (x:=x) (d:=d) h r=>by
  obtain⟨ts,h1,h2,h3,h5,h4⟩:=K2 r;refine⟨⟨k,x,.s d,[]⟩::ts,by rw[Zh,h1],by rw[Zh,Zh,h2],by rw[Yg,h3];rfl,by rw[Zh,Zh,h5],λ H c hc=>?_⟩;rcases Zi.mp hc with rfl|hc
  · exact .s h
  · exact h4 H c hc
theorem Od.dct{K}{Hs H}{a}{kvs}{ds}(h:H a=some (.dK kvs))(n:Hs a=none)(r:RpK K Hs kvs ds)(nd:(ds.map (·.1)).Nodup):Od K Hs H [a] (.ref a) (dM ds):=by
 obtain⟨ts,h1,h2,h3,h5,h4⟩:=K2 r;have:=Od.n (dx:=0) h (by rw[h1];exact .d _) n (by show(ts.map Kd.k).Nodup;rw[h5];exact nd) (by rw[h3];simp) (h4 H);rw[h2,h3]at this;exact this
theorem Ii{X}{e}{g}(h:Bx (PEo X e g)):Bx (PVm X e (eOD g)):=⟨PE.imp h.out λ σ H Q w0=>g83 w0 λ Hs0 H0 nf ρ Hs τ s τ' r e k=>by
 obtain⟨d,e1,e2⟩:=Ub e;split at e2
 ·split at e2
  ·rename_i nd
   cases e2;obtain⟨fp,st⟩:=r.st;refine⟨H0,Hs,er τ,[],_,st.er,r.sm,e1,λ a Hs' H' g1 ow hn=>?_⟩
   cases ow with
   |dct h n rr=>exact k _ Hs' H' g1.hh ⟨(r.ext' g1).ext,_,.mu (Od.dct h n rr nd) (λ e=>by cases e) (λ c hc=>by rw[Zy.mp hc];exact r.old hn) (λ c hc=>by rw[Zy.mp hc];exact st.new hn) (st.ext g1)⟩
  · cases e2
 · cases e2⟩
noncomputable def CP(px:DPx)(g:DE):DSm:=λ τ=>(px τ).bind λ p=>(g (er τ)).bind λ d=>match d,a6 τ p.1 p.2 with
 |.lst ds,some (.n .l cs)=>if cs.length+ds.length<100000 then some (.next (cX τ p.1 p.2 (.n .l (cs++ds.map λ d=>(.inl 0,.s d))))) else none
 |_,_=>none
theorem yd{X}{e o}{px}{g}{pos Qw Qx}(ho:Bx (PXm X o px))(he:Bx (PEd X e g))(Q1:Ug X o "extend":=by rfl)(Qy:Uh X e Qx:=by rfl)(Qz:Ui Qw Qx:=by rfl)(hst:Se X e []:=by rfl)(Q0:Sb X Qx []:=by rfl)(hs:swapsWith (.Call (.Attribute o "extend" Qw) [e] [] Qx) none pos.line X.env=pure false:=by rfl):Bx (PSm X (.Expr (.Call (.Attribute o "extend" Qw) [e] [] Qx) pos) (CP px g)):=⟨have ho:=ho.out;have he:=he.out;(fG (zG Wb PySem.F.slot_list_extend PySem.F.type_list_extend Aq ho (be he dB hst) Q1 Qy Qz hst Q0) hs).imp λ E σ H w0=>g73 w0 λ Hs0 H0 nf ρ Hs τ o r e k=>by
 obtain⟨⟨i,q⟩,e1,e9⟩:=Ub e;obtain⟨d,e2,e8⟩:=Ub e9;split at e8
 ·rename_i ds cs en
  split at e8
  ·rename_i hz
   cases e8;refine⟨Hs0,H0,nf,ρ,Hs,τ,i,q,_,r,e1,en,λ rt v1 H1 g1 hrt hq=>⟨(r.grow g1).isList en hrt hq,?_⟩⟩;have r1:=r.grow g1;obtain⟨fp,st⟩:=r1.st;refine⟨H0,Hs,er τ,[],_,st.er,r1.sm,e2,λ y Hs2 H2 g2 ry=>?_⟩
   cases ry with
   |@lst b zs _ hb rz=>
   have r2:=r1.ext' g2;obtain⟨a,dx,ts,u,rfl,rfl,ha,hl,ku,hrp,fin⟩:=r2.qT en hrt (bF g2.hh q hq);rw[t7 hl]at ha;rw[Za]at hz;refine⟨a,b,_,zs,rfl,rfl,ha,g2.sh _ _ hb,by rw[Za,rz.length];exact yr (Yo hz),?_⟩;obtain⟨ks,k1,k2,k3,k4⟩:=K1 rz;have kv1:ks.map Kd.v=zs:=by rw[<- k1,Yb];rfl
   have kf:∀ c ∈ ks,c.fp=[]:=λ c hc=>by
    have:=List.flatMap_eq_nil_iff.mp k3 c hc;exact this
   have:=fin ts ks (.lst (ts.map Kd.v++zs)) (.refl _) (λ c hc=>⟨kf c hc,by have:=k4 H2 c hc;rw[kf c hc]at this;exact this⟩) (by
    have:=vF (dx:=dx) (ts:=ts++ks);rw[Zq (f:=Kd.v),kv1]at this
    exact this) trivial
   rw[Zq,k2]at this;exact k σ Hs2 _ this
  · cases e8
 · cases e8⟩
mutual
def okP:Nat->D->Bool
 |_,.non=>true
 |_,.bl _=>true
 |_,.int _=>true
 |_,.str x=>PyData.strOk x
 |n+1,.tup ds=>xl n ds
 |_,_=>false
def xl:Nat->Ry D->Bool
 |_,[]=>true
 |n,d::ds=>okP n d&&xl n ds
end
def Kp:D->D->Rz D
 |.tup xs,.tup ys=>if okP 9 (.tup xs)=true/\okP 9 (.tup ys)=true/\(xs.isEmpty||ys.isEmpty)=true then some (.bl (xs.isEmpty&&ys.isEmpty)) else none
 |_,_=>none
section
variable{X:Cx}{Qv:Ry (RB×Obj)}{σ:St}{H:Hp}{s:RD}
mutual
theorem zZ (I:Inv X Qv σ H s):∀ {v:V} {d:D} {u:RA} (n:Nat),Rp X.K H v d->okP n d=true->RelV v u->∃ p as,Reads s.heap u p as/\p.canLay0=true/\p.depth<=n/\∀ xs,d=.tup xs->∃ ps,p=.tuple ps/\ps.length=xs.length
 |_,_,u,_,.non,_,rv=>by cases(show u=Value.none from rv);exact⟨_,_,.none,rfl,Z0 _,nofun⟩
 |_,_,u,_,.bl b,_,rv=>by cases(show u=Value.bool b from rv);exact⟨_,_,.bool b,rfl,Z0 _,nofun⟩
 |_,_,u,_,.int i,_,rv=>by obtain⟨t,rfl⟩:=(show ∃ t,u=Value.int i t from rv);exact⟨_,_,.int i t,rfl,Z0 _,nofun⟩
 |_,_,u,_,.str x,o,rv=>by obtain⟨t,rfl⟩:=(show ∃ t,u=Value.str x t from rv);simp only[okP]at o;exact⟨_,_,.str x t,o,Z0 _,nofun⟩
 |_,_,u,n,.tup (a:=a) h r,o,rv=>by
  cases n with
  |zero=>simp[okP]at o
  |succ n=>
   simp only[okP]at o;cases(show u=Value.ref a from rv);obtain⟨its,vs,p,_⟩:=I.tuple h;obtain⟨ps,as,q,h1,h2,h3⟩:=zY I n r o vs;obtain⟨ob,g1,g2,m,g3⟩:=p;refine⟨_,as,reads_tuple_at g1 g2 g3 (by simpa using q),h1,Nat.succ_le_succ h2,λ xs e=>⟨ps,rfl,?_⟩⟩;cases e;exact h3
 |_,_,_,_,.lst _ _,o,_=>by simp[okP]at o
 |_,_,_,_,.ty _,o,_=>by simp[okP]at o
 |_,_,_,_,.cls _,o,_=>by simp[okP]at o
 |_,_,_,_,.dct _ _,o,_=>by simp[okP]at o
 |_,_,_,_,.fz _ _,o,_=>by simp[okP]at o
 |_,_,_,_,.obj _ _,o,_=>by simp[okP]at o
 |_,_,_,_,.dfz _ _,o,_=>by simp[okP]at o
theorem zY (I:Inv X Qv σ H s):∀ {vs:Ry V} {ds:Ry D} {us:Ry RA} (n:Nat),Rps X.K H vs ds->xl n ds=true->bQ vs us->∃ ps as,ReadsAll s.heap us ps as/\PyData.canLayAll0 ps=true/\PyData.depthAll ps<=n/\ps.length=ds.length
 |_,_,_,_,.nil,_,.nil=>⟨[],_,.nil,rfl,Z0 _,rfl⟩
 |_,_,_,n,.cons h r,o,.cons rv rs=>by
  simp only[xl,Yd]at o;obtain⟨p,as,q,h1,h2,_⟩:=zZ I n h o.1 rv;obtain⟨ps,bs,q',g1,g2,g3⟩:=zY I n r o.2 rs;refine⟨p::ps,_,.cons q q',?_,Nat.max_le.mpr ⟨h2,g2⟩,Z6 (·+1) g3⟩;show(p.canLay0&&_)=true;rw[h1,g1];rfl
end
theorem Nk(hu:X.A.units+80<cLine):OpR X (compareOp .Eq) (rdR X.K Kp):=by
 intro Qv s σ H x y v u Q I rx ry h;obtain⟨Hs,dx,dy,d,sm,hx,hy,e,k⟩:=h;unfold Kp at e;split at e
 ·rename_i xs ys
  split at e
  ·rename_i hc
   cases e;obtain⟨p,as,r1,l1,d1,f1⟩:=zZ I 9 (hx.same sm) hc.1 rx;obtain⟨q,bs,r2,l2,d2,f2⟩:=zZ I 9 (hy.same sm) hc.2.1 ry
   have sh:∀{p:PyData},p.canLay0=true->p.depth<=9->SeqAt.shaped p=true:=λ l d=>by
    unfold SeqAt.shaped;rw[l,Bool.true_and];exact Zk (Zu d (by decide))
   refine eq_dataH r1 r2 (sh l1 d1) (sh l2 d2) (by lia) ⟨.bl _,H,I,rfl,?_⟩;obtain⟨ps,rfl,e1⟩:=f1 xs rfl;obtain⟨qs,rfl,e2⟩:=f2 ys rfl
   have ev:PyData.eqv (.tuple ps) (.tuple qs)=(xs.isEmpty&&ys.isEmpty):=by
    have hz:=hc.2.2
    cases xs with
    |nil=>cases ps with
     |cons=>cases e1
     |nil=>cases ys with
      |nil=>cases qs with
       |nil=>simp[PyData.eqv,PyData.eqvAll]
       |cons=>cases e2
      |cons=>cases qs with
       |nil=>cases e2
       |cons=>simp[PyData.eqv,PyData.eqvAll]
    |cons=>cases ps with
     |nil=>cases e1
     |cons=>cases ys with
      |nil=>cases qs with
       |nil=>simp[PyData.eqv,PyData.eqvAll]
       |cons=>cases e2
      |cons=>cases hz
   rw[ev];exact k _ Hs H (.refl sm) (.bl _)
  · cases e
 · cases e
end
theorem yf{X:Cx}{e:Expr}{f:DE}{p pos:Pos}(hh:X.A.handled=none)(hm:X.mg "sorted"=none)(he:Bx (PEd X e f))(hg:Gl X "sorted":=by rfl)(hst:Se X e []:=by rfl)(hpl:Sb X pos []:=by rfl):Bx (PEo X (.Call (.Name "sorted" p) [e] [] pos) (BC f)):=Ek hh hg hm he hst hpl
end L2
end
section
namespace N24
open PySem L2
def Ca:D:=(.tup ((["ink","size","wide","least","most","grow","shrink","gap","pad","tall","flow","spread","stand"]:Ry Str).map .str))
def iL:D:=(.tup ((["size","wide","least","most","grow","shrink","gap","pad","tall"]:Ry Str).map .str))
def sX:D:=(.tup ((["wide","least","most"]:Ry Str).map .str))
def nY:D:=(.tup ((["ink","size"]:Ry Str).map .str))
def Uc(i:Nat):Stmt:=PySem.Challenge.pw_stylehouse_k24_told_values.main.body.getD i (.Pass ⟨0,0,0,0⟩)
noncomputable def IC:Ry (Key×D):=(([("wide",["auto"]),("most",["none"]),("flow",["stack","row","wrap","fair"]),("spread",["left","middle","right","apart"]),("stand",["top","middle","bottom","full"])]:Ry (Str×Ry Str)).map λ p=>(p.1,D.tup (p.2.map .str))).map λ p=>((Sum.inr p.1:Key),p.2)
abbrev qL:Str:=(("ranked":Str)++".<locals>.")++"<lambda>"
abbrev pL:Pos:=⟨119,44,119,62⟩
structure Adr where
 cQ:Addr
 aj:Addr
 aE:Addr
 Iv:Addr
 b5:Addr
structure Txt (w:World) (K:W.Frag) (mg:Str->Option Value) (t:Adr):Prop where
 Ax:mg "Trait"=some (.ref t.cQ)
 js:Cls K t.cQ
 fJ:cT K t.cQ "told"
 E3:mg "Tree"=some (.ref t.aj)
 aL:Cls K t.aj
 fI:cT K t.aj "given"
 cL:cT K t.aj "names"
 dR:cT K t.aj "holders"
 dF:cT K t.aj "boxes"
 cM:cT K t.aj "marks"
 jk:cT K t.aj "words"
 de:cT K t.aj "rows"
 Ay:mg "Sheet"=some (.ref t.aE)
 bN:Cls K t.aE
 eZ:cT K t.aE "given"
 bL:cT K t.aE "rules"
 rW:Df K mg "_law_props" (Uc 67) []
 nQ:Df K mg "trait_weight" (Uc 12) ["told"]
 Bo:Df K mg "is_name" (Uc 36) ["thing"]
 xK:Df K mg "is_whole" (Uc 38) ["thing"]
 rP:Df K mg "check_prop" (Uc 45) ["prop"]
 rT:Df K mg "_law_texts" (Uc 66) ["_law_mixed_here"]
 rR:Df K mg "_law_words" (Uc 68) ["_law_prop"]
 pO:Df K mg "_law_weight" (Uc 72) ["_law_traits_here"]
 uf:Df K mg "is_handed" (Uc 46) ["prop"]
 rQ:Df K mg "check_name" (Uc 57) ["name"]
 xJ:Df K mg "trait_of" (Uc 9) ["told"]
 Bj:Df K mg "told_by" (Uc 52) ["winners"]
 ue:Df K mg "weight_of" (Uc 15) ["pattern"]
 rO:Df K mg "check_rows" (Uc 62) ["rows"]
 N5:Lf K mg "law" (Uc 80) "_law_script"
 pN:Df K mg "check_place" (Uc 58) ["place","row"]
 um:Df K mg "_law_cell" (Uc 64) ["_law_script","_law_k"]
 uj:Df K mg "_law_same" (Uc 76) ["_law_found","_law_due_here"]
 Bn:Df K mg "is_word" (Uc 48) ["prop","word"]
 xN:Df K mg "is_ratio" (Uc 49) ["top","bottom"]
 rX:Df K mg "_law_mixed" (Uc 65) ["_law_script","_law_k"]
 rN:Df K mg "holders_of" (Uc 4) ["tree","box"]
 rM:Df K mg "own_claims" (Uc 23) ["tree","box"]
 xM:Df K mg "is_value" (Uc 47) ["prop","value"]
 xO:Df K mg "depth_of" (Uc 5) ["tree","box"]
 pK:Df K mg "rule_claims" (Uc 24) ["number","rule","weight"]
 pP:Df K mg "_law_traits" (Uc 71) ["_law_mixed_here","_law_names","_law_marks"]
 xP:Df K mg "_law_has" (Uc 73) ["_law_traits_here","_law_name","_law_mark"]
 rS:Df K mg "_law_value" (Uc 69) ["_law_prop","_law_mixed_here","_law_cell_here"]
 ug:Df K mg "has_trait" (Uc 10) ["tree","box","told"]
 Bp:Df K mg "has_all" (Uc 19) ["tree","box","traits"]
 D0:Df K mg "fitted" (Uc 14) ["tree","pattern","boxes"]
 nR:Df K mg "rule_weights" (Uc 25) ["tree","rule","boxes"]
 pM:DfC K mg "ranked" (Uc 22) ["tree","sheet","boxes"] t.b5
 rL:Df K mg "winners_of" (Uc 21) ["tree","sheet","boxes"]
 Bi:Df K mg "told_of" (Uc 51) ["tree","sheet","box"]
 uk:Df K mg "_law_rows" (Uc 70) ["_law_script","_law_k","_law_many","_law_near"]
 rV:Df K mg "_law_rules" (Uc 79) ["_law_script","_law_names","_law_marks","_law_near"]
 uh:Df K mg "_law_tree" (Uc 78) ["_law_script","_law_names","_law_marks","_law_near"]
 rY:Df K mg "_law_asked" (Uc 77) ["_law_tree_here","_law_sheet","_law_rules_here","_law_boxes"]
 pQ:Df K mg "_law_claims" (Uc 74) ["_law_rules_here","_law_own","_law_name","_law_mark","_law_prop"]
 xQ:Df K mg "_law_due" (Uc 75) ["_law_rules_here","_law_own","_law_name","_law_mark","_law_prop"]
 Bl:Df K mg "reaches" (Uc 16) ["tree","pattern","place","box","known"]
 Bm:Df K mg "link_of" (Uc 17) ["tree","pattern","place","box","known"]
 lp:If K t.aE "Sheet.__init__" (inClass (Uc 61) 0) ["self"]
 ll:If K t.cQ "Trait.__init__" (inClass (Uc 8) 0) ["self","told"]
 mH:If K t.aj "Tree.__init__" (inClass (Uc 56) 0) ["self","name"]
 mJ:Mf K t.aE "numbers" "Sheet.numbers" (inClass (Uc 61) 5) ["self"]
 nV:Mf K t.cQ "weight" "Trait.weight" (inClass (Uc 8) 2) ["self"]
 r9:Mf K t.aj "check" "Tree.check" (inClass (Uc 56) 2) ["self","box"]
 pR:Mf K t.aE "check" "Sheet.check" (inClass (Uc 61) 1) ["self","number"]
 nU:Mf K t.aj "name_of" "Tree.name_of" (inClass (Uc 56) 11) ["self","box"]
 mG:Mf K t.aj "marks_of" "Tree.marks_of" (inClass (Uc 56) 12) ["self","box"]
 nS:Mf K t.aj "rows_of" "Tree.rows_of" (inClass (Uc 56) 14) ["self","box"]
 lg:Mf K t.aj "holder_of" "Tree.holder_of" (inClass (Uc 56) 15) ["self","box"]
 se:Mf K t.aE "drop" "Sheet.drop" (inClass (Uc 61) 3) ["self","number"]
 mI:Mf K t.aE "rule_of" "Sheet.rule_of" (inClass (Uc 61) 4) ["self","number"]
 uq:Mf K t.aE "add" "Sheet.add" (inClass (Uc 61) 2) ["self","rule"]
 rZ:Mf K t.aj "enter" "Tree.enter" (inClass (Uc 56) 1) ["self","holder","name"]
 r6:Mf K t.aj "dress" "Tree.dress" (inClass (Uc 56) 9) ["self","box","rows"]
 uo:Mf K t.aj "mark" "Tree.mark" (inClass (Uc 56) 6) ["self","box","word"]
 sd:Mf K t.cQ "fits" "Trait.fits" (inClass (Uc 8) 1) ["self","tree","box"]
 xR:Mf K t.aj "put" "Tree.put" (inClass (Uc 56) 3) ["self","holder","place","name"]
 Mn:mg "all"=none
 Pc:mg "any"=none
 Eo:mg "bool"=none
 IX:mg "dict"=none
 lJ:mg "enumerate"=none
 Mm:mg "int"=none
 bR:mg "isinstance"=none
 c8:mg "len"=none
 Oz:mg "list"=none
 IW:mg "max"=none
 fw:mg "range"=none
 oN:mg "sorted"=none
 FF:mg "str"=none
 s9:mg "tuple"=none
 nJ:Ic mg "LONGEST_NAME" 8
 tD:Kc K mg "PROPS" Ca
 eY:Kc K mg "NUMBER_PROPS" iL
 qz:Kc K mg "PART_PROPS" sX
 nz:Kc K mg "HANDED_PROPS" nY
 qZ:Ic mg "MOST_BOXES" 90
 tY:Ic mg "MOST_DEEP" 12
 qY:Ic mg "MOST_RULES" 40
 t9:Kd2 w K mg "WORDS" t.Iv IC
abbrev gOD(f:∀(P:Program) (w:World) (K:RC) (mg:Str->Rz RA) (base:Heap),DS->Prop)(t:Adr):Type:={G:DS // ∀{P w K mg base},Txt w K mg t->f P w K mg base G}
abbrev gO0(f:∀(P:Program) (w:World) (K:RC) (mg:Str->Rz RA) (base:Heap),DS->Prop):Type:={G:DS // ∀{t P w K mg base},Txt w K mg t->f P w K mg base G}
abbrev gFD(k:Nat)(x:Str)(n m:Nat)(P:Program)(w:World)(K:RC)(mg:Str->Rz RA)(base:Heap)(G:DS):Prop:=Go P w K mg base k x (spF (cH n m G) K)
abbrev gMD(k:Nat)(C:RB)(x:Str)(n m:Nat)(P:Program)(w:World)(K:RC)(mg:Str->Rz RA)(base:Heap)(G:DS):Prop:=GoM P w K mg base k C x (spF (cH n m G) K)
abbrev gOM(f:∀(P:Program) (w:World) (K:RC) (mg:Str->Rz RA) (base:Heap),DSm->Prop)(t:Adr):Type:={G:DSm // ∀{P w K mg base},Txt w K mg t->f P w K mg base G}
abbrev gMM(k:Nat)(C:RB)(x:Str)(n m:Nat)(P:Program)(w:World)(K:RC)(mg:Str->Rz RA)(base:Heap)(G:DSm):Prop:=GoM P w K mg base k C x (spM (iA n m G) K)
abbrev gIM(k:Nat)(C:RB)(n m:Nat)(P:Program)(w:World)(K:RC)(mg:Str->Rz RA)(base:Heap)(G:DSm):Prop:=GoI P w K mg base k C (spM (iA n m G) K)
abbrev Ue(k:Nat)(x:Str)(F:Ry D->Rz Sl):Prop:=∀{P w K mg base t},Txt w K mg t->Go P w K mg base k x (spF F K)
abbrev Uf(k:Nat)(x:Str)(F:Adr->Ry D->Rz Sl):Prop:=∀{P w K mg base t},Txt w K mg t->Go P w K mg base k x (spF (F t) K)
section
variable{P:Program}{w:World}{K:RC}{mg:Str->Rz RA}{base:Heap}{t:Adr}
set_option maxHeartbeats 0
theorem kY(T:Txt w K mg t):GoI P w K mg base 1 t.cQ (yJ t.cQ ["told"]):=by
 obtain⟨a,d,F,m,bi⟩:=T.ll;refine⟨a,d,_,m,bi,?_⟩;refine F.ok (N:=["self","told"]) ⟨rfl,rfl,rfl,by decide +kernel,rfl,by decide +kernel,by decide +kernel⟩ (λ vs H Q E h=>?_) (λ cdv A outer s H vs Q E hr h=>?_)
 ·obtain ⟨x,ws,dx,rfl,hl,_⟩:=h
  exact Z6 (·+1) hl
 obtain⟨x,ws,dx,rfl,hl,hH,q⟩:=h
 obtain⟨v0,rfl⟩:∃ v0:V,ws=[v0]:=by
  match ws,hl with
  |[v0],_=>exact⟨v0,rfl⟩
 refine⟨_,(iM (EL (pv 0) (pv 1) rfl)),?_⟩;refine⟨_,rfl,_,rfl,x,_,dx,_,rfl,hH,T.js,T.fJ,(by show 0<1000;decide),?_⟩;exact q
noncomputable def iE:gO0 (gFD 1 "trait_weight" 2 1):=⟨_,λ T=>oD ["told","kind"] T.nQ λ hr nd=>
 (ab (gJ 1 nd (cU 0)) (ab (aC (cb (aa 1) ai) (ag (ao (az (cV ae ae)))) ak) (ab (aC (cb (aa 1) ai) (ag (ao (az (cV ae ae)))) ak) (ab (aC (cb (aa 1) ai) (ag bg) ak) (ab (aC (cb (aa 1) ai) (ag bg) ak) (ag (ao (az (cV ae ae)))))))))⟩
def iI:=cH 2 1 (iE).1
def nD:Ue 1 "trait_weight" iI:=iE.2
noncomputable def fX:gO0 (gFD 1 "rule_claims" 8 3):=⟨_,λ T=>oD ["number","rule","weight","found","place","row","layer","rank"] T.pK λ hr nd=>
 (ab (br 3 nd (he:=aR a9)) (ab (aZ (mR T.lJ (bC (cU 1))) (mS (n:=2) (c6 (aN 4 nd) (c6 (aN 5 nd) jT))) (ab (gJ 6 nd (B0 (bw (cU 5)) (cU 1) (jy (cU 1)))) (ab (gJ 7 nd (az (aw (pY (cU 5)) (aw ae (aw (aa 6) (eG (az (cV (jy (cU 2)) (jy (cU 2)))) (jy (aa 0)) (jy (aa 4)))))))) (ag (dh 3 (he:=az (eG (aa 7) (cU 5) (az (eG (aa 0) (aa 4) (cU 5)))))))))) (ag (c5 3))))⟩
def dH:=cH 8 3 (fX).1
def pd:Ue 1 "rule_claims" dH:=fX.2
noncomputable def mY:gO0 (gFD 1 "is_name" 1 1):=⟨_,λ T=>oD ["thing"] T.Bo λ hr nd=>
 (ab (aC (bJ (bw (aD su T.bR (cV (aa 0) (gM (n:="str") T.FF))))) (ag (ao bB)) ak) (ab (aC (bJ (iV EW EW ae (aD eC T.c8 (bC (aa 0))) (Mc T.nJ))) (ag (ao bB)) ak) (ag (ao (aD (Oi rfl) T.Mn (bC (bc (BU ck0 (BY (aa 0)) (λ _ _ _ _=>(jV Kk Kk ai (aa 0) ai))))))))))⟩
def ng:=cH 1 1 (mY).1
def qI:Ue 1 "is_name" ng:=mY.2
def oH:gO0 (gFD 1 "is_whole" 1 1):=⟨_,λ T=>oD ["thing"] T.xK λ hr nd=>
 (ag (ao (fW (aD su T.bR (cV (aa 0) (gM (n:="int") T.Mm))) (il (pY (aD su T.bR (cV (aa 0) (gM (n:="bool") T.Eo))))))))⟩
def yo:=cH 1 1 (oH).1
def og:Ue 1 "is_whole" yo:=oH.2
def kH:gO0 (gFD 1 "check_prop" 1 1):=⟨_,λ T=>oD ["prop"] T.rP λ hr nd=>
 (ag (aC (wA (aa 0) (Fx T.tD)) (ag bg) ak))⟩
def sW:=cH 1 1 (kH).1
def qM:Ue 1 "check_prop" sW:=kH.2
noncomputable def gU(t:Adr):gOM (gMM 1 t.aj "enter" 4 3) t:=⟨_,λ T=>oMm ["self","holder","name","box"] T.rZ λ hr nd=>
 (ah (aS 3 nd (he:=aA (oC (bK T.aL T.fI (aa 0))))) (ah (cj T.aL T.fI (aI 0) (aA (bz (cR (aa 3) ae)))) (ah (bE (fc hr) (cN T.aL T.cL (aI 0)) (aa 3) (aA (bz (aa 2)))) (ah (bE (fc hr) (cN T.aL T.dR (aI 0)) (aa 3) (aA (bz (aa 1)))) (ah (bE (fc hr) (cN T.aL T.dF (aI 0)) (aa 3) (aA (wD (aR a9)))) (ah (bE (fc hr) (cN T.aL T.cM (aI 0)) (aa 3) (aA dX)) (ah (bE (fc hr) (cN T.aL T.jk (aI 0)) (aa 3) (aA (wD (aR a9)))) (ah (bE (fc hr) (cN T.aL T.de (aI 0)) (aa 3) (aA (bz (az a9)))) (aJ (bX (aA (bz (aa 3)))))))))))))⟩
def hU(t:Adr):=iA 4 3 (gU t).1
def kn(T:Txt w K mg t):GoM P w K mg base 1 t.aj "enter" (spM (hU t) K):=(gU t).2 T
def kP(t:Adr):gOD (gMD 1 t.aj "check" 2 2) t:=⟨_,λ T=>oDm ["self","box"] T.r9 λ hr nd=>
 (ag (aC (gL hr.units rfl (aa 1) (bK T.aL T.cL (aa 0))) (ag bg) ak))⟩
def hW(t:Adr):=cH 2 2 (kP t).1
def b8(T:Txt w K mg t):GoM P w K mg base 1 t.aj "check" (spF (hW t) K):=(kP t).2 T
def jB:gO0 (gFD 1 "check_place" 2 2):=⟨_,λ T=>oD ["place","row"] T.pN λ hr nd=>
 (ag (aC (bJ (iV EW EW ae (aa 0) (aD eC T.c8 (bC (aa 1))))) (ag bg) ak))⟩
def jE:=cH 2 2 (jB).1
def pe:Ue 1 "check_place" jE:=jB.2
def dw(t:Adr):gOM (gIM 1 t.aE 1 1) t:=⟨_,λ T=>oMi ["self"] T.lp λ hr nd=>
 (ah (cj T.bN T.eZ (aI 0) (aA (bz ae))) (aJ (cj T.bN T.bL (aI 0) (aA dX))))⟩
def dA(t:Adr):=iA 1 1 (dw t).1
def kZ(T:Txt w K mg t):GoI P w K mg base 1 t.aE (spM (dA t) K):=(dw t).2 T
def f6(t:Adr):gOD (gMD 1 t.aE "check" 2 2) t:=⟨_,λ T=>oDm ["self","number"] T.pR λ hr nd=>
 (ag (aC (gL hr.units rfl (aa 1) (bK T.bN T.bL (aa 0))) (ag bg) ak))⟩
def jF(t:Adr):=cH 2 2 (f6 t).1
def jh(T:Txt w K mg t):GoM P w K mg base 1 t.aE "check" (spF (jF t) K):=(f6 t).2 T
def d8(t:Adr):gOD (gMD 1 t.aE "numbers" 1 1) t:=⟨_,λ T=>oDm ["self"] T.mJ λ hr nd=>
 (ag (jS (yf hr.hd T.oN (bK T.bN T.bL (aa 0)))))⟩
def eA(t:Adr):=cH 1 1 (d8 t).1
def l5(T:Txt w K mg t):GoM P w K mg base 1 t.aE "numbers" (spF (eA t) K):=(d8 t).2 T
noncomputable def m6:gO0 (gFD 1 "_law_cell" 2 2):=⟨_,λ T=>oD ["_law_script","_law_k"] T.um λ hr nd=>
 (ab (aC (Ia (aa 1) (aD eC T.c8 (bC (aa 0)))) (ag (ao (aM (aa 0) (aa 1)))) ak) (ab (aC (cb (aD eC T.c8 (bC (aa 0))) ae) (ag (ao (aa 1))) ak) (ag (ao (cR (kE (aM (aa 0) (bP (aa 1) (aD eC T.c8 (bC (aa 0))))) ae) (aa 1))))))⟩
def jb:=cH 2 2 (m6).1
def lX:Ue 1 "_law_cell" jb:=m6.2
noncomputable def gQ(t:Adr):gOD (gFD 1 "_law_texts" 7 1) t:=⟨_,λ T=>oD ["_law_mixed_here","_law_letters","_law_first","_law_size","_law_k","_law_at","_law_other"] T.rT λ hr nd=>
 (ab (gJ 1 nd ai) (ab (gJ 2 nd ai) (ab (gJ 3 nd (cR ae (bP (aa 0) ae))) (ab (aZ (ck T.fw (bC (aa 3))) (aN 4 nd) (ab (gJ 0 nd (bP (cR (kE (aa 0) ae) ae) ae)) (ag (gJ 2 nd (cR (aa 2) (aM (aa 1) (bP (aK (aa 0) ae) ae))))))) (ab (gJ 5 nd (bP (aa 0) (aa 3))) (ab (gJ 6 nd (aM (aa 1) (bP (cR (cR (B1 (aa 1) (aM (aa 2) (aa 5))) ae) (bP (aK (aa 0) ae) ae)) ae))) (ag (ao (bc (aR (cV (aa 2) (cR (cR (wF (aa 2) oA (ij (aa 5))) (aa 6)) (wF (aa 2) (ij (cR (aa 5) ae)) oA)))))))))))))⟩
def g8(t:Adr):=cH 7 1 (gQ t).1
def kj:Uf 1 "_law_texts" g8:=(gQ _).2
noncomputable def kK:gO0 (gFD 1 "_law_props" 1 0):=⟨_,λ T=>oD ["_law_some"] T.rW λ hr nd=>
 (ab (gJ 0 nd (bc (aR (aw ai (aw ai (aw ai (aw ai (aw ai (aw ai (aw ai (eG ai ai ai))))))))))) (ag (ao (cR (aa 0) (bc (aR (eG ai ai ai)))))))⟩
def g9:=cH 1 0 (kK).1
def eE:Ue 1 "_law_props" g9:=kK.2
noncomputable def kJ:gO0 (gFD 1 "_law_words" 2 1):=⟨_,λ T=>oD ["_law_prop","_law_told"] T.rR λ hr nd=>
 (ab (br 1 nd (he:=BS (oz ai (bc (aR (aw ai (eG ai ai ai)))) (oz ai (bc (aR (aw ai (eG ai ai ai)))) BR)))) (ab (bY 1 hr.units (hval:=bc (aR (aw ai (eG ai ai ai)))) (hi:=ai)) (ab (bY 1 hr.units (hval:=bc (aR (bC ai))) (hi:=ai)) (ab (bY 1 hr.units (hval:=bc (aR (bC ai))) (hi:=ai)) (ab (bY 1 hr.units (hval:=bc (aR (aw ai (aw ai (eG ai ai ai))))) (hi:=ai)) (ag (ju 1 (ao (sJ hr.units (aa 1) (aa 0) (bc (aR a9)))))))))))⟩
def g6:=cH 2 1 (kJ).1
def gy:Ue 1 "_law_words" g6:=kJ.2
noncomputable def fY:gO0 (gFD 1 "_law_traits" 4 3):=⟨_,λ T=>oD ["_law_mixed_here","_law_names","_law_marks","_law_way"] T.pP λ hr nd=>
 (ab (gJ 3 nd (bP (aa 0) ae)) (ab (aC (cb (aa 3) ae) (ag (ao (az a9))) ak) (ab (aC (cb (aa 3) ae) (ag (ao (az (bC (az (bC ai)))))) ak) (ab (aC (Ia (aa 3) ae) (ag (ao (az (bC (az (cV ai (aM (aa 1) (bP (aa 3) ae)))))))) ak) (ab (aC (cb (aa 3) ae) (ag (ao (az (bC (az (cV ai (aM (aa 2) (bP (aK (aa 0) ae) ae)))))))) ak) (ag (ao (az (cV (az (cV ai (aM (aa 2) (bP (aK (aa 0) ae) ae)))) (az (cV ai (aM (aa 1) (bP (aK (aa 0) ae) ae)))))))))))))⟩
def f9:=cH 4 3 (fY).1
def jg:Ue 1 "_law_traits" f9:=fY.2
noncomputable def jC:gO0 (gFD 1 "_law_weight" 4 1):=⟨_,λ T=>oD ["_law_traits_here","_law_marks","_law_names","_law_trait"] T.pO λ hr nd=>
 (ab (gJ 1 nd ae) (ab (gJ 2 nd ae) (ab (aZ (cP (aa 0)) (aN 3 nd) (ab (aC (cb (cU 3) ai) (ag (jv 1 vK lA nd (he:=ae))) ak) (ag (aC (cb (cU 3) ai) (ag (jv 2 vK lA nd (he:=ae))) ak)))) (ag (ao (az (cV (aa 1) (aa 2))))))))⟩
def dI:=cH 4 1 (jC).1
def ph:Ue 1 "_law_weight" dI:=jC.2
noncomputable def jY:gO0 (gFD 1 "_law_has" 4 3):=⟨_,λ T=>oD ["_law_traits_here","_law_name","_law_mark","_law_trait"] T.xP λ hr nd=>
 (ab (aZ (cP (aa 0)) (aN 3 nd) (ag (aC (ba (cO (ba (dg (cb (cU 3) ai) (cJ (fS (cU 3) (aa 1))))) (cf (ba (dg (cb (cU 3) ai) (cJ (fS (cU 3) (aa 2)))))))) (ag (ao bB)) ak))) (ag (ao bB)))⟩
def fu:=cH 4 3 (jY).1
def xo:Ue 1 "_law_has" fu:=jY.2
noncomputable def m5:gO0 (gFD 1 "_law_same" 3 2):=⟨_,λ T=>oD ["_law_found","_law_due_here","_law_k"] T.uj λ hr nd=>
 (ab (aC (ba (cO (bJ (bw (aD su T.bR (cV (aa 0) (gM (n:="tuple") T.s9))))) (cf (fS (aD eC T.c8 (bC (aa 0))) (aD eC T.c8 (bC (aa 1))))))) (ag (ao bB)) ak) (ab (aZ (ck T.fw (bC (aD eC T.c8 (bC (aa 1))))) (aN 2 nd) (ag (aC (ba (cO (bw (aD su T.bR (cV (aM (aa 0) (aa 2)) (gM (n:="bool") T.Eo)))) (cf (fS (aD su T.bR (cV (aM (aa 0) (aa 2)) (gM (n:="str") T.FF))) (aD su T.bR (cV (aM (aa 1) (aa 2)) (gM (n:="str") T.FF))))))) (ag (ao bB)) ak))) (ag (ao (Md (aa 0) (aa 1))))))⟩
def nj:=cH 3 2 (m5).1
def tR:Ue 1 "_law_same" nj:=m5.2
def iH(t:Adr):gOD (gMD 2 t.cQ "weight" 1 1) t:=⟨_,λ T=>oDm ["self"] T.nV λ hr nd=>
 (ag (ao (au (nD T) hr (bC (bK T.js T.fJ (aa 0))))))⟩
def fg(t:Adr):=cH 1 1 (iH t).1
def nH(T:Txt w K mg t):GoM P w K mg base 2 t.cQ "weight" (spF (fg t) K):=(iH t).2 T
def mZ:gO0 (gFD 2 "is_handed" 1 1):=⟨_,λ T=>oD ["prop"] T.uf λ hr nd=>
 (ab (dN (au (qM T) hr (bC (aa 0)))) (ag (ao (Im (aa 0) (Fx T.nz)))))⟩
def ni:=cH 1 1 (mZ).1
def tO:Ue 2 "is_handed" ni:=mZ.2
noncomputable def sU:gO0 (gFD 2 "is_word" 2 2):=⟨_,λ T=>oD ["prop","word"] T.Bn λ hr nd=>
 (ab (aC (cb (aa 0) ai) (ag (ao (fW (au (qI T) hr (bC (aa 1))) (il (Il (aa 1) (az (cV ai ai))))))) ak) (ag (ao (Im (aa 1) (yh T.t9.1 T.t9.2 (aa 0) (az a9))))))⟩
def m9:=cH 2 2 (sU).1
def Af:Ue 2 "is_word" m9:=sU.2
noncomputable def jX:gO0 (gFD 2 "is_ratio" 2 2):=⟨_,λ T=>oD ["top","bottom"] T.xN λ hr nd=>
 (ab (aC (ba (cO (bJ (bw (au (og T) hr (bC (aa 0))))) (cf (bJ (bw (au (og T) hr (bC (aa 1)))))))) (ag (ao bB)) ak) (ag (ao (fW (jV EW Ng ae (aa 0) (yi ae ae)) (il (jV EW Ng ae (aa 1) (yi ae ae)))))))⟩
def j6:=cH 2 2 (jX).1
def jO:Ue 2 "is_ratio" j6:=jX.2
noncomputable def kN(t:Adr):gOM (gMM 2 t.aj "dress" 3 3) t:=⟨_,λ T=>oMm ["self","box","rows"] T.r6 λ hr nd=>
 (ah (bW (bA T.aL (b8 T) hr (aa 0) (bC (aa 1)))) (ah (dG (fT (cg (Nk hr.u80) (cm hr.units (λ _ _=>rfl) (bK T.aL T.de (aa 0)) (aa 1)) (aa 2))) (aJ (bX (aA (bz bB)))) cy) (ah (bE (fc hr) (cN T.aL T.de (aI 0)) (aa 1) (aA (bz (aa 2)))) (aJ (bX (aA (bz bB)))))))⟩
def kU(t:Adr):=iA 3 3 (kN t).1
def ko(T:Txt w K mg t):GoM P w K mg base 2 t.aj "dress" (spM (kU t) K):=(kN t).2 T
noncomputable def iG(t:Adr):gOD (gMD 2 t.aj "name_of" 2 2) t:=⟨_,λ T=>oDm ["self","box"] T.nU λ hr nd=>
 (ab (dN (bA T.aL (b8 T) hr (aa 0) (bC (aa 1)))) (ag (ao (cm hr.units (λ _ _=>rfl) (bK T.aL T.cL (aa 0)) (aa 1)))))⟩
def iK(t:Adr):=cH 2 2 (iG t).1
def nG(T:Txt w K mg t):GoM P w K mg base 2 t.aj "name_of" (spF (iK t) K):=(iG t).2 T
noncomputable def gS(t:Adr):gOD (gMD 2 t.aj "marks_of" 2 2) t:=⟨_,λ T=>oDm ["self","box"] T.mG λ hr nd=>
 (ab (dN (bA T.aL (b8 T) hr (aa 0) (bC (aa 1)))) (ag (jS (ye hr.hd T.oN (cm hr.units (λ _ _=>rfl) (bK T.aL T.cM (aa 0)) (aa 1))))))⟩
def hG(t:Adr):=cH 2 2 (gS t).1
def lY(T:Txt w K mg t):GoM P w K mg base 2 t.aj "marks_of" (spF (hG t) K):=(gS t).2 T
noncomputable def iF(t:Adr):gOD (gMD 2 t.aj "rows_of" 2 2) t:=⟨_,λ T=>oDm ["self","box"] T.nS λ hr nd=>
 (ab (dN (bA T.aL (b8 T) hr (aa 0) (bC (aa 1)))) (ag (ao (cm hr.units (λ _ _=>rfl) (bK T.aL T.de (aa 0)) (aa 1)))))⟩
def iJ(t:Adr):=cH 2 2 (iF t).1
def nF(T:Txt w K mg t):GoM P w K mg base 2 t.aj "rows_of" (spF (iJ t) K):=(iF t).2 T
noncomputable def gn(t:Adr):gOD (gMD 2 t.aj "holder_of" 2 2) t:=⟨_,λ T=>oDm ["self","box"] T.lg λ hr nd=>
 (ab (dN (bA T.aL (b8 T) hr (aa 0) (bC (aa 1)))) (ag (ao (cm hr.units (λ _ _=>rfl) (bK T.aL T.dR (aa 0)) (aa 1)))))⟩
def cF(t:Adr):=cH 2 2 (gn t).1
def gh(T:Txt w K mg t):GoM P w K mg base 2 t.aj "holder_of" (spF (cF t) K):=(gn t).2 T
def kI:gO0 (gFD 2 "check_name" 1 1):=⟨_,λ T=>oD ["name"] T.rQ λ hr nd=>
 (ag (aC (bJ (bw (au (qI T) hr (bC (aa 0))))) (ag bg) ak))⟩
def kR:=cH 1 1 (kI).1
def gx:Ue 2 "check_name" kR:=kI.2
def gW(t:Adr):gOM (gMM 2 t.aE "drop" 2 2) t:=⟨_,λ T=>oMm ["self","number"] T.se λ hr nd=>
 (ah (bW (bA T.bN (jh T) hr (aa 0) (bC (aa 1)))) (aJ (bX (BV ⟨rfl,rfl,rfl,rfl⟩ (cN T.bN T.bL (aI 0)) (aa 1)))))⟩
def eW(t:Adr):=iA 2 2 (gW t).1
def qR(T:Txt w K mg t):GoM P w K mg base 2 t.aE "drop" (spM (eW t) K):=(gW t).2 T
noncomputable def d7(t:Adr):gOD (gMD 2 t.aE "rule_of" 2 2) t:=⟨_,λ T=>oDm ["self","number"] T.mI λ hr nd=>
 (ab (dN (bA T.bN (jh T) hr (aa 0) (bC (aa 1)))) (ag (ao (cm hr.units (λ _ _=>rfl) (bK T.bN T.bL (aa 0)) (aa 1)))))⟩
def cn(t:Adr):=cH 2 2 (d7 t).1
def l3(T:Txt w K mg t):GoM P w K mg base 2 t.aE "rule_of" (spF (cn t) K):=(d7 t).2 T
def kL:gO0 (gFD 2 "_law_mixed" 2 2):=⟨_,λ T=>oD ["_law_script","_law_k"] T.rX λ hr nd=>
 (ag (ao (bP (cR (kE (bP (au (lX T) hr (cV (aa 0) (aa 1))) ae) ae) ae) ae)))⟩
def cK:=cH 2 2 (kL).1
def bI:Ue 2 "_law_mixed" cK:=kL.2
noncomputable def eJ:gO0 (gFD 2 "_law_value" 5 3):=⟨_,λ T=>oD ["_law_prop","_law_mixed_here","_law_cell_here","_law_heads","_law_head"] T.rS λ hr nd=>
 (ab (br 3 nd (he:=aR (cV ai ai))) (ab (aC (fS (au (gy T) hr (bC (aa 0))) (bc (aR a9))) (ag (ju 3 (br 3 nd (he:=wC 3 (sF (aa 3) (bc (aR (cV ai ai)))))))) ak) (ab (aC (Ib (aa 0) (bc (Ig (iq (eE T) hr) (ij ae) (ij ae)))) (ag (ju 3 (br 3 nd (he:=wC 3 (sF (aa 3) (bc (aR (aw ai (eG ai ai ai))))))))) ak) (ab (aC (Ib (aa 0) (bc (aR (eG ai ai ai)))) (ag (dh 3 (he:=ai))) ak) (ab (gJ 4 nd (p4 3 (aM (aa 3) (bP (aa 1) (aD eC T.c8 (bC (aa 3))))))) (ab (aC (ba (cO (cb (aa 4) ai) (cf (cb (aa 4) ai)))) (ag (ao (az (bC (aa 4))))) ak) (ab (aC (cb (aa 4) ai) (ag (ao (az (cV (aa 4) (aM (au (gy T) hr (bC (aa 0))) (bP (aK (aa 1) ae) (aD eC T.c8 (bC (au (gy T) hr (bC (aa 0))))))))))) ak) (ab (aC (cb (aa 4) ai) (ag (ao (az (aw (aa 4) (eG (aM (iq (eE T) hr) (cR ae (bP (aK (aa 1) ae) ae))) (bP (aa 2) (yi ae ae)) (cR ae (bP (kE (aa 2) ae) (Ei (yi ae ae) ae)))))))) ak) (ag (ao (az (eG (aa 4) (bP (aa 2) (yi ae ae)) (cR ae (bP (kE (aa 2) ae) (Ei (yi ae ae) ae)))))))))))))))⟩
def g7:=cH 5 3 (eJ).1
def qO:Ue 2 "_law_value" g7:=eJ.2
noncomputable def fZ(t:Adr):gOD (gFD 2 "_law_claims" 12 5) t:=⟨_,λ T=>oD ["_law_rules_here","_law_own","_law_name","_law_mark","_law_prop","_law_some","_law_place","_law_number","_law_rule","_law_weights","_law_row","_law_height"] T.pQ λ hr nd=>
 (ab (br 5 nd (he:=aR a9)) (ab (aZ (ck T.fw (bC (aD eC T.c8 (bC (aa 1))))) (aN 6 nd) (ag (aC (cb (aM (aM (aa 1) (aa 6)) ae) (aa 4)) (ag (dh 5 (he:=az (cV (az (aw (aM (aM (aa 1) (aa 6)) ae) (aw bB (aw ae (eG (az (cV ae ae)) (jy ae) (aa 6)))))) (aM (aM (aa 1) (aa 6)) ae))))) ak))) (ab (aZ (sH (aa 0)) (mS (n:=2) (c6 (aN 7 nd) (c6 (aN 8 nd) jT))) (ab (sE 9 nd (ckN [("_law_name",2),("_law_mark",3)]) (hi:=cP (cU 8)) (hcd:=(λ _ _ _ _=>(bw (au (xo T) hr (eG (aM (cU 0) ae) (aa 1) (aa 2)))))) (he:=(λ _ _ _ _=>(au (ph T) hr (bC (aM (cU 0) ae)))))) (ag (aZ (ck T.fw (bC (aD eC T.c8 (bC (cU 8))))) (aN 6 nd) (ab (gJ 10 nd (aM (cU 8) (aa 6))) (ag (aC (ba (dg (fS (aa 9) (bc (aR a9))) (cJ (cb (cU 10) (aa 4))))) (ab (gJ 11 nd (cU 8)) (ab (aC (bw (cU 10)) (ag (gJ 11 nd (jy (aa 11)))) ak) (ag (dh 5 (he:=az (cV (az (aw (cU 10) (aw bB (aw (aa 11) (eG (aD (LK hr.units rfl) T.IW (bC (aa 9))) (aa 7) (aa 6)))))) (cU 10))))))) ak))))))) (ag (c5 5)))))⟩
def gb(t:Adr):=cH 12 5 (fZ t).1
def pj:Uf 2 "_law_claims" gb:=(fZ _).2
noncomputable def gP(t:Adr):gOD (gFD 3 "holders_of" 4 2) t:=⟨_,λ T=>oD ["tree","box","found","holder"] T.rN λ hr nd=>
 (ab (br 2 nd (he:=aR a9)) (ab (gJ 3 nd (bA T.aL (gh T) hr (aa 0) (bC (aa 1)))) (ab (uz (wB (aa 3) jx) (ab (dh 2 (he:=aa 3)) (ag (gJ 3 nd (bA T.aL (gh T) hr (aa 0) (bC (aa 3))))))) (ag (c5 2)))))⟩
def gZ(t:Adr):=cH 4 2 (gP t).1
def qJ:Uf 3 "holders_of" gZ:=(gP _).2
def oG(t:Adr):gOD (gFD 3 "trait_of" 1 1) t:=⟨_,λ T=>oD ["told"] T.xJ λ hr nd=>
 (ag (ao (BZ (kY T) hr T.Ax (bC (aa 0)))))⟩
def j3(t:Adr):=cH 1 1 (oG t).1
def oe:Uf 3 "trait_of" j3:=(oG _).2
noncomputable def iY(t:Adr):gOD (gFD 3 "has_trait" 6 3) t:=⟨_,λ T=>oD ["tree","box","told","kind","spot","place"] T.ug λ hr nd=>
 (ab (gJ 3 nd (cU 2)) (ab (aC (cb (aa 3) ai) (ag (ao bB)) ak) (ab (aC (cb (aa 3) ai) (ag (ao (Md (bA T.aL (nG T) hr (aa 0) (bC (aa 1))) (cU 2)))) ak) (ab (aC (cb (aa 3) ai) (ag (ao (Im (cU 2) (bA T.aL (lY T) hr (aa 0) (bC (aa 1)))))) ak) (ab (aC (cb (aa 3) ai) (ag bg) ak) (ab (aC (cb (aa 3) ai) (ag bg) ak) (ab bg (ab bg (ag bg)))))))))⟩
def i9(t:Adr):=cH 6 3 (iY t).1
def tP:Uf 3 "has_trait" i9:=(iY _).2
noncomputable def gO(t:Adr):gOD (gFD 3 "own_claims" 5 2) t:=⟨_,λ T=>oD ["tree","box","found","place","row"] T.rM λ hr nd=>
 (ab (br 2 nd (he:=aR a9)) (ab (aZ (mR T.lJ (bC (bA T.aL (nF T) hr (aa 0) (bC (aa 1))))) (mS (n:=2) (c6 (aN 3 nd) (c6 (aN 4 nd) jT))) (ag (dh 2 (he:=az (eG (az (aw (pY (cU 4)) (aw ae (aw ae (eG (az (cV ae ae)) ae (jy (aa 3))))))) (cU 4) (az (eG (jy ae) (aa 3) (cU 4)))))))) (ag (c5 2))))⟩
def gY(t:Adr):=cH 5 2 (gO t).1
def qH:Uf 3 "own_claims" gY:=(gO _).2
noncomputable def jW:gO0 (gFD 3 "is_value" 2 2):=⟨_,λ T=>oD ["prop","value"] T.xM λ hr nd=>
 (ab (aC (wA (aa 0) (Fx T.tD)) (ag (ao bB)) ak) (ab (aC (cg (Ni hr.Je) (aa 1) (az (cV (az (bC ai)) (az (bC ai))))) (ag (ao bB)) ak) (ab (aC (ba (dg (cb (aD eC T.c8 (bC (aa 1))) ae) (cJ (cb (cU 1) ai)))) (ag (ao (au (Af T) hr (cV (aa 0) (cU 1))))) ak) (ab (aC (ba (dg (cb (aD eC T.c8 (bC (aa 1))) ae) (cJ (Ib (cU 1) (az (cV ai ai)))))) (ag (ao (fW (Im (aa 0) (Fx T.eY)) (il (au (jO T) hr (cV (cU 1) (cU 1))))))) ak) (ab (aC (ba (dg (cb (aD eC T.c8 (bC (aa 1))) ae) (cJ (cb (cU 1) ai)))) (ag (ao (fW (Im (aa 0) (Fx T.qz)) (il (au (jO T) hr (cV (cU 1) (cU 1))))))) ak) (ab (aC (ba (dg (cb (aD eC T.c8 (bC (aa 1))) ae) (cJ (cb (cU 1) ai)))) (ag (ao (fW (Im (aa 0) (Fx T.eY)) (fW (Im (cU 1) (Fx T.eY)) (il (au (jO T) hr (cV (cU 1) (cU 1)))))))) ak) (ag (ao bB))))))))⟩
def cz:=cH 2 2 (jW).1
def xm:Ue 3 "is_value" cz:=jW.2
noncomputable def mX:gO0 (gFD 3 "told_by" 3 1):=⟨_,λ T=>oD ["winners","told","prop"] T.Bj λ hr nd=>
 (ab (br 1 nd (he:=mQ)) (ab (aZ (cP (Fx T.tD)) (aN 2 nd) (ag (aC (mP hr.units rfl (aa 2) (aa 0)) (ag (bY 1 hr.units (hval:=aM (cm hr.units (λ _ _=>rfl) (aa 0) (aa 2)) ae) (hi:=aa 2))) (ag (bY 1 hr.units (hval:=B0 (bw (au (tO T) hr (bC (aa 2)))) (az (bC ai)) (az (bC ai))) (hi:=aa 2)))))) (ag (c5 1))))⟩
def m8:=cH 3 1 (mX).1
def Ad:Ue 3 "told_by" m8:=mX.2
noncomputable def d6(t:Adr):gOM (gIM 3 t.aj 2 2) t:=⟨_,λ T=>oMi ["self","name"] T.mH λ hr nd=>
 (ah (bW (au (gx T) hr (bC (aa 1)))) (ah (cj T.aL T.fI (aI 0) (aA (bz ae))) (ah (cj T.aL T.cL (aI 0) (aA dX)) (ah (cj T.aL T.dR (aI 0) (aA dX)) (ah (cj T.aL T.dF (aI 0) (aA dX)) (ah (cj T.aL T.cM (aI 0) (aA dX)) (ah (cj T.aL T.jk (aI 0) (aA dX)) (ah (cj T.aL T.de (aI 0) (aA dX)) (aJ (cZ (dq T.aL (kn T) hr (aI 0) (aW (dD jx) (aW (dD (aa 1)) cD)))))))))))))⟩
def d9(t:Adr):=iA 2 2 (d6 t).1
def lZ(T:Txt w K mg t):GoI P w K mg base 3 t.aj (spM (d9 t) K):=(d6 t).2 T
noncomputable def m7(t:Adr):gOM (gMM 3 t.aj "mark" 3 3) t:=⟨_,λ T=>oMm ["self","box","word"] T.uo λ hr nd=>
 (ah (bW (bA T.aL (b8 T) hr (aa 0) (bC (aa 1)))) (ah (bW (au (gx T) hr (bC (aa 2)))) (ah (dG (fT (mP hr.units rfl (aa 2) (cm hr.units (λ _ _=>rfl) (bK T.aL T.cM (aa 0)) (aa 1)))) (aJ (bX (aA (bz bB)))) cy) (ah (bE (fc hr) (ig (fc hr) (λ _ _=>rfl) (cN T.aL T.cM (aI 0)) (aa 1)) (aa 2) (aA (bz bB))) (aJ (bX (aA (bz bB))))))))⟩
def nu(t:Adr):=iA 3 3 (m7 t).1
def tT(T:Txt w K mg t):GoM P w K mg base 3 t.aj "mark" (spM (nu t) K):=(m7 t).2 T
noncomputable def i6:gO0 (gFD 3 "_law_rows" 8 4):=⟨_,λ T=>oD ["_law_script","_law_k","_law_many","_law_near","_law_some","_law_j","_law_mixed_here","_law_prop"] T.uk λ hr nd=>
 (ab (br 4 nd (he:=aR a9)) (ab (aZ (ck T.fw (bC (aa 2))) (aN 5 nd) (ab (gJ 6 nd (au (bI T) hr (cV (aa 0) (cR (aa 1) (aa 5))))) (ab (gJ 7 nd (aM (iq (eE T) hr) (bP (cR (aa 3) (aK (bP (aa 6) ae) ae)) ae))) (ag (dh 4 (he:=az (eG (aa 7) (au (qO T) hr (eG (aa 7) (aK (aa 6) ae) (aK (au (lX T) hr (cV (aa 0) (cR (aa 1) (aa 5)))) ae))) (Md (bP (aK (aa 6) ae) ae) ae)))))))) (ag (ju 4 (ao (mT BL T.s9 (bC (aa 4))))))))⟩
def ja:=cH 8 4 (i6).1
def lW:Ue 3 "_law_rows" ja:=i6.2
noncomputable def jZ(t:Adr):gOD (gFD 3 "_law_due" 7 5) t:=⟨_,λ T=>oD ["_law_rules_here","_law_own","_law_name","_law_mark","_law_prop","_law_best","_law_claim"] T.xQ λ hr nd=>
 (ab (gJ 5 nd jx) (ab (aZ (dY (au (pj T) hr (aw (aa 0) (aw (aa 1) (eG (aa 2) (aa 3) (aa 4)))))) (aN 6 nd) (ag (aC (ba (cO (Om (aa 5) jx) (cf (cg (Nj hr.u80) (cU 6) (cU 5))))) (ag (gJ 5 nd (aa 6))) ak))) (ab (aC (wB (aa 5) jx) (ag (ao (cU 5))) ak) (ab (aC (ba (cO (cb (aa 4) ai) (cf (cb (aa 4) ai)))) (ag (ao (az (bC ai)))) ak) (ag (ao (az (bC ai))))))))⟩
def j7(t:Adr):=cH 7 5 (jZ t).1
def xp:Uf 3 "_law_due" j7:=(jZ _).2
def oI(t:Adr):gOD (gFD 4 "depth_of" 2 2) t:=⟨_,λ T=>oD ["tree","box"] T.xO λ hr nd=>
 (ag (ao (aD eC T.c8 (bC (au (qJ T) hr (cV (aa 0) (aa 1)))))))⟩
def oJ(t:Adr):=cH 2 2 (oI t).1
def xn:Uf 4 "depth_of" oJ:=(oI _).2
def gV(t:Adr):gOD (gMD 4 t.cQ "fits" 3 3) t:=⟨_,λ T=>oDm ["self","tree","box"] T.sd λ hr nd=>
 (ag (ao (au (tP T) hr (eG (aa 1) (aa 2) (bK T.js T.fJ (aa 0))))))⟩
def hY(t:Adr):=cH 3 3 (gV t).1
def qQ(T:Txt w K mg t):GoM P w K mg base 4 t.cQ "fits" (spF (hY t) K):=(gV t).2 T
noncomputable def iX(t:Adr):gOD (gFD 4 "weight_of" 6 1) t:=⟨_,λ T=>oD ["pattern","marks","names","step","told","weight"] T.ue λ hr nd=>
 (ab (gJ 1 nd ae) (ab (gJ 2 nd ae) (ab (aZ (cP (aa 0)) (aN 3 nd) (ag (aZ (cP (cU 3)) (aN 4 nd) (ab (gJ 5 nd (oF T.js (nH T) hr (au (oe T) hr (bC (aa 4))))) (ab (jv 1 vK lA nd (he:=cU 5)) (ag (jv 2 vK lA nd (he:=cU 5)))))))) (ag (ao (az (cV (aa 1) (aa 2))))))))⟩
def i8(t:Adr):=cH 6 1 (iX t).1
def tN:Uf 4 "weight_of" i8:=(iX _).2
def kG:gO0 (gFD 4 "check_rows" 2 1):=⟨_,λ T=>oD ["rows","row"] T.rO λ hr nd=>
 (ag (aZ (cP (aa 0)) (aN 1 nd) (ag (aC (bJ (bw (au (xm T) hr (cV (cU 1) (cU 1))))) (ag bg) ak))))⟩
def kQ:=cH 2 1 (kG).1
def qK:Ue 4 "check_rows" kQ:=kG.2
noncomputable def eQ:gO0 (gFD 4 "_law_rules" 11 4):=⟨_,λ T=>oD ["_law_script","_law_names","_law_marks","_law_near","_law_head","_law_rules_here","_law_number","_law_mixed_here","_law_patterns","_law_rows_here","_law_layer"] T.rV λ hr nd=>
 (ab (gJ 4 nd (au (bI T) hr (cV (aa 0) ae))) (ab (br 5 nd (he:=mQ)) (ab (aZ (ck T.fw (bC (aM (bc (aR (aw ae (eG ae ae ae)))) (bP (aK (aa 4) ae) ae)))) (aN 6 nd) (ab (gJ 7 nd (au (bI T) hr (cV (aa 0) (cR ae (kE ae (aa 6)))))) (ab (br 8 nd (he:=aR (bC (az (bC (az (cV ai (au (jg T) hr (eG (aK (aa 7) ae) (aa 1) (aa 2)))))))))) (ab (aC (BM (bP (aK (aa 7) ae) ae) ae) (ag (dh 8 (he:=az (bC (az (cV ai (au (jg T) hr (eG (aK (aa 7) ae) (aa 1) (aa 2))))))))) ak) (ab (gJ 9 nd (au (lW T) hr (aw (aa 0) (eG (cR ae (kE ae (aa 6))) (cR ae (bP (aK (aa 7) ae) ae)) (aa 3))))) (ab (gJ 10 nd (bP (aa 7) ae)) (ab (aC (BM (bP (aK (aa 4) ae) ae) ae) (ag (gJ 10 nd (bP (aK (aa 4) ae) ae))) ak) (ag (bY 5 hr.units (hval:=p4 8 (az (eG (aa 10) (mT BL T.s9 (bC (aa 8))) (aa 9)))) (hi:=aa 6)))))))))) (ag (c5 5)))))⟩
def kT:=cH 11 4 (eQ).1
def qP:Ue 4 "_law_rules" kT:=eQ.2
noncomputable def m4(t:Adr):gOD (gFD 5 "has_all" 4 3) t:=⟨_,λ T=>oD ["tree","box","traits","told"] T.Bp λ hr nd=>
 (ab (aZ (cP (aa 2)) (aN 3 nd) (ag (aC (bJ (bw (bA T.js (qQ T) hr (au (oe T) hr (bC (aa 3))) (cV (aa 0) (aa 1))))) (ag (ao bB)) ak))) (ag (ao bB)))⟩
def ft(t:Adr):=cH 4 3 (m4 t).1
def Ag:Uf 5 "has_all" ft:=(m4 _).2
noncomputable def j0(t:Adr):gOM (gMM 5 t.aj "put" 5 4) t:=⟨_,λ T=>oMm ["self","holder","place","name","box"] T.xR λ hr nd=>
 (ah (bW (bA T.aL (b8 T) hr (aa 0) (bC (aa 1)))) (ah (bW (au (pe T) hr (cV (aa 2) (cm hr.units (λ _ _=>rfl) (bK T.aL T.dF (aa 0)) (aa 1))))) (ah (bW (au (gx T) hr (bC (aa 3)))) (ah (dG (fT (BM (cR (aD wy T.c8 (bC (bK T.aL T.cL (aa 0)))) ae) (Mc T.qZ))) (aJ fU) cy) (ah (dG (fT (BM (cR (au (xn T) hr (cV (aa 0) (aa 1))) ae) (Mc T.tY))) (aJ fU) cy) (ah (aS 4 nd (he:=dq T.aL (kn T) hr (aI 0) (aW (dD (aa 1)) (aW (dD (aa 3)) cD)))) (ah (sC (ig (fc hr) (λ _ _=>rfl) (cN T.aL T.dF (aI 0)) (aa 1)) (aa 2) (bz (aa 4))) (aJ (bX (aA (bz (aa 4))))))))))))⟩
def j8(t:Adr):=iA 5 4 (j0 t).1
def xq(T:Txt w K mg t):GoM P w K mg base 5 t.aj "put" (spM (j8 t) K):=(j0 t).2 T
noncomputable def i7(t:Adr):gOM (gMM 5 t.aE "add" 3 2) t:=⟨_,λ T=>oMm ["self","rule","number"] T.uq λ hr nd=>
 (ah (dG (fT (ba (cO (bJ (iV EW EW ae (cU 1) ae)) (cf (cb (aD eC T.c8 (bC (cU 1))) ae))))) (aJ fU) cy) (ah (bW (au (qK T) hr (bC (cU 1)))) (ah (dG (fT (BM (cR (aD wy T.c8 (bC (bK T.bN T.bL (aa 0)))) ae) (Mc T.qY))) (aJ fU) cy) (ah (aS 2 nd (he:=aA (oC (bK T.bN T.eZ (aa 0))))) (ah (cj T.bN T.eZ (aI 0) (aA (bz (cR (aa 2) ae)))) (ah (bE (fc hr) (cN T.bN T.bL (aI 0)) (aa 2) (aA (bz (aa 1)))) (aJ (bX (aA (bz (aa 2)))))))))))⟩
def gc(t:Adr):=iA 3 2 (i7 t).1
def tU(T:Txt w K mg t):GoM P w K mg base 5 t.aE "add" (spM (gc t) K):=(i7 t).2 T
noncomputable def iZ(t:Adr):{G:DS2 // ∀{P w K mg base},Txt w K mg t->Go P w K mg base 6 "_law_tree" (sp2 (II 15 4 G) K)}:=⟨_,λ T=>o2 ["_law_script","_law_names","_law_marks","_law_near","_law_head","_law_tree_here","_law_boxes","_law_rows_here","_law_box","_law_mixed_here","_law_holder","_law_place","_law_name","_law_mark","_law_own"] T.uh λ hr nd=>
 (fm (aS 4 nd (he:=aA (bz (au (bI T) hr (cV (aa 0) ae))))) (fm (aS 5 nd (he:=BX (lZ T) hr T.E3 (aW (dD (aM (aa 1) (bP (aK (aa 4) ae) ae))) cD))) (fm (aS 6 nd (he:=aA (BW (aR (bC (az (eG (aM (aa 1) (bP (aK (aa 4) ae) ae)) ai (az a9)))))))) (fm (aS 7 nd (he:=aA (Ij (wD (aR a9))))) (fm (dW (sG T.fw (cV ae (cR ae (bP (aa 4) ae)))) (bZ 8 nd) (ah (aS 9 nd (he:=aA (bz (au (bI T) hr (cV (aa 0) (cR ae (aa 8))))))) (ah (aS 10 nd (he:=aA (bz (bP (aa 9) (aa 8))))) (ah (aS 11 nd (he:=aA (oC (bP (aK (aa 9) ae) (cR (aD eC T.c8 (bC (aM (aa 7) (aa 10)))) ae))))) (ah (sC (Ie (aI 7) (aa 10)) (aa 11) (bz (aa 8))) (ah (sD (aI 7) (wD (aR a9))) (ah (aS 12 nd (he:=aA (bz (aM (aa 1) (bP (aK (aa 9) ae) ae))))) (ah (cZ (dq T.aL (xq T) hr (aI 5) (aW (dD (aa 10)) (aW (dD (aa 11)) (aW (dD (aa 12)) cD))))) (ah (aS 13 nd (he:=aA (bz ai))) (ah (dG (fT (Ia (bP (aK (aa 9) ae) ae) ae)) (ah (aS 13 nd (he:=aA (bz (aM (aa 2) (bP (aK (aa 9) ae) ae))))) (aJ (cZ (dq T.aL (tT T) hr (aI 5) (aW (dD (aa 8)) (aW (dD (aa 13)) cD)))))) cy) (ah (aS 14 nd (he:=aA (bz (au (lW T) hr (aw (aa 0) (eG (cR ae (kE ae (aa 8))) (bP (aK (aa 9) ae) ae) (aa 3))))))) (ah (cZ (dq T.aL (ko T) hr (aI 5) (aW (dD (aa 8)) (aW (dD (aa 14)) cD)))) (aJ (sD (aI 6) (bz (az (eG (aa 12) (aa 13) (aa 14)))))))))))))))))) (BQ 5 6))))))⟩
def f7(t:Adr):=II 15 4 (iZ t).1
def tQ(T:Txt w K mg t):Go P w K mg base 6 "_law_tree" (sp2 (f7 t) K):=(iZ t).2 T
end
end N24
end
section
namespace N24
open PySem L2 PySem.W PyProof.Rows
theorem bxK{X:Cx}{e:Expr}{f:DE}(K:RC)(h:Bx (PEd X e f))(hK:X.K=K:=by rfl):PE X e (rdE K f):=by subst hK;exact h.out
def Upd(H H':Hp)(a:RB):Prop:=∀ c u,c≠a->H c=some u->H' c=some u
noncomputable def MH(K:RC)(t:Adr)(dT j tr:D)(b:Int)(c:Bool):Sp:=λ vs H Q _=>∃ Hs vt vp a,vs=[vt,vp,.int 0,.int b,.ref a]/\bM Hs H/\Rp K Hs vt dT/\Rp K Hs vp (.tup [.tup [j,tr]])/\Hs a=none/\H a=some (.dT [])/\∀ H',Upd H H' a->Q (.bl c) H'
section
variable{P:Program}{w:World}{K:RC}{mg:Str->Rz RA}{base:Heap}{t:Adr}{dT j tr:D}{b:Int}{c:Bool}
set_option maxHeartbeats 0
theorem Dp(T:Txt w K mg t)(h1:ft t [dT,.int b,tr]=some (.shr (.bl c))):Go P w K mg base 12 "reaches" (MH K t dT j tr b c):=by
 obtain⟨a0,d0,F,m0,bi⟩:=T.Bl;obtain⟨f1,d1,F1,m1,b1⟩:=T.Bm;refine⟨a0,d0,_,m0,F.kp,bi,F.ok (N:=["tree","pattern","place","box","known","key"]) ⟨rfl,rfl,rfl,by decide +kernel,rfl,by decide +kernel,by decide +kernel⟩ (λ vs H Q E h=>by obtain⟨_,_,_,_,rfl,_⟩:=h;rfl) λ cdv A outer s H vs Q E hr h=>?_⟩;obtain⟨Hs,vt,vp,a,rfl,sm,rt,rp,na,ha,k⟩:=h
 refine ⟨_,ia (qA (i:=5) (show (["tree","pattern","place","box","known","key"]:Ry Str).Nodup by decide +kernel) rfl (Or.inl rfl) (vg (be (pv 2) (be (pv 3) dB))))
  (ia (GD (zh (qD (fc hr) (pv 5) (pv 4))) (iM (tH (fc hr) (pv 4) (pv 5)
    (ES (au (Ag T) hr (eG (aa 0) (aa 3) (aM (aM (aa 1) (aa 2)) ae)) (by decide)).out
      (zu (MX (Md (aa 2) ae).out (zu (J6 (GX (iO (DY (k:=11)) (hr.mono (by decide)) rfl m1 F1.kp b1 .nil jf (be (pv 0) (be (pv 1) (be (pv 2) (be (pv 3) (be (pv 4) dB)))))))))))) rfl)) tG)
  (iM (lR (tK (fc hr) (pv 4) (pv 5) (λ _ _=>rfl))))),?_⟩
 refine⟨_,rfl,_,rfl,by rw[Yj];exact(by decide:2<=16777216),λ q hq=>?_⟩;have qa:q≠a:=λ e=>by rw[e,ha]at hq;cases hq
 have s1:bM H (upd H q (.tup [.int 0,.int b])):=aF hq _;have ha1:=s1 _ _ ha;have hq1:upd H q (.tup [.int 0,.int b]) q=some (.tup (([.inl 0,.inl b]:Ry Key).map kV)):=ay;generalize upd H q (.tup [.int 0,.int b])=H1 at s1 ha1 hq1 ⊢;refine⟨_,rfl,_,rfl,a,_,rfl,oM.t ha1 hq1,_,rfl,?_⟩;refine IQ ?_
 have fin:∀(H2:Hp),bM H1 H2->∃ a' H4,(V.ref a)=.ref a'/\Ck H2 a' (.ref q) (.bl c) H4/\∃ v,some (some (V.ref a))=some (some v)/\∃ y,some (some (V.ref q))=some (some y)/\∃ a2 v2,v=.ref a2/\oM H4 a2 y (some v2)/\Q v2 H4:=λ H2 s2=>by
  have hq2:=s2 _ _ hq1;have z:upd H2 a (.dT (putK [] [.inl 0,.inl b] (.bl c))) q=some (.tup (([.inl 0,.inl b]:Ry Key).map kV)):=by rw[ar qa];exact hq2
  have g:=oM.t ay z;rw[Cr,if_pos rfl]at g;refine⟨a,_,rfl,Ck.t (s2 _ _ ha1) hq2 (by rw[Yj];exact(by decide:0<16777216)),_,rfl,_,rfl,a,_,rfl,g,k _ λ d u nd hd=>?_⟩;rw[ar nd];exact s2 _ _ (s1 _ _ hd)
 have st1:StR K H1 Hs H1 [some vt,some vp,some (.int 0),some (.int b),some (.ref a),some (.ref q)] [.shr dT,.shr (.tup [.tup [j,tr]]),.shr (.int 0),.shr (.int b),.no,.no] []:=.shr rt (.shr rp (.shr (.int _) (.shr (.int _) (.no (.no .nil)))));refine⟨H1,Hs,_,[],.bl c,st1,sm.trans s1,?_,λ v Hs' H2 g rv=>?_⟩
 ·show (ft t [dT,.int b,tr]).bind slD=_
  rw[h1];rfl
 cases rv
 cases c with
 |false=>exact⟨_,rfl,L4 ⟨_,rfl,_,rfl,fin H2 g.hh⟩⟩
 |true=>
  refine⟨_,rfl,IQ ?_⟩;refine⟨H1,Hs,_,[],.bl true,st1.ext ⟨.refl _,(sm.trans s1).trans g.hh,g.hh,λ _ h _=>h⟩,(sm.trans s1).trans g.hh,rfl,λ v Hs3 H3 g3 rv=>?_⟩;cases rv;exact⟨_,rfl,IQ ⟨_,rfl,_,rfl,fin H3 (g.hh.trans g3.hh)⟩⟩
def Ftd(t:Adr)(ds:Ry D)(sl:Sl):Prop:=∃ dT j tr b c,ds=[dT,.tup [.tup [j,tr]],.lst [.int b]]/\ft t [dT,.int b,tr]=some (.shr (.bl c))/\sl=.own (.lst (if c=true then [.int b] else []))
open Classical in
def iw(t:Adr)(ds:Ry D):Rz Sl:=if h:∃ sl,Ftd t ds sl then some h.choose else none
theorem ftd{t}{ds}{sl}(e:iw t ds=some sl):Ftd t ds sl:=by
 unfold iw at e;split at e
 · cases e;exact Exists.choose_spec ‹_›
 · cases e
theorem Lp{t}{ds}{sl}(q:Ftd t ds sl):iw t ds=some sl:=by
 have h:∃ sl,Ftd t ds sl:=⟨_,q⟩
 unfold iw;rw[dif_pos h];obtain⟨_,_,_,_,_,e,e1,e2⟩:=h.choose_spec;obtain⟨_,_,_,_,_,rfl,e3,e4⟩:=q;cases e;rw[e3]at e1;cases e1;rw[e2,e4]
theorem Rps.u3{K}{H}{xs}{a b c}(h:Rps K H xs [a,b,c]):∃ x y z,xs=[x,y,z]/\Rp K H x a/\Rp K H y b/\Rp K H z c:=by
 obtain⟨_,_,rfl,p,h⟩:=h.uc;obtain⟨_,_,rfl,q⟩:=qr h;exact⟨_,_,_,rfl,p,q⟩
theorem Ds(T:Txt w K mg t):Go P w K mg base 13 "fitted" (spF (iw t) K):=by
 obtain⟨a0,d0,F,m0,bi⟩:=T.D0;refine⟨a0,d0,_,m0,F.kp,bi,F.ok (N:=["tree","pattern","boxes","known"]) ⟨rfl,rfl,rfl,by decide +kernel,rfl,by decide +kernel,by decide +kernel⟩ (λ vs H Q E h=>?_) λ cdv A outer s H vs Q E hr h=>?_⟩
 ·obtain ⟨Hs,ds,sl,sm,r,e,_⟩:=h
  obtain⟨_,_,_,_,_,rfl,_⟩:=ftd e;exact r.length
 obtain⟨Hs,ds,sl,sm,r,e,k⟩:=h;obtain⟨dT,j,tr,b,c,rfl,h1,rfl⟩:=ftd e;obtain⟨f1,d1,p1,m1,k1,b1,o1⟩:=Dp (P:=P) (base:=base) (j:=j) T h1;obtain⟨vt,vp,vb,rfl,rt,rp,rb⟩:=Rps.u3 r
 obtain⟨lb,rfl,hlb⟩:∃ lb,vb=.ref lb/\Hs lb=some (.lst [.int b]):=by
  cases rb with
  |lst h r=>
   obtain⟨_,_,rfl,q,r⟩:=r.uc;cases r.un;cases q.ui
   exact⟨_,rfl,h⟩
 refine ⟨_,ia (qA (i:=3) (show (["tree","pattern","boxes","known"]:Ry Str).Nodup by decide +kernel) rfl (Or.inr rfl) De)
  (iM (lR (Di rfl (ckN [("tree",0),("pattern",1),("known",3)]) (zq (pv 2)) (λ s3 H3 fp3 C3=>EK (iO o1 (hr.mono (by decide)) rfl m1 k1 b1 .nil jf (be (pv 1) (be (pv 2) (be (bxK K (Ei (aD eC T.c8 (bC (aa 2))) ae)) (be (pv 0) (be (pv 3) dB))))))) (λ s3 H3 fp3 C3=>pv 0)))),?_⟩
 intro a ha;have s1:bM H (upd H a (.dT [])):=aF ha _;have ha1:upd H a (.dT []) a=some (.dT []):=ay;have na:=sm.free ha;have up0:∀{H'},Upd (upd H a (.dT [])) H' a->bM H H':=λ{H'} u c v e=>u c v (λ z=>by rw[z,ha]at e;cases e) (s1 c v e)
 generalize upd H a (.dT [])=H1 at s1 ha1 up0 ⊢;have sm1:=sm.trans s1;have hl1:=sm1 _ _ hlb;have la:lb≠a:=λ e=>by rw[e,na]at hlb;cases hlb
 refine⟨_,rfl,lb,rfl,⟨_,SqL.of hl1⟩,λ n m ys H'=>(n=0/\m=1/\ys=[]/\H'=H1)\/(n=1/\m=0/\ys=(if c=true then [.int b] else [])/\Upd H1 H' a),⟨1,.inl ⟨rfl,rfl,rfl,rfl⟩⟩,?_⟩
 rintro n m ys H2 (⟨rfl,rfl,rfl,rfl⟩|⟨rfl,rfl,rfl,u2⟩)
 ·refine .inr ⟨⟨_,_,SqL.of hl1,rfl⟩,by rw [Yj]; exact (by decide:0 < 16777216),?_⟩
  rintro v H3 ⟨e3,hy⟩
  subst e3;have ex:=hy _ (SqL.of hl1);cases ex;have st3:StR K H3 Hs H3 [some (.int b),some vt,some vp,some (.ref a)] [.no,.shr dT,.shr (.tup [.tup [j,tr]]),.no] []:=.no (.shr rt (.shr rp (.no .nil)));refine⟨_,rfl,_,rfl,H3,Hs,_,[],.int 0,st3,sm1,rfl,λ v4 Hs4 H4 g4 r4=>?_⟩;cases r4;refine⟨_,rfl,_,rfl,Hs,vt,vp,a,rfl,sm1.trans g4.hh,rt,rp,na,g4.hh _ _ ha1,λ H5 u5=>⟨_,rfl,?_⟩⟩;have u25:Upd H3 H5 a:=λ d u nd hd=>u5 d u nd (g4.hh _ _ hd)
  cases c with
  |true=>exact IQ ⟨_,rfl,0,by lia,.inr ⟨rfl,rfl,rfl,u25⟩⟩
  |false=>exact L4 ⟨0,by lia,.inr ⟨rfl,rfl,rfl,u25⟩⟩
 ·have hl2:=u2 lb _ la hl1
  have sm2:bM Hs H2:=λ d u e=>u2 d u (λ q=>by rw[q,na]at e;cases e) (sm1 d u e)
  refine .inl ⟨⟨_,SqL.of hl2,Zo _⟩,by rw[Yj];cases c;exact(by decide:0<=16777216);exact(by decide:1<=16777216),λ p hp=>?_⟩;have s2:=up0 u2;refine k _ Hs _ ⟨.refl _,(sm2.trans (aF hp _)),s2.trans (aF hp _),λ _ h _=>h⟩ ⟨p,rfl,.lst ay (sm2.free hp) ?_,s2.free hp⟩
  cases c with
  |true=>exact .cons (.int _) .nil
  |false=>exact .nil
end
end N24
end
section
namespace N24
open PySem L2
section
variable{P:Program}{w:World}{K:RC}{mg:Str->Rz RA}{base:Heap}{t:Adr}
set_option maxHeartbeats 0
noncomputable def fe(t:Adr):gOD (gFD 14 "rule_weights" 7 3) t:=⟨_,λ T=>oD ["tree","rule","boxes","weights","pattern","weight","box"] T.nR λ hr nd=>
 (ab (br 3 nd (he:=mQ)) (ab (aZ (cP (cU 1)) (aN 4 nd) (ab (gJ 5 nd (au (tN T) hr (bC (aa 4)))) (ag (aZ (dY (au (Ds T) hr (eG (aa 0) (aa 4) (aa 2)))) (aN 6 nd) (ag (bY 3 hr.units (hval:=p4 3 (aD (LJ hr.units rfl) T.IW (cV (sJ hr.units (aa 3) (aa 6) (aa 5)) (aa 5)))) (hi:=aa 6))))))) (ag (c5 3))))⟩
def cE(t:Adr):=cH 7 3 (fe t).1
def nE:Uf 14 "rule_weights" cE:=(fe _).2
noncomputable def lI(t:Adr):{G:DSm // ∀{P w K mg base},Txt w K mg t->Go P w K mg base 15 "ranked" (spT (Amb t.b5 qL pL) (spM (iA 8 3 G) K))}:=⟨_,λ T=>oMC ["tree","sheet","boxes","found","box","number","rule","weight"] T.pM λ hC am hr nd=>
 (ah (aS 3 nd (he:=aA dX)) (ah (dW (dY (aa 2)) (bZ 4 nd) (aJ (bE (fc hr) (aI 3) (aa 4) (aA (BW (jw (qH T) hr (cV (aa 0) (aa 4)))))))) (ah (dW (dY (oF T.bN (l5 T) hr (aa 1))) (bZ 5 nd) (ah (aS 6 nd (he:=aA (bz (bA T.bN (l3 T) hr (aa 1) (bC (aa 5)))))) (aJ (dW (kC (jw (nE T) hr (eG (aa 0) (aa 6) (aa 2)))) (sI (n:=2) (fV (bZ 4 nd) (fV (bZ 7 nd) oE))) (aJ (yd (ig (fc hr) (λ _ _=>rfl) (aI 3) (aa 4)) (au (pd T) hr (eG (aa 5) (aa 6) (aa 7))))))))) (ah (dW (dY (aa 2)) (bZ 4 nd) (aJ (bE (fc hr) (aI 3) (aa 4) (Eh ⟨rfl,⟨_,rfl,hC⟩,T.pM.pg,T.pM.bl,rfl,rfl,⟨rfl,rfl,rfl,by decide +kernel,by decide +kernel,by decide +kernel,by decide +kernel⟩,λ _ _ _ _=>.of_eq rfl,am,by decide,by decide⟩ hr T.oN (ig (fc hr) (λ _ _=>rfl) (aI 3) (aa 4)))))) (aJ (bX (aA (Fw 3))))))))⟩
def jD(t:Adr):=HG (iA 8 3 (lI t).1)
theorem Dr(T:Txt w K mg t):Go P w K mg base 15 "ranked" (spT (Amb t.b5 qL pL) (spF (jD t) K)):=((lI t).2 T).frz
noncomputable def eI(t:Adr):{G:DSm // ∀{P w K mg base},Txt w K mg t->Go P w K mg base 16 "winners_of" (spT (Amb t.b5 qL pL) (spM (iA 7 3 G) K))}:=⟨_,λ T=>oMT ["tree","sheet","boxes","found","box","claims","one"] T.rL λ am hr nd=>
 (ah (aS 3 nd (he:=aA dX)) (ah (dW (kC (oB (Dr T) am hr (eG (aa 0) (aa 1) (aa 2)))) (sI (n:=2) (fV (bZ 4 nd) (fV (bZ 5 nd) oE))) (ah (bE (fc hr) (aI 3) (aa 4) (aA dX)) (aJ (dW (dY (aa 5)) (bZ 6 nd) (aJ (BN (ig (fc hr) (λ _ _=>rfl) (aI 3) (aa 4)) (cU 6) (bz (cU 6)))))))) (aJ (bX (aA (Fw 3))))))⟩
def gX(t:Adr):=HG (iA 7 3 (eI t).1)
theorem qG(T:Txt w K mg t):Go P w K mg base 16 "winners_of" (spT (Amb t.b5 qL pL) (spF (gX t) K)):=((eI t).2 T).frz
noncomputable def sS(t:Adr):{G:DS // ∀{P w K mg base},Txt w K mg t->Go P w K mg base 17 "told_of" (spT (Amb t.b5 qL pL) (spF (cH 3 3 G) K))}:=⟨_,λ T=>oDT ["tree","sheet","box"] T.Bi λ am hr nd=>
 (ag (jS (jw (Ad T) hr (bC (cm hr.units (λ _ _=>rfl) (ip (qG T) am hr (eG (aa 0) (aa 1) (bc (aR (bC (aa 2)))))) (aa 2))))))⟩
def sV(t:Adr):=cH 3 3 (sS t).1
def Ac(T:Txt w K mg t):Go P w K mg base 17 "told_of" (spT (Amb t.b5 qL pL) (spF (sV t) K)):=(sS t).2 T
noncomputable def gR(t:Adr):{G:DS // ∀{P w K mg base},Txt w K mg t->Go P w K mg base 18 "_law_asked" (spT (Amb t.b5 qL pL) (spF (cH 8 4 G) K))}:=⟨_,λ T=>oDT ["_law_tree_here","_law_sheet","_law_rules_here","_law_boxes","_law_box","_law_found","_law_prop","_law_due_here"] T.rY λ am hr nd=>
 (ab (aZ (ck T.fw (bC (aD eC T.c8 (bC (aa 3))))) (aN 4 nd) (ab (br 5 nd (he:=oB (Ac T) am hr (eG (aa 0) (aa 1) (aa 4)))) (ab (aC (sy 5 (ba (cO (bJ (bw (aD su T.bR (cV (aa 5) (gM (n:="dict") T.IX))))) (cf (fS (aD wy T.c8 (bC (aa 5))) ae))))) (ag (ao bB)) ak) (ab (aZ (dY (iq (eE T) hr)) (aN 6 nd) (ab (gJ 7 nd (au (xp T) hr (aw (aa 2) (aw (aM (aM (aa 3) (aa 4)) ae) (eG (aM (aM (aa 3) (aa 4)) ae) (aM (aM (aa 3) (aa 4)) ae) (aa 6)))))) (ag (aC (sy 5 (ba (cO (gL hr.units rfl (aa 6) (aa 5)) (cf (bJ (bw (au (tR T) hr (cV (cm hr.units (λ _ _=>rfl) (aa 5) (aa 6)) (aa 7))))))))) (ag (ao bB)) ak)))) (ab (bY 5 hr.units (hval:=az (cV ai ai)) (hi:=ai)) (ag (bY 5 hr.units (hval:=az (bC ai)) (hi:=ai)))))))) (ag (ao bB)))⟩
def eU(t:Adr):=cH 8 4 (gR t).1
theorem gz(T:Txt w K mg t):Go P w K mg base 18 "_law_asked" (spT (Amb t.b5 qL pL) (spF (eU t) K)):=(gR t).2 T
noncomputable def IB (t:Adr):{G:DSm // ∀ {P w K mg base a d},Txt w K mg t->Fun K "law" "law" (Uc 80) a d->ir P w K mg base CX0 19 a d ["_law_script"] (spT (Amb t.b5 qL pL) (spM (iA 10 1 G) K))}:=⟨_,λ T F=>F.M7 (Amb t.b5 qL pL) (N:=["_law_script","_law_names","_law_marks","_law_near","_law_tree_here","_law_boxes","_law_rules_here","_law_sheet","_law_number","_law_last"]) ⟨rfl,rfl,rfl,by decide +kernel,rfl,by decide +kernel,by decide +kernel⟩ λ cdv A outer s H E am hr=>Bx.out (have nd:(["_law_script","_law_names","_law_marks","_law_near","_law_tree_here","_law_boxes","_law_rules_here","_law_sheet","_law_number","_law_last"]:Ry Str).Nodup:=by decide +kernel
 (ah (aS 1 nd (he:=aA (bz (au (kj T) hr (bC (au (bI T) hr (cV (aa 0) ae))))))) (ah (aS 2 nd (he:=aA (bz (au (kj T) hr (bC (au (bI T) hr (cV (aa 0) ae))))))) (ah (aS 3 nd (he:=aA (bz (bP (aK (au (bI T) hr (cV (aa 0) ae)) ae) ae)))) (ah (xY 4 5 (tQ T) hr nd (aw (aa 0) (eG (aa 1) (aa 2) (aa 3)))) (ah (aS 6 nd (he:=aA (Ii (jw (qP T) hr (aw (aa 0) (eG (aa 1) (aa 2) (aa 3))))))) (ah (aS 7 nd (he:=yg (kZ T) hr T.Ay)) (ah (yb T.fw (aA (oC (aD wy T.c8 (bC (aa 6))))) (bZ 8 nd) (aJ (cZ (dq T.bN (tU T) hr (aI 7) (aW (LL (ig (fc hr) (λ _ _=>rfl) (aI 6) (aa 8))) cD))))) (ah (dG (fT (ba (dg (cb (bP (aK (au (bI T) hr (cV (aa 0) ae)) ae) ae) ae) (cJ (mP hr.units rfl ae (aa 6)))))) (ah (cZ (dq T.bN (qR T) hr (aI 7) (aW (dD ae) cD))) (aJ (BO ⟨rfl,rfl,rfl,rfl⟩ (aI 6) ae))) cy) (ah (ya 6 (dG (fT (ba (cO (bJ (bw (ip (gz T) am hr (aw (aa 4) (eG (aa 7) (aa 6) (aa 5)))))) (cf (bJ (bw (ip (gz T) am hr (aw (aa 4) (eG (aa 7) (aa 6) (aa 5)))))))))) (aJ (bX (aA (bz bB)))) cy)) (ah (aS 9 nd (he:=aA (oC (Ei (aD eC T.c8 (bC (aa 5))) ae)))) (ah (cZ (dq T.aL (ko T) hr (aI 4) (aW (dD (aa 9)) (aW (dD (az a9)) cD)))) (ah (xZ (aI 5) (aa 9) (aA (Ih (aW (Fv (aM (aM (aa 5) (aa 9)) ae)) (aW (Fv (aM (aM (aa 5) (aa 9)) ae)) (aW (dD (az a9)) cD)))))) (aJ (bX (aA (oC (ip (gz T) am hr (aw (aa 4) (eG (aa 7) (aa 6) (aa 5)))))))))))))))))))))⟩
def LQ(t:Adr):=iA 10 1 (IB t).1
end
theorem IJ{n m:Nat}{b:DS}{ds:Ry D}{τ:Ry Sl}(h:b (kh n ds)=some (.next τ))(hl:ds.length=m:=by rfl):cH n m b ds=some (.shr .non):=by
 unfold cH;rw[if_pos hl,h]
theorem JG{τ:Ry Sl}{c:DT}{f g:DS}{b:Bool}{s:Sl}(h:c τ=some b)(h1:b=true->f τ=some (.ret s))(h2:b=false->g τ=some (.ret s)):gr (sIf c f qo) g τ=some (.ret s):=by
 cases b with
 |true=>exact dQ h (h1 rfl)
 |false=>exact aT h (h2 rfl)
theorem NT{τ:Ry Sl}{f:DE}{x:Str}(h:f τ=some (.str x)):Hx f τ=some (chD x):=by unfold Hx;rw[h];rfl
theorem Ew{τ:Ry Sl}{f g:DT}{b:Bool}(h1:f τ=some true)(h2:g τ=some b):Cg f g τ=some b:=Jn h1 (λ _=>h2) λ z=>nomatch z
noncomputable def lower(c:Nat):Bool:=decide (97<=c)&&decide (c<=122)
def bT(x:Str):Bool:=(decide (1<=(x.length:Int))&&decide ((x.length:Int)<=8))&&x.cps.toList.all lower
theorem lt1(c d:Nat):[c] < [d]↔c<d:=by
 constructor
 ·intro z
  cases z with
  |rel h=>exact h
  |cons h=>cases h
 ·intro h
  exact List.Lex.rel h
theorem le1(c d:Nat):Nn (.str ⟨#[c]⟩) (.str ⟨#[d]⟩)=some (.bl (decide (c<=d))):=by
 show some (D.bl (!decide ([d] < [c])))=_;congr 2
 by_cases h:c<=d
 ·rw [Zk h,Zp]
  · rfl
  ·intro z
   have:=(lt1 d c).mp z
   lia
 ·rw [Zp h,Zk]
  · rfl
  · exact(lt1 d c).mpr (by lia)
theorem Av {g:D->Rz D} {t:Nat->Bool}:∀ {cs:Ry Nat},(∀ c ∈ cs,g (.str ⟨#[c]⟩)=some (.bl (t c)))->IM g (cs.map λ c=>.str ⟨#[c]⟩)=some (cs.map λ c=>.bl (t c))
 |[],_=>rfl
 |c::cs,h=>by
  show(g (.str ⟨#[c]⟩)).bind (λ x=>(IM g (cs.map λ c=>.str ⟨#[c]⟩)).bind λ xs=>some (x::xs))=_;rw[h c (Zg ..),Av λ c m=>h c (Zd _ m)];rfl
theorem jz (t:Nat->Bool):∀ cs:Ry Nat,Ip (cs.map λ c=>.bl (t c))=some (cs.map t)
 |[]=>rfl
 |c::cs=>by
  show(Ip (cs.map λ c=>.bl (t c))).map (t c::·)=_;rw[jz t cs];rfl
theorem AX(x:Str)(hx:x.length<=100):ng [.str x]=some (.shr (.bl (bT x))):=by
 unfold ng mY;dsimp only;refine bH ?_
 refine aT (kW (b:=true) (aO (a8 (af e_v (af Ua aq)) rfl))) ?_
 have hl:vA [.str x]=some (.int (x.length:Int)):=by
  show(if x.length<=100000 then _ else none)=_;rw[if_pos (by lia)]
 refine JG (kW (aO (v9 (av Ua (a8 (af e_v aq) hl) rfl) (av (a8 (af e_v aq) hl) Ua rfl)))) (λ h=>?_) (λ h=>?_)
 ·unfold bT
  rw[Xj]at h;rw[h];exact bU Ua
 ·rw [Bool.not_eq_false'] at h
  refine bU (a8 (af (LC (NT e_v) ?_ (Av λ c _=>v9 (av Ua e_v (le1 97 c)) (av e_v Ua (le1 c 122)))) aq) ?_)
  ·show (x.cps.toList.map _).length<=_
   rw[Za];exact Zu hx (by decide)
  ·show (Ip _).map _=_
   rw[jz];unfold bT;rw[h];show some (D.bl ((x.cps.toList.map lower).all id))=some (D.bl (x.cps.toList.all lower));rw[List.all_map];rfl
noncomputable def scr(ns:Ry Int):D:=.fz (ns.map .int)
theorem Hg(ns:Ry Int):vA [scr ns]=some (.int ns.length):=by
 show some (D.int ((ns.map D.int).length:Nat))=_;rw[Za]
theorem E7{ns:Ry Int}{j:Int}(h0:0<=j)(h1:j<ns.length):∃ c:Int,oIx (scr ns) (.int j)=some (.int c):=by
 obtain⟨h,e⟩:=wK (xs:=ns.map D.int) h0 (by rw[Za];exact h1);refine⟨ns[j.toNat]'(by rw[Za]at h;exact h),?_⟩;show atI (ns.map D.int) j=_;rw[e,Xf]
def LET:Str:="abcdefghijklmnopqrstuvwxyz"
def okS(x:Str):Bool:=x.cps.all lower
def One(z:Str):Prop:=z.length=1/\okS z=true
def Hf:LET.cps.toList.length=26:=by rfl
def KR:∀ c ∈ LET.cps.toList,lower c=true:=by decide +kernel
theorem E4{k:Int}(k0:0<=k)(k1:k<26):∃ z:Str,oIx (.str LET) (.int k)=some (.str z)/\One z:=by
 obtain⟨h,e⟩:=wK k0 (by rw[Hf];omega);refine⟨⟨#[LET.cps.toList[k.toNat]]⟩,?_,rfl,?_⟩
 ·show (if LET.length<=100000 then (atI LET.cps.toList k).map _ else none)=_
  rw[if_pos (by decide +kernel),e];rfl
 ·unfold okS
  rw[Array.all_eq_true_iff_forall_mem];intro c hc;have e:c=LET.cps.toList[k.toNat]:=by simpa using hc
  rw[e];exact KR _ (Yt h)
theorem fQ{z:Str}(h:bT z=true):kR [.str z]=some (.shr .non):=by
 have l:z.length<=100:=by
  unfold bT at h;rw[Yd,Yd]at h;have:=Z1 h.1.2;omega
 have e:=AX z l;rw[h]at e;exact IJ (lP (kW (aO (c7 (af e_v aq) e rfl))) nofun λ _=>rfl)
theorem KW(ns:Ry Int):vA [.lst (ns.map .int)]=some (.int (ns.length:Int)):=by
 show some (D.int ((ns.map D.int).length:Nat))=_;rw[Za]
theorem nX{ns:Ry Int}{p:Int}(h0:0<=p)(h1:p<=ns.length):jE [.int p,.lst (ns.map .int)]=some (.shr .non):=by
 have hl:=KW ns;have e1:oLe (.int 0) (.int p)=some (.bl true):=by show some (D.bl (decide _))=_;rw[Zk h0]
 have e2:oLe (.int p) (.int (ns.length:Int))=some (.bl true):=by show some (D.bl (decide _))=_;rw[Zk h1]
 exact IJ (lP (kW (aO (v9 (av Ua e_v e1) (av e_v (a8 (af e_v aq) hl) e2)))) nofun λ _=>rfl)
theorem je{r:Rz Out}{it:DI}{gg:DG}{f g:DS}{τ:Ry Sl}{ds:Ry D}(P:Nat->Ry Sl->Prop)(h1:it τ=some ds)(h0:P 0 τ)(hs:∀ j d τ,ds[j]?=some d->P j τ->∃ τ1 τ2,gg d τ=some τ1/\f τ1=some (.next τ2)/\P (j+1) τ2)(h2:∀ τ',P ds.length τ'->g τ'=r):gr (CN it gg f) g τ=r:=by
 obtain⟨τ',e,p⟩:=gH P h1 h0 hs;unfold gr;rw[e];exact h2 _ p
theorem Mo{gg:DG}{f:DS}{d:D}{τ τ1:Ry Sl}{Q:Ry Sl->Prop}(h:gg d τ=some τ1)(h2:∃ τ2,f τ1=some (.next τ2)/\Q τ2):∃ τ1 τ2,gg d τ=some τ1/\f τ1=some (.next τ2)/\Q τ2:=⟨τ1,h2.imp λ _ z=>⟨h,z⟩⟩
theorem oO{f g:DS}{τ τ1:Ry Sl}{Q:Ry Sl->Prop}(h:f τ=some (.next τ1))(h2:∃ τ2,g τ1=some (.next τ2)/\Q τ2):∃ τ2,gr f g τ=some (.next τ2)/\Q τ2:=h2.imp λ _ z=>⟨bp h z.1,z.2⟩
theorem IZ{it:DI}{gg:DG}{f g:DS}{τ:Ry Sl}{ds:Ry D}{Q:Ry Sl->Prop}(P:Nat->Ry Sl->Prop)(h1:it τ=some ds)(h0:P 0 τ)(hs:∀ j d τ,ds[j]?=some d->P j τ->∃ τ1 τ2,gg d τ=some τ1/\f τ1=some (.next τ2)/\P (j+1) τ2)(h2:∀ τ',P ds.length τ'->∃ τ2,g τ'=some (.next τ2)/\Q τ2):∃ τ2,gr (CN it gg f) g τ=some (.next τ2)/\Q τ2:=
 have⟨_,e,p⟩:=gH P h1 h0 hs
 oO e (h2 _ p)
theorem Ae{f g:DS}{τ τ1:Ry Sl}{Q:Out->Prop}(h:f τ=some (.next τ1))(h2:∃ o,g τ1=some o/\Q o):∃ o,gr f g τ=some o/\Q o:=h2.imp λ _ z=>⟨bp h z.1,z.2⟩
theorem Kn{it:DI}{gg:DG}{f g:DS}{τ:Ry Sl}{ds:Ry D}{Q:Out->Prop}(P:Nat->Ry Sl->Prop)(h1:it τ=some ds)(h0:P 0 τ)(hs:∀ j d τ,ds[j]?=some d->P j τ->∃ τ1 τ2,gg d τ=some τ1/\f τ1=some (.next τ2)/\P (j+1) τ2)(h2:∀ τ',P ds.length τ'->∃ o,g τ'=some o/\Q o):∃ o,gr (CN it gg f) g τ=some o/\Q o:=
 have⟨_,e,p⟩:=gH P h1 h0 hs
 Ae e (h2 _ p)
structure Pl where
 k:List Str
 ro:D
structure B8 where
 i:Int
 h:Option Int
 n:Str
 r:List Int
 m:Pl
def fo:Pl:=⟨[],.tup []⟩
def mkD(b:B8):D:=.dct (b.m.k.map λ x=>((.inr x:Key),.bl true))
def wdD(b:B8):D:=.lst []
def roD(b:B8):D:=b.m.ro
def kv{β:Type}(g:B8->β)(M:Ry B8):Ry (Key×β):=M.map λ b=>((.inl b.i:Key),g b)
def fd(M:Ry B8)(i:Int):Rz B8:=M.find? λ b=>decide (b.i=i)
theorem L6{M}{i}{b}(h:fd M i=some b):b.i=i:=by simpa using List.find?_some h
def Lw{M}{i}{b}(h:fd M i=some b):b ∈ M:=List.mem_of_find?_eq_some h
theorem Es g M i:du (kv g M) (.inl i)=(fd M i).map g:=by
 unfold du kv fd
 induction M with
 |nil=>rfl
 |cons b M ih=>
  rw[Zh,QF,QF]
  by_cases h:b.i=i
  · simp[h]
  ·have:decide ((Sum.inl b.i:Key)=Sum.inl i)=false:=Zp λ z=>h (by injection z)
   rw[Zp h,this];exact ih
def hD:Rz Int->D
 |none=>.non
 |some j=>.int j
noncomputable def trF(gv:Int)(M:Ry B8):Ry (Str×D):=[("given",.int gv),("names",.dct (kv (λ b=>.str b.n) M)),("holders",.dct (kv (λ b=>hD b.h) M)),("boxes",.dct (kv (λ b=>.lst (b.r.map .int)) M)),("marks",.dct (kv mkD M)),("words",.dct (kv wdD M)),("rows",.dct (kv roD M))]
def trD(C:RB)(gv:Int)(M:Ry B8):D:=.obj C (trF gv M)
theorem iU{g}{M}{i}{b}(h:fd M i=some b):xu (.dct (kv g M)) (.int i)=some (g b):=by
 show du (kv g M) (.inl i)=_;rw[Es,h];rfl
theorem Bt{g}{M}{i}{b}(h:fd M i=some b):gC (.int i) (.dct (kv g M))=some (.bl false):=by
 show some (D.bl (!(du (kv g M) (.inl i)).isSome))=_;rw[Es,h];rfl
theorem vG:∀ (l:Ry Str) ,rm (l.map λ x=>((.inr x:Key),D.bl true))=some l
 |[]=>rfl
 |x::l=>by
  show(rm (l.map λ x=>((.inr x:Key),D.bl true))).map (x::·)=_;rw[vG l];rfl
section
variable{t:Adr}{gv:Int}{M:Ry B8}{i:Int}{b:B8}{z:Int}
def fN:(trF gv M).lookup ("names":Str)=some (D.dct (kv (λ b=>.str b.n) M)):=rfl
def fH:(trF gv M).lookup ("holders":Str)=some (D.dct (kv (λ b=>hD b.h) M)):=rfl
def fB:(trF gv M).lookup ("boxes":Str)=some (D.dct (kv (λ b=>.lst (b.r.map .int)) M)):=rfl
def fK:(trF gv M).lookup ("marks":Str)=some (D.dct (kv mkD M)):=rfl
def fR:(trF gv M).lookup ("rows":Str)=some (D.dct (kv roD M)):=rfl
theorem lG(h:fd M i=some b):hW t [trD t.aj gv M,.int i]=some (.shr .non):=by
 have e1:=Bt (g:=λ b=>.str b.n) h;exact IJ (lP (aO (av e_v (gq e_v fN) e1)) nofun λ _=>rfl)
theorem chk(h:fd M i=some b):CQ (jR t.aj "check" (hW t) (bf 0) (aX (bf 1) eF)) [.shr (trD t.aj gv M),.shr (.int i)]=some (.next [.shr (trD t.aj gv M),.shr (.int i)]):=
 EB (dU e_v (af e_v aq) rfl (lG h) rfl)
theorem rH(h:fd M i=some b):cF t [trD t.aj gv M,.int i]=some (.shr (hD b.h)):=by
 exact bH (bp (chk h) (bU (av (gq e_v fH) e_v (iU h))))
theorem Dx(h:fd M i=some b)(h64:b.m.k.length<64):hG t [trD t.aj gv M,.int i]=some (.own (.lst ((CC b.m.k).map .str))):=by
 refine bH (bp (chk h) (yN ?_));unfold BB;rw[av (gq e_v fK) e_v (iU h)];show(rm (b.m.k.map λ x=>((.inr x:Key),D.bl true))).bind _=_;rw[vG];show(if b.m.k.length<64 then _ else none)=_;rw[if_pos h64]
inductive Ch (M:List B8):Int->Nat->Prop where
 |top {i:Int} {b:B8} (h:fd M i=some b) (e:b.h=none):Ch M i 0
 |up {i j:Int} {n:Nat} {b:B8} (h:fd M i=some b) (e:b.h=some j) (c:Ch M j n):Ch M i (n+1)
theorem G8(h:fd M i=some b):iK t [trD t.aj gv M,.int i]=some (.shr (.str b.n)):=by
 exact bH (bp (chk h) (bU (av (gq e_v fN) e_v (iU h))))
inductive Hl (M:List B8):Int->List Int->Prop where
 |top {i:Int} {b:B8} (h:fd M i=some b) (e:b.h=none):Hl M i []
 |up {i j:Int} {l:List Int} {b:B8} (h:fd M i=some b) (e:b.h=some j) (c:Hl M j l):Hl M i (j::l)
theorem Hl.get{l}(h:Hl M i l):∃ b,fd M i=some b:=by
 cases h with
 |top h _=>exact⟨_,h⟩
 |up h _ _=>exact⟨_,h⟩
theorem Hl.of{n}(c:Ch M i n):∃ l,Hl M i l/\l.length=n:=by
 induction c with
 |top h e=>exact⟨[],.top h e,rfl⟩
 |up h e c ih=>obtain⟨l,h1,h2⟩:=ih;exact⟨_::l,.up h e h1,Z6 (·+1) h2⟩
theorem rG{l}(c:Hl M i l):∀ ds b,fd M i=some b->ds.length+l.length<100000->c9 (dT (dOp xr (bf 3) (dC .non))) (gr (IH 2 (bf 3)) (xg 3 (jR t.aj "holder_of" (cF t) (bf 0) (aX (bf 3) eF)))) (l.length+1) [.shr (trD t.aj gv M),.shr (.int z),.own (.lst ds),.shr (hD b.h)]=some (.next [.shr (trD t.aj gv M),.shr (.int z),.own (.lst (ds++l.map .int)),.shr .non]):=by
 induction c with
 |@top i b h e=>
  intro ds b' hb hz;rw[h]at hb;cases hb;rw[e];have t1:dT (dOp xr (bf 3) (dC .non)) [.shr (trD t.aj gv M),.shr (.int z),.own (.lst ds),.shr (hD none)]=some false:=rfl;unfold c9;rw[t1,We,Zz];rfl
 |@up i j l b h e c ih=>
  intro ds b' hb hz;rw[h]at hb;cases hb;obtain⟨bj,hj⟩:=c.get;have hx:=ih (ds++[.int j]) bj hj (by rw[Z5];show ds.length+1+l.length<_;rw[Z2]at hz;lia);rw[e];have t1:dT (dOp xr (bf 3) (dC .non)) [.shr (trD t.aj gv M),.shr (.int z),.own (.lst ds),.shr (hD (some j))]=some true:=rfl
  have t2:gr (IH 2 (bf 3)) (xg 3 (jR t.aj "holder_of" (cF t) (bf 0) (aX (bf 3) eF))) [.shr (trD t.aj gv M),.shr (.int z),.own (.lst ds),.shr (hD (some j))]=some (.next [.shr (trD t.aj gv M),.shr (.int z),.own (.lst (ds++[.int j])),.shr (hD bj.h)]):=
   bp ((tj e_v rfl (by lia)).trans rfl) ((bO (dU e_v (af e_v aq) rfl (rH hj) rfl)).trans rfl)
  conv=>lhs;unfold c9
  rw[t1];simp only[t2];rw[Wl]at hx;exact hx
theorem xD{l}(c:Hl M i l)(hn:l.length<1000):gZ t [trD t.aj gv M,.int i]=some (.own (.lst (l.map .int))):=by
 obtain⟨b,h⟩:=c.get;have w:=yQ (rG (t:=t) (gv:=gv) (z:=i) c [] b h (by rw[Xo];lia));unfold gZ gP;dsimp only;exact bH (bp (gw (iy aq (Z0 _)) (Zb rfl)) (bp ((bO (dU e_v (af e_v aq) rfl (rH h) rfl)).trans rfl) (bp w (lO rfl))))
theorem D6{n}(c:Ch M i n)(hn:n<1000):oJ t [trD t.aj gv M,.int i]=some (.shr (.int (n:Int))):=by
 obtain⟨l,h,e⟩:=Hl.of c;refine bH (bU (a8 (af (c7 (af e_v (af e_v aq)) (xD h (by lia)) rfl) aq) ?_));show some (D.int ((l.map D.int).length:Int))=_;rw[Za,e]
end
def trG(C:RB)(g nm ho bx mk wd rw:Mt):Mt:=.n (.o C) [(.inr "given",g),(.inr "names",nm),(.inr "holders",ho),(.inr "boxes",bx),(.inr "marks",mk),(.inr "words",wd),(.inr "rows",rw)]
def kM(g:B8->Mt)(M:Ry B8):Mt:=.n .d (kv g M)
def mkM(b:B8):Mt:=.n .d (b.m.k.map λ x=>((.inr x:Key),.s (.bl true)))
def wdM(b:B8):Mt:=lM []
def roM(b:B8):Mt:=.s b.m.ro
def bxM(M:Ry B8):Mt:=kM (λ b=>lM (b.r.map .int)) M
def trM(C:RB)(gv:Int)(M:Ry B8):Mt:=trG C (.s (.int gv)) (kM (λ b=>.s (.str b.n)) M) (kM (λ b=>.s (hD b.h)) M) (bxM M) (kM mkM M) (kM wdM M) (kM roM M)
theorem N4 g M:frz (kM g M)=.dct (kv (λ b=>frz (g b)) M):=by
 unfold kM kv;rw[frz,pJ,Yb];rfl
def xH d:frz (.s d)=d:=by rw[frz]
theorem kA ns:frz (lM ns)=.lst ns:=by
 unfold lM;rw[frz,vP,Yb];congr 1;exact(Z4 (g:=id) λ d _=>by show frz (.s d)=id d;rw[frz];rfl).trans (List.map_id _)
theorem Ls b:frz (mkM b)=mkD b:=by
 unfold mkM mkD;rw[frz,pJ,Yb];exact Z6 D.dct (Z4 λ x _=>by show(_,frz (.s _))=_;rw[xH])
def Lq b:frz (wdM b)=wdD b:=by
 unfold wdM wdD;rw[kA]
def Lr b:frz (roM b)=roD b:=by
 unfold roM roD;rw[xH]
theorem Fh C gv M:frz (trM C gv M)=trD C gv M:=by
 unfold trM trG bxM;rw[frz];simp only[vQ,Zh,We,N4,xH,kA,Ls,Lq,Lr,strOf];rfl
theorem FO{C}{g nm ho bx mk wd rw}{k}:(trG C g nm ho bx mk wd rw).get [.k (.inr "boxes"),.k k]=bx.get [.k k]:=rfl
theorem tf{C}{g nm ho bx mk wd rw x}{k}:(trG C g nm ho bx mk wd rw).put [.k (.inr "boxes"),.k k] x=trG C g nm ho (bx.put [.k k] x) mk wd rw:=rfl
theorem Ff g M i:(kM g M).get [.k (.inl i)]=(fd M i).map g:=by
 unfold kM;rw[pV];unfold kv fd
 induction M with
 |nil=>rfl
 |cons b M ih=>
  rw[Zh,QF,QF]
  by_cases h:b.i=i
  · simp[h]
  ·have:decide ((Sum.inl b.i:Key)=Sum.inl i)=false:=Zp λ z=>h (by injection z)
   rw[Zp h,this];exact ih
def Nd(M:Ry B8):Prop:=(M.map B8.i).Nodup
theorem fd_none{M}{i}:fd M i=none↔∀ b ∈ M,b.i≠i:=by
 unfold fd;rw[QM];exact⟨λ h b hb e=>h b hb (by simp[e]),λ h b hb e=>h b hb (by simpa using e)⟩
theorem HK{M}(nd:Nd M){b}(hb:b ∈ M):fd M b.i=some b:=by
 unfold Nd at nd;unfold fd
 induction M with
 |nil=>cases hb
 |cons c M ih=>
  rw[Zh,Z8]at nd;rw[QF];rcases Zi.mp hb with rfl|hb
  · simp
  ·have ne:c.i≠b.i:=λ e=>nd.1 (by rw [e]; exact X9 hb)
   rw[Zp ne];exact ih nd.2 hb
theorem LM{β}(g:B8->β) M i:((kv g M).any λ c=>decide (c.1=.inl i))=(fd M i).isSome:=by
 unfold kv fd;rw[Wg,<- List.isSome_find?];congr 2
 funext b
 show decide ((Sum.inl b.i:Key)=Sum.inl i)=decide (b.i=i);exact Wu.mpr ⟨λ z=>by injection z,λ z=>by rw[z]⟩
theorem CU{g}{M}{i}{m}(h:fd M i=none):ki (kv g M) (.inl i) m=kv g M++[(.inl i,m)]:=by
 unfold ki;rw[LM,h];rfl
theorem Ho{β}(g:B8->β) M b:kv g (M++[b])=kv g M++[(.inl b.i,g b)]:=by
 unfold kv;rw[Zq];rfl
theorem zg{g}{M}{b}(h:fd M b.i=none):ki (kv g M) (.inl b.i) (g b)=kv g (M++[b]):=by rw[CU h,Ho]
def AL{β}(g:B8->β) M:(kv g M).length=M.length:=Za _
def upR(M:Ry B8)(i:Int)(r:Ry Int):Ry B8:=M.map λ b=>if b.i=i then { b with r:=r } else b
theorem yy{β}(g:B8->β) M i r (hg:∀ b,g { b with r:=r }=g b):kv g (upR M i r)=kv g M:=by
 unfold kv upR;rw[Yb];refine Z4 λ b _=>?_
 show((Sum.inl (if b.i=i then { b with r:=r } else b).i:Key),g (if b.i=i then { b with r:=r } else b))=_;split
 · rw[hg]
 · rfl
theorem tF {g:B8->Mt} {m2:Mt} {i:Int} {b:B8}:∀ {M:Ry B8},Nd M->fd M i=some b->(kM g M).put [.k (.inl i)] m2=.n .d (M.map λ c=>((.inl c.i:Key),if c.i=i then m2 else g c))
 |c::M,nd,h=>by
  obtain⟨n1,n2⟩:=Z8.mp nd
  by_cases e:c.i=i
  ·subst e
   simp only[kM,Mt.put,qB,kv,Zh,List.findIdx?_cons,decide_true,if_true,List.getElem?_cons_zero,List.set_cons_zero];congr 2;exact Z4 λ d hd=>by rw[if_neg λ z:d.i=c.i=>n1 (by rw[<- z];exact X9 hd)]
  ·have ih:=tF (g:=g) (m2:=m2) (M:=M) n2 (by unfold fd at h ⊢; rwa [QF,Zp e] at h)
   have z:decide ((Sum.inl c.i:Key)=Sum.inl i)=false:=Zp λ z=>e (Sum.inl.inj z)
   simp only[kM,Mt.put,qB,kv,Zh,List.findIdx?_cons,z,if_neg e]at ih ⊢
   revert ih
   cases List.findIdx? _ (M.map _) with
   |none=>intro ih;simpa using ih
   |some j=>cases q:(M.map λ b=>((Sum.inl b.i:Key),g b))[j]? <;> intro ih<;>simpa [q] using ih
theorem JT{M}{i}{b}{r}(nd:Nd M)(h:fd M i=some b):(bxM M).put [.k (.inl i)] (lM (r.map .int))=bxM (upR M i r):=(tF nd h).trans (Z6 (Mt.n .d) (by
 unfold kv upR;rw[Yb]
 exact Z4 λ c _=>by simp only[Function.comp];split<;>rfl))
section
variable{t:Adr}{gv:Int}{M:Ry B8}{nm:Str}{h:Rz Int}
theorem oZ{C}{b}{r}:b6 (.mu b (trM C gv M)::r)=.shr (trD C gv M)::b6 r:=by
 show Sl.shr (frz (trM C gv M))::_=_;rw[Fh]
theorem v8(hl:M.length<1000)(hf:fd M gv=none):hU t [.mu true (trM t.aj gv M),.shr (hD h),.shr (.str nm)]=some (.shr (.int gv),[.mu true (trM t.aj (gv+1) (M++[⟨gv,h,nm,[],fo⟩])),.no,.no]):=by
 unfold hU gU;refine(fE (τ:=[.mu true (trM t.aj (gv+1) (M++[⟨gv,h,nm,[],fo⟩])),.shr (hD h),.shr (.str nm),.shr (.int gv)]) ?_).trans rfl;have hz:∀ g:B8->Mt,(kv g M).length<100000:=λ g=>by rw[AL];omega
 refine a7 (τ':=[.mu true (trM t.aj gv M),.shr (hD h),.shr (.str nm),.shr (.int gv)]) (dS (s:=.shr (.int gv)) (v_S ?_ rfl) (Zb rfl) rfl) ?_
 ·show dUn (IL t.aj "given") (bf 0) (b6 (.mu true (trM t.aj gv M)::[.shr (hD h),.shr (.str nm),.no]))=_
  rw[oZ];exact gq e_v rfl
 refine a7 (He (v_N (av e_v Ua (aU _ _))) cq rfl rfl (Zb rfl)) ?_
 refine a7 (gj (v_N e_v) (lK cq rfl) e_v rfl rfl rfl (hz _)) ?_
 refine a7 (gj (v_N e_v) (lK cq rfl) e_v rfl rfl rfl (hz _)) ?_
 refine a7 (gj (v_O (iy aq (Z0 _)) rfl) (lK cq rfl) e_v rfl rfl rfl (hz _)) ?_
 refine a7 (gj rfl (lK cq rfl) e_v rfl rfl rfl (hz _)) ?_
 refine a7 (gj (v_O (iy aq (Z0 _)) rfl) (lK cq rfl) e_v rfl rfl rfl (hz _)) ?_
 refine a7 (gj (v_N (bV aq (Z0 _))) (lK cq rfl) e_v rfl rfl rfl (hz _)) ?_
 refine(mi (v_N e_v)).trans ?_
 have sn:∀ g:B8->Mt,ki (kv g M) (.inl gv) (g ⟨gv,h,nm,[],fo⟩)=kv g (M++[⟨gv,h,nm,[],fo⟩]):=λ g=>zg (b:=⟨gv,h,nm,[],fo⟩) hf
 unfold trM bxM kM;rw[<- sn,<- sn,<- sn,<- sn,<- sn,<- sn];rfl
theorem fO{C}{x}{cs}{mv}{b}{r}{fv}{s}(h1:fv (.mu b (.n (.o C) cs)::r)=some (s,.mu b (.n (.o C) cs)::r))(h5:toM s=some mv)(h7:cs.length<1000):CO C x (nA 0) fv (.mu b (.n (.o C) cs)::r)=some (.next (.mu b (.n (.o C) (ki cs (.inr x) mv))::r)):=(He h1 cq h5 rfl h7).trans rfl
theorem Hv(hn:bT nm=true):d9 t [.mu true (.n (.o t.aj) []),.shr (.str nm)]=some (.shr .non,[.mu true (trM t.aj 1 [⟨0,none,nm,[],fo⟩]),.no]):=by
 unfold d9 d6;refine(EF (τ:=[.mu true (trM t.aj 1 [⟨0,none,nm,[],fo⟩]),.shr (.str nm)]) ?_).trans rfl;refine a7 (fL (c7 (af e_v aq) (fQ hn) rfl)) ?_
 refine a7 (fO (v_N Ua) rfl (Zb rfl)) ?_
 refine a7 (fO rfl rfl (Zb rfl)) ?_
 refine a7 (fO rfl rfl (Zb rfl)) ?_
 refine a7 (fO rfl rfl (Zb rfl)) ?_
 refine a7 (fO rfl rfl (Zb rfl)) ?_
 refine a7 (fO rfl rfl (Zb rfl)) ?_
 refine a7 (fO rfl rfl (Zb rfl)) ?_
 have e:=v8 (t:=t) (gv:=0) (M:=[]) (nm:=nm) (h:=none) (by decide) rfl;refine mj (s:=.shr (.int 0)) (v_M cq rfl rfl (cS (q_N Ua) (cS (q_N e_v) rfl)) rfl e ?_);rfl
end
def insI(r:Ry Int)(p x:Int):Ry Int:=r.take p.toNat++x::r.drop p.toNat
theorem Fb r p x:Mt.n .l (L5 ((r.map D.int).map λ d=>((.inl 0:Key),Mt.s d)) p.toNat (.s (.int x)))=lM ((insI r p x).map .int):=by
 unfold lM insI L5;rw[Zq,Zq,Zh,Zh,Ra,Ra,Rb,Rb]
theorem Lx{M}{i}{b c}(h:fd M i=some b):fd (M++[c]) i=some b:=by
 unfold fd at *;rw[Q3,h];rfl
theorem Ks{M}{b}(nd:Nd M)(h:fd M b.i=none):Nd (M++[b]):=by
 unfold Nd at *;rw[Zq,Yq];refine⟨nd,by simp,λ x hx y hy e=>?_⟩;obtain⟨c,hc,rfl⟩:=Ye.mp hx;have:y=b.i:=by simpa using hy
 exact fd_none.mp h c hc (by rw[e,this])
theorem HC{i j}(h:i<=j):oGt (.int i) (.int j)=some (.bl false):=by
 show some (D.bl (decide _))=_;rw[Zp (by lia)]
theorem KY{g} M:xt [.dct (kv g M)]=some (.int (M.length:Int)):=by
 show some (D.int ((kv g M).length:Nat))=_;rw[AL]
def Ce(M:Ry B8)(h:Int)(b:B8)(p gv:Int)(nm:Str):Ry B8:=upR (M++[⟨gv,some h,nm,[],fo⟩]) h (insI b.r p gv)
theorem Jk{C}{gv}{M}{i}{r}:trM C gv (upR M i r)=trG C (.s (.int gv)) (kM (λ b=>.s (.str b.n)) M) (kM (λ b=>.s (hD b.h)) M) (bxM (upR M i r)) (kM mkM M) (kM wdM M) (kM roM M):=by
 unfold trM kM;rw[yy _ _ _ _ (λ _=>rfl),yy _ _ _ _ (λ _=>rfl),yy _ _ _ _ (λ _=>rfl),yy _ _ _ _ (λ _=>rfl),yy _ _ _ _ (λ _=>rfl)]
section
variable{t:Adr}{gv:Int}{M:Ry B8}{nm:Str}{h p:Int}{b:B8}{dp:Nat}
theorem JS(nd:Nd M)(hf:fd M gv=none)(hb:fd M h=some b)(p0:0<=p)(p1:p<=(b.r.length:Int))(hz:b.r.length<1000)(hn:bT nm=true)(h90:M.length<90)(ch:Ch M h dp)(h12:dp<12):j8 t [.mu true (trM t.aj gv M),.shr (.int h),.shr (.int p),.shr (.str nm)]=some (.shr (.int gv),[.mu true (trM t.aj (gv+1) (Ce M h b p gv nm)),.no,.no,.no]):=by
 unfold j8 j0;refine(fE (τ:=[.mu true (trM t.aj (gv+1) (Ce M h b p gv nm)),.shr (.int h),.shr (.int p),.shr (.str nm),.shr (.int gv)]) ?_).trans rfl;have sn:∀{x:Sm},b6 [.mu true (trM t.aj gv M),.shr (.int h),.shr (.int p),.shr (.str nm),x]=.shr (trD t.aj gv M)::b6 [.shr (.int h),.shr (.int p),.shr (.str nm),x]:=oZ
 refine a7 (fL (τ:=[.mu true (trM t.aj gv M),.shr (.int h),.shr (.int p),.shr (.str nm),.no]) (by rw[sn];exact dU e_v (af e_v aq) rfl (lG hb) rfl)) ?_
 refine a7 (fL (by rw[sn];exact c7 (af e_v (af (av (gq e_v fB) e_v (iU hb)) aq)) (nX p0 p1) rfl)) ?_
 refine a7 (fL (by rw[sn];exact c7 (af e_v aq) (fQ hn) rfl)) ?_
 refine a7 (pB (t_S (by rw[sn];exact aO (av (av (a8 (af (gq e_v fN) aq) (KY M)) Ua (aU _ _)) Ua (HC (by lia))))) rfl) ?_
 refine a7 (pB (t_S (by rw[sn];exact aO (av (av (c7 (af e_v (af e_v aq)) (D6 ch (by lia)) rfl) Ua (aU _ _)) Ua (HC (by lia))))) rfl) ?_
 have e:=v8 (t:=t) (nm:=nm) (h:=some h) (by lia) hf;refine a7 (dS (s:=.shr (.int gv)) (v_M cq rfl rfl (cS (q_N e_v) (cS (q_N e_v) rfl)) rfl e rfl) (Zb rfl) rfl) ?_
 have hb1:fd (M++[⟨gv,some h,nm,[],fo⟩]) h=some b:=Lx hb;have nd1:=Ks (b:=⟨gv,some h,nm,[],fo⟩) nd hf
 have hg:a6 [.mu true (trM t.aj (gv+1) (M++[⟨gv,some h,nm,[],fo⟩])),.shr (.int h),.shr (.int p),.shr (.str nm),.shr (.int gv)] 0 [.k (.inr "boxes"),.k (.inl h)]=some (lM (b.r.map .int)):=by
  rw[mf rfl];refine FO.trans ?_
  refine(Ff _ _ _).trans ?_
  rw[hb1];rfl
 refine a7 (KG (wQ (lK cq rfl) e_v rfl rfl) hg e_v (v_N e_v) rfl hg ⟨p0,by rw[Za,Za];exact p1,by rw[Za,Za];lia⟩) ?_
 rw[iD rfl,Fb];refine(mi (v_N e_v)).trans ?_
 have ep:(trM t.aj (gv+1) (M++[⟨gv,some h,nm,[],fo⟩])).put [.k (.inr "boxes"),.k (.inl h)] (lM ((insI b.r p gv).map .int))=trM t.aj (gv+1) (Ce M h b p gv nm):=by
  refine tf.trans ?_
  rw[JT nd1 hb1];unfold Ce;rw[Jk]
 show some (En.ret _ (List.set _ 0 (.mu true ((trM t.aj (gv+1) (M++[⟨gv,some h,nm,[],fo⟩])).put [.k (.inr "boxes"),.k (.inl h)] (lM ((insI b.r p gv).map .int))))))=_;rw[ep];rfl
end
theorem E2{f g}{τ τ'}{s}(h:f τ=some (.ret s τ')):jL f g τ=some (.ret s τ'):=by unfold jL;rw[h]
theorem lE{b}{ds}{τ}(P:Nat->Ry Sm->Prop)(h0:P 0 τ)(hs:∀ j d τ,ds[j]?=some d->P j τ->∃ τ2,b d τ=some (.next τ2)/\P (j+1) τ2):∃ τ',forM b ds τ=some (.next τ')/\P ds.length τ':=by
 induction ds generalizing τ P with
 |nil=>exact⟨τ,rfl,h0⟩
 |cons d ds ih=>
  obtain⟨τ2,e,p⟩:=hs 0 d τ rfl h0;obtain⟨τ',e',p'⟩:=ih (λ j=>P (j+1)) p λ j d τ hd hp=>hs (j+1) d τ hd hp
  refine⟨τ',?_,p'⟩;show(match b d τ with|some (.next τ')=>forM b ds τ'|some (.cnt τ')=>forM b ds τ'|some (.brk τ')=>some (.next τ')|r=>r)=_;rw[e];exact e'
section
variable{t:Adr}{gv:Int}{M:Ry B8}
def stB(M:Ry B8)(i:Int)(p:Pl):Ry B8:=M.map λ b=>if b.i=i then { b with m:=p } else b
theorem DZ M i x p:fd (stB M i p) x=(fd M x).map λ b=>if b.i=i then { b with m:=p } else b:=by
 unfold fd stB;rw[Rx];congr 2
 funext b
 show decide ((if b.i=i then { b with m:=p } else b).i=x)=_;split<;>rfl
theorem kst{β}{g:B8->β}{p}{i}{b}(nd:Nd M)(hb:fd M i=some b):(M.map λ c=>((.inl c.i:Key),if c.i=i then g { b with m:=p } else g c))=kv g (stB M i p):=by
 unfold kv stB;rw[Yb];refine Z4 λ c hc=>?_
 show _=((Sum.inl (if c.i=i then { c with m:=p } else c).i:Key),g (if c.i=i then { c with m:=p } else c))
 by_cases e:c.i=i
 ·have hf:=HK nd hc
  rw[e,hb]at hf;cases hf;rw[if_pos e,if_pos e]
 · rw[if_neg e,if_neg e]
theorem ny{β}{g:B8->β}{p}{i}{b}(nd:Nd M)(hb:fd M i=some b)(hg:g { b with m:=p }=g b):kv g (stB M i p)=kv g M:=by
 rw[<- kst nd hb];refine Z4 λ c hc=>?_
 by_cases e:c.i=i
 ·have hf:=HK nd hc
  rw[e,hb]at hf;cases hf;rw[if_pos e,hg]
 · rw[if_neg e]
theorem oY{i}{b}(nd:Nd M)(hb:fd M i=some b):stB M i b.m=M:=by
 refine(Z4 λ c hc=>?_).trans (List.map_id _)
 by_cases e:c.i=i
 ·have hf:=HK nd hc
  rw[e,hb]at hf;cases hf;rw[if_pos e];rfl
 ·rw [if_neg e]
  rfl
theorem Ms{C}{p}{i}{b}(nd:Nd M)(hb:fd M i=some b)(hro:p.ro=b.m.ro):(trM C gv M).put ([]++[.k (.inr "marks")]++[.k (.inl i)]) (mkM { b with m:=p })=trM C gv (stB M i p):=by
 refine(show _=trG C (.s (.int gv)) (kM (λ b=>.s (.str b.n)) M) (kM (λ b=>.s (hD b.h)) M) (bxM M) ((kM mkM M).put [.k (.inl i)] (mkM { b with m:=p })) (kM wdM M) (kM roM M) from rfl).trans ?_
 rw[tF nd hb,kst nd hb];unfold trM bxM kM;rw[ny (p:=p) (g:=λ b=>Mt.s (.str b.n)) nd hb rfl,ny (p:=p) (g:=λ b=>Mt.s (hD b.h)) nd hb rfl,ny (p:=p) (g:=λ b=>lM (b.r.map .int)) nd hb rfl,ny (p:=p) (g:=wdM) nd hb rfl,ny (p:=p) (g:=roM) nd hb (Z6 Mt.s hro)]
theorem Gx{g}{x}{i}{b}(hb:fd M i=some b):ki (kv g M) (.inl i) x=M.map λ c=>((.inl c.i:Key),if c.i=i then x else g c):=by
 unfold ki
 rw[if_pos (by
  rw[Xv];refine⟨((.inl b.i:Key),g b),?_,Zk (by rw[L6 hb])⟩
  exact Ye.mpr ⟨b,Lw hb,rfl⟩)]
 unfold kv;rw[Yb];refine Z4 λ c hc=>?_
 show(if(Sum.inl c.i:Key)=Sum.inl i then((Sum.inl c.i:Key),x) else(Sum.inl c.i,g c))=_
 by_cases e:c.i=i
 · rw[if_pos (by rw[e]),if_pos e]
 · rw[if_neg (λ z=>e (by injection z)),if_neg e]
theorem OZ:∀ (l:Ry Str) (w:Str),(du (l.map λ x=>((.inr x:Key),D.bl true)) (.inr w)).isSome=decide (w ∈ l)
 |[],w=>rfl
 |x::l,w=>by
  have ih:=OZ l w;unfold du at ih ⊢;rw[Zh,QF]
  by_cases e:x=w
  ·rw [Zk (show (Sum.inr x:Key)=Sum.inr w by rw [e]),Zk (show w ∈ x::l by rw [e]; exact Zg ..)]
   rfl
  ·rw [Zp (show ¬ (Sum.inr x:Key)=Sum.inr w from λ z=>e (by injection z))]
   refine ih.trans ?_
   by_cases h:w ∈ l
   · rw[Zk h,Zk (Zd _ h)]
   · rw[Zp h,Zp (λ z=>(Zi.mp z).elim (λ z=>e z.symm) h)]
theorem kin b w:Cf (.str w) (mkD b)=some (.bl (decide (w ∈ b.m.k))):=by
 show some (D.bl (du (b.m.k.map λ x=>((.inr x:Key),D.bl true)) (.inr w)).isSome)=_;rw[OZ]
theorem Qb(l:Ry Str) w:((l.map λ x=>((.inr x:Key),Mt.s (.bl true))).any λ c=>decide (c.1=.inr w))=decide (w ∈ l):=by
 rw[Xn,Xz,Xv];constructor
 ·rintro ⟨c,hc,e⟩
  obtain⟨x,hx,rfl⟩:=Ye.mp hc;have:=Z1 e;injection this with this
  rw[<- this];exact hx
 · exact λ h=>⟨_,Ye.mpr ⟨w,h,rfl⟩,Zk rfl⟩
def GY(p:Pl)(w:Str):Pl:=if w ∈ p.k then p else { p with k:=p.k++[w] }
theorem Kw{C}{r}{i}{b}(hb:fd M i=some b):a6 (.mu true (trM C gv M)::r) 0 ([]++[.k (.inr "marks")]++[.k (.inl i)])=some (mkM b):=by
 rw[mf rfl];refine(show _=(kM mkM M).get [.k (.inl i)] from rfl).trans ?_
 rw[Ff,hb];rfl
theorem Hc{i}{b}{w}(nd:Nd M)(hb:fd M i=some b)(hn:bT w=true)(hk:b.m.k.length<1000):nu t [.mu true (trM t.aj gv M),.shr (.int i),.shr (.str w)]=some (.shr (.bl (!decide (w ∈ b.m.k))),[.mu true (trM t.aj gv (stB M i (GY b.m w))),.no,.no]):=by
 have sn:∀{r:Ry Sm},b6 (.mu true (trM t.aj gv M)::r)=.shr (trD t.aj gv M)::b6 r:=oZ
 refine(fE (τ:=[.mu true (trM t.aj gv (stB M i (GY b.m w))),.shr (.int i),.shr (.str w)]) ?_).trans rfl;refine a7 (fL (τ:=[.mu true (trM t.aj gv M),.shr (.int i),.shr (.str w)]) (by rw[sn];exact dU e_v (af e_v aq) rfl (lG hb) rfl)) ?_
 refine a7 (fL (c7 (af e_v aq) (fQ hn) rfl)) ?_
 have et:=t_S (τ:=[.mu true (trM t.aj gv M),.shr (.int i),.shr (.str w)]) (g:=dT (dOp Cf (bf 2) (dOp xu (dUn (IL t.aj "marks") (bf 0)) (bf 1)))) (by rw[sn];exact aO (av e_v (av (gq e_v fK) e_v (iU hb)) (kin b w)));unfold GY
 by_cases h:w ∈ b.m.k
 ·rw [Zk h] at et
  rw[Zk h,if_pos h,oY nd hb];exact E2 (Dz et (mi (v_N Ua)))
 ·rw [Zp h] at et
  rw[Zp h,if_neg h];refine a7 (pB et rfl) ?_
  refine a7 ((gj (v_N Ua) (wQ (lK cq rfl) e_v rfl rfl) e_v rfl rfl (Kw hb) (by rw[Za];lia)).trans ?_) (mi (v_N Ua));rw[iD rfl]
  have e2:ki (b.m.k.map λ x=>((.inr x:Key),Mt.s (.bl true))) (.inr w) (.s (.bl true))=(b.m.k++[w]).map λ x=>((.inr x:Key),Mt.s (.bl true)):=by
   unfold ki;rw[Qb,Zp h,if_neg Zf,Zq];rfl
  rw[e2];have e3:=Ms (C:=t.aj) (gv:=gv) (p:={ b.m with k:=b.m.k++[w] }) nd hb rfl;rw[show(Mt.n .d ((b.m.k++[w]).map λ x=>((.inr x:Key),Mt.s (.bl true))))=mkM { b with m:={ b.m with k:=b.m.k++[w] } } from rfl,e3];rfl
theorem Mr{C}{d}{i}{b}(nd:Nd M)(hb:fd M i=some b):(trM C gv M).put [.k (.inr "rows")] (.n .d (ki (kv roM M) (.inl i) (.s d)))=trM C gv (stB M i { b.m with ro:=d }):=by
 refine(show _=trG C (.s (.int gv)) (kM (λ b=>.s (.str b.n)) M) (kM (λ b=>.s (hD b.h)) M) (bxM M) (kM mkM M) (kM wdM M) (.n .d (ki (kv roM M) (.inl i) (.s d))) from rfl).trans ?_
 rw[Gx hb,show(Mt.s d)=roM { b with m:={ b.m with ro:=d } } from rfl,kst nd hb];unfold trM bxM kM;rw[ny (p:={ b.m with ro:=d }) (g:=λ b=>Mt.s (.str b.n)) nd hb rfl,ny (p:={ b.m with ro:=d }) (g:=λ b=>Mt.s (hD b.h)) nd hb rfl,ny (p:={ b.m with ro:=d }) (g:=λ b=>lM (b.r.map .int)) nd hb rfl,ny (p:={ b.m with ro:=d }) (g:=wdM) nd hb rfl,ny (p:={ b.m with ro:=d }) (g:=mkM) nd hb rfl]
theorem wa{i}{b}{xs ys}(nd:Nd M)(hb:fd M i=some b)(hx:b.m.ro=.tup xs)(h1:okP 9 (.tup xs)=true)(h2:okP 9 (.tup ys)=true)(h3:(xs.isEmpty||ys.isEmpty)=true)(hl:M.length<1000):kU t [.mu true (trM t.aj gv M),.shr (.int i),.shr (.tup ys)]=some (.shr (.bl (!(xs.isEmpty&&ys.isEmpty))),[.mu true (trM t.aj gv (stB M i { b.m with ro:=.tup ys })),.no,.no]):=by
 have sn:∀{r:Ry Sm},b6 (.mu true (trM t.aj gv M)::r)=.shr (trD t.aj gv M)::b6 r:=oZ
 refine(fE (τ:=[.mu true (trM t.aj gv (stB M i { b.m with ro:=.tup ys })),.shr (.int i),.shr (.tup ys)]) ?_).trans rfl;refine a7 (fL (τ:=[.mu true (trM t.aj gv M),.shr (.int i),.shr (.tup ys)]) (by rw[sn];exact dU e_v (af e_v aq) rfl (lG hb) rfl)) ?_
 have eo:Kp (roD b) (.tup ys)=some (.bl (xs.isEmpty&&ys.isEmpty)):=by
  show Kp b.m.ro (.tup ys)=_;rw[hx];exact if_pos ⟨h1,h2,h3⟩
 have et:=t_S (τ:=[.mu true (trM t.aj gv M),.shr (.int i),.shr (.tup ys)]) (g:=dT (dOp Kp (dOp xu (dUn (IL t.aj "rows") (bf 0)) (bf 1)) (bf 2))) (by rw[sn];exact aO (av (av (gq e_v fR) e_v (iU hb)) e_v eo))
 cases h:xs.isEmpty&&ys.isEmpty with
 |true=>
  rw[h]at et;rw[Yd,List.isEmpty_iff,List.isEmpty_iff]at h;have:{ b.m with ro:=.tup ys }=b.m:=by rw[h.2,<- h.1,<- hx]
  rw[this,oY nd hb];exact E2 (Dz et (mi (v_N Ua)))
 |false=>
  rw[h]at et;refine a7 (pB et rfl) ?_
  have hg:a6 [.mu true (trM t.aj gv M),.shr (.int i),.shr (.tup ys)] 0 [.k (.inr "rows")]=some (.n .d (kv roM M)):=by rw[mf rfl];rfl
  refine a7 ((gj (v_N e_v) (lK cq rfl) e_v rfl rfl hg (by rw[AL];lia)).trans ?_) (mi (v_N Ua));rw[iD rfl,Wy,Mr nd hb];rfl
end
def pA{x y}(h:x.length+y.length<=100000):tV (.str x) (.str y)=some (.str (x++y)):=if_pos h
theorem len_app(x y:Str):(x++y).length=x.length+y.length:=by
 show(x.cps++y.cps).size=_;rw[Array.size_append];rfl
theorem Lz{τ}{f}{l u}{z}{lo hi}(h1:f τ=some (.str z))(h2:l τ=some lo)(h3:u τ=some hi)(h4:z.length<=100000):Oc f l u τ=some (.str (Txt.slice z lo hi)):=by
 unfold Oc;rw[h1];rw[h2];rw[h3];exact if_pos h4
theorem qk z {a b:Nat} {l u} (hab:a<=b) (hb:b<=z.length) (e:Builtin.Str.strSliceIndices l u 1 z.length=Builtin.Str.strSliceIndices (some (a:Int)) (some (b:Int)) 1 z.length):(Txt.slice z l u).cps.toList=(z.cps.toList.drop a).take (b - a):=by
 have hl:z.cps.toList.length=z.length:=Y1;unfold Txt.slice;rw[e];split
 ·rename_i h
  rw[StrLaws.strSliceIndices_plain hab hb,Za,List.length_range]at h;have h':b - a=z.length:=by simpa using h
  have ha:a=0:=by lia
  subst ha;rw[List.drop_zero,h',<- hl,Yn]
 ·show (List.filterMap _ _)=_
  exact StrLaws.sliced_plain z hab hb
theorem oj{x}:bT x=true↔1<=x.length/\x.length<=8/\∀ c ∈ x.cps.toList,lower c=true:=by
 unfold bT;rw[Yd,Yd,decide_eq_true_eq,decide_eq_true_eq,Xd];constructor
 ·rintro ⟨⟨h1,h2⟩,h3⟩
  exact⟨by lia,by lia,h3⟩
 ·rintro ⟨h1,h2,h3⟩
  exact⟨⟨by lia,by lia⟩,h3⟩
def AF(x:Str):x.length=x.cps.toList.length:=by rfl
theorem uF(x y:Str):(x++y).cps.toList=x.cps.toList++y.cps.toList:=by
 show(x.cps++y.cps).toList=_;rw[Ru]
theorem zU{z}(h:One z):∀ c ∈ z.cps.toList,lower c=true:=by
 have h2:=h.2;unfold okS at h2;rw[Array.all_eq_true_iff_forall_mem]at h2;intro c hc;exact h2 c (by simpa using hc)
theorem Fu ns {k} (k0:0<=k):∃ c,jb [scr ns,.int k]=some (.shr (.int c)):=by
 have hl:=Hg ns;have t:=pq k (ns.length:Int);have t2:=pz (ns.length:Int) 0
 by_cases h:k<(ns.length:Int)
 ·obtain ⟨c,hc⟩:=E7 k0 h
  rw[Zk h]at t;refine⟨c,bH ?_⟩;exact dQ (aO (av e_v (a8 (af e_v aq) hl) t)) (bU (av e_v e_v hc))
 ·rw [Zp h] at t
  by_cases h0:(ns.length:Int)=0
  ·rw [Zk h0] at t2
   refine⟨k,bH (aT (aO (av e_v (a8 (af e_v aq) hl) t)) (dQ (aO (av (a8 (af e_v aq) hl) Ua t2)) (bU e_v)))⟩
  ·rw [Zp h0] at t2
   obtain⟨c,hc⟩:=E7 (Z7 k h0) (Z9 k (by lia));have em:=aH (i:=k) (j:=(ns.length:Int)) (by lia);exact⟨_,bH (aT (aO (av e_v (a8 (af e_v aq) hl) t)) (aT (aO (av (a8 (af e_v aq) hl) Ua t2)) (bU (av (av (av e_v (av e_v (a8 (af e_v aq) hl) em) hc) Ua (l7 (by decide) (by decide))) e_v (aU _ _)))))⟩
theorem gE ns {k} (k0:0<=k):∃ r,cK [scr ns,.int k]=some (.shr (.int r))/\0<=r:=by
 obtain⟨c,e⟩:=Fu ns k0;refine⟨_,?_,Z7 (c % 2147483647 * 48271+12345) (b:=2147483647) (by decide)⟩;exact bH (bU (av (av (av (av (c7 (af e_v (af e_v aq)) e rfl) Ua (aH (by decide))) Ua (l7 (by decide) (by decide))) Ua (aU _ _)) Ua (aH (by decide))))
theorem yC{t}{m}(m0:0<=m):∃ z y,g8 t [.int m]=some (.shr (.lst [.str z,.str y]))/\bT z=true/\bT y=true:=by
 obtain⟨n,hn,n1,n8⟩:∃ n:Nat,id (1+m % 8=(n:Int))/\1<=n/\n<=8:=⟨(1+m % 8).toNat,by show 1+m % 8=_;lia,by lia,by lia⟩
 unfold g8 gQ;dsimp only
 have step:∀(j:Nat) (d:D) (τ:Ry Sl),(o8 0 n)[j]?=some d->(∃(m:Int) (z:Str) (x:Sl),τ=[.shr (.int m),.shr (.str LET),.shr (.str z),.shr (.int (n:Int)),x,.no,.no]/\0<=m/\z.length=j/\∀ c ∈ z.cps.toList,lower c=true)->∃ τ1 τ2,gN 4 d τ=some τ1/\gr (xg 0 (dOp oMod (dOp tV (dOp EX (bf 0) (dC (.int 48271))) (dC (.int 11))) (dC (.int 2147483647)))) (xg 2 (dOp tV (bf 2) (dOp oIx (bf 1) (dOp oMod (dOp oDiv (bf 0) (dC (.int 7))) (dC (.int 26)))))) τ1=some (.next τ2)/\∃(m:Int) (z:Str) (x:Sl),τ2=[.shr (.int m),.shr (.str LET),.shr (.str z),.shr (.int (n:Int)),x,.no,.no]/\0<=m/\z.length=j+1/\∀ c ∈ z.cps.toList,lower c=true:=by
  rintro j d τ hd ⟨m,z,x,rfl,h0,hz,lz⟩
  obtain⟨_,hj⟩:=fF hd;obtain⟨s,es,os⟩:=E4 (Z7 ((m * 48271+11) % 2147483647 / 7) (by decide)) (Z9 _ (by decide));have ls:=os.1;have sl:=zU os;have ea:=pA (x:=z) (y:=s) (by lia);refine⟨_,_,rfl,bp (bO (av (av (av e_v Ua (l7 (by decide) (by decide))) Ua (aU _ _)) Ua (aH (by decide)))) (bO (av e_v (av e_v (av (av e_v Ua (aY (by decide) (by decide +kernel))) Ua (aH (by decide))) es) ea)),_,z++s,_,rfl,Z7 _ (by decide),by rw[len_app];lia,λ c hc=>?_⟩;rw[uF]at hc;exact(Zl.mp hc).elim (lz c) (sl c)
 obtain⟨τ',ef,m',z,x,rfl,m0',hz,zl⟩:=gH (it:=rF (aX (bf 3) eF)) (λ j τ=>∃(m:Int) (z:Str) (x:Sl),τ=[.shr (.int m),.shr (.str LET),.shr (.str z),.shr (.int (n:Int)),x,.no,.no]/\0<=m/\z.length=j/\∀ c ∈ z.cps.toList,lower c=true) (ua (j:=(n:Int)) (af e_v aq) (by lia)) ⟨m,"",.no,rfl,m0,rfl,nofun⟩ step;rw[jM]at hz;have em:=aH (i:=m') (j:=(n:Int)) (by lia);have p0:=Z7 m' (b:=(n:Int)) (by lia);have p1:=Z9 m' (b:=(n:Int)) (by lia);obtain⟨p,hp⟩:∃ p:Nat,m' % (n:Int)=(p:Int):=⟨(m' % (n:Int)).toNat,by lia⟩
 rw[hp]at em p1;clear p0 hp;have zlen:z.cps.toList.length=z.length:=rfl;obtain⟨q0,q1⟩:=wK (j:=(p:Int)) (by lia) (by rw[zlen];lia)
 have ex:oIx (.str z) (.int (p:Int))=some (.str ⟨#[z.cps.toList[(p:Int).toNat]'q0]⟩):=by
  show(if z.length<=100000 then(atI z.cps.toList p).map _ else none)=_;rw[if_pos (by lia),q1];rfl
 obtain⟨s,es,os⟩:=E4 (Z7 (Txt.find LET ⟨#[z.cps.toList[(p:Int).toNat]'q0]⟩+1+m' / 8 % 25) (b:=26) (by decide)) (Z9 _ (by decide));have ls:=os.1;have sl:=zU os;have a1:=QW z none (some (p:Int));have a2:=QW z (some ((p:Int)+1)) none;have f1:=pA (x:=Txt.slice z none (some (p:Int))) (y:=s) (by lia);have f2:=pA (x:=Txt.slice z none (some (p:Int))++s) (y:=Txt.slice z (some ((p:Int)+1)) none) (by rw[len_app];lia);have c1:(Txt.slice z none (some (p:Int))).cps.toList=(z.cps.toList.drop 0).take (p - 0):=qk z (Z0 _) (by lia) (StrLaws.sliceIdx_none_lo _ _);have c2:(Txt.slice z (some ((p:Int)+1)) none).cps.toList=(z.cps.toList.drop (p+1)).take (z.length - (p+1)):=qk z (by lia) (Zo _) (StrLaws.sliceIdx_none_hi _ _);refine⟨z,Txt.slice z none (some (p:Int))++s++Txt.slice z (some ((p:Int)+1)) none,?_,oj.mpr ⟨by lia,by lia,zl⟩,oj.mpr ⟨by rw[len_app,len_app];lia,?_,λ c hc=>?_⟩⟩
 ·refine bH ?_
  refine bp (bO Ua) (bp (bO Ua) (bp ((bO (by rw[<- (show 1+m % 8=(n:Int) from hn)];exact av Ua (av e_v Ua (aH (by decide))) (aU _ _))).trans rfl) (bp ef ?_)));refine bp (bO (av e_v e_v em)) (bp (bO (d:=.str s) ?_) ?_)
  · exact av e_v (av (av (av (av e_v (av e_v e_v ex) rfl) Ua (aU _ _)) (av (av e_v Ua (aY (by decide) (by decide +kernel))) Ua (aH (by decide))) (aU _ _)) Ua (aH (by decide))) es
  · exact bU (iy (af e_v (af (av (av (Lz e_v OS (ET e_v) (by lia)) e_v f1) (Lz e_v (ET (av e_v Ua (aU _ _))) OS (by lia)) f2) aq)) (Zb rfl))
 ·rw [len_app,len_app,AF (Txt.slice z none _),AF (Txt.slice z (some _) none),c1,c2,Yc,Yc,Wp,Wp]
  lia
 ·rw [uF,uF,c1,c2] at hc
  rcases Zl.mp hc with h|h
  ·rcases Zl.mp h with h | h
   · exact zl c (List.mem_of_mem_drop (Wn h))
   · exact sl c h
  · exact zl c (List.mem_of_mem_drop (Wn h))
theorem uP{τ}{f g}(h1:f τ=some false):Cg f g τ=some false:=Jn h1 (λ z=>nomatch z) λ _=>rfl
def yx{p}{r}{k}(e:p.1=k):du (p::r) k=some p.2:=by simp[du,e]
def FK{p}{r}{k}(e:¬ p.1=k):du (p::r) k=du r k:=by simp[du,e]
theorem nC{τ}:dOp LX (dC (.int 10)) (dC (.int 30)) τ=some (.int (10 ^ 30)):=by rfl
inductive It where
 |s (x:Str)
 |i (n:Int)
noncomputable def It.D:It->D
 |.s x=>.str x
 |.i n=>.int n
def jc(l:Ry It):D:=.tup (l.map It.D)
theorem NC l:vA [jc l]=some (.int (l.length:Int)):=by
 show some (D.int ((l.map It.D).length:Int))=_;rw[Za]
structure Vw where
 its:List It
noncomputable def Vw.hand:Vw:=⟨[.s "hand"]⟩
def Vw.start:Vw:=⟨[.s "start"]⟩
def Vw.ok(_:Nat)(v:Vw):Prop:=okD 9 (jc v.its)=true/\v.its.length<=4
def VP(p:Str)(v:Vw):Prop:=cz [.str p,jc v.its]=some (.shr (.bl true))
def P9:Ry Str:=["size","wide","least","most","grow","shrink","gap","pad","tall"]
theorem A0 x:∀ l:Ry Str,inS (.str x) (l.map .str)=some (decide (x ∈ l)):=λ l=>by
 have e1:∀ l:Ry Str,IF (l.map .str)=some (l.map V.str):=λ l=>by
  induction l with
  |nil=>rfl
  |cons y l ih=>
   show(scD (.str y)).bind (λ v=>(IF (l.map .str)).map (v::·))=_;rw[ih];rfl
 have e2:∀ l:Ry Str,inV (.str x) (l.map V.str)=decide (x ∈ l):=λ l=>by
  induction l with
  |nil=>simp[inV]
  |cons y l ih=>
   unfold inV at *;rw[Zh,Yz,ih]
   by_cases h:x=y
   ·subst h
    simp[eqV]
   ·have h':¬ y=x:=λ z=>h z.symm
    simp[eqV,h,h']
 unfold inS;rw[e1];show some (inV (.str x) _)=_;rw[e2]
theorem NR x (l:Ry Str):IK (.str x) (.tup (l.map .str))=some (.bl (decide (x ∈ l))):=by
 show(inS (.str x) (l.map .str)).map D.bl=_;rw[A0];rfl
theorem Hw{q}(h:q ∈ P9):IK (.str q) iL=some (.bl true):=by
 refine(NR q P9).trans ?_
 rw[Zk h]
def props:Ry Str:=["ink","size","wide","least","most","grow","shrink","gap","pad","tall","flow","spread","stand"]
def tI:g9 []=some (.shr (.lst (props.map .str))):=rfl
def P3:Ry Str:=["wide","least","most"]
theorem tm{t b:Int}(h:(0<=t/\t<10 ^ 30)/\1<=b/\b<10 ^ 30):j6 [.int t,.int b]=some (.shr (.bl true)):=by
 unfold j6 jX;dsimp only;have c:∀{x y:Int},x<=y->oLe (.int x) (.int y)=some (.bl true):=λ h=>by show some (D.bl (decide _))=_;rw[Zk h]
 have d:∀{x y:Int},x<y->oLt (.int x) (.int y)=some (.bl true):=λ h=>by rw[pq,Zk h]
 exact bH (aT rfl (bU (ur (ur (b:=true) (av Ua e_v (c h.1.1)) (λ _=>av e_v nC (d h.1.2)) nofun) (λ _=>ur (b:=true) (av Ua e_v (c h.2.1)) (λ _=>av e_v nC (d h.2.2)) nofun) nofun)))
def lw(p:Str):Ry Str:=match g6 [.str p] with
 |some (.shr (.lst l))=>l.filterMap λ|.str x=>some x|_=>none
 |_=>[]
abbrev IS(p:Str):Ry Str:=(["hand","start"]:Ry Str)++((if(lw p).isEmpty then [] else(["word","word"]:Ry Str))++((if p ∈ P9 then(["number","number","times","of"]:Ry Str) else [])++if p ∈ P3 then(["part"]:Ry Str) else []))
abbrev Al(p h:Str):Prop:=h="hand"\/h="start"\/(h="word"/\lw p≠[])\/((h="number"\/h="times")/\p ∈ P9)\/(h="of"/\p ∈ P9)\/(h="part"/\p ∈ P3)
def isT:Rz Sl->Bool
 |some (.shr (.bl true))=>true
 |_=>false
theorem isT.eq:∀ {x},isT x=true->x=some (.shr (.bl true))
 |some (.shr (.bl true)),_=>rfl
theorem Oh:(props.all λ p=>decide (0<(IS p).length)&&(IS p).all (λ h=>decide (Al p h))&&kX 8 ((lw p).map .str)&&(lw p).all λ y=>isT (m9 [.str p,.str y])&&okD 9 (.tup [.str "word",.str y]))=true:=by kernel_rfl
theorem FI:∀ p ∈ props,g6 [.str p]=some (.shr (.lst ((lw p).map .str))):=by
 intro p hp;simp only[props,Zi,Z3,Wm]at hp;rcases hp with rfl|rfl|rfl|rfl|rfl|rfl|rfl|rfl|rfl|rfl|rfl|rfl|rfl<;>kernel_rfl
theorem Nt p (l:Ry Str):jP (.str p) (.tup (l.map .str))=some (.bl (!decide (p ∈ l))):=by
 show((inS (.str p) (l.map .str)).map λ b=>D.bl !b)=_;rw[A0];rfl
theorem two{τ}:D7 (aX (D7 (aX (dC (.str "hand")) eF)) (aX (D7 (aX (dC (.str "start")) eF)) eF)) τ=some (.tup [.tup [.str "hand"],.tup [.str "start"]]):=by rfl
theorem Kq{p:Str}(hp:p ∈ props):jP (.str p) Ca=some (.bl false):=(Nt p props).trans (by rw[Zk hp];rfl)
theorem K9{d:D}(ok:okD 9 d=true):LY d (.tup [.tup [.str "hand"],.tup [.str "start"]])=some (.bl (eqB (.tup [.str "hand"]) d||(eqB (.tup [.str "start"]) d||false))):=if_pos ⟨ok,by decide +kernel⟩
theorem vL{a b:D}{l:Ry D}(ok:okD 9 (.tup (a::b::l))=true):LY (.tup (a::b::l)) (.tup [.tup [.str "hand"],.tup [.str "start"]])=some (.bl false):=by
 rw[K9 ok,vZ (λ z=>by injection z with z;injection z with _ z;cases z),vZ (λ z=>by injection z with z;injection z with _ z;cases z)];rfl
section
variable{p:Str}(hp:p ∈ props){t b:Int}(r:(0<=t/\t<10 ^ 30)/\1<=b/\b<10 ^ 30)
include hp
theorem Et{h:Str}(hh:h="hand"\/h="start"):cz [.str p,.tup [.str h]]=some (.shr (.bl true)):=by
 refine bH (aT (aO (av e_v Ua (Kq hp))) (dQ (aO (av e_v two ?_)) (bU Ua)));rcases hh with rfl|rfl<;>rw[K9 (by kernel_rfl),lF]
 · rfl
 · rw[Bool.true_or,Bool.or_true]
theorem Cp{y:Str}(hy:isT (m9 [.str p,.str y])=true)(ok:okD 9 (.tup [.str "word",.str y])=true):cz [.str p,.tup [.str "word",.str y]]=some (.shr (.bl true)):=by
 exact bH (aT (aO (av e_v Ua (Kq hp))) (aT (aO (av e_v two (vL ok))) (dQ (by kernel_rfl) (bU (c7 (af e_v (af (av e_v Ua rfl) aq)) (isT.eq hy) rfl)))))
include r
theorem yw(h9:p ∈ P9){h:Str}(hh:h="number"\/h="times"):cz [.str p,.tup [.str h,.int t,.int b]]=some (.shr (.bl true)):=by
 rcases hh with rfl|rfl<;>exact bH (aT (aO (av e_v Ua (Kq hp))) (aT (aO (av e_v two (vL (by kernel_rfl)))) (aT (by kernel_rfl) (dQ (by kernel_rfl) (bU (ur (b:=true) (av e_v Ua (Hw h9)) (λ _=>c7 (af (av e_v Ua rfl) (af (av e_v Ua rfl) aq)) (tm r) rfl) nofun))))))
theorem Cq(h3:p ∈ P3):cz [.str p,.tup [.str "part",.int t,.int b]]=some (.shr (.bl true)):=by
 exact bH (aT (aO (av e_v Ua (Kq hp))) (aT (aO (av e_v two (vL (by kernel_rfl)))) (aT (by kernel_rfl) (aT (by kernel_rfl) (dQ (by kernel_rfl) (bU (ur (b:=true) (av e_v Ua ((NR p P3).trans (by rw[Zk h3]))) (λ _=>c7 (af (av e_v Ua rfl) (af (av e_v Ua rfl) aq)) (tm r) rfl) nofun)))))))
theorem Jb(h9:p ∈ P9){q:Str}(hq:q ∈ P9):cz [.str p,.tup [.str "of",.str q,.int t,.int b]]=some (.shr (.bl true))/\okD 9 (.tup [.str "of",.str q,.int t,.int b])=true:=by
 have e:=Hw hq
 have ok:okD 9 (.tup [.str "of",.str q,.int t,.int b])=true:=by
  have:PyData.strOk q=true:=(show ∀ q ∈ P9,PyData.strOk q=true by decide +kernel) q hq;simp[okD,kX,this,show PyData.strOk "of"=true by decide +kernel]
 unfold cz jW;exact⟨bH (aT (aO (Ud rfl (Kq hp))) (aT (aO (av (aB rfl) two (vL ok))) (aT (by kernel_rfl) (aT (by kernel_rfl) (aT (by kernel_rfl) (dQ (by kernel_rfl) (bU (ur (b:=true) (Ud rfl (Hw h9)) (λ _=>ur (b:=true) (av (Ud rfl rfl) Ua e) (λ _=>c7 (af (Ud rfl rfl) (af (Ud rfl rfl) aq)) (tm r) rfl) nofun) nofun)))))))),ok⟩
end
theorem kF{ws:Ry Str}{j:Int}(h0:0<=j)(h1:j<ws.length):∃ x ∈ ws,oIx (.lst (ws.map .str)) (.int j)=some (.str x):=by
 obtain⟨h,e⟩:=wK (xs:=ws.map D.str) h0 (by rw[Za];exact h1);rw[Xf]at e;exact⟨_,Yt _,e⟩
theorem KS(ws:Ry Str):vA [.lst (ws.map .str)]=some (.int (ws.length:Int)):=by
 show some (D.int ((ws.map D.str).length:Nat))=_;rw[Za]
theorem o_2{f1 f2 f3 g:DS}{τ:Ry Sl}{c:DT}{b:Bool}{Q:Out->Prop}(hc:c τ=some b)(τ':Ry Sl)(h:∀ g,(if b=true then gr f1 (gr f2 (gr f3 g)) τ else gr f2 (gr f3 g) τ)=g τ')(k:∃ o,g τ'=some o/\Q o):∃ o,gr (sIf c f1 qo) (gr f2 (gr f3 g)) τ=some o/\Q o:=by
 have:=h g;rw[<- this]at k
 revert k
 cases b with
 |true=>exact λ k=>k.imp λ _ z=>⟨by unfold gr sIf at *;rw[hc];exact z.1,z.2⟩
 |false=>exact λ k=>k.imp λ _ z=>⟨aT hc z.1,z.2⟩
theorem P5(m:Int):m % 9=0\/m % 9=1\/m % 9=2\/m % 9=3\/m % 9=4\/m % 9=5\/m % 9=6\/m % 9=7\/m % 9=8:=by
 obtain⟨k,hk⟩:=Xm (Z7 m (by decide:(9:Int)≠0));have h:=Z9 m (by decide:(0:Int)<9);rw[hk]at h ⊢;exact(by decide:∀ k:Nat,k<9->(k:Int)=0\/(k:Int)=1\/(k:Int)=2\/(k:Int)=3\/(k:Int)=4\/(k:Int)=5\/(k:Int)=6\/(k:Int)=7\/(k:Int)=8) k (Int.ofNat_lt.mp h)
theorem KZ{p:Str}(hp:p ∈ props)(m c:Int):∃ v:Vw,g7 [.str p,.int m,.int c]=some (.shr (jc v.its))/\v.ok 30/\VP p v:=by
 suffices ∃ o,(eJ).1 (kh 5 [.str p,.int m,.int c])=some o/\∃ v:Vw,o=.ret (.shr (jc v.its))/\v.ok 30/\VP p v by
  obtain⟨_,e,v,rfl,q⟩:=this;exact⟨v,bH e,q⟩
 have k:=Xd.mp Oh p hp;simp only[Yd,Xd,decide_eq_true_eq]at k;obtain⟨⟨⟨k0,k1⟩,k2⟩,k4⟩:=k;have hw:=FI p hp;have hpos:(0:Int)<((IS p).length:Int):=by omega
 have hne:=Aj (ys:=[]) k2 rfl;rw[vY]at hne;obtain⟨h,hm,eh⟩:=kF (ws:=IS p) (Z7 m (Int.ne_of_gt hpos)) (Z9 m hpos);have q1:(0:Int)<10 ^ 30:=by decide +kernel
 have q2:(0:Int)<10 ^ 30 - 1:=by decide +kernel
 have r:(0<=c % 10 ^ 30/\c % 10 ^ 30<10 ^ 30)/\1<=1+c * 69621 % (10 ^ 30 - 1)/\1+c * 69621 % (10 ^ 30 - 1)<10 ^ 30:=by
  have:=Z7 (c * 69621) (Int.ne_of_gt q2);have:=Z9 (c * 69621) q2;exact⟨⟨Z7 _ (Int.ne_of_gt q1),Z9 _ q1⟩,by omega,by omega⟩
 have num:∀{f g:DE} {τ:Ry Sl} {h:Str},τ[4]?=some (.shr (.str h))->f τ=some (.int (c % 10 ^ 30))->g τ=some (.int (1+c * 69621 % (10 ^ 30 - 1)))->D7 (aX (bf 4) (aX f (aX g eF))) τ=some (.tup [.str h,.int (c % 10 ^ 30),.int (1+c * 69621 % (10 ^ 30 - 1))]):=λ z1 z2 z3=>bV (af (aB z1) (af z2 (af z3 aq))) (Zb rfl)
 unfold eJ;dsimp only;refine Ae (gw (iy (af Ua (af Ua aq)) (Zb rfl)) (Zb rfl)) (o_2 (aO (av (c7 (af (aB rfl) aq) hw rfl) (iy aq (Z0 _)) hne)) [.shr (.str p),.shr (.int m),.shr (.int c),.own (.lst ((IS p).map .str)),.no] ?_ (Ae (bO (HM (d0:=.lst ((IS p).map .str)) rfl (av (aB rfl) (av (aB rfl) (a8 (af (aB rfl) aq) (KS _)) (aH hpos)) eh) rfl)) ?_))
 ·intro g
  clear k0 k1 k2 k4 hw hpos eh hm hne;simp only[props,Zi,Z3,Wm]at hp;rcases hp with rfl|rfl|rfl|rfl|rfl|rfl|rfl|rfl|rfl|rfl|rfl|rfl|rfl<;>kernel_rfl
 rcases k1 h hm with rfl|rfl|⟨rfl,hn⟩|⟨hh,h9⟩|⟨rfl,h9⟩|⟨rfl,h3⟩
 · exact⟨_,rfl,.hand,rfl,⟨by kernel_rfl,by decide⟩,Et hp (.inl rfl)⟩
 · exact⟨_,rfl,.start,rfl,⟨by kernel_rfl,by decide⟩,Et hp (.inr rfl)⟩
 ·have wp:(0:Int) < ((lw p).length:Int):=by have:=List.length_pos_iff.mpr hn; omega
  obtain⟨y,hy,ey⟩:=kF (ws:=lw p) (Z7 (m / 11) (Int.ne_of_gt wp)) (Z9 _ wp);exact⟨_,aT rfl (dQ rfl (bU (bV (af (aB rfl) (af (av (c7 (af (aB rfl) aq) hw rfl) (av (Ud rfl (aY (by decide) (by decide +kernel))) (a8 (af (c7 (af (aB rfl) aq) hw rfl) aq) (KS _)) (aH wp)) ey) aq)) (Zb rfl)))),⟨[.s "word",.s y]⟩,rfl,⟨(k4 y hy).2,by show 2<=4;decide⟩,Cp hp (k4 y hy).1 (k4 y hy).2⟩
 ·rcases hh with rfl | rfl
  · exact⟨_,aT rfl (aT rfl (aT rfl (bU (num rfl (av (aB rfl) nC (aH q1)) (av Ua (av (Ud rfl (l7 (by decide) (by decide))) (av nC Ua (ji _ _)) (aH q2)) (aU _ _)))))),⟨[.s "number",.i _,.i _]⟩,rfl,⟨by kernel_rfl,Zb rfl⟩,yw hp r h9 (.inl rfl)⟩
  · exact⟨_,aT rfl (aT rfl (aT rfl (bU (num rfl (av (aB rfl) nC (aH q1)) (av Ua (av (Ud rfl (l7 (by decide) (by decide))) (av nC Ua (ji _ _)) (aH q2)) (aU _ _)))))),⟨[.s "times",.i _,.i _]⟩,rfl,⟨by kernel_rfl,Zb rfl⟩,yw hp r h9 (.inr rfl)⟩
 ·obtain⟨q,hq,eq⟩:∃ q ∈ P9,oIx (.lst (props.map .str)) (.int (1+m / 110 % 9))=some (.str q):=by
   obtain⟨q,hq,eq⟩:=kF (ws:=P9) (Z7 (m / 110) (b:=9) (by decide)) (Z9 _ (by decide));refine⟨q,hq,Eq.trans ?_ eq⟩;have:=P5 (m / 110);rcases this with e|e|e|e|e|e|e|e|e<;>rw[e]<;>rfl
  have v:=Jb hp r h9 hq;exact⟨_,aT rfl (aT rfl (dQ rfl (bU (bV (af (aB rfl) (af (av (c7 aq tI rfl) (av Ua (av (Ud rfl (aY (by decide) (by decide +kernel))) Ua (aH (by decide))) (aU _ _)) eq) (af (av (aB rfl) nC (aH q1)) (af (av Ua (av (Ud rfl (l7 (by decide) (by decide))) (av nC Ua (ji _ _)) (aH q2)) (aU _ _)) aq)))) (Zb rfl))))),⟨[.s "of",.s q,.i _,.i _]⟩,rfl,⟨v.2,Zb rfl⟩,v.1⟩
 · exact⟨_,aT rfl (aT rfl (aT rfl (bU (num rfl (av (aB rfl) nC (aH q1)) (av Ua (av (Ud rfl (l7 (by decide) (by decide))) (av nC Ua (ji _ _)) (aH q2)) (aU _ _)))))),⟨[.s "part",.i _,.i _]⟩,rfl,⟨by kernel_rfl,Zb rfl⟩,Cq hp r h3⟩
structure Row where
 p:Str
 v:Vw
 f:Bool
def Row.D(r:Row):D:=.tup [.str r.p,jc r.v.its,.bl r.f]
def Row.ok(r:Row):Prop:=r.p ∈ props/\r.v.ok 30/\VP r.p r.v
def rwD(rs:Ry Row):D:=.tup (rs.map Row.D)
theorem EG ns {k n} (k0:0<=k) (n0:0<=n) (m:Nat) (hm:m<=9):∃ rs,ja [scr ns,.int k,.int (m:Int),.int n]=some (.shr (rwD rs))/\rs.length=m/\∀ r ∈ rs,r.ok:=by
 unfold ja i6;dsimp only
 obtain ⟨τ',ef,rs,x,y,z,rfl,hl,ok⟩:=gH (gg:=gN 5) (it:=rF (aX (bf 2) eF))
  (f:=gr (xg 6 (dFn cK (aX (bf 0) (aX (dOp tV (bf 1) (bf 5)) eF)))) (gr (xg 7 (dOp oIx (dFn g9 eF) (dOp oMod (dOp tV (bf 3) (dOp oDiv (dOp oMod (bf 6) (dC (.int 5))) (dC (.int 2)))) (dC (.int 13))))) (IH 4 (D7 (aX (bf 7) (aX (dFn g7 (aX (bf 7) (aX (dOp oDiv (bf 6) (dC (.int 25))) (aX (dOp oDiv (dFn jb (aX (bf 0) (aX (dOp tV (bf 1) (bf 5)) eF))) (dC (.int 5))) eF)))) (aX (dOp oEq (dOp oMod (dOp oDiv (bf 6) (dC (.int 5))) (dC (.int 5))) (dC (.int 0))) eF)))))))
  (λ j τ=>∃(rs:Ry Row) (x y z:Sl),τ=[.shr (scr ns),.shr (.int k),.shr (.int (m:Int)),.shr (.int n),.own (.lst (rs.map Row.D)),x,y,z]/\rs.length=j/\∀ r ∈ rs,r.ok) (ua (af e_v aq) (by lia)) ⟨[],.no,.no,.no,rfl,rfl,nofun⟩ (by
  rintro j d τ hd ⟨rs,x,y,z,rfl,hl,ok⟩
  obtain⟨rfl,hj⟩:=fF hd;rw[Wv];obtain⟨r,er,r0⟩:=gE ns (k:=k+(j:Int)) (by lia);obtain⟨c,ec⟩:=Fu ns (k:=k+(j:Int)) (by lia);obtain⟨p,hp,ep⟩:=kF (ws:=props) (Z7 (n+r % 5 / 2) (by decide)) (Z9 _ (by decide));obtain⟨v,ev,v1,v2⟩:=KZ hp (r / 25) (c / 5);have e1:dFn cK (aX (bf 0) (aX (dOp tV (bf 1) (bf 5)) eF)) [.shr (scr ns),.shr (.int k),.shr (.int (m:Int)),.shr (.int n),.own (.lst (rs.map Row.D)),.shr (.int (j:Int)),y,z]=some (.int r):=c7 (af e_v (af (av e_v e_v (aU _ _)) aq)) er rfl;refine⟨_,_,rfl,bp (bO e1) (bp (bO (av (c7 aq tI rfl) (av (av e_v (av (av e_v Ua (aH (by decide))) Ua (aY (by decide) (by decide +kernel))) (aU _ _)) Ua (aH (by decide))) ep)) (tj (bV (af e_v (af (c7 (af e_v (af (av e_v Ua (aY (by decide) (by decide +kernel))) (af (av (c7 (af e_v (af (av e_v e_v (aU _ _)) aq)) ec rfl) Ua (aY (by decide) (by decide +kernel))) aq))) ev rfl) (af (av (av (av e_v Ua (aY (by decide) (by decide +kernel))) Ua (aH (by decide))) Ua (pz _ _)) aq))) (Zb rfl)) rfl (by rw[Za];lia))),rs++[⟨p,v,decide (r / 5 % 5=0)⟩],_,_,_,by rw[Zq];rfl,by rw[Z5,hl];rfl,λ a ha=>?_⟩;rcases Zl.mp ha with ha|ha
  · exact ok a ha
  · rw[Zy.mp ha];exact⟨hp,v1,v2⟩)
 rw[jM]at hl;exact⟨rs,bH (bp (gw (iy aq (Z0 _)) (Zb rfl)) (bp ef (MK rfl (bU (a8 (af e_v aq) rfl))))),hl,ok⟩
theorem sq{rs}(h:∀ r ∈ rs,r.ok):kQ [rwD rs]=some (.shr .non):=by
 obtain ⟨τ',ef,_⟩:=gH (gg:=gN 1) (it:=A2 (bf 0)) (f:=sIf (L9 (dT (dFn cz (aX (dOp oIx (bf 1) (dC (.int 0))) (aX (dOp oIx (bf 1) (dC (.int 1))) eF))))) ED qo)
  (λ j τ=>∃ x,τ=[.shr (rwD rs),x]) (rD e_v) ⟨_,rfl⟩ (by
  rintro j d τ hd ⟨x,rfl⟩
  obtain⟨r,hr,rfl⟩:=Ye.mp (QE hd);obtain⟨h1,h2,h3⟩:=h r hr
  exact⟨_,_,rfl,lP (kW (aO (c7 (af (av e_v Ua (bS _ _)) (af (av e_v Ua (cI _ _ _)) aq)) h3 rfl))) nofun λ _=>rfl,_,rfl⟩)
 exact IJ ef
theorem JE{v:Vw}(h:v.ok 30):nj [jc v.its,jc v.its]=some (.shr (.bl true)):=by
 have ok:=h.1;generalize hl:v.its=l at ok;have ln:=NC l;have le:l.length<=4:=by rw[<- hl];exact h.2
 refine bH (aT (yE (b:=false) (kW (b:=true) (aO (a8 (af e_v (af Ua aq)) rfl))) (λ _=>aO ((av (a8 (af e_v aq) ln) (a8 (af e_v aq) ln) (G5 _ _)).trans (by rw [Zk rfl]; rfl))) nofun) (je
  (λ j τ=>∃ x,τ=[.shr (jc l),.shr (jc l),x]) (ua (af (a8 (af e_v aq) ln) aq) (by lia)) ⟨_,rfl⟩ (by
  rintro j d τ hd ⟨x,rfl⟩
  obtain⟨rfl,hj⟩:=fF hd;rw[Wv]
  have ei:oIx (jc l) (.int (j:Int))=some (l[j].D):=by
   show atI (l.map It.D) (j:Int)=_;rw[iW (QA (by rw[Za];exact hj)),Xf]
  refine⟨_,_,rfl,lP (b:=false) ?_ nofun λ _=>rfl,_,rfl⟩
  cases e:l[j] with
  |s y=>rw[e]at ei;exact yE (b:=false) (aO (a8 (af (av e_v e_v ei) (af Ua aq)) rfl)) (λ _=>aO (av (a8 (af (av e_v e_v ei) (af Ua aq)) rfl) (a8 (af (av e_v e_v ei) (af Ua aq)) rfl) rfl)) nofun
  |i y=>rw[e]at ei;exact yE (b:=false) (aO (a8 (af (av e_v e_v ei) (af Ua aq)) rfl)) (λ _=>aO (av (a8 (af (av e_v e_v ei) (af Ua aq)) rfl) (a8 (af (av e_v e_v ei) (af Ua aq)) rfl) rfl)) nofun) ?_))
 rintro _ ⟨x,rfl⟩
 refine bU (av e_v e_v ?_);show(eqO _ _).map D.bl=_;unfold eqO;rw[show eqS (jc l) (jc l)=none from rfl];rw[if_pos ⟨ok,ok⟩,lF];rfl
theorem E9 (m n:Nat):∀ l:Ry It,xl m (l.map It.D)=kX n (l.map It.D)
 |[]=>by simp[xl,kX]
 |a::l=>by
  rw[Zh,xl,kX,E9 m n l];cases a<;>simp only[It.D,okP,okD]
def C1:∀ p ∈ props,PyData.strOk p=true:=by decide +kernel
theorem vq{rs}(h:∀ r ∈ rs,r.ok):okP 9 (rwD rs)=true:=by
 have e:∀ rs:Ry Row,(∀ r ∈ rs,r.ok)->xl 8 (rs.map Row.D)=true:=λ rs=>by
  induction rs with
  |nil=>intro _;simp[xl]
  |cons r rs ih=>
   intro h;obtain⟨h1,h2,_⟩:=h r (Zg ..);have ok:=(h2).1;unfold jc at ok;rw[okD]at ok;rw[Zh,xl,ih λ a ha=>h a (Zd _ ha)];unfold Row.D jc;simp only[okP,xl,E9 6 8,ok,C1 _ h1,Bool.and_self]
 unfold rwD;rw[okP];exact e rs h
theorem wL {α:Type} {f:α->D} {q:α->Bool} {b:D->DS} {St:Sl->Ry Sl}:∀ (l:Ry α) (x:Sl),(∀ a ∈ l,∀ x,∃ y,b (f a) (St x)=if q a=true then some (.next (St y)) else some (.ret (.shr (.bl false))))->∃ y,xI b (l.map f) (St x)=if l.all q=true then some (.next (St y)) else some (.ret (.shr (.bl false)))
 |[],x,_=>⟨x,rfl⟩
 |a::l,x,h=>by
  obtain⟨y,e⟩:=h a (Zg ..) x;rw[Zh,Ww,xI]
  cases ea:q a with
  |false=>
   rw[ea,if_neg nofun]at e;rw[e];exact⟨y,rfl⟩
  |true=>
   rw[ea,if_pos rfl]at e;rw[e,Bool.true_and];exact wL l y λ c hc=>h c (Zd _ hc)
theorem B5{α:Type}{f}{q}{it}{gg}{fb}{St:Sl->Ry Sl}{l:Ry α}{x}(hi:it (St x)=some (l.map f))(h:∀ a ∈ l,∀ x,∃ y,(gg (f a) (St x)).bind fb=if q a=true then some (.next (St y)) else some (.ret (.shr (.bl false)))):gr (CN it gg fb) (LU (dC (.bl true))) (St x)=some (.ret (.shr (.bl (l.all q)))):=by
 obtain⟨y,e⟩:=wL (b:=λ d τ=>(gg d τ).bind fb) l x h
 cases ea:l.all q with
 |true=>rw[ea]at e;exact bp (yO hi e) rfl
 |false=>rw[ea]at e;exact JF (yO hi e)
inductive Tk where
 |any
 |nm (x:Str)
 |mk (x:Str)
noncomputable def Tk.D:Tk->D
 |.any=>.tup [.str "any"]
 |.nm x=>.tup [.str "name",.str x]
 |.mk x=>.tup [.str "mark",.str x]
def yp(ts:Ry Tk):D:=.tup (ts.map Tk.D)
def Tk.fit (n w:Str):Tk->Bool
 |.any=>true
 |.nm x=>decide (x=n)
 |.mk x=>decide (x=w)
def Tk.w:Tk->Int×Int
 |.any=>(0,0)
 |.nm _=>(0,1)
 |.mk _=>(1,0)
def wt(ts:Ry Tk):Int×Int:=((ts.map λ t=>t.w.1).sum,(ts.map λ t=>t.w.2).sum)
def wtD(p:Int×Int):D:=.tup [.int p.1,.int p.2]
def Iw(ts:Ry Tk):Prop:=ts.length<=2/\∀ x,.mk x ∈ ts->bT x=true
theorem NY ts n w:fu [yp ts,.str n,.str w]=some (.shr (.bl (ts.all (Tk.fit n w)))):=by
 unfold fu jY;dsimp only;refine bH (B5 (St:=λ x=>[.shr (yp ts),.shr (.str n),.shr (.str w),x]) (rD (aB rfl)) λ a _ x=>⟨.shr a.D,lP (b:=!a.fit n w) ?_ (λ h=>?_) λ h=>?_⟩)
 ·cases a with
  |any=>exact yE (b:=false) (uP (aO (av (Ud rfl (bS _ _)) Ua rfl))) (λ _=>uP (aO (av (Ud rfl (bS _ _)) Ua rfl))) nofun
  |nm y=>exact(Jl (Ew (aO (av (Ud rfl (bS _ _)) Ua rfl)) (aO (av (Ud rfl (cI _ _ _)) (aB rfl) (Ai _ _)))) (uP (aO (av (Ud rfl (bS _ _)) Ua rfl)))).trans (by rw[Bool.or_false];rfl)
  |mk y=>exact yE (b:=false) (uP (aO (av (Ud rfl (bS _ _)) Ua rfl))) (λ _=>Ew (aO (av (Ud rfl (bS _ _)) Ua rfl)) (aO (av (Ud rfl (cI _ _ _)) (aB rfl) (Ai _ _)))) nofun
 ·rw [Xj] at h
  rw[h];exact bU Ua
 ·rw [Bool.not_eq_false'] at h
  rw[h];rfl
section
variable{t:Adr}{gv:Int}{M:Ry B8}{i:Int}{b:B8}{w:Str}
theorem Cu(h:fd M i=some b)(hk:b.m.k=if w="" then [] else [w]){a:Tk}(ha:∀ x,a=.mk x->x≠""):i9 t [trD t.aj gv M,.int i,a.D]=some (.shr (.bl (a.fit b.n w))):=by
 have em:=Dx (t:=t) (gv:=gv) h (by rw[hk];split<;>simp);have en:=G8 (t:=t) (gv:=gv) h;unfold i9 iY;dsimp only;refine bH ?_
 cases a with
 |any=>exact bp (bO (Ud rfl (bS _ _))) (dQ (aO (Ud rfl rfl)) (bU Ua))
 |nm y=>
  refine bp (bO (Ud rfl (bS _ _))) (aT (aO (Ud rfl rfl)) (dQ (aO (Ud rfl rfl)) (bU ((av (dU (aB rfl) (af (aB rfl) aq) rfl en rfl) (Ud rfl (cI _ _ _)) (l8 _ _)).trans ?_))));rw[show decide (b.n=y)=decide (y=b.n) from Wu.mpr eq_comm];rfl
 |mk y=>
  refine bp (bO (Ud rfl (bS _ _))) (aT (aO (Ud rfl rfl)) (aT (aO (Ud rfl rfl)) (dQ (aO (Ud rfl rfl)) (bU ((av (Ud rfl (cI _ _ _)) (dU (aB rfl) (af (aB rfl) aq) rfl em rfl) (NR y _)).trans ?_)))));show _=some (D.bl (decide (y=w)));rw[hk]
  by_cases e:w=""
  ·rw [if_pos e]
   rw[show CC ([]:Ry Str)=[] by unfold CC;simp,Zp Z3,Zp λ z=>ha y rfl (z.trans e)]
  ·rw [if_neg e]
   rw[show CC [w]=[w] by unfold CC;simp,show decide (y ∈ ([w]:Ry Str))=decide (y=w) from Wu.mpr Zy]
theorem LN(h:fd M i=some b)(hk:b.m.k=if w="" then [] else [w]){ts}(ha:Iw ts):ft t [trD t.aj gv M,.int i,yp ts]=some (.shr (.bl (ts.all (Tk.fit b.n w)))):=by
 unfold ft m4;dsimp only;refine bH (B5 (St:=λ x=>[.shr (trD t.aj gv M),.shr (.int i),.shr (yp ts),x]) (rD (aB rfl)) λ a hm x=>⟨.shr a.D,lP (b:=!a.fit b.n w) (kW (aO (dU (o:=dFn (j3 t) (aX (bf 3) eF)) (fs:=[("told",a.D)]) (c7 (af (aB rfl) aq) rfl rfl) (af (aB rfl) (af (aB rfl) aq)) rfl (?_:hY t _=some (.shr (.bl (a.fit b.n w)))) rfl))) (λ h=>?_) λ h=>?_⟩)
 ·unfold hY gV
  exact bH (bU (c7 (af (aB rfl) (af (aB rfl) (af (gq (aB rfl) rfl) aq))) (Cu h hk λ x e=>by
   rintro rfl
   have:=ha.2 _ (e ▸ hm)
   cases this) rfl))
 ·rw [Xj] at h
  rw[h];exact bU Ua
 ·rw [Bool.not_eq_false'] at h
  rw[h];rfl
end
theorem Ba{it}{gg}{fb}{τ τ1 τ2}{d}(hi:it τ=some [d])(hg:gg d τ=some τ1)(hb:fb τ1=some (.next τ2)):CN it gg fb τ=some (.next τ2):=by
 refine yO hi ?_
 unfold xI;rw[show(gg d τ).bind fb=some (.next τ2) by rw[hg];exact hb];rfl
def Mq(a:Tk):iI [a.D]=some (.shr (wtD a.w)):=by cases a<;>rfl
theorem FH l a:wt (l++[a])=((wt l).1+a.w.1,(wt l).2+a.w.2):=by
 unfold wt;simp[List.sum_append]
theorem Cm{t}{s} ts:i8 t [.tup [.tup [.str s,yp ts]]]=some (.shr (wtD (wt ts))):=by
 unfold i8 iX;dsimp only
 obtain ⟨τ',ef,x,y,rfl⟩:=gH (gg:=gN 4) (it:=A2 (dOp oIx (bf 3) (dC (.int 1)))) (f:=gr (xg 5 (jR t.cQ "weight" (fg t) (dFn (j3 t) (aX (bf 4) eF)) eF)) (gr (JI 1 DM (dOp oIx (bf 5) (dC (.int 0)))) (JI 2 DM (dOp oIx (bf 5) (dC (.int 1))))))
  (λ j τ=>∃ x y,τ=[.shr (.tup [.tup [.str s,yp ts]]),.shr (.int (wt (ts.take j)).1),.shr (.int (wt (ts.take j)).2),.shr (.tup [.str s,yp ts]),x,y]) (rD (av e_v Ua (cI _ _ _))) ⟨_,_,rfl⟩ (by
  rintro j d τ hd ⟨x,y,rfl⟩
  rw[QD]at hd;obtain⟨a,ha,rfl⟩:=Zm hd
  have ew:fg t [.obj t.cQ [("told",a.D)]]=some (.shr (wtD a.w)):=by
   exact bH (bU (c7 (af (gq e_v rfl) aq) (Mq a) rfl))
  refine⟨_,_,rfl,bp (bO (dU (c7 (af e_v aq) rfl rfl) aq rfl ew rfl)) (bp (JH e_v (av e_v Ua (bS _ _)) rfl) (JH e_v (av e_v Ua (cI _ _ _)) rfl)),.shr a.D,.shr (wtD a.w),?_⟩;rw[Yu,ha,show(some a).toList=[a] from rfl,FH]
  rfl)
 rw[Za,Yn]at ef;exact bH (bp (bO Ua) (bp (bO Ua) (bp (Ba (rD e_v) rfl ef) (bU (bV (af e_v (af e_v aq)) (Zb rfl))))))
theorem Az{ts}(h:ts.length<=2):dI [yp ts]=some (.shr (wtD (wt ts))):=by
 match ts,h with
 |[],_=>rfl
 |[a],_=>cases a<;>rfl
 |[a,b],_=>cases a<;>cases b<;>rfl
theorem uO{a b c d}(hc:bT c=true)(hd:bT d=true) m:∃ ts,f9 [.int m,.lst [.str a,.str b],.lst [.str c,.str d]]=some (.shr (yp ts))/\Iw ts:=by
 have ix:∀(x y:Str) (j:Int),∃ z ∈ ([x,y]:Ry Str),oIx (.lst [.str x,.str y]) (.int (j % 2))=some (.str z):=λ x y j=>kF (Z7 _ (by decide)) (Z9 _ (by decide))
 have mk:∀ z ∈ ([c,d]:Ry Str),bT z=true:=by simpa using⟨hc,hd⟩
 obtain⟨u,hu,eu⟩:=ix c d (m / 6);obtain⟨v,hv,ev⟩:=ix a b (m / 12);unfold f9 fY;dsimp only;have X:∀{j:Int} {τ:Ry Sl},m % 6=j->τ[0]?=some (.shr (.int m))->dOp oMod (bf 0) (dC (.int 6)) τ=some (.int j):=λ e z=>e ▸ av (aB z) Ua (aH (by decide))
 have eu':∀{τ:Ry Sl},τ[0]?=some (.shr (.int m))->τ[2]?=some (.shr (.lst [.str c,.str d]))->D7 (aX (dC (.str "mark")) (aX (dOp oIx (bf 2) (dOp oMod (dOp oDiv (bf 0) (dC (.int 6))) (dC (.int 2)))) eF)) τ=some (Tk.D (.mk u)):=λ z1 z2=>bV (af Ua (af (av (aB z2) (av (av (aB z1) Ua (aY (by decide) (by decide +kernel))) Ua (aH (by decide))) eu) aq)) (Zb rfl)
 have:m % 6=0\/m % 6=1\/m % 6=2\/m % 6=3\/m % 6=4\/m % 6=5:=by omega
 rcases this with e|e|e|e|e|e
 · exact⟨[],bH (bp (bO (X e rfl)) rfl),by decide,nofun⟩
 · exact⟨[.any],bH (bp (bO (X e rfl)) rfl),by decide,by simp⟩
 · exact⟨[.nm a],bH (bp (bO (X e rfl)) rfl),by show 1<=2;decide,by simp⟩
 · exact⟨[.nm b],bH (bp (bO (X e rfl)) rfl),by show 1<=2;decide,by simp⟩
 ·refine ⟨[.mk u],bH (bp (bO (X e rfl)) ?_),by show 1<=2; decide,by simpa using mk u hu⟩
  exact aT rfl (aT rfl (aT rfl (dQ rfl (bU (bV (af (eu' rfl rfl) aq) (Zb rfl))))))
 ·refine ⟨[.mk u,.nm v],bH (bp (bO (X e rfl)) ?_),by show 2<=2; decide,by simpa using mk u hu⟩
  exact aT rfl (aT rfl (aT rfl (aT rfl (bU (bV (af (eu' rfl rfl) (af (bV (af Ua (af (av e_v (av (av e_v Ua (aY (by decide) (by decide +kernel))) Ua (aH (by decide))) ev) aq)) (Zb rfl)) aq)) (Zb rfl))))))
structure Cl where
 f:Bool
 o:Bool
 h:Int
 w:Int×Int
 n:Int
 l:Int
 p:Str
 v:Vw
def Cl.ok(c:Cl):Prop:=c.v.ok 30/\(c.o=true->c.h=0/\c.w=(0,0)/\c.n=-1)
def Cl.r(c:Cl):Ry Int:=[b2i c.f,b2i c.o,c.h,c.w.1,c.w.2,c.n,c.l]
def Cl.q(c:Cl):Ry Int:=[b2i (!c.f),b2i (!c.o),-c.h,-c.w.1,-c.w.2,if c.o=true then 0 else -c.n,-c.l]
theorem iS{x y x' y':Int}{xs ys xs' ys':Ry Int}(h1:x=y↔y'=x')(h2:x<y↔y'<x')(h3:x=y->HT.lexLt xs ys=HT.lexLt ys' xs'):HT.lexLt (x::xs) (y::ys)=HT.lexLt (y'::ys') (x'::xs'):=by
 rw[HT.cx,HT.cx]
 by_cases e:x=y
 · rw[if_pos e,if_pos (h1.mp e),h3 e]
 ·rw [if_neg e,if_neg λ z=>e (h1.mpr z)]
  exact Wu.mpr h2
theorem mU(a b:Bool):(b2i (!a)=b2i (!b)↔b2i b=b2i a)/\(b2i (!a)<b2i (!b)↔b2i b<b2i a):=by cases a<;>cases b<;>decide
theorem CT{a b:Cl}(ha:a.ok)(hb:b.ok):HT.lexLt a.q b.q=HT.lexLt b.r a.r:=by
 refine iS (mU _ _).1 (mU _ _).2 λ _=>iS (mU _ _).1 (mU _ _).2 λ e=>iS (by lia) (by lia) λ _=>iS (by lia) (by lia) λ _=>iS (by lia) (by lia) λ _=>?_
 have e:=(B4 ((mU _ _).1.mp e)).symm
 have n:(if a.o=true then 0 else -a.n)=(if b.o=true then 0 else -b.n)↔b.n=a.n:=by
  cases h:a.o with
  |true=>rw[h]at e;rw[<- e,if_pos rfl,if_pos rfl,(ha.2 h).2.2,(hb.2 e.symm).2.2];simp
  |false=>rw[h]at e;rw[<- e,if_neg nofun,if_neg nofun];lia
 have m:(if a.o=true then 0 else -a.n)<(if b.o=true then 0 else -b.n)↔b.n<a.n:=by
  cases h:a.o with
  |true=>rw[h]at e;rw[<- e,if_pos rfl,if_pos rfl,(ha.2 h).2.2,(hb.2 e.symm).2.2];simp
  |false=>rw[h]at e;rw[<- e,if_neg nofun,if_neg nofun];lia
 exact iS n m λ _=>iS (by lia) (by lia) λ _=>rfl
def bst(b:Rz Cl)(c:Cl):Rz Cl:=match b with
 |none=>some c
 |some d=>if HT.lexLt d.r c.r=true then some c else some d
theorem wH:∀ (l:Ry Cl) (b:Cl),∃ c,l.foldl bst (some b)=some c/\c ∈ b::l/\∀ d ∈ b::l,HT.lexLt c.r d.r=false
 |[],b=>⟨b,rfl,Zg ..,λ d hd=>by rw[Zy.mp hd];exact tZ _⟩
 |x :: l,b=>by
  rw[List.foldl_cons];show ∃ c,l.foldl bst (if HT.lexLt b.r x.r=true then some x else some b)=some c/\_
  by_cases e:HT.lexLt b.r x.r=true
  ·rw [if_pos e]
   obtain⟨c,h1,h2,h3⟩:=wH l x;refine⟨c,h1,Zd _ h2,λ d hd=>?_⟩;rcases Zi.mp hd with rfl|hd
   ·cases q:HT.lexLt c.r d.r with
    |false=>rfl
    |true=>
     have z:=lex_trans (a:=c.r) (b:=d.r) (c:=x.r) rfl rfl q e;rw[h3 x (Zg ..)]at z;cases z
   · exact h3 d hd
  ·rw [if_neg e]
   obtain⟨c,h1,h2,h3⟩:=wH l b;refine⟨c,h1,(Zi.mp h2).elim (λ z=>z ▸ Zg ..) λ z=>Zd _ (Zd _ z),λ d hd=>?_⟩;rcases Zi.mp hd with rfl|hd
   · exact h3 _ (Zg ..)
   ·rcases Zi.mp hd with rfl | hd
    ·cases q:HT.lexLt c.r d.r with
     |false=>rfl
     |true=>
      by_cases k:d.r=b.r
      · rw[k,h3 b (Zg ..)]at q;cases q
      ·rcases pC (a:=d.r) (b:=b.r) rfl k with z | z
       ·have z:=lex_trans (a:=c.r) (b:=d.r) (c:=b.r) rfl rfl q z
        rw[h3 b (Zg ..)]at z;cases z
       · exact absurd z e
    · exact h3 d (Zd _ hd)
theorem first_is{S L:Ry Cl}(pm:S.Perm L)(pw:S.Pairwise λ a b=>HT.lexLt a.q b.q=true)(ok:∀ c ∈ L,c.ok)(p:Str):S.find? (λ c=>decide (c.p=p))=(L.filter λ c=>decide (c.p=p)).foldl bst none:=by
 have mem:∀ c,c ∈ L.filter (λ c=>decide (c.p=p))↔c ∈ S/\c.p=p:=λ c=>by rw[Ri,pm.mem_iff,Xz]
 cases e:L.filter λ c=>decide (c.p=p) with
 |nil=>
  rw[e]at mem;refine QM.mpr λ c hc h=>?_
  exact absurd ((mem c).mpr ⟨hc,Z1 h⟩) Z3
 |cons b l=>
  obtain⟨c,h1,h2,h3⟩:=wH l b;rw[show(b::l).foldl bst none=l.foldl bst (some b) from rfl,h1];rw[e]at mem;obtain⟨hc,hp⟩:=(mem c).mp h2
  cases q:S.find? λ c=>decide (c.p=p) with
  |none=>exact absurd (Zk hp) (QM.mp q c hc)
  |some d=>
   obtain⟨hd,as,bs,rfl,ha⟩:=List.find?_eq_some_iff_append.mp q;rcases Zl.mp hc with hc|hc
   ·have:=ha c hc
    rw[Zk hp]at this;cases this
   rcases Zi.mp hc with rfl|hc'
   · rfl
   ·have z:=(Xx.mp (List.pairwise_append.mp pw).2.1).1 c hc'
    have dm:d ∈ as++d::bs:=Ze _ (Zg ..);rw[CT (ok d (pm.mem_iff.mp dm)) (ok c (pm.mem_iff.mp (Ze _ hc))),h3 d ((mem d).mpr ⟨dm,Z1 hd⟩)]at z;cases z
def tL(rs:Ry Row):Ry Cl:=rs.mapIdx λ i r=>⟨r.f,true,0,(0,0),-1,i,r.p,r.v⟩
def yq(n lay:Int)(w:Int×Int)(rs:Ry Row):Ry Cl:=rs.mapIdx λ i r=>⟨r.f,false,if r.f=true then -lay else lay,w,n,i,r.p,r.v⟩
def Cl.P(c:Cl):D:=.tup [.tup [.bl (!c.f),.int (b2i (!c.o)),.int (-c.h),.tup [.int (-c.w.1),.int (-c.w.2)],.int (if c.o=true then 0 else -c.n),.int (-c.l)],.str c.p,.tup [.int c.n,.int c.l,jc c.v.its]]
def Cl.L(c:Cl):D:=.tup [.tup [.bl c.f,.bl c.o,.int c.h,wtD c.w,.int c.n,.int c.l],jc c.v.its]
theorem A1{τ}{f}{as}(h:f τ=some (.tup as)):ud (aX f eF) τ=some (lq as):=by
 unfold ud aX eF;rw[h];rfl
theorem Br{α:Type}{f}{l:Ry α}{j:Nat}{d}(h:(lq (l.map f))[j]?=some d):∃ a,l[j]?=some a/\d=.tup [.int (j:Int),f a]:=by
 unfold lq at h;rw[List.getElem?_mapIdx,QD]at h
 cases e:l[j]? with
 |none=>rw[e]at h;cases h
 |some a=>rw[e]at h;cases h;exact⟨a,rfl,rfl⟩
theorem lC{α β:Type}(g:Nat->α->β){l:Ry α}{j}{a}(h:l[j]?=some a):(l.take (j+1)).mapIdx g=(l.take j).mapIdx g++[g j a]:=by
 have hj:=(QB.mp h).1;rw[Yu,h,show(some a).toList=[a] from rfl,List.mapIdx_append,Yc,Nat.min_eq_left (Yo hj)];simp
section
variable{t:Adr}{gv:Int}{M:Ry B8}{i:Int}{b:B8}
theorem Gm(h:fd M i=some b):iJ t [trD t.aj gv M,.int i]=some (.shr b.m.ro):=by
 exact bH (bp (chk h) (bU (av (gq e_v fR) e_v (iU h))))
theorem J9(h:fd M i=some b){rs}(hr:b.m.ro=rwD rs)(hl:rs.length<=100):gY t [trD t.aj gv M,.int i]=some (.own (.lst ((tL rs).map Cl.P))):=by
 have er:=Gm (t:=t) (gv:=gv) h;rw[hr]at er;unfold gY gO;dsimp only
 refine bH (bp (gw (iy aq (Z0 _)) (Zb rfl)) (je
  (λ j τ=>∃ x y,τ=[.shr (trD t.aj gv M),.shr (.int i),.own (.lst ((tL (rs.take j)).map Cl.P)),x,y]) (A1 (dU e_v (af e_v aq) rfl er rfl)) ⟨_,_,rfl⟩ (by
  rintro j d τ hd ⟨x,y,rfl⟩
  obtain⟨r,hr,rfl⟩:=Br hd;have ln:((tL (rs.take j)).map Cl.P).length<=100:=by unfold tL;rw[Za,Yy,Yc];lia
  refine⟨_,_,rfl,tj (bV (af (bV (af (LA (av e_v Ua (fj _ _ _ _))) (af Ua (af Ua (af (bV (af Ua (af Ua aq)) (Zb rfl)) (af Ua (af (D2 e_v rfl) aq)))))) (Zb rfl)) (af (av e_v Ua (bS _ _)) (af (bV (af (D2 Ua rfl) (af e_v (af (av e_v Ua (cI _ _ _)) aq))) (Zb rfl)) aq))) (Zb rfl)) rfl (by lia),.shr (.int (j:Int)),.shr r.D,?_⟩;unfold tL;rw[lC _ hr,Zq]
  rfl) ?_))
 rw[show(lq (rs.map Row.D)).length=rs.length by unfold lq;rw[Yy,Za],Yn]
 rintro _ ⟨x,y,rfl⟩
 exact lO rfl
end
structure wM where
 lay:Int
 ps:List (List Tk)
 rs:List Row
def ptD(ts:Ry Tk):D:=.tup [.tup [.str "",yp ts]]
def wM.D(r:wM):D:=.tup [.int r.lay,.tup (r.ps.map ptD),rwD r.rs]
theorem Gk n (r:wM) w (hl:r.rs.length<=100):dH [.int n,r.D,wtD w]=some (.own (.lst ((yq n r.lay w r.rs).map Cl.P))):=by
 unfold dH fX;dsimp only
 refine bH (bp (gw (iy aq (Z0 _)) (Zb rfl)) (je
  (λ j τ=>∃ x y z u,τ=[.shr (.int n),.shr r.D,.shr (wtD w),.own (.lst ((yq n r.lay w (r.rs.take j)).map Cl.P)),x,y,z,u]) (A1 (av e_v Ua (fj _ _ _ _))) ⟨_,_,_,_,rfl⟩ (by
  rintro j d τ hd ⟨x,y,z,u,rfl⟩
  obtain⟨a,ha,rfl⟩:=Br hd;have ln:((yq n r.lay w (r.rs.take j)).map Cl.P).length<=100:=by unfold yq;rw[Za,Yy,Yc];lia
  have el:∀{x z u:Sl},dIf (dT (dOp oIx (bf 5) (dC (.int 2)))) (dOp oIx (bf 1) (dC (.int 0))) (dUn Ko (dOp oIx (bf 1) (dC (.int 0)))) [.shr (.int n),.shr r.D,.shr (wtD w),x,.shr (.int (j:Int)),.shr a.D,z,u]=some (.int (-(if a.f=true then -r.lay else r.lay))):=O4 (aO (av e_v Ua (fj _ _ _ _))) (λ h=>by rw[h,if_pos rfl,Int.neg_neg];exact av e_v Ua (bS _ _)) λ h=>by rw[h,if_neg nofun];exact D2 (av e_v Ua (bS _ _)) rfl
  refine⟨_,_,rfl,bp (bO el) (bp (bO (bV (af (LA (av e_v Ua (fj _ _ _ _))) (af Ua (af e_v (af (bV (af (D2 (av e_v Ua (bS _ _)) rfl) (af (D2 (av e_v Ua (cI _ _ _)) rfl) aq)) (Zb rfl)) (af (D2 e_v rfl) (af (D2 e_v rfl) aq)))))) (Zb rfl))) (tj (bV (af e_v (af (av e_v Ua (bS _ _)) (af (bV (af e_v (af e_v (af (av e_v Ua (cI _ _ _)) aq))) (Zb rfl)) aq))) (Zb rfl)) rfl (by lia))),.shr (.int (j:Int)),.shr a.D,.shr (.int (-(if a.f=true then -r.lay else r.lay))),.shr (.tup [.bl (!a.f),.int 1,.int (-(if a.f=true then -r.lay else r.lay)),.tup [.int (-w.1),.int (-w.2)],.int (-n),.int (-(j:Int))]),?_⟩;unfold yq;rw[lC _ ha,Zq]
  rfl) ?_))
 rw[show(lq (r.rs.map Row.D)).length=r.rs.length by unfold lq;rw[Yy,Za],Yn]
 rintro _ ⟨x,y,z,u,rfl⟩
 exact lO rfl
def mxs(o:Rz (Int×Int))(w:Int×Int):Rz (Int×Int):=match o with
 |none=>some w
 |some x=>some (if HT.gtP w x=true then w else x)
def mx(ws:Ry (Int×Int)):Rz (Int×Int):=ws.foldl mxs none
def wk(i:Int)(o:Rz (Int×Int)):Ry (Key×D):=match o with
 |none=>[]
 |some w=>[(.inl i,wtD w)]
def jr(n w:Str)(ps:Ry (Ry Tk)):Ry (Int×Int):=(ps.filter λ ts=>ts.all (Tk.fit n w)).map wt
def Ja{i}{o}:(wk i o).length<=1:=by cases o<;>exact Zb rfl
theorem E1 x w:Dt [wtD x,wtD w]=some (wtD (if HT.gtP w x=true then w else x)):=by
 show some (if HT.gtP w x=true then wtD w else wtD x)=_;split<;>rfl
section
variable{t:Adr}{gv:Int}{M:Ry B8}{i:Int}{b:B8}{w:Str}
theorem Bg(h:fd M i=some b)(hk:b.m.k=if w="" then [] else [w]){ts}(ha:Iw ts):iw t [trD t.aj gv M,ptD ts,.lst [.int i]]=some (.own (.lst (if ts.all (Tk.fit b.n w)=true then [.int i] else []))):=by
 exact Lp ⟨_,_,_,_,_,rfl,LN (t:=t) (gv:=gv) h hk ha,rfl⟩
theorem wV(h:fd M i=some b)(hk:b.m.k=if w="" then [] else [w]){r:wM}(hp:∀ ts ∈ r.ps,Iw ts):cE t [trD t.aj gv M,r.D,.lst [.int i]]=some (.own (.dct (wk i (mx (jr b.n w r.ps))))):=by
 unfold cE fe;dsimp only
 refine bH (bp (gw Ua (Zb rfl)) (je
  (λ j τ=>∃ x y z,τ=[.shr (trD t.aj gv M),.shr r.D,.shr (.lst [.int i]),.own (.dct (wk i (mx (jr b.n w (r.ps.take j))))),x,y,z]) (rD (av e_v Ua (cI _ _ _))) ⟨_,_,_,rfl⟩ (by
  rintro j d τ hd ⟨x,y,z,rfl⟩
  rw[QD]at hd;obtain⟨ts,hj,rfl⟩:=Zm hd;have ef:=Bg (t:=t) (gv:=gv) h hk (hp ts (QE hj));have e5:=Cm (t:=t) (s:="") ts
  have tk:jr b.n w (r.ps.take (j+1))=jr b.n w (r.ps.take j)++if ts.all (Tk.fit b.n w)=true then [wt ts] else []:=by
   unfold jr;rw[Yu,hj,List.filter_append,Zq];show _++(List.filter _ [ts]).map wt=_;rw[Xu,List.filter_nil];split<;>rfl
  rw[tk];generalize jr b.n w (r.ps.take j)=l
  cases hf:ts.all (Tk.fit b.n w) with
  |false=>
   rw[hf,if_neg nofun]at ef;rw[if_neg nofun,Zz];exact⟨_,_,rfl,bp (bO (c7 (af e_v aq) e5 rfl)) (yO (rE (c7 (af e_v (af e_v (af e_v aq))) ef rfl)) rfl),.shr (ptD ts),.shr (wtD (wt ts)),z,rfl⟩
  |true=>
   rw[hf,if_pos rfl]at ef;rw[if_pos rfl];have em:mx (l++[wt ts])=mxs (mx l) (wt ts):=by unfold mx;rw[List.foldl_append];rfl
   rw[em]
   have gt:Dt [((du (wk i (mx l)) (.inl i)).getD (wtD (wt ts))),wtD (wt ts)]=some (wtD ((mxs (mx l) (wt ts)).getD (0,0))):=by
    cases mx l with
    |none=>exact(E1 _ _).trans (by rw[show mxs none (wt ts)=some (wt ts) from rfl];split<;>rfl)
    |some x=>
     rw[show du (wk i (some x)) (.inl i)=some (wtD x) by unfold wk du;simp];exact E1 x (wt ts)
   have pt:putD (wk i (mx l)) (.inl i) (wtD ((mxs (mx l) (wt ts)).getD (0,0)))=wk i (mxs (mx l) (wt ts)):=by
    cases mx l with
    |none=>rfl
    |some x=>unfold wk putD;simp[mxs]
   refine⟨_,_,rfl,bp (bO (c7 (af e_v aq) e5 rfl)) (Ba (rE (c7 (af e_v (af e_v (af e_v aq))) ef rfl)) rfl (oa (HM rfl (a8 (af (LB e_v e_v e_v rfl) (af e_v aq)) gt) rfl) e_v rfl rfl (Xc Ja (by decide)))),.shr (ptD ts),.shr (wtD (wt ts)),.shr (.int i),?_⟩;rw[pt]
   rfl) ?_))
 rw[Za,Yn]
 rintro _ ⟨x,y,z,rfl⟩
 exact lO rfl
end
theorem KP{ws}{w}(hl:ws.length<=2)(h:mx ws=some w):Du [.lst (ws.map wtD)]=some (wtD w):=by
 match ws,hl with
 |[],_=>cases h
 |[a],_=>cases h;rfl
 |[a,b],_=>
  cases h;show([wtD a,wtD b]:Ry D)[argBest (HT.btP [(a.1,a.2),(b.1,b.2)]) 1]?=some (wtD (if HT.gtP b a=true then b else a));rw[show argBest (HT.btP [(a.1,a.2),(b.1,b.2)]) 1=if HT.gtP b a=true then 1 else 0 from rfl];split<;>rfl
def c0:Cl:=⟨true,true,0,(0,0),0,0,"",.hand⟩
theorem zb:∀ L:Ry Cl,tz (L.map Cl.P)=some (L.map Cl.q)
 |[]=>rfl
 |c::L=>by
  show(xi c.P).bind (λ r=>(tz (L.map Cl.P)).map (r::·))=_;rw[zb L,show xi c.P=some c.q from if_pos rfl];rfl
theorem getD_map{α β:Type}(f:α->β){l:Ry α}{i}(h:i<l.length) a b:(l.map f).getD i b=f (l.getD i a):=by grind
def q7:∀{L:Ry Cl},∀ r ∈ L.map Cl.q,r.length=7:=λ r hr=>by
 obtain⟨c,_,rfl⟩:=Ye.mp hr;rfl
theorem F4{L}(h64:L.length<64)(nd:(L.map Cl.q).Nodup):∃ S:Ry Cl,Jz (L.map Cl.P)=some (S.map Cl.P)/\S.Perm L/\S.Pairwise λ a b=>HT.lexLt a.q b.q=true:=by
 have pm:=fh (L.map Cl.q);rw[Za]at pm;have lt:∀ i ∈ ID (L.map Cl.q),i<L.length:=λ i hi=>Y7.mp (pm.mem_iff.mp hi)
 refine⟨(ID (L.map Cl.q)).map λ i=>L.getD i c0,?_,?_,?_⟩
 ·unfold Jz
  rw[zb];show(if(L.map Cl.P).length<64/\(L.map Cl.q).Nodup then _ else none)=_;rw[if_pos ⟨by rw[Za];exact h64,nd⟩,Yb];exact Z6 some (Z4 λ i hi=>getD_map Cl.P (lt i hi) c0 _)
 ·have:=pm.map λ i=>L.getD i c0
  refine this.trans (List.Perm.of_eq ?_);refine List.ext_getElem (by simp) λ i h1 h2=>?_
  rw[Xf,List.getElem_range,QG,QA h2];rfl
 ·rw [Q4]
  refine(F0 q7 nd).imp_of_mem λ{i j} hi hj h=>?_
  rw[getD_map Cl.q (lt i hi) c0,getD_map Cl.q (lt j hj) c0]at h;exact h
def ky(c:Cl):Int×Int:=(c.n,c.l)
theorem P4{L:Ry Cl}(ok:∀ c ∈ L,c.ok)(nd:(L.map ky).Nodup):(L.map Cl.q).Nodup:=by
 have:L.map ky=(L.map Cl.q).map λ ns=>((if ns.getD 1 0=0 then -1 else -(ns.getD 5 0)),-(ns.getD 6 0)):=by
  rw[Yb];refine Z4 λ c hc=>?_
  show(c.n,c.l)=((if b2i (!c.o)=0 then -1 else -(if c.o=true then 0 else -c.n)),- -c.l)
  cases e:c.o with
  |true=>simp[b2i,((ok c hc).2 e).2.2]
  |false=>rw[if_neg (by decide),if_neg nofun,Int.neg_neg,Int.neg_neg]
 rw[this]at nd;exact(Q4.mp nd).imp λ h e=>h (by rw[e])
abbrev Rs:=Ry (Int×wM)
def rlC(n w:Str)(p:Int×wM):Ry Cl:=match mx (jr n w p.2.ps) with
 |none=>[]
 |some x=>yq p.1 p.2.lay x p.2.rs
def iz(n w:Str)(own:Ry Row)(R:Rs):Ry Cl:=tL own++R.flatMap (rlC n w)
theorem Fd{n}:∀{rs:Ry Row} {g:Nat->Row->Cl},(∀ i r,ky (g i r)=(n,(i:Int)))->((rs.mapIdx g).map ky).Nodup:=λ{rs g} h=>by
 refine X2.mpr λ i j hi hj hij=>?_
 rw[Xf,Xf,List.getElem_mapIdx,List.getElem_mapIdx,h,h];intro z;have:=(Prod.mk.inj z).2
 lia
theorem Gp{n w}{p}{c}(h:c ∈ rlC n w p):c.n=p.1/\c.o=false:=by
 unfold rlC at h;split at h
 · cases h
 ·unfold yq at h
  obtain⟨i,hi,rfl⟩:=Rm.mp h;exact⟨rfl,rfl⟩
theorem Kt{n w}{own}{R}(h0:∀ p ∈ R,0<=p.1)(pw:R.Pairwise λ a b=>a.1<b.1):((iz n w own R).map ky).Nodup:=by
 unfold iz;rw[Zq,Yq]
 have nr:∀ R:Rs,R.Pairwise (λ a b=>a.1<b.1)->((R.flatMap (rlC n w)).map ky).Nodup:=λ R=>by
  induction R with
  |nil=>intro _;exact List.nodup_nil
  |cons p R ih=>
   intro pw;rw[Xx]at pw;rw[Yg,Zq,Yq];refine⟨?_,ih pw.2,λ a ha b hb e=>?_⟩
   ·unfold rlC
    split
    · exact List.nodup_nil
    · exact Fd λ i r=>rfl
   ·obtain ⟨c,hc,rfl⟩:=Ye.mp ha
    obtain⟨d,hd,rfl⟩:=Ye.mp hb;obtain⟨q,hq,hd⟩:=Yh.mp hd;have:=pw.1 q hq;have e:=(Prod.mk.inj e).1;rw[(Gp hc).1,(Gp hd).1]at e
    lia
 refine⟨Fd λ i r=>rfl,nr R pw,λ a ha b hb e=>?_⟩;obtain⟨c,hc,rfl⟩:=Ye.mp ha;obtain⟨d,hd,rfl⟩:=Ye.mp hb;obtain⟨q,hq,hd⟩:=Yh.mp hd;obtain⟨i,hi,rfl⟩:=Rm.mp hc;have:=h0 q hq;have e:(-1:Int)=d.n:=(Prod.mk.inj e).1;rw[(Gp hd).1]at e
 lia
def zW{k}{m}:(Mt.n .d [(k,m)]).get [.k k]=some m:=by rw[pV];simp
theorem zR{k}{m m2}:(Mt.n .d [(k,m)]).put [.k k] m2=.n .d [(k,m2)]:=by
 have e:qB .d [(k,m)] (.k k)=some 0:=by simp[qB]
 simp[Mt.put,e]
def Dn{k}{m m2}:ki [(k,m)] k m2=[(k,m2)]:=by unfold ki;simp
theorem Aw{it}{g}{b}{τ}{ds}{r}(h:it (er τ)=some ds)(h2:L2.forM (λ d τ=>(g d τ).bind b) ds τ=r):xh it g b τ=r:=by unfold xh;rw[h];exact h2
theorem vE{it}{g}{b}{τ τ1 τ2}{d}(h:it (er τ)=some [d])(hg:g d τ=some τ1)(hb:b τ1=some (.next τ2)):xh it g b τ=some (.next τ2):=by
 refine Aw h ?_
 unfold L2.forM;rw[show(g d τ).bind b=some (.next τ2) by rw[hg];exact hb];rfl
theorem KJ{px}{gk}{τ}{i}{q}{ds}{cs}(h1:px τ=some (i,q))(h2:gk (er τ)=some (.lst ds))(h3:a6 τ i q=some (.n .l cs))(h4:cs.length+ds.length<100000):CP px gk τ=some (.next (cX τ i q (.n .l (cs++ds.map λ d=>(.inl 0,.s d))))):=by
 unfold CP;simp only[h1,h2,h3,Yi];exact if_pos h4
theorem OB{g}{τ}{ds}(h:g (er τ)=some (.lst ds)):eON g τ=some (.mu false (lM ds),τ):=by unfold eON;rw[h];rfl
theorem rg:∀ ds:Ry D,my (ds.map λ d=>((.inl 0:Key),Mt.s d))=some ds
 |[]=>rfl
 |d::ds=>by
  show(my (ds.map λ d=>((.inl 0:Key),Mt.s d))).map _=_;rw[rg ds];rfl
theorem Mp{px}{τ}{i}{q}{ds ds'}(h1:px τ=some (i,q))(h2:a6 τ i q=some (lM ds))(h3:Jz ds=some ds'):L8 px τ=some (.mu false (lM ds'),τ):=by
 unfold L8;simp only[h1,h2,Yi];show(my (ds.map λ d=>((.inl 0:Key),Mt.s d))).bind _=_;rw[rg];show(Jz ds).map _=_;rw[h3];rfl
def rlD(R:Rs):Ry (Key×D):=R.map λ p=>(.inl p.1,p.2.D)
def shD(C:RB)(gv:Int)(R:Rs):D:=.obj C [("given",.int gv),("rules",.dct (rlD R))]
def wM.ok(r:wM):Prop:=(0<=r.lay/\r.lay<=9)/\(0<r.ps.length/\r.ps.length<=2)/\(∀ ts ∈ r.ps,Iw ts)/\r.rs.length<=3/\∀ a ∈ r.rs,a.ok
structure wN (R:Rs):Prop where
 ln:R.length<=4
 ok:∀ p ∈ R,0<=p.1/\p.2.ok
 pw:R.Pairwise λ a b=>a.1<b.1
theorem AN:∀ R:Rs,rq (rlD R)=some (R.map (·.1))
 |[]=>rfl
 |p::R=>by
  show(rq (rlD R)).map _=_;rw[AN R];rfl
theorem Er:∀ {R:Rs} {p:Int×wM},R.Pairwise (λ a b=>a.1 < b.1)->p ∈ R->du (rlD R) (.inl p.1)=some p.2.D
 |q::R,p,pw,h=>by
  rw[Xx]at pw;show du ((.inl q.1,q.2.D)::rlD R) _=_;rcases Zi.mp h with rfl|h
  · exact yx rfl
  ·have:=pw.1 p h
   rw[FK (show ¬ (Sum.inl q.1:Key)=Sum.inl p.1 from λ z=>by injection z with z;omega)];exact Er pw.2 h
section
variable{t:Adr}{gv n:Int}{M:Ry B8}{R:Rs}{i:Int}{b:B8}{w:Str}
theorem xv(h:wN R):eA t [shD t.aE n R]=some (.own (.lst ((R.map (·.1)).map .int))):=by
 unfold eA d8;refine bH (yN ?_);unfold BC;rw[gq (aB rfl) rfl];show(rq (rlD R)).bind _=_;rw[AN];show(if(R.map (·.1)).length<64 then _ else none)=_;have:=h.ln;rw[if_pos (by rw[Za];lia),<- yI (List.Perm.refl (R.map (·.1))) (Q4.mpr (h.pw.imp λ z=>Int.le_of_lt z))]
theorem Gj(h:wN R){p}(hp:p ∈ R):cn t [shD t.aE n R,.int p.1]=some (.shr p.2.D):=by
 have ev:=Er h.pw hp
 have e1:gC (.int p.1) (.dct (rlD R))=some (.bl false):=by
  show some (D.bl (!(du (rlD R) (.inl p.1)).isSome))=_;rw[ev];rfl
 unfold cn d7;refine bH (bp (EB (dU (s:=.shr .non) (aB rfl) (af (aB rfl) aq) rfl ?_ rfl)) (bU (av (gq (aB rfl) rfl) (aB rfl) ev)));unfold jF f6;exact IJ (lP (aO (av (aB rfl) (gq (aB rfl) rfl) e1)) nofun λ _=>rfl)
end
theorem J8{rs}(h:∀ r ∈ rs,r.ok):∀ c ∈ tL rs,c.ok:=λ c hc=>by
 obtain⟨i,hi,rfl⟩:=Rm.mp hc;exact⟨(h _ (Yt hi)).2.1,λ _=>⟨rfl,rfl,rfl⟩⟩
theorem JN{n w}{p}(h:p.2.ok):(∀ c ∈ rlC n w p,c.ok)/\(rlC n w p).length<=3:=by
 unfold rlC;split
 · exact⟨λ _ z=>absurd z Z3,Z0 _⟩
 ·unfold yq
  refine⟨λ c hc=>?_,by rw[Yy];exact h.2.2.2.1⟩;obtain⟨i,hi,rfl⟩:=Rm.mp hc;exact⟨(h.2.2.2.2 _ (Yt hi)).2.1,λ z=>absurd z Zf⟩
theorem B6{n w}{own}{R}(ho:∀ r ∈ own,r.ok)(hR:∀ p ∈ R,0<=p.1/\p.2.ok):∀ c ∈ iz n w own R,c.ok:=λ c hc=>by
 rcases Zl.mp hc with hc|hc
 · exact J8 ho c hc
 ·obtain ⟨p,hp,hc⟩:=Yh.mp hc
  exact(JN (hR p hp).2).1 c hc
theorem p7{n w}{own}:∀{R},(∀ p ∈ R,0<=p.1/\p.2.ok)->(iz n w own R).length<=own.length+3 * R.length:=λ{R} hR=>by
 unfold iz tL;rw[Z5,Yy]
 have:∀ R:Rs,(∀ p ∈ R,0<=p.1/\p.2.ok)->(R.flatMap (rlC n w)).length<=3 * R.length:=λ R=>by
  induction R with
  |nil=>intro _;exact Zo _
  |cons p R ih=>
   intro h;have a:=(JN (n:=n) (w:=w) (h p (Zg ..)).2).2;have b:=ih λ q hq=>h q (Zd _ hq)
   rw[Yg,Z5,Z2]
   lia
 have:=this R hR
 lia
abbrev rk8(T S:D)(i:Int)(L:Ry Cl)(x4 x5 x6 x7:Sm):Ry Sm:=[.shr T,.shr S,.shr (.lst [.int i]),.mu false (.n .d [(.inl i,lM (L.map Cl.P))]),x4,x5,x6,x7]
theorem EI{T S}{i}{L}{x4 x5 x6 x7}:a6 (rk8 T S i L x4 x5 x6 x7) 3 ([]++[.k (.inl i)])=some (lM (L.map Cl.P)):=by
 rw[mf rfl];exact zW
section
variable{t:Adr}{gv n:Int}{M:Ry B8}{R:Rs}{i:Int}{b:B8}{w:Str}{own:Ry Row}
theorem zd(h:fd M i=some b)(hk:b.m.k=if w="" then [] else [w])(ho:b.m.ro=rwD own)(hl:own.length<=3)(hoo:∀ r ∈ own,r.ok)(hR:wN R):∃ S:Ry Cl,jD t [trD t.aj gv M,shD t.aE n R,.lst [.int i]]=some (.own (.dct [(.inl i,.lst (S.map Cl.P))]))/\S.Perm (iz b.n w own R)/\S.Pairwise λ a b=>HT.lexLt a.q b.q=true:=by
 have ok:=B6 (n:=b.n) (w:=w) hoo hR.ok;have ln:=p7 (n:=b.n) (w:=w) (own:=own) hR.ok;have l4:=hR.ln;obtain⟨S,eS,pm,pw⟩:=F4 (by lia) (P4 ok (Kt (λ p hp=>(hR.ok p hp).1) hR.pw));refine⟨S,?_,pm,pw⟩
 suffices hh:∃ ss,iA 8 3 (lI t).1 [.shr (trD t.aj gv M),.shr (shD t.aE n R),.shr (.lst [.int i])]=some (.mu false (.n .d [(.inl i,lM (S.map Cl.P))]),ss) by
  obtain⟨ss,e⟩:=hh;unfold jD HG;rw[show([trD t.aj gv M,shD t.aE n R,.lst [.int i]]:Ry D).map Sm.shr=[.shr (trD t.aj gv M),.shr (shD t.aE n R),.shr (.lst [.int i])] from rfl,e];show some (Sl.own (.dct (lD [(.inl i,lM (S.map Cl.P))])))=_;rw[lD,lD,kA]
 unfold lI;dsimp only
 obtain ⟨τ2,e2,x4,x5,x6,x7,rfl⟩:=lE
  (b:=λ d τ=>(gNm 5 d τ).bind (jL (yR 6 (eN (jR t.aE "rule_of" (cn t) (bf 1) (aX (bf 5) eF)))) (xh (mF (Fq (cE t) (aX (bf 0) (aX (bf 6) (aX (bf 2) eF))))) (gTm 2 (pH (gNm 4) (pH (gNm 7) A7))) (CP (tE (nA 3) (bf 4)) (dFn dH (aX (bf 5) (aX (bf 6) (aX (bf 7) eF))))))))
  (λ j τ=>∃ x4 x5 x6 x7,τ=rk8 (trD t.aj gv M) (shD t.aE n R) i (iz b.n w own (R.take j)) x4 x5 x6 x7) ⟨_,_,_,_,by unfold iz;rw[List.take_zero,Q9,Zz]⟩ (by
  rintro j d τ hd ⟨x4,x5,x6,x7,rfl⟩
  rw[QD,QD]at hd
  cases hj:R[j]? with
  |none=>rw[hj]at hd;cases hd
  |some p=>
  rw[hj]at hd;cases hd;have hp:=QE hj;have eru:=Gj (t:=t) (n:=n) hR hp;have ew:=wV (t:=t) (gv:=gv) h hk (hR.ok p hp).2.2.2.1
  have tk:iz b.n w own (R.take (j+1))=iz b.n w own (R.take j)++rlC b.n w p:=by
   unfold iz;rw[Yu,hj,Ym,Wl];show _++(_++List.flatMap _ [p])=_;rw[List.flatMap_singleton]
  have lj:(iz b.n w own (R.take j)).length<=100:=by
   have:=p7 (n:=b.n) (w:=w) (own:=own) (R:=R.take j) λ q hq=>hR.ok q (Wn hq)
   have:(R.take j).length<=R.length:=by rw[Yc];lia
   lia
  rw[tk];have e1:∀{g:DSm} {o:En},g (rk8 (trD t.aj gv M) (shD t.aE n R) i (iz b.n w own (R.take j)) x4 (.shr (.int p.1)) (.shr p.2.D) x7)=some o->jL (yR 6 (eN (jR t.aE "rule_of" (cn t) (bf 1) (aX (bf 5) eF)))) g (rk8 (trD t.aj gv M) (shD t.aE n R) i (iz b.n w own (R.take j)) x4 (.shr (.int p.1)) x6 x7)=some o:=λ k=>a7 (dS (v_N (dU e_v (af e_v aq) rfl eru rfl)) (Zb rfl) rfl) k
  have ei:∀{x4 x7:Sm},mF (Fq (cE t) (aX (bf 0) (aX (bf 6) (aX (bf 2) eF)))) (er (rk8 (trD t.aj gv M) (shD t.aE n R) i (iz b.n w own (R.take j)) x4 (.shr (.int p.1)) (.shr p.2.D) x7))=some (kx (wk i (mx (jr b.n w p.2.ps)))):=λ{x4 x7}=>by
   unfold mF;rw[xS (af e_v (af e_v (af e_v aq))) ew rfl];rfl
  unfold rlC
  cases em:mx (jr b.n w p.2.ps) with
  |none=>
   rw[em]at ei;rw[Zz];exact⟨_,e1 (Aw ei rfl),x4,.shr (.int p.1),.shr p.2.D,x7,rfl⟩
  |some x=>
   rw[em]at ei;have rc:=Gk p.1 p.2 x (Zu (hR.ok p hp).2.2.2.2.1 (by decide));refine⟨_,e1 (vE ei rfl (KJ (wQ cq e_v rfl rfl) (c7 (af e_v (af e_v (af e_v aq))) rc rfl) EI ?_)),.shr (.int i),.shr (.int p.1),.shr p.2.D,.shr (wtD x),?_⟩
   ·have:=(hR.ok p hp).2.2.2.2.1
    unfold yq;simp only[Za,Yy]
    lia
   ·rw [iD rfl,Wy,zR,<- Zq,<- Zq]
    rfl)
 rw[Za,Za,Yn]at e2;refine⟨_,fE (τ:=(rk8 (trD t.aj gv M) (shD t.aE n R) i S (.shr (.int i)) x5 x6 x7).set 3 .no) ?_⟩;refine a7 (dS rfl (Zb rfl) rfl) ?_
 refine a7 (vE (rE e_v) rfl ((gj (OB (xS (af e_v (af e_v aq)) (J9 h ho (by lia)) rfl)) cq e_v rfl rfl rfl (by decide)).trans rfl)) ?_
 refine a7 (Aw (rE (dU e_v aq rfl (xv hR) rfl)) e2) ?_
 refine a7 (vE (rE e_v) rfl ((gj (cs:=[(.inl i,lM ((iz b.n w own R).map Cl.P))]) (Mp (wQ cq e_v rfl rfl) EI eS) cq e_v rfl rfl rfl (show 1<100000 by decide)).trans ?_)) (mi (v_V rfl));rw[Dn];rfl
end
def Cl.T(c:Cl):D:=.tup [.int c.n,.int c.l,jc c.v.its]
def win(S:Ry Cl):Ry Cl:=S.foldl (λ a c=>if(a.any λ d=>decide (d.p=c.p))=true then a else a++[c]) []
theorem uI (p:Str):∀ (S a:Ry Cl),(S.foldl (λ a c=>if (a.any λ d=>decide (d.p=c.p))=true then a else a++[c]) a).find? (λ c=>decide (c.p=p))=(a++S).find? λ c=>decide (c.p=p)
 |[],a=>by rw[Zz];rfl
 |c :: S,a=>by
  rw[List.foldl_cons,uI p S];split
  ·rename_i h
   rw[Q3,Q3,QF]
   by_cases e:c.p=p
   ·rw [Zk e]
    obtain⟨d,hd,hp⟩:=Xv.mp h;have hp:=Z1 hp
    cases q:a.find? λ c=>decide (c.p=p) with
    |some x=>rfl
    |none=>exact absurd (Zk (hp.trans e)) (QM.mp q d hd)
   · rw[Zp e]
  · rw[Wl];rfl
theorem yu:∀ (S a:Ry Cl),(S.foldl (λ a c=>if (a.any λ d=>decide (d.p=c.p))=true then a else a++[c]) a).length<=a.length+S.length
 |[],a=>Zo _
 |c::S,a=>by
  rw[List.foldl_cons];refine Zu (yu S _) ?_
  split
  · rw[Z2];omega
  · simp only[Z5,Z2,Xo];omega
def wnM(W:Ry Cl):Ry (Key×Mt):=W.map λ c=>(.inr c.p,.s c.T)
def wnD(W:Ry Cl):Ry (Key×D):=W.map λ c=>(.inr c.p,c.T)
theorem Fg:∀ W:Ry Cl,lD (wnM W)=wnD W
 |[]=>by unfold wnM wnD;rw[We,lD];rfl
 |c::W=>by
  show lD ((.inr c.p,.s c.T)::wnM W)=_;rw[lD,xH,Fg W];rfl
theorem Ep (p:Str):∀ W:Ry Cl,du (wnD W) (.inr p)=(W.find? λ c=>decide (c.p=p)).map Cl.T
 |[]=>rfl
 |c::W=>by
  show du ((.inr c.p,c.T)::wnD W) _=_;rw[QF]
  by_cases e:c.p=p
  · rw[Zk e];exact yx (by rw[e])
  ·rw [Zp e,FK (show ¬ (Sum.inr c.p:Key)=Sum.inr p from λ z=>e (by injection z))]
   exact Ep p W
theorem Fz(W:Ry Cl)(p:Str):((wnM W).any λ c=>decide (c.1=.inr p))=W.any λ d=>decide (d.p=p):=by
 unfold wnM;rw[Wg];refine List.any_congr rfl λ c=>?_
 exact Wu.mpr ⟨λ z=>by injection z,λ z=>Z6 Sum.inr z⟩
abbrev wn7(T S:D)(i:Int)(W:Ry Cl)(x4 x5 x6:Sm):Ry Sm:=[.shr T,.shr S,.shr (.lst [.int i]),.mu false (.n .d [(.inl i,.n .d (wnM W))]),x4,x5,x6]
theorem I9{T S:D}{i:Int}{W:Ry Cl}{x4 x5 x6:Sm}:a6 (wn7 T S i W x4 x5 x6) 3 ([]++[.k (.inl i)])=some (.n .d (wnM W)):=by
 rw[mf rfl];exact zW
theorem Ny{px:DPx}{gk:DE}{fv:DEm}{τ:Ry Sm}{i:Nat}{q:Ry Stp}{cs:Ry (Key×Mt)}{d dv:D}{k:Key}(h1:px τ=some (i,q))(h2:a6 τ i q=some (.n .d cs))(h3:gk (b6 τ)=some d)(h4:jn d=some k)(h5:fv τ=some (.shr dv,τ))(hl:cs.length<100000):yS px gk fv τ=if(cs.any λ c=>decide (c.1=k))=true then some (.next τ) else some (.next (cX τ i q (.n .d (ki cs k (.s dv))))):=by
 unfold yS;simp only[h1,h2,h3,h4,h5,Yi,toM];exact if_pos ⟨hl,trivial⟩
section
variable{t:Adr}{T Sh:D}{i:Int}{S:Ry Cl}
theorem wU(e:jD t [T,Sh,.lst [.int i]]=some (.own (.dct [(.inl i,.lst (S.map Cl.P))])))(hl:S.length<=100):gX t [T,Sh,.lst [.int i]]=some (.own (.dct [(.inl i,.dct (wnD (win S)))])):=by
 suffices hh:∃ ss,iA 7 3 (eI t).1 [.shr T,.shr Sh,.shr (.lst [.int i])]=some (.mu false (.n .d [(.inl i,.n .d (wnM (win S)))]),ss) by
  obtain⟨ss,e⟩:=hh;unfold gX HG;rw[show([T,Sh,.lst [.int i]]:Ry D).map Sm.shr=[.shr T,.shr Sh,.shr (.lst [.int i])] from rfl,e];show some (Sl.own (.dct (lD [(.inl i,.n .d (wnM (win S)))])))=_;rw[lD,lD,frz,Fg]
 unfold eI;dsimp only
 obtain ⟨τ2,e2,x6,rfl⟩:=lE
  (b:=λ d τ=>(gNm 6 d τ).bind (yS (tE (nA 3) (bf 4)) (dOp oIx (bf 6) (dC (.int 1))) (eN (dOp oIx (bf 6) (dC (.int 2))))))
  (λ j τ=>∃ x6,τ=wn7 T Sh i (win (S.take j)) (.shr (.int i)) (.shr (.lst (S.map Cl.P))) x6) ⟨_,rfl⟩ (by
  rintro j d τ hd ⟨x6,rfl⟩
  rw[QD]at hd;obtain⟨c,hc,rfl⟩:=Zm hd
  have lw:(win (S.take j)).length<=100:=by
   have:=yu (S.take j) [];rw[Yc,Xo]at this;unfold win;exact Zu this (by lia)
  have tk:win (S.take (j+1))=if((win (S.take j)).any λ d=>decide (d.p=c.p))=true then win (S.take j) else win (S.take j)++[c]:=by
   unfold win;rw[Yu,hc,List.foldl_append];rfl
  have es:=Ny (τ:=wn7 T Sh i (win (S.take j)) (.shr (.int i)) (.shr (.lst (S.map Cl.P))) (.shr c.P)) (px:=tE (nA 3) (bf 4)) (gk:=dOp oIx (bf 6) (dC (.int 1))) (fv:=eN (dOp oIx (bf 6) (dC (.int 2)))) (wQ cq e_v rfl rfl) I9 (av e_v Ua (cI _ _ _)) rfl (v_N (av e_v Ua (fj _ _ _ _))) (by unfold wnM;rw[Za];lia);rw[Fz]at es;rw[tk]
  cases ea:(win (S.take j)).any λ d=>decide (d.p=c.p) with
  |true=>
   rw[ea,if_pos rfl]at es;rw[if_pos rfl];exact⟨_,es,_,rfl⟩
  |false=>
   rw[ea,if_neg nofun]at es;rw[if_neg nofun];refine⟨_,es,.shr c.P,?_⟩
   rw[iD rfl,Wy,zR,show ki (wnM (win (S.take j))) (.inr c.p) (.s (.tup [.int c.n,.int c.l,jc c.v.its]))=wnM (win (S.take j)++[c]) by
    unfold ki;rw[Fz,ea,if_neg nofun];unfold wnM;rw[Zq]
    rfl]
   rfl)
 rw[Za,Yn]at e2;refine⟨_,fE (τ:=(wn7 T Sh i (win S) (.shr (.int i)) (.shr (.lst (S.map Cl.P))) x6).set 3 .no) ?_⟩;refine a7 (dS rfl (Zb rfl) rfl) ?_
 refine a7 (vE (d:=.tup [.int i,.lst (S.map Cl.P)]) ?_ rfl (a7 ((gj (s:=.mu false (.n .d [])) rfl cq e_v rfl rfl rfl (by decide)).trans rfl) (Aw (rE e_v) e2))) (mi (v_V rfl));unfold mF;rw[xS (af e_v (af e_v (af e_v aq))) e rfl];rfl
def dfl(p:Str):Vw:=if p ∈ (["ink","size"]:Ry Str) then .hand else .start
def tv(W:Ry Cl)(p:Str):Vw:=match W.find? λ c=>decide (c.p=p) with
 |some c=>c.v
 |none=>dfl p
def jI(W:Ry Cl):Ry (Key×D):=props.map λ p=>(.inr p,jc (tv W p).its)
theorem DV:∀ p ∈ props,ni [.str p]=some (.shr (.bl (decide (p ∈ (["ink","size"]:Ry Str))))):=by
 intro p hp;simp only[props,Zi,Z3,Wm]at hp;rcases hp with rfl|rfl|rfl|rfl|rfl|rfl|rfl|rfl|rfl|rfl|rfl|rfl|rfl<;>exact rfl
def C2:props.Nodup:=by decide +kernel
theorem xc(W:Ry Cl):m8 [.dct (wnD W)]=some (.own (.dct (jI W))):=by
 unfold m8 mX;dsimp only
 refine bH (bp (gw Ua (Zb rfl)) (je (ds:=props.map .str)
  (λ j τ=>∃ x,τ=[.shr (.dct (wnD W)),.own (.dct ((props.take j).map λ p=>(.inr p,jc (tv W p).its))),x]) (rD Ua) ⟨_,rfl⟩ (by
  rintro j d τ hd ⟨x,rfl⟩
  rw[QD]at hd;obtain⟨p,hj,rfl⟩:=Zm hd;have hp:=QE hj;have ev:=Ep p W
  have put:putD ((props.take j).map λ p=>((.inr p:Key),jc (tv W p).its)) (.inr p) (jc (tv W p).its)=(props.take (j+1)).map λ p=>(.inr p,jc (tv W p).its):=by
   unfold putD;rw[if_neg,Yu,hj,Zq]
   · rfl
   ·intro h
    obtain⟨a,ha,e⟩:=Xv.mp h;obtain⟨q,hq,rfl⟩:=Ye.mp ha;have e:q=p:=by have:=Z1 e;injection this
    subst e;have nd:=C2;rw[<- Wj (j+1) props,Yu,hj]at nd;have:=(Yq.mp (Yq.mp nd).1).2.2 q hq q (Zy.mpr rfl);exact this rfl
  have ln:((props.take j).map λ p=>((.inr p:Key),jc (tv W p).its)).length<100000:=by
   rw[Za,Yc];exact Xc (Nat.min_le_right _ _) (by decide +kernel)
  rw[<- put]
  cases ew:W.find? λ c=>decide (c.p=p) with
  |some c=>
   rw[ew]at ev;have et:tv W p=c.v:=by unfold tv;rw[ew]
   rw[et];refine⟨_,_,rfl,lP (aO (av (aB rfl) (aB rfl) (?_:Cf (.str p) (.dct (wnD W))=some (.bl true)))) (λ _=>oa (av (av (aB rfl) (aB rfl) ev) Ua (fj _ _ _ _)) (aB rfl) rfl rfl ln) nofun,.shr (.str p),rfl⟩;show some (D.bl (du (wnD W) (.inr p)).isSome)=_;rw[ev];rfl
  |none=>
   rw[ew]at ev;have et:tv W p=dfl p:=by unfold tv;rw[ew]
   rw[et];refine⟨_,_,rfl,lP (aO (av (aB rfl) (aB rfl) (?_:Cf (.str p) (.dct (wnD W))=some (.bl false)))) nofun (λ _=>oa (O4 (aO (c7 (af (aB rfl) aq) (DV p hp) rfl)) (λ h=>?_) λ h=>?_) (aB rfl) rfl rfl ln),.shr (.str p),rfl⟩
   ·show some (D.bl (du (wnD W) (.inr p)).isSome)=_
    rw[ev];rfl
   ·unfold dfl
    rw[if_pos (Z1 h)];exact bV (af Ua aq) (Zb rfl)
   ·unfold dfl
    rw[if_neg (of_decide_eq_false h)]
    exact bV (af Ua aq) (Zb rfl)) ?_))
 rw[Za,Yn]
 rintro _ ⟨x,rfl⟩
 exact lO rfl
theorem xb(e:jD t [T,Sh,.lst [.int i]]=some (.own (.dct [(.inl i,.lst (S.map Cl.P))])))(hl:S.length<=100):sV t [T,Sh,.int i]=some (.own (.dct (jI (win S)))):=by
 have ew:=wU e hl;refine bH (yN (xS (af (av (c7 (af e_v (af e_v (af (iy (af e_v aq) (Zb rfl)) aq))) ew rfl) e_v (?_:xu _ (.int i)=some (.dct (wnD (win S))))) aq) (xc _) rfl));exact yx rfl
end
abbrev fl(p:Str)(L:Ry Cl):Ry Cl:=L.filter λ c=>decide (c.p=p)
theorem Lv {τ:Ry Sl} (n w:Str):∀ {ps:Ry (Ry Tk)},(∀ ts ∈ ps,Iw ts)->HI (λ d=>dT (dFn fu (aX (dOp oIx (dOp oIx (bf 0) (dC (.int 0))) (dC (.int 1))) (aX (bf 1) (aX (bf 2) eF)))) [.shr d,.shr (.str n),.shr (.str w)]) (λ d=>dFn dI (aX (dOp oIx (dOp oIx (bf 0) (dC (.int 0))) (dC (.int 1))) eF) [.shr d,.shr (.str n),.shr (.str w)]) (ps.map ptD)=some ((jr n w ps).map wtD)
 |[],_=>rfl
 |ts::ps,h=>by
  have ih:=Lv (τ:=τ) n w λ a ha=>h a (Zd _ ha)
  have e1:∀{r:Ry Sl},dOp oIx (dOp oIx (bf 0) (dC (.int 0))) (dC (.int 1)) (.shr (ptD ts)::r)=some (yp ts):=av (Ud rfl (bS _ _)) Ua (cI _ _ _)
  have eh:dT (dFn fu (aX (dOp oIx (dOp oIx (bf 0) (dC (.int 0))) (dC (.int 1))) (aX (bf 1) (aX (bf 2) eF)))) [.shr (ptD ts),.shr (.str n),.shr (.str w)]=some (ts.all (Tk.fit n w)):=aO (c7 (af e1 (af (aB rfl) (af (aB rfl) aq))) (NY ts n w) rfl);have ew:dFn dI (aX (dOp oIx (dOp oIx (bf 0) (dC (.int 0))) (dC (.int 1))) eF) [.shr (ptD ts),.shr (.str n),.shr (.str w)]=some (wtD (wt ts)):=c7 (af e1 aq) (Az (h ts (Zg ..)).1) rfl;rw[Zh,HI];simp only[eh,ew,ih];unfold jr;rw[Xu];cases ts.all (Tk.fit n w)<;>rfl
theorem HJ{n w:Str}{ps:Ry (Ry Tk)}:(jr n w ps).length<=ps.length:=by
 unfold jr;rw[Za];exact Wi ..
theorem G9:∀{ws:Ry (Int×Int)},ws≠[]->∃ x,mx ws=some x:=λ{ws} h=>by
 have:∀(l:Ry (Int×Int)) (a:Int×Int),∃ x,l.foldl mxs (some a)=some x:=λ l=>by
  induction l with
  |nil=>exact λ a=>⟨a,rfl⟩
  |cons b l ih=>exact λ a=>ih _
 cases ws with
 |nil=>exact absurd rfl h
 |cons a l=>exact this l a
theorem Bf{p:Str}{L:Ry Cl}{c:Cl}:fl p (L++[c])=fl p L++if decide (c.p=p)=true then [c] else []:=by
 unfold fl;rw[List.filter_append,Xu,List.filter_nil]
theorem HL{τ:Ry Sl}{it:DI}{c:DT}{g:DE}{cs:Ry (Str×Nat)}{ds es:Ry D}(h1:it τ=some ds)(hl:ds.length<=100000)(h2:HI (λ d=>c (.shr d::jt τ cs)) (λ d=>g (.shr d::jt τ cs)) ds=some es):wj it c g cs τ=some (.lst es):=by
 unfold wj;rw[h1];show(if ds.length<=100000 then _ else none)=_;rw[if_pos hl,h2];rfl
def rlK(n w:Str)(q:Int×wM)(k:Nat):Ry Cl:=match mx (jr n w q.2.ps) with
 |none=>[]
 |some x=>yq q.1 q.2.lay x (q.2.rs.take k)
def okw(ws:Ry (Int×Int)):kX 8 (ws.map wtD)=true:=vw λ d hd=>by
 obtain⟨x,_,rfl⟩:=Ye.mp hd;rfl
section
variable{t:Adr}{R:Rs}{own:Ry Row}{n w p:Str}
abbrev Ci(R:Rs)(own:Ry Row)(n w p:Str)(A:Ry Cl)(a b c d e f:Sl):Ry Sl:=[.shr (.dfz (rlD R)),.shr (rwD own),.shr (.str n),.shr (.str w),.shr (.str p),.own (.lst (A.map Cl.L)),a,b,c,d,e,f]
theorem E8{rs:Ry Row}{j:Nat}{r:Row}(h:rs[j]?=some r):oIx (rwD rs) (.int (j:Int))=some r.D:=by
 show atI (rs.map Row.D) (j:Int)=_;exact iW (by rw[QD,h];rfl)
theorem AE(rs:Ry Row):vA [rwD rs]=some (.int (rs.length:Int)):=by
 show some (D.int ((rs.map Row.D).length:Nat))=_;rw[Za]
theorem Eb(hl:own.length<=3)(hR:wN R):gb t [.dfz (rlD R),rwD own,.str n,.str w,.str p]=some (.own (.lst ((fl p (iz n w own R)).map Cl.L))):=by
 unfold gb fZ;dsimp only
 refine bH (bp (gw (iy aq (Z0 _)) (Zb rfl)) (je (ds:=o8 0 own.length)
  (λ j τ=>∃ a,τ=Ci R own n w p (fl p (tL (own.take j))) a .no .no .no .no .no) (ua (j:=(own.length:Int)) (af (a8 (af (aB rfl) aq) (AE own)) aq) (by lia)) ⟨_,rfl⟩ (by
  rintro j d τ hd ⟨a,rfl⟩
  obtain⟨rfl,hj⟩:=fF hd;rw[Wv];obtain⟨r,hr⟩:∃ r,own[j]?=some r:=⟨_,QA hj⟩
  have ex:=E8 hr
  have tk:fl p (tL (own.take (j+1)))=fl p (tL (own.take j))++if decide (r.p=p)=true then [⟨r.f,true,0,(0,0),-1,j,r.p,r.v⟩] else []:=by
   unfold tL;rw[lC _ hr,Bf]
  have ln:((fl p (tL (own.take j))).map Cl.L).length<100000:=by
   rw[Za];refine Xc (Wi ..) ?_
   unfold tL;rw[Yy,Yc]
   lia
  have et:dT (dOp oEq (dOp oIx (dOp oIx (bf 1) (bf 6)) (dC (.int 0))) (bf 4)) (Ci R own n w p (fl p (tL (own.take j))) (.shr (.int (j:Int))) .no .no .no .no .no)=some (decide (r.p=p)):=aO (av (av (av (aB rfl) (aB rfl) ex) Ua (bS _ _)) (aB rfl) (l8 _ _));rw[tk]
  cases hd:decide (r.p=p) with
  |false=>
   rw[hd]at et;exact⟨_,_,rfl,lP et nofun λ _=>rfl,.shr (.int (j:Int)),by rw[if_neg nofun,Zz];rfl⟩
  |true=>
   rw[hd]at et;refine⟨_,_,rfl,lP et (λ _=>tj (d:=Cl.L ⟨r.f,true,0,(0,0),-1,j,r.p,r.v⟩) (bV (af (bV (af (av (av (aB rfl) (aB rfl) ex) Ua (fj _ _ _ _)) (af Ua (af Ua (af (bV (af Ua (af Ua aq)) (Zb rfl)) (af (D2 Ua rfl) (af (aB rfl) aq)))))) (Zb rfl)) (af (av (av (aB rfl) (aB rfl) ex) Ua (cI _ _ _)) aq)) (Zb rfl)) rfl ln) nofun,.shr (.int (j:Int)),?_⟩;unfold Ci;rw[if_pos rfl,Zq]
   rfl) ?_))
 rw[jM,Yn]
 rintro _ ⟨a1,rfl⟩
 refine je (ds:=R.map λ q=>.tup [.int q.1,q.2.D])
  (λ j τ=>∃ a b c d e f,τ=Ci R own n w p (fl p (iz n w own (R.take j))) a b c d e f) (by unfold A4;rw[aB (d:=.dfz (rlD R)) rfl];show some (kx (rlD R))=_;unfold kx rlD;rw[Yb];rfl) ⟨_,_,_,_,_,_,by unfold iz;rw[List.take_zero,Q9,Zz]⟩ (by
  rintro j d τ hd ⟨a,b,c,d,e,f,rfl⟩
  rw[QD]at hd;obtain⟨q,hj,rfl⟩:=Zm hd;have hq:=QE hj;obtain⟨h0,hlay,hps,htk,hrs,hro⟩:=hR.ok q hq
  have tk:iz n w own (R.take (j+1))=iz n w own (R.take j)++rlC n w q:=by
   unfold iz;rw[Yu,hj,Ym,Wl];show _++(_++List.flatMap _ [q])=_;rw[List.flatMap_singleton]
  have lj:(iz n w own (R.take j)).length<=100:=by
   have:=p7 (n:=n) (w:=w) (own:=own) (R:=R.take j) λ q hq=>hR.ok q (Wn hq)
   have:(R.take j).length<=R.length:=by rw[Yc];lia
   have:=hR.ln
   lia
  have hne:=Aj (ys:=[]) (okw (jr n w q.2.ps)) rfl;rw[vY]at hne
  have r0:rlK n w q 0=[]:=by
   unfold rlK
   cases mx (jr n w q.2.ps) with
   |none=>rfl
   |some x=>unfold yq;simp
  have lm:∀ x,mx (jr n w q.2.ps)=some x->Du [.lst ((jr n w q.2.ps).map wtD)]=some (wtD x):=λ x=>KP (Zu HJ hps.2)
  have er:rlK n w q q.2.rs.length=rlC n w q:=by
   unfold rlK rlC;rw[Yn]
   all_goals (cases mx (jr n w q.2.ps)<;>rfl)
  rw[tk]
  refine Mo rfl (oO (bO (HL (rD (Ud rfl (cI _ _ _))) (by rw [Za]; lia) (Lv (τ:=[]) n w htk))) ((gH (ds:=o8 0 q.2.rs.length)
   (λ k τ=>∃ a e f,τ=Ci R own n w p (fl p (iz n w own (R.take j)++rlK n w q k)) a (.shr (.int q.1)) (.shr q.2.D) (.shr (.lst ((jr n w q.2.ps).map wtD))) e f) (ua (j:=(q.2.rs.length:Int)) (af (a8 (af (Ud rfl (fj _ _ _ _)) aq) (AE _)) aq) (by lia)) ⟨a,e,f,by rw[r0,Zz];rfl⟩ (by
   rintro k d τ hd ⟨a,e,f,rfl⟩
   obtain⟨rfl,hk⟩:=fF hd;rw[Wv];obtain⟨r,hr⟩:∃ r,q.2.rs[k]?=some r:=⟨_,QA hk⟩
   have ex:=E8 hr;have et:∀{A:Ry Cl} {f:Sl},Cg (dT (dOp oNe (bf 9) (Ma eF))) (dT (dOp oEq (dOp oIx (bf 10) (dC (.int 0))) (bf 4))) (Ci R own n w p A (.shr (.int (k:Int))) (.shr (.int q.1)) (.shr q.2.D) (.shr (.lst ((jr n w q.2.ps).map wtD))) (.shr r.D) f)=some ((!((jr n w q.2.ps).map wtD).isEmpty)&&decide (r.p=p)):=Ex (aO (av (aB rfl) (iy aq (Z0 _)) hne)) (aO (av (Ud rfl (bS _ _)) (aB rfl) (l8 _ _)))
   have s10:∀{A:Ry Cl} {g:DS} {o:Out},g (Ci R own n w p A (.shr (.int (k:Int))) (.shr (.int q.1)) (.shr q.2.D) (.shr (.lst ((jr n w q.2.ps).map wtD))) (.shr r.D) f)=some o->gr (xg 10 (dOp oIx (dOp oIx (bf 8) (dC (.int 2))) (bf 6))) g (Ci R own n w p A (.shr (.int (k:Int))) (.shr (.int q.1)) (.shr q.2.D) (.shr (.lst ((jr n w q.2.ps).map wtD))) e f)=some o:=λ z=>bp (bO (av (Ud rfl (fj _ _ _ _)) (aB rfl) ex)) z
   cases em:mx (jr n w q.2.ps) with
   |none=>
    have ws:jr n w q.2.ps=[]:=Classical.byContradiction λ z=>by
     obtain⟨x,hx⟩:=G9 z;rw[em]at hx;cases hx
    refine⟨_,_,rfl,s10 (lP (b:=false) (et.trans (by rw[ws];rfl)) nofun λ _=>rfl),.shr (.int (k:Int)),.shr r.D,f,?_⟩;unfold rlK;rw[em]
   |some x=>
    have lm:=lm x em
    have ws:((jr n w q.2.ps).map wtD).isEmpty=false:=by
     cases z:jr n w q.2.ps with
     |nil=>rw[z]at em;cases em
     |cons=>rfl
    rw[ws]at et
    have tk:rlK n w q (k+1)=rlK n w q k++[⟨r.f,false,if r.f=true then -q.2.lay else q.2.lay,x,q.1,k,r.p,r.v⟩]:=by
     unfold rlK;rw[em];exact lC _ hr
    have lk:((fl p (iz n w own (R.take j)++rlK n w q k)).map Cl.L).length<100000:=by
     rw[Za];refine Xc (Wi ..) ?_
     unfold rlK;rw[em,Z5];unfold yq;rw[Yy,Yc]
     lia
    rw[tk,<- Wl,Bf];generalize fl p (iz n w own (R.take j)++rlK n w q k)=A at lk
    cases hd:decide (r.p=p) with
    |false=>exact⟨_,_,rfl,s10 (lP (b:=false) (et.trans (by rw[hd];rfl)) nofun λ _=>rfl),.shr (.int (k:Int)),.shr r.D,f,by rw[if_neg nofun,Zz]⟩
    |true=>
     refine⟨_,_,rfl,s10 (lP (b:=true) (et.trans (by rw[hd];rfl)) (λ _=>bp (bO (Ud rfl (bS _ _))) (bp (τ':=Ci R own n w p A (.shr (.int (k:Int))) (.shr (.int q.1)) (.shr q.2.D) (.shr (.lst ((jr n w q.2.ps).map wtD))) (.shr r.D) (.shr (.int (if r.f=true then -q.2.lay else q.2.lay)))) (lP (b:=r.f) (aO (Ud rfl (fj _ _ _ _))) (λ h=>?_) λ h=>?_) (tj (d:=Cl.L ⟨r.f,false,if r.f=true then -q.2.lay else q.2.lay,x,q.1,k,r.p,r.v⟩) (bV (af (bV (af (Ud rfl (fj _ _ _ _)) (af Ua (af (aB rfl) (af (a8 (af (aB rfl) aq) lm) (af (aB rfl) (af (aB rfl) aq)))))) (Zb rfl)) (af (Ud rfl (cI _ _ _)) aq)) (Zb rfl)) rfl lk))) nofun),.shr (.int (k:Int)),.shr r.D,.shr (.int (if r.f=true then -q.2.lay else q.2.lay)),?_⟩
     ·rw [h,if_pos rfl]
      exact bO (D2 (aB rfl) rfl)
     ·rw [h,if_neg nofun]
      rfl
     ·unfold Ci
      rw[if_pos rfl,Zq]
      rfl)).imp λ τ' ⟨e3,a3,x3,f3,z⟩=>⟨e3,a3,_,_,_,x3,f3,by rw[z,jM,er]⟩))) ?_
 rw[Za,Yn]
 rintro _ ⟨a,b,c,d,e,f,rfl⟩
 exact lO rfl
end
def bD:Rz Cl->D
 |none=>.non
 |some c=>c.L
def dv(p:Str)(L:Ry Cl):Vw:=match(fl p L).foldl bst none with
 |some c=>c.v
 |none=>dfl p
section
variable{t:Adr}{R:Rs}{own:Ry Row}{n w p:Str}
def u7(c:Cl):ze (.tup [.bl c.f,.bl c.o,.int c.h,wtD c.w,.int c.n,.int c.l])=some c.r:=if_pos rfl
theorem N7(hl:own.length<=3)(hR:wN R):j7 t [.dfz (rlD R),rwD own,.str n,.str w,.str p]=some (.shr (jc (dv p (iz n w own R)).its)):=by
 have ec:=Eb (t:=t) (n:=n) (w:=w) (p:=p) hl hR;unfold j7 jZ;dsimp only;generalize hL:fl p (iz n w own R)=L at ec
 refine bH (bp (bO Ua) (je
  (λ j τ=>∃ x,τ=[.shr (.dfz (rlD R)),.shr (rwD own),.shr (.str n),.shr (.str w),.shr (.str p),.shr (bD ((L.take j).foldl bst none)),x]) (rE (c7 (af e_v (af e_v (af e_v (af e_v (af e_v aq))))) ec rfl)) ⟨_,rfl⟩ (by
  rintro j d τ hd ⟨x,rfl⟩
  rw[QD]at hd;obtain⟨c,hc,rfl⟩:=Zm hd;rw[show(L.take (j+1)).foldl bst none=bst ((L.take j).foldl bst none) c by rw[Yu,hc,List.foldl_append];rfl]
  cases(L.take j).foldl bst none with
  |none=>exact⟨_,_,rfl,lP (yE (b:=true) (aO (av e_v Ua rfl)) nofun λ _=>rfl) (λ _=>bO e_v) nofun,.shr c.L,rfl⟩
  |some b=>
   have eg:Nq (.tup [.bl c.f,.bl c.o,.int c.h,wtD c.w,.int c.n,.int c.l]) (.tup [.bl b.f,.bl b.o,.int b.h,wtD b.w,.int b.n,.int b.l])=some (.bl (HT.lexLt b.r c.r)):=by unfold Nq;rw[u7,u7];rfl
   refine⟨_,_,rfl,lP (yE (b:=false) (aO (av e_v Ua rfl)) (λ _=>aO (av (av e_v Ua (bS _ _)) (av e_v Ua (bS _ _)) eg)) nofun) (λ h=>?_) λ h=>?_,.shr c.L,rfl⟩
   ·rw [show bst (some b) c=some c from if_pos h]
    exact bO e_v
   ·rw [show bst (some b) c=some b from if_neg (by rw [h]; exact nofun)]
    rfl) ?_))
 rw[Za,Yn]
 rintro _ ⟨x,rfl⟩
 refine ?_
 unfold dv;rw[hL]
 cases L.foldl bst none with
 |some c=>exact dQ (aO (av e_v Ua rfl)) (bU (av e_v Ua (cI _ _ _)))
 |none=>
  refine aT (aO (av e_v Ua rfl)) ?_
  unfold dfl;refine JG (Jl (aO (av e_v Ua (l8 _ _))) (aO (av e_v Ua (l8 _ _)))) (λ h=>?_) λ h=>?_
  ·rw [if_pos (by simpa using h)]
   exact bU (bV (af Ua aq) (Zb rfl))
  ·rw [if_neg (by simpa using h)]
   exact bU (bV (af Ua aq) (Zb rfl))
end
theorem Cw{n w p:Str}{own:Ry Row}{R:Rs}{S:Ry Cl}(hoo:∀ r ∈ own,r.ok)(hR:wN R)(pm:S.Perm (iz n w own R))(pw:S.Pairwise λ a b=>HT.lexLt a.q b.q=true):tv (win S) p=dv p (iz n w own R):=by
 unfold tv dv;rw[show(win S).find? (λ c=>decide (c.p=p))=S.find? λ c=>decide (c.p=p) by unfold win;rw[uI,Wy],first_is pm pw (B6 hoo hR.ok)]
 all_goals (cases(fl p (iz n w own R)).foldl bst none<;>rfl)
theorem N6{n w p:Str}{own:Ry Row}{R:Rs}(hoo:∀ r ∈ own,r.ok)(hR:wN R):(dv p (iz n w own R)).ok 30:=by
 unfold dv;have ok:=B6 (n:=n) (w:=w) hoo hR.ok
 cases e:fl p (iz n w own R) with
 |nil=>show(dfl p).ok 30;unfold dfl;split<;>exact⟨by kernel_rfl,by decide⟩
 |cons b l=>
  obtain⟨c,h1,h2,_⟩:=wH l b;rw[show(b::l).foldl bst none=l.foldl bst (some b) from rfl,h1];rw[<- e]at h2;exact(ok c (Ri.mp h2).1).1
structure Bk where
 n:Str
 w:Str
 own:List Row
def Bk.D(k:Bk):D:=.tup [.str k.n,.str k.w,rwD k.own]
structure LR (M:List B8) (B:List Bk):Prop where
 ln:B.length<=6
 at_:∀(j:Nat) (k:Bk),B[j]?=some k->∃ b,fd M (j:Int)=some b/\b.n=k.n/\b.m.k=(if k.w="" then [] else [k.w])/\b.m.ro=rwD k.own/\k.own.length<=3/\∀ r ∈ k.own,r.ok
theorem Cv(W:Ry Cl):∀ p ∈ props,du (jI W) (.inr p)=some (jc (tv W p).its):=by
 have:∀(l:Ry Str) (p:Str),p ∈ l->du (l.map λ p=>((.inr p:Key),jc (tv W p).its)) (.inr p)=some (jc (tv W p).its):=λ l=>by
  induction l with
  |nil=>intro p h;cases h
  |cons q l ih=>
   intro p h;rw[Zh]
   by_cases e:q=p
   · subst e;exact yx rfl
   ·rw [FK (λ z=>e (by injection z))]
    exact ih p ((Zi.mp h).resolve_left λ z=>e z.symm)
 exact λ p hp=>this props p hp
section
variable{t:Adr}{gv n:Int}{M:Ry B8}{R:Rs}{B:Ry Bk}
theorem Ir(hB:LR M B)(hR:wN R):eU t [trD t.aj gv M,shD t.aE n R,.dfz (rlD R),.lst (B.map Bk.D)]=some (.shr (.bl true)):=by
 have l6:=hB.ln
 have eL:vA [.lst (B.map Bk.D)]=some (.int (B.length:Int)):=by
  show some (D.int ((B.map Bk.D).length:Nat))=_;rw[Za]
 unfold eU gR;dsimp only
 refine bH (je
  (λ j τ=>∃ x4 x5 x6 x7,τ=[.shr (trD t.aj gv M),.shr (shD t.aE n R),.shr (.dfz (rlD R)),.shr (.lst (B.map Bk.D)),x4,x5,x6,x7]) (ua (af (a8 (af (aB rfl) aq) eL) aq) (by lia)) ⟨_,_,_,_,rfl⟩ (by
  rintro j d τ hd ⟨x4,x5,x6,x7,rfl⟩
  obtain⟨rfl,hj⟩:=fF hd;rw[Wv];obtain⟨k,hk⟩:∃ k,B[j]?=some k:=⟨_,QA hj⟩
  obtain⟨b,fb,bn,bk,bo,ol,oo⟩:=hB.at_ j k hk;obtain⟨S,eS,pm,pw⟩:=zd fb bk bo ol oo hR;rw[bn]at pm
  have lS:S.length<=100:=by
   have:=p7 (n:=k.n) (w:=k.w) (own:=k.own) hR.ok;have:=hR.ln;rw[pm.length_eq]
   lia
  have et:=xb eS lS;have ix:oIx (.lst (B.map Bk.D)) (.int (j:Int))=some k.D:=iW (by rw[QD,hk];rfl)
  have el:xt [.dct (jI (win S))]=some (.int 13):=by
   show some (D.int ((jI (win S)).length:Nat))=_;unfold jI;rw[Za];rfl
  have lt:(jI (win S)).length<100000:=by unfold jI;rw[Za];decide +kernel
  have lt2:∀{v:D},(putD (jI (win S)) (.inr "size") v).length<100000:=λ{v}=>by
   unfold putD;split
   · rw[Za];exact lt
   · rw[Z5];unfold jI;rw[Za];exact(by decide +kernel:props.length+1<100000)
  refine Mo rfl (oO (gw (xS (af (aB rfl) (af (aB rfl) (af (aB rfl) aq))) et rfl) (Zb rfl)) (oO (lP (b:=false) (Jm rfl (yE (b:=false) (kW (b:=true) (aO (a8 (af (aB rfl) (af Ua aq)) rfl))) (λ _=>aO (av (a8 (af (aB rfl) aq) el) Ua rfl)) nofun)) nofun λ _=>rfl) (IZ
   (λ _ τ=>∃ x6 x7,τ=[.shr (trD t.aj gv M),.shr (shD t.aE n R),.shr (.dfz (rlD R)),.shr (.lst (B.map Bk.D)),.shr (.int (j:Int)),.own (.dct (jI (win S))),x6,x7]) (rE (c7 aq tI rfl)) ⟨_,_,rfl⟩ (by
   rintro m d τ hd ⟨x6,x7,rfl⟩
   obtain⟨p,hp,rfl⟩:=Ye.mp (QE hd);have ed:=N7 (t:=t) (n:=k.n) (w:=k.w) (p:=p) ol hR;have ev:=Cv (win S) p hp;rw[Cw oo hR pm pw]at ev
   have en:gC (.str p) (.dct (jI (win S)))=some (.bl false):=by
    show some (D.bl (!(du (jI (win S)) (.inr p)).isSome))=_;rw[ev];rfl
   exact⟨_,_,rfl,bp (bO (c7 (af (aB rfl) (af (av (av (aB rfl) (aB rfl) ix) Ua (fj _ _ _ _)) (af (av (av (aB rfl) (aB rfl) ix) Ua (bS _ _)) (af (av (av (aB rfl) (aB rfl) ix) Ua (cI _ _ _)) (af (aB rfl) aq))))) ed rfl)) (lP (Jm rfl (yE (b:=false) (aO (av (aB rfl) (aB rfl) en)) (λ _=>kW (aO (c7 (af (av (aB rfl) (aB rfl) ev) (af (aB rfl) aq)) (JE (N6 oo hR)) rfl))) nofun)) nofun λ _=>rfl),.shr (.str p),_,rfl⟩) ?_)))
  rintro _ ⟨y6,y7,rfl⟩
  exact⟨_,bp (oa (bV (af Ua (af Ua aq)) (Zb rfl)) Ua rfl rfl lt) (oa (bV (af Ua aq) (Zb rfl)) Ua rfl rfl lt2),_,_,_,_,rfl⟩) ?_)
 rintro _ ⟨x4,x5,x6,x7,rfl⟩
 exact bU Ua
end
def RIx(R:Rs):Prop:=∀(j:Nat) (q:Int×wM),R[j]?=some q->q.1=(j:Int)/\q.2.ok
theorem RIx.ok{R}(h:RIx R)(l:R.length<=4):wN R:=⟨l,λ p hp=>by
 obtain⟨j,hj⟩:=QP hp;have:=h j p hj;exact⟨by lia,this.2⟩,X2.mpr λ i j hi hj hij=>by
 have a:=(h i _ (QA hi)).1;have b:=(h j _ (QA hj)).1;rw[a,b]
 lia⟩
theorem RIx.new{R}(h:RIx R){r}(hr:r.ok):RIx (R++[((R.length:Int),r)])/\∀ d,putD (rlD R) (.inl (R.length:Int)) d=rlD R++[(.inl (R.length:Int),d)]:=by
 refine⟨λ j q hq=>?_,λ d=>?_⟩
 ·by_cases hj:j < R.length
  ·rw [QL hj] at hq
   exact h j q hq
  ·rw [QK (by lia)] at hq
   have:j - R.length=0:=by have:=(QB.mp hq).1;simp at this;lia
   rw[this]at hq;cases hq;exact⟨by show(R.length:Int)=j;lia,hr⟩
 ·unfold putD
  refine if_neg λ z=>?_
  obtain⟨x,hx,e⟩:=Xv.mp z;obtain⟨q,hq,rfl⟩:=Ye.mp hx;obtain⟨j,hj⟩:=QP hq;have e:q.1=(R.length:Int):=by have:=Z1 e;injection this
  have:=(h j q hj).1;have:=(QB.mp hj).1
  lia
theorem vW:∀ l:Ry It,cA (l.map It.D)=true
 |[]=>by simp[cA]
 |a::l=>by rw[Zh,cA,vW l];cases a<;>simp[It.D,gp]
theorem rK:∀ l:Ry Row,cA (l.map Row.D)=true
 |[]=>by simp[cA]
 |a::l=>by rw[Zh,cA,rK l];unfold Row.D jc;simp[gp,cA,vW]
theorem vU:∀ l:Ry Tk,cA (l.map Tk.D)=true
 |[]=>by simp[cA]
 |a::l=>by rw[Zh,cA,vU l];cases a<;>simp[Tk.D,gp,cA]
theorem vV:∀ l:Ry (Ry Tk),cA (l.map ptD)=true
 |[]=>by simp[cA]
 |a::l=>by rw[Zh,cA,vV l];unfold ptD yp;simp[gp,cA,vU]
def Be(r:wM):gp r.D=true:=by unfold wM.D rwD;simp[gp,cA,rK,vV]
theorem IY{f g:DS}{τ:Ry Sl}{Q:Ry Sl->Prop}(R:Ry Sl->Prop)(h:∃ τ1,f τ=some (.next τ1)/\R τ1)(h2:∀ τ1,R τ1->∃ τ2,g τ1=some (.next τ2)/\Q τ2):∃ τ2,gr f g τ=some (.next τ2)/\Q τ2:=
 have⟨_,e,r⟩:=h
 oO e (h2 _ r)
theorem OA{c:DT}{f:DS}{τ:Ry Sl}{b:Bool}{Q:Ry Sl->Prop}(h:c τ=some b)(h1:b=true->∃ τ1,f τ=some (.next τ1)/\Q τ1)(h2:b=false->Q τ):∃ τ1,sIf c f qo τ=some (.next τ1)/\Q τ1:=by
 cases b with
 |true=>exact(h1 rfl).imp λ _ z=>⟨lP h (λ _=>z.1) nofun,z.2⟩
 |false=>exact⟨τ,lP h nofun λ _=>rfl,h2 rfl⟩
theorem Gi ns {a b c d} (hc:bT c=true) (hd:bT d=true) {near} (n0:0<=near):∃ R,kT [scr ns,.lst [.str a,.str b],.lst [.str c,.str d],.int near]=some (.own (.dct (rlD R)))/\R.length<=4/\RIx R:=by
 obtain⟨h,eh,h0⟩:=gE ns (k:=0) (by decide)
 obtain⟨m,hm,em⟩:∃ m:Nat,m<=4/\oIx (.lst [.int 0,.int 2,.int 3,.int 4]) (.int (h / 6 % 4))=some (.int (m:Int)):=by
  have:h / 6 % 4=0\/h / 6 % 4=1\/h / 6 % 4=2\/h / 6 % 4=3:=by lia
  rcases this with e|e|e|e<;>rw[e]
  · exact⟨0,by decide,rfl⟩
  · exact⟨2,by decide,rfl⟩
  · exact⟨3,by decide,rfl⟩
  · exact⟨4,by decide,rfl⟩
 let st:=λ(R:Rs) (x6 x7 x8 x9 x10:Sl)=>([.shr (scr ns),.shr (.lst [.str a,.str b]),.shr (.lst [.str c,.str d]),.shr (.int near),.shr (.int h),.own (.dct (rlD R)),x6,x7,x8,x9,x10]:Ry Sl)
 suffices ∃ o,(eQ).1 (kh 11 [scr ns,.lst [.str a,.str b],.lst [.str c,.str d],.int near])=some o/\∃ R,o=.ret (.own (.dct (rlD R)))/\R.length<=4/\RIx R by
  obtain⟨_,e,R,rfl,q⟩:=this;exact⟨R,bH e,q⟩
 unfold eQ
 refine Ae (bO (c7 (af e_v (af Ua aq)) eh rfl)) (Ae (gw Ua (Zb rfl)) (Kn (ds:=o8 0 m) (λ j τ=>∃ R x6 x7 x8 x9 x10,τ=st R x6 x7 x8 x9 x10/\R.length=j/\RIx R)
  (ua (af (av (iy (af Ua (af Ua (af Ua (af Ua aq)))) (Zb rfl)) (av (av e_v Ua (aY (by decide) (by decide +kernel))) Ua (aH (by decide))) em) aq) (by lia)) ⟨[],_,_,_,_,_,rfl,rfl,nofun⟩ (by
  rintro j _ τ hdd ⟨R,x6,x7,x8,x9,x10,rfl,rfl,hR⟩
  obtain⟨rfl,hj⟩:=fF hdd;rw[Wv];obtain⟨r,er,r0⟩:=gE ns (k:=20+5 * (R.length:Int)) (by lia);obtain⟨t1,et1,ok1⟩:=uO hc hd (r / 10);obtain⟨t2,et2,ok2⟩:=uO (a:=a) (b:=b) hc hd (r / 2160);obtain⟨mm,hmm⟩:=Xm (a:=1+r / 103680 % 3) (by lia);obtain⟨rs,ers,lrs,ors⟩:=EG ns (k:=21+5 * (R.length:Int)) (by lia) n0 mm (by lia);rw[<- hmm]at ers
  refine Mo rfl (oO (bO (c7 (af e_v (af (av Ua (av Ua e_v (Ak (by decide) (by decide))) (aU _ _)) aq)) er rfl)) (oO (gw (iy (af (bV (af (bV (af Ua (af (c7 (af (av e_v Ua (aY (by decide) (by decide +kernel))) (af e_v (af e_v aq))) et1 rfl) aq)) (Zb rfl)) aq) (Zb rfl)) aq) (Zb rfl)) (Zb rfl)) (IY (λ τ=>∃ ps:Ry (Ry Tk),τ=st R (.shr (.int (R.length:Int))) (.shr (.int r)) (.own (.lst (ps.map ptD))) x9 x10/\(∀ ts ∈ ps,Iw ts)/\0 < ps.length/\ps.length<=2)
   (OA (aO (av (av (av e_v Ua (aY (by decide) (by decide +kernel))) Ua (aH (by decide))) Ua rfl)) (λ _=>⟨_,tj (bV (af (bV (af Ua (af (c7 (af (av e_v Ua (aY (by decide) (by decide +kernel))) (af e_v (af e_v aq))) et2 rfl) aq)) (Zb rfl)) aq) (Zb rfl)) rfl (by show 1<100000;decide),[t1,t2],rfl,by simpa using⟨ok1,ok2⟩,Zb rfl,Zb rfl⟩) λ _=>⟨[t1],rfl,by simpa using ok1,Zb rfl,Zb rfl⟩) ?_)))
  rintro _ ⟨ps,rfl,okp,p0,p2⟩
  refine oO (bO (c7 (af e_v (af (av Ua (av Ua e_v (Ak (by decide) (by decide))) (aU _ _)) (af (av Ua (av (av e_v Ua (aY (by decide) (by decide +kernel))) Ua (aH (by decide))) (aU _ _)) (af e_v aq)))) ers rfl)) (oO (bO (av e_v Ua (aH (by decide)))) (IY (λ τ=>∃ l:Int,τ=st R (.shr (.int (R.length:Int))) (.shr (.int r)) (.own (.lst (ps.map ptD))) (.shr (rwD rs)) (.shr (.int l))/\0<=l/\l<=9)
   (OA (aO (av (av (av e_v Ua (aY (by decide) (by decide +kernel))) Ua (aH (by decide))) Ua rfl)) (λ _=>⟨_,bO (av (av e_v Ua (aY (by decide) (by decide +kernel))) Ua (aH (by decide))),_,rfl,by lia,by lia⟩) λ _=>⟨_,rfl,by lia,by lia⟩) ?_))
  rintro _ ⟨l,rfl,l0,l9⟩
  obtain⟨hR',put⟩:=hR.new (r:=⟨l,ps,rs⟩) ⟨⟨l0,l9⟩,⟨p0,p2⟩,okp,by show rs.length<=3;lia,ors⟩;refine⟨_,oa (d:=wM.D ⟨l,ps,rs⟩) (HM rfl (bV (af e_v (af (a8 (af e_v aq) rfl) (af e_v aq))) (Zb rfl)) (Be _)) e_v rfl rfl (by unfold rlD;rw[Za];lia),_,.shr (.int (R.length:Int)),.shr (.int r),.own (.lst (ps.map ptD)),.shr (rwD rs),.shr (.int l),?_,by simp,hR'⟩;show [_,_,_,_,_,Sl.own (.dct (putD (rlD R) (.inl (R.length:Int)) _)),_,_,_,_,_]=[_,_,_,_,_,Sl.own (.dct (rlD (R++[_]))),_,_,_,_,_];rw[put];unfold rlD;rw[Zq]
  rfl) ?_))
 rintro _ ⟨R,x6,x7,x8,x9,x10,rfl,hl,hR⟩
 rw[jM]at hl;exact⟨_,lO rfl,R,rfl,by lia,hR⟩
theorem Fk M j r x:fd (upR M j r) x=(fd M x).map λ b=>if b.i=j then { b with r:=r } else b:=by
 unfold fd upR;rw[Rx];congr 2
 funext b
 show decide ((if b.i=j then { b with r:=r } else b).i=x)=_;split<;>rfl
def AD M j r:(upR M j r).length=M.length:=Za _
theorem Bh{M}{n}(h:fd M n.i=none) x:fd (M++[n]) x=if x=n.i then some n else fd M x:=by
 unfold fd at *;rw[Q3];split
 ·rename_i e
  rw[e,h,QF,Zk rfl];rfl
 ·rename_i e
  rw[QF,Zp (QH e)];cases List.find? (λ b=>decide (b.i=x)) M<;>rfl
section
variable{M:Ry B8}
theorem Ch.mono{M'}(hm:∀ x d,fd M x=some d->∃ d',fd M' x=some d'/\d'.h=d.h){x}{n}(c:Ch M x n):Ch M' x n:=by
 induction c with
 |top h e=>
  obtain⟨d',h1,h2⟩:=hm _ _ h;exact .top h1 (h2.trans e)
 |up h e c ih=>
  obtain⟨d',h1,h2⟩:=hm _ _ h;exact .up h1 (h2.trans e) ih
end
def BIx(M:Ry B8):Prop:=∀(k:Nat) (b:B8),M[k]?=some b->b.i=(k:Int)
theorem BIx.fd{M}(h:BIx M)(k:Nat):fd M (k:Int)=M[k]?:=by
 cases e:M[k]? with
 |none=>
  refine QM.mpr λ b hb z=>?_
  obtain⟨i,hi⟩:=QP hb;have a:=h i b hi;have c:=Z1 z;have:i=k:=by lia
  subst this;rw[hi]at e;cases e
 |some b=>
  have lt:=(QB.mp e).1;refine List.find?_eq_some_iff_getElem.mpr ⟨Zk (h k b e),k,lt,(QB.mp e).2,λ i hi=>?_⟩;have:=h i _ (QA (X6 hi lt));rw[Zp (by lia)];rfl
def BIx.nd{M}(h:BIx M):Nd M:=X2.mpr λ i j hi hj hij=>by
 rw[Xf,Xf,h i _ (QA _),h j _ (QA _)]
 lia
theorem BIx.map{M}(h:BIx M){g}(hg:∀ b,(g b).i=b.i):BIx (M.map g):=λ k b hb=>by
 rw[QD]at hb;obtain⟨c,hc,rfl⟩:=Zm hb;rw[hg];exact h k c hc
theorem BIx.snoc{M}(h:BIx M){b}(hb:b.i=(M.length:Int)):BIx (M++[b]):=λ k c hc=>by
 by_cases hk:k<M.length
 ·rw [QL hk] at hc
  exact h k c hc
 ·rw [QK (by lia)] at hc
  have:k - M.length=0:=by have:=(QB.mp hc).1;simp at this;lia
  rw[this]at hc;cases hc
  lia
structure TOk (M:List B8) (B:List Bk):Prop where
 ix:BIx M
 ln:M.length=B.length
 bk:LR M B
 dp:∀ k:Nat,k<M.length->∃ d,Ch M (k:Int) d/\d<=k
 rl:∀ b ∈ M,b.r.length<=M.length
def grow(M:Ry B8)(h p:Int)(b:B8)(nm w:Str)(rs:Ry Row):Ry B8:=stB (Ce M h b p (M.length:Int) nm) (M.length:Int) ⟨if w="" then [] else [w],rwD rs⟩
theorem HE{M}{B}(T:TOk M B)(h5:M.length<=5){h}{p}{b}{nm w}{rs}(hh:h<M.length)(hb:M[h]?=some b)(hr:rs.length<=3)(ho:∀ r ∈ rs,r.ok):TOk (grow M h p b nm w rs) (B++[⟨nm,w,rs⟩]):=by
 have ne:(h:Int)≠(M.length:Int):=by lia
 have i0:=T.ix.snoc (b:=⟨(M.length:Int),some (h:Int),nm,[],fo⟩) rfl
 have ix:BIx (grow M h p b nm w rs):=by
  exact(i0.map λ c=>by split<;>rfl).map λ c=>by split<;>rfl
 have ln:(grow M h p b nm w rs).length=M.length+1:=by
  unfold grow stB Ce upR;rw[Za,Za,Z5];rfl
 have hn:fd M (M.length:Int)=none:=by rw[T.ix.fd];exact QJ (Zo _)
 have fx:∀ x,fd (grow M h p b nm w rs) x=((if x=(M.length:Int) then some ⟨(M.length:Int),some (h:Int),nm,[],fo⟩ else fd M x).map λ c=>if c.i=(h:Int) then { c with r:=insI b.r p (M.length:Int) } else c).map λ c=>if c.i=(M.length:Int) then { c with m:=⟨if w="" then [] else [w],rwD rs⟩ } else c:=λ x=>by
  unfold grow Ce;rw[DZ,Fk,Bh hn]
 have new:fd (grow M h p b nm w rs) (M.length:Int)=some ⟨(M.length:Int),some (h:Int),nm,[],⟨if w="" then [] else [w],rwD rs⟩⟩:=by
  rw[fx,if_pos rfl];simp[QH ne]
 have old:∀(x:Int) (d:B8),fd M x=some d->∃ d',fd (grow M h p b nm w rs) x=some d'/\d'.h=d.h/\d'.n=d.n/\d'.m=d.m:=λ x d hd=>by
  have nx:x≠(M.length:Int):=λ z=>by rw[z,hn]at hd;cases hd
  have di:=L6 hd;rw[fx,if_neg nx,hd];refine⟨_,rfl,?_⟩;have dn:d.i≠(M.length:Int):=by rw[di];exact nx
  by_cases e:d.i=(h:Int)<;>simp[e,dn,ne]
 have chm:∀{x:Int} {k:Nat},Ch M x k->Ch (grow M h p b nm w rs) x k:=λ c=>c.mono λ x d hd=>by
  obtain⟨d',e1,e2,_⟩:=old x d hd;exact⟨d',e1,e2⟩
 refine⟨ix,by rw[ln,Z5,<- T.ln];rfl,⟨by rw[Z5,<- T.ln];show M.length+1<=6;lia,λ j k hj=>?_⟩,λ k hk=>?_,λ c hc=>?_⟩
 ·by_cases lt:j < B.length
  ·rw [QL lt] at hj
   obtain⟨d,d1,d2,d3,d4,d5⟩:=T.bk.at_ j k hj;obtain⟨d',e1,_,e2,e3⟩:=old _ d d1;exact⟨d',e1,e2.trans d2,by rw[e3];exact d3,by rw[e3];exact d4,d5⟩
  ·rw [QK (by lia)] at hj
   have z:j - B.length=0:=by have:=(QB.mp hj).1;simp at this;lia
   rw[z]at hj;cases hj;have:(j:Int)=(M.length:Int):=by rw[T.ln];lia
   rw[this];exact⟨_,new,rfl,rfl,rfl,hr,ho⟩
 ·rw [ln] at hk
  by_cases lt:k<M.length
  ·obtain ⟨d,c,l⟩:=T.dp k lt
   exact⟨d,chm c,l⟩
  ·have:k=M.length:=by lia
   subst this;obtain⟨d,c,l⟩:=T.dp h hh;exact⟨d+1,.up new rfl (chm c),by lia⟩
 ·rw [ln]
  obtain⟨c1,h1,rfl⟩:=Ye.mp hc;obtain⟨c2,h2,rfl⟩:=Ye.mp h1
  have r2:c2.r.length<=M.length:=by
   rcases Zl.mp h2 with z|z
   · exact T.rl c2 z
   · rw[Zy.mp z];exact Z0 _
  have rb:=T.rl b (QE hb)
  have:(if c2.i=(h:Int) then { c2 with r:=insI b.r p (M.length:Int) } else c2:B8).r.length<=M.length+1:=by
   split
   ·show (insI b.r p (M.length:Int)).length<=_
    unfold insI;rw[Z5,Z2,Yc,Wp]
    lia
   · lia
  have g2r:∀ c:B8,(if c.i=(M.length:Int) then { c with m:=⟨if w="" then [] else [w],rwD rs⟩ } else c:B8).r=c.r:=λ c=>by split<;>rfl
  exact Zu (Xr (Z6 List.length (g2r _))) this
def rws(M:Ry B8):Mt:=.n .l (M.map λ b=>((.inl 0:Key),lM (b.r.map .int)))
theorem HF M:frz (rws M)=.lst (M.map λ b=>.lst (b.r.map .int)):=by
 unfold rws;rw[frz];refine Z6 D.lst ?_
 induction M with
 |nil=>rw[We,DX];rfl
 |cons b M ih=>rw[Zh,DX,kA,ih];rfl
theorem Gg{M}{h}{b}(hb:M[h]?=some b):(rws M).get [.i h]=some (lM (b.r.map .int)):=by
 have lt:=(QB.mp hb).1
 have e:qB .l (M.map λ b=>((.inl 0:Key),lM (b.r.map .int))) (.i h)=some h:=by
  show(if h<_ then some h else none)=_;rw[if_pos (by rw[Za];exact lt)]
 unfold rws Mt.get;simp only[e,QD,hb,X4];cases lM (b.r.map .int)<;>rfl
theorem Gf{M}(ix:BIx M){h}{b}(hb:M[h]?=some b) r:(rws M).put [.i h] (lM (r.map .int))=rws (upR M (h:Int) r):=by
 have lt:=(QB.mp hb).1
 have e:qB .l (M.map λ b=>((.inl 0:Key),lM (b.r.map .int))) (.i h)=some h:=by
  show(if h<_ then some h else none)=_;rw[if_pos (by rw[Za];exact lt)]
 unfold rws Mt.put;simp only[e,QD,hb,X4];refine Z6 (Mt.n .l) (List.ext_getElem? λ k=>?_);unfold upR;rw[Yb,QD,List.getElem?_set]
 by_cases hk:h=k
 ·subst hk
  rw[if_pos rfl,if_pos (by rw[Za];exact lt),hb];show _=some ((.inl 0:Key),lM ((if b.i=(h:Int) then { b with r:=r } else b:B8).r.map .int));rw[if_pos (ix h b hb)];unfold Mt.put;rfl
 ·rw [if_neg hk,QD]
  cases hc:M[k]? with
  |none=>rfl
  |some c=>
   show some _=some ((.inl 0:Key),lM ((if c.i=(h:Int) then { c with r:=r } else c:B8).r.map .int));rw[if_neg λ z=>hk (by have:=ix k c hc;lia)]
theorem Gh{M}{h:Nat}{b}{p}{nm}(hh:h<M.length):Mt.n .l ((upR M (h:Int) (insI b.r p (M.length:Int))).map (λ b=>((.inl 0:Key),lM (b.r.map .int)))++[(.inl 0,lM [])])=rws (Ce M (h:Int) b p (M.length:Int) nm):=by
 unfold rws Ce upR;rw[Zq,Zq];refine Z6 (Mt.n .l) (Z6 (_++·) ?_);show _=[((.inl 0:Key),lM ((if(M.length:Int)=(h:Int) then _ else _:B8).r.map .int))];rw[if_neg (by lia)];rfl
theorem KA{px}{gi}{fv}{τ τ1}{s}{i}{q}{j}{mv}{cs}(h1:fv τ=some (s,τ1))(h2:px τ1=some (i,q))(h3:gi (b6 τ1)=some (.int j))(h4:toM s=some mv)(h5:a6 τ1 i q=some (.n .l cs))(h6:0<=j/\j.toNat<cs.length):yT px gi fv τ=some (.next (cX τ1 i q (.n .l (cs.set j.toNat (.inl 0,mv))))):=by
 unfold yT;rw[h1];show(px τ1).bind _=_;rw[h2];rw[h3];show(toM s).bind _=_;rw[h4];rw[h5];exact if_pos h6
theorem KL{px}{fv}{τ τ1}{s}{i}{q}{mv}{cs cs0}(h1:px τ=some (i,q))(h2:a6 τ i q=some (.n .l cs0))(h3:fv τ=some (s,τ1))(h4:toM s=some mv)(h5:a6 τ1 i q=some (.n .l cs))(h6:cs.length<100000):Ge px fv τ=some (.next (cX τ1 i q (.n .l (cs++[(.inl 0,mv)])))):=by
 unfold Ge;rw[h1];show(match a6 τ i q with|some (.n .l _)=>(fv τ).bind _|_=>none)=_;rw[h2];rw[h3];show(toM s).bind _=_;rw[h4];rw[h5];exact if_pos h6
theorem Pd{f}{g}{τ}{i}{q}{j}{cs}(h:f τ=some (i,q))(hk:g (b6 τ)=some (.int j))(hm:a6 τ i q=some (.n .l cs))(h0:0<=j):MT f g τ=some (i,q++[.i j.toNat]):=by
 unfold MT;rw[h];show(g (b6 τ)).bind _=_;rw[hk];rw[hm];exact if_pos h0
theorem q_L{f}{τ}{i}{q}{d}(h:f τ=some (i,q))(hm:a6 τ i q=some (.s d)):qX f τ=some (.v d):=by
 unfold qX;rw[h];show(match a6 τ i q with|some (.n _ _)=>some (Am.p i q)|some (.s d)=>some (.v d)|none=>none)=_;rw[hm]
abbrev s15(ns:Ry Int)(N K:D)(near hd:Int)(T B W:Mt)(x8 x9 x10 x11 x12 x13 x14:Sm):Ry Sm:=[.shr (scr ns),.shr N,.shr K,.shr (.int near),.shr (.int hd),.mu false T,.mu false B,.mu false W,x8,x9,x10,x11,x12,x13,x14]
theorem FY M i p q:stB (stB M i p) i q=stB M i q:=by
 unfold stB;rw[Yb];refine Z4 λ b _=>?_
 by_cases e:b.i=i<;>simp[e]
theorem Lb{τ}{ga}{i j}(h:ga τ=some [.int i,.int j])(h1:-(2 ^ 62)<=i/\i<2 ^ 62/\-(2 ^ 62)<=j/\j<2 ^ 62):A3 ga τ=some (o8 i (j - i).toNat):=by
 unfold A3;rw[h];exact if_pos h1
theorem JJ{f}{g}{τ τ'}{x}(h:f τ=some (.next τ'))(h2:g τ'=x):IE f g τ=x:=by unfold IE;rw[h];exact h2
theorem Gn (nm:Str):TOk [⟨0,none,nm,[],fo⟩] [⟨nm,"",[]⟩] where
 ix:=λ k b h=>by
  cases k with
  |zero=>cases h;rfl
  |succ k=>cases h
 ln:=rfl
 bk:=⟨by show 1<=6;decide,λ j k h=>by
  cases j with
  |zero=>cases h;exact⟨_,rfl,rfl,rfl,rfl,Z0 _,nofun⟩
  |succ j=>cases h⟩
 dp:=λ k h=>by
  have h:k<1:=h;have:k=0:=by lia
  subst this;exact⟨0,.top rfl rfl,Zo _⟩
 rl:=λ b h=>by rw[Zy.mp h];exact Z0 _
theorem qb{f:DSm}{g}{τ τ':Ry Sm}{R:Sm×Sm->Prop}(h:f τ=some (.next τ'))(h2:∃ x,g τ'=some x/\R x):∃ x,IE f g τ=some x/\R x:=h2.imp λ _ z=>⟨JJ h z.1,z.2⟩
theorem FG{it:DI}{g:DGm}{b:DSm}{k}{τ:Ry Sm}{ds:Ry D}{R:Sm×Sm->Prop}(P:Nat->Ry Sm->Prop)(h1:it (er τ)=some ds)(h0:P 0 τ)(hs:∀ j d τ,ds[j]?=some d->P j τ->∃ τ2,(g d τ).bind b=some (.next τ2)/\P (j+1) τ2)(h2:∀ τ',P ds.length τ'->∃ x,k τ'=some x/\R x):∃ x,IE (xh it g b) k τ=some x/\R x:=
 have⟨_,e,p⟩:=lE P h0 hs
 qb (Aw h1 e) (h2 _ p)
theorem gD{f g:DSm}{τ τ':Ry Sm}{Q:Ry Sm->Prop}(h:f τ=some (.next τ'))(h2:∃ τ2,g τ'=some (.next τ2)/\Q τ2):∃ τ2,jL f g τ=some (.next τ2)/\Q τ2:=h2.imp λ _ z=>⟨a7 h z.1,z.2⟩
theorem Kv{f g:DSm}{τ:Ry Sm}{Q:Ry Sm->Prop}(R:Ry Sm->Prop)(h:∃ τ1,f τ=some (.next τ1)/\R τ1)(h2:∀ τ1,R τ1->∃ τ2,g τ1=some (.next τ2)/\Q τ2):∃ τ2,jL f g τ=some (.next τ2)/\Q τ2:=
 have⟨_,e,r⟩:=h
 gD e (h2 _ r)
theorem Nv{g:DGm}{b:DSm}{d:D}{τ τ1:Ry Sm}{Q:Ry Sm->Prop}(h:g d τ=some τ1)(h2:∃ τ2,b τ1=some (.next τ2)/\Q τ2):∃ τ2,(g d τ).bind b=some (.next τ2)/\Q τ2:=by rw[h];exact h2
theorem Jj{t} ns {a b c d} (ha:bT a=true) (hb:bT b=true) (hc:bT c=true) (hd:bT d=true) {near} (n0:0<=near):∃ M B,f7 t [scr ns,.lst [.str a,.str b],.lst [.str c,.str d],.int near]=some (.mu false (trM t.aj (M.length:Int) M),.mu false (lM (B.map Bk.D)))/\TOk M B/\1<=M.length:=by
 obtain⟨hd0,eh,h0⟩:=gE ns (k:=0) (by decide);obtain⟨nm,hnm,enm⟩:=kF (ws:=[a,b]) (Z7 (hd0 / 48) (b:=2) (by decide)) (Z9 _ (by decide))
 have onm:bT nm=true:=by
  rcases Zi.mp hnm with rfl|z
  · exact ha
  · rw[Zy.mp z];exact hb
 have k0:=Z7 hd0 (b:=6) (by decide);have k1:=Z9 hd0 (b:=6) (by decide);obtain⟨m,hm⟩:=Xm k0;have en:∀{τ:Ry Sl},τ[1]?=some (.shr (.lst [.str a,.str b]))->τ[4]?=some (.shr (.int hd0))->dOp oIx (bf 1) (dOp oMod (dOp oDiv (bf 4) (dC (.int 48))) (dC (.int 2))) τ=some (.str nm):=λ z1 z2=>av (aB z1) (av (av (aB z2) Ua (aY (by decide) (by decide +kernel))) Ua (aH (by decide))) enm
 suffices ∃ x,f7 t [scr ns,.lst [.str a,.str b],.lst [.str c,.str d],.int near]=some x/\∃ M B,x=(.mu false (trM t.aj (M.length:Int) M),.mu false (lM (B.map Bk.D)))/\TOk M B/\1<=M.length by
  obtain⟨_,e,M,B,rfl,q⟩:=this;exact⟨M,B,e,q⟩
 unfold f7 II iZ;dsimp only;rw[if_pos (by rfl)];refine qb (dS (v_N (c7 (af (aB rfl) (af Ua aq)) eh rfl)) (Zb rfl) rfl) ?_
 refine qb (dS (v_K (as:=[.v (.str nm)]) (cS (q_N (en rfl rfl)) rfl) rfl (Hv onm) rfl) (Zb rfl) rfl) ?_
 refine qb (dS (OB (iy (af (bV (af (en rfl rfl) (af Ua (af (bV aq (Z0 _)) aq))) (Zb rfl)) aq) (Zb rfl))) (Zb rfl) rfl) ?_
 refine qb (dS (s:=.mu false (rws [⟨0,none,nm,[],fo⟩])) rfl (Zb rfl) rfl) ?_
 refine FG (ds:=o8 1 m) (λ k τ=>∃ M B y8 y9 y10 y11 y12 y13 y14,τ=s15 ns (.lst [.str a,.str b]) (.lst [.str c,.str d]) near hd0 (trM t.aj (M.length:Int) M) (lM (B.map Bk.D)) (rws M) y8 y9 y10 y11 y12 y13 y14/\TOk M B/\M.length=1+k) ((Lb (af Ua (af (av Ua (Ud rfl (aH (by decide))) (aU _ _)) aq)) (by lia)).trans ?_) ⟨[⟨0,none,nm,[],fo⟩],[⟨nm,"",[]⟩],_,_,_,_,_,_,_,rfl,Gn nm,rfl⟩ (by
  rintro k d τ hdd ⟨M,B,y8,y9,y10,y11,y12,y13,y14,rfl,T,l⟩
  obtain⟨rfl,hk⟩:=fF hdd;have e:(1+(k:Int))=(M.length:Int):=by lia
  rw[e];have h1:1<=M.length:=by lia
  have h5:M.length<=5:=by lia
  refine Nv rfl ?_
  obtain⟨r,er,r0⟩:=gE ns (k:=2+(M.length:Int)) (by lia);have m0:=Z7 r (b:=(M.length:Int)) (by lia);have m1:=Z9 r (b:=(M.length:Int)) (by lia);obtain⟨h,hh⟩:=Xm m0;have lh:h<M.length:=by lia
  obtain⟨bx,hbx⟩:∃ bx,M[h]?=some bx:=⟨_,QA lh⟩
  have fb:fd M (h:Int)=some bx:=by rw[T.ix.fd];exact hbx
  have rb:=T.rl bx (QE hbx);have p0:=Z7 (r / 60) (b:=(bx.r.length:Int)+1) (by lia);have p1:=Z9 (r / 60) (b:=(bx.r.length:Int)+1) (by lia);generalize hp:r / 60 % ((bx.r.length:Int)+1)=p at p0 p1;obtain⟨nm,hnm,enm⟩:=kF (ws:=[a,b]) (Z7 (r / 720) (b:=2) (by decide)) (Z9 _ (by decide))
  have onm:bT nm=true:=by
   rcases Zi.mp hnm with rfl|z
   · exact ha
   · rw[Zy.mp z];exact hb
  have k0:=Z7 (r / 4320) (b:=3) (by decide);obtain⟨mm,hmm⟩:=Xm k0;obtain⟨rs,ers,lrs,ors⟩:=EG ns (k:=8+2 * (M.length:Int)) (by lia) n0 mm (by lia);have q0:=Z7 (r / 1440) (b:=3) (by decide);have hn:fd M (M.length:Int)=none:=by rw[T.ix.fd];exact QJ (Zo _)
  obtain⟨dp,ch,ld⟩:=T.dp h lh;have ePut:=JS (t:=t) (p:=p) T.ix.nd hn fb p0 (by lia) (by lia) onm (by lia) ch (by lia)
  let M1:=Ce M (h:Int) bx p (M.length:Int) nm
  have ix1:BIx M1:=by
   show BIx (upR _ _ _);exact(T.ix.snoc rfl).map λ c=>by split<;>rfl
  have f1:fd M1 (M.length:Int)=some ⟨(M.length:Int),some (h:Int),nm,[],fo⟩:=by
   show fd (upR _ _ _) _=_;rw[Fk,Bh hn,if_pos rfl];simp
   lia
  have l1:M1.length=M.length+1:=by
   show(upR _ _ _).length=_;rw[AD,Z5];rfl
  let st:=λ(T:Mt) (W:Mt) (y11 y12 y13 y14:Sm)=>s15 ns (.lst [.str a,.str b]) (.lst [.str c,.str d]) near hd0 T (lM (B.map Bk.D)) W (.shr (.int (M.length:Int))) (.shr (.int r)) (.shr (.int (h:Int))) y11 y12 y13 y14
  have ix:oIx (frz (rws M)) (.int (h:Int))=some (.lst (bx.r.map .int)):=by
   rw[HF];exact iW (by rw[QD,hbx];rfl)
  refine gD (dS (v_N (c7 (af e_v (af (av Ua e_v (aU _ _)) aq)) er rfl)) (Zb rfl) rfl) ?_
  refine gD (dS (v_N ((av e_v e_v (aH (by lia))).trans (Z6 (λ z=>some (D.int z)) hh))) (Zb rfl) rfl) ?_
  refine gD (dS (v_S ((av (av e_v Ua (aY (by decide) (by decide +kernel))) (av (a8 (af (av (aB rfl) e_v ix) aq) (KW _)) Ua (aU _ _)) (aH (by lia))).trans (Z6 (λ z=>some (D.int z)) hp)) rfl) (Zb rfl) rfl) ?_
  have hg:a6 (st (trM t.aj (M.length:Int) M) (rws M) (.shr (.int p)) y12 y13 y14) 7 ([]++[.i ((h:Int)).toNat])=some (lM (bx.r.map .int)):=by
   rw[mf rfl];exact Gg hbx
  refine gD (τ':=st (trM t.aj (M.length:Int) M) (rws (upR M (h:Int) (insI bx.r p (M.length:Int)))) (.shr (.int p)) y12 y13 y14) ((KG (Pd cq e_v rfl (by lia)) hg e_v (v_N e_v) rfl hg ⟨p0,by rw[Za,Za];lia,by rw[Za,Za];lia⟩).trans ?_) ?_
  ·rw [iD rfl,Fb]
   exact Z6 (λ z=>some (En.next (st (trM t.aj (M.length:Int) M) z (.shr (.int p)) y12 y13 y14))) (Gf T.ix hbx _)
  refine gD (τ':=st (trM t.aj (M.length:Int) M) (rws M1) (.shr (.int p)) y12 y13 y14) ((KL cq rfl (v_O (iy aq (Z0 _)) rfl) rfl rfl (by rw[Za,AD];lia)).trans ?_) ?_
  · exact Z6 (λ z=>some (En.next (st (trM t.aj (M.length:Int) M) z (.shr (.int p)) y12 y13 y14))) (Gh lh)
  refine gD (dS (v_N (av e_v (av (av e_v Ua (aY (by decide) (by decide +kernel))) Ua (aH (by decide))) enm)) (Zb rfl) rfl) ?_
  refine gD (mj (v_M cq rfl rfl (cS (q_N e_v) (cS (q_N e_v) (cS (q_N e_v) rfl))) rfl ePut rfl)) ?_
  refine gD (dS (v_N Ua) (Zb rfl) rfl) ?_
  refine Kv (λ τ=>∃ w:Str,τ=st (trM t.aj ((M.length:Int)+1) (stB M1 (M.length:Int) ⟨if w="" then [] else [w],.tup []⟩)) (rws M1) (.shr (.int p)) (.shr (.str nm)) (.shr (.str w)) y14) ?_ ?_
  ·by_cases hw:r / 1440 % 3 < 2
   ·obtain ⟨w,hwm,ew⟩:=kF (ws:=[c,d]) q0 hw
    have ow:bT w=true:=(show ∀ z ∈ ([c,d]:Ry Str),bT z=true by simpa using⟨hc,hd⟩) w hwm;have em:=Hc (t:=t) (gv:=(M.length:Int)+1) ix1.nd f1 ow (by show 0<1000;decide);refine⟨_,Dz ((t_S (aO (av (av (av e_v Ua (aY (by decide) (by decide +kernel))) Ua (aH (by decide))) Ua (pq _ _)))).trans (by rw[Zk hw])) (a7 (dS (v_N (av e_v (av (av e_v Ua (aY (by decide) (by decide +kernel))) Ua (aH (by decide))) ew)) (Zb rfl) rfl) (mj (v_M cq rfl rfl (cS (q_N e_v) (cS (q_N e_v) rfl)) rfl em rfl))),w,?_⟩;rw[if_neg (by rintro rfl;cases ow)];rfl
   ·refine ⟨_,pB ((t_S (aO (av (av (av e_v Ua (aY (by decide) (by decide +kernel))) Ua (aH (by decide))) Ua (pq _ _)))).trans (by rw [Zp hw])) rfl,"",?_⟩
    have:=oY ix1.nd f1;rw[if_pos rfl];show _=st (trM t.aj ((M.length:Int)+1) (stB M1 (M.length:Int) fo)) _ _ _ _ _;rw[this];rfl
  rintro _ ⟨w,rfl⟩
  have T':=HE T h5 (p:=p) (nm:=nm) (w:=w) lh hbx (by lia) ors;have l':(grow M (h:Int) p bx nm w rs).length=M.length+1:=by rw[T'.ln,Z5,<- T.ln];rfl
  let M2:=stB M1 (M.length:Int) ⟨if w="" then [] else [w],.tup []⟩
  have ix2:BIx M2:=ix1.map λ c=>by split<;>rfl
  have f2:fd M2 (M.length:Int)=some ⟨(M.length:Int),some (h:Int),nm,[],⟨if w="" then [] else [w],.tup []⟩⟩:=by
   rw[DZ,f1];exact Z6 some (if_pos rfl)
  have eD:=wa (t:=t) (gv:=(M.length:Int)+1) ix2.nd f2 rfl (by simp[okP,xl]) (vq ors) rfl (by show(stB _ _ _).length<1000;unfold stB;rw[Za,l1];lia);refine gD (dS (v_N (c7 (af e_v (af (av Ua (av Ua e_v (Ak (by decide) (by decide))) (aU _ _)) (af ((av (av e_v Ua (aY (by decide) (by decide +kernel))) Ua (aH (by decide))).trans (Z6 (λ z=>some (D.int z)) hmm)) (af e_v aq)))) ers rfl)) (Zb rfl) rfl) ?_
  refine gD (mj (v_M cq rfl rfl (cS (q_N e_v) (cS (q_N e_v) rfl)) rfl eD rfl)) ?_
  refine⟨_,(KL cq rfl (v_N (bV (af e_v (af e_v (af e_v aq))) (Zb rfl))) rfl rfl (by rw[Za,Za,<- T.ln];lia)).trans ?_,grow M (h:Int) p bx nm w rs,B++[⟨nm,w,rs⟩],.shr (.int (M.length:Int)),.shr (.int r),.shr (.int (h:Int)),.shr (.int p),.shr (.str nm),.shr (.str w),.shr (rwD rs),rfl,T',by lia⟩;rw[iD rfl];have eM3:stB M2 (M.length:Int) ⟨if w="" then [] else [w],rwD rs⟩=grow M (h:Int) p bx nm w rs:=FY _ _ _ _
  have eR:rws (grow M (h:Int) p bx nm w rs)=rws M1:=by
   show rws (stB M1 _ _)=_;unfold rws stB;rw[Yb];refine Z6 (Mt.n .l) (Z4 λ c _=>?_);simp only[Function.comp];split<;>rfl
  have eB:lM ((B++[(⟨nm,w,rs⟩:Bk)]).map Bk.D)=.n .l ((B.map Bk.D).map (λ d=>((.inl 0:Key),Mt.s d))++[(.inl 0,.s (.tup [.str nm,.str w,rwD rs]))]):=by
   unfold lM;rw[Zq,Zq];rfl
  rw[eR,eB,l',<- eM3]
  rfl) ?_
 · rw[show(1+hd0 % 6 - 1).toNat=m by lia]
 rintro _ ⟨M,B,y8,y9,y10,y11,y12,y13,y14,rfl,TT,lM'⟩
 exact⟨_,rfl,M,B,rfl,TT,by lia⟩
def rlM(R:Rs):Ry (Key×Mt):=R.map λ p=>(.inl p.1,.s p.2.D)
def shM(C:RB)(gv:Int)(R:Rs):Mt:=.n (.o C) [(.inr "given",.s (.int gv)),(.inr "rules",.n .d (rlM R))]
theorem vO:∀ R:Rs,lD (rlM R)=rlD R
 |[]=>by unfold rlM rlD;rw[We,lD];rfl
 |p::R=>by
  show lD ((.inl p.1,.s p.2.D)::rlM R)=_;rw[lD,xH,vO R];rfl
theorem Fi C gv R:frz (shM C gv R)=shD C gv R:=by
 unfold shM shD;rw[frz,Fj,Fj,Fj,xH,frz,vO];rfl
theorem yK{C}{gv}{R}{b}{r}:b6 (.mu b (shM C gv R)::r)=.shr (shD C gv R)::b6 r:=by
 show .shr (frz _)::b6 r=_;rw[Fi]
theorem Jc{px}{gk}{τ}{i}{q}{d d0}{k k'}{cs}(h1:px τ=some (i,q))(h2:gk (b6 τ)=some d)(h3:jn d=some k)(h4:a6 τ i q=some (.n .d cs))(h5:cs.find? (λ c=>decide (c.1=k))=some (k',.s d0)):D3 px gk τ=some (.shr d0,cX τ i q (.n .d (nW cs k))):=by
 unfold D3;simp only[h1,h2,h3,h4,Yi,h5]
section
variable{t:Adr}{gv:Int}{R:Rs}
theorem CF:dA t [.mu true (.n (.o t.aE) [])]=some (.shr .non,[.mu true (shM t.aE 0 [])]):=by
 unfold dA dw;refine(EF (τ:=[.mu true (shM t.aE 0 [])]) ?_).trans rfl;exact a7 (fO (v_N Ua) rfl (Zb rfl)) (fO rfl rfl (Zb rfl))
theorem F8(h:RIx R)(hl:R.length<=4){r}(hr:r.ok):gc t [.mu true (shM t.aE (R.length:Int) R),.shr r.D]=some (.shr (.int (R.length:Int)),[.mu true (shM t.aE ((R.length:Int)+1) (R++[((R.length:Int),r)])),.no]):=by
 obtain⟨⟨l0,l9⟩,⟨p0,p2⟩,_,_,ho⟩:=hr;have sn:∀{x:Sm},b6 [.mu true (shM t.aE (R.length:Int) R),.shr r.D,x]=.shr (shD t.aE (R.length:Int) R)::b6 [.shr r.D,x]:=yK
 unfold gc i7;refine(fE (τ:=[.mu true (shM t.aE ((R.length:Int)+1) (R++[((R.length:Int),r)])),.shr r.D,.shr (.int (R.length:Int))]) ?_).trans rfl;show jL _ _ [.mu true (shM t.aE (R.length:Int) R),.shr r.D,.no]=_;have e0:oLe (.int 0) (.int r.lay)=some (.bl true):=by show some (D.bl (decide _))=_;rw[Zk l0]
 have e9:oLe (.int r.lay) (.int 9)=some (.bl true):=by show some (D.bl (decide _))=_;rw[Zk l9]
 have el:vA [.tup (r.ps.map ptD)]=some (.int (r.ps.length:Int)):=by show some (D.int ((r.ps.map ptD).length:Nat))=_;rw[Za]
 have ez:oEq (.int (r.ps.length:Int)) (.int 0)=some (.bl false):=by rw[pz,Zp (by lia)]
 refine a7 (pB (t_S (by rw[sn];exact yE (kW (aO (v9 (av Ua (av e_v Ua (bS _ _)) e0) (av (av e_v Ua (bS _ _)) Ua e9)))) (λ _=>aO (av (a8 (af (av e_v Ua (cI _ _ _)) aq) el) Ua ez)) nofun)) rfl) ?_
 refine a7 (fL (by rw[sn];exact c7 (af (av e_v Ua (fj _ _ _ _)) aq) (sq ho) rfl)) ?_
 have ed:xt [.dct (rlD R)]=some (.int (R.length:Int)):=by show some (D.int ((rlD R).length:Nat))=_;unfold rlD;rw[Za]
 refine a7 (pB (t_S (by rw[sn];exact aO (av (av (a8 (af (gq e_v rfl) aq) ed) Ua (aU _ _)) Ua (HC (by lia))))) rfl) ?_
 refine a7 (dS (v_S (by rw[sn];exact gq e_v rfl) rfl) (Zb rfl) rfl) ?_
 refine a7 ((He (v_N (av e_v Ua (aU _ _))) cq rfl rfl (Zb rfl)).trans rfl) ?_
 refine a7 ((gj (v_N e_v) (lK cq rfl) e_v rfl rfl rfl (by unfold rlM;rw[Za];lia)).trans ?_) (mi (v_N e_v))
 have ep:ki (rlM R) (.inl (R.length:Int)) (.s r.D)=rlM (R++[((R.length:Int),r)]):=by
  unfold ki;rw[if_neg]
  · unfold rlM;rw[Zq];rfl
  ·intro z
   obtain⟨x,hx,e⟩:=Xv.mp z;obtain⟨q,hq,rfl⟩:=Ye.mp hx;obtain⟨j,hj⟩:=QP hq;have e:q.1=(R.length:Int):=by have:=Z1 e;injection this
   have:=(h j q hj).1;have:=(QB.mp hj).1
   lia
 rw[iD rfl,ep];rfl
theorem CH{p}(hp:p.1=0)(hR:∀ q ∈ R,q.1≠0):eW t [.mu true (shM t.aE gv (p::R)),.shr (.int 0)]=some (.shr p.2.D,[.mu true (shM t.aE gv R),.no]):=by
 have sn:b6 [.mu true (shM t.aE gv (p::R)),.shr (.int 0)]=.shr (shD t.aE gv (p::R))::b6 [.shr (.int 0)]:=yK
 have e1:gC (.int 0) (.dct (rlD (p::R)))=some (.bl false):=by
  show some (D.bl (!(du ((.inl p.1,p.2.D)::rlD R) (.inl 0)).isSome))=_;rw[yx (by rw[hp])];rfl
 unfold eW gW;refine(fE (τ:=[.mu true (shM t.aE gv R),.shr (.int 0)]) ?_).trans rfl;show jL _ _ [.mu true (shM t.aE gv (p::R)),.shr (.int 0)]=_
 refine a7 (fL (by
  rw[sn];refine dU (s:=.shr .non) e_v (af e_v aq) rfl ?_ rfl
  exact IJ (lP (aO (av e_v (gq e_v rfl) e1)) nofun λ _=>rfl))) (mi ?_)
 have hz:(rlM (p::R)).find? (λ c=>decide (c.1=.inl 0))=some (.inl p.1,.s p.2.D):=by
  show List.find? _ ((.inl p.1,.s p.2.D)::rlM R)=_;rw[QF,Zk (by rw[hp])]
 refine(Jc (lK cq rfl) e_v rfl rfl hz).trans ?_
 have ed:nW (rlM (p::R)) (.inl 0)=rlM R:=by
  show List.filter _ ((.inl p.1,.s p.2.D)::rlM R)=_;rw[Wd (by simp[hp])];refine List.filter_eq_self.mpr λ x hx=>?_
  obtain⟨q,hq,rfl⟩:=Ye.mp hx;exact Zk λ z=>hR q hq (by injection z)
 rw[iD rfl,ed];rfl
end
theorem Hh{M}{B}(T:LR M B){l:Nat}{k}{b}(hk:B[l]?=some k)(hb:fd M (l:Int)=some b):LR (stB M (l:Int) { b.m with ro:=.tup [] }) (B.set l ⟨k.n,k.w,[]⟩):=by
 refine⟨by rw[Wh];exact T.ln,λ j q hq=>?_⟩;rw[List.getElem?_set]at hq
 by_cases e:l=j
 ·subst e
  rw[if_pos rfl,if_pos (QB.mp hk).1]at hq;cases hq;obtain⟨d,d1,d2,d3,d4,d5⟩:=T.at_ l k hk;rw[hb]at d1;cases d1;exact⟨{ b with m:={ b.m with ro:=.tup [] } },by rw[DZ,hb];exact Z6 some (if_pos (L6 hb)),d2,d3,rfl,Z0 _,nofun⟩
 ·rw [if_neg e] at hq
  obtain⟨d,d1,d2⟩:=T.at_ j q hq;exact⟨d,by rw[DZ,d1];exact Z6 some (if_neg (by rw[L6 d1];lia)),d2⟩
theorem Oe R:dM (rlD R)=.n .d (rlM R):=by
 unfold dM rlD rlM;rw[Yb];rfl
theorem Hq{R}(h:wN R):((rlD R).map (·.1)).Nodup:=by
 unfold rlD;rw[Yb]
 exact Q4.mpr (h.pw.imp λ z e=>by
  have:(Sum.inl _:Key)=Sum.inl _:=e;injection this with this
  lia)
theorem JO{R}(h:wN R){q}(hq:q ∈ R):(Mt.n .d (rlM R)).get [.k (.inl q.1)]=some (.s q.2.D):=by
 rw[pV]
 have:∀ R:Rs,R.Pairwise (λ a b=>a.1<b.1)->q ∈ R->((rlM R).find? λ c=>decide (c.1=.inl q.1)).map (·.2)=some (.s q.2.D):=λ R=>by
  induction R with
  |nil=>intro _ h;cases h
  |cons p R ih=>
   intro pw hq;rw[Xx]at pw;show(List.find? _ ((.inl p.1,.s p.2.D)::rlM R)).map _=_;rw[QF];rcases Zi.mp hq with rfl|hq
   · rw[Zk rfl];rfl
   ·have:=pw.1 q hq
    rw[Zp λ z=>by injection z with z;lia];exact ih pw.2 hq
 exact this R h.pw hq
abbrev s10(ns:Ry Int)(N K:D)(near:Int)(T B:Mt)(x6:Sm)(S:Mt)(x8 x9:Sm):Ry Sm:=[.shr (scr ns),.shr N,.shr K,.shr (.int near),.mu false T,.mu false B,x6,.mu false S,x8,x9]
theorem Kz{i j}{F}{g}{τ}{ds}{x y}(h1:g (er τ)=some ds)(h2:F ds=some (x,y))(h3:i≠j/\i<τ.length/\j<τ.length):F9 i j F g τ=some (.next ((τ.set i x).set j y)):=by
 unfold F9;simp only[h1,h2,Yi];exact if_pos h3
theorem Pf{g}{τ}{ds}(h:g (er τ)=some (.dct ds))(nd:(ds.map (·.1)).Nodup):eOD g τ=some (.mu false (dM ds),τ):=by
 unfold eOD;rw[h];exact if_pos nd
theorem KI{f}{g}{b}{τ}{j}{r}(h:f τ=some (.shr (.int j),τ))(hb:-(2 ^ 62)<=j/\j<2 ^ 62)(h2:L2.forM (λ d τ=>(g d τ).bind b) (o8 0 j.toNat) τ=r):CM f g b τ=r:=by
 unfold CM;rw[h];exact(if_pos hb).trans h2
theorem KH{i}{f}{τ}{b}{cs}{o}(h:τ[i]?=some (.mu b (.n .d cs)))(h2:f (τ.set i (.shr (.dfz (lD cs))))=o):CL i f τ=o:=by
 unfold CL;rw[h];exact h2
theorem Pe{g}{τ}{as}{ds}(h:g τ=some as)(h2:unV as=some ds)(h3:ds.length<=100000):eTm g τ=some (.shr (.tup ds),τ):=by
 unfold eTm;simp only[h,h2,Yi];exact if_pos h3
theorem p6{t}{ns}{N K}{near gv n}{M}{B}{R}{x8 x9}(hB:LR M B)(hR:wN R):dFn (eU t) (aX (bf 4) (aX (bf 7) (aX (bf 6) (aX (bf 5) eF)))) (b6 (s10 ns N K near (trM t.aj gv M) (lM (B.map Bk.D)) (.shr (.dfz (rlD R))) (shM t.aE n R) x8 x9))=some (.bl true):=by
 refine c7 (af (aB ?_) (af (aB ?_) (af e_v (af (aB ?_) aq)))) (Ir (gv:=gv) (n:=n) hB hR) rfl
 ·show some (Sl.shr (frz (trM t.aj gv M)))=_
  rw[Fh]
 ·show some (Sl.shr (frz (shM t.aE n R)))=_
  rw[Fi]
 ·show some (Sl.shr (frz (lM (B.map Bk.D))))=_
  rw[kA]
theorem K0 t (ns:Ry Int):LQ t [.shr (.fz (ns.map .int))]=some (.shr (.bl true),[.no]):=by
 obtain⟨r1,e1,p1⟩:=gE ns (k:=1) (by decide);obtain⟨r2,e2,p2⟩:=gE ns (k:=2) (by decide);obtain⟨r0,e0,p0⟩:=gE ns (k:=0) (by decide);obtain⟨a,b,eab,ha,hb⟩:=yC p1;obtain⟨c,d,ecd,hc,hd⟩:=yC (t:=t) p2;have n0:=Z7 (r0 / 96) (b:=13) (by decide);generalize hn:r0 / 96 % 13=near at n0;obtain⟨M,B,eT,TT,l1⟩:=Jj (t:=t) ns ha hb hc hd n0;obtain⟨R,eR,l4,hR⟩:=Gi ns hc hd n0;have RO:=hR.ok l4
 obtain ⟨τ3,e3,x8,rfl⟩:=lE (b:=λ d τ=>(gNm 8 d τ).bind (qp (eM t.aE "add" (gc t) (nA 7) (sQ (qX (tE (nA 6) (bf 8))) Em))))
  (λ k τ=>∃ x8,τ=s10 ns (.lst [.str a,.str b]) (.lst [.str c,.str d]) near (trM t.aj (M.length:Int) M) (lM (B.map Bk.D)) (.mu false (.n .d (rlM R))) (shM t.aE (k:Int) (R.take k)) x8 .no) ⟨_,rfl⟩ (by
  rintro k d τ hdd ⟨x8,rfl⟩
  obtain⟨rfl,hk⟩:=fF hdd;rw[Wv];obtain⟨q,hq⟩:∃ q,R[k]?=some q:=⟨_,QA hk⟩
  have qi:=hR k q hq;have lk:(R.take k).length=k:=by rw[Yc];lia
  have hRk:RIx (R.take k):=λ j p hp=>by
   rw[List.getElem?_take]at hp;split at hp
   · exact hR j p hp
   · cases hp
  have ea:=F8 (t:=t) hRk (by lia) qi.2;rw[lk]at ea;refine⟨_,mj (v_M cq rfl rfl (cS (q_L (wQ cq e_v rfl rfl) ?_) rfl) rfl ea rfl),.shr (.int (k:Int)),?_⟩
  ·rw [mf rfl]
   have:=JO RO (QE hq);rw[qi.1]at this;exact this
  ·rw [Yu,hq,show (some q).toList=[((k:Int),q.2)] by rw [<- qi.1]; rfl]
   rfl)
 rw[jM,Yn]at e3;have fr:frz (.n .d (rlM R))=.dct (rlD R):=by rw[frz,vO]
 obtain⟨R',RO',eIf⟩:∃ R':Rs,wN R'/\IG (tS (Cg (dT (dOp oEq (dOp oMod (dOp oDiv (dFn cK (aX (bf 0) (aX (dC (.int 0)) eF))) (dC (.int 37440))) (dC (.int 3))) (dC (.int 1)))) (dT (dOp Cf (dC (.int 0)) (bf 6))))) (jL (qp (eM t.aE "drop" (eW t) (nA 7) (sQ (qN (dC (.int 0))) Em))) (CK (nA 6) (dC (.int 0)))) EC (s10 ns (.lst [.str a,.str b]) (.lst [.str c,.str d]) near (trM t.aj (M.length:Int) M) (lM (B.map Bk.D)) (.mu false (.n .d (rlM R))) (shM t.aE (R.length:Int) R) x8 .no)=some (.next (s10 ns (.lst [.str a,.str b]) (.lst [.str c,.str d]) near (trM t.aj (M.length:Int) M) (lM (B.map Bk.D)) (.mu false (.n .d (rlM R'))) (shM t.aE (R.length:Int) R') x8 .no)):=by
  have tt:tS (Cg (dT (dOp oEq (dOp oMod (dOp oDiv (dFn cK (aX (bf 0) (aX (dC (.int 0)) eF))) (dC (.int 37440))) (dC (.int 3))) (dC (.int 1)))) (dT (dOp Cf (dC (.int 0)) (bf 6)))) (s10 ns (.lst [.str a,.str b]) (.lst [.str c,.str d]) near (trM t.aj (M.length:Int) M) (lM (B.map Bk.D)) (.mu false (.n .d (rlM R))) (shM t.aE (R.length:Int) R) x8 .no)=some (decide (r0 / 37440 % 3=1)&&(du (rlD R) (.inl 0)).isSome,_):=t_S (Ex (aO (av (av (av (c7 (af e_v (af Ua aq)) e0 rfl) Ua (aY (by decide) (by decide +kernel))) Ua (aH (by decide))) Ua (pz _ _))) (aO (av Ua e_v (by rw[fr];rfl))))
  cases hb:decide (r0 / 37440 % 3=1)&&(du (rlD R) (.inl 0)).isSome with
  |false=>exact⟨R,RO,pB (tt.trans (by rw[hb])) rfl⟩
  |true=>
   rw[Yd]at hb
   cases R with
   |nil=>exact absurd hb.2 nofun
   |cons p R=>
    have hp:p.1=0:=(hR 0 p rfl).1;have pw:=Xx.mp RO.pw;have h0:∀ q ∈ R,q.1≠0:=λ q hq=>by have:=pw.1 q hq;lia
    have RO':wN R:=⟨by have:=RO.ln;rw[Z2]at this;lia,λ q hq=>RO.ok q (Zd _ hq),pw.2⟩
    have ed:nW (rlM (p::R)) (.inl 0)=rlM R:=by
     show List.filter _ ((.inl p.1,.s p.2.D)::rlM R)=_;rw[Wd (by simp[hp])];refine List.filter_eq_self.mpr λ x hx=>?_
     obtain⟨q,hq,rfl⟩:=Ye.mp hx;exact Zk λ z=>h0 q hq (by injection z)
    refine⟨R,RO',Dz (tt.trans (by rw[hb.1,hb.2];rfl)) (a7 (mj (v_M cq rfl rfl (cS (q_N Ua) rfl) rfl (CH hp h0) rfl)) ((Nz cq Ua rfl rfl ?_).trans ?_))⟩
    ·show List.any ((.inl p.1,.s p.2.D)::rlM R) _=true
     rw[Yz,Zk (by rw[hp])];rfl
    ·rw [ed]
     rfl
 obtain⟨k,hk⟩:∃ k,B[B.length - 1]?=some k:=⟨_,QA (by have:=TT.ln;lia)⟩
 obtain⟨bx,fb,bn,bk,bo,ol,oo⟩:=TT.bk.at_ _ k hk;have LO:=Hh TT.bk hk fb;have lB:=TT.ln;have l6:=TT.bk.ln;have eD:=wa (t:=t) (gv:=(M.length:Int)) (ys:=[]) TT.ix.nd fb bo (vq oo) (by simp[okP,xl]) (by rw[Bool.or_eq_true];exact .inr rfl) (by lia)
 have eL:vA [.lst (B.map Bk.D)]=some (.int (B.length:Int)):=by
  show some (D.int ((B.map Bk.D).length:Nat))=_;rw[Za]
 have el:((B.length:Int) - 1)=((B.length - 1:Nat):Int):=by lia
 have ixk:oIx (.lst (B.map Bk.D)) (.int ((B.length - 1:Nat):Int))=some k.D:=iW (by rw[QD,hk];rfl);unfold LQ IB;refine(fE (τ:=s10 ns (.lst [.str a,.str b]) (.lst [.str c,.str d]) near (trM t.aj (M.length:Int) (stB M ((B.length - 1:Nat):Int) { bx.m with ro:=.tup [] })) (lM ((B.set (B.length - 1) ⟨k.n,k.w,[]⟩).map Bk.D)) (.shr (.dfz (rlD R'))) (shM t.aE (R.length:Int) R') x8 (.shr (.int ((B.length - 1:Nat):Int)))) ?_).trans rfl;refine a7 (dS (v_N (c7 (af (c7 (af e_v (af Ua aq)) e1 rfl) aq) eab rfl)) (Zb rfl) rfl) ?_
 refine a7 (dS (v_N (c7 (af (c7 (af e_v (af Ua aq)) e2 rfl) aq) ecd rfl)) (Zb rfl) rfl) ?_
 refine a7 (dS (v_N ((av (av (c7 (af e_v (af Ua aq)) e0 rfl) Ua (aY (by decide) (by decide +kernel))) Ua (aH (by decide))).trans (Z6 (λ z=>some (D.int z)) hn))) (Zb rfl) rfl) ?_
 refine a7 (Kz (af e_v (af e_v (af e_v (af e_v aq)))) eT ⟨by decide,Zb rfl,Zb rfl⟩) ?_
 refine a7 (dS ((Pf (xS (af e_v (af e_v (af e_v (af e_v aq)))) eR rfl) (Hq RO)).trans (by rw[Oe])) (Zb rfl) rfl) ?_
 refine a7 (dS (v_K rfl rfl CF rfl) (Zb rfl) rfl) ?_
 refine a7 (KI (j:=(R.length:Int)) (v_S (a8 (af (aB (d:=frz (.n .d (rlM R))) rfl) aq) ?_) rfl) (by lia) e3) ?_
 ·rw [fr]
  show some (D.int ((rlD R).length:Nat))=_;unfold rlD;rw[Za]
 refine a7 eIf ?_
 refine a7 (τ':=s10 ns (.lst [.str a,.str b]) (.lst [.str c,.str d]) near (trM t.aj (M.length:Int) M) (lM (B.map Bk.D)) (.shr (.dfz (rlD R'))) (shM t.aE (R.length:Int) R') x8 .no) (KH rfl ?_) ?_
 ·rw [vO]
  exact pB (t_S (yE (kW (aO (p6 TT.bk RO'))) (λ _=>kW (b:=true) (aO (p6 TT.bk RO'))) nofun)) rfl
 refine a7 (dS (v_S ((av (a8 (af e_v aq) (by rw[kA];exact eL)) Ua (ji _ _)).trans (Z6 (λ z=>some (D.int z)) el)) rfl) (Zb rfl) rfl) ?_
 refine a7 (mj (v_M cq rfl rfl (cS (q_N e_v) (cS (q_N (bV aq (Z0 _))) rfl)) rfl eD rfl)) ?_
 refine a7 ((KA (Pe (cS (q_S (av (av (aB (d:=frz (lM (B.map Bk.D))) rfl) e_v (by rw[kA];exact ixk)) Ua (bS _ _)) rfl) (cS (q_S (av (av (aB (d:=frz (lM (B.map Bk.D))) rfl) e_v (by rw[kA];exact ixk)) Ua (cI _ _ _)) rfl) (cS (q_N (bV aq (Z0 _))) rfl))) rfl (Zb rfl)) cq e_v rfl rfl ⟨by lia,by rw[Za,Za];lia⟩).trans ?_) (mi (v_S (p6 LO RO') rfl));rw[iD rfl]
 have eB:lM ((B.set (B.length - 1) ⟨k.n,k.w,[]⟩).map Bk.D)=.n .l (((B.map Bk.D).map λ d=>((.inl 0:Key),Mt.s d)).set (B.length - 1) (.inl 0,.s (.tup [.str k.n,.str k.w,.tup []]))):=by
  unfold lM;rw[List.map_set,List.map_set];rfl
 rw[eB];rfl
end N24
end
section
namespace L2
open PySem PySem.Spec PySem.W PyProof.Rows
def HV(Pt:RB)(K:RC):RC:=K.filter λ p=>!(p.1 == Pt)
theorem ie {Pt a:RB} (h:a≠Pt):∀ K:RC,List.lookup a (HV Pt K)=List.lookup a K
 |[]=>rfl
 |(b,o)::K=>by
  have ih:=ie h K;unfold HV at *
  cases q:b == Pt with
  |true=>
   have e:b=Pt:=eq_of_beq q;rw[Wd (by simp[q]),ih,Y0];have ne:(a == b)=false:=Yk.mpr λ z=>h (z.trans e)
   rw[ne]
  |false=>
   rw[List.filter_cons_of_pos (by simp[q]),Y0,Y0,ih]
theorem wo {Pt:RB}:∀ K:RC,List.lookup Pt (HV Pt K)=none
 |[]=>rfl
 |(b,o)::K=>by
  have ih:=wo (Pt:=Pt) K;unfold HV at *
  cases q:b == Pt with
  |true=>rw[Wd (by simp[q])];exact ih
  |false=>
   rw[List.filter_cons_of_pos (by simp[q]),Y0,ih];have ne:(Pt == b)=false:=Yk.mpr λ z=>by rw[z,beq_self_eq_true]at q;cases q
   rw[ne]
theorem Ft{Pt:RB}{K:RC}{h:Heap}(k:K.In h):(HV Pt K).In h:=λ b o e=>by
 by_cases z:b=Pt
 · rw[z,wo]at e;cases e
 · rw[ie z]at e;exact k b o e
section
variable{K:RC}{Pt:RB}
noncomputable def codeHdIn(K:RC)(cd:RA)(P:RB):Bool:=match cd with
 |.ref c=>(match K.lookup c with
  |some ⟨.type n,_,.fields vs,_⟩=>n == "code"&&(match(vs[11]?:Rz RA) with|some (Value.ref p)=>p == P|_=>false)&&(match vs.getD 18 .none with|.str _ _=>true|_=>false)&&(match vs.getD 7 .none with|.int _ _=>true|_=>false)&&(match vs.getD 9 .none with|.bool _=>true|_=>false)&&(match vs.getD 10 .none with|.int _ _=>true|_=>false)&&!(c == P)
  |_=>false)
 |_=>false
theorem BI{cd:RA}{P:RB}(e:codeHdIn K cd P=true):∃ c,cd=.ref c/\∀ h,(HV P K).In h->CodeHd h c P:=by
 unfold codeHdIn at e;split at e
 ·rename_i c
  split at e
  ·rename_i n od vs sl hl
   simp only[Yd,Xj]at e;obtain⟨⟨⟨⟨⟨⟨e1,e2⟩,e3⟩,e4⟩,e5⟩,e6⟩,e7⟩:=e;have en:n="code":=eq_of_beq e1;have ne:c≠P:=λ z=>by rw[z,beq_self_eq_true]at e7;cases e7
   have v11:vs[11]?=some (.ref P):=by
    split at e2
    · rename_i p hp;rw[hp,eq_of_beq e2]
    · cases e2
   split at e3
   ·rename_i f1 t1 h18
    split at e4
    ·rename_i f2 t2 h7
     split at e5
     ·rename_i f3 h9
      split at e6
      ·rename_i f4 t4 h10
       refine⟨c,rfl,λ h k=>⟨_,vs,f1,t1,f2,t2,f3,f4,t4,k c _ ((ie ne K).trans hl),by rw[en],rfl,v11,by rw[QO,v11];rfl,h18,h7,h9,h10,ne⟩⟩
      · cases e6
     · cases e5
    · cases e4
   · cases e3
  · cases e
 · cases e
theorem BJ{c P:RB}(e:codeHdIn K (.ref c) P=true):∃ o vs,K.lookup c=some o/\o.cls=.type "code"/\o.data=.fields vs/\vs[11]?=some (.ref P):=by
 unfold codeHdIn at e;simp only at e;split at e
 ·rename_i n od vs sl hl
  simp only[Yd,Xj]at e;obtain⟨⟨⟨⟨⟨⟨e1,e2⟩,e3⟩,e4⟩,e5⟩,e6⟩,e7⟩:=e;have en:n="code":=eq_of_beq e1;refine⟨_,vs,hl,by rw[en],rfl,?_⟩;split at e2
  · rename_i p hp;rw[hp,eq_of_beq e2]
  · cases e2
 · cases e
def Me(K:RC)(bm P:RB):Bool:=match K.lookup bm with
 |some ⟨.type n,some ns,.plain,_⟩=>n == "module"&&ns == builtinsNs&&!(bm == builtinsNs)&&!(bm == mainGlobals)&&!(bm == P)
 |_=>false
theorem Oo{bm P:RB}{mg:Str->Rz RA}(e:Me K bm P=true)(m:mg "__builtins__"=some (.ref bm)):∀ h,(HV P K).In h->h.BuiltinsAt mg P:=by
 unfold Me at e;split at e
 ·rename_i n ns sl hl
  simp only[Yd,Xj,Yk]at e;obtain⟨⟨⟨⟨e1,e2⟩,e3⟩,e4⟩,e5⟩:=e;have en:n="module":=eq_of_beq e1;have e2':ns=builtinsNs:=eq_of_beq e2;exact λ h k=>⟨bm,_,m,e3,e4,e5,k bm _ ((ie e5 K).trans hl),by rw[en],by rw[e2'],rfl⟩
 · cases e
end
def Iy(Pt:RB)(q:Str)(p:Pos)(H:Hp):Prop:=H Pt=some (gtO q p)/\∀ b,b≠Pt->H b=none\/∃ o xs,H b=some (.frz o (.lst xs))
theorem AJ {P:Program} {w:World} {K:RC} {mg mb:Str->Rz RA} {CX:CXT} {k:Nat} {fa a Pt:RB} {q0:Str} {p0:Pos} {fd:FuncData} {x:Str} {sp:Sp} {s₁:RD} {vs:Ry RA} {ns:Ry Int}
  (KX:K.In s₁.heap) (hT:s₁.heap.get? Pt=some (tabObj #[])) (hTK:K.lookup Pt=none) (hTc:isCodeTable s₁.heap Pt) (hns:s₁.heap.Ns mainGlobals mg) (hb:s₁.heap.Ns builtinsNs mb) (hbb:∀ x:Str,x≠"__name__"->mb x=bootBuiltins x) (hlim:s₁.heap.NoLimit) (hg:s₁.gens=#[])
  (ha:s₁.heap.get? a=some { cls:=.type "list",data:=.seq vs.toArray }) (hi:IntsAre vs ns) (hl:ns.length<=sizeLine) (hr:cp k callerA)
  (F:∀ base:Heap,K.In base->base.Ns mainGlobals mg->ir P w K mg base CX k fa fd [x] sp) (hbind:∀(s:RD) (u:RA),BindsTo s fd ⟨[u],[]⟩ [(x,u)])
  (hsp:∀ H:Hp,Iy Pt q0 p0 H->SqL K H a (ns.map V.int)->sp [.ref a] H (λ v _=>v=.bl true) λ _ _ _=>False)
  (hCX:∀ H e s',CX [] H s₁ (λ _ _ _=>False) e s'->False):codeAny (model P w) callerA (.call (.ref fa) ⟨[.ref a],[]⟩) (λ r s'=>r=.ok (.ret (.bool true))/\OldK s₁.heap s'.heap/\s'.os=s₁.os/\AllBare s'.gens) s₁:=by
 have rv:=lL hi;have lenV:=hi.length;have aP:a≠Pt:=λ z=>by rw[z,hT]at ha;cases ha
 have core:∀ H:Hp,Iy Pt q0 p0 H->SqL K H a (ns.map V.int)->HOk P w H s₁.heap->(∀ b,H b≠none->b=a\/b=Pt)->(H a≠none->K.lookup a=none)->codeAny (model P w) callerA (.call (.ref fa) ⟨[.ref a],[]⟩) (λ r s'=>r=.ok (.ret (.bool true))/\OldK s₁.heap s'.heap/\s'.os=s₁.os/\AllBare s'.gens) s₁:=by
  intro H hO hS hok hA hK;have base_of:∀{b:RB} {o:Obj},s₁.heap.get? b=some o->H b=none->(DU s₁.heap H).get? b=some o:=λ e n=>DR e n
  have noA:∀{b:RB} {o:Obj} {es:Array DictEntry} {ep:Nat},s₁.heap.get? b=some o->o.data=.dict es ep->H b=none:=λ{b o es ep} e d=>by
   cases q:H b with
   |none=>rfl
   |some u=>
    rcases hA b (by rw[q];simp) with e'|e'
    ·subst e'
     rw[ha]at e;cases e
     have d':Data.seq vs.toArray _=Data.dict es ep:=d;cases d'
    ·subst e'
     rw[hT]at e;cases e
     have d':Data.fields _=Data.dict es ep:=d;cases d'
  have nsK:∀{b:RB} {m:Str->Rz RA},s₁.heap.Ns b m->(DU s₁.heap H).Ns b m:=λ{b m} ⟨o,es,ep,e,d,r⟩=>⟨o,es,ep,base_of e (noA e d),d,r⟩
  have hKb:K.In (DU s₁.heap H):=λ b o e=>base_of (KX b o e) (by
   cases q:H b with
   |none=>rfl
   |some u=>
    rcases hA b (by rw[q];simp) with e'|e'
    ·subst e'
     rw[hK (by rw[q];simp)]at e;cases e
    ·subst e'
     rw[hTK]at e;cases e)
  have hM:Mod K mg (DU s₁.heap H):=⟨hKb,nsK hns,⟨mb,nsK hb,hbb⟩,let ⟨mc,h1,h2⟩:=hlim;⟨mc,nsK h1,h2⟩⟩
  have e0:Cj P w K mg (DU s₁.heap H) callerA [] s₁ H:=⟨rfl,hM,λ b o e=>G4 e,Xr (A5 _ _),trivial,λ b hb=>absurd (show b ∈ ([]:Ry RB) from hb) (by simp),hok,.of_eq hg⟩
  refine codeAny_mono ((F _ hKb (nsK hns)).run callerA [] s₁ H ⟨[.ref a],[]⟩ [.ref a] [.ref a] _ _ hr e0 (hbind s₁ (.ref a)) (.cons rfl .nil) (hsp H hO hS)) λ r s' h=>?_
  cases r with
  |error e=>exact(hCX H e s' h).elim
  |ok fl=>
   cases fl with
   |next=>exact False.elim h
   |brk=>exact False.elim h
   |cont=>exact False.elim h
   |ret u=>
    obtain⟨v,H',os,bare,un,hok',r',q⟩:=h;have q':v=.bl true:=q;subst q';obtain rfl:u=Value.bool true:=r';refine⟨rfl,⟨λ b o e=>?_,λ b o e=>un.there b o e (by simp)⟩,os,bare⟩
    by_cases hP:b=Pt
    ·subst hP
     have z:=un.vN b _ _ hO.1;obtain⟨more,z2,_⟩:=Ll (hok' b _ z);rw[hT]at e;cases e;exact .inr (.inl ⟨hTc,rfl,#[],more,rfl,by rw[Array.empty_append];exact z2⟩)
    ·refine .inl ?_
     cases q:H b with
     |none=>exact un.keep b o e q (by intro z;exact absurd (show b ∈ ([]:Ry RB) from z) (by simp)) (by simp)
     |some u=>
      rcases hO.2 b hP with z|⟨ob,xs,z⟩
      · rw[q]at z;cases z
      ·have z2:=un.vN b ob _ z
       obtain⟨e1,_⟩:=hok b _ z;obtain⟨e2,_⟩:=hok' b _ z2;rw[e]at e1;cases e1
       exact e2
 cases hk:K.lookup a with
 |some o=>
  have e:=KX a o hk;rw[ha]at e;cases e;refine core (λ b=>if b=Pt then some (gtO q0 p0) else none) ⟨if_pos rfl,λ b hb=>.inl (if_neg hb)⟩ (.inr ⟨_,vs.toArray,_,hk,rfl,rfl,rfl,by rw[Zs,lenV];exact hl,by simpa using rv⟩) (λ b u z=>?_) (λ b z=>?_) λ z=>absurd (if_neg aP) z
  ·by_cases hb:b=Pt
   ·have z':=(if_pos hb).symm.trans z
    cases z';subst hb;exact⟨q0,p0,#[],rfl,hT,trivial,.inl rfl⟩
   ·have z':=(if_neg hb).symm.trans z
    cases z'
  ·by_cases hb:b=Pt
   · exact .inr hb
   · exact absurd (if_neg hb) z
 |none=>
  refine core (λ b=>if b=Pt then some (gtO q0 p0) else if b=a then some (.frz { cls:=.type "list",data:=.seq vs.toArray } (.lst (ns.map V.int))) else none) ⟨if_pos rfl,λ b hb=>?_⟩ (.inl (.inr ⟨{ cls:=.type "list",data:=.seq vs.toArray },(if_neg aP).trans (if_pos rfl)⟩)) (λ b u z=>?_) (λ b z=>?_) λ _=>hk
  ·by_cases ha':b=a
   · exact .inr ⟨_,_,(if_neg hb).trans (if_pos ha')⟩
   · exact .inl ((if_neg hb).trans (if_neg ha'))
  ·by_cases hb:b=Pt
   ·have z':=(if_pos hb).symm.trans z
    cases z';subst hb;exact⟨q0,p0,#[],rfl,hT,trivial,.inl rfl⟩
   ·have z1:=(if_neg hb).symm.trans z
    by_cases ha':b=a
    ·have z':=(if_pos ha').symm.trans z1
     cases z';subst ha';exact⟨ha,by rw[Za];exact hl,vs,_,rv,ha⟩
    ·have z':=(if_neg ha').symm.trans z1
     cases z'
  ·by_cases hb:b=Pt
   · exact .inr hb
   ·by_cases ha':b=a
    · exact .inl ha'
    · exact absurd ((if_neg hb).trans (if_neg ha')) z
theorem Cn {l:PySem.W.OpenLaw} {n k:Nat} {q:Program} {loose:Ry Str} {XP:(Str->Rz RA)->Heap->Prop} {d:DefRec} {K Kc:RE->RC} {CX:CXT} {sp:RC->Sp} {x:Str} {Pt c:RB} {q0:Str} {p0:Pos}
    (hn:l.most=some n) (hn2:n<=sizeLine) (hdf:d.params.defaults=[]) (hr:cp k callerA)
    (hc:∀ P b o,List.lookup b (Kc P)=some o->List.lookup b (K P)=some o) (hPt:∀ P,List.lookup Pt (K P)=some (tabObj #[])/\List.lookup Pt (Kc P)=none/\∃ o vs,List.lookup c (K P)=some o/\o.cls=.type "code"/\o.data=.fields vs/\vs[11]?=some (.ref Pt))
    (F : ∀(w:World) (mg:Str->Rz RA) (fa:RB) (h:Heap),(Kc w.params).In h->h.Ns mainGlobals mg->mg d.name=some (.ref fa)->∃ fd:FuncData,(∀(s:RD) (u:RA),BindsTo s fd ⟨[u],[]⟩ [(x,u)])/\∀ base:Heap,(Kc w.params).In base->base.Ns mainGlobals mg->ir l.prog w (Kc w.params) mg base CX k fa fd [x] (sp (Kc w.params)))
    (hsp:∀(K:RC) (H:Hp) (a:RB) (ns:Ry Int),ns.length<=n->Iy Pt q0 p0 H->SqL K H a (ns.map V.int)->sp K [.ref a] H (λ v _=>v=.bl true) λ _ _ _=>False)
    (hCX:∀(H:Hp) (s:RD) (e:RA) (s':RD),CX [] H s (λ _ _ _=>False) e s'->False):PySem.W.WalkO q loose XP (PySem.W.InK K) l.row.toRowW d [] (λ f vs=>PySem.call f vs):=by
  refine Att.uA hn hdf λ w s₀ s₁ mg mb fa o pm cd doc a vs ns G Y ho hd hcd hmg hobj hints hlen hg=>?_
  have KX:(K w.params).In s₁.heap:=Y;have KC:(Kc w.params).In s₁.heap:=λ b o e=>KX b o (hc _ b o e)
  obtain⟨fd,hb,hF⟩:=F w mg fa _ KC G.T.g hmg;obtain⟨h1,h2,oc,vc,e1,e2,e3,e4⟩:=hPt w.params;exact AJ KC (KX _ _ h1) h2 ⟨c,oc,vc,KX _ _ e1,e2,e3,e4⟩ G.T.g G.T.b G.T.builtins G.T.nolimit hg hobj hints (Zu hlen hn2) hr hF hb (λ H hO hS=>hsp _ H a ns hlen hO hS) λ H e s'=>hCX H s₁ e s'
end L2
end
section
namespace L2
open PySem PySem.W PyProof.Rows
section
variable{K:RC}{x:Str}{st:Stmt}{f c bm Pt:RB}{h:Heap}{mg:Str->Rz RA}{ps:Ry Str}{od an:Rz RB}{sl:Array (Rz RA)}{oc kV dc pm ct:RA}
theorem LD (a:nsIn K mainGlobals x=some (some (.ref f))) (l:K.lookup f=some ⟨oc,od,.func (fnOf x x (b9 st) (bh st) (aG st) .none kV dc pm an (.ref c) ct),sl⟩) (cc:codeIn K (.ref c) x=true) (k:keepIn K (.ref f)=true) (m:nsIn K mainGlobals "__builtins__"=some (some (.ref bm))) (X:K.In h) (G:h.Ns mainGlobals mg)
  (hb:∀ kV doc pm an cdv ct us,us.length=ps.length->bindArgs (fnOf x x (b9 st) (bh st) (aG st) .none kV doc pm an cdv ct) ⟨us,[]⟩=pure (ps.zip us)) (hc:codeHdIn K (.ref c) Pt=true) (hm:Me K bm Pt=true) (pg:mainGlobals≠Pt):DfC K mg x st ps Pt:=by
 obtain⟨c',e,H⟩:=BI hc;cases e;exact⟨⟨_,_,c,jq (st:=st) l cc k,mg_of X G a,(jq (st:=st) l cc k).binds hb,rfl,λ h kk=>H h (Ft kk)⟩,pg,λ h kk=>Oo hm (mg_of X G m) h (Ft kk)⟩
theorem lk1{K:RC}{a}{x}(ha:K.lookup a=none):∀ k o,List.lookup k K=some o->List.lookup k ((a,x)::K)=some o:=λ k o e=>by
 rw[Y0];have:(k == a)=false:=Yk.mpr λ z=>by rw[z,ha]at e;cases e
 rw[this];exact e
end
end L2
end
section
namespace N24
open PySem L2 PySem.W PyProof.Rows
section
variable{P:Program}{w:World}{K:RC}{mg:Str->Rz RA}{base:Heap}{t:Adr}
def Ez(p:RB)(K:RC):Sp:=λ vs H Q _=>∃(a:RB) (ns:Ry Int),vs=[.ref a]/\H p=some (gtO qL pL)/\SqL K H a (ns.map V.int)/\ns.length<=63/\∀ H',Q (.bl true) H'
theorem G3{p:RB}{a d}(T:Txt w K mg t)(hp:t.b5=p)(F:Fun K "law" "law" (Uc 80) a d):ir P w K mg base CX0 19 a d ["_law_script"] (Ez p K):=by
 refine((IB t).2 T F).imp λ vs H Q E h=>?_
 obtain⟨a,ns,rfl,hP,hS,h63,k⟩:=h;subst hp;refine⟨hP,H,[],[.shr (.fz (ns.map .int))],.shr (.bl true),[.no],(λ _ _ h=>h),.shr (.fz hS (Rps.ints ns)) .nil,K0 t ns,λ v Hs' H' fp' g st=>?_⟩
 cases st with
 |shr h _=>cases h;exact k H'
end
end N24
end
section
namespace L2
open PySem PySem.W PyProof.Rows
section
variable{K:RC}{x q:Str}{st:Stmt}{Pt C:RB}{h:Heap}{mg:Str->Rz RA}{ps:Ry Str}
def gA(K:RC)(x:Str):RB:=match nsIn K mainGlobals x with
 |some (some (.ref a))=>a
 |_=>0
def fA(K:RC)(C:RB)(x:Str):RB:=match findIn K (.ref C) x with
 |some (some (.ref a))=>a
 |_=>0
def mO(K:RC)(a:RB):RA:=match K.lookup a with
 |some ⟨_,_,.func d,_⟩=>d.pyModule
 |_=>.none
abbrev oK(K:RC)(x q:Str)(st:Stmt)(a:RB):Obj:=⟨.type "function",none,.func (fnOf x q (b9 st) (bh st) (aG st) .none .none .none (mO K a) none (.ref (a - 1)) .none),⟨[]⟩⟩
abbrev gK(K:RC)(x:Str)(st:Stmt):Prop:=(nsIn K mainGlobals x,K.lookup (gA K x),codeIn K (.ref (gA K x - 1)) x,keepIn K (.ref (gA K x)))=(some (some (.ref (gA K x))),some (oK K x x st (gA K x)),true,true)
abbrev hB(x q:Str)(st:Stmt)(ps:Ry Str):Prop:=∀(kV doc pm:RA) (an:Rz RB) (cdv ct:RA) (us:Ry RA),us.length=ps.length->bindArgs (fnOf x q (b9 st) (bh st) (aG st) .none kV doc pm an cdv ct) ⟨us,[]⟩=pure (ps.zip us)
theorem gK.fn(e:gK K x st):Fn0 K x st (gA K x):=
 have⟨e1,e2⟩:=Prod.mk.inj e;have⟨e2,e3⟩:=Prod.mk.inj e2;have⟨e3,e4⟩:=Prod.mk.inj e3
 ⟨_,_,_,_,_,_,_,_,_,e1,e2,e3,e4⟩
def HN(X:K.In h)(G:h.Ns mainGlobals mg)(e:gK K x st)(hb:hB x x st ps):Df K mg x st ps:=e.fn.df X G hb
theorem LZ(e:(findIn K (.ref C) x,isFn K (.ref (fA K C x)),K.lookup (fA K C x),codeIn K (.ref (fA K C x - 1)) q,keepIn K (.ref (fA K C x)))=(some (some (.ref (fA K C x))),true,some (oK K x q st (fA K C x)),true,true))(hb:hB x q st ps):Mf K C x q st ps:=
 have⟨e1,e2⟩:=Prod.mk.inj e;have⟨e2,e3⟩:=Prod.mk.inj e2;have⟨e3,e4⟩:=Prod.mk.inj e3;have⟨e4,e5⟩:=Prod.mk.inj e4
 Nx e1 e2 e3 e4 e5 hb
theorem O0(e:(findIn K (.ref C) "__init__",isFn K (.ref (fA K C "__init__")),K.lookup (fA K C "__init__"),codeIn K (.ref (fA K C "__init__" - 1)) q,keepIn K (.ref (fA K C "__init__")),makesIn K C,keepIn K (.ref C))=(some (some (.ref (fA K C "__init__"))),true,some (oK K "__init__" q st (fA K C "__init__")),true,true,true,true))(hb:hB "__init__" q st ps):If K C q st ps:=
 have⟨e1,e2⟩:=Prod.mk.inj e;have⟨e2,e3⟩:=Prod.mk.inj e2;have⟨e3,e4⟩:=Prod.mk.inj e3;have⟨e4,e5⟩:=Prod.mk.inj e4;have⟨e5,e6⟩:=Prod.mk.inj e5;have⟨e6,e7⟩:=Prod.mk.inj e6
 NS e1 e2 e3 e4 e5 e6 e7 hb
theorem P7{y:Str}(X:K.In h)(G:h.Ns mainGlobals mg)(e:gK K x st)(hb:∀(kV doc pm:RA) (an:Rz RB) (cdv ct:RA) (s:RD) (u:RA),BindsTo s (fnOf x x (b9 st) (bh st) (aG st) .none kV doc pm an cdv ct) ⟨[u],[]⟩ [(y,u)]):Lf K mg x st y:=NB e.fn X G hb
theorem N9(X:K.In h)(G:h.Ns mainGlobals mg)(e:gK K x st)(m:(nsIn K mainGlobals "__builtins__",codeHdIn K (.ref (gA K x - 1)) Pt,Me K (gA K "__builtins__") Pt)=(some (some (.ref (gA K "__builtins__"))),true,true))(pg:mainGlobals≠Pt)(hb:hB x x st ps):DfC K mg x st ps Pt:=
 have⟨e1,e2⟩:=Prod.mk.inj e;have⟨e2,e3⟩:=Prod.mk.inj e2;have⟨e3,e4⟩:=Prod.mk.inj e3;have⟨m1,m2⟩:=Prod.mk.inj m;have⟨m2,m3⟩:=Prod.mk.inj m2
 LD e1 e2 e3 e4 m1 X G hb m2 m3 pg
theorem H9(e:(plainGet K C Str.empty,hasDictIn K C,plainOver K C,findIn K (.ref C) "__setattr__")=(true,true,true,some (some (.builtin "object.__setattr__")))):Cls K C:=
 have⟨e1,e2⟩:=Prod.mk.inj e;have⟨e2,e3⟩:=Prod.mk.inj e2;have⟨e3,e4⟩:=Prod.mk.inj e3
 ⟨e1,e2,e3,e4⟩
def tA(K:RC)(x:Str):Tok:=match nsIn K mainGlobals x with
 |some (some (.int _ t))=>t
 |_=>0
theorem O1{i:Int}(X:K.In h)(G:h.Ns mainGlobals mg)(e:nsIn K mainGlobals x=some (some (.int i (tA K x)))):Ic mg x i:=⟨_,mg_of X G e⟩
noncomputable def vS:Ry RA->Rz (Ry Str)
 |[]=>some []
 |.str s _::r=>(vS r).map (s::·)
 |_=>none
def sOf(K:RC)(a:RB):Rz (Ry Str):=match K.lookup a with
 |some ⟨c,_,.seq a _,_⟩=>if c=.type "tuple"/\a.size<=sizeLine then vS a.toList else none
 |_=>none
theorem OC:∀ {l:Ry RA} {xs:Ry Str},vS l=some xs->bQ (xs.map V.str) l
 |[],_,e=>by cases e;exact .nil
 |.str s t::r,_,e=>by
  obtain⟨ys,e1,rfl⟩:=Zm e;exact .cons ⟨_,rfl⟩ (OC e1)
theorem JL {H:Hp}:∀ xs:Ry Str,Rps K H (xs.map V.str) (xs.map D.str)
 |[]=>.nil
 |x::r=>.cons (.str x) (JL r)
theorem ON{a:RB}{xs:Ry Str}(e:sOf K a=some xs)(H:Hp):Rp K H (.ref a) (.tup (xs.map .str)):=by
 unfold sOf at e;split at e
 ·split at e
  · exact .tup (.inr ⟨_,_,_,‹_›,And.left ‹_›,rfl,And.right ‹_›,OC e⟩) (JL xs)
  · cases e
 · cases e
theorem L3{xs:Ry Str}(X:K.In h)(G:h.Ns mainGlobals mg)(e:(nsIn K mainGlobals x,sOf K (gA K x))=(some (some (.ref (gA K x))),some xs)):Kc K mg x (.tup (xs.map .str)):=
 have⟨e1,e2⟩:=Prod.mk.inj e
 ⟨_,mg_of X G e1,ON e2⟩
def dO(K:RC)(a:RB):Ry DictEntry×Nat:=match K.lookup a with
 |some ⟨_,_,.dict ⟨es⟩ n,_⟩=>(es,n)
 |_=>([],0)
def eKq (K:RC):DictEntry->Int×Rz Str×Rz (Ry Str)
 |⟨h,.str y _,.ref a⟩=>(h,some y,sOf K a)
 |_=>(0,none,none)
theorem O2 {w:World}:∀ {es:Ry DictEntry} {l:Ry (Str×Ry Str)},es.map (eKq K)=l.map (λ p=>(PyData.keyHash w.params p.1,some p.1,some p.2))->KEs w K es (l.map λ p=>(p.1,.tup (p.2.map .str)))
 |[],[],_=>.nil
 |e::es,p::l,z=>by
  have z1:=(List.cons.inj z).1;have ih:=O2 (List.cons.inj z).2;unfold eKq at z1;split at z1
  ·obtain ⟨a,z1⟩:=Prod.mk.inj z1
   obtain⟨b,c⟩:=Prod.mk.inj z1;cases b;exact .cons (v:=.ref _) a rfl (ON c) ih
  · cases(Prod.mk.inj (Prod.mk.inj z1).2).1
theorem Qa{w:World}{g:RB}{l:Ry (Str×Ry Str)}(X:K.In h)(G:h.Ns mainGlobals mg)(m:nsIn K mainGlobals x=some (some (.ref g)))(L:K.lookup g=some ⟨.type "dict",none,.dict ⟨(dO K g).1⟩ (dO K g).2,#[]⟩)(hn:((l.map λ p=>(p.1,D.tup (p.2.map .str))).map λ p=>(Sum.inr p.1:Key)).Nodup)(k:(dO K g).1.map (eKq K)=l.map λ p=>(PyData.keyHash w.params p.1,some p.1,some p.2))(Zn:(g == sysModules)=false):Kd2 w K mg x g ((l.map λ p=>(p.1,D.tup (p.2.map .str))).map λ p=>((Sum.inr p.1:Key),p.2)):=
 ⟨mg_of X G m,⟨NP L hn (O2 k),Zn,⟨_,L,rfl⟩⟩⟩
end
end L2
end
namespace N24
open PySem L2
theorem uS{P:Ry RA->Prop}{n:Nat}(k:∀ x us,us.length=n->P (x::us))(us:Ry RA)(h:us.length=n+1):P us:=by
 cases us with
 |nil=>cases h
 |cons x us=>exact k x us (Nat.succ.inj h)
theorem u0{P:Ry RA->Prop}(k:P [])(us:Ry RA)(h:us.length=0):P us:=by
 cases us with
 |nil=>exact k
 |cons=>cases h
theorem u1{P:Ry RA->Prop}(k:∀ x0,P [x0])(us:Ry RA)(h:us.length=1):P us:=uS (λ x=>u0 (P:=λ us=>P (x::us)) (k x)) us h
theorem u2{P:Ry RA->Prop}(k:∀ x0 x1,P [x0,x1])(us:Ry RA)(h:us.length=2):P us:=uS (λ x=>u1 (P:=λ us=>P (x::us)) (k x)) us h
theorem u3{P:Ry RA->Prop}(k:∀ x0 x1 x2,P [x0,x1,x2])(us:Ry RA)(h:us.length=3):P us:=uS (λ x=>u2 (P:=λ us=>P (x::us)) (k x)) us h
theorem u4{P:Ry RA->Prop}(k:∀ x0 x1 x2 x3,P [x0,x1,x2,x3])(us:Ry RA)(h:us.length=4):P us:=uS (λ x=>u3 (P:=λ us=>P (x::us)) (k x)) us h
theorem u5{P:Ry RA->Prop}(k:∀ x0 x1 x2 x3 x4,P [x0,x1,x2,x3,x4])(us:Ry RA)(h:us.length=5):P us:=uS (λ x=>u4 (P:=λ us=>P (x::us)) (k x)) us h
theorem Ji{w:World}{K:RC}{mg:Str->Rz RA}{c0 c1 c2 c3:RB}(h:Txt w K mg ⟨c0,c1,c2,c3,164⟩):∃ t,Txt w K mg t/\t.b5=164:=⟨_,h,rfl⟩
end N24
open PySem PySem.W PyProof.Rows
set_option maxRecDepth 100000 in
set_option maxHeartbeats 0 in
theorem PySem.Challenge.cw_stylehouse_k24_told_values_holds : PySem.Challenge.rw_stylehouse_k24_told_values.Holds := by
 refine PySem.W.holds_law HD24.Lg fun said=>?_
 refine HD24.Lj said ?hw (by rfl) (by rfl) (by rfl) ?hc
 case hw=>w_witness2
 refine L2.Co (fun P=>rfl) ?_
 refine L2.Cn (l:=PySem.Challenge.rw_stylehouse_k24_told_values) (n:=63) (k:=19) (x:="_law_script") (K:=HD24.hK) (Kc:=HD24.hKc) (Pt:=164) (c:=168) (q0:=N24.qL) (p0:=N24.pL) (CX:=L2.CX0) (sp:=N24.Ez 164) rfl (by decide) rfl ⟨rfl,by decide,by decide⟩ ?c ?P ?F ?S ?C
 case c=>exact fun P b o e=>L2.lk1 (by kernel_rfl) b o e
 case P=>exact fun P=>⟨by kernel_rfl,by kernel_rfl,L2.BJ (by kernel_rfl)⟩
 case F=>
  intro w mg fa h KX G hmg
  have T:∃ t,N24.Txt w (L2.KOf KX) mg t/\t.b5=164:=by
   dsimp only [L2.KOf]
   refine' N24.Ji (c0:=87) (c1:=475) (c2:=545) (c3:=292) ?h
   case h=>
   constructor
   case Ax=>exact PySem.W.mg_of KX G (by kernel_rfl)
   case E3=>exact PySem.W.mg_of KX G (by kernel_rfl)
   case Ay=>exact PySem.W.mg_of KX G (by kernel_rfl)
   case t9=>
    exact L2.Qa KX G (by kernel_rfl) (by kernel_rfl) (by decide +kernel) (by kernel_rfl) rfl
   exact L2.H9 (by kernel_rfl)
   (show W.findIn _ _ _=_; kernel_rfl)
   exact L2.H9 (by kernel_rfl)
   iterate 7 ((show W.findIn _ _ _=_; kernel_rfl))
   exact L2.H9 (by kernel_rfl)
   iterate 2 ((show W.findIn _ _ _=_; kernel_rfl))
   exact L2.HN KX G (by kernel_rfl) fun _ _ _ _ _ _=>N24.u0 rfl
   iterate 13 (exact L2.HN KX G (by kernel_rfl) fun _ _ _ _ _ _=>N24.u1 fun _=>rfl)
   exact L2.P7 KX G (by kernel_rfl) (fun _ _ _ _ _ _ s v=>.of_eq rfl)
   iterate 10 (exact L2.HN KX G (by kernel_rfl) fun _ _ _ _ _ _=>N24.u2 fun _ _=>rfl)
   iterate 8 (exact L2.HN KX G (by kernel_rfl) fun _ _ _ _ _ _=>N24.u3 fun _ _ _=>rfl)
   exact L2.N9 (Pt:=164) KX G (by kernel_rfl) (by kernel_rfl) (by decide) (fun _ _ _ _ _ _=>N24.u3 fun _ _ _=>rfl)
   iterate 2 (exact L2.HN KX G (by kernel_rfl) fun _ _ _ _ _ _=>N24.u3 fun _ _ _=>rfl)
   iterate 4 (exact L2.HN KX G (by kernel_rfl) fun _ _ _ _ _ _=>N24.u4 fun _ _ _ _=>rfl)
   iterate 4 (exact L2.HN KX G (by kernel_rfl) fun _ _ _ _ _ _=>N24.u5 fun _ _ _ _ _=>rfl)
   exact L2.O0 (by kernel_rfl) fun _ _ _ _ _ _=>N24.u1 fun _=>rfl
   iterate 2 (exact L2.O0 (by kernel_rfl) fun _ _ _ _ _ _=>N24.u2 fun _ _=>rfl)
   iterate 2 (exact L2.LZ (by kernel_rfl) fun _ _ _ _ _ _=>N24.u1 fun _=>rfl)
   iterate 9 (exact L2.LZ (by kernel_rfl) fun _ _ _ _ _ _=>N24.u2 fun _ _=>rfl)
   iterate 4 (exact L2.LZ (by kernel_rfl) fun _ _ _ _ _ _=>N24.u3 fun _ _ _=>rfl)
   exact L2.LZ (by kernel_rfl) fun _ _ _ _ _ _=>N24.u4 fun _ _ _ _=>rfl
   iterate 14 (exact PySem.W.mg_none_of KX G (by kernel_rfl))
   exact L2.O1 KX G (by kernel_rfl)
   exact L2.L3 KX G (by kernel_rfl)
   exact L2.L3 KX G (by kernel_rfl)
   exact L2.L3 KX G (by kernel_rfl)
   exact L2.L3 KX G (by kernel_rfl)
   iterate 3 (exact L2.O1 KX G (by kernel_rfl))
  obtain ⟨t,T,hp⟩:=T
  obtain ⟨a,d,Fl,ml,bl⟩:=T.N5
  have e0:=hmg.symm.trans ml
  cases e0
  exact ⟨d,bl,fun base kb nb=>N24.G3 T hp Fl⟩
 case S=>exact fun K H a ns hl hO hS=>⟨a,ns,rfl,hO.1,hS,hl,fun _=>rfl⟩
 case C=>exact fun H s e s' z=>z
