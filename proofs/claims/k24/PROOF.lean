import PyProof.Rows.All
import Wide.All
import OpenK.AllK
import Wide.FinOn
import PyProof.ZipIter
import KE.KTryMore
import PyProof.NsDelKeeps
import PyProof.ListRange
import PyProof.Draws
import PyProof.EnumMake
import KE.KUnpack
import KE.KLam
import KE.KRevIter
import KE.KDictOf
import PyProof.AttrMissSeq
import KE.KDictList
import KE.LcSums
import KE.KSortTup
import KE.KIntText
import PyProof.StrLawsTight
import PyProof.StrLawsChain
import PyProof.Rows.StrItems
import PyProof.NeKinds
import PyProof.Rows.SetFrom
import PyProof.DictFindH
import Lean
import PyProof.EqAt
import PyProof.EqKinds
import PyProof.TupleCall
import PyProof.ListStr
import KE.KRevSl
import PyProof.Rows.Range3
import PySem.Challenge.RW_spreadwords_k24_both_and_either
set_option Elab.async false
set_option linter.all false
set_option maxRecDepth 100000
set_option maxHeartbeats 4000000
section
open PySem PySem.Spec PyProof.Rows
def zA:=@List.length_map
def zB:=@wpAny_bind
def zC:=@List.getElem?_eq_getElem
def zD:=@List.getD_eq_getElem?_getD
def zE:=@List.getElem?_map
def zF:=@List.getElem?_eq_some_iff
def zG:=@Heap.get?_push_of_some
def zH:=@wpAny_pure
def zI:=@Nat.le_refl
def zJ:=@List.mem_of_getElem?
def zK:=@List.length_append
def zL:=@Heap.lt_size
def zM:=@List.mem_cons_self
def zN:=@Heap.get?_push_size
def zO:=@List.map_cons
def zP:=@Bool.false_ne_true
def zQ:=@List.mem_cons_of_mem
def zR:=@List.size_toArray
def zS:=@List.length_take
def zT:=@List.mem_singleton
def zU:=@List.getElem?_append_left
def zV:=@List.length_range
def zW:=@PySem.F.plainAttrs_list
def zX:=@List.getElem?_append_right
def zY:=@List.mem_map
def zZ:=@List.map_append
def yA:=@Nat.lt_of_lt_of_le
def yB:=@PassesOwn.never
def yC:=@List.take_length
def yD:=@List.map_map
def yE:=@List.mem_cons
def yF:=@F.slot_dict_keyiterator_next
def yG:=@Nat.le_trans
def yH:=@Nat.ne_of_lt
def yI:=@PySem.F.slot_list_append
def yJ:=@PySem.F.type_list_append
def yK:=@List.take_add_one
def yL:=@List.mem_append_right
def yM:=@List.Nodup.idxOf_getElem
def yN:=@List.mem_range
def yO:=@Nat.lt_of_le_of_lt
def yP:=@wpAny_callSpecial?_slot
def yQ:=@Bool.and_eq_true
def yR:=@List.length_cons
def yS:=@List.mem_append
def yT:=@wpAny_loadPart'
def yU:=@List.getElem_of_mem
def yV:=@Nat.zero_le
def yW:=@wpAny_Call_Name_kw
def yX:=@Array.length_toList
def yY:=@PySem.mem_of_lookup
def yZ:=@W.mg_of
def xA:=@List.idxOf_lt_length_of_mem
def xB:=@Nat.lt_or_ge
def xC:=@wpAny_typeNameOfWhole_keyiter
def xD:=@wpAny_field
def xE:=@List.getElem?_eq_none
def xF:=@List.append_nil
def xG:=@Nat.min_le_left
def xH:=@wpAny_call_entry
def xI:=@List.lookup_cons
def xJ:=@wpAny_newObj_type
def xK:=@List.getElem?_set_self
def xL:=@Heap.get?_update_other
def xM:=@PyProof.Rows.callWith_type1
def xN:=@Array.getElem?_toList
def xO:=@List.length_filter_le
def xP:=@Nat.le_succ
def xQ:=@wpAny_holding
def xR:=@List.getElem?_set_ne
def xS:=@List.take_of_length_le
def xT:=@Heap.size_push
def xU:=@wpAny_typeNameOf_keyiter
def xV:=@Ne.symm
def xW:=@PyProof.Rows.slot_tuple_getitem
def xX:=@List.mem_filter
def xY:=@List.length_set
def xZ:=@F.args_dict_keyiterator_next_1
def wA:=@List.length_drop
def wB:=@List.getElem_mem
def wC:=@List.getElem?_eq_none_iff
def wD:=@F.entry_dict_keyiterator_next
def wE:=@Heap.SameBut.update
def wF:=@Heap.get?_update_self
def wG:=@Bool.eq_iff_iff
def wH:=@Obj.data_mapFields
def wI:=@W.mg_none_of
def wJ:=@Nat.lt_succ_of_lt
def wK:=@wpAny_mono
def wL:=@List.nodup_cons
def wM:=@Nat.lt_irrefl
def wN:=@List.map_id
def wO:=@wpAny_setField
def wP:=@wpAny_pyIter_enum
def wQ:=@List.map_nil
def wR:=@List.any_eq_true
def wS:=@List.not_mem_nil
def wT:=@wpAny_isOneOf_keyiter
def wU:=@List.filter_append
def wV:=@List.mem_append_left
def wW:=@List.range_succ
def wX:=@Int.toNat_natCast
def wY:=@wpAny_dictEntries
def wZ:=@List.getElem?_range
def vA:=@Nat.lt_succ_self
def vB:=@PySem.F.slot_dict_setdefault
def vC:=@wpAny_fieldsOf
def vD:=@List.filter_cons
def vE:=@W.kia_one
def vF:=@Calls.spliced_cons
def vG:=@Bool.false_eq_true
def vH:=@wpAny_passesOwn
def vI:=@List.length_replicate
def vJ:=@List.length_singleton
def vK:=@Obj.isFreed_of_fields
def vL:=@List.take_append_drop
def vM:=@Paired.length
def vN:=@List.all_cons
def vO:=@F.slot_tuple_iterator_next
def vP:=@wpAny_letOwnedTupleGo_enum
def vQ:=@List.nodup_append
def vR:=@List.foldl_append
def vS:=@List.mem_of_mem_take
def vT:=@List.mem_or_eq_of_mem_set
def vU:=@W.kia_tup
def vV:=@wpAny_seqItems
def vW:=@Nat.ne_of_gt
def vX:=@List.all_eq_true
def vY:=@Nat.zero_add
def vZ:=@Option.getD_some
def uA:=@List.filterMap_cons
def uB:=@Array.toList_append
def uC:=@wpAny_getItem_str_slice
def uD:=@PySem.F.slot_list_index
def uE:=@PySem.F.type_list_index
def uF:=@wpAny_pyIter_tuple
def uG:=@List.of_mem_zip
def uH:=@List.find?_cons
def uI:=@Option.map_some
def uJ:=@wpAny_setField_rec
def uK:=@List.idxOf_cons
def uL:=@List.drop_eq_nil_of_le
def uM:=@PySem.F.plainAttrs_str
def uN:=@List.eq_nil_of_length_eq_zero
def uO:=@wpAny_truthy_bool
def uP:=@wpAny_loadPart_at
def uQ:=@Nat.le_of_lt
def uR:=@codeAny_mono
def uS:=@Nat.add_zero
def uT:=@Nat.le_add_right
def uU:=@wpAny_standAt
def uV:=@wpAny_attempt
def uW:=@Array.getElem?_eq_some_iff
def uX:=@List.mem_map_of_mem
def uY:=@wpAny_execs_nil
def uZ:=@List.forIn_cons
def tD:=@wpAny_dictEpoch
def tE:=@List.prefix_rfl
def tF:=@Nat.min_eq_left
def tG:=@Classical.byContradiction
def tH:=@Option.isSome_iff_exists
def tI:=@List.getElem?_take_of_lt
def tJ:=@PySem.F.args_tuple_add_2
def tK:=@wpAny_call
def tL:=@List.drop_zero
def tM:=@List.getElem?_replicate
def tN:=@PySem.F.entry_tuple_add
def tO:=@wpAny_pyNext_enum_itemD
def tP:=@List.eraseIdx_cons_succ
def tQ:=@Calls.spliced_nil
def tR:=@Obj.cls_mapFields
def tS:=@List.idxOf_append
def tT:=@List.append_assoc
def tU:=@List.ext_getElem?
def tV:=@PySem.F.slot_tuple_add
def tW:=@Calls.callWith_builtin
def tX:=@F.typeCall_enumerate_1
def tY:=@wpAny_pyNext_enum_endD
def tZ:=@List.any_cons
def sC:=@Nat.succ_ne_self
def sE:=@F.newCall_enumerate_1
def sG:=@F.entry_enumerate_new
def sH:=@PySem.F.slot_str_join
def sI:=@PySem.F.type_str_join
def sJ:=@Heap.get?_none_of_le
def sK:=@Calls.evalArgs_plain
def sM:=@Nat.le_of_eq
def sN:=@wpAny_newFunctionEnv
def sO:=@wpAny_rule
def sP:=@F.args_object_init_2
def sQ:=@PySem.F.args_dict_setdefault_3
def sR:=@F.slot_zip_next
def sS:=@List.forIn_nil
def sT:=@Nat.mul_le_mul
def sU:=@F.called_enumerate
def sV:=@Option.toList_some
def sW:=@wpAny_onRaise
def sX:=@wpAny_pyIter_dict
def sY:=@W.callWith_K
def sZ:=@Nat.add_comm
def rC:=@Nat.succ_mul
end
set_option hygiene false

namespace L2
open PySem PySem.Spec PyProof.Rows
abbrev Key:=Sum Int Str
def K4:Key→Value→Bool
 | .inl k,v=>Value.isInt k v
 | .inr x,v=>Value.isStrOf x v
def keyH (w:World):Key→Int
 | .inl k=>hashInt k
 | .inr x=>hashStr w x
theorem Xn:∀ {k:Key} {v:Value},K4 k v=true→(∃ i t,k=Sum.inl i∧v=Value.int i t)∨(∃ x t,k=Sum.inr x∧v=Value.str x t)
 | .inl i,v,h=>by
  obtain ⟨t,e⟩:=Value.isInt_shape (k:=i) (v:=v) h
  exact .inl ⟨i,t,rfl,e⟩
 | .inr x,v,h=>by
  obtain ⟨t,e⟩:=Value.isStrOf_shape (x:=x) (v:=v) h
  exact .inr ⟨x,t,rfl,e⟩
theorem Zcz (i:Int) (t:Tok):K4 (.inl i) (.int i t)=true:=by simp [K4,Value.isInt]
theorem Zcy (x:Str) (t:Tok):K4 (.inr x) (.str x t)=true:=by simp [K4,Value.isStrOf]
theorem Zl6 (a b:Int):decide ((Sum.inl a:Key)=Sum.inl b)=(a==b):=by
 by_cases e:a=b
 ·subst e; simp
 ·have h:¬ (Sum.inl a:Key)=Sum.inl b:=λq=>e (Sum.inl.inj q)
  rw [decide_eq_false h]
  exact (beq_eq_false_iff_ne.mpr e).symm
theorem Zl3 (a b:Str):decide ((Sum.inr a:Key)=Sum.inr b)=decide (a=b):=by
 by_cases e:a=b
 ·subst e; simp
 ·have h:¬ (Sum.inr a:Key)=Sum.inr b:=λq=>e (Sum.inr.inj q)
  rw [decide_eq_false h,decide_eq_false e]
theorem Zl5 (a:Int) (b:Str):decide ((Sum.inl a:Key)=Sum.inr b)=false:=decide_eq_false (λq=>nomatch q)
theorem Zl4 (a:Str) (b:Int):decide ((Sum.inr a:Key)=Sum.inl b)=false:=decide_eq_false (λq=>nomatch q)
def Yy (prog:Program) (w:World):PySem.KeyKind prog w Key where
 is:=K4
 hash:=keyH w
 inj:=λv a b ha hb=>by
  rcases Xn ha with ⟨i,t,rfl,rfl⟩ | ⟨x,t,rfl,rfl⟩
  ·rcases Xn hb with ⟨j,u,rfl,e⟩ | ⟨y,u,rfl,e⟩
   ·injection e with e1 _; rw [e1]
   ·exact nomatch e
  ·rcases Xn hb with ⟨j,u,rfl,e⟩ | ⟨y,u,rfl,e⟩
   ·exact nomatch e
   ·injection e with e1 _; rw [e1]
 byValue:=λk v h=>by
  rcases Xn h with ⟨i,t,rfl,rfl⟩ | ⟨x,t,rfl,rfl⟩ <;> rfl
 pyHash:=λhv h=>by
  rcases Xn hv with ⟨i,t,rfl,rfl⟩ | ⟨x,t,rfl,rfl⟩
  ·exact wpAny_pyHash_int h
  ·exact wpAny_pyHash_str h
 eqBool:=λhu hv h=>by
  rcases Xn hu with ⟨i,t,rfl,rfl⟩ | ⟨x,t,rfl,rfl⟩
  ·rcases Xn hv with ⟨j,u,rfl,rfl⟩ | ⟨y,u,rfl,rfl⟩
   ·rw [Zl6] at h; exact wpAny_eqBool_int h
   ·rw [Zl5] at h; exact SeqAt.EqAt.int_str i t y u _ _ _ _ h
  ·rcases Xn hv with ⟨j,u,rfl,rfl⟩ | ⟨y,u,rfl,rfl⟩
   ·rw [Zl4] at h; exact SeqAt.EqAt.str_int x t j u _ _ _ _ h
   ·rw [Zl3] at h; exact wpAny_eqBool_str h
 «strs»:=λk x t v h=>by
  rcases Xn h with ⟨i,u,rfl,e⟩ | ⟨y,u,rfl,e⟩
  ·exact nomatch e
  ·injection e with e1 _
   subst e1
   cases v <;> rfl
theorem Ds (prog:Program) (w:World) (i:Int) (t:Tok):(Yy prog w).is (.inl i) (.int i t)=true:=Zcz i t
theorem Dr (prog:Program) (w:World) (x:Str) (t:Tok):(Yy prog w).is (.inr x) (.str x t)=true:=Zcy x t
end L2
namespace L2
open PySem PySem.Spec PyProof.Rows
inductive V where
 | non | bl (b:Bool) | int (i:Int) | str (x:Str) | byt (b:Array UInt8) | flt (b:UInt64) | ref (a:Addr) | ty (n:String)
 deriving DecidableEq
def RelV:V→Value→Prop
 | .non,u=>u=Value.none
 | .bl b,u=>u=Value.bool b
 | .int i,u=>∃ t,u=Value.int i t
 | .str x,u=>∃ t,u=Value.str x t
 | .byt b,u=>∃ t,u=Value.bytes b t
 | .flt b,u=>∃ t,u=Value.float b t
 | .ref a,u=>u=Value.ref a
 | .ty n,u=>u=Value.type n
abbrev Vals:List V→List Value→Prop:=Paired RelV
theorem Vals.length {xs:List V} {us:List Value} (r:Vals xs us):xs.length=us.length:=vM r
theorem Vals.get:∀ {xs:List V} {us:List Value} {i:Nat} {x:V},Vals xs us→xs[i]? = some x→∃ u,us[i]? = some u∧RelV x u
 | _,_,_,_,.nil,e=>by simp at e
 | _,_,0,_,.cons r _,e=>by simp at e; subst e; exact ⟨_,rfl,r⟩
 | _,_,i+1,x,.cons _ t,e=>by
  obtain ⟨u,h1,h2⟩:=Vals.get (i:=i) (x:=x) t (by simpa using e)
  exact ⟨u,by simpa using h1,h2⟩
theorem Vals.set {x:V} {u:Value} (r:RelV x u):∀ {xs:List V} {us:List Value} (i:Nat),Vals xs us→Vals (xs.set i x) (us.set i u)
 | _,_,_,.nil=>.nil
 | _,_,0,.cons _ t=>.cons r t
 | _,_,i+1,.cons q t=>.cons q (Vals.set r i t)
theorem Vals.append:∀ {xs ys:List V} {us ws:List Value},Vals xs us→Vals ys ws→Vals (xs ++ ys) (us ++ ws)
 | _,_,_,_,.nil,s=>s
 | _,_,_,_,.cons r t,s=>.cons r (Vals.append t s)
theorem Vals.take:∀ {xs:List V} {us:List Value} (n:Nat),Vals xs us→Vals (xs.take n) (us.take n)
 | _,_,0,_=>.nil
 | _,_,_+1,.nil=>.nil
 | _,_,n+1,.cons r t=>.cons r (Vals.take n t)
theorem Vals.drop:∀ {xs:List V} {us:List Value} (n:Nat),Vals xs us→Vals (xs.drop n) (us.drop n)
 | _,_,0,r=>r
 | _,_,_+1,.nil=>.nil
 | _,_,n+1,.cons _ t=>Vals.drop n t
theorem Vals.none_of:∀ {xs:List V} {us:List Value} {i:Nat},Vals xs us→xs[i]? = none→us[i]? = none:=λ{xs us i} r e=>by
 have h1:=r.length
 have h2:xs.length≤i:=wC.mp e
 exact wC.mpr (by omega)
def Px:Option V→Option Value→Prop
 | some v,some u=>RelV v u
 | none,none=>True
 | _,_=>False
def KV {κ:Type}:List (κ × V)→List (κ × Value)→Prop:=Paired λ(p:κ × V) (q:κ × Value)=>p.1=q.1∧RelV p.2 q.2
def kV:Key→V
 | .inl i=>.int i
 | .inr x=>.str x
inductive HO where
  | lst (xs:List V)
  | tup (xs:List V)
  | dK (kvs:List (Key × V)) | dT (kvs:List (List Key × V))
  | set (S:Int→Bool) (n:Nat)
  | ins (C dx:Addr) (fs:List (Str × V))
  | own (x:Addr)
  | xd (fs:List (Str × V))
  | met (f x:Addr)
  | rng (lo hi:Int)
  | frz (o:Obj) (u:HO)
  | tbl (ps:Array Value)
  | ext (φ:Heap→Prop)
abbrev Hp:=Addr→Option HO
def upd (H:Hp) (a:Addr) (o:HO):Hp:=λb=>if b=a then some o else H b
theorem Zb {H:Hp} {a:Addr} {o:HO}:upd H a o a=some o:=by unfold upd; rw [if_pos rfl]
theorem Zi {H:Hp} {a b:Addr} {o:HO} (h:b≠a):upd H a o b=H b:=by unfold upd; rw [if_neg h]
theorem Qo {H:Hp} {a:Addr} {o u:HO}:upd (upd H a o) a u=upd H a u:=by
 funext b; unfold upd; split <;> rfl
theorem Xm {H:Hp} {a b:Addr} {o u:HO} (h:H a=some o) (h':H b=some u) (d:o≠u):a≠b:=by
 intro e; subst e; rw [h] at h'; exact d (Option.some.inj h')
theorem Zf {H:Hp} {a b:Addr} {o:HO} (h:H a=some o) (h':H b=none):a≠b:=by
 intro e; subst e; rw [h] at h'; cases h'
section
variable (P:Program) (w:World)
def Yl (H:Hp) (h:Heap) (a:Addr):HO→Prop
 | .lst xs=>xs.length≤sizeLine∧∃ (its:List Value) (n:Nat),Vals xs its∧h.get? a=some { cls:=.type "list",data:=.seq its.toArray n }
 | .tup xs=>xs.length≤sizeLine∧∃ its:List Value,Vals xs its∧IsTup h a its.toArray
 | .dK kvs=>kvs.length≤sizeLine∧(a==sysModules)=false∧∃ vs,KV kvs vs∧h.DictOf (Yy P w) a vs
 | .dT kvs=>kvs.length≤sizeLine∧(a==sysModules)=false∧∃ xs:List (List Key × Addr × Value),
   Paired (λ(p:List Key × V) (q:List Key × Addr × Value)=>p.1=q.1∧H q.2.1=some (.tup (p.1.map kV))∧RelV p.2 q.2.2) kvs xs∧
   ∃ o es ep,h.get? a=some o∧o.ExactDict∧o.data=.dict es ep∧es.toList=xs.map (entryOfKey (tupleKind (Yy P w)))∧(xs.map (·.1)).Nodup
 | .set S n=>h.SetOf (intKind P w) a S n
 | .ins C dx fs=>H dx=some (.own a)∧fs.length≤1000∧dx≠a∧h.get? a=some (W.instObj C dx)∧
   ∃ mA,h.Ns1 dx mA∧(∀ f,Px (fs.lookup f) (mA f))∧PySem.Within mA (fs.map (·.1))
 | .own _=>∃ o,h.get? a=some o
 | .xd fs=>∃ mA,h.Ns1 a mA∧∀ f,Px (fs.lookup f) (mA f)
 | .rng lo hi=>∃ t u v,h.get? a=some { cls:=.type "range",data:=.fields #[.int lo t,.int hi u,.int 1 v] }
 | .frz o u=>h.get? a=some o∧Yl H h a u
 | .tbl ps=>h.get? a=some { cls:=.none,data:=.fields ps }
 | .met f x=>h.get? a=some (W.methodObj (.ref f) (.ref x))
 | .ext φ=>φ h∧(∃ o,h.get? a=some o)∧∀ h1 h2:Heap,φ h1→(∀ o,h1.get? a=some o→h2.get? a=some o)→φ h2
def HOk (H:Hp) (h:Heap):Prop:=∀ a o,H a=some o→Yl P w H h a o
end
section
variable {P:Program} {w:World} {H H':Hp} {h h':Heap} {a:Addr} {o:HO}
theorem Yl.lt (x:Yl P w H h a o):a < h.objs.size:=by
 cases o with
 | lst xs=>obtain ⟨_,_,_,_,e⟩:=x; exact zL e
 | tup xs=>obtain ⟨_,_,_,p⟩:=x; exact p.lt
 | dK kvs=>obtain ⟨_,_,_,_,o,_,_,e,_⟩:=x; exact zL e
 | dT kvs=>obtain ⟨_,_,_,_,o,_,_,e,_⟩:=x; exact zL e
 | set S n=>obtain ⟨o,_,_,_,e,_⟩:=x; exact zL e
 | ins C dx fs=>obtain ⟨_,_,_,e,_⟩:=x; exact zL e
 | own y=>obtain ⟨_,e⟩:=x; exact zL e
 | xd fs=>obtain ⟨_,⟨_,_,_,e,_⟩,_⟩:=x; exact zL e
 | rng lo hi=>obtain ⟨_,_,_,e⟩:=x; exact zL e
 | frz ob u=>obtain ⟨e,_⟩:=x; exact zL e
 | tbl ps=>exact zL (show h.get? a=some _ from x)
 | met f y=>exact zL (show h.get? a=some _ from x)
 | ext φ=>obtain ⟨_,⟨_,e⟩,_⟩:=x; exact zL e
theorem Paired.Zlt {α β:Type} {F G:α→β→Prop}:∀ {l₁:List α} {l₂:List β},Paired F l₁ l₂→(∀ a b,F a b→G a b)→Paired G l₁ l₂
 | _,_,.nil,_=>.nil
 | _,_,.cons r t,f=>.cons (f _ _ r) (Paired.Zlt t f)
theorem Yl.Nj (x:Yl P w H h a o) (k:∀ b u,(b=a∨H b=some (.own a))→h.get? b=some u→h'.get? b=some u)
  (ho:∀ b,H b=some (.own a)→H' b=some (.own a)) (ht:∀ b xs,H b=some (.tup xs)→H' b=some (.tup xs)):Yl P w H' h' a o:=by
 induction o with
 | lst xs=>obtain ⟨z,its,n,r,e⟩:=x; exact ⟨z,its,n,r,k _ _ (.inl rfl) e⟩
 | tup xs=>obtain ⟨z,its,r,ob,e,c⟩:=x; exact ⟨z,its,r,ob,k _ _ (.inl rfl) e,c⟩
 | dK kvs=>obtain ⟨z,y,vs,r,ob,es,ep,e,c⟩:=x; exact ⟨z,y,vs,r,ob,es,ep,k _ _ (.inl rfl) e,c⟩
 | dT kvs=>
  obtain ⟨z,y,xs,r,ob,es,ep,e,c⟩:=x
  exact ⟨z,y,xs,Paired.Zlt r λp q z=>⟨z.1,ht _ _ z.2.1,z.2.2⟩,ob,es,ep,k _ _ (.inl rfl) e,c⟩
 | set S n=>obtain ⟨ob,es,ep,t,e,c⟩:=x; exact ⟨ob,es,ep,t,k _ _ (.inl rfl) e,c⟩
 | ins C dx fs=>
  obtain ⟨d,z,ne,e,mA,⟨od,es,ep,e2,c⟩,r⟩:=x
  exact ⟨ho _ d,z,ne,k _ _ (.inl rfl) e,mA,⟨od,es,ep,k _ _ (.inr d) e2,c⟩,r⟩
 | own y=>obtain ⟨ob,e⟩:=x; exact ⟨ob,k _ _ (.inl rfl) e⟩
 | xd fs=>obtain ⟨mA,⟨od,es,ep,e,c⟩,r⟩:=x; exact ⟨mA,⟨od,es,ep,k _ _ (.inl rfl) e,c⟩,r⟩
 | rng lo hi=>obtain ⟨t,u,v,e⟩:=x; exact ⟨t,u,v,k _ _ (.inl rfl) e⟩
 | frz ob u ih=>obtain ⟨e,q⟩:=x; exact ⟨k _ _ (.inl rfl) e,ih q⟩
 | tbl ps=>
  have e:h.get? a=some { cls:=.none,data:=.fields ps }:=x
  show h'.get? a=some { cls:=.none,data:=.fields ps }
  exact k a _ (.inl rfl) e
 | met f y=>
  have e:h.get? a=some (W.methodObj (.ref f) (.ref y)):=x
  show h'.get? a=some (W.methodObj (.ref f) (.ref y))
  exact k a _ (.inl rfl) e
 | ext φ=>obtain ⟨p,⟨o,e⟩,st⟩:=x; exact ⟨st _ _ p λo q=>k _ _ (.inl rfl) q,⟨o,k _ _ (.inl rfl) e⟩,st⟩
theorem HOk.lt (x:HOk P w H h) (e:H a=some o):a < h.objs.size:=(x a o e).lt
theorem HOk.fresh (x:HOk P w H h) (e:h.objs.size≤a):H a=none:=by
 cases q:H a with
 | none=>rfl
 | some u=>exact absurd (yA (x.lt q) e) (wM _)
theorem HOk.kept (x:HOk P w H h) (k:∀ b u,h.get? b=some u→h'.get? b=some u):HOk P w H h':=λa o e=>
 (x a o e).Nj (λb u _ q=>k b u q) (λ_ q=>q) λ_ _ q=>q
theorem HOk.laid (x:HOk P w H h) (k:∀ b u,h.get? b=some u→h'.get? b=some u) (hp:h.objs.size≤a) (new:Yl P w (upd H a o) h' a o):HOk P w (upd H a o) h':=λb u e=>by
 have hn:=x.fresh hp
 by_cases hb:b=a
 ·subst hb; rw [Zb] at e; cases e; exact new
 ·rw [Zi hb] at e
  exact (x b u e).Nj (λc v _ q=>k c v q) (λc q=>by rw [Zi (Zf q hn)]; exact q) λc xs q=>by rw [Zi (Zf q hn)]; exact q
end
def Rd (H:Hp) (a:Addr) (u:HO):Prop:=H a=some u∨∃ o,H a=some (.frz o u)
theorem Rd.ok {P:Program} {w:World} {H:Hp} {h:Heap} {a:Addr} {u:HO} (r:Rd H a u) (x:HOk P w H h):Yl P w H h a u:=by
 rcases r with r | ⟨o,r⟩
 ·exact x a u r
 ·obtain ⟨_,q⟩:=x a _ r
  exact q
def Mut:Option HO→Prop
 | some (.lst _)=>True
 | some (.dK _)=>True
 | some (.dT _)=>True
 | some (.set _ _)=>True
 | some (.ins _ _ _)=>True
 | some (.ext _)=>True
 | _=>False
section
variable {P:Program} {w:World} {H:Hp} {h h':Heap} {x e:Addr} {o':HO}
theorem HOk.write (ok:HOk P w H h) (mu:Mut (H x)) (he:e=x∨H e=some (.own x)) (k:∀ b u,b≠e→h.get? b=some u→h'.get? b=some u) (heo:∃ u,h'.get? e=some u)
  (new:Yl P w (upd H x o') h' x o'):HOk P w (upd H x o') h':=λb u q=>by
 have Zop:∀ c y,H c=some (.own y)→c≠x:=λc y r z=>by subst z; rw [r] at mu; exact mu
 have ntup:∀ c xs,H c=some (.tup xs)→c≠x:=λc xs r z=>by subst z; rw [r] at mu; exact mu
 by_cases hb:b=x
 ·subst hb; rw [Zb] at q; cases q; exact new
 ·rw [Zi hb] at q
  by_cases hbe:b=e
  ·have q':H b=some (.own x):=by
    rcases he with z | z
    ·exact absurd (hbe.trans z) hb
    ·rw [hbe]; exact z
   rw [q] at q'; cases q'
   obtain ⟨v,hv⟩:=heo
   exact ⟨v,by rw [hbe]; exact hv⟩
  ·refine (ok b u q).Nj (λc v hc r=>k c v ?_ r) (λc r=>by rw [Zi (Zop c b r)]; exact r) λc xs r=>by rw [Zi (ntup c xs r)]; exact r
   rcases hc with rfl | hc
   ·exact hbe
   ·rintro rfl
    rcases he with z | z
    ·exact Zop c b hc z
    ·rw [hc] at z; cases z; exact hb rfl
end
structure Un (fs ex:List Addr) (H H':Hp) (h h':Heap):Prop where
 keep:∀ b o,h.get? b=some o→H b=none→b∉fs→b∉ex→h'.get? b=some o
 slot:∀ b o,h.get? b=some o→H b=none→b∈fs→b∉ex→∃ sl,h'.get? b=some { o with slots:=sl }
 free:∀ b o,h.get? b=some o→H b=none→b∉ex→H' b=none
 there:∀ b o,h.get? b=some o→b∉ex→∃ o',h'.get? b=some o'
 Jo:∀ b xs,H b=some (.tup xs)→H' b=some (.tup xs)
 M5:∀ b o u,H b=some (.frz o u)→H' b=some (.frz o u)
 Lr:∀ b ps,H b=some (.tbl ps)→∃ more,H' b=some (.tbl (ps ++ more))
section
variable {fs fs' ex ex':List Addr} {H H1 H2:Hp} {h h1 h2 h':Heap} {a x e:Addr} {o:HO}
theorem Un.any (u:Un fs ex H H1 h h1) {b:Addr} {ob:Obj} (q:h.get? b=some ob) (n:H b=none) (hx:b∉ex):∃ sl,h1.get? b=some { ob with slots:=sl }:=by
 by_cases hb:b∈fs
 ·exact u.slot b ob q n hb hx
 ·exact ⟨ob.slots,u.keep b ob q n hb hx⟩
theorem Un.kept (k:∀ b u,h.get? b=some u→h'.get? b=some u):Un fs ex H H h h':=
 ⟨λb ob q _ _ _=>k b ob q,λb ob q _ _ _=>⟨ob.slots,k b ob q⟩,λ_ _ _ n _=>n,λb ob q _=>⟨ob,k b ob q⟩,λ_ _ q=>q,λ_ _ _ q=>q,λ_ ps q=>⟨#[],by rw [q]; simp⟩⟩
theorem Un.refl:Un fs ex H H h h:=Un.kept λ_ _ q=>q
theorem Un.laid (k:∀ b u,h.get? b=some u→h'.get? b=some u) (hp:h.objs.size≤a) (hn:H a=none):Un fs ex H (upd H a o) h h' where
 keep:=λb u q _ _ _=>k b u q
 slot:=λb u q _ _ _=>⟨u.slots,k b u q⟩
 free:=λb u q n _=>by rw [Zi (yH (yA (zL q) hp))]; exact n
 there:=λb u q _=>⟨u,k b u q⟩
 Jo:=λb xs q=>by rw [Zi (Zf q hn)]; exact q
 M5:=λb u xs q=>by rw [Zi (Zf q hn)]; exact q
 Lr:=λb ps q=>⟨#[],by rw [Zi (Zf q hn),q]; simp⟩
theorem Un.write (mu:Mut (H x)) (he:e=x∨H e=some (.own x)) (k:∀ b u,b≠e→h.get? b=some u→h'.get? b=some u) (heo:∃ u,h'.get? e=some u):Un fs ex H (upd H x o) h h':=by
 have hx:∀ b,H b=none→b≠x:=λb n z=>by subst z; rw [n] at mu; exact mu
 have hb:∀ b,H b=none→b≠e:=λb n z=>by
  subst z
  rcases he with r | r
  ·exact hx b n r
  ·rw [n] at r; cases r
 have hm:∀ b u,H b=some u→¬ Mut (some u)→b≠x:=λb u q nm z=>by subst z; rw [q] at mu; exact nm mu
 refine ⟨λb u q n _ _=>k b u (hb b n) q,λb u q n _ _=>⟨u.slots,k b u (hb b n) q⟩,λb u q n _=>by rw [Zi (hx b n)]; exact n,λb u q _=>?_,
  λb xs q=>by rw [Zi (hm b _ q λz=>z)]; exact q,λb u xs q=>by rw [Zi (hm b _ q λz=>z)]; exact q,λb ps q=>⟨#[],by rw [Zi (hm b _ q λz=>z),q]; simp⟩⟩
 by_cases hbe:b=e
 ·subst hbe; exact heo
 ·exact ⟨u,k b u hbe q⟩
end
def trk (h:Heap) (H:Hp):List Addr:=(List.range h.objs.size).filter λa=>(H a).isSome
def Po (h:Heap) (H:Hp):Heap:=W.hideAll h (trk h H)
theorem Hb (h:Heap) (H:Hp):(Po h H).objs.size=h.objs.size:=W.hideAll_size _ _
theorem Ca {h:Heap} {H:Hp} {b:Addr} {o:Obj} (e:h.get? b=some o) (n:H b=none):(Po h H).get? b=some o:=
 W.hideAll_get _ e λhm=>by
  have q:(H b).isSome=true:=(xX.mp hm).2
  rw [n] at q; simp at q
theorem Zbd {h:Heap} {H:Hp} {b:Addr} {o:Obj} (e:(Po h H).get? b=some o):h.get? b=some o∧H b=none:=by
 have e':h.get? b=some o:=W.of_hideAll (trk h H) e
 refine ⟨e',?_⟩
 cases q:H b with
 | none=>rfl
 | some x=>
  have hm:b∈trk h H:=xX.mpr ⟨yN.mpr (zL e'),by simp [q]⟩
  have z:(Po h H).get? b=none:=W.hideAll_none (trk h H) hm
  rw [z] at e; cases e
def Zi6 (g h:Heap) (L:Addr):List (Addr × Obj):=(List.range h.objs.size).filterMap λa=>if a=L∨(g.get? a).isSome=true then none else (h.get? a).map λo=>(a,o)
def rest (g h:Heap) (L d:Addr):List (Addr × Obj):=(Zi6 g h L).filter λp=>decide (p.1≠d)
end L2
namespace L2
open PySem PySem.Spec PyProof.Rows
structure Mod (K:W.Frag) (mg:Str→Option Value) (base:Heap):Prop where
 kin:K.In base
 glob:base.Ns mainGlobals mg
 blt:∃ mb,base.Ns builtinsNs mb∧∀ x:Str,x≠"__name__"→mb x=bootBuiltins x
 nolimit:base.NoLimit
structure Cx where
 prog:Program
 w:World
 K:W.Frag
 mg:Str→Option Value
 base:Heap
 A:Around
 N:List Str
 s₀:Shared
 H₀:Hp
 env:Env
 outer:List Env
 stack:List Env
 ex:List Addr
 fn:Str→Bool
 calm:Bool
 pn:List (Addr × Obj)
 xe:Value→Shared→Prop
def frs (l:List Env):List Addr:=l.filterMap (·.frame)
abbrev Cx.fs (X:Cx):List Addr:=frs X.outer
def Vis (sc:Scope) (x:Str):Prop:=sc.names.lookup x=some .local∨sc.names.lookup x=some .cell∨sc.names.lookup x=some .free
def Loc (sc:Scope) (x:Str):Prop:=sc.names.lookup x=some .local∨sc.names.lookup x=some .cell
def Look (env:Env) (h:Heap) (m:Str→Option Value) (x:Str) (u:Value):Prop:=
 (env.kindOf x=some .local∧m x=some u)∨((env.kindOf x=some .cell∨env.kindOf x=some .free)∧∃ c,env.cells.lookup x=some c∧h.IsCell c (some u))
structure Cx.Ok (X:Cx):Prop where
 mod:Mod X.K X.mg X.base
 kind:X.env.scope.kind=.function
 glob:X.env.globals=mainGlobals
 blt:X.env.builtins=builtinsNs
 above:X.s₀.heap.objs.size≤X.env.locals
 inj:∀ x y c,X.env.cells.lookup x=some c→X.env.cells.lookup y=some c→x=y
 has:∀ x,(X.env.kindOf x=some .cell∨X.env.kindOf x=some .free)→∃ c,X.env.cells.lookup x=some c
 cab:∀ x c,X.fn x=true→X.env.cells.lookup x=some c→X.s₀.heap.objs.size≤c
 hd:X.calm=true→X.A.handled=none
 frames:X.A.frames=some X.stack
 stk:X.stack=X.outer∨(X.stack=X.env :: X.outer∧X.env.frame=some X.env.locals)
 exf:∀ b∈X.ex,b≠X.env.locals∧∀ x c,X.env.cells.lookup x=some c→c≠b
 bs:∀ b o,X.base.get? b=some o→X.s₀.heap.get? b=some o∧X.H₀ b=none
 bsz:X.base.objs.size≤X.s₀.heap.objs.size
 Br:∀ b o,X.base.get? b=some o→b∉X.ex
 An:∀ b∈X.ex,b∉X.fs
 Pp:X.s₀.heap.FunFrames X.base X.outer
 frf:∀ b∈X.fs,X.H₀ b=none
structure Inv (X:Cx) (pins:List (Addr × Obj)) (σ:List (Option V)) (H:Hp) (s:Shared):Prop where
 ok:X.Ok
 os:s.os=X.s₀.os
 bare:AllBare s.gens
 base:Un X.fs X.ex X.H₀ H X.s₀.heap s.heap
 loc:∃ m,s.heap.Ns X.env.locals m∧∀ (i:Nat) (x:Str) (v:V),X.N[i]? = some x→σ[i]? = some (some v)→Vis X.env.scope x→∃ u,RelV v u∧Look X.env s.heap m x u
 cell:∀ x c,X.env.cells.lookup x=some c→∃ v,s.heap.IsCell c v
 free:H X.env.locals=none
 V3:∀ x c,X.env.cells.lookup x=some c→H c=none
 pin:∀ p∈X.pn ++ pins,s.heap.get? p.1=some p.2∧H p.1=none∧p.1≠X.env.locals∧p.1∉X.fs∧∀ v,p.2.data≠.cell v
 hok:HOk X.prog X.w H s.heap
 len:σ.length=X.N.length
section
variable {X:Cx} {pins:List (Addr × Obj)} {σ:List (Option V)} {H H':Hp} {s:Shared} {h':Heap}
theorem Cx.Ok.nofr (ok:X.Ok) {b:Addr} {o:Obj} (e:X.base.get? b=some o):b∉X.fs:=λhb=>by
 have:=(ok.Pp.mem hb).1
 rw [e] at this; cases this
theorem Inv.bs (I:Inv X pins σ H s):∀ b o,X.base.get? b=some o→s.heap.get? b=some o∧H b=none:=λb o e=>
 ⟨I.base.keep b o (I.ok.bs b o e).1 (I.ok.bs b o e).2 (I.ok.nofr e) (I.ok.Br b o e),I.base.free b o (I.ok.bs b o e).1 (I.ok.bs b o e).2 (I.ok.Br b o e)⟩
theorem Inv.bk (I:Inv X pins σ H s):∀ b o,X.base.get? b=some o→s.heap.get? b=some o:=λb o e=>(I.bs b o e).1
theorem Inv.mod (I:Inv X pins σ H s):Mod X.K X.mg X.base:=I.ok.mod
theorem Inv.kIn (I:Inv X pins σ H s):X.K.In s.heap:=I.ok.mod.kin.keeps I.bk
theorem Inv.lt (I:Inv X pins σ H s):X.env.locals < s.heap.objs.size:=let ⟨_,hn,_⟩:=I.loc; hn.lt
theorem Inv.sz (I:Inv X pins σ H s):X.s₀.heap.objs.size≤s.heap.objs.size:=yG I.ok.above (uQ I.lt)
theorem Inv.Zoq (I:Inv X pins σ H s) {a:Addr} (h:s.heap.objs.size≤a):a∉X.fs:=λhb=>by
 obtain ⟨_,o,ho,_⟩:=I.ok.Pp.mem hb
 exact absurd (yA (zL ho) (yG I.sz h)) (wM _)
theorem Inv.cne (I:Inv X pins σ H s):∀ x c,X.env.cells.lookup x=some c→c≠X.env.locals:=λx c e z=>by
 obtain ⟨v,o,ho,hd⟩:=I.cell x c e
 obtain ⟨m,⟨o',es,ep,ho',hd',_⟩,_⟩:=I.loc
 rw [z,ho'] at ho; cases ho; rw [hd'] at hd; cases hd
theorem Inv.Pp (I:Inv X pins σ H s):s.heap.FunFrames X.base X.outer:=by
 have all:∀ (l:List Env),(∀ b∈frs l,b∈X.fs)→X.s₀.heap.FunFrames X.base l→s.heap.FunFrames X.base l:=by
  intro l
  induction l with
  | nil=>intro _ _; trivial
  | cons env r ih=>
   intro hs hl
   obtain ⟨hk,⟨L,o,hf,hn,ho,hd⟩,hr⟩:=hl
   have hL:L∈X.fs:=hs L (by unfold frs; rw [uA,hf]; exact zM)
   obtain ⟨sl,e⟩:=I.base.slot L o ho (I.ok.frf L hL) hL λz=>I.ok.An L z hL
   exact ⟨hk,⟨L,_,hf,hn,e,hd⟩,ih (λb hb=>hs b (by unfold frs; rw [uA,hf]; exact zQ _ hb)) hr⟩
 exact all X.outer (λ_ hb=>hb) I.ok.Pp
theorem Inv.stack (I:Inv X pins σ H s):s.heap.FunFrames X.base X.stack:=by
 rcases I.ok.stk with e | ⟨e,hf⟩
 ·rw [e]; exact I.Pp
 ·rw [e]
  obtain ⟨m,hn,_⟩:=I.loc
  refine .cons (by rw [I.ok.kind]; decide) hf hn ?_ I.Pp
  exact sJ (yG I.ok.bsz I.ok.above)
theorem Inv.Ls (I:Inv X pins σ H s):∀ b∈frs X.stack,b∈X.env.locals :: X.fs:=λb hb=>by
 rcases I.ok.stk with e | ⟨e,hf⟩
 ·rw [e] at hb; exact zQ _ hb
 ·rw [e] at hb
  unfold frs at hb
  rw [uA,hf] at hb
  exact hb
theorem Inv.M7 (I:Inv X pins σ H s):∀ b∈frs X.stack,H b=none:=λb hb=>by
 rcases yE.mp (I.Ls b hb) with e | hb
 ·rw [e]; exact I.free
 ·obtain ⟨_,o,ho,_⟩:=I.ok.Pp.mem hb
  exact I.base.free b o ho (I.ok.frf b hb) λz=>I.ok.An b z hb
theorem Inv.step {g':Array GenState} {t':Nat} {d':Drawn} {ch:List Addr} (I:Inv X pins σ H s)
  (hch:∀ b∈ch,(b∈X.ex∨X.s₀.heap.objs.size≤b)∧b≠X.env.locals∧(∀ x c,X.env.cells.lookup x=some c→c≠b)∧∀ p∈X.pn ++ pins,p.1≠b)
  (keep:∀ b o,b≠X.env.locals→b∉X.fs→b∉ch→s.heap.get? b=some o→H b=none→h'.get? b=some o)
  (slot:∀ b o,b≠X.env.locals→b∈X.fs→b∉ch→s.heap.get? b=some o→H b=none→∃ sl,h'.get? b=some { o with slots:=sl }) (free:∀ b o,b∉ch→s.heap.get? b=some o→H b=none→H' b=none)
  (there:∀ b o,b∉ch→s.heap.get? b=some o→∃ o',h'.get? b=some o')
  (Jo:∀ b xs,H b=some (.tup xs)→H' b=some (.tup xs)) (M5:∀ b o u,H b=some (.frz o u)→H' b=some (.frz o u)) (Lr:∀ b ps,H b=some (.tbl ps)→∃ more,H' b=some (.tbl (ps ++ more)))
  (ns:∀ m,s.heap.Ns X.env.locals m→h'.Ns X.env.locals m) (hok:HOk X.prog X.w H' h') (hg:AllBare g') :
  Inv X pins σ H' { s with heap:=h',gens:=g',drawn:=d',toks:=t' }:=by
 have neL:∀ b o,X.s₀.heap.get? b=some o→b≠X.env.locals:=λb o e=>yH (yA (zL e) I.ok.above)
 have neC:∀ b o,X.s₀.heap.get? b=some o→b∉X.ex→b∉ch:=λb o e hx hb=>by
  rcases (hch b hb).1 with z | z
  ·exact hx z
  ·exact absurd (yA (zL e) z) (wM _)
 have cellK:∀ x c,X.env.cells.lookup x=some c→∀ v,s.heap.IsCell c v→h'.IsCell c v:=λx c e v ⟨o,ho,hd⟩=>by
  have nch:c∉ch:=λz=>(hch c z).2.2.1 x c e rfl
  by_cases hc:c∈X.fs
  ·obtain ⟨sl,q⟩:=slot c o (I.cne x c e) hc nch ho (I.V3 x c e)
   exact ⟨_,q,hd⟩
  ·exact ⟨o,keep c o (I.cne x c e) hc nch ho (I.V3 x c e),hd⟩
 refine ⟨I.ok,I.os,hg,⟨λb o e n hb hx=>?_,λb o e n hb hx=>?_,λb o e n hx=>?_,λb o e hx=>?_,λb xs e=>Jo b xs (I.base.Jo b xs e),λb o xs e=>M5 b o xs (I.base.M5 b o xs e),λb ps e=>?_⟩,?_,λx c e=>?_,?_,λx c e=>?_,λp hp=>?_,hok,I.len⟩
 ·exact keep b o (neL b o e) hb (neC b o e hx) (I.base.keep b o e n hb hx) (I.base.free b o e n hx)
 ·obtain ⟨sl,e1⟩:=I.base.slot b o e n hb hx
  obtain ⟨sl',e2⟩:=slot b _ (neL b o e) hb (neC b o e hx) e1 (I.base.free b o e n hx)
  exact ⟨sl',e2⟩
 ·obtain ⟨o',e1⟩:=I.base.there b o e hx
  exact free b o' (neC b o e hx) e1 (I.base.free b o e n hx)
 ·obtain ⟨o',e1⟩:=I.base.there b o e hx
  exact there b o' (neC b o e hx) e1
 ·obtain ⟨m1,e1⟩:=I.base.Lr b ps e
  obtain ⟨m2,e2⟩:=Lr b _ e1
  exact ⟨m1 ++ m2,by rw [e2,Array.append_assoc]⟩
 ·obtain ⟨m,hn,hl⟩:=I.loc
  refine ⟨m,ns m hn,λi x v e1 e2 e3=>?_⟩
  obtain ⟨u,r,l⟩:=hl i x v e1 e2 e3
  refine ⟨u,r,?_⟩
  rcases l with l | ⟨k,c,e,z⟩
  ·exact .inl l
  ·exact .inr ⟨k,c,e,cellK x c e _ z⟩
 ·obtain ⟨v,z⟩:=I.cell x c e
  exact ⟨v,cellK x c e v z⟩
 ·obtain ⟨m,⟨o,_,_,ho,_⟩,_⟩:=I.loc
  exact free _ o (λz=>(hch _ z).2.1 rfl) ho I.free
 ·obtain ⟨v,o,ho,hd⟩:=I.cell x c e
  exact free c o (λz=>(hch c z).2.2.1 x c e rfl) ho (I.V3 x c e)
 ·obtain ⟨e,n,ne,nf,d⟩:=I.pin p hp
  have nch:p.1∉ch:=λz=>(hch p.1 z).2.2.2 p hp rfl
  exact ⟨keep p.1 p.2 ne nf nch e n,free p.1 p.2 nch e n,ne,nf,d⟩
theorem Inv.un {t':Nat} (I:Inv X pins σ H s) (u:Un X.fs [] H H' s.heap h') (hok:HOk X.prog X.w H' h'):Inv X pins σ H' { s with heap:=h',toks:=t' }:=by
 obtain ⟨m,⟨o,es,ep,ho,r⟩,_⟩:=id I.loc
 obtain ⟨sl,hL⟩:=u.any ho I.free (by simp)
 exact I.step (g':=s.gens) (d':=s.drawn) (ch:=[]) (λ_ z=>nomatch z) (λb o _ hb _ e n=>u.keep b o e n hb (by simp)) (λb o _ hb _ e n=>u.slot b o e n hb (by simp)) (λb o _ e n=>u.free b o e n (by simp)) (λb o _ e=>u.there b o e (by simp)) u.Jo u.M5 u.Lr (λm' hm=>by
  obtain ⟨o',es',ep',ho',r'⟩:=hm
  rw [ho] at ho'; cases ho'
  exact ⟨_,es',ep',hL,r'⟩) hok I.bare
theorem Inv.call {g':Array GenState} {t':Nat} {d':Drawn} {ch:List Addr} (I:Inv X pins σ H s) (u:Un (frs X.stack) ch H H' s.heap h') (hok:HOk X.prog X.w H' h') (hg:AllBare g')
  (hch:∀ b∈ch,(b∈X.ex∨X.s₀.heap.objs.size≤b)∧b≠X.env.locals∧(∀ x c,X.env.cells.lookup x=some c→c≠b)∧∀ p∈X.pn ++ pins,p.1≠b) :
  Inv X pins σ H' { s with heap:=h',gens:=g',drawn:=d',toks:=t' }:=by
 obtain ⟨m,⟨o,es,ep,ho,r⟩,_⟩:=id I.loc
 obtain ⟨sl,hL⟩:=u.any ho I.free λz=>(hch _ z).2.1 rfl
 exact I.step (ch:=ch) hch (λb o hL hb hc e n=>u.keep b o e n (λz=>(yE.mp (I.Ls b z)).elim hL hb) hc) (λb o _ _ hc e n=>u.any e n hc) (λb o hc e n=>u.free b o e n hc) (λb o hc e=>u.there b o e hc) u.Jo u.M5 u.Lr (λm' hm=>by
  obtain ⟨o',es',ep',ho',r'⟩:=hm
  rw [ho] at ho'; cases ho'
  exact ⟨_,es',ep',hL,r'⟩) hok hg
theorem Inv.turned {t':Nat} {it:Addr} (I:Inv X pins σ H s) (k:∀ b o,b≠it→s.heap.get? b=some o→h'.get? b=some o) (hn:H it=none) (hL:it≠X.env.locals)
  (h1:it∈X.ex∨X.s₀.heap.objs.size≤it) (h2:∀ x c,X.env.cells.lookup x=some c→c≠it) (h3:∀ p∈X.pn ++ pins,p.1≠it):Inv X pins σ H { s with heap:=h',toks:=t' }:=by
 have nit:∀ b u,H b=some u→b≠it:=λb u e z=>by rw [z,hn] at e; cases e
 refine I.step (g':=s.gens) (d':=s.drawn) (ch:=[it]) (λb hb=>?_) (λb o _ _ hc e _=>k b o (λz=>hc (by simp [z])) e) (λb o _ _ hc e _=>⟨o.slots,k b o (λz=>hc (by simp [z])) e⟩) (λ_ _ _ _ n=>n)
  (λb o hc e=>⟨o,k b o (λz=>hc (by simp [z])) e⟩) (λ_ _ e=>e) (λ_ _ _ e=>e) (λb ps e=>⟨#[],by rw [e]; simp⟩) (λm hm=>?_) (λb u e=>?_) I.bare
 ·have e:b=it:=by simpa using hb
  subst e
  exact ⟨h1,hL,h2,h3⟩
 ·obtain ⟨o,es,ep,ho,r⟩:=hm
  exact ⟨o,es,ep,k _ o (xV hL) ho,r⟩
 ·refine (I.hok b u e).Nj (λc v hc q=>k c v ?_ q) (λ_ q=>q) λ_ _ q=>q
  rcases hc with z | z
  ·rw [z]; exact nit b u e
  ·exact nit c _ z
theorem Inv.tok (I:Inv X pins σ H s) (t:Nat):Inv X pins σ H { s with toks:=t }:=I.un (h':=s.heap) (t':=t) Un.refl I.hok
theorem Inv.kept {t':Nat} (I:Inv X pins σ H s) (k:∀ b u,s.heap.get? b=some u→h'.get? b=some u):Inv X pins σ H { s with heap:=h',toks:=t' }:=I.un (Un.kept k) (I.hok.kept k)
theorem Inv.laid {a:Addr} {o:HO} {t':Nat} (I:Inv X pins σ H s) (k:∀ b u,s.heap.get? b=some u→h'.get? b=some u) (hp:s.heap.objs.size≤a) (new:Yl X.prog X.w (upd H a o) h' a o) :
  Inv X pins σ (upd H a o) { s with heap:=h',toks:=t' }:=I.un (Un.laid k hp (I.hok.fresh hp)) (I.hok.laid k hp new)
theorem Inv.write {x e:Addr} {o:HO} {t':Nat} (I:Inv X pins σ H s) (mu:Mut (H x)) (he:e=x∨H e=some (.own x)) (k:∀ b u,b≠e→s.heap.get? b=some u→h'.get? b=some u) (heo:∃ u,h'.get? e=some u)
  (new:Yl X.prog X.w (upd H x o) h' x o):Inv X pins σ (upd H x o) { s with heap:=h',toks:=t' }:=I.un (Un.write mu he k heo) (I.hok.write mu he k heo new)
theorem Inv.weak {σ':List (Option V)} (I:Inv X pins σ H s) (hl:σ'.length=σ.length) (w:∀ (i:Nat) v,σ'[i]? = some (some v)→σ[i]? = some (some v)):Inv X pins σ' H s:=
 ⟨I.ok,I.os,I.bare,I.base,let ⟨m,hn,hl'⟩:=I.loc; ⟨m,hn,λi x v e1 e2 e3=>hl' i x v e1 (w i v e2) e3⟩,I.cell,I.free,I.V3,I.pin,I.hok,hl.trans I.len⟩
theorem Inv.Ld {pins':List (Addr × Obj)} (I:Inv X pins σ H s) (h:∀ p∈pins',s.heap.get? p.1=some p.2∧H p.1=none∧p.1≠X.env.locals∧p.1∉X.fs∧∀ v,p.2.data≠.cell v):Inv X pins' σ H s:=
 ⟨I.ok,I.os,I.bare,I.base,I.loc,I.cell,I.free,I.V3,λp hp=>(yS.mp hp).elim (λz=>I.pin p (wV _ z)) (h p),I.hok,I.len⟩
theorem Kp {N:List Str} (hN:N.Nodup) {i j:Nat} {x:Str} (a:N[i]? = some x) (b:N[j]? = some x):i=j:=by
 obtain ⟨h1,e1⟩:=zF.mp a
 obtain ⟨h2,e2⟩:=zF.mp b
 exact (List.getElem_inj hN).mp (e1.trans e2.symm)
theorem Ii {M:Model} {A:Around} {E:Value→Shared→Prop} {i:Nat} {x:Str} {v:V} {u:Value} {Q:Unit→Shared→Prop} (I:Inv X pins σ H s) (hN:X.N.Nodup) (hi:X.N[i]? = some x) (hx:Loc X.env.scope x) (r:RelV v u)
  (h:∀ s',Inv X pins (σ.set i (some v)) H s'→(∃ a,Heap.SameBut a s.heap s'.heap∧(a=X.env.locals∨X.env.cells.lookup x=some a))→Q () s') (hf:X.fn x=true∨X.env.scope.names.lookup x=some .local:=by first | exact .inl rfl | exact .inr rfl | assumption):wpAny M A (storeName X.env x u) Q E s:=by
 obtain ⟨m,hn,hl⟩:=id I.loc
 have Zmr:(X.env.scope.kind==.class || (X.env.scope.kind==.module && X.env.locals != X.env.globals))=false:=by rw [I.ok.kind]; rfl
 have hiσ:i < σ.length:=by rw [I.len]; exact (zF.mp hi).1
 have cne:=I.cne
 have tracked:∀ {a:Addr} {h':Heap},(∃ o,s.heap.get? a=some o∧H a=none)→Heap.SameBut a s.heap h'→HOk X.prog X.w H h':=λ{a h'} ha hs b ob e=>by
  obtain ⟨_,_,Ph⟩:=ha
  refine (I.hok b ob e).Nj (λc w' hc q=>(hs.2 c ?_).trans q) (λ_ q=>q) λ_ _ q=>q
  rintro rfl
  rcases hc with rfl | hc
  ·rw [Ph] at e; cases e
  ·rw [Ph] at hc; cases hc
 rcases hx with hk | hk
 ·refine wpAny_storeName_local hk hn (λh' hn' hs=>?_) Zmr
  obtain ⟨oL,_,_,hoL,_⟩:=id hn
  refine h _ ⟨I.ok,I.os,I.bare,⟨λb o e n hb hx=>?_,λb o e n hb hx=>?_,I.base.free,λb o e hx=>?_,I.base.Jo,I.base.M5,I.base.Lr⟩,⟨_,hn',λj y v' e1 e2 e3=>?_⟩,λy c e=>?_,I.free,I.V3,λp hp=>?_,tracked ⟨oL,hoL,I.free⟩ hs,by simpa using I.len⟩ ⟨_,hs,.inl rfl⟩
  ·exact (hs.2 b (yH (yA (zL e) I.ok.above))).trans (I.base.keep b o e n hb hx)
  ·obtain ⟨sl,e1⟩:=I.base.slot b o e n hb hx
   exact ⟨sl,(hs.2 b (yH (yA (zL e) I.ok.above))).trans e1⟩
  ·obtain ⟨o',e1⟩:=I.base.there b o e hx
   exact ⟨o',(hs.2 b (yH (yA (zL e) I.ok.above))).trans e1⟩
  ·by_cases hj:j=i
   ·subst hj
    rw [hi] at e1; cases e1
    rw [xK hiσ] at e2
    cases e2
    exact ⟨u,r,.inl ⟨hk,by simp⟩⟩
   ·rw [xR (xV hj)] at e2
    obtain ⟨u',r',q⟩:=hl j y v' e1 e2 e3
    refine ⟨u',r',?_⟩
    rcases q with ⟨k,e⟩ | ⟨k,c,e,z⟩
    ·refine .inl ⟨k,?_⟩
     have:y≠x:=λe=>hj (Kp hN e1 (e▸hi))
     simp [this,e]
    ·exact .inr ⟨k,c,e,z.sameBut hs (cne y c e)⟩
  ·obtain ⟨w',z⟩:=I.cell y c e
   exact ⟨w',z.sameBut hs (cne y c e)⟩
  ·obtain ⟨e,n,ne,nf,d⟩:=I.pin p hp
   exact ⟨(hs.2 p.1 ne).trans e,n,ne,nf,d⟩
 ·have hfn:X.fn x=true:=by
   rcases hf with z | z
   ·exact z
   ·rw [z] at hk; cases hk
  obtain ⟨c,hc⟩:=I.ok.has x (.inl hk)
  obtain ⟨w',z⟩:=I.cell x c hc
  refine wpAny_storeName_cell I.ok.kind hk hc z (λh' hc' hs=>?_)
  obtain ⟨oc,hoc,hocd⟩:=id z
  refine h { s with heap:=h' } ⟨I.ok,I.os,I.bare,⟨λb o e n hb hx=>?_,λb o e n hb hx=>?_,I.base.free,λb o e hx=>?_,I.base.Jo,I.base.M5,I.base.Lr⟩,⟨m,hn.sameBut hs (xV (cne x c hc)),λj y v' e1 e2 e3=>?_⟩,λy c' e=>?_,I.free,I.V3,λp hp=>?_,tracked ⟨oc,hoc,I.V3 x c hc⟩ hs,by simpa using I.len⟩ ⟨c,hs,.inr hc⟩
  ·exact (hs.2 b (yH (yA (zL e) (I.ok.cab x c hfn hc)))).trans (I.base.keep b o e n hb hx)
  ·obtain ⟨sl,e1⟩:=I.base.slot b o e n hb hx
   exact ⟨sl,(hs.2 b (yH (yA (zL e) (I.ok.cab x c hfn hc)))).trans e1⟩
  ·obtain ⟨o',e1⟩:=I.base.there b o e hx
   exact ⟨o',(hs.2 b (yH (yA (zL e) (I.ok.cab x c hfn hc)))).trans e1⟩
  ·by_cases hj:j=i
   ·subst hj
    rw [hi] at e1; cases e1
    rw [xK hiσ] at e2
    cases e2
    exact ⟨u,r,.inr ⟨.inl hk,c,hc,hc'⟩⟩
   ·rw [xR (xV hj)] at e2
    obtain ⟨u',r',q⟩:=hl j y v' e1 e2 e3
    refine ⟨u',r',?_⟩
    rcases q with q | ⟨k,c',e,z'⟩
    ·exact .inl q
    ·refine .inr ⟨k,c',e,z'.sameBut hs ?_⟩
     rintro rfl
     exact hj (Kp hN e1 (I.ok.inj _ _ _ e hc▸hi))
  ·by_cases hcc:c'=c
   ·subst hcc; exact ⟨_,hc'⟩
   ·obtain ⟨w2,z2⟩:=I.cell y c' e
    exact ⟨w2,z2.sameBut hs hcc⟩
  ·obtain ⟨e,n,ne,nf,d⟩:=I.pin p hp
   refine ⟨(hs.2 p.1 ?_).trans e,n,ne,nf,d⟩
   intro q
   rw [q,hoc] at e
   have q':oc=p.2:=Option.some.inj e
   exact d w' (by rw [← q']; exact hocd)
theorem Rj {M:Model} {A:Around} {E:Value→Shared→Prop} {i:Nat} {x:Str} {v:V} {u:Value} {Q:Unit→Shared→Prop} (I:Inv X pins σ H s) (hN:X.N.Nodup) (hi:X.N[i]? = some x) (hx:Loc X.env.scope x) (r:RelV v u)
  (h:∀ s',Inv X pins (σ.set i (some v)) H s'→Q () s') (hf:X.fn x=true∨X.env.scope.names.lookup x=some .local:=by first | exact .inl rfl | exact .inr rfl | assumption):wpAny M A (storeName X.env x u) Q E s:=
 Ii I hN hi hx r (λs' I' _=>h s' I') hf
theorem Inv.Zp9 {s':Shared} {ch:List Addr} (I:Inv X pins σ H s) (ho:s'.os=s.os) (u:Un (frs X.stack) ch H H' s.heap s'.heap) (hok:HOk X.prog X.w H' s'.heap) (hg:AllBare s'.gens)
  (hch:∀ b∈ch,(b∈X.ex∨X.s₀.heap.objs.size≤b)∧b≠X.env.locals∧(∀ x c,X.env.cells.lookup x=some c→c≠b)∧∀ p∈X.pn ++ pins,p.1≠b):Inv X pins σ H' s':=by
 obtain ⟨h',g',d',t',o'⟩:=s'
 have e:o'=s.os:=ho
 subst e
 exact I.call (g':=g') (t':=t') (d':=d') u hok hg hch
end
abbrev XK:=Value→Option Addr→Hp→Prop
abbrev St:=List (Option V)
abbrev VK:=V→Hp→Prop
abbrev TE:=St→Hp→VK→Prop
abbrev TT:=St→Hp→(Bool→Hp→Prop)→Prop
abbrev TA:=St→Hp→(List V→Hp→Prop)→Prop
structure Ends where
 nx:St→Hp→Prop
 rt:VK
 bk:St→Hp→Prop:=λ_ _=>False
 ct:St→Hp→Prop:=λ_ _=>False
abbrev TS:=Ends→St→Hp→Prop
def EP (X:Cx) (pins:List (Addr × Obj)) (σ:St) (Q:VK) (u:Value) (s':Shared):Prop:=∃ v H',Inv X pins σ H' s'∧RelV v u∧Q v H'
def TP (X:Cx) (pins:List (Addr × Obj)) (σ:St) (Q:Bool→Hp→Prop) (b:Bool) (s':Shared):Prop:=∃ H',Inv X pins σ H' s'∧Q b H'
def AP (X:Cx) (pins:List (Addr × Obj)) (σ:St) (Q:List V→Hp→Prop) (us:List Value) (s':Shared):Prop:=∃ vs H',Inv X pins σ H' s'∧Vals vs us∧Q vs H'
def SP (X:Cx) (pins:List (Addr × Obj)) (D:Ends) (f:Flow) (s':Shared):Prop:=
 match f with
 | .next=>∃ σ' H',Inv X pins σ' H' s'∧D.nx σ' H'
 | .brk=>∃ σ' H',Inv X pins σ' H' s'∧D.bk σ' H'
 | .cont=>∃ σ' H',Inv X pins σ' H' s'∧D.ct σ' H'
 | .ret u=>∃ v σ' H',Inv X pins σ' H' s'∧RelV v u∧D.rt v H'
def PE (X:Cx) (e:Expr) (t:TE):Prop:=
 ∀ (pins:List (Addr × Obj)) (s:Shared) (σ:St) (H:Hp) (Q:VK),Inv X pins σ H s→t σ H Q→wpAny (model X.prog X.w) X.A (eval e X.env) (EP X pins σ Q) X.xe s
def PT (X:Cx) (e:Expr) (t:TT):Prop:=
 ∀ (pins:List (Addr × Obj)) (s:Shared) (σ:St) (H:Hp) (Q:Bool→Hp→Prop),Inv X pins σ H s→t σ H Q→wpAny (model X.prog X.w) X.A (isTrue e X.env (eval e X.env)) (TP X pins σ Q) X.xe s
def PW (X:Cx) (e:Expr) (t:TT):Prop:=
 ∀ (whole:Sem Value) (pins:List (Addr × Obj)) (s:Shared) (σ:St) (H:Hp) (Q:Bool→Hp→Prop),Inv X pins σ H s→t σ H Q→wpAny (model X.prog X.w) X.A (isTrue e X.env whole) (TP X pins σ Q) X.xe s
theorem PW.pt {X:Cx} {e:Expr} {t:TT} (h:PW X e t):PT X e t:=h _
def PA (X:Cx) (es:List Expr) (t:TA):Prop:=
 ∀ (pos:Pos) (pins:List (Addr × Obj)) (s:Shared) (σ:St) (H:Hp) (Q:List V→Hp→Prop),Inv X pins σ H s→t σ H Q→wpAny (model X.prog X.w) X.A (spliced (backTo pos (starEach es X.env))) (AP X pins σ Q) X.xe s
def PS (X:Cx) (st:Stmt) (t:TS):Prop:=
 ∀ (pins:List (Addr × Obj)) (s:Shared) (σ:St) (H:Hp) (D:Ends),Inv X pins σ H s→t D σ H→wpAny (model X.prog X.w) X.A (exec st X.env) (SP X pins D) X.xe s
def PSs (X:Cx) (st:List Stmt) (t:TS):Prop:=
 ∀ (pins:List (Addr × Obj)) (s:Shared) (σ:St) (H:Hp) (D:Ends),Inv X pins σ H s→t D σ H→wpAny (model X.prog X.w) X.A (execs st X.env) (SP X pins D) X.xe s
theorem thn {α:Type} {t:Sem α} {Q Q':α→Shared→Prop} {M:Model} {A:Around} {E:Value→Shared→Prop} {s:Shared} (h:wpAny M A t Q E s) (hQ:∀ a s,Q a s→Q' a s):wpAny M A t Q' E s:=wK h hQ λ_ _ x=>x
end L2
namespace L2
open PySem PySem.Spec PyProof.Rows
section
variable {X:Cx}
inductive Zje (i:Nat) (σ:St) (H:Hp) (Q:VK):Prop
 | mk (v:_) (h1:σ[i]? = some (some v)) (h2:Q v H):Zje i σ H Q
def Bb (i:Nat):TE:=λσ H Q=>Zje i σ H Q
def tC (v:V):TE:=λ_ H Q=>Q v H
theorem Gs {i:Nat} {x:Str} {pos:Pos} (hN:X.N[i]? = some x) (hv:Vis X.env.scope x) (hd:(x==("__debug__" : Str))=false:=by decide) (hcd:(x==("__classdict__" : Str))=false:=by decide):PE X (.Name x pos) (Bb i):=by
 intro pins s σ H Q I h
 obtain ⟨v,e,h⟩:=h
 obtain ⟨m,hn,hl⟩:=I.loc
 obtain ⟨u,r,l⟩:=hl i x v hN e hv
 have fin:EP X pins σ Q u s:=⟨v,H,I,r,h⟩
 rcases l with ⟨hk,hm⟩ | ⟨hk,c,hc,Zbw⟩
 ·exact wpAny_Name (wpAny_loadName_local I.ok.kind hk hn hm fin) hd
 ·rcases hk with hk | hk
  ·exact wpAny_Name (wpAny_loadName_cell I.ok.kind hk hc Zbw fin) hd
  ·exact wpAny_Name (wpAny_loadName_free I.ok.kind hk hc Zbw fin hcd) hd
theorem Zh {i j pos}:PE X (.Constant (.int i) j pos) (tC (.int i)):=λ_ _ _ H _ I h=>wpAny_Constant_int ⟨.int i,H,I.tok _,⟨_,rfl⟩,h⟩
theorem Mm {b j pos}:PE X (.Constant (.bool b) j pos) (tC (.bl b)):=λ_ _ _ H _ I h=>Constant_bool ⟨.bl b,H,I,rfl,h⟩
theorem Zll {j pos}:PE X (.Constant .none j pos) (tC .non):=λ_ _ _ H _ I h=>Constant_none ⟨.non,H,I,rfl,h⟩
theorem Pk {x j pos}:PE X (.Constant (.str x) j pos) (tC (.str x)):=λ_ _ _ H _ I h=>Calls.Constant_str ⟨.str x,H,I.tok _,⟨_,rfl⟩,h⟩
def Gl (X:Cx) (x:Str):Prop:=X.env.kindOf x=some .globalImplicit
theorem Qu {E:Value→Shared→Prop} {pins:List (Addr × Obj)} {s:Shared} {σ:St} {H:Hp} {x:Str} {u:Value} {pos:Pos} {Q:Value→Shared→Prop} (I:Inv X pins σ H s) (hg:Gl X x) (hm:X.mg x=some u) (h:Q u s)
  (hd:(x==("__debug__" : Str))=false:=by decide):wpAny (model X.prog X.w) X.A (eval (.Name x pos) X.env) Q E s:=
 Calls.Name_function_global I.ok.kind hg (Calls.loadGlobal_global (by rw [I.ok.glob]; exact I.mod.glob.keeps I.bk) hm h) hd
theorem U9 {E:Value→Shared→Prop} {pins:List (Addr × Obj)} {s:Shared} {σ:St} {H:Hp} {x:Str} {u:Value} {pos:Pos} {Q:Value→Shared→Prop} (I:Inv X pins σ H s) (hg:Gl X x) (hm:X.mg x=none) (hv:bootBuiltins x=some u) (h:Q u s)
  (hn:x≠"__name__":=by decide) (hd:(x==("__debug__" : Str))=false:=by decide):wpAny (model X.prog X.w) X.A (eval (.Name x pos) X.env) Q E s:=by
 obtain ⟨mb,h1,h2⟩:=I.mod.blt
 exact Calls.Name_function_global I.ok.kind hg (Calls.loadGlobal_builtin (by rw [I.ok.glob]; exact I.mod.glob.keeps I.bk) hm (by rw [I.ok.blt]; exact h1.keeps I.bk) ((h2 x hn).trans hv) h) hd
theorem Si {x:Str} {v:V} {u:Value} {pos:Pos} (hg:Gl X x) (hm:X.mg x=some u) (r:RelV v u) (hd:(x==("__debug__" : Str))=false:=by decide):PE X (.Name x pos) (tC v):=
 λ_ _ _ H _ I h=>Qu I hg hm ⟨v,H,I,r,h⟩ hd
theorem V5 {x:Str} {v:V} {u:Value} {pos:Pos} (hg:Gl X x) (hm:X.mg x=none) (hv:bootBuiltins x=some u) (r:RelV v u) (hn:x≠"__name__":=by decide) (hd:(x==("__debug__" : Str))=false:=by decide):PE X (.Name x pos) (tC v):=
 λ_ _ _ H _ I h=>U9 I hg hm hv ⟨v,H,I,r,h⟩ hn hd
variable {a b:Expr} {ta tb:TE} {pos:Pos}
def PC (X:Cx) (op:CmpOp) (a b:Expr) (t:TE):Prop:=
 ∀ (pins:List (Addr × Obj)) (s:Shared) (σ:St) (H:Hp) (Q:VK),Inv X pins σ H s→t σ H Q→
  wpAny (model X.prog X.w) X.A (eval a X.env) (λv s₁=>wpAny (model X.prog X.w) X.A (eval b X.env) (λu s₂=>wpAny (model X.prog X.w) X.A (compareOp op v u) (EP X pins σ Q) X.xe s₂) X.xe s₁) X.xe s
theorem Zfd (b:Expr) {op:CmpOp} (h:op≠.In) (h2:op≠.NotIn):behindInMarks op b=false:=by
 have e1:(op==CmpOp.In)=false:=by cases op <;> first | rfl | exact absurd rfl h
 have e2:(op==CmpOp.NotIn)=false:=by cases op <;> first | rfl | exact absurd rfl h2
 cases b <;> simp [behindInMarks,e1,e2]
inductive tBI (Q:Bool→Hp→Prop) (x:V) (H1:Hp):Prop
 | mk (c:_) (h1:x=.bl c) (h2:Q c H1):tBI Q x H1
def tB (t:TE):TT:=λσ H Q=>t σ H λx H1=>tBI Q x H1
theorem Bn {op:CmpOp} {t:TE} (h:PC X op a b t) (h1:behindInMarks op b=false:=by first | exact Zfd _ (by decide) (by decide) | rfl):PT X (.Compare a [op] [b] pos) (tB t):=by
 intro pins s σ H Q I hw
 refine wpAny_isTrue_Compare1 (thn (h pins s σ H _ I hw) λv s1 h1=>thn h1 λu s2 h2=>thn h2 λc s3 ⟨x,H1,I1,r1,q1⟩=>?_) h1
 obtain ⟨d,rfl,q⟩:=q1
 cases r1
 exact uO ⟨H1,I1,q⟩
variable {tA tB':TT} {rest:List Expr}
def tAnd (t u:TT):TT:=λσ H Q=>t σ H λc H1=>if c=true then u σ H1 Q else Q false H1
def tOr (t u:TT):TT:=λσ H Q=>t σ H λc H1=>if c=true then Q true H1 else u σ H1 Q
def tNot (t:TT):TT:=λσ H Q=>t σ H λc H1=>Q (!c) H1
theorem Lb (ha:PT X a tA):PW X (.BoolOp .And [a] pos) tA:=by
 intro wh pins s σ H Q I h
 refine isTrue_and (thn (ha pins s σ H Q I h) λc s1 e=>?_)
 cases c with
 | true=>exact isTrue_and_nil e
 | false=>exact e
theorem Gm (ha:PT X a tA):PW X (.BoolOp .Or [a] pos) tA:=by
 intro wh pins s σ H Q I h
 refine isTrue_or (thn (ha pins s σ H Q I h) λc s1 e=>?_)
 cases c with
 | false=>exact isTrue_or_nil e
 | true=>exact e
theorem Gn (ha:PT X a tA) (hb:PW X (.BoolOp .And (b :: rest) pos) tB'):PW X (.BoolOp .And (a :: b :: rest) pos) (tAnd tA tB'):=by
 intro wh pins s σ H Q I h
 refine isTrue_and (thn (ha pins s σ H _ I h) λc s1 ⟨H1,I1,q1⟩=>?_)
 cases c with
 | true=>exact hb wh pins s1 σ H1 Q I1 q1
 | false=>exact ⟨H1,I1,q1⟩
theorem E9 (ha:PT X a tA) (hb:PW X (.BoolOp .Or (b :: rest) pos) tB'):PW X (.BoolOp .Or (a :: b :: rest) pos) (tOr tA tB'):=by
 intro wh pins s σ H Q I h
 refine isTrue_or (thn (ha pins s σ H _ I h) λc s1 ⟨H1,I1,q1⟩=>?_)
 cases c with
 | true=>exact ⟨H1,I1,q1⟩
 | false=>exact hb wh pins s1 σ H1 Q I1 q1
theorem Pj (ha:PT X a tA):PT X (.UnaryOp .Not a pos) (tNot tA):=by
 intro pins s σ H Q I h
 exact isTrue_not (ha pins s σ H (λc H1=>Q (!c) H1) I h)
inductive Zd2 (tb:TE) (σ:St) (Q:VK) (x:V) (H1:Hp):Prop
 | mk (c:_) (h1:x=.bl c) (h2:if c=true then tb σ H1 Q else Q (.bl false) H1):Zd2 tb σ Q x H1
def Zn0 (ta tb:TE):TE:=λσ H Q=>ta σ H λx H1=>Zd2 tb σ Q x H1
theorem Bp {op} {t:TE} (h:PE X a t):PE X (.BoolOp op [a] pos) t:=λpins s σ H Q I hw=>BoolOp_one (h pins s σ H Q I hw)
theorem Gu (ha:PE X a ta) (hb:PE X (.BoolOp .And (b :: rest) pos) tb):PE X (.BoolOp .And (a :: b :: rest) pos) (Zn0 ta tb):=by
 intro pins s σ H Q I h
 refine BoolOp_and (thn (ha pins s σ H _ I h) λv s1 ⟨x,H1,I1,r1,q1⟩=>?_)
 obtain ⟨c,rfl,q1⟩:=q1
 cases r1
 refine uO ?_
 cases c with
 | true=>exact hb pins s1 σ H1 Q I1 q1
 | false=>exact ⟨.bl false,H1,I1,rfl,q1⟩
end
end L2
namespace L2
open PySem PySem.Spec PyProof.Rows
def SqL (K:W.Frag) (H:Hp) (a:Addr) (xs:List V):Prop:=
 Rd H a (.lst xs)∨
  ∃ (o:Obj) (its:Array Value) (n:Nat),K.lookup a=some o∧o.cls=.type "list"∧o.dict=none∧o.data=.seq its n∧its.size≤sizeLine∧Vals xs its.toList
def SqT (K:W.Frag) (H:Hp) (a:Addr) (xs:List V):Prop:=
 Rd H a (.tup xs)∨
  ∃ (o:Obj) (its:Array Value) (n:Nat),K.lookup a=some o∧o.cls=.type "tuple"∧o.data=.seq its n∧its.size≤sizeLine∧Vals xs its.toList
def absV:Value→Option V
 | .none=>some .non
 | .bool b=>some (.bl b)
 | .int i _=>some (.int i)
 | .str x _=>some (.str x)
 | .bytes b _=>some (.byt b)
 | .float b _=>some (.flt b)
 | .ref a=>some (.ref a)
 | .type n=>some (.ty n)
 | _=>none
theorem RelV.abs {x:V} {u:Value} (r:RelV x u):absV u=some x:=by
 cases x with
 | non=>cases r; rfl
 | bl _=>cases r; rfl
 | int _=>obtain ⟨t,rfl⟩:=r; rfl
 | str _=>obtain ⟨t,rfl⟩:=r; rfl
 | byt _=>obtain ⟨t,rfl⟩:=r; rfl
 | flt _=>obtain ⟨t,rfl⟩:=r; rfl
 | ref _=>cases r; rfl
 | ty _=>cases r; rfl
theorem RelV.inj {x y:V} {u:Value} (r:RelV x u) (q:RelV y u):x=y:=Option.some.inj (r.abs.symm.trans q.abs)
theorem Vals.inj:∀ {xs ys:List V} {us:List Value},Vals xs us→Vals ys us→xs=ys
 | _,_,_,.nil,.nil=>rfl
 | _,_,_,.cons r t,.cons r' t'=>by rw [r.inj r',Vals.inj t t']
section
variable {X:Cx} {pins:List (Addr × Obj)} {σ:St} {H:Hp} {s:Shared} {a:Addr} {xs ys:List V}
theorem SqL.of {K:W.Frag} (h:H a=some (.lst xs)):SqL K H a xs:=.inl (.inl h)
theorem SqT.of {K:W.Frag} (h:H a=some (.tup xs)):SqT K H a xs:=.inl (.inl h)
theorem Inv.list (I:Inv X pins σ H s) (h:SqL X.K H a xs):∃ its:List Value,Vals xs its∧PlainL s.heap a its.toArray∧xs.length≤sizeLine:=by
 rcases h with h | ⟨o,its,n,hk,hc,hd,hs,hz,r⟩
 ·obtain ⟨z,its,n,r,e⟩:=h.ok I.hok
  exact ⟨its,r,⟨_,n,e,rfl,rfl,rfl⟩,z⟩
 ·refine ⟨its.toList,r,⟨o,n,I.kIn a o hk,hc,hd,by simpa using hs⟩,?_⟩
  have e:=r.length
  simp only [yX] at e
  omega
theorem Inv.tuple (I:Inv X pins σ H s) (h:SqT X.K H a xs):∃ its:List Value,Vals xs its∧IsTup s.heap a its.toArray∧xs.length≤sizeLine:=by
 rcases h with h | ⟨o,its,n,hk,hc,hs,hz,r⟩
 ·obtain ⟨z,its,r,p⟩:=h.ok I.hok
  exact ⟨its,r,p,z⟩
 ·refine ⟨its.toList,r,⟨o,I.kIn a o hk,hc,n,by simpa using hs⟩,?_⟩
  have e:=r.length
  simp only [yX] at e
  omega
theorem Inv.Dz (I:Inv X pins σ H s) (h:SqL X.K H a xs) (h':SqL X.K H a ys):xs=ys:=by
 obtain ⟨its,r,⟨o,n,e,_,_,d⟩,_⟩:=I.list h
 obtain ⟨its',r',⟨o',n',e',_,_,d'⟩,_⟩:=I.list h'
 rw [e] at e'; cases e'
 rw [d] at d'
 injection d' with d1 _
 have:its=its':=by simpa using congrArg Array.toList d1
 subst this
 exact r.inj r'
theorem Inv.Qp (I:Inv X pins σ H s) (h:SqT X.K H a xs) (h':SqT X.K H a ys):xs=ys:=by
 obtain ⟨its,r,⟨o,e,_,n,d⟩,_⟩:=I.tuple h
 obtain ⟨its',r',⟨o',e',_,n',d'⟩,_⟩:=I.tuple h'
 rw [e] at e'; cases e'
 rw [d] at d'
 injection d' with d1 _
 have:its=its':=by simpa using congrArg Array.toList d1
 subst this
 exact r.inj r'
end
abbrev Cx.Jn (X:Cx) (E:Value→Shared→Prop):Cx:={ X with xe:=E }
abbrev Cx.nox (X:Cx):Cx:=X.Jn λ_ _=>False
theorem Cx.Ok.Jn {X:Cx} (ok:X.Ok) (E:Value→Shared→Prop):(X.Jn E).Ok:=
 ⟨ok.mod,ok.kind,ok.glob,ok.blt,ok.above,ok.inj,ok.has,ok.cab,ok.hd,ok.frames,ok.stk,ok.exf,ok.bs,ok.bsz,ok.Br,ok.An,ok.Pp,ok.frf⟩
theorem Cx.Ok.Ri {X:Cx} {E:Value→Shared→Prop} (ok:(X.Jn E).Ok):X.Ok:=
 ⟨ok.mod,ok.kind,ok.glob,ok.blt,ok.above,ok.inj,ok.has,ok.cab,ok.hd,ok.frames,ok.stk,ok.exf,ok.bs,ok.bsz,ok.Br,ok.An,ok.Pp,ok.frf⟩
section
variable {X:Cx} {pins:List (Addr × Obj)} {σ:St} {H:Hp} {s:Shared} {E:Value→Shared→Prop}
theorem Inv.Jn (I:Inv X pins σ H s) (E:Value→Shared→Prop):Inv (X.Jn E) pins σ H s:=⟨I.ok.Jn E,I.os,I.bare,I.base,I.loc,I.cell,I.free,I.V3,I.pin,I.hok,I.len⟩
theorem Inv.Ri (I:Inv (X.Jn E) pins σ H s):Inv X pins σ H s:=⟨I.ok.Ri,I.os,I.bare,I.base,I.loc,I.cell,I.free,I.V3,I.pin,I.hok,I.len⟩
theorem SP.Ri {D:Ends} {f:Flow} {s':Shared} (h:SP (X.Jn E) pins D f s'):SP X pins D f s':=by
 cases f with
 | next=>obtain ⟨σ',H',I,q⟩:=h; exact ⟨σ',H',I.Ri,q⟩
 | brk=>obtain ⟨σ',H',I,q⟩:=h; exact ⟨σ',H',I.Ri,q⟩
 | cont=>obtain ⟨σ',H',I,q⟩:=h; exact ⟨σ',H',I.Ri,q⟩
 | ret u=>obtain ⟨v,σ',H',I,r,q⟩:=h; exact ⟨v,σ',H',I.Ri,r,q⟩
theorem PSs.nox {st:List Stmt} {t:TS} (h:PSs X.nox st t):PSs X st t:=λpins s σ H D I hw=>
 wK (h pins s σ H D (I.Jn _) hw) (λ_ _ q=>q.Ri) λ_ _ z=>False.elim z
end
section
variable {X:Cx} {st:Stmt} {rest:List Stmt} {t u:TS} {e:Expr} {te:TE} {pos:Pos}
def Znu:TS:=λD σ H=>D.nx σ H
def Zt (t u:TS):TS:=λD σ H=>t { D with nx:=u D } σ H
theorem Yv:PSs X [] Znu:=λ_ _ σ H _ I h=>uY ⟨σ,H,I,h⟩
theorem Ze (h1:PS X st t) (h2:PSs X rest u):PSs X (st :: rest) (Zt t u):=by
 intro pins s σ H D I h
 refine wpAny_execs_cons (thn (h1 pins s σ H { D with nx:=u D } I h) λf s1 q=>?_)
 cases f with
 | next=>
  obtain ⟨σ',H',I',q⟩:=q
  exact h2 pins s1 σ' H' D I' q
 | ret v=>exact q
 | brk=>exact q
 | cont=>exact q
theorem Zj (h1:PS X st t):PSs X [st] t:=by
 intro pins s σ H D I h
 refine wpAny_execs_cons (thn (h1 pins s σ H D I h) λf s1 q=>?_)
 cases f with
 | next=>exact uY q
 | ret v=>exact q
 | brk=>exact q
 | cont=>exact q
theorem Inv.quiet {pins:List (Addr × Obj)} {σ:St} {H:Hp} {s:Shared} (I:Inv X pins σ H s):interactive X.env=false:=by simp [interactive,I.ok.kind]
def Znx (te:TE):TS:=λD σ H=>te σ H λ_ H1=>D.nx σ H1
theorem Xw (he:PE X e te) (hs:swapsWith e none pos.line X.env=pure false:=by rfl):PS X (.Expr e pos) (Znx te):=by
 intro pins s σ H D I h
 exact wpAny_Expr_any (thn (he pins s σ H _ I h) λv s1 ⟨x,H1,I1,r1,q1⟩=>⟨σ,H1,I1,q1⟩) I.quiet hs
def tRet (te:TE):TS:=λD σ H=>te σ H D.rt
theorem Zz (he:PE X e te):PS X (.Return (some e) pos) (tRet te):=by
 intro pins s σ H D I h
 exact wpAny_Return_some (thn (he pins s σ H _ I h) λv s1 ⟨x,H1,I1,r1,q1⟩=>⟨x,σ,H1,I1,r1,q1⟩)
def Eh (c:TT) (t u:TS):TS:=λD σ H=>c σ H λb H1=>if b=true then t D σ H1 else u D σ H1
theorem X5 {c:Expr} {a b:List Stmt} {tc:TT} (hc:PT X c tc) (ha:PSs X a t) (hb:PSs X b u):PS X (.If c a b pos) (Eh tc t u):=by
 intro pins s σ H D I h
 refine wpAny_If (thn (hc pins s σ H _ I h) λd s1 ⟨H1,I1,q1⟩=>?_)
 cases d with
 | true=>exact ha pins s1 σ H1 D I1 q1
 | false=>exact hb pins s1 σ H1 D I1 q1
end
abbrev TG:=V→St→Hp→(St→Hp→Prop)→Prop
abbrev TGs:=List V→St→Hp→(St→Hp→Prop)→Prop
def PG (X:Cx) (target:Expr) (t:TG):Prop:=
 ∀ (pins:List (Addr × Obj)) (s:Shared) (σ:St) (H:Hp) (v:V) (u:Value) (Q:St→Hp→Prop),Inv X pins σ H s→RelV v u→t v σ H Q→
  wpAny (model X.prog X.w) X.A (assign target X.env u) (λ_ s'=>∃ σ' H',Inv X pins σ' H' s'∧Q σ' H') X.xe s
def PGs (X:Cx) (ts:List Expr) (t:TGs):Prop:=
 ∀ (pins:List (Addr × Obj)) (s:Shared) (σ:St) (H:Hp) (vs:List V) (us:List Value) (Q:St→Hp→Prop),Inv X pins σ H s→Vals vs us→t vs σ H Q→
  wpAny (model X.prog X.w) X.A (assignInOrder ((assignEach ts X.env).map (·.2)) us) (λ_ s'=>∃ σ' H',Inv X pins σ' H' s'∧Q σ' H') X.xe s
abbrev Zni:=V→V→V→Hp→(Hp→Prop)→Prop
def Zqb (X:Cx) (t:Zni):Prop:=
 ∀ (pins:List (Addr × Obj)) (s:Shared) (σ:St) (H:Hp) (o i v:V) (ov iv u:Value) (Q:Hp→Prop),Inv X pins σ H s→RelV o ov→RelV i iv→RelV v u→t o i v H Q→
  wpAny (model X.prog X.w) X.A (setItem ov iv u) (λ_ s'=>∃ H',Inv X pins σ H' s'∧Q H') X.xe s
section
variable {X:Cx} {pos:Pos}
def Mp (i:Nat):TG:=λv σ H Q=>Q (σ.set i (some v)) H
theorem Zl {i:Nat} {x:Str} (hN:X.N.Nodup) (hi:X.N[i]? = some x) (hx:Loc X.env.scope x) (hf:X.fn x=true∨X.env.scope.names.lookup x=some .local:=by first | exact .inl rfl | exact .inr rfl | assumption):PG X (.Name x pos) (Mp i):=by
 intro pins s σ H v u Q I r h
 exact wpAny_assign_Name (Rj I hN hi hx r (λs' I'=>⟨_,H,I',h⟩) hf)
def Zmx:TGs:=λvs σ H Q=>vs=[]∧Q σ H
inductive Zf1 (t:TG) (u:TGs) (vs:List V) (σ:St) (H:Hp) (Q:St→Hp→Prop):Prop
 | mk (v r:_) (h1:vs=v :: r) (h2:t v σ H λσ' H'=>u r σ' H' Q):Zf1 t u vs σ H Q
def Zby (t:TG) (u:TGs):TGs:=λvs σ H Q=>Zf1 t u vs σ H Q
theorem Vp:PGs X [] Zmx:=by
 intro pins s σ H vs us Q I r h
 obtain ⟨e,h⟩:=h
 subst e
 cases r
 exact assignInOrder_nil ⟨σ,H,I,h⟩
theorem Yg {e:Expr} {es:List Expr} {t:TG} {u:TGs} (h1:PG X e t) (h2:PGs X es u)
  (hs:(assignEach (e :: es) X.env).map (·.2)=assign e X.env :: (assignEach es X.env).map (·.2):=by rfl):PGs X (e :: es) (Zby t u):=by
 intro pins s σ H vs us Q I r h
 obtain ⟨v,vr,e1,h⟩:=h
 subst e1
 cases r with
 | cons r rr=>
  rw [hs]
  refine assignInOrder_cons (thn (h1 pins s σ H _ _ _ I r h) λ_ s1 ⟨σ1,H1,I1,q1⟩=>?_)
  exact h2 pins s1 σ1 H1 _ _ Q I1 rr q1
inductive Zka (K:W.Frag) (n:Nat) (t:TGs) (v:V) (σ:St) (H:Hp) (Q:St→Hp→Prop):Prop
 | mk (a xs:_) (h1:v=.ref a) (h2:SqT K H a xs) (h3:xs.length=n) (h4:t xs σ H Q):Zka K n t v σ H Q
def Zit (K:W.Frag) (n:Nat) (t:TGs):TG:=λv σ H Q=>Zka K n t v σ H Q
theorem Zlk {es:List Expr} {k:Nat} {t:TGs} {n:Nat} (hc:X.calm=true) (h:PGs X es t)
  (hn:(assignEach es X.env).length=n:=by rfl) (hst:(assignEach es X.env).findIdx? (·.1)=none:=by rfl):PG X (.Tuple es k pos) (Zit X.K n t):=by
 intro pins s σ H v u Q I r hw
 obtain ⟨a,xs,e1,hq,hl,hw⟩:=hw
 subst e1
 cases r
 obtain ⟨its,rv,ht,hz⟩:=I.tuple hq
 refine assign_Tuple_tuple (I.ok.hd hc) ht (by simp [hn,← hl,rv.length]) hst λh' hx=>?_
 have I1:Inv X pins σ H { s with heap:=h' }:=I.kept (t':=s.toks) λb o e=>hx b o (yH (zL e)) e
 exact h pins _ σ H xs _ Q I1 (by simpa using rv) hw
def gSub (to ti:TE) (t:Zni):TG:=λv σ H Q=>to σ H λo H1=>ti σ H1 λi H2=>t o i v H2 λH3=>Q σ H3
theorem Rq {o i:Expr} {to ti:TE} {t:Zni} (ho:PE X o to) (hi:PE X i ti) (hs:Zqb X t)
  (ha:∀ v,assign (.Subscript o i pos) X.env v=(do
   let ov ← holding [v] (eval o X.env)
   let iv ← holding [v,ov] (eval i X.env)
   standAt pos
   holding [v,ov,iv] (setItem ov iv v)
   release [v,ov,iv] []):=by intro _; rfl):PG X (.Subscript o i pos) (gSub to ti t):=by
 intro pins s σ H v u Q I r h
 rw [ha]
 refine zB (xQ (thn (ho pins s σ H _ I h) λov s1 ⟨x,H1,I1,r1,q1⟩=>?_))
 refine zB (xQ (thn (hi pins s1 σ H1 _ I1 q1) λiv s2 ⟨y,H2,I2,r2,q2⟩=>?_))
 refine zB (uU (zB (xQ (thn (hs pins s2 σ H2 x y v ov iv u _ I2 r1 r2 r q2) λ_ s3 ⟨H3,I3,q3⟩=>?_))))
 exact wpAny_release ⟨σ,H3,I3,q3⟩
def Zk1 (te:TE) (g:TG):TS:=λD σ H=>te σ H λx H1=>g x σ H1 D.nx
theorem Ug {tg e:Expr} {te:TE} {g:TG} (he:PE X e te) (hg:PG X tg g) (hs:swapsWithSole [tg] e pos.line X.env=pure false:=by rfl) (hw:swappedStores [tg] e X.env=pure none:=by rfl)
  (h1:(assignEach [tg] X.env).map (·.2)=[assign tg X.env]:=by rfl):PS X (.Assign [tg] e pos) (Zk1 te g):=by
 intro pins s σ H D I h
 refine wpAny_Assign_stores (thn (he pins s σ H _ I h) λv s1 ⟨x,H1,I1,r1,q1⟩=>?_) hs hw
 rw [h1]
 exact thn (hg pins s1 σ H1 x v _ I1 r1 q1) λ_ s2 q=>q
theorem Zm {i:Nat} {x:Str} {e:Expr} {te:TE} {pos':Pos} (hN:X.N.Nodup) (hi:X.N[i]? = some x) (hx:Loc X.env.scope x) (he:PE X e te) (hs:swapsWith e (some (.Name x pos')) pos.line X.env=pure false:=by rfl) (hf:X.fn x=true∨X.env.scope.names.lookup x=some .local:=by first | exact .inl rfl | exact .inr rfl | assumption) :
  PS X (.Assign [.Name x pos'] e pos) (Zk1 te (Mp i)):=by
 intro pins s σ H D I h
 refine wpAny_Assign_Name (thn (he pins s σ H _ I h) λv s1 ⟨y,H1,I1,r1,q1⟩=>?_) hs
 exact Rj I1 hN hi hx r1 (λs2 I2=>⟨_,H1,I2,q1⟩) hf
end
section
variable {X:Cx} {pos:Pos}
inductive Zao (c:TT) (tb:TS) (D:Ends) (σ:St) (H:Hp):Prop
 | mk (W:Nat→St→Hp→Prop) (h1:(∃ m,W m σ H)) (h2:∀ m σ H,W m σ H→c σ H λb H1=>if b=true then ∃ N:St→Hp→Prop,(∀ σ' H',N σ' H'→∃ m',m' < m∧W m' σ' H')∧tb { D with nx:=N,ct:=N,bk:=D.nx } σ H1 else D.nx σ H1):Zao c tb D σ H
def Nh (c:TT) (tb:TS):TS:=λD σ H=>Zao c tb D σ H
theorem Ro {c:Expr} {body:List Stmt} {tc:TT} {tb:TS} (hp:PassesOwn (model X.prog X.w) X.A X.env X.xe) (hc:PT X c tc) (hb:PSs X body tb):PS X (.While c body [] pos) (Nh tc tb):=by
 intro pins s σ H D I h
 obtain ⟨W,⟨m0,w0⟩,turn⟩:=h
 refine wpAny_While (codeAny_whileLoop (λn s'=>∃ σ' H',Inv X pins σ' H' s'∧W n σ' H') ?_ m0 ⟨σ,H,I,w0⟩)
 rintro n s1 ⟨σ1,H1,I1,w1⟩
 refine vH hp (thn (hc pins s1 σ1 H1 _ I1 (turn n σ1 H1 w1)) λb s2 ⟨H2,I2,q2⟩=>?_)
 cases b with
 | true=>
  obtain ⟨N,hN,q2⟩:=q2
  rw [if_pos rfl]
  refine vH hp (thn (hb pins s2 σ1 H2 _ I2 q2) λf s3 q3=>?_)
  cases f with
  | next=>
   obtain ⟨σ3,H3,I3,n3⟩:=q3
   obtain ⟨m',hm,w3⟩:=hN σ3 H3 n3
   exact ⟨m',hm,σ3,H3,I3,w3⟩
  | cont=>
   obtain ⟨σ3,H3,I3,n3⟩:=q3
   obtain ⟨m',hm,w3⟩:=hN σ3 H3 n3
   exact ⟨m',hm,σ3,H3,I3,w3⟩
  | brk=>exact q3
  | ret v=>exact q3
 | false=>
  rw [if_neg zP]
  exact uY ⟨σ1,H2,I2,q2⟩
end
structure It where
 go:Nat→Hp→Prop
 yld:Nat→Hp→V→Hp→Prop
 stop:Nat→Hp→Prop
def Jj (X:Cx) (pins:List (Addr × Obj)) (H:Hp) (b:Addr):Prop:=
 H b=none∧b≠X.env.locals∧b∉X.fs∧(b∈X.ex∨X.s₀.heap.objs.size≤b)∧(∀ x c,X.env.cells.lookup x=some c→c≠b)∧∀ p∈X.pn ++ pins,p.1≠b
theorem Inv.N9 {X:Cx} {pins:List (Addr × Obj)} {σ:St} {H H':Hp} {s:Shared} {b:Addr} (I:Inv X pins σ H s) (hb:s.heap.objs.size≤b) (hn:H' b=none):Jj X pins H' b:=by
 refine ⟨hn,vW (yA I.lt hb),I.Zoq hb,.inr (yG I.sz hb),λx c e z=>?_,λp hp z=>?_⟩
 ·obtain ⟨v,q⟩:=I.cell x c e
  exact absurd (yA q.lt (by rw [z]; exact hb)) (wM _)
 ·exact absurd (yA (zL (I.pin p hp).1) (by rw [z]; exact hb)) (wM _)
structure Turn (P:Program) (w:World) (K:W.Frag) (tg:Expr) (J:It) (fp:List Addr) (it:Addr) (tn:Nat→Heap→Prop):Prop where
 mem:it∈fp
 obj:∀ i h,tn i h→∀ b∈fp,∃ o,h.get? b=some o∧∀ v,o.data≠.cell v
 keep:∀ i h h',tn i h→(∀ b∈fp,∀ o,h.get? b=some o→h'.get? b=some o)→tn i h'
 item:∀ (X:Cx),X.prog=P→X.w=w→X.K=K→X.calm=true→∀ (i:Nat) (pins:List (Addr × Obj)) (s:Shared) (σ:St) (H:Hp) (E:Value→Shared→Prop),Inv X pins σ H s→(∀ b∈fp,Jj X pins H b)→tn i s.heap→J.go i H→
  wpAny (model P w) X.A (pyNext (.ref it)) (λr s1=>∃ u,r=some u∧
   wpAny (model P w) X.A (letOwnedTupleGo tg (.ref it) u) (λ_ s2=>∃ x H',Inv X pins σ H' s2∧RelV x u∧J.yld i H x H'∧tn (i+1) s2.heap∧∀ b∈fp,H' b=none) E s1) E s
 done:∀ (X:Cx),X.prog=P→X.w=w→X.K=K→X.calm=true→∀ (i:Nat) (pins:List (Addr × Obj)) (s:Shared) (σ:St) (H:Hp) (E:Value→Shared→Prop),Inv X pins σ H s→(∀ b∈fp,Jj X pins H b)→tn i s.heap→J.stop i H→
  wpAny (model P w) X.A (pyNext (.ref it)) (λr s1=>r=none∧Inv X pins σ H s1) E s
 self:∀ (A:Around) (i:Nat) (s:Shared) (Q:Value→Shared→Prop) (E:Value→Shared→Prop),tn i s.heap→Q (.ref it) s→wpAny (model P w) A (pyIter (.ref it)) Q E s
abbrev TI:=St→Hp→(It→Hp→Prop)→Prop
def PIE (X:Cx) (pins:List (Addr × Obj)) (σ:St) (tg:Expr) (R:It→Hp→Prop) (itv:Value) (s2:Shared):Prop:=
 ∃ (it:Addr) (fp:List Addr) (tn:Nat→Heap→Prop) (J:It) (H':Hp),itv=.ref it∧Inv X pins σ H' s2∧Turn X.prog X.w X.K tg J fp it tn∧tn 0 s2.heap∧(∀ b∈fp,Jj X pins H' b)∧R J H'
def PI (X:Cx) (tg iter:Expr) (wi:TI):Prop:=
 ∀ (pins:List (Addr × Obj)) (s:Shared) (σ:St) (H:Hp) (R:It→Hp→Prop),Inv X pins σ H s→wi σ H R→
  wpAny (model X.prog X.w) X.A (eval iter X.env) (λv s1=>wpAny (model X.prog X.w) X.A (pyIter v) (PIE X pins σ tg R) X.xe s1) X.xe s
theorem Hc {M:Model} {A:Around} {E:Value→Shared→Prop} {s:Shared} {tg:Expr} {it:Addr} {u:Value} {o:Obj} {n:String} {vs:Array Value} {Q:Unit→Shared→Prop} (ho:s.heap.get? it=some o) (hc:o.cls=.type n) (hd:o.data=.fields vs)
  (hn:["enumerate","zip","dict_itemiterator","dict_reverseitemiterator","odict_iterator","itertools.zip_longest","itertools.pairwise"].contains n=false) (hQ:Q () s):wpAny M A (letOwnedTupleGo tg (.ref it) u) Q E s:=by
 unfold letOwnedTupleGo
 cases tg <;> first
  | exact zH hQ
  | (cases u <;> first
    | exact zH hQ
    | (refine zB (wpAny_load ho ?_)
       rw [hc,hd]
       show wpAny M A (if (["enumerate","zip","dict_itemiterator","dict_reverseitemiterator","odict_iterator","itertools.zip_longest","itertools.pairwise"].contains n && vs[0]? == some (rawInt _))=true then _ else _) Q E s
       rw [if_neg (by intro h; rw [hn,Bool.false_and] at h; cases h)]
       exact zH hQ))
def Itl (K:W.Frag) (a:Addr):It:=
 ⟨λi H=>∃ xs x,SqL K H a xs∧xs[i]? = some x,λi H x H'=>H'=H∧∀ xs,SqL K H a xs→xs[i]? = some x,λi H=>∃ xs,SqL K H a xs∧xs.length≤i⟩
def Itt (K:W.Frag) (a:Addr):It:=
 ⟨λi H=>∃ xs x,SqT K H a xs∧xs[i]? = some x,λi H x H'=>H'=H∧∀ xs,SqT K H a xs→xs[i]? = some x,λi H=>∃ xs,SqT K H a xs∧xs.length≤i⟩
def Itr (lo:Int) (n:Nat):It:=⟨λi _=>i < n,λi H x H'=>H'=H∧x=.int (lo+i),λi _=>n≤i⟩
theorem Zcf {P:Program} {w:World} {K:W.Frag} {tg:Expr} (a it:Addr):Turn P w K tg (Itl K a) [it] it (λi h=>h.IsListIter it a i) where
 mem:=by simp
 obj:=λi h st b hb=>by
  have e:b=it:=by simpa using hb
  subst e
  obtain ⟨o,e,c,d⟩:=st
  exact ⟨o,e,λv z=>by rw [d] at z; cases z⟩
 keep:=λi h h' st k=>st.at λo e=>k it (by simp) o e
 item:=by
  intro X hP hw hK hc i pins s σ H E I hf st hg
  subst hP hw hK
  obtain ⟨xs,x,hq,hx⟩:=hg
  obtain ⟨its,rv,p,hz⟩:=I.list hq
  obtain ⟨u,hu,ru⟩:=rv.get hx
  obtain ⟨f0,f1,f2,f3,f4,f5⟩:=hf it (by simp)
  refine wpAny_pyNext_list_item st p.isList (x:=u) (by simpa using hu) λh' st' sb=>?_
  have I1:Inv X pins σ H { s with heap:=h' }:=I.turned (t':=s.toks) (λb o hb e=>(sb.2 b hb).trans e) f0 f1 f3 f4 f5
  obtain ⟨o,e,c,d⟩:=id st'
  exact ⟨u,rfl,Hc (s:={ s with heap:=h' }) e c d (by decide) ⟨x,H,I1,ru,⟨rfl,λys hy=>by rw [I.Dz hy hq]; exact hx⟩,st',λb hb=>(hf b hb).1⟩⟩
 done:=by
  intro X hP hw hK hc i pins s σ H E I hf st hg
  subst hP hw hK
  obtain ⟨xs,hq,hx⟩:=hg
  obtain ⟨its,rv,p,hz⟩:=I.list hq
  obtain ⟨f0,f1,f2,f3,f4,f5⟩:=hf it (by simp)
  have hl:=rv.length
  exact wpAny_pyNext_list_end (I.ok.hd hc) st p.isList (by simp; omega) λh' eb=>⟨rfl,I.turned (t':=s.toks) (λb o hb e=>eb b o hb e) f0 f1 f3 f4 f5⟩
 self:=λ_ _ _ _ _ st h=>wpAny_pyIter_listiter st h
theorem C5 {P:Program} {w:World} {K:W.Frag} {tg:Expr} (a it:Addr):Turn P w K tg (Itt K a) [it] it (λi h=>h.IsTupleIter it a i) where
 mem:=by simp
 obj:=λi h st b hb=>by
  have e:b=it:=by simpa using hb
  subst e
  obtain ⟨o,e,c,d⟩:=st
  exact ⟨o,e,λv z=>by rw [d] at z; cases z⟩
 keep:=λi h h' st k=>st.at λo e=>k it (by simp) o e
 item:=by
  intro X hP hw hK hc i pins s σ H E I hf st hg
  subst hP hw hK
  obtain ⟨xs,x,hq,hx⟩:=hg
  obtain ⟨its,rv,p,hz⟩:=I.tuple hq
  obtain ⟨u,hu,ru⟩:=rv.get hx
  obtain ⟨f0,f1,f2,f3,f4,f5⟩:=hf it (by simp)
  refine wpAny_pyNext_tuple_item st (show s.heap.IsTuple a its.toArray from p) (x:=u) (by simpa using hu) λh' st' sb=>?_
  have I1:Inv X pins σ H { s with heap:=h' }:=I.turned (t':=s.toks) (λb o hb e=>(sb.2 b hb).trans e) f0 f1 f3 f4 f5
  obtain ⟨o,e,c,d⟩:=id st'
  exact ⟨u,rfl,Hc (s:={ s with heap:=h' }) e c d (by decide) ⟨x,H,I1,ru,⟨rfl,λys hy=>by rw [I.Qp hy hq]; exact hx⟩,st',λb hb=>(hf b hb).1⟩⟩
 done:=by
  intro X hP hw hK hc i pins s σ H E I hf st hg
  subst hP hw hK
  obtain ⟨xs,hq,hx⟩:=hg
  obtain ⟨its,rv,p,hz⟩:=I.tuple hq
  obtain ⟨f0,f1,f2,f3,f4,f5⟩:=hf it (by simp)
  have hl:=rv.length
  exact wpAny_pyNext_tuple_end (I.ok.hd hc) st (show s.heap.IsTuple a its.toArray from p) (by simp; omega) λh' eb=>⟨rfl,I.turned (t':=s.toks) (λb o hb e=>eb b o hb e) f0 f1 f3 f4 f5⟩
 self:=λ_ _ _ _ _ st h=>wpAny_pyIter_tupleiter st h
theorem C6 {P:Program} {w:World} {K:W.Frag} {tg:Expr} (it:Addr) (lo:Int) (n:Nat):Turn P w K tg (Itr lo n) [it] it (λi h=>IsRangeIter h it (lo+(i:Nat) * 1) ((n:Int) - (i:Nat)) 1) where
 mem:=by simp
 obj:=λi h st b hb=>by
  have e:b=it:=by simpa using hb
  subst e
  exact ⟨_,st,λv z=>by
   have z':Data.fields _=Data.cell v:=z
   cases z'⟩
 keep:=λi h h' st k=>k it (by simp) _ st
 item:=by
  intro X hP hw hK hc i pins s σ H E I hf st hg
  subst hP hw hK
  obtain ⟨f0,f1,f2,f3,f4,f5⟩:=hf it (by simp)
  have W:=Walks.range (prog:=X.prog) (w:=X.w) (I.ok.hd hc) it lo 1 n
  refine W.item i s _ _ hg st λv h' tk hv st' kk=>?_
  obtain ⟨t,rfl⟩:=hv
  have I1:Inv X pins σ H { s with heap:=h',toks:=tk }:=I.turned (λb o hb e=>kk b o (by simpa using hb) e) f0 f1 f3 f4 f5
  refine ⟨_,rfl,Hc (s:={ s with heap:=h',toks:=tk }) (n:="range_iterator") st' rfl rfl (by decide) ⟨.int (lo+i),H,I1,⟨t,?_⟩,⟨rfl,rfl⟩,st',λb hb=>(hf b hb).1⟩⟩
  rw [Int.mul_one]
 done:=by
  intro X hP hw hK hc i pins s σ H E I hf st hg
  subst hP hw hK
  obtain ⟨f0,f1,f2,f3,f4,f5⟩:=hf it (by simp)
  exact wpAny_pyNext_range_end (I.ok.hd hc) st (by have:n≤i:=hg; omega) λh' eb=>⟨rfl,I.turned (t':=s.toks) (λb o hb e=>eb b o hb e) f0 f1 f3 f4 f5⟩
 self:=λ_ _ _ _ _ st h=>wpAny_pyIter_rangeiter st h
end L2
namespace L2
open PySem PySem.Spec PyProof.Rows
section
variable {X:Cx} {tg:Expr}
inductive Zfp (K:W.Frag) (R:It→Hp→Prop) (x:V) (H1:Hp):Prop
 | mk (a:_) (h1:x=.ref a) (h2:(∃ xs,SqL K H1 a xs)) (h3:R (Itl K a) H1):Zfp K R x H1
def Zj9 (K:W.Frag) (tl:TE):TI:=λσ H R=>tl σ H λx H1=>Zfp K R x H1
inductive Zj8 (K:W.Frag) (R:It→Hp→Prop) (x:V) (H1:Hp):Prop
 | mk (a:_) (h1:x=.ref a) (h2:(∃ xs,SqT K H1 a xs)) (h3:R (Itt K a) H1):Zj8 K R x H1
def Zou (K:W.Frag) (tl:TE):TI:=λσ H R=>tl σ H λx H1=>Zj8 K R x H1
theorem Zhv {l:Expr} {tl:TE} (hl:PE X l tl):PI X tg l (Zj9 X.K tl):=by
 intro pins s σ H R I h
 refine thn (hl pins s σ H _ I h) λv s1 ⟨x,H1,I1,r1,q1⟩=>?_
 obtain ⟨a,e,⟨xs,hq⟩,q⟩:=q1
 subst e
 cases r1
 obtain ⟨its,rv,p,hz⟩:=I1.list hq
 refine wpAny_pyIter_list p.isList ?_
 refine ⟨s1.heap.objs.size,[s1.heap.objs.size],_,_,H1,rfl,I1.kept (t':=s1.toks) λb o e=>zG _ e,Zcf a _,⟨_,zN _ rfl,rfl,rfl⟩,λb hb=>?_,q⟩
 have e:b=s1.heap.objs.size:=by simpa using hb
 subst e
 exact I1.N9 (zI _) (I1.hok.fresh (zI _))
theorem Zlj {l:Expr} {tl:TE} (hl:PE X l tl):PI X tg l (Zou X.K tl):=by
 intro pins s σ H R I h
 refine thn (hl pins s σ H _ I h) λv s1 ⟨x,H1,I1,r1,q1⟩=>?_
 obtain ⟨a,e,⟨xs,hq⟩,q⟩:=q1
 subst e
 cases r1
 obtain ⟨its,rv,p,hz⟩:=I1.tuple hq
 refine uF (show s1.heap.IsTuple a its.toArray from p) ?_
 refine ⟨s1.heap.objs.size,[s1.heap.objs.size],_,_,H1,rfl,I1.kept (t':=s1.toks) λb o e=>zG _ e,C5 a _,⟨_,zN _ rfl,rfl,rfl⟩,λb hb=>?_,q⟩
 have e:b=s1.heap.objs.size:=by simpa using hb
 subst e
 exact I1.N9 (zI _) (I1.hok.fresh (zI _))
theorem Zef {pins:List (Addr × Obj)} {σ:St} {H:Hp} {s:Shared} {R:It→Hp→Prop} {E:Value→Shared→Prop} {lo hi:Int} {t u v:Tok} {tk:Nat} (I:Inv X pins σ H s) (h1 : -(2 ^ 62)≤lo) (h2:lo < 2 ^ 62) (h3 : -(2 ^ 62)≤hi) (h4:hi < 2 ^ 62)
  (q:R (Itr lo (hi - lo).toNat) H):wpAny (model X.prog X.w) X.A (pyIter (.ref s.heap.objs.size)) (PIE X pins σ tg R) E { s with heap:=s.heap.push { cls:=.type "range",data:=.fields #[.int lo t,.int hi u,.int 1 v] },toks:=tk }:=by
 refine wpAny_pyIter_range (IsRange.new ..) (small_one h1 h2 h3 h4) ?_
 have I1:Inv X pins σ H { s with heap:=s.heap.push { cls:=.type "range",data:=.fields #[.int lo t,.int hi u,.int 1 v] },toks:=tk }:=I.kept λb o e=>zG _ e
 refine ⟨(s.heap.push { cls:=.type "range",data:=.fields #[.int lo t,.int hi u,.int 1 v] }).objs.size,[(s.heap.push { cls:=.type "range",data:=.fields #[.int lo t,.int hi u,.int 1 v] }).objs.size],_,_,H,rfl,
  I1.kept (t':=tk) λb o e=>zG _ e,C6 _ lo (hi - lo).toNat,?_,λb hb=>?_,q⟩
 ·have e1:lo+((0:Nat):Int) * 1=lo:=by simp
  have e2:(((hi - lo).toNat:Nat):Int) - ((0:Nat):Int)=Builtin.Range.rangeSize lo hi 1:=by rw [rangeSize_one]; split <;> omega
  show IsRangeIter _ _ (lo+((0:Nat):Int) * 1) ((((hi - lo).toNat:Nat):Int) - ((0:Nat):Int)) 1
  rw [e1,e2]
  exact zN _ rfl
 ·have e:b=(s.heap.push { cls:=.type "range",data:=.fields #[.int lo t,.int hi u,.int 1 v] }).objs.size:=by simpa using hb
  subst e
  exact I1.N9 (zI _) (I1.hok.fresh (zI _))
inductive Zfo (R:It→Hp→Prop) (vs:List V) (H1:Hp):Prop
 | mk (j:Int) (h1:vs=[.int j]) (h2 : -(2 ^ 62)≤j) (h3:j < 2 ^ 62) (h4:R (Itr 0 j.toNat) H1):Zfo R vs H1
def Zov (ta:TA):TI:=λσ H R=>ta σ H λvs H1=>Zfo R vs H1
theorem Xe {a:Expr} {ta:TA} {p pos:Pos} (hg:Gl X "range") (hm:X.mg "range" = none) (ha:PA X [a] ta) (hs:starEach [a] X.env=[(false,eval a X.env)]:=by rfl):PI X tg (.Call (.Name "range" p) [a] [] pos) (Zov ta):=by
 intro pins s σ H R I h
 refine Call_ (U9 I hg hm boot_range (xM (thn (ha pos pins s σ H _ I h) λus s1 ⟨vs,H1,I1,r1,q1⟩=>?_) hs rfl))
 obtain ⟨j,e,q1,q2,q⟩:=q1
 subst e
 cases r1 with
 | cons r rr=>
  cases rr
  obtain ⟨t,rfl⟩:=r
  exact call_range_1 (Zef I1 (by omega) (by omega) q1 q2 (by simpa using q))
def Jp (wi:TI) (g:TG) (tb:TS):TS:=λD σ H=>wi σ H λJ H1=>∃ W:Nat→Nat→St→Hp→Prop,(∃ m,W 0 m σ H1)∧∀ i m σ H,W i m σ H→
 (J.stop i H∧D.nx σ H)∨(J.go i H∧∃ N:St→Hp→Prop,(∀ σ' H',N σ' H'→∃ m',m' < m∧W (i+1) m' σ' H')∧∀ x H',J.yld i H x H'→g x σ H' λσ2 H2=>tb { D with nx:=N,ct:=N,bk:=D.nx } σ2 H2)
def Np (fp:List Addr) (h:Heap):List (Addr × Obj):=fp.filterMap λb=>(h.get? b).map λo=>(b,o)
theorem Sj {fp:List Addr} {h:Heap} {b:Addr} {o:Obj} (hb:b∈fp) (e:h.get? b=some o):(b,o)∈Np fp h:=List.mem_filterMap.mpr ⟨b,hb,by rw [e]; rfl⟩
theorem Zct {fp:List Addr} {h:Heap} {p:Addr × Obj} (hp:p∈Np fp h):p.1∈fp∧h.get? p.1=some p.2:=by
 obtain ⟨b,hb,e⟩:=List.mem_filterMap.mp hp
 cases q:h.get? b with
 | none=>rw [q] at e; cases e
 | some o=>
  rw [q] at e
  have e':(b,o)=p:=Option.some.inj e
  subst e'
  exact ⟨hb,q⟩
theorem Inv.pinned {pins:List (Addr × Obj)} {σ:St} {H:Hp} {s:Shared} {fp:List Addr} (I:Inv X pins σ H s) (hf:∀ b∈fp,Jj X pins H b) (ho:∀ b∈fp,∃ o,s.heap.get? b=some o∧∀ v,o.data≠.cell v):Inv X (pins ++ Np fp s.heap) σ H s:=
 I.Ld λp hp=>(yS.mp hp).elim (λz=>I.pin p (yL _ z)) λz=>by
  obtain ⟨hb,e⟩:=Zct z
  obtain ⟨f0,f1,f2,_⟩:=hf p.1 hb
  obtain ⟨o,e',d⟩:=ho p.1 hb
  rw [e] at e'; cases e'
  exact ⟨e,f0,f1,f2,d⟩
theorem Inv.Lq {pins pl:List (Addr × Obj)} {σ:St} {H:Hp} {s:Shared} (I:Inv X (pins ++ pl) σ H s):Inv X pins σ H s:=I.Ld λp hp=>I.pin p (yL _ (wV _ hp))
theorem Xq {iter:Expr} {body:List Stmt} {wi:TI} {g:TG} {tb:TS} {pos:Pos} (hp:PassesOwn (model X.prog X.w) X.A X.env X.xe) (hc:X.calm=true) (hi:PI X tg iter wi) (hg:PG X tg g) (hb:PSs X body tb)
  (hs:∀ x,foldedSetIterable iter X.env x=pure x:=by intro _; rfl):PS X (.For tg iter body [] pos) (Jp wi g tb):=by
 intro pins s σ H D I h
 refine wpAny_For (thn (hi pins s σ H _ I h) λv s1 h1=>thn h1 λitv s2 h2=>?_) hs
 obtain ⟨it,fp,tn,J,H2,e,I2,T,st2,f2,W,⟨m0,w0⟩,turn⟩:=h2
 subst e
 have Bd:∀ {H':Hp},(∀ b∈fp,H' b=none)→∀ b∈fp,Jj X pins H' b:=λhn b hb=>⟨hn b hb,(f2 b hb).2⟩
 refine codeAny_forLoop_any (λn s'=>∃ i σ' H',Inv X pins σ' H' s'∧tn i s'.heap∧(∀ b∈fp,H' b=none)∧W i n σ' H') ?_ m0 ⟨0,σ,H2,I2,st2,λb hb=>(f2 b hb).1,w0⟩
 rintro n s3 ⟨i,σ3,H3,I3,st3,fr3,w3⟩
 rcases turn i n σ3 H3 w3 with ⟨stop,qn⟩ | ⟨go,N,hN,step⟩
 ·refine vH hp (thn (T.done X rfl rfl rfl hc i pins s3 σ3 H3 X.xe I3 (Bd fr3) st3 stop) λr s4 ⟨hr,I4⟩=>?_)
  subst hr
  exact uY ⟨σ3,H3,I4,qn⟩
 ·refine vH hp (thn (T.item X rfl rfl rfl hc i pins s3 σ3 H3 X.xe I3 (Bd fr3) st3 go) λr s4 ⟨u,hr,h4⟩=>?_)
  subst hr
  refine vH hp (thn h4 λ_ s5 ⟨x,H5,I5,r5,y5,st5,fr5⟩=>?_)
  have I5':=I5.pinned (Bd fr5) (T.obj _ _ st5)
  refine vH hp (thn (hg _ s5 σ3 H5 x u _ I5' r5 (step x H5 y5)) λ_ s6 ⟨σ6,H6,I6,q6⟩=>?_)
  refine vH hp (thn (hb _ s6 σ6 H6 _ I6 q6) λf s7 q7=>?_)
  have again:∀ {σ7:St} {H7:Hp},Inv X (pins ++ Np fp s5.heap) σ7 H7 s7→N σ7 H7→∃ m,m < n∧∃ i σ' H',Inv X pins σ' H' s7∧tn i s7.heap∧(∀ b∈fp,H' b=none)∧W i m σ' H':=λ{σ7 H7} I7 n7=>by
   obtain ⟨m',hm,w7⟩:=hN σ7 H7 n7
   refine ⟨m',hm,i+1,σ7,H7,I7.Lq,T.keep _ _ _ st5 λb hb o e=>(I7.pin (b,o) (yL _ (yL _ (Sj hb e)))).1,λb hb=>?_,w7⟩
   obtain ⟨o,e,d⟩:=T.obj _ _ st5 b hb
   exact (I7.pin (b,o) (yL _ (yL _ (Sj hb e)))).2.1
  cases f with
  | next=>obtain ⟨σ7,H7,I7,n7⟩:=q7; exact again I7 n7
  | cont=>obtain ⟨σ7,H7,I7,n7⟩:=q7; exact again I7 n7
  | brk=>obtain ⟨σ7,H7,I7,q7⟩:=q7; exact ⟨σ7,H7,I7.Lq,q7⟩
  | ret v=>obtain ⟨x7,σ7,H7,I7,r7,q7⟩:=q7; exact ⟨x7,σ7,H7,I7.Lq,r7,q7⟩
end
theorem O1 {K:W.Frag} {a:Addr} {xs:List V} {g:TG} {tb:TS} {D:Ends} {σ:St} {H:Hp} (Pv:Nat→St→Hp→Prop) (h0:Pv 0 σ H) (hl:∀ i σ H,i≤xs.length→Pv i σ H→SqL K H a xs)
  (hs:∀ i x σ H,xs[i]? = some x→Pv i σ H→g x σ H λσ2 H2=>tb { D with nx:=Pv (i+1),ct:=Pv (i+1),bk:=D.nx } σ2 H2) (hd:∀ σ H,Pv xs.length σ H→D.nx σ H) :
  ∃ W:Nat→Nat→St→Hp→Prop,(∃ m,W 0 m σ H)∧∀ i m σ H,W i m σ H→
   ((Itl K a).stop i H∧D.nx σ H)∨((Itl K a).go i H∧∃ N:St→Hp→Prop,(∀ σ' H',N σ' H'→∃ m',m' < m∧W (i+1) m' σ' H')∧∀ x H',(Itl K a).yld i H x H'→g x σ H' λσ2 H2=>tb { D with nx:=N,ct:=N,bk:=D.nx } σ2 H2):=by
 refine ⟨λi m σ H=>m=xs.length - i∧i≤xs.length∧Pv i σ H,⟨xs.length,by simp,yV _,h0⟩,?_⟩
 rintro i m σ H ⟨rfl,hi,p⟩
 have q:=hl i σ H hi p
 by_cases hlt:i < xs.length
 ·refine .inr ⟨⟨xs,xs[i],q,by simp [hlt]⟩,Pv (i+1),λσ' H' p'=>⟨xs.length - (i+1),by omega,rfl,hlt,p'⟩,λx H' y=>?_⟩
  obtain ⟨e,y⟩:=y
  subst e
  exact hs i x σ _ (y xs q) p
 ·have e:i=xs.length:=by omega
  subst e
  exact .inl ⟨⟨xs,q,zI _⟩,hd σ H p⟩
theorem Ll {K:W.Frag} {a:Addr} {xs:List V} {g:TG} {tb:TS} {D:Ends} {σ:St} {H:Hp} (Pv:Nat→St→Hp→Prop) (h0:Pv 0 σ H) (hl:∀ i σ H,i≤xs.length→Pv i σ H→SqT K H a xs)
  (hs:∀ i x σ H,xs[i]? = some x→Pv i σ H→g x σ H λσ2 H2=>tb { D with nx:=Pv (i+1),ct:=Pv (i+1),bk:=D.nx } σ2 H2) (hd:∀ σ H,Pv xs.length σ H→D.nx σ H) :
  ∃ W:Nat→Nat→St→Hp→Prop,(∃ m,W 0 m σ H)∧∀ i m σ H,W i m σ H→
   ((Itt K a).stop i H∧D.nx σ H)∨((Itt K a).go i H∧∃ N:St→Hp→Prop,(∀ σ' H',N σ' H'→∃ m',m' < m∧W (i+1) m' σ' H')∧∀ x H',(Itt K a).yld i H x H'→g x σ H' λσ2 H2=>tb { D with nx:=N,ct:=N,bk:=D.nx } σ2 H2):=by
 refine ⟨λi m σ H=>m=xs.length - i∧i≤xs.length∧Pv i σ H,⟨xs.length,by simp,yV _,h0⟩,?_⟩
 rintro i m σ H ⟨rfl,hi,p⟩
 have q:=hl i σ H hi p
 by_cases hlt:i < xs.length
 ·refine .inr ⟨⟨xs,xs[i],q,by simp [hlt]⟩,Pv (i+1),λσ' H' p'=>⟨xs.length - (i+1),by omega,rfl,hlt,p'⟩,λx H' y=>?_⟩
  obtain ⟨e,y⟩:=y
  subst e
  exact hs i x σ _ (y xs q) p
 ·have e:i=xs.length:=by omega
  subst e
  exact .inl ⟨⟨xs,q,zI _⟩,hd σ H p⟩
theorem Sb {lo:Int} {n:Nat} {g:TG} {tb:TS} {D:Ends} {σ:St} {H:Hp} (Pv:Nat→St→Hp→Prop) (h0:Pv 0 σ H)
  (hs:∀ i σ H,i < n→Pv i σ H→g (.int (lo+i)) σ H λσ2 H2=>tb { D with nx:=Pv (i+1),ct:=Pv (i+1),bk:=D.nx } σ2 H2) (hd:∀ σ H,Pv n σ H→D.nx σ H) :
  ∃ W:Nat→Nat→St→Hp→Prop,(∃ m,W 0 m σ H)∧∀ i m σ H,W i m σ H→
   ((Itr lo n).stop i H∧D.nx σ H)∨((Itr lo n).go i H∧∃ N:St→Hp→Prop,(∀ σ' H',N σ' H'→∃ m',m' < m∧W (i+1) m' σ' H')∧∀ x H',(Itr lo n).yld i H x H'→g x σ H' λσ2 H2=>tb { D with nx:=N,ct:=N,bk:=D.nx } σ2 H2):=by
 refine ⟨λi m σ H=>m=n - i∧i≤n∧Pv i σ H,⟨n,by simp,yV _,h0⟩,?_⟩
 rintro i m σ H ⟨rfl,hi,p⟩
 by_cases hlt:i < n
 ·refine .inr ⟨hlt,Pv (i+1),λσ' H' p'=>⟨n - (i+1),by omega,rfl,hlt,p'⟩,λx H' y=>?_⟩
  obtain ⟨e,y⟩:=y
  subst e y
  exact hs i σ _ hlt p
 ·have e:i=n:=by omega
  subst e
  exact .inl ⟨zI _,hd σ H p⟩
end L2
namespace L2
open PySem PySem.Spec PyProof.Rows
abbrev R2:=V→V→Hp→VK→Prop
def OpR (X:Cx) (f:Value→Value→Sem Value) (r:R2):Prop:=
 ∀ (pins:List (Addr × Obj)) (s:Shared) (σ:St) (H:Hp) (x y:V) (v u:Value) (Q:VK),Inv X pins σ H s→RelV x v→RelV y u→r x y H Q→
  wpAny (model X.prog X.w) X.A (f v u) (EP X pins σ Q) X.xe s
def UnR (X:Cx) (f:Value→Sem Value) (r:V→Hp→VK→Prop):Prop:=
 ∀ (pins:List (Addr × Obj)) (s:Shared) (σ:St) (H:Hp) (x:V) (v:Value) (Q:VK),Inv X pins σ H s→RelV x v→r x H Q→
  wpAny (model X.prog X.w) X.A (f v) (EP X pins σ Q) X.xe s
def Xx (X:Cx) (f:Value) (r:List V→Hp→VK→Prop):Prop:=
 ∀ (pins:List (Addr × Obj)) (s:Shared) (σ:St) (H:Hp) (xs:List V) (us:List Value) (Q:VK),Inv X pins σ H s→Vals xs us→r xs H Q→
  wpAny (model X.prog X.w) X.A (call f us) (EP X pins σ Q) X.xe s
def TruR (X:Cx) (r:V→Hp→(Bool→Hp→Prop)→Prop):Prop:=
 ∀ (pins:List (Addr × Obj)) (s:Shared) (σ:St) (H:Hp) (x:V) (v:Value) (Q:Bool→Hp→Prop),Inv X pins σ H s→RelV x v→r x H Q→
  wpAny (model X.prog X.w) X.A (truthy v) (TP X pins σ Q) X.xe s
def tOp (r:R2) (ta tb:TE):TE:=λσ H Q=>ta σ H λx H1=>tb σ H1 λy H2=>r x y H2 Q
def tUn (r:V→Hp→VK→Prop) (ta:TE):TE:=λσ H Q=>ta σ H λx H1=>r x H1 Q
inductive rII (C:Int→Int→Prop) (g:Int→Int→V) (x:V) (y:V) (H:Hp) (Q:VK):Prop
 | mk (i j:_) (h1:x=.int i) (h2:y=.int j) (h3:C i j) (h4:Q (g i j) H):rII C g x y H Q
def rI (C:Int→Int→Prop) (g:Int→Int→V):R2:=λx y H Q=>rII C g x y H Q
inductive Zog (g:Int→Int→V) (x:V) (y:V) (H:Hp) (Q:VK):Prop
 | mk (i j:_) (h1:x=.int i) (h2:y=.int j) (h3:Q (g i j) H):Zog g x y H Q
def rI0 (g:Int→Int→V):R2:=λx y H Q=>Zog g x y H Q
inductive rUI (g:Int→V) (x:V) (H:Hp) (Q:VK):Prop
 | mk (i:_) (h1:x=.int i) (h2:Q (g i) H):rUI g x H Q
def rU (g:Int→V):V→Hp→VK→Prop:=λx H Q=>rUI g x H Q
section
variable {X:Cx} {a b c:Expr} {ta tb tc:TE} {pos:Pos}
theorem Zne (ha:PE X a ta) (hb:PE X b tb) {pins:List (Addr × Obj)} {s:Shared} {σ:St} {H:Hp} {R:V→V→Hp→Prop} (I:Inv X pins σ H s)
  (h:ta σ H λx H1=>tb σ H1 λy H2=>R x y H2) {Q:Value→Shared→Prop} {f:Value→Value→Sem Value}
  (hf:∀ v u s2 x y H2,Inv X pins σ H2 s2→RelV x v→RelV y u→R x y H2→wpAny (model X.prog X.w) X.A (f v u) Q X.xe s2) :
  wpAny (model X.prog X.w) X.A (eval a X.env) (λv s₁=>wpAny (model X.prog X.w) X.A (eval b X.env) (λu s₂=>wpAny (model X.prog X.w) X.A (f v u) Q X.xe s₂) X.xe s₁) X.xe s:=by
 refine thn (ha pins s σ H _ I h) λv s1 ⟨x,H1,I1,r1,q1⟩=>?_
 refine thn (hb pins s1 σ H1 _ I1 q1) λu s2 ⟨y,H2,I2,r2,q2⟩=>?_
 exact hf v u s2 x y H2 I2 r1 r2 q2
theorem Yd {op:Operator} {r:R2} (ho:OpR X (binaryOp op) r) (ha:PE X a ta) (hb:PE X b tb):PE X (.BinOp a op b pos) (tOp r ta tb):=by
 intro pins s σ H Q I h
 exact wpAny_BinOp (Zne ha hb I h λv u s2 x y H2 I2 rx ry q=>ho pins s2 σ H2 x y v u Q I2 rx ry q)
theorem Zol {op:UnaryOp} {r:V→Hp→VK→Prop} (ho:UnR X (unaryOp op) r) (ha:PE X a ta):PE X (.UnaryOp op a pos) (tUn r ta):=by
 intro pins s σ H Q I h
 exact UnaryOp_ (thn (ha pins s σ H _ I h) λv s1 ⟨x,H1,I1,r1,q1⟩=>ho pins s1 σ H1 x v Q I1 r1 q1)
theorem opI {f:Value→Value→Sem Value} {C:Int→Int→Prop} {g:Int→Int→Int}
  (rule:∀ (i j:Int) (t u:Tok) (s:Shared) (Q:Value→Shared→Prop) (E:Value→Shared→Prop),C i j→Q (.int (g i j) s.toks) { s with toks:=s.toks+1 }→wpAny (model X.prog X.w) X.A (f (.int i t) (.int j u)) Q E s) :
  OpR X f (rI C λi j=>.int (g i j)):=by
 intro pins s σ H x y v u Q I rx ry h
 obtain ⟨i,j,rfl,rfl,hc,q⟩:=h
 obtain ⟨t,rfl⟩:=rx
 obtain ⟨t',rfl⟩:=ry
 exact rule i j t t' s _ _ hc ⟨.int (g i j),H,I.tok _,⟨_,rfl⟩,q⟩
theorem Zoo {f:Value→Value→Sem Value} {g:Int→Int→Int}
  (rule:∀ (i j:Int) (t u:Tok) (s:Shared) (Q:Value→Shared→Prop) (E:Value→Shared→Prop),Q (.int (g i j) s.toks) { s with toks:=s.toks+1 }→wpAny (model X.prog X.w) X.A (f (.int i t) (.int j u)) Q E s) :
  OpR X f (rI0 λi j=>.int (g i j)):=by
 intro pins s σ H x y v u Q I rx ry h
 obtain ⟨i,j,rfl,rfl,q⟩:=h
 obtain ⟨t,rfl⟩:=rx
 obtain ⟨t',rfl⟩:=ry
 exact rule i j t t' s _ _ ⟨.int (g i j),H,I.tok _,⟨_,rfl⟩,q⟩
theorem Zlp {f:Value→Value→Sem Value} {g:Int→Int→Bool}
  (rule:∀ (i j:Int) (t u:Tok) (s:Shared) (Q:Value→Shared→Prop) (E:Value→Shared→Prop),Q (.bool (g i j)) s→wpAny (model X.prog X.w) X.A (f (.int i t) (.int j u)) Q E s) :
  OpR X f (rI0 λi j=>.bl (g i j)):=by
 intro pins s σ H x y v u Q I rx ry h
 obtain ⟨i,j,rfl,rfl,q⟩:=h
 obtain ⟨t,rfl⟩:=rx
 obtain ⟨t',rfl⟩:=ry
 exact rule i j t t' s _ _ ⟨.bl (g i j),H,I,rfl,q⟩
def CDiv (i j:Int):Prop:=0 < j∧j < 1073741824
def CPow (i j:Int):Prop:=0≤j∧j≤1000000∧i.natAbs < 2 ^ 64
def Zno (i j:Int):Prop:=(-(2 ^ 64) < i∧i < 2 ^ 64)∨(-(2 ^ 64) < j∧j < 2 ^ 64)
theorem Zno.ok {i j:Int} (h:Zno i j):IntMulOk i j:=by
 rcases h with ⟨h1,h2⟩ | ⟨h1,h2⟩
 ·exact .of_left (intBits_le_64 h1 h2)
 ·exact .of_right (intBits_le_64 h1 h2)
theorem X8:OpR X (binaryOp .Add) (rI0 λi j=>.int (i+j)):=Zoo λ_ _ _ _ _ _ _ q=>add_int q
theorem Ki:OpR X (binaryOp .Sub) (rI0 λi j=>.int (i - j)):=Zoo λ_ _ _ _ _ _ _ q=>sub_int q
theorem Kj:OpR X (binaryOp .Mult) (rI Zno λi j=>.int (i * j)):=opI λ_ _ _ _ _ _ _ hc q=>mul_int q hc.ok
theorem Lf:OpR X (binaryOp .FloorDiv) (rI CDiv λi j=>.int (i / j)):=opI λi j _ _ _ _ _ hc q=>by
 have h1:(0:Int) < j:=hc.1
 have h2:j < 1073741824:=hc.2
 exact floordiv_int (by omega) (by rw [Int.fdiv_eq_ediv_of_nonneg i (by omega)]; exact q) (.inl (PyProof.noPylong_small (by omega)))
theorem Rr:OpR X (binaryOp .Mod) (rI (λ_ j=>0 < j) λi j=>.int (i % j)):=opI λi j _ _ _ _ _ hc q=>by
 have h1:(0:Int) < j:=hc
 exact mod_int' (by omega) (by rw [Int.fmod_eq_emod_of_nonneg i (by omega)]; exact q)
theorem Zln:OpR X (binaryOp .Pow) (rI CPow λi j=>.int (i ^ j.toNat)):=opI λ_ _ _ _ _ _ _ hc q=>pow_int_small hc.1 hc.2.1 hc.2.2 q
theorem unI {f:Value→Sem Value} {g:Int→Int}
  (rule:∀ (i:Int) (t:Tok) (s:Shared) (Q:Value→Shared→Prop) (E:Value→Shared→Prop),Q (.int (g i) s.toks) { s with toks:=s.toks+1 }→wpAny (model X.prog X.w) X.A (f (.int i t)) Q E s) :
  UnR X f (rU λi=>.int (g i)):=by
 intro pins s σ H x v Q I rx h
 obtain ⟨i,rfl,q⟩:=h
 obtain ⟨t,rfl⟩:=rx
 exact rule i t s _ _ ⟨.int (g i),H,I.tok _,⟨_,rfl⟩,q⟩
theorem Zkl:UnR X (unaryOp .USub) (rU λi=>.int (-i)):=unI λ_ _ _ _ _ q=>neg_int q
end
def Zn4:V→V→Bool
 | .non,.non=>true | .non,.int _=>true | .int _,.non=>true | .non,.bl _=>true | .bl _,.non=>true | .non,.str _=>true | .str _,.non=>true
 | .int _,.int _=>true | .bl _,.bl _=>true | .str _,.str _=>true | .byt _,.byt _=>true
 | .int _,.str _=>true | .str _,.int _=>true | .bl _,.str _=>true | .str _,.bl _=>true
 | _,_=>false
def rEq:R2:=λx y H Q=>Zn4 x y=true∧Q (.bl (decide (x=y))) H
def rNe:R2:=λx y H Q=>Zn4 x y=true∧Q (.bl (!decide (x=y))) H
theorem Zb4 {i j:Int}:decide (V.int i=V.int j)=(i==j):=by
 rw [wG]
 simp
theorem Zgm {i j:Bool}:decide (V.bl i=V.bl j)=(i==j):=by
 rw [wG]
 simp
theorem Zb3 {i j:Str}:decide (V.str i=V.str j)=(i==j):=by
 rw [wG]
 simp
theorem Zb5 {i j:Array UInt8}:decide (V.byt i=V.byt j)=(i.toList==j.toList):=by
 rw [wG]
 cases i
 cases j
 simp
section
variable {X:Cx} {a b c:Expr} {ta tb tc:TE} {pos:Pos}
theorem Yz {pins:List (Addr × Obj)} {σ:St} {H:Hp} {s:Shared} {Q:VK} {k k':Bool} (I:Inv X pins σ H s) (q:Q (.bl k) H) (e:k=k'):EP X pins σ Q (.bool k') s:=by
 subst e
 exact ⟨.bl k,H,I,rfl,q⟩
theorem Vh:OpR X (compareOp .Eq) rEq:=by
 intro pins s σ H x y v u Q I rx ry h
 obtain ⟨hs,q⟩:=h
 cases x with
 | non=>
  cases rx
  cases y with
  | non=>cases ry; exact PySem.EqNone.eq_none_none (Yz I q (by simp))
  | bl j=>cases ry; exact PySem.EqNone.eq_none_bool (Yz I q (by simp))
  | int j=>obtain ⟨t',rfl⟩:=ry; exact PySem.EqNone.eq_none_int (Yz I q (by simp))
  | str j=>obtain ⟨t',rfl⟩:=ry; exact PySem.EqNone.eq_none_str (Yz I q (by simp))
  | _=>exact absurd (show false=true from hs) zP
 | bl i=>
  cases rx
  cases y with
  | non=>cases ry; exact PySem.EqNone.eq_bool_none (Yz I q (by simp))
  | bl j=>cases ry; exact eq_bool (Yz I q Zgm)
  | str j=>obtain ⟨t',rfl⟩:=ry; exact PySem.EqMixed.eq_bool_str (Yz I q (by simp))
  | _=>exact absurd (show false=true from hs) zP
 | int i=>
  obtain ⟨t,rfl⟩:=rx
  cases y with
  | non=>cases ry; exact PySem.EqNone.eq_int_none (Yz I q (by simp))
  | int j=>obtain ⟨t',rfl⟩:=ry; exact eq_int (Yz I q Zb4)
  | str j=>obtain ⟨t',rfl⟩:=ry; exact PySem.EqMixed.eq_int_str (Yz I q (by simp))
  | _=>exact absurd (show false=true from hs) zP
 | str i=>
  obtain ⟨t,rfl⟩:=rx
  cases y with
  | non=>cases ry; exact PySem.EqNone.eq_str_none (Yz I q (by simp))
  | bl j=>cases ry; exact PySem.EqMixed.eq_str_bool (Yz I q (by simp))
  | int j=>obtain ⟨t',rfl⟩:=ry; exact PySem.EqMixed.eq_str_int (Yz I q (by simp))
  | str j=>obtain ⟨t',rfl⟩:=ry; exact eq_str (Yz I q Zb3)
  | _=>exact absurd (show false=true from hs) zP
 | byt i=>
  obtain ⟨t,rfl⟩:=rx
  cases y with
  | byt j=>obtain ⟨t',rfl⟩:=ry; exact W.eq_bytes (Yz I q Zb5)
  | _=>exact absurd (show false=true from hs) zP
 | _=>cases y <;> exact absurd (show false=true from hs) zP
theorem Ir:OpR X (compareOp .NotEq) rNe:=by
 intro pins s σ H x y v u Q I rx ry h
 obtain ⟨hs,q⟩:=h
 cases x with
 | non=>
  cases rx
  cases y with
  | non=>cases ry; exact PySem.EqNone.ne_none_none (Yz I q (by simp))
  | bl j=>cases ry; exact PySem.EqNone.ne_none_bool (Yz I q (by simp))
  | int j=>obtain ⟨t',rfl⟩:=ry; exact PySem.EqNone.ne_none_int (Yz I q (by simp))
  | str j=>obtain ⟨t',rfl⟩:=ry; exact PySem.EqNone.ne_none_str (Yz I q (by simp))
  | _=>exact absurd (show false=true from hs) zP
 | bl i=>
  cases rx
  cases y with
  | non=>cases ry; exact PySem.EqNone.ne_bool_none (Yz I q (by simp))
  | bl j=>cases ry; exact ne_bool (Yz I q (congrArg not Zgm))
  | str j=>obtain ⟨t',rfl⟩:=ry; exact PySem.EqMixed.ne_bool_str (Yz I q (by simp))
  | _=>exact absurd (show false=true from hs) zP
 | int i=>
  obtain ⟨t,rfl⟩:=rx
  cases y with
  | non=>cases ry; exact PySem.EqNone.ne_int_none (Yz I q (by simp))
  | int j=>obtain ⟨t',rfl⟩:=ry; exact ne_int (Yz I q (congrArg not Zb4))
  | str j=>obtain ⟨t',rfl⟩:=ry; exact PySem.EqMixed.ne_int_str (Yz I q (by simp))
  | _=>exact absurd (show false=true from hs) zP
 | str i=>
  obtain ⟨t,rfl⟩:=rx
  cases y with
  | non=>cases ry; exact PySem.EqNone.ne_str_none (Yz I q (by simp))
  | bl j=>cases ry; exact PySem.EqMixed.ne_str_bool (Yz I q (by simp))
  | int j=>obtain ⟨t',rfl⟩:=ry; exact PySem.EqMixed.ne_str_int (Yz I q (by simp))
  | str j=>obtain ⟨t',rfl⟩:=ry; exact ne_str (Yz I q (congrArg not Zb3))
  | _=>exact absurd (show false=true from hs) zP
 | byt i=>
  obtain ⟨t,rfl⟩:=rx
  cases y with
  | byt j=>obtain ⟨t',rfl⟩:=ry; exact W.ne_bytes (Yz I q (congrArg not Zb5))
  | _=>exact absurd (show false=true from hs) zP
 | _=>cases y <;> exact absurd (show false=true from hs) zP
theorem Ze5:OpR X (compareOp .Lt) (rI0 λi j=>.bl (decide (i < j))):=Zlp λ_ _ _ _ _ _ _ q=>lt_int q
theorem Zbb:OpR X (compareOp .Gt) (rI0 λi j=>.bl (decide (j < i))):=Zlp λ_ _ _ _ _ _ _ q=>gt_int q
theorem Zj2:OpR X (compareOp .GtE) (rI0 λi j=>.bl (decide (j≤i))):=Zlp λ_ _ _ _ _ _ _ q=>ge_int q
theorem Yo (b:Expr) {op:CmpOp} (h:op≠.In:=by decide) (h2:op≠.NotIn:=by decide):behindInMarks op b=false:=by
 have e1:(op==CmpOp.In)=false:=by cases op <;> first | rfl | exact absurd rfl h
 have e2:(op==CmpOp.NotIn)=false:=by cases op <;> first | rfl | exact absurd rfl h2
 cases b <;> simp [behindInMarks,e1,e2]
theorem We {op:CmpOp} {r:R2} (ho:OpR X (compareOp op) r) (ha:PE X a ta) (hb:PE X b tb) (hm:behindInMarks op b=false):PE X (.Compare a [op] [b] pos) (tOp r ta tb):=by
 intro pins s σ H Q I h
 exact wpAny_Compare1 (Zne ha hb I h λv u s2 x y H2 I2 rx ry q=>ho pins s2 σ H2 x y v u Q I2 rx ry q) hm
inductive Zdx (Q:Bool→Hp→Prop) (x:V) (H':Hp):Prop
 | mk (k:_) (h1:x=.bl k) (h2:Q k H'):Zdx Q x H'
def Zns (t:TE):TT:=λσ H Q=>t σ H λx H'=>Zdx Q x H'
theorem Yc {op:CmpOp} {r:R2} (ho:OpR X (compareOp op) r) (ha:PE X a ta) (hb:PE X b tb) (hm:behindInMarks op b=false):PT X (.Compare a [op] [b] pos) (Zns (tOp r ta tb)):=by
 intro pins s σ H Q I h
 refine wpAny_isTrue_Compare1 (thn (ha pins s σ H _ I h) λv s1 ⟨x,H1,I1,r1,q1⟩=>thn (hb pins s1 σ H1 _ I1 q1) λu s2 ⟨y,H2,I2,r2,q2⟩=>
  thn (ho pins s2 σ H2 x y v u _ I2 r1 r2 q2) λc s3 ⟨z,H3,I3,r3,k,e,q3⟩=>?_) hm
 subst e
 cases r3
 exact uO ⟨H3,I3,q3⟩
def Znh (K:W.Frag) (x:V) (H:Hp) (k:Bool):Prop:=
 match x with
 | .non=>k=false
 | .bl b=>k=b
 | .int i=>k=(i != 0)
 | .str y=>y.length≤sizeLine∧k=((y.length:Int) != 0)
 | .byt y=>y.size≤sizeLine∧k=((y.size:Int) != 0)
 | .ref p=>(∃ xs,SqL K H p xs∧k = !xs.isEmpty)∨(∃ xs,SqT K H p xs∧k = !xs.isEmpty)∨∃ kvs,H p=some (.dK kvs)∧k = !kvs.isEmpty
 | _=>False
theorem Ac {κ:Type} {kvs:List (κ × V)} {vs:List (κ × Value)} (r:KV kvs vs):(!vs.isEmpty) = !kvs.isEmpty:=by
 cases r <;> rfl
theorem K6 {xs:List V} {its:List Value} (r:Vals xs its):(!its.toArray.isEmpty) = !xs.isEmpty:=by
 cases r <;> simp
theorem Pn:(sizeLine:Nat) < 2 ^ 63:=by rw [sizeLine_eq]; decide
theorem Zkp:TruR X (λx H Q=>∃ k,Znh X.K x H k∧Q k H):=by
 intro pins s σ H x v Q I rx h
 obtain ⟨k,e,q⟩:=h
 have hl:=Pn
 have hs:sizeLine=16777216:=sizeLine_eq
 cases x with
 | non=>
  cases rx
  have e':k=false:=e
  subst e'
  exact truthy_none ⟨H,I,q⟩
 | bl b=>
  cases rx
  have e':k=b:=e
  subst e'
  exact uO ⟨H,I,q⟩
 | int i=>
  obtain ⟨t,rfl⟩:=rx
  have e':k=(i != 0):=e
  subst e'
  exact PySem.P.truthy_int ⟨H,I,q⟩
 | str y=>
  obtain ⟨t,rfl⟩:=rx
  obtain ⟨hy,e'⟩:y.length≤sizeLine∧k=((y.length:Int) != 0):=e
  subst e'
  exact PySem.P.truthy_str (by omega) ⟨H,I.tok _,q⟩
 | byt y=>
  obtain ⟨t,rfl⟩:=rx
  obtain ⟨hy,e'⟩:y.size≤sizeLine∧k=((y.size:Int) != 0):=e
  subst e'
  exact W.truthy_bytes (by omega) ⟨H,I.tok _,q⟩
 | ref p=>
  cases rx
  have e':(∃ xs,SqL X.K H p xs∧k = !xs.isEmpty)∨(∃ xs,SqT X.K H p xs∧k = !xs.isEmpty)∨∃ kvs,H p=some (.dK kvs)∧k = !kvs.isEmpty:=e
  rcases e' with ⟨xs,hx,e'⟩ | ⟨xs,hx,e'⟩ | ⟨kvs,hx,e'⟩
  ·subst e'
   obtain ⟨its,r,pl,hz⟩:=I.list hx
   have hlen:=r.length
   exact wpAny_truthy_list pl.isList (by simp only [zR]; omega) ⟨H,I.tok _,by rw [K6 r]; exact q⟩
  ·subst e'
   obtain ⟨its,r,pl,hz⟩:=I.tuple hx
   have hlen:=r.length
   exact truthy_tuple pl (by simp only [zR]; omega) ⟨H,I.tok _,by rw [K6 r]; exact q⟩
  ·subst e'
   obtain ⟨hz,hS,vs,r,m⟩:kvs.length≤sizeLine∧(p==sysModules)=false∧∃ vs,KV kvs vs∧s.heap.DictOf (Yy X.prog X.w) p vs:=I.hok p _ hx
   have hlen:kvs.length=vs.length:=vM r
   exact wpAny_truthy_dict hS m (by omega) ⟨H,I.tok _,by rw [Ac r]; exact q⟩
 | _=>exact (show False from e).elim
theorem Zeq (ha:PE X a ta) (he:∀ whole,isTrue a X.env whole=(do let v ← whole; standAt a.pos; holding [v] (truthy v))) :
  PT X a (λσ H Q=>ta σ H λx H'=>∃ k,Znh X.K x H' k∧Q k H'):=by
 intro pins s σ H Q I h
 exact isTrue_plain (thn (ha pins s σ H _ I h) λv s1 ⟨x,H1,I1,r1,q1⟩=>Zkp pins s1 σ H1 x v Q I1 r1 q1) (he _)
theorem Uj:OpR X (binaryOp .Add) (λx y H Q=>∃ i j,x=.str i∧y=.str j∧i.length+j.length≤sizeLine∧Q (.str (i ++ j)) H):=by
 intro pins s σ H x y v u Q I rx ry h
 obtain ⟨i,j,rfl,rfl,hz,q⟩:=h
 obtain ⟨t,rfl⟩:=rx
 obtain ⟨t',rfl⟩:=ry
 exact add_str (λt' tk=>⟨.str (i ++ j),H,I.tok _,⟨_,rfl⟩,q⟩) hz
theorem vals1 {x:V} {us:List Value} (r:Vals [x] us):∃ u,us=[u]∧RelV x u:=by
 cases r with
 | cons r1 r2=>cases r2; exact ⟨_,rfl,r1⟩
theorem vals2 {x y:V} {us:List Value} (r:Vals [x,y] us):∃ u w',us=[u,w']∧RelV x u∧RelV y w':=by
 cases r with
 | cons r1 r2=>
  cases r2 with
  | cons r3 r4=>cases r4; exact ⟨_,_,rfl,r1,r3⟩
theorem Q8:Xx X (.type "int") (λxs H Q=>(∃ i,xs=[.int i]∧Q (.int i) H)∨∃ k,xs=[.bl k]∧Q (.int (if k then 1 else 0)) H):=by
 intro pins s σ H xs us Q I r h
 rcases h with ⟨i,rfl,q⟩ | ⟨k,rfl,q⟩
 ·obtain ⟨u,rfl,t,rfl⟩:=vals1 r
  exact call_int_int ⟨.int i,H,I,⟨_,rfl⟩,q⟩
 ·obtain ⟨u,rfl,r1⟩:=vals1 r
  cases r1
  exact call_int_bool ⟨.int (if k then 1 else 0),H,I.tok _,⟨_,rfl⟩,q⟩
end
end L2
namespace L2
open PySem PySem.Spec PyProof.Rows
structure Znk (h:Heap) (x dx C:Addr) (mA:Str→Option Value):Prop where
 obj:h.get? x=some (W.instObj C dx)
 ns:h.Ns1 dx mA
 ne:dx≠x
theorem Iw {h:Heap} {dx:Addr} {mA:Str→Option Value} (n:h.Ns1 dx mA):∃ od,h.get? dx=some od∧∀ name,W.lookIn name od=some (mA name):=by
 obtain ⟨o,es,ep,ho,hd,hk,_,hm⟩:=n
 refine ⟨o,ho,λname=>?_⟩
 have e:=hm name
 unfold nsFind findBy at e
 rw [← Array.find?_toList] at e
 unfold W.lookIn
 rw [hd]
 dsimp only
 split
 ·rename_i y q
  rw [q] at e
  exact congrArg some e
 ·rename_i q
  rw [q] at e
  have a:es.toList.any (·.refKey)=false:=by
   rw [List.any_eq_false]
   intro y hy
   obtain ⟨z,t,Aj⟩:=hk y (Array.mem_toList_iff.mp hy)
   simp [DictEntry.refKey,Aj]
  have a':¬ es.toList.any (·.refKey)=true:=by rw [a]; exact zP
  rw [if_neg a']
  exact congrArg some e
theorem Znk.look {h:Heap} {x dx C:Addr} {mA:Str→Option Value} (I:Znk h x dx C mA):∃ od,W.InstAt h x (W.instObj C dx) C (some od)∧∀ name,W.lookIn name od=some (mA name):=
 let ⟨od,ho,hl⟩:=Iw I.ns
 ⟨od,⟨I.obj,rfl,rfl,ho⟩,hl⟩
section
variable {prog:Program} {w:World} {A:Around} {E:Value→Shared→Prop} {s:Shared} {K:W.Frag} {x dx C f:Addr} {mA:Str→Option Value} {name:Str} {v:Value}
end
theorem Px.some_of {v:V} {o:Option Value} (r:Px (some v) o):∃ u,o=some u∧RelV v u:=by
 cases o with
 | none=>exact (show False from r).elim
 | some u=>exact ⟨u,rfl,r⟩
section
variable {P:Program} {w:World} {H H':Hp} {h h':Heap} {a C dx:Addr} {fs fs':List (Str × V)}
theorem Zbs (hok:HOk P w H h) (e:H a=some (.ins C dx fs)):∃ mA,Znk h a dx C mA∧(∀ f,Px (fs.lookup f) (mA f))∧PySem.Within mA (fs.map (·.1))∧fs.length≤1000∧H dx=some (.own a):=by
 obtain ⟨d,z,ne,ob,mA,n,r,q⟩:=(show Yl P w H h a (.ins C dx fs) from hok a _ e)
 exact ⟨mA,⟨ob,n,ne⟩,r,q,z,d⟩
end
structure Cls (K:W.Frag) (C:Addr):Prop where
 pg:W.plainGet K C Str.empty=true
 hd:W.hasDictIn K C=true
 po:W.plainOver K C=true
 sa:W.findIn K (.ref C) "__setattr__" = some (some (.builtin "object.__setattr__"))
theorem Cls.get {K:W.Frag} {C:Addr} (c:Cls K C) (f:Str):W.plainGet K C f=true:=c.pg
section
variable {X:Cx} {pins:List (Addr × Obj)} {σ:St} {H:Hp} {s:Shared} {a C dx:Addr} {fs:List (Str × V)} {f:Str} {v:V} {A:Around} {E:Value→Shared→Prop}
end
section
variable {X:Cx} {o e value:Expr} {f:Str} {pos pos' tpos:Pos} {ta tv:TE}
end
section
variable {X:Cx} {pins:List (Addr × Obj)} {σ:St} {H:Hp} {s:Shared} {A:Around} {E:Value→Shared→Prop} {Q:Value→Shared→Prop} {c:Value} {b:Bool}
inductive Nc (K:W.Frag) (H:Hp):V→Value→Prop where
 | non:Nc K H .non (.type "NoneType")
 | bl (x:Bool):Nc K H (.bl x) (.type "bool")
 | int (i:Int):Nc K H (.int i) (.type "int")
 | str (x:Str):Nc K H (.str x) (.type "str")
 | flt (x:UInt64):Nc K H (.flt x) (.type "float")
 | lst {a:Addr} {xs:List V} (e:H a=some (.lst xs)):Nc K H (.ref a) (.type "list")
 | frz {a:Addr} {o:Obj} {xs:List V} (e:H a=some (.frz o (.lst xs))):Nc K H (.ref a) (.type "list")
 | tup {a:Addr} {xs:List V} (e:H a=some (.tup xs)):Nc K H (.ref a) (.type "tuple")
 | dK {a:Addr} {kvs:List (Key × V)} (e:H a=some (.dK kvs)):Nc K H (.ref a) (.type "dict")
 | dT {a:Addr} {kvs:List (List Key × V)} (e:H a=some (.dT kvs)):Nc K H (.ref a) (.type "dict")
 | ins {a C dx:Addr} {fs:List (Str × V)} (e:H a=some (.ins C dx fs)) (cl:Cls K C) (ha:W.findIn K (.ref C) "__class__" = some (some (.builtin "object.__class__")))
   (hn:W.specialIn K (.builtin "object.__class__") "__get__" = some (some (.builtin "getset_descriptor.__get__"))) (htk:W.takesIn K (.builtin "object.__class__")=some true)
   (hm:W.mroIn K C (.type "object")=some true):Nc K H (.ref a) (.ref C)
theorem Zc0 {x:V} {u t:Value} (I:Inv X pins σ H s) (rx:RelV x u) (ty:Nc X.K H x t) (e:W.kitOne X.K t c=some b) (h:∀ tk,Q (.bool b) { s with toks:=tk }) :
  wpAny (model X.prog X.w) A (call (.builtin "isinstance") [u,c]) Q E s:=by
 cases ty with
 | non=>cases (show u=Value.none from rx); exact vE W.kitx_none I.kIn True.intro e (λz=>nomatch z) h
 | bl y=>cases (show u=Value.bool y from rx); exact vE W.kitx_bool I.kIn True.intro e (λz=>nomatch z) h
 | int i=>obtain ⟨t,q⟩:=(show ∃ t,u=Value.int i t from rx); cases q; exact vE W.kitx_int I.kIn True.intro e (λz=>nomatch z) h
 | str y=>obtain ⟨t,q⟩:=(show ∃ t,u=Value.str y t from rx); cases q; exact vE W.kitx_str I.kIn True.intro e (λz=>nomatch z) h
 | flt y=>obtain ⟨t,q⟩:=(show ∃ t,u=Value.float y t from rx); cases q; exact vE W.kitx_float I.kIn True.intro e (λz=>nomatch z) h
 | @lst a xs ea=>
  cases (show u=Value.ref a from rx)
  obtain ⟨_,_,n,_,h1⟩:=(show Yl X.prog X.w H s.heap a (.lst xs) from I.hok a _ ea)
  exact vE W.kitx_list I.kIn ⟨_,h1,rfl⟩ e (λz=>nomatch z) h
 | @frz a ob xs ea=>
  cases (show u=Value.ref a from rx)
  obtain ⟨_,_,_,n,_,h1⟩:=(show Yl X.prog X.w H s.heap a (.frz ob (.lst xs)) from I.hok a _ ea)
  exact vE W.kitx_list I.kIn ⟨_,h1,rfl⟩ e (λz=>nomatch z) h
 | @tup a xs ea=>
  cases (show u=Value.ref a from rx)
  obtain ⟨_,_,_,p⟩:=(show Yl X.prog X.w H s.heap a (.tup xs) from I.hok a _ ea)
  obtain ⟨o,h1,h2,_⟩:=p
  exact vE W.kitx_tuple I.kIn ⟨o,h1,h2⟩ e (λz=>nomatch z) h
 | @dK a kvs ea=>
  cases (show u=Value.ref a from rx)
  obtain ⟨_,_,vs,_,p⟩:=(show Yl X.prog X.w H s.heap a (.dK kvs) from I.hok a _ ea)
  obtain ⟨o,es,ep,h1,h2,_⟩:=p
  exact vE W.kitx_dict I.kIn ⟨o,h1,h2.1⟩ e (λz=>nomatch z) h
 | @dT a kvs ea=>
  cases (show u=Value.ref a from rx)
  obtain ⟨_,_,xs,_,o,es,ep,h1,h2,_⟩:=(show Yl X.prog X.w H s.heap a (.dT kvs) from I.hok a _ ea)
  exact vE W.kitx_dict I.kIn ⟨o,h1,h2.1⟩ e (λz=>nomatch z) h
 | @ins a C dx fs ea cl ha hn htk hm=>
  cases (show u=Value.ref a from rx)
  obtain ⟨mA,O,_⟩:=Zbs I.hok ea
  obtain ⟨od,J,_⟩:=O.look
  exact vE (W.kitx_own (cl.get _) cl.hd ha hn htk hm) I.kIn J e (λz=>nomatch z) h
end
end L2
namespace L2
open PySem PySem.Spec PyProof.Rows
structure Wx (k:Nat) (A:Around):Prop where
 hd:A.handled=none
 dp:A.depth+3 * k+5 < recursionLimit
 un:A.units+16 * k+200 < cLine
theorem Wx.mono {j k:Nat} {A:Around} (r:Wx k A) (h:j≤k):Wx j A:=⟨r.hd,by have:=r.dp; omega,by have:=r.un; omega⟩
theorem Wx.deeper {k:Nat} {A:Around} (r:Wx (k+1) A) (env:Env):Wx k (A.deeper env):=
 ⟨r.hd,by have:=r.dp; show A.depth+1+3 * k+5 < _; omega,by have:=r.un; show A.units+3+16 * k+200 < _; omega⟩
theorem Wx.depth {k:Nat} {A:Around} (r:Wx k A):A.depth < recursionLimit:=by have:=r.dp; omega
theorem Wx.units {k:Nat} {A:Around} (r:Wx k A):A.units+64 < cLine:=by have:=r.un; omega
def Zhf:TA:=λ_ H Q=>Q [] H
def Ei (ta:TE) (tr:TA):TA:=λσ H Q=>ta σ H λx H1=>tr σ H1 λxs H2=>Q (x :: xs) H2
section
variable {X:Cx} {e:Expr} {es:List Expr} {te:TE} {t:TA} {pos:Pos}
theorem Zc:PA X [] Zhf:=λ_ _ _ _ H Q I h=>tQ ⟨[],H,I,.nil,h⟩
theorem Za (ha:PE X e te) (hr:PA X es t) (hs:starEach (e :: es) X.env=(false,eval e X.env) :: starEach es X.env:=by rfl):PA X (e :: es) (Ei te t):=by
 intro pos pins s σ H Q I h
 rw [hs]
 show wpAny _ _ (spliced ((false,eval e X.env) :: backTo pos (starEach es X.env))) _ _ s
 refine vF (thn (ha pins s σ H _ I h) λu s1 ⟨x,H1,I1,r1,q1⟩=>?_)
 exact thn (hr pos pins s1 σ H1 _ I1 q1) λus s2 ⟨xs,H2,I2,r2,q2⟩=>⟨x :: xs,H2,I2,.cons r1 r2,q2⟩
def tTup (t:TA):TE:=λσ H Q=>t σ H λxs H1=>xs.length≤sizeLine∧∀ p,H1 p=none→Q (.ref p) (upd H1 p (.tup xs))
def tLst (t:TA):TE:=λσ H Q=>t σ H λxs H1=>xs.length≤sizeLine∧∀ p,H1 p=none→Q (.ref p) (upd H1 p (.lst xs))
theorem Ww {x1} (h:PA X es t):PE X (.Tuple es x1 pos) (tTup t):=by
 intro pins s σ H Q I hq
 refine wpAny_Tuple_spliced (thn (h pos pins s σ H _ I hq) λus s1 ⟨xs,H1,I1,r,z,q⟩=>⟨by rw [← r.length]; exact z,?_⟩)
 have hf:H1 s1.heap.objs.size=none:=I1.hok.fresh (zI _)
 refine ⟨.ref s1.heap.objs.size,upd H1 s1.heap.objs.size (.tup xs),I1.laid (t':=s1.toks) (λb u e=>zG _ e) (zI _) ?_,rfl,q _ hf⟩
 exact ⟨z,us,r,⟨_,zN _ rfl,rfl,_,rfl⟩⟩
theorem X2 (h:PA X es t):PE X (.List es pos) (tLst t):=by
 intro pins s σ H Q I hq
 refine wpAny_List_spliced (thn (h pos pins s σ H _ I hq) λus s1 ⟨xs,H1,I1,r,z,q⟩=>⟨by rw [← r.length]; exact z,?_⟩)
 have hf:H1 s1.heap.objs.size=none:=I1.hok.fresh (zI _)
 refine ⟨.ref s1.heap.objs.size,upd H1 s1.heap.objs.size (.lst xs),I1.laid (t':=s1.toks) (λb u e=>zG _ e) (zI _) ?_,rfl,q _ hf⟩
 exact ⟨z,us,0,r,zN _ rfl⟩
end
abbrev Sp:=List V→Hp→VK→XK→Prop
abbrev CXT:=List Env→Hp→Shared→XK→Value→Shared→Prop
structure Zah (P:Program) (w:World) (K:W.Frag) (mg:Str→Option Value) (base:Heap) (A:Around) (outer:List Env) (s:Shared) (H:Hp):Prop where
 frames:A.frames=some outer
 mod:Mod K mg base
 bs:∀ b o,base.get? b=some o→s.heap.get? b=some o∧H b=none
 bsz:base.objs.size≤s.heap.objs.size
 Pp:s.heap.FunFrames base outer
 frf:∀ b∈frs outer,H b=none
 hok:HOk P w H s.heap
 bare:AllBare s.gens
def CE (outer:List Env) (P:Program) (w:World) (H:Hp) (s:Shared) (Q:VK) (u:Value) (s':Shared):Prop:=
 ∃ v H',s'.os=s.os∧AllBare s'.gens∧Un (frs outer) [] H H' s.heap s'.heap∧HOk P w H' s'.heap∧RelV v u∧Q v H'
def CR (CX:CXT) (outer:List Env) (P:Program) (w:World) (H:Hp) (s:Shared) (Q:VK) (E:XK) (r:Result) (s':Shared):Prop:=
 match r with
 | .ok (.ret u)=>CE outer P w H s Q u s'
 | .ok _=>False
 | .error e=>CX outer H s E e s'
structure Yt (P:Program) (w:World) (K:W.Frag) (mg:Str→Option Value) (base:Heap) (CX:CXT) (k:Nat) (f:Addr) (fd:FuncData) (ps:List Str) (sp:Sp):Prop where
 len:∀ vs H Q E,sp vs H Q E→vs.length=ps.length
 run:∀ (A:Around) (outer:List Env) (s:Shared) (H:Hp) (args:Args) (us:List Value) (vs:List V) (Q:VK) (E:XK),Wx k A→Zah P w K mg base A outer s H→BindsTo s fd args (ps.zip us)→Vals vs us→sp vs H Q E→
  codeAny (model P w) A (.call (.ref f) args) (CR CX outer P w H s Q E) s
theorem Yt.mono {P:Program} {w:World} {K:W.Frag} {mg:Str→Option Value} {base:Heap} {CX:CXT} {j k:Nat} {f:Addr} {fd:FuncData} {ps:List Str} {sp:Sp} (F:Yt P w K mg base CX j f fd ps sp) (h:j≤k) :
  Yt P w K mg base CX k f fd ps sp:=⟨F.len,λA outer s H args us vs Q E hr=>F.run A outer s H args us vs Q E (hr.mono h)⟩
theorem Yt.imp {P:Program} {w:World} {K:W.Frag} {mg:Str→Option Value} {base:Heap} {CX:CXT} {k:Nat} {f:Addr} {fd:FuncData} {ps:List Str} {sp sp':Sp} (F:Yt P w K mg base CX k f fd ps sp)
  (h:∀ vs H Q E,sp' vs H Q E→sp vs H Q E):Yt P w K mg base CX k f fd ps sp':=
 ⟨λvs H Q E q=>F.len vs H Q E (h _ _ _ _ q),λA outer s H args us vs Q E hr he hb hv hs=>F.run A outer s H args us vs Q E hr he hb hv (h _ _ _ _ hs)⟩
section
variable {X:Cx} {pins:List (Addr × Obj)} {σ:St} {H:Hp} {s s':Shared}
theorem Inv.Zpo (I:Inv X pins σ H s):Zah X.prog X.w X.K X.mg X.base X.A X.stack s H:=
 ⟨I.ok.frames,I.ok.mod,I.bs,yG I.ok.bsz I.sz,I.stack,I.M7,I.hok,I.bare⟩
theorem Inv.after {Q:VK} {u:Value} (I:Inv X pins σ H s) (h:CE X.stack X.prog X.w H s Q u s'):EP X pins σ Q u s':=by
 obtain ⟨v,H',os,bare,un,hok,r,q⟩:=h
 obtain ⟨hh,g,d,t,os'⟩:=s'
 obtain rfl:os'=s.os:=os
 exact ⟨v,H',I.call (h':=hh) (g':=g) (d':=d) (t':=t) (ch:=[]) un hok bare (λb z=>absurd z (by simp)),r,q⟩
end
def Zd1 (sp:Sp) (dvs:List V) (E:XK) (t:TA):TE:=λσ H Q=>t σ H λvs H1=>sp (vs ++ dvs) H1 Q E
def Binds (K:W.Frag) (fd:FuncData) (ps:List Str) (ds:List Value):Prop:=
 ∀ (s:Shared) (us:List Value),K.In s.heap→(us ++ ds).length=ps.length→BindsTo s fd ⟨us,[]⟩ (ps.zip (us ++ ds))
theorem Binds.all {K:W.Frag} {fd:FuncData} {ps:List Str} (h:∀ us:List Value,us.length=ps.length→bindArgs fd ⟨us,[]⟩=pure (ps.zip us)):Binds K fd ps []:=λs us _ hl=>by
 rw [xF] at hl ⊢
 exact .of_eq (h us hl)
def Passes (CX:CXT) (X:Cx) (E:XK):Prop:=∀ (pins:List (Addr × Obj)) (σ:St) (H:Hp) (s:Shared) (e:Value) (s':Shared),Inv X pins σ H s→CX X.stack H s E e s'→X.xe e s'
section
variable {X:Cx} {CX:CXT} {k:Nat} {f C:Addr} {fd:FuncData} {ps:List Str} {sp:Sp} {dvs:List V} {ds:List Value} {E:XK} {x m:Str} {p pos apos:Pos} {e o:Expr} {es:List Expr} {ta:TE} {t:TA}
theorem Zed {pins:List (Addr × Obj)} {σ:St} {H:Hp} {s:Shared} {Q:VK} {us:List Value} {vs:List V} (F:Yt X.prog X.w X.K X.mg X.base CX k f fd ps sp) (hr:Wx k X.A) (hb:Binds X.K fd ps ds) (hd:Vals dvs ds) (hx:Passes CX X E)
  (I:Inv X pins σ H s) (r:Vals vs us) (h:sp (vs ++ dvs) H Q E):wpAny (model X.prog X.w) X.A (call (.ref f) us) (EP X pins σ Q) X.xe s:=by
 have r2:Vals (vs ++ dvs) (us ++ ds):=r.append hd
 have hl:(us ++ ds).length=ps.length:=by rw [← r2.length]; exact F.len _ _ _ _ h
 refine tK (uR (F.run X.A X.stack s H ⟨us,[]⟩ (us ++ ds) (vs ++ dvs) Q E hr I.Zpo (hb s us I.kIn hl) r2 h) λr s' hq=>?_)
 cases r with
 | error e=>exact hx pins σ H s e s' I hq
 | ok fl=>
  cases fl with
  | ret u=>exact I.after hq
  | next=>exact False.elim hq
  | brk=>exact False.elim hq
  | cont=>exact False.elim hq
theorem Zhx (F:Yt X.prog X.w X.K X.mg X.base CX k f fd ps sp) (hr:Wx k X.A) (hg:Gl X x) (hm:X.mg x=some (.ref f)) (hk:W.keepIn X.K (.ref f)=true) (hb:Binds X.K fd ps ds) (hd:Vals dvs ds) (hx:Passes CX X E)
  (ha:PA X (e :: es) t) (hdb:(x==("__debug__" : Str))=false:=by decide) (he:starEach (e :: es) X.env=(false,eval e X.env) :: starEach es X.env:=by rfl) (hpl:(backTo pos (starEach es X.env)).any (·.1)=false:=by rfl) :
  PE X (.Call (.Name x p) (e :: es) [] pos) (Zd1 sp dvs E t):=by
 intro pins s σ H Q I h
 refine yW (Qu I hg hm ?_ hdb)
 refine sY (h₀:=X.base) I.ok.mod.kin hk (thn (ha pos pins s σ H _ I h) λus s1 ⟨vs,H1,I1,r,q⟩=>⟨I1.kIn,?_⟩) he hpl
 exact Zed F hr hb hd hx I1 r q
end
section
variable {X:Cx} {CX:CXT} {k:Nat} {f C:Addr} {fd:FuncData} {ps ks:List Str} {sp:Sp} {E:XK} {x m:Str} {p pos apos kpos:Pos} {e o:Expr} {es:List Expr} {kws:List Keyword} {te ta:TE} {t tk:TA} {nm:Option Str}
variable {g:List Value→List Value→List Value} {gV:List V→List V→List V}
end
structure Yf (N P:List Str) (sc:Scope):Prop where
 kind:sc.kind=.function
 co:sc.isCoroutine=false
 gen:sc.isGenerator=false
 nd:N.Nodup
 pre:N.take P.length=P
 par:∀ x∈P,sc.names.lookup x=some .local∨sc.names.lookup x=some .cell
 Zls:∀ y∈sc.names,y.2≠.free
theorem Hn {kindOf:Str→Option NameKind} {x:Str}:∀ {binds:List (Str × Value)} {m:Str→Option Value},(∀ v,(x,v)∉binds)→bindL kindOf binds m x=m x
 | [],_,_=>rfl
 | (n,v) :: r,m,h=>by
  unfold bindL
  rw [Hn λw hw=>h w (zQ _ hw)]
  split
  ·have:x≠n:=by rintro rfl; exact h v zM
   simp [this]
  ·rfl
theorem Hq {kindOf:Str→Option NameKind} {x:Str}:∀ {binds:List (Str × Value)} {m:Str→Option Value},(∀ v,(x,v)∉binds)→bindC kindOf binds m x=m x
 | [],_,_=>rfl
 | (n,v) :: r,m,h=>by
  unfold bindC
  rw [Hq λw hw=>h w (zQ _ hw)]
  split
  ·rfl
  ·have:x≠n:=by rintro rfl; exact h v zM
   simp [this]
theorem Ho {kindOf:Str→Option NameKind} {x:Str} {v:Value}:∀ {P:List Str} {vs:List Value} {i:Nat} {m:Str→Option Value},P.Nodup→P[i]? = some x→vs[i]? = some v→kindOf x=some .local→
  bindL kindOf (P.zip vs) m x=some v
 | [],_,_,_,_,h,_,_=>by simp at h
 | _ :: _,[],_,_,_,_,h,_=>by simp at h
 | p :: P,w :: vs,0,m,nd,h1,h2,hk=>by
  simp at h1 h2; subst h1; subst h2
  show bindL kindOf ((p,w) :: P.zip vs) m p=_
  unfold bindL
  rw [Hn λv hv=>(wL.mp nd).1 (uG hv).1,if_pos hk]
  simp
 | p :: P,w :: vs,i+1,m,nd,h1,h2,hk=>by
  show bindL kindOf ((p,w) :: P.zip vs) m x=_
  unfold bindL
  exact Ho (i:=i) (wL.mp nd).2 (by simpa using h1) (by simpa using h2) hk
theorem Hr {kindOf:Str→Option NameKind} {x:Str} {v:Value}:∀ {P:List Str} {vs:List Value} {i:Nat} {m:Str→Option Value},P.Nodup→P[i]? = some x→vs[i]? = some v→kindOf x≠some .local→
  bindC kindOf (P.zip vs) m x=some v
 | [],_,_,_,_,h,_,_=>by simp at h
 | _ :: _,[],_,_,_,_,h,_=>by simp at h
 | p :: P,w :: vs,0,m,nd,h1,h2,hk=>by
  simp at h1 h2; subst h1; subst h2
  show bindC kindOf ((p,w) :: P.zip vs) m p=_
  unfold bindC
  rw [Hq λv hv=>(wL.mp nd).1 (uG hv).1,if_neg hk]
  simp
 | p :: P,w :: vs,i+1,m,nd,h1,h2,hk=>by
  show bindC kindOf ((p,w) :: P.zip vs) m x=_
  unfold bindC
  exact Hr (i:=i) (wL.mp nd).2 (by simpa using h1) (by simpa using h2) hk
def start (N:List Str) (vs:List V):St:=vs.map some ++ List.replicate (N.length - vs.length) none
def Ft (CX:CXT) (P:Program) (w:World) (K:W.Frag) (mg:Str→Option Value) (base:Heap) (N:List Str) (qual:Str) (scope:Scope) (f:Addr) (cd:Value) (A:Around) (outer:List Env) (s:Shared) (H:Hp) (E:XK):Cx where
 prog:=P
 w:=w
 K:=K
 mg:=mg
 base:=base
 A:=A.deeper (envOfC qual scope s.heap.objs.size f cd)
 N:=N
 s₀:=s
 H₀:=H
 env:=envOfC qual scope s.heap.objs.size f cd
 outer:=outer
 stack:=envOfC qual scope s.heap.objs.size f cd :: outer
 ex:=[]
 calm:=true
 fn:=λ_=>true
 pn:=[]
 xe:=λe s'=>wpAny (model P w) (A.deeper (envOfC qual scope s.heap.objs.size f cd)) (leaving (envOfC qual scope s.heap.objs.size f cd) e) (λ_ s''=>CX outer H s E e s'') (λe' s''=>CX outer H s E e' s'') s'
theorem Cp {sc:Scope} {n:Nat} {x:Str} (h:sc.names.lookup x=some .cell):∃ c,(cellsFrom n sc.names []).lookup x=some c:=by
 have q:=W.cellsFrom_some sc.names n [] (.inl h)
 exact tH.mp q
theorem Zc1 {CX:CXT} {P:Program} {w:World} {K:W.Frag} {mg:Str→Option Value} {base:Heap} {N ps:List Str} {qual:Str} {scope:Scope} {f:Addr} {cd:Value} {A:Around} {outer:List Env} {s s1:Shared} {H:Hp} {E:XK} {us:List Value} {vs:List V}
  (S:Yf N ps scope) (hd:A.handled=none) (e0:Zah P w K mg base A outer s H) (hl:vs.length=ps.length) (r:Vals vs us)
  (x:InCallC s s.heap.objs.size (bindL (envOfC qual scope s.heap.objs.size f cd).kindOf (ps.zip us) λ_=>none) (cellsFrom (s.heap.objs.size+1) scope.names []) (bindC (envOfC qual scope s.heap.objs.size f cd).kindOf (ps.zip us) λ_=>none) s1) :
  Inv (Ft CX P w K mg base N qual scope f cd A outer s H E) [] (start N vs) H s1:=by
 have hpl:ps.length≤N.length:=by have:=congrArg List.length S.pre; rw [zS] at this; omega
 obtain ⟨h1,tk,rfl,hk⟩:=x.done
 have noA:∀ b:Addr,b∉(Ft CX P w K mg base N qual scope f cd A outer s H E).ex:=λb z=>absurd (show b∈([]:List Addr) from z) (by simp)
 refine ⟨⟨e0.mod,S.kind,rfl,rfl,zI _,λy z c h1 h2=>?_,λy hy=>?_,λy c _ h=>?_,λ_=>hd,Around.frames_deeper e0.frames,.inr ⟨rfl,rfl⟩,λb z=>absurd z (noA b),e0.bs,e0.bsz,λb _ _=>noA b,λb z=>absurd z (noA b),e0.Pp,e0.frf⟩,
  rfl,e0.bare,Un.kept hk,⟨_,x.toInCall.ns,λi y v h1 h2 h3=>?_⟩,λy c h=>⟨_,x.cell y c h⟩,e0.hok.fresh (zI _),λy c h=>?_,λp hp=>absurd (show p∈([]:List (Addr × Obj)) from hp) (by simp),e0.hok.kept hk,?_⟩
 ·exact name_of_addr x.apart (yY h1) (yY h2)
 ·have hy:scope.names.lookup y=some .cell∨scope.names.lookup y=some .free:=hy
  rcases hy with hy | hy
  ·exact Cp hy
  ·exact absurd rfl (S.Zls _ (yY hy))
 ·exact uQ (x.above y c (yY h))
 ·have hi:i < vs.length:=by
   unfold start at h2
   by_cases hi:i < vs.length
   ·exact hi
   ·rw [zX (by simpa using hi)] at h2
    rw [tM] at h2
    split at h2 <;> cases h2
  have ha:vs[i]? = some v:=by
   unfold start at h2
   rw [zU (by simpa using hi),zE] at h2
   cases e:vs[i]? with
   | none=>rw [e] at h2; cases h2
   | some a=>rw [e] at h2; cases h2; rfl
  obtain ⟨u,hu,rv⟩:=r.get ha
  have hp:ps[i]? = some y:=by
   rw [← S.pre,tI (by omega)]; exact h1
  have ndP:ps.Nodup:=by rw [← S.pre]; exact S.nd.sublist (List.take_sublist _ _)
  refine ⟨u,rv,?_⟩
  rcases S.par y (zJ hp) with k | k
  ·exact .inl ⟨k,Ho ndP hp hu k⟩
  ·obtain ⟨c,e⟩:=Cp (n:=s.heap.objs.size+1) k
   refine .inr ⟨.inl k,c,e,?_⟩
   have q:=x.cell y c e
   rw [Hr ndP hp hu (by show scope.names.lookup y≠_; rw [k]; decide)] at q
   exact q
 ·exact e0.hok.fresh (uQ (x.above y c (yY h)))
 ·unfold start
  show _=N.length
  rw [zK,zA,vI]
  omega
theorem Zf3 {CX:CXT} {P:Program} {w:World} {K:W.Frag} {mg:Str→Option Value} {base:Heap} {k:Nat} {f:Addr} {name qual:Str} {params:Arguments} {body:List Stmt} {scope:Scope} {dV kV doc pm cdv ct oc:Value} {an od:Option Addr}
  {osl:Array (Option Value)} {N ps:List Str} {sp:Sp} (lk:K.lookup f=some ⟨oc,od,.func (W.fnOf name qual params body scope dV kV doc pm an cdv ct),osl⟩) (hcd:W.codeIn K cdv qual=true) (S:Yf N ps scope)
  (len:∀ vs H Q E,sp vs H Q E→vs.length=ps.length)
  (R3:∀ (A:Around) (outer:List Env) (s:Shared) (H:Hp) (vs:List V) (Q:VK) (E:XK),Wx k (A.deeper (envOfC qual scope s.heap.objs.size f cdv))→sp vs H Q E→
   ∃ t,PSs (Ft CX P w K mg base N qual scope f cdv A outer s H E) body t∧t { nx:=λ_ H'=>Q .non H',rt:=Q } (start N vs) H) :
  Yt P w K mg base CX (k+1) f (W.fnOf name qual params body scope dV kV doc pm an cdv ct) ps sp:=by
 refine ⟨len,λA outer s H args us vs Q E hr e0 hb r hsp=>?_⟩
 have hl:=len _ _ _ _ hsp
 have KX:K.In s.heap:=e0.mod.kin.keeps λb o e=>(e0.bs b o e).1
 have lim:s.heap.NoLimit:=e0.mod.nolimit.keeps λb o e=>(e0.bs b o e).1
 have Zo1:∀ y∈ps.zip us,scope.names.lookup y.1=some .local∨(scope.names.lookup y.1=some .cell∧((cellsFrom (s.heap.objs.size+1) scope.names []).lookup y.1).isSome=true):=λ⟨n,v⟩ hy=>by
  rcases S.par n (uG hy).1 with q | q
  ·exact .inl q
  ·exact .inr ⟨q,W.cellsFrom_some _ _ _ (.inl q)⟩
 refine codeAny_call_function hr.depth (KX _ _ lk) rfl S.co S.gen rfl (W.codeRec_of KX hcd) (hb _ _ _ _ ?_)
 refine wpAny_newFunctionEnv_cells S.kind Zo1 λenv he s1 x=>?_
 subst he
 refine ⟨lim.keeps x.toInCall.keep,codeAny_func ?_⟩
 obtain ⟨t,ht,hq⟩:=R3 A outer s H vs Q E (hr.deeper _) hsp
 have I:Inv (Ft CX P w K mg base N qual scope f cdv A outer s H E) [] (start N vs) H s1:=Zc1 S hr.hd e0 hl r x
 refine wK (ht [] s1 (start N vs) H _ I hq) (λfl s' hs=>?_) λe s' hs=>hs
 have fin:∀ {σ':St} {H':Hp} {v:V} {u:Value},Inv (Ft CX P w K mg base N qual scope f cdv A outer s H E) [] σ' H' s'→RelV v u→Q v H'→CE outer P w H s Q u s':=
  λ{σ' H' v u} J rv q=>⟨v,H',J.os,J.bare,J.base,J.hok,rv,q⟩
 cases fl with
 | ret u=>
  obtain ⟨v,σ',H',J,rv,q⟩:=hs
  exact fin J rv q
 | next=>
  obtain ⟨σ',H',J,q⟩:=hs
  exact fin (v:=V.non) (u:=Value.none) J rfl q
 | brk=>
  obtain ⟨_,_,_,q⟩:=hs
  exact False.elim q
 | cont=>
  obtain ⟨_,_,_,q⟩:=hs
  exact False.elim q
end L2
namespace L2
open PySem PySem.Spec PyProof.Rows
section
variable {X:Cx} {x:Str} {p pos:Pos} {e:Expr} {es:List Expr} {t:TA} {id T:String} {r:List V→Hp→VK→Prop}
def tCB (r:List V→Hp→VK→Prop) (t:TA):TE:=λσ H Q=>t σ H λvs H1=>r vs H1 Q
theorem Zn (hc:Xx X (.builtin id) r) (hg:Gl X x) (hm:X.mg x=none) (hv:bootBuiltins x=some (.builtin id)) (ha:PA X (e :: es) t) (hn:x≠"__name__":=by decide) (hdb:(x==("__debug__" : Str))=false:=by decide)
  (he:starEach (e :: es) X.env=(false,eval e X.env) :: starEach es X.env:=by rfl) (hpl:(backTo pos (starEach es X.env)).any (·.1)=false:=by rfl):PE X (.Call (.Name x p) (e :: es) [] pos) (tCB r t):=by
 intro pins s σ H Q I h
 refine yW (U9 I hg hm hv ?_ hn hdb)
 exact PyProof.Rows.callWith_builtin1 (thn (ha pos pins s σ H _ I h) λus s1 ⟨vs,H1,I1,r1,q1⟩=>hc pins s1 σ H1 vs us Q I1 r1 q1) he hpl
theorem Zs (hc:Xx X (.type T) r) (hg:Gl X x) (hm:X.mg x=none) (hv:bootBuiltins x=some (.type T)) (ha:PA X (e :: es) t) (hn:x≠"__name__":=by decide) (hdb:(x==("__debug__" : Str))=false:=by decide)
  (he:starEach (e :: es) X.env=(false,eval e X.env) :: starEach es X.env:=by rfl) (hpl:(backTo pos (starEach es X.env)).any (·.1)=false:=by rfl):PE X (.Call (.Name x p) (e :: es) [] pos) (tCB r t):=by
 intro pins s σ H Q I h
 refine yW (U9 I hg hm hv ?_ hn hdb)
 exact xM (thn (ha pos pins s σ H _ I h) λus s1 ⟨vs,H1,I1,r1,q1⟩=>hc pins s1 σ H1 vs us Q I1 r1 q1) he hpl
end
end L2
namespace HT
open PySem PyProof.Rows
section
open PySem.SeqAt
open PySem.AutoSeq1 (wpAny_loadPart')
open PySem.MeetsSeq PySem.MeetsSeq2 PySem.MeetsSeq3
end
section
variable {prog:Program} {w:World} {A:Around} {E:Value→Shared→Prop} {s:Shared}
theorem Zi3 {t b:Addr} {vs ws:List Value} {Q:Value→Shared→Prop} (ht:IsTup s.heap t vs.toArray) (hb:IsTup s.heap b ws.toArray) (hv:vs≠[])
  (h1:ws=[]→Q (.ref t) s) (h2:ws≠[]→Q (.ref s.heap.objs.size) { s with heap:=s.heap.push { cls:=.type "tuple",data:=.seq (vs ++ ws).toArray } })
  (hsz:vs.length+ws.length≤sizeLine):wpAny (model prog w) A (binaryOp .Add (.ref t) (.ref b)) Q E s:=by
 obtain ⟨⟨cls,dd,data,sl⟩,ho,hc,n,hd⟩:=id ht
 obtain ⟨⟨cls2,dd2,data2,sl2⟩,ho2,hc2,n2,hd2⟩:=id hb
 simp only at hc hd hc2 hd2
 subst hc hd hc2 hd2
 have e:vs.toArray ++ ws.toArray=(vs ++ ws).toArray:=by simp
 by_cases hw:ws=[]
 ·exact concat_meets ⟨_,ho,rfl⟩ ⟨_,ho2,rfl⟩ noFill_tuple_add seq_tuple_add tV tN (tJ _ _)
   (tuple_addW1 t b vs.toArray ws.toArray n n2 dd dd2 sl sl2 (by simpa using hv) (by simp [hw])) ⟨ho,ho2,h1 hw⟩
 ·refine concat_meets ⟨_,ho,rfl⟩ ⟨_,ho2,rfl⟩ noFill_tuple_add seq_tuple_add tV tN (tJ _ _)
   (tuple_addW2 t b vs.toArray ws.toArray n n2 dd dd2 sl sl2 (by simpa using hv) (by simpa using hw) (by rw [zR,zR]; exact hsz)) ⟨ho,ho2,?_⟩
  rw [e]
  exact h2 hw
def sIx (n d:Nat):Option Int→Nat
 | none=>d
 | some v=>if v < 0 then (v+(n:Int)).toNat else min v.toNat n
theorem Ol (n d:Nat):sIx n d none=d:=rfl
theorem La (n d k:Nat):sIx n d (some (k:Int))=min k n:=by
 show (if (k:Int) < 0 then ((k:Int)+(n:Int)).toNat else min (k:Int).toNat n)=min k n
 rw [if_neg (by omega),wX]
theorem Bl (n d:Nat) (hd:d≤n) (o:Option Int):sIx n d o≤n:=by
 cases o with
 | none=>exact hd
 | some v=>
  show (if v < 0 then (v+(n:Int)).toNat else min v.toNat n)≤n
  by_cases hv:v < 0
  ·rw [if_pos hv]; omega
  ·rw [if_neg hv]; exact Nat.min_le_right _ _
theorem Zb8 (v:Int) (n d:Nat):(if v < 0 then max (v+(n:Int)) 0 else min v (n:Int))=((sIx n d (some v):Nat):Int):=by
 show (if v < 0 then max (v+(n:Int)) 0 else min v (n:Int))=(((if v < 0 then (v+(n:Int)).toNat else min v.toNat n):Nat):Int)
 by_cases hv:v < 0
 ·simp only [if_pos hv]; omega
 ·simp only [if_neg hv]; omega
theorem Zac (lo hi:Option Int) (n:Nat):Builtin.Slice.sliceAdjust lo hi 1 (n:Int)=(((sIx n 0 lo:Nat):Int),((sIx n n hi:Nat):Int)):=by
 have h1:¬ ((1:Int) < 0):=by omega
 unfold Builtin.Slice.sliceAdjust
 simp only [h1,if_false]
 refine Prod.ext ?_ ?_
 ·cases lo with
  | none=>rfl
  | some v=>exact Zb8 v n 0
 ·cases hi with
  | none=>rfl
  | some v=>exact Zb8 v n n
theorem Bo (i j:Nat):Builtin.Slice.slicePlaces (i:Int) (j:Int) 1=j - i:=by
 unfold Builtin.Slice.slicePlaces
 have h1:(1:Int) > 0:=by omega
 simp only [h1,if_true,Int.ediv_one]
 split <;> omega
theorem L7 {v:Value} {o:Option Int} {Q:Option Int→Shared→Prop} (p:IsPart v o) (h:Q o s):wpAny (model prog w) A (Builtin.Slice.slicePartIndex v) Q E s:=by
 cases p with
 | none=>exact slicePart_none h
 | int i t=>exact slicePart_int h
theorem Tj {sl:Addr} {vl vu:Value} {lo hi:Option Int} {n:Nat} {Q:Int × Int × Nat→Shared→Prop} (hs:s.heap.IsSliceOf sl vl vu .none) (pl:IsPart vl lo) (pu:IsPart vu hi)
  (h:Q (((sIx n 0 lo:Nat):Int),1,sIx n n hi - sIx n 0 lo) s):wpAny (model prog w) A (Builtin.Slice.sliceApplied (.ref sl) (pure (n:Int))) Q E s:=by
 obtain ⟨os,hos,hcs,hds⟩:=id hs
 unfold Builtin.Slice.sliceApplied Builtin.Slice.sliceFields
 refine zB (zB (xD hos hds (x:=vl) rfl (zB (xD hos hds (x:=vu) rfl (zB (xD hos hds (x:=.none) rfl (zH ?_)))))))
 refine zB (slicePart_none ?_)
 show wpAny _ _ (if ((1:Int)==0)=true then _ else _) _ _ s
 rw [if_neg (by decide)]
 refine zB (L7 pl (zB (L7 pu (zB (zH ?_)))))
 show wpAny _ _ (match Builtin.Slice.sliceAdjust lo hi 1 (n:Int) with | (lo,hi)=>pure (lo,(1:Int),Builtin.Slice.slicePlaces lo hi 1)) _ _ s
 rw [Zac lo hi n]
 show wpAny _ _ (pure (((sIx n 0 lo:Nat):Int),(1:Int),Builtin.Slice.slicePlaces ((sIx n 0 lo:Nat):Int) ((sIx n n hi:Nat):Int) 1)) _ _ s
 rw [Bo]
 exact zH h
theorem Zet (xs:Array Value) (i k:Nat):((List.range k).filterMap λ(m:Nat)=>xs[((i:Int)+(m:Int) * 1).toNat]?).toArray=((xs.toList.drop i).take k).toArray:=by
 have e:(λ(m:Nat)=>xs[((i:Int)+(m:Int) * 1).toNat]?)=λm=>xs[i+m]?:=by
  funext m
  have:((i:Int)+(m:Int) * 1).toNat=i+m:=by omega
  rw [this]
 rw [e]
 have:=pick_run xs i k
 rw [List.filterMap_map] at this
 have e2:((λx=>xs[x]?) ∘ λx=>i+x)=λm=>xs[i+m]?:=rfl
 rw [e2] at this
 rw [this]
theorem O0 {t sl:Addr} {items:Array Value} {vl vu:Value} {lo hi:Option Int} {Q:Value→Shared→Prop} (ht:IsTup s.heap t items) (hs:s.heap.IsSliceOf sl vl vu .none) (pl:IsPart vl lo) (pu:IsPart vu hi)
  (hw:¬ (sIx items.size 0 lo=0∧sIx items.size items.size hi=items.size))
  (h:Q (.ref s.heap.objs.size) { s with heap:=s.heap.push { cls:=.type "tuple",data:=.seq ((items.toList.drop (sIx items.size 0 lo)).take (sIx items.size items.size hi - sIx items.size 0 lo)).toArray } })
  (hsz:items.size≤sizeLine):wpAny (model prog w) A (getItem (.ref t) (.ref sl)) Q E s:=by
 have Zbt:sizeOk (.seq ((items.toList.drop (sIx items.size 0 lo)).take (sIx items.size items.size hi - sIx items.size 0 lo)).toArray):=by
  show ((items.toList.drop (sIx items.size 0 lo)).take (sIx items.size items.size hi - sIx items.size 0 lo)).toArray.size≤sizeLine
  rw [zR,zS,wA,yX]
  omega
 have hj:sIx items.size items.size hi≤items.size:=Bl _ _ (zI _) hi
 obtain ⟨os,hos,hcs,hds⟩:=id hs
 have hTs:s.TypeIs (.ref sl) "slice":=⟨os,hos,hcs⟩
 unfold getItem
 try with_reducible refine xQ ?_
 first | refine zB (zH ?_) | skip
 refine zB (wpAny_sequenceKey ht.typeIs (by decide) ?_)
 refine zB (yP (name:=Str.ofString "__getitem__") ht.typeIs xW
  (xH xW ht.typeIs entry_tuple_getitem ?_ (args_tuple_getitem _ _)))
 show wpAny _ _ (Builtin.Tuple.tupleItemsOf (.ref t) >>= _) _ _ s
 refine zB (tupleItemsOf_ ht ?_)
 refine zB (wpAny_typeOf hTs ?_)
 rw [if_pos (by decide)]
 refine zB (Tj hs pl pu ?_)
 have hno:¬ ((((sIx items.size 0 lo:Nat):Int)==0 && (1:Int)==1 && (sIx items.size items.size hi - sIx items.size 0 lo)==items.size)=true):=by
  intro q
  rw [yQ,yQ] at q
  have q1:((sIx items.size 0 lo:Nat):Int)=0:=eq_of_beq q.1.1
  have q2:sIx items.size items.size hi - sIx items.size 0 lo=items.size:=eq_of_beq q.2
  exact hw ⟨by omega,by omega⟩
 show wpAny _ _ (if (((sIx items.size 0 lo:Nat):Int)==0 && (1:Int)==1 && (sIx items.size items.size hi - sIx items.size 0 lo)==items.size)=true then _ else _) _ _ s
 rw [if_neg hno,Zet]
 first
  | exact zB (m:=Builtin.Tuple.tupleExact _) (xJ (zH ⟨_,rfl,zH h⟩) Zbt)
  | exact zB (m:=Builtin.Tuple.tupleExact _) (xJ (zB (zH (zH ⟨_,rfl,zH h⟩))) Zbt)
  | exact zB (zB (m:=Builtin.Tuple.tupleExact _) (xJ (zH (zH ⟨_,rfl,zH h⟩)) Zbt))
  | exact zB (zB (m:=Builtin.Tuple.tupleExact _) (xJ (zH ⟨_,rfl,zH h⟩) Zbt))
end
end HT
namespace L2
open PySem PySem.Spec PyProof.Rows
abbrev TO:=St→Hp→(Option Int→Hp→Prop)→Prop
def PO (X:Cx) (e:Option Expr) (t:TO):Prop:=
 ∀ (pins:List (Addr × Obj)) (s:Shared) (σ:St) (H:Hp) (Q:Option Int→Hp→Prop),Inv X pins σ H s→t σ H Q→
  wpAny (model X.prog X.w) X.A (evalPart e X.env) (λu s'=>∃ o H',Inv X pins σ H' s'∧IsPart u o∧Q o H') X.xe s
def Zhe:TO:=λ_ H Q=>Q none H
inductive Zdy (Q:Option Int→Hp→Prop) (x:V) (H1:Hp):Prop
 | mk (i:_) (h1:x=.int i) (h2:Q (some i) H1):Zdy Q x H1
def Znt (t:TE):TO:=λσ H Q=>t σ H λx H1=>Zdy Q x H1
theorem intsAre_of {ns:List Int}:∀ {us:List Value},Vals (ns.map V.int) us→IntsAre us ns:=by
 induction ns with
 | nil=>intro us r; rw [wQ] at r; cases r; exact .nil
 | cons n ns ih=>
  intro us r
  rw [zO] at r
  cases r with
  | cons r1 r2=>
   obtain ⟨t,e⟩:=r1
   subst e
   exact .cons n t (ih r2)
section
variable {X:Cx} {e:Expr} {te:TE} {lo hi:Option Expr} {tl th:TO} {pos p2:Pos}
theorem Qr:PO X none Zhe:=by
 intro pins s σ H Q I h
 rw [evalPart_none]
 exact zH ⟨none,H,I,.none,h⟩
theorem Qq (h:PE X e te):PO X (some e) (Znt te):=by
 intro pins s σ H Q I hw
 rw [evalPart_some]
 refine thn (h pins s σ H _ I hw) λu s1 ⟨x,H1,I1,r1,q1⟩=>?_
 obtain ⟨i,rfl,q⟩:=q1
 obtain ⟨t,rfl⟩:=r1
 exact ⟨some i,H1,I1,.int i t,q⟩
def SlR (X:Cx) (r:V→Option Int→Option Int→Hp→VK→Prop):Prop:=
 ∀ (pins:List (Addr × Obj)) (s:Shared) (σ:St) (H:Hp) (x:V) (v vl vu:Value) (lo hi:Option Int) (sl:Addr) (Q:VK),Inv X pins σ H s→RelV x v→s.heap.IsSliceOf sl vl vu .none→IsPart vl lo→IsPart vu hi→r x lo hi H Q→
  ∃ T id,typeLookup (.type T) "__getitem__" = pure (some (.builtin id))∧s.TypeIs v T∧wpAny (model X.prog X.w) X.A (getItem v (.ref sl)) (EP X pins σ Q) X.xe s
def tSl (r:V→Option Int→Option Int→Hp→VK→Prop) (te:TE) (tl th:TO):TE:=λσ H Q=>te σ H λx H1=>tl σ H1 λl H2=>th σ H2 λu H3=>r x l u H3 Q
theorem Tq {r:V→Option Int→Option Int→Hp→VK→Prop} (hr:SlR X r) (he:PE X e te) (hl:PO X lo tl) (hu:PO X hi th):PE X (.Subscript e (.Slice lo hi none p2) pos) (tSl r te tl th):=by
 intro pins s σ H Q I h
 refine Subscript_ (thn (he pins s σ H _ I h) λv s1 ⟨x,H1,I1,r1,q1⟩=>?_)
 refine wpAny_Slice (thn (hl pins s1 σ H1 _ I1 q1) λvl s2 ⟨l,H2,I2,pl,q2⟩=>thn (hu pins s2 σ H2 _ I2 q2) λvu s3 ⟨u,H3,I3,pu,q3⟩=>?_)
 rw [evalPart_none]
 refine zH ?_
 have I4:Inv X pins σ H3 { s3 with heap:=s3.heap.push { cls:=.type "slice",data:=.fields #[vl,vu,.none] } }:=I3.kept (t':=s3.toks) λb ob q=>zG _ q
 obtain ⟨T,id,hT,ht,hg⟩:=hr pins { s3 with heap:=s3.heap.push { cls:=.type "slice",data:=.fields #[vl,vu,.none] } } σ H3 x v vl vu l u s3.heap.objs.size Q I4 r1 (Heap.IsSliceOf.new ..) pl pu q3
 show wpAny (model X.prog X.w) X.A (subscriptTail e (.Slice lo hi none p2) v (.ref s3.heap.objs.size)) (EP X pins σ Q) X.xe { s3 with heap:=s3.heap.push { cls:=.type "slice",data:=.fields #[vl,vu,.none] } }
 exact tail_any (ops:=[.ref s3.heap.objs.size,v]) ht hT hg (by with_unfolding_all rfl)
def Mc (xs:List V) (lo hi:Option Int):List V:=(xs.drop (HT.sIx xs.length 0 lo)).take (HT.sIx xs.length xs.length hi - HT.sIx xs.length 0 lo)
theorem Co (xs:List V) (lo hi:Option Int):(Mc xs lo hi).length≤xs.length:=by
 unfold Mc
 rw [zS,wA]
 omega
inductive Zjp (K:W.Frag) (x:V) (lo:Option Int) (hi:Option Int) (H:Hp) (Q:VK):Prop
 | mk (a xs:_) (h1:x=.ref a) (h2:SqT K H a xs) (h3:¬ (HT.sIx xs.length 0 lo=0∧HT.sIx xs.length xs.length hi=xs.length)) (h4:∀ p,H p=none→Q (.ref p) (upd H p (.tup (Mc xs lo hi)))):Zjp K x lo hi H Q
def Zn8 (K:W.Frag):V→Option Int→Option Int→Hp→VK→Prop:=λx lo hi H Q=>Zjp K x lo hi H Q
theorem Zk5:SlR X (Zn8 X.K):=by
 intro pins s σ H x v vl vu lo hi sl Q I rx hs pl pu h
 obtain ⟨a,xs,rfl,hx,hw,q⟩:=h
 cases rx
 obtain ⟨its,r,ht,hz⟩:=I.tuple hx
 have hlen:its.toArray.size=xs.length:=by rw [zR]; exact r.length.symm
 refine ⟨"tuple",_,xW.lookup,ht.typeIs,?_⟩
 refine HT.O0 ht hs pl pu (by rw [hlen]; exact hw) ?_ (by rw [hlen]; exact hz)
 rw [hlen]
 refine ⟨.ref s.heap.objs.size,_,I.laid (t':=s.toks) (o:=.tup (Mc xs lo hi)) (λb ob q=>zG _ q) (zI _) ?_,rfl,q _ (I.hok.fresh (zI _))⟩
 exact ⟨yG (Co xs lo hi) hz,_,(r.drop (HT.sIx xs.length 0 lo)).take (HT.sIx xs.length xs.length hi - HT.sIx xs.length 0 lo),IsTup.new _ _⟩
inductive Zen (K:W.Frag) (x:V) (y:V) (H:Hp) (Q:VK):Prop
 | mk (a b xs ys:_) (h1:x=.ref a) (h2:y=.ref b) (h3:SqT K H a xs) (h4:SqT K H b ys) (h5:xs≠[]) (h6:xs.length+ys.length≤sizeLine) (h7:(ys=[]→Q (.ref a) H)) (h8:(ys≠[]→∀ p,H p=none→Q (.ref p) (upd H p (.tup (xs ++ ys))))):Zen K x y H Q
def Zjy (K:W.Frag):R2:=λx y H Q=>Zen K x y H Q
theorem Vals.Lh {xs:List V} {us:List Value} (r:Vals xs us):us=[]↔xs=[]:=by
 cases r with
 | nil=>simp
 | cons _ _=>simp
theorem Zbc:OpR X (binaryOp .Add) (Zjy X.K):=by
 intro pins s σ H x y v u Q I rx ry h
 obtain ⟨a,b,xs,ys,rfl,rfl,ha,hb,hx,hz,q1,q2⟩:=h
 cases rx
 cases ry
 obtain ⟨its,r1,p1,_⟩:=I.tuple ha
 obtain ⟨Zfn,r2,p2,_⟩:=I.tuple hb
 refine HT.Zi3 p1 p2 (λz=>hx (r1.Lh.mp z)) (λz=>⟨.ref a,H,I,rfl,q1 (r2.Lh.mp z)⟩) (λz=>?_) (by rw [← r1.length,← r2.length]; exact hz)
 refine ⟨.ref s.heap.objs.size,_,I.laid (t':=s.toks) (o:=.tup (xs ++ ys)) (λb ob q=>zG _ q) (zI _) ?_,rfl,q2 (λw=>z (r2.Lh.mpr w)) _ (I.hok.fresh (zI _))⟩
 exact ⟨by rw [zK]; exact hz,_,r1.append r2,IsTup.new _ _⟩
end
end L2
namespace L2
open PySem PySem.Spec PyProof.Rows
def ixN (n:Nat) (i:Int):Option Nat:=if 0≤i then (if i < n then some i.toNat else none) else if -(n:Int)≤i then some (i+n).toNat else none
def atI {α:Type} (xs:List α) (i:Int):Option α:=(ixN xs.length i).bind λj=>xs[j]?
theorem Zbp {n:Nat} {i:Int} {j:Nat} (h:ixN n i=some j):seqIndex? i n=some j∧j < n∧-(n:Int)≤i∧i < n:=by
 unfold ixN at h
 by_cases h0:0≤i
 ·rw [if_pos h0] at h
  by_cases h1:i < n
  ·rw [if_pos h1] at h
   have e:i.toNat=j:=Option.some.inj h
   exact ⟨by rw [seqIndex_of h0 h1,e],by omega,by omega,h1⟩
  ·rw [if_neg h1] at h; cases h
 ·rw [if_neg h0] at h
  by_cases h1 : -(n:Int)≤i
  ·rw [if_pos h1] at h
   have e:(i+n).toNat=j:=Option.some.inj h
   exact ⟨by rw [seqIndex_neg (by omega) h1,e],by omega,h1,by omega⟩
  ·rw [if_neg h1] at h; cases h
theorem F5 {α:Type} {xs:List α} {i:Int} {v:α} (h:atI xs i=some v):∃ j,seqIndex? i xs.length=some j∧xs[j]? = some v∧j < xs.length∧-(xs.length:Int)≤i∧i < xs.length:=by
 unfold atI at h
 cases e:ixN xs.length i with
 | none=>rw [e] at h; cases h
 | some j=>
  rw [e] at h
  obtain ⟨h1,h2,h3,h4⟩:=Zbp e
  exact ⟨j,h1,h,h2,h3,h4⟩
theorem Zk {α:Type} {xs:List α} {j:Nat} {v:α} (h:xs[j]? = some v):atI xs (j:Int)=some v:=by
 have hj:j < xs.length:=(zF.mp h).1
 have e:ixN xs.length (j:Int)=some j:=by
  unfold ixN
  rw [if_pos (by omega),if_pos (by omega)]; simp
 unfold atI; rw [e]; exact h
def Zi9 (b:Expr):Prop:=∀ o i,subscripted b false o i=operate [o,i] (getItem o i)
def IxR (X:Cx) (r:R2):Prop:=
 ∀ (value slice:Expr) (pins:List (Addr × Obj)) (s:Shared) (σ:St) (H:Hp) (x y:V) (v u:Value) (Q:VK),Inv X pins σ H s→RelV x v→RelV y u→r x y H Q→
  subscripted slice false v u=operate [v,u] (getItem v u)→wpAny (model X.prog X.w) X.A (subscriptTail value slice v u) (EP X pins σ Q) X.xe s
def MtR (X:Cx) (id:String) (r:V→List V→Hp→VK→Prop):Prop:=
 ∀ (pins:List (Addr × Obj)) (s:Shared) (σ:St) (H:Hp) (x:V) (xs:List V) (v:Value) (us:List Value) (Q:VK),Inv X pins σ H s→RelV x v→Vals xs us→r x xs H Q→
  wpAny (model X.prog X.w) X.A (call (.builtin id) (v :: us)) (EP X pins σ Q) X.xe s
section
variable {X:Cx} {a b:Expr} {ta tb:TE} {pos:Pos}
theorem IxR.or {r r':R2} (h:IxR X r) (h':IxR X r'):IxR X (λx y H Q=>r x y H Q∨r' x y H Q):=by
 intro value slice pins s σ H x y v u Q I rx ry q hs
 rcases q with q | q
 ·exact h value slice pins s σ H x y v u Q I rx ry q hs
 ·exact h' value slice pins s σ H x y v u Q I rx ry q hs
theorem Zu {r:R2} (hr:IxR X r) (ha:PE X a ta) (hb:PE X b tb) (hs:Zi9 b):PE X (.Subscript a b pos) (tOp r ta tb):=by
 intro pins s σ H Q I h
 exact Subscript_ (Zne ha hb I h λv u s2 x y H2 I2 rx ry q=>hr a b pins s2 σ H2 x y v u Q I2 rx ry q (hs _ _))
inductive Zju (K:W.Frag) (x:V) (y:V) (H:Hp) (Q:VK):Prop
 | mk (p xs i v:_) (h1:x=.ref p) (h2:y=.int i) (h3:SqL K H p xs) (h4:atI xs i=some v) (h5:Q v H):Zju K x y H Q
def Zhp (K:W.Frag):R2:=λx y H Q=>Zju K x y H Q
inductive Zjs (K:W.Frag) (x:V) (y:V) (H:Hp) (Q:VK):Prop
 | mk (p xs i v:_) (h1:x=.ref p) (h2:y=.int i) (h3:SqT K H p xs) (h4:atI xs i=some v) (h5:Q v H):Zjs K x y H Q
def Zle (K:W.Frag):R2:=λx y H Q=>Zjs K x y H Q
inductive Zjt (x:V) (y:V) (H:Hp) (Q:VK):Prop
 | mk (z i c:_) (h1:x=.str z) (h2:y=.int i) (h3:z.length≤sizeLine) (h4:atI z.cps.toList i=some c) (h5:Q (.str ⟨#[c]⟩) H):Zjt x y H Q
def Zoc:R2:=λx y H Q=>Zjt x y H Q
theorem Zbo:IxR X (Zhp X.K):=by
 intro value slice pins s σ H x y v u Q I rx ry h hs
 obtain ⟨p,xs,i,z,rfl,rfl,hq,he,q⟩:=h
 cases rx
 obtain ⟨t,rfl⟩:=ry
 obtain ⟨its,r,pl,hz⟩:=I.list hq
 obtain ⟨j,h1,h2,h3,h4,h5⟩:=F5 he
 obtain ⟨w,ew,rw'⟩:=r.get h2
 have hl:=r.length
 have hn:=Pn
 have fin:EP X pins σ Q w s:=⟨z,H,I,rw',q⟩
 by_cases h0:0≤i
 ·have hj:i.toNat=j:=by
   rw [seqIndex_of h0 h5] at h1
   exact Option.some.inj h1
  exact item_listR pl.isList h0 (by omega) (by rw [hj]; simpa using ew) fin hs
 ·have hj:(i+(its.toArray.size:Int)).toNat=j:=by
   rw [seqIndex_neg (by omega) h4] at h1
   rw [zR,← hl]
   exact Option.some.inj h1
  exact subscriptTail_builtinR (x:=w) pl.isList.typeIs slot_list_getitem.lookup
   (wpAny_getItem_list_neg (Q:=λr s'=>r=w∧EP X pins σ Q r s') pl.isList (by omega) (by rw [zR] <;> omega) (by omega) (by rw [hj]; simpa using ew) ⟨rfl,fin⟩) hs
theorem Zfm:IxR X (Zle X.K):=by
 intro value slice pins s σ H x y v u Q I rx ry h hs
 obtain ⟨p,xs,i,z,rfl,rfl,hq,he,q⟩:=h
 cases rx
 obtain ⟨t,rfl⟩:=ry
 obtain ⟨its,r,pl,hz⟩:=I.tuple hq
 obtain ⟨j,h1,h2,h3,h4,h5⟩:=F5 he
 obtain ⟨w,ew,rw'⟩:=r.get h2
 have hl:=r.length
 have hn:=Pn
 have fin:EP X pins σ Q w s:=⟨z,H,I,rw',q⟩
 exact subscriptTail_builtinR (x:=w) pl.typeIs slot_tuple_getitem.lookup
  (getItem_tuple (j:=j) (Q:=λr s'=>r=w∧EP X pins σ Q r s') pl (by omega) (by omega) (by rw [zR,← hl]; exact h1) (by simpa using ew) ⟨rfl,fin⟩) hs
theorem Zl9:IxR X Zoc:=by
 intro value slice pins s σ H x y v u Q I rx ry h hs
 obtain ⟨z,i,c,rfl,rfl,hz,he,q⟩:=h
 obtain ⟨t,rfl⟩:=rx
 obtain ⟨t',rfl⟩:=ry
 obtain ⟨j,h1,h2,h3,h4,h5⟩:=F5 he
 have hl:z.cps.toList.length=z.length:=by simp [Str.length]
 rw [hl] at h1 h4 h5
 have hn:=Pn
 exact tail_any (typeIs_str s z t) slot_str_getitem.lookup (getItem_str (c:=c) (by
  have e1:decide (i < -(2 ^ 63:Int))=false:=decide_eq_false (by omega)
  have e2:decide (i ≥ 2 ^ 63)=false:=decide_eq_false (by omega)
  rw [e1,e2,Bool.or_false]) (by rw [h1]; simpa using h2) ⟨.str ⟨#[c]⟩,H,I.tok _,⟨_,rfl⟩,q⟩) hs
def rIx (K:W.Frag):R2:=λx y H Q=>Zhp K x y H Q∨Zle K x y H Q∨Zoc x y H Q
theorem Zma:IxR X (rIx X.K):=Zbo.or (Zfm.or Zl9)
theorem Bu (its:List Value) (n j:Nat) (u:Value):Obj.mapSeq (·.setIfInBounds j u) { cls:=.type "list",data:=.seq its.toArray n } = { cls:=.type "list",data:=.seq (its.set j u).toArray n }:=by
 simp [Obj.mapSeq]
theorem Inv.lst {pins:List (Addr × Obj)} {σ:St} {H:Hp} {s:Shared} {p:Addr} {xs:List V} (I:Inv X pins σ H s) (h:H p=some (.lst xs)) :
  ∃ (its:List Value) (n:Nat),Vals xs its∧s.heap.get? p=some { cls:=.type "list",data:=.seq its.toArray n }∧xs.length≤sizeLine:=by
 obtain ⟨z,its,n,r,e⟩:=I.hok p _ h
 exact ⟨its,n,r,e,z⟩
theorem Inv.Zlz {pins:List (Addr × Obj)} {σ:St} {H:Hp} {s:Shared} {p:Addr} {xs ys:List V} {its its':List Value} {n n':Nat} {f:Obj→Obj} (I:Inv X pins σ H s) (h:H p=some (.lst xs))
  (ho:s.heap.get? p=some { cls:=.type "list",data:=.seq its.toArray n }) (hf:f { cls:=.type "list",data:=.seq its.toArray n } = { cls:=.type "list",data:=.seq its'.toArray n' }) (r:Vals ys its') (hz:ys.length≤sizeLine) (t:Nat) :
  Inv X pins σ (upd H p (.lst ys)) { s with heap:=s.heap.update p f,toks:=t }:=by
 have e:(s.heap.update p f).get? p=some { cls:=.type "list",data:=.seq its'.toArray n' }:=by
  rw [wF f ho (by rw [hf] <;> rfl),hf]
 refine I.write (x:=p) (e:=p) (by rw [h]; trivial) (.inl rfl) (λb u hb q=>(xL _ _ (xV hb)).trans q) ⟨_,e⟩ ?_
 exact ⟨hz,its',n',r,e⟩
inductive Zej (o:V) (i:V) (v:V) (H:Hp) (Q:(Hp→Prop)):Prop
 | mk (p xs k j:_) (h1:o=.ref p) (h2:i=.int k) (h3:H p=some (.lst xs)) (h4:ixN xs.length k=some j) (h5:Q (upd H p (.lst (xs.set j v)))):Zej o i v H Q
def Zn9:V→V→V→Hp→(Hp→Prop)→Prop:=λo i v H Q=>Zej o i v H Q
theorem set_list:Zqb X Zn9:=by
 intro pins s σ H o i v ov iv u Q I ro ri rv h
 obtain ⟨p,xs,k,j,rfl,rfl,hp,hj,q⟩:=h
 cases ro
 obtain ⟨t,rfl⟩:=ri
 obtain ⟨its,n,r,ho,hz⟩:=I.lst hp
 obtain ⟨h1,h2,h3,h4⟩:=Zbp hj
 have hl:=r.length
 have hn:=Pn
 have I':Inv X pins σ (upd H p (.lst (xs.set j v))) { s with heap:=s.heap.update p (Obj.mapSeq (·.setIfInBounds j u)) }:=
  I.Zlz hp ho (Bu its n j u) (r.set rv j) (by rw [xY]; exact hz) s.toks
 by_cases h0:0≤k
 ·have hk:k.toNat=j:=by
   rw [seqIndex_of h0 h4] at h1
   exact Option.some.inj h1
  exact W.ki_setAt ho h0 (by omega) (by rw [zR,← hl]; exact h4) (by rw [hk]; exact ⟨_,I',q⟩)
 ·have hk:(k+(its.toArray.size:Int)).toNat=j:=by
   rw [seqIndex_neg (by omega) h3] at h1
   rw [zR,← hl]
   exact Option.some.inj h1
  exact W.ki_setBack ho (by omega) (by rw [zR,← hl]; exact h3) (by omega) (by rw [hk]; exact ⟨_,I',q⟩)
theorem Ge (lo hi:Option Int) (n:Nat):(sliceBounds lo hi none n).1=((HT.sIx n 0 lo:Nat):Int)∧(sliceBounds lo hi none n).2.1=((HT.sIx n n hi:Nat):Int)∧(sliceBounds lo hi none n).2.2=1:=by
 refine ⟨?_,?_,rfl⟩
 ·cases lo with
  | none=>simp [sliceBounds,HT.sIx]
  | some i=>
   simp only [sliceBounds,HT.sIx,Option.getD_none,show (1:Int) > 0 by decide,if_true]
   by_cases h:i < 0
   ·simp only [h,if_true] <;> omega
   ·simp only [h,if_false] <;> omega
 ·cases hi with
  | none=>simp [sliceBounds,HT.sIx]
  | some i=>
   simp only [sliceBounds,HT.sIx,Option.getD_none,show (1:Int) > 0 by decide,if_true]
   by_cases h:i < 0
   ·simp only [h,if_true] <;> omega
   ·simp only [h,if_false] <;> omega
def Uo:V→Bool
 | .non=>true
 | .bl _=>true
 | .int _=>true
 | .str _=>true
 | _=>false
def eqV:V→V→Bool
 | .non,.non=>true
 | .bl a,.bl b=>a==b
 | .bl a,.int b=>(if a then 1 else 0)==b
 | .int a,.bl b=>a==(if b then 1 else 0)
 | .int a,.int b=>a==b
 | .str a,.str b=>a==b
 | _,_=>false
theorem Zf9 {A:Around} {s:Shared} {y x:V} {u v:Value} (ry:RelV y u) (rx:RelV x v) (fy:Uo y=true) (fx:Uo x=true):SeqAt.EqAt A s u v (eqV y x):=by
 cases y with
 | non=>
  cases ry
  cases x with
  | non=>cases rx; exact SeqAt.EqAt.same _
  | bl b=>cases rx; exact SeqAt.EqAt.none_bool b
  | int b=>obtain ⟨t,rfl⟩:=rx; exact SeqAt.EqAt.none_int b t
  | str b=>obtain ⟨t,rfl⟩:=rx; exact SeqAt.EqAt.none_str b t
  | _=>exact absurd (show false=true from fx) zP
 | bl a=>
  cases ry
  cases x with
  | non=>cases rx; exact SeqAt.EqAt.bool_none a
  | bl b=>cases rx; exact SeqAt.EqAt.bool_bool a b
  | int b=>obtain ⟨t,rfl⟩:=rx; exact SeqAt.EqAt.bool_int a b t
  | str b=>obtain ⟨t,rfl⟩:=rx; exact SeqAt.EqAt.bool_str a b t
  | _=>exact absurd (show false=true from fx) zP
 | int a=>
  obtain ⟨t',rfl⟩:=ry
  cases x with
  | non=>cases rx; exact SeqAt.EqAt.int_none a t'
  | bl b=>cases rx; exact SeqAt.EqAt.int_bool a t' b
  | int b=>obtain ⟨t,rfl⟩:=rx; exact SeqAt.EqAt.int_int a t' b t
  | str b=>obtain ⟨t,rfl⟩:=rx; exact SeqAt.EqAt.int_str a t' b t
  | _=>exact absurd (show false=true from fx) zP
 | str a=>
  obtain ⟨t',rfl⟩:=ry
  cases x with
  | non=>cases rx; exact SeqAt.EqAt.str_none a t'
  | bl b=>cases rx; exact SeqAt.EqAt.str_bool a t' b
  | int b=>obtain ⟨t,rfl⟩:=rx; exact SeqAt.EqAt.str_int a t' b t
  | str b=>obtain ⟨t,rfl⟩:=rx; exact SeqAt.EqAt.str_str a t' b t
  | _=>exact absurd (show false=true from fx) zP
 | _=>exact absurd (show false=true from fy) zP
def eqU (x:V) (u:Value):Bool:=match u with
 | .none=>eqV .non x
 | .bool b=>eqV (.bl b) x
 | .int i _=>eqV (.int i) x
 | .str z _=>eqV (.str z) x
 | _=>false
theorem Zf7 {x y:V} {u:Value} (r:RelV y u) (f:Uo y=true):eqU x u=eqV y x:=by
 cases y with
 | non=>cases r; rfl
 | bl b=>cases r; rfl
 | int i=>obtain ⟨t,rfl⟩:=r; rfl
 | str z=>obtain ⟨t,rfl⟩:=r; rfl
 | _=>exact absurd (show false=true from f) zP
theorem Nb {x:V}:∀ {xs:List V} {us:List Value},Vals xs us→xs.all Uo=true→us.any (eqU x)=xs.any λy=>eqV y x
 | _,_,.nil,_=>rfl
 | y :: xs,u :: us,.cons r t,f=>by
  rw [vN,yQ] at f
  rw [tZ,tZ,Zf7 r f.1,Nb t f.2]
theorem Vw {A:Around} {s:Shared} {x:V} {v:Value} (rx:RelV x v) (fx:Uo x=true):∀ {xs:List V} {us:List Value},Vals xs us→xs.all Uo=true→∀ u∈us,SeqAt.EqAt A s u v (eqU x u)
 | _,_,.nil,_=>λu hu=>by cases hu
 | y :: xs,u :: us,.cons r t,f=>λu' hu=>by
  rw [vN,yQ] at f
  rcases yE.mp hu with rfl | hu
  ·rw [Zf7 r f.1]; exact Zf9 r rx f.1 fx
  ·exact Vw rx fx t f.2 u' hu
def inV (x:V) (xs:List V):Bool:=xs.any λy=>eqV y x
inductive Zof (K:W.Frag) (neg:Bool) (x:V) (y:V) (H:Hp) (Q:VK):Prop
 | mk (p xs:_) (h1:y=.ref p) (h2:(SqL K H p xs∨SqT K H p xs)) (h3:Uo x=true) (h4:xs.all Uo=true) (h5:Q (.bl (if neg then !inV x xs else inV x xs)) H):Zof K neg x y H Q
def rIn (K:W.Frag) (neg:Bool):R2:=λx y H Q=>Zof K neg x y H Q
theorem Zcq:OpR X (compareOp .In) (rIn X.K false):=by
 intro pins s σ H x y v u Q I rx ry h
 obtain ⟨p,xs,rfl,hq,fx,fs,q⟩:=h
 cases ry
 rcases hq with hq | hq
 ·obtain ⟨its,r,pl,hz⟩:=I.list hq
  refine SeqAt.in_listAt (eqU x) pl.isList (λw hw=>Vw rx fx r fs w (by simpa using hw)) ⟨.bl _,H,I,rfl,?_⟩
  rw [show its.toArray.any (eqU x)=its.any (eqU x) by simp,Nb r fs]
  exact q
 ·obtain ⟨its,r,pl,hz⟩:=I.tuple hq
  refine SeqAt.in_tupleAt (eqU x) pl (λw hw=>Vw rx fx r fs w (by simpa using hw)) ⟨.bl _,H,I,rfl,?_⟩
  rw [show its.toArray.any (eqU x)=its.any (eqU x) by simp,Nb r fs]
  exact q
theorem Gx:OpR X (compareOp .NotIn) (rIn X.K true):=by
 intro pins s σ H x y v u Q I rx ry h
 obtain ⟨p,xs,rfl,hq,fx,fs,q⟩:=h
 cases ry
 rcases hq with hq | hq
 ·obtain ⟨its,r,pl,hz⟩:=I.list hq
  refine SeqAt.notIn_listAt (eqU x) pl.isList (λw hw=>Vw rx fx r fs w (by simpa using hw)) ⟨.bl _,H,I,rfl,?_⟩
  rw [show its.toArray.any (eqU x)=its.any (eqU x) by simp,Nb r fs]
  exact q
 ·obtain ⟨its,r,pl,hz⟩:=I.tuple hq
  refine SeqAt.notIn_tupleAt (eqU x) pl (λw hw=>Vw rx fx r fs w (by simpa using hw)) ⟨.bl _,H,I,rfl,?_⟩
  rw [show its.toArray.any (eqU x)=its.any (eqU x) by simp,Nb r fs]
  exact q
theorem Gw:OpR X (compareOp .NotIn) (λx y H Q=>∃ i j,x=.str i∧y=.str j∧Q (.bl (!(!(Builtin.Str.occurrences j i 0 j.length 1).isEmpty))) H):=by
 intro pins s σ H x y v u Q I rx ry h
 obtain ⟨i,j,rfl,rfl,q⟩:=h
 obtain ⟨t,rfl⟩:=rx
 obtain ⟨t',rfl⟩:=ry
 exact notIn_str ⟨.bl _,H,I,rfl,q⟩
theorem Fv:Xx X (.builtin "len") (λxs H Q=>∃ p ys,xs=[.ref p]∧(SqL X.K H p ys∨SqT X.K H p ys)∧Q (.int ys.length) H):=by
 intro pins s σ H xs us Q I r h
 obtain ⟨p,ys,rfl,hq,q⟩:=h
 obtain ⟨u,rfl,rx⟩:=vals1 r
 cases rx
 have hn:=Pn
 rcases hq with hq | hq
 ·obtain ⟨its,r',pl,hz⟩:=I.list hq
  have hlen:=r'.length
  exact Calls.call_len_list pl.isList (by simp only [zR] <;> omega) ⟨.int ys.length,H,I.tok _,⟨s.toks+1,by rw [zR,hlen]⟩,q⟩
 ·obtain ⟨its,r',pl,hz⟩:=I.tuple hq
  have hlen:=r'.length
  exact len_tuple pl (by simp only [zR] <;> omega) ⟨.int ys.length,H,I.tok _,⟨s.toks+1,by rw [zR,hlen]⟩,q⟩
theorem Su:Xx X (.builtin "len") (λxs H Q=>∃ z,xs=[.str z]∧z.length≤sizeLine∧Q (.int z.length) H):=by
 intro pins s σ H xs us Q I r h
 obtain ⟨z,rfl,hz,q⟩:=h
 obtain ⟨u,rfl,t,rfl⟩:=vals1 r
 have hn:=Pn
 exact len_str (by omega) ⟨.int z.length,H,I.tok _,⟨_,rfl⟩,q⟩
theorem Fu:Xx X (.type "list") (λxs H Q=>∃ p ys,xs=[.ref p]∧(SqL X.K H p ys∨SqT X.K H p ys)∧∀ l,H l=none→Q (.ref l) (upd H l (.lst ys))):=by
 intro pins s σ H xs us Q I r h
 obtain ⟨p,ys,rfl,hq,q⟩:=h
 obtain ⟨u,rfl,rx⟩:=vals1 r
 cases rx
 have fin:∀ (its:List Value),Vals ys its→ys.length≤sizeLine→∀ (h':Heap) (c':Nat),(∀ b o',s.heap.get? b=some o'→h'.get? b=some o')→
   h'.get? s.heap.objs.size=some { cls:=.type "list",dict:=none,data:=.seq its.toArray c',slots:=#[] }→EP X pins σ Q (.ref s.heap.objs.size) { s with heap:=h' }:=λits r' hz h' c' kp e=>
  ⟨.ref s.heap.objs.size,_,I.laid (t':=s.toks) kp (zI _) (show Yl X.prog X.w _ h' _ (.lst ys) from ⟨hz,its,c',r',e⟩),rfl,q _ (I.hok.fresh (zI _))⟩
 rcases hq with hq | hq
 ·obtain ⟨its,r',pl,hz⟩:=I.list hq
  have hlen:=r'.length
  obtain ⟨o,ho,hc,n,hd⟩:=pl.isList
  exact call_list_seq p (.inl rfl) ho hc hd (λh' c' kp e=>fin its r' hz h' c' kp e) (by simp only [zR] <;> omega)
 ·obtain ⟨its,r',pl,hz⟩:=I.tuple hq
  have hlen:=r'.length
  obtain ⟨o,ho,hc,n,hd⟩:=pl
  exact call_list_seq p (.inr rfl) ho hc hd (λh' c' kp e=>fin its r' hz h' c' kp e) (by simp only [zR] <;> omega)
theorem J5:Xx X (.type "tuple") (λxs H Q=>∃ p ys,xs=[.ref p]∧((SqL X.K H p ys∧∀ l,H l=none→Q (.ref l) (upd H l (.tup ys)))∨(SqT X.K H p ys∧Q (.ref p) H))):=by
 intro pins s σ H xs us Q I r h
 obtain ⟨p,ys,rfl,h⟩:=h
 obtain ⟨u,rfl,rx⟩:=vals1 r
 cases rx
 rcases h with ⟨hq,q⟩ | ⟨hq,q⟩
 ·obtain ⟨its,r',pl,hz⟩:=I.list hq
  have hlen:=r'.length
  refine call_tuple_list pl.isList (λh' kp=>?_) (by simp only [zR] <;> omega)
  have I1:Inv X pins σ H { s with heap:=h' }:=I.kept (t':=s.toks) kp
  have I2:Inv X pins σ (upd H h'.objs.size (.tup ys)) { s with heap:=h'.push { cls:=.type "tuple",data:=.seq its.toArray } }:=
   I1.laid (t':=s.toks) (λb o e=>zG _ e) (zI _) (show Yl X.prog X.w _ _ _ (.tup ys) from ⟨hz,its,r',IsTup.new _ _⟩)
  exact ⟨.ref h'.objs.size,_,I2,rfl,q _ (I1.hok.fresh (zI _))⟩
 ·obtain ⟨its,r',pl,hz⟩:=I.tuple hq
  exact call_tuple_same pl ⟨.ref p,H,I,rfl,q⟩
def tyV (K:W.Frag) (T:String) (x:V) (H:Hp):Prop:=match x with
 | .str _=>T = "str"
 | .int _=>T = "int"
 | .ref p=>(T = "list"∧∃ xs,SqL K H p xs)∨(T = "tuple"∧∃ o,K.lookup p=some o∧o.cls=.type "tuple"∧o.dict=none)∨
   (T = "dict"∧((∃ kvs,H p=some (.dK kvs))∨∃ kvs,H p=some (.dT kvs)))∨(T = "set"∧∃ S n,H p=some (.set S n))
 | _=>False
theorem Zkn {pins:List (Addr × Obj)} {σ:St} {H:Hp} {s:Shared} {T:String} {x:V} {v:Value} (I:Inv X pins σ H s) (r:RelV x v) (ty:tyV X.K T x H) :
  s.TypeIs v T∧∀ a,v=.ref a→∃ ob,s.heap.get? a=some ob∧ob.dict=none:=by
 cases x with
 | str z=>
  obtain ⟨t,rfl⟩:=r
  cases (show T = "str" from ty)
  exact ⟨typeIs_str s z t,λ_ e=>nomatch e⟩
 | int i=>
  obtain ⟨t,rfl⟩:=r
  cases (show T = "int" from ty)
  exact ⟨typeIs_int s i t,λ_ e=>nomatch e⟩
 | ref p=>
  cases r
  rcases ty with ⟨rfl,xs,hq⟩ | ⟨rfl,o,hk,hc,hd⟩ | ⟨rfl,hk⟩ | ⟨rfl,S,n,hk⟩
  ·obtain ⟨its,_,pl,_⟩:=I.list hq
   refine ⟨pl.isList.typeIs,λa e=>?_⟩
   cases e
   obtain ⟨o,n,e,c,hd,_⟩:=pl
   exact ⟨o,e,hd⟩
  ·refine ⟨⟨o,I.kIn p o hk,hc⟩,λa e=>?_⟩
   cases e
   exact ⟨o,I.kIn _ o hk,hd⟩
  ·have z:∃ o,s.heap.get? p=some o∧o.ExactDict:=by
    rcases hk with ⟨kvs,hk⟩ | ⟨kvs,hk⟩
    ·obtain ⟨_,_,_,_,o,_,_,e,ex,_⟩:=I.hok p _ hk
     exact ⟨o,e,ex⟩
    ·obtain ⟨_,_,_,_,o,_,_,e,ex,_⟩:=I.hok p _ hk
     exact ⟨o,e,ex⟩
   obtain ⟨o,e,ex⟩:=z
   refine ⟨⟨o,e,ex.1⟩,λa e2=>?_⟩
   cases e2
   exact ⟨o,e,ex.2.1⟩
  ·obtain ⟨o,_,_,_,e,ex,_⟩:=I.hok p _ hk
   refine ⟨⟨o,e,ex.1⟩,λa e2=>?_⟩
   cases e2
   exact ⟨o,e,ex.2.1⟩
 | _=>exact False.elim ty
def tBM (K:W.Frag) (T:String) (r:V→List V→Hp→VK→Prop) (to:TE) (t:TA):TE:=λσ H Q=>to σ H λx H1=>tyV K T x H1∧t σ H1 λxs H2=>r x xs H2 Q
variable {o e:Expr} {es:List Expr} {to:TE} {t:TA} {name:Str} {apos Wd:Pos} {T id:String} {r:V→List V→Hp→VK→Prop}
theorem Zon (pa:PlainAttrs T) (slot:Slot T name id) (hty:typeOf (.builtin id)=pure (.type "method_descriptor")) (hm:MtR X id r) (ho:PE X o to) (ha:PA X (e :: es) t)
  (Zfy:attributeBase o name X.env (eval o X.env)=eval o X.env:=by rfl)
  (Zmn:((backTo Wd (starEach (e :: es) X.env)).all (λx=>!x.1) && (backToKw Wd (keywordEach [] X.env)).all (λx=>x.1.isSome)
   && decide ((e :: es).length+([]:List Keyword).length+(if ([]:List Keyword).isEmpty then 0 else 1) < 30))=true:=by rfl)
  (Zft:(apos.endLine==Wd.line)=true:=by rfl) (hs:starEach (e :: es) X.env=(false,eval e X.env) :: starEach es X.env:=by rfl) (Ah:(backTo Wd (starEach es X.env)).any (·.1)=false:=by rfl) :
  PE X (.Call (.Attribute o name apos) (e :: es) [] Wd) (tBM X.K T r to t):=by
 intro pins s σ H Q I h
 refine wpAny_Call_method_late Zfy Zmn Zft rfl (thn (ho pins s σ H _ I h) λv s1 ⟨x,H1,I1,r1,ty,q1⟩=>?_)
 obtain ⟨h1,h2⟩:=Zkn I1 r1 ty
 refine ⟨T,id,pa,slot,hty,h1,h2,?_⟩
 have hA:=ha Wd pins s1 σ H1 _ I1 q1
 rw [hs] at hA ⊢
 refine tW (by show (false || (backTo Wd (starEach es X.env)).any (·.1))=false; rw [Ah] <;> rfl) (sK ?_)
 exact thn hA λus s2 ⟨vs,H2,I2,r2,q2⟩=>hm pins s2 σ H2 x vs v us Q I2 r1 r2 q2
end
end L2
namespace L2
open PySem PySem.Spec PyProof.Rows
def MtM (X:Cx) (id:String) (r:V→List V→Hp→VK→Prop):Prop:=
 ∀ (pins:List (Addr × Obj)) (s:Shared) (σ:St) (H:Hp) (x:V) (xs:List V) (v:Value) (us:List Value) (Q:VK),Inv X pins σ H s→RelV x v→Vals xs us→r x xs H Q→
  wpAny (model X.prog X.w) X.A (call (.builtin id) (v :: us)) (EP X pins σ Q) X.xe s
theorem Vals.one:∀ {x:V} {us:List Value},Vals [x] us→∃ u,us=[u]∧RelV x u
 | _,_,.cons r .nil=>⟨_,rfl,r⟩
theorem Vals.two:∀ {x y:V} {us:List Value},Vals [x,y] us→∃ u v,us=[u,v]∧RelV x u∧RelV y v
 | _,_,_,.cons r (.cons q .nil)=>⟨_,_,rfl,r,q⟩
theorem Vals.eraseIdx:∀ {xs:List V} {us:List Value} (i:Nat),Vals xs us→Vals (xs.eraseIdx i) (us.eraseIdx i)
 | _,_,_,.nil=>.nil
 | _,_,0,.cons _ t=>t
 | _,_,i+1,.cons r t=>.cons r (Vals.eraseIdx i t)
theorem Iy {α:Type}:∀ (l:List α) (i:Nat),(l.eraseIdx i).length≤l.length
 | [],_=>zI _
 | _ :: _,0=>xP _
 | _ :: r,i+1=>Nat.succ_le_succ (Iy r i)
section
variable {X:Cx} {pins:List (Addr × Obj)} {σ:St} {H:Hp} {s:Shared} {l b:Addr} {xs ys zs:List V}
theorem Inv.Zor {its its':List Value} {n:Nat} {f:Array Value→Array Value} {t':Nat} (I:Inv X pins σ H s) (hH:H l=some (.lst xs))
  (e:s.heap.get? l=some { cls:=.type "list",data:=.seq its.toArray n }) (hf:f its.toArray=its'.toArray) (hv:Vals ys its') (hz:ys.length≤sizeLine) :
  Inv X pins σ (upd H l (.lst ys)) { s with heap:=s.heap.update l (Obj.mapSeq f),toks:=t' }:=by
 have q:=PySem.IsL.update e f
 rw [hf] at q
 refine I.write (x:=l) (e:=l) (by rw [hH]; exact trivial) (.inl rfl) (λb' u hb hu=>(xL s.heap (Obj.mapSeq f) (xV hb)).trans hu) ⟨_,q⟩ ?_
 exact ⟨hz,its',_,hv,q⟩
theorem Inv.lnew {its:List Value} {t':Nat} (I:Inv X pins σ H s) (hv:Vals ys its) (hz:ys.length≤sizeLine) :
  Inv X pins σ (upd H s.heap.objs.size (.lst ys)) { s with heap:=s.heap.push { cls:=.type "list",data:=.seq its.toArray },toks:=t' }:=
 I.laid (λ_ _ q=>zG _ q) (zI _) ⟨hz,its,0,hv,zN _ rfl⟩
theorem Inv.fresh (I:Inv X pins σ H s):H s.heap.objs.size=none:=I.hok.fresh (zI _)
theorem Inv.B7 (I:Inv X pins σ H s) (hH:H l=some (.lst xs)):xs.length≤sizeLine∧∃ (its:List Value) (n:Nat),Vals xs its∧xs.length=its.length∧s.heap.get? l=some { cls:=.type "list",data:=.seq its.toArray n }:=by
 obtain ⟨z,its,n,r,e⟩:=I.hok l _ hH
 exact ⟨z,its,n,r,r.length,e⟩
end
section
variable {X:Cx}
inductive E8 (x:V) (vs:List V) (H:Hp) (Q:VK):Prop
 | mk (l xs y:_) (h1:x=.ref l) (h2:vs=[y]) (h3:H l=some (.lst xs)) (h4:xs.length < sizeLine) (h5:Q .non (upd H l (.lst (xs ++ [y])))):E8 x vs H Q
def Zht:V→List V→Hp→VK→Prop:=λx vs H Q=>E8 x vs H Q
theorem Xf:MtM X "list.append" Zht:=by
 intro pins s σ H x vs v us Q I rx rv h
 obtain ⟨l,xs,y,rfl,rfl,hH,hz,q⟩:=h
 cases rx
 obtain ⟨u,rfl,ru⟩:=rv.one
 obtain ⟨z,its,n,r,hl,e⟩:=I.B7 hH
 refine call_meets F.slot_list_append ⟨_,e,rfl⟩ F.entry_list_append (F.args_list_append_2 _ _) (PySem.list_append l its.toArray n u (by rw [zR]; omega)) ⟨e,?_⟩
 refine ⟨.non,_,I.Zor (its':=its ++ [u]) hH e (by simp) (r.append (.cons ru .nil)) ?_,rfl,q⟩
 rw [zK,vJ]
 omega
inductive Za3 (x:V) (vs:List V) (H:Hp) (Q:VK):Prop
 | mk (l xs i k y:_) (h1:x=.ref l) (h2:vs=[.int i]) (h3:H l=some (.lst xs)) (h4 : -(2 ^ 63)≤i) (h5:i < 2 ^ 63) (h6:seqIndex? i xs.length=some k) (h7:xs[k]? = some y) (h8:Q y (upd H l (.lst (xs.eraseIdx k)))):Za3 x vs H Q
def Zlc:V→List V→Hp→VK→Prop:=λx vs H Q=>Za3 x vs H Q
theorem Dq:MtM X "list.pop" Zlc:=by
 intro pins s σ H x vs v us Q I rx rv h
 obtain ⟨l,xs,i,k,y,rfl,rfl,hH,h1,h2,hk,hy,q⟩:=h
 cases rx
 obtain ⟨u,rfl,ru⟩:=rv.one
 obtain ⟨t,rfl⟩:=ru
 obtain ⟨z,its,n,r,hl,e⟩:=I.B7 hH
 obtain ⟨w,hw,rw'⟩:=r.get hy
 refine call_meets F.slot_list_pop ⟨_,e,rfl⟩ F.entry_list_pop (F.args_list_pop_2 _ _)
  (MeetsSeq.list_pop_at l its.toArray n i t k w (fitsIndex_both h1 h2) (by rw [zR,← hl]; exact hk) (by rw [← xN]; exact hw) (by rw [zR]; omega)) ⟨e,?_⟩
 refine ⟨y,_,I.Zor (its':=its.eraseIdx k) hH e ?_ (r.eraseIdx k) ?_,rw',q⟩
 ·show its.toArray.eraseIdxIfInBounds k=(its.eraseIdx k).toArray
  rw [List.eraseIdxIfInBounds_toArray]
 ·have:=Iy xs k
  omega
inductive Zjz (x:V) (y:V) (H:Hp) (Q:VK):Prop
 | mk (l b xs zs:_) (h1:x=.ref l) (h2:y=.ref b) (h3:H l=some (.lst xs)) (h4:H b=some (.lst zs)) (h5:xs.length+zs.length≤sizeLine) (h6:∀ p,H p=none→Q (.ref p) (upd H p (.lst (xs ++ zs)))):Zjz x y H Q
def rCat:R2:=λx y H Q=>Zjz x y H Q
theorem Ze7:OpR X (binaryOp .Add) rCat:=by
 intro pins s σ H x y v u Q I rx ry h
 obtain ⟨l,b,xs,zs,rfl,rfl,hH,hB,hz,q⟩:=h
 cases rx
 cases ry
 obtain ⟨z,its,n,r,hl,e⟩:=I.B7 hH
 obtain ⟨z2,Zfn,n2,r2,hl2,e2⟩:=I.B7 hB
 refine PySem.P.add_list e e2 ?_ (by rw [zR,zR]; omega)
 have ea:its.toArray ++ Zfn.toArray=(its ++ Zfn).toArray:=by simp
 rw [ea]
 exact ⟨.ref _,_,I.lnew (t':=s.toks) (r.append r2) (by rw [zK]; omega),rfl,q _ I.fresh⟩
end
section
variable {prog:Program} {w:World} {A:Around} {E:Value→Shared→Prop} {s:Shared}
set_option maxRecDepth 100000 in
end
section
variable {X:Cx}
end
end L2
namespace Att
open PySem PySem.W PySem.Calls PyProof.Rows
theorem Mz {P:Params} {h:Heap}:∀ (ns:List Int) (vs:List Value),WellAll P h vs (ns.map WData.int)→IntsAre vs ns:=by
 intro ns
 induction ns with
 | nil=>
  intro vs w
  rw [wQ] at w
  cases w
  exact .nil
 | cons n ns ih=>
  intro vs w
  rw [zO] at w
  cases w with
  | cons a b=>
   cases a
   exact .cons _ _ (ih _ b)
theorem Zch {l:OpenLaw} {n:Nat} (hn:l.most=some n) {P:Params} {h:Heap} {args:List WData} {vals:List Value}
  (M0:l.row.toRowW.claim.pre args=true) (hwl:WellAll P h vals args) :
  ∃ a vs ns,vals=[Value.ref a]∧args=[WData.list (ns.map WData.int)]∧h.get? a=some { cls:=.type "list",data:=.seq vs.toArray }∧IntsAre vs ns∧ns.length≤n:=by
 have hsh:WShape.hasAll [] args [.list .int]=true:=(pre_splitW M0).1
 have hc:l.pre.holds [] { args:=args } = true:=(pre_splitW M0).2
 obtain ⟨d,r,rfl,h1,h2⟩:=hasAllW_cons hsh
 obtain rfl:=hasAllW_nil h2
 obtain ⟨xs,rfl,h3⟩:=hasW_list h1
 obtain ⟨ns,rfl⟩:=items_int h3
 have hlen:ns.length≤n:=by
  unfold OpenLaw.pre at hc
  have h4:(WTm.not (.lt (.lit (.int (n:Int))) (.len (.arg 0)))).holds [] { args:=[.list (ns.map .int)] } = true:=by
   have h4:=(holds_andW hc).1
   rw [hn] at h4
   exact h4
  have h5:=condW_of h4 (w_not (w_lt w_lit (w_len_list (w_arg rfl))))
  rw [zA] at h5
  refine Nat.le_of_not_lt λq=>?_
  have q':(n:Int) < ((ns.length:Nat):Int):=by omega
  first
   | (rw [decide_eq_true q'] at h5; exact absurd h5 (by decide))
   | (simp at h5; omega)
 cases hwl with
 | cons w1 w2=>
  cases w2
  cases w1 with
  | list ho Oy=>exact ⟨_,_,ns,rfl,rfl,ho,Mz ns _ Oy,hlen⟩
theorem Zcj (l:OpenLaw) (args:List WData):l.row.toRowW.claim.post args (.bool true) args=true:=
 postW_of (r:=l.row.toRowW) (X:=(true==true))
  (show WShape.has [] (.bool true) .bool=true by first | rfl | decide | simp [WShape.has,WShape.arms,WShape.armsAll])
  (show (WTm.eq .res (.lit (.bool true))).value [] { args:=args,res:=some (.bool true),after:=args } = some (.bool (true==true)) from w_eq_bool (w_res rfl) w_lit) rfl
theorem Mt {l:OpenLaw} {n:Nat} {q:Program} {loose:List Str} {XP:(Str→Option Value)→Heap→Prop} {YP:World→Heap→Prop} {d:DefRec}
  (hn:l.most=some n) (hdf:d.params.defaults=[])
  (call:∀ (w:World) (s₀ s₁:Shared) (mg mb:Str→Option Value) (fa:Addr) (o:Obj) (pm cd doc:Value) (a:Addr) (vs:List Value) (ns:List Int),
   Ground q loose [] XP w s₀ mg mb s₁.heap→YP w s₁.heap→
   s₁.heap.get? fa=some o→o.data=.func (docDef d.name d.params d.body d.scope pm cd doc)→s₁.heap.CodeRec cd d.name→mg d.name=some (.ref fa)→
   s₁.heap.get? a=some { cls:=.type "list",data:=.seq vs.toArray }→IntsAre vs ns→ns.length≤n→s₁.gens = #[]→
   codeAny (model l.prog w) callerA (.call (.ref fa) ⟨[.ref a],[]⟩) (λr s'=>r=.ok (.ret (.bool true))∧OldK s₁.heap s'.heap∧s'.os=s₁.os∧AllBare s'.gens) s₁) :
  WalkO q loose XP YP l.row.toRowW d [] (λf vs=>PySem.call f vs):=by
 intro w s₀ s₁ mg mb G Y fa o pm cd doc dV kV ho hd hcd hD hmg hg args vals as M0 hlay hrd hwl hlo
 obtain rfl:dV=.none:=Dflts.none hD hdf
 obtain rfl:kV=.none:=Dflts.noKw hD
 obtain ⟨a,vs,ns,rfl,rfl,Zfs,hints,hlen⟩:=Zch hn M0 hwl
 refine enter_call (uR (call w s₀ s₁ mg mb fa o pm cd doc a vs ns G Y ho (fd_plain hd) hcd hmg Zfs hints hlen hg) λr s' hq=>?_)
 obtain ⟨rfl,h2,h3,h4⟩:=hq
 exact ⟨.inl ⟨.bool true,.bool true,[],rfl,λ_=>rfl,.bool true,Zcj l _,λ_=>⟨List.Pairwise.nil,λ_ hm=>(nomatch hm)⟩⟩,h2,h3,h4⟩
section
variable {prog:Program} {w:World} {A:Around} {E:Value→Shared→Prop} {s:Shared} {K:Frag}
def ledger (h:Heap) (L d:Addr):List (Addr × Obj):=(List.range h.objs.size).filterMap λa=>if a=L∨a=d then none else (h.get? a).map λo=>(a,o)
end
end Att
namespace L2
open PySem PySem.Spec PyProof.Rows
theorem Qn:∀ {vs:List Value} {ns:List Int},IntsAre vs ns→Vals (ns.map V.int) vs
 | _,_,.nil=>.nil
 | _,_,.cons n t h=>.cons ⟨t,rfl⟩ (Qn h)
def Znj (H:Hp):Prop:=∀ b,H b=none∨∃ o xs,H b=some (.frz o (.lst xs))
theorem Zfk {P:Program} {w:World} {K:W.Frag} {mg mb:Str→Option Value} {CX:CXT} {k:Nat} {fa a:Addr} {fd:FuncData} {x:Str} {sp:Sp} {s₁:Shared} {vs:List Value} {ns:List Int}
  (KX:K.In s₁.heap) (hns:s₁.heap.Ns mainGlobals mg) (hb:s₁.heap.Ns builtinsNs mb) (hbb:∀ x:Str,x≠"__name__"→mb x=bootBuiltins x) (Zml:s₁.heap.NoLimit) (hg:s₁.gens = #[])
  (ha:s₁.heap.get? a=some { cls:=.type "list",data:=.seq vs.toArray }) (hi:IntsAre vs ns) (hl:ns.length≤sizeLine) (hr:Wx k callerA)
  (F:∀ base:Heap,K.In base→base.Ns mainGlobals mg→Yt P w K mg base CX k fa fd [x] sp) (Zfx:∀ (s:Shared) (u:Value),BindsTo s fd ⟨[u],[]⟩ [(x,u)])
  (hsp:∀ H:Hp,Znj H→SqL K H a (ns.map V.int)→sp [.ref a] H (λv _=>v=.bl true) λ_ _ _=>False)
  (hCX:∀ H e s',CX [] H s₁ (λ_ _ _=>False) e s'→False) :
  codeAny (model P w) callerA (.call (.ref fa) ⟨[.ref a],[]⟩) (λr s'=>r=.ok (.ret (.bool true))∧OldK s₁.heap s'.heap∧s'.os=s₁.os∧AllBare s'.gens) s₁:=by
 have rv:=Qn hi
 have Zl0:=hi.length
 have core:∀ H:Hp,Znj H→SqL K H a (ns.map V.int)→HOk P w H s₁.heap→(∀ b,H b≠none→b=a)→(H a≠none→K.lookup a=none)→
   codeAny (model P w) callerA (.call (.ref fa) ⟨[.ref a],[]⟩) (λr s'=>r=.ok (.ret (.bool true))∧OldK s₁.heap s'.heap∧s'.os=s₁.os∧AllBare s'.gens) s₁:=by
  intro H hO hS hok hA hK
  have Pa:∀ {b:Addr} {o:Obj},s₁.heap.get? b=some o→H b=none→(Po s₁.heap H).get? b=some o:=λe n=>Ca e n
  have noA:∀ {b:Addr} {o:Obj} {es:Array DictEntry} {ep:Nat},s₁.heap.get? b=some o→o.data=.dict es ep→H b=none:=λ{b o es ep} e d=>by
   cases q:H b with
   | none=>rfl
   | some u=>
    have e':b=a:=hA b (by rw [q]; simp)
    subst e'
    rw [ha] at e; cases e
    have d':Data.seq vs.toArray _=Data.dict es ep:=d
    cases d'
  have nsK:∀ {b:Addr} {m:Str→Option Value},s₁.heap.Ns b m→(Po s₁.heap H).Ns b m:=λ{b m} ⟨o,es,ep,e,d,r⟩=>⟨o,es,ep,Pa e (noA e d),d,r⟩
  have hKb:K.In (Po s₁.heap H):=λb o e=>Pa (KX b o e) (by
   cases q:H b with
   | none=>rfl
   | some u=>
    have e':b=a:=hA b (by rw [q]; simp)
    subst e'
    rw [hK (by rw [q]; simp)] at e; cases e)
  have hM:Mod K mg (Po s₁.heap H):=⟨hKb,nsK hns,⟨mb,nsK hb,hbb⟩,let ⟨mc,h1,h2⟩:=Zml; ⟨mc,nsK h1,h2⟩⟩
  have e0:Zah P w K mg (Po s₁.heap H) callerA [] s₁ H:=⟨rfl,hM,λb o e=>Zbd e,sM (Hb _ _),trivial,λb hb=>absurd (show b∈([]:List Addr) from hb) (by simp),hok,.of_eq hg⟩
  refine uR ((F _ hKb (nsK hns)).run callerA [] s₁ H ⟨[.ref a],[]⟩ [.ref a] [.ref a] _ _ hr e0 (Zfx s₁ (.ref a)) (.cons rfl .nil) (hsp H hO hS)) λr s' h=>?_
  cases r with
  | error e=>exact (hCX H e s' h).elim
  | ok fl=>
   cases fl with
   | next=>exact False.elim h
   | brk=>exact False.elim h
   | cont=>exact False.elim h
   | ret u=>
    obtain ⟨v,H',os,bare,un,Zin,r',q⟩:=h
    have q':v=.bl true:=q
    subst q'
    obtain rfl:u=Value.bool true:=r'
    refine ⟨rfl,OldK.of_keep λb o e=>?_,os,bare⟩
    cases q:H b with
    | none=>exact un.keep b o e q (by intro z; exact absurd (show b∈([]:List Addr) from z) (by simp)) (by simp)
    | some u=>
     rcases hO b with z | ⟨ob,xs,z⟩
     ·rw [q] at z; cases z
     ·have z2:=un.M5 b ob _ z
      obtain ⟨e1,_⟩:=hok b _ z
      obtain ⟨e2,_⟩:=Zin b _ z2
      rw [e] at e1; cases e1
      exact e2
 cases hk:K.lookup a with
 | some o=>
  have e:=KX a o hk
  rw [ha] at e
  cases e
  refine core (λ_=>none) (λ_=>.inl rfl) (.inr ⟨_,vs.toArray,_,hk,rfl,rfl,rfl,by rw [zR,Zl0]; exact hl,by simpa using rv⟩) (λb u z=>by have z':(none:Option HO)=some u:=z; cases z') (λb z=>absurd rfl z) λz=>absurd rfl z
 | none=>
  refine core (λb=>if b=a then some (.frz { cls:=.type "list",data:=.seq vs.toArray } (.lst (ns.map V.int))) else none) (λb=>?_) (.inl (.inr ⟨{ cls:=.type "list",data:=.seq vs.toArray },if_pos rfl⟩)) (λb u z=>?_) (λb z=>?_) λ_=>hk
  ·by_cases hb:b=a
   ·exact .inr ⟨_,_,if_pos hb⟩
   ·exact .inl (if_neg hb)
  ·by_cases hb:b=a
   ·have z':=(if_pos hb).symm.trans z
    cases z'
    subst hb
    exact ⟨ha,by rw [zA]; exact hl,vs,_,rv,ha⟩
   ·have z':=(if_neg hb).symm.trans z
    cases z'
  ·by_cases hb:b=a
   ·exact hb
   ·exact absurd (if_neg hb) z
end L2
namespace L2
open PySem PySem.Spec PyProof.Rows
abbrev KOf {K:W.Frag} {h:Heap} (_:K.In h):W.Frag:=K
theorem Zhd {l:W.OpenLaw} {n k:Nat} {q:Program} {loose:List Str} {XP:(Str→Option Value)→Heap→Prop} {YP:World→Heap→Prop} {d:DefRec} {K:Params→W.Frag} {CX:World→CXT} {sp:World→Sp} {x:Str}
  (hn:l.most=some n) (hn2:n≤sizeLine) (hdf:d.params.defaults=[]) (hr:Wx k callerA)
  (hY:∀ (w:World) (h:Heap),YP w h→(K w.params).In h)
  (F:∀ (w:World) (mg:Str→Option Value) (fa:Addr) (h:Heap),(K w.params).In h→h.Ns mainGlobals mg→mg d.name=some (.ref fa)→
   ∃ fd:FuncData,(∀ (s:Shared) (u:Value),BindsTo s fd ⟨[u],[]⟩ [(x,u)])∧
    ∀ base:Heap,(K w.params).In base→base.Ns mainGlobals mg→Yt l.prog w (K w.params) mg base (CX w) k fa fd [x] (sp w))
  (hsp:∀ (w:World) (H:Hp) (a:Addr) (ns:List Int),ns.length≤n→Znj H→SqL (K w.params) H a (ns.map V.int)→sp w [.ref a] H (λv _=>v=.bl true) λ_ _ _=>False)
  (hCX:∀ (w:World) (H:Hp) (s:Shared) (e:Value) (s':Shared),CX w [] H s (λ_ _ _=>False) e s'→False) :
  W.WalkO q loose XP YP l.row.toRowW d [] (λf vs=>PySem.call f vs):=by
 refine Att.Mt hn hdf λw s₀ s₁ mg mb fa o pm cd doc a vs ns G Y ho hd hcd hmg Zfs hints hlen hg=>?_
 have KX:=hY w _ Y
 obtain ⟨fd,hb,hF⟩:=F w mg fa _ KX G.T.g hmg
 exact Zfk KX G.T.g G.T.b G.T.builtins G.T.nolimit hg Zfs hints (yG hlen hn2) hr hF hb (λH hO hS=>hsp w H a ns hlen hO hS) λH e s'=>hCX w H s₁ e s'
end L2
/- THE LAST THEOREM (shape; LID,My.* are yours):
   My.Adr: a structure of the addresses that your layer names (classes,Znp); My.Txt K t: a structure (Prop) of the equations over K;
   My.Zko:{K} {implicit addresses ..} (e1:nsIn K mainGlobals "law" = some (some (.ref f))) (e2:K.lookup f=some ⟨oc,od,.func (fnOf "law" "law" params body scope dV kV doc pm an cdv ct),sl⟩) (e3:codeIn K cdv "law" = true) .. : ∃ t,My.Txt K t
set_option maxRecDepth 100000 in
set_option maxHeartbeats 0 in
theorem PySem.Challenge.Zi1 : PySem.Challenge.Zk8.Holds := by
 w_on; o_law; k_head; (case hw=>w_witness2)
 k_fill
 refine L2.Zhd (l:=PySem.Challenge.Zk8) (n:=63) (k:=40) (x:="script") (CX:=λw=>..) (sp:=λ_=>My.sp_law) rfl (by decide) rfl ⟨rfl,by decide,by decide⟩ (λw h Y=>W.kIn_of Y) ?F ?S ?C
 case F=>
  intro w mg fa h KX G hmg
  have T:∃ t,My.Txt (L2.KOf KX) t:=by
   dsimp only [L2.KOf]                          -- K must stand as «<heap const> w.params» for k_is
   refine' My.Zko ?e1 ?e2 ?e3 ..
   (case e1=>W.k_is)                    -- in the order: a name -> its address -> its object -> its parts
   (case e2=>W.k_is)
   ..
  obtain ⟨t,T⟩:=T
  have e0:=hmg.symm.trans (yZ KX G T.law)
  cases e0                                       -- fa is the law's own address
  exact ⟨_,λs u=>.of_eq rfl,λbase kb nb=>My.Zl1 T kb nb⟩     -- if «.of_eq rfl» comes too early: refine' ⟨_,?b,λbase kb nb=>My.Zl1 T kb nb⟩; exact λs u=>.of_eq rfl
 case S=>exact λw H a ns hl hO hS=>..
 case C=>exact ..
(the tactic k_is has no namespace: write k_is) -/
namespace L2
open PySem PySem.Spec PyProof.Rows
def Ye (s:Stmt):Arguments:=match s with
 | .FunctionDef _ a _ _ _ _ _ _ _ _=>a
 | _=>{ posonlyargs:=[],args:=[],vararg:=none,kwonlyargs:=[],kw_defaults:=[],kwarg:=none,defaults:=[] }
def Z5 (s:Stmt):List Stmt:=match s with
 | .FunctionDef _ _ b _ _ _ _ _ _ _=>b
 | _=>[]
def Zg (s:Stmt):Scope:=match s with
 | .FunctionDef _ _ _ _ _ _ sc _ _ _=>sc
 | _=>{ kind:=.function,names:=[],isGenerator:=false,isCoroutine:=false }
abbrev CX0:CXT:=λ_ _ _ _ _ _=>False
abbrev E0:XK:=λ_ _ _=>False
theorem Zj1 {X:Cx}:Passes CX0 X E0:=λ_ _ _ _ _ _ _ h=>h.elim
structure Fun (K:W.Frag) (x qual:Str) (st:Stmt) (f:Addr) (fd:FuncData):Prop where
 ex:∃ (oc:Value) (od:Option Addr) (kV doc pm:Value) (an:Option Addr) (cdv ct:Value) (osl:Array (Option Value)),
  fd=W.fnOf x qual (Ye st) (Z5 st) (Zg st) .none kV doc pm an cdv ct∧K.lookup f=some ⟨oc,od,.func fd,osl⟩∧W.codeIn K cdv qual=true
 kp:W.keepIn K (.ref f)=true
section
variable {P:Program} {w:World} {K:W.Frag} {mg:Str→Option Value} {base:Heap}
theorem Fun.ok {x qual:Str} {st:Stmt} {f:Addr} {fd:FuncData} {N ps:List Str} {k:Nat} {sp:Sp} (F:Fun K x qual st f fd) (S:Yf N ps (Zg st)) (len:∀ vs H Q E,sp vs H Q E→vs.length=ps.length)
  (R3:∀ (cdv:Value) (A:Around) (outer:List Env) (s:Shared) (H:Hp) (vs:List V) (Q:VK) (E:XK),Wx k (A.deeper (envOfC qual (Zg st) s.heap.objs.size f cdv))→sp vs H Q E→
   ∃ t,PSs (Ft CX0 P w K mg base N qual (Zg st) f cdv A outer s H E).nox (Z5 st) t∧t { nx:=λ_ H'=>Q .non H',rt:=Q } (start N vs) H):Yt P w K mg base CX0 (k+1) f fd ps sp:=by
 obtain ⟨oc,od,kV,doc,pm,an,cdv,ct,osl,rfl,lk,hcd⟩:=F.ex
 refine Zf3 lk hcd S len λA outer s H vs Q E hr hsp=>?_
 obtain ⟨t,h,q⟩:=R3 cdv A outer s H vs Q E hr hsp
 exact ⟨t,h.nox,q⟩
theorem Fun.binds {x qual:Str} {st:Stmt} {f:Addr} {fd:FuncData} {ps:List Str} (F:Fun K x qual st f fd)
  (h:∀ (kV doc pm:Value) (an:Option Addr) (cdv ct:Value) (us:List Value),us.length=ps.length→bindArgs (W.fnOf x qual (Ye st) (Z5 st) (Zg st) .none kV doc pm an cdv ct) ⟨us,[]⟩=pure (ps.zip us)):Binds K fd ps []:=by
 obtain ⟨oc,od,kV,doc,pm,an,cdv,ct,osl,rfl,lk,hcd⟩:=F.ex
 exact .all (h kV doc pm an cdv ct)
theorem Y3 {x qual:Str} {st:Stmt} {f:Addr} {oc:Value} {od an:Option Addr} {osl:Array (Option Value)} {kV doc pm cdv ct:Value} (l:K.lookup f=some ⟨oc,od,.func (W.fnOf x qual (Ye st) (Z5 st) (Zg st) .none kV doc pm an cdv ct),osl⟩)
  (c:W.codeIn K cdv qual=true) (k:W.keepIn K (.ref f)=true):Fun K x qual st f (W.fnOf x qual (Ye st) (Z5 st) (Zg st) .none kV doc pm an cdv ct):=⟨⟨oc,od,kV,doc,pm,an,cdv,ct,osl,rfl,l,c⟩,k⟩
end
theorem W8 {A:Around} {k:Nat} (hr:Wx k A):A.units+1 < cLine:=yO (Nat.add_le_add_left (by decide:1≤64) _) hr.units
theorem Zw {n:Nat} (h:n≤1000):n < sizeLine:=yO h (by decide)
section
variable {X:Cx}
theorem pv (i:Nat) {x:Str} {pos:Pos} (hN:X.N[i]? = some x:=by rfl) (hv:Vis X.env.scope x:=by first | exact Or.inl rfl | exact Or.inr (Or.inl rfl) | exact Or.inr (Or.inr rfl)) (hd:(x==("__debug__" : Str))=false:=by decide)
  (hcd:(x==("__classdict__" : Str))=false:=by decide):PE X (.Name x pos) (Bb i):=Gs hN hv hd hcd
end
theorem Ox {A B:Prop} (h:B):if false=true then A else B:=by
 rw [if_neg zP]
 exact h
theorem Ab {A B:Prop} (h:A):if true=true then A else B:=by
 rw [if_pos rfl]
 exact h
theorem Wu {c A B:Prop} [Decidable c] (h1:c→A) (h2:¬ c→B):if c then A else B:=by
 by_cases h:c
 ·rw [if_pos h]
  exact h1 h
 ·rw [if_neg h]
  exact h2 h
theorem I0 {c A B:Prop} [Decidable c] (hc:c) (h:B):if (!decide c)=true then A else B:=by
 rw [decide_eq_true hc]
 exact Ox h
def Zr (H H':Hp):Prop:=∀ b o,H b=some o→H' b=some o
theorem Zr.refl (H:Hp):Zr H H:=λ_ _ h=>h
theorem Zr.trans {H H1 H2:Hp} (a:Zr H H1) (b:Zr H1 H2):Zr H H2:=λc o h=>b c o (a c o h)
theorem Zr.free {H H':Hp} (e:Zr H H') {l:Addr} (h:H' l=Option.none):H l=Option.none:=by
 cases q:H l with
 | none=>rfl
 | some o=>
  rw [e l o q] at h
  cases h
end L2
namespace L2
open PySem PySem.Spec PyProof.Rows
section
variable {κ:Type} [DecidableEq κ]
def X0 (kvs:List (κ × V)) (k:κ):Option V:=(kvs.find? λkv=>decide (kv.1=k)).map (·.2)
def putK (kvs:List (κ × V)) (k:κ) (v:V):List (κ × V):=
 if (kvs.any λkv=>decide (kv.1=k))=true then kvs.map (λkv=>if kv.1=k then (kv.1,v) else kv) else kvs ++ [(k,v)]
theorem Zdr {k:κ}:X0 ([]:List (κ × V)) k=none:=rfl
theorem Xt {p:κ × V} {r:List (κ × V)} {k:κ} (e:p.1=k):X0 (p :: r) k=some p.2:=by simp [X0,uH,e]
theorem Xb {p:κ × V} {r:List (κ × V)} {k:κ} (e:¬ p.1=k):X0 (p :: r) k=X0 r k:=by simp [X0,uH,e]
theorem Rh (k:κ):∀ kvs:List (κ × V),(kvs.any λkv=>decide (kv.1=k))=(X0 kvs k).isSome
 | []=>rfl
 | p :: r=>by
  rw [tZ]
  by_cases e:p.1=k
  ·simp only [Xt e,decide_eq_true e,Bool.true_or,Option.isSome_some]
  ·rw [Xb e,decide_eq_false e,Bool.false_or]; exact Rh k r
theorem Ed (k j:κ) (y:V):∀ kvs:List (κ × V),X0 (kvs.map λkv=>if kv.1=k then (kv.1,y) else kv) j=(X0 kvs j).map λx=>if j=k then y else x
 | []=>rfl
 | p :: r=>by
  have ih:=Ed k j y r
  rw [zO]
  by_cases h:p.1=k
  ·rw [if_pos h]
   by_cases e:p.1=j
   ·rw [Xt (p:=(p.1,y)) e,Xt e,uI,if_pos (e.symm.trans h)]
   ·rw [Xb (p:=(p.1,y)) e,Xb e,ih]
  ·rw [if_neg h]
   by_cases e:p.1=j
   ·rw [Xt (p:=p) e,Xt e,uI,if_neg (λz=>h (e.trans z))]
   ·rw [Xb (p:=p) e,Xb e,ih]
theorem Ig (k j:κ) (y:V):∀ kvs:List (κ × V),X0 kvs k=none→X0 (kvs ++ [(k,y)]) j=if j=k then some y else X0 kvs j
 | [],_=>by
  by_cases e:k=j
  ·rw [if_pos e.symm]; exact Xt (p:=(k,y)) e
  ·rw [if_neg (λz=>e z.symm)]; exact Xb (p:=(k,y)) e
 | p :: r,hn=>by
  rw [List.cons_append]
  have hk:¬ p.1=k:=λz=>by rw [Xt z] at hn; cases hn
  rw [Xb hk] at hn
  have ih:=Ig k j y r hn
  by_cases e:p.1=j
  ·rw [Xt e,Xt e,if_neg (λz=>hk (e.trans z))]
  ·rw [Xb e,Xb e,ih]
theorem Zdq (kvs:List (κ × V)) (k j:κ) (y:V):X0 (putK kvs k y) j=if j=k then some y else X0 kvs j:=by
 unfold putK
 by_cases a:(kvs.any λkv=>decide (kv.1=k))=true
 ·rw [if_pos a,Ed]
  rw [Rh] at a
  by_cases e:j=k
  ·obtain ⟨x,hx⟩:=tH.mp a
   rw [if_pos e,e,hx,uI,if_pos rfl]
  ·rw [if_neg e]
   cases X0 kvs j with
   | none=>rfl
   | some x=>rw [uI,if_neg e]
 ·rw [if_neg a]
  refine Ig k j y kvs ?_
  rw [Rh] at a
  cases q:X0 kvs k with
  | none=>rfl
  | some x=>rw [q] at a; exact (a rfl).elim
theorem Vy (kvs:List (κ × V)) (k:κ) (v:V):(putK kvs k v).length≤kvs.length+1:=by
 unfold putK
 split
 ·rw [zA]; omega
 ·rw [zK,yR,List.length_nil]; omega
theorem To {kvs:List (κ × V)} {k:κ} (v:V) (h:X0 kvs k=none):putK kvs k v=kvs ++ [(k,v)]:=by
 unfold putK
 rw [Rh,h]
 exact if_neg (by decide)
theorem Px.N7 {o:Option V} {u:Option Value} (r:Px o u):o.isSome=u.isSome:=by
 cases o with
 | none=>cases u with
  | none=>rfl
  | some _=>exact (show False from r).elim
 | some _=>cases u with
  | none=>exact (show False from r).elim
  | some _=>rfl
theorem KV.val {kvs:List (κ × V)} {vs:List (κ × Value)} (r:KV kvs vs) (k:κ):Px (X0 kvs k) (valueAt vs k):=by
 unfold KV at r
 induction r with
 | nil=>exact True.intro
 | @cons p q ps qs h t ih=>
  obtain ⟨h1,h2⟩:=h
  by_cases e:p.1=k
  ·have e':q.1=k:=h1.symm.trans e
   have b:valueAt (q :: qs) k=some q.2:=by simp [valueAt,uH,e']
   rw [Xt e,b]; exact h2
  ·have e':¬ q.1=k:=λz=>e (h1.trans z)
   have b:valueAt (q :: qs) k=valueAt qs k:=by simp [valueAt,uH,e']
   rw [Xb e,b]; exact ih
theorem KV.any {kvs:List (κ × V)} {vs:List (κ × Value)} (r:KV kvs vs) (k:κ):(kvs.any λkv=>decide (kv.1=k))=vs.any λkv=>decide (kv.1=k):=by
 unfold KV at r
 induction r with
 | nil=>rfl
 | cons h t ih=>rw [tZ,tZ,ih,h.1]
theorem KV.Zla {kvs:List (κ × V)} {vs:List (κ × Value)} (r:KV kvs vs) (k:κ) {y:V} {u:Value} (ry:RelV y u) :
  KV (kvs.map λkv=>if kv.1=k then (kv.1,y) else kv) (vs.map λkv=>if kv.1=k then (kv.1,u) else kv):=by
 unfold KV at r ⊢
 induction r with
 | nil=>exact .nil
 | @cons p q ps qs h t ih=>
  rw [zO,zO]
  refine .cons ?_ ih
  obtain ⟨h1,h2⟩:=h
  by_cases e:p.1=k
  ·rw [if_pos e,if_pos (h1.symm.trans e)]; exact ⟨h1,ry⟩
  ·rw [if_neg e,if_neg (λz=>e (h1.trans z))]; exact ⟨h1,h2⟩
theorem KV.put {kvs:List (κ × V)} {vs:List (κ × Value)} (r:KV kvs vs) (k:κ) {y:V} {u:Value} (ry:RelV y u):KV (putK kvs k y) (stored vs k u):=by
 unfold putK stored
 rw [r.any k]
 by_cases e:(vs.any λkv=>decide (kv.1=k))=true
 ·rw [if_pos e,if_pos e]; exact r.Zla k ry
 ·rw [if_neg e,if_neg e]; exact Paired.snoc r ⟨rfl,ry⟩
theorem KV.length {kvs:List (κ × V)} {vs:List (κ × Value)} (r:KV kvs vs):kvs.length=vs.length:=vM r
end
theorem D5 {P:Program} {w:World} {k:Key} {u:Value} (r:RelV (kV k) u):(Yy P w).is k u=true:=by
 cases k with
 | inl i=>obtain ⟨t,e⟩:=(show ∃ t,u=Value.int i t from r); subst e; exact Ds P w i t
 | inr x=>obtain ⟨t,e⟩:=(show ∃ t,u=Value.str x t from r); subst e; exact Dr P w x t
theorem Iz {P:Program} {w:World}:∀ {ks:List Key} {us:List Value},Vals (ks.map kV) us→ItemsAre (Yy P w) ks us
 | [],_,r=>by rw [wQ] at r; cases r; exact .nil
 | k :: ks,_,r=>by
  rw [zO] at r
  cases r with
  | cons h t=>exact .cons (D5 h) (Iz t)
abbrev KT (H:Hp):List (List Key × V)→List (List Key × Addr × Value)→Prop:=Paired λp q=>p.1=q.1∧H q.2.1=some (.tup (p.1.map kV))∧RelV p.2 q.2.2
theorem KT.val {H:Hp} {kvs:List (List Key × V)} {xs:List (List Key × Addr × Value)} (r:KT H kvs xs) (k:List Key):Px (X0 kvs k) ((atKey xs k).map (·.2)):=by
 induction r with
 | nil=>exact True.intro
 | @cons p q ps qs h t ih=>
  obtain ⟨h1,_,h2⟩:=h
  by_cases e:p.1=k
  ·have e':q.1=k:=h1.symm.trans e
   have b:atKey (q :: qs) k=some q.2:=by simp [atKey,uH,e']
   rw [Xt e,b]; exact h2
  ·have e':¬ q.1=k:=λz=>e (h1.trans z)
   have b:atKey (q :: qs) k=atKey qs k:=by simp [atKey,uH,e']
   rw [Xb e,b]; exact ih
theorem KT.Zla {H:Hp} {kvs:List (List Key × V)} {xs:List (List Key × Addr × Value)} (r:KT H kvs xs) (k:List Key) {y:V} {u:Value} (ry:RelV y u) :
  KT H (kvs.map λkv=>if kv.1=k then (kv.1,y) else kv) (xs.map (putAt k u)):=by
 induction r with
 | nil=>exact .nil
 | @cons p q ps qs h t ih=>
  rw [zO,zO]
  refine .cons ?_ ih
  obtain ⟨h1,h2,h3⟩:=h
  unfold putAt
  by_cases e:p.1=k
  ·rw [if_pos e,if_pos (h1.symm.trans e)]; exact ⟨h1,h2,ry⟩
  ·rw [if_neg e,if_neg (λz=>e (h1.trans z))]; exact ⟨h1,h2,h3⟩
theorem KT.put {H:Hp} {kvs:List (List Key × V)} {xs:List (List Key × Addr × Value)} (r:KT H kvs xs) (k:List Key) {b:Addr} {y:V} {u:Value} (hb:H b=some (.tup (k.map kV))) (ry:RelV y u) :
  KT H (putK kvs k y) (storedH xs k b u):=by
 have e:(kvs.any λkv=>decide (kv.1=k))=(atKey xs k).isSome:=by
  rw [Rh,(r.val k).N7,Option.isSome_map]
 unfold putK storedH
 rw [e]
 by_cases q:(atKey xs k).isSome=true
 ·rw [if_pos q,if_pos q]; exact r.Zla k ry
 ·rw [if_neg q,if_neg q]; exact Paired.snoc r ⟨rfl,hb,ry⟩
theorem KT.keeps {H H':Hp} {kvs:List (List Key × V)} {xs:List (List Key × Addr × Value)} (r:KT H kvs xs) (ht:∀ b ys,H b=some (.tup ys)→H' b=some (.tup ys)):KT H' kvs xs:=
 Paired.Zlt r λ_ _ z=>⟨z.1,ht _ _ z.2.1,z.2.2⟩
section
variable {P:Program} {w:World} {H:Hp} {h:Heap} {a:Addr}
theorem Zjn {u:HO} (ok:HOk P w H h) (e:Rd H a u):Yl P w H h a u:=e.ok ok
theorem Hi {kvs:List (Key × V)} (ok:HOk P w H h) (e:Rd H a (.dK kvs)):kvs.length≤sizeLine∧(a==sysModules)=false∧∃ vs,KV kvs vs∧h.DictOf (Yy P w) a vs:=
 show Yl P w H h a (.dK kvs) from Zjn ok e
theorem Zkc {kvs:List (Key × V)} (ok:HOk P w H h) (e:H a=some (.dK kvs)):kvs.length≤sizeLine∧(a==sysModules)=false∧∃ vs,KV kvs vs∧h.DictOf (Yy P w) a vs:=Hi ok (.inl e)
theorem N6 {ks:List Key} (ok:HOk P w H h) (e:H a=some (.tup (ks.map kV))):(tupleKind (Yy P w)).is h ks a:=by
 obtain ⟨_,its,r,o,h1,h2,n,h3⟩:=(show Yl P w H h a (.tup (ks.map kV)) from ok a _ e)
 exact ⟨o,its.toArray,n,h1,h2,h3,by simpa using Iz r⟩
theorem Hg {kvs:List (List Key × V)} (ok:HOk P w H h) (e:Rd H a (.dT kvs)):kvs.length≤sizeLine∧(a==sysModules)=false∧
  ∃ xs,KT H kvs xs∧h.DictOfH (tupleKind (Yy P w)) a xs:=by
 obtain ⟨z,y,xs,r,o,es,ep,h1,h2,h3,h4,h5⟩:=(show Yl P w H h a (.dT kvs) from Zjn ok e)
 refine ⟨z,y,xs,r,o,es,ep,h1,h2,h3,h4,λx hx=>?_,h5⟩
 have all:∀ {l:List (List Key × V)} {m:List (List Key × Addr × Value)},KT H l m→∀ x∈m,(tupleKind (Yy P w)).is h x.1 x.2.1:=by
  intro l m q
  induction q with
  | nil=>intro x hx; exact nomatch hx
  | @cons p q ps qs hq t ih=>
   intro x hx
   rcases yE.mp hx with e | hx
   ·subst e
    exact N6 ok (by rw [← hq.1]; exact hq.2.1)
   ·exact ih x hx
 exact all r x hx
theorem Zgf {kvs:List (List Key × V)} (ok:HOk P w H h) (e:H a=some (.dT kvs)):kvs.length≤sizeLine∧(a==sysModules)=false∧
  ∃ xs,KT H kvs xs∧h.DictOfH (tupleKind (Yy P w)) a xs:=Hg ok (.inl e)
end
def Rg (H:Hp) (a:Addr) (y:V) (r:Option V):Prop:=
 (∃ kvs k,Rd H a (.dK kvs)∧y=kV k∧r=X0 kvs k)∨∃ kvs k b,Rd H a (.dT kvs)∧y=.ref b∧H b=some (.tup (k.map kV))∧r=X0 kvs k
def Jm (H:Hp) (a:Addr) (y v:V) (H':Hp):Prop:=
 (∃ kvs k,H a=some (.dK kvs)∧y=kV k∧kvs.length < sizeLine∧H'=upd H a (.dK (putK kvs k v)))∨
 ∃ kvs k b,H a=some (.dT kvs)∧y=.ref b∧H b=some (.tup (k.map kV))∧kvs.length < sizeLine∧H'=upd H a (.dT (putK kvs k v))
theorem Rg.k {H:Hp} {a:Addr} {kvs:List (Key × V)} {k:Key} (e:H a=some (.dK kvs)):Rg H a (kV k) (X0 kvs k):=.inl ⟨kvs,k,.inl e,rfl,rfl⟩
theorem Rg.t {H:Hp} {a b:Addr} {kvs:List (List Key × V)} {k:List Key} (e:H a=some (.dT kvs)) (eb:H b=some (.tup (k.map kV))):Rg H a (.ref b) (X0 kvs k):=.inr ⟨kvs,k,b,.inl e,rfl,eb,rfl⟩
theorem Jm.k {H:Hp} {a:Addr} {kvs:List (Key × V)} {k:Key} {v:V} (e:H a=some (.dK kvs)) (hl:kvs.length < sizeLine):Jm H a (kV k) v (upd H a (.dK (putK kvs k v))):=.inl ⟨kvs,k,e,rfl,hl,rfl⟩
theorem Jm.t {H:Hp} {a b:Addr} {kvs:List (List Key × V)} {k:List Key} {v:V} (e:H a=some (.dT kvs)) (eb:H b=some (.tup (k.map kV))) (hl:kvs.length < sizeLine) :
  Jm H a (.ref b) v (upd H a (.dT (putK kvs k v))):=.inr ⟨kvs,k,b,e,rfl,eb,hl,rfl⟩
section
variable {X:Cx} {pins:List (Addr × Obj)} {σ:St} {H:Hp} {s:Shared} {a:Addr} {y v:V} {u r:Value} {o:Option V} {A:Around} {E:Value→Shared→Prop}
theorem Inv.big (I:Inv X pins σ H s):sysModules < s.heap.objs.size:=by
 have h:mainGlobals < s.heap.objs.size:=(I.mod.glob.keeps I.bk).lt
 exact Nat.lt_trans (by decide) h
theorem Zde {Q:Value→Shared→Prop} (hu:A.units+1 < cLine) (I:Inv X pins σ H s) (g:Rg H a y (some v)) (ry:RelV y u) (h:∀ w' s',Inv X pins σ H s'→RelV v w'→Q w' s') :
  wpAny (model X.prog X.w) A (getItem (.ref a) u) Q E s:=by
 rcases g with ⟨kvs,k,e,ey,l⟩ | ⟨kvs,k,b,e,ey,eb,l⟩
 ·subst ey
  obtain ⟨z,hd,vs,rel,dd⟩:=Hi I.hok e
  obtain ⟨w',hw,rw'⟩:=Px.some_of (v:=v) (o:=valueAt vs k) (by rw [l]; exact rel.val k)
  exact wpAny_getItem_of (D5 ry) dd.mapOf hw (h w' _ (I.tok _) rw')
 ·subst ey
  cases (show u=Value.ref b from ry)
  obtain ⟨z,hd,xs,rel,dd⟩:=Hg I.hok e
  obtain ⟨w',hw,rw'⟩:=Px.some_of (v:=v) (o:=(atKey xs k).map (·.2)) (by rw [l]; exact rel.val k)
  obtain ⟨p,hp,hp2⟩:=Option.map_eq_some_iff.mp hw
  refine wpAny_getItem_heap (tupleKind_room_in1 hu) (N6 I.hok eb) dd hp ?_
  rw [hp2]
  exact h w' _ (I.tok _) rw'
theorem Ziz {Q:Value→Shared→Prop} (hu:A.units+1 < cLine) (I:Inv X pins σ H s) (g:Rg H a y o) (ry:RelV y u) (h:∀ s',Inv X pins σ H s'→Q (.bool (!o.isSome)) s') :
  wpAny (model X.prog X.w) A (compareOp .NotIn u (.ref a)) Q E s:=by
 rcases g with ⟨kvs,k,e,ey,l⟩ | ⟨kvs,k,b,e,ey,eb,l⟩
 ·subst ey
  obtain ⟨z,hd,vs,rel,dd⟩:=Hi I.hok e
  refine wpAny_notIn_of (D5 ry) hd dd.mapOf ?_
  rw [← (rel.val k).N7,← l]
  exact h _ (I.tok _)
 ·subst ey
  cases (show u=Value.ref b from ry)
  obtain ⟨z,hd,xs,rel,dd⟩:=Hg I.hok e
  refine wpAny_notIn_heap (tupleKind_room_in1 hu) (N6 I.hok eb) hd dd ?_
  have q:=(rel.val k).N7
  rw [Option.isSome_map] at q
  rw [← q,← l]
  exact h _ (I.tok _)
theorem Qy {h':Heap} {t':Nat} {ob:HO} (I:Inv X pins σ H s) (mu:Mut (H a)) (hs:Heap.SameBut a s.heap h') (he:∃ q,h'.get? a=some q) (new:Yl X.prog X.w (upd H a ob) h' a ob) :
  Inv X pins σ (upd H a ob) { s with heap:=h',toks:=t' }:=
 I.write (x:=a) (e:=a) mu (.inl rfl) (λb q hb z=>(hs.2 b hb).trans z) he new
theorem Zgk {P:Program} {w:World} {H':Hp} {h':Heap} {kvs:List (Key × V)} {vs:List (Key × Value)} (z:kvs.length≤sizeLine) (hd:(a==sysModules)=false) (rel:KV kvs vs) (dd:h'.DictOf (Yy P w) a vs) :
  Yl P w H' h' a (.dK kvs):=⟨z,hd,vs,rel,dd⟩
theorem Zdd {H':Hp} {Q:Unit→Shared→Prop} (hu:A.units+1 < cLine) (I:Inv X pins σ H s) (g:Jm H a y v H') (ry:RelV y u) (rv:RelV v r) (h:∀ s',Inv X pins σ H' s'→Q () s') :
  wpAny (model X.prog X.w) A (setItem (.ref a) u r) Q E s:=by
 rcases g with ⟨kvs,k,e,ey,l,eH⟩ | ⟨kvs,k,b,e,ey,eb,l,eH⟩
 ·subst ey eH
  obtain ⟨z,hd,vs,rel,dd⟩:=Zkc I.hok e
  have hz:vs.length≤sizeLine:=by rw [← rel.length]; exact z
  have hl:(putK kvs k v).length≤sizeLine:=by have:=Vy kvs k v; omega
  refine wpAny_setItem_pairs (hsz:=hz) (D5 ry) dd λh' dd' hs=>h _ ?_
  have he:∃ q,h'.get? a=some q:=let ⟨q,_,_,hq,_⟩:=dd'; ⟨q,hq⟩
  exact Qy I (by rw [e]; exact True.intro) hs he (Zgk hl hd (rel.put k rv) dd')
 ·subst ey eH
  cases (show u=Value.ref b from ry)
  obtain ⟨z,hd,xs,rel,dd⟩:=Zgf I.hok e
  have hz:xs.length≤sizeLine:=by rw [← vM rel]; exact z
  have hl:(putK kvs k v).length≤sizeLine:=by have:=Vy kvs k v; omega
  refine wpAny_setItem_heap (hsz:=hz) (tupleKind_room_in1 hu) (N6 I.hok eb) dd λh' dd' hs=>h _ ?_
  obtain ⟨q,es,ep,hq,h2,h3,h4,_,h5⟩:=dd'
  refine Qy I (by rw [e]; exact True.intro) hs ⟨q,hq⟩ ⟨hl,hd,_,(rel.put k eb rv).keeps λc ys ec=>?_,q,es,ep,hq,h2,h3,h4,h5⟩
  rw [Zi (Xm ec e (λz=>nomatch z))]
  exact ec
end
section
variable {X:Cx} {pins:List (Addr × Obj)} {σ:St} {H:Hp} {s:Shared} {a:Addr} {kvs:List (Key × V)} {k:Key} {u:Value} {A:Around} {E:Value→Shared→Prop}
theorem Zpr {Q:Value→Shared→Prop} (I:Inv X pins σ H s) (e:Rd H a (.dK kvs)) (h:∀ t s',Inv X pins σ H s'→Q (.int kvs.length t) s'):wpAny (model X.prog X.w) A (call (.builtin "len") [.ref a]) Q E s:=by
 obtain ⟨z,hd,vs,rel,dd⟩:=Hi I.hok e
 refine call_len_dict hd dd (by rw [← rel.length]; rw [sizeLine_eq] at z; omega) ?_
 rw [← rel.length]
 exact h _ _ (I.tok _)
end
def Zqc (i:Expr):Prop:=∀ ov iv,subscripted i false ov iv=operate [ov,iv] (getItem ov iv)
theorem Zhi {prog:Program} {w:World} {A:Around} {E:Value→Shared→Prop} {s:Shared} {env:Env} {value slice:Expr} {pos:Pos} {T id:String} {Q:Value→Shared→Prop}
  (hl:typeLookup (.type T) "__getitem__" = pure (some (.builtin id))) (hs:Zqc slice)
  (h:wpAny (model prog w) A (eval value env) (λo s₁=>wpAny (model prog w) A (eval slice env) (λi s₂=>s₂.TypeIs o T∧wpAny (model prog w) A (getItem o i) Q E s₂) E s₁) E s) :
  wpAny (model prog w) A (eval (.Subscript value slice pos) env) Q E s:=by
 refine Subscript_ (wK h (λo s₁ h₁=>wK h₁ (λi s₂ h₂=>?_) λ_ _ x=>x) λ_ _ x=>x)
 obtain ⟨hT,h₂⟩:=h₂
 unfold subscriptTail
 refine zB ?_
 rw [getitemInPython_of_ne hT.not_modules]
 refine zB (wpAny_specialOf hT hl ?_)
 have fin:wpAny (model prog w) A (subscripted slice false o i) (λr s₃=>wpAny (model prog w) A (letTemporaryGo value o r >>= λ_=>pure r) Q E s₃) E s₂:=by
  rw [hs o i]
  exact wpAny_operating (wK h₂ (λr s₃ h₃=>zB (wpAny_letTemporaryGo (zH h₃))) λ_ _ x=>x)
 first
  | exact zH (zB fin)
  | exact zB (zH (zB fin))
  | exact zB fin
theorem Cm {X:Cx} {pins:List (Addr × Obj)} {σ:St} {H:Hp} {s:Shared} {a:Addr} {y:V} {o:Option V} (I:Inv X pins σ H s) (g:Rg H a y o):s.TypeIs (.ref a) "dict":=by
 rcases g with ⟨kvs,k,e,_,_⟩ | ⟨kvs,k,b,e,_,_,_⟩
 ·obtain ⟨_,_,vs,_,dd⟩:=Hi I.hok e
  exact dd.typeIs
 ·obtain ⟨_,_,xs,_,dd⟩:=Hg I.hok e
  exact dd.typeIs
def Znz (td ty:TE):TE:=λσ H Q=>td σ H λx H1=>ty σ H1 λy H2=>∃ a v,x=.ref a∧Rg H2 a y (some v)∧Q v H2
def Zhh (ty td:TE):TE:=λσ H Q=>ty σ H λy H1=>td σ H1 λx H2=>∃ a o,x=.ref a∧Rg H2 a y o∧Q (.bl (!o.isSome)) H2
def Zn5 (td ty tv:TE):TS:=λD σ H=>tv σ H λv H1=>td σ H1 λx H2=>ty σ H2 λy H3=>∃ a H4,x=.ref a∧Jm H3 a y v H4∧D.nx σ H4
section
variable {X:Cx} {o i e value:Expr} {pos pos' tpos:Pos} {td ty tv:TE}
theorem Uz (hu:X.A.units+1 < cLine) (ho:PE X o td) (hi:PE X i ty) (hs:Zqc i):PE X (.Subscript o i pos) (Znz td ty):=by
 intro pins s σ H Q I h
 refine Zhi PySem.F.slot_dict_getitem.lookup hs (thn (ho pins s σ H _ I h) λu s1 ⟨x,H1,I1,rx,q1⟩=>thn (hi pins s1 σ H1 _ I1 q1) λiv s2 ⟨y,H2,I2,ry,a,v,ex,g,q2⟩=>?_)
 subst ex
 obtain rfl:u=Value.ref a:=rx
 exact ⟨Cm I2 g,Zde hu I2 g ry λw' s3 I3 rw'=>⟨v,H2,I3,rw',q2⟩⟩
theorem Nq (hu:X.A.units+1 < cLine) (hi:PE X i ty) (ho:PE X o td):PC X .NotIn i o (Zhh ty td):=by
 intro pins s σ H Q I h
 refine thn (hi pins s σ H _ I h) λiv s1 ⟨y,H1,I1,ry,q1⟩=>thn (ho pins s1 σ H1 _ I1 q1) λu s2 ⟨x,H2,I2,rx,a,ov,ex,g,q2⟩=>?_
 subst ex
 obtain rfl:u=Value.ref a:=rx
 exact Ziz hu I2 g ry λs3 I3=>⟨.bl (!ov.isSome),H2,I3,rfl,q2⟩
theorem Oo (hu:X.A.units+1 < cLine) (ho:PE X o td) (hi:PE X i ty) (hv:PE X value tv) (hs:swapsWith value (some (.Subscript o i pos')) pos.line X.env=pure false) :
  PS X (.Assign [.Subscript o i pos'] value pos) (Zn5 td ty tv):=by
 intro pins s σ H D I h
 refine wpAny_Assign_Subscript (thn (hv pins s σ H _ I h) λr s1 ⟨v,H1,I1,rv,q1⟩=>thn (ho pins s1 σ H1 _ I1 q1) λu s2 ⟨x,H2,I2,rx,q2⟩=>thn (hi pins s2 σ H2 _ I2 q2) λiv s3 ⟨y,H3,I3,ry,a,H4,ex,g,q3⟩=>?_) hs
 subst ex
 obtain rfl:u=Value.ref a:=rx
 exact Zdd hu I3 g ry rv λs4 I4=>⟨σ,H4,I4,q3⟩
end
theorem Ck {P:Program} {w:World} {H:Hp} (h:Heap) (hb:sysModules < h.objs.size):Yl P w H (h.push { cls:=.type "dict",data:=.dict #[] }) h.objs.size (.dK []):=
 ⟨yV _,beq_eq_false_iff_ne.mpr (xV (yH hb)),[],.nil,Heap.DictOf.new h⟩
theorem Cj {P:Program} {w:World} {H:Hp} (h:Heap) (hb:sysModules < h.objs.size):Yl P w H (h.push { cls:=.type "dict",data:=.dict #[] }) h.objs.size (.dT []):=
 ⟨yV _,beq_eq_false_iff_ne.mpr (xV (yH hb)),[],.nil,_,#[],0,zN _ rfl,⟨rfl,rfl,rfl⟩,rfl,rfl,List.nodup_nil⟩
def Zkw:TE:=λ_ H Q=>∀ p,H p=none→Q (.ref p) (upd H p (.dK []))
def Zkv:TE:=λ_ H Q=>∀ p,H p=none→Q (.ref p) (upd H p (.dT []))
section
variable {X:Cx} {pos:Pos}
theorem Zey:PE X (.Dict [] [] pos) Zkw:=λpins s σ H Q I h=>
 wpAny_Dict_empty ⟨.ref s.heap.objs.size,_,I.laid (a:=s.heap.objs.size) (o:=.dK []) (t':=s.toks) (λ_ _ q=>zG _ q) (zI _) (Ck s.heap I.big),rfl,h _ (I.hok.fresh (zI _))⟩
theorem Kf:PE X (.Dict [] [] pos) Zkv:=λpins s σ H Q I h=>
 wpAny_Dict_empty ⟨.ref s.heap.objs.size,_,I.laid (a:=s.heap.objs.size) (o:=.dT []) (t':=s.toks) (λ_ _ q=>zG _ q) (zI _) (Cj s.heap I.big),rfl,h _ (I.hok.fresh (zI _))⟩
end
def Hw:List (TE × TE)→St→Hp→(List (V × V)→Hp→Prop)→Prop
 | [],_,H,Q=>Q [] H
 | (tk,tv) :: r,σ,H,Q=>tk σ H λx H1=>tv σ H1 λy H2=>Hw r σ H2 λps H3=>Q ((x,y) :: ps) H3
abbrev VV:List (V × V)→List (Value × Value)→Prop:=Paired λp q=>RelV p.1 q.1∧RelV p.2 q.2
def PPs (X:Cx) (pos:Pos) (keys:List (Option Expr)) (values:List Expr) (trs:List (TE × TE)):Prop:=
 ∀ (pins:List (Addr × Obj)) (s:Shared) (σ:St) (H:Hp) (Q:List (V × V)→Hp→Prop),Inv X pins σ H s→Hw trs σ H Q→
  wpAny (model X.prog X.w) X.A (evalPairs (pairTrees keys values X.env pos)) (λvs s'=>∃ ps H',Inv X pins σ H' s'∧VV ps vs∧Q ps H') X.xe s
theorem Gq {X:Cx} {pos:Pos}:PPs X pos [] [] []:=λpins s σ H Q I h=>pairTrees_nil_walk ⟨[],H,I,.nil,h⟩
theorem Ke {X:Cx} {pos:Pos} {k v:Expr} {ks:List (Option Expr)} {vs:List Expr} {tk tv:TE} {trs:List (TE × TE)} (hk:PE X k tk) (hv:PE X v tv) (hr:PPs X pos ks vs trs) :
  PPs X pos (some k :: ks) (v :: vs) ((tk,tv) :: trs):=λpins s σ H Q I h=>
 pairTrees_cons_walk (thn (hk pins s σ H _ I h) λu s1 ⟨x,H1,I1,rx,q1⟩=>thn (hv pins s1 σ H1 _ I1 q1) λw2 s2 ⟨y,H2,I2,ry,q2⟩=>
  thn (hr pins s2 σ H2 _ I2 q2) λws s3 ⟨ps,H3,I3,rel,q3⟩=>⟨(x,y) :: ps,H3,I3,.cons ⟨rx,ry⟩ rel,q3⟩)
def Uk (kvs more:List (Key × V)):List (Key × V):=more.foldl (λacc kv=>putK acc kv.1 kv.2) kvs
theorem KV.merge:∀ {more:List (Key × V)} {rs:List (Key × Value)} {kvs:List (Key × V)} {vs:List (Key × Value)},KV more rs→KV kvs vs→KV (Uk kvs more) (merged vs rs):=by
 intro more rs kvs vs r
 unfold KV at r
 induction r generalizing kvs vs with
 | nil=>intro q; exact q
 | @cons p q ps qs h t ih=>
  intro r0
  have e:KV (putK kvs p.1 p.2) (stored vs q.1 q.2):=by
   have:=r0.put p.1 h.2
   rw [← h.1]; exact this
  exact ih e
theorem Pd:∀ (more kvs:List (Key × V)),(Uk kvs more).length≤kvs.length+more.length
 | [],kvs=>by show kvs.length≤kvs.length+0; omega
 | p :: r,kvs=>by
  have h1:=Pd r (putK kvs p.1 p.2)
  have h2:=Vy kvs p.1 p.2
  show (Uk (putK kvs p.1 p.2) r).length≤_
  rw [yR]; omega
theorem Je {P:Program} {w:World}:∀ {kvs:List (Key × V)} {ws:List (Value × Value)},VV (kvs.map λkv=>(kV kv.1,kv.2)) ws→∃ rs,Carries (Yy P w) ws rs∧KV kvs rs
 | [],_,r=>by rw [wQ] at r; cases r; exact ⟨[],True.intro,.nil⟩
 | p :: kvs,_,r=>by
  rw [zO] at r
  cases r with
  | @cons a b as bs h t=>
   obtain ⟨rs,c,q⟩:=Je (P:=P) (w:=w) t
   obtain ⟨b1,b2⟩:=b
   exact ⟨(p.1,b2) :: rs,⟨D5 h.1,rfl,c⟩,.cons ⟨rfl,h.2⟩ q⟩
def Zny (trs:List (TE × TE)):TE:=λσ H Q=>∀ p,H p=none→Hw trs σ (upd H p (.dK [])) λps H2=>H2 p=some (.dK [])∧∃ kvs:List (Key × V),ps=kvs.map (λkv=>(kV kv.1,kv.2))∧kvs.length≤15∧Q (.ref p) (upd H2 p (.dK (Uk [] kvs)))
theorem Za8 {X:Cx} {pos:Pos} {keys:List (Option Expr)} {values:List Expr} {trs:List (TE × TE)} (h:PPs X pos keys values trs) (Oy:keys.all (·.isSome)=true) (hl:keys.length=values.length) (h0:keys≠[])
  (h15:keys.length≤15):PE X (.Dict keys values pos) (Zny trs):=by
 intro pins s σ H Q I q
 have hn:=I.hok.fresh (zI s.heap.objs.size)
 have I1:=I.laid (a:=s.heap.objs.size) (o:=.dK []) (h':=s.heap.push { cls:=.type "dict",data:=.dict #[] }) (t':=s.toks) (λ_ _ q=>zG _ q) (zI _) (Ck s.heap I.big)
 refine wpAny_Dict_walk (knd:=Yy X.prog X.w) Oy hl h0 h15 (thn (h pins _ σ _ _ I1 (q _ hn)) λws s2 ⟨ps,H2,I2,rel,e,kvs,ep,lk,q2⟩=>?_)
 subst ep
 obtain ⟨rs,c,rk⟩:=Je (P:=X.prog) (w:=X.w) rel
 obtain ⟨z,hd,vs0,r0,dd⟩:=Zkc I2.hok e
 cases r0
 refine ⟨rs,c,dd,λh' dd' hs=>⟨.ref s.heap.objs.size,_,?_,rfl,q2⟩⟩
 have hz:(Uk [] kvs).length≤sizeLine:=by
  have h1:=Pd kvs []
  rw [List.length_nil] at h1
  rw [sizeLine_eq]; omega
 have he:∃ q,h'.get? s.heap.objs.size=some q:=let ⟨q,_,_,hq,_⟩:=dd'; ⟨q,hq⟩
 exact Qy I2 (by rw [e]; exact True.intro) hs he (Zgk hz hd (rk.merge .nil) dd')
structure M1 (X:Cx) (o:Expr) (m:Str) (apos:Pos) (e:Expr) (Wd:Pos):Prop where
 base:attributeBase o m X.env (eval o X.env)=eval o X.env
 few:((backTo Wd (starEach [e] X.env)).all (λx=>!x.1) && (backToKw Wd (keywordEach [] X.env)).all (λx=>x.1.isSome)
  && decide (([e]:List Expr).length+([]:List Keyword).length+(if ([]:List Keyword).isEmpty then 0 else 1) < 30))=true
 line:(apos.endLine==Wd.line)=true
 trees:backTo Wd (starEach [e] X.env)=[(false,eval e X.env)]
structure M2 (X:Cx) (o:Expr) (m:Str) (apos:Pos) (e f:Expr) (Wd:Pos):Prop where
 base:attributeBase o m X.env (eval o X.env)=eval o X.env
 few:((backTo Wd (starEach [e,f] X.env)).all (λx=>!x.1) && (backToKw Wd (keywordEach [] X.env)).all (λx=>x.1.isSome)
  && decide (([e,f]:List Expr).length+([]:List Keyword).length+(if ([]:List Keyword).isEmpty then 0 else 1) < 30))=true
 line:(apos.endLine==Wd.line)=true
 trees:backTo Wd (starEach [e,f] X.env)=[(false,eval e X.env),(false,eval f X.env)]
def IsD (H:Hp) (a:Addr):Prop:=(∃ kvs,Rd H a (.dK kvs))∨∃ kvs,Rd H a (.dT kvs)
theorem Zmb {X:Cx} {pins:List (Addr × Obj)} {σ:St} {H:Hp} {s:Shared} {a:Addr} (I:Inv X pins σ H s) (d:IsD H a) :
  s.TypeIs (.ref a) "dict"∧(∀ b,Value.ref a=.ref b→∃ ob,s.heap.get? b=some ob∧ob.dict=none)∧(a==sysModules)=false:=by
 rcases d with ⟨kvs,e⟩ | ⟨kvs,e⟩
 ·obtain ⟨_,hd,vs,_,dd⟩:=Hi I.hok e
  refine ⟨dd.typeIs,λb q=>?_,hd⟩
  cases q
  obtain ⟨ob,_,_,h1,h2,_⟩:=dd
  exact ⟨ob,h1,h2.2.1⟩
 ·obtain ⟨_,hd,xs,_,dd⟩:=Hg I.hok e
  refine ⟨dd.typeIs,λb q=>?_,hd⟩
  cases q
  obtain ⟨ob,_,_,h1,h2,_⟩:=dd
  exact ⟨ob,h1,h2.2.1⟩
section
variable {X:Cx} {pins:List (Addr × Obj)} {σ:St} {H:Hp} {s:Shared} {a:Addr} {y d:V} {u r:Value} {o:Option V} {A:Around} {E:Value→Shared→Prop}
end
section
variable {X:Cx} {o e f:Expr} {apos Wd:Pos} {td ty tx:TE}
end
end L2
namespace L2
open PySem PySem.Spec PyProof.Rows
def Uq (env:Env):List (Str × NameKind)→List (Str × Addr)→List (Str × Addr)
 | [],acc=>acc
 | (n,.free) :: r,acc=>Uq env r ((n,(env.cells.lookup n).getD 0) :: acc)
 | _ :: r,acc=>Uq env r acc
def Zaj (env:Env) (acc:List (Str × Addr)):Prop:=∀ y c,acc.lookup y=some c→c=(env.cells.lookup y).getD 0
theorem Qz {env:Env} {n:Str} {k:NameKind} {r:List (Str × NameKind)} {acc:List (Str × Addr)} (h:k≠.free):Uq env ((n,k) :: r) acc=Uq env r acc:=by
 cases k <;> first | rfl | exact absurd rfl h
theorem Q6 {env:Env}:∀ (names:List (Str × NameKind)) (acc:List (Str × Addr)),Zaj env acc→Zaj env (Uq env names acc)
 | [],acc,h=>h
 | (n,k) :: r,acc,h=>by
  by_cases hk:k=.free
  ·subst hk
   refine Q6 r _ λy c e=>?_
   rw [xI] at e
   by_cases hy:y=n
   ·subst hy
    simp only [beq_self_eq_true] at e
    exact (Option.some.inj e).symm
   ·have hb:(y==n)=false:=by simpa using hy
    rw [hb] at e
    exact h y c e
  ·rw [Qz hk]
   exact Q6 r acc h
theorem R5 {env:Env} {x:Str}:∀ (names:List (Str × NameKind)) (acc:List (Str × Addr)),((∃ c,acc.lookup x=some c)∨(x,NameKind.free)∈names)→∃ c,(Uq env names acc).lookup x=some c
 | [],acc,h=>by
  rcases h with h | h
  ·exact h
  ·cases h
 | (n,k) :: r,acc,h=>by
  by_cases hk:k=.free
  ·subst hk
   refine R5 r _ ?_
   rw [xI]
   by_cases hy:x=n
   ·subst hy
    exact .inl ⟨(env.cells.lookup x).getD 0,by simp only [beq_self_eq_true]⟩
   ·have hb:(x==n)=false:=by simpa using hy
    rw [hb]
    rcases h with h | h
    ·exact .inl h
    ·rcases yE.mp h with h | h
     ·exact absurd (congrArg Prod.fst h) hy
     ·exact .inr h
  ·rw [Qz hk]
   refine R5 r acc ?_
   rcases h with h | h
   ·exact .inl h
   ·rcases yE.mp h with h | h
    ·exact absurd (congrArg Prod.snd h).symm hk
    ·exact .inr h
theorem Na {env:Env} {x:Str} {c:Addr}:∀ (names:List (Str × NameKind)) (acc:List (Str × Addr)),(Uq env names acc).lookup x=some c→acc.lookup x=some c∨(x,NameKind.free)∈names
 | [],acc,h=>.inl h
 | (n,k) :: r,acc,h=>by
  by_cases hk:k=.free
  ·subst hk
   rcases Na r _ h with h1 | h1
   ·rw [xI] at h1
    by_cases hy:x=n
    ·subst hy
     exact .inr zM
    ·have hb:(x==n)=false:=by simpa using hy
     rw [hb] at h1
     exact .inl h1
   ·exact .inr (zQ _ h1)
  ·rw [Qz hk] at h
   rcases Na r acc h with h1 | h1
   ·exact .inl h1
   ·exact .inr (zQ _ h1)
theorem Jb {env:Env} {f:Str × NameKind→List (Str × Addr)→Sem (ForInStep (List (Str × Addr)))} (h1:∀ n k r,k≠NameKind.free→f (n,k) r=pure (.yield r))
  (h2:∀ n r c,env.cells.lookup n=some c→f (n,.free) r=pure (.yield ((n,c) :: r))) :
  ∀ (names:List (Str × NameKind)) (acc:List (Str × Addr)),(∀ y∈names,y.2=NameKind.free→∃ c,env.cells.lookup y.1=some c)→forIn names acc f=pure (Uq env names acc)
 | [],acc,_=>rfl
 | (n,k) :: r,acc,hc=>by
  have hr:∀ y∈r,y.2=NameKind.free→∃ c,env.cells.lookup y.1=some c:=λy hy=>hc y (zQ _ hy)
  rw [uZ]
  by_cases hk:k=.free
  ·subst hk
   obtain ⟨c,e⟩:=hc (n,.free) zM rfl
   rw [h2 n acc c e,pure_bind]
   show forIn r ((n,c) :: acc) f=_
   rw [Jb h1 h2 r _ hr]
   show _=pure (Uq env r ((n,(env.cells.lookup n).getD 0) :: acc))
   rw [e]
   rfl
  ·rw [h1 n k acc hk,pure_bind,Qz hk]
   exact Jb h1 h2 r acc hr
theorem Up {env:Env} {scope:Scope} (hc:∀ y∈scope.names,y.2=NameKind.free→∃ c,env.cells.lookup y.1=some c):closureFor scope env=pure (Uq env scope.names []):=by
 unfold closureFor
 dsimp only
 rw [Jb (env:=env) ?_ ?_ scope.names [] hc]
 ·rfl
 ·intro n k r hk
  have hb:(k==NameKind.free)=false:=by simpa using hk
  simp only [hb,vG,if_false]
 ·intro n r c e
  simp only [cellOf,e,beq_self_eq_true,if_true,pure_bind]
structure Zai (sc:Scope) (Nm own:List Str) (fr:List Nat) (scope:Scope):Prop where
 kind:scope.kind=.function
 Nv:∀ y∈scope.names,y.2≠NameKind.cell
 free:∀ y∈scope.names,y.2=NameKind.free→sc.names.lookup y.1=some .cell∨sc.names.lookup y.1=some .free
 locs:∀ y∈scope.names,y.2=NameKind.local→scope.names.lookup y.1=some .local
 frs:∀ j∈fr,j < Nm.length∧scope.names.lookup (Nm.getD j "")=some .free
def Xd (own Nm:List Str) (fr:List Nat):List Str:=own ++ fr.map λj=>Nm.getD j ""
def Uw (n:Nat) (fr:List Nat) (σ:St):St:=List.replicate n none ++ fr.map λj=>σ.getD j none
structure CD where
 cl:List (Str × Addr)
 C:Addr
 s:Shared
 H:Hp
 fp:List Addr
def Xr (X:Cx) (Nm:List Str) (scope:Scope) (d:CD):Cx:=
 {prog:=X.prog,w:=X.w,K:=X.K,mg:=X.mg,base:=X.base,A:=X.A,N:=Nm,s₀:=d.s,H₀:=d.H,env:=compEnvC scope d.cl d.C X.env,outer:=X.stack,stack:=X.stack,
  ex:=d.fp,fn:=λ_=>false,calm:=X.calm,pn:=[],xe:=λ_ _=>False }
def PTs (X:Cx) (ifs:List Expr) (t:TT):Prop:=
 ∀ (pins:List (Addr × Obj)) (s:Shared) (σ:St) (H:Hp) (Q:Bool→Hp→Prop),Inv X pins σ H s→t σ H Q→
  wpAny (model X.prog X.w) X.A (forIn ifs true λc r=>if r=true then do let ok ← isTrue c X.env (eval c X.env); pure (ForInStep.yield ok) else pure (ForInStep.yield r)) (TP X pins σ Q) X.xe s
def Zkr:TT:=λ_ H Q=>Q true H
theorem Y5 {X:Cx}:PTs X [] Zkr:=by
 intro pins s σ H Q I h
 rw [sS]
 exact zH ⟨H,I,h⟩
theorem Uy {X:Cx} {c:Expr} {t:TT} (hc:PT X c t):PTs X [c] t:=by
 intro pins s σ H Q I h
 rw [uZ,if_pos rfl]
 refine zB (zB (thn (hc pins s σ H Q I h) λb s1 q=>zH ?_))
 show wpAny _ _ (forIn [] b _) _ _ s1
 rw [sS]
 exact zH q
def GFr (n:Nat) (g:TG):Prop:=∀ v σ H Q,g v σ H Q→g v σ H λσ2 H2=>Q σ2 H2∧σ2.length=σ.length∧∀ i,n≤i→σ2[i]? = σ[i]?
theorem Yi {n i:Nat} (h:i < n):GFr n (Mp i):=λv σ H Q q=>⟨q,by simp,λj hj=>by
 rw [xR (by omega)]⟩
def Zjb (n:Nat) (g:TGs):Prop:=∀ v σ H Q,g v σ H Q→g v σ H λσ2 H2=>Q σ2 H2∧σ2.length=σ.length∧∀ i,n≤i→σ2[i]? = σ[i]?
theorem Oz {n:Nat}:Zjb n Zmx:=λv σ H Q q=>⟨q.1,q.2,rfl,λ_ _=>rfl⟩
theorem W9 {n i:Nat} {u:TGs} (h:i < n) (hu:Zjb n u):Zjb n (Zby (Mp i) u):=λv σ H Q q=>by
 obtain ⟨x,r,e,q⟩:=q
 refine ⟨x,r,e,?_⟩
 have q2:=hu r (σ.set i (some x)) H Q q
 have mono:∀ Q1 Q2:St→Hp→Prop,(∀ a b,Q1 a b→Q2 a b)→True:=λ_ _ _=>True.intro
 have e1:(σ.set i (some x)).length=σ.length:=by simp
 have e2:∀ j,n≤j→(σ.set i (some x))[j]? = σ[j]?:=λj hj=>by rw [xR (by omega)]
 have:(λσ2 H2=>Q σ2 H2∧σ2.length=(σ.set i (some x)).length∧∀ j,n≤j→σ2[j]? = (σ.set i (some x))[j]?)=λσ2 H2=>Q σ2 H2∧σ2.length=σ.length∧∀ j,n≤j→σ2[j]? = σ[j]?:=by
  funext σ2 H2
  rw [e1]
  refine propext ⟨λz=>⟨z.1,z.2.1,λj hj=>(z.2.2 j hj).trans (e2 j hj)⟩,λz=>⟨z.1,z.2.1,λj hj=>(z.2.2 j hj).trans (e2 j hj).symm⟩⟩
 rw [this] at q2
 exact q2
theorem Lj {n k:Nat} {K:W.Frag} {u:TGs} (hu:Zjb n u):GFr n (Zit K k u):=λv σ H Q q=>by
 obtain ⟨a,xs,e,h1,h2,q⟩:=q
 exact ⟨a,xs,e,h1,h2,hu xs σ H Q q⟩
def Zki (J:It) (n:Nat) (fr:List Nat) (g:TG) (tt:TT) (te:TE) (σ:St) (H1:Hp) (Q:VK):Prop:=∃ W:Nat→Nat→List V→Hp→Prop,(∃ m,W 0 m [] H1)∧∀ i m acc H2,W i m acc H2→
 acc.length < sizeLine∧((J.stop i H2∧∀ l,H2 l=none→Q (.ref l) (upd H2 l (.lst acc)))∨
  (J.go i H2∧∃ Nx:List V→Hp→Prop,(∀ Zng H',Nx Zng H'→∃ m',m' < m∧W (i+1) m' Zng H')∧
   ∀ x H3,J.yld i H2 x H3→g x (Uw n fr σ) H3 λσ4 H4=>tt σ4 H4 λb H5=>if b=true then te σ4 H5 λv H6=>Nx (acc ++ [v]) H6 else Nx acc H5))
def Zdz (n:Nat) (fr:List Nat) (wi:TI) (g:TG) (tt:TT) (te:TE):TE:=λσ H Q=>wi σ H λJ H1=>Zki J n fr g tt te σ H1 Q
section
variable {X:Cx} {pins:List (Addr × Obj)} {σ:St} {H:Hp} {s:Shared}
theorem Inv.adopt {a:Addr} {o:HO} (I:Inv X pins σ H s) (hp:X.s₀.heap.objs.size≤a) (hn:H a=none) (hL:a≠X.env.locals) (hc:∀ x c,X.env.cells.lookup x=some c→c≠a)
  (hq:∀ p∈X.pn ++ pins,p.1≠a) (new:Yl X.prog X.w (upd H a o) s.heap a o):Inv X pins σ (upd H a o) s:=by
 refine ⟨I.ok,I.os,I.bare,⟨I.base.keep,I.base.slot,λb ob e n hx=>?_,I.base.there,λb xs e=>?_,λb ob u e=>?_,λb ps e=>?_⟩,I.loc,I.cell,?_,λx c e=>?_,λp hp'=>?_,λb u e=>?_,I.len⟩
 ·rw [Zi (yH (yA (zL e) hp))]
  exact I.base.free b ob e n hx
 ·have q:=I.base.Jo b xs e
  rw [Zi (Zf q hn)]
  exact q
 ·have q:=I.base.M5 b ob u e
  rw [Zi (Zf q hn)]
  exact q
 ·obtain ⟨more,q⟩:=I.base.Lr b ps e
  exact ⟨more,by rw [Zi (Zf q hn)]; exact q⟩
 ·rw [Zi (xV hL)]
  exact I.free
 ·rw [Zi (hc x c e)]
  exact I.V3 x c e
 ·obtain ⟨h1,h2,h3⟩:=I.pin p hp'
  exact ⟨h1,by rw [Zi (hq p hp')]; exact h2,h3⟩
 ·by_cases hb:b=a
  ·subst hb
   rw [Zb] at e
   cases e
   exact new
  ·rw [Zi hb] at e
   refine (I.hok b u e).Nj (λc v _ q=>q) (λc q=>?_) λc xs q=>?_
   ·rw [Zi (Zf q hn)]; exact q
   ·rw [Zi (Zf q hn)]; exact q
end
section
variable {prog:Program} {w:World} {A:Around} {R:Result→Shared→Prop} {s:Shared}
theorem Zcw {elt target iter:Expr} {ifs:List Expr} {scope:Scope} {pos:Pos} {it acc:Value} {env:Env} (J:Nat→Shared→Prop)
  (turn:∀ n s,J n s→wpAny (model prog w) A (pyNext it) (λr s1=>match r with
   | none=>R (.ok .next) s1
   | some v=>wpAny (model prog w) A (letOwnedTupleGo target it v) (λ_ s2=>wpAny (model prog w) A (assign target env v) (λ_ s3=>
     wpAny (model prog w) A (forIn ifs true λc r=>if r=true then do let ok ← isTrue c env (eval c env); pure (ForInStep.yield ok) else pure (ForInStep.yield r)) (λok s4=>
      if ok=true then wpAny (model prog w) A (eval elt env) (λx s5=>wpAny (model prog w) A (call (.builtin "list.append") [acc,x]) (λ_ s6=>∃ m,m < n∧J m s6) (λ_ _=>False) s5) (λ_ _=>False) s4
      else ∃ m,m < n∧J m s4) (λ_ _=>False) s3) (λ_ _=>False) s2) (λ_ _=>False) s1) (λ_ _=>False) s)
  (n:Nat) (h:J n s):codeAny (model prog w) A (.compLoop (.ListComp elt [⟨target,iter,ifs,0⟩] scope pos) 0 it acc env) R s:=by
 refine codeAny_loop rfl J (λk t hJ=>?_) n h
 show wpAny _ A ((compTurn (.ListComp elt [⟨target,iter,ifs,0⟩] scope pos) 0 it acc env).onRaise (λx=>do noteFrame x env; theTreesLotGoes x)) _ _ t
 refine wpAny_noted ?_
 rw [compTurn_list]
 have no:∀ {α:Type} {m:Sem α} {Q:α→Shared→Prop} {E:Value→Shared→Prop} {u:Shared},wpAny (model prog w) A m Q (λ_ _=>False) u→wpAny (model prog w) A m Q E u:=λq=>wK q (λ_ _ z=>z) λ_ _ z=>z.elim
 refine zB (uU (zB (no (thn (turn k t hJ) λr s1 h1=>?_))))
 cases r with
 | none=>exact zH h1
 | some v=>
  refine zB (no (thn h1 λ_ s2 h2=>zB (no (thn h2 λ_ s3 h3=>zB (no (thn h3 λok s4 h4=>?_))))))
  cases ok with
  | false=>exact zH ⟨rfl,h4⟩
  | true=>
   exact zB (zB (no (thn h4 λx s5 h5=>zB (no (thn h5 λ_ s6 h6=>zH (zH ⟨rfl,h6⟩))))))
end
section
variable {X:Cx} {sc scope:Scope} {Nm own:List Str} {fr:List Nat} {elt tg iter:Expr} {ifs:List Expr} {Wd:Pos} {wi:TI} {g:TG} {tt:TT} {te:TE}
theorem Sk {env:Env} {x:Str} {k:NameKind}:∀ {names:List (Str × NameKind)},(names.map λ(n,k)=>if (k==NameKind.free && env.scope.kind==.function && env.kindOf n==some .cell) then (n,NameKind.cell) else (n,k)).lookup x=some k→
  names.lookup x=some k∨(k=.cell∧names.lookup x=some .free)
 | [],h=>by simp at h
 | (n,j) :: r,h=>by
  have ih:=@Sk env x k r
  have h':List.lookup x ((if (j==NameKind.free && env.scope.kind==.function && env.kindOf n==some .cell)=true then (n,NameKind.cell) else (n,j)) :: _)=some k:=h
  cases hx:x==n with
  | true=>
   by_cases hc:(j==NameKind.free && env.scope.kind==.function && env.kindOf n==some .cell)=true
   ·rw [if_pos hc] at h'
    simp only [xI,hx] at h' ⊢
    simp only [yQ,beq_iff_eq] at hc
    exact .inr ⟨(Option.some.inj h').symm,congrArg some hc.1.1⟩
   ·rw [if_neg hc] at h'
    simp only [xI,hx] at h' ⊢
    exact .inl h'
  | false=>
   have h2:List.lookup x (r.map λ(n,k)=>if (k==NameKind.free && env.scope.kind==.function && env.kindOf n==some .cell) then (n,NameKind.cell) else (n,k))=some k:=by
    by_cases hc:(j==NameKind.free && env.scope.kind==.function && env.kindOf n==some .cell)=true
    ·rw [if_pos hc] at h'
     simpa only [xI,hx] using h'
    ·rw [if_neg hc] at h'
     simpa only [xI,hx] using h'
   simp only [xI,hx]
   exact ih h2
theorem Kc {env:Env} {x:Str}:∀ {names:List (Str × NameKind)},names.lookup x=some .free→
  (names.map λ(n,k)=>if (k==NameKind.free && env.scope.kind==.function && env.kindOf n==some .cell) then (n,NameKind.cell) else (n,k)).lookup x=some .cell∨
  (names.map λ(n,k)=>if (k==NameKind.free && env.scope.kind==.function && env.kindOf n==some .cell) then (n,NameKind.cell) else (n,k)).lookup x=some .free
 | [],h=>by simp at h
 | (n,j) :: r,h=>by
  have ih:=@Kc env x r
  show List.lookup x ((if (j==NameKind.free && env.scope.kind==.function && env.kindOf n==some .cell)=true then (n,NameKind.cell) else (n,j)) :: _)=_∨List.lookup x ((if (j==NameKind.free && env.scope.kind==.function && env.kindOf n==some .cell)=true then (n,NameKind.cell) else (n,j)) :: _)=_
  cases hx:x==n with
  | true=>
   simp only [xI,hx] at h
   by_cases hc:(j==NameKind.free && env.scope.kind==.function && env.kindOf n==some .cell)=true
   ·rw [if_pos hc]; simp only [xI,hx]; first | exact .inl rfl | exact .inl trivial
   ·rw [if_neg hc]; simp only [xI,hx]; exact .inr h
  | false=>
   simp only [xI,hx] at h
   by_cases hc:(j==NameKind.free && env.scope.kind==.function && env.kindOf n==some .cell)=true
   ·rw [if_pos hc]; simp only [xI,hx]; exact ih h
   ·rw [if_neg hc]; simp only [xI,hx]; exact ih h
theorem Hm (S:Zai sc Nm own fr scope) (hsc:X.env.scope=sc) (hN:X.N=Nm) (hc:X.calm=true) (hgf:GFr own.length g) (hi:PI X tg iter wi) (hg:∀ d,PG (Xr X (Xd own Nm fr) scope d) tg g)
  (ht:∀ d,PTs (Xr X (Xd own Nm fr) scope d) ifs tt) (he:∀ d,PE (Xr X (Xd own Nm fr) scope d) elt te) (hs:∀ x,foldedSetIterable iter X.env x=pure x)
  {use:Option (Value→Sem Unit)} {Q0:Value→Shared→Prop} {pins:List (Addr × Obj)} {s:Shared} {σ:St} {H:Hp} (I:Inv X pins σ H s) {Qf:VK} (h:Zdz own.length fr wi g tt te σ H Qf)
  (hfin:∀ (D C:Addr) (Hd:Hp) (s':Shared) (m:Str→Option Value),Inv X pins σ Hd s'→Qf (.ref D) Hd→s'.heap.Ns C m→Hd C=none→X.s₀.heap.objs.size≤C→C≠X.env.locals→(∀ x c,X.env.cells.lookup x=some c→c≠C)→
   (∀ p∈X.pn ++ pins,p.1≠C)→compPost (model X.prog X.w) X.A X.xe use Q0 (.ref D) C (.ok .next) s') :
  wpAny (model X.prog X.w) X.A (comprehension (.ListComp elt [⟨tg,iter,ifs,0⟩] scope Wd) scope X.env (firstIterPos [⟨tg,iter,ifs,0⟩] Wd) (newList []) false (eval iter X.env) use) Q0 X.xe s:=by
 have Ph:∀ y∈scope.names,y.2=NameKind.free→∃ c,X.env.cells.lookup y.1=some c:=λy hy hk=>by
  have q:=S.free y hy hk
  rw [← hsc] at q
  exact I.ok.has y.1 q
 refine wpAny_comprehension_free (g:=⟨tg,iter,ifs,0⟩) (gs:=[]) rfl hs (Up Ph) S.kind S.locs ?_
 refine thn (hi pins s σ H _ I h) λv s1 h1=>thn h1 λitv s2 h2=>?_
 obtain ⟨it,fp,tn,J,H2,e,I2,T,st2,f2,W,⟨m0,w0⟩,turn⟩:=h2
 subst e
 refine xJ (sN S.Nv (by intro y hy; simp at hy) (λh1 hns hsb=>?_) S.kind)
 dsimp only at hns hsb ⊢
 generalize hG:s2.heap.push { cls:=.type "list",dict:=none,data:=.seq ([]:List Value).toArray } = G at hns hsb ⊢
 have hC:G.objs.size=s2.heap.objs.size+1:=by rw [← hG,xT]
 have hDC:s2.heap.objs.size≠G.objs.size:=by omega
 have lo:∀ b,b < s2.heap.objs.size→b≠G.objs.size∧b≠s2.heap.objs.size:=λb hb=>⟨by omega,by omega⟩
 have old:∀ b o,s2.heap.get? b=some o→h1.get? b=some o:=λb o e=>hsb.extBut b o (lo b (zL e)).1 (zG _ (hG▸zG _ e))
 have Cc:h1.PlainList s2.heap.objs.size #[]:=⟨_,hsb.extBut _ _ hDC (zG _ (hG▸zN _ rfl))⟩
 have fpl:∀ b∈fp,b < s2.heap.objs.size:=λb hb=>by
  obtain ⟨o,e,_⟩:=T.obj 0 _ st2 b hb
  exact zL e
 have hDf:s2.heap.objs.size∉fp:=λz=>wM _ (fpl _ z)
 have hCf:G.objs.size∉fp:=λz=>wM _ (Nat.lt_trans (fpl _ z) (by rw [hC]; exact vA _))
 have Jd:∀ x c,(Uq X.env scope.names []).lookup x=some c→X.env.cells.lookup x=some c∧(x,NameKind.free)∈scope.names:=λx c e=>by
  have e1:=Q6 (env:=X.env) scope.names [] (λy c z=>by simp at z) x c e
  rcases Na scope.names [] e with z | z
  ·simp at z
  ·obtain ⟨c',e'⟩:=Ph _ z rfl
   rw [e1,e']
   exact ⟨rfl,z⟩
 have Zgu:∀ x c,X.env.cells.lookup x=some c→c < s2.heap.objs.size:=λx c e=>by
  obtain ⟨v,q⟩:=I2.cell x c e
  exact q.lt
 let d:CD:=⟨Uq X.env scope.names [],G.objs.size,s2,H2,fp⟩
 have isFree:∀ x,((Xr X (Xd own Nm fr) scope d).env.kindOf x=some .cell∨(Xr X (Xd own Nm fr) scope d).env.kindOf x=some .free)→scope.names.lookup x=some .free:=λx hx=>by
  have noC:scope.names.lookup x≠some .cell:=λz=>S.Nv _ (yY z) rfl
  rcases hx with hx | hx
  ·rcases Sk (names:=scope.names) hx with z | z
   ·exact absurd z noC
   ·exact z.2
  ·rcases Sk (names:=scope.names) hx with z | z
   ·exact z
   ·exact absurd z.1 (by decide)
 have ok:(Xr X (Xd own Nm fr) scope d).Ok:=by
  refine ⟨I.ok.mod,S.kind,I.ok.glob,I.ok.blt,?_,λx y c e1 e2=>?_,λx hx=>?_,λx c z=>?_,I.ok.hd,I.ok.frames,.inl rfl,λb hb=>⟨?_,λx c e=>?_⟩,I2.bs,yG I2.ok.bsz I2.sz,λb o e hb=>?_,λb hb z=>?_,I2.stack,I2.M7⟩
  ·show s2.heap.objs.size≤G.objs.size
   omega
  ·exact I.ok.inj x y c (Jd x c e1).1 (Jd y c e2).1
  ·exact R5 scope.names [] (.inr (yY (isFree x hx)))
  ·exact absurd (show false=true from z) zP
  ·exact λz=>hCf ((show b=G.objs.size from z)▸hb)
  ·exact (f2 b hb).2.2.2.2.1 x c (Jd x c e).1
  ·rcases (f2 b hb).2.2.2.1 with z | z
   ·exact I.ok.Br b o e z
   ·exact absurd (yA (zL e) (yG I.ok.bsz z)) (wM _)
  ·rcases yE.mp (I2.Ls b z) with z | z
   ·exact (f2 b hb).2.1 z
   ·exact (f2 b hb).2.2.1 z
 have hfrs:∀ (i:Nat) x v,(Xd own Nm fr)[i]? = some x→(Uw own.length fr σ)[i]? = some (some v)→scope.names.lookup x=some .free∧∃ j,Nm[j]? = some x∧σ[j]? = some (some v):=λi x v e1 e2=>by
  unfold Xd at e1
  unfold Uw at e2
  by_cases hil:i < own.length
  ·rw [zU (by simpa using hil),tM,if_pos hil] at e2
   cases e2
  ·rw [zX (by omega),zE] at e1
   rw [zX (by simpa using hil),zE,vI] at e2
   cases q:fr[i - own.length]? with
   | none=>rw [q] at e1; cases e1
   | some j=>
    rw [q] at e1 e2
    have hj:=S.frs j (zJ q)
    have e1':Nm.getD j "" = x:=Option.some.inj e1
    have e2':σ.getD j none=some v:=Option.some.inj e2
    rw [e1'] at hj
    refine ⟨hj.2,j,?_,?_⟩
    ·rw [← e1',zD,zC hj.1]
     rfl
    ·rw [zD] at e2'
     cases q2:σ[j]? with
     | none=>rw [q2] at e2'; cases e2'
     | some z=>rw [q2] at e2'; exact congrArg some e2'
 have Zj7:(Uw own.length fr σ).length=(Xd own Nm fr).length:=by
  unfold Uw Xd
  simp
 have J0:∀ tk,Inv (Xr X (Xd own Nm fr) scope d) [] (Uw own.length fr σ) H2 { s2 with heap:=h1,toks:=tk }:=λtk=>by
  obtain ⟨m,hn,hl⟩:=I2.loc
  refine ⟨ok,rfl,I2.bare,Un.kept old,⟨_,hns,λi x v e1 e2 _=>?_⟩,λx c e=>?_,I2.hok.fresh (show s2.heap.objs.size≤G.objs.size by omega),λx c e=>I2.V3 x c (Jd x c e).1,λp hp=>absurd (show p∈([]:List (Addr × Obj)) from hp) (by simp),I2.hok.kept old,Zj7⟩
  ·obtain ⟨hf,j,hj1,hj2⟩:=hfrs i x v e1 e2
   have kd:X.env.scope.names.lookup x=some .cell∨X.env.scope.names.lookup x=some .free:=by
    rw [hsc]
    exact S.free _ (yY hf) rfl
   obtain ⟨u,r,q⟩:=hl j x v (by rw [hN]; exact hj1) hj2 (kd.elim (λz=>.inr (.inl z)) λz=>.inr (.inr z))
   refine ⟨u,r,.inr ⟨Kc hf,?_⟩⟩
   obtain ⟨c,e⟩:=R5 (env:=X.env) scope.names [] (.inr (yY hf))
   refine ⟨c,e,?_⟩
   rcases q with ⟨k,_⟩ | ⟨_,c',e',z⟩
   ·have k':X.env.scope.names.lookup x=some .local:=k
    rcases kd with y | y <;> rw [y] at k' <;> cases k'
   ·have:c=c':=Option.some.inj ((Jd x c e).1.symm.trans e')
    subst this
    obtain ⟨o,ho,hd⟩:=z
    exact ⟨o,old _ o ho,hd⟩
  ·obtain ⟨v,o,ho,hd⟩:=I2.cell x c (Jd x c e).1
   exact ⟨v,o,old _ o ho,hd⟩
 have Bd:∀ {H':Hp} {pl:List (Addr × Obj)},(∀ b∈fp,H' b=none)→(∀ p∈pl,p.1∉fp)→∀ b∈fp,Jj (Xr X (Xd own Nm fr) scope d) pl H' b:=λhn hp b hb=>
  ⟨hn b hb,λz=>hCf ((show b=G.objs.size from z)▸hb),ok.An b hb,.inl hb,(ok.exf b hb).2,λp hp' z=>hp p (by simpa using (show p∈([]:List (Addr × Obj)) ++ _ from hp')) (z▸hb)⟩
 have loop:∀ tk,codeAny (model X.prog X.w) X.A (.compLoop (.ListComp elt [⟨tg,iter,ifs,0⟩] scope Wd) 0 (.ref it) (.ref s2.heap.objs.size) (compEnvC scope (Uq X.env scope.names []) G.objs.size X.env))
   (compPost (model X.prog X.w) X.A X.xe use Q0 (.ref s2.heap.objs.size) G.objs.size) { s2 with heap:=h1,toks:=tk }:=by
  intro tk
  refine Zcw (λn s'=>∃ i acc its H',Inv (Xr X (Xd own Nm fr) scope d) [] (Uw own.length fr σ) H' s'∧tn i s'.heap∧(∀ b∈fp,H' b=none)∧H' s2.heap.objs.size=none∧Vals acc its∧s'.heap.PlainList s2.heap.objs.size its.toArray∧W i n acc H') ?_ m0
   ⟨0,[],[],H2,J0 tk,T.keep 0 _ _ st2 λb _ o e=>old b o e,λb hb=>(f2 b hb).1,I2.hok.fresh (zI _),.nil,Cc,w0⟩
  rintro n s3 ⟨i,acc,its,H3,I3,st3,fr3,nD,va,⟨na,pa⟩,w3⟩
  have Zok:Inv (Xr X (Xd own Nm fr) scope d) [(s2.heap.objs.size,{ cls:=.type "list",data:=.seq its.toArray na })] (Uw own.length fr σ) H3 s3:=I3.Ld λp hp=>by
   have hp':=zT.mp hp
   subst hp'
   refine ⟨pa,nD,hDC,λz=>?_,λv z=>?_⟩
   ·have z':s2.heap.objs.size∈frs X.stack:=z
    rcases yE.mp (I2.Ls _ z') with y | y
    ·exact absurd I2.lt (by rw [← y]; exact wM _)
    ·exact I2.Zoq (zI _) y
   ·have z':Data.seq its.toArray na=Data.cell v:=z
    cases z'
  have Gr:∀ p∈[(s2.heap.objs.size,({ cls:=.type "list",data:=.seq its.toArray na }:Obj))],p.1∉fp:=λp hp=>by
   rw [zT.mp hp]
   exact hDf
  obtain ⟨hz,alt⟩:=turn i n acc H3 w3
  rcases alt with ⟨stop,qn⟩ | ⟨go,Nx,hNx,step⟩
  ·refine thn (T.done (Xr X (Xd own Nm fr) scope d) rfl rfl rfl hc i _ s3 _ H3 _ Zok (Bd fr3 Gr) st3 stop) λr s4 ⟨hr,I4⟩=>?_
   subst hr
   have pD:=I4.pin (s2.heap.objs.size,{ cls:=.type "list",data:=.seq its.toArray na }) (yL _ (zT.mpr rfl))
   obtain ⟨m4,hn4,_⟩:=I4.loc
   have I5:Inv X pins σ H3 s4:=I2.Zp9 (ch:=fp) I4.os I4.base I4.hok I4.bare λb hb=>⟨(f2 b hb).2.2.2.1,(f2 b hb).2.1,(f2 b hb).2.2.2.2.1,(f2 b hb).2.2.2.2.2⟩
   have far:∀ a,s2.heap.objs.size≤a→X.s₀.heap.objs.size≤a∧a≠X.env.locals∧(∀ x c,X.env.cells.lookup x=some c→c≠a)∧∀ p∈X.pn ++ pins,p.1≠a:=λa ha=>
    ⟨yG I2.sz ha,vW (yA I2.lt ha),λx c e=>yH (yA (Zgu x c e) ha),λp hp=>yH (yA (zL (I2.pin p hp).1) ha)⟩
   have fD:=far s2.heap.objs.size (zI _)
   have fC:=far G.objs.size (by omega)
   have I6:=I5.adopt (o:=.lst acc) fD.1 pD.2.1 fD.2.1 fD.2.2.1 fD.2.2.2 ⟨uQ hz,its,na,va,pD.1⟩
   exact hfin s2.heap.objs.size G.objs.size _ s4 m4 I6 (qn _ pD.2.1) hn4 (by rw [Zi (xV hDC)]; exact I4.free) fC.1 fC.2.1 fC.2.2.1 fC.2.2.2
  ·refine thn (T.item (Xr X (Xd own Nm fr) scope d) rfl rfl rfl hc i _ s3 _ H3 _ Zok (Bd fr3 Gr) st3 go) λr s4 ⟨u,hr,h4⟩=>?_
   subst hr
   refine thn h4 λ_ s5 ⟨x,H5,I5,r5,y5,st5,fr5⟩=>?_
   have I5':=I5.pinned (Bd fr5 Gr) (T.obj _ _ st5)
   refine thn (hg d _ s5 _ H5 x u _ I5' r5 (hgf _ _ _ _ (step x H5 y5))) λ_ s6 ⟨σ6,H6,I6,q6,l6,k6⟩=>?_
   have wk:∀ (j:Nat) v,(Uw own.length fr σ)[j]? = some (some v)→σ6[j]? = some (some v):=λj v e=>by
    by_cases hj:j < own.length
    ·unfold Uw at e
     rw [zU (by simpa using hj),tM,if_pos hj] at e
     cases e
    ·rw [k6 j (by omega)]
     exact e
   refine thn (ht d _ s6 σ6 H6 _ I6 q6) λb s7 ⟨H7,I7,q7⟩=>?_
   have fpK:∀ {σ':St} {H':Hp} {s':Shared},Inv (Xr X (Xd own Nm fr) scope d) ([(s2.heap.objs.size,({ cls:=.type "list",data:=.seq its.toArray na }:Obj))] ++ Np fp s5.heap) σ' H' s'→
     tn (i+1) s'.heap∧(∀ b∈fp,H' b=none)∧H' s2.heap.objs.size=none∧s'.heap.get? s2.heap.objs.size=some { cls:=.type "list",data:=.seq its.toArray na }:=λ{σ' H' s'} I'=>by
    have pD:=I'.pin (s2.heap.objs.size,{ cls:=.type "list",data:=.seq its.toArray na }) (yL _ (wV _ (zT.mpr rfl)))
    refine ⟨T.keep _ _ _ st5 λb hb o e=>(I'.pin (b,o) (yL _ (yL _ (Sj hb e)))).1,λb hb=>?_,pD.2.1,pD.1⟩
    obtain ⟨o,e,_⟩:=T.obj _ _ st5 b hb
    exact (I'.pin (b,o) (yL _ (yL _ (Sj hb e)))).2.1
   have drop:∀ {σ':St} {H':Hp} {s':Shared},(∀ (j:Nat) v,(Uw own.length fr σ)[j]? = some (some v)→σ'[j]? = some (some v))→Inv (Xr X (Xd own Nm fr) scope d) ([(s2.heap.objs.size,({ cls:=.type "list",data:=.seq its.toArray na }:Obj))] ++ Np fp s5.heap) σ' H' s'→
     Inv (Xr X (Xd own Nm fr) scope d) [] (Uw own.length fr σ) H' s':=λ{σ' H' s'} hw I'=>
    (I'.Ld (pins':=[]) (λp hp=>absurd hp (by simp))).weak (Zj7.trans I'.len.symm) hw
   cases b with
   | false=>
    rw [if_neg zP]
    obtain ⟨m',hm,w'⟩:=hNx acc H7 (by rw [if_neg zP] at q7; exact q7)
    obtain ⟨k1,k2,k3,k4⟩:=fpK I7
    exact ⟨m',hm,i+1,acc,its,H7,drop wk I7,k1,k2,k3,va,⟨_,k4⟩,w'⟩
   | true=>
    rw [if_pos rfl]
    rw [if_pos rfl] at q7
    refine thn (he d _ s7 σ6 H7 _ I7 q7) λy s8 ⟨yv,H8,I8,r8,q8⟩=>?_
    obtain ⟨m',hm,w'⟩:=hNx _ H8 q8
    obtain ⟨k1,k2,k3,k4⟩:=fpK I8
    have hsz:its.toArray.size≤sizeLine:=by
     rw [zR,← va.length]
     exact uQ hz
    refine wpAny_list_append_plain (hsz:=hsz) ⟨_,k4⟩ λh9 hl9 hs9=>?_
    have I9:Inv (Xr X (Xd own Nm fr) scope d) [] (Uw own.length fr σ) H8 { s8 with heap:=h9 }:=by
     refine (drop wk I8).turned (t':=s8.toks) (it:=s2.heap.objs.size) (λb o hb e=>hs9.extBut b o hb e) k3 hDC (.inr (zI _)) (λx c e=>?_) λp hp=>absurd (show p∈([]:List (Addr × Obj)) from hp) (by simp)
     exact yH (Zgu x c (Jd x c e).1)
    refine ⟨m',hm,i+1,acc ++ [yv],its ++ [y],H8,I9,T.keep _ _ _ k1 λb hb o e=>hs9.extBut b o (λz=>hDf (z▸hb)) e,k2,k3,va.append (.cons r8 .nil),?_,w'⟩
    rw [show (its ++ [y]).toArray=its.toArray.push y by simp]
    exact hl9
 exact codeAny_compStart_list (loop _) (T.self _ 0 _ _ _ (T.keep 0 _ _ st2 λb _ o e=>old b o e) (loop _))
theorem Yw (S:Zai sc Nm own fr scope) (hc:X.calm=true) (hgf:GFr own.length g) (hi:PI X tg iter wi) (hg:∀ d,PG (Xr X (Xd own Nm fr) scope d) tg g)
  (ht:∀ d,PTs (Xr X (Xd own Nm fr) scope d) ifs tt) (he:∀ d,PE (Xr X (Xd own Nm fr) scope d) elt te) (hsc:X.env.scope=sc:=by rfl) (hN:X.N=Nm:=by rfl)
  (hs:∀ x,foldedSetIterable iter X.env x=pure x:=by intro _; rfl):PE X (.ListComp elt [⟨tg,iter,ifs,0⟩] scope Wd) (Zdz own.length fr wi g tt te):=by
 intro pins s σ H Q I h
 rw [eval_ListComp]
 refine Hm (use:=none) S hsc hN hc hgf hi hg ht he hs I h λD C Hd s' m I' q hn nC c1 c2 c3 c4=>?_
 exact ⟨m,hn,λh' hb=>⟨.ref D,Hd,I'.turned (t':=s'.toks) (λb o hne e=>hb.extBut b o hne e) nC c2 (.inr c1) c3 c4,rfl,q⟩⟩
theorem Lc {i:Nat} {x:Str} {pos pos':Pos} (hNd:X.N.Nodup) (hix:X.N[i]? = some x) (hx:X.env.scope.names.lookup x=some .local) (S:Zai sc Nm own fr scope) (hc:X.calm=true) (hgf:GFr own.length g) (hi:PI X tg iter wi)
  (hg:∀ d,PG (Xr X (Xd own Nm fr) scope d) tg g) (ht:∀ d,PTs (Xr X (Xd own Nm fr) scope d) ifs tt) (he:∀ d,PE (Xr X (Xd own Nm fr) scope d) elt te) (hsc:X.env.scope=sc:=by rfl) (hN:X.N=Nm:=by rfl)
  (hs:∀ x,foldedSetIterable iter X.env x=pure x:=by intro _; rfl)
  (hsw:swapsWith (.ListComp elt [⟨tg,iter,ifs,0⟩] scope Wd) (some (.Name x pos')) pos.line X.env=pure true:=by rfl) :
  PS X (.Assign [.Name x pos'] (.ListComp elt [⟨tg,iter,ifs,0⟩] scope Wd) pos) (Zk1 (Zdz own.length fr wi g tt te) (Mp i)):=by
 intro pins s σ H D0 I h
 rw [exec_Assign_Name_used _ _ _ _ hsw]
 refine zB (uU (zB ?_))
 refine zB (thn (Hm (use:=some (assign (.Name x pos') X.env)) (Q0:=λ_ s'=>SP X pins D0 .next s') S hsc hN hc hgf hi hg ht he hs I h λD C Hd s' m I' q hn nC c1 c2 c3 c4=>?_) λ_ s' q=>zH (zH q))
 show wpAny _ _ (assign (.Name x pos') X.env (.ref D)) _ _ s'
 refine wpAny_assign_Name (Ii I' hNd hix (.inl hx) (v:=.ref D) rfl (λs2 I2 ⟨a,sb,ha⟩=>?_) (.inr hx))
 have hCa:C≠a:=by
  rcases ha with z | z
  ·rw [z]; exact c2
  ·exact (c3 x a z).symm
 refine ⟨m,hn.sameBut sb hCa,λh' hb=>⟨_,Hd,I2.turned (t':=s2.toks) (λb o hne e=>hb.extBut b o hne e) nC c2 (.inr c1) c3 c4,q⟩⟩
end
theorem Vz {J:It} {n k:Nat} {fr:List Nat} {g:TG} {tt:TT} {te:TE} {σ:St} {H:Hp} {Q:VK} (Pv:Nat→List V→Hp→Prop) (hk:k < sizeLine) (h0:Pv 0 [] H) (hlen:∀ i acc H,Pv i acc H→acc.length≤i)
  (hgo:∀ i acc H,i < k→Pv i acc H→J.go i H) (hst:∀ acc H,Pv k acc H→J.stop k H)
  (hs:∀ i acc H2 x H3,i < k→Pv i acc H2→J.yld i H2 x H3→g x (Uw n fr σ) H3 λσ4 H4=>tt σ4 H4 λb H5=>if b=true then te σ4 H5 λv H6=>Pv (i+1) (acc ++ [v]) H6 else Pv (i+1) acc H5)
  (hd:∀ acc H2,Pv k acc H2→∀ l,H2 l=none→Q (.ref l) (upd H2 l (.lst acc))) :
  Zki J n fr g tt te σ H Q:=by
 refine ⟨λi m acc H=>m=k - i∧i≤k∧Pv i acc H,⟨k,by simp,yV _,h0⟩,?_⟩
 rintro i m acc H2 ⟨rfl,hi,p⟩
 have hl:=hlen i acc H2 p
 refine ⟨by omega,?_⟩
 by_cases hlt:i < k
 ·exact .inr ⟨hgo i acc H2 hlt p,Pv (i+1),λZng H' p'=>⟨k - (i+1),by omega,rfl,hlt,p'⟩,λx H3 y=>hs i acc H2 x H3 hlt p y⟩
 ·have e:i=k:=by omega
  subst e
  exact .inl ⟨hst acc H2 p,hd acc H2 p⟩
def Xz {lo:Int} {n k:Nat} {fr:List Nat} {g:TG} {tt:TT} {te:TE} {σ:St} {H:Hp} {Q:VK} (Pv:Nat→List V→Hp→Prop) (hk:k < sizeLine) (h0:Pv 0 [] H) (hlen:∀ i acc H,Pv i acc H→acc.length≤i)
  (hs:∀ i acc H2,i < k→Pv i acc H2→g (.int (lo+i)) (Uw n fr σ) H2 λσ4 H4=>tt σ4 H4 λb H5=>if b=true then te σ4 H5 λv H6=>Pv (i+1) (acc ++ [v]) H6 else Pv (i+1) acc H5)
  (hd:∀ acc H2,Pv k acc H2→∀ l,H2 l=none→Q (.ref l) (upd H2 l (.lst acc))):=
 Vz (J:=Itr lo k) (n:=n) (fr:=fr) (g:=g) (tt:=tt) (te:=te) (σ:=σ) (Q:=Q) Pv hk h0 hlen (λ_ _ _ h _=>h) (λ_ _ _=>zI _) (λi acc H2 x H3 hi p y=>by
  obtain ⟨e1,e2⟩:=y
  subst e1 e2
  exact hs i acc _ hi p) hd
def Ub {K:W.Frag} {a:Addr} {xs:List V} {n:Nat} {fr:List Nat} {g:TG} {tt:TT} {te:TE} {σ:St} {H:Hp} {Q:VK} (Pv:Nat→List V→Hp→Prop) (hk:xs.length < sizeLine) (h0:Pv 0 [] H) (hlen:∀ i acc H,Pv i acc H→acc.length≤i)
  (hl:∀ i acc H,Pv i acc H→SqL K H a xs)
  (hs:∀ i acc H2 x,xs[i]? = some x→Pv i acc H2→g x (Uw n fr σ) H2 λσ4 H4=>tt σ4 H4 λb H5=>if b=true then te σ4 H5 λv H6=>Pv (i+1) (acc ++ [v]) H6 else Pv (i+1) acc H5)
  (hd:∀ acc H2,Pv xs.length acc H2→∀ l,H2 l=none→Q (.ref l) (upd H2 l (.lst acc))):=
 Vz (J:=Itl K a) (n:=n) (fr:=fr) (g:=g) (tt:=tt) (te:=te) (σ:=σ) (Q:=Q) Pv hk h0 hlen (λi acc H hi p=>⟨xs,xs[i],hl i acc H p,by simp [hi]⟩) (λacc H p=>⟨xs,hl _ acc H p,zI _⟩) (λi acc H2 x H3 hi p y=>by
  obtain ⟨e1,e2⟩:=y
  subst e1
  exact hs i acc _ x (e2 xs (hl i acc _ p)) p) hd
def O7 {K:W.Frag} {a:Addr} {xs:List V} {n:Nat} {fr:List Nat} {g:TG} {tt:TT} {te:TE} {σ:St} {H:Hp} {Q:VK} (Pv:Nat→List V→Hp→Prop) (hk:xs.length < sizeLine) (h0:Pv 0 [] H) (hlen:∀ i acc H,Pv i acc H→acc.length≤i)
  (hl:∀ i acc H,Pv i acc H→SqT K H a xs)
  (hs:∀ i acc H2 x,xs[i]? = some x→Pv i acc H2→g x (Uw n fr σ) H2 λσ4 H4=>tt σ4 H4 λb H5=>if b=true then te σ4 H5 λv H6=>Pv (i+1) (acc ++ [v]) H6 else Pv (i+1) acc H5)
  (hd:∀ acc H2,Pv xs.length acc H2→∀ l,H2 l=none→Q (.ref l) (upd H2 l (.lst acc))):=
 Vz (J:=Itt K a) (n:=n) (fr:=fr) (g:=g) (tt:=tt) (te:=te) (σ:=σ) (Q:=Q) Pv hk h0 hlen (λi acc H hi p=>⟨xs,xs[i],hl i acc H p,by simp [hi]⟩) (λacc H p=>⟨xs,hl _ acc H p,zI _⟩) (λi acc H2 x H3 hi p y=>by
  obtain ⟨e1,e2⟩:=y
  subst e1
  exact hs i acc _ x (e2 xs (hl i acc _ p)) p) hd
end L2
namespace L2
open PySem PySem.Spec PyProof.Rows
def Its (cs:List Nat):It:=⟨λi _=>i < cs.length,λi H x H'=>H'=H∧∃ c,cs[i]? = some c∧x=.str ⟨#[c]⟩,λi _=>cs.length≤i⟩
theorem Zdu {P:Program} {w:World} {K:W.Frag} {tg:Expr} (it:Addr) (ty:String) (hty:ty = "str_ascii_iterator"∨ty = "str_iterator") (x:Str) (t:Tok) :
  Turn P w K tg (Its x.cps.toList) [it] it (λi h=>h.IsStrIter it ty x t i) where
 mem:=by simp
 obj:=λi h st b hb=>by
  rw [zT.mp hb]
  obtain ⟨o,e,c,d⟩:=st
  exact ⟨o,e,λv z=>by rw [d] at z; cases z⟩
 keep:=λi h h' st k=>by
  obtain ⟨o,e,r⟩:=st
  exact ⟨o,k it (by simp) o e,r⟩
 item:=by
  intro X hP hw hK hc i pins s σ H E I hf st hg
  subst hP hw hK
  have hlt:i < x.cps.toList.length:=hg
  obtain ⟨f0,f1,f2,f3,f4,f5⟩:=hf it (by simp)
  have hx:x.cps[i]? = some (x.cps.toList[i]):=by
   rw [← xN]
   exact zC hlt
  have fin:∀ h',h'.IsStrIter it ty x t (i+1)→Heap.SameBut it s.heap h'→∃ u,some (Value.str ⟨#[x.cps.toList[i]]⟩ s.toks)=some u∧
    wpAny (model X.prog X.w) X.A (letOwnedTupleGo tg (.ref it) u) (λ_ s2=>∃ y H',Inv X pins σ H' s2∧RelV y u∧(Its x.cps.toList).yld i H y H'∧s2.heap.IsStrIter it ty x t (i+1)∧∀ b∈[it],H' b=none) E { s with heap:=h',toks:=s.toks+1 }:=λh' st' sb=>by
   have I1:Inv X pins σ H { s with heap:=h',toks:=s.toks+1 }:=I.turned (λb o hb e=>(sb.2 b hb).trans e) f0 f1 f3 f4 f5
   obtain ⟨o,e,c,d⟩:=id st'
   refine ⟨_,rfl,Hc (s:={ s with heap:=h',toks:=s.toks+1 }) (n:=ty) e c d (by rcases hty with z | z <;> subst z <;> decide) ⟨.str ⟨#[x.cps.toList[i]]⟩,H,I1,⟨_,rfl⟩,⟨rfl,_,zC hlt,rfl⟩,st',λb hb=>(hf b hb).1⟩⟩
  rcases hty with z | z
  ·subst z
   exact wpAny_pyNext_ascii_item st hx λh' st' sb=>fin h' st' sb
  ·subst z
   exact wpAny_pyNext_wide_item st hx λh' st' sb=>fin h' st' sb
 done:=by
  intro X hP hw hK hc i pins s σ H E I hf st hg
  subst hP hw hK
  have hle:x.cps.toList.length≤i:=hg
  obtain ⟨f0,f1,f2,f3,f4,f5⟩:=hf it (by simp)
  have hx:x.cps[i]? = none:=by
   rw [← xN]
   exact wC.mpr hle
  rcases hty with z | z
  ·subst z
   exact wpAny_pyNext_ascii_end (I.ok.hd hc) st hx λh' eb=>⟨rfl,I.turned (t':=s.toks) (λb o hb e=>eb b o hb e) f0 f1 f3 f4 f5⟩
  ·subst z
   exact wpAny_pyNext_wide_end (I.ok.hd hc) st hx λh' eb=>⟨rfl,I.turned (t':=s.toks) (λb o hb e=>eb b o hb e) f0 f1 f3 f4 f5⟩
 self:=λ_ _ _ _ _ st h=>by
  rcases hty with z | z
  ·subst z
   exact wpAny_pyIter_striter_ascii st h
  ·subst z
   exact wpAny_pyIter_striter_wide st h
section
variable {X:Cx} {tg e:Expr} {te:TE}
def iStr (te:TE):TI:=λσ H R=>te σ H λv H1=>∃ z,v=.str z∧R (Its z.cps.toList) H1
theorem Rp (he:PE X e te):PI X tg e (iStr te):=by
 intro pins s σ H R I h
 refine thn (he pins s σ H _ I h) λv s1 ⟨x,H1,I1,r1,q1⟩=>?_
 obtain ⟨z,e1,q⟩:=q1
 subst e1
 obtain ⟨t,rfl⟩:=r1
 have go:∀ (ty:String),(ty = "str_ascii_iterator"∨ty = "str_iterator")→PIE X pins σ tg R (.ref s1.heap.objs.size) { s1 with heap:=s1.heap.push { cls:=.type ty,data:=.fields #[.str z t,.int 0 0] } }:=λty hty=>by
  refine ⟨s1.heap.objs.size,[s1.heap.objs.size],_,_,H1,rfl,I1.kept (t':=s1.toks) λb o e=>zG _ e,Zdu _ ty hty z t,⟨_,zN _ rfl,rfl,rfl⟩,λb hb=>?_,q⟩
  rw [zT.mp hb]
  exact I1.N9 (zI _) (I1.hok.fresh (zI _))
 cases ha:z.cps.all (· < 128) with
 | false=>exact wpAny_pyIter_wide ha (go _ (.inr rfl))
 | true=>exact wpAny_pyIter_ascii ha (go _ (.inl rfl))
end
theorem Lm {cs:List Nat} {g:TG} {tb:TS} {D:Ends} {σ:St} {H:Hp} (Pv:Nat→St→Hp→Prop) (h0:Pv 0 σ H)
  (hs:∀ i c σ H,cs[i]? = some c→Pv i σ H→g (.str ⟨#[c]⟩) σ H λσ2 H2=>tb { D with nx:=Pv (i+1),ct:=Pv (i+1),bk:=D.nx } σ2 H2) (hd:∀ σ H,Pv cs.length σ H→D.nx σ H) :
  ∃ W:Nat→Nat→St→Hp→Prop,(∃ m,W 0 m σ H)∧∀ i m σ H,W i m σ H→
   ((Its cs).stop i H∧D.nx σ H)∨((Its cs).go i H∧∃ N:St→Hp→Prop,(∀ σ' H',N σ' H'→∃ m',m' < m∧W (i+1) m' σ' H')∧∀ x H',(Its cs).yld i H x H'→g x σ H' λσ2 H2=>tb { D with nx:=N,ct:=N,bk:=D.nx } σ2 H2):=by
 refine ⟨λi m σ H=>m=cs.length - i∧i≤cs.length∧Pv i σ H,⟨cs.length,by simp,yV _,h0⟩,?_⟩
 rintro i m σ H ⟨rfl,hi,p⟩
 by_cases hlt:i < cs.length
 ·refine .inr ⟨hlt,Pv (i+1),λσ' H' p'=>⟨cs.length - (i+1),by omega,rfl,hlt,p'⟩,λx H' y=>?_⟩
  obtain ⟨e,c,hc,hx⟩:=y
  subst e hx
  exact hs i c σ _ hc p
 ·have e:i=cs.length:=by omega
  subst e
  exact .inl ⟨zI _,hd σ H p⟩
def O9 {cs:List Nat} {n:Nat} {fr:List Nat} {g:TG} {tt:TT} {te:TE} {σ:St} {H:Hp} {Q:VK} (Pv:Nat→List V→Hp→Prop) (hk:cs.length < sizeLine) (h0:Pv 0 [] H) (hlen:∀ i acc H,Pv i acc H→acc.length≤i)
  (hs:∀ i acc H2 c,cs[i]? = some c→Pv i acc H2→g (.str ⟨#[c]⟩) (Uw n fr σ) H2 λσ4 H4=>tt σ4 H4 λb H5=>if b=true then te σ4 H5 λv H6=>Pv (i+1) (acc ++ [v]) H6 else Pv (i+1) acc H5)
  (hd:∀ acc H2,Pv cs.length acc H2→∀ l,H2 l=none→Q (.ref l) (upd H2 l (.lst acc))):=
 Vz (J:=Its cs) (n:=n) (fr:=fr) (g:=g) (tt:=tt) (te:=te) (σ:=σ) (Q:=Q) Pv hk h0 hlen (λ_ _ _ h _=>h) (λ_ _ _=>zI _) (λi acc H2 x H3 hi p y=>by
  obtain ⟨e1,c,hc,hx⟩:=y
  subst e1 hx
  exact hs i acc _ c hc p) hd
theorem Kd (bs:List Bool):(List.range bs.length).all (λi=>bs.getD i false)=bs.all id:=by
 rw [wG,vX,vX]
 constructor
 ·intro h b hb
  obtain ⟨i,hi,rfl⟩:=yU hb
  have:=h i (yN.mpr hi)
  simpa [zD,hi] using this
 ·intro h i hi
  have hi':=yN.mp hi
  have:=h bs[i] (wB hi')
  simpa [zD,hi'] using this
section
variable {X:Cx}
theorem C3 {pins:List (Addr × Obj)} {σ:St} {H:Hp} {s:Shared} {p:Addr} {bs:List Bool} {Qv:VK} {f:Nat→(Nat→Bool)→Bool} {b:Bool} (hc:X.calm=true) (I:Inv X pins σ H s) (hq:SqL X.K H p (bs.map V.bl)) (hb:f bs.length (λi=>bs.getD i false)=b) (q:Qv (.bl b) H) :
  wpAny (model X.prog X.w) X.A.in1 (pyIter (.ref p)) (λit s₂=>∃ I fp wr n P St tr,it=.ref I∧Walks X.prog X.w X.A.in1 I fp wr n P St∧St 0 s₂.heap∧TruthOf X.prog X.w X.A.in1 P tr∧
   ∀ h' tk,(∀ b o,b∉wr→s₂.heap.get? b=some o→h'.get? b=some o)→EP X pins σ Qv (.bool (f n tr)) { s₂ with heap:=h',toks:=tk }) X.xe s:=by
 obtain ⟨its,r,pl,hz⟩:=I.list hq
 have hlen:its.toArray.size=bs.length:=by
  rw [zR,← r.length,zA]
 have hpl:p < s.heap.objs.size:=by
  obtain ⟨o,e,_⟩:=pl.isList
  exact zL e
 refine wpAny_pyIter_list pl.isList ?_
 refine ⟨s.heap.objs.size,[s.heap.objs.size,p],[s.heap.objs.size],its.toArray.size,_,_,λi=>bs.getD i false,rfl,Walks.list (A:=X.A.in1) (show X.A.in1.handled=none from I.ok.hd hc) s.heap.objs.size p (yH hpl) its.toArray,?_,?_,λh' tk k=>?_⟩
 ·refine And.intro (show Heap.IsListIter _ _ _ _ from ⟨_,zN _ rfl,rfl,rfl⟩) ?_
  obtain ⟨o,e,z⟩:=pl.isList
  exact ⟨o,zG _ e,z⟩
 ·intro i v s' Q E hv hQ
  have hv':its[i]? = some v:=by simpa using hv
  cases e:(bs.map V.bl)[i]? with
  | none=>
   have z:=r.none_of e
   rw [hv'] at z
   cases z
  | some x=>
   obtain ⟨u,hu,ru⟩:=r.get e
   rw [hv'] at hu
   cases hu
   rw [zE] at e
   cases e2:bs[i]? with
   | none=>rw [e2] at e; cases e
   | some y=>
    rw [e2] at e
    cases e
    cases ru
    refine uO ?_
    have:bs.getD i false=y:=by rw [zD,e2]; rfl
    exact this▸(show Q (bs.getD i false) s' from hQ)
 ·rw [hlen,hb]
  refine ⟨.bl b,H,I.kept λc o e=>k c o ?_ (zG _ e),rfl,q⟩
  have:=zL e
  intro z
  rw [zT.mp z] at this
  exact wM _ this
theorem Cr (hc:X.calm=true):Xx X (.builtin "all") (λxs H Q=>∃ (p:Addr) (bs:List Bool),xs=[.ref p]∧SqL X.K H p (bs.map V.bl)∧Q (.bl (bs.all id)) H):=by
 intro pins s σ H xs us Q I r h
 obtain ⟨p,bs,rfl,hq,q⟩:=h
 obtain ⟨u,rfl,ru⟩:=vals1 r
 cases ru
 exact call_all_walk (C3 (f:=λn tr=>(List.range n).all tr) hc I hq (Kd bs) q)
theorem Uc:∀ {ys:List Str} {us:List Value},Vals (ys.map V.str) us→StrsAre us ys
 | [],us,r=>by rw [wQ] at r; cases r; exact .nil
 | y :: ys,us,r=>by
  rw [zO] at r
  cases r with
  | cons r1 r2=>
   obtain ⟨t,e⟩:=r1
   subst e
   exact .cons y t (Uc r2)
theorem Qm:∀ {us:List Value} {ys:List Str},StrsAre us ys→Vals (ys.map V.str) us
 | _,_,.nil=>.nil
 | _,_,.cons y t h=>.cons ⟨t,rfl⟩ (Qm h)
inductive Zem (K:W.Frag) (x:V) (xs:List V) (H:Hp) (Q:VK):Prop
 | mk (z p ys:_) (h1:x=.str z) (h2:xs=[.ref p]) (h3:SqL K H p (ys.map V.str)) (h4:(ys.map (·.length)).sum+ys.length * z.length≤16777216) (h5:Q (.str (Txt.join z ys)) H):Zem K x xs H Q
def rJoin (K:W.Frag):V→List V→Hp→VK→Prop:=λx xs H Q=>Zem K x xs H Q
theorem Zh6:MtR X "str.join" (rJoin X.K):=by
 intro pins s σ H x xs v us Q I rx rs h
 obtain ⟨z,p,ys,rfl,rfl,hq,hz,q⟩:=h
 obtain ⟨t,rfl⟩:=rx
 obtain ⟨u,rfl,ru⟩:=rs.one
 cases ru
 obtain ⟨its,r,pl,_⟩:=I.list hq
 exact join_list pl.isList (by simpa using Uc r) hz λt' k=>⟨.str _,H,I.tok _,⟨_,rfl⟩,q⟩
theorem Pe (ys:List Str):(Txt.join (Str.ofString "") ys).cps.toList=(ys.map λy=>y.cps.toList).flatten:=by
  show (Builtin.Str.glued (Str.ofString "") ys).cps.toList=_
  rw [StrLaws.glued_eq_join]
  induction ys with
  | nil=>rfl
  | cons y r ih=>
   cases r with
   | nil=>simp [Str.join]
   | cons z r=>
    have e:Str.join (Str.ofString "") (y :: z :: r)=y ++ Str.ofString "" ++ Str.join (Str.ofString "") (z :: r):=rfl
    rw [e]
    have h0:(Str.ofString "").cps = #[]:=by decide +kernel
    show ((y.cps ++ (Str.ofString "").cps) ++ (Str.join (Str.ofString "") (z :: r)).cps).toList=_
    rw [h0,Array.append_empty,uB,ih,zO,zO,List.flatten_cons]
    rfl
inductive Zjq (x:V) (lo:Option Int) (hi:Option Int) (H:Hp) (Q:VK):Prop
 | mk (z:_) (h1:x=.str z) (h2:z.length≤sizeLine) (h3:Q (.str (Txt.slice z lo hi)) H):Zjq x lo hi H Q
def rSlS:V→Option Int→Option Int→Hp→VK→Prop:=λx lo hi H Q=>Zjq x lo hi H Q
theorem Zeb:SlR X rSlS:=by
 intro pins s σ H x v vl vu lo hi sl Q I rx hs pl pu h
 obtain ⟨z,rfl,hz,q⟩:=h
 obtain ⟨t,rfl⟩:=rx
 refine ⟨"str",_,F.slot_str_getitem.lookup,typeIs_str _ _ _,?_⟩
 have fin:∀ t' k,EP X pins σ Q (.str (Txt.slice z lo hi) t') { s with toks:=k }:=λt' k=>⟨.str _,H,I.tok _,⟨_,rfl⟩,q⟩
 have hle:(Txt.slice z lo hi).length≤sizeLine:=yG (Txt.slice_le z _ _) hz
 cases pl with
 | none=>
  cases pu with
  | none=>exact uC (l:=none) (u:=none) (st:=none) hs rfl (post_val_or_str ⟨hle,fin⟩)
  | int j uj=>exact uC (l:=none) (u:=some (j,uj)) (st:=none) hs rfl (post_val_or_str ⟨hle,fin⟩)
 | int i ui=>
  cases pu with
  | none=>exact uC (l:=some (i,ui)) (u:=none) (st:=none) hs rfl (post_val_or_str ⟨hle,fin⟩)
  | int j uj=>exact uC (l:=some (i,ui)) (u:=some (j,uj)) (st:=none) hs rfl (post_val_or_str ⟨hle,fin⟩)
inductive Za1 (K:W.Frag) (xs:List V) (H:Hp) (Q:VK):Prop
 | mk (p ys:_) (h1:xs=[.ref p]) (h2:SqL K H p (ys.map V.str)) (h3:ys.length < 64) (h4:∀ ys' l,ys'.Perm ys→sortedS ys'=true→H l=none→Q (.ref l) (upd H l (.lst (ys'.map V.str)))):Za1 K xs H Q
def Zei (K:W.Frag):List V→Hp→VK→Prop:=λxs H Q=>Za1 K xs H Q
theorem M6:Xx X (.builtin "sorted") (Zei X.K):=by
 intro pins s σ H xs us Q I r h
 obtain ⟨p,ys,rfl,hq,h64,q⟩:=h
 obtain ⟨u,rfl,ru⟩:=vals1 r
 cases ru
 obtain ⟨its,r',pl,hz⟩:=I.list hq
 have hlen:=r'.length
 rw [zA] at hlen hz
 refine sorted_strs pl.isList (Uc r') (by omega) λout ss' a1 a2 a3=>?_
 obtain ⟨e,he⟩:=sortedAll_at s.heap its out
 have hn:H (s.heap.objs.size+1)=none:=I.hok.fresh (xP _)
 refine ⟨.ref (s.heap.objs.size+1),upd H (s.heap.objs.size+1) (.lst (ss'.map V.str)),I.laid (t':=s.toks) (λ_ _=>sortedAll_old) (xP _) ⟨?_,out.toList,e,Qm a1,?_⟩,rfl,q ss' _ a2 a3 hn⟩
 ·rw [zA,a2.length_eq]
  exact hz
 ·simpa [seqObj] using he
def Tt (c:Nat):V:=.str ⟨#[c]⟩
theorem Lo {x:Str}:∀ (us:List Value) (k:Nat),(∀ i v,us[i]? = some v→SignAt x (k+i) v)→us.length+k=x.cps.toList.length→Vals ((x.cps.toList.drop k).map Tt) us
 | [],k,_,hl=>by
  rw [uL (by simpa using sM hl.symm)]
  exact .nil
 | u :: us,k,h,hl=>by
  have hk:k < x.cps.toList.length:=by
   simp only [yR] at hl
   omega
  rw [List.drop_eq_getElem_cons hk,zO]
  refine .cons ?_ (Lo us (k+1) (λi v e=>?_) (by simp only [yR] at hl; omega))
  ·obtain ⟨c,t,hc,rfl⟩:=h 0 u rfl
   have hc':x.cps.toList[k]? = some c:=by
    rw [xN]
    exact hc
   rw [zC hk] at hc'
   rw [Option.some.inj hc']
   exact ⟨t,rfl⟩
  ·have:=h (i+1) v e
   rw [show k+1+i=k+(i+1) by omega]
   exact this
theorem Jf (hc:X.calm=true):Xx X (.type "list") (λxs H Q=>∃ z,xs=[.str z]∧z.length≤sizeLine∧∀ l,H l=none→Q (.ref l) (upd H l (.lst (z.cps.toList.map Tt)))):=by
 intro pins s σ H xs us Q I r h
 obtain ⟨z,rfl,hz,q⟩:=h
 obtain ⟨u,rfl,t,rfl⟩:=vals1 r
 refine call_list_str (hn:=hz) (I.ok.hd hc) z t λh' tk acc c kp e it=>?_
 refine ⟨.ref s.heap.objs.size,_,I.laid kp (zI _) (show Yl X.prog X.w _ h' _ (.lst (z.cps.toList.map Tt)) from ⟨by rw [zA]; simpa [Str.length] using hz,acc.toList,c,?_,by simpa using e⟩),rfl,q _ (I.hok.fresh (zI _))⟩
 have e1:=Lo (x:=z) acc.toList 0 (λi v e=>by rw [vY]; exact it.2 i v (by rw [← xN]; exact e)) (by rw [yX,it.1,uS,yX])
 rw [tL] at e1
 exact e1
inductive Za5 (x:V) (xs:List V) (H:Hp) (Q:VK):Prop
 | mk (z y:_) (h1:x=.str z) (h2:xs=[.str y]) (h3:0≤Txt.find z y) (h4:Q (.int (Txt.find z y)) H):Za5 x xs H Q
def Zlf:V→List V→Hp→VK→Prop:=λx xs H Q=>Za5 x xs H Q
theorem Zff (hc:X.calm=true):MtR X "str.index" Zlf:=by
 intro pins s σ H x xs v us Q I rx rs h
 obtain ⟨z,y,rfl,rfl,h0,q⟩:=h
 obtain ⟨t,rfl⟩:=rx
 obtain ⟨u1,rfl,⟨t1,rfl⟩⟩:=rs.one
 exact index_or (I.ok.hd hc) (λe=>by omega) λ_ _=>⟨.int _,H,I.tok _,⟨_,rfl⟩,q⟩
theorem RelV.Zkm {c:V} {u u':Value} (h:RelV c u) (h':RelV c u') (hc:(∃ n,c=.ty n)∨∃ a,c=.ref a):u=u':=by
 rcases hc with ⟨n,rfl⟩ | ⟨a,rfl⟩
 ·exact (show u=Value.type n from h).trans (show u'=Value.type n from h').symm
 ·exact (show u=Value.ref a from h).trans (show u'=Value.ref a from h').symm
inductive Zod (K:W.Frag) (xs:List V) (H:Hp) (Q:VK):Prop
 | mk (x n t b:_) (h1:xs=[x,.ty n]) (h2:Nc K H x t) (h3:W.kitOne K t (.type n)=some b) (h4:Q (.bl b) H):Zod K xs H Q
def rIs (K:W.Frag):List V→Hp→VK→Prop:=λxs H Q=>Zod K xs H Q
theorem Zi4:Xx X (.builtin "isinstance") (rIs X.K):=by
 intro pins s σ H xs us Q I r h
 obtain ⟨x,n,t,b,rfl,ty,e,q⟩:=h
 obtain ⟨u,w',rfl,rx,rc⟩:=vals2 r
 cases (show w'=Value.type n from rc)
 exact Zc0 I rx ty e λtk=>⟨.bl b,H,I.tok _,rfl,q⟩
inductive Zjw (K:W.Frag) (xs:List V) (H:Hp) (Q:VK):Prop
 | mk (x tp n m t b:_) (h1:xs=[x,.ref tp]) (h2:H tp=some (.tup [.ty n,.ty m])) (h3:Nc K H x t) (h4:W.kitAny K t [.type n,.type m]=some b) (h5:Q (.bl b) H):Zjw K xs H Q
def Zoe (K:W.Frag):List V→Hp→VK→Prop:=λxs H Q=>Zjw K xs H Q
theorem Zgv:Xx X (.builtin "isinstance") (Zoe X.K):=by
 intro pins s σ H xs us Q I r h
 obtain ⟨x,tp,n,m,t,b,rfl,htp,ty,e,q⟩:=h
 obtain ⟨u,w',rfl,rx,rc⟩:=vals2 r
 cases (show w'=Value.ref tp from rc)
 obtain ⟨_,its,rv,p⟩:=(show Yl X.prog X.w H s.heap tp (.tup [.ty n,.ty m]) from I.hok tp _ htp)
 obtain ⟨a1,a2,rfl,ra1,ra2⟩:=rv.two
 cases (show a1=Value.type n from ra1)
 cases (show a2=Value.type m from ra2)
 obtain ⟨⟨oc,od,odt,osl⟩,g1,g2,k,g3⟩:=p
 cases (show oc=Value.type "tuple" from g2)
 cases (show odt=Data.seq _ k from g3)
 have fin:∀ tk,EP X pins σ Q (.bool b) { s with toks:=tk }:=λtk=>⟨.bl b,H,I.tok _,rfl,q⟩
 have no:∀ v:Value,(∀ z:String,v≠.builtin z)→v≠.builtin "__main__.__loader__#opaque":=λv h=>h _
 cases ty with
 | non=>cases (show u=Value.none from rx); exact vU W.kitx_none I.kIn True.intro g1 e (no _ λ_ z=>nomatch z) fin
 | bl y=>cases (show u=Value.bool y from rx); exact vU W.kitx_bool I.kIn True.intro g1 e (no _ λ_ z=>nomatch z) fin
 | int i=>obtain ⟨t,z⟩:=(show ∃ t,u=Value.int i t from rx); cases z; exact vU W.kitx_int I.kIn True.intro g1 e (no _ λ_ z=>nomatch z) fin
 | str y=>obtain ⟨t,z⟩:=(show ∃ t,u=Value.str y t from rx); cases z; exact vU W.kitx_str I.kIn True.intro g1 e (no _ λ_ z=>nomatch z) fin
 | flt y=>obtain ⟨t,z⟩:=(show ∃ t,u=Value.float y t from rx); cases z; exact vU W.kitx_float I.kIn True.intro g1 e (no _ λ_ z=>nomatch z) fin
 | @lst a xs ea=>
  cases (show u=Value.ref a from rx)
  obtain ⟨_,_,k2,_,h1⟩:=(show Yl X.prog X.w H s.heap a (.lst xs) from I.hok a _ ea)
  exact vU W.kitx_list I.kIn ⟨_,h1,rfl⟩ g1 e (no _ λ_ z=>nomatch z) fin
 | @frz a ob xs ea=>
  cases (show u=Value.ref a from rx)
  obtain ⟨_,_,_,k2,_,h1⟩:=(show Yl X.prog X.w H s.heap a (.frz ob (.lst xs)) from I.hok a _ ea)
  exact vU W.kitx_list I.kIn ⟨_,h1,rfl⟩ g1 e (no _ λ_ z=>nomatch z) fin
 | @tup a xs ea=>
  cases (show u=Value.ref a from rx)
  obtain ⟨_,_,_,o2,h1,h2,_⟩:=(show Yl X.prog X.w H s.heap a (.tup xs) from I.hok a _ ea)
  exact vU W.kitx_tuple I.kIn ⟨o2,h1,h2⟩ g1 e (no _ λ_ z=>nomatch z) fin
 | @dK a kvs ea=>
  cases (show u=Value.ref a from rx)
  obtain ⟨_,_,vs,_,o2,es,ep,h1,h2,_⟩:=(show Yl X.prog X.w H s.heap a (.dK kvs) from I.hok a _ ea)
  exact vU W.kitx_dict I.kIn ⟨o2,h1,h2.1⟩ g1 e (no _ λ_ z=>nomatch z) fin
 | @dT a kvs ea=>
  cases (show u=Value.ref a from rx)
  obtain ⟨_,_,xs,_,o2,es,ep,h1,h2,_⟩:=(show Yl X.prog X.w H s.heap a (.dT kvs) from I.hok a _ ea)
  exact vU W.kitx_dict I.kIn ⟨o2,h1,h2.1⟩ g1 e (no _ λ_ z=>nomatch z) fin
 | @ins a C dx fs ea cl ha hn htk hm=>
  cases (show u=Value.ref a from rx)
  obtain ⟨mA,O,_⟩:=Zbs I.hok ea
  obtain ⟨od2,J,_⟩:=O.look
  exact vU (W.kitx_own (cl.get _) cl.hd ha hn htk hm) I.kIn J g1 e (no _ λ_ z=>nomatch z) fin
end
end L2
namespace L2
open PySem PySem.Spec PyProof.Rows
inductive Zjf (t:TS) (u:TS) (D:Ends) (σ:St) (H:Hp):Prop
 | mk (P:St→Hp→Prop) (h1:t { D with nx:=P } σ H) (h2:∀ σ' H',P σ' H'→u D σ' H'):Zjf t u D σ H
def Zky (t u:TS):TS:=λD σ H=>Zjf t u D σ H
theorem Za6 {X:Cx} {st:Stmt} {rest:List Stmt} {t u:TS} (h1:PS X st t) (h2:PSs X rest u):PSs X (st :: rest) (Zky t u):=by
 intro pins s σ H D I h
 obtain ⟨P,q,k⟩:=h
 have z:PSs X (st :: rest) (Zt (λD' σ' H'=>D'=D∧σ'=σ∧H'=H) (λ_ _ _=>True))→True:=λ_=>True.intro
 exact Ze (t:=λD' σ' H'=>t { D' with nx:=P } σ' H'∧∀ σ2 H2,P σ2 H2→D'.nx σ2 H2) (u:=u) (λpins s σ H D I h=>by
  refine thn (h1 pins s σ H _ I h.1) λf s' r=>?_
  cases f with
  | next=>
   obtain ⟨σ',H',I',p⟩:=r
   exact ⟨σ',H',I',h.2 σ' H' p⟩
  | brk=>exact r
  | cont=>exact r
  | ret v=>exact r) h2 pins s σ H D I ⟨q,k⟩
structure Cal (P:Program) (w:World) (K:W.Frag) (mg:Str→Option Value) (base:Heap) (x:Str) (k:Nat) (ps:List Str) (sp:Sp) where
 f:Addr
 fd:FuncData
 ok:Yt P w K mg base CX0 k f fd ps sp
 at_:mg x=some (.ref f)
 kp:W.keepIn K (.ref f)=true
 b:Binds K fd ps []
theorem Ys {X:Cx} {x:Str} {k:Nat} {ps:List Str} {sp:Sp} {p pos:Pos} {e:Expr} {es:List Expr} {t:TA} (C:Cal X.prog X.w X.K X.mg X.base x k ps sp) (hr:Wx k X.A) (ha:PA X (e :: es) t) (hg:Gl X x:=by rfl)
  (hdb:(x==("__debug__" : Str))=false:=by decide) (he:starEach (e :: es) X.env=(false,eval e X.env) :: starEach es X.env:=by rfl) (hpl:(backTo pos (starEach es X.env)).any (·.1)=false:=by rfl) :
  PE X (.Call (.Name x p) (e :: es) [] pos) (Zd1 sp [] E0 t):=Zhx C.ok hr hg C.at_ C.kp C.b .nil Zj1 ha hdb he hpl
section
variable {X:Cx}
end
theorem Zlx (a b:Nat):decide (([a]:List Nat) < [b])=decide (a < b):=by
 rw [wG,decide_eq_true_eq,decide_eq_true_eq]
 constructor
 ·intro h
  cases h with
  | rel h=>exact h
  | cons h=>cases h
 ·intro h
  exact List.Lex.rel h
section
variable {X:Cx} {K:W.Frag}
inductive Zel (K:W.Frag) (xs:List V) (H:Hp) (Q:VK):Prop
 | mk (p ys:_) (h1:xs=[V.ref p]) (h2:(SqL K H p ys∨SqT K H p ys)) (h3:Q (.int ys.length) H):Zel K xs H Q
def Zob (K:W.Frag):List V→Hp→VK→Prop:=λxs H Q=>Zel K xs H Q
inductive Za4 (K:W.Frag) (xs:List V) (H:Hp) (Q:VK):Prop
 | mk (p ys:_) (h1:xs=[V.ref p]) (h2:(SqL K H p ys∨SqT K H p ys)) (h3:∀ l,H l=none→Q (.ref l) (upd H l (.lst ys))):Za4 K xs H Q
def Zld (K:W.Frag):List V→Hp→VK→Prop:=λxs H Q=>Za4 K xs H Q
inductive Zeh (K:W.Frag) (xs:List V) (H:Hp) (Q:VK):Prop
 | mk (p ys:_) (h1:xs=[V.ref p]) (h2:((SqL K H p ys∧∀ l,H l=none→Q (.ref l) (upd H l (.tup ys)))∨(SqT K H p ys∧Q (.ref p) H))):Zeh K xs H Q
def Zn7 (K:W.Frag):List V→Hp→VK→Prop:=λxs H Q=>Zeh K xs H Q
inductive Zep (K:W.Frag) (xs:List V) (H:Hp) (Q:VK):Prop
 | mk (p:Addr) (bs:List Bool) (h1:xs=[V.ref p]) (h2:SqL K H p (bs.map V.bl)) (h3:Q (.bl (bs.all id)) H):Zep K xs H Q
def Zoi (K:W.Frag):List V→Hp→VK→Prop:=λxs H Q=>Zep K xs H Q
theorem Xx.imp {X:Cx} {f:Value} {r r':List V→Hp→VK→Prop} (h:Xx X f r) (hi:∀ xs H Q,r' xs H Q→r xs H Q):Xx X f r':=λpins s σ H xs us Q I rv q=>h pins s σ H xs us Q I rv (hi xs H Q q)
theorem Zy (hK:X.K=K:=by rfl):IxR X (Zhp K):=by subst hK; exact Zbo
theorem Zv (hK:X.K=K:=by rfl):IxR X (Zle K):=by subst hK; exact Zfm
theorem Zbn (hK:X.K=K:=by rfl):IxR X (rIx K):=by subst hK; exact Zma
theorem Z4 (hK:X.K=K:=by rfl):Xx X (.builtin "len") (Zob K):=by subst hK; exact Fv.imp λ_ _ _ ⟨p,ys,e,h,q⟩=>⟨p,ys,e,h,q⟩
theorem Ur (hK:X.K=K:=by rfl):Xx X (.type "list") (Zld K):=by subst hK; exact Fu.imp λ_ _ _ ⟨p,ys,e,h,q⟩=>⟨p,ys,e,h,q⟩
theorem Z3 (hK:X.K=K:=by rfl):Xx X (.type "tuple") (Zn7 K):=by subst hK; exact J5.imp λ_ _ _ ⟨p,ys,e,h⟩=>⟨p,ys,e,h⟩
theorem Zdi (hc:X.calm=true:=by rfl) (hK:X.K=K:=by rfl):Xx X (.builtin "all") (Zoi K):=by subst hK; exact (Cr hc).imp λ_ _ _ ⟨p,bs,e,h,q⟩=>⟨p,bs,e,h,q⟩
theorem Av (hK:X.K=K:=by rfl):Xx X (.builtin "sorted") (Zei K):=by subst hK; exact M6
theorem Sf (hK:X.K=K:=by rfl):Xx X (.builtin "isinstance") (rIs K):=by subst hK; exact Zi4
theorem Zdh (hK:X.K=K:=by rfl):Xx X (.builtin "isinstance") (Zoe K):=by subst hK; exact Zgv
theorem U8 (hK:X.K=K:=by rfl):OpR X (compareOp .In) (rIn K false):=by subst hK; exact Zcq
theorem Zcp (hK:X.K=K:=by rfl):OpR X (compareOp .NotIn) (rIn K true):=by subst hK; exact Gx
theorem Ze6 (hK:X.K=K:=by rfl):OpR X (binaryOp .Add) (Zjy K):=by subst hK; exact Zbc
theorem Zhl (hK:X.K=K:=by rfl):SlR X (Zn8 K):=by subst hK; exact Zk5
theorem Ky (hK:X.K=K:=by rfl):MtR X "str.join" (rJoin K):=by subst hK; exact Zh6
theorem Wj {tg l:Expr} {tl:TE} (hl:PE X l tl) (hK:X.K=K:=by rfl):PI X tg l (Zj9 K tl):=by subst hK; exact Zhv hl
theorem Vo {tg l:Expr} {tl:TE} (hl:PE X l tl) (hK:X.K=K:=by rfl):PI X tg l (Zou K tl):=by subst hK; exact Zlj hl
theorem Vq {es:List Expr} {k:Nat} {t:TGs} {n:Nat} {pos:Pos} (hc:X.calm=true) (h:PGs X es t) (hK:X.K=K:=by rfl)
  (hn:(assignEach es X.env).length=n:=by rfl) (hst:(assignEach es X.env).findIdx? (·.1)=none:=by rfl):PG X (.Tuple es k pos) (Zit K n t):=by subst hK; exact Zlk hc h hn hst
theorem Xh {o e:Expr} {es:List Expr} {to:TE} {t:TA} {name:Str} {apos Wd:Pos} {T id:String} {r:V→List V→Hp→VK→Prop} (pa:PlainAttrs T) (slot:Slot T name id) (hty:typeOf (.builtin id)=pure (.type "method_descriptor")) (hm:MtR X id r) (ho:PE X o to)
  (ha:PA X (e :: es) t) (hK:X.K=K:=by rfl) (Zfy:attributeBase o name X.env (eval o X.env)=eval o X.env:=by rfl)
  (Zmn:((backTo Wd (starEach (e :: es) X.env)).all (λx=>!x.1) && (backToKw Wd (keywordEach [] X.env)).all (λx=>x.1.isSome)
   && decide ((e :: es).length+([]:List Keyword).length+(if ([]:List Keyword).isEmpty then 0 else 1) < 30))=true:=by rfl)
  (Zft:(apos.endLine==Wd.line)=true:=by rfl) (hs:starEach (e :: es) X.env=(false,eval e X.env) :: starEach es X.env:=by rfl) (Ah:(backTo Wd (starEach es X.env)).any (·.1)=false:=by rfl) :
  PE X (.Call (.Attribute o name apos) (e :: es) [] Wd) (tBM K T r to t):=by subst hK; exact Zon pa slot hty hm ho ha Zfy Zmn Zft hs Ah
end
theorem Zea (lo hi:Option Int) (n:Nat):Builtin.Str.strSliceIndices lo hi 1 n=(List.range (HT.sIx n n hi - HT.sIx n 0 lo)).map (HT.sIx n 0 lo + ·):=by
 obtain ⟨h1,h2,h3⟩:=Ge lo hi n
 have e:Builtin.Str.strSliceIndices lo hi 1 n=sliceRange (sliceBounds lo hi none n).1 (sliceBounds lo hi none n).2.1 (sliceBounds lo hi none n).2.2:=by
  cases lo <;> cases hi <;> rfl
 rw [e,h1,h2,h3,sliceRange_one]
theorem slice_list (z:Str) (lo hi:Option Int):(Txt.slice z lo hi).cps.toList=(z.cps.toList.drop (HT.sIx z.length 0 lo)).take (HT.sIx z.length z.length hi - HT.sIx z.length 0 lo):=by
 unfold Txt.slice
 rw [Zea]
 by_cases hc:((1:Int)==1 && ((List.range (HT.sIx z.length z.length hi - HT.sIx z.length 0 lo)).map (HT.sIx z.length 0 lo + ·)).length==z.length)=true
 ·rw [if_pos hc]
  simp only [yQ,zA,zV,beq_iff_eq,true_and] at hc
  have h1:=HT.Bl z.length 0 (yV _) lo
  have h2:=HT.Bl z.length z.length (zI _) hi
  have hl:z.cps.toList.length=z.length:=by simp [Str.length]
  by_cases h0:z.length=0
  ·have:z.cps.toList=[]:=uN (by omega)
   rw [this]
   simp
  ·have e0:HT.sIx z.length 0 lo=0:=by omega
   rw [e0,tL,xS (by omega)]
 ·rw [if_neg hc]
  rw [pick_run]
theorem Yq:bootBuiltins "len" = some (.builtin "len"):=by decide +kernel
theorem Q9:bootBuiltins "sorted" = some (.builtin "sorted"):=by decide +kernel
theorem Znd:bootBuiltins "all" = some (.builtin "all"):=by decide +kernel
theorem Yj:bootBuiltins "isinstance" = some (.builtin "isinstance"):=by decide +kernel
theorem Vs:bootBuiltins "list" = some (.type "list"):=by decide +kernel
theorem Z7:bootBuiltins "tuple" = some (.type "tuple"):=by decide +kernel
theorem Fy:bootBuiltins "int" = some (.type "int"):=by decide +kernel
theorem Zb9:bootBuiltins "bool" = some (.type "bool"):=by decide +kernel
theorem Sv:bootBuiltins "enumerate" = some (.type "enumerate"):=by decide +kernel
theorem Fx:bootBuiltins "set" = some (.type "set"):=by decide +kernel
theorem Ss {i:Nat} {x:V} {σ:St} {H:Hp} {te:TE} {Nt:VK} {Nf:Hp→Prop} (h:te (σ.set i (some x)) H Nt):Mp i x σ H λσ4 H4=>Zkr σ4 H4 λb H5=>if b=true then te σ4 H5 Nt else Nf H5:=by
 show if true=true then te (σ.set i (some x)) H Nt else Nf H
 exact Ab h
theorem Zd {H:Hp} {p:Addr} (h:H p=none) (o:HO):Zr H (upd H p o):=λb u q=>by rw [Zi (Zf q h)]; exact q
theorem Vr {n:Nat} (h:n≤1000):n≤sizeLine:=uQ (Zw h)
def Mh (sc:Addr) (xs:List V):Prop:=∃ a b c d:Int,xs=[.ref sc,.int a,.int b,.int c,.int d]∧0≤a∧0≤b∧0≤c∧c < 2147483647∧0≤d
structure Yb (H:Hp) (p sc:Addr):Prop where
 here:∃ xs,H p=some (.lst xs)∧Mh sc xs
 cells:∃ ns:List Int,H sc=some (.lst (ns.map V.int))
theorem Yb.ne {H:Hp} {p sc:Addr} (F:Yb H p sc):sc≠p:=by
 obtain ⟨xs,h1,a,b,c,d,e,_⟩:=F.here
 obtain ⟨ns,h2⟩:=F.cells
 refine Xm h2 h1 λz=>?_
 have z':ns.map V.int=xs:=by injection z
 rw [e] at z'
 cases ns with
 | nil=>cases z'
 | cons n r=>
  rw [zO] at z'
  injection z' with z1
  cases z1
theorem Yb.go {H:Hp} {p sc:Addr} {xs:List V} (F:Yb H p sc) (h:Mh sc xs):Yb (upd H p (.lst xs)) p sc:=by
 obtain ⟨ns,h2⟩:=F.cells
 exact ⟨⟨xs,Zb,h⟩,ns,by rw [Zi F.ne]; exact h2⟩
def Yh (H H':Hp) (p:Addr):Prop:=∀ b o,H b=some o→b≠p→H' b=some o
theorem Yb.same {H H':Hp} {p sc:Addr} (F:Yb H p sc) (e:Zr H H'):Yb H' p sc:=by
 obtain ⟨xs,h1,h2⟩:=F.here
 obtain ⟨ns,h3⟩:=F.cells
 exact ⟨⟨xs,e _ _ h1,h2⟩,ns,e _ _ h3⟩
theorem Yh.refl (H:Hp) (p:Addr):Yh H H p:=λ_ _ h _=>h
theorem Yh.trans {H H1 H2:Hp} {p:Addr} (a:Yh H H1 p) (b:Yh H1 H2 p):Yh H H2 p:=λc o h n=>b c o (a c o h n) n
theorem Yh.upd {H:Hp} {p:Addr} (o:HO):Yh H (upd H p o) p:=λb u h n=>by rw [Zi n]; exact h
theorem Yh.same {H H':Hp} {p:Addr} (h:Zr H H'):Yh H H' p:=λb o e _=>h b o e
inductive Zax (K:W.Frag) (vs:List V) (H:Hp) (Q:VK):Prop
 | mk (a:Addr) (ns:List Int) (h1:vs=[.ref a]) (h2:SqL K H a (ns.map V.int)) (h3:∀ p sc H',H p=none→Zr H H'→Yb H' p sc→Q (.ref p) H'):Zax K vs H Q
def Bh (K:W.Frag):Sp:=λvs H Q u3_=>Zax K vs H Q
inductive Zat (vs:List V) (H:Hp) (Q:VK):Prop
 | mk (p sc:Addr) (m:Int) (h1:vs=[.ref p,.int m]) (h2:0 < m) (h3:m < 1073741824) (h4:Yb H p sc) (h5:∀ r xs,0≤r→r < m→Mh sc xs→Q (.int r) (upd H p (.lst xs))):Zat vs H Q
def Sg:Sp:=λvs H Q u3_=>Zat vs H Q
def Hs (z:Str) (n:Nat):Prop:=z.cps.toList.length=n∧z.cps.toList.Pairwise (· < ·)∧∀ c∈z.cps.toList,97≤c∧c≤122
inductive Lx (vs:List V) (H:Hp) (Q:VK):Prop
 | mk (p sc:Addr) (m:Int) (h1:vs=[.ref p,.int m]) (h2:0≤m) (h3:m≤26) (h4:Yb H p sc) (h5:∀ z H',Hs z m.toNat→Yh H H' p→Yb H' p sc→Q (.str z) H'):Lx vs H Q
def Nl:Sp:=λvs H Q u3_=>Lx vs H Q
inductive Dt where
 | non | bl (b:Bool) | int (i:Int) | str (x:Str) | lst (ds:List Dt) | tup (ds:List Dt)
def Dt.dep:Dt→Nat
 | .lst ds=>(ds.map Dt.dep).foldr max 0+1
 | .tup ds=>(ds.map Dt.dep).foldr max 0+1
 | _=>0
inductive Den (H:Hp):V→Dt→Prop where
 | non:Den H .non .non
 | bl (b:Bool):Den H (.bl b) (.bl b)
 | int (i:Int):Den H (.int i) (.int i)
 | str (x:Str):Den H (.str x) (.str x)
 | lst {a:Addr} {xs:List V} {ds:List Dt} (h:H a=some (.lst xs)) (hz:xs.length≤1000000) (hl:xs.length=ds.length) (hd:∀ (i:Nat) x d,xs[i]? = some x→ds[i]? = some d→Den H x d):Den H (.ref a) (.lst ds)
 | tup {a:Addr} {xs:List V} {ds:List Dt} (h:H a=some (.tup xs)) (hz:xs.length≤1000000) (hl:xs.length=ds.length) (hd:∀ (i:Nat) x d,xs[i]? = some x→ds[i]? = some d→Den H x d):Den H (.ref a) (.tup ds)
theorem Den.same {H H':Hp} (e:Zr H H') {v:V} {d:Dt} (h:Den H v d):Den H' v d:=by
 induction h with
 | non=>exact .non
 | bl b=>exact .bl b
 | int i=>exact .int i
 | str x=>exact .str x
 | lst h hz hl hd ih=>exact .lst (e _ _ h) hz hl ih
 | tup h hz hl hd ih=>exact .tup (e _ _ h) hz hl ih
theorem He {l:List Nat} {x:Nat} (h:x∈l):x≤l.foldr max 0:=by
 induction l with
 | nil=>cases h
 | cons y r ih=>
  rw [List.foldr_cons]
  rcases yE.mp h with e | e
  ·subst e; omega
  ·have:=ih e; omega
theorem Dt.Ziy {ds:List Dt} {d:Dt} (h:d∈ds):d.dep < (Dt.lst ds).dep:=by
 have:=He (uX (f:=Dt.dep) h)
 rw [Dt.dep]
 omega
theorem Dt.Zix {ds:List Dt} {d:Dt} (h:d∈ds):d.dep < (Dt.tup ds).dep:=by
 have:=He (uX (f:=Dt.dep) h)
 rw [Dt.dep]
 omega
inductive Et (n:Nat) (vs:List V) (H:Hp) (Q:VK):Prop
 | mk (u v:V) (d:Dt) (h1:vs=[u,v]) (h2:d.dep < n) (h3:Den H u d) (h4:Den H v d) (h5:∀ H',Zr H H'→Q (.bl true) H'):Et n vs H Q
def Ux (n:Nat):Sp:=λvs H Q u3_=>Et n vs H Q
theorem N5 (K:W.Frag) (t:String) (b1 b2 b:Bool) (h1:W.kitOne K (.type t) (.type "list")=some b1) (h2:W.kitOne K (.type t) (.type "tuple")=some b2) (hb:(b1 || b2)=b):W.kitAny K (.type t) [.type "list",.type "tuple"]=some b:=by
 unfold W.kitAny
 rw [h1]
 cases b1 with
 | true=>subst hb; rfl
 | false=>
  show W.kitAny K (.type t) [.type "tuple"]=_
  unfold W.kitAny
  rw [h2]
  cases b2 <;> subst hb <;> rfl
theorem Zie (K:W.Frag):W.kitOne K (.type "NoneType") (.type "list")=some false:=by kernel_rfl
theorem Zid (K:W.Frag):W.kitOne K (.type "NoneType") (.type "tuple")=some false:=by kernel_rfl
theorem Zbk (K:W.Frag):W.kitOne K (.type "NoneType") (.type "bool")=some false:=by kernel_rfl
theorem Zii (K:W.Frag):W.kitOne K (.type "bool") (.type "list")=some false:=by kernel_rfl
theorem Zih (K:W.Frag):W.kitOne K (.type "bool") (.type "tuple")=some false:=by kernel_rfl
theorem Zbm (K:W.Frag):W.kitOne K (.type "bool") (.type "bool")=some true:=by kernel_rfl
theorem Zig (K:W.Frag):W.kitOne K (.type "int") (.type "list")=some false:=by kernel_rfl
theorem Zif (K:W.Frag):W.kitOne K (.type "int") (.type "tuple")=some false:=by kernel_rfl
theorem Zbl (K:W.Frag):W.kitOne K (.type "int") (.type "bool")=some false:=by kernel_rfl
theorem Zic (K:W.Frag):W.kitOne K (.type "str") (.type "list")=some false:=by kernel_rfl
theorem Zib (K:W.Frag):W.kitOne K (.type "str") (.type "tuple")=some false:=by kernel_rfl
theorem Zbj (K:W.Frag):W.kitOne K (.type "str") (.type "bool")=some false:=by kernel_rfl
theorem Fh (K:W.Frag):W.kitOne K (.type "list") (.type "list")=some true:=by kernel_rfl
theorem Fg (K:W.Frag):W.kitOne K (.type "list") (.type "tuple")=some false:=by kernel_rfl
theorem Ff (K:W.Frag):W.kitOne K (.type "tuple") (.type "list")=some false:=by kernel_rfl
theorem Fe (K:W.Frag):W.kitOne K (.type "tuple") (.type "tuple")=some true:=by kernel_rfl
end L2
namespace L2
open PySem PySem.Spec PyProof.Rows
section
variable {X:Cx} {tg:Expr}
end
def tTru (K:W.Frag) (ta:TE):TT:=λσ H Q=>ta σ H λx H'=>∃ k,Znh K x H' k∧Q k H'
theorem Xo {X:Cx} {K:W.Frag} {a:Expr} {ta:TE} (ha:PE X a ta) (he:∀ whole,isTrue a X.env whole=(do let v ← whole; standAt a.pos; holding [v] (truthy v))) (hK:X.K=K:=by rfl):PT X a (tTru K ta):=by
 subst hK
 exact Zeq ha he
end L2
namespace L2
open PySem PySem.Spec PyProof.Rows
section
variable {P:Program} {w:World} {A:Around} {E:Value→Shared→Prop} {s:Shared}
set_option maxHeartbeats 3200000 in
end
end L2
namespace L2
open PySem PySem.Spec PyProof.Rows
section
variable {P:Program} {w:World} {A:Around} {E:Value→Shared→Prop} {s:Shared}
end
end L2
namespace L2
open PySem PySem.Spec PyProof.Rows
section
variable {P:Program} {w:World} {A:Around} {E:Value→Shared→Prop} {s:Shared}
end
def signs (z:Str):List Str:=z.cps.toList.map λc=>⟨#[c]⟩
section
variable {X:Cx}
end
end L2
namespace L2
open PySem PySem.Spec PyProof.Rows
def Zks (tk tv:TE):TE:=λσ H Q=>∀ p,H p=none→Hw [(tk,tv)] σ (upd H p (.dT [])) λps H2=>∃ x y,ps=[(x,y)]∧H2 p=some (.dT [])∧∃ b ks,x=.ref b∧H2 b=some (.tup (ks.map kV))∧Q (.ref p) (upd H2 p (.dT [(ks,y)]))
theorem Ze0 {X:Cx} {pos:Pos} {k v:Expr} {tk tv:TE} (hu:X.A.units+1 < cLine) (hk:PE X k tk) (hv:PE X v tv):PE X (.Dict [some k] [v] pos) (Zks tk tv):=by
 intro pins s σ H Q I q
 have hn:=I.hok.fresh (zI s.heap.objs.size)
 have I1:=I.laid (a:=s.heap.objs.size) (o:=.dT []) (h':=s.heap.push { cls:=.type "dict",data:=.dict #[] }) (t':=s.toks) (λ_ _ q=>zG _ q) (zI _) (Cj s.heap I.big)
 have Oy:([some k]:List (Option Expr)).all (·.isSome)=true:=rfl
 have hn1:=pairTrees_length [some k] [v] X.env pos Oy rfl
 rw [arm_eval_Dict,zip_pairTrees [some k] [v] X.env pos Oy rfl,dictDisplay_pairs _ (λhe=>by rw [he] at hn1; cases hn1) (by rw [hn1]; show 1 < 17; decide)]
 refine zB (uU (zB ?_))
 unfold subDict
 refine zB (wpAny_alloc (zB (xQ ?_)))
 rw [if_pos (by rw [hn1]; show 1≤15; decide)]
 refine zB (wK (Ke hk hv Gq pins _ σ _ _ I1 (q _ hn)) (λvs s2 h2=>?_) λ_ _ e=>e)
 obtain ⟨ps,H2,I2,rel,x,y,rfl,e,b,ks,rfl,eb,q2⟩:=h2
 cases rel with
 | @cons a c as cs hac tl=>
  cases tl
  obtain ⟨u,r⟩:=c
  cases (show u=Value.ref b from hac.1)
  refine xQ (zB ?_)
  rw [uZ]
  obtain ⟨z,hd,xs,rl,dd⟩:=Zgf I2.hok e
  cases rl
  refine zB (zB (wpAny_dictSet_heap (show X.A.units < cLine by omega) (N6 I2.hok eb) dd λh' dd' hs=>zH ?_))
  refine zH (zH (zH (zH ?_)))
  obtain ⟨qo,es,ep,hq,h2,h3,h4,_,h5⟩:=dd'
  refine ⟨.ref s.heap.objs.size,_,Qy (ob:=.dT [(ks,y)]) I2 (by rw [e]; exact True.intro) hs ⟨qo,hq⟩ ⟨by show 1≤sizeLine; decide,hd,_,.cons ⟨rfl,?_,hac.2⟩ .nil,qo,es,ep,hq,h2,h3,h4,h5⟩,rfl,q2⟩
  rw [Zi (Xm eb e (λz=>nomatch z))]
  exact eb
end L2
namespace L2
open PySem PySem.Spec PyProof.Rows
def eqL:List V→List V→Bool
 | [],[]=>true
 | x :: xs,y :: ys=>eqV x y && eqL xs ys
 | _,_=>false
theorem Ln:∀ (xs ys:List V),(((List.range (min xs.length ys.length)).all λj=>eqV (xs.getD j .non) (ys.getD j .non)) && xs.length==ys.length)=eqL xs ys
 | [],[]=>rfl
 | [],y :: ys=>by simp [eqL]
 | x :: xs,[]=>by simp [eqL]
 | x :: xs,y :: ys=>by
  have ih:=Ln xs ys
  show _=(eqV x y && eqL xs ys)
  rw [← ih,yR,yR,Nat.succ_min_succ,List.range_succ_eq_map,vN,List.all_map]
  have e1:((λj=>eqV ((x :: xs).getD j .non) ((y :: ys).getD j .non)) ∘ Nat.succ)=λj=>eqV (xs.getD j .non) (ys.getD j .non):=by
   funext j
   rfl
  rw [e1,Bool.and_assoc]
  have e2:(xs.length+1==ys.length+1)=(xs.length==ys.length):=by
   rw [wG,beq_iff_eq,beq_iff_eq]
   omega
  rw [e2]
  rfl
theorem Vals.at_:∀ {xs:List V} {us:List Value} {j:Nat} {u:Value},Vals xs us→us[j]? = some u→∃ x,xs[j]? = some x∧RelV x u
 | _,_,j,u,.nil,h=>by simp at h
 | _,_,0,u,.cons r t,h=>by
  cases h
  exact ⟨_,rfl,r⟩
 | _,_,j+1,u,.cons r t,h=>by
  obtain ⟨x,e,r'⟩:=Vals.at_ (j:=j) t (by simpa using h)
  exact ⟨x,by simpa using e,r'⟩
theorem Kg {A:Around} {s:Shared} {xs ys:List V} {us ws:List Value} (r1:Vals xs us) (r2:Vals ys ws) (f1:xs.all Uo=true) (f2:ys.all Uo=true) (j:Nat) (h1:j < us.toArray.size) (h2:j < ws.toArray.size) :
  SeqAt.EqAt A s us.toArray[j] ws.toArray[j] (eqV (xs.getD j .non) (ys.getD j .non)):=by
 have g1:us[j]? = some us.toArray[j]:=by simp at h1 ⊢
 have g2:ws[j]? = some ws.toArray[j]:=by simp at h2 ⊢
 obtain ⟨x,e1,q1⟩:=r1.at_ g1
 obtain ⟨y,e2,q2⟩:=r2.at_ g2
 rw [zD,e1,zD,e2]
 exact Zf9 q1 q2 (vX.mp f1 x (zJ e1)) (vX.mp f2 y (zJ e2))
inductive Zjx (K:W.Frag) (neg:Bool) (x:V) (y:V) (H:Hp) (Q:VK):Prop
 | mk (a b xs ys:_) (h1:x=.ref a) (h2:y=.ref b) (h3:((SqL K H a xs∧SqL K H b ys)∨(SqT K H a xs∧SqT K H b ys))) (h4:xs.all Uo=true) (h5:ys.all Uo=true) (h6:Q (.bl (if neg then !eqL xs ys else eqL xs ys)) H):Zjx K neg x y H Q
def rEqS (K:W.Frag) (neg:Bool):R2:=λx y H Q=>Zjx K neg x y H Q
section
variable {X:Cx} {K:W.Frag}
theorem size_of {xs:List V} {us:List Value} (r:Vals xs us):us.toArray.size=xs.length:=by
 rw [zR]
 exact r.length.symm
theorem Fs {xs ys:List V} (h:xs.length≠ys.length):eqL xs ys=false:=by
 rw [← Ln,(beq_eq_false_iff_ne).mpr h,Bool.and_false]
theorem Cg {xs ys:List V} (h:xs.length=ys.length):((List.range xs.length).all λj=>eqV (xs.getD j .non) (ys.getD j .non))=eqL xs ys:=by
 rw [← Ln,h,Nat.min_self,beq_self_eq_true,Bool.and_true]
theorem Zlo (hu:X.A.units < cLine) (hK:X.K=K:=by rfl):OpR X (compareOp .Eq) (rEqS K false):=by
 subst hK
 intro pins s σ H x y v u Q I rx ry h
 obtain ⟨a,b,xs,ys,rfl,rfl,hq,f1,f2,q⟩:=h
 cases rx
 cases ry
 rcases hq with ⟨ha,hb⟩ | ⟨ha,hb⟩
 ·obtain ⟨i1,r1,p1,_⟩:=I.list ha
  obtain ⟨i2,r2,p2,_⟩:=I.list hb
  by_cases hl:xs.length=ys.length
  ·refine SeqAt.eq_listAt p1.isList p2.isList (by rw [size_of r1,size_of r2,hl]) hu (λj h1 h2=>Kg r1 r2 f1 f2 j h1 h2) ⟨.bl _,H,I,rfl,?_⟩
   rw [size_of r1,Cg hl]
   exact q
  ·refine SeqAt.eq_list_lengthsAt p1.isList p2.isList (by rw [size_of r1,size_of r2]; exact bne_iff_ne.mpr hl) hu ⟨.bl false,H,I,rfl,?_⟩
   rw [← Fs hl]
   exact q
 ·obtain ⟨i1,r1,p1,_⟩:=I.tuple ha
  obtain ⟨i2,r2,p2,_⟩:=I.tuple hb
  refine SeqAt.eq_tupleAt p1 p2 hu (λj h1 h2=>Kg r1 r2 f1 f2 j h1 h2) ⟨.bl _,H,I,rfl,?_⟩
  rw [size_of r1,size_of r2,Ln]
  exact q
theorem Zoz {A:Around} {k:Nat} (hr:Wx k A):A.units < cLine:=Nat.lt_of_succ_lt (W8 hr)
end
end L2
namespace L2
open PySem PySem.Spec PyProof.Rows
theorem Zeu {X:Cx} {tg it:Expr} {w1 w2:TI} (h1:PI X tg it w1) (h2:PI X tg it w2):PI X tg it (λσ H R=>w1 σ H R∨w2 σ H R):=λpins s σ H R I h=>by
 rcases h with h | h
 ·exact h1 pins s σ H R I h
 ·exact h2 pins s σ H R I h
section
variable {X:Cx}
end
end L2
namespace L2
open PySem PySem.Spec PyProof.Rows
section
variable {X:Cx} {K:W.Frag}
end
section
open PySem.SeqAt
open PySem.AutoSeq1 (wpAny_loadPart')
open PySem.MeetsSeq PySem.MeetsSeq2 PySem.MeetsSeq3
end
section
variable {X:Cx} {K:W.Frag}
end
end L2
namespace L2
open PySem PySem.Spec PyProof.Rows
section
open PySem.W (KasT kas_asc kas_count kas_cmp kas_st kas_item)
end
section
variable {prog:Program} {w:World} {A:Around} {E:Value→Shared→Prop} {s:Shared}
end
abbrev lo (ks:List Value) (e:Nat):Obj:={ cls:=.type "list",data:=.seq ks.toArray e }
section
variable {X:Cx} {pins:List (Addr × Obj)} {σ:St} {H:Hp} {s:Shared}
end
section
variable {X:Cx} {pins:List (Addr × Obj)} {σ:St} {H:Hp} {s:Shared} {x:Str} {k:Nat} {ps:List Str} {sp:Sp} {ok:V→Prop} {kf:V→List V}
end
end L2
namespace L2
open PySem PySem.Spec PyProof.Rows
section
open PySem.W (KasT kas_asc kas_desc kas_tail3 kas_descPart kas_count kas_place kas_bin kas_sort kas_rev)
variable {n:Nat} {lt:Nat→Nat→Bool} {p:Array Nat}
end
end L2
namespace L2
open PySem PySem.Spec PyProof.Rows
section
open PySem.W (kas_count kas_ask kas_item kas_st kas_asc)
end
section
variable {X:Cx} {pins:List (Addr × Obj)} {σ:St} {H:Hp} {s:Shared} {x:Str} {k:Nat} {ps:List Str} {sp:Sp}
end
end L2
namespace L2
open PySem PySem.Spec PyProof.Rows
section
variable {P:Program} {w:World} {A:Around} {E:Value→Shared→Prop} {s:Shared}
end
section
variable {X:Cx} {pins:List (Addr × Obj)} {σ:St} {H:Hp} {s:Shared} {x:Str} {k:Nat} {ps:List Str} {sp:Sp}
end
end L2
namespace L2
open PySem PySem.Spec PyProof.Rows
abbrev bmV:List Value:=[.type "ValueError",.type "Exception",.type "BaseException",.type "object"]
def Cf (K:W.Frag) (C:Addr) (ini:Option Value):Bool:=match K.lookup C with
 | some ⟨.type "type",_,.cls cd,sl⟩=>match cd.mro,sl.toList with
  | .ref C' :: bm,[_,_,_,_,some (.builtin n),_]=>C'==C && n == "ValueError.__new__" && !cd.hasDel && cd.hasDict && W.tailIn K bmV bm && W.nsOkIn K cd.ns && W.nsIn K cd.ns "__init__" == some ini
  | _,_=>false
 | _=>false
structure Znn (K:W.Frag) (h:Heap) (C:Addr) (ini:Option Value):Prop where
 obj:∃ nm q N bs bm sn sub ab col dd k0 k1 k2 k3 k5 mN,h.get? C=some (excClassObj nm q C N bs bm true sn sub ab col dd k0 k1 k2 k3 k5 "ValueError.__new__")∧h.Ns N mN∧mN "__init__" = ini∧OwnTail h bmV bm
theorem Zh2 {h:Heap} {K:W.Frag} {N:Addr} {mg:Str→Option Value} {n:Str} {r:Option Value} (X:K.In h) (G:h.Ns N mg) (e:W.nsIn K N n=some r):mg n=r:=by
 cases r with
 | none=>exact W.ns_none_of X G e
 | some v=>
  obtain ⟨o,es,ep,ho,hd,_,hf⟩:=G
  unfold W.nsIn at e
  split at e
  ·rename_i es' n' sl q
   have z:=X _ _ q
   rw [ho] at z
   cases z
   cases hd
   split at e
   ·rename_i en he
    cases e
    rw [← hf,nsFind,findBy,← Array.find?_toList,he]
    rfl
   ·split at e <;> cases e
  ·cases e
theorem Zb0 {K:W.Frag} {h:Heap} {C:Addr} {ini:Option Value} (X:K.In h) (e:Cf K C ini=true):Znn K h C ini:=by
 unfold Cf at e
 split at e
 ·rename_i dd cd sl ho
  split at e
  ·rename_i C' bm k0 k1 k2 k3 n k5 hm hs
   simp only [yQ,beq_iff_eq,Bool.not_eq_true'] at e
   obtain ⟨⟨⟨⟨⟨⟨rfl,rfl⟩,Zo4⟩,Zo5⟩,ht⟩,hok⟩,hni⟩:=e
   obtain ⟨nm,bs,mro,ns,qn,hd,sn,sub,ab,col,del⟩:=cd
   dsimp only at hm Zo4 hok hni Zo5
   subst hm Zo4 Zo5
   have hsl:sl = #[k0,k1,k2,k3,some (.builtin "ValueError.__new__"),k5]:=by
    cases sl
    simpa using hs
   subst hsl
   have G:h.Ns ns (h.nsMap ns):=.of_isNs (W.isNs_of_in X hok)
   exact ⟨nm,qn,ns,bs,bm,sn,sub,ab,col,dd,k0,k1,k2,k3,k5,_,X _ _ ho,G,Zh2 X G hni,W.tail_of_in X ht⟩
  ·cases e
 ·cases e
section
variable {prog:Program} {w:World} {A:Around} {E:Value→Shared→Prop} {s:Shared} {K:W.Frag} {C:Addr}
theorem Zf5 {h:Heap} {g:Array GenState} {d:Drawn} {t:Nat} {os:OsState} {nm q:Str} {N:Addr} {bs bm:List Value} {sn:List Str} {sub:List Value} {ab:Bool} {col:Option Bool} {dd:Option Addr} {k0 k1 k2 k3 k5:Option Value} {rest:List Value} {Q:Value→Shared→Prop}
  (hC:h.get? C=some (excClassObj nm q C N bs bm true sn sub ab col dd k0 k1 k2 k3 k5 "ValueError.__new__"))
  (hb:wpAny (model prog w) (A.under (.builtin "type.__call__" ⟨.ref C :: rest,[]⟩)) (Builtin.«type.__call__» ⟨.ref C :: rest,[]⟩) (λfin s'=>∃ v,fin=.done (.ret v)∧Q v s') E ⟨h,g,d,t,os⟩) :
  wpAny (model prog w) A (call (.ref C) rest) Q E ⟨h,g,d,t,os⟩:=by
 have f1:=tc_lookup
 have f2:=tc_bind (.ref C)
 have hT:(⟨h,g,d,t,os⟩:Shared).TypeIs (.ref C) "type":=⟨_,hC,rfl⟩
 refine tK (codeAny_of_tree ?_)
 show wpAny _ _ (callAny (.ref C) _) _ _ _
 repeat (any_goals (first | assumption | with_reducible refine uP hC ?_ | wp_step))
 refine ⟨rfl,?_⟩
 refine codeAny_call_builtin_at (Code.quiet_builtin _ (by decide +kernel)) entry_typeCall (wpAny_check_type_call_sub hC (wK hb (λfin s' z=>?_) λ_ _ z=>z))
 obtain ⟨v,rfl,hv⟩:=z
 exact hv
theorem Zc9 {h:Heap} {g:Array GenState} {d:Drawn} {t:Nat} {os:OsState} {nm q:Str} {N:Addr} {bs bm:List Value} {sn:List Str} {sub:List Value} {ab:Bool} {col:Option Bool} {dd:Option Addr} {k0 k1 k2 k3 k5:Option Value} {mN:Str→Option Value} {rest:List Value}
  {Q:Fin→Shared→Prop} (T:OwnTail h bmV bm) (hC:h.get? C=some (excClassObj nm q C N bs bm true sn sub ab col dd k0 k1 k2 k3 k5 "ValueError.__new__")) (hN:h.Ns N mN) (hi:mN "__init__" = none) (hr:rest.length≤sizeLine)
  (hq:∀ h' e,Heap.MadeExcOf h h' e (.ref C) rest→h.objs.size≤e→Q (.done (.ret (.ref e))) ⟨h',g,d,t,os⟩) :
  wpAny (model prog w) A (Builtin.«type.__call__» ⟨.ref C :: rest,[]⟩) Q E ⟨h,g,d,t,os⟩:=by
 have F:=PySem.F.excBase_ValueError
 repeat (first | with_reducible refine uP hC ?_ | with_reducible refine wpAny_madeBy_exc hC ?_ | wp_step)
 refine codeAny_call_builtin_code (Code.quiet_builtin _ F.quiet) (wpAny_check_new_subT F T hC (codeAny_exc_new_subT F T hC ?_ hr))
 show wpAny _ _ _ _ _ _
 have kp:∀ b o,h.get? b=some o→((h.push { cls:=.type "tuple",data:=.seq rest.toArray }).push { cls:=.ref C,data:=.fields #[.ref h.objs.size,.none,.none,.none,.bool false,.none] }).get? b=some o:=λb o e=>zG _ (zG _ e)
 have hx:((h.push { cls:=.type "tuple",data:=.seq rest.toArray }).push { cls:=.ref C,data:=.fields #[.ref h.objs.size,.none,.none,.none,.bool false,.none] }).get? (h.objs.size+1)=some
   {cls:=.ref C,data:=.fields #[.ref h.objs.size,.none,.none,.none,.bool false,.none] }:=by heap_get
 have hC1:=kp _ _ hC
 have hN1:=hN.keeps kp
 have T1:=T.keeps kp
 have cc:(Value.ref C :: bm).contains (.ref C)=true:=by simp
 unfold isInstance
 repeat (first | with_reducible refine uP hx ?_ | (with_reducible refine wpAny_isSubtype_exc hC1 ?_; rw [cc]) | wp_step)
 show wpAny _ _ (typeLookup (.ref C) _) _ _ _
 refine wpAny_typeLookup_tail hC1 hN1 T1 F.mroIs F.init.lookup ?_
 rw [hi]
 refine xQ (zB (wpAny_of_eq (F.init.bind _) ?_))
 refine zB (tK (codeAny_call_builtin F.init.plain F.initEntry (wpAny_check_init_subT F T1 hC1 hx rfl ?_)))
 wp_walk
 refine hq _ (h.objs.size+1) ⟨λb o hb=>?_,sJ (xP _),h.objs.size+2,?_,sJ (uT _ 2),?_⟩ (xP _)
 ·rw [xL _ _ (vW (wJ (zL hb)))]
  exact zG _ (kp b o hb)
 ·rw [wF _ (zG _ hx) rfl]
  simp only [xT]
  rfl
 ·rw [xL _ _ (yH (vA _))]
  exact Heap.get?_push_at (by simp only [xT]) rfl
theorem Zda {rest:List Value} {Q:Value→Shared→Prop} (c:Znn K s.heap C none) (hr:rest.length≤sizeLine) (hq:∀ h' e,Heap.MadeExcOf s.heap h' e (.ref C) rest→s.heap.objs.size≤e→Q (.ref e) { s with heap:=h' }):wpAny (model prog w) A (call (.ref C) rest) Q E s:=by
 obtain ⟨nm,q,N,bs,bm,sn,sub,ab,col,dd,k0,k1,k2,k3,k5,mN,hC,hN,hi,T⟩:=c.obj
 obtain ⟨hh,g,d,t,os⟩:=s
 exact Zf5 hC (Zc9 T hC hN hi hr λh' e m le=>⟨_,rfl,hq h' e m le⟩)
end
abbrev exO (C T:Addr) (d:Option Addr):Obj:={ cls:=.ref C,dict:=d,data:=.fields #[.ref T,.none,.none,.none,.bool false,.none] }
section
variable {prog:Program} {w:World} {A:Around} {E:Value→Shared→Prop} {s:Shared} {K:W.Frag} {x C:Addr} {ox:Obj} {od:Option Obj} {name:Str}
theorem Zm3 {tk:Tok} {fill ex:Bool} {Q:Value→Shared→Prop} (X:K.In s.heap) (I:W.InstAt s.heap x ox C od) (hga:W.findIn K (.ref C) "__getattribute__" = some (some (.builtin "BaseException.__getattribute__")))
  (hgn:W.findIn K (.ref C) "__getattr__" = some none) (hbe:W.mroIn K C (.type "BaseException")=some true)
  (h:wpAny (model prog w) A.in1 (Builtin.«object.__getattribute__» ⟨[.ref x,.str name tk],[]⟩) (λfin s'=>match fin with | .done (.ret v)=>wpAny (model prog w) A (handedOut v) Q E s' | _=>False) (λ_ _=>False) s) :
  wpAny (model prog w) A (getAttrBy (.ref x) (.str name tk) fill ex) Q E s:=by
 have L0:=I.type (M:=model prog w)
 have L1:=W.looks_findIn (M:=model prog w) X hga
 have L2:=W.looks_findIn (M:=model prog w) X hgn
 have L3:W.Looks (model prog w) s.heap (isInstance (.ref x) (.type "BaseException")) true:=L0.andThen (W.looks_mroIn X hbe)
 have G:=PySem.F.attr_ValueError.ga
 have hne:(Value.builtin "BaseException.__getattribute__" == Value.builtin "object.__getattribute__")=false:=by decide +kernel
 unfold getAttrBy
 refine xQ (zB (L0.here (zB (L1.here ?_))))
 show wpAny _ _ (if (onTheHeap (Value.ref C) && Value.builtin "BaseException.__getattribute__" == Value.builtin "object.__getattribute__")=true then getAttrEveryday (.ref x) (.str name tk) fill else getAttrByItsOwn (.ref x) (.str name tk) (.ref C) (.builtin "BaseException.__getattribute__") fill ex) _ _ _
 rw [if_neg (by rw [hne,Bool.and_false]; decide)]
 unfold getAttrByItsOwn
 refine zB (m:=hookBefore (.ref C)) (show wpAny _ _ (typeLookup (.ref C) "__getattr__") _ _ _ from L2.here ?_)
 refine zB (uV (xQ ?_))
 have hno:¬ (ex && onTheHeap (Value.builtin "BaseException.__getattribute__"))=true:=by
  show ¬ (ex && false)=true
  rw [Bool.and_false]
  decide
 unfold callGetattribute
 rw [if_neg hno]
 unfold boundAndCalled
 rw [G.bind]
 refine zB (zH ?_)
 show wpAny _ _ (call (.builtin "BaseException.__getattribute__") [.ref x,.str name tk]) _ _ _
 have k1:builtinKind "BaseException.__getattribute__" = some .slot:=by decide +kernel
 have k2:splitId "BaseException.__getattribute__" = some ("BaseException","__getattribute__"):=by decide +kernel
 refine tK ?_
 refine codeAny_call_builtin G.plain PySem.F.entry_bexc_ga ?_
 refine @W.check_slot (model prog w) _ _ s "BaseException.__getattribute__" "BaseException" "__getattribute__" (.ref x) [.str name tk] [] _ k1 k2 L3 (PySem.F.args_bexc_ga _ _) ?_
 refine wK h (λfin s' z=>?_) λ_ _ z=>z.elim
 rcases fin with (_ | _ | _ | _) | _ <;> first | exact z | exact z.elim
theorem Zdb {Q:Option Value→Shared→Prop} (X:K.In s.heap) (I:W.InstAt s.heap x ox C od) (hga:W.findIn K (.ref C) "__getattribute__" = some (some (.builtin "BaseException.__getattribute__")))
  (hgn:W.findIn K (.ref C) "__getattr__" = some none) (hbe:W.mroIn K C (.type "BaseException")=some true) (hm:W.mroIn K C (.type "object")=some true)
  (hf:W.findObj K C od "__class__" = some (.bind (.builtin "getset_descriptor.__get__") (.builtin "object.__class__"))) (h:Q (some (.ref C)) { s with toks:=s.toks+1 }):wpAny (model prog w) A (getAttr? (.ref x) "__class__") Q E s:=by
 unfold getAttr? getAttrBy?
 refine zB (wpAny_mkText (zB (uV ?_)))
 refine Zm3 (s:={ s with toks:=s.toks+1 }) X I hga hgn hbe ?_
 obtain ⟨hh',g,d,t,os⟩:=s
 have L0:=I.type (M:=model prog w)
 have L1:=W.looks_find (M:=model prog w) X I hf
 refine zB (zH ?_)
 refine zB (zH ?_)
 refine zB (L0.at ?_)
 refine zB (L1.at ?_)
 show wpAny _ _ (holding [Value.builtin "object.__class__"] (call (.builtin "getset_descriptor.__get__") [.builtin "object.__class__",.ref x,.ref C]) >>= ret) _ _ _
 refine zB (xQ (tK (W.class_get (s:=⟨hh',g,d,t+1,os⟩) X I hm ?_)))
 refine zH ?_
 exact W.handed_on rfl (zH h)
def Ze2:List Value→Bool
 | []=>false
 | v :: r=>(v :: r)==bmV || match v with | .ref _=>Ze2 r | _=>false
end
end L2
namespace L2
open PySem PySem.Spec PyProof.Rows
def exH (a C:Addr) (d:Option Addr):HO:=.ext λh=>∃ T,h.get? a=some (exO C T d)
def xdH (dx:Addr) (fs:List (Str × V)):HO:=.ext λh=>∃ mA,h.Ns1 dx mA∧(∀ f,Px (fs.lookup f) (mA f))∧PySem.Within mA (fs.map (·.1))
def Ao (K:W.Frag) (C:Addr):Bool:=
 W.findIn K (.ref C) "__getattribute__" == some (some (.builtin "BaseException.__getattribute__")) && W.findIn K (.ref C) "__getattr__" == some none && W.mroIn K C (.type "BaseException")==some true && W.mroIn K C (.type "object")==some true &&
  (W.clsIn K C).any (λcd=>cd.hasDict && Ze2 cd.mro) && W.findIn K (.ref C) "__setattr__" == some (some (.builtin "object.__setattr__")) && W.findIn K (.ref C) "__class__" == some (some (.builtin "object.__class__")) &&
  W.specialIn K (.builtin "object.__class__") "__get__" == some (some (.builtin "getset_descriptor.__get__")) && W.takesIn K (.builtin "object.__class__")==some true
structure F8 (K:W.Frag) (C:Addr):Prop where
 ga:W.findIn K (.ref C) "__getattribute__" = some (some (.builtin "BaseException.__getattribute__"))
 gn:W.findIn K (.ref C) "__getattr__" = some none
 be:W.mroIn K C (.type "BaseException")=some true
 ob:W.mroIn K C (.type "object")=some true
 cl:∃ cd,W.clsIn K C=some cd∧cd.hasDict=true∧Ze2 cd.mro=true
 sa:W.findIn K (.ref C) "__setattr__" = some (some (.builtin "object.__setattr__"))
 cc:W.findIn K (.ref C) "__class__" = some (some (.builtin "object.__class__"))
 cg:W.specialIn K (.builtin "object.__class__") "__get__" = some (some (.builtin "getset_descriptor.__get__"))
 ct:W.takesIn K (.builtin "object.__class__")=some true
theorem O5 {K:W.Frag} {C:Addr} (e:Ao K C=true):F8 K C:=by
 unfold Ao at e
 simp only [yQ,beq_iff_eq] at e
 obtain ⟨⟨⟨⟨⟨⟨⟨⟨e1,e2⟩,e3⟩,e4⟩,e5⟩,e6⟩,e7⟩,e8⟩,e9⟩:=e
 obtain ⟨cd,h1,h2⟩:=W.any_some e5
 simp only [yQ] at h2
 exact ⟨e1,e2,e3,e4,⟨cd,h1,h2.1,h2.2⟩,e6,e7,e8,e9⟩
section
variable {X:Cx} {pins:List (Addr × Obj)} {σ:St} {H:Hp} {s:Shared} {a C:Addr} {fs:List (Str × V)} {A:Around} {E:Value→Shared→Prop}
theorem Zm4 {h':Heap} {e C:Addr} {us:List Value} (I:Inv X pins σ H s) (m:Heap.MadeExcOf s.heap h' e (.ref C) us) (le:s.heap.objs.size≤e):Inv X pins σ (upd H e (exH e C none)) { s with heap:=h' }:=by
 obtain ⟨T,g,_⟩:=m.there
 exact I.laid (t':=s.toks) m.keeps le ⟨⟨T,g⟩,⟨_,g⟩,λk1 k2 ⟨T',q⟩ k=>⟨T',k _ q⟩⟩
def Znw (C:Addr) (t:TA):TE:=λσ H Q=>t σ H λvs H1=>vs.length≤1000∧∀ e,H1 e=none→Q (.ref e) (upd H1 e (exH e C none))
theorem Zhw {x:Str} {p pos:Pos} (c:Cf X.K C none=true) (hk:W.keepIn X.K (.ref C)=true) (hm:X.mg x=some (.ref C)) (hg:Gl X x:=by rfl) (hdb:(x==("__debug__" : Str))=false:=by decide):PE X (.Call (.Name x p) [] [] pos) (Znw C Zhf):=by
 intro pins s σ H Q I h
 refine yW (Qu I hg hm ?_ hdb)
 refine W.callWith_K0 I.kIn hk (Zda (Zb0 I.kIn c) (yV _) λh' e m le=>?_)
 exact ⟨.ref e,_,Zm4 I m le,rfl,h.2 e (I.hok.fresh le)⟩
theorem Zfl {K:W.Frag} {x D:Addr} {ox:Obj} {od:Option Obj} (c:F8 K D):W.KitX K (.ref x) (.ref D) (λh=>W.InstAt h x ox D od) where
 ty:=λ_ _ _ I=>I.type
 it:=λ_ _ X _=>by
  obtain ⟨cd,hc,_⟩:=c.cl
  unfold W.clsIn at hc
  split at hc
  ·rename_i ho
   intro A' Q' E' s' k q
   unfold isType loadHead
   exact zB (wpAny_loadPart (k _ _ (X _ _ ho)) (zH q))
  ·cases hc
 ne:=λh tp dd its n sl X htp=>by
  obtain ⟨cd,hc,_⟩:=c.cl
  refine Bool.eq_false_iff.mpr λq=>?_
  obtain rfl:D=tp:=Value.ref.inj (beq_iff_eq.mp q)
  unfold W.clsIn at hc
  split at hc
  ·rename_i ho
   cases (X _ _ ho).symm.trans htp
  ·cases hc
 ca:=λX I k=>by
  obtain ⟨cd,hc,_⟩:=c.cl
  refine Zdb X I c.ga c.gn c.be c.ob ?_ k
  unfold W.findObj
  rw [hc,Option.bind_some,c.cc,Option.bind_some]
  simp [c.cg,c.ct]
end
theorem J6:bootBuiltins "ValueError" = some (.type "ValueError"):=by decide +kernel
end L2
namespace L2
open PySem PySem.Spec PyProof.Rows
section
variable {P:Program} {w:World} {A:Around} {E:Value→Shared→Prop} {s:Shared}
end
section
variable {X:Cx}
end
end L2
namespace L2
open PySem PySem.Spec PyProof.Rows
section
variable {P:Program} {w:World} {A:Around} {E:Value→Shared→Prop} {s:Shared} {d:Addr} {vs:List Value} {ep:Nat}
end
section
variable {X:Cx} {pins:List (Addr × Obj)} {σ:St} {H:Hp} {s:Shared} {x:Str} {k:Nat} {ps:List Str} {sp:Sp}
end
end L2
namespace L2
open PySem PySem.Spec PyProof.Rows
section
open PySem.W (KasT kas_asc kas_desc kas_tail3 kas_descPart kas_count kas_place kas_bin kas_sort kas_rev)
variable {n:Nat} {key:Nat→Nat} {p:Array Nat}
end
end L2
namespace L2
open PySem PySem.Spec PyProof.Rows
section
open PySem.W (kas_sort kas_ask kas_item)
variable {X:Cx} {pins:List (Addr × Obj)} {σ:St} {H:Hp} {s:Shared}
end
end L2
namespace L2
open PySem PySem.Spec PyProof.Rows
section
variable {P:Program} {w:World} {A:Around} {E:Value→Shared→Prop} {s:Shared}
set_option maxHeartbeats 3200000 in
end
section
variable {X:Cx}
end
end L2
namespace L2
open PySem PySem.Spec PyProof.Rows
section
variable {P:Program} {w:World} {A:Around} {E:Value→Shared→Prop} {s:Shared} {t r:Addr} {items:Array Value}
end
section
variable {X:Cx}
inductive Zjo (K:W.Frag) (x:V) (lo:Option Int) (hi:Option Int) (H:Hp) (Q:VK):Prop
 | mk (a xs:_) (h1:x=.ref a) (h2:SqT K H a xs) (h3:(HT.sIx xs.length 0 lo=0∧HT.sIx xs.length xs.length hi=xs.length)) (h4:Q (.ref a) H):Zjo K x lo hi H Q
def rSlW (K:W.Frag):V→Option Int→Option Int→Hp→VK→Prop:=λx lo hi H Q=>Zjo K x lo hi H Q
theorem Zhk {K:W.Frag} (hK:X.K=K:=by rfl):SlR X (rSlW K):=by
 subst hK
 intro pins s σ H x v vl vu lo hi sl Q I rx hs pl pu h
 obtain ⟨a,xs,rfl,hx,hw,q⟩:=h
 cases rx
 obtain ⟨its,r,ht,hz⟩:=I.tuple hx
 have hlen:its.toArray.size=xs.length:=by rw [zR]; exact r.length.symm
 refine ⟨"tuple",_,xW.lookup,ht.typeIs,?_⟩
 obtain ⟨os,hos,hcs,hds⟩:=id hs
 have hTs:s.TypeIs (.ref sl) "slice":=⟨os,hos,hcs⟩
 unfold getItem
 try with_reducible refine xQ ?_
 first | refine zB (zH ?_) | skip
 refine zB (wpAny_sequenceKey ht.typeIs (by decide) (zB (yP (name:=Str.ofString "__getitem__") ht.typeIs xW (xH xW ht.typeIs entry_tuple_getitem ?_ (args_tuple_getitem _ _)))))
 refine (show wpAny _ _ (Builtin.Tuple.tupleItemsOf (.ref a) >>= _) _ _ s from zB (tupleItemsOf_ ht (zB (wpAny_typeOf hTs ?_))))
 rw [if_pos (by decide)]
 refine zB (HT.Tj hs pl pu ?_)
 have yes:(((HT.sIx its.toArray.size 0 lo:Nat):Int)==0 && (1:Int)==1 && (HT.sIx its.toArray.size its.toArray.size hi - HT.sIx its.toArray.size 0 lo)==its.toArray.size)=true:=by
  rw [hlen,hw.1,hw.2]
  simp
 show wpAny _ _ (if (((HT.sIx its.toArray.size 0 lo:Nat):Int)==0 && (1:Int)==1 && (HT.sIx its.toArray.size its.toArray.size hi - HT.sIx its.toArray.size 0 lo)==its.toArray.size)=true then _ else _) _ _ s
 rw [if_pos yes]
 unfold Builtin.Tuple.tupleIsExact
 refine zB (zB (wpAny_typeOf ht.typeIs (zH ?_)))
 rw [if_pos (by decide)]
 exact zB (sO (zH ⟨_,rfl,zH ⟨.ref a,H,I,rfl,q⟩⟩))
inductive Zjr (x:V) (lo:Option Int) (hi:Option Int) (H:Hp) (Q:VK):Prop
 | mk (a xs:_) (h1:x=.ref a) (h2:H a=some (.tup xs)) (h3:∀ g H',Zr H H'→H' g=some (.tup (Mc xs lo hi))→Q (.ref g) H'):Zjr x lo hi H Q
def rSlG (K:W.Frag):V→Option Int→Option Int→Hp→VK→Prop:=λx lo hi H Q=>Zjr x lo hi H Q
theorem M9 {K:W.Frag} (hK:X.K=K:=by rfl):SlR X (rSlG K):=by
 intro pins s σ H x v vl vu lo hi sl Q I rx hs pl pu h
 obtain ⟨a,xs,e,hx,q⟩:=h
 by_cases z:HT.sIx xs.length 0 lo=0∧HT.sIx xs.length xs.length hi=xs.length
 ·refine Zhk hK pins s σ H x v vl vu lo hi sl Q I rx hs pl pu ⟨a,xs,e,SqT.of hx,z,q a H (Zr.refl _) ?_⟩
  have:Mc xs lo hi=xs:=by
   unfold Mc
   rw [z.1,z.2,tL,Nat.sub_zero,yC]
  rw [this]
  exact hx
 ·exact Zhl hK pins s σ H x v vl vu lo hi sl Q I rx hs pl pu ⟨a,xs,e,SqT.of hx,z,λp hp=>q p _ (Zd hp _) Zb⟩
end
end L2
namespace L2
open PySem PySem.Spec PyProof.Rows
section
variable {X:Cx} {tg:Expr}
end
end L2
namespace L2
open PySem PySem.Spec PyProof.Rows
def FnO (f:Addr) (fd:FuncData):HO:=.ext λh=>h.get? f=some { cls:=.type "function",data:=.func fd }
def CdO (c:Addr) (q:Str):HO:=.ext λh=>h.CodeRec (.ref c) q
section
variable {P:Program} {w:World} {H:Hp} {h h':Heap} {f c a:Addr} {fd:FuncData} {q:Str}
theorem Am (e:h.get? f=some { cls:=.type "function",data:=.func fd }):Yl P w H h f (FnO f fd):=⟨e,⟨_,e⟩,λ_ _ a k=>k _ a⟩
theorem Zm9 (e:h.CodeRec (.ref c) q):Yl P w H h c (CdO c q):=by
 have e':=e
 obtain ⟨c2,o,vs,t,e1,e2,e3,e4⟩:=e'
 cases e1
 refine ⟨e,⟨o,e2⟩,λh1 h2 a k=>?_⟩
 obtain ⟨c3,o3,vs3,t3,f1,f2,f3,f4⟩:=a
 cases f1
 exact ⟨_,o3,vs3,t3,rfl,k _ f2,f3,f4⟩
theorem FnO.at_ (ok:HOk P w H h) (e:H f=some (FnO f fd)):h.get? f=some { cls:=.type "function",data:=.func fd }:=(ok f _ e).1
theorem CdO.at_ (ok:HOk P w H h) (e:H c=some (CdO c q)):h.CodeRec (.ref c) q:=(ok c _ e).1
end
theorem Zdj {p:Pos} {r:List Value} (l:List Value) (h:TriplesOk l):codeAmong p (l ++ r)=match codeAmong p l with | some c=>some c | none=>codeAmong p r:=by
 fun_induction TriplesOk l with
 | case1=>rfl
 | case2 a t b u x rest ih=>
  simp only [List.cons_append,codeAmong]
  split
  ·rfl
  ·exact ih h
 | case3 l h1 h2=>exact h.elim
def Ut (P:Addr) (H H':Hp):Prop:=∀ b o,b≠P→H b=some o→H' b=some o
theorem Ut.trans {P:Addr} {H H1 H2:Hp} (a:Ut P H H1) (b:Ut P H1 H2):Ut P H H2:=λc o n h=>b c o n (a c o n h)
theorem Zr.t {P:Addr} {H H1:Hp} (a:Zr H H1):Ut P H H1:=λc o _ h=>a c o h
def Tb (P:Addr) (L:List (Pos × Str)) (H:Hp):Prop:=
 ∃ ps,H P=some (.tbl ps)∧TriplesOk ps.toList∧∀ x∈L,codeAmong x.1 ps.toList=none∨∃ c,codeAmong x.1 ps.toList=some (.ref c)∧H c=some (CdO c x.2)
theorem Tb.same {P:Addr} {L:List (Pos × Str)} {H H':Hp} (t:Tb P L H) (e:Zr H H'):Tb P L H':=by
 obtain ⟨ps,h1,h2,h3⟩:=t
 refine ⟨ps,e _ _ h1,h2,λx hx=>?_⟩
 rcases h3 x hx with h | ⟨c,a,b⟩
 ·exact .inl h
 ·exact .inr ⟨c,a,e _ _ b⟩
theorem Tb.start {P:Addr} {L:List (Pos × Str)} {H:Hp} (h:H P=some (.tbl #[])):Tb P L H:=⟨#[],h,True.intro,λ_ _=>.inl rfl⟩
section
variable {fs ex:List Addr} {H:Hp} {h h':Heap} {P c f:Addr} {o1 o2:HO} {ps more:Array Value}
def made (H:Hp) (P c f:Addr) (ps:Array Value) (o1 o2:HO):Hp:=upd (upd (upd H P (.tbl ps)) c o1) f o2
theorem V6 {b:Addr} (h1:b≠P) (h2:b≠c) (h3:b≠f):made H P c f ps o1 o2 b=H b:=by
 unfold made
 rw [Zi h3,Zi h2,Zi h1]
theorem Zfg:made H P c f ps o1 o2 f=some o2:=Zb
theorem Bv (n:c≠f):made H P c f ps o1 o2 c=some o1:=by
 unfold made
 rw [Zi n,Zb]
theorem Bw (n1:P≠c) (n2:P≠f):made H P c f ps o1 o2 P=some (.tbl ps):=by
 unfold made
 rw [Zi n2,Zi n1,Zb]
theorem Un.made (e:H P=some (.tbl ps)) (k:∀ b u,b≠P→h.get? b=some u→h'.get? b=some u) (hP:∃ u,h'.get? P=some u) (hc:h.objs.size≤c) (hf:h.objs.size≤f) (nc:H c=none) (nf:H f=none) :
  Un fs ex H (made H P c f (ps ++ more) o1 o2) h h':=by
 have nP:∀ b,H b=none→b≠P:=λb n z=>by rw [z,e] at n; cases n
 have lo:∀ {b:Addr} {u:Obj},h.get? b=some u→b≠c∧b≠f:=λ{b u} q=>⟨yH (yA (zL q) hc),yH (yA (zL q) hf)⟩
 refine ⟨λb u q n _ _=>k b u (nP b n) q,λb u q n _ _=>⟨u.slots,k b u (nP b n) q⟩,λb u q n _=>by rw [V6 (nP b n) (lo q).1 (lo q).2]; exact n,λb u q _=>?_,λb xs q=>?_,λb u xs q=>?_,λb ps' q=>?_⟩
 ·by_cases hb:b=P
  ·rw [hb]; exact hP
  ·exact ⟨u,k b u hb q⟩
 ·rw [V6 (λz=>by rw [z,e] at q; cases q) (Zf q nc) (Zf q nf)]; exact q
 ·rw [V6 (λz=>by rw [z,e] at q; cases q) (Zf q nc) (Zf q nf)]; exact q
 ·by_cases hb:b=P
  ·subst hb
   rw [e] at q
   cases q
   exact ⟨more,Bw (Zf e nc) (Zf e nf)⟩
  ·exact ⟨#[],by rw [V6 hb (Zf q nc) (Zf q nf),q]; simp⟩
theorem HOk.made {Pg:Program} {w:World} (ok:HOk Pg w H h) (e:H P=some (.tbl ps)) (k:∀ b u,b≠P→h.get? b=some u→h'.get? b=some u) (hP:h'.get? P=some (W.tabObj (ps ++ more))) (nc:H c=none) (nf:H f=none) (ncf:c≠f)
  (hc:Yl Pg w (made H P c f (ps ++ more) o1 o2) h' c o1) (hf:Yl Pg w (made H P c f (ps ++ more) o1 o2) h' f o2):HOk Pg w (made H P c f (ps ++ more) o1 o2) h':=λb u q=>by
 by_cases b1:b=f
 ·subst b1; rw [Zfg] at q; cases q; exact hf
 by_cases b2:b=c
 ·subst b2; rw [Bv ncf] at q; cases q; exact hc
 by_cases b3:b=P
 ·subst b3; rw [Bw b2 b1] at q; cases q; exact hP
 rw [V6 b3 b2 b1] at q
 refine (ok b u q).Nj (λy v hy r=>k y v ?_ r) (λy r=>?_) λy xs r=>?_
 ·rcases hy with z | z
  ·rw [z]; exact b3
  ·intro z2
   rw [z2,e] at z
   cases z
 ·rw [V6 (λz=>by rw [z,e] at r; cases r) (Zf r nc) (Zf r nf)]; exact r
 ·rw [V6 (λz=>by rw [z,e] at r; cases r) (Zf r nc) (Zf r nf)]; exact r
end
def Oh (mg:Str→Option Value) (h:Heap):Prop:=∃ bm ob,mg "__builtins__" = some (.ref bm)∧bm≠builtinsNs∧h.get? bm=some ob∧ob.cls=.type "module"∧ob.dict=some builtinsNs∧ob.data=.plain
theorem Oh.keeps {mg:Str→Option Value} {h h':Heap} (b:Oh mg h) (k:∀ b o,h.get? b=some o→h'.get? b=some o):Oh mg h':=
 let ⟨bm,ob,h1,h2,h3,r⟩:=b; ⟨bm,ob,h1,h2,k _ _ h3,r⟩
theorem Oh.at_ {mg:Str→Option Value} {h:Heap} {P:Addr} {ps:Array Value} (b:Oh mg h) (g:h.Ns mainGlobals mg) (e:h.get? P=some (W.tabObj ps)):h.BuiltinsAt mg P:=by
 obtain ⟨bm,ob,h1,h2,h3,h4,h5,h6⟩:=b
 refine ⟨bm,ob,h1,h2,λz=>?_,λz=>?_,h3,h4,h5,h6⟩
 ·obtain ⟨o,es,ep,e2,hd,_⟩:=g
  rw [z,e2] at h3; cases h3; rw [hd] at h6; cases h6
 ·rw [z,e] at h3; cases h3; cases h4
theorem Zj3 {mg:Str→Option Value} {h:Heap} {P:Addr} {ps:Array Value} (g:h.Ns mainGlobals mg) (e:h.get? P=some (W.tabObj ps)):mainGlobals≠P:=λz=>by
 obtain ⟨o,es,ep,e2,hd,_⟩:=g
 rw [z,e] at e2; cases e2; cases hd
def tLam (P:Addr) (L:List (Pos × Str)) (fdOf:Addr→Value→FuncData) (q:Str):TE:=λ_ H Q=>Tb P L H∧
 ∀ H' f c ct,Ut P H H'→Tb P L H'→H f=none→H' f=some (FnO f (fdOf c ct))→H' c=some (CdO c q)→Q (.ref f) H'
section
variable {X:Cx} {params:Arguments} {body:Expr} {scope:Scope} {pos:Pos} {c P:Addr} {L:List (Pos × Str)}
theorem Zbg {pins:List (Addr × Obj)} {σ:St} {H:Hp} {s:Shared} {q:Str} {fdOf:Addr→Value→FuncData} {Q:VK} {ps:Array Value} (I:Inv X pins σ H s) (hP:H P=some (.tbl ps)) (ht:TriplesOk ps.toList)
  (hT:∀ x∈L,codeAmong x.1 ps.toList=none∨∃ c,codeAmong x.1 ps.toList=some (.ref c)∧H c=some (CdO c x.2)) (hu:∀ x∈L,x.1.line=pos.line→x.1.col=pos.col→x.2=q)
  (hq:∀ H' f c ct,Ut P H H'→Tb P L H'→H f=none→H' f=some (FnO f (fdOf c ct))→H' c=some (CdO c q)→Q (.ref f) H') (hn:codeAmong pos ps.toList=none)
  {c':Addr} {ctv:Value} {h':Heap} {tk:Tok} (hx:Heap.ExtBut P s.heap h') (hge:s.heap.objs.size≤c') (hlt:c' < h'.objs.size) (Zfr:h'.CodeRec (.ref c') q)
  (htb:h'.get? P=some (W.tabObj (ps ++ #[rawInt pos.line,rawInt pos.col,.ref c']))) :
  EP X pins σ Q (.ref h'.objs.size) { s with heap:=h'.push { cls:=.type "function",data:=.func (fdOf c' ctv) },toks:=tk }:=by
 have hsz:s.heap.objs.size≤h'.objs.size:=uQ (yO hge hlt)
 have nc:H c'=none:=I.hok.fresh hge
 have nf:H h'.objs.size=none:=I.hok.fresh hsz
 have ncf:c'≠h'.objs.size:=yH hlt
 have k:∀ b u,b≠P→s.heap.get? b=some u→(h'.push { cls:=.type "function",data:=.func (fdOf c' ctv) }).get? b=some u:=λb u hb e=>zG _ (hx b u hb e)
 have hPc:P≠c':=Zf hP nc
 have hPf:P≠h'.objs.size:=Zf hP nf
 refine ⟨.ref h'.objs.size,L2.made H P c' h'.objs.size (ps ++ #[rawInt pos.line,rawInt pos.col,.ref c']) (CdO c' q) (FnO h'.objs.size (fdOf c' ctv)),
  I.un (t':=tk) (Un.made hP k ⟨_,zG _ htb⟩ hge hsz nc nf) (HOk.made I.hok hP k (zG _ htb) nc nf ncf (Zm9 (Zfr.push _)) (Am (zN _ rfl))),rfl,?_⟩
 refine hq _ _ c' ctv (λb o hb e=>by rw [V6 hb (Zf e nc) (Zf e nf)]; exact e) ⟨_,Bw hPc hPf,?_,λx hx2=>?_⟩ nf Zfg (Bv ncf)
 ·rw [uB]
  exact TriplesOk_snoc _ _ _ _ ht
 ·rw [uB,Zdj _ ht]
  rcases hT x hx2 with hh | ⟨c2,e1,e2⟩
  ·rw [hh]
   show codeAmong x.1 [rawInt pos.line,rawInt pos.col,.ref c']=none∨_
   by_cases hp:x.1.line=pos.line∧x.1.col=pos.col
   ·refine .inr ⟨c',?_,?_⟩
    ·simp [codeAmong,rawInt,hp.1,hp.2]
    ·rw [hu x hx2 hp.1 hp.2]
     exact Bv ncf
   ·left
    have:¬ ((pos.line=x.1.line)∧(pos.col=x.1.col)):=λz=>hp ⟨z.1.symm,z.2.symm⟩
    simp only [codeAmong,rawInt]
    rw [if_neg]
    ·rw [yQ,beq_iff_eq,beq_iff_eq]
     rintro ⟨z1,z2⟩
     exact this ⟨by omega,by omega⟩
  ·rw [e1]
   refine .inr ⟨c2,rfl,?_⟩
   rw [V6 (λz=>by rw [z,hP] at e2; cases e2) (Zf e2 nc) (Zf e2 nf)]
   exact e2
theorem Zlm (R0:X.env.code=.ref c) (C:W.CodeHd X.base c P) (hB:Oh X.mg X.base) (hL:(pos,X.env.qual ++ "<lambda>")∈L) (hu:∀ x∈L,x.1.line=pos.line→x.1.col=pos.col→x.2=X.env.qual ++ "<lambda>")
  (hdef:defaultsOf params X.env=([],[]):=by rfl) {sc:Scope} (hsc:X.env.scope=sc:=by rfl) (hfr:∀ y∈scope.names,y.2=NameKind.free→sc.names.lookup y.1=some .cell∨sc.names.lookup y.1=some .free:=by decide +kernel) :
  PE X (.Lambda params body scope pos) (tLam P L (λc ct=>W.kla_fn "<lambda>" (X.env.qual ++ "<lambda>") params body scope (Uq X.env scope.names []) ((X.mg "__name__").getD .none) (.ref c) ct) (X.env.qual ++ "<lambda>")):=by
 intro pins s σ H Q I ⟨⟨ps,hP,ht,hT⟩,hq⟩
 have hPo:s.heap.get? P=some (W.tabObj ps):=I.hok P _ hP
 have hg:=I.mod.glob.keeps I.bk
 have hb:=(hB.keeps I.bk).at_ hg hPo
 have hcl:∀ y∈scope.names,y.2=NameKind.free→∃ c,X.env.cells.lookup y.1=some c:=λy hy e=>I.ok.has y.1 (by subst hsc; exact hfr y hy e)
 refine W.kla_eval hdef ?_
 rcases hT _ hL with hn | ⟨c2,hc,hcd⟩
 ·refine W.kla_makeFunction (mg:=X.mg) (Up hcl) I.ok.glob hg R0 (C.keeps I.bk) hPo ht hn (Zj3 hg hPo) hb λc' ctv h' tk hx hge hlt Zfr htb=>?_
  exact Zbg (fdOf:=λc ct=>W.kla_fn "<lambda>" (X.env.qual ++ "<lambda>") params body scope (Uq X.env scope.names []) ((X.mg "__name__").getD .none) (.ref c) ct) I hP ht hT hu hq hn hx hge hlt Zfr htb
 ·refine W.kla_makeFunctionHit (mg:=X.mg) (Up hcl) I.ok.glob hg R0 (C.keeps I.bk) hPo ht hc hb λctv h' tk hk hsz=>?_
  have nf:H h'.objs.size=none:=I.hok.fresh hsz
  refine ⟨.ref h'.objs.size,_,I.laid (t':=tk) (λb u e=>zG _ (hk b u e)) hsz (Am (zN _ rfl)),rfl,?_⟩
  have e0:Zr H (upd H h'.objs.size (FnO h'.objs.size (W.kla_fn "<lambda>" (X.env.qual ++ "<lambda>") params body scope (Uq X.env scope.names []) ((X.mg "__name__").getD .none) (.ref c2) ctv))):=λb o e=>by rw [Zi (Zf e nf)]; exact e
  exact hq _ _ c2 ctv e0.t (Tb.same ⟨ps,hP,ht,hT⟩ e0) nf Zb (e0 _ _ hcd)
end
def Zkz (i:Nat) (f:Addr) (fd:FuncData) (sp:Sp) (t:TA):TE:=λσ H Q=>σ[i]? = some (some (.ref f))∧H f=some (FnO f fd)∧t σ H λvs H1=>H1 f=some (FnO f fd)∧sp vs H1 Q E0
theorem Tr {X:Cx} {i k:Nat} {f:Addr} {fd:FuncData} {ps:List Str} {sp:Sp} {x:Str} {p pos:Pos} {e:Expr} {es:List Expr} {t:TA} (F:Yt X.prog X.w X.K X.mg X.base CX0 k f fd ps sp) (hr:Wx k X.A) (hb:Binds X.K fd ps [])
  (ha:PA X (e :: es) t) (hN:X.N[i]? = some x:=by rfl) (hv:Vis X.env.scope x:=by first | exact Or.inl rfl | exact Or.inr (Or.inl rfl) | exact Or.inr (Or.inr rfl)) (hd:(x==("__debug__" : Str))=false:=by decide) (hcd:(x==("__classdict__" : Str))=false:=by decide)
  (he:starEach (e :: es) X.env=(false,eval e X.env) :: starEach es X.env:=by rfl) (hpl:(backTo pos (starEach es X.env)).any (·.1)=false:=by rfl):PE X (.Call (.Name x p) (e :: es) [] pos) (Zkz i f fd sp t):=by
 intro pins s σ H Q I ⟨hs,hf,h⟩
 refine yW (thn (Gs hN hv hd hcd pins s σ H (λv H1=>v=.ref f∧H1=H) I ⟨_,hs,rfl,rfl⟩) λu s1 ⟨v,H1,I1,r,q⟩=>?_)
 obtain ⟨rfl,rfl⟩:=q
 obtain rfl:u=Value.ref f:=r
 refine W.callWith_F ⟨_,_,_,_,FnO.at_ I1.hok hf⟩ (thn (ha pos pins s1 σ H1 _ I1 h) λus s2 ⟨vs,H2,I2,r2,q1,q2⟩=>⟨⟨_,_,_,_,FnO.at_ I2.hok q1⟩,?_⟩) he hpl
 exact Zed F hr hb .nil Zj1 I2 r2 (by rw [xF]; exact q2)
structure Zg6 (N ps:List Str) (scope:Scope):Prop where
 kind:scope.kind=.function
 co:scope.isCoroutine=false
 gen:scope.isGenerator=false
 nd:N.Nodup
 pre:N.take ps.length=ps
 par:∀ x∈ps,scope.names.lookup x=some .local
 Nv:∀ y∈scope.names,y.2≠.cell
structure Zcc (base:Heap) (N ps:List Str) (scope:Scope) (cl:List (Str × Addr)) (fv:List V):Prop where
 inj:∀ x y c,cl.lookup x=some c→cl.lookup y=some c→x=y
 has:∀ x,scope.names.lookup x=some .free→∃ c,cl.lookup x=some c
 cell:∀ x c,cl.lookup x=some c→∃ v,base.IsCell c v
 len:N.length=ps.length+fv.length
 val:∀ (j:Nat) x v,N[ps.length+j]? = some x→fv[j]? = some v→scope.names.lookup x=some .free∧∃ c u,cl.lookup x=some c∧RelV v u∧base.IsCell c (some u)
def Hl (P:Program) (w:World) (K:W.Frag) (mg:Str→Option Value) (base:Heap) (N:List Str) (qual:Str) (scope:Scope) (f:Addr) (cd:Value) (cl:List (Str × Addr)) (A:Around) (outer:List Env) (s:Shared) (H:Hp):Cx where
 prog:=P
 w:=w
 K:=K
 mg:=mg
 base:=base
 A:=A.deeper (W.envX qual scope s.heap.objs.size f cd cl)
 N:=N
 s₀:=s
 H₀:=H
 env:=W.envX qual scope s.heap.objs.size f cd cl
 outer:=outer
 stack:=W.envX qual scope s.heap.objs.size f cd cl :: outer
 ex:=[]
 calm:=true
 fn:=λ_=>false
 pn:=[]
 xe:=λ_ _=>False
theorem Kb:∀ {ps:List Str} {us:List Value} {i:Nat} {y:Str} {u:Value},ps.Nodup→ps[i]? = some y→us[i]? = some u→((ps.zip us).reverse).lookup y=some u
 | [],_,_,_,_,_,h,_=>by simp at h
 | _ :: _,[],_,_,_,_,_,h=>by simp at h
 | p :: ps,u0 :: us,0,y,u,nd,h1,h2=>by
  simp at h1 h2
  subst h1; subst h2
  rw [List.zip_cons_cons,List.reverse_cons]
  have hn:((ps.zip us).reverse).lookup p=none:=by
   rw [List.lookup_eq_none_iff]
   rintro ⟨a,b⟩ hm
   have:=(uG (List.mem_reverse.mp hm)).1
   have ne:a≠p:=λz=>(wL.mp nd).1 (z▸this)
   simpa using λz=>ne z.symm
  rw [List.lookup_append,hn]
  simp [List.lookup]
 | p :: ps,u0 :: us,i+1,y,u,nd,h1,h2=>by
  rw [List.zip_cons_cons,List.reverse_cons,List.lookup_append,Kb (i:=i) (wL.mp nd).2 (by simpa using h1) (by simpa using h2)]
  rfl
theorem Zbr {P:Program} {w:World} {K:W.Frag} {mg:Str→Option Value} {base:Heap} {N ps:List Str} {qual:Str} {scope:Scope} {f:Addr} {cd:Value} {cl:List (Str × Addr)} {fv:List V} {A:Around} {outer:List Env} {s:Shared} {H:Hp} {us:List Value} {vs:List V} {h1:Heap} {tk:Tok}
  (S:Zg6 N ps scope) (LC:Zcc base N ps scope cl fv) (hd:A.handled=none) (e0:Zah P w K mg base A outer s H) (hl:vs.length=ps.length) (r:Vals vs us)
  (hns:h1.Ns s.heap.objs.size (λx=>(ps.zip us).reverse.lookup x)) (hk:∀ b o,s.heap.get? b=some o→h1.get? b=some o) :
  Inv (Hl P w K mg base N qual scope f cd cl A outer s H) [] (vs.map some ++ fv.map some) H { s with heap:=h1,toks:=tk }:=by
 have noA:∀ b:Addr,b∉(Hl P w K mg base N qual scope f cd cl A outer s H).ex:=λb z=>absurd (show b∈([]:List Addr) from z) (by simp)
 have bk:∀ b o,base.get? b=some o→h1.get? b=some o:=λb o e=>hk b o (e0.bs b o e).1
 have ndP:ps.Nodup:=by rw [← S.pre]; exact S.nd.sublist (List.take_sublist _ _)
 have cellK:∀ {c:Addr} {v:Option Value},base.IsCell c v→h1.IsCell c v:=λ⟨o,e,d⟩=>⟨o,bk _ _ e,d⟩
 refine ⟨⟨e0.mod,S.kind,rfl,rfl,zI _,λy z c h1 h2=>LC.inj y z c h1 h2,λy hy=>?_,λy c z _=>(by cases z),λ_=>hd,Around.frames_deeper e0.frames,.inr ⟨rfl,rfl⟩,λb z=>absurd z (noA b),e0.bs,e0.bsz,λb _ _=>noA b,λb z=>absurd z (noA b),e0.Pp,e0.frf⟩,
  rfl,e0.bare,Un.kept hk,⟨_,hns,λi y v h1 h2 h3=>?_⟩,λy c h=>?_,e0.hok.fresh (zI _),λy c h=>?_,λp hp=>absurd (show p∈([]:List (Addr × Obj)) from hp) (by simp),e0.hok.kept hk,?_⟩
 ·have hy:scope.names.lookup y=some .cell∨scope.names.lookup y=some .free:=hy
  rcases hy with hy | hy
  ·exact absurd rfl (S.Nv _ (yY hy))
  ·exact LC.has y hy
 ·have h1:N[i]? = some y:=h1
  by_cases hi:i < vs.length
  ·have ha:vs[i]? = some v:=by
    rw [zU (by simpa using hi),zE] at h2
    cases e:vs[i]? with
    | none=>rw [e] at h2; cases h2
    | some a=>rw [e] at h2; cases h2; rfl
   obtain ⟨u,hu,rv⟩:=r.get ha
   have hp:ps[i]? = some y:=by
    rw [← S.pre,tI (by omega)]; exact h1
   exact ⟨u,rv,.inl ⟨S.par y (zJ hp),Kb ndP hp hu⟩⟩
  ·rw [zX (by simpa using hi),zE] at h2
   rw [zA] at h2
   have ha:fv[i - vs.length]? = some v:=by
    cases e:fv[i - vs.length]? with
    | none=>rw [e] at h2; cases h2
    | some a=>rw [e] at h2; cases h2; rfl
   have e:ps.length+(i - vs.length)=i:=by omega
   obtain ⟨hf,c,u,hc,rv,Zbw⟩:=LC.val (i - vs.length) y v (by rw [e]; exact h1) ha
   exact ⟨u,rv,.inr ⟨.inr hf,c,hc,cellK Zbw⟩⟩
 ·obtain ⟨v,z⟩:=LC.cell y c h
  exact ⟨v,cellK z⟩
 ·obtain ⟨v,o,e,_⟩:=LC.cell y c h
  exact (e0.bs c o e).2
 ·show _=N.length
  rw [zK,zA,zA,LC.len,hl]
theorem Zl2 {P:Program} {w:World} {K:W.Frag} {mg:Str→Option Value} {base:Heap} {k:Nat} {f c:Addr} {name qual:Str} {params:Arguments} {body:Expr} {scope:Scope} {cl:List (Str × Addr)} {pm ct:Value} {N ps:List Str} {fv:List V} {sp:Sp}
  (S:Zg6 N ps scope) (LC:Zcc base N ps scope cl fv) (len:∀ vs H Q E,sp vs H Q E→vs.length=ps.length)
  (hat:∀ vs H Q E,sp vs H Q E→H f=some (FnO f (W.kla_fn name qual params body scope cl pm (.ref c) ct))∧H c=some (CdO c qual))
  (R3:∀ (A:Around) (outer:List Env) (s:Shared) (H:Hp) (vs:List V) (Q:VK) (E:XK),Wx k (A.deeper (W.envX qual scope s.heap.objs.size f (.ref c) cl))→sp vs H Q E→
   ∃ t,PE (Hl P w K mg base N qual scope f (.ref c) cl A outer s H) body t∧t (vs.map some ++ fv.map some) H Q) :
  Yt P w K mg base CX0 (k+1) f (W.kla_fn name qual params body scope cl pm (.ref c) ct) ps sp:=by
 refine ⟨len,λA outer s H args us vs Q E hr e0 hb r hsp=>?_⟩
 have hl:=len _ _ _ _ hsp
 obtain ⟨hf,hc⟩:=hat _ _ _ _ hsp
 have lim:s.heap.NoLimit:=e0.mod.nolimit.keeps λb o e=>(e0.bs b o e).1
 refine W.kla_callFunE hr.depth (FnO.at_ e0.hok hf) rfl S.co S.gen rfl (CdO.at_ e0.hok hc) (hb _ _ _ _ ?_)
 refine sN S.Nv (λy hy=>S.par y.1 (uG hy).1) (λh1 hns hsb=>?_) S.kind
 have hk:∀ b o,s.heap.get? b=some o→h1.get? b=some o:=λb o e=>hsb.extBut b o (yH (zL e)) (zG _ e)
 refine ⟨lim.keeps hk,W.kla_codeExpr ?_⟩
 obtain ⟨t,ht,hq⟩:=R3 A outer s H vs Q E (hr.deeper _) hsp
 have I:Inv (Hl P w K mg base N qual scope f (.ref c) cl A outer s H) [] (vs.map some ++ fv.map some) H { s with heap:=h1,toks:=s.toks+(ps.zip us).length }:=Zbr S LC hr.hd e0 hl r hns hk
 refine wK (ht [] _ _ H _ I hq) (λu s' hs=>?_) λe s' hs=>hs.elim
 obtain ⟨v,H',J,rv,q⟩:=hs
 exact ⟨v,H',J.os,J.bare,J.base,J.hok,rv,q⟩
theorem Fun.okC {P:Program} {w:World} {K:W.Frag} {mg:Str→Option Value} {base:Heap} {x qual:Str} {st:Stmt} {f:Addr} {fd:FuncData} {N ps:List Str} {k:Nat} {sp:Sp} (F:Fun K x qual st f fd) (S:Yf N ps (Zg st)) (len:∀ vs H Q E,sp vs H Q E→vs.length=ps.length)
  (R3:∀ (A:Around) (outer:List Env) (s:Shared) (H:Hp) (vs:List V) (Q:VK) (E:XK),Wx k (A.deeper (envOfC qual (Zg st) s.heap.objs.size f fd.code))→sp vs H Q E→
   ∃ t,PSs (Ft CX0 P w K mg base N qual (Zg st) f fd.code A outer s H E).nox (Z5 st) t∧t { nx:=λ_ H'=>Q .non H',rt:=Q } (start N vs) H):Yt P w K mg base CX0 (k+1) f fd ps sp:=by
 obtain ⟨oc,od,kV,doc,pm,an,cdv,ct,osl,rfl,lk,hcd⟩:=F.ex
 refine Zf3 lk hcd S len λA outer s H vs Q E hr hsp=>?_
 obtain ⟨t,h,q⟩:=R3 A outer s H vs Q E hr hsp
 exact ⟨t,h.nox,q⟩
theorem Zcx {P:Program} {w:World} {K:W.Frag} {mg mb:Str→Option Value} {CX:CXT} {k:Nat} {fa a:Addr} {fd:FuncData} {x:Str} {sp:Sp} {s₁:Shared} {vs:List Value} {ns:List Int} {tabs:List (Addr × Addr)}
  (KX:K.In s₁.heap) (hns:s₁.heap.Ns mainGlobals mg) (hb:s₁.heap.Ns builtinsNs mb) (hbb:∀ x:Str,x≠"__name__"→mb x=bootBuiltins x) (Zml:s₁.heap.NoLimit) (hg:s₁.gens = #[])
  (ha:s₁.heap.get? a=some { cls:=.type "list",data:=.seq vs.toArray }) (hi:IntsAre vs ns) (hl:ns.length≤sizeLine) (hr:Wx k callerA) (hT:W.TabsAt tabs s₁.heap) (hK0:W.noTabs K=true) (hBM:Oh mg s₁.heap)
  (F:∀ base:Heap,K.In base→base.Ns mainGlobals mg→Oh mg base→Yt P w K mg base CX k fa fd [x] sp) (Zfx:∀ (s:Shared) (u:Value),BindsTo s fd ⟨[u],[]⟩ [(x,u)])
  (hsp:∀ H:Hp,(∀ q∈tabs,H q.2=some (.tbl #[]))→SqL K H a (ns.map V.int)→sp [.ref a] H (λv _=>v=.bl true) λ_ _ _=>False)
  (hCX:∀ H e s',CX [] H s₁ (λ_ _ _=>False) e s'→False) :
  codeAny (model P w) callerA (.call (.ref fa) ⟨[.ref a],[]⟩) (λr s'=>r=.ok (.ret (.bool true))∧OldK s₁.heap s'.heap∧s'.os=s₁.os∧AllBare s'.gens) s₁:=by
 have rv:=Qn hi
 have Zl0:=hi.length
 have core:∀ H:Hp,(∀ b,H b=none∨(∃ o xs,H b=some (.frz o (.lst xs))∧b=a)∨(H b=some (.tbl #[])∧∃ q∈tabs,q.2=b))→(∀ q∈tabs,H q.2=some (.tbl #[]))→SqL K H a (ns.map V.int)→HOk P w H s₁.heap→(∀ o xs,H a=some (.frz o (.lst xs))→K.lookup a=none)→
   codeAny (model P w) callerA (.call (.ref fa) ⟨[.ref a],[]⟩) (λr s'=>r=.ok (.ret (.bool true))∧OldK s₁.heap s'.heap∧s'.os=s₁.os∧AllBare s'.gens) s₁:=by
  intro H hO hTb hS hok hK
  have Pa:∀ {b:Addr} {o:Obj},s₁.heap.get? b=some o→H b=none→(Po s₁.heap H).get? b=some o:=λe n=>Ca e n
  have noA:∀ {b:Addr} {o:Obj},s₁.heap.get? b=some o→(∀ xs n,o.data≠.seq xs n)→(∀ xs,o.data≠.fields xs)→H b=none:=λ{b o} e d1 d2=>by
   rcases hO b with z | ⟨ob,xs,z,rfl⟩ | ⟨z,_⟩
   ·exact z
   ·rw [ha] at e; cases e
    exact absurd rfl (d1 _ _)
   ·have:=hok b _ z
    rw [show s₁.heap.get? b=some (W.tabObj #[]) from this] at e
    cases e
    exact absurd rfl (d2 _)
  have nsK:∀ {b:Addr} {m:Str→Option Value},s₁.heap.Ns b m→(Po s₁.heap H).Ns b m:=λ{b m} ⟨o,es,ep,e,d,r⟩=>⟨o,es,ep,Pa e (noA e (λ_ _ z=>by rw [d] at z; cases z) λ_ z=>by rw [d] at z; cases z),d,r⟩
  have hKb:K.In (Po s₁.heap H):=λb o e=>Pa (KX b o e) (by
   rcases hO b with z | ⟨ob,xs,z,rfl⟩ | ⟨z,_⟩
   ·exact z
   ·rw [hK _ _ z] at e; cases e
   ·have e2:s₁.heap.get? b=some (W.tabObj #[]):=hok b _ z
    have e3:=KX b o e
    rw [e2] at e3
    cases e3
    have h2:=vX.mp hK0 _ (W.mem_of_lookupK e)
    exact absurd (show false=true from h2) zP)
  have hBb:Oh mg (Po s₁.heap H):=by
   obtain ⟨bm,ob,b1,b2,b3,b4,b5,b6⟩:=hBM
   exact ⟨bm,ob,b1,b2,Pa b3 (noA b3 (λ_ _ z=>by rw [b6] at z; cases z) λ_ z=>by rw [b6] at z; cases z),b4,b5,b6⟩
  have hM:Mod K mg (Po s₁.heap H):=⟨hKb,nsK hns,⟨mb,nsK hb,hbb⟩,let ⟨mc,h1,h2⟩:=Zml; ⟨mc,nsK h1,h2⟩⟩
  have e0:Zah P w K mg (Po s₁.heap H) callerA [] s₁ H:=⟨rfl,hM,λb o e=>Zbd e,sM (Hb _ _),trivial,λb hb=>absurd (show b∈([]:List Addr) from hb) (by simp),hok,.of_eq hg⟩
  refine uR ((F _ hKb (nsK hns) hBb).run callerA [] s₁ H ⟨[.ref a],[]⟩ [.ref a] [.ref a] _ _ hr e0 (Zfx s₁ (.ref a)) (.cons rfl .nil) (hsp H hTb hS)) λr s' h=>?_
  cases r with
  | error e=>exact (hCX H e s' h).elim
  | ok fl=>
   cases fl with
   | next=>exact False.elim h
   | brk=>exact False.elim h
   | cont=>exact False.elim h
   | ret u=>
    obtain ⟨v,H',os,bare,un,Zin,r',q⟩:=h
    have q':v=.bl true:=q
    subst q'
    obtain rfl:u=Value.bool true:=r'
    refine ⟨rfl,⟨λb o e=>?_,λb o e=>un.there b o e (by simp)⟩,os,bare⟩
    rcases hO b with z | ⟨ob,xs,z,_⟩ | ⟨z,q,hq,rfl⟩
    ·exact .inl (un.keep b o e z (by intro z; exact absurd (show b∈([]:List Addr) from z) (by simp)) (by simp))
    ·have z2:=un.M5 b ob _ z
     obtain ⟨e1,_⟩:=hok b _ z
     obtain ⟨e2,_⟩:=Zin b _ z2
     rw [e] at e1; cases e1
     exact .inl e2
    ·obtain ⟨more,z2⟩:=un.Lr _ _ z
     have e1:s₁.heap.get? q.2=some (W.tabObj #[]):=(hT q hq).2
     rw [e] at e1
     cases e1
     exact .inr (.inl ⟨((hT q hq).1.tab (hT q hq).2).isCodeTable,rfl,#[],more,rfl,Zin _ _ z2⟩)
 have hTa:∀ q∈tabs,q.2≠a:=λq hq z=>by
  have e:=(hT q hq).2
  rw [z,ha] at e
  cases e
 cases hk:K.lookup a with
 | some o=>
  have e:=KX a o hk
  rw [ha] at e
  cases e
  refine core (λb=>if b∈tabs.map (·.2) then some (.tbl #[]) else none) (λb=>?_) (λq hq=>if_pos (uX hq)) (.inr ⟨_,vs.toArray,_,hk,rfl,rfl,rfl,by rw [zR,Zl0]; exact hl,by simpa using rv⟩) (λb u z=>?_) (λo xs z=>?_)
  ·by_cases hb:b∈tabs.map (·.2)
   ·obtain ⟨q,hq,e⟩:=zY.mp hb
    exact .inr (.inr ⟨if_pos hb,q,hq,e⟩)
   ·exact .inl (if_neg hb)
  ·by_cases hb:b∈tabs.map (·.2)
   ·have z':=(if_pos hb).symm.trans z
    cases z'
    obtain ⟨q,hq,rfl⟩:=zY.mp hb
    exact (hT q hq).2
   ·have z':=(if_neg hb).symm.trans z
    cases z'
  ·by_cases hb:a∈tabs.map (·.2)
   ·have z':=(if_pos hb).symm.trans z
    cases z'
   ·have z':=(if_neg hb).symm.trans z
    cases z'
 | none=>
  refine core (λb=>if b=a then some (.frz { cls:=.type "list",data:=.seq vs.toArray } (.lst (ns.map V.int))) else if b∈tabs.map (·.2) then some (.tbl #[]) else none) (λb=>?_) (λq hq=>(if_neg (hTa q hq)).trans (if_pos (uX hq))) (.inl (.inr ⟨{ cls:=.type "list",data:=.seq vs.toArray },if_pos rfl⟩)) (λb u z=>?_) (λ_ _ _=>hk)
  ·by_cases hb:b=a
   ·exact .inr (.inl ⟨_,_,if_pos hb,hb⟩)
   ·by_cases hb2:b∈tabs.map (·.2)
    ·obtain ⟨q,hq,e⟩:=zY.mp hb2
     exact .inr (.inr ⟨(if_neg hb).trans (if_pos hb2),q,hq,e⟩)
    ·exact .inl ((if_neg hb).trans (if_neg hb2))
  ·by_cases hb:b=a
   ·have z':=(if_pos hb).symm.trans z
    cases z'
    subst hb
    exact ⟨ha,by rw [zA]; exact hl,vs,_,rv,ha⟩
   ·have z:=(if_neg hb).symm.trans z
    by_cases hb2:b∈tabs.map (·.2)
    ·have z':=(if_pos hb2).symm.trans z
     cases z'
     obtain ⟨q,hq,rfl⟩:=zY.mp hb2
     exact (hT q hq).2
    ·have z':=(if_neg hb2).symm.trans z
     cases z'
def Zae (q:Program) (K:W.Frag) (h:Heap):Prop:=∀ (x:Str) (d:DefRec) (c P:Addr),(recsOf q).find? (λe=>e.name==x)=some d→W.tabIn K x=some (c,P)→W.CodeHd h c P∧h.get? P=some (W.tabObj #[])
theorem Zdp {l:W.OpenLaw} {n k:Nat} {q:Program} {loose:List Str} {XP:(Str→Option Value)→Heap→Prop} {YP:World→Heap→Prop} {d:DefRec} {K:Params→W.Frag} {CX:World→CXT} {sp:World→List (Addr × Addr)→Sp} {x:Str}
  (hn:l.most=some n) (hn2:n≤sizeLine) (hdf:d.params.defaults=[]) (hr:Wx k callerA)
  (hY:∀ (w:World) (h:Heap),YP w h→(K w.params).In h)
  (F:∀ (w:World) (mg:Str→Option Value) (fa:Addr) (h:Heap),(K w.params).In h→h.Ns mainGlobals mg→mg d.name=some (.ref fa)→Zae q (K w.params) h→
   W.noTabs (K w.params)=true∧∃ (fd:FuncData) (tabs:List (Addr × Addr)),W.TabsAt tabs h∧(∀ (s:Shared) (u:Value),BindsTo s fd ⟨[u],[]⟩ [(x,u)])∧
    ∀ base:Heap,(K w.params).In base→base.Ns mainGlobals mg→Oh mg base→Yt l.prog w (K w.params) mg base (CX w) k fa fd [x] (sp w tabs))
  (hsp:∀ (w:World) (tabs:List (Addr × Addr)) (H:Hp) (a:Addr) (ns:List Int),ns.length≤n→(∀ q∈tabs,H q.2=some (.tbl #[]))→SqL (K w.params) H a (ns.map V.int)→sp w tabs [.ref a] H (λv _=>v=.bl true) λ_ _ _=>False)
  (hCX:∀ (w:World) (H:Hp) (s:Shared) (e:Value) (s':Shared),CX w [] H s (λ_ _ _=>False) e s'→False) :
  W.WalkO q loose XP YP l.row.toRowW d [] (λf vs=>PySem.call f vs):=by
 refine Att.Mt hn hdf λw s₀ s₁ mg mb fa o pm cd doc a vs ns G Y ho hd hcd hmg Zfs hints hlen hg=>?_
 have KX:=hY w _ Y
 obtain ⟨h0,fd,tabs,hT,hb,hF⟩:=F w mg fa _ KX G.T.g hmg (λx d c P hr ht=>W.tab_of G.T KX hr ht)
 exact Zcx KX G.T.g G.T.b G.T.builtins G.T.nolimit hg Zfs hints (yG hlen hn2) hr hT h0 G.T.bmain hF hb (λH hO hS=>hsp w tabs H a ns hlen hO hS) λH e s'=>hCX w H s₁ e s'
theorem Eg {K:W.Frag} {x:Str} {f c P:Addr} {oc oc':Value} {od od':Option Addr} {sl sl':Array (Option Value)} {fd:FuncData} {vs:Array Value} (a:W.nsIn K mainGlobals x=some (some (.ref f))) (l:K.lookup f=some ⟨oc,od,.func fd,sl⟩) (y:fd.code=.ref c)
  (v:K.lookup c=some ⟨oc',od',.fields vs,sl'⟩) (u:vs[11]? = some (.ref P)):W.tabIn K x=some (c,P):=by
 unfold W.tabIn
 rw [a]
 dsimp only
 rw [l]
 dsimp only
 rw [y]
 dsimp only
 rw [v]
 dsimp only
 rw [u]
theorem Zbv {K:W.Frag} {h base:Heap} {c P:Addr} {o:Obj} (C:W.CodeHd h c P) (X:K.In h) (B:K.In base) (lk:K.lookup c=some o):W.CodeHd base c P:=by
 obtain ⟨o',vs,file,tf,flags,tg,inF,text,tt,e,r⟩:=C
 have:=X c o lk
 rw [this] at e
 cases e
 exact ⟨o,vs,file,tf,flags,tg,inF,text,tt,B c o lk,r⟩
end L2
namespace L2
open PySem PySem.Spec PyProof.Rows
section
variable {P:Program} {w:World} {A:Around} {E:Value→Shared→Prop} {s:Shared} {r:Addr} {x:Str}
end
section
variable {X:Cx}
end
end L2
namespace L2
open PySem PySem.Spec PyProof.Rows
structure Zcd (X:Cx) (σ:St) (Us:Heap):Prop where
 sub:∀ b o,X.base.get? b=some o→Us.get? b=some o
 inj:∀ x y c,X.env.cells.lookup x=some c→X.env.cells.lookup y=some c→x=y
 has:∀ x,(X.env.kindOf x=some .cell∨X.env.kindOf x=some .free)→∃ c,X.env.cells.lookup x=some c
 cell:∀ x c,X.env.cells.lookup x=some c→∃ v,Us.IsCell c v
 val:∀ (i:Nat) (x:Str) (v:V),X.N[i]? = some x→σ[i]? = some (some v)→(X.env.kindOf x=some .cell∨X.env.kindOf x=some .free)→∃ u c,RelV v u∧X.env.cells.lookup x=some c∧Us.IsCell c (some u)
def Ul (X:Cx) (b:Addr):Bool:=X.env.cells.any λp=>p.2==b && X.env.cells.lookup p.1==some b
theorem So {X:Cx} {b:Addr}:Ul X b=true↔∃ x,X.env.cells.lookup x=some b:=by
 unfold Ul
 rw [wR]
 constructor
 ·rintro ⟨p,_,h⟩
  rw [yQ] at h
  exact ⟨p.1,by simpa using h.2⟩
 ·rintro ⟨x,h⟩
  refine ⟨(x,b),yY h,?_⟩
  simp [h]
def Zir (X:Cx) (h:Heap):List Addr:=(List.range h.objs.size).filter λb=>(X.base.get? b).isNone && !Ul X b
def baseOf (X:Cx) (h:Heap):Heap:=W.hideAll h (Zir X h)
section
variable {X:Cx} {pins:List (Addr × Obj)} {σ:St} {H:Hp} {s:Shared}
theorem Zbf {b:Addr} (h:(X.base.get? b).isSome=true∨Ul X b=true):b∉Zir X s.heap:=λz=>by
 have:=(xX.mp z).2
 rw [yQ] at this
 rcases h with h | h
 ·cases e:X.base.get? b with
  | none=>rw [e] at h; cases h
  | some o=>rw [e] at this; cases this.1
 ·rw [h] at this
  cases this.2
theorem Zbe {b:Addr} {o:Obj} (h:(baseOf X s.heap).get? b=some o):s.heap.get? b=some o∧((X.base.get? b).isSome=true∨Ul X b=true):=by
 have e:=W.of_hideAll _ h
 refine ⟨e,?_⟩
 by_cases c:(X.base.get? b).isSome=true∨Ul X b=true
 ·exact c
 ·have hm:b∈Zir X s.heap:=by
   refine xX.mpr ⟨yN.mpr (zL e),?_⟩
   rw [yQ]
   refine ⟨?_,?_⟩
   ·cases e2:X.base.get? b with
    | none=>rfl
    | some u=>exact absurd (.inl (by rw [e2]; rfl)) c
   ·cases e2:Ul X b with
    | false=>rfl
    | true=>exact absurd (.inr e2) c
  rw [show baseOf X s.heap=W.hideAll s.heap (Zir X s.heap) from rfl,W.hideAll_none _ hm] at h
  cases h
theorem Inv.Zkd (I:Inv X pins σ H s):Zcd X σ (baseOf X s.heap):=by
 have cellK:∀ {x:Str} {c:Addr} {v:Option Value},X.env.cells.lookup x=some c→s.heap.IsCell c v→(baseOf X s.heap).IsCell c v:=λ{x c v} e ⟨o,ho,hd⟩=>
  ⟨o,W.hideAll_get _ ho (Zbf (.inr (So.mpr ⟨x,e⟩))),hd⟩
 refine ⟨λb o e=>W.hideAll_get _ (I.bk b o e) (Zbf (.inl (by rw [e]; rfl))),I.ok.inj,I.ok.has,λx c e=>?_,λi x v h1 h2 h3=>?_⟩
 ·obtain ⟨v,z⟩:=I.cell x c e
  exact ⟨v,cellK e z⟩
 ·obtain ⟨m,_,hl⟩:=I.loc
  have hv:Vis X.env.scope x:=by
   rcases h3 with h3 | h3
   ·exact .inr (.inl h3)
   ·exact .inr (.inr h3)
  obtain ⟨u,r,l⟩:=hl i x v h1 h2 hv
  rcases l with ⟨hk,_⟩ | ⟨hk,c,e,z⟩
  ·rcases h3 with h3 | h3 <;> rw [h3] at hk <;> cases hk
  ·exact ⟨u,c,r,e,cellK e z⟩
theorem Inv.Zpn (I:Inv X pins σ H s) (hfn:∀ x,X.fn x=true):Zah X.prog X.w X.K X.mg (baseOf X s.heap) X.A X.stack s H:=by
 have B:=I.Zkd
 have bs:∀ b o,(baseOf X s.heap).get? b=some o→s.heap.get? b=some o∧H b=none:=λb o e=>by
  obtain ⟨e1,h⟩:=Zbe e
  refine ⟨e1,?_⟩
  rcases h with h | h
  ·obtain ⟨u,hu⟩:=tH.mp h
   exact (I.bs b u hu).2
  ·obtain ⟨x,hx⟩:=So.mp h
   exact I.V3 x b hx
 refine ⟨I.ok.frames,?_,bs,sM (W.hideAll_size _ _),?_,I.M7,I.hok,I.bare⟩
 ·obtain ⟨k,g,⟨mb,h1,h2⟩,nl⟩:=I.ok.mod
  exact ⟨k.keeps B.sub,g.keeps B.sub,⟨mb,h1.keeps B.sub,h2⟩,nl.keeps B.sub⟩
 ·have all:∀ (l:List Env),(∀ b∈frs l,b∈X.env.locals :: X.fs)→s.heap.FunFrames X.base l→s.heap.FunFrames (baseOf X s.heap) l:=by
   intro l
   induction l with
   | nil=>intro _ _; trivial
   | cons env r ih=>
    intro hs hl
    obtain ⟨hk,⟨L,o,hf,hn,ho,hd⟩,hr⟩:=hl
    refine ⟨hk,⟨L,o,hf,?_,ho,hd⟩,ih (λb hb=>hs b (by unfold frs; rw [uA,hf]; exact zQ _ hb)) hr⟩
    cases q:(baseOf X s.heap).get? L with
    | none=>rfl
    | some u=>
     obtain ⟨e1,h⟩:=Zbe q
     rcases h with h | h
     ·rw [hn] at h; cases h
     ·obtain ⟨x,hx⟩:=So.mp h
      rcases yE.mp (hs L (by unfold frs; rw [uA,hf]; exact zM)) with z | z
      ·exact absurd z (I.cne x L hx)
      ·obtain ⟨_,o2,ho2,_⟩:=I.ok.Pp.mem z
       exact absurd (yA (zL ho2) (I.ok.cab x L (hfn x) hx)) (wM _)
  exact all _ I.Ls I.stack
end
def Zk0 (X:Cx) (x:Str) (k:Nat) (t:TA):TE:=λσ H Q=>t σ H λvs H1=>∀ Us:Heap,Zcd X σ Us→
 ∃ (ps:List Str) (sp:Sp) (_:Cal X.prog X.w X.K X.mg Us x k ps sp),sp vs H1 Q E0
theorem Zj0 {X:Cx} {x:Str} {k:Nat} {ps:List Str} {sp:Sp} {p pos:Pos} {e:Expr} {es:List Expr} {t:TA} (C:Cal X.prog X.w X.K X.mg X.base x k ps sp) (hr:Wx k X.A) (ha:PA X (e :: es) t) (hg:Gl X x:=by rfl) (hfn:∀ x,X.fn x=true:=by intro _; rfl)
  (hdb:(x==("__debug__" : Str))=false:=by decide) (he:starEach (e :: es) X.env=(false,eval e X.env) :: starEach es X.env:=by rfl) (hpl:(backTo pos (starEach es X.env)).any (·.1)=false:=by rfl) :
  PE X (.Call (.Name x p) (e :: es) [] pos) (Zk0 X x k t):=by
 intro pins s σ H Q I h
 refine yW (Qu I hg C.at_ ?_ hdb)
 refine sY (h₀:=X.base) I.ok.mod.kin C.kp (thn (ha pos pins s σ H _ I h) λus s1 ⟨vs,H1,I1,r,q⟩=>⟨I1.kIn,?_⟩) he hpl
 obtain ⟨ps',sp',C',hsp⟩:=q _ I1.Zkd
 have ef:C'.f=C.f:=by
  have:=C'.at_.symm.trans C.at_
  injection this with this
  injection this
 have hl:us.length=ps'.length:=by rw [← r.length]; exact C'.ok.len _ _ _ _ hsp
 have hb:=C'.b s1 us I1.kIn (by rw [xF]; exact hl)
 rw [xF] at hb
 have run:=C'.ok.run X.A X.stack s1 H1 ⟨us,[]⟩ us vs Q E0 hr (I1.Zpn hfn) hb r hsp
 rw [ef] at run
 show wpAny _ _ (call (.ref C.f) ([] ++ us)) _ _ s1
 refine tK (uR run λr s' hq=>?_)
 cases r with
 | error e=>exact hq.elim
 | ok fl=>
  cases fl with
  | ret u=>exact I1.after hq
  | next=>exact False.elim hq
  | brk=>exact False.elim hq
  | cont=>exact False.elim hq
theorem Zcd.cl {X:Cx} {σ:St} {Us:Heap} (B:Zcd X σ Us) {N ps:List Str} {scope:Scope} {fv:List V} {sc:Scope} (fr:List Nat) (hsc:X.env.scope=sc) (hfr:∀ y∈scope.names,y.2=NameKind.free→sc.names.lookup y.1=some .cell∨sc.names.lookup y.1=some .free)
  (hlen:N.length=ps.length+fr.length) (hfl:fv.length=fr.length) (hN:∀ (j:Nat) i x,fr[j]? = some i→N[ps.length+j]? = some x→scope.names.lookup x=some .free∧X.N[i]? = some x)
  (hv:∀ (j:Nat) i v,fr[j]? = some i→fv[j]? = some v→σ[i]? = some (some v)):Zcc Us N ps scope (Uq X.env scope.names []) fv:=by
 subst hsc
 have kind:∀ x,scope.names.lookup x=some .free→(X.env.kindOf x=some .cell∨X.env.kindOf x=some .free):=λx hx=>hfr _ (yY hx) rfl
 have good:Zaj X.env (Uq X.env scope.names []):=Q6 _ _ λy c e=>by simp at e
 have look:∀ x c,(Uq X.env scope.names []).lookup x=some c→X.env.cells.lookup x=some c:=λx c e=>by
  have h1:=good x c e
  rcases Na _ _ e with z | z
  ·simp at z
  ·obtain ⟨c2,e2⟩:=B.has x (hfr _ z rfl)
   rw [e2] at h1
   rw [e2]
   exact congrArg some h1.symm
 have Zo9:∀ x,scope.names.lookup x=some .free→∃ c,(Uq X.env scope.names []).lookup x=some c:=λx hx=>R5 _ _ (.inr (yY hx))
 refine ⟨λx y c h1 h2=>B.inj x y c (look x c h1) (look y c h2),Zo9,λx c e=>B.cell x c (look x c e),by rw [hlen,hfl],λj x v h1 h2=>?_⟩
 have hj:j < fr.length:=by rw [← hfl]; exact (zF.mp h2).1
 have hfj:fr[j]? = some fr[j]:=zC hj
 obtain ⟨hf,hX⟩:=hN j _ x hfj h1
 obtain ⟨u,c,r,e,z⟩:=B.val _ x v hX (hv j _ v hfj h2) (kind x hf)
 obtain ⟨c2,e2⟩:=Zo9 x hf
 have:=look x c2 e2
 rw [e] at this
 cases this
 exact ⟨hf,c,u,e2,r,z⟩
section
variable {X:Cx}
end
end L2
namespace L2
open PySem PySem.Spec PyProof.Rows
section
variable {P:Program} {w:World} {H:Hp} {s:Shared}
end
section
variable {X:Cx}
end
end L2
namespace L2
open PySem PySem.Spec PyProof.Rows
def Itk (a:Addr) (o:Obj) (kvs:List (Key × V)):It:=
 ⟨λi H=>i < kvs.length∧H a=some (.frz o (.dK kvs)),λi H x H'=>H'=H∧∃ k v,kvs[i]? = some (k,v)∧x=kV k,λi H=>i=kvs.length∧H a=some (.frz o (.dK kvs))⟩
theorem Iq {P:Program} {w:World} {k:Key} {u:Value} (h:(Yy P w).is k u=true):RelV (kV k) u:=by
 rcases Xn (show K4 k u=true from h) with ⟨i,t,rfl,rfl⟩ | ⟨x,t,rfl,rfl⟩
 ·exact ⟨t,rfl⟩
 ·exact ⟨t,rfl⟩
theorem Fd {kvs:List (Key × V)} {vs:List (Key × Value)} (r:KV kvs vs):kvs.length=vs.length:=vM r
theorem Aa:∀ {kvs:List (Key × V)} {vs:List (Key × Value)} {i:Nat} {k:Key} {x:Value},KV kvs vs→vs[i]? = some (k,x)→∃ v,kvs[i]? = some (k,v)
 | _,_,i,_,_,.nil,h=>by simp at h
 | _,_,0,k,x,.cons (a:=p) (b:=q) r _,h=>by
  cases h
  obtain ⟨e,_⟩:=r
  obtain ⟨pk,pv⟩:=p
  have e':pk=k:=e
  subst e'
  exact ⟨pv,rfl⟩
 | _,_,i+1,k,x,.cons _ t,h=>by
  obtain ⟨v,e⟩:=Aa (i:=i) t (by simpa using h)
  exact ⟨v,by simpa using e⟩
theorem Zcg {P:Program} {w:World} {K:W.Frag} {tg:Expr} (a it:Addr) (o:Obj) (kvs:List (Key × V)) (vs:List (Key × Value)) (es:Array DictEntry) (ep:Nat) (rel:KV kvs vs) (ho:∀ h:Heap,h.get? a=some o→h.DictAt (Yy P w) a vs ep) :
  Turn P w K tg (Itk a o kvs) [it] it (λi h=>h.IsKeyIter it a i vs.length ep) where
 mem:=by simp
 obj:=λi h st b hb=>by
  have e:b=it:=by simpa using hb
  subst e
  obtain ⟨o,e,c,d⟩:=st
  exact ⟨o,e,λv z=>by rw [d] at z; cases z⟩
 keep:=λi h h' st k=>st.at λo e=>k it (by simp) o e
 item:=by
  intro X hP hw hK hc i pins s σ H E I hf st hg
  subst hP hw hK
  obtain ⟨hi,hq⟩:=hg
  have hd:=ho s.heap (I.hok a _ hq).1
  have hl:=Fd rel
  have hx:vs[i]? = some (vs[i]'(by omega)):=zC (by omega)
  obtain ⟨f0,f1,f2,f3,f4,f5⟩:=hf it (by simp)
  refine wpAny_pyNext_dict_item (k:=(vs[i]'(by omega)).1) (v:=(vs[i]'(by omega)).2) st hd hx λkey h' hk st' sb=>?_
  have I1:Inv X pins σ H { s with heap:=h' }:=I.turned (t':=s.toks) (λb o hb e=>(sb.2 b hb).trans e) f0 f1 f3 f4 f5
  obtain ⟨oi,e,c,d⟩:=id st'
  obtain ⟨v,hv⟩:=Aa (k:=(vs[i]'(by omega)).1) (x:=(vs[i]'(by omega)).2) rel hx
  exact ⟨key,rfl,Hc (s:={ s with heap:=h' }) e c d (by decide) ⟨kV _,H,I1,Iq hk,⟨rfl,_,v,hv,rfl⟩,st',λb hb=>(hf b hb).1⟩⟩
 done:=by
  intro X hP hw hK hc i pins s σ H E I hf st hg
  subst hP hw hK
  obtain ⟨hi,hq⟩:=hg
  have hd:=ho s.heap (I.hok a _ hq).1
  have hl:=Fd rel
  obtain ⟨f0,f1,f2,f3,f4,f5⟩:=hf it (by simp)
  exact wpAny_pyNext_dict_end (I.ok.hd hc) st hd (xE (by omega)) λh' eb=>⟨rfl,I.turned (t':=s.toks) (λb o hb e=>eb b o hb e) f0 f1 f3 f4 f5⟩
 self:=λ_ _ _ _ _ st h=>wpAny_pyIter_keyiter st h
section
variable {X:Cx} {tg:Expr}
def Zox (te:TE):TI:=λσ H R=>te σ H λx H1=>∃ a kvs,x=.ref a∧((H1 a=some (.dK kvs)∧∀ o,R (Itk a o kvs) (upd H1 a (.frz o (.dK kvs))))∨∃ o,H1 a=some (.frz o (.dK kvs))∧R (Itk a o kvs) H1)
theorem Za7 {e:Expr} {te:TE} (he:PE X e te):PI X tg e (Zox te):=by
 intro pins s σ H R I h
 refine thn (he pins s σ H _ I h) λv s1 ⟨x,H1,I1,r1,q1⟩=>?_
 obtain ⟨a,kvs,e,q⟩:=q1
 subst e
 cases r1
 have key:∀ (o:Obj) (H2:Hp),Inv X pins σ H2 s1→H2 a=some (.frz o (.dK kvs))→R (Itk a o kvs) H2→wpAny (model X.prog X.w) X.A (pyIter (.ref a)) (PIE X pins σ tg R) X.xe s1:=by
  intro o H2 I2 h2 q2
  obtain ⟨ho,_,hsm,vs,rel,dd⟩:=I2.hok a _ h2
  obtain ⟨o',es,ep,ho',hx,Zfw,hk,hp,hn⟩:=dd
  rw [ho] at ho'
  cases ho'
  have at_:∀ h:Heap,h.get? a=some o→h.DictAt (Yy X.prog X.w) a vs ep:=λh e=>⟨o,es,e,hx,Zfw,hk,hp,hn⟩
  refine sX hsm (at_ s1.heap ho) ?_
  refine ⟨s1.heap.objs.size,[s1.heap.objs.size],_,_,H2,rfl,I2.kept (t':=s1.toks) λb o e=>zG _ e,Zcg a _ o kvs vs es ep rel at_,⟨_,zN _ rfl,rfl,rfl⟩,λb hb=>?_,q2⟩
  have e:b=s1.heap.objs.size:=by simpa using hb
  subst e
  exact I2.N9 (zI _) (I2.hok.fresh (zI _))
 rcases q with ⟨hd,q⟩ | ⟨o,hd,q⟩
 ·obtain ⟨hz,hsm,vs,rel,dd⟩:=I1.hok a _ hd
  obtain ⟨o,es,ep,ho,rest⟩:=id dd
  have I2:Inv X pins σ (upd H1 a (.frz o (.dK kvs))) s1:=I1.write (x:=a) (e:=a) (t':=s1.toks) (h':=s1.heap) (by rw [hd]; exact True.intro) (.inl rfl) (λb u _ e=>e) ⟨o,ho⟩ ⟨ho,hz,hsm,vs,rel,dd⟩
  exact key o _ I2 Zb (q o)
 ·exact key o H1 I1 hd q
theorem Zf2 {a:Addr} {o:Obj} {kvs:List (Key × V)} {g:TG} {tb:TS} {D:Ends} {σ:St} {H:Hp} (Pv:Nat→St→Hp→Prop) (h0:Pv 0 σ H) (hl:∀ i σ H,i≤kvs.length→Pv i σ H→H a=some (.frz o (.dK kvs)))
  (hs:∀ i k v σ H,kvs[i]? = some (k,v)→Pv i σ H→g (kV k) σ H λσ2 H2=>tb { D with nx:=Pv (i+1),ct:=Pv (i+1),bk:=D.nx } σ2 H2) (hd:∀ σ H,Pv kvs.length σ H→D.nx σ H) :
  ∃ W:Nat→Nat→St→Hp→Prop,(∃ m,W 0 m σ H)∧∀ i m σ H,W i m σ H→
   ((Itk a o kvs).stop i H∧D.nx σ H)∨((Itk a o kvs).go i H∧∃ N:St→Hp→Prop,(∀ σ' H',N σ' H'→∃ m',m' < m∧W (i+1) m' σ' H')∧∀ x H',(Itk a o kvs).yld i H x H'→g x σ H' λσ2 H2=>tb { D with nx:=N,ct:=N,bk:=D.nx } σ2 H2):=by
 refine ⟨λi m σ H=>m=kvs.length - i∧i≤kvs.length∧Pv i σ H,⟨kvs.length,by simp,yV _,h0⟩,?_⟩
 rintro i m σ H ⟨rfl,hi,p⟩
 have q:=hl i σ H hi p
 by_cases hlt:i < kvs.length
 ·refine .inr ⟨⟨hlt,q⟩,Pv (i+1),λσ' H' p'=>⟨kvs.length - (i+1),by omega,rfl,hlt,p'⟩,λx H' y=>?_⟩
  obtain ⟨e,k,v,hk,ex⟩:=y
  subst e ex
  exact hs i k v σ _ hk p
 ·have e:i=kvs.length:=by omega
  subst e
  exact .inl ⟨⟨rfl,q⟩,hd σ H p⟩
end
end L2
namespace L2
open PySem PySem.Spec PyProof.Rows
section
variable {P:Program} {w:World} {A:Around} {E:Value→Shared→Prop} {s:Shared}
theorem Pr {it t:Addr} {i:Nat} {us:Array Value} {x:Value} {Q:Value→Shared→Prop} (hi:s.heap.IsTupleIter it t i) (ht:s.heap.IsTuple t us) (hx:us[i]? = some x)
  (q:∀ h',h'.IsTupleIter it t (i+1)→Heap.SameBut it s.heap h'→Q x { s with heap:=h' }):wpAny (model P w) A (Builtin.SmallTypes.nextOf (.ref it)) Q E s:=by
 obtain ⟨o,e0,ec,ed⟩:=id hi
 obtain ⟨ot,e1,_,n,e2⟩:=ht
 unfold Builtin.SmallTypes.nextOf
 refine zB (yP (name:=Str.ofString "__next__") hi.typeIs vO (xH vO hi.typeIs F.entry_tuple_iterator_next ?_ (F.args_tuple_iterator_next_1 _)))
 refine zB (m:=field (.ref it) 0) (xD e0 ed (x:=.ref t) rfl ?_)
 show wpAny _ _ (ite ((Value.ref t==Value.none)=true) _ _) _ _ s
 refine (if_neg (show ¬ (Value.ref t==Value.none)=true from zP))▸?_
 refine zB (m:=field (.ref it) 1) (xD e0 ed (x:=.int i 0) rfl ?_)
 refine zB (m:=seqItems? (.ref t)) (vV e1 e2 ?_)
 simp only [wX,hx]
 refine zB (wO e0 ed (by simp) (zH ⟨x,rfl,zH (q _ ⟨_,wF _ e0 (vK (wH ed _)),(tR ..).trans ec,?_⟩ (wE ..))⟩))
 rw [wH ed]
 simp [rawInt]
theorem Hh {it t:Addr} {i:Nat} {us:Array Value} {Q:Value→Shared→Prop} (hh:A.handled=none) (hi:s.heap.IsTupleIter it t i) (ht:s.heap.IsTuple t us) (hx:us[i]? = none)
  (q:∀ h' e,Heap.ExtBut it s.heap h'→(∃ o,h'.get? e=some o∧o.cls=.type "StopIteration")→E (.ref e) { s with heap:=h' }):wpAny (model P w) A (Builtin.SmallTypes.nextOf (.ref it)) Q E s:=by
 obtain ⟨o,e0,ec,ed⟩:=id hi
 obtain ⟨ot,e1,_,n,e2⟩:=ht
 unfold Builtin.SmallTypes.nextOf
 refine zB (yP (name:=Str.ofString "__next__") hi.typeIs vO (xH vO hi.typeIs F.entry_tuple_iterator_next ?_ (F.args_tuple_iterator_next_1 _)))
 refine zB (m:=field (.ref it) 0) (xD e0 ed (x:=.ref t) rfl ?_)
 show wpAny _ _ (ite ((Value.ref t==Value.none)=true) _ _) _ _ s
 refine (if_neg (show ¬ (Value.ref t==Value.none)=true from zP))▸?_
 refine zB (m:=field (.ref it) 1) (xD e0 ed (x:=.int i 0) rfl ?_)
 refine zB (m:=seqItems? (.ref t)) (vV e1 e2 ?_)
 simp only [wX,hx]
 refine zB (sO (zB (wO e0 ed (by simp) (zB (m:=newExc (.type "StopIteration") []) ?_))))
 simp only [newExc,newTuple,raiseNew]
 refine zB (xJ (zB (m:=firstArgMember _ _) (wpAny_of_eq (a:=Value.none) (by first | rfl | (simp only [firstArgMember]; rfl)) (xJ ?_ (by size_fits)))) (by size_fits))
 refine zB (wpAny_handled ?_)
 first | rw [show A.in1.handled=none from hh] | rw [hh]
 exact zB (zH (wpAny_throw (q _ _ (((wE ..).extBut.push _).push _) ⟨_,zN _ rfl,rfl⟩)))
theorem Zgg (hh:A.handled=none) (it t:Addr) (hne:t≠it) (us:Array Value):Draws P w A it [it,t] us.size (λi v=>us[i]? = some v) (λi h=>h.IsTupleIter it t i∧h.IsTuple t us) where
 live:=λ_ _ ⟨⟨o,e,_⟩,_⟩=>⟨o,e⟩
 frame:=λ_ _ _ ⟨a,b⟩ k=>⟨a.at λo e=>k it (by simp) o e,b.at λo e=>k t (by simp) o e⟩
 item:=λi s Q E hi st q=>Pr st.1 st.2 (x:=us[i]) (by simp [hi]) λh' a b=>q _ h' s.toks (by simp [hi]) ⟨a,st.2.extBut b.extBut hne⟩ b
 done:=λs Q E st q=>Hh hh st.1 st.2 (by simp) q
open AutoSeq1 (wpAny_loadPart') in
theorem Zga (t:Addr) (us:Array Value) (n:Nat) (dx:Option Addr) (sl:Array (Option Value)) :
  Meets (Builtin.«enumerate.__new__» ⟨[.type "enumerate",.ref t],[]⟩) (λ_ R s=>s.heap.get? t=some { cls:=.type "tuple",dict:=dx,data:=.seq us n,slots:=sl }∧
   R (.ok (.ret (.ref (s.heap.push { cls:=.type "tuple_iterator",data:=.fields #[.ref t,.int 0 0] }).objs.size))) { s with heap:=(s.heap.push { cls:=.type "tuple_iterator",data:=.fields #[.ref t,.int 0 0] }).push { cls:=.type "enumerate",data:=.fields #[.none,.bool false,.ref s.heap.objs.size,rawInt 0,.none,.none] } }):=
 .of_wp λprog w A R s h=>by
  obtain ⟨hp,g,d,tk,os⟩:=s
  obtain ⟨ht,q⟩:=h
  have Zmg:=sub_enumerate
  have hT:Heap.IsTuple (Shared.heap ⟨hp,g,d,tk,os⟩) t us:=⟨_,ht,rfl,n,rfl⟩
  wp_walk using yT ht
  refine wpAny_stack_any λst=>zH ?_
  split
  ·rename_i c _ _ _ _ _
   cases (c==Value.type "enumerate") <;> (wp_walk using yT ht,uF hT; exact ⟨_,rfl,q⟩)
  ·wp_walk using yT ht,uF hT
   exact ⟨_,rfl,q⟩
theorem Az {t:Addr} {us:Array Value} {Q:Value→Shared→Prop} (hT:s.heap.IsTuple t us)
  (q:∀ h',IsEnum h' (s.heap.objs.size+1) s.heap.objs.size 0 .none→h'.IsTupleIter s.heap.objs.size t 0→h'.objs.size=s.heap.objs.size+2→(∀ b o,s.heap.get? b=some o→h'.get? b=some o)→Q (.ref (s.heap.objs.size+1)) { s with heap:=h' }) :
  wpAny (model P w) A (call (.type "enumerate") [.ref t]) Q E s:=by
 obtain ⟨⟨c,dx,dt,sl⟩,ht,ec,n,ed⟩:=hT
 obtain rfl:c=.type "tuple":=ec
 obtain rfl:dt=.seq us n:=ed
 refine callType_new sU (by decide) (tX _) (sE _) (λobj=>sP obj _) sG (Zga t us n dx sl) ⟨ht,?_⟩
 have z:(s.heap.push { cls:=.type "tuple_iterator",data:=.fields #[.ref t,.int 0 0] }).objs.size=s.heap.objs.size+1:=xT ..
 show _∧_
 have en:=zN (s.heap.push { cls:=.type "tuple_iterator",data:=.fields #[.ref t,.int 0 0] }) (o:={ cls:=.type "enumerate",data:=.fields #[.none,.bool false,.ref s.heap.objs.size,rawInt 0,.none,.none] }) rfl
 rw [z] at en ⊢
 exact ⟨⟨_,en,rfl⟩,q _ en ⟨_,zG _ (zN _ rfl),rfl,rfl⟩ (by rw [xT,z]) λb o x=>zG _ (zG _ x)⟩
end
theorem Inv.Hv {X:Cx} {pins:List (Addr × Obj)} {σ:St} {H:Hp} {s:Shared} {h':Heap} {t':Nat} {fp:List Addr} (I:Inv X pins σ H s) (k:∀ b o,b∉fp→s.heap.get? b=some o→h'.get? b=some o) (hf:∀ b∈fp,Jj X pins H b) :
  Inv X pins σ H { s with heap:=h',toks:=t' }:=by
 have nit:∀ b u,H b=some u→b∉fp:=λb u e z=>by rw [(hf b z).1] at e; cases e
 refine I.step (g':=s.gens) (d':=s.drawn) (ch:=fp) (λb hb=>?_) (λb o _ _ hc e _=>k b o hc e) (λb o _ _ hc e _=>⟨o.slots,k b o hc e⟩) (λ_ _ _ _ n=>n) (λb o hc e=>⟨o,k b o hc e⟩) (λ_ _ e=>e) (λ_ _ _ e=>e) (λb ps e=>⟨#[],by rw [e]; simp⟩) (λm hm=>?_) (λb u e=>?_) I.bare
 ·obtain ⟨_,f1,_,f3,f4,f5⟩:=hf b hb
  exact ⟨f3,f1,f4,f5⟩
 ·obtain ⟨o,es,ep,ho,r⟩:=hm
  exact ⟨o,es,ep,k _ o (λz=>(hf _ z).2.1 rfl) ho,r⟩
 ·refine (I.hok b u e).Nj (λc v hc q=>k c v (λy=>?_) q) (λ_ q=>q) λ_ _ q=>q
  rcases hc with z | z
  ·rw [z] at y
   exact nit b u e y
  ·exact nit c _ z y
def ItE (Sq:Hp→List V→Prop):It:=
 ⟨λi H=>∃ xs x,Sq H xs∧xs[i]? = some x,λi H x H'=>∃ p y,x=.ref p∧H p=none∧H'=upd H p (.tup [.int i,y])∧∀ xs,Sq H xs→xs[i]? = some y,λi H=>∃ xs,Sq H xs∧xs.length=i⟩
theorem Qx {X:Cx} {pins:List (Addr × Obj)} {σ:St} {H:Hp} {s:Shared} {h1 h2:Heap} {e it:Addr} {i:Nat} {tk t':Nat} {u:Value} {y:V} (I:Inv X pins σ H s) (hf:∀ b∈[e,it],Jj X pins H b) (ru:RelV y u)
  (ht:h1.get? s.heap.objs.size=some { cls:=.type "tuple",data:=.seq #[.int i tk,u] }) (k:∀ b o,b≠e→b≠it→s.heap.get? b=some o→h1.get? b=some o) (sb:Heap.SameBut e h1 h2) (hel:e < s.heap.objs.size) (hil:it < s.heap.objs.size) :
  Inv X pins σ (upd H s.heap.objs.size (.tup [.int i,y])) { s with heap:=h2,toks:=t' }∧∀ b∈[e,it],upd H s.heap.objs.size (.tup [.int i,y]) b=none:=by
 have hn:∀ b∈[e,it],upd H s.heap.objs.size (.tup [.int i,y]) b=none:=λb hb=>by
  have hb':b=e∨b=it:=by simpa using hb
  have hlt:b < s.heap.objs.size:=by
   rcases hb' with z | z
   ·rw [z]; exact hel
   ·rw [z]; exact hil
  rw [Zi (yH hlt)]
  exact (hf b hb).1
 have I1:Inv X pins σ (upd H s.heap.objs.size (.tup [.int i,y])) { s with heap:=s.heap.push { cls:=.type "tuple",data:=.seq #[.int i tk,u] },toks:=s.toks }:=
  I.laid (λb o q=>zG _ q) (zI _) ⟨(by show 2≤sizeLine; decide),[.int i tk,u],.cons ⟨tk,rfl⟩ (.cons ru .nil),⟨_,zN _ rfl,rfl,_,rfl⟩⟩
 have I2:=I1.Hv (fp:=[e,it]) (h':=h2) (t':=t') (λb o hb q=>?_) (λb hb=>⟨hn b hb,(hf b hb).2⟩)
 ·exact ⟨I2,hn⟩
 have hb1:b≠e:=λz=>hb (by simp [z])
 have hb2:b≠it:=λz=>hb (by simp [z])
 refine (sb.2 b hb1).trans ?_
 rcases Heap.get?_push_cases q with ⟨z1,z2⟩ | z
 ·rw [z1,z2]
  exact ht
 ·exact k b o hb1 hb2 z
theorem C8 {P:Program} {w:World} {K:W.Frag} {es:List Expr} {n:Nat} {pos:Pos} (a e it:Addr) (hei:e≠it) :
  Turn P w K (.Tuple es n pos) (ItE λH xs=>SqL K H a xs) [e,it] e (λi h=>(∃ old,IsEnum h e it i old)∧h.IsListIter it a i) where
 mem:=by simp
 obj:=λi h st b hb=>by
  obtain ⟨⟨old,he⟩,oi,e1,c1,d1⟩:=st
  have hb':b=e∨b=it:=by simpa using hb
  rcases hb' with z | z
  ·subst z
   exact ⟨_,he,λv z=>by cases z⟩
  ·subst z
   exact ⟨oi,e1,λv z=>by rw [d1] at z; cases z⟩
 keep:=λi h h' st k=>⟨let ⟨old,he⟩:=st.1; ⟨old,k e (by simp) _ he⟩,st.2.at λo q=>k it (by simp) o q⟩
 item:=by
  intro X hP hw hK hc i pins s σ H E I hf st hg
  subst hP hw hK
  obtain ⟨xs,x,hq,hx⟩:=hg
  obtain ⟨its,rv,p,hz⟩:=I.list hq
  obtain ⟨u,hu,ru⟩:=rv.get hx
  obtain ⟨⟨old,he⟩,hit⟩:=st
  have hel:=zL he
  have hil:it < s.heap.objs.size:=by obtain ⟨o,q,_⟩:=id hit; exact zL q
  refine wpAny_pyNext_enum_item he hit p.isList (x:=u) (by simpa using hu) hei λh1 heo Ak ht1 hz1 hk1=>⟨_,rfl,?_⟩
  refine vP heo λh2 he2 sb=>?_
  obtain ⟨I2,hn⟩:=Qx (t':=s.toks+1) I hf ru ht1 hk1 sb hel hil
  exact ⟨.ref s.heap.objs.size,_,I2,rfl,⟨_,x,rfl,I.hok.fresh (zI _),rfl,λys hy=>by rw [I.Dz hy hq]; exact hx⟩,⟨⟨_,by simpa using he2⟩,Ak.at λo q=>(sb.2 it (xV hei)).trans q⟩,hn⟩
 done:=by
  intro X hP hw hK hc i pins s σ H E I hf st hg
  subst hP hw hK
  obtain ⟨xs,hq,hx⟩:=hg
  obtain ⟨its,rv,p,hz⟩:=I.list hq
  have hl:=rv.length
  obtain ⟨⟨old,he⟩,hit⟩:=st
  obtain ⟨f0,f1,f2,f3,f4,f5⟩:=hf it (by simp)
  exact wpAny_pyNext_enum_end (I.ok.hd hc) he hit p.isList (by simp; omega) λh' eb=>⟨rfl,I.turned (t':=s.toks) (λb o hb q=>eb b o hb q) f0 f1 f3 f4 f5⟩
 self:=λ_ _ _ _ _ st h=>let ⟨_,he⟩:=st.1; wP he h
theorem C7 {P:Program} {w:World} {K:W.Frag} {es:List Expr} {n:Nat} {pos:Pos} (a e it:Addr) (hei:e≠it) :
  Turn P w K (.Tuple es n pos) (ItE λH xs=>SqT K H a xs) [e,it] e (λi h=>(∃ old,IsEnum h e it i old)∧h.IsTupleIter it a i) where
 mem:=by simp
 obj:=λi h st b hb=>by
  obtain ⟨⟨old,he⟩,oi,e1,c1,d1⟩:=st
  have hb':b=e∨b=it:=by simpa using hb
  rcases hb' with z | z
  ·subst z
   exact ⟨_,he,λv z=>by cases z⟩
  ·subst z
   exact ⟨oi,e1,λv z=>by rw [d1] at z; cases z⟩
 keep:=λi h h' st k=>⟨let ⟨old,he⟩:=st.1; ⟨old,k e (by simp) _ he⟩,st.2.at λo q=>k it (by simp) o q⟩
 item:=by
  intro X hP hw hK hc i pins s σ H E I hf st hg
  subst hP hw hK
  obtain ⟨xs,x,hq,hx⟩:=hg
  obtain ⟨its,rv,p,hz⟩:=I.tuple hq
  have hl:=rv.length
  have hlt:i < its.toArray.size:=by
   have:=(zF.mp hx).1
   simp
   omega
  obtain ⟨⟨old,he⟩,hit⟩:=st
  have hel:=zL he
  have hT:s.heap.IsTuple a its.toArray:=p
  have hil:it < s.heap.objs.size:=by obtain ⟨o,q,_⟩:=id hit; exact zL q
  have nat:a≠it:=λz=>by
   obtain ⟨o,q,c,_⟩:=id hit
   obtain ⟨o2,q2,c2,_⟩:=id hT
   rw [z,q] at q2
   cases q2
   rw [c] at c2
   injection c2 with c2
   exact absurd c2 (by decide)
  have nae:a≠e:=λz=>by
   obtain ⟨o2,q2,c2,_⟩:=id hT
   rw [z,he] at q2
   cases q2
   injection c2 with c2
   exact absurd c2 (by decide)
  have hef:e∉[it,a]:=by simp [hei,xV nae]
  refine tO (Zgg (A:=X.A.in1) (I.ok.hd hc) it a nat its.toArray) he ⟨hit,hT⟩ hlt hei hef λu h1 tk hu heo Ak ht1 hz1 hk1=>⟨_,rfl,?_⟩
  refine vP heo λh2 he2 sb=>?_
  obtain ⟨u',hu',ru⟩:=rv.get hx
  have eu:u=u':=by
   have h3:its[i]? = some u:=by simpa using hu
   rw [hu'] at h3
   exact (Option.some.inj h3).symm
  subst eu
  obtain ⟨I2,hn⟩:=Qx (t':=tk+1) I hf ru ht1 hk1 sb hel hil
  exact ⟨.ref s.heap.objs.size,_,I2,rfl,⟨_,x,rfl,I.hok.fresh (zI _),rfl,λys hy=>by rw [I.Qp hy hq]; exact hx⟩,⟨⟨_,by simpa using he2⟩,Ak.1.at λo q=>(sb.2 it (xV hei)).trans q⟩,hn⟩
 done:=by
  intro X hP hw hK hc i pins s σ H E I hf st hg
  subst hP hw hK
  obtain ⟨xs,hq,hx⟩:=hg
  obtain ⟨its,rv,p,hz⟩:=I.tuple hq
  have hl:=rv.length
  obtain ⟨⟨old,he⟩,hit⟩:=st
  have hT:s.heap.IsTuple a its.toArray:=p
  have nat:a≠it:=λz=>by
   obtain ⟨o,q,c,_⟩:=id hit
   obtain ⟨o2,q2,c2,_⟩:=id hT
   rw [z,q] at q2
   cases q2
   rw [c] at c2
   injection c2 with c2
   exact absurd c2 (by decide)
  obtain ⟨f0,f1,f2,f3,f4,f5⟩:=hf it (by simp)
  have ei:i=its.toArray.size:=by simp; omega
  subst ei
  exact tY (Zgg (A:=X.A.in1) (I.ok.hd hc) it a nat its.toArray) he ⟨hit,hT⟩ λh' eb=>⟨rfl,I.turned (t':=s.toks) (λb o hb q=>eb b o hb q) f0 f1 f3 f4 f5⟩
 self:=λ_ _ _ _ _ st h=>let ⟨_,he⟩:=st.1; wP he h
section
variable {X:Cx} {es:List Expr} {n:Nat} {tp:Pos}
def Zow (K:W.Frag) (te:TE):TI:=λσ H R=>te σ H λx H1=>∃ a xs,x=.ref a∧((SqL K H1 a xs∧R (ItE λH xs=>SqL K H a xs) H1)∨(SqT K H1 a xs∧R (ItE λH xs=>SqT K H a xs) H1))
theorem Le {K:W.Frag} {e:Expr} {te:TE} {p pos:Pos} (hg:Gl X "enumerate") (hm:X.mg "enumerate" = none) (he:PE X e te) (hK:X.K=K:=by rfl)
  (h2:starEach [e] X.env=(false,eval e X.env) :: starEach [] X.env:=by rfl):PI X (.Tuple es n tp) (.Call (.Name "enumerate" p) [e] [] pos) (Zow K te):=by
 subst hK
 intro pins s σ H R I h
 refine yW (U9 I hg hm Sv (xM (thn (Za he Zc h2 pos pins s σ H (λvs H1=>match vs with | [x]=>∃ a xs,x=.ref a∧((SqL X.K H1 a xs∧R (ItE λH xs=>SqL X.K H a xs) H1)∨(SqT X.K H1 a xs∧R (ItE λH xs=>SqT X.K H a xs) H1)) | _=>False) I h) λus s1 ⟨vs,H1,I1,r1,q1⟩=>?_) h2 rfl))
 obtain ⟨x0,e0,a,xs,e1,q⟩:∃ x0,vs=[x0]∧∃ a xs,x0=.ref a∧((SqL X.K H1 a xs∧R (ItE λH xs=>SqL X.K H a xs) H1)∨(SqT X.K H1 a xs∧R (ItE λH xs=>SqT X.K H a xs) H1)):=by
  match vs,q1 with
  | [x0],q1=>exact ⟨x0,rfl,q1⟩
 subst e0 e1
 obtain ⟨u,rfl,ru⟩:=Vals.one r1
 obtain rfl:u=Value.ref a:=ru
 have fp:∀ b∈[s1.heap.objs.size+1,s1.heap.objs.size],Jj X pins H1 b:=λb hb=>by
  have hb':b=s1.heap.objs.size+1∨b=s1.heap.objs.size:=by simpa using hb
  rcases hb' with z | z
  ·rw [z]; exact I1.N9 (xP _) (I1.hok.fresh (xP _))
  ·rw [z]; exact I1.N9 (zI _) (I1.hok.fresh (zI _))
 rcases q with ⟨hx,q⟩ | ⟨hx,q⟩
 ·obtain ⟨its,rv,pl,hz⟩:=I1.list hx
  refine call_enumerate_list pl.isList λh' hE hI hsz hk=>wP hE ?_
  exact ⟨_,[s1.heap.objs.size+1,s1.heap.objs.size],_,_,H1,rfl,I1.kept (t':=s1.toks) hk,C8 a _ _ (sC _),⟨⟨_,hE⟩,hI⟩,fp,q⟩
 ·obtain ⟨its,rv,pl,hz⟩:=I1.tuple hx
  refine Az (show s1.heap.IsTuple a its.toArray from pl) λh' hE hI hsz hk=>wP hE ?_
  exact ⟨_,[s1.heap.objs.size+1,s1.heap.objs.size],_,_,H1,rfl,I1.kept (t':=s1.toks) hk,C7 a _ _ (sC _),⟨⟨_,hE⟩,hI⟩,fp,q⟩
end
theorem Ja {Sq:Hp→List V→Prop} {xs:List V} {g:TG} {tb:TS} {D:Ends} {σ:St} {H:Hp} (Pv:Nat→St→Hp→Prop) (h0:Pv 0 σ H) (hl:∀ i σ H,i≤xs.length→Pv i σ H→Sq H xs)
  (hs:∀ i x σ H p,xs[i]? = some x→Pv i σ H→H p=none→g (.ref p) σ (upd H p (.tup [.int i,x])) λσ2 H2=>tb { D with nx:=Pv (i+1),ct:=Pv (i+1),bk:=D.nx } σ2 H2) (hd:∀ σ H,Pv xs.length σ H→D.nx σ H) :
  ∃ W:Nat→Nat→St→Hp→Prop,(∃ m,W 0 m σ H)∧∀ i m σ H,W i m σ H→
   ((ItE Sq).stop i H∧D.nx σ H)∨((ItE Sq).go i H∧∃ N:St→Hp→Prop,(∀ σ' H',N σ' H'→∃ m',m' < m∧W (i+1) m' σ' H')∧∀ x H',(ItE Sq).yld i H x H'→g x σ H' λσ2 H2=>tb { D with nx:=N,ct:=N,bk:=D.nx } σ2 H2):=by
 refine ⟨λi m σ H=>m=xs.length - i∧i≤xs.length∧Pv i σ H,⟨xs.length,by simp,yV _,h0⟩,?_⟩
 rintro i m σ H ⟨rfl,hi,p⟩
 have q:=hl i σ H hi p
 by_cases hlt:i < xs.length
 ·refine .inr ⟨⟨xs,xs[i],q,by simp [hlt]⟩,Pv (i+1),λσ' H' p'=>⟨xs.length - (i+1),by omega,rfl,hlt,p'⟩,λx H' y=>?_⟩
  obtain ⟨a,y,e1,hn,e2,hy⟩:=y
  subst e1 e2
  exact hs i y σ H a (hy xs q) p hn
 ·have e:i=xs.length:=by omega
  subst e
  exact .inl ⟨⟨xs,q,rfl⟩,hd σ H p⟩
def Md {Sq:Hp→List V→Prop} {xs:List V} {n:Nat} {fr:List Nat} {g:TG} {tt:TT} {te:TE} {σ:St} {H:Hp} {Q:VK} (Pv:Nat→List V→Hp→Prop) (hk:xs.length < sizeLine) (h0:Pv 0 [] H) (hlen:∀ i acc H,Pv i acc H→acc.length≤i)
  (hl:∀ i acc H,Pv i acc H→Sq H xs)
  (hs:∀ i acc H2 x p,xs[i]? = some x→Pv i acc H2→H2 p=none→g (.ref p) (Uw n fr σ) (upd H2 p (.tup [.int i,x])) λσ4 H4=>tt σ4 H4 λb H5=>if b=true then te σ4 H5 λv H6=>Pv (i+1) (acc ++ [v]) H6 else Pv (i+1) acc H5)
  (hd:∀ acc H2,Pv xs.length acc H2→∀ l,H2 l=none→Q (.ref l) (upd H2 l (.lst acc))):=
 Vz (J:=ItE Sq) (n:=n) (fr:=fr) (g:=g) (tt:=tt) (te:=te) (σ:=σ) (Q:=Q) Pv hk h0 hlen (λi acc H hi p=>⟨xs,xs[i],hl i acc H p,by simp [hi]⟩) (λacc H p=>⟨xs,hl _ acc H p,rfl⟩) (λi acc H2 x H3 hi p y=>by
  obtain ⟨a,y,e1,hn,e2,hy⟩:=y
  subst e1 e2
  exact hs i acc H2 y a (hy xs (hl i acc H2 p)) p hn) hd
end L2
namespace L2
open PySem PySem.Spec PyProof.Rows
section
variable {P:Program} {w:World} {κ:Type} [DecidableEq κ] {knd:HeapKind P w κ} {A:Around} {E:Value→Shared→Prop} {s:Shared}
theorem Ex {d a:Addr} {xs:List (κ × Addr × Value)} {k:κ} {dflt:Value} {Q:Value→Shared→Prop} (hu:knd.room A) (Aj:knd.is s.heap k a) (hm:s.heap.DictOfH knd d xs) (hsz:xs.length≤sizeLine)
  (h1:∀ p,atKey xs k=some p→Q p.2 { s with toks:=s.toks+knd.draws k }) (h2:atKey xs k=none→∀ h',h'.DictOfH knd d (storedH xs k a dflt)→Heap.SameBut d s.heap h'→Q dflt { s with heap:=h',toks:=s.toks+knd.draws k }) :
  wpAny (model P w) A (dictSetDefault d (.ref a) dflt) Q E s:=by
 obtain ⟨o,es,ep,ho,hc,hd,he,his,hn⟩:=hm
 unfold dictSetDefault
 try with_reducible refine xQ ?_
 refine zB (knd.pyHash hu Aj (zB (wpAny_dictFind_heap (s:={ s with toks:=s.toks+knd.draws k }) hu Aj ho hd he his hn (λno=>?_) λj p hj=>?_)))
 ·have h0:=atKey_none_of_get no
  have e:=storedH_new h0 a dflt
  have z:=size_of_entries he
  refine zB (sO (zB (wpAny_updateDictKeys (hz:=by omega) (s:={ s with toks:=s.toks+knd.draws k }) ho hd (zH (h2 h0 _ ?_ (wE ..))))))
  refine ⟨_,_,ep+1,wF _ ho (Obj.isFreed_of_dict (Obj.data_mapDictKeys hd _)),hc.mapDictKeys _,Obj.data_mapDictKeys hd _,?_,?_,?_⟩ <;> rw [e]
  ·simp [he,entryOfKey]
  ·intro x hx
   rcases yS.mp hx with y | y
   ·exact knd.keeps (his x y) ho hd (wE ..)
   ·rw [zT.mp y]
    exact knd.keeps Aj ho hd (wE ..)
  ·rw [zZ,vQ]
   refine ⟨hn,by simp,λx hx y hy q=>not_mem_keys_of_get no ?_⟩
   have:y=k:=by simpa using hy
   rw [← this,← q]
   exact hx
 ·refine zB (wY (s:={ s with toks:=s.toks+knd.draws k }) ho hd ?_)
  rw [entry_at he j,hj]
  exact zB (sO (zH (h1 p (atKey_of_get hn hj))))
theorem Jw {d a:Addr} {k:κ} (hs:(d==sysModules)=false) (dflt:Value) :
  MeetsIn P w (Builtin.«dict.setdefault» ⟨[.ref d,.ref a,dflt],[]⟩) (λA R s=>knd.room A.in1∧knd.is s.heap k a∧∃ xs,s.heap.DictOfH knd d xs∧xs.length≤sizeLine∧
   (∀ p,atKey xs k=some p→R (.ok (.ret p.2)) { s with toks:=s.toks+knd.draws k })∧(atKey xs k=none→∀ h',h'.DictOfH knd d (storedH xs k a dflt)→Heap.SameBut d s.heap h'→R (.ok (.ret dflt)) { s with heap:=h',toks:=s.toks+knd.draws k })):=
 .of_wp λA R s ⟨hu,hk,xs,hm,hz,h1,h2⟩=>by
  unfold Builtin.«dict.setdefault» Builtin.Dict.keyAndDefault
  refine zB (zB (wpAny_notOrdered_dict hm.typeIs (zH ?_)))
  show wpAny _ _ (ite ((d==sysModules)=true) _ (dictSetDefault d (.ref a) dflt >>= _)) _ _ s
  rw [hs,if_neg zP]
  exact zB (Ex hu hk hm hz (λp q=>zH ⟨_,rfl,h1 p q⟩) λn h' a b=>zH ⟨_,rfl,h2 n h' a b⟩)
end
section
variable {X:Cx}
def Zkt (td ty tx:TE):TE:=λσ H Q=>td σ H λx H1=>∃ a,x=.ref a∧IsD H1 a∧ty σ H1 λy H2=>tx σ H2 λz H3=>∃ kvs k b,H3 a=some (.dT kvs)∧y=.ref b∧H3 b=some (.tup (k.map kV))∧kvs.length < sizeLine∧
 (∀ v,X0 kvs k=some v→Q v H3)∧(X0 kvs k=none→Q z (upd H3 a (.dT (putK kvs k z))))
theorem Dd {o e f:Expr} {apos Wd:Pos} {td ty tx:TE} (hu:X.A.units+1 < cLine) (ho:PE X o td) (he:PE X e ty) (hf:PE X f tx) (m:M2 X o "setdefault" apos e f Wd):PE X (.Call (.Attribute o "setdefault" apos) [e,f] [] Wd) (Zkt td ty tx):=by
 intro pins s σ H Q I h
 refine wpAny_Call_method m.base m.few m.line PySem.F.plainAttrs_dict vB PySem.F.type_dict_setdefault (thn (ho pins s σ H _ I h) λu s1 ⟨x,H1,I1,rx,a,ex,d,q1⟩=>?_)
 subst ex
 obtain rfl:u=Value.ref a:=rx
 obtain ⟨t1,t2,_⟩:=Zmb I1 d
 refine ⟨t1,t2,?_⟩
 rw [m.trees]
 refine tW rfl (sK (vF (thn (he pins s1 σ H1 _ I1 q1) λiv s2 ⟨y,H2,I2,ry,q2⟩=>
  vF (thn (hf pins s2 σ H2 _ I2 q2) λfv s3 ⟨z,H3,I3,rz,kvs,k,b,hk,ey,hb,hlt,q3,q4⟩=>tQ ?_))))
 subst ey
 obtain rfl:iv=Value.ref b:=ry
 obtain ⟨hz,hsm,xs,rel,dd⟩:=Zgf I3.hok hk
 have hxl:xs.length≤sizeLine:=by rw [← vM rel]; exact hz
 refine call_meetsIn vB dd.typeIs PySem.F.entry_dict_setdefault (sQ _ _ _) (Jw (knd:=tupleKind (Yy X.prog X.w)) (k:=k) hsm fv) ⟨tupleKind_room_in1 hu,N6 I3.hok hb,xs,dd,hxl,λp hp=>?_,λhn h' dd' hs=>?_⟩
 ·have r:=rel.val k
  rw [hp] at r
  cases hv:X0 kvs k with
  | none=>rw [hv] at r; exact r.elim
  | some v=>
   rw [hv] at r
   exact ⟨v,H3,I3.tok _,r,q3 v hv⟩
 ·have r:=rel.val k
  rw [hn] at r
  have hv:X0 kvs k=none:=by
   cases hv:X0 kvs k with
   | none=>rfl
   | some v=>rw [hv] at r; exact r.elim
  have hl:(putK kvs k z).length≤sizeLine:=by have:=Vy kvs k z; omega
  obtain ⟨q,es,ep,hq,h2,h3,h4,_,h5⟩:=dd'
  refine ⟨z,upd H3 a (.dT (putK kvs k z)),Qy I3 (by rw [hk]; exact True.intro) hs ⟨q,hq⟩ ⟨hl,hsm,_,(rel.put k hb rz).keeps λc ys ec=>?_,q,es,ep,hq,h2,h3,h4,h5⟩,rz,q4 hv⟩
  rw [Zi (Xm ec hk (λz=>nomatch z))]
  exact ec
end
end L2
namespace L2
open PySem PySem.Spec PyProof.Rows
def isB (b:Bool):Value→Bool
 | .bool c=>b==c
 | _=>false
theorem K7 {b:Bool} {v:Value} (h:isB b v=true):v=.bool b:=by
 cases v <;> simp_all [isB]
def Jg (P:Program) (w:World):PySem.KeyKind P w Bool where
 is:=isB
 hash:=λb=>reduceHash (if b then 1 else 0)
 inj:=λv a b ha hb=>by
  rw [K7 ha] at hb
  exact (eq_of_beq hb).symm
 byValue:=λk v h=>by rw [K7 h]; rfl
 pyHash:=λ{A E s k v Q} hv h=>by
  rw [K7 hv]
  refine W.pyHash_slot (T:="bool") rfl F.slot_bool_hash entry_int_hash (args_int_hash _) (beq_builtin_none _) (.inl rfl) ?_
  cases k
  ·exact (show wpAny _ _ (do ret (← mkInt 0)) _ _ s from zB (wpAny_mkInt (zH ⟨_,_,rfl,h⟩)))
  ·exact (show wpAny _ _ (do ret (← mkInt 1)) _ _ s from zB (wpAny_mkInt (zH ⟨_,_,rfl,h⟩)))
 eqBool:=λ{A E s a b u v Q} hu hv h=>by
  rw [K7 hu,K7 hv]
  exact PySem.SeqAt.EqAt.bool_bool a b P w E Q (by cases a <;> cases b <;> exact h)
 «strs»:=λk x t v h=>by cases h
theorem C4 {κ:Type} [DecidableEq κ] {kvs:List (κ × Value)} {k:κ} (h:valueAt kvs k=none) (v:Value) (x:κ):valueAt (stored kvs k v) x=if x=k then some v else valueAt kvs x:=by
 have hn:kvs.find? (λkv=>decide (kv.1=k))=none:=by
  unfold valueAt at h
  exact Option.map_eq_none_iff.mp h
 have ha:kvs.any (λkv=>decide (kv.1=k))=false:=by
  rw [List.find?_eq_none] at hn
  rw [List.any_eq_false]
  exact hn
 unfold stored
 rw [ha,if_neg zP]
 unfold valueAt
 rw [List.find?_append]
 by_cases c:x=k
 ·subst c
  rw [hn,if_pos rfl]
  simp
 ·rw [if_neg c]
  have:([(k,v)]:List (κ × Value)).find? (λkv=>decide (kv.1=x))=none:=by simp [xV c]
  rw [this,Option.or_none]
def Cn (P:Program) (w:World) (a:Addr) (f:Bool→Option V) (n:Nat):HO:=.ext λh=>(a==sysModules)=false∧∃ kvs,h.DictOf (Jg P w) a kvs∧kvs.length≤n∧∀ b,Px (f b) (valueAt kvs b)
theorem Zb1 {P:Program} {w:World} {H:Hp} {h:Heap} {a:Addr} {f:Bool→Option V} {n:Nat} {kvs:List (Bool × Value)} (hs:(a==sysModules)=false) (d:h.DictOf (Jg P w) a kvs) (hn:kvs.length≤n) (r:∀ b,Px (f b) (valueAt kvs b)):Yl P w H h a (Cn P w a f n):=by
 refine ⟨⟨hs,kvs,d,hn,r⟩,let ⟨o,_,_,e,_⟩:=d; ⟨o,e⟩,λh1 h2 x k=>?_⟩
 obtain ⟨a1,kvs,⟨o,es,ep,e,r⟩,a3,a4⟩:=x
 exact ⟨a1,kvs,⟨o,es,ep,k o e,r⟩,a3,a4⟩
section
variable {X:Cx} {pos:Pos}
def Zkx (P:Program) (w:World):TE:=λ_ H Q=>∀ p,H p=none→Q (.ref p) (upd H p (Cn P w p (λ_=>none) 0))
theorem Zez {P:Program} {w:World} (hP:X.prog=P:=by rfl) (hw:X.w=w:=by rfl):PE X (.Dict [] [] pos) (Zkx P w):=by
 subst hP hw
 exact λpins s σ H Q I h=>
 wpAny_Dict_empty ⟨.ref s.heap.objs.size,_,I.laid (a:=s.heap.objs.size) (o:=Cn X.prog X.w s.heap.objs.size (λ_=>none) 0) (t':=s.toks) (λ_ _ q=>zG _ q) (zI _) (Zb1 (beq_eq_false_iff_ne.mpr (xV (yH I.big))) (Heap.DictOf.new s.heap) (yV _) λ_=>True.intro),rfl,h _ (I.hok.fresh (zI _))⟩
def Zku (P:Program) (w:World) (td ty tx:TE):TE:=λσ H Q=>td σ H λx H1=>∃ a f n,x=.ref a∧H1 a=some (Cn P w a f n)∧ty σ H1 λy H2=>tx σ H2 λz H3=>∃ b f n,H3 a=some (Cn P w a f n)∧y=.bl b∧n < sizeLine∧
 (∀ v,f b=some v→Q v H3)∧(f b=none→Q z (upd H3 a (Cn P w a (λx=>if x=b then some z else f x) (n+1))))
theorem Zex {P:Program} {w:World} {o e g:Expr} {apos Wd:Pos} {td ty tx:TE} (ho:PE X o td) (he:PE X e ty) (hf:PE X g tx) (m:M2 X o "setdefault" apos e g Wd) (hP:X.prog=P:=by rfl) (hw:X.w=w:=by rfl):PE X (.Call (.Attribute o "setdefault" apos) [e,g] [] Wd) (Zku P w td ty tx):=by
 subst hP hw
 intro pins s σ H Q I h
 refine wpAny_Call_method m.base m.few m.line PySem.F.plainAttrs_dict vB PySem.F.type_dict_setdefault (thn (ho pins s σ H _ I h) λu s1 ⟨x,H1,I1,rx,a,f,n,ex,d,q1⟩=>?_)
 subst ex
 obtain rfl:u=Value.ref a:=rx
 obtain ⟨⟨_,kvs1,d1,_⟩,_⟩:=I1.hok a _ d
 refine ⟨d1.typeIs,λb e=>?_,?_⟩
 ·cases e
  obtain ⟨o,_,_,ho,hc,_⟩:=d1
  exact ⟨o,ho,hc.2.1⟩
 rw [m.trees]
 refine tW rfl (sK (vF (thn (he pins s1 σ H1 _ I1 q1) λiv s2 ⟨y,H2,I2,ry,q2⟩=>
  vF (thn (hf pins s2 σ H2 _ I2 q2) λfv s3 ⟨z,H3,I3,rz,b,f,n,hk,ey,hlt,q3,q4⟩=>tQ ?_))))
 subst ey
 obtain rfl:iv=Value.bool b:=ry
 obtain ⟨⟨hsm,kvs,dd,hl,rel⟩,_⟩:=I3.hok a _ hk
 refine call_meetsIn vB dd.typeIs PySem.F.entry_dict_setdefault (sQ _ _ _) (kt_meets_setdefault (Jg X.prog X.w) (k:=b) a (by show (b==b)=true; simp) hsm fv) ⟨kvs,dd,by omega,λw' hw=>?_,λhn h' dd' hs=>?_⟩
 ·have r:=rel b
  rw [hw] at r
  cases hv:f b with
  | none=>rw [hv] at r; exact r.elim
  | some v=>
   rw [hv] at r
   exact ⟨v,H3,I3.tok _,r,q3 v hv⟩
 ·have r:=rel b
  rw [hn] at r
  have hv:f b=none:=by
   cases hv:f b with
   | none=>rfl
   | some v=>rw [hv] at r; exact r.elim
  refine ⟨z,upd H3 a (Cn X.prog X.w a (λx=>if x=b then some z else f x) (n+1)),Qy I3 (by rw [hk]; exact True.intro) hs (let ⟨q,_,_,e,_⟩:=dd'; ⟨q,e⟩) (Zb1 hsm dd' (yG (stored_length_le _ _ _) (by omega)) λx=>?_),rz,q4 hv⟩
  rw [C4 hn]
  by_cases c:x=b
  ·rw [if_pos c,if_pos c]
   exact rz
  ·rw [if_neg c,if_neg c]
   exact rel x
end
end L2
namespace L2
open PySem PySem.Spec PyProof.Rows
def V2 (ns:List Int):List Int:=firstMet (λi=>ns.getD i 0) ns.length
theorem Lp:∀ {ns:List Int} {us:List Value},Vals (ns.map V.int) us→IntsAre us ns
 | [],_,r=>by cases r; exact .nil
 | n :: ns,_,r=>by
  cases r with
  | cons h t=>
   obtain ⟨k,rfl⟩:=h
   exact .cons _ _ (Lp t)
section
variable {X:Cx}
inductive Zek (K:W.Frag) (xs:List V) (H:Hp) (Q:VK):Prop
 | mk (p ns:_) (h1:xs=[.ref p]) (h2:SqL K H p (ns.map V.int)) (h3:ns.length+1 < scanBound) (h4:∀ l,H l=none→Q (.ref l) (upd H l (.set (λk=>(V2 ns).any (· == k)) (V2 ns).length))):Zek K xs H Q
def Zoa (K:W.Frag):List V→Hp→VK→Prop:=λxs H Q=>Zek K xs H Q
theorem Q7 {K:W.Frag} (hc:X.calm=true) (hK:X.K=K:=by rfl):Xx X (.type "set") (Zoa K):=by
 subst hK
 intro pins s σ H xs us Q I r h
 obtain ⟨p,ns,rfl,hp,hz,q⟩:=h
 obtain ⟨u,rfl,ru⟩:=vals1 r
 obtain rfl:u=Value.ref p:=ru
 obtain ⟨its,rv,pl,_⟩:=I.list hp
 have hl:its.toArray.size=ns.length:=by rw [zR,← rv.length,zA]
 refine PySem.call_set_list (I.ok.hd hc) pl.isList (ns:=ns) (Lp rv) (by rw [hl]; exact hz) λh' tk hS k=>?_
 rw [hl] at hS
 exact ⟨.ref s.heap.objs.size,_,I.laid (λb o e=>k b o (zL e) e) (zI _) (show Yl X.prog X.w _ h' _ (.set (λk=>(V2 ns).any (· == k)) (V2 ns).length) from hS),rfl,q _ (I.hok.fresh (zI _))⟩
theorem U4:Xx X (.builtin "len") (λxs H Q=>∃ p S n,xs=[.ref p]∧H p=some (.set S n)∧Q (.int (n:Int)) H):=by
 intro pins s σ H xs us Q I r h
 obtain ⟨p,S,n,rfl,hp,q⟩:=h
 obtain ⟨u,rfl,ru⟩:=vals1 r
 obtain rfl:u=Value.ref p:=ru
 obtain ⟨o,es,ep,t,ho,hex,hd,_,_,hb,hf,hn⟩:=(show s.heap.SetOf (intKind X.prog X.w) p S n from I.hok p _ hp)
 subst hn
 exact call_len_set ho hex hd hf (by have h:scanBound≤2 ^ 62:=(by decide); omega) ⟨.int (es.size:Int),H,I.tok _,⟨_,rfl⟩,q⟩
end
end L2
namespace L2
open PySem PySem.Spec PyProof.Rows
def Znv (P:Addr) (L:List (Pos × Str)) (fdOf:Value→Addr→Value→FuncData) (q:Str) (i:Nat):TS:=λD σ H=>Tb P L H∧
 ∀ H' f c ct doc,Ut P H H'→Tb P L H'→H f=none→H' f=some (FnO f (fdOf doc c ct))→H' c=some (CdO c q)→D.nx (σ.set i (some (.ref f))) H'
section
variable {X:Cx} {name:Str} {params:Arguments} {body:List Stmt} {scope:Scope} {pos:Pos} {c P:Addr} {L:List (Pos × Str)} {i:Nat}
theorem Gp (hN:X.N.Nodup) (hi:X.N[i]? = some name) (hx:Loc X.env.scope name) (R0:X.env.code=.ref c) (C:W.CodeHd X.base c P) (hB:Oh X.mg X.base) (hL:(pos,qualnameIn X.env name name)∈L) (hu:∀ x∈L,x.1.line=pos.line→x.1.col=pos.col→x.2=qualnameIn X.env name name)
  (hd0:params.defaults=[]:=by rfl) (hk0:params.kw_defaults=[]:=by rfl) (ha:annTrees params none X.env=[]:=by rfl) {sc:Scope} (hsc:X.env.scope=sc:=by rfl) (hfr:∀ y∈scope.names,y.2=NameKind.free→sc.names.lookup y.1=some .cell∨sc.names.lookup y.1=some .free:=by decide +kernel)
  (hf:X.fn name=true∨X.env.scope.names.lookup name=some .local:=by first | exact .inl rfl | exact .inr rfl | assumption) :
  PS X (.FunctionDef name params body [] none [] scope none name pos) (Znv P L (λdoc c ct=>W.fnX name (qualnameIn X.env name name) params body scope (Uq X.env scope.names []) .none .none doc ((X.mg "__name__").getD .none) none (.ref c) ct) (qualnameIn X.env name name) i):=by
 intro pins s σ H D I ⟨⟨ps,hP,ht,hT⟩,hq⟩
 have hPo:s.heap.get? P=some (W.tabObj ps):=I.hok P _ hP
 have hg:=I.mod.glob.keeps I.bk
 have hb:=(hB.keeps I.bk).at_ hg hPo
 have hcl:∀ y∈scope.names,y.2=NameKind.free→∃ c,X.env.cells.lookup y.1=some c:=λy hy e=>I.ok.has y.1 (by subst hsc; exact hfr y hy e)
 refine W.nestDef_K hd0 hk0 ha (thn (Q:=EP X pins σ λv H'=>D.nx (σ.set i (some v)) H') ?_ λu s1 ⟨v,H1,I1,r1,q1⟩=>Rj I1 hN hi hx r1 (λs2 I2=>⟨_,H1,I2,q1⟩) hf)
 rcases hT _ hL with hn | ⟨c2,hc,hcd⟩
 ·refine W.makeFunction_K (mg:=X.mg) (Up hcl) I.ok.glob hg R0 (C.keeps I.bk) hPo ht hn (Zj3 hg hPo) hb λc' ctv doc h' tk hx' hge hlt Zfr htb=>?_
  exact Zbg (fdOf:=λc ct=>W.fnX name (qualnameIn X.env name name) params body scope (Uq X.env scope.names []) .none .none doc ((X.mg "__name__").getD .none) none (.ref c) ct) I hP ht hT hu (λH' f c ct a b d e g=>hq H' f c ct doc a b d e g) hn hx' hge hlt Zfr htb
 ·refine W.makeFunction_hit (mg:=X.mg) (Up hcl) I.ok.glob hg R0 (C.keeps I.bk) hPo ht hc hb λctv doc h' tk hk hsz=>?_
  have nf:H h'.objs.size=none:=I.hok.fresh hsz
  refine ⟨.ref h'.objs.size,_,I.laid (t':=tk) (λb u e=>zG _ (hk b u e)) hsz (Am (zN _ rfl)),rfl,?_⟩
  have e0:Zr H (upd H h'.objs.size (FnO h'.objs.size (W.fnX name (qualnameIn X.env name name) params body scope (Uq X.env scope.names []) .none .none doc ((X.mg "__name__").getD .none) none (.ref c2) ctv))):=λb o e=>by rw [Zi (Zf e nf)]; exact e
  exact hq _ _ c2 ctv doc e0.t (Tb.same ⟨ps,hP,ht,hT⟩ e0) nf Zb (e0 _ _ hcd)
end
theorem Aq {P:Program} {w:World} {K:W.Frag} {mg:Str→Option Value} {base:Heap} {k:Nat} {f c:Addr} {name qual:Str} {params:Arguments} {body:List Stmt} {scope:Scope} {cl:List (Str × Addr)} {doc pm ct:Value} {N ps:List Str} {fv:List V} {sp:Sp}
  (S:Zg6 N ps scope) (LC:Zcc base N ps scope cl fv) (len:∀ vs H Q E,sp vs H Q E→vs.length=ps.length)
  (hat:∀ vs H Q E,sp vs H Q E→H f=some (FnO f (W.fnX name qual params body scope cl .none .none doc pm none (.ref c) ct))∧H c=some (CdO c qual))
  (R3:∀ (A:Around) (outer:List Env) (s:Shared) (H:Hp) (vs:List V) (Q:VK) (E:XK),Wx k (A.deeper (W.envX qual scope s.heap.objs.size f (.ref c) cl))→sp vs H Q E→
   ∃ t,PSs (Hl P w K mg base N qual scope f (.ref c) cl A outer s H) body t∧t { nx:=λ_ H'=>Q .non H',rt:=Q } (vs.map some ++ fv.map some) H) :
  Yt P w K mg base CX0 (k+1) f (W.fnX name qual params body scope cl .none .none doc pm none (.ref c) ct) ps sp:=by
 refine ⟨len,λA outer s H args us vs Q E hr e0 hb r hsp=>?_⟩
 have hl:=len _ _ _ _ hsp
 obtain ⟨hf,hc⟩:=hat _ _ _ _ hsp
 have lim:s.heap.NoLimit:=e0.mod.nolimit.keeps λb o e=>(e0.bs b o e).1
 refine codeAny_call_function hr.depth (FnO.at_ e0.hok hf) rfl S.co S.gen rfl (CdO.at_ e0.hok hc) (hb _ _ _ _ ?_)
 refine sN S.Nv (λy hy=>S.par y.1 (uG hy).1) (λh1 hns hsb=>?_) S.kind
 have hk:∀ b o,s.heap.get? b=some o→h1.get? b=some o:=λb o e=>hsb.extBut b o (yH (zL e)) (zG _ e)
 refine ⟨lim.keeps hk,codeAny_func ?_⟩
 obtain ⟨t,ht,hq⟩:=R3 A outer s H vs Q E (hr.deeper _) hsp
 have I:Inv (Hl P w K mg base N qual scope f (.ref c) cl A outer s H) [] (vs.map some ++ fv.map some) H { s with heap:=h1,toks:=s.toks+(ps.zip us).length }:=Zbr S LC hr.hd e0 hl r hns hk
 refine wK (ht [] _ _ H _ I hq) (λfl s' hs=>?_) λe s' hs=>hs.elim
 cases fl with
 | ret u=>
  obtain ⟨v,σ',H',J,rv,q⟩:=hs
  exact ⟨v,H',J.os,J.bare,J.base,J.hok,rv,q⟩
 | next=>
  obtain ⟨σ',H',J,q⟩:=hs
  exact ⟨.non,H',J.os,J.bare,J.base,J.hok,rfl,q⟩
 | brk=>
  obtain ⟨_,_,_,q⟩:=hs
  exact False.elim q
 | cont=>
  obtain ⟨_,_,_,q⟩:=hs
  exact False.elim q
end L2
namespace L2
open PySem PySem.Spec PyProof.Rows
section
variable {P:Program} {w:World} {κ:Type} [DecidableEq κ] {knd:PySem.KeyKind P w κ} {A:Around} {E:Value→Shared→Prop} {s:Shared}
theorem Ap {it d:Addr} {i ep:Nat} {kvs:List (κ × Value)} {k:κ} {v:Value} {Q:Value→Shared→Prop} (hi:s.heap.IsKeyIter it d i kvs.length ep) (hm:s.heap.DictAt knd d kvs ep) (hx:kvs[i]? = some (k,v))
  (q:∀ key h',knd.is k key=true→h'.IsKeyIter it d (i+1) kvs.length ep→Heap.SameBut it s.heap h'→Q key { s with heap:=h' }):wpAny (model P w) A (Builtin.SmallTypes.nextOf (.ref it)) Q E s:=by
 obtain ⟨o,e0,ec,ed⟩:=id hi
 obtain ⟨od,es,eo,ecd,edd,hk,hp,hn⟩:=id hm
 have z:es.size=kvs.length:=by rw [← hp.length]; simp
 have hlt:i < es.size:=by rw [z]; exact (zF.mp hx).1
 have Aj:knd.is k es[i].key=true:=(hp.get? (e:=es[i]) (by simp [hlt]) hx).1
 unfold Builtin.SmallTypes.nextOf
 refine zB (yP (name:=Str.ofString "__next__") hi.typeIs yF (xH yF hi.typeIs wD ?_ (xZ _)))
 refine zB (zH (zB (zB ?_)))
 first | refine zB (xC hi.typeIs (zH (zB (vC e0 ed ?_)))) | refine zB (xU hi.typeIs (zH (zB (vC e0 ed ?_))))
 simp only [show Builtin.Dict_items.ownsTuple "dict_keyiterator" = false by decide,vG,if_false]
 show wpAny _ _ (ite ((Value.ref d==Value.none)=true) _ _) _ _ s
 refine (if_neg (show ¬ (Value.ref d==Value.none)=true from zP))▸?_
 refine zB (zH (zB (wY eo edd ?_)))
 rw [if_neg (by rw [z]; simp)]
 refine zB (zH (zB (tD eo edd ?_)))
 rw [if_neg (by simp)]
 refine zH ?_
 simp only [show ¬ ((i:Int) < 0) from by omega,if_false,wX,Array.getElem?_eq_getElem hlt]
 refine zB ?_
 first | refine zB (xC hi.typeIs (zH (zB (wT hi.typeIs ?_)))) | refine zB (xU hi.typeIs (zH (zB (wT hi.typeIs ?_))))
 have hi':(s.heap.update it (Obj.mapFields (·.setIfInBounds 1 (rawInt ((i:Int)+1))))).IsKeyIter it d (i+1) kvs.length ep:=by
  refine ⟨_,wF _ e0 (vK (wH ed _)),(tR ..).trans ec,?_⟩
  rw [wH ed]
  simp [rawInt]
 refine zB (m:=setField (.ref it) 1 (rawInt ((i:Int)+1))) (wO e0 ed (by simp) (zB (xQ (zB (wT (s:={ s with heap:=s.heap.update it (Obj.mapFields (·.setIfInBounds 1 (rawInt ((i:Int)+1)))) }) hi'.typeIs ?_)))))
 exact zH (zH ⟨_,rfl,zH (q _ _ Aj hi' (wE ..))⟩)
theorem Zdc {it d:Addr} {i ep:Nat} {kvs:List (κ × Value)} {Q:Value→Shared→Prop} (hh:A.handled=none) (hi:s.heap.IsKeyIter it d i kvs.length ep) (hm:s.heap.DictAt knd d kvs ep) (hx:kvs[i]? = none)
  (q:∀ h' e,Heap.ExtBut it s.heap h'→(∃ o,h'.get? e=some o∧o.cls=.type "StopIteration")→E (.ref e) { s with heap:=h' }):wpAny (model P w) A (Builtin.SmallTypes.nextOf (.ref it)) Q E s:=by
 obtain ⟨o,e0,ec,ed⟩:=id hi
 obtain ⟨od,es,eo,ecd,edd,hk,hp,hn⟩:=id hm
 have z:es.size=kvs.length:=by rw [← hp.length]; simp
 have hge:es.size≤i:=by rw [z]; simpa using hx
 unfold Builtin.SmallTypes.nextOf
 refine zB (yP (name:=Str.ofString "__next__") hi.typeIs yF (xH yF hi.typeIs wD ?_ (xZ _)))
 refine zB (zH (zB (zB ?_)))
 first | refine zB (xC hi.typeIs (zH (zB (vC e0 ed ?_)))) | refine zB (xU hi.typeIs (zH (zB (vC e0 ed ?_))))
 simp only [show Builtin.Dict_items.ownsTuple "dict_keyiterator" = false by decide,vG,if_false]
 show wpAny _ _ (ite ((Value.ref d==Value.none)=true) _ _) _ _ s
 refine (if_neg (show ¬ (Value.ref d==Value.none)=true from zP))▸?_
 refine zB (zH (zB (wY eo edd ?_)))
 rw [if_neg (by rw [z]; simp)]
 refine zB (zH (zB (tD eo edd ?_)))
 rw [if_neg (by simp)]
 refine zH ?_
 simp only [show ¬ ((i:Int) < 0) from by omega,if_false,wX,Array.getElem?_eq_none hge]
 refine zB ?_
 first | refine zB (xC hi.typeIs (zH ?_)) | refine zB (xU hi.typeIs (zH ?_))
 refine zB (m:=setField (.ref it) 0 .none) (wO e0 ed (by simp) (zB (m:=newExc (.type "StopIteration") []) ?_))
 simp only [newExc,newTuple,raiseNew]
 refine zB (xJ (zB (m:=firstArgMember _ _) (wpAny_of_eq (a:=Value.none) (by first | rfl | (simp only [firstArgMember]; rfl)) (xJ ?_ (by size_fits)))) (by size_fits))
 refine zB (wpAny_handled ?_)
 first | rw [show A.in1.handled=none from hh] | rw [hh]
 exact zB (zH (wpAny_throw (q _ _ (((wE ..).extBut.push _).push _) ⟨_,zN _ rfl,rfl⟩)))
abbrev Fi (d:Addr) (n ep:Nat):Obj:={ cls:=.type "dict_keyiterator",data:=.fields #[.ref d,.int 0 0,.int n 0,.int ep 0] }
abbrev Ziv (it:Addr):Obj:={ cls:=.type "enumerate",data:=.fields #[.none,.bool false,.ref it,rawInt 0,.none,.none] }
open AutoSeq1 (wpAny_loadPart') in
theorem Zgc (d:Addr) (kvs:List (κ × Value)) (ep:Nat):MeetsIn P w (Builtin.«enumerate.__new__» ⟨[.type "enumerate",.ref d],[]⟩) (λ_ R s=>(d==sysModules)=false∧s.heap.DictAt knd d kvs ep∧R (.ok (.ret (.ref (s.heap.push (Fi d kvs.length ep)).objs.size))) { s with heap:=(s.heap.push (Fi d kvs.length ep)).push (Ziv s.heap.objs.size) }):=
 .of_wp λA R s h=>by
  obtain ⟨hp,g,dr,tk,os⟩:=s
  obtain ⟨hs,hm,q⟩:=h
  have Zmg:=sub_enumerate
  obtain ⟨⟨c,dx,dt,sl⟩,es,ho,hx,hd,hrest⟩:=id hm
  obtain ⟨hc,hdx,hsl⟩:=hx
  obtain rfl:c=.type "dict":=hc
  obtain rfl:dt=.dict es ep:=hd
  wp_walk using yT ho
  refine wpAny_stack_any λst=>zH ?_
  split
  ·rename_i c _ _ _ _ _
   cases (c==Value.type "enumerate") <;> (wp_walk using yT ho,sX hs hm; exact ⟨_,rfl,q⟩)
  ·wp_walk using yT ho,sX hs hm
   exact ⟨_,rfl,q⟩
theorem A1 {d:Addr} {kvs:List (κ × Value)} {ep:Nat} {Q:Value→Shared→Prop} (hs:(d==sysModules)=false) (hm:s.heap.DictAt knd d kvs ep)
  (q:∀ h',IsEnum h' (s.heap.objs.size+1) s.heap.objs.size 0 .none→h'.IsKeyIter s.heap.objs.size d 0 kvs.length ep→h'.objs.size=s.heap.objs.size+2→(∀ b o,s.heap.get? b=some o→h'.get? b=some o)→Q (.ref (s.heap.objs.size+1)) { s with heap:=h' }) :
  wpAny (model P w) A (call (.type "enumerate") [.ref d]) Q E s:=by
 refine callType_newIn sU (by decide) (tX _) (sE _) (λobj=>sP obj _) sG (Zgc (knd:=knd) d kvs ep) ⟨hs,hm,?_⟩
 have z:(s.heap.push (Fi d kvs.length ep)).objs.size=s.heap.objs.size+1:=xT ..
 show _∧_
 have en:=zN (s.heap.push (Fi d kvs.length ep)) (o:=Ziv s.heap.objs.size) rfl
 rw [z] at en ⊢
 exact ⟨⟨_,en,rfl⟩,q _ en ⟨_,zG _ (zN _ rfl),rfl,rfl⟩ (by rw [xT,z]) λb o x=>zG _ (zG _ x)⟩
theorem Zgi (hh:A.handled=none) (it d:Addr) (hne:d≠it) (kvs:List (κ × Value)) (ep:Nat):Draws P w A it [it,d] kvs.length (λi v=>∃ k x,kvs[i]? = some (k,x)∧knd.is k v=true) (λi h=>h.IsKeyIter it d i kvs.length ep∧h.DictAt knd d kvs ep) where
 live:=λ_ _ ⟨⟨o,e,_⟩,_⟩=>⟨o,e⟩
 frame:=λ_ _ _ ⟨a,b⟩ k=>⟨a.at λo e=>k it (by simp) o e,b.at' λo e=>k d (by simp) o e⟩
 item:=λi s Q E hi st q=>Ap st.1 st.2 (k:=kvs[i].1) (v:=kvs[i].2) (by simp [hi]) λkey h' hk a b=>q _ h' s.toks ⟨kvs[i].1,kvs[i].2,by simp [hi],hk⟩ ⟨a,st.2.extBut b.extBut hne⟩ b
 done:=λs Q E st q=>Zdc hh st.1 st.2 (by simp) q
end
theorem C9 {P:Program} {w:World} {K:W.Frag} {ex:List Expr} {n:Nat} {pos:Pos} (a e it:Addr) (hei:e≠it) (o:Obj) (kvs:List (Key × V)) (vs:List (Key × Value)) (ep:Nat) (rel:KV kvs vs) (ho:∀ h:Heap,h.get? a=some o→h.DictAt (Yy P w) a vs ep) :
  Turn P w K (.Tuple ex n pos) (ItE λH xs=>H a=some (.frz o (.dK kvs))∧xs=kvs.map λp=>kV p.1) [e,it] e (λi h=>(∃ old,IsEnum h e it i old)∧h.IsKeyIter it a i vs.length ep) where
 mem:=by simp
 obj:=λi h st b hb=>by
  obtain ⟨⟨old,he⟩,oi,e1,c1,d1⟩:=st
  have hb':b=e∨b=it:=by simpa using hb
  rcases hb' with z | z
  ·subst z
   exact ⟨_,he,λv z=>by cases z⟩
  ·subst z
   exact ⟨oi,e1,λv z=>by rw [d1] at z; cases z⟩
 keep:=λi h h' st k=>⟨let ⟨old,he⟩:=st.1; ⟨old,k e (by simp) _ he⟩,st.2.at λo q=>k it (by simp) o q⟩
 item:=by
  intro X hP hw hK hc i pins s σ H E I hf st hg
  subst hP hw hK
  obtain ⟨xs,x,⟨hq,hxs⟩,hx⟩:=hg
  have hd:=ho s.heap (I.hok a _ hq).1
  have hl:=Fd rel
  have hlt:i < vs.length:=by
   have:=(zF.mp hx).1
   rw [hxs,zA] at this
   omega
  obtain ⟨⟨old,he⟩,hit⟩:=st
  have hel:=zL he
  have hil:it < s.heap.objs.size:=by obtain ⟨o,q,_⟩:=id hit; exact zL q
  have nat:a≠it:=λz=>by
   obtain ⟨o,q,c,_⟩:=id hit
   obtain ⟨o2,_,q2,c2,_⟩:=id hd
   rw [z,q] at q2
   cases q2
   have c3:=c2.1
   rw [c] at c3
   injection c3 with c3
   exact absurd c3 (by decide)
  have nae:a≠e:=λz=>by
   obtain ⟨o2,_,q2,c2,_⟩:=id hd
   rw [z,he] at q2
   cases q2
   have c3:=c2.1
   injection c3 with c3
   exact absurd c3 (by decide)
  have hef:e∉[it,a]:=by simp [hei,xV nae]
  refine tO (Zgi (knd:=Yy X.prog X.w) (A:=X.A.in1) (I.ok.hd hc) it a nat vs ep) he ⟨hit,hd⟩ hlt hei hef λu h1 tk hu heo Ak ht1 hz1 hk1=>⟨_,rfl,?_⟩
  refine vP heo λh2 he2 sb=>?_
  obtain ⟨k,x',hk,his⟩:=hu
  obtain ⟨v,hv⟩:=Aa rel hk
  have ex:x=kV k:=by
   rw [hxs,zE,hv] at hx
   exact (Option.some.inj hx).symm
  subst ex
  obtain ⟨I2,hn⟩:=Qx (t':=tk+1) I hf (Iq his) ht1 hk1 sb hel hil
  exact ⟨.ref s.heap.objs.size,_,I2,rfl,⟨_,kV k,rfl,I.hok.fresh (zI _),rfl,λys hy=>by rw [hy.2,← hxs]; exact hx⟩,⟨⟨_,by simpa using he2⟩,Ak.1.at λo q=>(sb.2 it (xV hei)).trans q⟩,hn⟩
 done:=by
  intro X hP hw hK hc i pins s σ H E I hf st hg
  subst hP hw hK
  obtain ⟨xs,⟨hq,hxs⟩,hx⟩:=hg
  have hd:=ho s.heap (I.hok a _ hq).1
  have hl:=Fd rel
  obtain ⟨⟨old,he⟩,hit⟩:=st
  have nat:a≠it:=λz=>by
   obtain ⟨o,q,c,_⟩:=id hit
   obtain ⟨o2,_,q2,c2,_⟩:=id hd
   rw [z,q] at q2
   cases q2
   have c3:=c2.1
   rw [c] at c3
   injection c3 with c3
   exact absurd c3 (by decide)
  obtain ⟨f0,f1,f2,f3,f4,f5⟩:=hf it (by simp)
  have ei:i=vs.length:=by rw [← hx,hxs,zA,hl]
  subst ei
  exact tY (Zgi (knd:=Yy X.prog X.w) (A:=X.A.in1) (I.ok.hd hc) it a nat vs ep) he ⟨hit,hd⟩ λh' eb=>⟨rfl,I.turned (t':=s.toks) (λb o hb q=>eb b o hb q) f0 f1 f3 f4 f5⟩
 self:=λ_ _ _ _ _ st h=>let ⟨_,he⟩:=st.1; wP he h
section
variable {X:Cx} {ex:List Expr} {n:Nat} {tp:Pos}
def Zmd (te:TE):TI:=λσ H R=>te σ H λx H1=>∃ a kvs,x=.ref a∧((H1 a=some (.dK kvs)∧∀ o,R (ItE λH xs=>H a=some (.frz o (.dK kvs))∧xs=kvs.map λp=>kV p.1) (upd H1 a (.frz o (.dK kvs))))∨
 ∃ o,H1 a=some (.frz o (.dK kvs))∧R (ItE λH xs=>H a=some (.frz o (.dK kvs))∧xs=kvs.map λp=>kV p.1) H1)
theorem Zew {e:Expr} {te:TE} {p pos:Pos} (hg:Gl X "enumerate") (hm:X.mg "enumerate" = none) (he:PE X e te) (h2:starEach [e] X.env=(false,eval e X.env) :: starEach [] X.env:=by rfl):PI X (.Tuple ex n tp) (.Call (.Name "enumerate" p) [e] [] pos) (Zmd te):=by
 intro pins s σ H R I h
 refine yW (U9 I hg hm Sv (xM (thn (Za he Zc h2 pos pins s σ H (λvs H1=>match vs with | [x]=>∃ a kvs,x=.ref a∧((H1 a=some (.dK kvs)∧∀ o,R (ItE λH xs=>H a=some (.frz o (.dK kvs))∧xs=kvs.map λp=>kV p.1) (upd H1 a (.frz o (.dK kvs))))∨∃ o,H1 a=some (.frz o (.dK kvs))∧R (ItE λH xs=>H a=some (.frz o (.dK kvs))∧xs=kvs.map λp=>kV p.1) H1) | _=>False) I h) λus s1 ⟨vs,H1,I1,r1,q1⟩=>?_) h2 rfl))
 obtain ⟨x0,e0,a,kvs,e1,q⟩:∃ x0,vs=[x0]∧∃ a kvs,x0=.ref a∧((H1 a=some (.dK kvs)∧∀ o,R (ItE λH xs=>H a=some (.frz o (.dK kvs))∧xs=kvs.map λp=>kV p.1) (upd H1 a (.frz o (.dK kvs))))∨∃ o,H1 a=some (.frz o (.dK kvs))∧R (ItE λH xs=>H a=some (.frz o (.dK kvs))∧xs=kvs.map λp=>kV p.1) H1):=by
  match vs,q1 with
  | [x0],q1=>exact ⟨x0,rfl,q1⟩
 subst e0 e1
 obtain ⟨u,rfl,ru⟩:=Vals.one r1
 obtain rfl:u=Value.ref a:=ru
 have key:∀ (o:Obj) (H2:Hp),Inv X pins σ H2 s1→H2 a=some (.frz o (.dK kvs))→R (ItE λH xs=>H a=some (.frz o (.dK kvs))∧xs=kvs.map λp=>kV p.1) H2→
   wpAny (model X.prog X.w) X.A (call (.type "enumerate") [.ref a]) (λv s2=>wpAny (model X.prog X.w) X.A (pyIter v) (PIE X pins σ (.Tuple ex n tp) R) X.xe s2) X.xe s1:=by
  intro o H2 I2 h2 q2
  obtain ⟨ho,_,hsm,vs,rel,dd⟩:=I2.hok a _ h2
  obtain ⟨o',es,ep,ho',hx,Zfw,hk,hp,hn⟩:=dd
  rw [ho] at ho'
  cases ho'
  have at_:∀ h:Heap,h.get? a=some o→h.DictAt (Yy X.prog X.w) a vs ep:=λh e=>⟨o,es,e,hx,Zfw,hk,hp,hn⟩
  refine A1 hsm (at_ s1.heap ho) λh' hE hI hsz hk=>wP hE ?_
  refine ⟨_,[s1.heap.objs.size+1,s1.heap.objs.size],_,_,H2,rfl,I2.kept (t':=s1.toks) hk,C9 a _ _ (sC _) o kvs vs ep rel at_,⟨⟨_,hE⟩,hI⟩,λb hb=>?_,q2⟩
  have hb':b=s1.heap.objs.size+1∨b=s1.heap.objs.size:=by simpa using hb
  rcases hb' with z | z
  ·rw [z]; exact I2.N9 (xP _) (I2.hok.fresh (xP _))
  ·rw [z]; exact I2.N9 (zI _) (I2.hok.fresh (zI _))
 rcases q with ⟨hd,q⟩ | ⟨o,hd,q⟩
 ·obtain ⟨hz,hsm,vs,rel,dd⟩:=I1.hok a _ hd
  obtain ⟨o,es,ep,ho,rest⟩:=id dd
  have I2:Inv X pins σ (upd H1 a (.frz o (.dK kvs))) s1:=I1.write (x:=a) (e:=a) (t':=s1.toks) (h':=s1.heap) (by rw [hd]; exact True.intro) (.inl rfl) (λb u _ e=>e) ⟨o,ho⟩ ⟨ho,hz,hsm,vs,rel,dd⟩
  exact key o _ I2 Zb (q o)
 ·exact key o H1 I1 hd q
end
def Zdf {a:Addr} {o:Obj} {kvs:List (Key × V)} {n:Nat} {fr:List Nat} {g:TG} {tt:TT} {te:TE} {σ:St} {H:Hp} {Q:VK} (Pv:Nat→List V→Hp→Prop) (hk:kvs.length < sizeLine) (h0:Pv 0 [] H) (hlen:∀ i acc H,Pv i acc H→acc.length≤i)
  (hl:∀ i acc H,Pv i acc H→H a=some (.frz o (.dK kvs)))
  (hs:∀ i acc H2 k v,kvs[i]? = some (k,v)→Pv i acc H2→g (kV k) (Uw n fr σ) H2 λσ4 H4=>tt σ4 H4 λb H5=>if b=true then te σ4 H5 λv H6=>Pv (i+1) (acc ++ [v]) H6 else Pv (i+1) acc H5)
  (hd:∀ acc H2,Pv kvs.length acc H2→∀ l,H2 l=none→Q (.ref l) (upd H2 l (.lst acc))):=
 Vz (J:=Itk a o kvs) (n:=n) (fr:=fr) (g:=g) (tt:=tt) (te:=te) (σ:=σ) (Q:=Q) Pv hk h0 hlen (λi acc H hi p=>⟨hi,hl i acc H p⟩) (λacc H p=>⟨rfl,hl _ acc H p⟩) (λi acc H2 x H3 hi p y=>by
  obtain ⟨e,k,v,hk,ex⟩:=y
  subst e ex
  exact hs i acc _ k v hk p) hd
end L2
namespace L2
open PySem PySem.Spec PyProof.Rows
section
variable {P:Program} {w:World} {κ:Type} [DecidableEq κ] {knd:HeapKind P w κ} {A:Around} {E:Value→Shared→Prop} {s:Shared}
theorem Bt (d:Addr) (hd:(d==sysModules)=false):MeetsIn P w (Builtin.«dict.__len__» ⟨[.ref d],[]⟩) (λ_ R s=>∃ xs,s.heap.DictOfH knd d xs∧R (.ok (.ret (.int xs.length s.toks))) { s with toks:=s.toks+1 }):=
 .of_wp λA R s ⟨xs,hm,h⟩=>by
  obtain ⟨o,es,ep,ho,_,Zfw,he,_⟩:=hm
  show wpAny _ _ (dictSize d >>= _) _ _ s
  unfold dictSize
  refine zB (zB (wY ho Zfw (zH ?_)))
  show wpAny _ _ (Builtin.Dict.pendingCount d >>= _) _ _ s
  refine zB (wpAny_pendingCount_other hd (wpAny_ret_mkInt ?_))
  rw [uS,size_of_entries he]
  exact h
theorem lenH {d:Addr} {xs:List (κ × Addr × Value)} {Q:Value→Shared→Prop} (hd:(d==sysModules)=false) (hm:s.heap.DictOfH knd d xs) (hfit:(xs.length:Int) < 2 ^ 63) (h:Q (.int xs.length (s.toks+1)) { s with toks:=s.toks+1+1 }) :
  wpAny (model P w) A (call (.builtin "len") [.ref d]) Q E s:=by
 refine Calls.call_function_entry kind_len plain_len entry_len (args_len1 _) ?_
 unfold Builtin.«len»
 refine zB (m:=oneArg "len" _) (zH ?_)
 refine zB (m:=callSpecial? (.ref d) (Str.ofString "__len__")) (yP (name:=Str.ofString "__len__") hm.typeIs F.slot_dict_len (call_meetsIn F.slot_dict_len hm.typeIs F.entry_dict_len (F.args_dict_len_1 _) (Bt d hd) ⟨xs,hm,?_⟩))
 show wpAny _ _ _ _ _ { s with toks:=s.toks+1 }
 refine zB (xQ (zH (zB (wpAny_letGo ?_))))
 show wpAny _ _ (if ((xs.length:Nat):Int) < 0 then _ else _) _ _ _
 rw [if_neg (by omega)]
 show wpAny _ _ (if ((xs.length:Nat):Int) ≥ 2 ^ 63 then _ else _) _ _ _
 rw [if_neg (by omega)]
 exact zB (wpAny_mkInt (zH ⟨_,rfl,h⟩))
end
section
variable {X:Cx}
theorem Ay:Xx X (.builtin "len") (λxs H Q=>∃ a kvs,xs=[V.ref a]∧Rd H a (.dK kvs)∧Q (.int kvs.length) H):=by
 intro pins s σ H xs us Q I r h
 obtain ⟨a,kvs,rfl,ha,q⟩:=h
 obtain ⟨u,rfl,ru⟩:=vals1 r
 obtain rfl:u=Value.ref a:=ru
 exact Zpr I ha λt s' I'=>⟨.int kvs.length,H,I',⟨t,rfl⟩,q⟩
theorem Ax:Xx X (.builtin "len") (λxs H Q=>∃ a kvs,xs=[V.ref a]∧Rd H a (.dT kvs)∧Q (.int kvs.length) H):=by
 intro pins s σ H xs us Q I r h
 obtain ⟨a,kvs,rfl,ha,q⟩:=h
 obtain ⟨u,rfl,ru⟩:=vals1 r
 obtain rfl:u=Value.ref a:=ru
 obtain ⟨z,hd,ks,rel,dd⟩:=Hg I.hok ha
 have hl:kvs.length=ks.length:=vM rel
 refine lenH hd dd (by rw [← hl]; rw [sizeLine_eq] at z; omega) ⟨.int kvs.length,H,I.tok _,⟨s.toks+1,by rw [hl]⟩,q⟩
end
end L2
namespace L2
open PySem PySem.Spec PyProof.Rows
section
variable {X:Cx}
theorem D6:∀ {us:List Value} {ns:List Int} {i:Nat} {u:Value},IntsAre us ns→us[i]? = some u→∃ n t,ns[i]? = some n∧u=.int n t
 | _,_,i,u,.nil,h=>by simp at h
 | _,_,0,u,.cons n t _,h=>by cases h; exact ⟨n,t,rfl,rfl⟩
 | _,_,i+1,u,.cons n t r,h=>by
  obtain ⟨m,t',e1,e2⟩:=D6 (i:=i) r (by simpa using h)
  exact ⟨m,t',by simpa using e1,e2⟩
inductive E5 (x:V) (vs:List V) (H:Hp) (Q:VK):Prop
 | mk (l:Addr) (ns:List Int) (y:Int) (h1:x=.ref l) (h2:vs=[.int y]) (h3:H l=some (.lst (ns.map V.int))) (h4:y∈ns) (h5:Q (.int (ns.idxOf y:Nat)) H):E5 x vs H Q
def Zhq:V→List V→Hp→VK→Prop:=λx vs H Q=>E5 x vs H Q
theorem Zc8 (ns:List Int):(ns.map V.int).all Uo=true:=by
 induction ns with
 | nil=>rfl
 | cons e r ih=>rw [zO,vN,ih]; rfl
theorem N0:MtM X "list.index" Zhq:=by
 intro pins s σ H x vs v us Q I rx rv h
 obtain ⟨l,ns,y,rfl,rfl,hH,hy,q⟩:=h
 cases rx
 obtain ⟨u,rfl,ru⟩:=rv.one
 obtain ⟨z,its,n,r,hl,e⟩:=I.B7 hH
 have hI:=intsAre_of r
 have hlen:its.length=ns.length:=by have:=r.length; rw [zA] at this; exact this.symm
 have hj:=xA hy
 have heq:∀ (m:Nat) (hm:m < its.toArray.size),∃ k,ns[m]? = some k∧eqU (.int y) its.toArray[m]=(k==y):=λm hm=>by
  rw [zR] at hm
  obtain ⟨k,t,e1,e2⟩:=D6 (u:=its[m]) hI (zC hm)
  refine ⟨k,e1,?_⟩
  rw [List.getElem_toArray,e2]
  rfl
 refine call_meets F.slot_list_index ⟨_,e,rfl⟩ F.entry_list_index (F.args_list_index_2 _ _)
  (SeqAt.list_indexAt l its.toArray n none #[] u (eqU (.int y)) (ns.idxOf y) (by rw [zR]; omega) (by rw [zA,sizeLine_eq] at z; omega) ?_ λm hm hlt=>?_) ⟨e,λw hw=>?_,?_⟩
 ·obtain ⟨k,e1,e2⟩:=heq (ns.idxOf y) (by rw [zR]; omega)
  rw [e2]
  rw [zC hj,List.getElem_idxOf] at e1
  cases e1
  simp
 ·obtain ⟨k,e1,e2⟩:=heq m hm
  rw [e2]
  have hk:k≠y:=λz=>by
   have D9:k∈ns.take (m+1):=by
    rw [yK,e1]
    simp
   have h1:ns.idxOf y=(ns.take (m+1)).idxOf y:=by
    conv=>lhs; rw [← vL (m+1) ns]
    rw [tS,if_pos (z▸D9)]
   have h2:=xA (z▸D9:y∈ns.take (m+1))
   have h3:m < ns.length:=(zF.mp e1).1
   have h4:(ns.take m).length=m:=by rw [zS]; omega
   by_cases c:y∈ns.take m
   ·have h5:ns.idxOf y=(ns.take m).idxOf y:=by
     conv=>lhs; rw [← vL m ns]
     rw [tS,if_pos c]
    have h6:=xA c
    rw [zS] at h2
    omega
   ·rw [zS] at h2
    omega
  exact beq_eq_false_iff_ne.mpr hk
 ·exact Vw ru rfl r (Zc8 ns) w (by simpa using hw)
 ·exact ⟨.int (ns.idxOf y:Nat),H,I.tok _,⟨_,rfl⟩,q⟩
inductive Za2 (K:W.Frag) (xs:List V) (H:Hp) (Q:VK):Prop
 | mk (p:Addr) (ns:List Int) (h1:xs=[.ref p]) (h2:SqL K H p (ns.map V.int)) (h3:ns.length < 64) (h4:∀ (ns':List Int) l,ns'.Perm ns→ns'.Pairwise (·≤·)→H l=none→Q (.ref l) (upd H l (.lst (ns'.map V.int)))):Za2 K xs H Q
def Zlb (K:W.Frag):List V→Hp→VK→Prop:=λxs H Q=>Za2 K xs H Q
theorem Aw {K:W.Frag} (hK:X.K=K:=by rfl):Xx X (.builtin "sorted") (Zlb K):=by
 subst hK
 intro pins s σ H xs us Q I r h
 obtain ⟨p,ys,rfl,hq,h64,q⟩:=h
 obtain ⟨u,rfl,ru⟩:=vals1 r
 obtain rfl:u=Value.ref p:=ru
 obtain ⟨its,r',pl,hz⟩:=I.list hq
 have hlen:=r'.length
 rw [zA] at hlen hz
 refine sorted_ints pl.isList (intsAre_of r') (by omega) λout ss' a1 a2 a3=>?_
 obtain ⟨e,he⟩:=sortedAll_at s.heap its out
 have hn:H (s.heap.objs.size+1)=none:=I.hok.fresh (xP _)
 refine ⟨.ref (s.heap.objs.size+1),upd H (s.heap.objs.size+1) (.lst (ss'.map V.int)),I.laid (t':=s.toks) (λ_ _=>sortedAll_old) (xP _) ⟨?_,out.toList,e,Qn a1,?_⟩,rfl,q ss' _ a2 a3 hn⟩
 ·rw [zA,a2.length_eq]
  exact hz
 ·simpa [seqObj] using he
def Zhg (te:TE):TE:=λσ H Q=>te σ H λx H1=>∃ n:Nat,x=.int (n:Int)∧n≤1000∧∀ l,H1 l=none→Q (.ref l) (upd H1 l (.lst ((List.range n).map λi:Nat=>V.int (i:Int))))
theorem Ec:∀ (us:List Value) (k:Nat),(∀ (i:Nat) v,us[i]? = some v→∃ t,v=.int ((k:Int)+(i:Int)) t)→Vals ((List.range' k us.length).map λi:Nat=>V.int (i:Int)) us
 | [],k,_=>.nil
 | u :: us,k,h=>by
  rw [yR,List.range'_succ,zO]
  refine .cons ?_ (Ec us (k+1) λi v e=>?_)
  ·obtain ⟨t,e⟩:=h 0 u rfl
   exact ⟨t,by rw [e]; simp⟩
  ·obtain ⟨t,e'⟩:=h (i+1) v (by simpa using e)
   refine ⟨t,?_⟩
   rw [e']
   congr 1
   omega
theorem Zck {e:Expr} {te:TE} {p p2 pos Zhu:Pos} (hc:X.calm=true) (hg:Gl X "list") (hm:X.mg "list" = none) (hg2:Gl X "range") (hm2:X.mg "range" = none) (he:PE X e te)
  (h1:starEach [.Call (.Name "range" p2) [e] [] Zhu] X.env=(false,eval (.Call (.Name "range" p2) [e] [] Zhu) X.env) :: starEach [] X.env:=by rfl)
  (h2:starEach [e] X.env=(false,eval e X.env) :: starEach [] X.env:=by rfl):PE X (.Call (.Name "list" p) [.Call (.Name "range" p2) [e] [] Zhu] [] pos) (Zhg te):=by
 intro pins s σ H Q I h
 refine yW (U9 I hg hm Vs ?_)
 refine xM ?_ h1 rfl
 rw [h1]
 show wpAny _ _ (spliced ((false,eval _ X.env) :: backTo pos (starEach [] X.env))) _ _ s
 refine vF (yW (U9 I hg2 hm2 boot_range (xM (thn (Za he Zc h2 Zhu pins s σ H (λvs H1=>match vs with | [x]=>∃ n:Nat,x=.int (n:Int)∧n≤1000∧∀ l,H1 l=none→Q (.ref l) (upd H1 l (.lst ((List.range n).map λi:Nat=>V.int (i:Int)))) | _=>False) I h) λus s1 ⟨vs,H1,I1,r1,q1⟩=>?_) h2 rfl)))
 obtain ⟨x0,e0,n,e1,hn,q⟩:∃ x0,vs=[x0]∧∃ n:Nat,x0=.int (n:Int)∧n≤1000∧∀ l,H1 l=none→Q (.ref l) (upd H1 l (.lst ((List.range n).map λi:Nat=>V.int (i:Int)))):=by
  match vs,q1 with
  | [x0],q1=>exact ⟨x0,rfl,q1⟩
 subst e0 e1
 obtain ⟨u,rfl,ru⟩:=Vals.one r1
 obtain ⟨t,rfl⟩:=ru
 refine call_range_1 (tQ ?_)
 refine call_list_range (n:=n) (I1.ok.hd hc) (IsRange.new ..) (small_one (by omega) (by omega) (by omega) (by omega)) (by rw [rangeSize_one]; split <;> omega) (by omega) λh' tk' acc c kp hD Cc=>?_
 have le:s1.heap.objs.size≤(s1.heap.push { cls:=.type "range",data:=.fields #[.int 0 s1.toks,.int (n:Int) t,.int 1 (s1.toks+1)] }).objs.size:=by rw [xT]; exact xP _
 have kp':∀ b o,s1.heap.get? b=some o→h'.get? b=some o:=λb o e=>kp b o (zG _ e)
 have hv:=Ec acc.toList 0 λi v hi=>by
  obtain ⟨t,e⟩:=Cc.2 i v (by rw [← xN]; exact hi)
  exact ⟨t,by rw [e]; simp⟩
 rw [yX,Cc.1,← List.range_eq_range'] at hv
 exact ⟨.ref _,_,I1.laid (t':=tk') kp' le (show Yl X.prog X.w _ h' _ (.lst ((List.range n).map λi:Nat=>V.int (i:Int))) from ⟨by rw [zA,zV,sizeLine_eq]; omega,acc.toList,c,hv,by rw [Array.toArray_toList]; exact hD⟩),rfl,q _ (I1.hok.fresh le)⟩
end
end L2
namespace L2
open PySem PySem.Spec PyProof.Rows
def Qd (h:Heap) (d:Addr) (es:Array DictEntry) (ep:Nat):Prop:=∃ o,h.get? d=some o∧o.ExactDict∧o.data=.dict es ep
section
variable {P:Program} {w:World} {A:Around} {E:Value→Shared→Prop} {s:Shared} {it d:Addr} {i ep:Nat} {es:Array DictEntry}
theorem Qd.typeIs (hm:Qd s.heap d es ep):s.TypeIs (.ref d) "dict":=let ⟨o,h1,h2,_⟩:=hm; ⟨o,h1,h2.1⟩
theorem Gj {Q:Value→Shared→Prop} (hs:(d==sysModules)=false) (hm:Qd s.heap d es ep) (q:Q (.ref s.heap.objs.size) { s with heap:=s.heap.push (Fi d es.size ep) }):wpAny (model P w) A (pyIter (.ref d)) Q E s:=by
 have ty:=hm.typeIs
 obtain ⟨o,e1,e2,e3⟩:=hm
 refine wpAny_pyIter_slot ty F.slot_dict_iter (xH F.slot_dict_iter ty F.entry_dict_iter ?_ (F.args_dict_iter_1 _))
 unfold Builtin.«dict.__iter__»
 refine zB ?_
 unfold Builtin.Dict.dictSlotNone
 refine zB (wpAny_notOrdered_dict ty (zH ?_))
 show wpAny _ _ (Builtin.Dict.showsAll d >>= _) _ _ s
 unfold Builtin.Dict.showsAll
 rw [if_neg (by rw [hs]; exact zP)]
 refine zB (zH (zB (wY e1 e3 (zB (tD e1 e3 ?_)))))
 refine zB (xJ (zH ⟨_,rfl,"dict_keyiterator",_,⟨_,zN _ rfl,rfl⟩,yF.lookup,?_⟩))
 simpa [rawInt] using q
theorem Om {Q:Value→Shared→Prop} (hi:s.heap.IsKeyIter it d i es.size ep) (hm:Qd s.heap d es ep) (hlt:i < es.size) (q:∀ h',h'.IsKeyIter it d (i+1) es.size ep→Heap.SameBut it s.heap h'→Q es[i].key { s with heap:=h' }) :
  wpAny (model P w) A (Builtin.«dict_keyiterator.__next__» ⟨[.ref it],[]⟩) (λfin s'=>∃ r,fin=.done (.ret r)∧Q r s') E s:=by
 obtain ⟨o,e0,ec,ed⟩:=id hi
 obtain ⟨od,eo,ecd,edd⟩:=id hm
 refine zB (zH (zB (zB ?_)))
 first | refine zB (xC hi.typeIs (zH (zB (vC e0 ed ?_)))) | refine zB (xU hi.typeIs (zH (zB (vC e0 ed ?_))))
 simp only [show Builtin.Dict_items.ownsTuple "dict_keyiterator" = false by decide,vG,if_false]
 show wpAny _ _ (ite ((Value.ref d==Value.none)=true) _ _) _ _ s
 refine (if_neg (show ¬ (Value.ref d==Value.none)=true from zP))▸?_
 refine zB (zH (zB (wY eo edd ?_)))
 rw [if_neg (by simp)]
 refine zB (zH (zB (tD eo edd ?_)))
 rw [if_neg (by simp)]
 refine zH ?_
 simp only [show ¬ ((i:Int) < 0) from by omega,if_false,wX,Array.getElem?_eq_getElem hlt]
 refine zB ?_
 first | refine zB (xC hi.typeIs (zH (zB (wT hi.typeIs ?_)))) | refine zB (xU hi.typeIs (zH (zB (wT hi.typeIs ?_))))
 have hi':(s.heap.update it (Obj.mapFields (·.setIfInBounds 1 (rawInt ((i:Int)+1))))).IsKeyIter it d (i+1) es.size ep:=by
  refine ⟨_,wF _ e0 (vK (wH ed _)),(tR ..).trans ec,?_⟩
  rw [wH ed]
  simp [rawInt]
 refine zB (m:=setField (.ref it) 1 (rawInt ((i:Int)+1))) (wO e0 ed (by simp) (zB (xQ (zB (wT (s:={ s with heap:=s.heap.update it (Obj.mapFields (·.setIfInBounds 1 (rawInt ((i:Int)+1)))) }) hi'.typeIs ?_)))))
 exact zH (zH ⟨_,rfl,q _ hi' (wE ..)⟩)
theorem Gk {Q:Value→Shared→Prop} (hi:s.heap.IsKeyIter it d i es.size ep) (hm:Qd s.heap d es ep) (hlt:i < es.size) (q:∀ h',h'.IsKeyIter it d (i+1) es.size ep→Heap.SameBut it s.heap h'→Q es[i].key { s with heap:=h' }) :
  wpAny (model P w) A (Builtin.SmallTypes.nextOf (.ref it)) Q E s:=by
 unfold Builtin.SmallTypes.nextOf
 refine zB (yP (name:=Str.ofString "__next__") hi.typeIs yF (xH yF hi.typeIs wD ?_ (xZ _)))
 exact Om (Q:=λv s'=>wpAny (model P w) A _ Q E s') hi hm hlt λh' a b=>zH (q h' a b)
theorem Gi {Q:Option Value→Shared→Prop} (hi:s.heap.IsKeyIter it d i es.size ep) (hm:Qd s.heap d es ep) (hlt:i < es.size) (q:∀ h',h'.IsKeyIter it d (i+1) es.size ep→Heap.SameBut it s.heap h'→Q (some es[i].key) { s with heap:=h' }) :
  wpAny (model P w) A (pyNext (.ref it)) Q E s:=by
 unfold pyNext
 refine zB (uV (yP (name:=Str.ofString "__next__") hi.typeIs yF (xH yF hi.typeIs wD ?_ (xZ _))))
 exact Om hi hm hlt λh' a b=>zH (q h' a b)
theorem Ml {Qf:Fin→Shared→Prop} (hh:A.handled=none) (hi:s.heap.IsKeyIter it d i es.size ep) (hm:Qd s.heap d es ep) (hge:es.size≤i) (q:∀ h' e,Heap.ExtBut it s.heap h'→(∃ o,h'.get? e=some o∧o.cls=.type "StopIteration")→E (.ref e) { s with heap:=h' }) :
  wpAny (model P w) A (Builtin.«dict_keyiterator.__next__» ⟨[.ref it],[]⟩) Qf E s:=by
 obtain ⟨o,e0,ec,ed⟩:=id hi
 obtain ⟨od,eo,ecd,edd⟩:=id hm
 refine zB (zH (zB (zB ?_)))
 first | refine zB (xC hi.typeIs (zH (zB (vC e0 ed ?_)))) | refine zB (xU hi.typeIs (zH (zB (vC e0 ed ?_))))
 simp only [show Builtin.Dict_items.ownsTuple "dict_keyiterator" = false by decide,vG,if_false]
 show wpAny _ _ (ite ((Value.ref d==Value.none)=true) _ _) _ _ s
 refine (if_neg (show ¬ (Value.ref d==Value.none)=true from zP))▸?_
 refine zB (zH (zB (wY eo edd ?_)))
 rw [if_neg (by simp)]
 refine zB (zH (zB (tD eo edd ?_)))
 rw [if_neg (by simp)]
 refine zH ?_
 simp only [show ¬ ((i:Int) < 0) from by omega,if_false,wX,Array.getElem?_eq_none hge]
 refine zB ?_
 first | refine zB (xC hi.typeIs (zH ?_)) | refine zB (xU hi.typeIs (zH ?_))
 refine zB (m:=setField (.ref it) 0 .none) (wO e0 ed (by simp) (zB (m:=newExc (.type "StopIteration") []) ?_))
 simp only [newExc,newTuple,raiseNew]
 refine zB (xJ (zB (m:=firstArgMember _ _) (wpAny_of_eq (a:=Value.none) (by first | rfl | (simp only [firstArgMember]; rfl)) (xJ ?_ (by size_fits)))) (by size_fits))
 refine zB (wpAny_handled ?_)
 rw [hh]
 exact zB (zH (wpAny_throw (q _ _ (((wE ..).extBut.push _).push _) ⟨_,zN _ rfl,rfl⟩)))
theorem E3 {Q:Value→Shared→Prop} (hh:A.handled=none) (hi:s.heap.IsKeyIter it d i es.size ep) (hm:Qd s.heap d es ep) (hge:es.size≤i) (q:∀ h' e,Heap.ExtBut it s.heap h'→(∃ o,h'.get? e=some o∧o.cls=.type "StopIteration")→E (.ref e) { s with heap:=h' }) :
  wpAny (model P w) A (Builtin.SmallTypes.nextOf (.ref it)) Q E s:=by
 unfold Builtin.SmallTypes.nextOf
 refine zB (yP (name:=Str.ofString "__next__") hi.typeIs yF (xH yF hi.typeIs wD ?_ (xZ _)))
 exact Ml (A:=A.in1) hh hi hm hge q
theorem E2 {Q:Option Value→Shared→Prop} (hh:A.handled=none) (hi:s.heap.IsKeyIter it d i es.size ep) (hm:Qd s.heap d es ep) (hge:es.size≤i) (q:∀ h',Heap.ExtBut it s.heap h'→Q none { s with heap:=h' }) :
  wpAny (model P w) A (pyNext (.ref it)) Q E s:=by
 unfold pyNext
 refine zB (uV (yP (name:=Str.ofString "__next__") hi.typeIs yF (xH yF hi.typeIs wD ?_ (xZ _))))
 refine Ml (A:=A.in1) hh hi hm hge λh' e eb ho=>?_
 refine zB (wpAny_isInstance (T:="StopIteration") (b:=true) ho isSubtype_stop ?_)
 exact zH (q _ eb)
open AutoSeq1 (wpAny_loadPart') in
theorem Zgb (d:Addr) (es:Array DictEntry) (ep:Nat):MeetsIn P w (Builtin.«enumerate.__new__» ⟨[.type "enumerate",.ref d],[]⟩) (λ_ R s=>(d==sysModules)=false∧Qd s.heap d es ep∧R (.ok (.ret (.ref (s.heap.push (Fi d es.size ep)).objs.size))) { s with heap:=(s.heap.push (Fi d es.size ep)).push (Ziv s.heap.objs.size) }):=
 .of_wp λA R s h=>by
  obtain ⟨hp,g,dr,tk,os⟩:=s
  obtain ⟨hs,hm,q⟩:=h
  have Zmg:=sub_enumerate
  obtain ⟨⟨c,dx,dt,sl⟩,ho,hx,hd⟩:=id hm
  obtain ⟨hc,hdx,hsl⟩:=hx
  obtain rfl:c=.type "dict":=hc
  obtain rfl:dt=.dict es ep:=hd
  wp_walk using yT ho
  refine wpAny_stack_any λst=>zH ?_
  split
  ·rename_i c _ _ _ _ _
   cases (c==Value.type "enumerate") <;> (wp_walk using yT ho,Gj hs hm; exact ⟨_,rfl,q⟩)
  ·wp_walk using yT ho,Gj hs hm
   exact ⟨_,rfl,q⟩
theorem A0 {Q:Value→Shared→Prop} (hs:(d==sysModules)=false) (hm:Qd s.heap d es ep)
  (q:∀ h',IsEnum h' (s.heap.objs.size+1) s.heap.objs.size 0 .none→h'.IsKeyIter s.heap.objs.size d 0 es.size ep→h'.objs.size=s.heap.objs.size+2→(∀ b o,s.heap.get? b=some o→h'.get? b=some o)→Q (.ref (s.heap.objs.size+1)) { s with heap:=h' }) :
  wpAny (model P w) A (call (.type "enumerate") [.ref d]) Q E s:=by
 refine callType_newIn sU (by decide) (tX _) (sE _) (λobj=>sP obj _) sG (Zgb d es ep) ⟨hs,hm,?_⟩
 have z:(s.heap.push (Fi d es.size ep)).objs.size=s.heap.objs.size+1:=xT ..
 show _∧_
 have en:=zN (s.heap.push (Fi d es.size ep)) (o:=Ziv s.heap.objs.size) rfl
 rw [z] at en ⊢
 exact ⟨⟨_,en,rfl⟩,q _ en ⟨_,zG _ (zN _ rfl),rfl,rfl⟩ (by rw [xT,z]) λb o x=>zG _ (zG _ x)⟩
theorem Qd.at' {h h':Heap} (x:Qd h d es ep) (e:∀ o,h.get? d=some o→h'.get? d=some o):Qd h' d es ep:=let ⟨o,a,b⟩:=x; ⟨o,e o a,b⟩
theorem Zgh (hh:A.handled=none) (it d:Addr) (hne:d≠it) (es:Array DictEntry) (ep:Nat):Draws P w A it [it,d] es.size (λi v=>∃ hi:i < es.size,v=es[i].key) (λi h=>h.IsKeyIter it d i es.size ep∧Qd h d es ep) where
 live:=λ_ _ ⟨⟨o,e,_⟩,_⟩=>⟨o,e⟩
 frame:=λ_ _ _ ⟨a,b⟩ k=>⟨a.at λo e=>k it (by simp) o e,b.at' λo e=>k d (by simp) o e⟩
 item:=λi s Q E hi st q=>Gk st.1 st.2 hi λh' a b=>q _ h' s.toks ⟨hi,rfl⟩ ⟨a,st.2.at' λo e=>(b.2 d hne).trans e⟩ b
 done:=λs Q E st q=>E3 hh st.1 st.2 (zI _) q
end
theorem Zn6 {P:Program} {w:World} {H:Hp} {h:Heap} {a:Addr} {o:Obj} {kvs:List (List Key × V)} (ok:HOk P w H h) (e:H a=some (.frz o (.dT kvs))) :
  (a==sysModules)=false∧∃ (es:Array DictEntry) (ep:Nat) (bs:List Addr),h.get? a=some o∧o.ExactDict∧o.data=.dict es ep∧es.toList.map (·.key)=bs.map Value.ref∧bs.length=kvs.length∧∀ (i:Nat) b k v,bs[i]? = some b→kvs[i]? = some (k,v)→H b=some (.tup (k.map kV)):=by
 obtain ⟨ho,z,y,xs,r,o',es,ep,h1,h2,h3,h4,h5⟩:=ok a _ e
 rw [ho] at h1
 cases h1
 refine ⟨y,es,ep,xs.map (·.2.1),ho,h2,h3,?_,by rw [zA]; exact (vM r).symm,?_⟩
 ·rw [h4,yD,yD]
  rfl
 ·have key:∀ {l:List (List Key × V)} {m:List (List Key × Addr × Value)},KT H l m→∀ (i:Nat) b k v,(m.map (·.2.1))[i]? = some b→l[i]? = some (k,v)→H b=some (.tup (k.map kV)):=by
   intro l m q
   induction q with
   | nil=>intro i b k v a1 _; simp at a1
   | @cons p q ps qs hq t ih=>
    intro i b k v a1 a2
    cases i with
    | zero=>
     cases a1
     cases a2
     exact hq.2.1
    | succ i=>exact ih i b k v (by simpa using a1) (by simpa using a2)
  exact key r
theorem Fl {es:Array DictEntry} {bs:List Addr} (h:es.toList.map (·.key)=bs.map Value.ref):es.size=bs.length∧∀ (i:Nat) (hi:i < es.size),∃ b,bs[i]? = some b∧es[i].key=.ref b:=by
 have hl:es.size=bs.length:=by
  have:=congrArg List.length h
  rwa [zA,zA,yX] at this
 refine ⟨hl,λi hi=>⟨bs[i]'(by omega),zC (by omega),?_⟩⟩
 have:=congrArg (λz:List Value=>z[i]?) h
 simp only [zE] at this
 rw [zC (by rw [yX]; exact hi),zC (by omega)] at this
 simpa using this
def C0 (a:Addr) (o:Obj) (kvs:List (List Key × V)) (bs:List Addr):It:=
 ⟨λi H=>i < kvs.length∧H a=some (.frz o (.dT kvs)),λi H x H'=>H'=H∧∃ b,bs[i]? = some b∧x=.ref b,λi H=>i=kvs.length∧H a=some (.frz o (.dT kvs))⟩
theorem Ba {P:Program} {w:World} {K:W.Frag} {tg:Expr} (a it:Addr) (o:Obj) (kvs:List (List Key × V)) (bs:List Addr) (es:Array DictEntry) (ep:Nat) (hx:o.ExactDict) (hd:o.data=.dict es ep) (hk:es.toList.map (·.key)=bs.map Value.ref) (hl:bs.length=kvs.length) :
  Turn P w K tg (C0 a o kvs bs) [it] it (λi h=>h.IsKeyIter it a i es.size ep) where
 mem:=by simp
 obj:=λi h st b hb=>by
  have e:b=it:=by simpa using hb
  subst e
  obtain ⟨o,e,c,d⟩:=st
  exact ⟨o,e,λv z=>by rw [d] at z; cases z⟩
 keep:=λi h h' st k=>st.at λo e=>k it (by simp) o e
 item:=by
  intro X hP hw hK hc i pins s σ H E I hf st hg
  subst hP hw hK
  obtain ⟨hi,hq⟩:=hg
  obtain ⟨k1,k2⟩:=Fl hk
  have hi':i < es.size:=by omega
  obtain ⟨b,hb,ek⟩:=k2 i hi'
  obtain ⟨f0,f1,f2,f3,f4,f5⟩:=hf it (by simp)
  refine Gi st ⟨o,(I.hok a _ hq).1,hx,hd⟩ hi' λh' st' sb=>?_
  have I1:Inv X pins σ H { s with heap:=h' }:=I.turned (t':=s.toks) (λb o hb e=>(sb.2 b hb).trans e) f0 f1 f3 f4 f5
  obtain ⟨oi,e,c,d⟩:=id st'
  rw [ek]
  exact ⟨.ref b,rfl,Hc (s:={ s with heap:=h' }) e c d (by decide) ⟨.ref b,H,I1,rfl,⟨rfl,b,hb,rfl⟩,st',λb hb=>(hf b hb).1⟩⟩
 done:=by
  intro X hP hw hK hc i pins s σ H E I hf st hg
  subst hP hw hK
  obtain ⟨hi,hq⟩:=hg
  obtain ⟨k1,_⟩:=Fl hk
  obtain ⟨f0,f1,f2,f3,f4,f5⟩:=hf it (by simp)
  exact E2 (I.ok.hd hc) st ⟨o,(I.hok a _ hq).1,hx,hd⟩ (by omega) λh' eb=>⟨rfl,I.turned (t':=s.toks) (λb o hb e=>eb b o hb e) f0 f1 f3 f4 f5⟩
 self:=λ_ _ _ _ _ st h=>wpAny_pyIter_keyiter st h
theorem Ee {P:Program} {w:World} {K:W.Frag} {ex:List Expr} {n:Nat} {pos:Pos} (a e it:Addr) (hei:e≠it) (o:Obj) (kvs:List (List Key × V)) (bs:List Addr) (es:Array DictEntry) (ep:Nat) (ho:o.ExactDict) (hd:o.data=.dict es ep) (hk:es.toList.map (·.key)=bs.map Value.ref) :
  Turn P w K (.Tuple ex n pos) (ItE λH xs=>H a=some (.frz o (.dT kvs))∧xs=bs.map V.ref) [e,it] e (λi h=>(∃ old,IsEnum h e it i old)∧h.IsKeyIter it a i es.size ep) where
 mem:=by simp
 obj:=λi h st b hb=>by
  obtain ⟨⟨old,he⟩,oi,e1,c1,d1⟩:=st
  have hb':b=e∨b=it:=by simpa using hb
  rcases hb' with z | z
  ·subst z
   exact ⟨_,he,λv z=>by cases z⟩
  ·subst z
   exact ⟨oi,e1,λv z=>by rw [d1] at z; cases z⟩
 keep:=λi h h' st k=>⟨let ⟨old,he⟩:=st.1; ⟨old,k e (by simp) _ he⟩,st.2.at λo q=>k it (by simp) o q⟩
 item:=by
  intro X hP hw hK hc i pins s σ H E I hf st hg
  subst hP hw hK
  obtain ⟨xs,x,⟨hq,hxs⟩,hx⟩:=hg
  have hd':Qd s.heap a es ep:=⟨o,(I.hok a _ hq).1,ho,hd⟩
  obtain ⟨k1,k2⟩:=Fl hk
  have hlt:i < es.size:=by
   have:=(zF.mp hx).1
   rw [hxs,zA] at this
   omega
  obtain ⟨⟨old,he⟩,hit⟩:=st
  have hel:=zL he
  have hil:it < s.heap.objs.size:=by obtain ⟨o,q,_⟩:=id hit; exact zL q
  have nat:a≠it:=λz=>by
   obtain ⟨o,q,c,_⟩:=id hit
   obtain ⟨o2,q2,c2,_⟩:=id hd'
   rw [z,q] at q2
   cases q2
   have c3:=c2.1
   rw [c] at c3
   injection c3 with c3
   exact absurd c3 (by decide)
  have nae:a≠e:=λz=>by
   obtain ⟨o2,q2,c2,_⟩:=id hd'
   rw [z,he] at q2
   cases q2
   have c3:=c2.1
   injection c3 with c3
   exact absurd c3 (by decide)
  have hef:e∉[it,a]:=by simp [hei,xV nae]
  refine tO (Zgh (A:=X.A.in1) (I.ok.hd hc) it a nat es ep) he ⟨hit,hd'⟩ hlt hei hef λu h1 tk hu heo Ak ht1 hz1 hk1=>⟨_,rfl,?_⟩
  refine vP heo λh2 he2 sb=>?_
  obtain ⟨hi,eu⟩:=hu
  obtain ⟨b,hb,ek⟩:=k2 i hi
  have ex:x=.ref b:=by
   rw [hxs,zE,hb] at hx
   exact (Option.some.inj hx).symm
  subst ex
  obtain ⟨I2,hn⟩:=Qx (y:=.ref b) (t':=tk+1) I hf (by rw [eu,ek]; exact rfl) ht1 hk1 sb hel hil
  exact ⟨.ref s.heap.objs.size,_,I2,rfl,⟨_,.ref b,rfl,I.hok.fresh (zI _),rfl,λys hy=>by rw [hy.2,← hxs]; exact hx⟩,⟨⟨_,by simpa using he2⟩,Ak.1.at λo q=>(sb.2 it (xV hei)).trans q⟩,hn⟩
 done:=by
  intro X hP hw hK hc i pins s σ H E I hf st hg
  subst hP hw hK
  obtain ⟨xs,⟨hq,hxs⟩,hx⟩:=hg
  have hd':Qd s.heap a es ep:=⟨o,(I.hok a _ hq).1,ho,hd⟩
  obtain ⟨k1,k2⟩:=Fl hk
  obtain ⟨⟨old,he⟩,hit⟩:=st
  have nat:a≠it:=λz=>by
   obtain ⟨o,q,c,_⟩:=id hit
   obtain ⟨o2,q2,c2,_⟩:=id hd'
   rw [z,q] at q2
   cases q2
   have c3:=c2.1
   rw [c] at c3
   injection c3 with c3
   exact absurd c3 (by decide)
  obtain ⟨f0,f1,f2,f3,f4,f5⟩:=hf it (by simp)
  have ei:i=es.size:=by rw [← hx,hxs,zA,k1]
  subst ei
  exact tY (Zgh (A:=X.A.in1) (I.ok.hd hc) it a nat es ep) he ⟨hit,hd'⟩ λh' eb=>⟨rfl,I.turned (t':=s.toks) (λb o hb q=>eb b o hb q) f0 f1 f3 f4 f5⟩
 self:=λ_ _ _ _ _ st h=>let ⟨_,he⟩:=st.1; wP he h
def Ji (H:Hp) (kvs:List (List Key × V)) (bs:List Addr):Prop:=bs.length=kvs.length∧∀ (i:Nat) b k v,bs[i]? = some b→kvs[i]? = some (k,v)→H b=some (.tup (k.map kV))
section
variable {X:Cx} {tg:Expr}
theorem Zpl {pins:List (Addr × Obj)} {σ:St} {H1:Hp} {s1:Shared} {a:Addr} {kvs:List (List Key × V)} (I1:Inv X pins σ H1 s1) (hd:H1 a=some (.dT kvs)):∃ o,Inv X pins σ (upd H1 a (.frz o (.dT kvs))) s1:=by
 obtain ⟨z,y,xs,r,o,es,ep,h1,h2,h3,h4,h5⟩:=I1.hok a _ hd
 refine ⟨o,I1.write (x:=a) (e:=a) (t':=s1.toks) (h':=s1.heap) (by rw [hd]; exact True.intro) (.inl rfl) (λb u _ e=>e) ⟨o,h1⟩ ⟨h1,z,y,xs,?_,o,es,ep,h1,h2,h3,h4,h5⟩⟩
 have key:∀ {l:List (List Key × V)} {m:List (List Key × Addr × Value)},KT H1 l m→KT (upd H1 a (.frz o (.dT kvs))) l m:=by
  intro l m q
  induction q with
  | nil=>exact .nil
  | cons hq t ih=>exact .cons ⟨hq.1,by rw [Zi (Xm hq.2.1 hd λz=>nomatch z)]; exact hq.2.1,hq.2.2⟩ ih
 exact key r
def Zme (te:TE):TI:=λσ H R=>te σ H λx H1=>∃ a kvs,x=.ref a∧((H1 a=some (.dT kvs)∧∀ o bs,Ji (upd H1 a (.frz o (.dT kvs))) kvs bs→R (C0 a o kvs bs) (upd H1 a (.frz o (.dT kvs))))∨∃ o,H1 a=some (.frz o (.dT kvs))∧∀ bs,Ji H1 kvs bs→R (C0 a o kvs bs) H1)
theorem Dc {e:Expr} {te:TE} (he:PE X e te):PI X tg e (Zme te):=by
 intro pins s σ H R I h
 refine thn (he pins s σ H _ I h) λv s1 ⟨x,H1,I1,r1,q1⟩=>?_
 obtain ⟨a,kvs,e,q⟩:=q1
 subst e
 obtain rfl:v=Value.ref a:=r1
 have key:∀ (o:Obj) (H2:Hp),Inv X pins σ H2 s1→H2 a=some (.frz o (.dT kvs))→(∀ bs,Ji H2 kvs bs→R (C0 a o kvs bs) H2)→wpAny (model X.prog X.w) X.A (pyIter (.ref a)) (PIE X pins σ tg R) X.xe s1:=by
  intro o H2 I2 h2 q2
  obtain ⟨hsm,es,ep,bs,g1,g2,g3,g4,g5,g6⟩:=Zn6 I2.hok h2
  refine Gj hsm ⟨o,g1,g2,g3⟩ ?_
  refine ⟨s1.heap.objs.size,[s1.heap.objs.size],_,_,H2,rfl,I2.kept (t':=s1.toks) λb o e=>zG _ e,Ba a _ o kvs bs es ep g2 g3 g4 g5,⟨_,zN _ rfl,rfl,rfl⟩,λb hb=>?_,q2 bs ⟨g5,g6⟩⟩
  have e:b=s1.heap.objs.size:=by simpa using hb
  subst e
  exact I2.N9 (zI _) (I2.hok.fresh (zI _))
 rcases q with ⟨hd,q⟩ | ⟨o,hd,q⟩
 ·obtain ⟨o,I2⟩:=Zpl I1 hd
  exact key o _ I2 Zb (q o)
 ·exact key o H1 I1 hd q
theorem Zc6 {a:Addr} {o:Obj} {kvs:List (List Key × V)} {bs:List Addr} {g:TG} {tb:TS} {D:Ends} {σ:St} {H:Hp} (Pv:Nat→St→Hp→Prop) (h0:Pv 0 σ H) (hl:∀ i σ H,i≤kvs.length→Pv i σ H→H a=some (.frz o (.dT kvs)))
  (hs:∀ i b σ H,bs[i]? = some b→Pv i σ H→g (.ref b) σ H λσ2 H2=>tb { D with nx:=Pv (i+1),ct:=Pv (i+1),bk:=D.nx } σ2 H2) (hd:∀ σ H,Pv kvs.length σ H→D.nx σ H) :
  ∃ W:Nat→Nat→St→Hp→Prop,(∃ m,W 0 m σ H)∧∀ i m σ H,W i m σ H→
   ((C0 a o kvs bs).stop i H∧D.nx σ H)∨((C0 a o kvs bs).go i H∧∃ N:St→Hp→Prop,(∀ σ' H',N σ' H'→∃ m',m' < m∧W (i+1) m' σ' H')∧∀ x H',(C0 a o kvs bs).yld i H x H'→g x σ H' λσ2 H2=>tb { D with nx:=N,ct:=N,bk:=D.nx } σ2 H2):=by
 refine ⟨λi m σ H=>m=kvs.length - i∧i≤kvs.length∧Pv i σ H,⟨kvs.length,by simp,yV _,h0⟩,?_⟩
 rintro i m σ H ⟨rfl,hi,p⟩
 have q:=hl i σ H hi p
 by_cases hlt:i < kvs.length
 ·refine .inr ⟨⟨hlt,q⟩,Pv (i+1),λσ' H' p'=>⟨kvs.length - (i+1),by omega,rfl,hlt,p'⟩,λx H' y=>?_⟩
  obtain ⟨e,b,hb,ex⟩:=y
  subst e ex
  exact hs i b σ _ hb p
 ·have e:i=kvs.length:=by omega
  subst e
  exact .inl ⟨⟨rfl,q⟩,hd σ H p⟩
def As {a:Addr} {o:Obj} {kvs:List (List Key × V)} {bs:List Addr} {n:Nat} {fr:List Nat} {g:TG} {tt:TT} {te:TE} {σ:St} {H:Hp} {Q:VK} (Pv:Nat→List V→Hp→Prop) (hk:kvs.length < sizeLine) (h0:Pv 0 [] H) (hlen:∀ i acc H,Pv i acc H→acc.length≤i)
  (hl:∀ i acc H,Pv i acc H→H a=some (.frz o (.dT kvs)))
  (hs:∀ i acc H2 b,bs[i]? = some b→Pv i acc H2→g (.ref b) (Uw n fr σ) H2 λσ4 H4=>tt σ4 H4 λb H5=>if b=true then te σ4 H5 λv H6=>Pv (i+1) (acc ++ [v]) H6 else Pv (i+1) acc H5)
  (hd:∀ acc H2,Pv kvs.length acc H2→∀ l,H2 l=none→Q (.ref l) (upd H2 l (.lst acc))):=
 Vz (J:=C0 a o kvs bs) (n:=n) (fr:=fr) (g:=g) (tt:=tt) (te:=te) (σ:=σ) (Q:=Q) Pv hk h0 hlen (λi acc H hi p=>⟨hi,hl i acc H p⟩) (λacc H p=>⟨rfl,hl _ acc H p⟩) (λi acc H2 x H3 hi p y=>by
  obtain ⟨e,b,hb,ex⟩:=y
  subst e ex
  exact hs i acc _ b hb p) hd
end
section
variable {X:Cx} {ex:List Expr} {n:Nat} {tp:Pos}
def Zmc (te:TE):TI:=λσ H R=>te σ H λx H1=>∃ a kvs,x=.ref a∧H1 a=some (.dT kvs)∧∀ o bs,Ji (upd H1 a (.frz o (.dT kvs))) kvs bs→R (ItE λH xs=>H a=some (.frz o (.dT kvs))∧xs=bs.map V.ref) (upd H1 a (.frz o (.dT kvs)))
theorem Zev {e:Expr} {te:TE} {p pos:Pos} (hg:Gl X "enumerate") (hm:X.mg "enumerate" = none) (he:PE X e te) (h2:starEach [e] X.env=(false,eval e X.env) :: starEach [] X.env:=by rfl):PI X (.Tuple ex n tp) (.Call (.Name "enumerate" p) [e] [] pos) (Zmc te):=by
 intro pins s σ H R I h
 refine yW (U9 I hg hm Sv (xM (thn (Za he Zc h2 pos pins s σ H (λvs H1=>match vs with | [x]=>∃ a kvs,x=.ref a∧H1 a=some (.dT kvs)∧∀ o bs,Ji (upd H1 a (.frz o (.dT kvs))) kvs bs→R (ItE λH xs=>H a=some (.frz o (.dT kvs))∧xs=bs.map V.ref) (upd H1 a (.frz o (.dT kvs))) | _=>False) I h) λus s1 ⟨vs,H1,I1,r1,q1⟩=>?_) h2 rfl))
 obtain ⟨x0,e0,a,kvs,e1,hd,q⟩:∃ x0,vs=[x0]∧∃ a kvs,x0=.ref a∧H1 a=some (.dT kvs)∧∀ o bs,Ji (upd H1 a (.frz o (.dT kvs))) kvs bs→R (ItE λH xs=>H a=some (.frz o (.dT kvs))∧xs=bs.map V.ref) (upd H1 a (.frz o (.dT kvs))):=by
  match vs,q1 with
  | [x0],q1=>exact ⟨x0,rfl,q1⟩
 subst e0 e1
 obtain ⟨u,rfl,ru⟩:=Vals.one r1
 obtain rfl:u=Value.ref a:=ru
 obtain ⟨o,I2⟩:=Zpl I1 hd
 obtain ⟨hsm,es,ep,bs,g1,g2,g3,g4,g5,g6⟩:=Zn6 I2.hok Zb
 refine A0 hsm ⟨o,g1,g2,g3⟩ λh' hE hI hsz hk=>wP hE ?_
 refine ⟨_,[s1.heap.objs.size+1,s1.heap.objs.size],_,_,_,rfl,I2.kept (t':=s1.toks) hk,Ee a _ _ (sC _) o kvs bs es ep g2 g3 g4,⟨⟨_,hE⟩,hI⟩,λb hb=>?_,q o bs ⟨g5,g6⟩⟩
 have hb':b=s1.heap.objs.size+1∨b=s1.heap.objs.size:=by simpa using hb
 rcases hb' with z | z
 ·rw [z]; exact I2.N9 (xP _) (I2.hok.fresh (xP _))
 ·rw [z]; exact I2.N9 (zI _) (I2.hok.fresh (zI _))
end
end L2
namespace L2
open PySem PySem.Spec PyProof.Rows
end L2
namespace L2
open PySem PySem.Spec PyProof.Rows
open AutoSeq1 (wpAny_loadPart') in
open AutoSeq1 (wpAny_loadPart') in
section
variable {X:Cx}
inductive Zeo (x:V) (y:V) (H:Hp) (Q:VK):Prop
 | mk (a b:Addr) (xs ys:List V) (h1:x=.ref a) (h2:y=.ref b) (h3:H a=some (.tup xs)) (h4:H b=some (.tup ys)) (h5:xs.length+ys.length≤1000) (h6:∀ p H',Zr H H'→H' p=some (.tup (xs ++ ys))→Q (.ref p) H'):Zeo x y H Q
def Zoh (K:W.Frag):R2:=λx y H Q=>Zeo x y H Q
theorem Lg {K:W.Frag} (hK:X.K=K:=by rfl):OpR X (binaryOp .Add) (Zoh K):=by
 subst hK
 intro pins s σ H x y v u Q I rx ry h
 obtain ⟨a,b,xs,ys,rfl,rfl,ha,hb,hz,q⟩:=h
 by_cases c:xs=[]
 ·obtain rfl:v=Value.ref a:=rx
  obtain rfl:u=Value.ref b:=ry
  obtain ⟨its,r1,p1,_⟩:=I.tuple (SqT.of ha)
  obtain ⟨Zfn,r2,p2,_⟩:=I.tuple (SqT.of hb)
  obtain ⟨⟨cls,dd,data,sl⟩,ho,hc,n,hd⟩:=id p1
  obtain ⟨⟨cls2,dd2,data2,sl2⟩,ho2,hc2,n2,hd2⟩:=id p2
  simp only at hc hd hc2 hd2
  subst hc hd hc2 hd2
  refine concat_meets ⟨_,ho,rfl⟩ ⟨_,ho2,rfl⟩ noFill_tuple_add seq_tuple_add tV tN (tJ _ _) (tuple_addW0 a b its.toArray Zfn.toArray n n2 dd dd2 sl sl2 (by simpa using r1.Lh.mpr c)) ⟨ho,ho2,.ref b,H,I,rfl,q b H (Zr.refl _) ?_⟩
  rw [c,List.nil_append]
  exact hb
 ·refine Zbc pins s σ H (.ref a) (.ref b) v u Q I rx ry ⟨a,b,xs,ys,rfl,rfl,SqT.of ha,SqT.of hb,c,by rw [sizeLine_eq]; omega,λe=>q a H (Zr.refl _) ?_,λ_ p hp=>q p _ (Zd hp _) Zb⟩
  rw [e,xF]
  exact ha
end
end L2
namespace L2
open PySem PySem.Spec PyProof.Rows
def Fly (h:Heap) (e C:Addr) (d:Option Addr):Prop:=∃ (oe:Obj) (vs:Array Value),h.get? e=some oe∧oe.cls=.ref C∧oe.dict=d∧oe.data=.fields vs∧1 < vs.size∧
 (vs[1]? = some .none∨∃ T oT ts,vs[1]? = some (.ref T)∧h.get? T=some oT∧oT.data=.fields ts∧ts[3]? = some .none)
def exR (a C:Addr) (d:Option Addr):HO:=.ext λh=>∃ (oe:Obj) (vs:Array Value),h.get? a=some oe∧oe.cls=.ref C∧oe.dict=d∧oe.data=.fields vs∧1 < vs.size
theorem Zf6 {P:Program} {w:World} {H:Hp} {h:Heap} {a C:Addr} {d:Option Addr} (q:∃ (oe:Obj) (vs:Array Value),h.get? a=some oe∧oe.cls=.ref C∧oe.dict=d∧oe.data=.fields vs∧1 < vs.size):Yl P w H h a (exR a C d):=
 ⟨q,let ⟨o,_,e,_⟩:=q; ⟨o,e⟩,λ_ _ ⟨o,vs,e,r⟩ k=>⟨o,vs,k _ e,r⟩⟩
theorem Fly.there {h:Heap} {a C:Addr} {d:Option Addr} (F:Fly h a C d):∃ (oe:Obj) (vs:Array Value),h.get? a=some oe∧oe.cls=.ref C∧oe.dict=d∧oe.data=.fields vs∧1 < vs.size:=
 let ⟨o,vs,e,c,q,f,z,_⟩:=F; ⟨o,vs,e,c,q,f,z⟩
section
variable {M:Model} {A:Around} {E:Value→Shared→Prop} {s:Shared} {base:Heap} {env:Env} {outer:List Env} {L e C:Addr} {d:Option Addr}
def Zkg (env:Env) (outer:List Env) (e:Addr) (h h':Heap):Prop:=
 (∀ b o,b≠e→b∉frs (env :: outer)→h.get? b=some o→h'.get? b=some o)∧∀ b o,b≠e→h.get? b=some o→∃ sl,h'.get? b=some { o with slots:=sl }
theorem Ci {oe:Obj} {vs:Array Value} {hd0:Value} {had:Bool} {Q:Unit→Shared→Prop} (hfr:A.frames=some (env :: outer)) (hl:s.heap.FunFrames base (env :: outer)) (hf:env.frame=some L)
  (he:s.heap.get? e=some oe) (hc:oe.cls=.ref C) (hdd:oe.dict=d) (hv:oe.data=.fields vs) (hz:1 < vs.size) (h:∀ h',Zkg env outer e s.heap h'→Fly h' e C d→Q () { s with heap:=h' }) :
  wpAny M A (do let fr ← frameOf env; let pl ← entryPlaceOf L had; let en ← EntryCells.newEntry hd0 fr .none (rawInt L) .none pl; setField (.ref e) 1 en) (λ_ s'=>wpAny M A (setFlight (.ref e) none) Q E s') E s:=by
 have nfr:e∉(env :: outer).filterMap (·.frame):=λz=>by
  obtain ⟨_,o,q,nf⟩:=hl.mem z
  rw [he] at q
  cases q
  exact nf vs hv
 refine zB (wpAny_frameOf_fun hfr hl hf λh1 k1=>?_)
 refine zB (wpAny_entryPlaceOf λpl hpl=>?_)
 unfold EntryCells.newEntry newFields
 have sz5:=hpl.sizeOk5 hd0 (.ref L) .none (rawInt L) .none
 refine zB (xJ ?_ (hpl.sizeOk5 _ _ _ _ _))
 have g1:h1.get? e=some oe:=(k1.2.1 e nfr).trans he
 have ht3:(([hd0,.ref L,.none,rawInt L,.none] ++ (if pl.isEmpty then List.replicate 6 Value.none else pl)).toArray)[3]? = some (rawInt L):=by simp
 have hts:3 < (([hd0,.ref L,.none,rawInt L,.none] ++ (if pl.isEmpty then List.replicate 6 Value.none else pl)).toArray).size:=(uW.mp ht3).1
 generalize hoT:([hd0,.ref L,.none,rawInt L,.none] ++ (if pl.isEmpty then List.replicate 6 Value.none else pl)).toArray=ts at ht3 hts
 have g2:=zG (h:=h1) { cls:=.type "traceback",dict:=none,data:=.fields ts } g1
 refine wO g2 hv hz ?_
 have nT:h1.objs.size≠e:=vW (zL g1)
 have v3:=wH hv (·.setIfInBounds 1 (Value.ref h1.objs.size))
 have g3:=wF (Obj.mapFields (·.setIfInBounds 1 (Value.ref h1.objs.size))) g2 (vK v3)
 have t3:((h1.push { cls:=.type "traceback",dict:=none,data:=.fields ts }).update e (Obj.mapFields (·.setIfInBounds 1 (Value.ref h1.objs.size)))).get? h1.objs.size=some { cls:=.type "traceback",dict:=none,data:=.fields ts }:=
  (xL _ _ (xV nT)).trans (zN h1 rfl)
 unfold setFlight
 refine zB (xD g3 v3 (x:=.ref h1.objs.size) (by simp [hz]) ?_)
 rw [if_pos (by simp)]
 refine wO t3 rfl hts (h _ ⟨λb o nb nf q=>?_,λb o nb q=>?_⟩ ?_)
 ·have q1:h1.get? b=some o:=(k1.2.1 b nf).trans q
  rw [xL _ _ (vW (zL q1)),xL _ _ (xV nb)]
  exact zG _ q1
 ·obtain ⟨sl,q1⟩:=k1.2.2 b o q
  refine ⟨sl,?_⟩
  rw [xL _ _ (vW (zL q1)),xL _ _ (xV nb)]
  exact zG _ q1
 ·refine ⟨_,_,(xL _ _ nT).trans g3,(tR _ _).trans hc,?_,v3,by simpa using hz,.inr ⟨h1.objs.size,_,_,by simp [hz],wF _ t3 (vK (wH rfl _)),wH rfl _,?_⟩⟩
  ·cases oe
   cases hv
   exact hdd
  ·rw [Array.getElem?_setIfInBounds_self_of_lt hts]
   rfl
theorem Zh3 {Q:Unit→Shared→Prop} (hfr:A.frames=some (env :: outer)) (hl:s.heap.FunFrames base (env :: outer)) (hf:env.frame=some L) (F:Fly s.heap e C d) (h:∀ h',Zkg env outer e s.heap h'→Fly h' e C d→Q () { s with heap:=h' }) :
  wpAny M A (noteFrame (.ref e) env) (λ_ s'=>wpAny M A (setFlight (.ref e) none) Q E s') E s:=by
 obtain ⟨oe,vs,he,hc,hdd,hv,hz,hT⟩:=F
 unfold noteFrame
 simp only [hf]
 rcases hT with h1 | ⟨T,oT,ts,h1,hT,hdT,h3⟩
 ·refine zB (xD he hv h1 ?_)
  rw [if_neg (by decide)]
  exact Ci hfr hl hf he hc hdd hv hz h
 ·refine zB (xD he hv h1 ?_)
  rw [if_pos (by simp)]
  refine zB (xD hT hdT h3 ?_)
  rw [if_neg (show ¬ ((Value.none==rawInt L)=true) from by simp [rawInt])]
  refine zB (wO hT hdT (uW.mp h3).1 ?_)
  rw [Heap.update_setField_same s.heap T oT ts 3 .none hT hdT h3]
  exact Ci hfr hl hf he hc hdd hv hz h
end
def CXE (P:Program) (w:World):CXT:=λouter H s E e s'=>∃ (a C:Addr) (d:Option Addr) (H':Hp),e=.ref a∧s'.os=s.os∧AllBare s'.gens∧Un (frs outer) [] H H' s.heap s'.heap∧HOk P w H' s'.heap∧Fly s'.heap a C d∧H' a=some (exR a C d)∧E (.ref a) none H'
section
variable {X:Cx} {pins:List (Addr × Obj)} {σ:St} {H:Hp} {s:Shared} {a C:Addr} {d:Option Addr} {M:Model} {A:Around} {E':Value→Shared→Prop}
theorem Dn {Q:Unit→Shared→Prop} (I:Inv X pins σ H s) (hA:A.frames=some X.stack) (hst:X.stack=X.env :: X.outer) (hfr:X.env.frame=some X.env.locals) (ha:H a=some (exR a C d)) (F:Fly s.heap a C d)
  (h:∀ h',Inv X pins σ H { s with heap:=h' }→Fly h' a C d→Q () { s with heap:=h' }):wpAny M A (noteFrame (.ref a) X.env) (λ_ s'=>wpAny M A (setFlight (.ref a) none) Q E' s') E' s:=by
 refine Zh3 (base:=X.base) (outer:=X.outer) (by rw [hA,hst]) (by rw [← hst]; exact I.stack) hfr F λh' ⟨k1,k2⟩ F'=>h h' ?_ F'
 have na:∀ b,H b=none→b≠a:=λb n z=>by rw [z,ha] at n; cases n
 refine I.call (g':=s.gens) (t':=s.toks) (d':=s.drawn) (ch:=[]) ⟨λb o q n nf _=>k1 b o (na b n) (by rw [← hst]; exact nf) q,λb o q n _ _=>k2 b o (na b n) q,λb o q n _=>n,λb o q _=>?_,λ_ _ q=>q,λ_ _ _ q=>q,λb ps q=>⟨#[],by rw [q]; simp⟩⟩ (λb o q=>?_) I.bare (λb z=>absurd z (by simp))
 ·by_cases z:b=a
  ·obtain ⟨oe,_,e,_⟩:=F'
   exact ⟨oe,by rw [z]; exact e⟩
  ·obtain ⟨sl,e⟩:=k2 b o z q
   exact ⟨_,e⟩
 ·by_cases z:b=a
  ·subst z
   rw [ha] at q
   cases q
   exact Zf6 F'.there
  ·refine (I.hok b o q).Nj (λc v hc r=>k1 c v ?_ ?_ r) (λ_ r=>r) λ_ _ r=>r
   ·rintro rfl
    rcases hc with rfl | hc
    ·exact z rfl
    ·rw [ha] at hc; cases hc
   ·intro hm
    rw [← hst] at hm
    have:=I.M7 c hm
    rcases hc with rfl | hc
    ·rw [q] at this; cases this
    ·rw [hc] at this; cases this
end
def RX (X:Cx) (E:St→XK):Prop:=∀ (pins:List (Addr × Obj)) (σ:St) (H:Hp) (s:Shared) (a C:Addr) (d:Option Addr),Inv X pins σ H s→H a=some (exR a C d)→Fly s.heap a C d→E σ (.ref a) none H→X.xe (.ref a) s
theorem Bm {P:Program} {w:World} {K:W.Frag} {mg:Str→Option Value} {base:Heap} {N:List Str} {qual:Str} {scope:Scope} {f:Addr} {cd:Value} {A:Around} {outer:List Env} {s:Shared} {H:Hp} {E:XK} :
  RX (Ft (CXE P w) P w K mg base N qual scope f cd A outer s H E) λ_=>E:=by
 intro pins σ H1 s1 a C d I ha F e
 refine zB (Dn I I.ok.frames rfl rfl ha F λh' I' F'=>?_)
 exact ⟨a,C,d,H1,rfl,I'.os,I'.bare,I'.base,I'.hok,F',ha,e⟩
section
variable {X:Cx} {E:St→XK}
def Zd0 (sp:Sp) (E:St→XK) (t:TA):TE:=λσ H Q=>t σ H λvs H1=>sp vs H1 Q (E σ)
theorem Za0 {k:Nat} {f:Addr} {fd:FuncData} {ps:List Str} {sp:Sp} {pins:List (Addr × Obj)} {σ:St} {H:Hp} {s:Shared} {Q:VK} {us:List Value} {vs:List V} (F:Yt X.prog X.w X.K X.mg X.base (CXE X.prog X.w) k f fd ps sp) (hr:Wx k X.A) (hb:Binds X.K fd ps []) (hx:RX X E)
  (I:Inv X pins σ H s) (r:Vals vs us) (h:sp vs H Q (E σ)):wpAny (model X.prog X.w) X.A (call (.ref f) us) (EP X pins σ Q) X.xe s:=by
 have hl:us.length=ps.length:=r.length.symm.trans (F.len _ _ _ _ h)
 have bd:BindsTo s fd ⟨us,[]⟩ (ps.zip us):=by
  have:=hb s us I.kIn (by rw [xF]; exact hl)
  rwa [xF] at this
 refine tK (uR (F.run X.A X.stack s H ⟨us,[]⟩ us vs Q (E σ) hr I.Zpo bd r h) λr s' q=>?_)
 cases r with
 | ok fl=>cases fl with
  | ret u=>exact I.after q
  | _=>exact False.elim q
 | error e=>
  obtain ⟨a,C,d,H',rfl,os,bare,un,hok,F,ha,q⟩:=q
  obtain ⟨hh,g,dd,t,os'⟩:=s'
  obtain rfl:os'=s.os:=os
  exact hx pins σ H' _ a C d (I.call (h':=hh) (g':=g) (d':=dd) (t':=t) (ch:=[]) un hok bare λb z=>absurd z (by simp)) ha F q
theorem Ze1 {k:Nat} {f:Addr} {fd:FuncData} {ps:List Str} {sp:Sp} {x:Str} {p pos:Pos} {e:Expr} {es:List Expr} {t:TA} (F:Yt X.prog X.w X.K X.mg X.base (CXE X.prog X.w) k f fd ps sp) (hr:Wx k X.A) (hg:Gl X x) (hm:X.mg x=some (.ref f)) (hk:W.keepIn X.K (.ref f)=true) (hb:Binds X.K fd ps []) (hx:RX X E)
  (ha:PA X (e :: es) t) (hdb:(x==("__debug__" : Str))=false:=by decide) (he:starEach (e :: es) X.env=(false,eval e X.env) :: starEach es X.env:=by rfl) (hpl:(backTo pos (starEach es X.env)).any (·.1)=false:=by rfl) :
  PE X (.Call (.Name x p) (e :: es) [] pos) (Zd0 sp E t):=by
 intro pins s σ H Q I h
 refine yW (Qu I hg hm ?_ hdb)
 exact sY (h₀:=X.base) I.ok.mod.kin hk (thn (ha pos pins s σ H _ I h) λus s1 ⟨vs,H1,I1,r,q⟩=>⟨I1.kIn,Za0 F hr hb hx I1 r q⟩) he hpl
def Zk7 (K:W.Frag) (te:TE) (E:St→XK):TS:=λ_ σ H=>te σ H λx H1=>∃ a C d ini,x=.ref a∧Cf K C ini=true∧H1 a=some (exH a C d)∧E σ (.ref a) none (upd H1 a (exR a C d))
theorem Zeg {s:Shared} {K:W.Frag} {A:Around} {M:Model} {E0:Value→Shared→Prop} {x:Sem Value} {env:Env} {Q:Flow→Shared→Prop} (hh:A.handled=none)
  (h:wpAny M A x (λv s1=>∃ a C T d ini,v=.ref a∧Znn K s1.heap C ini∧s1.heap.get? a=some (exO C T d)∧E0 (.ref a) s1) E0 s):wpAny M A (raiseStmt env (some x) none) Q E0 s:=by
 unfold raiseStmt
 refine zB (wK h (λv s1 h1=>?_) λ_ _ z=>z)
 obtain ⟨a,C,T,d,ini,rfl,c,he,hE⟩:=h1
 obtain ⟨nm,q,N,bs,bm,sn,sub,ab,col,dd,k0,k1,k2,k3,k5,mN,hC,hN,hi,Tl⟩:=c.obj
 have hbe:bm.contains (.type "BaseException")=true:=Tl.hasType (by decide)
 have hcB:(Value.ref C :: bm).contains (.type "BaseException")=true:=by rw [List.contains_cons,hbe,Bool.or_true]
 obtain ⟨hp,g,dr,tk,os⟩:=s1
 repeat (first | with_reducible refine uP he ?_ | with_reducible refine uP hC ?_ | (with_reducible refine wpAny_isSubtype_exc hC ?_; rw [hcB]) | wp_step)
 exact wpAny_raiseNew_none hh hE
theorem Zer {e:Expr} {te:TE} {pos:Pos} {K:W.Frag} (he:PE X e te) (hx:RX X E) (hc:X.calm=true:=by rfl) (hK:X.K=K:=by rfl):PS X (.Raise (some e) none pos) (Zk7 K te E):=by
 subst hK
 intro pins s σ H D I h
 rw [arm_exec_Raise]
 refine zB (uU (Zeg (K:=X.K) (I.ok.hd hc) (zB (thn (he pins s σ H _ I h) λu s1 ⟨x,H1,I1,rx,a,C,d,ini,ex,ck,ea,q⟩=>zB (uU (zH ?_))))))
 subst ex
 obtain rfl:u=Value.ref a:=rx
 obtain ⟨⟨T,g⟩,_,_⟩:=(show Yl X.prog X.w H1 s1.heap a (exH a C d) from I1.hok a _ ea)
 refine ⟨a,C,T,d,ini,rfl,Zb0 I1.kIn ck,g,?_⟩
 have F:Fly s1.heap a C d:=⟨_,_,g,rfl,rfl,rfl,(by show 1 < 6; decide),.inl rfl⟩
 refine hx pins σ _ s1 a C d ?_ Zb F q
 exact I1.write (t':=s1.toks) (h':=s1.heap) (x:=a) (e:=a) (by rw [ea]; exact True.intro) (.inl rfl) (λb o _ q=>q) ⟨_,g⟩ (Zf6 F.there)
end
abbrev Cx.near (X:Cx) (A:Around) (c:Bool) (pn:List (Addr × Obj)) (xe:Value→Shared→Prop):Cx:={ X with A:=A,calm:=c,pn:=pn,xe:=xe }
section
variable {X:Cx} {pins pins':List (Addr × Obj)} {σ:St} {H:Hp} {s:Shared} {A:Around} {c:Bool} {pn:List (Addr × Obj)} {xe:Value→Shared→Prop}
theorem Inv.near (I:Inv X pins σ H s) (hA:A.frames=X.A.frames) (hc:c=true→A.handled=none) (hp:∀ p∈pn ++ pins',p∈X.pn ++ pins):Inv (X.near A c pn xe) pins' σ H s:=
 ⟨⟨I.ok.mod,I.ok.kind,I.ok.glob,I.ok.blt,I.ok.above,I.ok.inj,I.ok.has,I.ok.cab,hc,hA.trans I.ok.frames,I.ok.stk,I.ok.exf,I.ok.bs,I.ok.bsz,I.ok.Br,I.ok.An,I.ok.Pp,I.ok.frf⟩,
  I.os,I.bare,I.base,I.loc,I.cell,I.free,I.V3,λp h=>I.pin p (hp p h),I.hok,I.len⟩
theorem Inv.Zds (I:Inv (X.near A c pn xe) pins' σ H s) (hA:X.A.frames=A.frames) (hc:X.calm=true→X.A.handled=none) (hp:∀ p∈X.pn ++ pins,p∈pn ++ pins'):Inv X pins σ H s:=
 ⟨⟨I.ok.mod,I.ok.kind,I.ok.glob,I.ok.blt,I.ok.above,I.ok.inj,I.ok.has,I.ok.cab,hc,hA.trans I.ok.frames,I.ok.stk,I.ok.exf,I.ok.bs,I.ok.bsz,I.ok.Br,I.ok.An,I.ok.Pp,I.ok.frf⟩,
  I.os,I.bare,I.base,I.loc,I.cell,I.free,I.V3,λp h=>I.pin p (hp p h),I.hok,I.len⟩
theorem name_goes {M:Model} {E:Value→Shared→Prop} {i:Nat} {n:Str} {pos:Pos} {Q:Unit→Shared→Prop} (I:Inv X pins σ H s) (hN:X.N.Nodup) (hi:X.N[i]? = some n) (hx:X.env.scope.names.lookup n=some .local)
  (h:∀ s',Inv X pins (σ.set i none) H s'→Q () s'):wpAny M A (do bindName X.env n .none; unbindBehindTheSuite X.env n pos) Q E s:=by
 have Zmr:(X.env.scope.kind==.class || (X.env.scope.kind==.module && X.env.locals != X.env.globals))=false:=by rw [I.ok.kind]; rfl
 refine zB (wpAny_bindName (Rj (v:=.non) I hN hi (.inl hx) rfl (λs1 I1=>?_) (.inr hx)))
 obtain ⟨m,hn,hl⟩:=id I1.loc
 unfold unbindBehindTheSuite
 refine sW ?_
 unfold unbindName
 refine zB (wpAny_point (zB ?_))
 unfold deleteName
 simp only [show X.env.kindOf n=some .local from hx,Zmr]
 rw [if_neg (by decide)]
 have hm:(m n).isSome=true:=by
  obtain ⟨u,_,z⟩:=hl i n .non hi (xK (by rw [I.len]; exact (zF.mp hi).1)) (.inl hx)
  rcases z with ⟨_,e⟩ | ⟨z,_⟩
  ·rw [e]; rfl
  ·rcases z with z | z <;> (rw [show X.env.kindOf n=some .local from hx] at z; cases z)
 refine zB (wpAny_nsDel_keeps hn λh2 v2 hn2 hs=>?_)
 rw [hm]
 simp only [Bool.not_true,vG,if_false]
 refine zH (wpAny_point (h { s1 with heap:=h2 } ?_))
 have cne:=I1.cne
 obtain ⟨oL,_,_,hoL,_⟩:=id hn
 have nL:∀ b o,X.s₀.heap.get? b=some o→b≠X.env.locals:=λb o q=>yH (yA (zL q) I.ok.above)
 refine ⟨I1.ok,I1.os,I1.bare,⟨λb o e n hb hx=>?_,λb o e n hb hx=>?_,I1.base.free,λb o e hx=>?_,I1.base.Jo,I1.base.M5,I1.base.Lr⟩,⟨_,hn2,λj y v' e1 e2 e3=>?_⟩,λy c e=>?_,I1.free,I1.V3,λp hp=>?_,λb ob e=>?_,by simpa using I.len⟩
 ·exact (hs.2 b (nL b o e)).trans (I1.base.keep b o e n hb hx)
 ·obtain ⟨sl,q⟩:=I1.base.slot b o e n hb hx
  exact ⟨sl,(hs.2 b (nL b o e)).trans q⟩
 ·obtain ⟨o',q⟩:=I1.base.there b o e hx
  exact ⟨o',(hs.2 b (nL b o e)).trans q⟩
 ·by_cases hj:j=i
  ·subst hj
   rw [xK (by rw [I.len]; exact (zF.mp hi).1)] at e2
   cases e2
  ·rw [xR (xV hj)] at e2
   obtain ⟨u',r',q⟩:=hl j y v' e1 (by rw [xR (xV hj)]; exact e2) e3
   refine ⟨u',r',?_⟩
   rcases q with ⟨k,e⟩ | ⟨k,c,e,z⟩
   ·have ny:y≠n:=λe=>hj (Kp hN e1 (e▸hi))
    exact .inl ⟨k,(if_neg ny).trans e⟩
   ·exact .inr ⟨k,c,e,z.sameBut hs (cne y c e)⟩
 ·obtain ⟨w',z⟩:=I1.cell y c e
  exact ⟨w',z.sameBut hs (cne y c e)⟩
 ·obtain ⟨e,n,ne,nf,d⟩:=I1.pin p hp
  exact ⟨(hs.2 p.1 ne).trans e,n,ne,nf,d⟩
 ·refine (I1.hok b ob e).Nj (λc w' hc q=>(hs.2 c ?_).trans q) (λ_ q=>q) λ_ _ q=>q
  rintro rfl
  rcases hc with rfl | hc
  ·rw [I1.free] at e; cases e
  ·rw [I1.free] at hc; cases hc
theorem Zc7 {M:Model} {E:Value→Shared→Prop} {a C:Addr} {d:Option Addr} {Q:Unit→Shared→Prop} (F:Fly s.heap a C d) (h:Q () s):wpAny M A (setFlight (.ref a) none) Q E s:=by
 obtain ⟨oe,vs,he,hc,hdd,hv,hz,hT⟩:=F
 unfold setFlight
 rcases hT with h1 | ⟨T,oT,ts,h1,hT,hdT,h3⟩
 ·refine zB (xD he hv h1 ?_)
  rw [if_neg (by decide)]
  exact zH h
 ·refine zB (xD he hv h1 ?_)
  rw [if_pos (by simp)]
  refine wO hT hdT (uW.mp h3).1 ?_
  show Q () { s with heap:=s.heap.update T (Obj.mapFields (·.setIfInBounds 3 .none)) }
  rw [Heap.update_setField_same s.heap T oT ts 3 .none hT hdT h3]
  exact h
end
def EX (K:W.Frag) (Cs:Addr) (i j:Nat) (D:Ends):St→XK:=λσ v _ H=>∃ a C d,v=.ref a∧H a=some (exR a C d)∧W.exmOne K (.ref C) (.ref Cs)=some true∧D.nx (((σ.set i (some (.ref a))).set j (some (.ref a))).set i none) H
def tTry (K:W.Frag) (Cs:Addr) (i j:Nat) (tb:(St→XK)→TS):TS:=λD σ H=>tb (EX K Cs i j D) D σ H
theorem Zlg {X:Cx} {K:W.Frag} {Cs:Addr} {i j:Nat} {cls n x:Str} {body:List Stmt} {p p1 p2 p3 hp pos:Pos} {tb:(St→XK)→TS} (hN:X.N.Nodup) (hi:X.N[i]? = some n) (hj:X.N[j]? = some x) (hxn:X.env.scope.names.lookup n=some .local) (hxx:X.env.scope.names.lookup x=some .local)
  (hm:X.mg cls=some (.ref Cs)) (hst:X.stack=X.env :: X.outer) (hfr:X.env.frame=some X.env.locals)
  (hb:∀ (pn:List (Addr × Obj)) (xe:Value→Shared→Prop) (E:St→XK),RX (X.near X.A X.calm pn xe) E→PSs (X.near X.A X.calm pn xe) body (tb E))
  (hg:Gl X cls:=by rfl) (hK:X.K=K:=by rfl) (hdb:(cls==("__debug__" : Str))=false:=by decide) (hd1:(n==("__debug__" : Str))=false:=by decide) (hd2:(n==("__classdict__" : Str))=false:=by decide) (hs:swapsWith (.Name n p2) (some (.Name x p1)) p3.line X.env=pure false:=by rfl) :
  PS X (.Try body [.ExceptHandler (some (.Name cls p)) (some n) [.Assign [.Name x p1] (.Name n p2) p3] hp] [] [] pos) (tTry K Cs i j tb):=by
 subst hK
 intro pins s σ H D I h
 refine wpAny_Try_except ?_
 generalize hXE:(λ(e:Value) (s1:Shared)=>wpAny (model X.prog X.w) X.A (noteFrame e X.env) (λ_ s2=>wpAny (model X.prog X.w) X.A (setFlight e none) (λ_ s3=>wpAny (model X.prog X.w) X.A (handleBy e X.env [.ExceptHandler (some (.Name cls p)) (some n) [.Assign [.Name x p1] (.Name n p2) p3] hp]) (SP X pins D) X.xe s3) X.xe s2) X.xe s1)=XE
 have mA:∀ p∈X.pn ++ pins,p∈(X.pn ++ pins) ++ ([]:List (Addr × Obj)):=λp h=>by rw [xF]; exact h
 have I':Inv (X.near X.A X.calm (X.pn ++ pins) XE) [] σ H s:=I.near rfl I.ok.hd λp h=>by rw [xF] at h; exact h
 have back:∀ {pins' σ H s},Inv (X.near X.A X.calm (X.pn ++ pins) XE) pins' σ H s→Inv X pins σ H s:=λI=>I.Zds rfl I.ok.hd λp h=>wV _ h
 have rx:RX (X.near X.A X.calm (X.pn ++ pins) XE) (EX X.K Cs i j D):=by
  rintro pins' σ1 H1 s1 a C d I1 ha F ⟨a',C',d',e,ha',hex,q⟩
  cases e
  rw [ha] at ha'
  have hCC:C'=C:=by
   obtain ⟨o1,v1,g1,c1,_⟩:=F.there
   obtain ⟨⟨o2,v2,g2,c2,_⟩,_⟩:=(show Yl X.prog X.w H1 s1.heap a (exR a C' d') from I1.hok a _ (ha.trans ha'))
   rw [g1] at g2
   cases g2
   rw [c1] at c2
   cases c2
   rfl
  subst hCC
  have I1:=back I1
  show XE (.ref a) s1
  rw [← hXE]
  refine Dn I1 I1.ok.frames hst hfr ha F λh2 I2 F2=>?_
  have F2:Fly ({ s1 with heap:=h2 }:Shared).heap a C' d:=F2
  generalize ({ s1 with heap:=h2 }:Shared)=s2 at I2 F2
  have I3:Inv (X.near (X.A.mark (some (.ref a))) false X.pn λ_ _=>False) pins σ1 H1 s2:=I2.near rfl (λz=>nomatch z) λp h=>h
  refine wpAny_handleBy_cons (codeAny_handlers_test (Qu (X:=X.near (X.A.mark (some (.ref a))) false X.pn λ_ _=>False) I3 hg hm ?_ hdb)) (by intro z; cases z)
  have LT:W.Looks (model X.prog X.w) s2.heap (typeOf (.ref a)) (.ref C'):=by
   obtain ⟨oe,vs,ge,hc,_⟩:=F2
   exact hc▸(W.Looks.ld ge).andThen .now
  refine (W.exm_one I2.kIn LT hex).here ?_
  refine codeAny_handlers_suite_as (Zc7 F2 (Rj (v:=.ref a) I2 hN hi (.inl hxn) rfl (λs4 I4=>?_) (.inr hxn)))
  have I4:Inv (X.near (X.A.mark (some (.ref a))) false X.pn λ_ _=>False) pins (σ1.set i (some (.ref a))) H1 s4:=I4.near rfl (λz=>nomatch z) λp h=>h
  refine wK (Zj (Zm (X:=X.near (X.A.mark (some (.ref a))) false X.pn λ_ _=>False) hN hj (.inl hxx) (Gs hi (.inl hxn) hd1 hd2) hs (.inr hxx)) pins s4 _ H1 { nx:=λσ' H'=>σ'=(σ1.set i (some (.ref a))).set j (some (.ref a))∧H'=H1,rt:=λ_ _=>False } I4 ?_) (λf s5 q5=>?_) λ_ _ z=>z.elim
  ·exact ⟨_,xK (by rw [I2.len]; exact (zF.mp hi).1),rfl,rfl⟩
  ·cases f with
   | next=>
    obtain ⟨σ5,H5,I5,rfl,rfl⟩:=q5
    have I6:Inv X pins ((σ1.set i (some (.ref a))).set j (some (.ref a))) H5 s5:=I5.Zds rfl I2.ok.hd λp h=>h
    exact name_goes I6 hN hi hxn λs7 I7=>⟨_,H5,I7,q⟩
   | ret u=>obtain ⟨_,_,_,_,_,z⟩:=q5; exact z.elim
   | brk=>obtain ⟨_,_,_,z⟩:=q5; exact z.elim
   | cont=>obtain ⟨_,_,_,z⟩:=q5; exact z.elim
 refine wK (hb _ XE _ rx [] s σ H D I' h) (λf s1 q=>?_) λ_ _ q=>q
 cases f with
 | next=>
  obtain ⟨σ1,H1,I1,q⟩:=q
  exact uY ⟨σ1,H1,back I1,q⟩
 | ret u=>
  obtain ⟨v,σ1,H1,I1,r,q⟩:=q
  exact ⟨v,σ1,H1,back I1,r,q⟩
 | brk=>obtain ⟨σ1,H1,I1,q⟩:=q; exact ⟨σ1,H1,back I1,q⟩
 | cont=>obtain ⟨σ1,H1,I1,q⟩:=q; exact ⟨σ1,H1,back I1,q⟩
end L2
namespace L2
open PySem PySem.Spec PyProof.Rows
def Zag (H:Hp) (a C:Addr) (fs:List (Str × V)):Prop:=(H a=some (exR a C none)∧fs=[])∨∃ dx,H a=some (exR a C (some dx))∧H dx=some (xdH dx fs)
theorem Zag.same {H H':Hp} {a C:Addr} {fs:List (Str × V)} (h:Zag H a C fs) (e:Zr H H'):Zag H' a C fs:=by
 rcases h with ⟨h1,h2⟩ | ⟨dx,h1,h2⟩
 ·exact .inl ⟨e _ _ h1,h2⟩
 ·exact .inr ⟨dx,e _ _ h1,e _ _ h2⟩
section
variable {X:Cx} {pins:List (Addr × Obj)} {σ:St} {H:Hp} {s:Shared} {a C:Addr} {fs:List (Str × V)} {A:Around} {E:Value→Shared→Prop}
theorem Zag.inst (I:Inv X pins σ H s) (e:Zag H a C fs):∃ ox od,W.InstAt s.heap a ox C od∧∀ f v,fs.lookup f=some v→∃ o u,od=some o∧W.lookIn f o=some (some u)∧RelV v u:=by
 rcases e with ⟨h1,rfl⟩ | ⟨dx,h1,h2⟩
 ·obtain ⟨⟨oe,vs,g,c,d,fl,_⟩,_,_⟩:=(show Yl X.prog X.w H s.heap a (exR a C none) from I.hok a _ h1)
  obtain ⟨cls,dct,dat,sl⟩:=oe
  cases c
  cases d
  cases fl
  exact ⟨_,none,⟨g,rfl,rfl,True.intro⟩,λf v z=>by cases z⟩
 ·obtain ⟨⟨oe,vs,g,c,d,fl,_⟩,_,_⟩:=(show Yl X.prog X.w H s.heap a (exR a C (some dx)) from I.hok a _ h1)
  obtain ⟨cls,dct,dat,sl⟩:=oe
  cases c
  cases d
  cases fl
  obtain ⟨⟨mA,n,r,_⟩,_,_⟩:=(show Yl X.prog X.w H s.heap dx (xdH dx fs) from I.hok dx _ h2)
  obtain ⟨od,ho,hl⟩:=Iw n
  refine ⟨_,some od,⟨g,rfl,rfl,ho⟩,λf v z=>?_⟩
  obtain ⟨u,hu,ru⟩:=Px.some_of (v:=v) (o:=mA f) (by rw [← z]; exact r f)
  exact ⟨od,u,rfl,by rw [hl,hu],ru⟩
inductive Zjv (K:W.Frag) (xs:List V) (H:Hp) (Q:VK):Prop
 | mk (a C fs c u b:_) (h1:xs=[.ref a,c]) (h2:Zag H a C fs) (h3:F8 K C) (h4:RelV c u) (h5:((∃ n,c=.ty n)∨∃ d,c=.ref d)) (h6:W.kitOne K (.ref C) u=some b) (h7:Q (.bl b) H):Zjv K xs H Q
def rIsR (K:W.Frag):List V→Hp→VK→Prop:=λxs H Q=>Zjv K xs H Q
theorem Se {K:W.Frag} (hK:X.K=K:=by rfl):Xx X (.builtin "isinstance") (rIsR K):=by
 subst hK
 intro pins s σ H xs us Q I r h
 obtain ⟨a,C,fs,c,u,b,rfl,e,cf,rc,kc,hk,q⟩:=h
 obtain ⟨u1,u2,rfl,r1,r2⟩:=Vals.two r
 obtain rfl:u1=Value.ref a:=r1
 obtain rfl:u2=u:=RelV.Zkm r2 rc kc
 obtain ⟨ox,od,J,_⟩:=e.inst I
 exact vE (Zfl cf) I.kIn J hk (λz=>nomatch z) λtk=>⟨.bl b,H,I.tok _,rfl,q⟩
theorem Ce (bs:List Bool):(bs.map V.bl).all Uo=true:=by
 induction bs with
 | nil=>rfl
 | cons e r ih=>rw [zO,vN,ih]; rfl
theorem Hu:∀ {bs:List Bool} {us:List Value},Vals (bs.map V.bl) us→us=bs.map Value.bool
 | [],_,.nil=>rfl
 | _ :: _,_,.cons r t=>by
  rw [Hu t]
  cases r
  rfl
theorem Zf8 (b:Bool):eqU (.bl true) (.bool b)=b:=by cases b <;> decide
inductive E7 (x:V) (vs:List V) (H:Hp) (Q:VK):Prop
 | mk (l:Addr) (bs:List Bool) (h1:x=.ref l) (h2:vs=[.bl true]) (h3:H l=some (.lst (bs.map V.bl))) (h4:Q (.int (bs.countP id:Nat)) H):E7 x vs H Q
def Zhs:V→List V→Hp→VK→Prop:=λx vs H Q=>E7 x vs H Q
theorem Zcv:MtM X "list.count" Zhs:=by
 intro pins s σ H x vs v us Q I rx rv h
 obtain ⟨l,bs,rfl,rfl,hH,q⟩:=h
 cases rx
 obtain ⟨u,rfl,ru⟩:=rv.one
 obtain ⟨z,its,n,r,hl,e⟩:=I.B7 hH
 have hc:its.toArray.toList.countP (eqU (.bl true))=bs.countP id:=by
  rw [List.toList_toArray,Hu r,List.countP_map]
  congr 1
  funext b
  exact Zf8 b
 refine call_meets F.slot_list_count ⟨_,e,rfl⟩ F.entry_list_count (F.args_list_count_2 _ _) (SeqAt.list_countAt l its.toArray n none #[] u (eqU (.bl true))) ⟨e,λw hw=>?_,?_⟩
 ·exact Vw ru rfl r (Ce bs) w (by simpa using hw)
 ·rw [hc]
  exact ⟨.int (bs.countP id:Nat),H,I.tok _,⟨_,rfl⟩,q⟩
inductive E6 (x:V) (vs:List V) (H:Hp) (Q:VK):Prop
 | mk (l:Addr) (bs:List Bool) (j:Nat) (h1:x=.ref l) (h2:vs=[.bl true]) (h3:H l=some (.lst (bs.map V.bl))) (h4:bs[j]? = some true) (h5:(∀ m,m < j→bs[m]? = some false)) (h6:Q (.int (j:Nat)) H):E6 x vs H Q
def Zhr:V→List V→Hp→VK→Prop:=λx vs H Q=>E6 x vs H Q
theorem Zcu:MtM X "list.index" Zhr:=by
 intro pins s σ H x vs v us Q I rx rv h
 obtain ⟨l,bs,j,rfl,rfl,hH,hj,hm,q⟩:=h
 cases rx
 obtain ⟨u,rfl,ru⟩:=rv.one
 obtain ⟨z,its,n,r,hl,e⟩:=I.B7 hH
 have hlen:its.length=bs.length:=by have:=r.length; rw [zA] at this; exact this.symm
 have hjl:=(zF.mp hj).1
 have hat:∀ (m:Nat) (hm:m < its.toArray.size) (b:Bool),bs[m]? = some b→eqU (.bl true) its.toArray[m]=b:=λm hm b hb=>by
  have e1:its[m]? = some (Value.bool b):=by rw [Hu r,zE,hb]; rfl
  have e2:its.toArray[m]=Value.bool b:=by
   rw [List.getElem_toArray]
   exact (zF.mp e1).2
  rw [e2]
  exact Zf8 b
 refine call_meets F.slot_list_index ⟨_,e,rfl⟩ F.entry_list_index (F.args_list_index_2 _ _)
  (SeqAt.list_indexAt l its.toArray n none #[] u (eqU (.bl true)) j (by rw [zR]; omega) (by rw [zA,sizeLine_eq] at z; omega) (hat _ _ _ hj) λm hm' hlt=>hat _ _ _ (hm m hlt)) ⟨e,λw hw=>?_,?_⟩
 ·exact Vw ru rfl r (Ce bs) w (by simpa using hw)
 ·exact ⟨.int (j:Nat),H,I.tok _,⟨_,rfl⟩,q⟩
theorem Ew:∀ (us:List Value) (cs:List Nat),us.length=cs.length→(∀ (i:Nat) v,us[i]? = some v→∃ c t,cs[i]? = some c∧v=.str ⟨#[c]⟩ t)→StrsAre us (cs.map λc=>⟨#[c]⟩)
 | [],[],_,_=>Uc .nil
 | u :: us,c :: cs,hl,h=>by
  obtain ⟨d,t,e1,e2⟩:=h 0 u rfl
  cases e1
  have ih:=Ew us cs (by simpa using hl) λi v q=>h (i+1) v (by simpa using q)
  refine Uc (ys:=(⟨#[c]⟩:Str) :: cs.map λc=>⟨#[c]⟩) (.cons ⟨t,e2⟩ (Qm ih))
 | [],_ :: _,hl,_=>nomatch hl
 | _ :: _,[],hl,_=>nomatch hl
inductive E4 (xs:List V) (H:Hp) (Q:VK):Prop
 | mk (z:Str) (h1:xs=[.str z]) (h2:z.length < 64) (h3:∀ (ys:List Str) l,ys.Perm (signs z)→sortedS ys=true→H l=none→Q (.ref l) (upd H l (.lst (ys.map V.str)))):E4 xs H Q
def Zho:List V→Hp→VK→Prop:=λxs H Q=>E4 xs H Q
theorem Mr (hc:X.calm=true):Xx X (.builtin "sorted") Zho:=by
 intro pins s σ H xs us Q I r h
 obtain ⟨z,rfl,hz,q⟩:=h
 obtain ⟨u,rfl,t,rfl⟩:=vals1 r
 have hz':z.cps.size < 64:=hz
 refine Calls.call_function_entry kind_sorted plain_sorted entry_sorted (args_sorted1 _) ?_
 unfold Builtin.«sorted»
 refine zB (m:=checkCount "sorted" 1 1 _) (zH ?_)
 refine zB (wpAny_collect_str (A:=X.A.in1) (I.ok.hd hc) z t (λs' acc k hg hd hos Cc=>?_) (by rw [sizeLine_eq]; omega))
 have sy:StrsAre acc.toList (signs z):=Ew acc.toList z.cps.toList (by rw [yX,Cc.1]; rfl) λi v e=>by
  obtain ⟨c,t,e1,e2⟩:=Cc.2 i v (by rw [← xN]; exact e)
  exact ⟨c,t,by rw [xN]; exact e1,e2⟩
 have hlen:acc.toList.length < 64:=by rw [yX,Cc.1]; exact hz'
 obtain ⟨hh,g',d',tk,os'⟩:=s'
 cases hg
 cases hd
 cases hos
 have I1:Inv X pins σ H { s with heap:=hh,toks:=tk }:=I.kept k
 refine zB (wpAny_newList ?_ (by rw [sizeLine_eq]; omega))
 have hoL:(hh.push (seqObj "list" acc.toList.toArray 0)).get? hh.objs.size=some (seqObj "list" acc.toList.toArray 0):=zN _ rfl
 refine zB (xQ (xH slot_list_sort ⟨_,hoL,rfl⟩ entry_list_sort (list_sort_treeK (s:={ s with heap:=hh.push (seqObj "list" acc.toList.toArray 0),toks:=tk }) strKind_oneLt hoL sy.keysOf (λv₁ v₂ rest e=>keyKind_strs (by rw [← e]; exact sy)) (by omega) λst' a1 a2=>⟨_,rfl,?_⟩) (args_list_sort _)))
 obtain ⟨ys',s1,s2,s3⟩:=sorted_out_str sy a1 a2
 obtain ⟨e,he⟩:=sortedHeap_at (vs:=acc.toList) (out:=(arrOf st').map (·.2)) (n:=0) hoL
 have hyl:ys'.length≤sizeLine:=by
  rw [s2.length_eq,sizeLine_eq]
  show (z.cps.toList.map _).length≤_
  rw [zA,yX]
  omega
 refine zH ⟨_,rfl,.ref hh.objs.size,upd H hh.objs.size (.lst (ys'.map V.str)),I1.laid (t':=tk) (λb o' eb=>?_) (zI _) ⟨by rw [zA]; exact hyl,((arrOf st').map (·.2)).toList,e,Qm s1,?_⟩,rfl,q ys' _ s2 s3 (I1.hok.fresh (zI _))⟩
 ·have lb:=zL eb
  rw [sortedHeap_old (yH lb) (by rw [size_push']; exact wJ lb)]
  exact zG _ eb
 ·rw [Array.toArray_toList]
  exact he
end
section
variable {P:Program} {w:World} {K:W.Frag} {mg:Str→Option Value} {base:Heap}
theorem Fun.okX {x qual:Str} {st:Stmt} {f:Addr} {fd:FuncData} {N ps:List Str} {k:Nat} {sp:Sp} (F:Fun K x qual st f fd) (S:Yf N ps (Zg st)) (len:∀ vs H Q E,sp vs H Q E→vs.length=ps.length)
  (R3:∀ (A:Around) (outer:List Env) (s:Shared) (H:Hp) (vs:List V) (Q:VK) (E:XK),Wx k (A.deeper (envOfC qual (Zg st) s.heap.objs.size f fd.code))→sp vs H Q E→
   ∃ t,PSs (Ft (CXE P w) P w K mg base N qual (Zg st) f fd.code A outer s H E) (Z5 st) t∧t { nx:=λ_ H'=>Q .non H',rt:=Q } (start N vs) H):Yt P w K mg base (CXE P w) (k+1) f fd ps sp:=by
 obtain ⟨oc,od,kV,doc,pm,an,cdv,ct,osl,rfl,lk,hcd⟩:=F.ex
 exact Zf3 lk hcd S len λA outer s H vs Q E hr hsp=>R3 A outer s H vs Q E hr hsp
structure Ic (P:Program) (w:World) (K:W.Frag) (mg:Str→Option Value) (base:Heap) (x:Str) (k:Nat) (ps:List Str) (sp:Sp) where
 f:Addr
 fd:FuncData
 ok:Yt P w K mg base (CXE P w) k f fd ps sp
 at_:mg x=some (.ref f)
 kp:W.keepIn K (.ref f)=true
 b:Binds K fd ps []
theorem Yt.calm {k:Nat} {f:Addr} {fd:FuncData} {ps:List Str} {sp:Sp} (F:Yt P w K mg base (CXE P w) k f fd ps sp):Yt P w K mg base CX0 k f fd ps (λvs H Q _=>sp vs H Q λ_ _ _=>False):=
 ⟨λvs H Q E h=>F.len vs H Q _ h,λA outer s H args us vs Q E hr he hb hv hs=>uR (F.run A outer s H args us vs Q _ hr he hb hv hs) λr s' q=>by
  cases r with
  | error e=>obtain ⟨a,C,d,H',_,_,_,_,_,_,_,z⟩:=q; exact z.elim
  | ok fl=>cases fl <;> exact q⟩
def Ic.calm {x:Str} {k:Nat} {ps:List Str} {sp:Sp} (C:Ic P w K mg base x k ps sp):Cal P w K mg base x k ps (λvs H Q _=>sp vs H Q λ_ _ _=>False):=⟨C.f,C.fd,C.ok.calm,C.at_,C.kp,C.b⟩
end
theorem Zom {X:Cx} {E:St→XK} {x:Str} {k:Nat} {ps:List Str} {sp:Sp} {p pos:Pos} {e:Expr} {es:List Expr} {t:TA} (C:Ic X.prog X.w X.K X.mg X.base x k ps sp) (hr:Wx k X.A) (hx:RX X E) (ha:PA X (e :: es) t) (hg:Gl X x:=by rfl)
  (hdb:(x==("__debug__" : Str))=false:=by decide) (he:starEach (e :: es) X.env=(false,eval e X.env) :: starEach es X.env:=by rfl) (hpl:(backTo pos (starEach es X.env)).any (·.1)=false:=by rfl) :
  PE X (.Call (.Name x p) (e :: es) [] pos) (Zd0 sp E t):=Ze1 C.ok hr hg C.at_ C.kp C.b hx ha hdb he hpl
end L2
namespace L2
open PySem PySem.Spec PyProof.Rows
section
variable {X:Cx} {es:List Expr} {n:Nat} {tp:Pos}
end
end L2
namespace L2
open PySem PySem.Spec PyProof.Rows
section
variable {P:Program} {w:World} {A:Around} {E:Value→Shared→Prop} {s:Shared} {r t:Addr} {items:Array Value}
open AutoSeq1 (wpAny_loadPart') in
end
section
variable {X:Cx}
end
end L2
namespace L2
open PySem PySem.Spec PyProof.Rows
section
variable {X:Cx}
end
end L2
namespace L2
open PySem PySem.Spec PyProof.Rows
end L2
namespace L2
open PySem PySem.Spec PyProof.Rows
section
open PySem.W (kasC kasC_pure kasC_bind kasC_get kasC_modify kasC_lift kasC_nil kasC_cons kasC_range kas_item kas_cmp kas_st)
variable {prog:Program} {w:World} {A:Around} {s:Shared} {α β:Type} {st:SortSt}
variable {κ:SortKind} {it:Array Keyed} {n:Nat} {lt:Nat→Nat→Bool}
abbrev G3:Type:=Option (Option Nat) × Nat × Nat
end
end L2
namespace L2
open PySem PySem.Spec PyProof.Rows
section
open PySem.W (kas_item)
variable {lt:Nat→Nat→Bool} {a b o:List Nat} {ia ib x:Nat}
variable {n:Nat} {pa pb:Array Nat} {it:Array Keyed}
variable {out:Array Keyed}
end
end L2
namespace L2
open PySem PySem.Spec PyProof.Rows
section
open PySem.W (kas_item)
variable {prog:Program} {w:World} {A:Around} {s:Shared} {st:SortSt} {κ:SortKind} {it:Array Keyed} {n:Nat} {lt:Nat→Nat→Bool} {pa pb:Array Nat}
section
variable {α β:Type} {R:β→SortSt→Prop}
end
end
end L2
namespace L2
open PySem PySem.Spec PyProof.Rows
section
open PySem.W (kas_item)
variable {lt:Nat→Nat→Bool} {a b o:List Nat} {na nb x:Nat}
variable {n:Nat} {pa pb:Array Nat} {it:Array Keyed} {out:Array Keyed}
end
end L2
namespace L2
open PySem PySem.Spec PyProof.Rows
section
open PySem.W (kas_item)
variable {prog:Program} {w:World} {A:Around} {s:Shared} {st:SortSt} {κ:SortKind} {it:Array Keyed} {n:Nat} {lt:Nat→Nat→Bool} {pa pb:Array Nat} {na nb:Nat}
end
end L2
namespace L2
open PySem PySem.Spec PyProof.Rows
section
open PySem.W (kas_item kas_rev kas_swaps_map)
variable {prog:Program} {w:World} {A:Around} {s:Shared} {κ:SortKind} {it:Array Keyed} {n:Nat} {lt:Nat→Nat→Bool} {p:Array Nat} {pd:Array (Nat × Nat × Nat)} {g:Nat}
section
variable {β:Type} {R:β→SortSt→Prop}
end
end
end L2
namespace L2
open PySem PySem.Spec PyProof.Rows
section
open PySem.W (kas_item)
variable {prog:Program} {w:World} {A:Around} {s:Shared} {κ:SortKind} {it:Array Keyed} {n:Nat} {lt:Nat→Nat→Bool} {p:Array Nat} {g:Nat}
end
end L2
namespace L2
open PySem PySem.Spec PyProof.Rows
section
open PySem.W (kas_item kas_st kasC)
variable {prog:Program} {w:World} {A:Around} {s:Shared} {κ:SortKind} {it:Array Keyed} {n:Nat} {lt:Nat→Nat→Bool} {p:Array Nat}
end
end L2
namespace L2
open PySem PySem.Spec PyProof.Rows
section
open PySem.W (kas_ask kas_item kasC)
end
section
variable {X:Cx} {pins:List (Addr × Obj)} {σ:St} {H:Hp} {s:Shared} {x:Str} {k:Nat} {ps:List Str} {sp:Sp}
end
end L2
namespace L2
open PySem PySem.Spec PyProof.Rows
section
variable {P:Program} {w:World} {A:Around} {E:Value→Shared→Prop} {s:Shared}
structure ZAt (h:Heap) (z TI TO i j t u:Addr) (k:Nat) (own:Value):Prop where
 zp:IsZip h z TI TO own
 ti:IsPair h TI (.ref i) (.ref j)
 to:∃ a b,IsPair h TO a b
 it:h.IsTupleIter i t k
 jt:h.IsTupleIter j u k
structure ZNe (z TI TO i j:Addr):Prop where
 a:TI≠z
 b:TO≠z
 c:i≠z
 d:j≠z
 e:TI≠TO
 f:TI≠i
 g:TI≠j
 h:TO≠i
 k:TO≠j
 l:i≠j
theorem Zjm {T:Addr} {a b v:Value} {n:Nat} {Q:Unit→Shared→Prop} (hT:IsPair s.heap T a b) (q:∀ h',h'.get? T=some { cls:=.type "tuple",data:=.seq ((#[a,b]:Array Value).setIfInBounds n v) }→Heap.SameBut T s.heap h'→Q () { s with heap:=h' }) :
  wpAny (model P w) A (updateSeq T (·.setIfInBounds n v)) Q E s:=wpAny_updateSeq_pair hT q
theorem Zg9 {z TI TO i j t u:Addr} {k:Nat} {xs ys:Array Value} {x y:Value} {Q:Value→Shared→Prop} (N:ZNe z TI TO i j) (Z:ZAt s.heap z TI TO i j t u k .none) (ht:s.heap.IsTuple t xs) (hu:s.heap.IsTuple u ys)
  (n1:t≠z∧t≠TO∧t≠i∧t≠j) (n2:u≠z∧u≠TO∧u≠i∧u≠j) (hx:xs[k]? = some x) (hy:ys[k]? = some y)
  (q:∀ h',ZAt h' z TI TO i j t u (k+1) (rawInt s.heap.objs.size)→IsPair h' s.heap.objs.size x y→(∀ c o,c≠z→c≠TO→c≠i→c≠j→s.heap.get? c=some o→h'.get? c=some o)→Q (.ref s.heap.objs.size) { s with heap:=h' }) :
  wpAny (model P w) A (Builtin.«zip.__next__» ⟨[.ref z],[]⟩) (λr s'=>∃ v,r=.done (.ret v)∧Q v s') E s:=by
 obtain ⟨zp,ti,⟨a,b,to⟩,it,jt⟩:=Z
 refine zB (m:=field (.ref z) 2) (xD zp rfl (x:=.bool false) rfl (zB (m:=field (.ref z) 3) (xD zp rfl (x:=.ref TI) rfl (zB (vV ti rfl ?_)))))
 refine zB (m:=Builtin.SmallTypes.ownedTupleIsFree (.ref z)) ?_
 unfold Builtin.SmallTypes.ownedTupleIsFree
 refine zB (xD zp rfl (x:=.none) rfl (zH ?_))
 simp only [if_true]
 refine zB (sO (zB (xD zp rfl (x:=.ref TO) rfl (zB (uJ zp (by simp) λg1 zp1 e1=>zB ?_)))))
 replace zp1:IsZip g1 z TI TO .ellipsis:=zp1
 simp only [List.zipIdx_cons,List.zipIdx_nil,uZ,sS]
 refine zB (zB (sW (zB (m:=Builtin.SmallTypes.nextOf (.ref i)) (Pr (it.extBut e1.extBut N.c) (ht.extBut e1.extBut n1.1) hx λg2 it2 e2=>zH ?_))))
 have to2:IsPair g2 TO a b:=e2.extBut _ _ N.h (e1.extBut _ _ N.b to)
 refine zB (vV to2 rfl (zB (Zjm to2 λg3 to3 e3=>zB (wpAny_letGo (zH ?_)))))
 replace to3:IsPair g3 TO x b:=to3
 refine zB (zB (sW (zB (m:=Builtin.SmallTypes.nextOf (.ref j)) (Pr (((jt.extBut e1.extBut N.d).extBut e2.extBut N.l.symm).extBut e3.extBut N.k.symm) (((hu.extBut e1.extBut n2.1).extBut e2.extBut n2.2.2.1).extBut e3.extBut n2.2.1) hy λg4 jt4 e4=>zH ?_))))
 have to4:IsPair g4 TO x b:=e4.extBut _ _ N.k to3
 refine zB (vV to4 rfl (zB (Zjm to4 λg5 to5 e5=>zB (wpAny_letGo (zH (zH ?_))))))
 replace to5:IsPair g5 TO x y:=to5
 refine zB (vV to5 rfl (zB (wpAny_newTuple ?_)))
 have sz:g5.objs.size=s.heap.objs.size:=by rw [e5.1,e4.1,e3.1,e2.1,e1.1]
 have kp:∀ c o,c≠z→c≠TO→c≠i→c≠j→s.heap.get? c=some o→g5.get? c=some o:=λc o c1 c2 c3 c4 h=>e5.extBut _ _ c2 (e4.extBut _ _ c4 (e3.extBut _ _ c2 (e2.extBut _ _ c3 (e1.extBut _ _ c1 h))))
 have zp5:IsZip g5 z TI TO .ellipsis:=e5.extBut _ _ N.b.symm (e4.extBut _ _ N.d.symm (e3.extBut _ _ N.b.symm (e2.extBut _ _ N.c.symm zp1)))
 have it5:g5.IsTupleIter i t (k+1):=((it2.extBut e3.extBut N.h.symm).extBut e4.extBut N.l).extBut e5.extBut N.h.symm
 have jt5:g5.IsTupleIter j u (k+1):=jt4.extBut e5.extBut N.k.symm
 refine zB (m:=Builtin.SmallTypes.ownedTupleHandOut (.ref z) (.ref g5.objs.size)) ?_
 unfold Builtin.SmallTypes.ownedTupleHandOut
 have zp6:IsZip (g5.push { cls:=.type "tuple",data:=.seq #[x,y] }) z TI TO .ellipsis:=zG _ zp5
 refine zB (uJ zp6 (by simp) λg7 zp7 e7=>?_)
 replace zp7:IsZip g7 z TI TO (rawInt g5.objs.size):=zp7
 refine uJ zp7 (by simp) λg8 zp8 e8=>zH ⟨_,rfl,?_⟩
 have up:∀ c o,c≠z→g5.get? c=some o→g8.get? c=some o:=λc o c1 h=>e8.extBut _ _ c1 (e7.extBut _ _ c1 (zG _ h))
 have hT:IsPair g8 g5.objs.size x y:=e8.extBut _ _ (vW (zL zp5)) (e7.extBut _ _ (vW (zL zp5)) (zN _ rfl))
 replace zp8:IsZip g8 z TI TO (rawInt g5.objs.size):=zp8
 show Q (.ref g5.objs.size) _
 rw [sz] at zp8 hT ⊢
 exact q g8 ⟨zp8,up _ _ N.a (kp _ _ N.a N.e N.f N.g ti),⟨x,y,up _ _ N.b to5⟩,it5.at λo h=>up _ o N.c h,jt5.at λo h=>up _ o N.d h⟩ hT λc o c1 c2 c3 c4 h=>up c o c1 (kp c o c1 c2 c3 c4 h)
theorem Zg8 {z TI TO i j t u:Addr} {k:Nat} {xs:Array Value} {Q:Fin→Shared→Prop} (hh:A.handled=none) (N:ZNe z TI TO i j) (Z:ZAt s.heap z TI TO i j t u k .none) (ht:s.heap.IsTuple t xs) (n1:t≠z) (hx:xs[k]? = none)
  (q:∀ h' e,(∀ c o,c≠z→c≠i→s.heap.get? c=some o→h'.get? c=some o)→(∃ o,h'.get? e=some o∧o.cls=.type "StopIteration")→E (.ref e) { s with heap:=h' }) :
  wpAny (model P w) A (Builtin.«zip.__next__» ⟨[.ref z],[]⟩) Q E s:=by
 obtain ⟨zp,ti,⟨a,b,to⟩,it,jt⟩:=Z
 refine zB (m:=field (.ref z) 2) (xD zp rfl (x:=.bool false) rfl (zB (m:=field (.ref z) 3) (xD zp rfl (x:=.ref TI) rfl (zB (vV ti rfl ?_)))))
 refine zB (m:=Builtin.SmallTypes.ownedTupleIsFree (.ref z)) ?_
 unfold Builtin.SmallTypes.ownedTupleIsFree
 refine zB (xD zp rfl (x:=.none) rfl (zH ?_))
 simp only [if_true]
 refine zB (sO (zB (xD zp rfl (x:=.ref TO) rfl (zB (uJ zp (by simp) λg1 zp1 e1=>zB ?_)))))
 replace zp1:IsZip g1 z TI TO .ellipsis:=zp1
 simp only [List.zipIdx_cons,List.zipIdx_nil,uZ,sS]
 refine zB (zB (sW (zB (m:=Builtin.SmallTypes.nextOf (.ref i)) (Hh hh (it.extBut e1.extBut N.c) (ht.extBut e1.extBut n1) hx λg2 e e2 he=>?_))))
 obtain ⟨oe,h1,h2⟩:=he
 have zp2:IsZip g2 z TI TO .ellipsis:=e2 _ _ N.c.symm zp1
 have ne:e≠z:=λh=>by subst h; rw [zp2] at h1; cases h1; simp at h2
 exact uJ zp2 (by simp) λg3 _ e3=>q g3 e (λc o c1 c3 h=>e3.extBut _ _ c1 (e2 _ _ c3 (e1.extBut _ _ c1 h))) ⟨oe,e3.extBut _ _ ne h1,h2⟩
theorem Znq {z TI TO i j t u:Addr} {k:Nat} {xs ys:Array Value} {x y:Value} {Q:Option Value→Shared→Prop} (N:ZNe z TI TO i j) (Z:ZAt s.heap z TI TO i j t u k .none) (ht:s.heap.IsTuple t xs) (hu:s.heap.IsTuple u ys)
  (n1:t≠z∧t≠TO∧t≠i∧t≠j) (n2:u≠z∧u≠TO∧u≠i∧u≠j) (hx:xs[k]? = some x) (hy:ys[k]? = some y)
  (q:∀ h',ZAt h' z TI TO i j t u (k+1) (rawInt s.heap.objs.size)→IsPair h' s.heap.objs.size x y→(∀ c o,c≠z→c≠TO→c≠i→c≠j→s.heap.get? c=some o→h'.get? c=some o)→Q (some (.ref s.heap.objs.size)) { s with heap:=h' }) :
  wpAny (model P w) A (pyNext (.ref z)) Q E s:=by
 have ty:s.TypeIs (.ref z) "zip":=⟨_,Z.zp,rfl⟩
 unfold pyNext
 exact zB (uV (yP (name:=Str.ofString "__next__") ty sR (xH sR ty F.entry_zip_next (Zg9 N Z ht hu n1 n2 hx hy λh' a b c=>zH (q h' a b c)) (F.args_zip_next_1 _))))
theorem Zkj {z TI TO i j t u:Addr} {k:Nat} {xs:Array Value} {Q:Option Value→Shared→Prop} (hh:A.handled=none) (N:ZNe z TI TO i j) (Z:ZAt s.heap z TI TO i j t u k .none) (ht:s.heap.IsTuple t xs) (n1:t≠z) (hx:xs[k]? = none)
  (q:∀ h',(∀ c o,c≠z→c≠i→s.heap.get? c=some o→h'.get? c=some o)→Q none { s with heap:=h' }):wpAny (model P w) A (pyNext (.ref z)) Q E s:=by
 have ty:s.TypeIs (.ref z) "zip":=⟨_,Z.zp,rfl⟩
 unfold pyNext
 refine zB (uV (yP (name:=Str.ofString "__next__") ty sR (xH sR ty F.entry_zip_next (Zg8 hh N Z ht n1 hx λh' e kp he=>?_) (F.args_zip_next_1 _))))
 obtain ⟨o,h1,h2⟩:=he
 exact zB (wpAny_isInstance (T:="StopIteration") (b:=true) ⟨o,h1,h2⟩ isSubtype_stop (zH (q _ kp)))
def zg1 (h:Heap) (t:Addr):Heap:=h.push { cls:=.type "tuple_iterator",data:=.fields #[.ref t,.int 0 0] }
def zg2 (h:Heap) (t u:Addr):Heap:=(zg1 h t).push { cls:=.type "tuple_iterator",data:=.fields #[.ref u,.int 0 0] }
def zg3 (h:Heap) (t u:Addr):Heap:=(zg2 h t u).push { cls:=.type "tuple",data:=.seq #[.ref h.objs.size,.ref (zg1 h t).objs.size] }
def zg4 (h:Heap) (t u:Addr):Heap:=(zg3 h t u).push { cls:=.type "tuple",data:=.seq #[.none,.none] }
def zg5 (h:Heap) (t u:Addr):Heap:=(zg4 h t u).push { cls:=.type "zip",data:=.fields #[.none,.bool false,.bool false,.ref (zg2 h t u).objs.size,.ref (zg3 h t u).objs.size] }
theorem Zhb (t u:Addr) (xs ys:Array Value) :
  Meets (Builtin.«zip.__new__» ⟨[.type "zip",.ref t,.ref u],[]⟩) (λ_ R s=>(s.heap.IsTuple t xs∧s.heap.IsTuple u ys)∧R (.ok (.ret (.ref (zg4 s.heap t u).objs.size))) { s with heap:=zg5 s.heap t u }):=
 .of_wp λprog w A R s h=>by
  obtain ⟨hp,g,d,tk,os⟩:=s
  obtain ⟨⟨h1,h2⟩,q⟩:=h
  have Zmg:=sub_zip
  have hT1:Heap.IsTuple (Shared.heap ⟨hp,g,d,tk,os⟩) t xs:=h1
  have hT2:Heap.IsTuple (Shared.heap ⟨hp.push { cls:=.type "tuple_iterator",data:=.fields #[.ref t,.int 0 0] },g,d,tk,os⟩) u ys:=Heap.IsTuple.at h2 λo e=>zG _ e
  wp_walk using uF hT1,uF hT2
  exact ⟨_,rfl,q⟩
theorem Zdg {t u:Addr} {xs ys:Array Value} {Q:Value→Shared→Prop} (ht:s.heap.IsTuple t xs) (hu:s.heap.IsTuple u ys)
  (q:∀ h',ZAt h' (s.heap.objs.size+4) (s.heap.objs.size+2) (s.heap.objs.size+3) s.heap.objs.size (s.heap.objs.size+1) t u 0 .none→(∀ c o,s.heap.get? c=some o→h'.get? c=some o)→Q (.ref (s.heap.objs.size+4)) { s with heap:=h' }) :
  wpAny (model P w) A (call (.type "zip") [.ref t,.ref u]) Q E s:=by
 refine callType_new F.called_zip (by decide) (F.typeCall_zip_2 _ _) (F.newCall_zip_2 _ _) (λobj=>F.args_object_init_3 obj _ _) F.entry_zip_new (Zhb t u xs ys) ⟨⟨ht,hu⟩,?_⟩
 have z1:(zg1 s.heap t).objs.size=s.heap.objs.size+1:=xT ..
 have z2:(zg2 s.heap t u).objs.size=s.heap.objs.size+2:=(xT ..).trans (by rw [z1])
 have z3:(zg3 s.heap t u).objs.size=s.heap.objs.size+3:=(xT ..).trans (by rw [z2])
 have z4:(zg4 s.heap t u).objs.size=s.heap.objs.size+4:=(xT ..).trans (by rw [z3])
 have k5:∀ c o,(zg4 s.heap t u).get? c=some o→(zg5 s.heap t u).get? c=some o:=λc o e=>zG _ e
 have k4:∀ c o,(zg3 s.heap t u).get? c=some o→(zg5 s.heap t u).get? c=some o:=λc o e=>k5 _ _ (zG _ e)
 have k3:∀ c o,(zg2 s.heap t u).get? c=some o→(zg5 s.heap t u).get? c=some o:=λc o e=>k4 _ _ (zG _ e)
 have k2:∀ c o,(zg1 s.heap t).get? c=some o→(zg5 s.heap t u).get? c=some o:=λc o e=>k3 _ _ (zG _ e)
 have k1:∀ c o,s.heap.get? c=some o→(zg5 s.heap t u).get? c=some o:=λc o e=>k2 _ _ (zG _ e)
 have g5:IsZip (zg5 s.heap t u) (s.heap.objs.size+4) (s.heap.objs.size+2) (s.heap.objs.size+3) .none:=by
  have:=zN (zg4 s.heap t u) (o:={ cls:=.type "zip",data:=.fields #[.none,.bool false,.bool false,.ref (zg2 s.heap t u).objs.size,.ref (zg3 s.heap t u).objs.size] }) rfl
  rw [z2,z3,z4] at this
  unfold zg5
  rw [z2,z3]
  exact this
 have g4:IsPair (zg5 s.heap t u) (s.heap.objs.size+3) .none .none:=by
  have:=zN (zg3 s.heap t u) (o:={ cls:=.type "tuple",data:=.seq #[.none,.none] }) rfl
  rw [z3] at this
  exact k5 _ _ this
 have g3:IsPair (zg5 s.heap t u) (s.heap.objs.size+2) (.ref s.heap.objs.size) (.ref (s.heap.objs.size+1)):=by
  have:=zN (zg2 s.heap t u) (o:={ cls:=.type "tuple",data:=.seq #[.ref s.heap.objs.size,.ref (zg1 s.heap t).objs.size] }) rfl
  have this:=k4 _ _ this
  rw [z2,z1] at this
  exact this
 have g2:(zg5 s.heap t u).IsTupleIter (s.heap.objs.size+1) u 0:=by
  have:=zN (zg1 s.heap t) (o:={ cls:=.type "tuple_iterator",data:=.fields #[.ref u,.int 0 0] }) rfl
  rw [z1] at this
  exact ⟨_,k3 _ _ this,rfl,rfl⟩
 have g1:(zg5 s.heap t u).IsTupleIter s.heap.objs.size t 0:=⟨_,k2 _ _ (zN s.heap (o:={ cls:=.type "tuple_iterator",data:=.fields #[.ref t,.int 0 0] }) rfl),rfl,rfl⟩
 have gz:(zg5 s.heap t u).get? (zg4 s.heap t u).objs.size=some _:=zN (zg4 s.heap t u) (o:={ cls:=.type "zip",data:=.fields #[.none,.bool false,.bool false,.ref (zg2 s.heap t u).objs.size,.ref (zg3 s.heap t u).objs.size] }) rfl
 show _∧_
 rw [z4] at gz ⊢
 exact ⟨⟨_,gz,rfl⟩,q _ ⟨g5,g3,⟨_,_,g4⟩,g1,g2⟩ k1⟩
end
def ItZ (Sq Sr:Hp→List V→Prop):It:=
 ⟨λi H=>∃ xs ys x y,(Sq H xs∧Sr H ys)∧xs[i]? = some x∧ys[i]? = some y,λi H x H'=>∃ p a b,x=.ref p∧H p=none∧H'=upd H p (.tup [a,b])∧∀ xs ys,Sq H xs→Sr H ys→xs[i]? = some a∧ys[i]? = some b,λi H=>∃ xs,Sq H xs∧xs.length=i⟩
theorem Zdm {X:Cx} {pins:List (Addr × Obj)} {σ:St} {H:Hp} {s:Shared} {h1 h2:Heap} {z:Addr} {fp:List Addr} {t':Nat} {u v:Value} {a b:V} (I:Inv X pins σ H s) (hf:∀ b∈fp,Jj X pins H b) (ra:RelV a u) (rb:RelV b v)
  (ht:IsPair h1 s.heap.objs.size u v) (k:∀ b o,b∉fp→s.heap.get? b=some o→h1.get? b=some o) (sb:Heap.SameBut z h1 h2) (hz:z∈fp) (hl:∀ b∈fp,b < s.heap.objs.size) :
  Inv X pins σ (upd H s.heap.objs.size (.tup [a,b])) { s with heap:=h2,toks:=t' }∧∀ c∈fp,upd H s.heap.objs.size (.tup [a,b]) c=none:=by
 have hn:∀ c∈fp,upd H s.heap.objs.size (.tup [a,b]) c=none:=λc hc=>by
  rw [Zi (yH (hl c hc))]
  exact (hf c hc).1
 have I1:Inv X pins σ (upd H s.heap.objs.size (.tup [a,b])) { s with heap:=s.heap.push { cls:=.type "tuple",data:=.seq #[u,v] },toks:=s.toks }:=
  I.laid (λb o q=>zG _ q) (zI _) ⟨(by show 2≤sizeLine; decide),[u,v],.cons ra (.cons rb .nil),⟨_,zN _ rfl,rfl,_,rfl⟩⟩
 have I2:=I1.Hv (fp:=fp) (h':=h2) (t':=t') (λc o hc q=>?_) (λc hc=>⟨hn c hc,(hf c hc).2⟩)
 ·exact ⟨I2,hn⟩
 refine (sb.2 c λe=>hc (e▸hz)).trans ?_
 rcases Heap.get?_push_cases q with ⟨z1,z2⟩ | y
 ·rw [z1,z2]
  exact ht
 ·exact k c o hc y
theorem Zdt {P:Program} {w:World} {K:W.Frag} {es:List Expr} {n:Nat} {pos:Pos} {z TI TO i j t u:Addr} (N:ZNe z TI TO i j) (n1:t≠z∧t≠TO∧t≠i∧t≠j) (n2:u≠z∧u≠TO∧u≠i∧u≠j) :
  Turn P w K (.Tuple es n pos) (ItZ (λH xs=>SqT K H t xs) λH xs=>SqT K H u xs) [z,TI,TO,i,j] z (λk h=>ZAt h z TI TO i j t u k .none) where
 mem:=by simp
 obj:=λk h Z b hb=>by
  obtain ⟨zp,ti,⟨_,_,to⟩,⟨oi,e1,c1,d1⟩,oj,e2,c2,d2⟩:=Z
  simp only [yE,wS,or_false] at hb
  rcases hb with y | y | y | y | y <;> subst y
  ·exact ⟨_,zp,λv y=>by cases y⟩
  ·exact ⟨_,ti,λv y=>by cases y⟩
  ·exact ⟨_,to,λv y=>by cases y⟩
  ·exact ⟨oi,e1,λv y=>by rw [d1] at y; cases y⟩
  ·exact ⟨oj,e2,λv y=>by rw [d2] at y; cases y⟩
 keep:=λk h h' Z kp=>⟨kp z (by simp) _ Z.zp,kp TI (by simp) _ Z.ti,let ⟨a,b,e⟩:=Z.to; ⟨a,b,kp TO (by simp) _ e⟩,Z.it.at λo q=>kp i (by simp) o q,Z.jt.at λo q=>kp j (by simp) o q⟩
 item:=by
  intro X hP hw hK hc k pins s σ H E I hf Z hg
  subst hP hw hK
  obtain ⟨xs,ys,x,y,⟨hq,hr⟩,hx,hy⟩:=hg
  obtain ⟨its,rv,p,_⟩:=I.tuple hq
  obtain ⟨jts,rw',p',_⟩:=I.tuple hr
  obtain ⟨v,hv,rx⟩:=rv.get hx
  obtain ⟨v',hv',ry⟩:=rw'.get hy
  have lt:∀ b∈[z,TI,TO,i,j],b < s.heap.objs.size:=λb hb=>by
   obtain ⟨zp,ti,⟨_,_,to⟩,⟨oi,e1,_⟩,oj,e2,_⟩:=id Z
   simp only [yE,wS,or_false] at hb
   rcases hb with e | e | e | e | e <;> rw [e]
   ·exact zL zp
   ·exact zL ti
   ·exact zL to
   ·exact zL e1
   ·exact zL e2
  refine Znq N Z (show s.heap.IsTuple t its.toArray from p) (show s.heap.IsTuple u jts.toArray from p') n1 n2 (x:=v) (y:=v') (by simpa using hv) (by simpa using hv') λh1 Z1 ht kp=>⟨_,rfl,?_⟩
  refine wpAny_letOwnedTupleGo_zip Z1.zp λh2 zp2 sb=>?_
  obtain ⟨I2,hn⟩:=Zdm (t':=s.toks) (fp:=[z,TI,TO,i,j]) I hf rx ry ht (λb o hb e=>kp b o (λy=>hb (by simp [y])) (λy=>hb (by simp [y])) (λy=>hb (by simp [y])) (λy=>hb (by simp [y])) e) sb (by simp) lt
  exact ⟨.ref s.heap.objs.size,_,I2,rfl,⟨_,x,y,rfl,I.hok.fresh (zI _),rfl,λxs' ys' a b=>by rw [I.Qp a hq,I.Qp b hr]; exact ⟨hx,hy⟩⟩,
   ⟨zp2,(sb.2 _ N.a).trans Z1.ti,let ⟨a,b,e⟩:=Z1.to; ⟨a,b,(sb.2 _ N.b).trans e⟩,Z1.it.at λo q=>(sb.2 _ N.c).trans q,Z1.jt.at λo q=>(sb.2 _ N.d).trans q⟩,hn⟩
 done:=by
  intro X hP hw hK hc k pins s σ H E I hf Z hg
  subst hP hw hK
  obtain ⟨xs,hq,hx⟩:=hg
  obtain ⟨its,rv,p,_⟩:=I.tuple hq
  have hl:=rv.length
  refine Zkj (I.ok.hd hc) N Z (show s.heap.IsTuple t its.toArray from p) n1.1 (by simp; omega) λh' kp=>⟨rfl,?_⟩
  exact I.Hv (fp:=[z,TI,TO,i,j]) (t':=s.toks) (λb o hb e=>kp b o (λy=>hb (by simp [y])) (λy=>hb (by simp [y])) e) hf
 self:=λ_ _ _ _ _ Z h=>wpAny_pyIter_zip Z.zp h
section
variable {X:Cx} {es:List Expr} {n:Nat} {tp:Pos}
def iZip (K:W.Frag) (te tf:TE):TI:=λσ H R=>Ei te (Ei tf Zhf) σ H λvs H1=>∃ a b xs ys,vs=[.ref a,.ref b]∧SqT K H1 a xs∧SqT K H1 b ys∧R (ItZ (λH xs=>SqT K H a xs) λH xs=>SqT K H b xs) H1
theorem Zha (n:Nat):ZNe (n+4) (n+2) (n+3) n (n+1):=by
 constructor <;> (refine W.neN ?_; omega)
theorem Zak {n t:Nat} (h:t < n):t≠n+4∧t≠n+3∧t≠n∧t≠n+1:=by omega
theorem Znc:bootBuiltins "zip" = some (.type "zip"):=by decide +kernel
theorem Zli {K:W.Frag} {e f:Expr} {te tf:TE} {p pos:Pos} (hg:Gl X "zip") (hm:X.mg "zip" = none) (he:PE X e te) (hf:PE X f tf) (hK:X.K=K:=by rfl)
  (h2:starEach [e,f] X.env=(false,eval e X.env) :: starEach [f] X.env:=by rfl) (h3:starEach [f] X.env=(false,eval f X.env) :: starEach [] X.env:=by rfl):PI X (.Tuple es n tp) (.Call (.Name "zip" p) [e,f] [] pos) (iZip K te tf):=by
 subst hK
 intro pins s σ H R I h
 refine yW (U9 I hg hm Znc (xM (thn (Za he (Za hf Zc h3) h2 pos pins s σ H _ I h) λus s1 ⟨vs,H1,I1,r1,q1⟩=>?_) h2 (by rw [h3]; rfl)))
 obtain ⟨a,b,xs,ys,rfl,hx,hy,q⟩:=q1
 obtain ⟨u,v,rfl,ru,rv⟩:=Vals.two r1
 obtain rfl:u=Value.ref a:=ru
 obtain rfl:v=Value.ref b:=rv
 obtain ⟨its,_,p1,_⟩:=I1.tuple hx
 obtain ⟨jts,_,p2,_⟩:=I1.tuple hy
 have la:a < s1.heap.objs.size:=by obtain ⟨o,e,_⟩:=(show s1.heap.IsTuple a its.toArray from p1); exact zL e
 have lb:b < s1.heap.objs.size:=by obtain ⟨o,e,_⟩:=(show s1.heap.IsTuple b jts.toArray from p2); exact zL e
 refine Zdg (show s1.heap.IsTuple a its.toArray from p1) (show s1.heap.IsTuple b jts.toArray from p2) λh' Z kp=>wpAny_pyIter_zip Z.zp ?_
 refine ⟨_,_,_,_,H1,rfl,I1.kept (t':=s1.toks) kp,Zdt (Zha _) (Zak la) (Zak lb),Z,λc hc=>?_,q⟩
 have hc':s1.heap.objs.size≤c:=by
  simp only [yE,wS,or_false] at hc
  rcases hc with e | e | e | e | e <;> rw [e]
  ·exact uT ..
  ·exact uT ..
  ·exact uT ..
  ·exact zI _
  ·exact uT ..
 exact I1.N9 hc' (I1.hok.fresh hc')
end
def Zgs {Sq Sr:Hp→List V→Prop} {xs ys:List V} {n:Nat} {fr:List Nat} {g:TG} {tt:TT} {te:TE} {σ:St} {H:Hp} {Q:VK} (hxy:xs.length≤ys.length) (Pv:Nat→List V→Hp→Prop) (hk:xs.length < sizeLine) (h0:Pv 0 [] H) (hlen:∀ i acc H,Pv i acc H→acc.length≤i)
  (hl:∀ i acc H,Pv i acc H→Sq H xs∧Sr H ys)
  (hs:∀ i acc H2 x y p,xs[i]? = some x→ys[i]? = some y→Pv i acc H2→H2 p=none→g (.ref p) (Uw n fr σ) (upd H2 p (.tup [x,y])) λσ4 H4=>tt σ4 H4 λb H5=>if b=true then te σ4 H5 λv H6=>Pv (i+1) (acc ++ [v]) H6 else Pv (i+1) acc H5)
  (hd:∀ acc H2,Pv xs.length acc H2→∀ l,H2 l=none→Q (.ref l) (upd H2 l (.lst acc))):=
 Vz (J:=ItZ Sq Sr) (n:=n) (fr:=fr) (g:=g) (tt:=tt) (te:=te) (σ:=σ) (Q:=Q) Pv hk h0 hlen (λi acc H hi p=>⟨xs,ys,xs[i],ys[i]'(by omega),hl i acc H p,by simp [hi],by simp [show i < ys.length by omega]⟩) (λacc H p=>⟨xs,(hl _ acc H p).1,rfl⟩) (λi acc H2 x H3 hi p y=>by
  obtain ⟨a,x,y,e1,hn,e2,hy⟩:=y
  subst e1 e2
  have q:=hl i acc H2 p
  exact hs i acc H2 x y a (hy xs ys q.1 q.2).1 (hy xs ys q.1 q.2).2 p hn) hd
end L2
namespace L2
open PySem PySem.Spec PyProof.Rows
inductive Ej (P:Program) (w:World) (K:W.Frag) (mg:Str→Option Value) (base:Heap) (i:Nat) (n:Nat) (E:St→XK) (t:TA) (σ:St) (H:Hp) (Q:VK):Prop
 | mk (f:Addr) (fd:FuncData) (ps:List Str) (sp:Sp) (h1:Yt P w K mg base (CXE P w) n f fd ps sp) (h2:W.keepIn K (.ref f)=true) (h3:Binds K fd ps []) (h4:σ[i]? = some (some (.ref f))) (h5:t σ H λvs H1=>sp vs H1 Q (E σ)):Ej P w K mg base i n E t σ H Q
def Zap (P:Program) (w:World) (K:W.Frag) (mg:Str→Option Value) (base:Heap) (i n:Nat) (E:St→XK) (t:TA):TE:=λσ H Q=>Ej P w K mg base i n E t σ H Q
theorem Zcm {X:Cx} {E:St→XK} {i:Nat} (n:Nat) {x:Str} {p pos:Pos} {e:Expr} {es:List Expr} {t:TA} (hr:Wx n X.A) (hx:RX X E) (ha:PA X (e :: es) t) (hN:X.N[i]? = some x:=by rfl) (hv:Vis X.env.scope x:=by first | exact Or.inl rfl | exact Or.inr (Or.inl rfl) | exact Or.inr (Or.inr rfl)) (hd:(x==("__debug__" : Str))=false:=by decide) (hcd:(x==("__classdict__" : Str))=false:=by decide)
  (he:starEach (e :: es) X.env=(false,eval e X.env) :: starEach es X.env:=by rfl) (hpl:(backTo pos (starEach es X.env)).any (·.1)=false:=by rfl):PE X (.Call (.Name x p) (e :: es) [] pos) (Zap X.prog X.w X.K X.mg X.base i n E t):=by
 intro pins s σ H Q I ⟨f,fd,ps,sp,F,hk,hb,hs,h⟩
 refine yW (thn (Gs hN hv hd hcd pins s σ H (λv H1=>v=.ref f∧H1=H) I ⟨_,hs,rfl,rfl⟩) λu s1 ⟨v,H1,I1,r,q⟩=>?_)
 obtain ⟨rfl,rfl⟩:=q
 obtain rfl:u=Value.ref f:=r
 exact sY (h₀:=X.base) I1.ok.mod.kin hk (thn (ha pos pins s1 σ H1 _ I1 h) λus s2 ⟨vs,H2,I2,r2,q2⟩=>⟨I2.kIn,Za0 F hr hb hx I2 r2 q2⟩) he hpl
end L2
namespace L2
open PySem PySem.Spec PyProof.Rows
section
variable {P:Program} {w:World} {H:Hp} {s:Shared}
end
section
variable {X:Cx}
end
section
open PySem.SeqAt
open PySem.AutoSeq1 (wpAny_loadPart')
open PySem.MeetsSeq PySem.MeetsSeq2 PySem.MeetsSeq3
end
section
variable {X:Cx} {K:W.Frag}
end
end L2
namespace My
open PySem PySem.Spec PyProof.Rows L2
def top (i:Nat):Stmt:=PySem.Challenge.pw_spreadwords_k24_both_and_either.main.body.getD i (.Pass ⟨0,0,0,0⟩)
abbrev Wa:Stmt:=top 8
abbrev Vi:Stmt:=top 9
abbrev Wb:Stmt:=top 10
abbrev Ud:Stmt:=top 12
abbrev Ym:Stmt:=top 13
abbrev Xv:Stmt:=top 15
abbrev Xu:Stmt:=top 16
abbrev Vn:Stmt:=top 17
abbrev W5:Stmt:=top 19
abbrev U7:Stmt:=top 20
abbrev Tn:Stmt:=top 21
abbrev Vl:Stmt:=top 23
abbrev Vk:Stmt:=top 24
abbrev X4:Stmt:=top 25
abbrev Xy:Stmt:=top 26
abbrev Xl:Stmt:=top 27
abbrev Yn:Stmt:=top 28
abbrev Xc:Stmt:=top 29
abbrev Wr:Stmt:=top 30
abbrev Zx:Stmt:=top 31
abbrev W3:Stmt:=top 32
abbrev Vj:Stmt:=top 33
abbrev W4:Stmt:=top 34
abbrev X7:Stmt:=top 35
abbrev Wc:Stmt:=top 36
abbrev W7:Stmt:=top 37
abbrev Oj:Stmt:=top 38
theorem X1:Yf ["machine","room","text","letters","steps","behind","letter"] ["machine","room","text"] (Zg Wa):=⟨rfl,rfl,rfl,by decide +kernel,rfl,by decide +kernel,by decide +kernel⟩
theorem Ey:Yf ["one","other"] ["one","other"] (Zg Vi):=⟨rfl,rfl,rfl,by decide +kernel,rfl,by decide +kernel,by decide +kernel⟩
theorem L9:Yf ["one","other","pair","letter"] ["one","other","pair","letter"] (Zg Wb):=⟨rfl,rfl,rfl,by decide +kernel,rfl,by decide +kernel,by decide +kernel⟩
theorem Y2:Yf ["letters","begin","step","texts","level","longer","place","letter","ahead"] ["letters","begin","step"] (Zg Ud):=⟨rfl,rfl,rfl,by decide +kernel,rfl,by decide +kernel,by decide +kernel⟩
theorem Z0:Yf ["letters","begin","step","is_end","numbers","number","place","ends","steps"] ["letters","begin","step","is_end"] (Zg Ym):=⟨rfl,rfl,rfl,by decide +kernel,rfl,by decide +kernel,by decide +kernel⟩
theorem U6:Yf ["rows","firsts"] ["rows"] (Zg Xv):=⟨rfl,rfl,rfl,by decide +kernel,rfl,by decide +kernel,by decide +kernel⟩
theorem Y4:Yf ["machine","steps","likes","count","rows","room","row"] ["machine"] (Zg Xu):=⟨rfl,rfl,rfl,by decide +kernel,rfl,by decide +kernel,by decide +kernel⟩
theorem Ka:Yf ["machine","likes","step"] ["machine"] (Zg Vn):=⟨rfl,rfl,rfl,by decide +kernel,rfl,by decide +kernel,by decide +kernel⟩
theorem Mj:Yf ["machine","ends"] ["machine"] (Zg W5):=⟨rfl,rfl,rfl,by decide +kernel,rfl,by decide +kernel,by decide +kernel⟩
theorem Gh:Yf ["one","other","step","is_end"] ["one","other"] (Zg U7):=⟨rfl,rfl,rfl,by decide +kernel,rfl,by decide +kernel,by decide +kernel⟩
theorem Zci:Yf ["one","other"] ["one","other"] (Zg Tn):=⟨rfl,rfl,rfl,by decide +kernel,rfl,by decide +kernel,by decide +kernel⟩
theorem Ez:Yf ["_law_script"] ["_law_script"] (Zg Vl):=⟨rfl,rfl,rfl,by decide +kernel,rfl,by decide +kernel,by decide +kernel⟩
theorem Rl:Yf ["_law_flow_here","_law_many","_law_cell","_law_digit"] ["_law_flow_here","_law_many"] (Zg Vk):=⟨rfl,rfl,rfl,by decide +kernel,rfl,by decide +kernel,by decide +kernel⟩
theorem Gg:Yf ["_law_found","_law_due"] ["_law_found","_law_due"] (Zg X4):=⟨rfl,rfl,rfl,by decide +kernel,rfl,by decide +kernel,by decide +kernel⟩
theorem Rm:Yf ["_law_flow_here","_law_many","_law_left"] ["_law_flow_here","_law_many"] (Zg Xy):=⟨rfl,rfl,rfl,by decide +kernel,rfl,by decide +kernel,by decide +kernel⟩
theorem Wh:Yf ["_law_flow_here","_law_letters_here","_law_most","_law_rooms","_law_ends","_law_steps","_law_room"] ["_law_flow_here","_law_letters_here","_law_most"] (Zg Xl):=⟨rfl,rfl,rfl,by decide +kernel,rfl,by decide +kernel,by decide +kernel⟩
theorem Ya:Yf ["_law_flow_here","_law_letters_here","_law_most","_law_rooms","_law_ends","_law_steps","_law_room","_law_row","_law_letter","_law_stays"] ["_law_flow_here","_law_letters_here","_law_most"] (Zg Yn):=⟨rfl,rfl,rfl,by decide +kernel,rfl,by decide +kernel,by decide +kernel⟩
theorem Z2:Yf ["_law_machine_here","_law_letters_here","_law_begin","_law_ends","_law_steps","_law_sort","_law_many","_law_rows","_law_known","_law_row","_law_order","_law_numbers","_law_at","_law_to","_law_found"] ["_law_machine_here"] (Zg Xc):=⟨rfl,rfl,rfl,by decide +kernel,rfl,by decide +kernel,by decide +kernel⟩
theorem U5:Yf ["_law_e","_law_sorts"] ["_law_e"] (Zg Wr):=⟨rfl,rfl,rfl,by decide +kernel,rfl,by decide +kernel,by decide +kernel⟩
theorem Zp:Yf ["_law_flow_here","_law_machine_here","_law_most","_law_letters_here","_law_begin","_law_ends","_law_steps","_law_turn","_law_like","_law_row","_law_at","_law_left","_law_order","_law_rows"] ["_law_flow_here","_law_machine_here","_law_most"] (Zg Zx):=⟨rfl,rfl,rfl,by decide +kernel,rfl,by decide +kernel,by decide +kernel⟩
theorem Xk:Yf ["_law_flow_here","_law_machine_here","_law_way","_law_letters_here","_law_begin","_law_ends","_law_steps","_law_other","_law_at","_law_some_here","_law_row"] ["_law_flow_here","_law_machine_here"] (Zg W3):=⟨rfl,rfl,rfl,by decide +kernel,rfl,by decide +kernel,by decide +kernel⟩
theorem Rk:Yf ["_law_flow_here","_law_rising","_law_letters_here"] ["_law_flow_here"] (Zg Vj):=⟨rfl,rfl,rfl,by decide +kernel,rfl,by decide +kernel,by decide +kernel⟩
theorem Wi:Yf ["_law_one","_law_other","_law_many","_law_wide","_law_steps","_law_mine","_law_theirs","_law_ends","_law_room"] ["_law_one","_law_other","_law_many"] (Zg W4):=⟨rfl,rfl,rfl,by decide +kernel,rfl,by decide +kernel,by decide +kernel⟩
theorem X9:Yf ["_law_flow_here","_law_letters_here","_law_way","_law_at","_law_left","_law_some_here","_law_other"] ["_law_flow_here","_law_letters_here"] (Zg X7):=⟨rfl,rfl,rfl,by decide +kernel,rfl,by decide +kernel,by decide +kernel⟩
theorem Wg:Yf ["_law_one","_law_other","_law_sorts","_law_joining","_law_caught_here","_law_e"] ["_law_one","_law_other"] (Zg Wc):=⟨rfl,rfl,rfl,by decide +kernel,rfl,by decide +kernel,by decide +kernel⟩
theorem Gf:Yf ["_law_one","_law_other"] ["_law_one","_law_other"] (Zg W7):=⟨rfl,rfl,rfl,by decide +kernel,rfl,by decide +kernel,by decide +kernel⟩
theorem Nn:Yf ["_law_script","_law_flow_here","_law_one","_law_other","_law_third","_law_far"] ["_law_script"] (Zg Oj):=⟨rfl,rfl,rfl,by decide +kernel,rfl,by decide +kernel,by decide +kernel⟩
theorem Kw:(Xd ["_law_k"] ["_law_found","_law_due"] [0,1]).Nodup:=by decide +kernel
theorem Nz:(Xd ["_law_k"] ["_law_flow_here","_law_many","_law_left"] [0,2]).Nodup:=by decide +kernel
theorem Mw:(Xd ["room"] ["machine","steps","likes","count","rows","room","row"] [0]).Nodup:=by decide +kernel
theorem Mv:(Xd ["ahead"] ["machine","steps","likes","count","rows","room","row"] [2]).Nodup:=by decide +kernel
theorem U2:(Xd ["place"] ["letters","begin","step","is_end","numbers","number","place","ends","steps"] [3,4]).Nodup:=by decide +kernel
theorem U1:(Xd ["letter"] ["letters","begin","step","is_end","numbers","number","place","ends","steps"] [2,4,6]).Nodup:=by decide +kernel
theorem Ny:(Xd ["_law_room"] ["_law_flow_here","_law_letters_here","_law_most","_law_rooms","_law_ends","_law_steps","_law_room"] [0]).Nodup:=by decide +kernel
theorem Nw:(Xd ["_law_letter"] ["_law_flow_here","_law_letters_here","_law_most","_law_rooms","_law_ends","_law_steps","_law_room"] [0,3]).Nodup:=by decide +kernel
theorem Jv:(Xd ["room"] ["machine","ends"] [0]).Nodup:=by decide +kernel
theorem Kv:(Xd ["_law_room"] ["_law_machine_here","_law_letters_here","_law_begin","_law_ends","_law_steps","_law_sort","_law_many","_law_rows","_law_known","_law_row","_law_order","_law_numbers","_law_at","_law_to","_law_found"] [3]).Nodup:=by decide +kernel
theorem Ku:(Xd ["_law_room"] ["_law_machine_here","_law_letters_here","_law_begin","_law_ends","_law_steps","_law_sort","_law_many","_law_rows","_law_known","_law_row","_law_order","_law_numbers","_law_at","_law_to","_law_found"] [4,5]).Nodup:=by decide +kernel
theorem Kt:(Xd ["_law_to"] ["_law_room","_law_steps","_law_sort"] [2]).Nodup:=by decide +kernel
theorem Ks:(Xd ["_law_row"] ["_law_machine_here","_law_letters_here","_law_begin","_law_ends","_law_steps","_law_sort","_law_many","_law_rows","_law_known","_law_row","_law_order","_law_numbers","_law_at","_law_to","_law_found"] [8]).Nodup:=by decide +kernel
theorem Kr:(Xd ["_law_room"] ["_law_machine_here","_law_letters_here","_law_begin","_law_ends","_law_steps","_law_sort","_law_many","_law_rows","_law_known","_law_row","_law_order","_law_numbers","_law_at","_law_to","_law_found"] [4,5,11]).Nodup:=by decide +kernel
theorem Kq:(Xd ["_law_to"] ["_law_room","_law_steps","_law_sort","_law_numbers"] [2,3]).Nodup:=by decide +kernel
theorem Ru:(Xd ["_law_at","_law_room"] ["_law_machine_here","_law_letters_here","_law_begin","_law_ends","_law_steps","_law_sort","_law_many","_law_rows","_law_known","_law_row","_law_order","_law_numbers","_law_at","_law_to","_law_found"] [3]).Nodup:=by decide +kernel
theorem Sa:(Xd ["_law_room"] ["_law_flow_here","_law_letters_here","_law_most","_law_rooms","_law_ends","_law_steps","_law_room","_law_row","_law_letter","_law_stays"] [0]).Nodup:=by decide +kernel
theorem Tz:(Xd ["_law_row"] ["_law_flow_here","_law_machine_here","_law_most","_law_letters_here","_law_begin","_law_ends","_law_steps","_law_turn","_law_like","_law_row","_law_at","_law_left","_law_order","_law_rows"] []).Nodup:=by decide +kernel
theorem Tx:(Xd ["_law_room"] ["_law_flow_here","_law_machine_here","_law_most","_law_letters_here","_law_begin","_law_ends","_law_steps","_law_turn","_law_like","_law_row","_law_at","_law_left","_law_order","_law_rows"] [0,11]).Nodup:=by decide +kernel
theorem Tw:(Xd ["_law_room"] ["_law_flow_here","_law_machine_here","_law_most","_law_letters_here","_law_begin","_law_ends","_law_steps","_law_turn","_law_like","_law_row","_law_at","_law_left","_law_order","_law_rows"] [6,12]).Nodup:=by decide +kernel
theorem Tv:(Xd ["_law_to"] ["_law_room","_law_steps","_law_order"] [2]).Nodup:=by decide +kernel
theorem Tu:(Xd ["_law_room"] ["_law_flow_here","_law_machine_here","_law_most","_law_letters_here","_law_begin","_law_ends","_law_steps","_law_turn","_law_like","_law_row","_law_at","_law_left","_law_order","_law_rows"] [12]).Nodup:=by decide +kernel
theorem Ju:(Xd ["_law_room"] ["_law_flow_here","_law_machine_here","_law_way","_law_letters_here","_law_begin","_law_ends","_law_steps","_law_other","_law_at","_law_some_here","_law_row"] [7,8]).Nodup:=by decide +kernel
theorem Pc:(Xd ["_law_a","_law_b"] ["_law_one","_law_other","_law_many","_law_wide","_law_steps","_law_mine","_law_theirs","_law_ends","_law_room"] [3]).Nodup:=by decide +kernel
theorem Mx:(Xd ["_law_letter"] ["_law_flow_here","_law_letters_here","_law_way","_law_at","_law_left","_law_some_here","_law_other"] [1]).Nodup:=by decide +kernel
theorem Wz:(Xd ["number","row"] ["rows","firsts"] [1]).Nodup:=by decide +kernel
structure Blt (mg:Str→Option Value):Prop where
 ValueError:mg "ValueError" = none
 all:mg "all" = none
 bool:mg "bool" = none
 enumerate:mg "enumerate" = none
 int:mg "int" = none
 isinstance:mg "isinstance" = none
 len:mg "len" = none
 list:mg "list" = none
 range:mg "range" = none
 set:mg "set" = none
 sorted:mg "sorted" = none
 tuple:mg "tuple" = none
 zip:mg "zip" = none
theorem Zik {p A B:Prop} [Decidable p] (hp:p) (h:A):if decide p=true then A else B:=by
 rw [if_pos (decide_eq_true hp)]
 exact h
section
variable {P:Program} {w:World} {K:W.Frag} {mg:Str→Option Value} {base:Heap}
theorem Ue {K:W.Frag} {σ:L2.St} {H:Hp} {Q:VK} {p:Addr} {xs:List V} {i:Int} {v:V} {j:Nat} (h0:σ[j]? = some (some (.ref p))) (hp:H p=some (.lst xs)) (hv:atI xs i=some v) (q:Q v H):tOp (Zhp K) (Bb j) (tC (.int i)) σ H Q:=
 ⟨_,h0,p,xs,i,v,rfl,rfl,SqL.of hp,hv,q⟩
theorem Dk {f:Addr} {fd:FuncData} (F:Fun K "_law_flow" "_law_flow" Vl f fd) (Z:Blt mg):Yt P w K mg base CX0 1 f fd ["_law_script"] (Bh K):=by
 refine F.ok Ez (λvs H Q E h=>?_) (λcdv A outer s H vs Q E hr h=>?_)
 ·obtain ⟨a,ns,rfl,_⟩:=h
  rfl
 obtain ⟨a,ns,rfl,hS,k⟩:=h
 refine ⟨_,(Zj (Zz (X2 (Za (Zs (Ur (K:=K)) (by rfl) Z.list Vs (Za (pv 0) Zc)) (Za Zh (Za Zh (Za Zh (Za Zh Zc)))))))),?_⟩
 refine ⟨_,rfl,a,_,rfl,.inl hS,λl hl=>?_⟩
 refine ⟨(by show 5≤sizeLine; decide),λp hp=>?_⟩
 have e1:Zr H (upd H l (.lst (ns.map V.int))):=Zd hl _
 refine k p l _ (e1.free hp) (e1.trans (Zd hp _)) ⟨⟨_,Zb,0,0,1,0,rfl,by decide,by decide,by decide,by decide,by decide⟩,ns,?_⟩
 rw [Zi (Zf Zb hp)]
 exact Zb
theorem Tp (c:Int) (m:Int) (hm:0 < m):0≤c % m∧c % m < m:=⟨Int.emod_nonneg _ (by omega),Int.emod_lt_of_pos _ hm⟩
theorem Zgx {ns:List Int} {a:Int} (h0:0≤a) (h1:a < ((ns.map V.int).length:Int)):∃ z,atI (ns.map V.int) a=some (.int z):=by
 have hk:a.toNat < ns.length:=by
  rw [zA] at h1
  omega
 have q:atI (ns.map V.int) ((a.toNat:Nat):Int)=some (.int ns[a.toNat]):=Zk (by rw [zE,zC hk]; rfl)
 rw [show ((a.toNat:Nat):Int)=a by omega] at q
 exact ⟨_,q⟩
theorem Di {f:Addr} {fd:FuncData} (F:Fun K "_law_pick" "_law_pick" Vk f fd) (Z:Blt mg):Yt P w K mg base CX0 1 f fd ["_law_flow_here","_law_many"] Sg:=by
 refine F.ok Rl (λvs H Q E h=>?_) (λcdv A outer s H vs Q E hr h=>?_)
 ·obtain ⟨p,sc,m,rfl,_⟩:=h
  rfl
 obtain ⟨p,sc,m,rfl,hm0,hm1,FA,k⟩:=h
 obtain ⟨xs,hp,a,b,c,d,rfl,ha,hb,hc0,hc1,hd⟩:=FA.here
 obtain ⟨ns,hs⟩:=FA.cells
 refine ⟨_,(Za6 (X5 (PW.pt (Gn (Yc Vh (Zu (Zy (K:=K)) (pv 0) Zh (λ_ _=>rfl)) Zh (Yo _)) (Lb (Yc Ze5 (Zu (Zy (K:=K)) (pv 0) Zh (λ_ _=>rfl)) (Zn (Z4 (K:=K)) (by rfl) Z.len Yq (Za (Zu (Zy (K:=K)) (pv 0) Zh (λ_ _=>rfl)) Zc)) (Yo _))))) 
    (Ze (Zm (i:=2) Rl.nd (by rfl) (Or.inl (by rfl)) (Zu (Zy (K:=K)) (Zu (Zy (K:=K)) (pv 0) Zh (λ_ _=>rfl)) (Zu (Zy (K:=K)) (pv 0) Zh (λ_ _=>rfl)) (λ_ _=>rfl))) 
    (Ze (Ug (Yd X8 (Zu (Zy (K:=K)) (pv 0) Zh (λ_ _=>rfl)) Zh) (Rq (pv 0) Zh set_list)) 
    (Zj (X5 (Yc Zj2 (pv 2) (Yd Zln Zh Zh) (Yo _)) 
     (Zj (Ug (pv 2) (Rq (pv 0) Zh set_list))) 
     (Zj (Ug (Yd Rr (Yd X8 (Yd X8 (Yd Kj (Zu (Zy (K:=K)) (pv 0) Zh (λ_ _=>rfl)) Zh) (Yd Rr (pv 2) Zh)) Zh) Zh) (Rq (pv 0) Zh set_list))))))) Yv) 
   (Ze (X5 (Yc Zbb (Zu (Zy (K:=K)) (pv 0) Zh (λ_ _=>rfl)) Zh (Yo _)) 
    (Ze (Zm (i:=3) Rl.nd (by rfl) (Or.inl (by rfl)) (Yd Rr (Zu (Zy (K:=K)) (pv 0) Zh (λ_ _=>rfl)) (pv 1))) 
    (Ze (Ug (Yd Lf (Zu (Zy (K:=K)) (pv 0) Zh (λ_ _=>rfl)) (pv 1)) (Rq (pv 0) Zh set_list)) 
    (Zj (Zz (pv 3))))) Yv) 
   (Ze (Ug (Yd X8 (Zu (Zy (K:=K)) (pv 0) Zh (λ_ _=>rfl)) Zh) (Rq (pv 0) Zh set_list)) 
   (Ze (Ug (Yd Rr (Yd X8 (Yd X8 (Yd Kj (Zu (Zy (K:=K)) (pv 0) Zh (λ_ _=>rfl)) Zh) Zh) (Zu (Zy (K:=K)) (pv 0) Zh (λ_ _=>rfl))) Zh) (Rq (pv 0) Zh set_list)) 
   (Zj (Zz (Yd Rr (Yd Lf (Yd Rr (Yd Kj (Yd X8 (Yd Rr (Zu (Zy (K:=K)) (pv 0) Zh (λ_ _=>rfl)) Zh) Zh) (Yd X8 (Yd Lf (Zu (Zy (K:=K)) (pv 0) Zh (λ_ _=>rfl)) Zh) Zh)) Zh) Zh) (pv 1)))))))),?_⟩
 refine (let zz0:TS:=_; let zz1:TS:=Zt _ zz0; let zz2:TS:=Zt _ zz1; let zz3:TS:=_; let zz4:TS:=Zt _ zz3; let zz5:TS:=Zt _ zz4; let zz6:TS:=Zt (Eh _ zz5 _) zz2; let zz7:TS:=_; let zz8:TS:=Zt _ zz7; let zz9:TS:=Zt _ zz8; (?_:Zky (Eh _ zz9 _) zz6 _ _ _))
 refine ⟨λσ' H'=>∃ cv xs',σ'=[some (V.ref p),some (V.int m),cv,none]∧H' p=some (.lst xs')∧(∀ o,upd H' p o=upd H p o)∧Mh sc xs',?_,?_⟩
 ·have Nj:∃ cv xs',[some (V.ref p),some (V.int m),none,none]=[some (V.ref p),some (V.int m),cv,none]∧H p=some (.lst xs')∧(∀ o,upd H p o=upd H p o)∧Mh sc xs':=⟨_,_,rfl,hp,λ_=>rfl,a,b,c,d,rfl,ha,hb,hc0,hc1,hd⟩
  refine Ue rfl hp (Zk (j:=2) rfl) ?_
  refine ⟨rfl,_,rfl,?_⟩
  refine Wu (λ_=>?_) (λ_=>Nj)
  refine Ue rfl hp (Zk (j:=1) rfl) ?_
  refine Ue rfl hp (Zk (j:=0) rfl) ?_
  refine ⟨sc,_,rfl,.inl (SqL.of hs),_,_,rfl,rfl,_,rfl,?_⟩
  refine Wu (λlt=>?_) (λ_=>Nj)
  obtain ⟨z,hz⟩:=Zgx (ns:=ns) ha (of_decide_eq_true lt)
  refine Ue rfl hp (Zk (j:=0) rfl) ?_
  refine Ue rfl hp (Zk (j:=1) rfl) ?_
  refine ⟨sc,_,_,_,rfl,rfl,SqL.of hs,hz,?_⟩
  refine Ue rfl hp (Zk (j:=1) rfl) ?_
  refine ⟨_,_,rfl,rfl,_,rfl,p,_,_,1,rfl,rfl,hp,rfl,?_⟩
  have hp1:upd H p (.lst [.ref sc,.int (a+1),.int b,.int c,.int d]) p=some (.lst [.ref sc,.int (a+1),.int b,.int c,.int d]):=Zb
  refine ⟨_,rfl,_,_,rfl,rfl,⟨by decide,by decide,by decide⟩,_,_,rfl,rfl,_,rfl,?_⟩
  refine Wu (λbig=>?_) (λ_=>?_)
  ·have big':(10:Int) ^ 18≤z:=of_decide_eq_true big
   refine ⟨_,rfl,_,rfl,p,_,_,2,rfl,rfl,hp1,rfl,?_⟩
   exact ⟨_,_,rfl,Zb,λo=>by rw [Qo,Qo],a+1,z,c,d,rfl,by omega,by omega,hc0,hc1,hd⟩
  ·refine Ue rfl hp1 (Zk (j:=3) rfl) ?_
   refine ⟨_,_,rfl,rfl,.inl ⟨by omega,by omega⟩,?_⟩
   refine ⟨_,rfl,_,_,rfl,rfl,(by show (0:Int) < 1000003; decide),_,_,rfl,rfl,_,_,rfl,rfl,_,_,rfl,rfl,(by show (0:Int) < 2147483647; decide),?_⟩
   refine ⟨_,rfl,p,_,_,3,rfl,rfl,hp1,rfl,?_⟩
   have q:=Tp (c * 40013+z % 1000003+1) 2147483647 (by decide)
   exact ⟨_,_,rfl,Zb,λo=>by rw [Qo,Qo],a+1,b,_,d,rfl,by omega,hb,q.1,q.2,hd⟩
 ·rintro σ' H' ⟨cv,xs',rfl,hp',hu,a',b',c',d',rfl,ha',hb',hc0',hc1',hd'⟩
  refine Ue rfl hp' (Zk (j:=2) rfl) ?_
  refine ⟨_,_,rfl,rfl,_,rfl,?_⟩
  refine Wu (λpos=>?_) (λ_=>?_)
  ·have pos':0 < b':=of_decide_eq_true pos
   refine Ue rfl hp' (Zk (j:=2) rfl) ?_
   refine ⟨_,rfl,_,_,rfl,rfl,hm0,?_⟩
   refine Ue rfl hp' (Zk (j:=2) rfl) ?_
   refine ⟨_,rfl,_,_,rfl,rfl,⟨hm0,hm1⟩,_,rfl,p,_,_,2,rfl,rfl,hp',rfl,?_⟩
   refine ⟨_,rfl,?_⟩
   have q:=Tp b' m hm0
   have e:=k (b' % m) [.ref sc,.int a',.int (b' / m),.int c',.int d'] q.1 q.2 ⟨a',b' / m,c',d',rfl,ha',Int.ediv_nonneg hb' (by omega),hc0',hc1',hd'⟩
   rw [← hu] at e
   exact e
  ·refine Ue rfl hp' (Zk (j:=4) rfl) ?_
   refine ⟨_,_,rfl,rfl,_,rfl,p,_,_,4,rfl,rfl,hp',rfl,?_⟩
   have hp2:upd H' p (.lst [.ref sc,.int a',.int b',.int c',.int (d'+1)]) p=some (.lst [.ref sc,.int a',.int b',.int c',.int (d'+1)]):=Zb
   refine Ue rfl hp2 (Zk (j:=3) rfl) ?_
   refine ⟨_,_,rfl,rfl,.inl ⟨by omega,by omega⟩,_,_,rfl,rfl,?_⟩
   refine Ue rfl hp2 (Zk (j:=4) rfl) ?_
   refine ⟨_,_,rfl,rfl,_,_,rfl,rfl,(by show (0:Int) < 2147483647; decide),?_⟩
   refine ⟨_,rfl,p,_,_,3,rfl,rfl,hp2,rfl,?_⟩
   have q:=Tp (c' * 48271+12820163+(d'+1)) 2147483647 (by decide)
   have hp3:∀ H3:Hp,upd H3 p (.lst [.ref sc,.int a',.int b',.int ((c' * 48271+12820163+(d'+1)) % 2147483647),.int (d'+1)]) p=some (.lst [.ref sc,.int a',.int b',.int ((c' * 48271+12820163+(d'+1)) % 2147483647),.int (d'+1)]):=λ_=>Zb
   refine Ue rfl (hp3 _) (Zk (j:=3) rfl) ?_
   refine ⟨_,_,rfl,rfl,(by show (0:Int) < 65521; decide),_,_,rfl,rfl,?_⟩
   refine Ue rfl (hp3 _) (Zk (j:=3) rfl) ?_
   have q2:=Tp ((c' * 48271+12820163+(d'+1)) % 2147483647) 65521 (by decide)
   refine ⟨_,_,rfl,rfl,⟨by decide,by decide⟩,_,_,rfl,rfl,_,_,rfl,rfl,.inl ⟨by omega,by omega⟩,_,_,rfl,rfl,(by show (0:Int) < 1000003; decide),_,_,rfl,rfl,⟨by decide,by decide⟩,_,rfl,_,_,rfl,rfl,hm0,?_⟩
   have q3:=Tp (((c' * 48271+12820163+(d'+1)) % 2147483647 % 65521+1) * ((c' * 48271+12820163+(d'+1)) % 2147483647 / 65521+7919) % 1000003 / 7) m hm0
   have e:=k _ [.ref sc,.int a',.int b',.int ((c' * 48271+12820163+(d'+1)) % 2147483647),.int (d'+1)] q3.1 q3.2 ⟨a',b',_,d'+1,rfl,ha',hb',q.1,q.2,by omega⟩
   rw [← hu,← Qo (H:=H') (o:=.lst [.ref sc,.int a',.int b',.int c',.int (d'+1)])] at e
   exact e
theorem Zke {α:Type} {xs:List α} {i:Nat} {v:α} (h:xs[i]? = some v):atI xs (0+(i:Int))=some v:=by
 rw [Int.zero_add]
 exact Zk h
def Sq2 (H:Hp) (a:Addr) (xs:List V):Prop:=H a=some (.lst xs)∨H a=some (.tup xs)
theorem Sq2.ix {K:W.Frag} {H:Hp} {a:Addr} {xs:List V} {i:Int} {v:V} {Q:VK} (h:Sq2 H a xs) (hv:atI xs i=some v) (q:Q v H):rIx K (.ref a) (.int i) H Q:=by
 rcases h with h | h
 ·exact .inl ⟨a,xs,i,v,rfl,rfl,SqL.of h,hv,q⟩
 ·exact .inr (.inl ⟨a,xs,i,v,rfl,rfl,SqT.of h,hv,q⟩)
theorem Sq2.same {H H':Hp} {a:Addr} {xs:List V} (h:Sq2 H a xs) (e:Zr H H'):Sq2 H' a xs:=by
 rcases h with h | h
 ·exact .inl (e _ _ h)
 ·exact .inr (e _ _ h)
theorem all_true (n:Nat):(List.replicate n true).all id=true:=by
 induction n with
 | zero=>rfl
 | succ n ih=>rw [List.replicate_succ,vN,ih]; rfl
theorem Jh {n:Nat} {a b:Addr} {xs ys:List V} {ds:List Dt} {H1 H2:Hp} {i:Nat} {σ:L2.St} (ha:Sq2 H1 a xs) (hb:Sq2 H1 b ys) (hx:xs.length=ds.length) (hy:ys.length=ds.length) (hdp:∀ d'∈ds,d'.dep < n)
  (dx:∀ (i:Nat) x d',xs[i]? = some x→ds[i]? = some d'→Den H1 x d') (dy:∀ (i:Nat) x d',ys[i]? = some x→ds[i]? = some d'→Den H1 x d') (e2:Zr H1 H2) (hi':i < ys.length)
  (h0:σ[0]? = some (some (.int (0+(i:Int))))) (h1:σ[1]? = some (some (.ref a))) (h2:σ[2]? = some (some (.ref b))) :
  Zd1 (Ux n) [] E0 (Ei (tOp (rIx K) (Bb 1) (Bb 0)) (Ei (tOp (rIx K) (Bb 2) (Bb 0)) Zhf)) σ H2 λv H6=>List.replicate i (V.bl true) ++ [v]=List.replicate (i+1) (V.bl true)∧Zr H1 H6:=by
 have hix:i < xs.length:=by omega
 have hid:i < ds.length:=by omega
 refine ⟨_,h1,_,h0,(ha.same e2).ix (Zke (zC hix)) ?_⟩
 refine ⟨_,h2,_,h0,(hb.same e2).ix (Zke (zC hi')) ?_⟩
 refine ⟨xs[i],ys[i],ds[i],rfl,hdp _ (wB hid),(dx i _ _ (zC hix) (zC hid)).same e2,(dy i _ _ (zC hi') (zC hid)).same e2,λH3 e3=>⟨?_,e2.trans e3⟩⟩
 rw [List.replicate_succ']
theorem Zaa {n:Nat} {f:Addr} {fd:FuncData} (F:Fun K "_law_alike" "_law_alike" X4 f fd) (Z:Blt mg) (Vb:Cal P w K mg base "_law_alike" n ["_law_found","_law_due"] (Ux n)) :
  Yt P w K mg base CX0 (n+1) f fd ["_law_found","_law_due"] (Ux (n+1)):=by
 refine F.ok Gg (λvs H Q E h=>?_) (λcdv A outer s H vs Q E hr h=>?_)
 ·obtain ⟨u,v,d,rfl,_⟩:=h
  rfl
 obtain ⟨u,v,d,rfl,hd,du,dv,k⟩:=h
 refine ⟨_,(Ze (X5 (Xo (K:=K) (Zn (Zdh (K:=K)) (by rfl) Z.isinstance Yj (Za (pv 1) (Za (Ww (Za (V5 (v:=V.ty "list") (by rfl) Z.list Vs rfl) (Za (V5 (v:=V.ty "tuple") (by rfl) Z.tuple Z7 rfl) Zc))) Zc))) (λ_=>rfl)) 
    (Ze (X5 (Yc Ir (Zn (Sf (K:=K)) (by rfl) Z.isinstance Yj (Za (pv 0) (Za (V5 (v:=V.ty "list") (by rfl) Z.list Vs rfl) Zc))) (Zn (Sf (K:=K)) (by rfl) Z.isinstance Yj (Za (pv 1) (Za (V5 (v:=V.ty "list") (by rfl) Z.list Vs rfl) Zc))) (Yo _)) 
     (Zj (Zz Mm)) Yv) 
    (Ze (X5 (Yc Ir (Zn (Sf (K:=K)) (by rfl) Z.isinstance Yj (Za (pv 0) (Za (V5 (v:=V.ty "tuple") (by rfl) Z.tuple Z7 rfl) Zc))) (Zn (Sf (K:=K)) (by rfl) Z.isinstance Yj (Za (pv 1) (Za (V5 (v:=V.ty "tuple") (by rfl) Z.tuple Z7 rfl) Zc))) (Yo _)) 
     (Zj (Zz Mm)) Yv) 
    (Ze (X5 (Yc Ir (Zn (Z4 (K:=K)) (by rfl) Z.len Yq (Za (pv 0) Zc)) (Zn (Z4 (K:=K)) (by rfl) Z.len Yq (Za (pv 1) Zc)) (Yo _)) 
     (Zj (Zz Mm)) Yv) 
    (Zj (Zz (Zn (Zdi (K:=K)) (by rfl) Z.all Znd (Za (Yw (sc:=Zg X4) (Nm:=["_law_found","_law_due"]) (own:=["_law_k"]) (fr:=[0,1]) ⟨rfl,by decide +kernel,by decide +kernel,by decide +kernel,by decide +kernel⟩ (by rfl) (Yi (by decide)) (Xe (by rfl) Z.range (Za (Zn (Z4 (K:=K)) (by rfl) Z.len Yq (Za (pv 1) Zc)) Zc)) (λd=>(Zl (i:=0) Kw (by rfl) (Or.inl (by rfl)))) (λd=>Y5) (λd=>(Ys Vb hr (Za (Zu (Zbn (K:=K)) (pv 1) (pv 0) (λ_ _=>rfl)) (Za (Zu (Zbn (K:=K)) (pv 2) (pv 0) (λ_ _=>rfl)) Zc))))) Zc))))))) Yv) 
   (Zj (Zz (Gu (We Vh (Zn (Sf (K:=K)) (by rfl) Z.isinstance Yj (Za (pv 0) (Za (V5 (v:=V.ty "bool") (by rfl) Z.bool Zb9 rfl) Zc))) (Zn (Sf (K:=K)) (by rfl) Z.isinstance Yj (Za (pv 1) (Za (V5 (v:=V.ty "bool") (by rfl) Z.bool Zb9 rfl) Zc))) (Yo _)) (Bp (We Vh (pv 0) (pv 1) (Yo _))))))),?_⟩
 refine (let zz0:TS:=_; let zz1:TS:=_; let zz2:TS:=Zt _ zz1; let zz3:TS:=Zt _ zz2; let zz4:TS:=Zt _ zz3; (?_:Zt (Eh _ zz4 _) zz0 _ _ _))
 have hz2:sizeLine=16777216:=sizeLine_eq
 cases du with
 | non=>
  cases dv
  refine ⟨_,rfl,(by show 2≤sizeLine; decide),λtp htp=>?_⟩
  refine ⟨_,tp,_,_,_,_,rfl,Zb,.non,N5 K "NoneType" _ _ _ (Zie K) (Zid K) rfl,_,rfl,Ox ?_⟩
  refine ⟨_,rfl,_,_,_,_,rfl,.non,Zbk K,_,rfl,_,_,_,_,rfl,.non,Zbk K,rfl,_,rfl,Zik rfl ?_⟩
  refine ⟨_,rfl,_,rfl,rfl,?_⟩
  rw [decide_eq_true rfl]
  exact k _ (Zd htp _)
 | bl b=>
  cases dv
  refine ⟨_,rfl,(by show 2≤sizeLine; decide),λtp htp=>?_⟩
  refine ⟨_,tp,_,_,_,_,rfl,Zb,.bl b,N5 K "bool" _ _ _ (Zii K) (Zih K) rfl,_,rfl,Ox ?_⟩
  refine ⟨_,rfl,_,_,_,_,rfl,.bl b,Zbm K,_,rfl,_,_,_,_,rfl,.bl b,Zbm K,rfl,_,rfl,Zik rfl ?_⟩
  refine ⟨_,rfl,_,rfl,rfl,?_⟩
  rw [decide_eq_true rfl]
  exact k _ (Zd htp _)
 | int i=>
  cases dv
  refine ⟨_,rfl,(by show 2≤sizeLine; decide),λtp htp=>?_⟩
  refine ⟨_,tp,_,_,_,_,rfl,Zb,.int i,N5 K "int" _ _ _ (Zig K) (Zif K) rfl,_,rfl,Ox ?_⟩
  refine ⟨_,rfl,_,_,_,_,rfl,.int i,Zbl K,_,rfl,_,_,_,_,rfl,.int i,Zbl K,rfl,_,rfl,Zik rfl ?_⟩
  refine ⟨_,rfl,_,rfl,rfl,?_⟩
  rw [decide_eq_true rfl]
  exact k _ (Zd htp _)
 | str x=>
  cases dv
  refine ⟨_,rfl,(by show 2≤sizeLine; decide),λtp htp=>?_⟩
  refine ⟨_,tp,_,_,_,_,rfl,Zb,.str x,N5 K "str" _ _ _ (Zic K) (Zib K) rfl,_,rfl,Ox ?_⟩
  refine ⟨_,rfl,_,_,_,_,rfl,.str x,Zbj K,_,rfl,_,_,_,_,rfl,.str x,Zbj K,rfl,_,rfl,Zik rfl ?_⟩
  refine ⟨_,rfl,_,rfl,rfl,?_⟩
  rw [decide_eq_true rfl]
  exact k _ (Zd htp _)
 | @lst a xs ds h hz hl hdd=>
  cases dv with
  | @lst b ys _ h' hz' hl' Zmp=>
   refine ⟨_,rfl,(by show 2≤sizeLine; decide),λtp htp=>?_⟩
   have e1:Zr H (upd H tp (.tup [.ty "list",.ty "tuple"])):=Zd htp _
   refine ⟨_,tp,_,_,_,_,rfl,Zb,.lst (e1 _ _ h'),N5 K "list" _ _ _ (Fh K) (Fg K) rfl,_,rfl,Ab ?_⟩
   refine ⟨_,rfl,_,_,_,_,rfl,.lst (e1 _ _ h),Fh K,_,rfl,_,_,_,_,rfl,.lst (e1 _ _ h'),Fh K,rfl,_,rfl,I0 rfl ?_⟩
   refine ⟨_,rfl,_,_,_,_,rfl,.lst (e1 _ _ h),Fg K,_,rfl,_,_,_,_,rfl,.lst (e1 _ _ h'),Fg K,rfl,_,rfl,I0 rfl ?_⟩
   refine ⟨_,rfl,a,xs,rfl,.inl (SqL.of (e1 _ _ h)),_,rfl,b,ys,rfl,.inl (SqL.of (e1 _ _ h')),rfl,_,rfl,I0 (by rw [hl,hl']) ?_⟩
   refine ⟨_,rfl,b,ys,rfl,.inl (SqL.of (e1 _ _ h')),_,rfl,by omega,by omega,?_⟩
   have sa:Sq2 (upd H tp (.tup [.ty "list",.ty "tuple"])) a xs:=.inl (e1 _ _ h)
   have sb:Sq2 (upd H tp (.tup [.ty "list",.ty "tuple"])) b ys:=.inl (e1 _ _ h')
   refine Xz (lo:=0) (k:=((ys.length:Int)).toNat) (λi acc H2=>acc=List.replicate i (V.bl true)∧Zr (upd H tp (.tup [.ty "list",.ty "tuple"])) H2) (by omega) ⟨rfl,Zr.refl _⟩ (λi acc H2 p=>by rw [p.1,vI]; exact zI _)
    (λi acc H2 hi p=>?_) (λacc H2 p l hl2=>?_)
   ·obtain ⟨rfl,e2⟩:=p
    exact Ss (Jh sa sb hl hl' (λd' hd'=>by have:=Dt.Ziy hd'; omega) (λi x d' z1 z2=>(hdd i x d' z1 z2).same e1) (λi x d' z1 z2=>(Zmp i x d' z1 z2).same e1) e2 (by omega) rfl rfl rfl)
   ·obtain ⟨rfl,e2⟩:=p
    refine ⟨l,List.replicate ((ys.length:Int)).toNat true,rfl,SqL.of (by rw [Zb,List.map_replicate]),?_⟩
    rw [all_true]
    exact k _ ((e1.trans e2).trans (Zd hl2 _))
 | @tup a xs ds h hz hl hdd=>
  cases dv with
  | @tup b ys _ h' hz' hl' Zmp=>
   refine ⟨_,rfl,(by show 2≤sizeLine; decide),λtp htp=>?_⟩
   have e1:Zr H (upd H tp (.tup [.ty "list",.ty "tuple"])):=Zd htp _
   refine ⟨_,tp,_,_,_,_,rfl,Zb,.tup (e1 _ _ h'),N5 K "tuple" _ _ _ (Ff K) (Fe K) rfl,_,rfl,Ab ?_⟩
   refine ⟨_,rfl,_,_,_,_,rfl,.tup (e1 _ _ h),Ff K,_,rfl,_,_,_,_,rfl,.tup (e1 _ _ h'),Ff K,rfl,_,rfl,I0 rfl ?_⟩
   refine ⟨_,rfl,_,_,_,_,rfl,.tup (e1 _ _ h),Fe K,_,rfl,_,_,_,_,rfl,.tup (e1 _ _ h'),Fe K,rfl,_,rfl,I0 rfl ?_⟩
   refine ⟨_,rfl,a,xs,rfl,.inr (SqT.of (e1 _ _ h)),_,rfl,b,ys,rfl,.inr (SqT.of (e1 _ _ h')),rfl,_,rfl,I0 (by rw [hl,hl']) ?_⟩
   refine ⟨_,rfl,b,ys,rfl,.inr (SqT.of (e1 _ _ h')),_,rfl,by omega,by omega,?_⟩
   have sa:Sq2 (upd H tp (.tup [.ty "list",.ty "tuple"])) a xs:=.inr (e1 _ _ h)
   have sb:Sq2 (upd H tp (.tup [.ty "list",.ty "tuple"])) b ys:=.inr (e1 _ _ h')
   refine Xz (lo:=0) (k:=((ys.length:Int)).toNat) (λi acc H2=>acc=List.replicate i (V.bl true)∧Zr (upd H tp (.tup [.ty "list",.ty "tuple"])) H2) (by omega) ⟨rfl,Zr.refl _⟩ (λi acc H2 p=>by rw [p.1,vI]; exact zI _)
    (λi acc H2 hi p=>?_) (λacc H2 p l hl2=>?_)
   ·obtain ⟨rfl,e2⟩:=p
    exact Ss (Jh sa sb hl hl' (λd' hd'=>by have:=Dt.Zix hd'; omega) (λi x d' z1 z2=>(hdd i x d' z1 z2).same e1) (λi x d' z1 z2=>(Zmp i x d' z1 z2).same e1) e2 (by omega) rfl rfl rfl)
   ·obtain ⟨rfl,e2⟩:=p
    refine ⟨l,List.replicate ((ys.length:Int)).toNat true,rfl,SqL.of (by rw [Zb,List.map_replicate]),?_⟩
    rw [all_true]
    exact k _ ((e1.trans e2).trans (Zd hl2 _))
theorem Zab {f:Addr} {fd:FuncData}:Yt P w K mg base CX0 0 f fd ["_law_found","_law_due"] (Ux 0):=by
 have no:∀ vs H Q E,¬ Ux 0 vs H Q E:=λvs H Q E h=>by
  obtain ⟨u,v,d,_,hd,_⟩:=h
  omega
 exact ⟨λvs H Q E h=>absurd h (no vs H Q E),λA outer s H args us vs Q E _ _ _ _ h=>absurd h (no vs H Q E)⟩
theorem Ot {f:Addr} {fd:FuncData} (F:Fun K "_law_alike" "_law_alike" X4 f fd) (b:Binds K fd ["_law_found","_law_due"] []) (m:mg "_law_alike" = some (.ref f)) (Z:Blt mg):∀ n:Nat,Yt P w K mg base CX0 n f fd ["_law_found","_law_due"] (Ux n)
 | 0=>Zab
 | n+1=>Zaa F Z ⟨f,fd,Ot F b m Z n,m,F.kp,b⟩
def one (c:Nat):Str:=⟨#[c]⟩
theorem Ih {ys':List Str} {cs:List Nat} (h:ys'.Perm (cs.map one)):∃ cs':List Nat,cs'.Perm cs∧ys'=cs'.map one:=by
 have e:∀ y∈ys',y=one (y.cps.toList.headD 0):=λy hy=>by
  obtain ⟨c,_,rfl⟩:=zY.mp (h.mem_iff.mp hy)
  rfl
 have e2:ys'=(ys'.map λy=>y.cps.toList.headD 0).map one:=by
  rw [yD]
  have:∀ (l:List Str),(∀ y∈l,y=one (y.cps.toList.headD 0))→l=l.map (one ∘ λy=>y.cps.toList.headD 0):=by
   intro l
   induction l with
   | nil=>intro _; rfl
   | cons y r ih=>
    intro hl
    rw [zO,← ih λz hz=>hl z (zQ _ hz)]
    exact congrArg (· :: r) (hl y zM)
  exact this ys' e
 refine ⟨_,?_,e2⟩
 have p:=h.map λy:Str=>y.cps.toList.headD 0
 rw [yD] at p
 have:(λy:Str=>y.cps.toList.headD 0) ∘ one=id:=rfl
 rw [this,wN] at p
 exact p
theorem B6 (a b:Nat):ltCps (one a).cps.toList (one b).cps.toList=decide (a < b):=by
 rw [ltCps_eq]
 exact Zlx a b
theorem Mk:∀ (p:Nat) (cs:List Nat),risingS (one p) (cs.map one)=true→∀ c∈cs,p≤c
 | _,[],_,c,hc=>by cases hc
 | p,x :: r,h,c,hc=>by
  have h':(!ltCps (one x).cps.toList (one p).cps.toList && risingS (one x) (r.map one))=true:=h
  rw [yQ,B6] at h'
  have h1:p≤x:=by
   have:=h'.1
   simp at this
   exact this
  rcases yE.mp hc with e | e
  ·subst e; exact h1
  ·exact yG h1 (Mk x r h'.2 c e)
theorem Mi:∀ (cs:List Nat),sortedS (cs.map one)=true→cs.Pairwise (·≤·)
 | [],_=>.nil
 | p :: r,h=>by
  have h':risingS (one p) (r.map one)=true:=h
  refine List.Pairwise.cons (Mk p r h') (Mi r ?_)
  cases r with
  | nil=>rfl
  | cons x r=>
   have h2:(!ltCps (one x).cps.toList (one p).cps.toList && risingS (one x) (r.map one))=true:=h'
   rw [yQ] at h2
   exact h2.2
theorem Ry:∀ {cs:List Nat},cs.Pairwise (·≤·)→cs.Nodup→cs.Pairwise (· < ·)
 | [],_,_=>.nil
 | p :: r,h,n=>by
  cases h with
  | cons h1 h2=>
   rw [wL] at n
   refine List.Pairwise.cons (λc hc=>?_) (Ry h2 n.2)
   have:=h1 c hc
   have:p≠c:=λe=>n.1 (e▸hc)
   omega
theorem Pq {α:Type}:∀ {l:List α} {n:Nat} {v:α},l[n]? = some v→(v :: l.eraseIdx n).Perm l
 | [],n,v,h=>by simp at h
 | x :: r,0,v,h=>by
  have e:x=v:=by simpa using h
  subst e
  exact List.Perm.refl _
 | x :: r,n+1,v,h=>by
  have ih:=Pq (l:=r) (n:=n) (v:=v) (by simpa using h)
  rw [tP]
  exact (List.Perm.swap x v _).trans (List.Perm.cons x ih)
theorem Ma {α β:Type} (f:α→β):∀ (l:List α) (i:Nat),(l.map f).eraseIdx i=(l.eraseIdx i).map f
 | [],_=>rfl
 | _ :: _,0=>rfl
 | x :: r,i+1=>by
  rw [zO,tP,tP,zO,Ma f r i]
theorem Hf (cs:List Nat):((cs.map one).map λy=>y.cps.toList).flatten=cs:=by
 induction cs with
 | nil=>rfl
 | cons c r ih=>rw [zO,zO,List.flatten_cons,ih]; rfl
theorem Ek (cs:List Nat):((cs.map one).map (·.length)).sum=cs.length:=by
 induction cs with
 | nil=>rfl
 | cons c r ih=>rw [zO,zO,List.sum_cons,ih,yR,sZ]; rfl
def abc:List Nat:=(List.range 26).map (· + 97)
theorem Zad:(Str.ofString "abcdefghijklmnopqrstuvwxyz").cps.toList=abc:=by decide +kernel
theorem Zdk:abc.Nodup:=by decide +kernel
theorem Zi8 {c:Nat} (h:c∈abc):97≤c∧c≤122:=by
 unfold abc at h
 obtain ⟨i,hi,rfl⟩:=zY.mp h
 have:=yN.mp hi
 omega
theorem Ze8 (cs:List Nat):cs.map Tt=(cs.map one).map V.str:=by
 rw [yD]
 rfl
theorem Ko {f:Addr} {fd:FuncData} (F:Fun K "_law_letters" "_law_letters" Xy f fd) (Z:Blt mg) (Zq:Cal P w K mg base "_law_pick" 1 ["_law_flow_here","_law_many"] Sg) :
  Yt P w K mg base CX0 2 f fd ["_law_flow_here","_law_many"] Nl:=by
 refine F.ok Rm (λvs H Q E h=>?_) (λcdv A outer s H vs Q E hr h=>?_)
 ·obtain ⟨p,sc,m,rfl,_⟩:=h
  rfl
 obtain ⟨p,sc,m,rfl,hm0,hm1,FA,k⟩:=h
 refine ⟨_,(Ze (Zm (i:=2) Rm.nd (by rfl) (Or.inr (by rfl)) (Zs (Jf (by rfl)) (by rfl) Z.list Vs (Za Pk Zc))) 
   (Zj (Zz (Xh (K:=K) uM sH sI (Ky (K:=K)) Pk (Za (Zn (Av (K:=K)) (by rfl) Z.sorted Q9 (Za (Yw (sc:=Zg Xy) (Nm:=["_law_flow_here","_law_many","_law_left"]) (own:=["_law_k"]) (fr:=[0,2]) ⟨rfl,by decide +kernel,by decide +kernel,by decide +kernel,by decide +kernel⟩ (by rfl) (Yi (by decide)) (Xe (by rfl) Z.range (Za (pv 1) Zc)) (λd=>(Zl (i:=0) Nz (by rfl) (Or.inl (by rfl)))) (λd=>Y5) (λd=>(Xh (K:=K) zW PySem.F.slot_list_pop PySem.F.type_list_pop Dq (pv 2) (Za (Ys Zq (hr.mono (by decide)) (Za (pv 1) (Za (Zn (Z4 (K:=K)) (by rfl) Z.len Yq (Za (pv 2) Zc)) Zc))) Zc)))) Zc)) Zc))))),?_⟩
 refine (let zz0:TS:=_; (?_:Zt _ zz0 _ _ _))
 refine ⟨_,rfl,(by decide +kernel),λl hl=>?_⟩
 have e1:Zr H (upd H l (.lst ((Str.ofString "abcdefghijklmnopqrstuvwxyz").cps.toList.map Tt))):=Zd hl _
 have npl:p≠l:=by
  obtain ⟨xs,hp,_⟩:=FA.here
  exact Zf hp hl
 refine ⟨rfl,_,rfl,_,rfl,by omega,by omega,?_⟩
 refine Xz (lo:=0) (k:=m.toNat) (λi acc H2=>∃ ys rem:List Nat,acc=ys.map Tt∧ys.length=i∧H2 l=some (.lst (rem.map Tt))∧(ys ++ rem).Perm abc∧Yb H2 p sc∧Yh H H2 p) (yO (show m.toNat≤26 by omega) (by decide))
  ⟨[],abc,rfl,rfl,by rw [Zb,Zad],List.Perm.refl _,FA.same e1,Yh.same e1⟩ (λi acc H2 ⟨ys,rem,e,hl',_⟩=>by rw [e,zA,hl']; exact zI _) (λi acc H2 hi hp=>?_) (λacc H2 hp q hq=>?_)
 ·obtain ⟨ys,rem,rfl,hyl,Ae,U3,FA2,dr⟩:=hp
  have hlen:ys.length+rem.length=26:=by
   have:=U3.length_eq
   rw [zK] at this
   exact this
  refine Ss ?_
  refine ⟨_,rfl,.inl ⟨rfl,_,SqL.of Ae⟩,_,rfl,_,rfl,l,_,rfl,.inl (SqL.of Ae),p,sc,_,rfl,?_,?_,FA2,λr xs hr0 hr1 hxs=>?_⟩
  ·rw [zA]; omega
  ·rw [zA]; omega
  ·have hr1':r < (rem.length:Int):=by
    rw [zA] at hr1
    exact hr1
   have hrn:r.toNat < rem.length:=by omega
   have hv:rem[r.toNat]? = some rem[r.toNat]:=zC hrn
   have hl2:upd H2 p (.lst xs) l=some (.lst (rem.map Tt)):=by rw [Zi (xV npl)]; exact Ae
   refine ⟨l,_,r,r.toNat,Tt rem[r.toNat],rfl,rfl,hl2,by omega,by omega,?_,?_,?_⟩
   ·rw [zA]
    exact seqIndex_of hr0 hr1'
   ·rw [zE,hv]
    rfl
   ·refine ⟨ys ++ [rem[r.toNat]],rem.eraseIdx r.toNat,by rw [zZ]; rfl,by rw [zK,hyl]; rfl,?_,?_,?_,?_⟩
    ·rw [Zb,Ma]
    ·rw [tT]
     exact (List.Perm.append_left ys (Pq hv)).trans U3
    ·have FA3:=FA2.go hxs
     obtain ⟨xs',h1,h2⟩:=FA3.here
     obtain ⟨ns,h3⟩:=FA3.cells
     refine ⟨⟨xs',by rw [Zi npl]; exact h1,h2⟩,ns,?_⟩
     rw [Zi ?_]
     ·exact h3
     ·obtain ⟨ns0,h0⟩:=FA.cells
      exact Zf h0 hl
    ·intro b o hb hne
     rw [Zi (Zf hb hl),Zi hne]
     exact dr b o hb hne
 ·obtain ⟨ys,rem,rfl,hyl,Ae,U3,FA2,dr⟩:=hp
  have hn:ys.Nodup:=(vQ.mp (U3.nodup_iff.mpr Zdk)).1
  refine ⟨q,ys.map one,rfl,SqL.of (by rw [Zb,Ze8]),by rw [zA]; omega,λys' l2 hp2 hs2 hl2=>?_⟩
  obtain ⟨cs,hc,rfl⟩:=Ih hp2
  have hclen:=hc.length_eq
  refine ⟨_,l2,cs.map one,rfl,rfl,SqL.of Zb,?_,?_⟩
  ·rw [Ek,zA]
   have:(Str.ofString "").length=0:=by decide +kernel
   rw [this]
   omega
  ·have e3:=Pe (cs.map one)
   rw [Hf] at e3
   refine k _ _ ⟨?_,?_,λc hcm=>?_⟩ ?_ ?_
   ·rw [e3]; omega
   ·rw [e3]
    exact Ry (Mi cs hs2) (hc.nodup_iff.mpr hn)
   ·rw [e3] at hcm
    exact Zi8 (U3.mem_iff.mp (wV _ (hc.mem_iff.mp hcm)))
   ·exact dr.trans (Yh.trans (Yh.same (Zd hq _)) (Yh.same (Zd hl2 _)))
   ·exact (FA2.same (Zd hq _)).same (Zd hl2 _)
theorem W0 {H0 H:Hp} {p:Addr} (d:Yh H0 H p) (o:HO):Yh H0 (upd H p o) p:=d.trans (Yh.upd o)
def Drawn (H:Hp) (p sc:Addr) (l:Str) (i:Nat) (acc:List V) (H2:Hp):Prop:=∃ ys:List Nat,acc=ys.map Tt∧ys.length=i∧(∀ c∈ys,c∈l.cps.toList)∧Yb H2 p sc∧Yh H H2 p
theorem len_list (z:Str):z.cps.toList.length=z.length:=by simp [Str.length]
theorem Vd (es:List Nat):(es.map λn:Nat=>V.int (n:Int)).all Uo=true:=by
 induction es with
 | nil=>rfl
 | cons e r ih=>rw [zO,vN,ih]; rfl
def nI (n:Nat):V:=.int (n:Int)
structure Z9 (H:Hp) (m:Addr) (l:Str) (b:Nat) (es:List Nat) (st:List (List Nat)):Prop where
 lay:∃ (e s:Addr) (ras:List Addr),H m=some (.tup [.str l,nI b,.ref e,.ref s])∧H e=some (.tup (es.map nI))∧H s=some (.tup (ras.map V.ref))∧ras.length=st.length∧∀ (i:Nat) a r,ras[i]? = some a→st[i]? = some r→H a=some (.tup (r.map nI))
 few:0 < l.length∧l.length≤3∧st.length≤216
 beg:b < st.length
 rows:∀ r∈st,r.length=l.length∧∀ x∈r,x < st.length
theorem Z9.same {H H':Hp} {m:Addr} {l:Str} {b:Nat} {es:List Nat} {st:List (List Nat)} (h:Z9 H m l b es st) (e:Zr H H'):Z9 H' m l b es st:=by
 obtain ⟨⟨e1,s1,ras,h1,h2,h3,h4,h5⟩,f,g,r⟩:=h
 exact ⟨⟨e1,s1,ras,e _ _ h1,e _ _ h2,e _ _ h3,h4,λi a r q1 q2=>e _ _ (h5 i a r q1 q2)⟩,f,g,r⟩
def stp (l:Str) (st:List (List Nat)) (r c:Nat):Nat:=(st.getD r []).getD (Txt.find l (one c)).toNat 0
def way (l:Str) (st:List (List Nat)) (r:Nat) (t:List Nat):Nat:=t.foldl (stp l st) r
theorem Zbz {l:Str} {c:Nat} (h:c∈l.cps.toList):0≤Txt.find l (one c)∧(Txt.find l (one c)).toNat < l.length:=by
 have hl:=len_list l
 obtain ⟨i,hi,e⟩:=yU h
 have hD:∀ v:Nat,v < l.length→l.cps.getD v 0=l.cps.toList.getD v 0:=λv hv=>by
  rw [zD,xN,Array.getD_eq_getD_getElem?]
 have hf:Txt.find l (one c)=Txt.find3 l (one c) 0:=by
  unfold Txt.find Txt.find3
  rfl
 rcases StrLaws.find3_spec l c 0 with ⟨_,hn⟩ | ⟨k,hk,_,hlt,_⟩
 ·refine absurd ?_ (hn i ?_ (by omega))
  ·rw [hD i (by omega),zD,zC hi]
   exact e
  ·show _≤i
   unfold PySem.fromIndex
   simp
 ·rw [hf]
  have:Txt.find3 l (one c) 0=(k:Int):=hk
  rw [this]
  omega
theorem getD_mem {α:Type} {l:List α} {i:Nat} {d:α} (h:i < l.length):l.getD i d∈l∧l[i]? = some (l.getD i d):=by
 rw [zD,zC h]
 exact ⟨wB h,rfl⟩
theorem Ni {H:Hp} {m:Addr} {l:Str} {b:Nat} {es:List Nat} {st:List (List Nat)} (M:Z9 H m l b es st) {r c:Nat} (hr:r < st.length) (hc:c∈l.cps.toList):stp l st r c < st.length:=by
 obtain ⟨h1,h2⟩:=M.rows _ (getD_mem (d:=[]) hr).1
 have hf:=Zbz hc
 exact h2 _ (getD_mem (l:=st.getD r []) (d:=0) (by rw [h1]; exact hf.2)).1
theorem Zdo {H:Hp} {m:Addr} {l:Str} {b:Nat} {es:List Nat} {st:List (List Nat)} (M:Z9 H m l b es st):∀ (t:List Nat) (r:Nat),r < st.length→(∀ c∈t,c∈l.cps.toList)→way l st r t < st.length
 | [],r,hr,_=>hr
 | c :: t,r,hr,h=>Zdo M t _ (Ni M hr (h c zM)) λx hx=>h x (zQ _ hx)
inductive Zas (vs:List V) (H:Hp) (Q:VK):Prop
 | mk (m:Addr) (l:Str) (b:Nat) (es:List Nat) (st:List (List Nat)) (r:Nat) (t:Str) (h1:vs=[.ref m,nI r,.str t]) (h2:Z9 H m l b es st) (h3:r < st.length) (h4:(∀ c∈t.cps.toList,c∈l.cps.toList)) (h5:Q (nI (way l st r t.cps.toList)) H):Zas vs H Q
def Hx:Sp:=λvs H Q u3_=>Zas vs H Q
theorem Zhn {K:W.Frag} {H:Hp} {m:Addr} {l:Str} {b:Nat} {es:List Nat} {st:List (List Nat)} (M:Z9 H m l b es st) {r c:Nat} (hr:r < st.length) (hc:c∈l.cps.toList) {Q:VK} (q:Q (nI (stp l st r c)) H) :
  ∃ (e s:Addr) (ras:List Addr) (a:Addr),H m=some (.tup [.str l,nI b,.ref e,.ref s])∧H s=some (.tup (ras.map V.ref))∧atI (ras.map V.ref) (r:Int)=some (.ref a)∧H a=some (.tup ((st.getD r []).map nI))∧0≤Txt.find l ⟨#[c]⟩∧atI ((st.getD r []).map nI) (Txt.find l ⟨#[c]⟩)=some (nI (stp l st r c)):=by
 obtain ⟨e,s,ras,h1,h2,h3,h4,h5⟩:=M.lay
 have hra:r < ras.length:=by omega
 have hf:=Zbz hc
 obtain ⟨g1,g2⟩:=getD_mem (l:=st) (d:=[]) hr
 have hlen:=(M.rows _ g1).1
 have g3:=(getD_mem (l:=st.getD r []) (i:=(Txt.find l (one c)).toNat) (d:=0) (by rw [hlen]; exact hf.2)).2
 refine ⟨e,s,ras,ras[r],h1,h3,Zk (by rw [zE,zC hra]; rfl),h5 r _ _ (zC hra) g2,hf.1,?_⟩
 have z:atI ((st.getD r []).map nI) (((Txt.find l (one c)).toNat:Nat):Int)=some (nI (stp l st r c)):=Zk (by rw [zE,g3]; rfl)
 rw [show (((Txt.find l (one c)).toNat:Nat):Int)=Txt.find l (one c) by omega] at z
 exact z
theorem Zdn (l:Str) (st:List (List Nat)) (r:Nat) (t:List Nat) (i c:Nat) (h:t[i]? = some c):way l st r (t.take (i+1))=stp l st (way l st r (t.take i)) c:=by
 rw [yK,h]
 unfold way
 rw [vR]
 rfl
theorem take_all {P:Nat→Prop} {t:List Nat} {n:Nat} (h:∀ c∈t,P c):∀ c∈t.take n,P c:=λc hc=>h c (vS hc)
theorem Kk {f:Addr} {fd:FuncData} (F:Fun K "room_behind" "room_behind" Wa f fd) (Z:Blt mg):Yt P w K mg base CX0 1 f fd ["machine","room","text"] Hx:=by
 refine F.ok X1 (λvs H Q E h=>?_) (λcdv A outer s H vs Q E hr h=>?_)
 ·obtain ⟨m,l,b,es,st,r,t,rfl,_⟩:=h
  rfl
 obtain ⟨m,l,b,es,st,r,t,rfl,M,hr0,ht,k⟩:=h
 refine ⟨_,(Ze (Zm (i:=3) X1.nd (by rfl) (Or.inl (by rfl)) (Zu (Zv (K:=K)) (pv 0) Zh (λ_ _=>rfl))) 
   (Ze (Zm (i:=4) X1.nd (by rfl) (Or.inl (by rfl)) (Zu (Zv (K:=K)) (pv 0) Zh (λ_ _=>rfl))) 
   (Ze (Zm (i:=5) X1.nd (by rfl) (Or.inl (by rfl)) (pv 1)) 
   (Ze (Xq yB (by rfl) (Rp (pv 2)) (Zl (i:=6) X1.nd (by rfl) (Or.inl (by rfl))) 
    (Zj (Zm (i:=5) X1.nd (by rfl) (Or.inl (by rfl)) (Zu (Zv (K:=K)) (Zu (Zv (K:=K)) (pv 4) (pv 5) (λ_ _=>rfl)) (Xh (K:=K) uM PySem.F.slot_str_index PySem.F.type_str_index (Zff (by rfl)) (pv 3) (Za (pv 6) Zc)) (λ_ _=>rfl))))) 
   (Zj (Zz (pv 5))))))),?_⟩
 refine (let zz0:TS:=_; let zz1:TS:=Zt _ zz0; let zz2:TS:=Zt _ zz1; let zz3:TS:=Zt _ zz2; (?_:Zt _ zz3 _ _ _))
 obtain ⟨e,s',ras,h1,h2,h3,h4,h5⟩:=M.lay
 refine ⟨_,rfl,m,_,_,_,rfl,rfl,SqT.of h1,Zk (j:=0) rfl,_,rfl,m,_,_,_,rfl,rfl,SqT.of h1,Zk (j:=3) rfl,_,rfl,?_⟩
 refine ⟨_,rfl,t,rfl,?_⟩
 refine Lm (cs:=t.cps.toList) (λi σ H2=>∃ v,σ=[some (.ref m),some (nI r),some (.str t),some (.str l),some (.ref s'),some (nI (way l st r (t.cps.toList.take i))),v]∧H2=H) ⟨none,rfl,rfl⟩ ?_ ?_
 ·rintro i c σ H2 hc ⟨v,rfl,rfl⟩
  have hcl:c∈l.cps.toList:=ht c (zJ hc)
  have hw:=Zdo M (t.cps.toList.take i) r hr0 (take_all ht)
  obtain ⟨e2,s2,Rn,a,q1,q2,q3,q4,q5,q6⟩:=Zhn (K:=K) (Q:=λ_ _=>True) M hw hcl trivial
  rw [h1] at q1
  cases q1
  refine ⟨_,rfl,_,rfl,s',_,_,_,rfl,rfl,SqT.of q2,q3,_,rfl,rfl,_,rfl,l,_,rfl,rfl,q5,a,_,_,_,rfl,rfl,SqT.of q4,q6,?_⟩
  refine ⟨some (.str ⟨#[c]⟩),?_,rfl⟩
  rw [Zdn l st r _ i c hc]
  rfl
 ·rintro σ H2 ⟨v,rfl,rfl⟩
  refine ⟨_,rfl,?_⟩
  rw [yC]
  exact k
def Tk (H H':Hp):Prop:=∀ b ys,H b=some (.tup ys)→H' b=some (.tup ys)
theorem Tk.same {H H':Hp} (e:Zr H H'):Tk H H':=λb ys h=>e b _ h
theorem Tk.trans {H H1 H2:Hp} (a:Tk H H1) (b:Tk H1 H2):Tk H H2:=λc ys h=>b c ys (a c ys h)
theorem Tk.lst {H:Hp} {l:Addr} {xs:List V} (h:H l=some (.lst xs)) (o:HO):Tk H (upd H l o):=λb ys e=>by
 rw [Zi (Xm e h λz=>nomatch z)]
 exact e
theorem Tk.dct {H:Hp} {l:Addr} {xs:List (List Key × V)} (h:H l=some (.dT xs)) (o:HO):Tk H (upd H l o):=λb ys e=>by
 rw [Zi (Xm e h λz=>nomatch z)]
 exact e
theorem map_take {α β:Type} {f:α→β} {l:List α} {i:Nat} {x:α} (h:l[i]? = some x):(l.take (i+1)).map f=(l.take i).map f ++ [f x]:=by
 rw [yK,h,zZ]
 rfl
theorem none_of {H H':Hp} {p:Addr} (e:Zr H H') (h:H' p=none):H p=none:=by
 cases z:H p with
 | none=>rfl
 | some o=>rw [e _ _ z] at h; cases h
theorem Tk.drew {H H':Hp} {p sc:Addr} (F:Yb H p sc) (d:Yh H H' p):Tk H H':=λb ys h=>by
 obtain ⟨xs,hp,_⟩:=F.here
 exact d _ _ h (Xm h hp λz=>nomatch z)
section
variable {α:Type} {tv:α→List V}
end
theorem Yr {H H':Hp} {c:Addr} (e:Zr H H') (h:H c=none) (o:HO):Zr H (upd H' c o):=λb u q=>by
 rw [Zi (Zf q h)]
 exact e b u q
theorem Zgn {K:W.Frag} {x x0 x1:V} {a:Addr} {σ:L2.St} {H:Hp} {te:TE} {Nt:VK} {Nf:Hp→Prop} (hx:x=.ref a) (hq:SqT K H a [x0,x1]) (h:te ((σ.set 0 (some x0)).set 1 (some x1)) H Nt) :
  Zit K 2 (Zby (Mp 0) (Zby (Mp 1) Zmx)) x σ H λσ4 H4=>Zkr σ4 H4 λb H5=>if b=true then te σ4 H5 Nt else Nf H5:=by
 refine ⟨a,_,hx,hq,rfl,_,_,rfl,_,_,rfl,rfl,?_⟩
 show if true=true then te ((σ.set 0 (some x0)).set 1 (some x1)) H Nt else Nf H
 exact Ab h
theorem Fm {α:Type} [BEq α] [LawfulBEq α] {rs:List α} {i:Nat} {r:α} (h:rs[i]? = some r) (hn:r∉rs.take i):rs.idxOf r=i:=by
 have hi:i < rs.length:=(zF.mp h).1
 have e:rs=rs.take i ++ r :: rs.drop (i+1):=by
  obtain ⟨hm,e⟩:=zF.mp h
  rw [← e,← List.drop_eq_getElem_cons hm,vL]
 rw [e,tS,if_neg hn,List.idxOf_cons_self,zS]
 omega
theorem Y0 {α:Type} {rs:List α} {i:Nat} {r x:α} (h:rs[i]? = some r):x∈rs.take (i+1)↔x∈rs.take i∨x=r:=by
 rw [yK,h,yS]
 simp
def kkN (r:List Nat):List Key:=r.map λn:Nat=>Sum.inl (n:Int)
theorem Zia (r:List Nat):(kkN r).map kV=r.map nI:=by
 unfold kkN
 rw [yD]
 rfl
theorem Zbi:∀ {r r':List Nat},kkN r=kkN r'→r=r'
 | [],[],_=>rfl
 | [],_ :: _,h=>by cases h
 | _ :: _,[],h=>by cases h
 | a :: r,b :: r',h=>by
  have h':(Sum.inl ((a:Nat):Int):Key) :: kkN r=Sum.inl ((b:Nat):Int) :: kkN r':=h
  injection h' with h1 h2
  have:((a:Nat):Int)=((b:Nat):Int):=Sum.inl.inj h1
  rw [Zbi h2,show a=b by omega]
def Vf (H:Hp) (xs:List V) (rs:List (List Nat)):Prop:=xs.length=rs.length∧∀ (i:Nat) x r,xs[i]? = some x→rs[i]? = some r→∃ a,x=.ref a∧H a=some (.tup (r.map nI))
inductive Zjk (vs:List V) (H:Hp) (Q:VK):Prop
 | mk (rp:Addr) (h1:vs=[.ref rp]) (h2:((∃ bs:List Bool,H rp=some (.lst (bs.map V.bl))∧bs.length≤500∧∀ l H',H l=none→Zr H H'→H' l=some (.lst (bs.map λb=>nI (bs.idxOf b)))→Q (.ref l) H')∨(∃ xs rs,H rp=some (.lst xs)∧Vf H xs rs∧rs.length≤500∧∀ l H',H l=none→Zr H H'→H' l=some (.lst (rs.map λr=>nI (rs.idxOf r)))→Q (.ref l) H'))):Zjk vs H Q
def Zk4:Sp:=λvs H Q u3_=>Zjk vs H Q
theorem Jt {f:Addr} {fd:FuncData} (F:Fun K "first_like" "first_like" Xv f fd) (Z:Blt mg):Yt P w K mg base CX0 1 f fd ["rows"] Zk4:=by
 refine F.ok U6 (λvs H Q E h=>?_) (λcdv A outer s H vs Q E hr h=>?_)
 ·obtain ⟨rp,rfl,_⟩:=h
  rfl
 obtain ⟨rp,rfl,⟨bs,hb,hbl,k⟩ | ⟨xs,rs,hx,hR,hrl,k⟩⟩:=h
 ·refine ⟨_,(Ze (Zm (i:=1) U6.nd (by rfl) (Or.inr (by rfl)) (Zez (P:=P) (w:=w))) 
   (Zj (Zz (Yw (sc:=Zg Xv) (Nm:=["rows","firsts"]) (own:=["number","row"]) (fr:=[1]) ⟨rfl,by decide +kernel,by decide +kernel,by decide +kernel,by decide +kernel⟩ (by rfl) (Lj (W9 (by decide) (W9 (by decide) Oz))) (Le (K:=K) (by rfl) Z.enumerate (pv 0)) (λd=>(Vq (K:=K) (n:=2) (by rfl) (Yg (Zl (i:=0) Wz (by rfl) (Or.inl (by rfl))) (Yg (Zl (i:=1) Wz (by rfl) (Or.inl (by rfl))) Vp)))) (λd=>Y5) (λd=>(Zex (P:=P) (w:=w) (pv 2) (pv 1) (pv 0) ⟨rfl,rfl,rfl,rfl⟩)))))),?_⟩
  refine (let zz0:TS:=_; (?_:Zt _ zz0 _ _ _))
  intro fp hfp
  have nf:rp≠fp:=Zf hb hfp
  refine ⟨_,rfl,rp,_,rfl,.inl ⟨SqL.of ((Zi nf).trans hb),?_⟩⟩
  refine Md (Sq:=λH xs=>SqL K H rp xs) (xs:=bs.map V.bl) (λi acc H2=>∃ (g:Bool→Option V) (n:Nat),acc=(bs.take i).map (λb=>nI (bs.idxOf b))∧H2 fp=some (Cn P w fp g n)∧n≤i∧(∀ b,g b=if b∈bs.take i then some (nI (bs.idxOf b)) else none)∧Zr H H2)
   (by rw [zA]; exact Zw (by omega)) ⟨λ_=>none,0,rfl,Zb,zI _,λb=>by simp,Zd hfp _⟩ (λi acc H2 ⟨g,n,e,_⟩=>by rw [e,zA,zS]; exact xG _ _)
   (λi acc H2 ⟨g,n,e,_,_,_,e2⟩=>SqL.of (e2 _ _ hb)) (λi acc H2 x p hxi h hp=>?_) (λacc H2 h y hy=>?_)
  ·obtain ⟨g,n,rfl,h2,hn,hg,e2⟩:=h
   rw [zE] at hxi
   cases hbi:bs[i]? with
   | none=>rw [hbi] at hxi; cases hxi
   | some b=>
    rw [hbi] at hxi
    cases hxi
    have hil:i < bs.length:=(zF.mp hbi).1
    have s3:=Zd hp (.tup [V.int (i:Int),V.bl b])
    have h3:=s3 _ _ h2
    have Zc3:=e2.trans s3
    refine Zgn (K:=K) rfl (SqT.of Zb) ?_
    refine ⟨_,rfl,fp,g,n,rfl,h3,_,rfl,_,rfl,b,g,n,h3,rfl,by rw [sizeLine_eq]; omega,λv hv=>?_,λhv=>?_⟩
    ·rw [hg] at hv
     by_cases c:b∈bs.take i
     ·rw [if_pos c] at hv
      cases hv
      refine ⟨g,n,?_,h3,by omega,λx=>?_,Zc3⟩
      ·rw [map_take hbi]
      ·rw [hg]
       by_cases c2:x∈bs.take i
       ·rw [if_pos c2,if_pos ((Y0 hbi).mpr (.inl c2))]
       ·rw [if_neg c2,if_neg λz=>c2 ((Y0 hbi).mp z |>.elim id λz=>z▸c)]
     ·rw [if_neg c] at hv
      cases hv
    ·rw [hg] at hv
     have c:b∉bs.take i:=λc=>by rw [if_pos c] at hv; cases hv
     have hix:=Fm hbi c
     refine ⟨_,n+1,?_,Zb,by omega,λx=>?_,Yr Zc3 hfp _⟩
     ·rw [map_take hbi,hix]
      rfl
     ·by_cases c2:x=b
      ·subst c2
       rw [if_pos rfl,if_pos ((Y0 hbi).mpr (.inr rfl)),hix]
       rfl
      ·rw [if_neg c2,hg]
       by_cases c3:x∈bs.take i
       ·rw [if_pos c3,if_pos ((Y0 hbi).mpr (.inl c3))]
       ·rw [if_neg c3,if_neg λz=>((Y0 hbi).mp z).elim c3 c2]
  ·obtain ⟨g,n,rfl,h2,hn,hg,e2⟩:=h
   rw [zA,yC]
   exact k y _ (none_of e2 hy) (e2.trans (Zd hy _)) Zb
 ·refine ⟨_,(Ze (Zm (i:=1) U6.nd (by rfl) (Or.inr (by rfl)) Kf) 
   (Zj (Zz (Yw (sc:=Zg Xv) (Nm:=["rows","firsts"]) (own:=["number","row"]) (fr:=[1]) ⟨rfl,by decide +kernel,by decide +kernel,by decide +kernel,by decide +kernel⟩ (by rfl) (Lj (W9 (by decide) (W9 (by decide) Oz))) (Le (K:=K) (by rfl) Z.enumerate (pv 0)) (λd=>(Vq (K:=K) (n:=2) (by rfl) (Yg (Zl (i:=0) Wz (by rfl) (Or.inl (by rfl))) (Yg (Zl (i:=1) Wz (by rfl) (Or.inl (by rfl))) Vp)))) (λd=>Y5) (λd=>(Dd (W8 hr) (pv 2) (pv 1) (pv 0) ⟨rfl,rfl,rfl,rfl⟩)))))),?_⟩
  refine (let zz0:TS:=_; (?_:Zt _ zz0 _ _ _))
  intro fp hfp
  have nf:rp≠fp:=Zf hx hfp
  refine ⟨_,rfl,rp,_,rfl,.inl ⟨SqL.of ((Zi nf).trans hx),?_⟩⟩
  refine Md (Sq:=λH xs=>SqL K H rp xs) (xs:=xs) (λi acc H2=>∃ kvs:List (List Key × V),acc=(rs.take i).map (λr=>nI (rs.idxOf r))∧H2 fp=some (.dT kvs)∧kvs.length≤i∧(∀ r,X0 kvs (kkN r)=if r∈rs.take i then some (nI (rs.idxOf r)) else none)∧Zr H H2)
   (Zw (by have:=hR.1; omega)) ⟨[],rfl,Zb,zI _,λb=>by simp [Zdr],Zd hfp _⟩ (λi acc H2 ⟨kvs,e,_⟩=>by rw [e,zA,zS]; exact xG _ _)
   (λi acc H2 ⟨kvs,e,_,_,_,e2⟩=>SqL.of (e2 _ _ hx)) (λi acc H2 x p hxi h hp=>?_) (λacc H2 h y hy=>?_)
  ·obtain ⟨kvs,rfl,h2,hn,hg,e2⟩:=h
   have hil:i < rs.length:=by rw [← hR.1]; exact (zF.mp hxi).1
   have hbi:rs[i]? = some rs[i]:=zC hil
   generalize rs[i]=b at hbi
   obtain ⟨a,rfl,ha⟩:=hR.2 i x b hxi hbi
   have s3:=Zd hp (.tup [V.int (i:Int),V.ref a])
   have h3:=s3 _ _ h2
   have Zc3:=e2.trans s3
   refine Zgn (K:=K) rfl (SqT.of Zb) ?_
   refine ⟨_,rfl,fp,rfl,.inr ⟨kvs,.inl h3⟩,_,rfl,_,rfl,kvs,kkN b,a,h3,rfl,by rw [Zia]; exact Zc3 _ _ ha,by rw [sizeLine_eq]; omega,λv hv=>?_,λhv=>?_⟩
   ·rw [hg] at hv
    by_cases c:b∈rs.take i
    ·rw [if_pos c] at hv
     cases hv
     refine ⟨kvs,?_,h3,by omega,λx=>?_,Zc3⟩
     ·rw [map_take hbi]
     ·rw [hg]
      by_cases c2:x∈rs.take i
      ·rw [if_pos c2,if_pos ((Y0 hbi).mpr (.inl c2))]
      ·rw [if_neg c2,if_neg λz=>c2 ((Y0 hbi).mp z |>.elim id λz=>z▸c)]
    ·rw [if_neg c] at hv
     cases hv
   ·rw [hg] at hv
    have c:b∉rs.take i:=λc=>by rw [if_pos c] at hv; cases hv
    have hix:=Fm hbi c
    refine ⟨_,?_,Zb,yG (Vy _ _ _) (by omega),λx=>?_,Yr Zc3 hfp _⟩
    ·rw [map_take hbi,hix]
     rfl
    ·rw [Zdq]
     by_cases c2:x=b
     ·subst c2
      rw [if_pos rfl,if_pos ((Y0 hbi).mpr (.inr rfl)),hix]
      rfl
     ·rw [if_neg λz=>c2 (Zbi z),hg]
      by_cases c3:x∈rs.take i
      ·rw [if_pos c3,if_pos ((Y0 hbi).mpr (.inl c3))]
      ·rw [if_neg c3,if_neg λz=>((Y0 hbi).mp z).elim c3 c2]
  ·obtain ⟨kvs,rfl,h2,hn,hg,e2⟩:=h
   rw [hR.1,yC]
   exact k y _ (none_of e2 hy) (e2.trans (Zd hy _)) Zb
def lk0 (es:List Nat) (n:Nat):List Nat:=let bs:=(List.range n).map λr=>decide (r∈es); bs.map λb=>bs.idxOf b
def lkR (st:List (List Nat)) (L:List Nat):List (List Nat):=(List.range st.length).map λi=>L.getD i 0 :: (st.getD i []).map λx=>L.getD x 0
def lkS (st:List (List Nat)) (L:List Nat):List Nat:=(lkR st L).map λr=>(lkR st L).idxOf r
def lkN (st:List (List Nat)) (es:List Nat):Nat→List Nat
 | 0=>lk0 es st.length
 | k+1=>lkS st (lkN st es k)
def dn (L:List Nat):Nat:=(V2 (L.map λn:Nat=>(n:Int))).length
theorem Ta (i:Nat) (es:List Nat):inV (V.int ((i:Nat):Int)) (es.map nI)=decide (i∈es):=by
 unfold inV
 rw [List.any_map,wG,wR,decide_eq_true_eq]
 constructor
 ·rintro ⟨x,hx,e⟩
  have:(((x:Nat):Int)==((i:Nat):Int))=true:=e
  have:=eq_of_beq this
  rw [show i=x by omega]
  exact hx
 ·intro h
  refine ⟨i,h,?_⟩
  show (((i:Nat):Int)==((i:Nat):Int))=true
  simp
theorem Vf.keep {H H':Hp} {xs:List V} {rs:List (List Nat)} (h:Vf H xs rs) (k:Tk H H'):Vf H' xs rs:=⟨h.1,λi x r a b=>let ⟨c,e,q⟩:=h.2 i x r a b; ⟨c,e,k _ _ q⟩⟩
theorem Vf.snoc {H:Hp} {xs:List V} {rs:List (List Nat)} (h:Vf H xs rs) {a:Addr} {r:List Nat} (ha:H a=some (.tup (r.map nI))):Vf H (xs ++ [.ref a]) (rs ++ [r]):=by
 refine ⟨by rw [zK,zK,h.1]; rfl,λi x r' q1 q2=>?_⟩
 by_cases c:i < xs.length
 ·rw [zU c] at q1
  rw [zU (by rw [← h.1]; exact c)] at q2
  exact h.2 i x r' q1 q2
 ·rw [zX (by omega)] at q1
  rw [zX (by rw [← h.1]; omega),← h.1] at q2
  cases hi:i - xs.length with
  | zero=>
   rw [hi] at q1 q2
   cases q1
   cases q2
   exact ⟨a,rfl,ha⟩
  | succ n=>rw [hi] at q1; simp at q1
inductive Zav (vs:List V) (H:Hp) (Q:VK):Prop
 | mk (m:Addr) (l:Str) (b:Nat) (es:List Nat) (st:List (List Nat)) (h1:vs=[.ref m]) (h2:Z9 H m l b es st) (h3:es.length≤500) (h4:∀ lp k H',Zr H H'→H' lp=some (.lst ((lkN st es (k+1)).map nI))→dn (lkN st es (k+1))≤dn (lkN st es k)→Q (.ref lp) H'):Zav vs H Q
def Bg:Sp:=λvs H Q u3_=>Zav vs H Q
def lrW (m sA:Addr) (st:List (List Nat)) (es:List Nat) (H:Hp) (mm:Nat) (σ:L2.St) (H5:Hp):Prop:=∃ (k cnt:Nat) (lp:Addr) (v4 v5 v6:Option V),mm=st.length+1 - cnt∧σ=[some (.ref m),some (.ref sA),some (.ref lp),some (nI cnt),v4,v5,v6]∧H5 lp=some (.lst ((lkN st es k).map nI))∧Zr H H5∧((k=0∧cnt=0)∨∃ j,k=j+1∧cnt=dn (lkN st es j))
def lrE (m sA lp rp:Addr) (st:List (List Nat)) (es:List Nat) (k':Nat) (H:Hp) (i:Nat) (σ:L2.St) (H7:Hp):Prop:=∃ (ys:List V) (v5 v6:Option V),σ=[some (.ref m),some (.ref sA),some (.ref lp),some (nI (dn (lkN st es k'))),some (.ref rp),v5,v6]∧H7 rp=some (.lst ys)∧Vf H7 ys ((lkR st (lkN st es k')).take i)∧Zr H H7∧H7 lp=some (.lst ((lkN st es k').map nI))
theorem Jq {f:Addr} {fd:FuncData} (F:Fun K "like_rooms" "like_rooms" Xu f fd) (Z:Blt mg) (V9:Cal P w K mg base "first_like" 1 ["rows"] Zk4):Yt P w K mg base CX0 2 f fd ["machine"] Bg:=by
 refine F.ok Y4 (λvs H Q E h=>?_) (λcdv A outer s H vs Q E hr h=>?_)
 ·obtain ⟨m,l,b,es,st,rfl,_⟩:=h
  rfl
 obtain ⟨m,l,b,es,st,rfl,M,hes,k⟩:=h
 refine ⟨_,(Ze (Zm (i:=1) Y4.nd (by rfl) (Or.inl (by rfl)) (Zu (Zv (K:=K)) (pv 0) Zh (λ_ _=>rfl))) 
   (Ze (Zm (i:=2) Y4.nd (by rfl) (Or.inr (by rfl)) (Ys V9 (hr.mono (by decide)) (Za (Yw (sc:=Zg Xu) (Nm:=["machine","steps","likes","count","rows","room","row"]) (own:=["room"]) (fr:=[0]) ⟨rfl,by decide +kernel,by decide +kernel,by decide +kernel,by decide +kernel⟩ (by rfl) (Yi (by decide)) (Xe (by rfl) Z.range (Za (Zn (Z4 (K:=K)) (by rfl) Z.len Yq (Za (pv 1) Zc)) Zc)) (λd=>(Zl (i:=0) Mw (by rfl) (Or.inl (by rfl)))) (λd=>Y5) (λd=>(We (U8 (K:=K)) (pv 0) (Zu (Zv (K:=K)) (pv 1) Zh (λ_ _=>rfl)) (by with_unfolding_all rfl)))) Zc))) 
   (Ze (Zm (i:=3) Y4.nd (by rfl) (Or.inl (by rfl)) Zh) 
   (Ze (Ro yB (Yc Zbb (Zn U4 (by rfl) Z.len Yq (Za (Zs (Q7 (K:=K) (by rfl)) (by rfl) Z.set Fx (Za (pv 2) Zc)) Zc)) (pv 3) (Yo _)) 
    (Ze (Zm (i:=3) Y4.nd (by rfl) (Or.inl (by rfl)) (Zn U4 (by rfl) Z.len Yq (Za (Zs (Q7 (K:=K) (by rfl)) (by rfl) Z.set Fx (Za (pv 2) Zc)) Zc))) 
    (Ze (Zm (i:=4) Y4.nd (by rfl) (Or.inl (by rfl)) (X2 Zc)) 
    (Ze (Xq yB (by rfl) (Le (K:=K) (by rfl) Z.enumerate (pv 1)) (Vq (K:=K) (n:=2) (by rfl) (Yg (Zl (i:=5) Y4.nd (by rfl) (Or.inl (by rfl))) (Yg (Zl (i:=6) Y4.nd (by rfl) (Or.inl (by rfl))) Vp))) 
     (Zj (Xw (Xh (K:=K) zW yI yJ Xf (pv 4) (Za (Zs (Z3 (K:=K)) (by rfl) Z.tuple Z7 (Za (Yd Ze7 (X2 (Za (Zu (Zy (K:=K)) (pv 2) (pv 5) (λ_ _=>rfl)) Zc)) (Yw (sc:=Zg Xu) (Nm:=["machine","steps","likes","count","rows","room","row"]) (own:=["ahead"]) (fr:=[2]) ⟨rfl,by decide +kernel,by decide +kernel,by decide +kernel,by decide +kernel⟩ (by rfl) (Yi (by decide)) (Vo (K:=K) (pv 6)) (λd=>(Zl (i:=0) Mv (by rfl) (Or.inl (by rfl)))) (λd=>Y5) (λd=>(Zu (Zy (K:=K)) (pv 1) (pv 0) (λ_ _=>rfl))))) Zc)) Zc))))) 
    (Zj (Zm (i:=2) Y4.nd (by rfl) (Or.inr (by rfl)) (Ys V9 (hr.mono (by decide)) (Za (pv 4) Zc)))))))) 
   (Zj (Zz (pv 2))))))),?_⟩
 refine (let zz0:TS:=_; let zz1:TS:=_; let zz2:TS:=Zt _ zz1; let zz3:TS:=Zt _ zz2; let zz4:TS:=Zt _ zz3; let zz5:TS:=Zt (Nh _ zz4) zz0; let zz6:TS:=Zt _ zz5; let zz7:TS:=Zt _ zz6; (?_:Zt _ zz7 _ _ _))
 obtain ⟨eA,sA,ras,h1,h2,h3,h4,h5⟩:=M.lay
 have hst:=M.few.2.2
 have Cb:=M.beg
 have hrl:(ras.map V.ref).length=st.length:=by rw [zA,h4]
 refine ⟨_,rfl,m,_,_,_,rfl,rfl,SqT.of h1,Zk (j:=3) rfl,?_⟩
 refine ⟨_,rfl,sA,_,rfl,.inr (SqT.of h3),_,rfl,by omega,by omega,?_⟩
 refine Xz (lo:=0) (k:=((((ras.map V.ref).length:Nat):Int)).toNat) (λi acc H2=>acc=(List.range i).map (λr=>V.bl (decide (r∈es)))∧Zr H H2) (yO (show _≤216 by omega) (by decide)) ⟨rfl,Zr.refl _⟩
  (λi acc H2 p=>by rw [p.1,zA,zV]; exact zI _) (λi acc H2 hi p=>Ss ?_) (λacc H2 p y hy=>?_)
 ·obtain ⟨rfl,e2⟩:=p
  refine ⟨_,rfl,_,rfl,m,_,_,_,rfl,rfl,SqT.of (e2 _ _ h1),Zk (j:=2) rfl,eA,_,rfl,.inr (SqT.of (e2 _ _ h2)),rfl,Vd es,?_,e2⟩
  rw [wW,zZ]
  have:inV (V.int (0+(i:Int))) (es.map nI)=decide (i∈es):=by
   rw [show (0:Int)+(i:Int)=((i:Nat):Int) by omega]
   exact Ta i es
  show _ ++ [V.bl (inV (V.int (0+(i:Int))) (es.map nI))]=_
  rw [this]
  rfl
 obtain ⟨rfl,e2⟩:=p
 have hk0:((((ras.map V.ref).length:Nat):Int)).toNat=st.length:=by omega
 rw [hk0]
 have hbs:(List.range st.length).map (λr=>V.bl (decide (r∈es)))=((List.range st.length).map λr=>decide (r∈es)).map V.bl:=by rw [yD]; rfl
 have e3:=e2.trans (Zd hy (.lst ((List.range st.length).map λr=>V.bl (decide (r∈es)))))
 refine ⟨y,rfl,.inl ⟨(List.range st.length).map λr=>decide (r∈es),by rw [Zb,hbs],by rw [zA,zV]; omega,λlp H4 hlp e4 h4l=>?_⟩⟩
 have e04:=e3.trans e4
 have Zpa:H4 lp=some (.lst ((lkN st es 0).map nI)):=by
  rw [h4l]
  refine congrArg (λz=>some (HO.lst z)) ?_
  show _=List.map nI (List.map (λb=>List.idxOf b (List.map (λr=>decide (r∈es)) (List.range st.length))) (List.map (λr=>decide (r∈es)) (List.range st.length)))
  rw [yD (g:=nI)]
  rfl
 have lkl:∀ k,(lkN st es k).length=st.length:=λk=>by
  cases k with
  | zero=>unfold lkN lk0; rw [zA,zA,zV]
  | succ k=>unfold lkN lkS lkR; rw [zA,zA,zV]
 have dnl:∀ k,dn (lkN st es k)≤st.length:=λk=>by
  have:=firstMet_length_le (λi=>((lkN st es k).map λn:Nat=>(n:Int)).getD i 0) ((lkN st es k).map λn:Nat=>(n:Int)).length
  rw [zA,lkl] at this
  unfold dn V2
  rw [zA,lkl]
  exact this
 have dn1:∀ k,0 < dn (lkN st es k):=λk=>by
  have h:=firstMet_any (λi=>((lkN st es k).map λn:Nat=>(n:Int)).getD i 0) ((lkN st es k).map λn:Nat=>(n:Int)).length (((lkN st es k).map λn:Nat=>(n:Int)).getD 0 0)
  have hin:((List.range ((lkN st es k).map λn:Nat=>(n:Int)).length).map λi=>((lkN st es k).map λn:Nat=>(n:Int)).getD i 0).any (· == ((lkN st es k).map λn:Nat=>(n:Int)).getD 0 0)=true:=by
   rw [wR]
   exact ⟨_,zY.mpr ⟨0,yN.mpr (by rw [zA,lkl]; omega),rfl⟩,by simp⟩
  rw [hin] at h
  unfold dn V2
  cases hc:firstMet (λi=>((lkN st es k).map λn:Nat=>(n:Int)).getD i 0) ((lkN st es k).map λn:Nat=>(n:Int)).length with
  | nil=>rw [hc] at h; cases h
  | cons=>exact Nat.succ_pos _
 refine ⟨lrW m sA st es H,
  ⟨_,0,0,lp,none,none,none,rfl,rfl,Zpa,e04,.inl ⟨rfl,rfl⟩⟩,?_⟩
 clear h4l Zpa hlp e4 e04 lp
 rintro mm σ H5 ⟨k',cnt,lp,v4,v5,v6,rfl,rfl,h5l,e5,Zmq⟩
 have hns:(lkN st es k').map nI=((lkN st es k').map λn:Nat=>(n:Int)).map V.int:=by rw [yD]; rfl
 have D7:((lkN st es k').map λn:Nat=>(n:Int)).length+1 < scanBound:=by
  rw [zA,lkl]
  exact yO (show st.length+1≤217 by omega) (by decide)
 refine ⟨_,rfl,lp,_,rfl,SqL.of (by rw [← hns]; exact h5l),D7,λq hq=>⟨q,_,_,rfl,Zb,_,rfl,_,_,rfl,rfl,_,rfl,?_⟩⟩
 have s6:=Zd hq (.set (λk=>(V2 ((lkN st es k').map λn:Nat=>(n:Int))).any (· == k)) (V2 ((lkN st es k').map λn:Nat=>(n:Int))).length)
 have h6l:=s6 _ _ h5l
 have e6:=e5.trans s6
 refine Wu (λc1=>?_) (λc1=>?_)
 ·have c2:((cnt:Nat):Int) < ((dn (lkN st es k'):Nat):Int):=of_decide_eq_true c1
  refine ⟨λσ' H'=>∃ m',m' < st.length+1 - cnt∧_,λ_ _ z=>z,?_⟩
  refine ⟨_,rfl,lp,_,rfl,SqL.of (by rw [← hns]; exact h6l),D7,λq2 hq2=>⟨q2,_,_,rfl,Zb,?_⟩⟩
  refine ⟨(by show 0≤sizeLine; decide),λrp hrp=>?_⟩
  have s7:=Zd hq2 (.set (λk=>(V2 ((lkN st es k').map λn:Nat=>(n:Int))).any (· == k)) (V2 ((lkN st es k').map λn:Nat=>(n:Int))).length)
  have s8:=Zd hrp (.lst [])
  have h8l:=s8 _ _ (s7 _ _ h6l)
  have e8:=(e6.trans s7).trans s8
  have Ad:=none_of (e6.trans s7) hrp
  have nlr:lp≠rp:=Zf (s7 _ _ h6l) hrp
  refine ⟨_,rfl,sA,ras.map V.ref,rfl,.inr ⟨SqT.of (e8 _ _ h3),?_⟩⟩
  refine Ja (Sq:=λH xs=>SqT K H sA xs) (xs:=ras.map V.ref) (lrE m sA lp rp st es k' H)
   ⟨[],v5,v6,rfl,Zb,⟨rfl,λi x r a=>by simp at a⟩,e8,h8l⟩ (λi σ H7 _ h=>?_) ?_ ?_
  ·obtain ⟨ys,v5,v6,rfl,_,_,e7,_⟩:=h
   exact SqT.of (e7 _ _ h3)
  ·rintro i x σ H7 p hx ⟨ys,v5,v6,rfl,h7r,R7,e7,h7l⟩ hp
   rw [zE] at hx
   cases hai:ras[i]? with
   | none=>rw [hai] at hx; cases hx
   | some a=>
    rw [hai] at hx
    cases hx
    have hil:i < st.length:=by rw [← h4]; exact (zF.mp hai).1
    obtain ⟨hrm,hri⟩:=getD_mem (l:=st) (i:=i) (d:=[]) hil
    have hrr:st.getD i []=st.getD i []:=rfl
    generalize hr0:st.getD i []=r at hrm hri hrr
    have ha:=h5 i a r hai hri
    obtain ⟨Zbu,hrlt⟩:=M.rows r hrm
    have hll:=M.few.2.1
    have atL:∀ j,j < st.length→atI ((lkN st es k').map nI) ((j:Nat):Int)=some (nI ((lkN st es k').getD j 0)):=λj hj=>Zk (by rw [zE,(getD_mem (l:=lkN st es k') (d:=0) (by rw [lkl]; exact hj)).2]; rfl)
    have s9:=Zd hp (.tup [V.int (i:Int),V.ref a])
    refine ⟨p,_,rfl,SqT.of Zb,rfl,_,_,rfl,_,_,rfl,rfl,?_⟩
    have h9r:=s9 _ _ h7r
    have h9l:=s9 _ _ h7l
    have e9:=e7.trans s9
    have R9:=R7.keep (Tk.same s9)
    generalize upd H7 p (.tup [V.int (i:Int),V.ref a])=H9 at s9 h9r h9l e9 R9 ⊢
    refine ⟨_,rfl,.inl ⟨rfl,_,SqL.of h9r⟩,_,rfl,_,rfl,lp,_,_,_,rfl,rfl,SqL.of h9l,atL i hil,(by show 1≤sizeLine; decide),λl1 hl1=>?_⟩
    have t1:=Zd hl1 (.lst [nI ((lkN st es k').getD i 0)])
    have J4:=t1 _ _ h9l
    have Zpk:upd H9 l1 (.lst [nI ((lkN st es k').getD i 0)]) l1=some (.lst [nI ((lkN st es k').getD i 0)]):=Zb
    generalize upd H9 l1 (.lst [nI ((lkN st es k').getD i 0)])=H10 at t1 J4 Zpk ⊢
    have e10:=e9.trans t1
    refine ⟨_,rfl,a,rfl,⟨_,SqT.of (e10 _ _ ha)⟩,?_⟩
    refine O7 (K:=K) (a:=a) (xs:=r.map nI) (λj acc H11=>acc=(r.take j).map (λx=>nI ((lkN st es k').getD x 0))∧Zr H10 H11) (by rw [zA]; exact Zw (by omega)) ⟨rfl,Zr.refl _⟩ (λj acc H11 q=>by rw [q.1,zA,zS]; exact xG _ _)
     (λj acc H11 q=>SqT.of (q.2 _ _ (e10 _ _ ha))) (λj acc H11 x hxj q=>?_) (λacc H11 q y hy=>?_)
    ·obtain ⟨rfl,e11⟩:=q
     rw [zE] at hxj
     cases hc:r[j]? with
     | none=>rw [hc] at hxj; cases hxj
     | some c=>
      rw [hc] at hxj
      cases hxj
      refine Ss ⟨_,rfl,_,rfl,lp,_,_,_,rfl,rfl,SqL.of (e11 _ _ J4),atL c (hrlt c (zJ hc)),?_,e11⟩
      rw [map_take hc]
    obtain ⟨rfl,e11⟩:=q
    rw [zA,yC]
    have t2:=Zd hy (.lst (r.map λx=>nI ((lkN st es k').getD x 0)))
    refine ⟨l1,y,_,_,rfl,rfl,t2 _ _ (e11 _ _ Zpk),Zb,by rw [zA]; exact Vr (by show 1+_≤1000; omega),λc hc=>?_⟩
    have t3:=Zd hc (.lst ([nI ((lkN st es k').getD i 0)] ++ r.map λx=>nI ((lkN st es k').getD x 0)))
    refine ⟨c,_,rfl,.inl ⟨SqL.of Zb,λz hz=>?_⟩⟩
    have t4:=Zd hz (.tup ([nI ((lkN st es k').getD i 0)] ++ r.map λx=>nI ((lkN st es k').getD x 0)))
    have t04:=(((t1.trans e11).trans t2).trans t3).trans t4
    have hyl:ys.length≤216:=by
     rw [R9.1,zS]
     unfold lkR
     rw [zA,zV]
     omega
    have X3:(lkR st (lkN st es k'))[i]? = some ((lkN st es k').getD i 0 :: r.map λx=>(lkN st es k').getD x 0):=by
     unfold lkR
     rw [zE,wZ hil,← hr0]
     rfl
    refine ⟨rp,_,_,rfl,rfl,t04 _ _ h9r,Zw (by omega),ys ++ [.ref z],_,_,rfl,Zb,?_,Yr (e9.trans t04) Ad _,(Zi nlr).trans (t04 _ _ h9l)⟩
    rw [yK,X3]
    refine ((R9.keep (Tk.same t04)).keep (Tk.lst (t04 _ _ h9r) _)).snoc ?_
    rw [Zi (Xm Zb (t04 _ _ h9r) λz=>nomatch z)]
    refine Zb.trans ?_
    rw [zO,yD]
    rfl
  ·rintro σ H7 ⟨ys,v5,v6,rfl,h7r,R7,e7,h7l⟩
   have hRl:(lkR st (lkN st es k')).length=st.length:=by unfold lkR; rw [zA,zV]
   rw [hrl,← hRl,yC] at R7
   refine ⟨_,rfl,rp,rfl,.inr ⟨ys,_,h7r,R7,by omega,λlp2 H9 hlp2 e9 h9=>?_⟩⟩
   have hdl:=dnl k'
   refine ⟨st.length+1 - dn (lkN st es k'),by omega,k'+1,dn (lkN st es k'),lp2,_,_,_,rfl,rfl,?_,e7.trans e9,.inr ⟨k',rfl,rfl⟩⟩
   rw [h9]
   refine congrArg (λz=>some (HO.lst z)) ?_
   show _=List.map nI (List.map (λr=>(lkR st (lkN st es k')).idxOf r) (lkR st (lkN st es k')))
   rw [yD]
   rfl
 ·have c2:¬ ((cnt:Nat):Int) < ((dn (lkN st es k'):Nat):Int):=λz=>c1 (decide_eq_true z)
  rcases Zmq with ⟨rfl,rfl⟩ | ⟨j,rfl,rfl⟩
  ·have:=dn1 0
   omega
  ·exact ⟨_,rfl,k lp j _ e6 h6l (by omega)⟩
def Canon {α:Type} [BEq α] (rs:List α) (L:List Nat):Prop:=L=rs.map λr=>rs.idxOf r
theorem R6 {α:Type} [BEq α] [LawfulBEq α] {rs:List α} {L:List Nat} (h:Canon rs L) {i:Nat} {r:α} (hi:rs[i]? = some r):L.getD i 0=rs.idxOf r:=by
 rw [h,zD,zE,hi]
 rfl
theorem Rz {α:Type} [BEq α] [LawfulBEq α] {rs:List α} {r:α} (h:r∈rs):rs[rs.idxOf r]? = some r:=by
 rw [zC (xA h)]
 exact congrArg some (List.getElem_idxOf _)
theorem Cq {α:Type} [BEq α] [LawfulBEq α] {rs:List α} {L:List Nat} (h:Canon rs L) {i j:Nat} {r r':α} (hi:rs[i]? = some r) (hj:rs[j]? = some r'):L.getD i 0=L.getD j 0↔r=r':=by
 rw [R6 h hi,R6 h hj]
 refine ⟨λe=>?_,λe=>by rw [e]⟩
 have a:=Rz (zJ hi)
 have b:=Rz (zJ hj)
 rw [e,b] at a
 exact (Option.some.inj a).symm
structure Jk (L:List Nat):Prop where
 le:∀ i,i < L.length→L.getD i 0≤i
 own:∀ i,i < L.length→L.getD (L.getD i 0) 0=L.getD i 0
 low:∀ i j,i < L.length→j < L.length→L.getD i 0=L.getD j 0→L.getD i 0≤j
theorem Canon.Zf4 {α:Type} [BEq α] [LawfulBEq α] {rs:List α} {L:List Nat} (h:Canon rs L):Jk L:=by
 have hl:L.length=rs.length:=by rw [h,zA]
 have at_:∀ i,i < L.length→∃ r,rs[i]? = some r:=λi hi=>⟨rs[i]'(by omega),zC (by omega)⟩
 have le:∀ i,i < L.length→L.getD i 0≤i:=λi hi=>by
  obtain ⟨r,hr⟩:=at_ i hi
  rw [R6 h hr]
  by_cases c:r∈rs.take i
  ·have e:rs.idxOf r=(rs.take i).idxOf r:=by
    conv=>lhs; rw [← vL i rs]
    rw [tS,if_pos c]
   have:=xA c
   rw [zS] at this
   omega
  ·exact sM (Fm hr c)
 refine ⟨le,λi hi=>?_,λi j hi hj e=>?_⟩
 ·obtain ⟨r,hr⟩:=at_ i hi
  have:=le i hi
  rw [R6 h hr]
  exact R6 h (Rz (zJ hr))
 ·rw [e]
  exact le j hj
def cnt (L:List Nat):Nat→Nat
 | 0=>0
 | i+1=>cnt L i+if L.getD i 0=i then 1 else 0
theorem Zgt {L L':List Nat}:∀ n,(∀ i,i < n→L.getD i 0=i→L'.getD i 0=i)→cnt L n≤cnt L' n
 | 0,_=>zI _
 | n+1,h=>by
  have ih:=Zgt n λi hi=>h i (by omega)
  unfold cnt
  by_cases c:L.getD n 0=n
  ·rw [if_pos c,if_pos (h n (vA _) c)]
   omega
  ·rw [if_neg c]
   omega
theorem Au {L L':List Nat}:∀ n,(∀ i,i < n→L.getD i 0=i→L'.getD i 0=i)→cnt L' n≤cnt L n→∀ i,i < n→L'.getD i 0=i→L.getD i 0=i
 | 0,_,_,i,hi,_=>absurd hi (Nat.not_lt_zero _)
 | n+1,h,e,i,hi,q=>by
  have le:=Zgt n λi hi=>h i (by omega)
  unfold cnt at e
  by_cases c:L.getD n 0=n
  ·rw [if_pos c,if_pos (h n (vA _) c)] at e
   rcases xB i n with z | z
   ·exact Au n (λi hi=>h i (by omega)) (by omega) i z q
   ·rw [show i=n by omega]
    exact c
  ·rw [if_neg c] at e
   rcases xB i n with z | z
   ·exact Au n (λi hi=>h i (by omega)) (by omega) i z q
   ·have hin:i=n:=by omega
    subst hin
    rw [if_pos q] at e
    omega
theorem Zgj {L:List Nat} (F:Jk L):dn L=cnt L L.length:=by
 have key:∀ n,n≤L.length→(firstMet (λi=>(L.map λn:Nat=>(n:Int)).getD i 0) n).length=cnt L n:=λn=>by
  induction n with
  | zero=>intro _; rfl
  | succ n ih=>
   intro hn
   have hv:∀ i,i < L.length→(L.map λn:Nat=>(n:Int)).getD i 0=((L.getD i 0:Nat):Int):=λi hi=>by
    rw [zD,zE,zC hi,zD,zC hi]
    rfl
   rw [firstMet_succ,step_length,ih (by omega),firstMet_any,hv n (by omega)]
   show _=cnt L n+if L.getD n 0=n then 1 else 0
   by_cases c:L.getD n 0=n
   ·rw [if_pos c,if_neg]
    intro z
    obtain ⟨x,hx,e⟩:=wR.mp z
    obtain ⟨j,hj,rfl⟩:=zY.mp hx
    have hj':=yN.mp hj
    have e2:=eq_of_beq e
    rw [hv j (by omega)] at e2
    have:=F.le j (by omega)
    omega
   ·rw [if_neg c,if_pos,uS]
    have l1:=F.le n (by omega)
    refine wR.mpr ⟨_,zY.mpr ⟨L.getD n 0,yN.mpr (by omega),rfl⟩,?_⟩
    rw [hv (L.getD n 0) (by omega),F.own n (by omega)]
    simp
 unfold dn V2
 rw [zA]
 exact key _ (zI _)
theorem Bk {L L':List Nat} (F:Jk L) (F':Jk L') (hl:L'.length=L.length) (Zmz:∀ i j,i < L.length→j < L.length→L'.getD i 0=L'.getD j 0→L.getD i 0=L.getD j 0) (few:dn L'≤dn L) :
  ∀ i j,i < L.length→j < L.length→L.getD i 0=L.getD j 0→L'.getD i 0=L'.getD j 0:=by
 have up:∀ i,i < L.length→L.getD i 0=i→L'.getD i 0=i:=λi hi e=>by
  have h1:=F'.le i (by omega)
  have h2:=Zmz (L'.getD i 0) i (by omega) hi (F'.own i (by omega))
  have h3:=F.low i (L'.getD i 0) hi (by omega) h2.symm
  omega
 rw [Zgj F,Zgj F',hl] at few
 have dnw:=Au L.length up few
 intro i j hi hj e
 have a1:=F'.le i (by omega)
 have b1:=F'.le j (by omega)
 have a2:=dnw (L'.getD i 0) (by omega) (F'.own i (by omega))
 have b2:=dnw (L'.getD j 0) (by omega) (F'.own j (by omega))
 have a3:=Zmz (L'.getD i 0) i (by omega) hi (F'.own i (by omega))
 have b3:=Zmz (L'.getD j 0) j (by omega) hj (F'.own j (by omega))
 omega
def stN (st:List (List Nat)) (i c:Nat):Nat:=(st.getD i []).getD c 0
def Xs (st:List (List Nat)) (i:Nat) (cs:List Nat):Nat:=cs.foldl (stN st) i
def Fut (st:List (List Nat)) (es:List Nat) (w i j:Nat):Prop:=∀ cs:List Nat,(∀ c∈cs,c < w)→(Xs st i cs∈es↔Xs st j cs∈es)
def Wf (st:List (List Nat)) (w:Nat):Prop:=∀ r∈st,r.length=w∧∀ x∈r,x < st.length
theorem getD_in {α:Type} {l:List α} {i:Nat} {d:α} (h:i < l.length):l.getD i d∈l∧l[i]? = some (l.getD i d):=by
 rw [zD,zC h]
 exact ⟨wB h,rfl⟩
theorem Wv {st:List (List Nat)} {w i c:Nat} (R:Wf st w) (hi:i < st.length) (hc:c < w):stN st i c < st.length:=by
 obtain ⟨h1,_⟩:=getD_in (l:=st) (d:=[]) hi
 obtain ⟨h2,h3⟩:=R _ h1
 exact h3 _ (getD_in (l:=st.getD i []) (d:=0) (by omega)).1
theorem Sl (st:List (List Nat)) (es:List Nat):∀ k,(lkN st es k).length=st.length
 | 0=>by unfold lkN lk0; rw [zA,zA,zV]
 | k+1=>by unfold lkN lkS lkR; rw [zA,zA,zV]
theorem Pm {st:List (List Nat)} {L:List Nat} {i:Nat} (hi:i < st.length):(lkR st L)[i]? = some (L.getD i 0 :: (st.getD i []).map λx=>L.getD x 0):=by
 unfold lkR
 rw [zE,wZ hi]
 rfl
theorem B8 {es:List Nat} {n i j:Nat} (hi:i < n) (hj:j < n):(lk0 es n).getD i 0=(lk0 es n).getD j 0↔(i∈es↔j∈es):=by
 have c:Canon ((List.range n).map λr=>decide (r∈es)) (lk0 es n):=rfl
 have at_:∀ i,i < n→((List.range n).map λr=>decide (r∈es))[i]? = some (decide (i∈es)):=λi hi=>by rw [zE,wZ hi]; rfl
 rw [Cq c (at_ i hi) (at_ j hj)]
 constructor
 ·intro e
  rw [wG,decide_eq_true_eq,decide_eq_true_eq] at e
  exact e
 ·intro e
  rw [wG,decide_eq_true_eq,decide_eq_true_eq]
  exact e
theorem K0 {st:List (List Nat)} {L:List Nat} {w i j:Nat} (R:Wf st w) (hi:i < st.length) (hj:j < st.length):(lkS st L).getD i 0=(lkS st L).getD j 0↔(L.getD i 0=L.getD j 0∧∀ c,c < w→L.getD (stN st i c) 0=L.getD (stN st j c) 0):=by
 have cn:Canon (lkR st L) (lkS st L):=rfl
 rw [Cq cn (Pm hi) (Pm hj),List.cons.injEq]
 have li:=(R _ (getD_in (l:=st) (d:=[]) hi).1).1
 have lj:=(R _ (getD_in (l:=st) (d:=[]) hj).1).1
 refine and_congr_right λ_=>⟨λe c hc=>?_,λh=>?_⟩
 ·have a:=congrArg (λz:List Nat=>z[c]?) e
  simp only [zE] at a
  rw [(getD_in (l:=st.getD i []) (d:=0) (show c < _ by omega)).2,(getD_in (l:=st.getD j []) (d:=0) (show c < _ by omega)).2] at a
  exact Option.some.inj a
 ·refine tU λc=>?_
  rw [zE,zE]
  rcases xB c w with z | z
  ·rw [(getD_in (l:=st.getD i []) (d:=0) (show c < _ by omega)).2,(getD_in (l:=st.getD j []) (d:=0) (show c < _ by omega)).2]
   exact congrArg some (h c z)
  ·rw [xE (by omega),xE (by omega)]
theorem Vm (st:List (List Nat)) (es:List Nat):∀ k,Jk (lkN st es k)
 | 0=>Canon.Zf4 (rs:=(List.range st.length).map λr=>decide (r∈es)) rfl
 | k+1=>Canon.Zf4 (rs:=lkR st (lkN st es k)) rfl
theorem Dy {st:List (List Nat)} {es:List Nat} {w:Nat} (R:Wf st w):∀ k i j,i < st.length→j < st.length→(lkN st es k).getD i 0=(lkN st es k).getD j 0→(i∈es↔j∈es)
 | 0,i,j,hi,hj,e=>(B8 hi hj).mp e
 | k+1,i,j,hi,hj,e=>Dy R k i j hi hj ((K0 R hi hj).mp e).1
theorem Fb {st:List (List Nat)} {es:List Nat} {w:Nat} (R:Wf st w):∀ k i j,i < st.length→j < st.length→Fut st es w i j→(lkN st es k).getD i 0=(lkN st es k).getD j 0
 | 0,i,j,hi,hj,f=>(B8 hi hj).mpr (f [] λc hc=>by cases hc)
 | k+1,i,j,hi,hj,f=>(K0 R hi hj).mpr ⟨Fb R k i j hi hj f,λc hc=>Fb R k _ _ (Wv R hi hc) (Wv R hj hc) λcs hcs=>f (c :: cs) λd hd=>by
   rcases yE.mp hd with z | z
   ·rw [z]; exact hc
   ·exact hcs d z⟩
theorem G9 {st:List (List Nat)} {es:List Nat} {w k:Nat} (R:Wf st w) (few:dn (lkN st es (k+1))≤dn (lkN st es k)) {i j:Nat} (hi:i < st.length) (hj:j < st.length) :
  (lkN st es (k+1)).getD i 0=(lkN st es (k+1)).getD j 0↔Fut st es w i j:=by
 refine ⟨λe=>?_,Fb R (k+1) i j hi hj⟩
 have l0:=Sl st es k
 have l1:=Sl st es (k+1)
 have sk:=Bk (Vm st es k) (Vm st es (k+1)) (by rw [l1,l0]) (λi j hi hj e=>((K0 R (by omega) (by omega)).mp e).1) few
 have walk:∀ (cs:List Nat) (i j:Nat),i < st.length→j < st.length→(∀ c∈cs,c < w)→(lkN st es (k+1)).getD i 0=(lkN st es (k+1)).getD j 0→(Xs st i cs∈es↔Xs st j cs∈es):=by
  intro cs
  induction cs with
  | nil=>exact λi j hi hj _ e=>Dy R (k+1) i j hi hj e
  | cons c cs ih=>
   intro i j hi hj hc e
   have h1:=((K0 R hi hj).mp e).2 c (hc c zM)
   have a:=Wv R hi (hc c zM)
   have b:=Wv R hj (hc c zM)
   exact ih _ _ a b (λd hd=>hc d (zQ _ hd)) (sk _ _ (by omega) (by omega) h1)
 exact λcs hcs=>walk cs i j hi hj hcs e
theorem Rt:∀ (n:Nat) (l:List Nat),l.Nodup→(∀ x∈l,x < n)→l.length≤n
 | 0,[],_,_=>zI _
 | 0,x :: _,_,h=>absurd (h x zM) (Nat.not_lt_zero _)
 | n+1,l,nd,h=>by
  have ih:=Rt n (l.filter (· != n)) (nd.filter _) λx hx=>by
   obtain ⟨h1,h2⟩:=xX.mp hx
   have:=h x h1
   have h3:x≠n:=by simpa using h2
   omega
  have key:∀ (l:List Nat),l.Nodup→l.length≤(l.filter (· != n)).length+1:=by
   intro l
   induction l with
   | nil=>intro _; exact yV _
   | cons a t iht=>
    intro nd
    obtain ⟨na,nt⟩:=wL.mp nd
    rw [vD]
    by_cases c:a=n
    ·subst c
     rw [if_neg (by simp)]
     have:t.filter (· != a)=t:=List.filter_eq_self.mpr λx hx=>by
      have:x≠a:=λz=>na (z▸hx)
      simpa using this
     rw [this]
     exact zI _
    ·rw [if_pos (by simpa using c)]
     have:=iht nt
     simp only [yR]
     omega
  have:=key l nd
  omega
inductive Pw (R:Nat→Nat→Prop):List Nat→List Nat→Prop
 | nil:Pw R [] []
 | cons {a b:Nat} {l m:List Nat}:R a b→Pw R l m→Pw R (a :: l) (b :: m)
variable {R:Nat→Nat→Prop} {k1 k2:Nat→Nat}
theorem Pw.len {l m:List Nat} (h:Pw R l m):l.length=m.length:=by
 induction h with
 | nil=>rfl
 | cons _ _ ih=>rw [yR,yR,ih]
theorem Pw.snoc {l m:List Nat} (h:Pw R l m) {a b:Nat} (r:R a b):Pw R (l ++ [a]) (m ++ [b]):=by
 induction h with
 | nil=>exact .cons r .nil
 | cons q _ ih=>exact .cons q ih
theorem Pw.get {l m:List Nat} (h:Pw R l m):∀ {i:Nat} {x:Nat},l[i]? = some x→∃ y,m[i]? = some y∧R x y:=by
 induction h with
 | nil=>intro i x e; simp at e
 | cons q _ ih=>
  intro i x e
  cases i with
  | zero=>cases e; exact ⟨_,rfl,q⟩
  | succ i=>exact ih (by simpa using e)
theorem Pw.of:∀ {l m:List Nat},l.length=m.length→(∀ (i:Nat) x y,l[i]? = some x→m[i]? = some y→R x y)→Pw R l m
 | [],[],_,_=>.nil
 | [],_ :: _,h,_=>nomatch h
 | _ :: _,[],h,_=>nomatch h
 | a :: l,b :: m,h,q=>.cons (q 0 a b rfl rfl) (Pw.of (by simpa using h) λi x y e1 e2=>q (i+1) x y (by simpa using e1) (by simpa using e2))
def KR (R:Nat→Nat→Prop) (k1 k2:Nat→Nat):Prop:=∀ x y x' y',R x y→R x' y'→(k1 x=k1 x'↔k2 y=k2 y')
theorem Pw.mem (kr:KR R k1 k2) {l m:List Nat} (h:Pw R l m) {x y:Nat} (r:R x y):k1 x∈l.map k1↔k2 y∈m.map k2:=by
 induction h with
 | nil=>exact ⟨λz=>(wS z).elim,λz=>(wS z).elim⟩
 | cons q _ ih=>rw [zO,zO,yE,yE,ih,kr _ _ _ _ r q]
theorem Pw.idx (kr:KR R k1 k2) {l m:List Nat} (h:Pw R l m) {x y:Nat} (r:R x y):(l.map k1).idxOf (k1 x)=(m.map k2).idxOf (k2 y):=by
 induction h with
 | nil=>rfl
 | @cons a b _ _ q _ ih=>
  rw [zO,zO,uK,uK,ih]
  have e:=kr _ _ _ _ q r
  by_cases c:k1 a=k1 x
  ·rw [beq_iff_eq.mpr c,beq_iff_eq.mpr (e.mp c)]
  ·rw [beq_eq_false_iff_ne.mpr c,beq_eq_false_iff_ne.mpr λz=>c (e.mpr z)]
def Xp (k:Nat→Nat) (o:List Nat) (x:Nat):List Nat:=if k x∈o.map k then o else o ++ [x]
def Zo (k:Nat→Nat) (T:Nat→List Nat) (b:Nat):Nat→List Nat
 | 0=>[b]
 | i+1=>match (Zo k T b i)[i]? with
  | some x=>(T x).foldl (Xp k) (Zo k T b i)
  | none=>Zo k T b i
theorem Ws {k:Nat→Nat} {T:Nat→List Nat} {b i x:Nat} (h:(Zo k T b i)[i]? = some x):Zo k T b (i+1)=(T x).foldl (Xp k) (Zo k T b i):=by
 show (match (Zo k T b i)[i]? with | some x=>(T x).foldl (Xp k) (Zo k T b i) | none=>Zo k T b i)=_
 rw [h]
theorem Wt {k:Nat→Nat} {T:Nat→List Nat} {b i:Nat} (h:(Zo k T b i).length≤i):∀ j,i≤j→Zo k T b j=Zo k T b i
 | 0,hj=>by rw [Nat.le_zero.mp hj]
 | j+1,hj=>by
  rcases xB i (j+1) with z | z
  ·have ih:=Wt h j (by omega)
   show (match (Zo k T b j)[j]? with | some x=>(T x).foldl (Xp k) (Zo k T b j) | none=>Zo k T b j)=_
   rw [ih,xE (by omega)]
  ·rw [show i=j+1 by omega]
theorem Pw.fold (kr:KR R k1 k2) {t u:List Nat} (h:Pw R t u):∀ {l m:List Nat},Pw R l m→Pw R (t.foldl (Xp k1) l) (u.foldl (Xp k2) m):=by
 induction h with
 | nil=>exact λh=>h
 | @cons a b _ _ q _ ih=>
  intro l m h
  refine ih ?_
  unfold Xp
  by_cases c:k1 a∈l.map k1
  ·rw [if_pos c,if_pos ((h.mem kr q).mp c)]
   exact h
  ·rw [if_neg c,if_neg λz=>c ((h.mem kr q).mpr z)]
   exact h.snoc q
theorem Pw.ord (kr:KR R k1 k2) {T1 T2:Nat→List Nat} (ht:∀ x y,R x y→Pw R (T1 x) (T2 y)) {b1 b2:Nat} (hb:R b1 b2):∀ i,Pw R (Zo k1 T1 b1 i) (Zo k2 T2 b2 i)
 | 0=>.cons hb .nil
 | i+1=>by
  have ih:=Pw.ord kr ht hb i
  cases e:(Zo k1 T1 b1 i)[i]? with
  | none=>
   have l1:=wC.mp e
   rw [Wt l1 _ (xP _),Wt (by rw [← ih.len]; exact l1) _ (xP _)]
   exact ih
  | some x=>
   obtain ⟨y,hy,r⟩:=ih.get e
   rw [Ws e,Ws hy]
   exact Pw.fold kr (ht x y r) ih
theorem Zg3 {k:Nat→Nat} {P:Nat→Prop} {o:List Nat} {x:Nat} (h:∀ y∈o,P y) (hx:P x):∀ y∈Xp k o x,P y:=by
 unfold Xp
 intro y hy
 by_cases c:k x∈o.map k
 ·rw [if_pos c] at hy
  exact h y hy
 ·rw [if_neg c] at hy
  rcases yS.mp hy with z | z
  ·exact h y z
  ·rw [zT.mp z]
   exact hx
theorem Zi7 {k:Nat→Nat} {o:List Nat} {x:Nat} (h:(o.map k).Nodup):((Xp k o x).map k).Nodup:=by
 unfold Xp
 by_cases c:k x∈o.map k
 ·rw [if_pos c]; exact h
 ·rw [if_neg c,zZ,vQ]
  refine ⟨h,by simp,?_⟩
  intro a ha b hb e
  have:b=k x:=by simpa using hb
  rw [e,this] at ha
  exact c ha
theorem Zg1 {k:Nat→Nat} {o:List Nat} {x:Nat}:o <+: Xp k o x:=by
 unfold Xp
 by_cases c:k x∈o.map k
 ·rw [if_pos c]; exact tE
 ·rw [if_neg c]; exact List.prefix_append _ _
theorem Zg2 {k:Nat→Nat} {o:List Nat} {x:Nat}:k x∈(Xp k o x).map k:=by
 unfold Xp
 by_cases c:k x∈o.map k
 ·rw [if_pos c]; exact c
 ·rw [if_neg c,zZ]
  simp
theorem Sd {k:Nat→Nat}:∀ (t o:List Nat),o <+: t.foldl (Xp k) o
 | [],_=>tE
 | _ :: t,o=>Zg1.trans (Sd t _)
theorem fold_all {k:Nat→Nat} {P:Nat→Prop}:∀ (t o:List Nat),(∀ y∈o,P y)→(∀ y∈t,P y)→∀ y∈t.foldl (Xp k) o,P y
 | [],_,h,_=>h
 | a :: t,o,h,ht=>fold_all t _ (Zg3 h (ht a zM)) λy hy=>ht y (zQ _ hy)
theorem O2 {k:Nat→Nat}:∀ (t o:List Nat),(o.map k).Nodup→((t.foldl (Xp k) o).map k).Nodup
 | [],_,h=>h
 | _ :: t,o,h=>O2 t _ (Zi7 h)
theorem Cd {k:Nat→Nat}:∀ (t o:List Nat) (x:Nat),x∈t→k x∈(t.foldl (Xp k) o).map k
 | a :: t,o,x,h=>by
  rcases yE.mp h with z | z
  ·subst z
   exact (List.IsPrefix.map k (Sd t (Xp k o x))).subset Zg2
  ·exact Cd t _ x z
theorem Zco {k:Nat→Nat} {T:Nat→List Nat} {b:Nat} (i:Nat):Zo k T b i <+: Zo k T b (i+1):=by
 cases e:(Zo k T b i)[i]? with
 | none=>rw [Wt (wC.mp e) _ (xP _)]; exact tE
 | some x=>rw [Ws e]; exact Sd _ _
theorem Wy {k:Nat→Nat} {T:Nat→List Nat} {b i:Nat}:∀ j,i≤j→Zo k T b i <+: Zo k T b j
 | 0,hj=>by rw [Nat.le_zero.mp hj]; exact tE
 | j+1,hj=>by
  rcases xB i (j+1) with z | z
  ·exact (Wy j (by omega)).trans (Zco j)
  ·rw [show i=j+1 by omega]; exact tE
theorem Vc {k:Nat→Nat} {T:Nat→List Nat} {b:Nat} {P:Nat→Prop} (hb:P b) (ht:∀ x,P x→∀ y∈T x,P y):∀ i,∀ y∈Zo k T b i,P y
 | 0,y,hy=>by rw [zT.mp hy]; exact hb
 | i+1,y,hy=>by
  have ih:=Vc hb ht (k:=k) i
  cases e:(Zo k T b i)[i]? with
  | none=>rw [Wt (wC.mp e) _ (xP _)] at hy; exact ih y hy
  | some x=>rw [Ws e] at hy; exact fold_all _ _ ih (ht x (ih x (zJ e))) y hy
theorem U0 {k:Nat→Nat} {T:Nat→List Nat} {b:Nat}:∀ i,((Zo k T b i).map k).Nodup
 | 0=>by show ([b].map k).Nodup; simp
 | i+1=>by
  cases e:(Zo k T b i)[i]? with
  | none=>rw [Wt (wC.mp e) _ (xP _)]; exact U0 i
  | some x=>rw [Ws e]; exact O2 _ _ (U0 i)
theorem Kh {k:Nat→Nat} {T:Nat→List Nat} {b:Nat} (i:Nat):0 < (Zo k T b i).length∧(Zo k T b i)[0]? = some b:=by
 have h:=Wy (k:=k) (T:=T) (b:=b) i (yV i)
 obtain ⟨t,e⟩:=h
 rw [← e]
 exact ⟨by show 0 < ([b] ++ t).length; simp,rfl⟩
theorem Ui {k:Nat→Nat} {T:Nat→List Nat} {b n:Nat} {P:Nat→Prop} (hb:P b) (ht:∀ x,P x→∀ y∈T x,P y) (hk:∀ x,P x→k x < n) (i:Nat):(Zo k T b i).length≤n:=by
 have:=Rt n _ (U0 (k:=k) (T:=T) (b:=b) i) λx hx=>by
  obtain ⟨y,hy,e⟩:=zY.mp hx
  rw [← e]
  exact hk y (Vc hb ht i y hy)
 rwa [zA] at this
theorem Uh {k:Nat→Nat} {T:Nat→List Nat} {b n:Nat} {j x y:Nat} (hj:(Zo k T b n)[j]? = some x) (hn:j < n) (hy:y∈T x):k y∈(Zo k T b n).map k:=by
 have p1:=Wy (k:=k) (T:=T) (b:=b) (i:=j) n (by omega)
 have p2:=Wy (k:=k) (T:=T) (b:=b) (i:=j+1) n hn
 rcases xB j (Zo k T b j).length with z | z
 ·have e:(Zo k T b j)[j]? = some x:=by
   obtain ⟨t,e⟩:=p1
   rw [← e,zU z] at hj
   exact hj
  refine (List.IsPrefix.map k p2).subset ?_
  rw [Ws e]
  exact Cd _ _ y hy
 ·have:=Wt z n (by omega)
  rw [this,xE z] at hj
  cases hj
def Yk (k:Nat→Nat) (T:Nat→List Nat) (o:List Nat):List (List Nat):=o.map λx=>(T x).map λt=>(o.map k).idxOf (k t)
def Xg (o:List Nat) (e:Nat→Bool):List Nat:=(List.range o.length).filter λi=>e (o.getD i 0)
theorem Pw.rows (kr:KR R k1 k2) {T1 T2:Nat→List Nat} (ht:∀ x y,R x y→Pw R (T1 x) (T2 y)) {o p:List Nat} (h:Pw R o p):Yk k1 T1 o=Yk k2 T2 p:=by
 have inner:∀ {t u:List Nat},Pw R t u→(t.map λx=>(o.map k1).idxOf (k1 x))=u.map λx=>(p.map k2).idxOf (k2 x):=by
  intro t u hu
  induction hu with
  | nil=>rfl
  | cons q _ ih=>rw [zO,zO,ih,h.idx kr q]
 have outer:∀ {o' p':List Nat},Pw R o' p'→(o'.map λx=>(T1 x).map λt=>(o.map k1).idxOf (k1 t))=p'.map λx=>(T2 x).map λt=>(p.map k2).idxOf (k2 t):=by
  intro o' p' hu
  induction hu with
  | nil=>rfl
  | cons q _ ih=>rw [zO,zO,ih,inner (ht _ _ q)]
 exact outer h
theorem Pw.ends {o p:List Nat} (h:Pw R o p) {e1 e2:Nat→Bool} (he:∀ x y,R x y→e1 x=e2 y):Xg o e1=Xg p e2:=by
 unfold Xg
 rw [h.len]
 refine List.filter_congr λi hi=>?_
 have hi':=yN.mp hi
 have hi2:i < o.length:=by rw [h.len]; exact hi'
 obtain ⟨y,hy,r⟩:=h.get (zC hi2)
 rw [zD,zC hi2,zD,hy]
 exact he _ _ r
theorem ifN {c:Bool} {A B:Prop} (h:c=false) (b:B):if c=true then A else B:=by rw [h]; exact b
theorem ifY {c:Bool} {A B:Prop} (h:c=true) (a:A):if c=true then A else B:=by rw [if_pos h]; exact a
inductive Zji (f:Addr) (fd:FuncData) (l:Str) (g:Nat→Nat→Nat) (pl:Nat→Prop) (G:Hp→Prop) (vs:List V) (H:Hp) (Q:VK):Prop
 | mk (x c:_) (h1:vs=[nI x,.str (one c)]) (h2:pl x) (h3:c∈l.cps.toList) (h4:H f=some (FnO f fd)) (h5:G H) (h6:∀ H',Zr H H'→Q (nI (g x c)) H'):Zji f fd l g pl G vs H Q
def Zn1 (f:Addr) (fd:FuncData) (l:Str) (g:Nat→Nat→Nat) (pl:Nat→Prop) (G:Hp→Prop):Sp:=λvs H Q u3_=>Zji f fd l g pl G vs H Q
def TL (l:Str) (g:Nat→Nat→Nat) (x:Nat):List Nat:=l.cps.toList.map (g x)
def kI (x:Nat):Key:=Sum.inl ((x:Nat):Int)
theorem Sn {x y:Nat} (h:kI x=kI y):x=y:=by
 have:((x:Nat):Int)=y:=Sum.inl.inj h
 omega
def TxD (H:Hp) (d:Addr) (o:List Nat) (n:Nat):Prop:=∃ kvs:List (Key × V),H d=some (.dK kvs)∧kvs.map (·.1)=o.map kI∧∀ p∈kvs,∃ z:Str,p.2=.str z∧z.length≤n
theorem Fj:∀ {kvs:List (Key × V)} {o:List Nat} {x:Nat},kvs.map (·.1)=o.map kI→x∉o→X0 kvs (kI x)=none
 | [],_,_,_,_=>rfl
 | _ :: _,[],_,h,_=>nomatch h
 | p :: kvs,a :: o,x,h,hx=>by
  rw [zO,zO,List.cons.injEq] at h
  rw [Xb (λz=>hx (by rw [Sn (h.1.symm.trans z)]; exact zM))]
  exact Fj h.2 λz=>hx (zQ _ z)
theorem Ow:∀ {kvs:List (Key × V)} {o:List Nat} {x:Nat},kvs.map (·.1)=o.map kI→x∈o→∃ p∈kvs,X0 kvs (kI x)=some p.2∧p.1=kI x
 | [],[],_,_,hx=>nomatch hx
 | [],_ :: _,_,h,_=>nomatch h
 | _ :: _,[],_,h,_=>nomatch h
 | p :: kvs,a :: o,x,h,hx=>by
  rw [zO,zO,List.cons.injEq] at h
  by_cases c:a=x
  ·exact ⟨p,zM,Xt (by rw [h.1,c]),by rw [h.1,c]⟩
  ·rw [Xb (λz=>c (Sn (h.1.symm.trans z)))]
   obtain ⟨q,hq,e⟩:=Ow h.2 ((yE.mp hx).resolve_left λz=>c z.symm)
   exact ⟨q,zQ _ hq,e⟩
theorem Zaq (z:Str) (c:Nat):(z ++ (⟨#[c]⟩:Str)).length=z.length+1:=by
 show (z.cps ++ #[c]).size=z.cps.size+1
 simp
theorem Zca (o:List Nat) (x:Nat):Xp id o x=if x∈o then o else o ++ [x]:=by
 unfold Xp
 rw [wN]
 rfl
theorem TxD.same {H H':Hp} {d:Addr} {o:List Nat} {n:Nat} (h:TxD H d o n) (e:Zr H H'):TxD H' d o n:=let ⟨kvs,a,b⟩:=h; ⟨kvs,e _ _ a,b⟩
inductive Zjg (P:Program) (w:World) (K:W.Frag) (mg:Str→Option Value) (base:Heap) (n:Nat) (vs:List V) (H:Hp) (Q:VK):Prop
 | mk (f:Addr) (fd:FuncData) (ps:List Str) (l:Str) (b:Nat) (g:Nat→Nat→Nat) (pl:Nat→Prop) (G:Hp→Prop) (h1:Yt P w K mg base CX0 n f fd ps (Zn1 f fd l g pl G)) (h2:Binds K fd ps []) (h3:(∀ H1 H2,Zr H1 H2→G H1→G H2)) (h4:vs=[.str l,nI b,.ref f]) (h5:pl b) (h6:(∀ x,pl x→x < 216∧∀ c∈l.cps.toList,pl (g x c))) (h7:H f=some (FnO f fd)) (h8:G H) (h9:∀ d H' N,H d=none→Zr H H'→TxD H' d (Zo id (TL l g) b N) 300→(Zo id (TL l g) b N).length≤N→Q (.ref d) H'):Zjg P w K mg base n vs H Q
def Zk2 (P:Program) (w:World) (K:W.Frag) (mg:Str→Option Value) (base:Heap) (n:Nat):Sp:=λvs H Q u3_=>Zjg P w K mg base n vs H Q
def woW (l:Str) (fv d:Addr) (g:Nat→Nat→Nat) (b:Nat) (H:Hp) (mm:Nat) (σ:L2.St) (H5:Hp):Prop:=∃ (i:Nat) (lv:Addr) (v5 v6 v7 v8:Option V),mm=217 - i∧i≤(Zo id (TL l g) b i).length∧σ=[some (.str l),some (nI b),some (.ref fv),some (.ref d),some (.ref lv),v5,v6,v7,v8]∧H lv=none∧H5 lv=some (.lst (((Zo id (TL l g) b i).drop i).map nI))∧TxD H5 d (Zo id (TL l g) b i) (Zo id (TL l g) b i).length∧Zr H H5
def woL (l:Str) (fv d:Addr) (g:Nat→Nat→Nat) (b:Nat) (H:Hp) (lv rp:Addr) (i:Nat) (L:List Nat) (j:Nat) (σ:L2.St) (H7:Hp):Prop:=∃ (v6 v7 v8:Option V),σ=[some (.str l),some (nI b),some (.ref fv),some (.ref d),some (.ref lv),some (.ref rp),v6,v7,v8]∧H7 lv=some (.lst ((L.drop i).map nI))∧H7 rp=some (.lst (((Zo id (TL l g) b (i+j)).drop L.length).map nI))∧TxD H7 d (Zo id (TL l g) b (i+j)) (Zo id (TL l g) b (i+j)).length∧Zr H H7
theorem Zcr {n:Nat} {f:Addr} {fd:FuncData} (F:Fun K "walked" "walked" Ud f fd) (Z:Blt mg):Yt P w K mg base CX0 (n+1) f fd ["letters","begin","step"] (Zk2 P w K mg base n):=by
 refine F.ok Y2 (λvs H Q E h=>?_) (λcdv A outer s H vs Q E hr h=>?_)
 ·obtain ⟨f,fd,ps,l,b,g,pl,G,_,_,_,rfl,_⟩:=h
  rfl
 obtain ⟨fv,fdv,ps,l,b,g,pl,G,V8,V7,hG,rfl,hb,hpl,hf,hGH,k⟩:=h
 refine ⟨_,(Ze (Zm (i:=3) Y2.nd (by rfl) (Or.inl (by rfl)) (Za8 (Ke (pv 1) Pk Gq) (by rfl) (by rfl) (by intro h; cases h) (by show 1≤15; decide))) 
   (Ze (Zm (i:=4) Y2.nd (by rfl) (Or.inl (by rfl)) (X2 (Za (pv 1) Zc))) 
   (Ze (Ro yB (Xo (K:=K) (pv 4) (λ_=>rfl)) 
    (Ze (Zm (i:=5) Y2.nd (by rfl) (Or.inl (by rfl)) (X2 Zc)) 
    (Ze (Xq yB (by rfl) (Wj (K:=K) (pv 4)) (Zl (i:=6) Y2.nd (by rfl) (Or.inl (by rfl))) 
     (Zj (Xq yB (by rfl) (Rp (pv 0)) (Zl (i:=7) Y2.nd (by rfl) (Or.inl (by rfl))) 
      (Ze (Zm (i:=8) Y2.nd (by rfl) (Or.inl (by rfl)) (Tr (i:=2) V8 (hr.mono (by omega)) V7 (Za (pv 6) (Za (pv 7) Zc)))) 
      (Zj (X5 (Bn (Nq (W8 hr) (pv 8) (pv 3))) 
       (Ze (Oo (W8 hr) (pv 3) (pv 8) (Yd Uj (Uz (W8 hr) (pv 3) (pv 6) (λ_ _=>rfl)) (pv 7)) rfl) 
       (Zj (Xw (Xh (K:=K) zW yI yJ Xf (pv 5) (Za (pv 8) Zc))))) Yv)))))) 
    (Zj (Zm (i:=4) Y2.nd (by rfl) (Or.inl (by rfl)) (pv 5)))))) 
   (Zj (Zz (pv 3)))))),?_⟩
 refine (let zz0:TS:=_; let zz1:TS:=_; let zz2:TS:=_; let zz3:TS:=Zt _ zz2; let zz4:TS:=(Eh _ zz3 _); let zz5:TS:=Zt _ zz4; let zz6:TS:=(Jp _ _ zz5); let zz7:TS:=Zt (Jp _ _ zz6) zz1; let zz8:TS:=Zt _ zz7; let zz9:TS:=Zt (Nh _ zz8) zz0; let Ht:TS:=Zt _ zz9; (?_:Zt _ Ht _ _ _))
 have hT:∀ x,pl x→∀ y∈TL l g x,pl y:=λx hx y hy=>by
  obtain ⟨c,hc,e⟩:=zY.mp hy
  rw [← e]
  exact (hpl x hx).2 c hc
 have oL:∀ i,(Zo id (TL l g) b i).length≤216:=λi=>Ui hb hT (λx hx=>(hpl x hx).1) i
 have oP:∀ i,∀ y∈Zo id (TL l g) b i,pl y:=λi=>Vc hb hT i
 refine λd hd=>⟨_,rfl,Zb,[(kI b,.str "")],rfl,by show 1≤15; decide,?_⟩
 have h1d:upd (upd H d (.dK [])) d (.dK (Uk [] [(kI b,V.str "")])) d=some (.dK [(kI b,V.str "")]):=Zb
 have e1:Zr H (upd (upd H d (.dK [])) d (.dK (Uk [] [(kI b,V.str "")]))):=Yr (Zd hd _) hd _
 generalize upd (upd H d (.dK [])) d (.dK (Uk [] [(kI b,V.str "")]))=H1 at h1d e1
 refine ⟨_,rfl,(by show 1≤sizeLine; decide),λlv hlv=>?_⟩
 have s2:=Zd hlv (.lst [nI b])
 have h2l:upd H1 lv (.lst [nI b]) lv=some (.lst [nI b]):=Zb
 generalize upd H1 lv (.lst [nI b])=H2 at s2 h2l
 refine ⟨woW l fv d g b H,
  ⟨_,0,lv,none,none,none,none,rfl,yV _,rfl,none_of e1 hlv,h2l,⟨_,s2 _ _ h1d,rfl,λp hp=>?_⟩,e1.trans s2⟩,?_⟩
 ·rw [zT.mp hp]
  exact ⟨_,rfl,yV _⟩
 clear h2l s2 hlv lv h1d e1
 rintro mm σ H5 ⟨i,lv,v5,v6,v7,v8,rfl,hi,rfl,hlv0,h5l,T5,e5⟩
 have hD:∀ {H:Hp} {a:Addr} {xs:List V} {o:List Nat} {n:Nat},H a=some (.lst xs)→TxD H d o n→a≠d:=λha ⟨_,hk,_⟩=>Xm ha hk λz=>nomatch z
 generalize hL:Zo id (TL l g) b i=L at hi h5l T5
 have hLl:=oL i
 rw [hL] at hLl
 refine ⟨_,rfl,_,.inl ⟨_,SqL.of h5l,rfl⟩,?_⟩
 refine Wu (λc1=>?_) (λc1=>?_)
 ·have hlt:i < L.length:=by
   rcases xB i L.length with z | z
   ·exact z
   ·rw [uL z] at c1
    cases c1
  refine ⟨λσ' H'=>∃ m',m' < 217 - i∧_,λ_ _ z=>z,?_⟩
  refine ⟨(by show 0≤sizeLine; decide),λrp hrp=>?_⟩
  have s6:=Zd hrp (.lst [])
  have h6r:upd H5 rp (.lst []) rp=some (.lst []):=Zb
  have Ad:=none_of e5 hrp
  have nlr:lv≠rp:=Zf h5l hrp
  generalize upd H5 rp (.lst [])=H6 at s6 h6r
  refine ⟨_,rfl,lv,rfl,⟨_,SqL.of (s6 _ _ h5l)⟩,?_⟩
  refine O1 (K:=K) (a:=lv) (xs:=(L.drop i).map nI) (woL l fv d g b H lv rp i L)
   ⟨v6,v7,v8,rfl,s6 _ _ h5l,by rw [h6r,uS,hL,List.drop_length]; rfl,by rw [uS,hL]; exact T5.same s6,e5.trans s6⟩ (λj σ H7 _ h=>?_) ?_ ?_
  ·obtain ⟨_,_,_,_,h7,_⟩:=h
   exact SqL.of h7
  ·rintro j x σ H7 hx ⟨v6,v7,v8,rfl,h7l,h7r,T7,e7⟩
   rw [zE,List.getElem?_drop] at hx
   cases hxx:L[i+j]? with
   | none=>rw [hxx] at hx; cases hx
   | some y=>
    rw [hxx] at hx
    cases hx
    have hoj:(Zo id (TL l g) b (i+j))[i+j]? = some y:=by
     obtain ⟨t,e⟩:=Wy (k:=id) (T:=TL l g) (b:=b) (i:=i) (i+j) (by omega)
     rw [← e,hL,zU (zF.mp hxx).1]
     exact hxx
    have Fo:L.length≤(Zo id (TL l g) b (i+j)).length:=by
     rw [← hL]
     exact (Wy (k:=id) (T:=TL l g) (b:=b) (i:=i) (i+j) (by omega)).length_le
    have Mo:=Ws hoj
    have Ag:=oP (i+j) y (zJ hoj)
    have hnd:=U0 (k:=id) (T:=TL l g) (b:=b) (i+j)
    generalize hO:Zo id (TL l g) b (i+j)=O at hoj Fo Mo hnd h7r T7
    have Oy:∀ z∈O,pl z:=by rw [← hO]; exact oP (i+j)
    refine ⟨_,rfl,l,rfl,?_⟩
    refine Lm (cs:=l.cps.toList) (λm σ H8=>∃ (v7 v8:Option V),σ=[some (.str l),some (nI b),some (.ref fv),some (.ref d),some (.ref lv),some (.ref rp),some (nI y),v7,v8]∧H8 lv=some (.lst ((L.drop i).map nI))∧H8 rp=some (.lst (((((TL l g y).take m).foldl (Xp id) O).drop L.length).map nI))∧TxD H8 d (((TL l g y).take m).foldl (Xp id) O) (((TL l g y).take m).foldl (Xp id) O).length∧Zr H H8)
     ⟨v7,v8,rfl,h7l,h7r,T7,e7⟩ ?_ ?_
    ·rintro m c σ H8 hc ⟨v7,v8,rfl,h8l,h8r,T8,e8⟩
     have hcl:c∈l.cps.toList:=zJ hc
     have hTm:(TL l g y)[m]? = some (g y c):=by unfold TL; rw [zE,hc]; rfl
     have htk:((TL l g y).take (m+1)).foldl (Xp id) O=Xp id (((TL l g y).take m).foldl (Xp id) O) (g y c):=by
      rw [yK,hTm,vR]
      rfl
     have M0:=Sd (k:=id) ((TL l g y).take m) O
     have D8:=O2 (k:=id) ((TL l g y).take m) O hnd
     have K9:=fold_all (k:=id) (P:=pl) ((TL l g y).take m) O Oy λz hz=>hT y Ag z (vS hz)
     have hy8:y∈((TL l g y).take m).foldl (Xp id) O:=M0.subset (zJ hoj)
     have hLO:L.length≤(((TL l g y).take m).foldl (Xp id) O).length:=yG Fo M0.length_le
     rw [htk]
     generalize ((TL l g y).take m).foldl (Xp id) O=O8 at h8r T8 M0 D8 K9 hy8 hLO
     have hO8:O8.length≤216:=by
      have:=Rt 216 _ D8 λz hz=>by
       rw [wN] at hz
       exact (hpl z (K9 z hz)).1
      rwa [zA] at this
     refine ⟨rfl,e8 _ _ hf,_,rfl,_,rfl,e8 _ _ hf,y,c,rfl,Ag,hcl,e8 _ _ hf,hG _ _ e8 hGH,λH9 e9=>?_⟩
     have T9:=T8.same e9
     have h9l:=e9 _ _ h8l
     have h9r:=e9 _ _ h8r
     have e09:=e8.trans e9
     obtain ⟨kvs,h9d,hk,hv⟩:=T9
     have hkl:kvs.length=O8.length:=by
      have:=congrArg List.length hk
      rwa [zA,zA] at this
     refine ⟨_,rfl,_,rfl,d,_,rfl,Rg.k (k:=kI (g y c)) h9d,_,rfl,?_⟩
     rw [Zca]
     by_cases hin:g y c∈O8
     ·obtain ⟨p,_,hp,_⟩:=Ow hk hin
      rw [hp,if_pos hin]
      refine ifN rfl ⟨_,_,rfl,h9l,h9r,⟨kvs,h9d,hk,hv⟩,e09⟩
     ·have hno:=Fj hk hin
      rw [hno,if_neg hin]
      obtain ⟨p,hpk,hp,_⟩:=Ow hk hy8
      obtain ⟨z,hz,hzl⟩:=hv p hpk
      rw [hz] at hp
      refine ifY rfl ⟨_,rfl,_,rfl,d,_,rfl,hp▸Rg.k (k:=kI y) h9d,_,rfl,z,_,rfl,rfl,(by show z.length+1≤sizeLine; rw [sizeLine_eq]; omega),_,rfl,_,rfl,d,_,rfl,Jm.k (k:=kI (g y c)) h9d (by rw [sizeLine_eq]; omega),?_⟩
      rw [To _ hno]
      have nrd:=hD h9r ⟨kvs,h9d,hk,hv⟩
      have nld:=hD h9l ⟨kvs,h9d,hk,hv⟩
      have Tc:=(Zi (H:=H9) (o:=.dK (kvs ++ [(kI (g y c),V.str (z ++ ⟨#[c]⟩))])) nrd).trans h9r
      have J4:=(Zi (H:=H9) (o:=.dK (kvs ++ [(kI (g y c),V.str (z ++ ⟨#[c]⟩))])) nld).trans h9l
      have N8:upd H9 d (.dK (kvs ++ [(kI (g y c),V.str (z ++ ⟨#[c]⟩))])) d=some (.dK (kvs ++ [(kI (g y c),V.str (z ++ ⟨#[c]⟩))])):=Zb
      have e10:=Yr e09 hd (.dK (kvs ++ [(kI (g y c),V.str (z ++ ⟨#[c]⟩))]))
      generalize upd H9 d (.dK (kvs ++ [(kI (g y c),V.str (z ++ ⟨#[c]⟩))]))=H10 at Tc J4 N8 e10
      refine ⟨_,rfl,.inl ⟨rfl,_,SqL.of Tc⟩,_,rfl,rp,_,_,rfl,rfl,Tc,(by rw [zA,wA,sizeLine_eq]; omega),?_⟩
      refine ⟨_,_,rfl,(Zi nlr).trans J4,?_,⟨kvs ++ [(kI (g y c),V.str (z ++ ⟨#[c]⟩))],(Zi nrd.symm).trans N8,?_,?_⟩,Yr e10 Ad _⟩
      ·rw [List.drop_append_of_le_length hLO,zZ]
       exact Zb
      ·rw [zZ,zZ,hk]
       rfl
      ·intro q hq
       rcases yS.mp hq with a | a
       ·obtain ⟨z',h1,h2⟩:=hv q a
        exact ⟨z',h1,by rw [zK]; omega⟩
       ·rw [zT.mp a]
        refine ⟨_,rfl,?_⟩
        rw [zK]
        show (z ++ ⟨#[c]⟩).length≤O8.length+1
        have:(z ++ ⟨#[c]⟩).length=z.length+1:=Zaq z c
        omega
    ·rintro σ H8 ⟨v7,v8,rfl,h8l,h8r,T8,e8⟩
     rw [xS (by unfold TL; rw [zA]; exact zI _),← Mo] at h8r T8
     exact ⟨_,_,_,rfl,h8l,h8r,T8,e8⟩
  ·rintro σ H7 ⟨v6,v7,v8,rfl,h7l,h7r,T7,e7⟩
   have hij:i+((L.drop i).map nI).length=L.length:=by rw [zA,wA]; omega
   rw [hij] at h7r T7
   have Fo:L.length≤(Zo id (TL l g) b L.length).length:=by
    rw [← hL]
    exact (Wy (k:=id) (T:=TL l g) (b:=b) (i:=i) (Zo id (TL l g) b i).length (by rw [hL]; omega)).length_le
   exact ⟨_,rfl,217 - L.length,by omega,L.length,rp,_,_,_,_,rfl,Fo,rfl,Ad,h7r,T7,e7⟩
 ·have hge:L.length≤i:=by
   rcases xB i L.length with z | z
   ·refine absurd ?_ c1
    cases hdr:L.drop i with
    | nil=>
     have:=congrArg List.length hdr
     rw [wA] at this
     have h0:([]:List Nat).length=0:=rfl
     omega
    | cons=>rfl
   ·exact z
  obtain ⟨kvs,h5d,hk,hv⟩:=T5
  refine ⟨_,rfl,k d H5 i hd e5 ⟨kvs,h5d,by rw [hL]; exact hk,λp hp=>let ⟨z,a,b⟩:=hv p hp; ⟨z,a,by omega⟩⟩ (by rw [hL]; exact hge)⟩
def PlT (key:Nat→List Key) (H:Hp) (xs:List V) (o:List Nat):Prop:=xs.length=o.length∧∀ (i:Nat) x c,xs[i]? = some x→o[i]? = some c→∃ a,x=.ref a∧H a=some (.tup ((key c).map kV))
theorem PlT.keep {key:Nat→List Key} {H H':Hp} {xs:List V} {o:List Nat} (h:PlT key H xs o) (k:Tk H H'):PlT key H' xs o:=⟨h.1,λi x c a b=>let ⟨d,e,q⟩:=h.2 i x c a b; ⟨d,e,k _ _ q⟩⟩
theorem PlT.snoc {key:Nat→List Key} {H:Hp} {xs:List V} {o:List Nat} (h:PlT key H xs o) {a:Addr} {c:Nat} (ha:H a=some (.tup ((key c).map kV))):PlT key H (xs ++ [.ref a]) (o ++ [c]):=by
 refine ⟨by rw [zK,zK,h.1]; rfl,λi x r' q1 q2=>?_⟩
 by_cases z:i < xs.length
 ·rw [zU z] at q1
  rw [zU (by rw [← h.1]; exact z)] at q2
  exact h.2 i x r' q1 q2
 ·rw [zX (by omega)] at q1
  rw [zX (by rw [← h.1]; omega),← h.1] at q2
  cases hi:i - xs.length with
  | zero=>
   rw [hi] at q1 q2
   cases q1
   cases q2
   exact ⟨a,rfl,ha⟩
  | succ n=>rw [hi] at q1; simp at q1
inductive Zd5 (f:Addr) (fd:FuncData) (l:Str) (g:Nat→Nat→Nat) (key:Nat→List Key) (pl:Nat→Prop) (G:Hp→Prop) (vs:List V) (H:Hp) (Q:VK):Prop
 | mk (a x c:_) (h1:vs=[.ref a,.str (one c)]) (h2:H a=some (.tup ((key x).map kV))) (h3:pl x) (h4:c∈l.cps.toList) (h5:H f=some (FnO f fd)) (h6:G H) (h7:∀ r H',Zr H H'→H' r=some (.tup ((key (g x c)).map kV))→Q (.ref r) H'):Zd5 f fd l g key pl G vs H Q
def Zjh (f:Addr) (fd:FuncData) (l:Str) (g:Nat→Nat→Nat) (key:Nat→List Key) (pl:Nat→Prop) (G:Hp→Prop):Sp:=λvs H Q u3_=>Zd5 f fd l g key pl G vs H Q
def Cy (key:Nat→List Key) (g:Nat→Nat→Nat) (b:Nat) (l:Str) (H:Hp) (d:Addr) (o:List Nat) (n:Nat):Prop:=∃ kvs:List (List Key × V),H d=some (.dT kvs)∧kvs.map (·.1)=o.map key∧∀ (i:Nat) k v x,kvs[i]? = some (k,v)→o[i]? = some x→∃ z:Str,v=.str z∧z.length≤n∧(∀ c∈z.cps.toList,c∈l.cps.toList)∧z.cps.toList.foldl g b=x
theorem Cy.same {key:Nat→List Key} {g:Nat→Nat→Nat} {b:Nat} {l:Str} {H H':Hp} {d:Addr} {o:List Nat} {n:Nat} (h:Cy key g b l H d o n) (e:Zr H H'):Cy key g b l H' d o n:=let ⟨kvs,a,r⟩:=h; ⟨kvs,e _ _ a,r⟩
theorem K3 {key:Nat→List Key} {pl:Nat→Prop} (inj:∀ x y,pl x→pl y→key x=key y→x=y) {x:Nat} (px:pl x):∀ {kvs:List (List Key × V)} {o:List Nat},kvs.map (·.1)=o.map key→(∀ y∈o,pl y)→x∉o→X0 kvs (key x)=none
 | [],_,_,_,_=>rfl
 | _ :: _,[],h,_,_=>nomatch h
 | p :: kvs,a :: o,h,ho,hx=>by
  rw [zO,zO,List.cons.injEq] at h
  rw [Xb (λz=>hx (by rw [inj x a px (ho a zM) (z.symm.trans h.1)]; exact zM))]
  exact K3 inj px h.2 (λy hy=>ho y (zQ _ hy)) λz=>hx (zQ _ z)
theorem Qw {key:Nat→List Key} {pl:Nat→Prop} (inj:∀ x y,pl x→pl y→key x=key y→x=y) {x:Nat} (px:pl x):∀ {kvs:List (List Key × V)} {o:List Nat},kvs.map (·.1)=o.map key→(∀ y∈o,pl y)→x∈o→∃ (i:Nat) (v:V),kvs[i]? = some (key x,v)∧o[i]? = some x∧X0 kvs (key x)=some v
 | [],[],_,_,hx=>nomatch hx
 | [],_ :: _,h,_,_=>nomatch h
 | _ :: _,[],h,_,_=>nomatch h
 | p :: kvs,a :: o,h,ho,hx=>by
  rw [zO,zO,List.cons.injEq] at h
  by_cases c:a=x
  ·subst c
   refine ⟨0,p.2,?_,rfl,Xt h.1⟩
   rw [← h.1]
   rfl
  ·rw [Xb (λz=>c (inj a x (ho a zM) px (h.1.symm.trans z)))]
   obtain ⟨i,v,e1,e2,e3⟩:=Qw inj px h.2 (λy hy=>ho y (zQ _ hy)) ((yE.mp hx).resolve_left λz=>c z.symm)
   exact ⟨i+1,v,by simpa using e1,by simpa using e2,e3⟩
inductive Zd3 (P:Program) (w:World) (K:W.Frag) (mg:Str→Option Value) (base:Heap) (n:Nat) (vs:List V) (H:Hp) (Q:VK):Prop
 | mk (f:Addr) (fd:FuncData) (ps:List Str) (l:Str) (a0:Addr) (b:Nat) (g:Nat→Nat→Nat) (key:Nat→List Key) (pl:Nat→Prop) (G:Hp→Prop) (h1:Yt P w K mg base CX0 n f fd ps (Zjh f fd l g key pl G)) (h2:Binds K fd ps []) (h3:(∀ H1 H2,Zr H1 H2→G H1→G H2)) (h4:vs=[.str l,.ref a0,.ref f]) (h5:H a0=some (.tup ((key b).map kV))) (h6:pl b) (h7:(∀ x,pl x→x < 216∧∀ c∈l.cps.toList,pl (g x c))) (h8:(∀ x y,pl x→pl y→key x=key y→x=y)) (h9:H f=some (FnO f fd)) (h10:G H) (h11:∀ d H' N,H d=none→Zr H H'→Cy key g b l H' d (Zo id (TL l g) b N) 300→(Zo id (TL l g) b N).length≤N→Q (.ref d) H'):Zd3 P w K mg base n vs H Q
def Zd4 (P:Program) (w:World) (K:W.Frag) (mg:Str→Option Value) (base:Heap) (n:Nat):Sp:=λvs H Q u3_=>Zd3 P w K mg base n vs H Q
def wtW (l:Str) (a0 fv d:Addr) (key:Nat→List Key) (g:Nat→Nat→Nat) (b:Nat) (H:Hp) (mm:Nat) (σ:L2.St) (H5:Hp):Prop:=∃ (i:Nat) (lv:Addr) (xs:List V) (v5 v6 v7 v8:Option V),mm=217 - i∧i≤(Zo id (TL l g) b i).length∧σ=[some (.str l),some (.ref a0),some (.ref fv),some (.ref d),some (.ref lv),v5,v6,v7,v8]∧H lv=none∧H5 lv=some (.lst xs)∧PlT key H5 xs ((Zo id (TL l g) b i).drop i)∧Cy key g b l H5 d (Zo id (TL l g) b i) (Zo id (TL l g) b i).length∧Zr H H5
def wtL (l:Str) (a0 fv d:Addr) (key:Nat→List Key) (g:Nat→Nat→Nat) (b:Nat) (H:Hp) (lv rp:Addr) (i:Nat) (L:List Nat) (xs:List V) (j:Nat) (σ:L2.St) (H7:Hp):Prop:=∃ (ys:List V) (v6 v7 v8:Option V),σ=[some (.str l),some (.ref a0),some (.ref fv),some (.ref d),some (.ref lv),some (.ref rp),v6,v7,v8]∧H7 lv=some (.lst xs)∧PlT key H7 xs (L.drop i)∧H7 rp=some (.lst ys)∧PlT key H7 ys ((Zo id (TL l g) b (i+j)).drop L.length)∧Cy key g b l H7 d (Zo id (TL l g) b (i+j)) (Zo id (TL l g) b (i+j)).length∧Zr H H7
theorem Bq {n:Nat} {f:Addr} {fd:FuncData} (F:Fun K "walked" "walked" Ud f fd) (Z:Blt mg):Yt P w K mg base CX0 (n+1) f fd ["letters","begin","step"] (Zd4 P w K mg base n):=by
 refine F.ok Y2 (λvs H Q E h=>?_) (λcdv A outer s H vs Q E hr h=>?_)
 ·obtain ⟨f,fd,ps,l,a0,b,g,key,pl,G,_,_,_,rfl,_⟩:=h
  rfl
 obtain ⟨fv,fdv,ps,l,a0,b,g,key,pl,G,V8,V7,hG,rfl,ha0,hb,hpl,inj,hf,hGH,k⟩:=h
 refine ⟨_,(Ze (Zm (i:=3) Y2.nd (by rfl) (Or.inl (by rfl)) (Ze0 (W8 hr) (pv 1) Pk)) 
   (Ze (Zm (i:=4) Y2.nd (by rfl) (Or.inl (by rfl)) (X2 (Za (pv 1) Zc))) 
   (Ze (Ro yB (Xo (K:=K) (pv 4) (λ_=>rfl)) 
    (Ze (Zm (i:=5) Y2.nd (by rfl) (Or.inl (by rfl)) (X2 Zc)) 
    (Ze (Xq yB (by rfl) (Wj (K:=K) (pv 4)) (Zl (i:=6) Y2.nd (by rfl) (Or.inl (by rfl))) 
     (Zj (Xq yB (by rfl) (Rp (pv 0)) (Zl (i:=7) Y2.nd (by rfl) (Or.inl (by rfl))) 
      (Ze (Zm (i:=8) Y2.nd (by rfl) (Or.inl (by rfl)) (Tr (i:=2) V8 (hr.mono (by omega)) V7 (Za (pv 6) (Za (pv 7) Zc)))) 
      (Zj (X5 (Bn (Nq (W8 hr) (pv 8) (pv 3))) 
       (Ze (Oo (W8 hr) (pv 3) (pv 8) (Yd Uj (Uz (W8 hr) (pv 3) (pv 6) (λ_ _=>rfl)) (pv 7)) rfl) 
       (Zj (Xw (Xh (K:=K) zW yI yJ Xf (pv 5) (Za (pv 8) Zc))))) Yv)))))) 
    (Zj (Zm (i:=4) Y2.nd (by rfl) (Or.inl (by rfl)) (pv 5)))))) 
   (Zj (Zz (pv 3)))))),?_⟩
 refine (let zz0:TS:=_; let zz1:TS:=_; let zz2:TS:=_; let zz3:TS:=Zt _ zz2; let zz4:TS:=(Eh _ zz3 _); let zz5:TS:=Zt _ zz4; let zz6:TS:=(Jp _ _ zz5); let zz7:TS:=Zt (Jp _ _ zz6) zz1; let zz8:TS:=Zt _ zz7; let zz9:TS:=Zt (Nh _ zz8) zz0; let Ht:TS:=Zt _ zz9; (?_:Zt _ Ht _ _ _))
 have hT:∀ x,pl x→∀ y∈TL l g x,pl y:=λx hx y hy=>by
  obtain ⟨c,hc,e⟩:=zY.mp hy
  rw [← e]
  exact (hpl x hx).2 c hc
 have oL:∀ i,(Zo id (TL l g) b i).length≤216:=λi=>Ui hb hT (λx hx=>(hpl x hx).1) i
 have oP:∀ i,∀ y∈Zo id (TL l g) b i,pl y:=λi=>Vc hb hT i
 refine λd hd=>⟨_,rfl,_,_,rfl,Zb,a0,key b,rfl,(Zd hd _) _ _ ha0,?_⟩
 have h1d:upd (upd H d (.dT [])) d (.dT [(key b,V.str "")]) d=some (.dT [(key b,V.str "")]):=Zb
 have e1:Zr H (upd (upd H d (.dT [])) d (.dT [(key b,V.str "")])):=Yr (Zd hd _) hd _
 generalize upd (upd H d (.dT [])) d (.dT [(key b,V.str "")])=H1 at h1d e1
 refine ⟨_,rfl,(by show 1≤sizeLine; decide),λlv hlv=>?_⟩
 have s2:=Zd hlv (.lst [V.ref a0])
 have h2l:upd H1 lv (.lst [V.ref a0]) lv=some (.lst [V.ref a0]):=Zb
 generalize upd H1 lv (.lst [V.ref a0])=H2 at s2 h2l
 refine ⟨wtW l a0 fv d key g b H,
  ⟨_,0,lv,_,none,none,none,none,rfl,yV _,rfl,none_of e1 hlv,h2l,⟨rfl,λi x c q1 q2=>?_⟩,⟨_,s2 _ _ h1d,rfl,λi k v x q1 q2=>?_⟩,e1.trans s2⟩,?_⟩
 ·cases i with
  | zero=>cases q1; cases q2; exact ⟨a0,rfl,s2 _ _ (e1 _ _ ha0)⟩
  | succ i=>simp at q1
 ·cases i with
  | zero=>
   cases q1
   cases q2
   have e0:(Str.ofString "").cps.toList=[]:=by decide +kernel
   refine ⟨_,rfl,yV _,?_,?_⟩
   ·rw [e0]
    exact λc hc=>(wS hc).elim
   ·rw [e0]
    rfl
  | succ i=>simp at q1
 clear h2l s2 hlv lv h1d e1
 rintro mm σ H5 ⟨i,lv,xs,v5,v6,v7,v8,rfl,hi,rfl,hlv0,h5l,P5,T5,e5⟩
 have hD:∀ {H:Hp} {a:Addr} {xs:List V} {o:List Nat} {n:Nat},H a=some (.lst xs)→Cy key g b l H d o n→a≠d:=λha ⟨_,hk,_⟩=>Xm ha hk λz=>nomatch z
 generalize hL:Zo id (TL l g) b i=L at hi P5 T5
 have hLl:=oL i
 rw [hL] at hLl
 have hxl:=P5.1
 rw [wA] at hxl
 refine ⟨_,rfl,_,.inl ⟨_,SqL.of h5l,rfl⟩,?_⟩
 refine Wu (λc1=>?_) (λc1=>?_)
 ·have hlt:i < L.length:=by
   rcases xB i L.length with z | z
   ·exact z
   ·rw [uN (show xs.length=0 by omega)] at c1
    cases c1
  refine ⟨λσ' H'=>∃ m',m' < 217 - i∧_,λ_ _ z=>z,?_⟩
  refine ⟨(by show 0≤sizeLine; decide),λrp hrp=>?_⟩
  have s6:=Zd hrp (.lst [])
  have h6r:upd H5 rp (.lst []) rp=some (.lst []):=Zb
  have Ad:=none_of e5 hrp
  have nlr:lv≠rp:=Zf h5l hrp
  generalize upd H5 rp (.lst [])=H6 at s6 h6r
  refine ⟨_,rfl,lv,rfl,⟨_,SqL.of (s6 _ _ h5l)⟩,?_⟩
  refine O1 (K:=K) (a:=lv) (xs:=xs) (wtL l a0 fv d key g b H lv rp i L xs)
   ⟨[],v6,v7,v8,rfl,s6 _ _ h5l,P5.keep (Tk.same s6),h6r,by rw [uS,hL,List.drop_length]; exact ⟨rfl,λi x c q=>by simp at q⟩,by rw [uS,hL]; exact T5.same s6,e5.trans s6⟩ (λj σ H7 _ h=>?_) ?_ ?_
  ·obtain ⟨_,_,_,_,_,h7,_⟩:=h
   exact SqL.of h7
  ·rintro j x σ H7 hx ⟨ys,v6,v7,v8,rfl,h7l,P7,h7r,Y7,T7,e7⟩
   have hjl:=(zF.mp hx).1
   have hxx:L[i+j]? = some (L[i+j]'(by omega)):=zC (by omega)
   generalize L[i+j]'(by omega)=y at hxx
   obtain ⟨ya,rfl,hya⟩:=P7.2 j x y hx (by rw [List.getElem?_drop]; exact hxx)
   have hoj:(Zo id (TL l g) b (i+j))[i+j]? = some y:=by
    obtain ⟨t,e⟩:=Wy (k:=id) (T:=TL l g) (b:=b) (i:=i) (i+j) (by omega)
    rw [← e,hL,zU (zF.mp hxx).1]
    exact hxx
   have Fo:L.length≤(Zo id (TL l g) b (i+j)).length:=by
    rw [← hL]
    exact (Wy (k:=id) (T:=TL l g) (b:=b) (i:=i) (i+j) (by omega)).length_le
   have Mo:=Ws hoj
   have Ag:=oP (i+j) y (zJ hoj)
   have hnd:=U0 (k:=id) (T:=TL l g) (b:=b) (i+j)
   generalize hO:Zo id (TL l g) b (i+j)=O at hoj Fo Mo hnd Y7 T7
   have Oy:∀ z∈O,pl z:=by rw [← hO]; exact oP (i+j)
   refine ⟨_,rfl,l,rfl,?_⟩
   refine Lm (cs:=l.cps.toList) (λm σ H8=>∃ (ys:List V) (v7 v8:Option V),σ=[some (.str l),some (.ref a0),some (.ref fv),some (.ref d),some (.ref lv),some (.ref rp),some (.ref ya),v7,v8]∧H8 lv=some (.lst xs)∧PlT key H8 xs (L.drop i)∧H8 rp=some (.lst ys)∧PlT key H8 ys ((((TL l g y).take m).foldl (Xp id) O).drop L.length)∧Cy key g b l H8 d (((TL l g y).take m).foldl (Xp id) O) (((TL l g y).take m).foldl (Xp id) O).length∧Zr H H8∧H8 ya=some (.tup ((key y).map kV)))
    ⟨ys,v7,v8,rfl,h7l,P7,h7r,Y7,T7,e7,hya⟩ ?_ ?_
   ·rintro m c σ H8 hc ⟨ys,v7,v8,rfl,h8l,P8,h8r,Y8,T8,e8,h8y⟩
    have hcl:c∈l.cps.toList:=zJ hc
    have hTm:(TL l g y)[m]? = some (g y c):=by unfold TL; rw [zE,hc]; rfl
    have htk:((TL l g y).take (m+1)).foldl (Xp id) O=Xp id (((TL l g y).take m).foldl (Xp id) O) (g y c):=by
     rw [yK,hTm,vR]
     rfl
    have M0:=Sd (k:=id) ((TL l g y).take m) O
    have D8:=O2 (k:=id) ((TL l g y).take m) O hnd
    have K9:=fold_all (k:=id) (P:=pl) ((TL l g y).take m) O Oy λz hz=>hT y Ag z (vS hz)
    have hy8:y∈((TL l g y).take m).foldl (Xp id) O:=M0.subset (zJ hoj)
    have hLO:L.length≤(((TL l g y).take m).foldl (Xp id) O).length:=yG Fo M0.length_le
    rw [htk]
    generalize ((TL l g y).take m).foldl (Xp id) O=O8 at Y8 T8 M0 D8 K9 hy8 hLO
    have hO8:O8.length≤216:=by
     have:=Rt 216 _ D8 λz hz=>by
      rw [wN] at hz
      exact (hpl z (K9 z hz)).1
     rwa [zA] at this
    have pgc:=(hpl y Ag).2 c hcl
    refine ⟨rfl,e8 _ _ hf,_,rfl,_,rfl,e8 _ _ hf,ya,y,c,rfl,h8y,Ag,hcl,e8 _ _ hf,hG _ _ e8 hGH,λr H9 e9 h9a=>?_⟩
    have T9:=T8.same e9
    have P9:=P8.keep (Tk.same e9)
    have Y9:=Y8.keep (Tk.same e9)
    have h9l:=e9 _ _ h8l
    have h9r:=e9 _ _ h8r
    have h9y:=e9 _ _ h8y
    have e09:=e8.trans e9
    obtain ⟨kvs,h9d,hk,hv⟩:=T9
    have hkl:kvs.length=O8.length:=by
     have:=congrArg List.length hk
     rwa [zA,zA] at this
    have hyl:=Y9.1
    rw [wA] at hyl
    refine ⟨_,rfl,_,rfl,d,_,rfl,Rg.t (k:=key (g y c)) h9d h9a,_,rfl,?_⟩
    rw [Zca]
    by_cases hin:g y c∈O8
    ·obtain ⟨_,v,_,_,hp⟩:=Qw inj pgc hk K9 hin
     rw [hp,if_pos hin]
     exact ifN rfl ⟨_,_,_,rfl,h9l,P9,h9r,Y9,⟨kvs,h9d,hk,hv⟩,e09,h9y⟩
    ·have hno:=K3 inj pgc hk K9 hin
     rw [hno,if_neg hin]
     obtain ⟨iy,v,g1,g2,hp⟩:=Qw inj Ag hk K9 hy8
     obtain ⟨z,rfl,hzl,hzc,hzw⟩:=hv iy _ _ _ g1 g2
     refine ifY rfl ⟨_,rfl,_,rfl,d,_,rfl,hp▸Rg.t (k:=key y) h9d h9y,_,rfl,z,_,rfl,rfl,(by show z.length+1≤sizeLine; rw [sizeLine_eq]; omega),_,rfl,_,rfl,d,_,rfl,Jm.t (k:=key (g y c)) h9d h9a (by rw [sizeLine_eq]; omega),?_⟩
     rw [To _ hno]
     have nrd:=hD h9r ⟨kvs,h9d,hk,hv⟩
     have nld:=hD h9l ⟨kvs,h9d,hk,hv⟩
     have tkd:=Tk.dct h9d (.dT (kvs ++ [(key (g y c),V.str (z ++ ⟨#[c]⟩))]))
     have Tc:=(Zi (H:=H9) (o:=.dT (kvs ++ [(key (g y c),V.str (z ++ ⟨#[c]⟩))])) nrd).trans h9r
     have J4:=(Zi (H:=H9) (o:=.dT (kvs ++ [(key (g y c),V.str (z ++ ⟨#[c]⟩))])) nld).trans h9l
     have N8:upd H9 d (.dT (kvs ++ [(key (g y c),V.str (z ++ ⟨#[c]⟩))])) d=some (.dT (kvs ++ [(key (g y c),V.str (z ++ ⟨#[c]⟩))])):=Zb
     have e10:=Yr e09 hd (.dT (kvs ++ [(key (g y c),V.str (z ++ ⟨#[c]⟩))]))
     have Zpj:=tkd _ _ h9a
     have P10:=P9.keep tkd
     have Y10:=Y9.keep tkd
     have Zc5:=tkd _ _ h9y
     generalize upd H9 d (.dT (kvs ++ [(key (g y c),V.str (z ++ ⟨#[c]⟩))]))=H10 at Tc J4 N8 e10 Zpj P10 Y10 Zc5
     have tkr:=Tk.lst Tc (.lst (ys ++ [V.ref r]))
     refine ⟨_,rfl,.inl ⟨rfl,_,SqL.of Tc⟩,_,rfl,rp,_,_,rfl,rfl,Tc,(by rw [sizeLine_eq]; omega),?_⟩
     refine ⟨ys ++ [V.ref r],_,_,rfl,(Zi nlr).trans J4,P10.keep tkr,Zb,?_,⟨kvs ++ [(key (g y c),V.str (z ++ ⟨#[c]⟩))],(Zi nrd.symm).trans N8,?_,?_⟩,Yr e10 Ad _,tkr _ _ Zc5⟩
     ·rw [List.drop_append_of_le_length hLO]
      exact (Y10.keep tkr).snoc (tkr _ _ Zpj)
     ·rw [zZ,zZ,hk]
      rfl
     ·intro iq kq vq xq a1 a2
      rcases xB iq kvs.length with lt | ge
      ·rw [zU lt] at a1
       rw [zU (by omega)] at a2
       obtain ⟨z',b1,b2,b3,b4⟩:=hv iq kq vq xq a1 a2
       exact ⟨z',b1,by rw [zK]; omega,b3,b4⟩
      ·rw [zX ge] at a1
       rw [zX (by omega),← hkl] at a2
       cases hq:iq - kvs.length with
       | zero=>
        rw [hq] at a1 a2
        cases a1
        cases a2
        have hcs:(z ++ (⟨#[c]⟩:Str)).cps.toList=z.cps.toList ++ [c]:=uB ..
        refine ⟨_,rfl,?_,λd hd=>?_,?_⟩
        ·rw [zK,Zaq z c]
         show _≤O8.length+1
         omega
        ·rw [hcs] at hd
         rcases yS.mp hd with q | q
         ·exact hzc d q
         ·rw [zT.mp q]; exact hcl
        ·rw [hcs,vR,hzw]
         rfl
       | succ n=>rw [hq] at a1; simp at a1
   ·rintro σ H8 ⟨ys,v7,v8,rfl,h8l,P8,h8r,Y8,T8,e8,_⟩
    rw [xS (by unfold TL; rw [zA]; exact zI _),← Mo] at Y8 T8
    exact ⟨_,_,_,_,rfl,h8l,P8,h8r,Y8,T8,e8⟩
  ·rintro σ H7 ⟨ys,v6,v7,v8,rfl,h7l,P7,h7r,Y7,T7,e7⟩
   have hij:i+xs.length=L.length:=by omega
   rw [hij] at Y7 T7
   have Fo:L.length≤(Zo id (TL l g) b L.length).length:=by
    rw [← hL]
    exact (Wy (k:=id) (T:=TL l g) (b:=b) (i:=i) (Zo id (TL l g) b i).length (by rw [hL]; omega)).length_le
   exact ⟨_,rfl,217 - L.length,by omega,L.length,rp,ys,_,_,_,_,rfl,Fo,rfl,Ad,h7r,Y7,T7,e7⟩
 ·have hge:L.length≤i:=by
   rcases xB i L.length with z | z
   ·refine absurd ?_ c1
    cases hdr:xs with
    | nil=>
     rw [hdr] at hxl
     have h0:([]:List V).length=0:=rfl
     omega
    | cons=>rfl
   ·exact z
  obtain ⟨kvs,h5d,hk,hv⟩:=T5
  refine ⟨_,rfl,k d H5 i hd e5 ⟨kvs,h5d,by rw [hL]; exact hk,λi' k v x q1 q2=>let ⟨z,a,b,r⟩:=hv i' k v x q1 (by rw [← hL]; exact q2); ⟨z,a,by omega,r⟩⟩ (by rw [hL]; exact hge)⟩
inductive Zjl (f:Addr) (fd:FuncData) (pl:Nat→Prop) (e:Nat→Bool) (G:Hp→Prop) (vs:List V) (H:Hp) (Q:VK):Prop
 | mk (x:_) (h1:vs=[nI x]) (h2:pl x) (h3:H f=some (FnO f fd)) (h4:G H) (h5:∀ H',Zr H H'→Q (.bl (e x)) H'):Zjl f fd pl e G vs H Q
def spEd (f:Addr) (fd:FuncData) (pl:Nat→Prop) (e:Nat→Bool) (G:Hp→Prop):Sp:=λvs H Q u3_=>Zjl f fd pl e G vs H Q
def Rf (H:Hp) (m:Addr) (l:Str) (b:Nat) (es:List Nat) (st:List (List Nat)):Prop:=∃ (e s:Addr) (ras:List Addr),H m=some (.tup [.str l,nI b,.ref e,.ref s])∧H e=some (.tup (es.map nI))∧H s=some (.tup (ras.map V.ref))∧ras.length=st.length∧∀ (i:Nat) a r,ras[i]? = some a→st[i]? = some r→H a=some (.tup (r.map nI))
theorem Vf.ras {H:Hp}:∀ {xs:List V} {rs:List (List Nat)},Vf H xs rs→∃ ras:List Addr,xs=ras.map V.ref∧ras.length=rs.length∧∀ (i:Nat) a r,ras[i]? = some a→rs[i]? = some r→H a=some (.tup (r.map nI))
 | [],[],_=>⟨[],rfl,rfl,λi a r h=>by simp at h⟩
 | [],_ :: _,h=>nomatch h.1
 | _ :: _,[],h=>nomatch h.1
 | x :: xs,r :: rs,h=>by
  obtain ⟨c,e,q⟩:=h.2 0 x r rfl rfl
  obtain ⟨ras,e1,e2,e3⟩:=Vf.ras (H:=H) (xs:=xs) (rs:=rs) ⟨by simpa using h.1,λi y t a b=>h.2 (i+1) y t (by simpa using a) (by simpa using b)⟩
  refine ⟨c :: ras,by rw [e,e1]; rfl,by rw [yR,yR,e2],λi a t p1 p2=>?_⟩
  cases i with
  | zero=>cases p1; cases p2; exact q
  | succ i=>exact e3 i a t (by simpa using p1) (by simpa using p2)
def nbK (o:List Nat) (i:Nat):List (Key × V):=(List.range i).map λj=>(kI (o.getD j 0),nI j)
theorem Dp (o:List Nat):(nbK o o.length).map (·.1)=o.map kI:=by
 unfold nbK
 rw [yD]
 refine tU λj=>?_
 rw [zE,zE]
 rcases xB j o.length with z | z
 ·rw [wZ z,zC z]
  show some (kI (o.getD j 0))=some (kI o[j])
  rw [zD,zC z]
  rfl
 ·rw [xE (by rw [zV]; exact z),xE z]
  rfl
theorem Zh4 {o:List Nat} (nd:o.Nodup) {x:Nat} (hx:x∈o):X0 (nbK o o.length) (kI x)=some (nI (o.idxOf x)):=by
 obtain ⟨p,hp,e,ek⟩:=Ow (Dp o) hx
 rw [e]
 obtain ⟨j,hj,rfl⟩:=zY.mp hp
 have hj':=yN.mp hj
 have ex:o.getD j 0=x:=Sn ek
 rw [zD,zC hj'] at ex
 have ex':o[j]=x:=ex
 rw [← ex',yM nd j hj']
theorem Zh5 {o:List Nat} (nd:o.Nodup) {i:Nat} (hi:i < o.length):X0 (nbK o i) (kI (o.getD i 0))=none:=by
 have hk:(nbK o i).map (·.1)=(o.take i).map kI:=by
  unfold nbK
  rw [yD]
  refine tU λj=>?_
  rw [zE,zE]
  rcases xB j i with z | z
  ·rw [wZ z,tI z,zC (by omega)]
   show some (kI (o.getD j 0))=some (kI o[j])
   rw [zD,zC (by omega)]
   rfl
  ·rw [xE (by rw [zV]; exact z),xE (by rw [zS]; omega)]
   rfl
 refine Fj hk λz=>?_
 rw [zD,zC hi] at z
 obtain ⟨j,hj,e⟩:=yU z
 rw [zS] at hj
 rw [List.getElem_take] at e
 have e':o[j]'(by omega)=o[i]:=e
 have h1:=yM nd j (by omega)
 have h2:=yM nd i hi
 rw [e',h2] at h1
 omega
inductive Zjj (P:Program) (w:World) (K:W.Frag) (mg:Str→Option Value) (base:Heap) (n:Nat) (vs:List V) (H:Hp) (Q:VK):Prop
 | mk (f:Addr) (fd:FuncData) (ps:List Str) (f2:Addr) (fd2:FuncData) (ps2:List Str) (l:Str) (b:Nat) (g:Nat→Nat→Nat) (e:Nat→Bool) (pl:Nat→Prop) (G:Hp→Prop) (h1:Yt P w K mg base CX0 n f fd ps (Zn1 f fd l g pl G)) (h2:Binds K fd ps []) (h3:Yt P w K mg base CX0 n f2 fd2 ps2 (spEd f2 fd2 pl e G)) (h4:Binds K fd2 ps2 []) (h5:(∀ H1 H2,Zr H1 H2→G H1→G H2)) (h6:vs=[.str l,nI b,.ref f,.ref f2]) (h7:pl b) (h8:(∀ x,pl x→x < 216∧∀ c∈l.cps.toList,pl (g x c))) (h9:l.length≤3) (h10:H f=some (FnO f fd)) (h11:H f2=some (FnO f2 fd2)) (h12:G H) (h13:∀ m H' N,Zr H H'→(Zo id (TL l g) b N).length≤N→Rf H' m l 0 (Xg (Zo id (TL l g) b N) e) (Yk id (TL l g) (Zo id (TL l g) b N))→Q (.ref m) H'):Zjj P w K mg base n vs H Q
def Zk3 (P:Program) (w:World) (K:W.Frag) (mg:Str→Option Value) (base:Heap) (n:Nat):Sp:=λvs H Q u3_=>Zjj P w K mg base n vs H Q
def mfD (l:Str) (b:Nat) (fv fe nd ep rp:Addr) (v5:Option V) (g:Nat→Nat→Nat) (o:List Nat) (e:Nat→Bool) (H5:Hp) (i:Nat) (σ:L2.St) (H10:Hp):Prop:=∃ (v6:Option V) (ys:List V),σ=[some (.str l),some (nI b),some (.ref fv),some (.ref fe),some (.ref nd),v5,v6,some (.ref ep),some (.ref rp)]∧H10 rp=some (.lst ys)∧Vf H10 ys ((Yk id (TL l g) o).take i)∧H10 ep=some (.tup ((Xg o e).map nI))∧Zr H5 H10
theorem Mu {n:Nat} {f:Addr} {fd:FuncData} (F:Fun K "machine_from" "machine_from" Ym f fd) (Z:Blt mg) (Qj:Cal P w K mg base "walked" (n+1) ["letters","begin","step"] (Zk2 P w K mg base n)):Yt P w K mg base CX0 (n+2) f fd ["letters","begin","step","is_end"] (Zk3 P w K mg base n):=by
 refine F.ok Z0 (λvs H Q E h=>?_) (λcdv A outer s H vs Q E hr h=>?_)
 ·obtain ⟨f,fd,ps,f2,fd2,ps2,l,b,g,e,pl,G,_,_,_,_,_,rfl,_⟩:=h
  rfl
 obtain ⟨fv,fdv,ps,fe,fde,ps2,l,b,g,e,pl,G,V8,V7,Mg,Me,hG,rfl,hb,hpl,hl,hf,hf2,hGH,k⟩:=h
 refine ⟨_,(Ze (Zm (i:=4) Z0.nd (by rfl) (Or.inr (by rfl)) Zey) 
   (Ze (Xq yB (by rfl) (Zew (by rfl) Z.enumerate (Ys Qj (hr.mono (by omega)) (Za (pv 0) (Za (pv 1) (Za (pv 2) Zc))))) (Vq (K:=K) (n:=2) (by rfl) (Yg (Zl (i:=5) Z0.nd (by rfl) (Or.inl (by rfl))) (Yg (Zl (i:=6) Z0.nd (by rfl) (Or.inr (by rfl))) Vp))) 
    (Zj (Oo (W8 hr) (pv 4) (pv 6) (pv 5) rfl))) 
   (Ze (Zm (i:=7) Z0.nd (by rfl) (Or.inl (by rfl)) (Zs (Z3 (K:=K)) (by rfl) Z.tuple Z7 (Za (Yw (sc:=Zg Ym) (Nm:=["letters","begin","step","is_end","numbers","number","place","ends","steps"]) (own:=["place"]) (fr:=[3,4]) ⟨rfl,by decide +kernel,by decide +kernel,by decide +kernel,by decide +kernel⟩ (by rfl) (Yi (by decide)) (Za7 (pv 4)) (λd=>(Zl (i:=0) U2 (by rfl) (Or.inl (by rfl)))) (λd=>(Uy (Xo (K:=K) (Tr (i:=1) Mg (hr.mono (by omega)) Me (Za (pv 0) Zc)) (λ_=>rfl)))) (λd=>(Uz (W8 hr) (pv 2) (pv 0) (λ_ _=>rfl)))) Zc))) 
   (Ze (Zm (i:=8) Z0.nd (by rfl) (Or.inl (by rfl)) (X2 Zc)) 
   (Ze (Xq yB (by rfl) (Za7 (pv 4)) (Zl (i:=6) Z0.nd (by rfl) (Or.inr (by rfl))) 
    (Zj (Xw (Xh (K:=K) zW yI yJ Xf (pv 8) (Za (Zs (Z3 (K:=K)) (by rfl) Z.tuple Z7 (Za (Yw (sc:=Zg Ym) (Nm:=["letters","begin","step","is_end","numbers","number","place","ends","steps"]) (own:=["letter"]) (fr:=[2,4,6]) ⟨rfl,by decide +kernel,by decide +kernel,by decide +kernel,by decide +kernel⟩ (by rfl) (Yi (by decide)) (Rp (pv 0)) (λd=>(Zl (i:=0) U1 (by rfl) (Or.inl (by rfl)))) (λd=>Y5) (λd=>(Uz (W8 hr) (pv 2) (Tr (i:=1) V8 (hr.mono (by omega)) V7 (Za (pv 3) (Za (pv 0) Zc))) (λ_ _=>rfl)))) Zc)) Zc))))) 
   (Zj (Zz (Ww (Za (pv 0) (Za Zh (Za (pv 7) (Za (Zs (Z3 (K:=K)) (by rfl) Z.tuple Z7 (Za (pv 8) Zc)) Zc)))))))))))),?_⟩
 refine (let zz0:TS:=_; let zz1:TS:=Zt _ zz0; let zz2:TS:=Zt _ zz1; let zz3:TS:=Zt _ zz2; let zz4:TS:=Zt _ zz3; (?_:Zt _ zz4 _ _ _))
 have hT:∀ x,pl x→∀ y∈TL l g x,pl y:=λx hx y hy=>by
  obtain ⟨c,hc,e⟩:=zY.mp hy
  rw [← e]
  exact (hpl x hx).2 c hc
 refine λnd hnd=>?_
 have s1:=Zd hnd (.dK [])
 have h1n:upd H nd (.dK []) nd=some (.dK []):=Zb
 generalize upd H nd (.dK [])=H1 at s1 h1n
 refine ⟨_,rfl,_,rfl,_,rfl,fv,fdv,ps,l,b,g,pl,G,V8,V7,hG,rfl,hb,hpl,s1 _ _ hf,hG _ _ s1 hGH,λd H2 N hd e2 T2 hN=>?_⟩
 have oL:(Zo id (TL l g) b N).length≤216:=Ui hb hT (λx hx=>(hpl x hx).1) N
 have oP:∀ y∈Zo id (TL l g) b N,pl y:=Vc hb hT N
 have oN:(Zo id (TL l g) b N).Nodup:=by
  have:=U0 (k:=id) (T:=TL l g) (b:=b) N
  rwa [wN] at this
 have oM:∀ x∈Zo id (TL l g) b N,∀ c∈l.cps.toList,g x c∈Zo id (TL l g) b N:=λx hx c hc=>by
  obtain ⟨j,hj,ej⟩:=yU hx
  have:=Uh (k:=id) (T:=TL l g) (b:=b) (n:=N) (j:=j) (x:=x) (y:=g x c) (by rw [zC hj,ej]) (by omega) (zY.mpr ⟨c,hc,rfl⟩)
  rw [wN] at this
  exact this
 replace k:=λm H'=>k m H' N
 generalize Zo id (TL l g) b N=o at k hN T2 oL oP oN oM
 have hd0:=none_of s1 hd
 obtain ⟨kvs,h2d,hkk,hkv⟩:=T2
 have nnd:nd≠d:=Zf h1n hd
 refine ⟨d,kvs,rfl,.inl ⟨h2d,λob=>?_⟩⟩
 have h3n:upd H2 d (.frz ob (.dK kvs)) nd=some (.dK []):=(Zi nnd).trans (e2 _ _ h1n)
 have e3:Zr H (upd H2 d (.frz ob (.dK kvs))):=Yr (s1.trans e2) hd0 _
 have h3d:upd H2 d (.frz ob (.dK kvs)) d=some (.frz ob (.dK kvs)):=Zb
 generalize upd H2 d (.frz ob (.dK kvs))=H3 at h3n e3 h3d
 have hkx:(kvs.map λp=>kV p.1)=o.map nI:=by
  have:(kvs.map λp=>kV p.1)=(kvs.map (·.1)).map kV:=by rw [yD]; rfl
  rw [this,hkk,yD]
  rfl
 refine Ja (Sq:=λH xs=>H d=some (.frz ob (.dK kvs))∧xs=kvs.map λp=>kV p.1) (xs:=o.map nI) (λi σ H4=>∃ (v5 v6:Option V),σ=[some (.str l),some (nI b),some (.ref fv),some (.ref fe),some (.ref nd),v5,v6,none,none]∧H4 nd=some (.dK (nbK o i))∧H4 d=some (.frz ob (.dK kvs))∧Zr H H4)
  ⟨none,none,rfl,h3n,h3d,e3⟩ (λi σ H4 _ h=>?_) ?_ ?_
 ·obtain ⟨_,_,_,_,h4,_⟩:=h
  exact ⟨h4,hkx.symm⟩
 ·rintro i x σ H4 p hx ⟨v5,v6,rfl,h4n,h4d,e4⟩ hp
  rw [zE] at hx
  cases hxx:o[i]? with
  | none=>rw [hxx] at hx; cases hx
  | some y=>
   rw [hxx] at hx
   cases hx
   have hil:=(zF.mp hxx).1
   have hyD:o.getD i 0=y:=by rw [zD,hxx]; rfl
   have s5:=Zd hp (.tup [V.int (i:Int),nI y])
   have h5p:upd H4 p (.tup [V.int (i:Int),nI y]) p=some (.tup [V.int (i:Int),nI y]):=Zb
   generalize upd H4 p (.tup [V.int (i:Int),nI y])=H5 at s5 h5p
   have Zio:=Zh5 oN hil
   rw [hyD] at Zio
   refine ⟨p,_,rfl,SqT.of h5p,rfl,_,_,rfl,_,_,rfl,rfl,?_⟩
   refine ⟨_,rfl,_,rfl,_,rfl,nd,_,rfl,Jm.k (k:=kI y) (s5 _ _ h4n) (by unfold nbK; rw [zA,zV,sizeLine_eq]; omega),?_⟩
   rw [To _ Zio]
   refine ⟨_,_,rfl,?_,(Zi nnd.symm).trans (s5 _ _ h4d),Yr (e4.trans s5) hnd _⟩
   refine Zb.trans ?_
   unfold nbK
   rw [wW,zZ]
   show _=some (HO.dK (_ ++ [(kI (o.getD i 0),nI i)]))
   rw [hyD]
   rfl
 rintro σ H4 ⟨v5,v6,rfl,h4n,_,e4⟩
 rw [zA] at h4n
 have kat:∀ {i:Nat} {q:Key} {v:V},(nbK o o.length)[i]? = some (q,v)→∃ y,o[i]? = some y∧q=kI y:=λ{i q v} h=>by
  have h1:((nbK o o.length).map (·.1))[i]? = some q:=by rw [zE,h]; rfl
  rw [Dp,zE] at h1
  cases hc:o[i]? with
  | none=>rw [hc] at h1; cases h1
  | some y=>rw [hc] at h1; exact ⟨y,rfl,(Option.some.inj h1).symm⟩
 have nbl:(nbK o o.length).length=o.length:=by unfold nbK; rw [zA,zV]
 refine ⟨_,rfl,nd,_,rfl,.inl ⟨h4n,λon=>?_⟩⟩
 have e5:Zr H (upd H4 nd (.frz on (.dK (nbK o o.length)))):=Yr e4 hnd _
 have h5n:upd H4 nd (.frz on (.dK (nbK o o.length))) nd=some (.frz on (.dK (nbK o o.length))):=Zb
 generalize upd H4 nd (.frz on (.dK (nbK o o.length)))=H5 at e5 h5n
 have Zgl:∀ {H6:Hp} {x:Nat},Zr H5 H6→x∈o→Rg H6 nd (nI x) (some (nI (o.idxOf x))):=λ{H6 x} e6 hx=>by
  rw [← Zh4 oN hx]
  exact .inl ⟨_,kI x,.inr ⟨on,e6 _ _ h5n⟩,rfl,rfl⟩
 refine Zdf (a:=nd) (o:=on) (kvs:=nbK o o.length) (λi acc H6=>acc=(((List.range i).filter λj=>e (o.getD j 0)).map nI)∧Zr H5 H6) (Zw (by omega)) ⟨rfl,Zr.refl _⟩
  (λi acc H6 q=>by rw [q.1,zA]; exact yG (xO _ _) (by rw [zV]; exact zI _)) (λi acc H6 q=>q.2 _ _ h5n) (λi acc H6 q v hq p=>?_) (λacc H6 p y hy=>?_)
 ·obtain ⟨rfl,e6⟩:=p
  obtain ⟨y,hy,rfl⟩:=kat hq
  have hyD:o.getD i 0=y:=by rw [zD,hy]; rfl
  have hym:=zJ hy
  have e06:=e5.trans e6
  refine ⟨rfl,e06 _ _ hf2,_,rfl,e06 _ _ hf2,y,rfl,oP y hym,e06 _ _ hf2,hG _ _ e06 hGH,λH7 e7=>⟨_,rfl,?_⟩⟩
  have hfl:((List.range (i+1)).filter λj=>e (o.getD j 0))=((List.range i).filter λj=>e (o.getD j 0)) ++ if e y=true then [i] else []:=by
   rw [wW,wU,vD,hyD]
   rfl
  rw [hfl,zZ]
  refine Wu (λc=>?_) (λc=>?_)
  ·rw [if_pos c]
   refine ⟨_,rfl,_,rfl,nd,_,rfl,Zgl (e6.trans e7) hym,?_,e6.trans e7⟩
   have:o.idxOf y=i:=by
    have h1:=yM oN i (zF.mp hy).1
    rw [(zF.mp hy).2] at h1
    exact h1
   rw [this]
   rfl
  ·rw [if_neg c]
   exact ⟨by rw [wQ,xF],e6.trans e7⟩
 obtain ⟨rfl,e6⟩:=p
 rw [nbl]
 have t7:=Zd hy (.lst (((List.range o.length).filter λj=>e (o.getD j 0)).map nI))
 have h7y:upd H6 y (.lst (((List.range o.length).filter λj=>e (o.getD j 0)).map nI)) y=some (.lst (((List.range o.length).filter λj=>e (o.getD j 0)).map nI)):=Zb
 generalize upd H6 y (.lst (((List.range o.length).filter λj=>e (o.getD j 0)).map nI))=H7 at t7 h7y
 refine ⟨y,_,rfl,.inl ⟨SqL.of h7y,λep hep=>?_⟩⟩
 have t8:=Zd hep (.tup (((List.range o.length).filter λj=>e (o.getD j 0)).map nI))
 have h8e:upd H7 ep (.tup (((List.range o.length).filter λj=>e (o.getD j 0)).map nI)) ep=some (.tup ((Xg o e).map nI)):=Zb
 generalize upd H7 ep (.tup (((List.range o.length).filter λj=>e (o.getD j 0)).map nI))=H8 at t8 h8e
 refine ⟨(by show 0≤sizeLine; decide),λrp hrp=>?_⟩
 have t9:=Zd hrp (.lst [])
 have h9r:upd H8 rp (.lst []) rp=some (.lst []):=Zb
 generalize upd H8 rp (.lst [])=H9 at t9 h9r
 have e59:=((e6.trans t7).trans t8).trans t9
 have Zmi:=none_of ((e6.trans t7).trans t8) hrp
 have ner:ep≠rp:=Zf h8e hrp
 have hRl:(Yk id (TL l g) o).length=o.length:=by unfold Yk; rw [zA]
 refine ⟨_,rfl,nd,_,rfl,.inr ⟨on,e59 _ _ h5n,?_⟩⟩
 refine Zf2 (a:=nd) (o:=on) (kvs:=nbK o o.length) (mfD l b fv fe nd ep rp v5 g o e H5)
  ⟨v6,[],rfl,h9r,⟨rfl,λi x r a=>by simp at a⟩,t9 _ _ h8e,e59⟩ (λi σ H10 _ h=>?_) ?_ ?_
 ·obtain ⟨_,_,_,_,_,_,e10⟩:=h
  exact e10 _ _ h5n
 ·rintro i q v σ H10 hq ⟨v6,ys,rfl,Tc,R10,Al,e10⟩
  obtain ⟨x,hx,rfl⟩:=kat hq
  have hxm:=zJ hx
  refine ⟨_,rfl,.inl ⟨rfl,_,SqL.of Tc⟩,_,rfl,l,rfl,?_⟩
  refine O9 (cs:=l.cps.toList) (λj acc H11=>acc=(l.cps.toList.take j).map (λc=>nI (o.idxOf (g x c)))∧Zr H10 H11) (by rw [len_list]; exact Zw (by omega)) ⟨rfl,Zr.refl _⟩ (λj acc H11 q=>by rw [q.1,zA,zS]; exact xG _ _)
   (λj acc H11 c hc q=>?_) (λacc H11 q y hy=>?_)
  ·obtain ⟨rfl,e11⟩:=q
   have hcl:c∈l.cps.toList:=zJ hc
   have Mb:=e5.trans (e10.trans e11)
   refine Ss ⟨_,rfl,rfl,Mb _ _ hf,_,rfl,_,rfl,Mb _ _ hf,x,c,rfl,oP x hxm,hcl,Mb _ _ hf,hG _ _ Mb hGH,λH12 e12=>⟨nd,_,rfl,Zgl ((e10.trans e11).trans e12) (oM x hxm c hcl),?_,e11.trans e12⟩⟩
   rw [map_take hc]
  obtain ⟨rfl,e11⟩:=q
  rw [yC]
  have u1:=Zd hy (.lst (l.cps.toList.map λc=>nI (o.idxOf (g x c))))
  refine ⟨y,_,rfl,.inl ⟨SqL.of Zb,λz hz=>?_⟩⟩
  have u2:=Zd hz (.tup (l.cps.toList.map λc=>nI (o.idxOf (g x c))))
  have u02:=(e11.trans u1).trans u2
  have hyl:ys.length≤216:=by
   rw [R10.1,zS,hRl]
   omega
  have X3:(Yk id (TL l g) o)[i]? = some (l.cps.toList.map λc=>o.idxOf (g x c)):=by
   unfold Yk TL
   rw [zE,hx,uI,yD,wN]
   rfl
  have Zc4:upd (upd H11 y (.lst (l.cps.toList.map λc=>nI (o.idxOf (g x c))))) z (.tup (l.cps.toList.map λc=>nI (o.idxOf (g x c)))) z=some (.tup ((l.cps.toList.map λc=>o.idxOf (g x c)).map nI)):=by
   rw [yD]
   exact Zb
  generalize upd (upd H11 y (.lst (l.cps.toList.map λc=>nI (o.idxOf (g x c))))) z (.tup (l.cps.toList.map λc=>nI (o.idxOf (g x c))))=H12 at u2 u02 Zc4
  refine ⟨rp,_,_,rfl,rfl,u02 _ _ Tc,Zw (by omega),_,ys ++ [.ref z],rfl,Zb,?_,(Zi ner).trans (u02 _ _ Al),Yr (e10.trans u02) Zmi _⟩
  rw [yK,X3]
  refine ((R10.keep (Tk.same u02)).keep (Tk.lst (u02 _ _ Tc) _)).snoc ?_
  rw [Zi (Xm Zc4 (u02 _ _ Tc) λz=>nomatch z)]
  exact Zc4
 ·rintro σ H10 ⟨v6,ys,rfl,Tc,R10,Al,e10⟩
  rw [nbl,← hRl,yC] at R10
  obtain ⟨ras,rfl,r1,r2⟩:=R10.ras
  refine ⟨_,rfl,_,rfl,_,rfl,rp,_,rfl,.inl ⟨SqL.of Tc,λsp hsp=>⟨(by show 4≤sizeLine; decide),λm hm=>?_⟩⟩⟩
  have w1:=Zd hsp (.tup (ras.map V.ref))
  have w2:=Zd hm (.tup [V.str l,V.int 0,.ref ep,.ref sp])
  have w12:=w1.trans w2
  refine k m _ (e5.trans (e10.trans w12)) hN ⟨ep,sp,ras,Zb,w12 _ _ Al,w2 _ _ Zb,r1,λi a r q1 q2=>w12 _ _ (r2 i a r q1 q2)⟩
abbrev Yx:List (Pos × Str):=[(⟨75,4,76,56⟩,"least" ++ ".<locals>." ++ "step"),(⟨77,61,77,92⟩,"least" ++ ".<locals>." ++ "<lambda>")]
def gL (l:Str) (st:List (List Nat)) (L:List Nat) (x c:Nat):Nat:=L.getD (stp l st x c) 0
inductive Eo (Pt:Addr) (vs:List V) (H:Hp) (Q:VK):Prop
 | mk (m:Addr) (l:Str) (b:Nat) (es:List Nat) (st:List (List Nat)) (h1:vs=[.ref m]) (h2:Z9 H m l b es st) (h3:es.length≤500) (h4:Tb Pt Yx H) (h5:∀ m' k N H',Ut Pt H H'→Tb Pt Yx H'→dn (lkN st es (k+1))≤dn (lkN st es k)→(Zo id (TL l (gL l st (lkN st es (k+1)))) ((lkN st es (k+1)).getD b 0) N).length≤N→Rf H' m' l 0 (Xg (Zo id (TL l (gL l st (lkN st es (k+1)))) ((lkN st es (k+1)).getD b 0) N) λx=>decide (x∈es)) (Yk id (TL l (gL l st (lkN st es (k+1)))) (Zo id (TL l (gL l st (lkN st es (k+1)))) ((lkN st es (k+1)).getD b 0) N))→Q (.ref m') H'):Eo Pt vs H Q
def M8 (Pt:Addr):Sp:=λvs H Q u3_=>Eo Pt vs H Q
theorem Ze9 {f:Addr} {fd:FuncData} (F:Fun K "least" "least" Vn f fd) (Z:Blt mg) {cw Pt:Addr} (R0:fd.code=.ref cw) (CH:W.CodeHd base cw Pt) (BM:Oh mg base)
  (S1:Cal P w K mg base "like_rooms" 2 ["machine"] Bg) (CM:∀ base,Cal P w K mg base "machine_from" 4 ["letters","begin","step","is_end"] (Zk3 P w K mg base 2)) (CR:∀ base,Cal P w K mg base "room_behind" 1 ["machine","room","text"] Hx):Yt P w K mg base CX0 5 f fd ["machine"] (M8 Pt):=by
 refine F.okC Ka (λvs H Q E h=>?_) (λA outer s H vs Q E hr h=>?_)
 ·obtain ⟨m,l,b,es,st,rfl,_⟩:=h
  rfl
 obtain ⟨m,l,b,es,st,rfl,M,hes,hT,k⟩:=h
 have tabU:∀ x∈Yx,x.1.line=(⟨77,61,77,92⟩:Pos).line→x.1.col=(⟨77,61,77,92⟩:Pos).col→x.2 = "least" ++ ".<locals>." ++ "<lambda>":=λx hx h1 _=>by
  rcases yE.mp hx with z | z
  ·rw [z] at h1
   exact absurd h1 (by decide)
  ·rw [zT.mp z]
 have Ng:∀ x∈Yx,x.1.line=(⟨75,4,76,56⟩:Pos).line→x.1.col=(⟨75,4,76,56⟩:Pos).col→x.2 = "least" ++ ".<locals>." ++ "step":=λx hx h1 _=>by
  rcases yE.mp hx with z | z
  ·rw [z]
  ·rw [zT.mp z] at h1
   exact absurd h1 (by decide)
 let Zdv:=Yx
 have Uu:=CM base
 refine ⟨_,(Ze (Zm (i:=1) Ka.nd (by rfl) (Or.inr (by rfl)) (Ys S1 (hr.mono (by decide)) (Za (pv 0) Zc))) 
   (Ze (Gp (i:=2) (L:=Zdv) (sc:=Zg Vn) Ka.nd (by rfl) (Or.inl (by rfl)) R0 CH BM (by first | exact zM | exact zQ _ zM) Ng) 
   (Zj (Zz (Zj0 Uu (hr.mono (by decide)) (Za (Zu (Zv (K:=K)) (pv 0) Zh (λ_ _=>rfl)) (Za (Zu (Zy (K:=K)) (pv 1) (Zu (Zv (K:=K)) (pv 0) Zh (λ_ _=>rfl)) (λ_ _=>rfl)) (Za (pv 2) (Za (Zlm (L:=Zdv) (sc:=Zg Vn) R0 CH BM (by first | exact zM | exact zQ _ zM) tabU) Zc))))))))),?_⟩
 refine (let zz0:TS:=_; let zz1:TS:=Zt _ zz0; (?_:Zt _ zz1 _ _ _))
 refine ⟨_,rfl,m,l,b,es,st,rfl,M,hes,λlp k0 H1 e1 h1l hdn=>?_⟩
 have hTP:∀ {H:Hp} {a:Addr} {xs:List V},Tb Pt Yx H→H a=some (.tup xs)→a≠Pt:=λhT h z=>by
  obtain ⟨ps,hp,_⟩:=hT
  rw [z,hp] at h
  cases h
 have hTL:∀ {H:Hp} {a:Addr} {xs:List V},Tb Pt Yx H→H a=some (.lst xs)→a≠Pt:=λhT h z=>by
  obtain ⟨ps,hp,_⟩:=hT
  rw [z,hp] at h
  cases h
 have mk:∀ {H H':Hp},Tb Pt Yx H→Ut Pt H H'→Z9 H m l b es st→Z9 H' m l b es st:=λhT e M=>by
  obtain ⟨⟨e1,s1,ras,h1,h2,h3,h4,h5⟩,f,g,r⟩:=M
  exact ⟨⟨e1,s1,ras,e _ _ (hTP hT h1) h1,e _ _ (hTP hT h2) h2,e _ _ (hTP hT h3) h3,h4,λi a r q1 q2=>e _ _ (hTP hT (h5 i a r q1 q2)) (h5 i a r q1 q2)⟩,f,g,r⟩
 have M1:=M.same e1
 have hT1:=hT.same e1
 have lkl:=Sl st es (k0+1)
 have lkf:=Vm st es (k0+1)
 have hst:=M.few.2.2
 have Cb:=M.beg
 replace k:=λm' N H'=>k m' k0 N H'
 replace k:=λm' N H' a b=>k m' N H' a b hdn
 generalize lkN st es (k0+1)=L at h1l lkl lkf k
 clear hdn
 have atL:∀ j,j < st.length→atI (L.map nI) ((j:Nat):Int)=some (nI (L.getD j 0)):=λj hj=>Zk (by rw [zE,(getD_mem (l:=L) (d:=0) (by rw [lkl]; exact hj)).2]; rfl)
 refine ⟨hT1,λH2 f1 c1 ct1 doc1 e2 hT2 hf10 hf1 hc1=>?_⟩
 have M2:=mk hT1 e2 M1
 have h2l:=e2 _ _ (hTL hT1 h1l) h1l
 obtain ⟨eA,sA,ras,g1,g2,g3,g4,g5⟩:=M2.lay
 refine ⟨_,rfl,m,_,_,_,rfl,rfl,SqT.of g1,Zk (j:=0) rfl,_,rfl,_,rfl,m,_,_,_,rfl,rfl,SqT.of g1,Zk (j:=1) rfl,lp,_,_,_,rfl,rfl,SqL.of h2l,atL b Cb,_,rfl,hT2,λH3 f2 c2 ct2 e3 hT3 hf20 hf2 hc2 Us B=>?_⟩
 have M3:=mk hT2 e3 M2
 have h3l:=e3 _ _ (hTL hT2 h2l) h2l
 have Vu:=CR Us
 have hf3:=e3 _ _ (λz=>by
  obtain ⟨ps,hp,_⟩:=hT2
  rw [z,hp] at hf1
  cases hf1) hf1
 have hc3:=e3 _ _ (λz=>by
  obtain ⟨ps,hp,_⟩:=hT2
  rw [z,hp] at hc1
  cases hc1) hc1
 refine ⟨_,_,CM Us,f1,_,["room","letter"],f2,_,["room"],l,L.getD b 0,gL l st L,(λx=>decide (x∈es)),(λx=>x < st.length),(λH=>H lp=some (.lst (L.map nI))∧Z9 H m l b es st∧H c1=some (CdO c1 ("least" ++ ".<locals>." ++ "step"))∧H c2=some (CdO c2 ("least" ++ ".<locals>." ++ "<lambda>"))),?_,?_,?_,?_,?_,rfl,?_,?_,M.few.2.1,hf3,hf2,⟨h3l,M3,hc3,hc2⟩,λm' H4 N e4 hN hM=>k m' N H4 ((e1.t.trans e2).trans (e3.trans e4.t)) (hT3.same e4) hN hM⟩
 ·refine Aq (N:=["room","letter","likes","machine"]) (fv:=[.ref lp,.ref m]) ⟨rfl,rfl,rfl,by decide,rfl,by decide +kernel,by decide +kernel⟩ (B.cl (sc:=Zg Vn) [1,0] rfl (by decide +kernel) rfl rfl (λj i x a b=>?_) (λj i x a b=>?_)) (λvs H Q E h=>?_) (λvs H Q E h=>?_) (λA outer s H vs Q E hr h=>?_)
  ·match j,a,b with
   | 0,a,b=>cases a; cases b; exact ⟨rfl,rfl⟩
   | 1,a,b=>cases a; cases b; exact ⟨rfl,rfl⟩
   | j+2,a,_=>simp at a
  ·match j,a,b with
   | 0,a,b=>cases a; cases b; rfl
   | 1,a,b=>cases a; cases b; rfl
   | j+2,a,_=>simp at a
  ·obtain ⟨x,c,rfl,_⟩:=h
   rfl
  ·obtain ⟨x,c,rfl,_,_,h1,h2,_⟩:=h
   exact ⟨h1,h2.2.2.1⟩
  ·obtain ⟨x,c,rfl,hx,hc,h1,⟨hl1,hm1,_,_⟩,k⟩:=h
   refine ⟨_,(Zj (Zz (Zu (Zy (K:=K)) (pv 2) (Ys Vu (hr.mono (by decide)) (Za (pv 3) (Za (pv 0) (Za (pv 1) Zc)))) (λ_ _=>rfl)))),?_⟩
   have hlt:=Ni hm1 hx hc
   refine ⟨_,rfl,_,rfl,_,rfl,_,rfl,m,l,b,es,st,x,one c,rfl,hm1,hx,λd hd=>?_,lp,_,_,_,rfl,rfl,SqL.of hl1,atL _ hlt,k _ (Zr.refl _)⟩
   rw [zT.mp hd]
   exact hc
 ·exact .all λus hl=>match us,hl with | [_,_],_=>rfl
 ·refine Zl2 (N:=["room","machine"]) (fv:=[.ref m]) ⟨rfl,rfl,rfl,by decide,rfl,by decide +kernel,by decide +kernel⟩ (B.cl (sc:=Zg Vn) [0] rfl (by decide +kernel) rfl rfl (λj i x a b=>?_) (λj i x a b=>?_)) (λvs H Q E h=>?_) (λvs H Q E h=>?_) (λA outer s H vs Q E hr h=>?_)
  ·match j,a,b with
   | 0,a,b=>cases a; cases b; exact ⟨rfl,rfl⟩
   | j+1,a,_=>simp at a
  ·match j,a,b with
   | 0,a,b=>cases a; cases b; rfl
   | j+1,a,_=>simp at a
  ·obtain ⟨x,rfl,_⟩:=h
   rfl
  ·obtain ⟨x,rfl,_,h1,h2,_⟩:=h
   exact ⟨h1,h2.2.2.2⟩
  ·obtain ⟨x,rfl,hx,h1,⟨hl1,hm1,_,_⟩,k⟩:=h
   refine ⟨_,(We (U8 (K:=K)) (pv 0) (Zu (Zv (K:=K)) (pv 1) Zh (λ_ _=>rfl)) (by with_unfolding_all rfl)),?_⟩
   obtain ⟨eA,sA,ras,g1,g2,g3,g4,g5⟩:=hm1.lay
   refine ⟨_,rfl,_,rfl,m,_,_,_,rfl,rfl,SqT.of g1,Zk (j:=2) rfl,eA,_,rfl,.inr (SqT.of g2),rfl,Vd es,?_⟩
   have e:decide (x∈es)=inV (nI x) (es.map nI):=(Ta x es).symm
   have k2:=k _ (Zr.refl _)
   have k3:Q (V.bl (decide (x∈es))) H:=k2
   rw [e] at k3
   exact k3
 ·exact .all λus hl=>match us,hl with | [_],_=>rfl
 ·exact λH1 H2 e ⟨a1,a2,a3,a4⟩=>⟨e _ _ a1,a2.same e,e _ _ a3,e _ _ a4⟩
 ·have:=lkf.le b (by omega)
  show L.getD b 0 < st.length
  omega
 ·intro x hx
  refine ⟨yA hx hst,λc hc=>?_⟩
  have h1:=Ni M hx hc
  have:=lkf.le (stp l st x c) (by omega)
  show L.getD (stp l st x c) 0 < st.length
  omega
inductive Zd8 (f:Addr) (fd:FuncData) (key:Nat→List Key) (pl:Nat→Prop) (e:Nat→Bool) (G:Hp→Prop) (vs:List V) (H:Hp) (Q:VK):Prop
 | mk (a x:_) (h1:vs=[.ref a]) (h2:H a=some (.tup ((key x).map kV))) (h3:pl x) (h4:H f=some (FnO f fd)) (h5:G H) (h6:∀ H',Zr H H'→Q (.bl (e x)) H'):Zd8 f fd key pl e G vs H Q
def Zn2 (f:Addr) (fd:FuncData) (key:Nat→List Key) (pl:Nat→Prop) (e:Nat→Bool) (G:Hp→Prop):Sp:=λvs H Q u3_=>Zd8 f fd key pl e G vs H Q
def NbT (key:Nat→List Key) (kvs:List (List Key × V)) (o:List Nat):Prop:=kvs.map (·.1)=o.map key∧∀ (i:Nat) k v,kvs[i]? = some (k,v)→v=nI i
theorem NbT.len {key:Nat→List Key} {kvs:List (List Key × V)} {o:List Nat} (h:NbT key kvs o):kvs.length=o.length:=by
 have:=congrArg List.length h.1
 rwa [zA,zA] at this
theorem NbT.snoc {key:Nat→List Key} {kvs:List (List Key × V)} {o:List Nat} (h:NbT key kvs o) (x:Nat):NbT key (kvs ++ [(key x,nI o.length)]) (o ++ [x]):=by
 have hl:=h.len
 refine ⟨by rw [zZ,zZ,h.1]; rfl,λi k v q=>?_⟩
 rcases xB i kvs.length with z | z
 ·rw [zU z] at q
  exact h.2 i k v q
 ·rw [zX z] at q
  cases hi:i - kvs.length with
  | zero=>
   rw [hi] at q
   cases q
   rw [show i=o.length by omega]
  | succ n=>rw [hi] at q; simp at q
theorem NbT.val {key:Nat→List Key} {pl:Nat→Prop} (inj:∀ x y,pl x→pl y→key x=key y→x=y) {kvs:List (List Key × V)} {o:List Nat} (h:NbT key kvs o) (ho:∀ y∈o,pl y) (nd:o.Nodup) {x:Nat} (hx:x∈o):X0 kvs (key x)=some (nI (o.idxOf x)):=by
 obtain ⟨i,v,g1,g2,g3⟩:=Qw inj (ho x hx) h.1 ho hx
 rw [g3,h.2 i _ _ g1]
 obtain ⟨hi,e⟩:=zF.mp g2
 have:=yM nd i hi
 rw [e] at this
 rw [this]
theorem NbT.at_ {key:Nat→List Key} {kvs:List (List Key × V)} {o:List Nat} (h:NbT key kvs o) {i x:Nat} (hx:o[i]? = some x):kvs[i]? = some (key x,nI i):=by
 have hi:i < kvs.length:=by rw [h.len]; exact (zF.mp hx).1
 have e1:kvs[i]? = some kvs[i]:=zC hi
 have e2:(kvs.map (·.1))[i]? = some (key x):=by rw [h.1,zE,hx]; rfl
 rw [zE,e1] at e2
 have e3:kvs[i].1=key x:=Option.some.inj e2
 have e4:=h.2 i kvs[i].1 kvs[i].2 e1
 rw [e1,← e3,← e4]
inductive Zd6 (P:Program) (w:World) (K:W.Frag) (mg:Str→Option Value) (base:Heap) (n:Nat) (vs:List V) (H:Hp) (Q:VK):Prop
 | mk (f:Addr) (fd:FuncData) (ps:List Str) (f2:Addr) (fd2:FuncData) (ps2:List Str) (l:Str) (a0:Addr) (b:Nat) (g:Nat→Nat→Nat) (e:Nat→Bool) (key:Nat→List Key) (pl:Nat→Prop) (G:Hp→Prop) (h1:Yt P w K mg base CX0 n f fd ps (Zjh f fd l g key pl G)) (h2:Binds K fd ps []) (h3:Yt P w K mg base CX0 n f2 fd2 ps2 (Zn2 f2 fd2 key pl e G)) (h4:Binds K fd2 ps2 []) (h5:(∀ H1 H2,Zr H1 H2→G H1→G H2)) (h6:vs=[.str l,.ref a0,.ref f,.ref f2]) (h7:H a0=some (.tup ((key b).map kV))) (h8:pl b) (h9:(∀ x,pl x→x < 216∧∀ c∈l.cps.toList,pl (g x c))) (h10:(∀ x y,pl x→pl y→key x=key y→x=y)) (h11:l.length≤3) (h12:H f=some (FnO f fd)) (h13:H f2=some (FnO f2 fd2)) (h14:G H) (h15:∀ m H' N,Zr H H'→(Zo id (TL l g) b N).length≤N→Rf H' m l 0 (Xg (Zo id (TL l g) b N) e) (Yk id (TL l g) (Zo id (TL l g) b N))→Q (.ref m) H'):Zd6 P w K mg base n vs H Q
def Zd7 (P:Program) (w:World) (K:W.Frag) (mg:Str→Option Value) (base:Heap) (n:Nat):Sp:=λvs H Q u3_=>Zd6 P w K mg base n vs H Q
def mtD (l:Str) (a0 fv fe nd ep rp:Addr) (v5:Option V) (g:Nat→Nat→Nat) (o:List Nat) (e:Nat→Bool) (H5 H9:Hp) (i:Nat) (σ:L2.St) (H10:Hp):Prop:=∃ (v6:Option V) (ys:List V),σ=[some (.str l),some (.ref a0),some (.ref fv),some (.ref fe),some (.ref nd),v5,v6,some (.ref ep),some (.ref rp)]∧H10 rp=some (.lst ys)∧Vf H10 ys ((Yk id (TL l g) o).take i)∧H10 ep=some (.tup ((Xg o e).map nI))∧Zr H5 H10∧Tk H9 H10
theorem Nu {n:Nat} {f:Addr} {fd:FuncData} (F:Fun K "machine_from" "machine_from" Ym f fd) (Z:Blt mg) (Qj:Cal P w K mg base "walked" (n+1) ["letters","begin","step"] (Zd4 P w K mg base n)):Yt P w K mg base CX0 (n+2) f fd ["letters","begin","step","is_end"] (Zd7 P w K mg base n):=by
 refine F.ok Z0 (λvs H Q E h=>?_) (λcdv A outer s H vs Q E hr h=>?_)
 ·obtain ⟨f,fd,ps,f2,fd2,ps2,l,a0,b,g,e,key,pl,G,_,_,_,_,_,rfl,_⟩:=h
  rfl
 obtain ⟨fv,fdv,ps,fe,fde,ps2,l,a0,b,g,e,key,pl,G,V8,V7,Mg,Me,hG,rfl,ha0,hb,hpl,inj,hl,hf,hf2,hGH,k⟩:=h
 refine ⟨_,(Ze (Zm (i:=4) Z0.nd (by rfl) (Or.inr (by rfl)) Kf) 
   (Ze (Xq yB (by rfl) (Zev (by rfl) Z.enumerate (Ys Qj (hr.mono (by omega)) (Za (pv 0) (Za (pv 1) (Za (pv 2) Zc))))) (Vq (K:=K) (n:=2) (by rfl) (Yg (Zl (i:=5) Z0.nd (by rfl) (Or.inl (by rfl))) (Yg (Zl (i:=6) Z0.nd (by rfl) (Or.inr (by rfl))) Vp))) 
    (Zj (Oo (W8 hr) (pv 4) (pv 6) (pv 5) rfl))) 
   (Ze (Zm (i:=7) Z0.nd (by rfl) (Or.inl (by rfl)) (Zs (Z3 (K:=K)) (by rfl) Z.tuple Z7 (Za (Yw (sc:=Zg Ym) (Nm:=["letters","begin","step","is_end","numbers","number","place","ends","steps"]) (own:=["place"]) (fr:=[3,4]) ⟨rfl,by decide +kernel,by decide +kernel,by decide +kernel,by decide +kernel⟩ (by rfl) (Yi (by decide)) (Dc (pv 4)) (λd=>(Zl (i:=0) U2 (by rfl) (Or.inl (by rfl)))) (λd=>(Uy (Xo (K:=K) (Tr (i:=1) Mg (hr.mono (by omega)) Me (Za (pv 0) Zc)) (λ_=>rfl)))) (λd=>(Uz (W8 hr) (pv 2) (pv 0) (λ_ _=>rfl)))) Zc))) 
   (Ze (Zm (i:=8) Z0.nd (by rfl) (Or.inl (by rfl)) (X2 Zc)) 
   (Ze (Xq yB (by rfl) (Dc (pv 4)) (Zl (i:=6) Z0.nd (by rfl) (Or.inr (by rfl))) 
    (Zj (Xw (Xh (K:=K) zW yI yJ Xf (pv 8) (Za (Zs (Z3 (K:=K)) (by rfl) Z.tuple Z7 (Za (Yw (sc:=Zg Ym) (Nm:=["letters","begin","step","is_end","numbers","number","place","ends","steps"]) (own:=["letter"]) (fr:=[2,4,6]) ⟨rfl,by decide +kernel,by decide +kernel,by decide +kernel,by decide +kernel⟩ (by rfl) (Yi (by decide)) (Rp (pv 0)) (λd=>(Zl (i:=0) U1 (by rfl) (Or.inl (by rfl)))) (λd=>Y5) (λd=>(Uz (W8 hr) (pv 2) (Tr (i:=1) V8 (hr.mono (by omega)) V7 (Za (pv 3) (Za (pv 0) Zc))) (λ_ _=>rfl)))) Zc)) Zc))))) 
   (Zj (Zz (Ww (Za (pv 0) (Za Zh (Za (pv 7) (Za (Zs (Z3 (K:=K)) (by rfl) Z.tuple Z7 (Za (pv 8) Zc)) Zc)))))))))))),?_⟩
 refine (let zz0:TS:=_; let zz1:TS:=Zt _ zz0; let zz2:TS:=Zt _ zz1; let zz3:TS:=Zt _ zz2; let zz4:TS:=Zt _ zz3; (?_:Zt _ zz4 _ _ _))
 have hT:∀ x,pl x→∀ y∈TL l g x,pl y:=λx hx y hy=>by
  obtain ⟨c,hc,e⟩:=zY.mp hy
  rw [← e]
  exact (hpl x hx).2 c hc
 refine λnd hnd=>?_
 have s1:=Zd hnd (.dT [])
 have h1n:upd H nd (.dT []) nd=some (.dT []):=Zb
 generalize upd H nd (.dT [])=H1 at s1 h1n
 refine ⟨_,rfl,_,rfl,_,rfl,fv,fdv,ps,l,a0,b,g,key,pl,G,V8,V7,hG,rfl,s1 _ _ ha0,hb,hpl,inj,s1 _ _ hf,hG _ _ s1 hGH,λd H2 N hd e2 T2 hN=>?_⟩
 have oL:(Zo id (TL l g) b N).length≤216:=Ui hb hT (λx hx=>(hpl x hx).1) N
 have oP:∀ y∈Zo id (TL l g) b N,pl y:=Vc hb hT N
 have oN:(Zo id (TL l g) b N).Nodup:=by
  have:=U0 (k:=id) (T:=TL l g) (b:=b) N
  rwa [wN] at this
 have oM:∀ x∈Zo id (TL l g) b N,∀ c∈l.cps.toList,g x c∈Zo id (TL l g) b N:=λx hx c hc=>by
  obtain ⟨j,hj,ej⟩:=yU hx
  have:=Uh (k:=id) (T:=TL l g) (b:=b) (n:=N) (j:=j) (x:=x) (y:=g x c) (by rw [zC hj,ej]) (by omega) (zY.mpr ⟨c,hc,rfl⟩)
  rw [wN] at this
  exact this
 replace k:=λm H'=>k m H' N
 generalize Zo id (TL l g) b N=o at k hN T2 oL oP oN oM
 have hd0:=none_of s1 hd
 obtain ⟨kvs,h2d,hkk,hkv⟩:=T2
 have hkl:kvs.length=o.length:=by
  have:=congrArg List.length hkk
  rwa [zA,zA] at this
 have nnd:nd≠d:=Zf h1n hd
 refine ⟨d,kvs,rfl,h2d,λob bs KB=>?_⟩
 have h3n:upd H2 d (.frz ob (.dT kvs)) nd=some (.dT []):=(Zi nnd).trans (e2 _ _ h1n)
 have e3:Zr H (upd H2 d (.frz ob (.dT kvs))):=Yr (s1.trans e2) hd0 _
 have h3d:upd H2 d (.frz ob (.dT kvs)) d=some (.frz ob (.dT kvs)):=Zb
 generalize upd H2 d (.frz ob (.dT kvs))=H3 at h3n e3 h3d KB
 have hbl:=KB.1
 have kb:∀ (i:Nat) a x,bs[i]? = some a→o[i]? = some x→H3 a=some (.tup ((key x).map kV)):=λi a x q1 q2=>by
  have hi:i < kvs.length:=by rw [hkl]; exact (zF.mp q2).1
  have e1:kvs[i]? = some (kvs[i].1,kvs[i].2):=zC hi
  have e2:(kvs.map (·.1))[i]? = some (key x):=by rw [hkk,zE,q2]; rfl
  rw [zE,e1] at e2
  have e3:kvs[i].1=key x:=Option.some.inj e2
  have:=KB.2 i a _ _ q1 e1
  rwa [e3] at this
 refine Ja (Sq:=λH xs=>H d=some (.frz ob (.dT kvs))∧xs=bs.map V.ref) (xs:=bs.map V.ref) (λi σ H4=>∃ (v5 v6:Option V) (ns:List (List Key × V)),σ=[some (.str l),some (.ref a0),some (.ref fv),some (.ref fe),some (.ref nd),v5,v6,none,none]∧H4 nd=some (.dT ns)∧NbT key ns (o.take i)∧H4 d=some (.frz ob (.dT kvs))∧Zr H H4∧Tk H3 H4)
  ⟨none,none,[],rfl,h3n,⟨rfl,λi k v q=>by simp at q⟩,h3d,e3,Tk.same (Zr.refl _)⟩ (λi σ H4 _ h=>?_) ?_ ?_
 ·obtain ⟨_,_,_,_,_,_,h4,_⟩:=h
  exact ⟨h4,rfl⟩
 ·rintro i x σ H4 p hx ⟨v5,v6,ns,rfl,h4n,N4,h4d,e4,t4⟩ hp
  rw [zE] at hx
  cases hxx:bs[i]? with
  | none=>rw [hxx] at hx; cases hx
  | some ba=>
   rw [hxx] at hx
   cases hx
   have hil:i < o.length:=by rw [← hkl,← hbl]; exact (zF.mp hxx).1
   have hoy:o[i]? = some (o[i]'hil):=zC hil
   generalize o[i]'hil=y at hoy
   have hba:=t4 _ _ (kb i ba y hxx hoy)
   have s5:=Zd hp (.tup [V.int (i:Int),V.ref ba])
   have h5p:upd H4 p (.tup [V.int (i:Int),V.ref ba]) p=some (.tup [V.int (i:Int),V.ref ba]):=Zb
   generalize upd H4 p (.tup [V.int (i:Int),V.ref ba])=H5 at s5 h5p
   have hnl:=N4.len
   rw [zS] at hnl
   have Zio:X0 ns (key y)=none:=K3 inj (oP y (zJ hoy)) N4.1 (λz hz=>oP z (vS hz)) λz=>by
    obtain ⟨j,hj,e⟩:=yU z
    rw [zS] at hj
    rw [List.getElem_take] at e
    have h1:=yM oN j (by omega)
    have h2:=yM oN i hil
    rw [(zF.mp hoy).2] at h2
    rw [e,h2] at h1
    omega
   have tkd:=Tk.dct (s5 _ _ h4n) (.dT (ns ++ [(key y,V.int (i:Int))]))
   refine ⟨p,_,rfl,SqT.of h5p,rfl,_,_,rfl,_,_,rfl,rfl,?_⟩
   refine ⟨_,rfl,_,rfl,_,rfl,nd,_,rfl,Jm.t (k:=key y) (s5 _ _ h4n) (s5 _ _ hba) (by rw [sizeLine_eq]; omega),?_⟩
   rw [To _ Zio]
   refine ⟨_,_,_,rfl,Zb,?_,(Zi nnd.symm).trans (s5 _ _ h4d),Yr (e4.trans s5) hnd _,(t4.trans (Tk.same s5)).trans tkd⟩
   rw [yK,hoy]
   have:=N4.snoc y
   rw [zS,tF (by omega)] at this
   exact this
 rintro σ H4 ⟨v5,v6,ns,rfl,h4n,N4,_,e4,_⟩
 rw [zA,hbl,hkl,yC] at N4
 have nbl:=N4.len
 refine ⟨_,rfl,nd,_,rfl,.inl ⟨h4n,λon bs2 KB2=>?_⟩⟩
 have e5:Zr H (upd H4 nd (.frz on (.dT ns))):=Yr e4 hnd _
 have h5n:upd H4 nd (.frz on (.dT ns)) nd=some (.frz on (.dT ns)):=Zb
 generalize upd H4 nd (.frz on (.dT ns))=H5 at e5 h5n KB2
 have kat:∀ {H6:Hp} {bs:List Addr},Ji H6 ns bs→∀ {i:Nat} {a:Addr},bs[i]? = some a→∃ y,o[i]? = some y∧H6 a=some (.tup ((key y).map kV)):=λ{H6 bs} KB {i a} h=>by
  have hi:i < o.length:=by rw [← nbl,← KB.1]; exact (zF.mp h).1
  exact ⟨o[i],zC hi,KB.2 i a _ _ h (N4.at_ (zC hi))⟩
 have Zgl:∀ {H6:Hp} {x:Nat} {a:Addr},Zr H5 H6→x∈o→H6 a=some (.tup ((key x).map kV))→Rg H6 nd (.ref a) (some (nI (o.idxOf x))):=λ{H6 x a} e6 hx ha=>by
  rw [← N4.val inj oP oN hx]
  exact .inr ⟨_,key x,a,.inr ⟨on,e6 _ _ h5n⟩,rfl,ha,rfl⟩
 refine As (a:=nd) (o:=on) (kvs:=ns) (bs:=bs2) (λi acc H6=>acc=(((List.range i).filter λj=>e (o.getD j 0)).map nI)∧Zr H5 H6) (Zw (by omega)) ⟨rfl,Zr.refl _⟩
  (λi acc H6 q=>by rw [q.1,zA]; exact yG (xO _ _) (by rw [zV]; exact zI _)) (λi acc H6 q=>q.2 _ _ h5n) (λi acc H6 ba hq p=>?_) (λacc H6 p y hy=>?_)
 ·obtain ⟨rfl,e6⟩:=p
  obtain ⟨y,hy,hba⟩:=kat KB2 hq
  have hyD:o.getD i 0=y:=by rw [zD,hy]; rfl
  have hym:=zJ hy
  have e06:=e5.trans e6
  refine ⟨rfl,e06 _ _ hf2,_,rfl,e06 _ _ hf2,ba,y,rfl,e6 _ _ hba,oP y hym,e06 _ _ hf2,hG _ _ e06 hGH,λH7 e7=>⟨_,rfl,?_⟩⟩
  have hfl:((List.range (i+1)).filter λj=>e (o.getD j 0))=((List.range i).filter λj=>e (o.getD j 0)) ++ if e y=true then [i] else []:=by
   rw [wW,wU,vD,hyD]
   rfl
  rw [hfl,zZ]
  refine Wu (λc=>?_) (λc=>?_)
  ·rw [if_pos c]
   refine ⟨_,rfl,_,rfl,nd,_,rfl,Zgl (e6.trans e7) hym (e7 _ _ (e6 _ _ hba)),?_,e6.trans e7⟩
   have:o.idxOf y=i:=by
    have h1:=yM oN i (zF.mp hy).1
    rw [(zF.mp hy).2] at h1
    exact h1
   rw [this]
   rfl
  ·rw [if_neg c]
   exact ⟨by rw [wQ,xF],e6.trans e7⟩
 obtain ⟨rfl,e6⟩:=p
 rw [nbl]
 have t7:=Zd hy (.lst (((List.range o.length).filter λj=>e (o.getD j 0)).map nI))
 have h7y:upd H6 y (.lst (((List.range o.length).filter λj=>e (o.getD j 0)).map nI)) y=some (.lst (((List.range o.length).filter λj=>e (o.getD j 0)).map nI)):=Zb
 generalize upd H6 y (.lst (((List.range o.length).filter λj=>e (o.getD j 0)).map nI))=H7 at t7 h7y
 refine ⟨y,_,rfl,.inl ⟨SqL.of h7y,λep hep=>?_⟩⟩
 have t8:=Zd hep (.tup (((List.range o.length).filter λj=>e (o.getD j 0)).map nI))
 have h8e:upd H7 ep (.tup (((List.range o.length).filter λj=>e (o.getD j 0)).map nI)) ep=some (.tup ((Xg o e).map nI)):=Zb
 generalize upd H7 ep (.tup (((List.range o.length).filter λj=>e (o.getD j 0)).map nI))=H8 at t8 h8e
 refine ⟨(by show 0≤sizeLine; decide),λrp hrp=>?_⟩
 have t9:=Zd hrp (.lst [])
 have h9r:upd H8 rp (.lst []) rp=some (.lst []):=Zb
 generalize upd H8 rp (.lst [])=H9 at t9 h9r
 have e59:=((e6.trans t7).trans t8).trans t9
 have Zmi:=none_of ((e6.trans t7).trans t8) hrp
 have ner:ep≠rp:=Zf h8e hrp
 have hRl:(Yk id (TL l g) o).length=o.length:=by unfold Yk; rw [zA]
 refine ⟨_,rfl,nd,_,rfl,.inr ⟨on,e59 _ _ h5n,λbs3 KB3=>?_⟩⟩
 refine Zc6 (a:=nd) (o:=on) (kvs:=ns) (bs:=bs3) (mtD l a0 fv fe nd ep rp v5 g o e H5 H9)
  ⟨v6,[],rfl,h9r,⟨rfl,λi x r a=>by simp at a⟩,t9 _ _ h8e,e59,Tk.same (Zr.refl _)⟩ (λi σ H10 _ h=>?_) ?_ ?_
 ·obtain ⟨_,_,_,_,_,_,e10,_⟩:=h
  exact e10 _ _ h5n
 ·rintro i ba σ H10 hq ⟨v6,ys,rfl,Tc,R10,Al,e10,k10⟩
  obtain ⟨x,hx,hba⟩:=kat KB3 hq
  have hxm:=zJ hx
  have h10b:=k10 _ _ hba
  refine ⟨_,rfl,.inl ⟨rfl,_,SqL.of Tc⟩,_,rfl,l,rfl,?_⟩
  refine O9 (cs:=l.cps.toList) (λj acc H11=>acc=(l.cps.toList.take j).map (λc=>nI (o.idxOf (g x c)))∧Zr H10 H11) (by rw [len_list]; exact Zw (by omega)) ⟨rfl,Zr.refl _⟩ (λj acc H11 q=>by rw [q.1,zA,zS]; exact xG _ _)
   (λj acc H11 c hc q=>?_) (λacc H11 q y hy=>?_)
  ·obtain ⟨rfl,e11⟩:=q
   have hcl:c∈l.cps.toList:=zJ hc
   have Mb:=e5.trans (e10.trans e11)
   refine Ss ⟨_,rfl,rfl,Mb _ _ hf,_,rfl,_,rfl,Mb _ _ hf,ba,x,c,rfl,e11 _ _ h10b,oP x hxm,hcl,Mb _ _ hf,hG _ _ Mb hGH,λr H12 e12 h12=>⟨nd,_,rfl,Zgl ((e10.trans e11).trans e12) (oM x hxm c hcl) h12,?_,e11.trans e12⟩⟩
   rw [map_take hc]
  obtain ⟨rfl,e11⟩:=q
  rw [yC]
  have u1:=Zd hy (.lst (l.cps.toList.map λc=>nI (o.idxOf (g x c))))
  refine ⟨y,_,rfl,.inl ⟨SqL.of Zb,λz hz=>?_⟩⟩
  have u2:=Zd hz (.tup (l.cps.toList.map λc=>nI (o.idxOf (g x c))))
  have u02:=(e11.trans u1).trans u2
  have hyl:ys.length≤216:=by
   rw [R10.1,zS,hRl]
   omega
  have X3:(Yk id (TL l g) o)[i]? = some (l.cps.toList.map λc=>o.idxOf (g x c)):=by
   unfold Yk TL
   rw [zE,hx,uI,yD,wN]
   rfl
  have Zc4:upd (upd H11 y (.lst (l.cps.toList.map λc=>nI (o.idxOf (g x c))))) z (.tup (l.cps.toList.map λc=>nI (o.idxOf (g x c)))) z=some (.tup ((l.cps.toList.map λc=>o.idxOf (g x c)).map nI)):=by
   rw [yD]
   exact Zb
  generalize upd (upd H11 y (.lst (l.cps.toList.map λc=>nI (o.idxOf (g x c))))) z (.tup (l.cps.toList.map λc=>nI (o.idxOf (g x c))))=H12 at u2 u02 Zc4
  have tkr:=Tk.lst (u02 _ _ Tc) (.lst (ys ++ [V.ref z]))
  refine ⟨rp,_,_,rfl,rfl,u02 _ _ Tc,Zw (by omega),_,ys ++ [.ref z],rfl,Zb,?_,(Zi ner).trans (u02 _ _ Al),Yr (e10.trans u02) Zmi _,(k10.trans (Tk.same u02)).trans tkr⟩
  rw [yK,X3]
  refine ((R10.keep (Tk.same u02)).keep tkr).snoc ?_
  exact tkr _ _ Zc4
 ·rintro σ H10 ⟨v6,ys,rfl,Tc,R10,Al,e10,_⟩
  rw [nbl,← hRl,yC] at R10
  obtain ⟨ras,rfl,r1,r2⟩:=R10.ras
  refine ⟨_,rfl,_,rfl,_,rfl,rp,_,rfl,.inl ⟨SqL.of Tc,λsp hsp=>⟨(by show 4≤sizeLine; decide),λm hm=>?_⟩⟩⟩
  have w1:=Zd hsp (.tup (ras.map V.ref))
  have w2:=Zd hm (.tup [V.str l,V.int 0,.ref ep,.ref sp])
  have w12:=w1.trans w2
  exact k m _ (e5.trans (e10.trans w12)) hN ⟨ep,sp,ras,Zb,w12 _ _ Al,w2 _ _ Zb,r1,λi a r q1 q2=>w12 _ _ (r2 i a r q1 q2)⟩
structure Wk (st:List (List Nat)) (es:List Nat) (w:Nat) (k:Nat→Nat) (T:Nat→List Nat) (pl:Nat→Prop):Prop where
 key:∀ x x',pl x→pl x'→(k x=k x'↔Fut st es w x x')
 len:∀ x,pl x→(T x).length=w
 tgt:∀ x,pl x→∀ (j t:Nat),(T x)[j]? = some t→pl t∧Fut st es w t (stN st x j)
def Lk (st1:List (List Nat)) (es1:List Nat) (st2:List (List Nat)) (es2:List Nat) (w x y:Nat):Prop:=∀ cs:List Nat,(∀ c∈cs,c < w)→(Xs st1 x cs∈es1↔Xs st2 y cs∈es2)
def RR (st1:List (List Nat)) (es1:List Nat) (p1:Nat→Prop) (st2:List (List Nat)) (es2:List Nat) (p2:Nat→Prop) (w x y:Nat):Prop:=p1 x∧p2 y∧Lk st1 es1 st2 es2 w x y
section
variable {st1 st2:List (List Nat)} {es1 es2:List Nat} {w:Nat} {k1 k2:Nat→Nat} {T1 T2:Nat→List Nat} {p1 p2:Nat→Prop}
theorem Wk.kr (W1:Wk st1 es1 w k1 T1 p1) (W2:Wk st2 es2 w k2 T2 p2):KR (RR st1 es1 p1 st2 es2 p2 w) k1 k2:=by
 rintro x y x' y' ⟨a1,a2,a⟩ ⟨b1,b2,b⟩
 rw [W1.key x x' a1 b1,W2.key y y' a2 b2]
 exact ⟨λh cs hc=>(a cs hc).symm.trans ((h cs hc).trans (b cs hc)),λh cs hc=>(a cs hc).trans ((h cs hc).trans (b cs hc).symm)⟩
theorem Wk.pw (W1:Wk st1 es1 w k1 T1 p1) (W2:Wk st2 es2 w k2 T2 p2):∀ x y,RR st1 es1 p1 st2 es2 p2 w x y→Pw (RR st1 es1 p1 st2 es2 p2 w) (T1 x) (T2 y):=by
 rintro x y ⟨a1,a2,a⟩
 refine Pw.of (by rw [W1.len x a1,W2.len y a2]) λi t u ht hu=>?_
 obtain ⟨c1,d1⟩:=W1.tgt x a1 i t ht
 obtain ⟨c2,d2⟩:=W2.tgt y a2 i u hu
 have hi:i < w:=by rw [← W1.len x a1]; exact (zF.mp ht).1
 refine ⟨c1,c2,λcs hc=>(d1 cs hc).trans (Iff.trans ?_ (d2 cs hc).symm)⟩
 exact a (i :: cs) λc hcc=>by
  rcases yE.mp hcc with z | z
  ·rw [z]; exact hi
  ·exact hc c z
theorem Bj (W1:Wk st1 es1 w k1 T1 p1) (W2:Wk st2 es2 w k2 T2 p2) {b1 b2 N1 N2:Nat} (h1:p1 b1) (h2:p2 b2) (hb:Lk st1 es1 st2 es2 w b1 b2) (hN1:(Zo k1 T1 b1 N1).length≤N1) (hN2:(Zo k2 T2 b2 N2).length≤N2) :
  Yk k1 T1 (Zo k1 T1 b1 N1)=Yk k2 T2 (Zo k2 T2 b2 N2)∧Xg (Zo k1 T1 b1 N1) (λx=>decide (x∈es1))=Xg (Zo k2 T2 b2 N2) λx=>decide (x∈es2):=by
 have e1:=Wt hN1 (max N1 N2) (Nat.le_max_left _ _)
 have e2:=Wt hN2 (max N1 N2) (Nat.le_max_right _ _)
 rw [← e1,← e2]
 have h:=Pw.ord (W1.kr W2) (W1.pw W2) (show RR st1 es1 p1 st2 es2 p2 w b1 b2 from ⟨h1,h2,hb⟩) (max N1 N2)
 exact ⟨h.rows (W1.kr W2) (W1.pw W2),h.ends λx y r=>decide_eq_decide.mpr (r.2.2 [] λc hc=>nomatch hc)⟩
end
section
variable {st:List (List Nat)} {es:List Nat} {w:Nat} {k:Nat→Nat} {T:Nat→List Nat} {pl:Nat→Prop} {b N:Nat}
theorem Wk.all (W:Wk st es w k T pl) (hb:pl b) (i:Nat):∀ y∈Zo k T b i,pl y:=Vc hb (λx hx y hy=>by
 obtain ⟨j,hj,e⟩:=yU hy
 exact (W.tgt x hx j y (by rw [zC hj,e])).1) i
theorem Wk.met (W:Wk st es w k T pl) (hb:pl b) (hN:(Zo k T b N).length≤N) {i x c:Nat} (hx:(Zo k T b N)[i]? = some x) (hc:c < w):∃ t y,(T x)[c]? = some t∧pl t∧(Yk k T (Zo k T b N))[i]? = some ((T x).map λt=>((Zo k T b N).map k).idxOf (k t))∧stN (Yk k T (Zo k T b N)) i c=((Zo k T b N).map k).idxOf (k t)∧(Zo k T b N)[((Zo k T b N).map k).idxOf (k t)]? = some y∧pl y∧Fut st es w y (stN st x c):=by
 have px:=W.all hb N x (zJ hx)
 have hl:=W.len x px
 have ht:(T x)[c]? = some ((T x)[c]'(by omega)):=zC (by omega)
 generalize (T x)[c]'(by omega)=t at ht
 obtain ⟨pt,ft⟩:=W.tgt x px c t ht
 have hi:=(zF.mp hx).1
 have hm:=Uh (k:=k) (T:=T) (b:=b) (n:=N) hx (by omega) (zJ ht)
 have hd:=Rz hm
 rw [zE] at hd
 have X3:(Yk k T (Zo k T b N))[i]? = some ((T x).map λt=>((Zo k T b N).map k).idxOf (k t)):=by
  unfold Yk
  rw [zE,hx]
  rfl
 cases hy:(Zo k T b N)[((Zo k T b N).map k).idxOf (k t)]? with
 | none=>rw [hy] at hd; cases hd
 | some y=>
  rw [hy] at hd
  have ky:k y=k t:=Option.some.inj hd
  have py:=W.all hb N y (zJ hy)
  have fy:=(W.key y t py pt).mp ky
  refine ⟨t,y,ht,pt,X3,?_,hy,py,λcs hcs=>(fy cs hcs).trans (ft cs hcs)⟩
  unfold stN
  rw [zD (l:=Yk k T (Zo k T b N)),X3]
  show ((T x).map λt=>((Zo k T b N).map k).idxOf (k t)).getD c 0=_
  rw [zD,zE,ht]
  rfl
theorem Wk.Zkq (W:Wk st es w k T pl) (hb:pl b) (hN:(Zo k T b N).length≤N):∀ (cs:List Nat) (i x:Nat),(∀ c∈cs,c < w)→(Zo k T b N)[i]? = some x→
  (Xs (Yk k T (Zo k T b N)) i cs∈Xg (Zo k T b N) (λx=>decide (x∈es))↔Xs st x cs∈es):=by
 intro cs
 induction cs with
 | nil=>
  intro i x _ hx
  show i∈Xg _ _↔x∈es
  unfold Xg
  rw [xX,yN,zD,hx]
  show _∧decide (x∈es)=true↔_
  rw [decide_eq_true_eq]
  exact ⟨λh=>h.2,λh=>⟨(zF.mp hx).1,h⟩⟩
 | cons c cs ih=>
  intro i x hc hx
  obtain ⟨t,y,ht,pt,X3,hs,hy,py,fy⟩:=W.met hb hN hx (hc c zM)
  have hcs:∀ c∈cs,c < w:=λd hd=>hc d (zQ _ hd)
  show Xs _ (stN _ i c) cs∈_↔_
  rw [hs,ih _ y hcs hy]
  exact fy cs hcs
theorem Wk.V1 (W:Wk st es w k T pl) (hb:pl b) (hN:(Zo k T b N).length≤N):Wf (Yk k T (Zo k T b N)) w:=by
 intro r hr
 have hlen:(Yk k T (Zo k T b N)).length=(Zo k T b N).length:=by unfold Yk; rw [zA]
 obtain ⟨x,hx,rfl⟩:=zY.mp hr
 have px:=W.all hb N x hx
 refine ⟨by rw [zA]; exact W.len x px,λy hy=>?_⟩
 obtain ⟨t,ht,rfl⟩:=zY.mp hy
 obtain ⟨i,hi,e⟩:=yU hx
 have hm:=Uh (k:=k) (T:=T) (b:=b) (n:=N) (j:=i) (x:=x) (by rw [zC hi,e]) (by omega) ht
 have:=xA hm
 rw [zA] at this
 rw [hlen]
 exact this
end
theorem Bc {l:Str} (nd:l.cps.toList.Nodup) {st:List (List Nat)} {x j c:Nat} (hc:l.cps.toList[j]? = some c):stp l st x c=stN st x j:=by
 have hl:=len_list l
 have hD:∀ v:Nat,v < l.length→l.cps.getD v 0=l.cps.toList.getD v 0:=λv hv=>by
  rw [zD,xN,Array.getD_eq_getD_getElem?]
 have hj:=(zF.mp hc).1
 have hf:Txt.find l (one c)=Txt.find3 l (one c) 0:=by
  unfold Txt.find Txt.find3
  rfl
 have key:(Txt.find l (one c)).toNat=j:=by
  rcases StrLaws.find3_spec l c 0 with ⟨_,hn⟩ | ⟨k,hk,_,hlt,hat⟩
  ·refine absurd ?_ (hn j ?_ (by omega))
   ·rw [hD j (by omega),zD,hc]
    rfl
   ·show _≤j
    unfold PySem.fromIndex
    simp
  ·rw [hf]
   have e:Txt.find3 l (one c) 0=(k:Int):=hk
   rw [e]
   have e2:l.cps.getD k 0=c:=hat.1
   rw [hD k (by omega),zD,zC (by omega)] at e2
   have e3:l.cps.toList[k]'(by omega)=c:=e2
   have i1:=yM nd k (by omega)
   have i2:=yM nd j hj
   rw [(zF.mp hc).2] at i2
   rw [e3,i2] at i1
   omega
 unfold stp stN
 rw [key]
theorem Zal {l:Str} (nd:l.cps.toList.Nodup) {st:List (List Nat)} {es:List Nat} {k:Nat} (R:Wf st l.length) (few:dn (lkN st es (k+1))≤dn (lkN st es k)) :
  Wk st es l.length id (TL l (gL l st (lkN st es (k+1)))) λx=>x < st.length∧(lkN st es (k+1)).getD x 0=x:=by
 have hl:=len_list l
 have lf:=Vm st es (k+1)
 have ll:=Sl st es (k+1)
 have le:=λ(i j:Nat) hi hj=>G9 (i:=i) (j:=j) R few hi hj
 generalize lkN st es (k+1)=L at lf ll le
 refine ⟨λx x' hx hx'=>?_,λx hx=>?_,λx hx j t ht=>?_⟩
 ·rw [← le x x' hx.1 hx'.1,hx.2,hx'.2]
  exact Iff.rfl
 ·unfold TL
  rw [zA,hl]
 ·unfold TL at ht
  rw [zE] at ht
  cases hc:l.cps.toList[j]? with
  | none=>rw [hc] at ht; cases ht
  | some c=>
   rw [hc] at ht
   have e:gL l st L x c=t:=Option.some.inj ht
   have hj:=(zF.mp hc).1
   unfold gL at e
   rw [Bc nd hc] at e
   have hs:=Wv R hx.1 (show j < l.length by omega)
   have l1:=lf.le (stN st x j) (by omega)
   have l2:=lf.own (stN st x j) (by omega)
   rw [e] at l1 l2
   exact ⟨⟨by omega,l2⟩,(le t (stN st x j) (by omega) hs).mp (by rw [l2,e])⟩
theorem Zm7 {L C:List Nat} (hl:L.length=C.length) (h:∀ i j,i < L.length→j < L.length→(L.getD i 0=L.getD j 0↔C.getD i 0=C.getD j 0)):dn L=dn C:=by
 have hv:∀ (L:List Nat) i,i < L.length→(L.map λn:Nat=>(n:Int)).getD i 0=((L.getD i 0:Nat):Int):=λL i hi=>by
  rw [zD,zE,zC hi,zD,zC hi]
  rfl
 have key:∀ n,n≤L.length→(firstMet (λi=>(L.map λn:Nat=>(n:Int)).getD i 0) n).length=(firstMet (λi=>(C.map λn:Nat=>(n:Int)).getD i 0) n).length:=λn=>by
  induction n with
  | zero=>intro _; rfl
  | succ n ih=>
   intro hn
   rw [firstMet_succ,step_length,firstMet_succ,step_length,ih (by omega),firstMet_any,firstMet_any,hv L n (by omega),hv C n (by omega)]
   have e:((List.range n).map λi=>(L.map λn:Nat=>(n:Int)).getD i 0).any (· == ((L.getD n 0:Nat):Int))=((List.range n).map λi=>(C.map λn:Nat=>(n:Int)).getD i 0).any (· == ((C.getD n 0:Nat):Int)):=by
    rw [wG,wR,wR]
    constructor
    ·rintro ⟨x,hx,q⟩
     obtain ⟨j,hj,rfl⟩:=zY.mp hx
     have hj':=yN.mp hj
     have q2:=eq_of_beq q
     rw [hv L j (by omega)] at q2
     refine ⟨_,zY.mpr ⟨j,hj,rfl⟩,?_⟩
     rw [hv C j (by omega),(h j n (by omega) (by omega)).mp (by omega)]
     simp
    ·rintro ⟨x,hx,q⟩
     obtain ⟨j,hj,rfl⟩:=zY.mp hx
     have hj':=yN.mp hj
     have q2:=eq_of_beq q
     rw [hv C j (by omega)] at q2
     refine ⟨_,zY.mpr ⟨j,hj,rfl⟩,?_⟩
     rw [hv L j (by omega),(h j n (by omega) (by omega)).mpr (by omega)]
     simp
   rw [e]
 unfold dn V2
 rw [zA,zA,← hl]
 exact key _ (zI _)
def Pu (o:List (List Nat)) (r:List Nat):List (List Nat):=if r∈o then o else o ++ [r]
def N3 (rs:List (List Nat)):List (List Nat):=rs.foldl Pu []
theorem Zgy {o:List (List Nat)} {r x:List Nat} (h:x∈o):x∈Pu o r:=by
 unfold Pu
 by_cases c:r∈o
 ·rw [if_pos c]; exact h
 ·rw [if_neg c]; exact wV _ h
theorem Zgz {o:List (List Nat)} {r:List Nat}:r∈Pu o r:=by
 unfold Pu
 by_cases c:r∈o
 ·rw [if_pos c]; exact c
 ·rw [if_neg c]; simp
theorem Zg0 {o:List (List Nat)} {r:List Nat}:(Pu o r).length≤o.length+1:=by
 unfold Pu
 by_cases c:r∈o
 ·rw [if_pos c]; omega
 ·rw [if_neg c,zK]; exact zI _
theorem Kz:∀ (rs o:List (List Nat)),(∀ x,(x∈o∨x∈rs)→x∈rs.foldl Pu o)∧(rs.foldl Pu o).length≤o.length+rs.length
 | [],o=>⟨λx h=>h.resolve_right λz=>(wS z),zI _⟩
 | r :: rs,o=>by
  obtain ⟨a,b⟩:=Kz rs (Pu o r)
  refine ⟨λx h=>a x ?_,?_⟩
  ·rcases h with h | h
   ·exact .inl (Zgy h)
   ·rcases yE.mp h with z | z
    ·rw [z]; exact .inl Zgz
    ·exact .inr z
  ·have:=Zg0 (o:=o) (r:=r)
   show (rs.foldl Pu (Pu o r)).length≤_
   rw [yR]
   omega
theorem Ov {rs:List (List Nat)} {r:List Nat} (h:r∈rs):r∈N3 rs:=(Kz rs []).1 r (.inr h)
theorem Du (rs:List (List Nat)):(N3 rs).length≤rs.length:=by
 have:=(Kz rs []).2
 rw [List.length_nil,vY] at this
 exact this
theorem Iu {rs:List (List Nat)} {r:List Nat} {i:Nat} (h:rs[i]? = some r):N3 (rs.take (i+1))=Pu (N3 (rs.take i)) r:=by
 unfold N3
 rw [yK,h,vR]
 rfl
def lw0 (es:List Nat) (n:Nat):List Nat:=(List.range n).map λr=>if decide (r∈es)=true then 1 else 0
def lwS (st:List (List Nat)) (L:List Nat):List Nat:=(lkR st L).map λr=>(N3 (lkR st L)).idxOf r
def lwN (st:List (List Nat)) (es:List Nat):Nat→List Nat
 | 0=>lw0 es st.length
 | k+1=>lwS st (lwN st es k)
theorem Li (st:List (List Nat)) (es:List Nat):∀ k,(lwN st es k).length=st.length
 | 0=>by unfold lwN lw0; rw [zA,zV]
 | k+1=>by unfold lwN lwS lkR; rw [zA,zA,zV]
theorem B5 {st:List (List Nat)} {L:List Nat} {i:Nat} (hi:i < st.length):(lwS st L).getD i 0=(N3 (lkR st L)).idxOf (L.getD i 0 :: (st.getD i []).map λx=>L.getD x 0):=by
 unfold lwS
 rw [zD,zE,Pm hi]
 rfl
theorem Zlw {st:List (List Nat)} {L:List Nat} {i:Nat} (hi:i < st.length):(lwS st L).getD i 0 < st.length:=by
 rw [B5 hi]
 have h1:=xA (Ov (zJ (Pm (L:=L) hi)))
 have h2:=Du (lkR st L)
 have h3:(lkR st L).length=st.length:=by unfold lkR; rw [zA,zV]
 omega
theorem Iv {st:List (List Nat)} {es:List Nat} {w:Nat} (R:Wf st w):∀ k i j,i < st.length→j < st.length→((lwN st es k).getD i 0=(lwN st es k).getD j 0↔(lkN st es k).getD i 0=(lkN st es k).getD j 0)
 | 0,i,j,hi,hj=>by
  show _↔(lk0 es st.length).getD i 0=(lk0 es st.length).getD j 0
  rw [B8 hi hj]
  have at_:∀ i,i < st.length→(lwN st es 0).getD i 0=if decide (i∈es)=true then 1 else 0:=λi hi=>by
   show (lw0 es st.length).getD i 0=_
   unfold lw0
   rw [zD,zE,wZ hi]
   rfl
  rw [at_ i hi,at_ j hj]
  by_cases a:i∈es <;> by_cases b:j∈es <;> simp [a,b]
 | k+1,i,j,hi,hj=>by
  show _↔(lkS st (lkN st es k)).getD i 0=(lkS st (lkN st es k)).getD j 0
  rw [K0 R hi hj]
  show (lwS st (lwN st es k)).getD i 0=(lwS st (lwN st es k)).getD j 0↔_
  rw [B5 hi,B5 hj]
  have m1:=Ov (zJ (Pm (L:=lwN st es k) hi))
  have m2:=Ov (zJ (Pm (L:=lwN st es k) hj))
  have li:=(R _ (getD_in (l:=st) (d:=[]) hi).1).1
  have lj:=(R _ (getD_in (l:=st) (d:=[]) hj).1).1
  constructor
  ·intro e
   have a:=Rz m1
   rw [e,Rz m2] at a
   have a2:=Option.some.inj a
   rw [List.cons.injEq] at a2
   refine ⟨(Iv R k i j hi hj).mp a2.1.symm,λc hc=>(Iv R k _ _ (Wv R hi hc) (Wv R hj hc)).mp ?_⟩
   have a3:=congrArg (λz:List Nat=>z[c]?) a2.2
   simp only [zE] at a3
   rw [(getD_in (l:=st.getD i []) (d:=0) (show c < _ by omega)).2,(getD_in (l:=st.getD j []) (d:=0) (show c < _ by omega)).2] at a3
   exact (Option.some.inj a3).symm
  ·rintro ⟨e1,e2⟩
   refine congrArg (N3 (lkR st (lwN st es k))).idxOf ?_
   rw [List.cons.injEq]
   refine ⟨(Iv R k i j hi hj).mpr e1,tU λc=>?_⟩
   rw [zE,zE]
   rcases xB c w with z | z
   ·rw [(getD_in (l:=st.getD i []) (d:=0) (show c < _ by omega)).2,(getD_in (l:=st.getD j []) (d:=0) (show c < _ by omega)).2]
    exact congrArg some ((Iv R k _ _ (Wv R hi z) (Wv R hj z)).mpr (e2 c z))
   ·rw [xE (by omega),xE (by omega)]
theorem Zj6 {st:List (List Nat)} {es:List Nat} {w:Nat} (R:Wf st w) (k:Nat):dn (lwN st es k)=dn (lkN st es k):=
 Zm7 (by rw [Li,Sl]) λi j hi hj=>Iv R k i j (by rw [Li] at hi; exact hi) (by rw [Li] at hj; exact hj)
theorem Zlv {st:List (List Nat)} {es:List Nat} {w k:Nat} (R:Wf st w) (few:dn (lwN st es (k+1))≤dn (lwN st es k)) {i j:Nat} (hi:i < st.length) (hj:j < st.length) :
  (lwN st es (k+1)).getD i 0=(lwN st es (k+1)).getD j 0↔Fut st es w i j:=by
 rw [Iv R (k+1) i j hi hj]
 exact G9 R (by rw [← Zj6 R,← Zj6 R]; exact few) hi hj
def nbG {α κ:Type} (φ:α→κ):Nat→List α→List (κ × V)
 | _,[]=>[]
 | s,a :: o=>(φ a,nI s) :: nbG φ (s+1) o
section
variable {α κ:Type} [BEq α] [LawfulBEq α] [DecidableEq κ] {φ:α→κ}
theorem G0:∀ (s:Nat) (o:List α),(nbG φ s o).length=o.length
 | _,[]=>rfl
 | s,_ :: o=>by show (nbG φ (s+1) o).length+1=_; rw [G0]; rfl
theorem Kx (x:α):∀ (s:Nat) (o:List α),nbG φ s (o ++ [x])=nbG φ s o ++ [(φ x,nI (s+o.length))]
 | _,[]=>rfl
 | s,a :: o=>by
  show (φ a,nI s) :: nbG φ (s+1) (o ++ [x])=(φ a,nI s) :: (nbG φ (s+1) o ++ _)
  rw [Kx x (s+1) o,show s+1+o.length=s+(a :: o).length by rw [yR]; omega]
theorem Bs (inj:∀ x y,φ x=φ y→x=y) {x:α}:∀ (s:Nat) (o:List α),x∉o→X0 (nbG φ s o) (φ x)=none
 | _,[],_=>rfl
 | s,a :: o,h=>by
  show X0 ((φ a,nI s) :: nbG φ (s+1) o) (φ x)=none
  rw [Xb (λz=>h (by rw [← inj _ _ z]; exact zM))]
  exact Bs inj (s+1) o λz=>h (zQ _ z)
theorem Ou (inj:∀ x y,φ x=φ y→x=y) {x:α}:∀ (s:Nat) (o:List α),x∈o→X0 (nbG φ s o) (φ x)=some (nI (s+o.idxOf x))
 | _,[],h=>nomatch h
 | s,a :: o,h=>by
  show X0 ((φ a,nI s) :: nbG φ (s+1) o) (φ x)=_
  by_cases c:a=x
  ·rw [Xt (by rw [c]),uK,beq_iff_eq.mpr c]
   rfl
  ·rw [Xb (λz=>c (inj _ _ z)),Ou inj (s+1) o ((yE.mp h).resolve_left λz=>c z.symm),uK,beq_eq_false_iff_ne.mpr c]
   show some (nI (s+1+o.idxOf x))=some (nI (s+(o.idxOf x+1)))
   rw [show s+1+o.idxOf x=s+(o.idxOf x+1) by omega]
end
theorem Sm:∀ (x y:List Nat),x.map kI=y.map kI→x=y
 | [],[],_=>rfl
 | [],_ :: _,h=>nomatch h
 | _ :: _,[],h=>nomatch h
 | a :: x,b :: y,h=>by
  rw [zO,zO,List.cons.injEq] at h
  rw [Sn h.1,Sm x y h.2]
theorem C2 {st:List (List Nat)} {es:List Nat} {w:Nat} (R:Wf st w) {S:List Nat} (hS:∀ i j,i < st.length→j < st.length→(S.getD i 0=S.getD j 0↔Fut st es w i j)):Wk st es w (λx=>S.getD x 0) (λx=>st.getD x []) λx=>x < st.length:=by
 refine ⟨λx x' hx hx'=>hS x x' hx hx',λx hx=>(R _ (getD_in (l:=st) (d:=[]) hx).1).1,λx hx j t ht=>?_⟩
 have hr:=R _ (getD_in (l:=st) (d:=[]) hx).1
 have e:stN st x j=t:=by
  show (st.getD x []).getD j 0=t
  rw [zD (l:=st.getD x []),ht]
  rfl
 rw [e]
 exact ⟨hr.2 t (zJ ht),λcs _=>Iff.rfl⟩
structure Zja (l:Str) (st:List (List Nat)) (es:List Nat) (b:Nat) (stD:List (List Nat)) (esD:List Nat) (k N:Nat):Prop where
 V1:Wf st l.length
 beg:b < st.length
 few:dn (lkN st es (k+1))≤dn (lkN st es k)
 len:(Zo id (TL l (gL l st (lkN st es (k+1)))) ((lkN st es (k+1)).getD b 0) N).length≤N
 rows:Yk id (TL l (gL l st (lkN st es (k+1)))) (Zo id (TL l (gL l st (lkN st es (k+1)))) ((lkN st es (k+1)).getD b 0) N)=stD
 ends:Xg (Zo id (TL l (gL l st (lkN st es (k+1)))) ((lkN st es (k+1)).getD b 0) N) (λx=>decide (x∈es))=esD
theorem Zja.wk {l:Str} {st:List (List Nat)} {es:List Nat} {b:Nat} {stD:List (List Nat)} {esD:List Nat} {k N:Nat} (h:Zja l st es b stD esD k N):((lkN st es (k+1)).getD b 0 < st.length∧(lkN st es (k+1)).getD ((lkN st es (k+1)).getD b 0) 0=(lkN st es (k+1)).getD b 0)∧Fut st es l.length ((lkN st es (k+1)).getD b 0) b:=by
 have lf:=Vm st es (k+1)
 have ll:=Sl st es (k+1)
 have hb:=h.beg
 have l1:=lf.le b (by omega)
 have l2:=lf.own b (by omega)
 exact ⟨⟨by omega,l2⟩,(G9 (i:=(lkN st es (k+1)).getD b 0) (j:=b) h.V1 h.few (by omega) hb).mp l2⟩
structure LM (l:Str) (P:List Nat→Prop) (stD:List (List Nat)) (esD:List Nat):Prop where
 V1:Wf stD l.length
 pos:0 < stD.length
 ends:esD.length≤stD.length∧∀ e∈esD,e < stD.length
 lg:∀ cs,(∀ c∈cs,c < l.length)→(Xs stD 0 cs∈esD↔P cs)
 is:∃ st es b k N,Zja l st es b stD esD k N
theorem LM.of {l:Str} (nd:l.cps.toList.Nodup) {st:List (List Nat)} {es:List Nat} {b:Nat} {stD:List (List Nat)} {esD:List Nat} {k N:Nat} (h:Zja l st es b stD esD k N):LM l (λcs=>Xs st b cs∈es) stD esD∧stD.length≤st.length:=by
 have W:=Zal nd h.V1 h.few
 obtain ⟨w1,w2⟩:=h.wk
 have Zc2:=Kh (k:=id) (T:=TL l (gL l st (lkN st es (k+1)))) (b:=(lkN st es (k+1)).getD b 0) N
 have hlen:(Zo id (TL l (gL l st (lkN st es (k+1)))) ((lkN st es (k+1)).getD b 0) N).length≤st.length:=Ui (P:=λx=>x < st.length∧(lkN st es (k+1)).getD x 0=x) w1 (λx hx y hy=>by
  obtain ⟨j,hj,e⟩:=yU hy
  exact (W.tgt x hx j y (by rw [zC hj,e])).1) (λx hx=>hx.1) N
 have hr:=W.V1 w1 h.len
 have ht:∀ cs,(∀ c∈cs,c < l.length)→_:=λcs hc=>W.Zkq w1 h.len cs 0 _ hc Zc2.2
 have hrl:(Yk id (TL l (gL l st (lkN st es (k+1)))) (Zo id (TL l (gL l st (lkN st es (k+1)))) ((lkN st es (k+1)).getD b 0) N)).length=(Zo id (TL l (gL l st (lkN st es (k+1)))) ((lkN st es (k+1)).getD b 0) N).length:=by unfold Yk; rw [zA]
 have hel:∀ e∈Xg (Zo id (TL l (gL l st (lkN st es (k+1)))) ((lkN st es (k+1)).getD b 0) N) (λx=>decide (x∈es)),e < (Zo id (TL l (gL l st (lkN st es (k+1)))) ((lkN st es (k+1)).getD b 0) N).length:=λe he=>by
  unfold Xg at he
  exact yN.mp (xX.mp he).1
 have hen:(Xg (Zo id (TL l (gL l st (lkN st es (k+1)))) ((lkN st es (k+1)).getD b 0) N) (λx=>decide (x∈es))).length≤(Zo id (TL l (gL l st (lkN st es (k+1)))) ((lkN st es (k+1)).getD b 0) N).length:=by
  unfold Xg
  exact yG (xO _ _) (by rw [zV]; exact zI _)
 rw [h.rows] at hr hrl ht
 rw [h.ends] at hel hen ht
 have hp:=Zc2.1
 exact ⟨⟨hr,by omega,⟨by omega,λe he=>by have:=hel e he; omega⟩,λcs hc=>(ht cs hc).trans (w2 cs hc),⟨st,es,b,k,N,h⟩⟩,by omega⟩
theorem LM.Zgr {l:Str} {P Q:List Nat→Prop} {stD:List (List Nat)} {esD:List Nat} (h:LM l P stD esD) (q:∀ cs,(∀ c∈cs,c < l.length)→(P cs↔Q cs)):LM l Q stD esD:=⟨h.V1,h.pos,h.ends,λcs hc=>(h.lg cs hc).trans (q cs hc),h.is⟩
theorem LM.Zh7 {l:Str} {P:List Nat→Prop} {stD:List (List Nat)} {esD:List Nat} (D:LM l P stD esD) (hl:0 < l.length∧l.length≤3) (hs:stD.length≤216) {H':Hp} {m':Addr} (h:Rf H' m' l 0 esD stD):Z9 H' m' l 0 esD stD:=⟨h,⟨hl.1,hl.2,hs⟩,D.pos,D.V1⟩
def fx (l:Str) (c:Nat):Nat:=(Txt.find l (one c)).toNat
theorem Ql {st:List (List Nat)} {w:Nat} (R:Wf st w):∀ (cs:List Nat) (r:Nat),r < st.length→(∀ c∈cs,c < w)→Xs st r cs < st.length
 | [],_,hr,_=>hr
 | c :: cs,r,hr,h=>Ql R cs (stN st r c) (Wv R hr (h c zM)) λd hd=>h d (zQ _ hd)
theorem Ea {T:Nat→List Nat} {pl:Nat→Prop} {e:Nat→Bool} {b w N:Nat} (hb:pl b) (hlen:∀ x,pl x→(T x).length=w) (hpl:∀ x,pl x→∀ y∈T x,pl y) (hN:(Zo id T b N).length≤N):∀ (cs:List Nat) (i x:Nat),(∀ c∈cs,c < w)→(Zo id T b N)[i]? = some x→
  (Xs (Yk id T (Zo id T b N)) i cs∈Xg (Zo id T b N) e↔e (cs.foldl (λx c=>(T x).getD c 0) x)=true):=by
 have Oy:=Vc (k:=id) hb hpl N
 intro cs
 induction cs with
 | nil=>
  intro i x _ hx
  show i∈Xg _ _↔e x=true
  unfold Xg
  rw [xX,yN,zD,hx]
  exact ⟨λh=>h.2,λh=>⟨(zF.mp hx).1,h⟩⟩
 | cons c cs ih=>
  intro i x hc hx
  have px:=Oy x (zJ hx)
  have hcw:=hc c zM
  have hi:=(zF.mp hx).1
  have ht:=(getD_in (l:=T x) (i:=c) (d:=0) (by rw [hlen x px]; exact hcw))
  have hm:=Uh (k:=id) (T:=T) (b:=b) (n:=N) hx (by omega) ht.1
  rw [wN] at hm
  have hm':(T x).getD c 0∈Zo id T b N:=hm
  have X3:stN (Yk id T (Zo id T b N)) i c=(Zo id T b N).idxOf ((T x).getD c 0):=by
   unfold stN Yk
   rw [zD (l:=List.map _ _),zE,hx]
   show ((T x).map λt=>((Zo id T b N).map id).idxOf (id t)).getD c 0=_
   rw [zD (l:=List.map _ _),zE,ht.2,wN]
   rfl
  show Xs _ (stN _ i c) cs∈_↔_
  rw [X3,ih _ _ (λd hd=>hc d (zQ _ hd)) (Rz hm')]
  exact Iff.rfl
theorem Zce {T:Nat→List Nat} {pl:Nat→Prop} {b w N:Nat} (hb:pl b) (hlen:∀ x,pl x→(T x).length=w) (hpl:∀ x,pl x→∀ y∈T x,pl y) (hN:(Zo id T b N).length≤N):Wf (Yk id T (Zo id T b N)) w:=by
 have Oy:=Vc (k:=id) hb hpl N
 intro r hr
 have hrl:(Yk id T (Zo id T b N)).length=(Zo id T b N).length:=by unfold Yk; rw [zA]
 obtain ⟨x,hx,rfl⟩:=zY.mp hr
 refine ⟨by rw [zA]; exact hlen x (Oy x hx),λy hy=>?_⟩
 obtain ⟨t,ht,rfl⟩:=zY.mp hy
 obtain ⟨i,hi,e⟩:=yU hx
 have hm:=Uh (k:=id) (T:=T) (b:=b) (n:=N) (j:=i) (x:=x) (by rw [zC hi,e]) (by omega) ht
 have:=xA hm
 rw [zA] at this
 rw [hrl]
 exact this
theorem Ts {n x y:Nat} (hy:y < n):(x * n+y) / n=x∧(x * n+y) % n=y:=by
 have hn:0 < n:=by omega
 constructor
 ·rw [sZ,Nat.add_mul_div_right _ _ hn,Nat.div_eq_of_lt hy,vY]
 ·rw [sZ,Nat.add_mul_mod_self_right,Nat.mod_eq_of_lt hy]
theorem Qs {n1 n2 x y:Nat} (hx:x < n1) (hy:y < n2):x * n2+y < n1 * n2:=by
 have:(x+1) * n2≤n1 * n2:=Nat.mul_le_mul_right _ hx
 rw [rC] at this
 omega
def gP (l:Str) (st1 st2:List (List Nat)) (x c:Nat):Nat:=stp l st1 (x / st2.length) c * st2.length+stp l st2 (x % st2.length) c
def kP (n2 x:Nat):List Key:=[kI (x / n2),kI (x % n2)]
theorem Zl7 {n2 x y:Nat} (h:kP n2 x=kP n2 y):x=y:=by
 unfold kP at h
 rw [List.cons.injEq,List.cons.injEq] at h
 have h1:=Sn h.1
 have h2:=Sn h.2.1
 have a:=Nat.div_add_mod x n2
 have b:=Nat.div_add_mod y n2
 rw [h1,h2] at a
 omega
theorem Zbx {l:Str} (nd:l.cps.toList.Nodup) {st1 st2:List (List Nat)} (R1:Wf st1 l.length) (R2:Wf st2 l.length):∀ (cs:List Nat) (x y:Nat),x < st1.length→y < st2.length→(∀ c∈cs,c < l.length)→cs.foldl (λx c=>(TL l (gP l st1 st2) x).getD c 0) (x * st2.length+y)=Xs st1 x cs * st2.length+Xs st2 y cs
 | [],_,_,_,_,_=>rfl
 | c :: cs,x,y,hx,hy,hc=>by
  have hcl:=hc c zM
  have ll:=len_list l
  have hcc:l.cps.toList[c]? = some (l.cps.toList[c]'(by omega)):=zC (by omega)
  have e:(TL l (gP l st1 st2) (x * st2.length+y)).getD c 0=stN st1 x c * st2.length+stN st2 y c:=by
   unfold TL
   rw [zD,zE,hcc]
   show gP l st1 st2 (x * st2.length+y) _=_
   unfold gP
   rw [(Ts hy).1,(Ts hy).2,Bc nd hcc,Bc nd hcc]
  show cs.foldl _ ((TL l (gP l st1 st2) (x * st2.length+y)).getD c 0)=_
  rw [e]
  exact Zbx nd R1 R2 cs _ _ (Wv R1 hx hcl) (Wv R2 hy hcl) λd hd=>hc d (zQ _ hd)
theorem Tk.t {Pt:Addr} {L:List (Pos × Str)} {H H':Hp} (e:Ut Pt H H') (t:Tb Pt L H):Tk H H':=λb ys h=>e b _ (λz=>by
 obtain ⟨ps,hp,_⟩:=t
 rw [z,hp] at h
 cases h) h
theorem Rf.keep {H H':Hp} {m:Addr} {l:Str} {b:Nat} {es:List Nat} {st:List (List Nat)} (h:Rf H m l b es st) (k:Tk H H'):Rf H' m l b es st:=by
 obtain ⟨e,s,ras,h1,h2,h3,h4,h5⟩:=h
 exact ⟨e,s,ras,k _ _ h1,k _ _ h2,k _ _ h3,h4,λi a r q1 q2=>k _ _ (h5 i a r q1 q2)⟩
theorem Z9.keep {H H':Hp} {m:Addr} {l:Str} {b:Nat} {es:List Nat} {st:List (List Nat)} (h:Z9 H m l b es st) (k:Tk H H'):Z9 H' m l b es st:=⟨Rf.keep (b:=b) h.lay k,h.few,h.beg,h.rows⟩
theorem Tb.Ip {Pt P2:Addr} {L L2:List (Pos × Str)} {H H':Hp} (t:Tb P2 L2 H) (t1:Tb Pt L H) (n:P2≠Pt) (e:Ut Pt H H'):Tb P2 L2 H':=by
 obtain ⟨ps,h1,h2,h3⟩:=t
 obtain ⟨qs,g1,_⟩:=t1
 exact ⟨ps,e _ _ n h1,h2,λx hx=>(h3 x hx).imp id λ⟨c,a,b⟩=>⟨c,a,e _ _ (Xm b g1 λz=>nomatch z) b⟩⟩
def Mf (Pt:Addr) (l:Str) (P:List Nat→Prop) (n:Nat) (H:Hp) (Q:VK):Prop:=∀ m' stD esD H',Ut Pt H H'→Tb Pt Yx H'→LM l P stD esD→stD.length≤n→Rf H' m' l 0 esD stD→Q (.ref m') H'
inductive Ik (Pt:Addr) (vs:List V) (H:Hp) (Q:VK):Prop
 | mk (m:Addr) (l:Str) (b:Nat) (es:List Nat) (st:List (List Nat)) (h1:vs=[.ref m]) (h2:Z9 H m l b es st) (h3:es.length≤500) (h4:l.cps.toList.Nodup) (h5:Tb Pt Yx H) (h6:Mf Pt l (λcs=>Xs st b cs∈es) st.length H Q):Ik Pt vs H Q
def Ly (Pt:Addr):Sp:=λvs H Q u3_=>Ik Pt vs H Q
theorem B9 {Pt:Addr}:∀ vs H Q E,Ly Pt vs H Q E→M8 Pt vs H Q E:=by
 rintro vs H Q E ⟨m,l,b,es,st,rfl,M,hes,nd,T,k⟩
 refine ⟨m,l,b,es,st,rfl,M,hes,T,λm' k' N H' e T' few hN hL=>?_⟩
 have h:=LM.of nd (stD:=_) (esD:=_) (k:=k') (N:=N) ⟨M.rows,M.beg,few,hN,rfl,rfl⟩
 exact k m' _ _ H' e T' h.1 h.2 hL
def Zij (K:W.Frag) (cS c0 c1 c2 c3 c4:Addr):Bool:=
 let cs:=[(c0,0),(c1,1),(c2,2),(c3,3),(c4,4)]
 (cs.all λp=>cs.all λq=>W.kitOne K (.ref p.1) (.ref q.1)==some (decide (p.2=q.2))) && (cs.all λp=>W.kitOne K (.ref p.1) (.ref cS)==some true && W.kitOne K (.ref p.1) (.type "ValueError")==some true) &&
  (cs.all λq=>W.kitOne K (.ref cS) (.ref q.1)==some false) && W.kitOne K (.ref cS) (.type "ValueError")==some true
def Ziu (K:W.Frag) (cS c0 c1 c2 c3 c4:Addr):Bool:=[c0,c1,c2,c3,c4].all λc=>W.exmOne K (.ref c) (.ref cS)==some true
structure Kls (K:W.Frag) (mg:Str→Option Value) (Z6 Y6 Z8 Yp Xa Xi:Addr):Prop where
 G8:mg "SpreadError" = some (.ref Z6)
 Zh8:mg "NoText" = some (.ref Y6)
 B4:mg "NoMachine" = some (.ref Z8)
 Zfj:mg "NoFit" = some (.ref Yp)
 Zh9:mg "NoName" = some (.ref Xa)
 Zlu:mg "NoRow" = some (.ref Xi)
 fNoText:F8 K Y6
 Zm0:F8 K Z8
 Zm1:F8 K Yp
 fNoName:F8 K Xa
 fNoRow:F8 K Xi
 Zl8:W.keepIn K (.ref Yp)=true
 kNoRow:W.keepIn K (.ref Xi)=true
 Zge:Cf K Yp none=true
 eNoRow:Cf K Xi none=true
 kit:Zij K Z6 Y6 Z8 Yp Xa Xi=true
 exm:Ziu K Z6 Y6 Z8 Yp Xa Xi=true
structure Kind (K:W.Frag) (cS c0 c1 c2 c3 c4:Addr) (C:Addr) (i:Nat):Prop where
 up:W.kitOne K (.ref C) (.ref cS)=some true
 ve:W.kitOne K (.ref C) (.type "ValueError")=some true
 k0:W.kitOne K (.ref C) (.ref c0)=some (decide (i=0))
 k1:W.kitOne K (.ref C) (.ref c1)=some (decide (i=1))
 k2:W.kitOne K (.ref C) (.ref c2)=some (decide (i=2))
 k3:W.kitOne K (.ref C) (.ref c3)=some (decide (i=3))
 k4:W.kitOne K (.ref C) (.ref c4)=some (decide (i=4))
theorem kinds_of {K:W.Frag} {cS c0 c1 c2 c3 c4:Addr} (h:Zij K cS c0 c1 c2 c3 c4=true) :
  (Kind K cS c0 c1 c2 c3 c4 c0 0∧Kind K cS c0 c1 c2 c3 c4 c1 1∧Kind K cS c0 c1 c2 c3 c4 c2 2∧Kind K cS c0 c1 c2 c3 c4 c3 3∧Kind K cS c0 c1 c2 c3 c4 c4 4)∧
  (W.kitOne K (.ref cS) (.ref c0)=some false∧W.kitOne K (.ref cS) (.ref c1)=some false∧W.kitOne K (.ref cS) (.ref c2)=some false∧W.kitOne K (.ref cS) (.ref c3)=some false∧W.kitOne K (.ref cS) (.ref c4)=some false)∧W.kitOne K (.ref cS) (.type "ValueError")=some true:=by
 unfold Zij at h
 simp only [vN,List.all_nil,Bool.and_true,yQ,beq_iff_eq] at h
 obtain ⟨⟨⟨⟨a0,a1,a2,a3,a4⟩,b0,b1,b2,b3,b4⟩,s0,s1,s2,s3,s4⟩,v⟩:=h
 exact ⟨⟨⟨b0.1,b0.2,a0.1,a0.2.1,a0.2.2.1,a0.2.2.2.1,a0.2.2.2.2⟩,⟨b1.1,b1.2,a1.1,a1.2.1,a1.2.2.1,a1.2.2.2.1,a1.2.2.2.2⟩,⟨b2.1,b2.2,a2.1,a2.2.1,a2.2.2.1,a2.2.2.2.1,a2.2.2.2.2⟩,⟨b3.1,b3.2,a3.1,a3.2.1,a3.2.2.1,a3.2.2.2.1,a3.2.2.2.2⟩,⟨b4.1,b4.2,a4.1,a4.2.1,a4.2.2.1,a4.2.2.2.1,a4.2.2.2.2⟩⟩,⟨s0,s1,s2,s3,s4⟩,v⟩
theorem Zm2 {K:W.Frag} {cS c0 c1 c2 c3 c4 c:Addr} (h:Ziu K cS c0 c1 c2 c3 c4=true) (hc:c∈[c0,c1,c2,c3,c4]):W.exmOne K (.ref c) (.ref cS)=some true:=by
 unfold Ziu at h
 exact beq_iff_eq.mp (vX.mp h c hc)
inductive Io (K:W.Frag) (cS:Addr) (c0:Addr) (c1:Addr) (c2:Addr) (c3:Addr) (c4:Addr) (vs:List V) (H:Hp) (Q:VK):Prop
 | mk (a C:Addr) (fs:List (Str × V)) (i:Nat) (h1:vs=[.ref a]) (h2:Zag H a C fs) (h3:F8 K C) (h4:Kind K cS c0 c1 c2 c3 c4 C i) (h5:i < 5) (h6:∀ H',Zr H H'→Q (.int (i:Nat)) H'):Io K cS c0 c1 c2 c3 c4 vs H Q
def L6 (K:W.Frag) (cS c0 c1 c2 c3 c4:Addr):Sp:=λvs H Q u3_=>Io K cS c0 c1 c2 c3 c4 vs H Q
theorem Eu:∀ i,i < 5→[decide (i=0),decide (i=1),decide (i=2),decide (i=3),decide (i=4)].countP id=1
 | 0,_=>by decide
 | 1,_=>by decide
 | 2,_=>by decide
 | 3,_=>by decide
 | 4,_=>by decide
theorem Zd9:∀ i,i < 5→[decide (i=0),decide (i=1),decide (i=2),decide (i=3),decide (i=4)][i]? = some true∧∀ m,m < i→[decide (i=0),decide (i=1),decide (i=2),decide (i=3),decide (i=4)][m]? = some false
 | 0,_=>⟨by decide,by decide⟩
 | 1,_=>⟨by decide,by decide⟩
 | 2,_=>⟨by decide,by decide⟩
 | 3,_=>⟨by decide,by decide⟩
 | 4,_=>⟨by decide,by decide⟩
theorem Js {f:Addr} {fd:FuncData} {Z6 Y6 Z8 Yp Xa Xi:Addr} (F:Fun K "_law_caught" "_law_caught" Wr f fd) (Z:Blt mg) (kl:Kls K mg Z6 Y6 Z8 Yp Xa Xi) :
  Yt P w K mg base CX0 1 f fd ["_law_e"] (L6 K Z6 Y6 Z8 Yp Xa Xi):=by
 refine F.ok U5 (λvs H Q E h=>?_) (λcdv A outer s H vs Q E hr h=>?_)
 ·obtain ⟨a,C,fs,i,rfl,_⟩:=h
  rfl
 obtain ⟨a,C,fs,i,rfl,ex,cf,kd,hi,k⟩:=h
 refine ⟨_,(Ze (Zm (i:=1) U5.nd (by rfl) (Or.inl (by rfl)) (X2 (Za (Zn (Se (K:=K)) (by rfl) Z.isinstance Yj (Za (pv 0) (Za (Si (v:=.ref Y6) (by rfl) kl.Zh8 rfl) Zc))) (Za (Zn (Se (K:=K)) (by rfl) Z.isinstance Yj (Za (pv 0) (Za (Si (v:=.ref Z8) (by rfl) kl.B4 rfl) Zc))) (Za (Zn (Se (K:=K)) (by rfl) Z.isinstance Yj (Za (pv 0) (Za (Si (v:=.ref Yp) (by rfl) kl.Zfj rfl) Zc))) Zc))))) 
   (Ze (Zm (i:=1) U5.nd (by rfl) (Or.inl (by rfl)) (Yd Ze7 (pv 1) (X2 (Za (Zn (Se (K:=K)) (by rfl) Z.isinstance Yj (Za (pv 0) (Za (Si (v:=.ref Xa) (by rfl) kl.Zh9 rfl) Zc))) (Za (Zn (Se (K:=K)) (by rfl) Z.isinstance Yj (Za (pv 0) (Za (Si (v:=.ref Xi) (by rfl) kl.Zlu rfl) Zc))) Zc))))) 
   (Ze (X5 (PW.pt (E9 (Yc Ir (Xh (K:=K) zW PySem.F.slot_list_count PySem.F.type_list_count Zcv (pv 1) (Za Mm Zc)) Zh (Yo _)) (Gm (Pj (Xo (K:=K) (Zn (Se (K:=K)) (by rfl) Z.isinstance Yj (Za (pv 0) (Za (V5 (v:=V.ty "ValueError") (by rfl) Z.ValueError J6 rfl) Zc))) (λ_=>rfl)))))) 
    (Zj (Zz (Zol Zkl Zh))) Yv) 
   (Zj (Zz (Xh (K:=K) zW uD uE Zcu (pv 1) (Za Mm Zc))))))),?_⟩
 refine (let zz0:TS:=_; let zz1:TS:=Zt _ zz0; let zz2:TS:=Zt _ zz1; (?_:Zt _ zz2 _ _ _))
 refine ⟨_,rfl,a,C,fs,_,_,_,rfl,ex,cf,rfl,.inr ⟨_,rfl⟩,kd.k0,_,rfl,a,C,fs,_,_,_,rfl,ex,cf,rfl,.inr ⟨_,rfl⟩,kd.k1,_,rfl,a,C,fs,_,_,_,rfl,ex,cf,rfl,.inr ⟨_,rfl⟩,kd.k2,(by show 3≤sizeLine; decide),λp hp=>?_⟩
 have s1:=Zd hp (.lst [.bl (decide (i=0)),.bl (decide (i=1)),.bl (decide (i=2))])
 refine ⟨_,rfl,_,rfl,a,C,fs,_,_,_,rfl,ex.same s1,cf,rfl,.inr ⟨_,rfl⟩,kd.k3,_,rfl,a,C,fs,_,_,_,rfl,ex.same s1,cf,rfl,.inr ⟨_,rfl⟩,kd.k4,(by show 2≤sizeLine; decide),λq hq=>?_⟩
 have s2:=Zd hq (.lst [.bl (decide (i=3)),.bl (decide (i=4))])
 refine ⟨p,q,_,_,rfl,rfl,s2 _ _ Zb,Zb,(by show 5≤sizeLine; decide),λl hl=>?_⟩
 have s3:=(s1.trans s2).trans (Zd hl (.lst ([decide (i=0),decide (i=1),decide (i=2),decide (i=3),decide (i=4)].map V.bl)))
 have hL:upd (upd (upd H p (.lst [.bl (decide (i=0)),.bl (decide (i=1)),.bl (decide (i=2))])) q (.lst [.bl (decide (i=3)),.bl (decide (i=4))])) l (.lst ([decide (i=0),decide (i=1),decide (i=2),decide (i=3),decide (i=4)].map V.bl)) l=some (.lst ([decide (i=0),decide (i=1),decide (i=2),decide (i=3),decide (i=4)].map V.bl)):=Zb
 have e5:[V.bl (decide (i=0)),V.bl (decide (i=1)),V.bl (decide (i=2))] ++ [V.bl (decide (i=3)),V.bl (decide (i=4))]=[decide (i=0),decide (i=1),decide (i=2),decide (i=3),decide (i=4)].map V.bl:=rfl
 rw [e5]
 generalize upd (upd (upd H p (.lst [.bl (decide (i=0)),.bl (decide (i=1)),.bl (decide (i=2))])) q (.lst [.bl (decide (i=3)),.bl (decide (i=4))])) l (.lst ([decide (i=0),decide (i=1),decide (i=2),decide (i=3),decide (i=4)].map V.bl))=H3 at s3 hL
 refine ⟨_,rfl,.inl ⟨rfl,_,SqL.of hL⟩,l,[decide (i=0),decide (i=1),decide (i=2),decide (i=3),decide (i=4)],rfl,rfl,hL,?_⟩
 rw [Eu i hi]
 obtain ⟨at1,at2⟩:=Zd9 i hi
 refine ⟨rfl,_,rfl,Ox ?_⟩
 refine ⟨_,rfl,a,C,fs,_,_,_,rfl,ex.same s3,cf,rfl,.inl ⟨_,rfl⟩,kd.ve,_,rfl,Ox ?_⟩
 exact ⟨_,rfl,.inl ⟨rfl,_,SqL.of hL⟩,l,[decide (i=0),decide (i=1),decide (i=2),decide (i=3),decide (i=4)],i,rfl,rfl,hL,at1,at2,k _ s3⟩
inductive Em (vs:List V) (H:Hp) (Q:VK):Prop
 | mk (m1 m2 a:Addr) (l:Str) (b1 b2:Nat) (es1 es2:List Nat) (st1 st2:List (List Nat)) (x y c:Nat) (h1:vs=[.ref m1,.ref m2,.ref a,.str (one c)]) (h2:Z9 H m1 l b1 es1 st1) (h3:Z9 H m2 l b2 es2 st2) (h4:H a=some (.tup [nI x,nI y])) (h5:x < st1.length) (h6:y < st2.length) (h7:c∈l.cps.toList) (h8:∀ r H',Zr H H'→H' r=some (.tup [nI (stp l st1 x c),nI (stp l st2 y c)])→Q (.ref r) H'):Em vs H Q
def Hz:Sp:=λvs H Q u3_=>Em vs H Q
theorem Kl {f:Addr} {fd:FuncData} (F:Fun K "pair_behind" "pair_behind" Wb f fd) (Z:Blt mg) (Vu:Cal P w K mg base "room_behind" 1 ["machine","room","text"] Hx):Yt P w K mg base CX0 2 f fd ["one","other","pair","letter"] Hz:=by
 refine F.ok L9 (λvs H Q E h=>?_) (λcdv A outer s H vs Q E hr h=>?_)
 ·obtain ⟨m1,m2,a,l,b1,b2,es1,es2,st1,st2,x,y,c,rfl,_⟩:=h
  rfl
 obtain ⟨m1,m2,a,l,b1,b2,es1,es2,st1,st2,x,y,c,rfl,M1,M2,ha,hx,hy,hc,k⟩:=h
 refine ⟨_,(Zj (Zz (Ww (Za (Ys Vu (hr.mono (by decide)) (Za (pv 0) (Za (Zu (Zv (K:=K)) (pv 2) Zh (λ_ _=>rfl)) (Za (pv 3) Zc)))) (Za (Ys Vu (hr.mono (by decide)) (Za (pv 1) (Za (Zu (Zv (K:=K)) (pv 2) Zh (λ_ _=>rfl)) (Za (pv 3) Zc)))) Zc))))),?_⟩
 have hcc:∀ d∈(one c).cps.toList,d∈l.cps.toList:=λd hd=>by rw [zT.mp hd]; exact hc
 refine ⟨_,rfl,_,rfl,a,_,_,_,rfl,rfl,SqT.of ha,Zk (j:=0) rfl,_,rfl,m1,l,b1,es1,st1,x,one c,rfl,M1,hx,hcc,?_⟩
 refine ⟨_,rfl,_,rfl,a,_,_,_,rfl,rfl,SqT.of ha,Zk (j:=1) rfl,_,rfl,m2,l,b2,es2,st2,y,one c,rfl,M2,hy,hcc,(by show 2≤sizeLine; decide),λr hr=>?_⟩
 exact k r _ (Zd hr _) Zb
inductive Zay (cN:Addr) (vs:List V) (H:Hp) (Q:VK) (E:XK):Prop
 | mk (m1 m2:Addr) (l1 l2:Str) (b1 b2:Nat) (es1 es2:List Nat) (st1 st2:List (List Nat)) (h1:vs=[.ref m1,.ref m2]) (h2:Z9 H m1 l1 b1 es1 st1) (h3:Z9 H m2 l2 b2 es2 st2) (h4:(l1=l2→Q .non H)) (h5:(l1≠l2→∀ a H',Zr H H'→H' a=some (exR a cN none)→E (.ref a) none H')):Zay cN vs H Q E
def Bi (cN:Addr):Sp:=λvs H Q E=>Zay cN vs H Q E
theorem Dg {f:Addr} {fd:FuncData} {Z6 Y6 Z8 Yp Xa Xi:Addr} (F:Fun K "look_fit" "look_fit" Vi f fd) (Z:Blt mg) (kl:Kls K mg Z6 Y6 Z8 Yp Xa Xi):Yt P w K mg base (CXE P w) 1 f fd ["one","other"] (Bi Yp):=by
 refine F.okX Ey (λvs H Q E h=>?_) (λA outer s H vs Q E hr h=>?_)
 ·obtain ⟨m1,m2,l1,l2,b1,b2,es1,es2,st1,st2,rfl,_⟩:=h
  rfl
 obtain ⟨m1,m2,l1,l2,b1,b2,es1,es2,st1,st2,rfl,M1,M2,kq,kx⟩:=h
 refine ⟨_,(Zj (X5 (Yc Ir (Zu (Zv (K:=K)) (pv 0) Zh (λ_ _=>rfl)) (Zu (Zv (K:=K)) (pv 1) Zh (λ_ _=>rfl)) (Yo _)) 
    (Zj (Zer (K:=K) (Zhw kl.Zge kl.Zl8 kl.Zfj) Bm)) Yv)),?_⟩
 obtain ⟨e1,s1,ras1,h1,_⟩:=M1.lay
 obtain ⟨e2,s2,Rn,h2,_⟩:=M2.lay
 refine ⟨_,rfl,m1,_,_,_,rfl,rfl,SqT.of h1,Zk (j:=0) rfl,_,rfl,m2,_,_,_,rfl,rfl,SqT.of h2,Zk (j:=0) rfl,rfl,_,rfl,?_⟩
 refine Wu (λc=>?_) (λc=>?_)
 ·refine ⟨(by show 0≤1000; decide),λe he=>⟨e,Yp,none,none,rfl,kl.Zge,Zb,?_⟩⟩
  rw [Qo]
  exact kx (λz=>by rw [z] at c; simp at c) e _ (Zd he _) Zb
 ·refine kq (tG λz=>c ?_)
  simp [z]
abbrev V4:List (Pos × Str):=[(⟨85,4,86,52⟩,"both" ++ ".<locals>." ++ "step"),(⟨88,4,89,56⟩,"both" ++ ".<locals>." ++ "is_end")]
def Kp2 (P1 P2:Addr) (H H':Hp):Prop:=∀ b o,b≠P1→b≠P2→H b=some o→H' b=some o
theorem Kp2.trans {P1 P2:Addr} {H H1 H2:Hp} (a:Kp2 P1 P2 H H1) (b:Kp2 P1 P2 H1 H2):Kp2 P1 P2 H H2:=λc o n1 n2 h=>b c o n1 n2 (a c o n1 n2 h)
def C1 (Pb Pl:Addr) (l:Str) (P:List Nat→Prop) (n:Nat) (H:Hp) (Q:VK):Prop:=∀ m' stD esD H',Kp2 Pb Pl H H'→Tb Pb V4 H'→Tb Pl Yx H'→LM l P stD esD→stD.length≤n→Rf H' m' l 0 esD stD→Q (.ref m') H'
inductive Es (Pb:Addr) (Pl:Addr) (cN:Addr) (vs:List V) (H:Hp) (Q:VK) (E:XK):Prop
 | mk (m1 m2:Addr) (l1 l2:Str) (b1 b2:Nat) (es1 es2:List Nat) (st1 st2:List (List Nat)) (h1:vs=[.ref m1,.ref m2]) (h2:Z9 H m1 l1 b1 es1 st1) (h3:Z9 H m2 l2 b2 es2 st2) (h4:Tb Pb V4 H) (h5:Tb Pl Yx H) (h6:Pb≠Pl) (h7:(l1=l2→st1.length * st2.length≤216∧l1.cps.toList.Nodup∧C1 Pb Pl l1 (λcs=>Xs st1 b1 cs∈es1∧Xs st2 b2 cs∈es2) (st1.length * st2.length) H Q)) (h8:(l1≠l2→∀ a H',Zr H H'→H' a=some (exR a cN none)→E (.ref a) none H')):Es Pb Pl cN vs H Q E
def Sh (Pb Pl cN:Addr):Sp:=λvs H Q E=>Es Pb Pl cN vs H Q E
theorem Zhz {f:Addr} {fd:FuncData} (F:Fun K "both" "both" U7 f fd) (Z:Blt mg) {cw Pb Pl:Addr} (R0:fd.code=.ref cw) (CH:W.CodeHd base cw Pb) (BM:Oh mg base) {cN:Addr} (Od:Ic P w K mg base "look_fit" 1 ["one","other"] (Bi cN))
  (CM:∀ base,Cal P w K mg base "machine_from" 5 ["letters","begin","step","is_end"] (Zd7 P w K mg base 3)) (CB:∀ base,Cal P w K mg base "pair_behind" 2 ["one","other","pair","letter"] Hz) (Nd:Cal P w K mg base "least" 5 ["machine"] (Ly Pl)):Yt P w K mg base (CXE P w) 6 f fd ["one","other"] (Sh Pb Pl cN):=by
 refine F.okX Gh (λvs H Q E h=>?_) (λA outer s H vs Q E hr h=>?_)
 ·obtain ⟨m1,m2,l1,l2,b1,b2,es1,es2,st1,st2,rfl,_⟩:=h
  rfl
 obtain ⟨m1,m2,l,l2,b1,b2,es1,es2,st1,st2,rfl,M1,M2,TB,TL0,nbl,kq,kx⟩:=h
 have Ng:∀ x∈V4,x.1.line=(⟨85,4,86,52⟩:Pos).line→x.1.col=(⟨85,4,86,52⟩:Pos).col→x.2 = "both" ++ ".<locals>." ++ "step":=λx hx h1 _=>by
  rcases yE.mp hx with z | z
  ·rw [z]
  ·rw [zT.mp z] at h1
   exact absurd h1 (by decide)
 have Ef:∀ x∈V4,x.1.line=(⟨88,4,89,56⟩:Pos).line→x.1.col=(⟨88,4,89,56⟩:Pos).col→x.2 = "both" ++ ".<locals>." ++ "is_end":=λx hx h1 _=>by
  rcases yE.mp hx with z | z
  ·rw [z] at h1
   exact absurd h1 (by decide)
  ·rw [zT.mp z]
 let Zdv:=V4
 have Uu:=CM base
 refine ⟨_,(Ze (Xw (Zom Od (hr.mono (by decide)) Bm (Za (pv 0) (Za (pv 1) Zc)))) 
   (Ze (Gp (i:=2) (L:=Zdv) (sc:=Zg U7) Gh.nd (by rfl) (Or.inl (by rfl)) R0 CH BM (by first | exact zM | exact zQ _ zM) Ng) 
   (Ze (Gp (i:=3) (L:=Zdv) (sc:=Zg U7) Gh.nd (by rfl) (Or.inl (by rfl)) R0 CH BM (by first | exact zM | exact zQ _ zM) Ef) 
   (Zj (Zz (Ys Nd (hr.mono (by decide)) (Za (Zj0 Uu (hr.mono (by decide)) (Za (Zu (Zv (K:=K)) (pv 0) Zh (λ_ _=>rfl)) (Za (Ww (Za (Zu (Zv (K:=K)) (pv 0) Zh (λ_ _=>rfl)) (Za (Zu (Zv (K:=K)) (pv 1) Zh (λ_ _=>rfl)) Zc))) (Za (pv 2) (Za (pv 3) Zc))))) Zc))))))),?_⟩
 refine (let zz0:TS:=_; let zz1:TS:=Zt _ zz0; let zz2:TS:=Zt _ zz1; (?_:Zt _ zz2 _ _ _))
 have hn1:=M1.beg
 have hn2:=M2.beg
 have hTP:∀ {H:Hp} {a:Addr} {xs:List V},Tb Pb V4 H→H a=some (.tup xs)→a≠Pb:=λhT h z=>by
  obtain ⟨ps,hp,_⟩:=hT
  rw [z,hp] at h
  cases h
 refine ⟨_,rfl,_,rfl,m1,m2,l,l2,b1,b2,es1,es2,st1,st2,rfl,M1,M2,λhll=>?_,kx⟩
 subst hll
 obtain ⟨hmul,nd,k⟩:=kq rfl
 have R1:Wf st1 l.length:=M1.rows
 have R2:Wf st2 l.length:=M2.rows
 refine ⟨TB,λH1 f1 c1 ct1 doc1 e1 T1 hf10 hf1 hc1=>?_⟩
 refine ⟨T1,λH2 f2 c2 ct2 doc2 e2 T2 hf20 hf2 hc2=>?_⟩
 have k1:=Tk.t e1 TB
 have k2:=k1.trans (Tk.t e2 T1)
 have M12:=M1.keep k2
 have M22:=M2.keep k2
 have TL2:Tb Pl Yx H2:=Tb.Ip (Tb.Ip TL0 TB nbl.symm e1) T1 nbl.symm e2
 have hf12:=e2 _ _ (λz=>by
  obtain ⟨ps,hp,_⟩:=T1
  rw [z,hp] at hf1
  cases hf1) hf1
 have hc12:=e2 _ _ (λz=>by
  obtain ⟨ps,hp,_⟩:=T1
  rw [z,hp] at hc1
  cases hc1) hc1
 obtain ⟨eA,sA,rA,g1,g2,g3,g4,g5⟩:=M12.lay
 obtain ⟨eB,sB,rB,p1,p2,p3,p4,p5⟩:=M22.lay
 refine ⟨_,rfl,m1,_,_,_,rfl,rfl,SqT.of g1,Zk (j:=0) rfl,_,rfl,m1,_,_,_,rfl,rfl,SqT.of g1,Zk (j:=1) rfl,_,rfl,m2,_,_,_,rfl,rfl,SqT.of p1,Zk (j:=1) rfl,(by show 2≤sizeLine; decide),λa0 ha0=>⟨_,rfl,_,rfl,λUs B=>?_⟩⟩
 have s3:=Zd ha0 (.tup [nI b1,nI b2])
 have h3a:upd H2 a0 (.tup [nI b1,nI b2]) a0=some (.tup [nI b1,nI b2]):=Zb
 have M13:=M12.same s3
 have M23:=M22.same s3
 have Zo3:=s3 _ _ hf12
 have Zo2:=s3 _ _ hf2
 have Zo8:=s3 _ _ hc12
 have Zo7:=s3 _ _ hc2
 have T3:=T2.same s3
 have TL3:=TL2.same s3
 generalize upd H2 a0 (.tup [nI b1,nI b2])=H3 at s3 h3a M13 M23 Zo3 Zo2 Zo8 Zo7 T3 TL3
 have Ie:=CB Us
 have hpl:∀ x,x < st1.length * st2.length→x / st2.length < st1.length∧x % st2.length < st2.length:=λx hx=>⟨Nat.div_lt_of_lt_mul (by rw [Nat.mul_comm]; exact hx),Nat.mod_lt _ (by omega)⟩
 have hgP:∀ x c,x < st1.length * st2.length→c∈l.cps.toList→gP l st1 st2 x c < st1.length * st2.length:=λx c hx hc=>Qs (Ni M1 (hpl x hx).1 hc) (Ni M2 (hpl x hx).2 hc)
 have kv:∀ x,(kP st2.length x).map kV=[nI (x / st2.length),nI (x % st2.length)]:=λx=>rfl
 have hbb:(b1 * st2.length+b2) / st2.length=b1∧(b1 * st2.length+b2) % st2.length=b2:=Ts hn2
 refine ⟨_,_,CM Us,f1,_,["pair","letter"],f2,_,["pair"],l,a0,b1 * st2.length+b2,gP l st1 st2,(λx=>decide (x / st2.length∈es1) && decide (x % st2.length∈es2)),kP st2.length,(λx=>x < st1.length * st2.length),(λH=>Z9 H m1 l b1 es1 st1∧Z9 H m2 l b2 es2 st2∧H c1=some (CdO c1 ("both" ++ ".<locals>." ++ "step"))∧H c2=some (CdO c2 ("both" ++ ".<locals>." ++ "is_end"))),?_,?_,?_,?_,?_,rfl,?_,Qs hn1 hn2,λx hx=>⟨yA hx hmul,λc hc=>hgP x c hx hc⟩,λx y _ _ h=>Zl7 h,M1.few.2.1,Zo3,Zo2,⟨M13,M23,Zo8,Zo7⟩,λm3 H4 N e4 hN hM=>?_⟩
 ·refine Aq (N:=["pair","letter","one","other"]) (fv:=[.ref m1,.ref m2]) ⟨rfl,rfl,rfl,by decide,rfl,by decide +kernel,by decide +kernel⟩ (B.cl (sc:=Zg U7) [0,1] rfl (by decide +kernel) rfl rfl (λj i x a b=>?_) (λj i x a b=>?_)) (λvs H Q E h=>?_) (λvs H Q E h=>?_) (λA outer s H vs Q E hr h=>?_)
  ·match j,a,b with
   | 0,a,b=>cases a; cases b; exact ⟨rfl,rfl⟩
   | 1,a,b=>cases a; cases b; exact ⟨rfl,rfl⟩
   | j+2,a,_=>simp at a
  ·match j,a,b with
   | 0,a,b=>cases a; cases b; rfl
   | 1,a,b=>cases a; cases b; rfl
   | j+2,a,_=>simp at a
  ·obtain ⟨a,x,c,rfl,_⟩:=h
   rfl
  ·obtain ⟨a,x,c,rfl,_,_,_,h1,h2,_⟩:=h
   exact ⟨h1,h2.2.2.1⟩
  ·obtain ⟨a,x,c,rfl,ha,hx,hc,h1,⟨q1,q2,_,_⟩,k⟩:=h
   refine ⟨_,(Zj (Zz (Ys Ie (hr.mono (by decide)) (Za (pv 2) (Za (pv 3) (Za (pv 0) (Za (pv 1) Zc))))))),?_⟩
   refine ⟨_,rfl,_,rfl,_,rfl,_,rfl,m1,m2,a,l,b1,b2,es1,es2,st1,st2,x / st2.length,x % st2.length,c,rfl,q1,q2,ha,(hpl x hx).1,(hpl x hx).2,hc,λr H' e' hr'=>k r H' e' ?_⟩
   rw [kv]
   have hd:=Ts (x:=stp l st1 (x / st2.length) c) (Ni M2 (hpl x hx).2 hc)
   show H' r=some (.tup [nI (gP l st1 st2 x c / st2.length),nI (gP l st1 st2 x c % st2.length)])
   unfold gP
   rw [hd.1,hd.2]
   exact hr'
 ·exact .all λus hl=>match us,hl with | [_,_],_=>rfl
 ·refine Aq (N:=["pair","one","other"]) (fv:=[.ref m1,.ref m2]) ⟨rfl,rfl,rfl,by decide,rfl,by decide +kernel,by decide +kernel⟩ (B.cl (sc:=Zg U7) [0,1] rfl (by decide +kernel) rfl rfl (λj i x a b=>?_) (λj i x a b=>?_)) (λvs H Q E h=>?_) (λvs H Q E h=>?_) (λA outer s H vs Q E hr h=>?_)
  ·match j,a,b with
   | 0,a,b=>cases a; cases b; exact ⟨rfl,rfl⟩
   | 1,a,b=>cases a; cases b; exact ⟨rfl,rfl⟩
   | j+2,a,_=>simp at a
  ·match j,a,b with
   | 0,a,b=>cases a; cases b; rfl
   | 1,a,b=>cases a; cases b; rfl
   | j+2,a,_=>simp at a
  ·obtain ⟨a,x,rfl,_⟩:=h
   rfl
  ·obtain ⟨a,x,rfl,_,_,h1,h2,_⟩:=h
   exact ⟨h1,h2.2.2.2⟩
  ·obtain ⟨a,x,rfl,ha,hx,h1,⟨q1,q2,_,_⟩,k⟩:=h
   refine ⟨_,(Zj (Zz (Gu (We (U8 (K:=K)) (Zu (Zv (K:=K)) (pv 0) Zh (λ_ _=>rfl)) (Zu (Zv (K:=K)) (pv 1) Zh (λ_ _=>rfl)) (by with_unfolding_all rfl)) (Bp (We (U8 (K:=K)) (Zu (Zv (K:=K)) (pv 0) Zh (λ_ _=>rfl)) (Zu (Zv (K:=K)) (pv 2) Zh (λ_ _=>rfl)) (by with_unfolding_all rfl)))))),?_⟩
   obtain ⟨eA,sA,rA,g1,g2,g3,g4,g5⟩:=q1.lay
   obtain ⟨eB,sB,rB,p1,p2,p3,p4,p5⟩:=q2.lay
   have ha':H a=some (.tup [nI (x / st2.length),nI (x % st2.length)]):=ha
   have i1:inV (nI (x / st2.length)) (es1.map nI)=decide (x / st2.length∈es1):=Ta _ es1
   have i2:inV (nI (x % st2.length)) (es2.map nI)=decide (x % st2.length∈es2):=Ta _ es2
   have kk:Q (.bl (decide (x / st2.length∈es1) && decide (x % st2.length∈es2))) H:=k _ (Zr.refl _)
   refine ⟨_,rfl,a,_,_,_,rfl,rfl,SqT.of ha',Zk (j:=0) rfl,_,rfl,m1,_,_,_,rfl,rfl,SqT.of g1,Zk (j:=2) rfl,eA,_,rfl,.inr (SqT.of g2),rfl,Vd es1,_,rfl,?_⟩
   rw [i1]
   refine Wu (λc=>?_) (λc=>?_)
   ·have c':decide (x / st2.length∈es1)=true:=c
    refine ⟨_,rfl,a,_,_,_,rfl,rfl,SqT.of ha',Zk (j:=1) rfl,_,rfl,m2,_,_,_,rfl,rfl,SqT.of p1,Zk (j:=2) rfl,eB,_,rfl,.inr (SqT.of p2),rfl,Vd es2,?_⟩
    rw [c',← i2] at kk
    exact kk
   ·have c':decide (x / st2.length∈es1)=false:=eq_false_of_ne_true c
    rw [c'] at kk
    exact kk
 ·exact .all λus hl=>match us,hl with | [_],_=>rfl
 ·exact λH1 H2 e ⟨a1,a2,a3,a4⟩=>⟨a1.same e,a2.same e,e _ _ a3,e _ _ a4⟩
 ·rw [kv,hbb.1,hbb.2]
  exact h3a
 ·have T4:=T3.same e4
  have TL4:=TL3.same e4
  have hlen:∀ x,x < st1.length * st2.length→(TL l (gP l st1 st2) x).length=l.length:=λx _=>by unfold TL; rw [zA]; exact len_list l
  have hpp:∀ x,x < st1.length * st2.length→∀ y∈TL l (gP l st1 st2) x,y < st1.length * st2.length:=λx hx y hy=>by
   obtain ⟨c,hc,rfl⟩:=zY.mp hy
   exact hgP x c hx hc
  have hb0:b1 * st2.length+b2 < st1.length * st2.length:=Qs hn1 hn2
  have hR:=Zce (T:=TL l (gP l st1 st2)) (pl:=λx=>x < st1.length * st2.length) hb0 hlen hpp hN
  have Zc2:=Kh (k:=id) (T:=TL l (gP l st1 st2)) (b:=b1 * st2.length+b2) N
  have hol:(Zo id (TL l (gP l st1 st2)) (b1 * st2.length+b2) N).length≤st1.length * st2.length:=Ui (P:=λx=>x < st1.length * st2.length) hb0 hpp (λx hx=>hx) N
  have ht:∀ cs,(∀ c∈cs,c < l.length)→_:=λcs hc=>Ea (e:=λx=>decide (x / st2.length∈es1) && decide (x % st2.length∈es2)) (T:=TL l (gP l st1 st2)) (pl:=λx=>x < st1.length * st2.length) hb0 hlen hpp hN cs 0 _ hc Zc2.2
  have hrl:(Yk id (TL l (gP l st1 st2)) (Zo id (TL l (gP l st1 st2)) (b1 * st2.length+b2) N)).length=(Zo id (TL l (gP l st1 st2)) (b1 * st2.length+b2) N).length:=by unfold Yk; rw [zA]
  have hel:(Xg (Zo id (TL l (gP l st1 st2)) (b1 * st2.length+b2) N) λx=>decide (x / st2.length∈es1) && decide (x % st2.length∈es2)).length≤(Zo id (TL l (gP l st1 st2)) (b1 * st2.length+b2) N).length:=by
   unfold Xg
   exact yG (xO _ _) (by rw [zV]; exact zI _)
  have hp1:=Zc2.1
  refine ⟨m3,l,0,_,_,rfl,⟨hM,⟨M1.few.1,M1.few.2.1,by omega⟩,by omega,hR⟩,by omega,nd,TL4,λm' stD esD H5 e5 TL5 D hs hL=>?_⟩
  have T5:=Tb.Ip T4 TL4 nbl e5
  have kp:Kp2 Pb Pl H H5:=λb o n1 n2 h=>e5 _ _ n2 (e4 _ _ (s3 _ _ (e2 _ _ n1 (e1 _ _ n1 h))))
  refine k m' stD esD H5 kp T5 TL5 (D.Zgr λcs hc=>?_) (by omega) hL
  rw [ht cs hc,Zbx nd R1 R2 cs b1 b2 hn1 hn2 hc,yQ,decide_eq_true_eq,decide_eq_true_eq]
  have hd:=Ts (x:=Xs st1 b1 cs) (Ql R2 cs b2 hn2 hc)
  rw [hd.1,hd.2]
theorem Um {H:Hp} {p sc s0:Addr} {o:HO} (F:Yb H p sc) (h1:p≠s0) (h2:sc≠s0):Yb (upd H s0 o) p sc:=by
 obtain ⟨xs,q1,q2⟩:=F.here
 obtain ⟨ns,q3⟩:=F.cells
 exact ⟨⟨xs,by rw [Zi h1]; exact q1,q2⟩,ns,by rw [Zi h2]; exact q3⟩
theorem Zgd (i:Nat):V.int (0+(i:Int))=nI i:=by
 rw [Int.zero_add]
 rfl
theorem Vx {α β:Type} (f:α→β) (l:List α) (x:α):l.map f ++ [f x]=(l ++ [x]).map f:=by
 rw [zZ]
 rfl
def Zjc (es:List Nat) (st:List (List Nat)):Prop:=es.length≤6∧(∀ x∈es,x < st.length)∧st.length≤6
inductive Lw (vs:List V) (H:Hp) (Q:VK):Prop
 | mk (p sc:Addr) (l:Str) (most:Int) (h1:vs=[.ref p,.str l,.int most]) (h2:0 < l.length) (h3:l.length≤3) (h4:0 < most) (h5:most≤6) (h6:Yb H p sc) (h7:∀ m b es st H',Z9 H' m l b es st→Zjc es st→Yh H H' p→Yb H' p sc→Q (.ref m) H'):Lw vs H Q
def W6:Sp:=λvs H Q u3_=>Lw vs H Q
theorem Kn {f:Addr} {fd:FuncData} (F:Fun K "_law_machine" "_law_machine" Xl f fd) (Z:Blt mg) (Zq:Cal P w K mg base "_law_pick" 1 ["_law_flow_here","_law_many"] Sg):Yt P w K mg base CX0 2 f fd ["_law_flow_here","_law_letters_here","_law_most"] W6:=by
 refine F.ok Wh (λvs H Q E h=>?_) (λcdv A outer s H vs Q E hr h=>?_)
 ·obtain ⟨p,sc,l,most,rfl,_⟩:=h
  rfl
 obtain ⟨p,sc,l,most,rfl,hl0,hl1,hm0,hm1,FA,k⟩:=h
 have hln:=len_list l
 refine ⟨_,(Ze (Zm (i:=3) Wh.nd (by rfl) (Or.inr (by rfl)) (Yd X8 Zh (Ys Zq (hr.mono (by decide)) (Za (pv 0) (Za (pv 2) Zc))))) 
   (Ze (Zm (i:=4) Wh.nd (by rfl) (Or.inl (by rfl)) (Zs (Z3 (K:=K)) (by rfl) Z.tuple Z7 (Za (Yw (sc:=Zg Xl) (Nm:=["_law_flow_here","_law_letters_here","_law_most","_law_rooms","_law_ends","_law_steps","_law_room"]) (own:=["_law_room"]) (fr:=[0]) ⟨rfl,by decide +kernel,by decide +kernel,by decide +kernel,by decide +kernel⟩ (by rfl) (Yi (by decide)) (Xe (by rfl) Z.range (Za (pv 3) Zc)) (λd=>(Zl (i:=0) Ny (by rfl) (Or.inl (by rfl)))) (λd=>(Uy (Yc Vh (Ys Zq (hr.mono (by decide)) (Za (pv 1) (Za Zh Zc))) Zh (Yo _)))) (λd=>(pv 0))) Zc))) 
   (Ze (Zm (i:=5) Wh.nd (by rfl) (Or.inl (by rfl)) (X2 Zc)) 
   (Ze (Xq yB (by rfl) (Xe (by rfl) Z.range (Za (pv 3) Zc)) (Zl (i:=6) Wh.nd (by rfl) (Or.inl (by rfl))) 
    (Zj (Xw (Xh (K:=K) zW yI yJ Xf (pv 5) (Za (Zs (Z3 (K:=K)) (by rfl) Z.tuple Z7 (Za (Yw (sc:=Zg Xl) (Nm:=["_law_flow_here","_law_letters_here","_law_most","_law_rooms","_law_ends","_law_steps","_law_room"]) (own:=["_law_letter"]) (fr:=[0,3]) ⟨rfl,by decide +kernel,by decide +kernel,by decide +kernel,by decide +kernel⟩ (by rfl) (Yi (by decide)) (Rp (pv 1)) (λd=>(Zl (i:=0) Nw (by rfl) (Or.inl (by rfl)))) (λd=>Y5) (λd=>(Ys Zq (hr.mono (by decide)) (Za (pv 1) (Za (pv 2) Zc))))) Zc)) Zc))))) 
   (Zj (Zz (Ww (Za (pv 1) (Za (Ys Zq (hr.mono (by decide)) (Za (pv 0) (Za (pv 3) Zc))) (Za (pv 4) (Za (Zs (Z3 (K:=K)) (by rfl) Z.tuple Z7 (Za (pv 5) Zc)) Zc))))))))))),?_⟩
 refine (let zz0:TS:=_; let zz1:TS:=Zt _ zz0; let zz2:TS:=Zt _ zz1; let zz3:TS:=Zt _ zz2; (?_:Zt _ zz3 _ _ _))
 refine ⟨_,rfl,_,rfl,p,sc,most,rfl,hm0,by omega,FA,λr xs0 hr0 hr1 hx0=>⟨_,_,rfl,rfl,?_⟩⟩
 have FA0:=FA.go hx0
 have d0:Yh H (upd H p (.lst xs0)) p:=Yh.upd _
 refine ⟨_,rfl,_,rfl,by omega,by omega,?_⟩
 refine Xz (lo:=0) (k:=(1+r).toNat) (λi acc H2=>∃ es:List Nat,acc=es.map nI∧es.length≤i∧(∀ x∈es,x < i)∧Yb H2 p sc∧Yh H H2 p) (yO (show (1+r).toNat≤6 by omega) (by decide)) ⟨[],rfl,zI _,λx z=>absurd z (by simp),FA0,d0⟩
  (λi acc H2 ⟨es,e,hl',_⟩=>by rw [e,zA]; exact hl') (λi acc H2 hi hp=>?_) (λacc H2 hp q hq=>?_)
 ·obtain ⟨es,rfl,hel,hem,FA2,dr⟩:=hp
  refine ⟨_,rfl,p,sc,2,rfl,by decide,by decide,FA2,λr2 xs1 _ _ hx1=>⟨rfl,_,rfl,?_⟩⟩
  refine Wu (λ_=>⟨_,rfl,es ++ [i],?_,?_,λx hx=>?_,FA2.go hx1,W0 dr _⟩) (λ_=>⟨es,rfl,by omega,λx hx=>wJ (hem x hx),FA2.go hx1,W0 dr _⟩)
  ·rw [Zgd,Vx]
  ·rw [zK,vJ]
   omega
  ·rcases yS.mp hx with z | z
   ·exact wJ (hem x z)
   ·rw [zT.mp z]; exact vA _
 obtain ⟨es,rfl,hel,hem,FA2,dr2⟩:=hp
 refine ⟨q,_,rfl,.inl ⟨SqL.of Zb,λe he=>?_⟩⟩
 have s1:=Zd hq (.lst (es.map nI))
 have s2:=Zd he (.tup (es.map nI))
 have FA3:=(FA2.same s1).same s2
 have d3:=(dr2.trans (Yh.same s1)).trans (Yh.same (p:=p) s2)
 generalize hG:upd (upd H2 q (.lst (es.map nI))) e (.tup (es.map nI))=H3 at FA3 d3 ⊢
 have he3:H3 e=some (.tup (es.map nI)):=by rw [← hG]; exact Zb
 refine ⟨(by show 0≤sizeLine; decide),λs0 hs0=>?_⟩
 have s4:=Zd hs0 (.lst [])
 have nps:p≠s0:=by
  obtain ⟨ys,h1,_⟩:=FA3.here
  exact Zf h1 hs0
 have Zlr:sc≠s0:=by
  obtain ⟨ns,h1⟩:=FA3.cells
  exact Zf h1 hs0
 have nes:e≠s0:=Zf he3 hs0
 have nep:e≠p:=by
  obtain ⟨ys,h1,_⟩:=FA3.here
  exact Xm he3 h1 (by intro z; cases z)
 have fresh:∀ b o,H b=some o→b≠p→b≠s0:=λb o hb hne=>Zf (d3 b o hb hne) hs0
 refine ⟨_,rfl,_,rfl,by omega,by omega,?_⟩
 refine Sb (lo:=0) (n:=(1+r).toNat) (λi σ H4=>∃ (v:Option V) (ras:List Addr) (st:List (List Nat)),σ=[some (.ref p),some (.str l),some (.int most),some (.int (1+r)),some (.ref e),some (.ref s0),v]∧H4 s0=some (.lst (ras.map V.ref))∧ras.length=i∧st.length=i∧
   (∀ (j:Nat) a r',ras[j]? = some a→st[j]? = some r'→H4 a=some (.tup (r'.map nI)))∧(∀ r'∈st,r'.length=l.length∧∀ x∈r',x < (1+r).toNat)∧H4 e=some (.tup (es.map nI))∧Yb H4 p sc∧Yh H H4 p)
  ⟨none,[],[],rfl,Zb,rfl,rfl,λj a r' z=>by simp at z,λr' z=>absurd z (by simp),s4 _ _ he3,FA3.same s4,d3.trans (Yh.same s4)⟩ ?_ ?_
 ·rintro i σ H4 hi ⟨v,ras,st,rfl,hs,hra,hst,X3,Fn,he4,FA4,d4⟩
  refine ⟨_,rfl,.inl ⟨rfl,_,SqL.of hs⟩,_,rfl,l,rfl,?_⟩
  refine O9 (cs:=l.cps.toList) (λj acc H5=>∃ ys:List Nat,acc=ys.map nI∧ys.length=j∧(∀ x∈ys,x < (1+r).toNat)∧Yb H5 p sc∧Yh H4 H5 p) (yO (show l.cps.toList.length≤3 by omega) (by decide)) ⟨[],rfl,rfl,λx z=>absurd z (by simp),FA4,Yh.refl _ _⟩
   (λj acc H5 ⟨ys,e',hl',_⟩=>by rw [e',zA,hl']; exact zI _) (λj acc H5 c hc hp=>?_) (λacc H5 hp q5 hq5=>?_)
  ·obtain ⟨ys,rfl,hyl,hyv,FA5,dr5⟩:=hp
   refine Ss ⟨_,rfl,_,rfl,p,sc,_,rfl,by omega,by omega,FA5,λr5 xs5 h50 h51 hx5=>⟨ys ++ [r5.toNat],?_,by rw [zK,hyl]; rfl,λx hx=>?_,FA5.go hx5,W0 dr5 _⟩⟩
   ·rw [← Vx]
    have:V.int r5=nI r5.toNat:=by
     show V.int r5=V.int ((r5.toNat:Nat):Int)
     rw [show ((r5.toNat:Nat):Int)=r5 by omega]
    rw [this]
   ·rcases yS.mp hx with z | z
    ·exact hyv x z
    ·rw [zT.mp z]; omega
  ·obtain ⟨ys,rfl,hyl,hyv,FA5,dr5⟩:=hp
   refine ⟨q5,_,rfl,.inl ⟨SqL.of Zb,λa ha=>?_⟩⟩
   have t1:=Zd hq5 (.lst (ys.map nI))
   have t2:=Zd ha (.tup (ys.map nI))
   have hs5:H5 s0=some (.lst (ras.map V.ref)):=dr5 _ _ hs (xV nps)
   have nas:a≠s0:=λz=>by rw [z,t1 _ _ hs5] at ha; cases ha
   refine ⟨s0,_,_,rfl,rfl,t2 _ _ (t1 _ _ hs5),?_,?_⟩
   ·rw [zA]
    exact yO (show ras.length≤6 by omega) (by decide)
   ·have keep:∀ b ys',H4 b=some (.tup ys')→upd (upd (upd H5 q5 (.lst (ys.map nI))) a (.tup (ys.map nI))) s0 (.lst (ras.map V.ref ++ [.ref a])) b=some (.tup ys'):=λb ys' hb=>by
     have nbp:b≠p:=by
      obtain ⟨zs,h1,_⟩:=FA4.here
      exact Xm hb h1 (by intro z; cases z)
     have nbs:b≠s0:=Xm hb hs (by intro z; cases z)
     rw [Zi nbs]
     exact t2 _ _ (t1 _ _ (dr5 _ _ hb nbp))
    refine ⟨_,ras ++ [a],st ++ [ys],rfl,?_,?_,?_,?_,?_,?_,?_,?_⟩
    ·rw [Zb,← Vx]
    ·rw [zK,hra]; rfl
    ·rw [zK,hst]; rfl
    ·intro j a' r' z1 z2
     rcases xB j i with hj | hj
     ·rw [zU (by omega)] at z1 z2
      exact keep _ _ (X3 j a' r' z1 z2)
     ·rw [zX (by omega)] at z1 z2
      have hj0:j=i:=by
       have:=(zF.mp z1).1
       rw [vJ] at this
       omega
      subst hj0
      rw [show j - ras.length=0 by omega] at z1
      rw [show j - st.length=0 by omega] at z2
      cases z1
      cases z2
      rw [Zi nas]
      exact Zb
    ·intro r' hr'
     rcases yS.mp hr' with z | z
     ·exact Fn r' z
     ·rw [zT.mp z]
      exact ⟨by omega,hyv⟩
    ·exact keep _ _ he4
    ·exact Um ((FA5.same t1).same t2) nps Zlr
    ·intro b o hb hne
     rw [Zi (fresh b o hb hne)]
     exact t2 _ _ (t1 _ _ (dr5 _ _ (d4 b o hb hne) hne))
 ·rintro σ H4 ⟨v,ras,st,rfl,hs,hra,hst,X3,Fn,he4,FA4,d4⟩
  refine ⟨_,rfl,_,rfl,_,rfl,p,sc,_,rfl,by omega,by omega,FA4,λb xs5 hb0 hb1 hx5=>?_⟩
  have FA5:=FA4.go hx5
  have d5:Yh H4 (upd H4 p (.lst xs5)) p:=Yh.upd _
  refine ⟨_,rfl,_,rfl,s0,_,rfl,.inl ⟨SqL.of (d5 _ _ hs (xV nps)),λs5 hs5=>⟨(by show 4≤sizeLine; decide),λm hm=>?_⟩⟩⟩
  have t1:=Zd hs5 (.tup (ras.map V.ref))
  have t2:=Zd hm (.tup [.str l,.int b,.ref e,.ref s5])
  refine k m b.toNat es st _ ⟨⟨e,s5,ras,?_,?_,?_,by omega,λj a' r' z1 z2=>?_⟩,⟨hl0,hl1,by omega⟩,by omega,λr' hr'=>⟨(Fn r' hr').1,λx hx=>by have:=(Fn r' hr').2 x hx; omega⟩⟩ ⟨by omega,λx hx=>by have:=hem x hx; omega,by omega⟩ ?_ ((FA5.same t1).same t2)
  ·rw [Zb]
   have:V.int b=nI b.toNat:=by
    show V.int b=V.int ((b.toNat:Nat):Int)
    rw [show ((b.toNat:Nat):Int)=b by omega]
   rw [this]
  ·exact t2 _ _ (t1 _ _ (d5 _ _ he4 nep))
  ·exact t2 _ _ Zb
  ·have hb':=X3 j a' r' z1 z2
   have nbp:a'≠p:=by
    obtain ⟨zs,h1,_⟩:=FA4.here
    exact Xm hb' h1 (by intro z; cases z)
   exact t2 _ _ (t1 _ _ (d5 _ _ hb' nbp))
  ·exact (d4.trans d5).trans ((Yh.same t1).trans (Yh.same t2))
def cpl (n:Nat) (es:List Nat):List Nat:=(List.range n).filter λr=>!decide (r∈es)
theorem Zi2 {n:Nat} {es:List Nat} {r:Nat}:r∈cpl n es↔r < n∧r∉es:=by
 unfold cpl
 rw [xX,yN]
 simp
theorem Zb7 (n:Nat) (es:List Nat):(cpl n es).length≤n:=by
 unfold cpl
 exact yG (xO _ _) (by rw [zV]; exact zI _)
theorem Zgq {i:Nat} {es:List Nat}:cpl (i+1) es=cpl i es ++ if decide (i∈es)=true then [] else [i]:=by
 unfold cpl
 rw [wW,wU,vD]
 by_cases c:decide (i∈es)=true
 ·rw [if_pos c,c]; rfl
 ·rw [if_neg c,eq_false_of_ne_true c]; rfl
inductive Er (Pt:Addr) (vs:List V) (H:Hp) (Q:VK):Prop
 | mk (m:Addr) (l:Str) (b:Nat) (es:List Nat) (st:List (List Nat)) (h1:vs=[.ref m]) (h2:Z9 H m l b es st) (h3:es.length≤500) (h4:Tb Pt Yx H) (h5:∀ m' k N H',Ut Pt H H'→Tb Pt Yx H'→dn (lkN st (cpl st.length es) (k+1))≤dn (lkN st (cpl st.length es) k)→(Zo id (TL l (gL l st (lkN st (cpl st.length es) (k+1)))) ((lkN st (cpl st.length es) (k+1)).getD b 0) N).length≤N→Rf H' m' l 0 (Xg (Zo id (TL l (gL l st (lkN st (cpl st.length es) (k+1)))) ((lkN st (cpl st.length es) (k+1)).getD b 0) N) λx=>decide (x∈cpl st.length es)) (Yk id (TL l (gL l st (lkN st (cpl st.length es) (k+1)))) (Zo id (TL l (gL l st (lkN st (cpl st.length es) (k+1)))) ((lkN st (cpl st.length es) (k+1)).getD b 0) N))→Q (.ref m') H'):Er Pt vs H Q
def Zaz (Pt:Addr):Sp:=λvs H Q u3_=>Er Pt vs H Q
theorem Dm {f:Addr} {fd:FuncData} {Pt:Addr} (F:Fun K "contrary" "contrary" W5 f fd) (Z:Blt mg) (Nd:Cal P w K mg base "least" 5 ["machine"] (M8 Pt)):Yt P w K mg base CX0 6 f fd ["machine"] (Zaz Pt):=by
 refine F.ok Mj (λvs H Q E h=>?_) (λcdv A outer s H vs Q E hr h=>?_)
 ·obtain ⟨m,l,b,es,st,rfl,_⟩:=h
  rfl
 obtain ⟨m,l,b,es,st,rfl,M,hes,hT,k⟩:=h
 refine ⟨_,(Ze (Zm (i:=1) Mj.nd (by rfl) (Or.inl (by rfl)) (Zs (Z3 (K:=K)) (by rfl) Z.tuple Z7 (Za (Yw (sc:=Zg W5) (Nm:=["machine","ends"]) (own:=["room"]) (fr:=[0]) ⟨rfl,by decide +kernel,by decide +kernel,by decide +kernel,by decide +kernel⟩ (by rfl) (Yi (by decide)) (Xe (by rfl) Z.range (Za (Zn (Z4 (K:=K)) (by rfl) Z.len Yq (Za (Zu (Zv (K:=K)) (pv 0) Zh (λ_ _=>rfl)) Zc)) Zc)) (λd=>(Zl (i:=0) Jv (by rfl) (Or.inl (by rfl)))) (λd=>(Uy (Yc (Zcp (K:=K)) (pv 0) (Zu (Zv (K:=K)) (pv 1) Zh (λ_ _=>rfl)) (by with_unfolding_all rfl)))) (λd=>(pv 0))) Zc))) 
   (Zj (Zz (Ys Nd (hr.mono (by decide)) (Za (Ww (Za (Zu (Zv (K:=K)) (pv 0) Zh (λ_ _=>rfl)) (Za (Zu (Zv (K:=K)) (pv 0) Zh (λ_ _=>rfl)) (Za (pv 1) (Za (Zu (Zv (K:=K)) (pv 0) Zh (λ_ _=>rfl)) Zc))))) Zc))))),?_⟩
 refine (let zz0:TS:=_; (?_:Zt _ zz0 _ _ _))
 obtain ⟨eA,sA,ras,h1,h2,h3,h4,h5⟩:=M.lay
 have hst:=M.few.2.2
 have hrl:(ras.map V.ref).length=st.length:=by rw [zA,h4]
 refine ⟨_,rfl,m,_,_,_,rfl,rfl,SqT.of h1,Zk (j:=3) rfl,sA,_,rfl,.inr (SqT.of h3),_,rfl,by omega,by omega,?_⟩
 refine Xz (lo:=0) (k:=((((ras.map V.ref).length:Nat):Int)).toNat) (λi acc H2=>acc=(cpl i es).map nI∧Zr H H2) (yO (show _≤216 by omega) (by decide)) ⟨rfl,Zr.refl _⟩
  (λi acc H2 p=>by rw [p.1,zA]; exact Zb7 i es) (λi acc H2 hi p=>?_) (λacc H2 p y hy=>?_)
 ·obtain ⟨rfl,e2⟩:=p
  have hin:inV (V.int (0+(i:Int))) (es.map nI)=decide (i∈es):=by
   rw [show (0:Int)+(i:Int)=((i:Nat):Int) by omega]
   exact Ta i es
  refine ⟨_,rfl,_,rfl,m,_,_,_,rfl,rfl,SqT.of (e2 _ _ h1),Zk (j:=2) rfl,eA,_,rfl,.inr (SqT.of (e2 _ _ h2)),rfl,Vd es,_,rfl,?_⟩
  rw [hin,Zgq,zZ]
  refine Wu (λc=>?_) (λc=>?_)
  ·have c':¬ decide (i∈es)=true:=λz=>by
    have c2:(!decide (i∈es))=true:=c
    rw [z] at c2
    cases c2
   rw [if_neg c']
   exact ⟨_,rfl,by rw [Zgd]; rfl,e2⟩
  ·have c':decide (i∈es)=true:=tG λz=>c (by
    show (!decide (i∈es))=true
    rw [eq_false_of_ne_true z]
    rfl)
   rw [if_pos c']
   exact ⟨by rw [wQ,xF],e2⟩
 obtain ⟨rfl,e2⟩:=p
 have hk0:((((ras.map V.ref).length:Nat):Int)).toNat=st.length:=by omega
 rw [hk0]
 have s3:=Zd hy (.lst ((cpl st.length es).map nI))
 refine ⟨y,_,rfl,.inl ⟨SqL.of Zb,λep hep=>?_⟩⟩
 have s4:=Zd hep (.tup ((cpl st.length es).map nI))
 have h4e:upd (upd H2 y (.lst ((cpl st.length es).map nI))) ep (.tup ((cpl st.length es).map nI)) ep=some (.tup ((cpl st.length es).map nI)):=Zb
 have e4:=(e2.trans s3).trans s4
 generalize upd (upd H2 y (.lst ((cpl st.length es).map nI))) ep (.tup ((cpl st.length es).map nI))=H4 at h4e e4
 refine ⟨_,rfl,m,_,_,_,rfl,rfl,SqT.of (e4 _ _ h1),Zk (j:=0) rfl,_,rfl,m,_,_,_,rfl,rfl,SqT.of (e4 _ _ h1),Zk (j:=1) rfl,_,rfl,_,rfl,m,_,_,_,rfl,rfl,SqT.of (e4 _ _ h1),Zk (j:=3) rfl,(by show 4≤sizeLine; decide),λm2 hm2=>?_⟩
 have s5:=Zd hm2 (.tup [V.str l,nI b,.ref ep,.ref sA])
 have e5:=e4.trans s5
 refine ⟨m2,l,b,cpl st.length es,st,rfl,⟨⟨ep,sA,ras,Zb,s5 _ _ h4e,e5 _ _ h3,h4,λi a r q1 q2=>e5 _ _ (h5 i a r q1 q2)⟩,M.few,M.beg,M.rows⟩,by have:=Zb7 st.length es; omega,hT.same e5,λm' k' N H' e6 hT' a1 a2 a3=>k m' k' N H' (e5.t.trans e6) hT' a1 a2 a3⟩
def tx (l t:Str):List Nat:=t.cps.toList.map (fx l)
def Zg5 (Pt:Addr) (l:Str) (b:Nat) (es:List Nat) (st:List (List Nat)) (H:Hp) (Q:VK):Prop:=
 ∀ m' k N H',Ut Pt H H'→Tb Pt Yx H'→dn (lkN st es (k+1))≤dn (lkN st es k)→(Zo id (TL l (gL l st (lkN st es (k+1)))) ((lkN st es (k+1)).getD b 0) N).length≤N→
  Rf H' m' l 0 (Xg (Zo id (TL l (gL l st (lkN st es (k+1)))) ((lkN st es (k+1)).getD b 0) N) λx=>decide (x∈es)) (Yk id (TL l (gL l st (lkN st es (k+1)))) (Zo id (TL l (gL l st (lkN st es (k+1)))) ((lkN st es (k+1)).getD b 0) N))→Q (.ref m') H'
theorem Fc {Pt:Addr} {l:Str} {b:Nat} {es:List Nat} {st:List (List Nat)} {H:Hp} {Q:VK} {P:List Nat→Prop} (nd:l.cps.toList.Nodup) (R:Wf st l.length) (hb:b < st.length) (k:Mf Pt l P st.length H Q) (q:∀ cs,(∀ c∈cs,c < l.length)→(Xs st b cs∈es↔P cs)):Zg5 Pt l b es st H Q:=λm' k' N H' e T' few hN hL=>by
 have h:=LM.of nd (stD:=_) (esD:=_) (k:=k') (N:=N) ⟨R,hb,few,hN,rfl,rfl⟩
 exact k m' _ _ H' e T' (h.1.Zgr q) h.2 hL
inductive Im (Pt:Addr) (vs:List V) (H:Hp) (Q:VK):Prop
 | mk (m:Addr) (l:Str) (b:Nat) (es:List Nat) (st:List (List Nat)) (h1:vs=[.ref m]) (h2:Z9 H m l b es st) (h3:es.length≤500) (h4:l.cps.toList.Nodup) (h5:Tb Pt Yx H) (h6:Mf Pt l (λcs=>¬ Xs st b cs∈es) st.length H Q):Im Pt vs H Q
def L5 (Pt:Addr):Sp:=λvs H Q u3_=>Im Pt vs H Q
theorem Ar {Pt:Addr}:∀ vs H Q E,L5 Pt vs H Q E→Zaz Pt vs H Q E:=by
 rintro vs H Q E ⟨m,l,b,es,st,rfl,M,hes,nd,T,k⟩
 refine ⟨m,l,b,es,st,rfl,M,hes,T,Fc nd M.rows M.beg k λcs hc=>?_⟩
 rw [Zi2]
 exact ⟨λh=>h.2,λh=>⟨Ql M.rows cs b M.beg hc,h⟩⟩
inductive Lz (Pb:Addr) (Pl:Addr) (cN:Addr) (vs:List V) (H:Hp) (Q:VK) (E:XK):Prop
 | mk (m1 m2:Addr) (l1 l2:Str) (b1 b2:Nat) (es1 es2:List Nat) (st1 st2:List (List Nat)) (h1:vs=[.ref m1,.ref m2]) (h2:Z9 H m1 l1 b1 es1 st1) (h3:Z9 H m2 l2 b2 es2 st2) (h4:es1.length≤500) (h5:es2.length≤500) (h6:l1.cps.toList.Nodup) (h7:l2.cps.toList.Nodup) (h8:Tb Pb V4 H) (h9:Tb Pl Yx H) (h10:Pb≠Pl) (h11:(l1=l2→st1.length * st2.length≤216∧C1 Pb Pl l1 (λcs=>Xs st1 b1 cs∈es1∨Xs st2 b2 cs∈es2) (st1.length * st2.length) H Q)) (h12:(l1≠l2→∀ a H',Kp2 Pb Pl H H'→Tb Pb V4 H'→Tb Pl Yx H'→H' a=some (exR a cN none)→E (.ref a) none H')):Lz Pb Pl cN vs H Q E
def Ua (Pb Pl cN:Addr):Sp:=λvs H Q E=>Lz Pb Pl cN vs H Q E
theorem Zcs {f:Addr} {fd:FuncData} {Pb Pl:Addr} (F:Fun K "either" "either" Tn f fd) (Z:Blt mg) (Uv:Cal P w K mg base "contrary" 6 ["machine"] (L5 Pl)) {cN:Addr} (Xj:Ic P w K mg base "both" 6 ["one","other"] (Sh Pb Pl cN)):Yt P w K mg base (CXE P w) 7 f fd ["one","other"] (Ua Pb Pl cN):=by
 refine F.okX Zci (λvs H Q E h=>?_) (λA outer s H vs Q E hr h=>?_)
 ·obtain ⟨m1,m2,l1,l2,b1,b2,es1,es2,st1,st2,rfl,_⟩:=h
  rfl
 obtain ⟨m1,m2,l,l2,b1,b2,es1,es2,st1,st2,rfl,M1,M2,he1,he2,nd,nd2,TB,TL0,nbl,kq,kx⟩:=h
 refine ⟨_,(Zj (Zz (Ys Uv (hr.mono (by decide)) (Za (Zom Xj (hr.mono (by decide)) Bm (Za (Ys Uv (hr.mono (by decide)) (Za (pv 0) Zc)) (Za (Ys Uv (hr.mono (by decide)) (Za (pv 1) Zc)) Zc))) Zc)))),?_⟩
 have hl3:0 < l.length∧l.length≤3:=⟨M1.few.1,M1.few.2.1⟩
 have hl4:0 < l2.length∧l2.length≤3:=⟨M2.few.1,M2.few.2.1⟩
 have c1:=M1.few.2.2
 have c2:=M2.few.2.2
 refine ⟨_,rfl,m1,l,b1,es1,st1,rfl,M1,he1,nd,TL0,λx1 s1 f1 H1 e1 T1 D1 n1 L1=>?_⟩
 have TB1:=Tb.Ip TB TL0 nbl e1
 have k1:=Tk.t e1 TL0
 refine ⟨_,rfl,m2,l2,b2,es2,st2,rfl,M2.keep k1,he2,nd2,T1,λx2 s2 f2 H2 e2 T2 D2 n2 L2=>?_⟩
 have TB2:=Tb.Ip TB1 T1 nbl e2
 have k2:=Tk.t e2 T1
 have hm2:s1.length * s2.length≤st1.length * st2.length:=sT n1 n2
 refine ⟨x1,x2,l,l2,0,0,f1,f2,s1,s2,rfl,D1.Zh7 hl3 (by omega) (L1.keep k2),D2.Zh7 hl4 (by omega) L2,TB2,T2,nbl,λhll=>?_,λhne a H' e' ha=>kx hne a H' (λb o q1 q2 h=>e' _ _ (e2 _ _ q2 (e1 _ _ q2 h))) (TB2.same e') (T2.same e') ha⟩
 subst hll
 obtain ⟨hmul,k⟩:=kq rfl
 refine ⟨by omega,nd,λx3 s3 f3 H3 e3 TB3 T3 D3 n3 L3=>?_⟩
 have hf3:=D3.ends.1
 refine ⟨x3,l,0,f3,s3,rfl,D3.Zh7 hl3 (by omega) L3,by omega,nd,T3,λx4 s4 f4 H4 e4 T4 D4 n4 L4=>?_⟩
 refine k x4 s4 f4 H4 (λb o q1 q2 h=>e4 _ _ q2 (e3 _ _ q1 q2 (e2 _ _ q2 (e1 _ _ q2 h)))) (Tb.Ip TB3 T3 nbl e4) T4 (D4.Zgr λcs hc=>?_) (by omega) L4
 rw [D3.lg cs hc,D1.lg cs hc,D2.lg cs hc]
 exact ⟨λh=>tG λz=>h ⟨λq=>z (.inl q),λq=>z (.inr q)⟩,λh z=>h.elim z.1 z.2⟩
def lwO (S:List Nat) (st:List (List Nat)) (b N:Nat):List Nat:=Zo (λx=>S.getD x 0) (λx=>st.getD x []) b N
inductive Il (vs:List V) (H:Hp) (Q:VK):Prop
 | mk (m:Addr) (l:Str) (b:Nat) (es:List Nat) (st:List (List Nat)) (h1:vs=[.ref m]) (h2:Z9 H m l b es st) (h3:es.length≤500) (h4:∀ m' S N H',Zr H H'→(∀ i j,i < st.length→j < st.length→(S.getD i 0=S.getD j 0↔Fut st es l.length i j))→(lwO S st b N).length≤N→(lwO S st b N).length≤st.length→Rf H' m' l 0 (Xg (lwO S st b N) λx=>decide (x∈es)) (Yk (λx=>S.getD x 0) (λx=>st.getD x []) (lwO S st b N))→Q (.ref m') H'):Il vs H Q
def Oi:Sp:=λvs H Q u3_=>Il vs H Q
def llW (H:Hp) (m eA sA:Addr) (l:Str) (b:Nat) (es:List Nat) (st:List (List Nat)) (mm:Nat) (σ:L2.St) (H5:Hp):Prop:=∃ (k cnt:Nat) (lp:Addr) (v7 v8 v9:Option V),mm=st.length+1 - cnt∧σ=[some (.ref m),some (.str l),some (nI b),some (.ref eA),some (.ref sA),some (.ref lp),some (nI cnt),v7,v8,v9,none,none,none,none,none]∧H5 lp=some (.lst ((lwN st es k).map nI))∧Zr H H5∧((k=0∧cnt=0)∨∃ j,k=j+1∧cnt=dn (lwN st es j))
def llD (H:Hp) (m eA sA:Addr) (l:Str) (b:Nat) (es:List Nat) (st:List (List Nat)) (H7:Hp) (lp yr dp:Addr) (k':Nat) (acc:List V) (rs:List (List Nat)) (i:Nat) (σ:L2.St) (H11:Hp):Prop:=∃ (v9:Option V),σ=[some (.ref m),some (.str l),some (nI b),some (.ref eA),some (.ref sA),some (.ref lp),some (nI (dn (lwN st es k'))),some (.ref yr),some (.ref dp),v9,none,none,none,none,none]∧H11 yr=some (.lst acc)∧H11 dp=some (.dT (nbG (λr:List Nat=>r.map kI) 0 (N3 (rs.take i))))∧Vf H11 acc rs∧Zr H7 H11
def llO (H:Hp) (m eA sA:Addr) (l:Str) (b:Nat) (es:List Nat) (st:List (List Nat)) (S:List Nat) (H6:Hp) (lp op dp:Addr) (j:Nat) (v7 v8 v9:Option V) (mm:Nat) (σ:L2.St) (H10:Hp):Prop:=∃ (i:Nat) (v13:Option V),mm=217 - i∧i≤(lwO S st b i).length∧σ=[some (.ref m),some (.str l),some (nI b),some (.ref eA),some (.ref sA),some (.ref lp),some (nI (dn (lwN st es j))),v7,v8,v9,some (.ref op),some (.ref dp),some (nI i),v13,none]∧H10 op=some (.lst ((lwO S st b i).map nI))∧H10 dp=some (.dK (nbG kI 0 ((lwO S st b i).map λx=>S.getD x 0)))∧Zr H6 H10
theorem Gz {f:Addr} {fd:FuncData} (F:Fun K "_law_least" "_law_least" Xc f fd) (Z:Blt mg):Yt P w K mg base CX0 1 f fd ["_law_machine_here"] Oi:=by
 refine F.ok Z2 (λvs H Q E h=>?_) (λcdv A outer s H vs Q E hr h=>?_)
 ·obtain ⟨m,l,b,es,st,rfl,_⟩:=h
  rfl
 obtain ⟨m,l,b,es,st,rfl,M,hes,k⟩:=h
 refine ⟨_,(Ze (Ug (pv 0) (Vq (K:=K) (n:=4) (by rfl) (Yg (Zl (i:=1) Z2.nd (by rfl) (Or.inl (by rfl))) (Yg (Zl (i:=2) Z2.nd (by rfl) (Or.inl (by rfl))) (Yg (Zl (i:=3) Z2.nd (by rfl) (Or.inr (by rfl))) (Yg (Zl (i:=4) Z2.nd (by rfl) (Or.inr (by rfl))) Vp)))))) 
   (Ze (Zm (i:=5) Z2.nd (by rfl) (Or.inr (by rfl)) (Yw (sc:=Zg Xc) (Nm:=["_law_machine_here","_law_letters_here","_law_begin","_law_ends","_law_steps","_law_sort","_law_many","_law_rows","_law_known","_law_row","_law_order","_law_numbers","_law_at","_law_to","_law_found"]) (own:=["_law_room"]) (fr:=[3]) ⟨rfl,by decide +kernel,by decide +kernel,by decide +kernel,by decide +kernel⟩ (by rfl) (Yi (by decide)) (Xe (by rfl) Z.range (Za (Zn (Z4 (K:=K)) (by rfl) Z.len Yq (Za (pv 4) Zc)) Zc)) (λd=>(Zl (i:=0) Kv (by rfl) (Or.inl (by rfl)))) (λd=>Y5) (λd=>(Zs Q8 (by rfl) Z.int Fy (Za (We (U8 (K:=K)) (pv 0) (pv 1) (by with_unfolding_all rfl)) Zc))))) 
   (Ze (Zm (i:=6) Z2.nd (by rfl) (Or.inl (by rfl)) Zh) 
   (Ze (Ro yB (Yc Zbb (Zn U4 (by rfl) Z.len Yq (Za (Zs (Q7 (K:=K) (by rfl)) (by rfl) Z.set Fx (Za (pv 5) Zc)) Zc)) (pv 6) (Yo _)) 
    (Ze (Zm (i:=6) Z2.nd (by rfl) (Or.inl (by rfl)) (Zn U4 (by rfl) Z.len Yq (Za (Zs (Q7 (K:=K) (by rfl)) (by rfl) Z.set Fx (Za (pv 5) Zc)) Zc))) 
    (Ze (Lc (i:=7) Z2.nd (by rfl) (by rfl) (sc:=Zg Xc) (Nm:=["_law_machine_here","_law_letters_here","_law_begin","_law_ends","_law_steps","_law_sort","_law_many","_law_rows","_law_known","_law_row","_law_order","_law_numbers","_law_at","_law_to","_law_found"]) (own:=["_law_room"]) (fr:=[4,5]) ⟨rfl,by decide +kernel,by decide +kernel,by decide +kernel,by decide +kernel⟩ (by rfl) (Yi (by decide)) (Xe (by rfl) Z.range (Za (Zn (Z4 (K:=K)) (by rfl) Z.len Yq (Za (pv 4) Zc)) Zc)) (λd=>(Zl (i:=0) Ku (by rfl) (Or.inl (by rfl)))) (λd=>Y5) (λd=>(Yd (Ze6 (K:=K)) (Ww (Za (Zu (Zy (K:=K)) (pv 2) (pv 0) (λ_ _=>rfl)) Zc)) (Zs (Z3 (K:=K)) (by rfl) Z.tuple Z7 (Za (Yw (sc:={ kind:=PySem.ScopeKind.function,names:=[ (PySem.Str.ofString ".0",PySem.NameKind.local),(PySem.Str.ofString "_law_room",PySem.NameKind.local),(PySem.Str.ofString "tuple",PySem.NameKind.globalImplicit),(PySem.Str.ofString "_law_sort",PySem.NameKind.cell),(PySem.Str.ofString "_law_steps",PySem.NameKind.cell)],isGenerator:=false,isCoroutine:=false,more:=[]:PySem.Scope }) (Nm:=["_law_room","_law_steps","_law_sort"]) (own:=["_law_to"]) (fr:=[2]) ⟨rfl,by decide +kernel,by decide +kernel,by decide +kernel,by decide +kernel⟩ (by rfl) (Yi (by decide)) (Vo (K:=K) (Zu (Zv (K:=K)) (pv 1) (pv 0) (λ_ _=>rfl))) (λd=>(Zl (i:=0) Kt (by rfl) (Or.inl (by rfl)))) (λd=>Y5) (λd=>(Zu (Zy (K:=K)) (pv 1) (pv 0) (λ_ _=>rfl)))) Zc))))) 
    (Ze (Zm (i:=8) Z2.nd (by rfl) (Or.inr (by rfl)) Kf) 
    (Ze (Xq yB (by rfl) (Wj (K:=K) (pv 7)) (Zl (i:=9) Z2.nd (by rfl) (Or.inl (by rfl))) 
     (Zj (Xw (Dd (W8 hr) (pv 8) (pv 9) (Zn Ax (by rfl) Z.len Yq (Za (pv 8) Zc)) ⟨rfl,rfl,rfl,rfl⟩)))) 
    (Zj (Zm (i:=5) Z2.nd (by rfl) (Or.inr (by rfl)) (Yw (sc:=Zg Xc) (Nm:=["_law_machine_here","_law_letters_here","_law_begin","_law_ends","_law_steps","_law_sort","_law_many","_law_rows","_law_known","_law_row","_law_order","_law_numbers","_law_at","_law_to","_law_found"]) (own:=["_law_row"]) (fr:=[8]) ⟨rfl,by decide +kernel,by decide +kernel,by decide +kernel,by decide +kernel⟩ (by rfl) (Yi (by decide)) (Wj (K:=K) (pv 7)) (λd=>(Zl (i:=0) Ks (by rfl) (Or.inl (by rfl)))) (λd=>Y5) (λd=>(Uz (W8 hr) (pv 1) (pv 0) (λ_ _=>rfl))))))))))) 
   (Ze (Zm (i:=10) Z2.nd (by rfl) (Or.inl (by rfl)) (X2 (Za (pv 2) Zc))) 
   (Ze (Zm (i:=11) Z2.nd (by rfl) (Or.inr (by rfl)) (Za8 (Ke (Zu (Zy (K:=K)) (pv 5) (pv 2) (λ_ _=>rfl)) Zh Gq) (by rfl) (by rfl) (by intro h; cases h) (by show 1≤15; decide))) 
   (Ze (Zm (i:=12) Z2.nd (by rfl) (Or.inl (by rfl)) Zh) 
   (Ze (Ro yB (Yc Ze5 (pv 12) (Zn (Z4 (K:=K)) (by rfl) Z.len Yq (Za (pv 10) Zc)) (Yo _)) 
    (Ze (Xq yB (by rfl) (Vo (K:=K) (Zu (Zv (K:=K)) (pv 4) (Zu (Zy (K:=K)) (pv 10) (pv 12) (λ_ _=>rfl)) (λ_ _=>rfl))) (Zl (i:=13) Z2.nd (by rfl) (Or.inl (by rfl))) 
     (Zj (X5 (Bn (Nq (W8 hr) (Zu (Zy (K:=K)) (pv 5) (pv 13) (λ_ _=>rfl)) (pv 11))) 
      (Ze (Oo (W8 hr) (pv 11) (Zu (Zy (K:=K)) (pv 5) (pv 13) (λ_ _=>rfl)) (Zn Ay (by rfl) Z.len Yq (Za (pv 11) Zc)) rfl) 
      (Zj (Xw (Xh (K:=K) zW yI yJ Xf (pv 10) (Za (pv 13) Zc))))) Yv))) 
    (Zj (Zm (i:=12) Z2.nd (by rfl) (Or.inl (by rfl)) (Yd X8 (pv 12) Zh))))) 
   (Ze (Zm (i:=14) Z2.nd (by rfl) (Or.inl (by rfl)) (Zs (Z3 (K:=K)) (by rfl) Z.tuple Z7 (Za (Yw (sc:=Zg Xc) (Nm:=["_law_machine_here","_law_letters_here","_law_begin","_law_ends","_law_steps","_law_sort","_law_many","_law_rows","_law_known","_law_row","_law_order","_law_numbers","_law_at","_law_to","_law_found"]) (own:=["_law_room"]) (fr:=[4,5,11]) ⟨rfl,by decide +kernel,by decide +kernel,by decide +kernel,by decide +kernel⟩ (by rfl) (Yi (by decide)) (Wj (K:=K) (pv 10)) (λd=>(Zl (i:=0) Kr (by rfl) (Or.inl (by rfl)))) (λd=>Y5) (λd=>(Zs (Z3 (K:=K)) (by rfl) Z.tuple Z7 (Za (Yw (sc:={ kind:=PySem.ScopeKind.function,names:=[ (PySem.Str.ofString ".0",PySem.NameKind.local),(PySem.Str.ofString "_law_room",PySem.NameKind.local),(PySem.Str.ofString "tuple",PySem.NameKind.globalImplicit),(PySem.Str.ofString "_law_numbers",PySem.NameKind.cell),(PySem.Str.ofString "_law_sort",PySem.NameKind.cell),(PySem.Str.ofString "_law_steps",PySem.NameKind.cell)],isGenerator:=false,isCoroutine:=false,more:=[]:PySem.Scope }) (Nm:=["_law_room","_law_steps","_law_sort","_law_numbers"]) (own:=["_law_to"]) (fr:=[2,3]) ⟨rfl,by decide +kernel,by decide +kernel,by decide +kernel,by decide +kernel⟩ (by rfl) (Yi (by decide)) (Vo (K:=K) (Zu (Zv (K:=K)) (pv 1) (pv 0) (λ_ _=>rfl))) (λd=>(Zl (i:=0) Kq (by rfl) (Or.inl (by rfl)))) (λd=>Y5) (λd=>(Uz (W8 hr) (pv 2) (Zu (Zy (K:=K)) (pv 1) (pv 0) (λ_ _=>rfl)) (λ_ _=>rfl)))) Zc)))) Zc))) 
   (Zj (Zz (Ww (Za (pv 1) (Za Zh (Za (Zs (Z3 (K:=K)) (by rfl) Z.tuple Z7 (Za (Yw (sc:=Zg Xc) (Nm:=["_law_machine_here","_law_letters_here","_law_begin","_law_ends","_law_steps","_law_sort","_law_many","_law_rows","_law_known","_law_row","_law_order","_law_numbers","_law_at","_law_to","_law_found"]) (own:=["_law_at","_law_room"]) (fr:=[3]) ⟨rfl,by decide +kernel,by decide +kernel,by decide +kernel,by decide +kernel⟩ (by rfl) (Lj (W9 (by decide) (W9 (by decide) Oz))) (Le (K:=K) (by rfl) Z.enumerate (pv 10)) (λd=>(Vq (K:=K) (n:=2) (by rfl) (Yg (Zl (i:=0) Ru (by rfl) (Or.inl (by rfl))) (Yg (Zl (i:=1) Ru (by rfl) (Or.inl (by rfl))) Vp)))) (λd=>(Uy (Yc (U8 (K:=K)) (pv 1) (pv 2) (by with_unfolding_all rfl)))) (λd=>(pv 0))) Zc)) (Za (pv 14) Zc)))))))))))))))),?_⟩
 refine (let zz0:TS:=_; let zz1:TS:=Zt _ zz0; let zz2:TS:=_; let zz3:TS:=_; let zz4:TS:=Zt _ zz3; let zz5:TS:=(Eh _ zz4 _); let zz6:TS:=Zt (Jp _ _ zz5) zz2; let zz7:TS:=Zt (Nh _ zz6) zz1; let zz8:TS:=Zt _ zz7; let zz9:TS:=Zt _ zz8; let Ht:TS:=Zt _ zz9; let Zdl:TS:=_; let zz12:TS:=Zt _ Zdl; let zz13:TS:=Zt _ zz12; let zz14:TS:=Zt _ zz13; let zz15:TS:=Zt _ zz14; let zz16:TS:=Zt (Nh _ zz15) Ht; let zz17:TS:=Zt _ zz16; let zz18:TS:=Zt _ zz17; (?_:Zt _ zz18 _ _ _))
 obtain ⟨eA,sA,ras,h1,h2,h3,h4,h5⟩:=M.lay
 have hst:=M.few.2.2
 have hll:=M.few.2.1
 have Cb:=M.beg
 have Pf:Wf st l.length:=M.rows
 have hrl:(ras.map V.ref).length=st.length:=by rw [zA,h4]
 have Zk9:∀ x,x < st.length→∃ a,atI (ras.map V.ref) ((x:Nat):Int)=some (.ref a)∧H a=some (.tup ((st.getD x []).map nI)):=λx hx=>by
  have hra:x < ras.length:=by omega
  exact ⟨ras[x],Zk (by rw [zE,zC hra]; rfl),h5 x _ _ (zC hra) (getD_mem (l:=st) (d:=[]) hx).2⟩
 refine ⟨_,rfl,m,_,rfl,SqT.of h1,rfl,_,_,rfl,_,_,rfl,_,_,rfl,_,_,rfl,rfl,?_⟩
 refine ⟨_,rfl,sA,_,rfl,.inr (SqT.of h3),_,rfl,by omega,by omega,?_⟩
 refine Xz (lo:=0) (k:=((((ras.map V.ref).length:Nat):Int)).toNat) (λi acc H2=>acc=(List.range i).map (λr=>nI (if decide (r∈es)=true then 1 else 0))∧Zr H H2) (yO (show _≤216 by omega) (by decide)) ⟨rfl,Zr.refl _⟩
  (λi acc H2 p=>by rw [p.1,zA,zV]; exact zI _) (λi acc H2 hi p=>Ss ?_) (λacc H2 p y hy=>?_)
 ·obtain ⟨rfl,e2⟩:=p
  refine ⟨_,rfl,_,rfl,eA,_,rfl,.inr (SqT.of (e2 _ _ h2)),rfl,Vd es,.inr ⟨_,rfl,?_,e2⟩⟩
  have hin:inV (V.int (0+(i:Int))) (es.map nI)=decide (i∈es):=by
   rw [show (0:Int)+(i:Int)=((i:Nat):Int) by omega]
   exact Ta i es
  show _ ++ [V.int (if inV (V.int (0+(i:Int))) (es.map nI)=true then 1 else 0)]=_
  rw [hin,wW,zZ]
  refine congrArg (_ ++ ·) ?_
  show _=[nI (if decide (i∈es)=true then 1 else 0)]
  by_cases c:decide (i∈es)=true
  ·rw [if_pos c,if_pos c]; rfl
  ·rw [if_neg c,if_neg c]; rfl
 obtain ⟨rfl,e2⟩:=p
 have hk0:((((ras.map V.ref).length:Nat):Int)).toNat=st.length:=by omega
 rw [hk0]
 have hlw0:(List.range st.length).map (λr=>nI (if decide (r∈es)=true then 1 else 0))=(lwN st es 0).map nI:=by
  show _=(lw0 es st.length).map nI
  unfold lw0
  rw [yD]
  rfl
 have e3:=e2.trans (Zd hy (.lst ((List.range st.length).map λr=>nI (if decide (r∈es)=true then 1 else 0))))
 have h3y:upd H2 y (.lst ((List.range st.length).map λr=>nI (if decide (r∈es)=true then 1 else 0))) y=some (.lst ((lwN st es 0).map nI)):=by rw [Zb,hlw0]
 generalize upd H2 y (.lst ((List.range st.length).map λr=>nI (if decide (r∈es)=true then 1 else 0)))=H3 at e3 h3y
 have lkl:=Li st es
 have dnl:∀ k,dn (lwN st es k)≤st.length:=λk=>by
  have:=firstMet_length_le (λi=>((lwN st es k).map λn:Nat=>(n:Int)).getD i 0) ((lwN st es k).map λn:Nat=>(n:Int)).length
  rw [zA,lkl] at this
  unfold dn V2
  rw [zA,lkl]
  exact this
 have dn1:0 < dn (lwN st es 0):=by
  have h:=firstMet_any (λi=>((lwN st es 0).map λn:Nat=>(n:Int)).getD i 0) ((lwN st es 0).map λn:Nat=>(n:Int)).length (((lwN st es 0).map λn:Nat=>(n:Int)).getD 0 0)
  have hin:((List.range ((lwN st es 0).map λn:Nat=>(n:Int)).length).map λi=>((lwN st es 0).map λn:Nat=>(n:Int)).getD i 0).any (· == ((lwN st es 0).map λn:Nat=>(n:Int)).getD 0 0)=true:=by
   rw [wR]
   exact ⟨_,zY.mpr ⟨0,yN.mpr (by rw [zA,lkl]; omega),rfl⟩,by simp⟩
  rw [hin] at h
  unfold dn V2
  cases hc:firstMet (λi=>((lwN st es 0).map λn:Nat=>(n:Int)).getD i 0) ((lwN st es 0).map λn:Nat=>(n:Int)).length with
  | nil=>rw [hc] at h; cases h
  | cons=>exact Nat.succ_pos _
 refine ⟨llW H m eA sA l b es st,
  ⟨_,0,0,y,none,none,none,rfl,rfl,h3y,e3,.inl ⟨rfl,rfl⟩⟩,?_⟩
 clear h3y hy e3 y
 rintro mm σ H5 ⟨k',cnt,lp,v7,v8,v9,rfl,rfl,h5l,e5,Zmq⟩
 have hns:(lwN st es k').map nI=((lwN st es k').map λn:Nat=>(n:Int)).map V.int:=by rw [yD]; rfl
 have D7:((lwN st es k').map λn:Nat=>(n:Int)).length+1 < scanBound:=by
  rw [zA,lkl]
  exact yO (show st.length+1≤217 by omega) (by decide)
 refine ⟨_,rfl,lp,_,rfl,SqL.of (by rw [← hns]; exact h5l),D7,λq hq=>⟨q,_,_,rfl,Zb,_,rfl,_,_,rfl,rfl,_,rfl,?_⟩⟩
 have s6:=Zd hq (.set (λk=>(V2 ((lwN st es k').map λn:Nat=>(n:Int))).any (· == k)) (V2 ((lwN st es k').map λn:Nat=>(n:Int))).length)
 have h6l:=s6 _ _ h5l
 have e6:=e5.trans s6
 refine Wu (λc1=>?_) (λc1=>?_)
 ·have c2:((cnt:Nat):Int) < ((dn (lwN st es k'):Nat):Int):=of_decide_eq_true c1
  refine ⟨λσ' H'=>∃ m',m' < st.length+1 - cnt∧_,λ_ _ z=>z,?_⟩
  refine ⟨_,rfl,lp,_,rfl,SqL.of (by rw [← hns]; exact h6l),D7,λq2 hq2=>⟨q2,_,_,rfl,Zb,?_⟩⟩
  have s7:=Zd hq2 (.set (λk=>(V2 ((lwN st es k').map λn:Nat=>(n:Int))).any (· == k)) (V2 ((lwN st es k').map λn:Nat=>(n:Int))).length)
  have h7l:=s7 _ _ h6l
  have e7:=e6.trans s7
  have hdl:=dnl k'
  have hSl:=lkl k'
  have atL:∀ j,j < st.length→atI ((lwN st es k').map nI) ((j:Nat):Int)=some (nI ((lwN st es k').getD j 0)):=λj hj=>Zk (by rw [zE,(getD_mem (l:=lwN st es k') (d:=0) (by rw [hSl]; exact hj)).2]; rfl)
  have hRl:(lkR st (lwN st es k')).length=st.length:=by unfold lkR; rw [zA,zV]
  generalize upd (upd H5 q (.set (λk=>(V2 ((lwN st es k').map λn:Nat=>(n:Int))).any (· == k)) (V2 ((lwN st es k').map λn:Nat=>(n:Int))).length)) q2 (.set (λk=>(V2 ((lwN st es k').map λn:Nat=>(n:Int))).any (· == k)) (V2 ((lwN st es k').map λn:Nat=>(n:Int))).length)=H7 at s7 h7l e7
  refine ⟨_,rfl,sA,_,rfl,.inr (SqT.of (e7 _ _ h3)),_,rfl,by omega,by omega,?_⟩
  refine Xz (lo:=0) (k:=((((ras.map V.ref).length:Nat):Int)).toNat) (λi acc H8=>Vf H8 acc ((lkR st (lwN st es k')).take i)∧Zr H7 H8) (yO (show _≤216 by omega) (by decide)) ⟨⟨rfl,λi x r a=>by simp at a⟩,Zr.refl _⟩
   (λi acc H8 p=>by rw [p.1.1,zS]; exact xG _ _) (λi acc H8 hi p=>Ss ?_) (λacc H8 p yr hyr=>?_)
  ·obtain ⟨R8,e8⟩:=p
   have hi':i < st.length:=by omega
   obtain ⟨a,ha1,ha2⟩:=Zk9 i hi'
   have hix:(0:Int)+(i:Int)=((i:Nat):Int):=by omega
   have e08:=e7.trans e8
   have hrw:=Pf _ (getD_mem (l:=st) (i:=i) (d:=[]) hi').1
   refine ⟨_,rfl,_,rfl,lp,_,_,_,rfl,rfl,SqL.of (e8 _ _ h7l),by rw [hix]; exact atL i hi',(by show 1≤sizeLine; decide),λt1 ht1=>?_⟩
   have u1:=Zd ht1 (.tup [nI ((lwN st es k').getD i 0)])
   have h9t:upd H8 t1 (.tup [nI ((lwN st es k').getD i 0)]) t1=some (.tup [nI ((lwN st es k').getD i 0)]):=Zb
   generalize upd H8 t1 (.tup [nI ((lwN st es k').getD i 0)])=H9 at u1 h9t
   have e09:=e08.trans u1
   refine ⟨_,rfl,_,rfl,sA,_,_,_,rfl,rfl,SqT.of (e09 _ _ h3),by rw [hix]; exact ha1,a,rfl,⟨_,SqT.of (e09 _ _ ha2)⟩,?_⟩
   refine O7 (K:=K) (a:=a) (xs:=(st.getD i []).map nI) (λj acc H10=>acc=((st.getD i []).take j).map (λx=>nI ((lwN st es k').getD x 0))∧Zr H9 H10) (by rw [zA]; exact Zw (by omega)) ⟨rfl,Zr.refl _⟩ (λj acc H10 q=>by rw [q.1,zA,zS]; exact xG _ _)
    (λj acc H10 q=>SqT.of (q.2 _ _ (e09 _ _ ha2))) (λj acc H10 x hxj q=>?_) (λacc H10 q y hy=>?_)
   ·obtain ⟨rfl,e10⟩:=q
    rw [zE] at hxj
    cases hc:(st.getD i [])[j]? with
    | none=>rw [hc] at hxj; cases hxj
    | some c=>
     rw [hc] at hxj
     cases hxj
     refine Ss ⟨_,rfl,_,rfl,lp,_,_,_,rfl,rfl,SqL.of (e10 _ _ (u1 _ _ (e8 _ _ h7l))),atL c (hrw.2 c (zJ hc)),?_,e10⟩
     rw [map_take hc]
   obtain ⟨rfl,e10⟩:=q
   rw [zA,yC]
   have u2:=Zd hy (.lst ((st.getD i []).map λx=>nI ((lwN st es k').getD x 0)))
   refine ⟨y,_,rfl,.inl ⟨SqL.of Zb,λz hz=>?_⟩⟩
   have u3:=Zd hz (.tup ((st.getD i []).map λx=>nI ((lwN st es k').getD x 0)))
   have u13:=(e10.trans u2).trans u3
   have hz3:upd (upd H10 y (.lst ((st.getD i []).map λx=>nI ((lwN st es k').getD x 0)))) z (.tup ((st.getD i []).map λx=>nI ((lwN st es k').getD x 0))) z=some (.tup ((st.getD i []).map λx=>nI ((lwN st es k').getD x 0))):=Zb
   generalize upd (upd H10 y (.lst ((st.getD i []).map λx=>nI ((lwN st es k').getD x 0)))) z (.tup ((st.getD i []).map λx=>nI ((lwN st es k').getD x 0)))=H11 at u3 u13 hz3
   have hne:(st.getD i []).map (λx=>nI ((lwN st es k').getD x 0))≠[]:=λz=>by
    have:=congrArg List.length z
    rw [zA,hrw.1] at this
    have h0:([]:List V).length=0:=rfl
    have:=M.few.1
    omega
   refine ⟨t1,z,_,_,rfl,rfl,SqT.of (u13 _ _ h9t),SqT.of hz3,(λq=>nomatch q),by rw [zA]; exact Vr (by show 1+_≤1000; omega),λq=>absurd q hne,λ_ p hp=>?_⟩
   have u4:=Zd hp (.tup ([nI ((lwN st es k').getD i 0)] ++ (st.getD i []).map λx=>nI ((lwN st es k').getD x 0)))
   have u04:=(u1.trans u13).trans u4
   refine ⟨?_,e8.trans u04⟩
   have X3:(lkR st (lwN st es k'))[i]? = some ((lwN st es k').getD i 0 :: (st.getD i []).map λx=>(lwN st es k').getD x 0):=Pm hi'
   rw [yK,X3]
   refine (R8.keep (Tk.same u04)).snoc ?_
   refine Zb.trans ?_
   rw [zO,yD]
   rfl
  obtain ⟨R8,e8⟩:=p
  rw [hk0,← hRl,yC] at R8
  have w1:=Zd hyr (.lst acc)
  have h9y:upd H8 yr (.lst acc) yr=some (.lst acc):=Zb
  have R9:=R8.keep (Tk.same w1)
  generalize upd H8 yr (.lst acc)=H9 at w1 h9y R9
  refine λdp hdp=>?_
  have w2:=Zd hdp (.dT [])
  have N8:upd H9 dp (.dT []) dp=some (.dT []):=Zb
  have R10:=R9.keep (Tk.same w2)
  have nyd:yr≠dp:=Zf h9y hdp
  have hdp7:=none_of (e8.trans w1) hdp
  have Zc5:=w2 _ _ h9y
  have e10:=(e8.trans w1).trans w2
  generalize upd H9 dp (.dT [])=H10 at w2 N8 R10 Zc5 e10
  have hal:acc.length=st.length:=by rw [R10.1,hRl]
  have Zos:∀ r:List Nat,(r.map kI).map kV=r.map nI:=λr=>by rw [yD]; rfl
  generalize hrs:lkR st (lwN st es k')=rs at R8 R9 R10 hRl
  refine ⟨_,rfl,yr,rfl,⟨_,SqL.of Zc5⟩,?_⟩
  refine O1 (K:=K) (a:=yr) (xs:=acc) (llD H m eA sA l b es st H7 lp yr dp k' acc rs)
   ⟨v9,rfl,Zc5,N8,R10,e10⟩ (λi σ H11 _ h=>?_) ?_ ?_
  ·obtain ⟨_,_,h11,_⟩:=h
   exact SqL.of h11
  ·rintro i x σ H11 hx ⟨v9,rfl,Zf0,R4,R11,e11⟩
   have hil:=(zF.mp hx).1
   have hri:rs[i]? = some (rs[i]'(by omega)):=zC (by omega)
   generalize rs[i]'(by omega)=r at hri
   obtain ⟨ra,rfl,hra⟩:=R11.2 i x r hx hri
   have hml:=Du (rs.take i)
   rw [zS] at hml
   have hnl:=G0 (φ:=λr:List Nat=>r.map kI) 0 (N3 (rs.take i))
   refine ⟨_,rfl,dp,rfl,.inr ⟨_,.inl R4⟩,_,rfl,_,rfl,dp,_,rfl,.inl R4,_,r.map kI,ra,R4,rfl,by rw [Zos]; exact hra,Zw (by omega),λv hv=>?_,λhv=>?_⟩
   ·refine ⟨_,rfl,Zf0,?_,R11,e11⟩
    rw [Iu hri]
    unfold Pu
    by_cases c:r∈N3 (rs.take i)
    ·rw [if_pos c]; exact R4
    ·rw [Bs (φ:=λr:List Nat=>r.map kI) Sm 0 _ c] at hv
     cases hv
   ·have c:r∉N3 (rs.take i):=λc=>by
     rw [Ou (φ:=λr:List Nat=>r.map kI) Sm 0 _ c] at hv
     cases hv
    refine ⟨_,rfl,(Zi nyd).trans Zf0,?_,R11.keep (Tk.dct R4 _),Yr e11 hdp7 _⟩
    rw [Iu hri]
    unfold Pu
    rw [if_neg c,Kx,To _ hv,Zb,hnl,vY]
    rfl
  ·rintro σ H11 ⟨v9,rfl,Zf0,R4,R11,e11⟩
   rw [hal,← hRl,yC] at R4
   refine ⟨_,rfl,yr,rfl,⟨_,SqL.of Zf0⟩,?_⟩
   refine Ub (K:=K) (a:=yr) (xs:=acc) (λj ac H12=>ac=(rs.take j).map (λr=>nI ((N3 rs).idxOf r))∧Zr H11 H12) (by rw [hal]; exact Zw (by omega)) ⟨rfl,Zr.refl _⟩ (λj ac H12 q=>by rw [q.1,zA,zS]; exact xG _ _)
    (λj ac H12 q=>SqL.of (q.2 _ _ Zf0)) (λj ac H12 x hxj q=>?_) (λac H12 q y hy=>?_)
   ·obtain ⟨rfl,e12⟩:=q
    have hil:=(zF.mp hxj).1
    have hri:rs[j]? = some (rs[j]'(by omega)):=zC (by omega)
    generalize rs[j]'(by omega)=r at hri
    obtain ⟨ra,rfl,hra⟩:=R11.2 j x r hxj hri
    have hv:=Ou (φ:=λr:List Nat=>r.map kI) Sm 0 _ (Ov (zJ hri))
    rw [vY] at hv
    refine Ss ⟨_,rfl,_,rfl,dp,_,rfl,hv▸Rg.t (k:=r.map kI) (e12 _ _ R4) (by rw [Zos]; exact e12 _ _ hra),?_,e12⟩
    rw [map_take hri]
   ·obtain ⟨rfl,e12⟩:=q
    have htl:rs.take acc.length=rs:=by rw [hal,← hRl,yC]
    rw [htl]
    refine ⟨st.length+1 - dn (lwN st es k'),by omega,k'+1,dn (lwN st es k'),y,_,_,_,rfl,rfl,?_,((e7.trans e11).trans e12).trans (Zd hy _),.inr ⟨k',rfl,rfl⟩⟩
    rw [Zb]
    show _=some (HO.lst ((lwS st (lwN st es k')).map nI))
    unfold lwS
    rw [hrs,yD]
    rfl
 ·have c2:¬ ((cnt:Nat):Int) < ((dn (lwN st es k'):Nat):Int):=λz=>c1 (decide_eq_true z)
  rcases Zmq with ⟨rfl,rfl⟩ | ⟨j,rfl,rfl⟩
  ·omega
  have hS:∀ x y,x < st.length→y < st.length→((lwN st es (j+1)).getD x 0=(lwN st es (j+1)).getD y 0↔Fut st es l.length x y):=λx y hx hy=>Zlv Pf (by omega) hx hy
  have Zmv:∀ x,x < st.length→(lwN st es (j+1)).getD x 0 < st.length:=λx hx=>Zlw hx
  have hSl:=lkl (j+1)
  generalize upd H5 q (.set (λk=>(V2 ((lwN st es (j+1)).map λn:Nat=>(n:Int))).any (· == k)) (V2 ((lwN st es (j+1)).map λn:Nat=>(n:Int))).length)=H6 at s6 h6l e6
  generalize lwN st es (j+1)=S at h6l hS Zmv hSl
  clear c1 c2 hns D7
  have atS:∀ x,x < st.length→atI (S.map nI) ((x:Nat):Int)=some (nI (S.getD x 0)):=λx hx=>Zk (by rw [zE,(getD_mem (l:=S) (d:=0) (by rw [hSl]; exact hx)).2]; rfl)
  have W:=C2 Pf hS
  have oLs:∀ i,(lwO S st b i).length≤st.length:=λi=>Ui (P:=λx=>x < st.length) Cb (λx hx y hy=>(Pf _ (getD_mem (l:=st) (d:=[]) hx).1).2 y hy) (λx hx=>Zmv x hx) i
  have oL:∀ i,(lwO S st b i).length≤216:=λi=>yG (oLs i) hst
  have oP:∀ i,∀ y∈lwO S st b i,y < st.length:=λi=>W.all Cb i
  refine ⟨_,rfl,(by show 1≤sizeLine; decide),λop hop=>?_⟩
  have w1:=Zd hop (.lst [nI b])
  have h7o:upd H6 op (.lst [nI b]) op=some (.lst [nI b]):=Zb
  generalize upd H6 op (.lst [nI b])=H7 at w1 h7o
  have hop6:=hop
  refine λdp hdp=>?_
  have w2:=Zd hdp (.dK [])
  have h8l:=w2 _ _ (w1 _ _ h6l)
  refine ⟨_,rfl,_,rfl,lp,_,_,_,rfl,rfl,SqL.of h8l,atS b Cb,Zb,[(kI (S.getD b 0),V.int 0)],rfl,by show 1≤15; decide,?_⟩
  have h9d:upd (upd H7 dp (.dK [])) dp (.dK (Uk [] [(kI (S.getD b 0),V.int 0)])) dp=some (.dK [(kI (S.getD b 0),V.int 0)]):=Zb
  have e9:Zr H7 (upd (upd H7 dp (.dK [])) dp (.dK (Uk [] [(kI (S.getD b 0),V.int 0)]))):=Yr w2 hdp _
  generalize upd (upd H7 dp (.dK [])) dp (.dK (Uk [] [(kI (S.getD b 0),V.int 0)]))=H9 at h9d e9
  have nod:op≠dp:=Zf h7o hdp
  have hdp6:=none_of w1 hdp
  refine ⟨llO H m eA sA l b es st S H6 lp op dp j v7 v8 v9,
   ⟨_,0,none,rfl,yV _,rfl,e9 _ _ h7o,h9d,w1.trans e9⟩,?_⟩
  clear h8l h9d e9 w2 hdp h7o w1 hop
  rintro mm σ H10 ⟨i,v13,rfl,hi,rfl,Fq,N8,e10⟩
  have hLl:=oL i
  have Mo:∀ x,(lwO S st b i)[i]? = some x→lwO S st b (i+1)=(st.getD x []).foldl (Xp λx=>S.getD x 0) (lwO S st b i):=λx hx=>Ws hx
  have hpi:=oP i
  have J4:=e10 _ _ h6l
  refine ⟨_,rfl,_,rfl,op,_,rfl,.inl (SqL.of Fq),_,_,rfl,rfl,_,rfl,?_⟩
  refine Wu (λc1=>?_) (λc1=>?_)
  ·have c2:((i:Nat):Int) < ((((lwO S st b i).map nI).length:Nat):Int):=of_decide_eq_true c1
   rw [zA] at c2
   have hlt:i < (lwO S st b i).length:=by omega
   have hxi:(lwO S st b i)[i]? = some ((lwO S st b i)[i]'hlt):=zC hlt
   generalize (lwO S st b i)[i]'hlt=x at hxi
   have hx:=hpi x (zJ hxi)
   obtain ⟨a,ha1,ha2⟩:=Zk9 x hx
   have hrw:=Pf _ (getD_mem (l:=st) (i:=x) (d:=[]) hx).1
   have hs1:=Mo x hxi
   have hnd:=U0 (k:=λx=>S.getD x 0) (T:=λx=>st.getD x []) (b:=b) i
   have hnd:((lwO S st b i).map λx=>S.getD x 0).Nodup:=hnd
   have hL1:=oL (i+1)
   have hle1:i+1≤(lwO S st b (i+1)).length:=by
    have:=(Sd (k:=λx=>S.getD x 0) (st.getD x []) (lwO S st b i)).length_le
    rw [hs1]
    omega
   generalize lwO S st b i=O at Fq N8 hLl hxi hs1 hnd hpi hlt
   refine ⟨λσ' H'=>∃ m',m' < 217 - i∧_,λ_ _ z=>z,?_⟩
   refine ⟨_,rfl,_,rfl,_,rfl,op,_,_,_,rfl,rfl,SqL.of Fq,Zk (by rw [zE,hxi]; rfl),sA,_,_,_,rfl,rfl,SqT.of ((e6.trans e10) _ _ h3),ha1,a,rfl,⟨_,SqT.of ((e6.trans e10) _ _ ha2)⟩,?_⟩
   refine Ll (K:=K) (a:=a) (xs:=(st.getD x []).map nI) (λj' σ H11=>∃ (v13:Option V),σ=[some (.ref m),some (.str l),some (nI b),some (.ref eA),some (.ref sA),some (.ref lp),some (nI (dn (lwN st es j))),v7,v8,v9,some (.ref op),some (.ref dp),some (nI i),v13,none]∧H11 op=some (.lst ((((st.getD x []).take j').foldl (Xp λx=>S.getD x 0) O).map nI))∧H11 dp=some (.dK (nbG kI 0 ((((st.getD x []).take j').foldl (Xp λx=>S.getD x 0) O).map λx=>S.getD x 0)))∧Zr H6 H11)
    ⟨v13,rfl,Fq,N8,e10⟩ (λj' σ H11 _ h=>?_) ?_ ?_
   ·obtain ⟨_,_,_,_,e11⟩:=h
    exact SqT.of ((e6.trans e11) _ _ ha2)
   ·rintro j' x' σ H11 hx' ⟨v13,rfl,J3,R4,e11⟩
    rw [zE] at hx'
    cases hc:(st.getD x [])[j']? with
    | none=>rw [hc] at hx'; cases hx'
    | some t=>
     rw [hc] at hx'
     cases hx'
     have htl:=hrw.2 t (zJ hc)
     have htk:((st.getD x []).take (j'+1)).foldl (Xp λx=>S.getD x 0) O=Xp (λx=>S.getD x 0) (((st.getD x []).take j').foldl (Xp λx=>S.getD x 0) O) t:=by
      rw [yK,hc,vR]
      rfl
     have D8:=O2 (k:=λx=>S.getD x 0) ((st.getD x []).take j') O hnd
     have K9:=fold_all (k:=λx=>S.getD x 0) (P:=λy=>y < st.length) ((st.getD x []).take j') O hpi λz hz=>hrw.2 z (vS hz)
     rw [htk]
     generalize ((st.getD x []).take j').foldl (Xp λx=>S.getD x 0) O=O8 at J3 R4 D8 K9
     have hO8:O8.length≤216:=by
      have:=Rt st.length _ D8 λz hz=>by
       obtain ⟨y,hy,rfl⟩:=zY.mp hz
       exact Zmv y (K9 y hy)
      rw [zA] at this
      omega
     have Zpg:=e11 _ _ h6l
     have hln:(nbG kI 0 (O8.map λx=>S.getD x 0)).length=O8.length:=by rw [G0,zA]
     refine ⟨_,rfl,_,rfl,lp,_,_,_,rfl,rfl,SqL.of Zpg,atS t htl,_,rfl,dp,_,rfl,Rg.k (k:=kI (S.getD t 0)) R4,_,rfl,?_⟩
     unfold Xp
     by_cases hin:S.getD t 0∈O8.map λx=>S.getD x 0
     ·rw [Ou (λx y h=>Sn h) 0 _ hin,if_pos hin]
      exact ifN rfl ⟨_,rfl,J3,R4,e11⟩
     ·have hno:=Bs (λx y h=>Sn h) 0 _ hin
      rw [hno,if_neg hin]
      refine ifY rfl ⟨_,rfl,dp,_,rfl,.inl R4,_,rfl,_,rfl,_,rfl,lp,_,_,_,rfl,rfl,SqL.of Zpg,atS t htl,dp,_,rfl,Jm.k (k:=kI (S.getD t 0)) R4 (by rw [hln,sizeLine_eq]; omega),?_⟩
      have Fp:=(Zi (H:=H11) (o:=.dK (putK (nbG kI 0 (O8.map λx=>S.getD x 0)) (kI (S.getD t 0)) (V.int (((nbG kI 0 (O8.map λx=>S.getD x 0)).length:Nat):Int)))) nod).trans J3
      have Zpe:upd H11 dp (.dK (putK (nbG kI 0 (O8.map λx=>S.getD x 0)) (kI (S.getD t 0)) (V.int (((nbG kI 0 (O8.map λx=>S.getD x 0)).length:Nat):Int)))) dp=some (.dK (nbG kI 0 ((O8 ++ [t]).map λx=>S.getD x 0))):=by
       rw [Zb,To _ hno,zZ,zO,wQ,Kx,hln,zA,vY]
       rfl
      have e12:=Yr e11 hdp6 (.dK (putK (nbG kI 0 (O8.map λx=>S.getD x 0)) (kI (S.getD t 0)) (V.int (((nbG kI 0 (O8.map λx=>S.getD x 0)).length:Nat):Int))))
      generalize upd H11 dp (.dK (putK (nbG kI 0 (O8.map λx=>S.getD x 0)) (kI (S.getD t 0)) (V.int (((nbG kI 0 (O8.map λx=>S.getD x 0)).length:Nat):Int))))=H12 at Fp Zpe e12
      refine ⟨_,rfl,.inl ⟨rfl,_,SqL.of Fp⟩,_,rfl,op,_,_,rfl,rfl,Fp,(by rw [zA,sizeLine_eq]; omega),?_⟩
      refine ⟨_,rfl,?_,(Zi nod.symm).trans Zpe,Yr e12 hop6 _⟩
      rw [Zb,zZ]
      rfl
   ·rintro σ H11 ⟨v13,rfl,J3,R4,e11⟩
    rw [zA,yC,← hs1] at J3 R4
    exact ⟨_,rfl,_,_,rfl,rfl,217 - (i+1),by omega,i+1,_,rfl,hle1,rfl,J3,R4,e11⟩
  ·have c2:¬ ((i:Nat):Int) < ((((lwO S st b i).map nI).length:Nat):Int):=λz=>c1 (decide_eq_true z)
   rw [zA] at c2
   have hN:(lwO S st b i).length≤i:=by omega
   have Zo0:∀ x∈lwO S st b i,∀ t∈st.getD x [],S.getD t 0∈(lwO S st b i).map λx=>S.getD x 0:=λx hx t ht=>by
    obtain ⟨j',hj',ej⟩:=yU hx
    exact Uh (k:=λx=>S.getD x 0) (T:=λx=>st.getD x []) (b:=b) (n:=i) (j:=j') (x:=x) (by rw [← ej]; exact zC hj') (by omega) ht
   replace k:=λm' H' e=>k m' S i H' e hS hN (oLs i)
   clear Mo
   generalize lwO S st b i=O at Fq N8 hLl Zo0 hpi k
   refine ⟨_,rfl,op,rfl,⟨_,SqL.of Fq⟩,?_⟩
   refine Ub (K:=K) (a:=op) (xs:=O.map nI) (λr' acc H11=>Vf H11 acc ((Yk (λx=>S.getD x 0) (λx=>st.getD x []) O).take r')∧Zr H10 H11) (by rw [zA]; exact Zw (by omega)) ⟨⟨rfl,λi x r a=>by simp at a⟩,Zr.refl _⟩
    (λi acc H8 p=>by rw [p.1.1,zS]; exact xG _ _) (λr' acc H11 q=>SqL.of (q.2 _ _ Fq)) (λr' acc H11 x' hx' q=>?_) (λacc H11 q y hy=>?_)
   ·obtain ⟨R11,e11⟩:=q
    rw [zE] at hx'
    cases hc:O[r']? with
    | none=>rw [hc] at hx'; cases hx'
    | some x=>
     rw [hc] at hx'
     cases hx'
     have hxm:=zJ hc
     have hx:=hpi x hxm
     obtain ⟨a,ha1,ha2⟩:=Zk9 x hx
     have hrw:=Pf _ (getD_mem (l:=st) (i:=x) (d:=[]) hx).1
     have Mb:=(e6.trans e10).trans e11
     refine Ss ⟨_,rfl,_,rfl,sA,_,_,_,rfl,rfl,SqT.of (Mb _ _ h3),ha1,a,rfl,⟨_,SqT.of (Mb _ _ ha2)⟩,?_⟩
     refine O7 (K:=K) (a:=a) (xs:=(st.getD x []).map nI) (λj' acc H12=>acc=((st.getD x []).take j').map (λt=>nI ((O.map λx=>S.getD x 0).idxOf (S.getD t 0)))∧Zr H11 H12) (by rw [zA]; exact Zw (by omega)) ⟨rfl,Zr.refl _⟩ (λj' acc H12 q=>by rw [q.1,zA,zS]; exact xG _ _)
      (λj' acc H12 q=>SqT.of (q.2 _ _ (Mb _ _ ha2))) (λj' acc H12 x' hxj q=>?_) (λacc H12 q y hy=>?_)
     ·obtain ⟨rfl,e12⟩:=q
      rw [zE] at hxj
      cases hc2:(st.getD x [])[j']? with
      | none=>rw [hc2] at hxj; cases hxj
      | some t=>
       rw [hc2] at hxj
       cases hxj
       have htm:=zJ hc2
       have hv:=Ou (φ:=kI) (λx y h=>Sn h) 0 _ (Zo0 x hxm t htm)
       rw [vY] at hv
       refine Ss ⟨_,rfl,_,rfl,_,rfl,lp,_,_,_,rfl,rfl,SqL.of (e12 _ _ (e11 _ _ J4)),atS t (hrw.2 t htm),dp,_,rfl,hv▸Rg.k (k:=kI (S.getD t 0)) (e12 _ _ (e11 _ _ N8)),?_,e12⟩
       rw [map_take hc2]
     obtain ⟨rfl,e12⟩:=q
     rw [zA,yC]
     have u2:=Zd hy (.lst ((st.getD x []).map λt=>nI ((O.map λx=>S.getD x 0).idxOf (S.getD t 0))))
     refine ⟨y,_,rfl,.inl ⟨SqL.of Zb,λz hz=>?_⟩⟩
     have u3:=Zd hz (.tup ((st.getD x []).map λt=>nI ((O.map λx=>S.getD x 0).idxOf (S.getD t 0))))
     have u13:=(e12.trans u2).trans u3
     refine ⟨?_,e11.trans u13⟩
     have X3:(Yk (λx=>S.getD x 0) (λx=>st.getD x []) O)[r']? = some ((st.getD x []).map λt=>(O.map λx=>S.getD x 0).idxOf (S.getD t 0)):=by
      unfold Yk
      rw [zE,hc]
      rfl
     rw [yK,X3]
     refine (R11.keep (Tk.same u13)).snoc ?_
     refine Zb.trans ?_
     rw [yD]
     rfl
   obtain ⟨R11,e11⟩:=q
   have hRl:(Yk (λx=>S.getD x 0) (λx=>st.getD x []) O).length=(O.map nI).length:=by unfold Yk; rw [zA,zA]
   rw [← hRl,yC] at R11
   obtain ⟨rr,rfl,r1,r2⟩:=R11.ras
   have w1:=Zd hy (.lst (rr.map V.ref))
   refine ⟨y,_,rfl,.inl ⟨SqL.of Zb,λfp hfp=>?_⟩⟩
   have w2:=Zd hfp (.tup (rr.map V.ref))
   have Zpd:upd (upd H11 y (.lst (rr.map V.ref))) fp (.tup (rr.map V.ref)) fp=some (.tup (rr.map V.ref)):=Zb
   have w12:=w1.trans w2
   generalize upd (upd H11 y (.lst (rr.map V.ref))) fp (.tup (rr.map V.ref))=H13 at w2 Zpd w12
   have e13:=(e10.trans e11).trans w12
   have Zkb:=e11.trans w12
   refine ⟨_,rfl,_,rfl,op,_,rfl,.inl ⟨SqL.of (Zkb _ _ Fq),?_⟩⟩
   refine Md (Sq:=λH xs=>SqL K H op xs) (xs:=O.map nI) (λi acc H14=>acc=(((List.range i).filter λj=>decide (O.getD j 0∈es)).map nI)∧Zr H13 H14) (by rw [zA]; exact Zw (by omega)) ⟨rfl,Zr.refl _⟩
    (λi acc H6 q=>by rw [q.1,zA]; exact yG (xO _ _) (by rw [zV]; exact zI _)) (λi acc H14 q=>SqL.of (q.2 _ _ (Zkb _ _ Fq))) (λi acc H14 x' p hx' q hp=>?_) (λacc H14 q y hy=>?_)
   ·obtain ⟨rfl,e14⟩:=q
    rw [zE] at hx'
    cases hc:O[i]? with
    | none=>rw [hc] at hx'; cases hx'
    | some x=>
     rw [hc] at hx'
     cases hx'
     have hxD:O.getD i 0=x:=by rw [zD,hc]; rfl
     have u1:=Zd hp (.tup [V.int (i:Int),nI x])
     have e15:=e14.trans u1
     refine ⟨p,_,rfl,SqT.of Zb,rfl,_,_,rfl,_,_,rfl,rfl,?_⟩
     refine ⟨_,rfl,_,rfl,eA,_,rfl,.inr (SqT.of (((e6.trans e13).trans e15) _ _ h2)),rfl,Vd es,_,rfl,?_⟩
     have hfl:((List.range (i+1)).filter λj=>decide (O.getD j 0∈es))=((List.range i).filter λj=>decide (O.getD j 0∈es)) ++ if decide (x∈es)=true then [i] else []:=by
      rw [wW,wU,vD,hxD]
      rfl
     have hin:inV (nI x) (es.map nI)=decide (x∈es):=Ta x es
     rw [hfl,zZ,hin]
     refine Wu (λc=>?_) (λc=>?_)
     ·have c':decide (x∈es)=true:=c
      rw [if_pos c']
      exact ⟨_,rfl,rfl,e15⟩
     ·have c':¬ decide (x∈es)=true:=c
      rw [if_neg c']
      exact ⟨by rw [wQ,xF],e15⟩
   obtain ⟨rfl,e14⟩:=q
   rw [zA]
   have x1:=Zd hy (.lst (((List.range O.length).filter λj=>decide (O.getD j 0∈es)).map nI))
   refine ⟨y,_,rfl,.inl ⟨SqL.of Zb,λep hep=>?_⟩⟩
   have x2:=Zd hep (.tup (((List.range O.length).filter λj=>decide (O.getD j 0∈es)).map nI))
   have Zpb:upd (upd H14 y (.lst (((List.range O.length).filter λj=>decide (O.getD j 0∈es)).map nI))) ep (.tup (((List.range O.length).filter λj=>decide (O.getD j 0∈es)).map nI)) ep=some (.tup ((Xg O λx=>decide (x∈es)).map nI)):=Zb
   have x12:=x1.trans x2
   generalize upd (upd H14 y (.lst (((List.range O.length).filter λj=>decide (O.getD j 0∈es)).map nI))) ep (.tup (((List.range O.length).filter λj=>decide (O.getD j 0∈es)).map nI))=H15 at x2 Zpb x12
   refine ⟨_,rfl,(by show 4≤sizeLine; decide),λm' hm'=>?_⟩
   have x3:=Zd hm' (.tup [V.str l,V.int 0,.ref ep,.ref fp])
   have x03:=(e14.trans x12).trans x3
   exact k m' _ ((e6.trans e13).trans x03) ⟨ep,fp,rr,Zb,x3 _ _ Zpb,x03 _ _ Zpd,r1,λi a r q1 q2=>x03 _ _ (w12 _ _ (r2 i a r q1 q2))⟩
theorem Rc {f:Addr} {fd:FuncData} (F:Fun K "_law_rising_machine" "_law_rising_machine" Yn f fd) (Z:Blt mg) (Zq:Cal P w K mg base "_law_pick" 1 ["_law_flow_here","_law_many"] Sg):Yt P w K mg base CX0 2 f fd ["_law_flow_here","_law_letters_here","_law_most"] W6:=by
 refine F.ok Ya (λvs H Q E h=>?_) (λcdv A outer s H vs Q E hr h=>?_)
 ·obtain ⟨p,sc,l,most,rfl,_⟩:=h
  rfl
 obtain ⟨p,sc,l,most,rfl,hl0,hl1,hm0,hm1,FA,k⟩:=h
 have hln:=len_list l
 refine ⟨_,(Ze (Zm (i:=3) Ya.nd (by rfl) (Or.inl (by rfl)) (Yd X8 Zh (Ys Zq (hr.mono (by decide)) (Za (pv 0) (Za (pv 2) Zc))))) 
   (Ze (Zm (i:=4) Ya.nd (by rfl) (Or.inl (by rfl)) (Zs (Z3 (K:=K)) (by rfl) Z.tuple Z7 (Za (Yw (sc:=Zg Yn) (Nm:=["_law_flow_here","_law_letters_here","_law_most","_law_rooms","_law_ends","_law_steps","_law_room","_law_row","_law_letter","_law_stays"]) (own:=["_law_room"]) (fr:=[0]) ⟨rfl,by decide +kernel,by decide +kernel,by decide +kernel,by decide +kernel⟩ (by rfl) (Yi (by decide)) (Xe (by rfl) Z.range (Za (pv 3) Zc)) (λd=>(Zl (i:=0) Sa (by rfl) (Or.inl (by rfl)))) (λd=>(Uy (Yc Vh (Ys Zq (hr.mono (by decide)) (Za (pv 1) (Za Zh Zc))) Zh (Yo _)))) (λd=>(pv 0))) Zc))) 
   (Ze (Zm (i:=5) Ya.nd (by rfl) (Or.inl (by rfl)) (X2 Zc)) 
   (Ze (Xq yB (by rfl) (Xe (by rfl) Z.range (Za (pv 3) Zc)) (Zl (i:=6) Ya.nd (by rfl) (Or.inl (by rfl))) 
    (Ze (Zm (i:=7) Ya.nd (by rfl) (Or.inl (by rfl)) (X2 Zc)) 
    (Ze (Xq yB (by rfl) (Rp (pv 1)) (Zl (i:=8) Ya.nd (by rfl) (Or.inl (by rfl))) 
     (Ze (Zm (i:=9) Ya.nd (by rfl) (Or.inl (by rfl)) (We Vh (Ys Zq (hr.mono (by decide)) (Za (pv 0) (Za Zh Zc))) Zh (Yo _))) 
     (Zj (Xw (Xh (K:=K) zW yI yJ Xf (pv 7) (Za (Zu (Zy (K:=K)) (X2 (Za (Yd X8 (pv 6) (Ys Zq (hr.mono (by decide)) (Za (pv 0) (Za (Yd Ki (pv 3) (pv 6)) Zc)))) (Za (pv 6) Zc))) (Zs Q8 (by rfl) Z.int Fy (Za (pv 9) Zc)) (λ_ _=>rfl)) Zc)))))) 
    (Zj (Xw (Xh (K:=K) zW yI yJ Xf (pv 5) (Za (Zs (Z3 (K:=K)) (by rfl) Z.tuple Z7 (Za (pv 7) Zc)) Zc))))))) 
   (Zj (Zz (Ww (Za (pv 1) (Za Zh (Za (pv 4) (Za (Zs (Z3 (K:=K)) (by rfl) Z.tuple Z7 (Za (pv 5) Zc)) Zc))))))))))),?_⟩
 refine (let zz0:TS:=_; let zz1:TS:=_; let zz2:TS:=_; let zz3:TS:=Zt _ zz2; let zz4:TS:=Zt (Jp _ _ zz3) zz1; let zz5:TS:=Zt _ zz4; let zz6:TS:=Zt (Jp _ _ zz5) zz0; let zz7:TS:=Zt _ zz6; let zz8:TS:=Zt _ zz7; (?_:Zt _ zz8 _ _ _))
 refine ⟨_,rfl,_,rfl,p,sc,most,rfl,hm0,by omega,FA,λr xs0 hr0 hr1 hx0=>⟨_,_,rfl,rfl,?_⟩⟩
 have FA0:=FA.go hx0
 have d0:Yh H (upd H p (.lst xs0)) p:=Yh.upd _
 refine ⟨_,rfl,_,rfl,by omega,by omega,?_⟩
 refine Xz (lo:=0) (k:=(1+r).toNat) (λi acc H2=>∃ es:List Nat,acc=es.map nI∧es.length≤i∧(∀ x∈es,x < i)∧Yb H2 p sc∧Yh H H2 p) (yO (show (1+r).toNat≤6 by omega) (by decide)) ⟨[],rfl,zI _,λx z=>absurd z (by simp),FA0,d0⟩
  (λi acc H2 ⟨es,e,hl',_⟩=>by rw [e,zA]; exact hl') (λi acc H2 hi hp=>?_) (λacc H2 hp q hq=>?_)
 ·obtain ⟨es,rfl,hel,hem,FA2,dr⟩:=hp
  refine ⟨_,rfl,p,sc,2,rfl,by decide,by decide,FA2,λr2 xs1 _ _ hx1=>⟨rfl,_,rfl,?_⟩⟩
  refine Wu (λ_=>⟨_,rfl,es ++ [i],?_,?_,λx hx=>?_,FA2.go hx1,W0 dr _⟩) (λ_=>⟨es,rfl,by omega,λx hx=>wJ (hem x hx),FA2.go hx1,W0 dr _⟩)
  ·rw [Zgd,Vx]
  ·rw [zK,vJ]
   omega
  ·rcases yS.mp hx with z | z
   ·exact wJ (hem x z)
   ·rw [zT.mp z]; exact vA _
 obtain ⟨es,rfl,hel,hem,FA2,dr2⟩:=hp
 refine ⟨q,_,rfl,.inl ⟨SqL.of Zb,λe he=>?_⟩⟩
 have s1:=Zd hq (.lst (es.map nI))
 have s2:=Zd he (.tup (es.map nI))
 have FA3:=(FA2.same s1).same s2
 have d3:=(dr2.trans (Yh.same s1)).trans (Yh.same (p:=p) s2)
 generalize hG:upd (upd H2 q (.lst (es.map nI))) e (.tup (es.map nI))=H3 at FA3 d3 ⊢
 have he3:H3 e=some (.tup (es.map nI)):=by rw [← hG]; exact Zb
 refine ⟨(by show 0≤sizeLine; decide),λs0 hs0=>?_⟩
 have s4:=Zd hs0 (.lst [])
 have nps:p≠s0:=by
  obtain ⟨ys,h1,_⟩:=FA3.here
  exact Zf h1 hs0
 have Zlr:sc≠s0:=by
  obtain ⟨ns,h1⟩:=FA3.cells
  exact Zf h1 hs0
 have nes:e≠s0:=Zf he3 hs0
 have nep:e≠p:=by
  obtain ⟨ys,h1,_⟩:=FA3.here
  exact Xm he3 h1 (by intro z; cases z)
 have fresh:∀ b o,H b=some o→b≠p→b≠s0:=λb o hb hne=>Zf (d3 b o hb hne) hs0
 refine ⟨_,rfl,_,rfl,by omega,by omega,?_⟩
 refine Sb (lo:=0) (n:=(1+r).toNat) (λi σ H4=>∃ (v v7 v8 v9:Option V) (ras:List Addr) (st:List (List Nat)),σ=[some (.ref p),some (.str l),some (.int most),some (.int (1+r)),some (.ref e),some (.ref s0),v,v7,v8,v9]∧H4 s0=some (.lst (ras.map V.ref))∧ras.length=i∧st.length=i∧
   (∀ (j:Nat) a r',ras[j]? = some a→st[j]? = some r'→H4 a=some (.tup (r'.map nI)))∧(∀ r'∈st,r'.length=l.length∧∀ x∈r',x < (1+r).toNat)∧H4 e=some (.tup (es.map nI))∧Yb H4 p sc∧Yh H H4 p)
  ⟨none,none,none,none,[],[],rfl,Zb,rfl,rfl,λj a r' z=>by simp at z,λr' z=>absurd z (by simp),s4 _ _ he3,FA3.same s4,d3.trans (Yh.same s4)⟩ ?_ ?_
 ·rintro i σ H4 hi ⟨v,v7,v8,v9,ras,st,rfl,hs,hra,hst,X3,Fn,he4,FA4,d4⟩
  have hi':(i:Int) < 1+r:=by omega
  refine ⟨(by show 0≤sizeLine; decide),λrp hrp=>?_⟩
  have t0:=Zd hrp (.lst [])
  have h5r:upd H4 rp (.lst []) rp=some (.lst []):=Zb
  have nrs:s0≠rp:=Zf hs hrp
  have npr:p≠rp:=by
   obtain ⟨ys,h1,_⟩:=FA4.here
   exact Zf h1 hrp
  have nsr:sc≠rp:=by
   obtain ⟨ys,h1⟩:=FA4.cells
   exact Zf h1 hrp
  have Zmy:∀ b o,H b=some o→b≠p→b≠rp:=λb o hb hne=>Zf (d4 b o hb hne) hrp
  refine ⟨_,rfl,l,rfl,?_⟩
  refine Lm (cs:=l.cps.toList) (λj σ H5=>∃ (v8 v9:Option V) (ys:List Nat),σ=[some (.ref p),some (.str l),some (.int most),some (.int (1+r)),some (.ref e),some (.ref s0),some (.int (0+(i:Int))),some (.ref rp),v8,v9]∧H5 rp=some (.lst (ys.map nI))∧ys.length=j∧(∀ x∈ys,x < (1+r).toNat)∧H5 s0=some (.lst (ras.map V.ref))∧Tk H4 H5∧Yb H5 p sc∧Yh H H5 p)
   ⟨v8,v9,[],rfl,h5r,rfl,λx z=>absurd z (by simp),t0 _ _ hs,Tk.same t0,FA4.same t0,d4.trans (Yh.same t0)⟩ ?_ ?_
  ·rintro j c σ H5 hc ⟨v8,v9,ys,rfl,h5r,hyl,hyv,h5s,tk5,FA5,d5⟩
   refine ⟨_,rfl,p,sc,2,rfl,by decide,by decide,FA5,λr1 xs1 _ _ hx1=>⟨rfl,?_⟩⟩
   have FA6:=FA5.go hx1
   have h6r:upd H5 p (.lst xs1) rp=some (.lst (ys.map nI)):=(Zi npr.symm).trans h5r
   have h6s:upd H5 p (.lst xs1) s0=some (.lst (ras.map V.ref)):=(Zi nps.symm).trans h5s
   have d6:=W0 d5 (.lst xs1)
   have tk6:=tk5.trans (Tk.drew FA5 (Yh.upd (.lst xs1)))
   generalize upd H5 p (.lst xs1)=H6 at FA6 h6r h6s d6 tk6
   generalize decide (V.int r1=V.int 0)=stays
   refine ⟨_,rfl,.inl ⟨rfl,_,SqL.of h6r⟩,_,rfl,_,rfl,_,rfl,_,rfl,_,_,rfl,rfl,p,sc,_,rfl,by omega,by omega,FA6,λr2 xs2 h20 h21 hx2=>⟨_,_,rfl,rfl,_,rfl,(by show 2≤sizeLine; decide),λq hq=>?_⟩⟩
   have FA7:=FA6.go hx2
   have h7r:upd H6 p (.lst xs2) rp=some (.lst (ys.map nI)):=(Zi npr.symm).trans h6r
   have h7s:upd H6 p (.lst xs2) s0=some (.lst (ras.map V.ref)):=(Zi nps.symm).trans h6s
   have d7:=W0 d6 (.lst xs2)
   have tk7:=tk6.trans (Tk.drew FA6 (Yh.upd (.lst xs2)))
   generalize upd H6 p (.lst xs2)=H7 at hq FA7 h7r h7s d7 tk7
   have t8:=Zd hq (.lst [V.int (0+(i:Int)+r2),V.int (0+(i:Int))])
   have h8q:upd H7 q (.lst [V.int (0+(i:Int)+r2),V.int (0+(i:Int))]) q=some (.lst [V.int (0+(i:Int)+r2),V.int (0+(i:Int))]):=Zb
   generalize upd H7 q (.lst [V.int (0+(i:Int)+r2),V.int (0+(i:Int))])=H8 at t8 h8q
   have Zoy:∃ y:Nat,y < (1+r).toNat∧atI [V.int (0+(i:Int)+r2),V.int (0+(i:Int))] (if stays=true then 1 else 0)=some (nI y):=by
    cases stays with
    | true=>
     refine ⟨i,by omega,?_⟩
     have:atI [V.int (0+(i:Int)+r2),V.int (0+(i:Int))] ((1:Nat):Int)=some (V.int (0+(i:Int))):=Zk rfl
     exact this.trans (congrArg some (Zgd i))
    | false=>
     refine ⟨i+r2.toNat,by omega,?_⟩
     have:atI [V.int (0+(i:Int)+r2),V.int (0+(i:Int))] ((0:Nat):Int)=some (V.int (0+(i:Int)+r2)):=Zk rfl
     have e:V.int (0+(i:Int)+r2)=nI (i+r2.toNat):=by
      show V.int _=V.int (((i+r2.toNat:Nat):Nat):Int)
      rw [show (((i+r2.toNat:Nat):Nat):Int)=0+(i:Int)+r2 by omega]
     exact this.trans (congrArg some e)
   obtain ⟨y,hy,hat⟩:=Zoy
   refine ⟨_,rfl,.inr ⟨_,rfl,q,_,_,_,rfl,rfl,SqL.of h8q,hat,rp,_,_,rfl,rfl,t8 _ _ h7r,by rw [zA,hyl]; exact Zw (by have:=(zF.mp hc).1; omega),?_⟩⟩
   refine ⟨_,_,ys ++ [y],rfl,by rw [Zb,Vx],by rw [zK,hyl]; rfl,λx hx=>?_,(Zi nrs).trans (t8 _ _ h7s),(tk7.trans (Tk.same t8)).trans (Tk.lst (t8 _ _ h7r) _),Um (FA7.same t8) npr nsr,λb o hb hne=>?_⟩
   ·rcases yS.mp hx with z | z
    ·exact hyv x z
    ·rw [zT.mp z]; exact hy
   ·rw [Zi (Zmy b o hb hne)]
    exact t8 _ _ (d7 b o hb hne)
  ·rintro σ H5 ⟨v8,v9,ys,rfl,h5r,hyl,hyv,h5s,tk5,FA5,d5⟩
   refine ⟨_,rfl,.inl ⟨rfl,_,SqL.of h5s⟩,_,rfl,rp,_,rfl,.inl ⟨SqL.of h5r,λa ha=>?_⟩⟩
   have t2:=Zd ha (.tup (ys.map nI))
   have nas:a≠s0:=λz=>by rw [z,h5s] at ha; cases ha
   refine ⟨s0,_,_,rfl,rfl,t2 _ _ h5s,?_,?_⟩
   ·rw [zA]
    exact yO (show ras.length≤6 by omega) (by decide)
   ·have keep:∀ b ys',H4 b=some (.tup ys')→upd (upd H5 a (.tup (ys.map nI))) s0 (.lst (ras.map V.ref ++ [.ref a])) b=some (.tup ys'):=λb ys' hb=>by
     have nbs:b≠s0:=Xm hb hs (by intro z; cases z)
     rw [Zi nbs]
     exact t2 _ _ (tk5 _ _ hb)
    refine ⟨_,_,_,_,ras ++ [a],st ++ [ys],rfl,?_,?_,?_,?_,?_,?_,?_,?_⟩
    ·rw [Zb,← Vx]
    ·rw [zK,hra]; rfl
    ·rw [zK,hst]; rfl
    ·intro j a' r' z1 z2
     rcases xB j i with hj | hj
     ·rw [zU (by omega)] at z1 z2
      exact keep _ _ (X3 j a' r' z1 z2)
     ·rw [zX (by omega)] at z1 z2
      have hj0:j=i:=by
       have:=(zF.mp z1).1
       rw [vJ] at this
       omega
      subst hj0
      rw [show j - ras.length=0 by omega] at z1
      rw [show j - st.length=0 by omega] at z2
      cases z1
      cases z2
      rw [Zi nas]
      exact Zb
    ·intro r' hr'
     rcases yS.mp hr' with z | z
     ·exact Fn r' z
     ·rw [zT.mp z]
      exact ⟨by omega,hyv⟩
    ·exact keep _ _ he4
    ·exact Um (FA5.same t2) nps Zlr
    ·intro b o hb hne
     rw [Zi (fresh b o hb hne)]
     exact t2 _ _ (d5 b o hb hne)
 ·rintro σ H4 ⟨v,v7,v8,v9,ras,st,rfl,hs,hra,hst,X3,Fn,he4,FA4,d4⟩
  refine ⟨_,rfl,_,rfl,_,rfl,s0,_,rfl,.inl ⟨SqL.of hs,λs5 hs5=>⟨(by show 4≤sizeLine; decide),λm hm=>?_⟩⟩⟩
  have t1:=Zd hs5 (.tup (ras.map V.ref))
  have t2:=Zd hm (.tup [.str l,.int 0,.ref e,.ref s5])
  refine k m 0 es st _ ⟨⟨e,s5,ras,Zb,?_,?_,by omega,λj a' r' z1 z2=>?_⟩,⟨hl0,hl1,by omega⟩,by omega,λr' hr'=>⟨(Fn r' hr').1,λx hx=>by have:=(Fn r' hr').2 x hx; omega⟩⟩ ⟨by omega,λx hx=>by have:=hem x hx; omega,by omega⟩ ?_ ((FA4.same t1).same t2)
  ·exact t2 _ _ (t1 _ _ he4)
  ·exact t2 _ _ Zb
  ·exact t2 _ _ (t1 _ _ (X3 j a' r' z1 z2))
  ·exact d4.trans ((Yh.same t1).trans (Yh.same t2))
structure Fold (st:List (List Nat)) (es:List Nat) (b w:Nat) (ph:Nat→Nat) (st':List (List Nat)) (es':List Nat) (b':Nat):Prop where
 V1:Wf st' w
 beg:b' < st'.length∧ph b'=b
 end_:∀ r,r < st'.length→(r∈es'↔ph r∈es)
 elt:∀ e∈es',e < st'.length
 stp:∀ r j,r < st'.length→j < w→ph (stN st' r j)=stN st (ph r) j
theorem Fold.id_ {st:List (List Nat)} {es:List Nat} {b w:Nat} (R:Wf st w) (hb:b < st.length) (he:∀ e∈es,e < st.length):Fold st es b w id st es b:=⟨R,⟨hb,rfl⟩,λ_ _=>Iff.rfl,he,λ_ _ _ _=>rfl⟩
theorem Fold.lk {st:List (List Nat)} {es:List Nat} {b w:Nat} {ph:Nat→Nat} {st':List (List Nat)} {es':List Nat} {b':Nat} (F:Fold st es b w ph st' es' b'):Lk st es st' es' w b b':=by
 have key:∀ (cs:List Nat) (r:Nat),r < st'.length→(∀ c∈cs,c < w)→(Xs st' r cs∈es'↔Xs st (ph r) cs∈es):=by
  intro cs
  induction cs with
  | nil=>exact λr hr _=>F.end_ r hr
  | cons c cs ih=>
   intro r hr hc
   have h1:=hc c zM
   have h2:=ih (stN st' r c) (Wv F.V1 hr h1) λd hd=>hc d (zQ _ hd)
   rw [F.stp r c hr h1] at h2
   exact h2
 intro cs hc
 have:=key cs b' F.beg.1 hc
 rw [F.beg.2] at this
 exact this.symm
theorem Zhj {st:List (List Nat)} {r c j x:Nat} {row:List Nat} (hr:st[r]? = some row) (hj:j < row.length):∀ r',stN (st.set r (row.set j x)) r' c=if r'=r∧c=j then x else stN st r' c:=by
 intro r'
 unfold stN
 have hlt:=(zF.mp hr).1
 by_cases e:r'=r
 ·subst e
  have e1:(st.set r' (row.set j x)).getD r' []=row.set j x:=by
   rw [zD,xK hlt]
   rfl
  have e2:st.getD r' []=row:=by rw [zD,hr]; rfl
  rw [e1,e2]
  by_cases d:c=j
  ·subst d
   rw [if_pos ⟨rfl,rfl⟩,zD,xK hj]
   rfl
  ·rw [if_neg λz=>d z.2,zD,xR (λz=>d z.symm),zD]
 ·rw [if_neg λz=>e z.1]
  have e1:(st.set r (row.set j x)).getD r' []=st.getD r' []:=by
   rw [zD,xR (λz=>e z.symm),zD]
  rw [e1]
theorem Fold.set {st:List (List Nat)} {es:List Nat} {b w:Nat} {ph:Nat→Nat} {st':List (List Nat)} {es':List Nat} {b':Nat} (F:Fold st es b w ph st' es' b') {r j x:Nat} {row:List Nat} (hr:st'[r]? = some row) (hj:j < row.length) (hx:x < st'.length) (hp:ph x=ph (row.getD j 0)):Fold st es b w ph (st'.set r (row.set j x)) es' b':=by
 have hlen:(st'.set r (row.set j x)).length=st'.length:=xY
 have X3:stN st' r j=row.getD j 0:=by
  unfold stN
  rw [zD (l:=st'),hr]
  rfl
 refine ⟨λq hq=>?_,by rw [hlen]; exact F.beg,λr' hr'=>F.end_ r' (by rw [hlen] at hr'; exact hr'),λe he=>by rw [hlen]; exact F.elt e he,λr' j' hr' hj'=>?_⟩
 ·rw [hlen]
  rcases vT hq with z | z
  ·exact F.V1 q z
  ·obtain ⟨h1,h2⟩:=F.V1 row (zJ hr)
   rw [z]
   refine ⟨by rw [xY]; exact h1,λy hy=>?_⟩
   rcases vT hy with a | a
   ·exact h2 y a
   ·rw [a]; exact hx
 ·rw [hlen] at hr'
  rw [Zhj hr hj r']
  by_cases c:r'=r∧j'=j
  ·rw [if_pos c,hp,c.1,c.2,← X3]
   exact F.stp r j (by rw [← c.1]; exact hr') (by rw [← c.2]; exact hj')
  ·rw [if_neg c]
   exact F.stp r' j' hr' hj'
theorem Fold.more {st:List (List Nat)} {es:List Nat} {b w:Nat} {ph:Nat→Nat} {st':List (List Nat)} {es':List Nat} {b':Nat} (F:Fold st es b w ph st' es' b') {y:Nat} (hy:y < st'.length) :
  Fold st es b w (λr=>if r=st'.length then ph y else ph r) (st' ++ [st'.getD y []]) (if y∈es' then es' ++ [st'.length] else es') b':=by
 have hlen:(st' ++ [st'.getD y []]).length=st'.length+1:=by rw [zK]; rfl
 have hro:∀ r,r < st'.length→(st' ++ [st'.getD y []]).getD r []=st'.getD r []:=λr hr=>by
  rw [zD,zU hr,zD]
 have hrn:(st' ++ [st'.getD y []]).getD st'.length []=st'.getD y []:=by
  rw [zD,zX (zI _),Nat.sub_self]
  rfl
 have hold:∀ r,r < st'.length→(if r=st'.length then ph y else ph r)=ph r:=λr hr=>if_neg (by omega)
 have D9:∀ r,(r∈(if y∈es' then es' ++ [st'.length] else es'))↔(r∈es'∨(y∈es'∧r=st'.length)):=λr=>by
  by_cases c:y∈es'
  ·rw [if_pos c,yS,zT]
   exact ⟨λh=>h.imp id λz=>⟨c,z⟩,λh=>h.imp id λz=>z.2⟩
  ·rw [if_neg c]
   exact ⟨.inl,λh=>h.resolve_right λz=>c z.1⟩
 refine ⟨λq hq=>?_,⟨by rw [hlen]; exact wJ F.beg.1,by rw [hold _ F.beg.1]; exact F.beg.2⟩,λr hr=>?_,λe he=>?_,λr j hr hj=>?_⟩
 ·rw [hlen]
  have:∃ q'∈st',q=q':=by
   rcases yS.mp hq with z | z
   ·exact ⟨q,z,rfl⟩
   ·exact ⟨_,(getD_in (l:=st') (d:=[]) hy).1,zT.mp z⟩
  obtain ⟨q',hq',e⟩:=this
  obtain ⟨h1,h2⟩:=F.V1 q' hq'
  rw [e]
  exact ⟨h1,λx hx=>wJ (h2 x hx)⟩
 ·rw [D9]
  rw [hlen] at hr
  by_cases c:r=st'.length
  ·rw [if_pos c,← F.end_ y hy]
   exact ⟨λh=>h.elim (λz=>absurd (F.elt r z) (by omega)) λz=>z.1,λh=>.inr ⟨h,c⟩⟩
  ·rw [if_neg c,← F.end_ r (by omega)]
   exact ⟨λh=>h.resolve_right λz=>c z.2,.inl⟩
 ·rw [hlen]
  rcases (D9 e).mp he with z | z
  ·exact wJ (F.elt e z)
  ·rw [z.2]; exact vA _
 ·rw [hlen] at hr
  by_cases c:r=st'.length
  ·subst c
   have e:stN (st' ++ [st'.getD y []]) st'.length j=stN st' y j:=by unfold stN; rw [hrn]
   rw [e,if_pos rfl,hold _ (Wv F.V1 hy hj)]
   exact F.stp y j hy hj
  ·have hr':r < st'.length:=by omega
   have e:stN (st' ++ [st'.getD y []]) r j=stN st' r j:=by unfold stN; rw [hro r hr']
   rw [e,hold r hr',hold _ (Wv F.V1 hr' hj)]
   exact F.stp r j hr' hj
theorem Fold.begin {st:List (List Nat)} {es:List Nat} {b w:Nat} {ph:Nat→Nat} {st':List (List Nat)} {es':List Nat} {b':Nat} (F:Fold st es b w ph st' es' b') {x:Nat} (hx:x < st'.length) (hp:ph x=ph b'):Fold st es b w ph st' es' x:=
 ⟨F.V1,⟨hx,hp.trans F.beg.2⟩,F.end_,F.elt,F.stp⟩
theorem Fold.perm {st:List (List Nat)} {es:List Nat} {b w:Nat} {ph:Nat→Nat} {st':List (List Nat)} {es' es2:List Nat} {b':Nat} (F:Fold st es b w ph st' es' b') {o:List Nat} (ho:o.Perm (List.range st'.length)) (h2:∀ x,x∈es2↔x∈es'.map λr=>o.idxOf r) :
  Fold st es b w (λi=>ph (o.getD i 0)) (o.map λx=>(st'.getD x []).map λt=>o.idxOf t) es2 (o.idxOf b'):=by
 have hl:o.length=st'.length:=by rw [ho.length_eq,zV]
 have hin:∀ x,x < st'.length→x∈o:=λx hx=>ho.mem_iff.mpr (yN.mpr hx)
 have Zim:∀ x,x∈o→x < st'.length:=λx hx=>yN.mp (ho.mem_iff.mp hx)
 have hlen:(o.map λx=>(st'.getD x []).map λt=>o.idxOf t).length=st'.length:=by rw [zA,hl]
 have hlt:∀ x,x < st'.length→o.idxOf x < st'.length:=λx hx=>by rw [← hl]; exact xA (hin x hx)
 have Zfz:∀ x,x < st'.length→o.getD (o.idxOf x) 0=x:=λx hx=>by
  rw [zD,Rz (hin x hx)]
  rfl
 have hmm:∀ i,i < st'.length→o.getD i 0 < st'.length:=λi hi=>Zim _ (getD_in (l:=o) (d:=0) (by omega)).1
 have nd:o.Nodup:=ho.nodup_iff.mpr List.nodup_range
 have hidx:∀ i,i < st'.length→o.idxOf (o.getD i 0)=i:=λi hi=>by
  have:=yM nd i (by omega)
  rw [zD,zC (by omega)]
  exact this
 refine ⟨λq hq=>?_,⟨by rw [hlen]; exact hlt _ F.beg.1,by show ph (o.getD (o.idxOf b') 0)=b; rw [Zfz _ F.beg.1]; exact F.beg.2⟩,λr hr=>?_,λe he=>?_,λr j hr hj=>?_⟩
 ·obtain ⟨x,hx,rfl⟩:=zY.mp hq
  obtain ⟨h1,h3⟩:=F.V1 _ (getD_in (l:=st') (d:=[]) (Zim x hx)).1
  rw [hlen]
  refine ⟨by rw [zA]; exact h1,λy hy=>?_⟩
  obtain ⟨t,ht,rfl⟩:=zY.mp hy
  exact hlt t (h3 t ht)
 ·rw [hlen] at hr
  rw [h2,← F.end_ _ (hmm r hr),zY]
  constructor
  ·rintro ⟨e,he,q⟩
   rw [← q,Zfz e (F.elt e he)]
   exact he
  ·intro h
   exact ⟨_,h,hidx r hr⟩
 ·rw [hlen]
  obtain ⟨x,hx,rfl⟩:=zY.mp ((h2 e).mp he)
  exact hlt x (F.elt x hx)
 ·rw [hlen] at hr
  have hx:=hmm r hr
  have e:stN (o.map λx=>(st'.getD x []).map λt=>o.idxOf t) r j=o.idxOf (stN st' (o.getD r 0) j):=by
   have X3:=F.V1 _ (getD_in (l:=st') (d:=[]) hx).1
   unfold stN
   rw [zD (l:=o.map _),zE,(getD_in (l:=o) (i:=r) (d:=0) (by omega)).2]
   show ((st'.getD (o.getD r 0) []).map λt=>o.idxOf t).getD j 0=_
   rw [zD (l:=List.map _ _),zE,(getD_in (l:=st'.getD (o.getD r 0) []) (i:=j) (d:=0) (by omega)).2]
   rfl
  show ph (o.getD (stN _ r j) 0)=_
  rw [e,Zfz _ (Wv F.V1 hx hj)]
  exact F.stp _ j hx hj
theorem K8 (o:List Nat) (x:Nat):(o.map λn:Nat=>(n:Int)).idxOf ((x:Nat):Int)=o.idxOf x:=by
 induction o with
 | nil=>rfl
 | cons a t ih=>
  rw [zO,uK,uK,ih]
  by_cases c:a=x
  ·rw [beq_iff_eq.mpr c,beq_iff_eq.mpr (by omega:((a:Nat):Int)=(x:Int))]
  ·rw [beq_eq_false_iff_ne.mpr c,beq_eq_false_iff_ne.mpr (by omega:((a:Nat):Int)≠(x:Int))]
structure Ve (H0:Hp) (p sc sL eL:Addr) (ras:List Addr) (es':List Nat) (st':List (List Nat)) (H:Hp):Prop where
 Mq:Yb H0 p sc
 O4:Yb H p sc
 drew:Yh H0 H p
 steps:H sL=some (.lst (ras.map V.ref))
 ends:H eL=some (.lst (es'.map nI))
 len:ras.length=st'.length
 rows:∀ (i:Nat) a r,ras[i]? = some a→st'[i]? = some r→H a=some (.lst (r.map nI))
 nd:ras.Nodup
 free:∀ a∈ras,H0 a=none∧a≠sL∧a≠eL
 nse:sL≠eL
 s0:H0 sL=none
 e0:H0 eL=none
section
variable {H0 H:Hp} {p sc sL eL:Addr} {ras:List Addr} {es':List Nat} {st':List (List Nat)}
theorem Ve.np (S:Ve H0 p sc sL eL ras es' st' H) {a:Addr} (h:H0 a=none):p≠a∧sc≠a:=by
 obtain ⟨xs,h1,_⟩:=S.Mq.here
 obtain ⟨ns,h2⟩:=S.Mq.cells
 exact ⟨Zf h1 h,Zf h2 h⟩
theorem Ve.same (S:Ve H0 p sc sL eL ras es' st' H) {H':Hp} (e:Zr H H'):Ve H0 p sc sL eL ras es' st' H':=
 ⟨S.Mq,S.O4.same e,λb o hb hne=>e _ _ (S.drew b o hb hne),e _ _ S.steps,e _ _ S.ends,S.len,λi a r h1 h2=>e _ _ (S.rows i a r h1 h2),S.nd,S.free,S.nse,S.s0,S.e0⟩
theorem Ve.go (S:Ve H0 p sc sL eL ras es' st' H) {xs:List V} (h:Mh sc xs):Ve H0 p sc sL eL ras es' st' (upd H p (.lst xs)):=
 ⟨S.Mq,S.O4.go h,W0 S.drew _,(Zi (S.np S.s0).1.symm).trans S.steps,(Zi (S.np S.e0).1.symm).trans S.ends,S.len,λi a r h1 h2=>(Zi (S.np (S.free a (zJ h1)).1).1.symm).trans (S.rows i a r h1 h2),S.nd,S.free,S.nse,S.s0,S.e0⟩
theorem O3 {H:Hp} {p sc s0:Addr} {o:HO} (F:Yb H p sc) (h1:p≠s0∧sc≠s0):Yb (upd H s0 o) p sc:=Um F h1.1 h1.2
theorem O6 {H0 H:Hp} {p a:Addr} (d:Yh H0 H p) (h:H0 a=none) (o:HO):Yh H0 (upd H a o) p:=λb u hb hne=>by
 rw [Zi (Zf hb h)]
 exact d b u hb hne
theorem Ve.row (S:Ve H0 p sc sL eL ras es' st' H) {i:Nat} {a:Addr} (ha:ras[i]? = some a) (r':List Nat):Ve H0 p sc sL eL ras es' (st'.set i r') (upd H a (.lst (r'.map nI))):=by
 obtain ⟨f1,f2,f3⟩:=S.free a (zJ ha)
 refine ⟨S.Mq,O3 S.O4 (S.np f1),O6 S.drew f1 _,(Zi f2.symm).trans S.steps,(Zi f3.symm).trans S.ends,by rw [xY]; exact S.len,λj a' r h1 h2=>?_,S.nd,S.free,S.nse,S.s0,S.e0⟩
 have hi:=(zF.mp ha).1
 by_cases c:j=i
 ·subst c
  rw [ha] at h1
  cases h1
  rw [xK (by rw [← S.len]; exact hi)] at h2
  cases h2
  exact Zb
 ·rw [xR (λz=>c z.symm)] at h2
  have na:a'≠a:=λz=>by
   subst z
   obtain ⟨hj,e1⟩:=zF.mp h1
   obtain ⟨hi,e2⟩:=zF.mp ha
   have i1:=yM S.nd j hj
   have i2:=yM S.nd i hi
   rw [e1] at i1
   rw [e2,i1] at i2
   exact c i2
  exact (Zi na).trans (S.rows j a' r h1 h2)
theorem Ve.more (S:Ve H0 p sc sL eL ras es' st' H) {a:Addr} {r:List Nat} (hr:H a=some (.lst (r.map nI))) (h0:H0 a=none) (hn:a∉ras) (hs:a≠sL) (he:a≠eL):Ve H0 p sc sL eL (ras ++ [a]) es' (st' ++ [r]) (upd H sL (.lst (ras.map V.ref ++ [.ref a]))):=by
 refine ⟨S.Mq,O3 S.O4 (S.np S.s0),O6 S.drew S.s0 _,by rw [Zb,zZ]; rfl,(Zi S.nse.symm).trans S.ends,by rw [zK,zK,S.len]; rfl,λj a' r' h1 h2=>?_,?_,λb hb=>?_,S.nse,S.s0,S.e0⟩
 ·rcases xB j ras.length with z | z
  ·rw [zU z] at h1
   rw [zU (by rw [← S.len]; exact z)] at h2
   exact (Zi (S.free a' (zJ h1)).2.1).trans (S.rows j a' r' h1 h2)
  ·rw [zX z] at h1
   rw [zX (by rw [← S.len]; exact z),← S.len] at h2
   cases hj:j - ras.length with
   | zero=>
    rw [hj] at h1 h2
    cases h1
    cases h2
    exact (Zi hs).trans hr
   | succ n=>rw [hj] at h1; simp at h1
 ·rw [vQ]
  refine ⟨S.nd,by simp,λx hx y hy e=>?_⟩
  have:y=a:=by simpa using hy
  rw [e,this] at hx
  exact hn hx
 ·rcases yS.mp hb with z | z
  ·exact S.free b z
  ·rw [zT.mp z]
   exact ⟨h0,hs,he⟩
theorem Ve.end_ (S:Ve H0 p sc sL eL ras es' st' H) (es2:List Nat):Ve H0 p sc sL eL ras es2 st' (upd H eL (.lst (es2.map nI))):=
 ⟨S.Mq,O3 S.O4 (S.np S.e0),O6 S.drew S.e0 _,(Zi S.nse).trans S.steps,Zb,S.len,λi a r h1 h2=>(Zi (S.free a (zJ h1)).2.2).trans (S.rows i a r h1 h2),S.nd,S.free,S.nse,S.s0,S.e0⟩
theorem Ve.rowAt (S:Ve H0 p sc sL eL ras es' st' H) {x:Nat} (hx:x < st'.length):∃ a,ras[x]? = some a∧atI (ras.map V.ref) ((x:Nat):Int)=some (.ref a)∧H a=some (.lst ((st'.getD x []).map nI)):=by
 have hra:x < ras.length:=by rw [S.len]; exact hx
 exact ⟨ras[x],zC hra,Zk (by rw [zE,zC hra]; rfl),S.rows x _ _ (zC hra) (getD_mem (l:=st') (d:=[]) hx).2⟩
end
inductive En (vs:List V) (H:Hp) (Q:VK):Prop
 | mk (p sc m:Addr) (l:Str) (b:Nat) (es:List Nat) (st:List (List Nat)) (h1:vs=[.ref p,.ref m,.int 6]) (h2:Z9 H m l b es st) (h3:Zjc es st) (h4:Yb H p sc) (h5:∀ m' b' es' st' H',Z9 H' m' l b' es' st'→es'.length≤100∧st'.length≤6→Lk st es st' es' l.length b b'→Yh H H' p→Yb H' p sc→Q (.ref m') H'):En vs H Q
def Ga:Sp:=λvs H Q u3_=>En vs H Q
theorem Zbq {n j:Nat} (h:j < n):ixN n ((j:Nat):Int)=some j:=by
 unfold ixN
 rw [if_pos (by omega),if_pos (by omega)]
 rfl
theorem Zj4 {r:Int} (h:0≤r):V.int r=nI r.toNat:=by
 show V.int r=V.int ((r.toNat:Nat):Int)
 rw [show ((r.toNat:Nat):Int)=r by omega]
def soR (H:Hp) (p sc m y eL:Addr) (l:Str) (st:List (List Nat)) (es:List Nat) (b:Nat) (i:Nat) (σ:L2.St) (H6:Hp):Prop:=∃ (b':Nat) (es':List Nat) (st':List (List Nat)) (ras:List Addr) (ph:Nat→Nat) (v7 v8 v9 v10:Option V),σ=[some (.ref p),some (.ref m),some (.int 6),some (.str l),some (nI b'),some (.ref eL),some (.ref y),v7,v8,v9,v10,none,none,none]∧Ve H p sc y eL ras es' st' H6∧Fold st es b l.length ph st' es' b'∧st'.length=st.length+i∧es'.length≤6+i
def soE (H:Hp) (p sc m y eL:Addr) (l:Str) (st:List (List Nat)) (es:List Nat) (b:Nat) (b' i y7:Nat) (st':List (List Nat)) (ph:Nat→Nat) (ras:List Addr) (a:Addr) (v9 v10:Option V) (σ':L2.St) (H':Hp):Prop:=∃ es2:List Nat,σ'=[some (.ref p),some (.ref m),some (.int 6),some (.str l),some (nI b'),some (.ref eL),some (.ref y),some (.int (0+(i:Int))),some (nI y7),v9,v10,none,none,none]∧Ve H p sc y eL (ras ++ [a]) es2 (st' ++ [st'.getD y7 []]) H'∧Fold st es b l.length (λr=>if r=st'.length then ph y7 else ph r) (st' ++ [st'.getD y7 []]) es2 b'∧es2.length≤6+(i+1)
def soL (H:Hp) (p sc m y eL:Addr) (l:Str) (st:List (List Nat)) (es:List Nat) (b:Nat) (b' i y7:Nat) (st':List (List Nat)) (ph2:Nat→Nat) (Rn:List Addr) (es2:List Nat) (i2:Nat) (σ:L2.St) (H11:Hp):Prop:=∃ (st3:List (List Nat)) (v9 v10:Option V),σ=[some (.ref p),some (.ref m),some (.int 6),some (.str l),some (nI b'),some (.ref eL),some (.ref y),some (.int (0+(i:Int))),some (nI y7),v9,v10,none,none,none]∧Ve H p sc y eL Rn es2 st3 H11∧Fold st es b l.length ph2 st3 es2 b'∧st3.length=st'.length+1
def soJ (H:Hp) (p sc m y eL:Addr) (l:Str) (st:List (List Nat)) (es:List Nat) (b:Nat) (b' i y7:Nat) (st':List (List Nat)) (ph2:Nat→Nat) (Rn:List Addr) (es2:List Nat) (a2:Addr) (j:Nat) (σ:L2.St) (H12:Hp):Prop:=∃ (st4:List (List Nat)) (v10:Option V),σ=[some (.ref p),some (.ref m),some (.int 6),some (.str l),some (nI b'),some (.ref eL),some (.ref y),some (.int (0+(i:Int))),some (nI y7),some (.ref a2),v10,none,none,none]∧Ve H p sc y eL Rn es2 st4 H12∧Fold st es b l.length ph2 st4 es2 b'∧st4.length=st'.length+1
theorem Rb {f:Addr} {fd:FuncData} (F:Fun K "_law_same_otherwise" "_law_same_otherwise" Zx f fd) (Z:Blt mg) (Zq:Cal P w K mg base "_law_pick" 1 ["_law_flow_here","_law_many"] Sg):Yt P w K mg base CX0 2 f fd ["_law_flow_here","_law_machine_here","_law_most"] Ga:=by
 refine F.ok Zp (λvs H Q E h=>?_) (λcdv A outer s H vs Q E hr h=>?_)
 ·obtain ⟨p,sc,m,l,b,es,st,rfl,_⟩:=h
  rfl
 obtain ⟨p,sc,m,l,b,es,st,rfl,M,EO,FA,k⟩:=h
 refine ⟨_,(Ze (Ug (pv 1) (Vq (K:=K) (n:=4) (by rfl) (Yg (Zl (i:=3) Zp.nd (by rfl) (Or.inl (by rfl))) (Yg (Zl (i:=4) Zp.nd (by rfl) (Or.inl (by rfl))) (Yg (Zl (i:=5) Zp.nd (by rfl) (Or.inl (by rfl))) (Yg (Zl (i:=6) Zp.nd (by rfl) (Or.inr (by rfl))) Vp)))))) 
   (Ze (Zm (i:=6) Zp.nd (by rfl) (Or.inr (by rfl)) (Yw (sc:=Zg Zx) (Nm:=["_law_flow_here","_law_machine_here","_law_most","_law_letters_here","_law_begin","_law_ends","_law_steps","_law_turn","_law_like","_law_row","_law_at","_law_left","_law_order","_law_rows"]) (own:=["_law_row"]) (fr:=[]) ⟨rfl,by decide +kernel,by decide +kernel,by decide +kernel,by decide +kernel⟩ (by rfl) (Yi (by decide)) (Zeu (Wj (K:=K) (pv 6)) (Vo (K:=K) (pv 6))) (λd=>(Zl (i:=0) Tz (by rfl) (Or.inl (by rfl)))) (λd=>Y5) (λd=>(Zs (Ur (K:=K)) (by rfl) Z.list Vs (Za (pv 0) Zc))))) 
   (Ze (Zm (i:=5) Zp.nd (by rfl) (Or.inl (by rfl)) (Zs (Ur (K:=K)) (by rfl) Z.list Vs (Za (pv 5) Zc))) 
   (Ze (Xq yB (by rfl) (Xe (by rfl) Z.range (Za (Ys Zq (hr.mono (by decide)) (Za (pv 0) (Za (Yd X8 (Yd Ki (pv 2) (Zn (Z4 (K:=K)) (by rfl) Z.len Yq (Za (pv 6) Zc))) Zh) Zc))) Zc)) (Zl (i:=7) Zp.nd (by rfl) (Or.inl (by rfl))) 
    (Ze (Zm (i:=8) Zp.nd (by rfl) (Or.inl (by rfl)) (Ys Zq (hr.mono (by decide)) (Za (pv 0) (Za (Zn (Z4 (K:=K)) (by rfl) Z.len Yq (Za (pv 6) Zc)) Zc)))) 
    (Ze (Xw (Xh (K:=K) zW yI yJ Xf (pv 6) (Za (Zs (Ur (K:=K)) (by rfl) Z.list Vs (Za (Zu (Zy (K:=K)) (pv 6) (pv 8) (λ_ _=>rfl)) Zc)) Zc))) 
    (Za6 (X5 (Yc (U8 (K:=K)) (pv 8) (pv 5) (by with_unfolding_all rfl)) 
     (Zj (Xw (Xh (K:=K) zW yI yJ Xf (pv 5) (Za (Yd Ki (Zn (Z4 (K:=K)) (by rfl) Z.len Yq (Za (pv 6) Zc)) Zh) Zc)))) Yv) 
    (Ze (Xq yB (by rfl) (Zeu (Wj (K:=K) (pv 6)) (Vo (K:=K) (pv 6))) (Zl (i:=9) Zp.nd (by rfl) (Or.inl (by rfl))) 
     (Zj (Xq yB (by rfl) (Xe (by rfl) Z.range (Za (Zn (Z4 (K:=K)) (by rfl) Z.len Yq (Za (pv 9) Zc)) Zc)) (Zl (i:=10) Zp.nd (by rfl) (Or.inl (by rfl))) 
      (Zj (X5 (PW.pt (Gn (Yc Vh (Zu (Zy (K:=K)) (pv 9) (pv 10) (λ_ _=>rfl)) (pv 8) (Yo _)) (Lb (Yc Vh (Ys Zq (hr.mono (by decide)) (Za (pv 0) (Za Zh Zc))) Zh (Yo _))))) 
       (Zj (Ug (Yd Ki (Zn (Z4 (K:=K)) (by rfl) Z.len Yq (Za (pv 6) Zc)) Zh) (Rq (pv 9) (pv 10) set_list))) Yv))))) 
    (Zj (X5 (PW.pt (Gn (Yc Vh (pv 4) (pv 8) (Yo _)) (Lb (Yc Vh (Ys Zq (hr.mono (by decide)) (Za (pv 0) (Za Zh Zc))) Zh (Yo _))))) 
     (Zj (Zm (i:=4) Zp.nd (by rfl) (Or.inl (by rfl)) (Yd Ki (Zn (Z4 (K:=K)) (by rfl) Z.len Yq (Za (pv 6) Zc)) Zh))) Yv))))))) 
   (Ze (Zm (i:=11) Zp.nd (by rfl) (Or.inr (by rfl)) (Zck (by rfl) (by rfl) Z.list (by rfl) Z.range (Zn (Z4 (K:=K)) (by rfl) Z.len Yq (Za (pv 6) Zc)))) 
   (Ze (Zm (i:=12) Zp.nd (by rfl) (Or.inr (by rfl)) (Yw (sc:=Zg Zx) (Nm:=["_law_flow_here","_law_machine_here","_law_most","_law_letters_here","_law_begin","_law_ends","_law_steps","_law_turn","_law_like","_law_row","_law_at","_law_left","_law_order","_law_rows"]) (own:=["_law_room"]) (fr:=[0,11]) ⟨rfl,by decide +kernel,by decide +kernel,by decide +kernel,by decide +kernel⟩ (by rfl) (Yi (by decide)) (Zeu (Wj (K:=K) (pv 6)) (Vo (K:=K) (pv 6))) (λd=>(Zl (i:=0) Tx (by rfl) (Or.inl (by rfl)))) (λd=>Y5) (λd=>(Xh (K:=K) zW PySem.F.slot_list_pop PySem.F.type_list_pop Dq (pv 2) (Za (Ys Zq (hr.mono (by decide)) (Za (pv 1) (Za (Zn (Z4 (K:=K)) (by rfl) Z.len Yq (Za (pv 2) Zc)) Zc))) Zc))))) 
   (Ze (Lc (i:=13) Zp.nd (by rfl) (by rfl) (sc:=Zg Zx) (Nm:=["_law_flow_here","_law_machine_here","_law_most","_law_letters_here","_law_begin","_law_ends","_law_steps","_law_turn","_law_like","_law_row","_law_at","_law_left","_law_order","_law_rows"]) (own:=["_law_room"]) (fr:=[6,12]) ⟨rfl,by decide +kernel,by decide +kernel,by decide +kernel,by decide +kernel⟩ (by rfl) (Yi (by decide)) (Wj (K:=K) (pv 12)) (λd=>(Zl (i:=0) Tw (by rfl) (Or.inl (by rfl)))) (λd=>Y5) (λd=>(Zs (Z3 (K:=K)) (by rfl) Z.tuple Z7 (Za (Yw (sc:={ kind:=PySem.ScopeKind.function,names:=[ (PySem.Str.ofString ".0",PySem.NameKind.local),(PySem.Str.ofString "_law_room",PySem.NameKind.local),(PySem.Str.ofString "tuple",PySem.NameKind.globalImplicit),(PySem.Str.ofString "_law_order",PySem.NameKind.cell),(PySem.Str.ofString "_law_steps",PySem.NameKind.cell)],isGenerator:=false,isCoroutine:=false,more:=[]:PySem.Scope }) (Nm:=["_law_room","_law_steps","_law_order"]) (own:=["_law_to"]) (fr:=[2]) ⟨rfl,by decide +kernel,by decide +kernel,by decide +kernel,by decide +kernel⟩ (by rfl) (Yi (by decide)) (Wj (K:=K) (Zu (Zy (K:=K)) (pv 1) (pv 0) (λ_ _=>rfl))) (λd=>(Zl (i:=0) Tv (by rfl) (Or.inl (by rfl)))) (λd=>Y5) (λd=>(Xh (K:=K) zW uD uE N0 (pv 1) (Za (pv 0) Zc)))) Zc)))) 
   (Zj (Zz (Ww (Za (pv 3) (Za (Xh (K:=K) zW uD uE N0 (pv 12) (Za (pv 4) Zc)) (Za (Zs (Z3 (K:=K)) (by rfl) Z.tuple Z7 (Za (Zn (Aw (K:=K)) (by rfl) Z.sorted Q9 (Za (Yw (sc:=Zg Zx) (Nm:=["_law_flow_here","_law_machine_here","_law_most","_law_letters_here","_law_begin","_law_ends","_law_steps","_law_turn","_law_like","_law_row","_law_at","_law_left","_law_order","_law_rows"]) (own:=["_law_room"]) (fr:=[12]) ⟨rfl,by decide +kernel,by decide +kernel,by decide +kernel,by decide +kernel⟩ (by rfl) (Yi (by decide)) (Wj (K:=K) (pv 5)) (λd=>(Zl (i:=0) Tu (by rfl) (Or.inl (by rfl)))) (λd=>Y5) (λd=>(Xh (K:=K) zW uD uE N0 (pv 1) (Za (pv 0) Zc)))) Zc)) Zc)) (Za (Zs (Z3 (K:=K)) (by rfl) Z.tuple Z7 (Za (pv 13) Zc)) Zc)))))))))))))),?_⟩
 refine (let zz0:TS:=_; let zz1:TS:=Zt _ zz0; let zz2:TS:=Zt _ zz1; let zz3:TS:=Zt _ zz2; let zz4:TS:=_; let zz5:TS:=Zt _ zz4; let zz6:TS:=Zky _ zz5; let zz7:TS:=Zt _ zz6; let zz8:TS:=Zt _ zz7; let zz9:TS:=Zt (Jp _ _ zz8) zz3; let Ht:TS:=Zt _ zz9; let Zdl:TS:=Zt _ Ht; (?_:Zt _ Zdl _ _ _))
 obtain ⟨eA,sA,ra0,h1,h2,h3,h4,h5⟩:=M.lay
 have hst:=EO.2.2
 have hll:=M.few.2.1
 have Cb:=M.beg
 have Pf:Wf st l.length:=M.rows
 refine ⟨_,rfl,m,_,rfl,SqT.of h1,rfl,_,_,rfl,_,_,rfl,_,_,rfl,_,_,rfl,rfl,?_⟩
 refine Or.inr ⟨_,rfl,sA,rfl,⟨_,SqT.of h3⟩,?_⟩
 refine O7 (K:=K) (a:=sA) (xs:=ra0.map V.ref) (λi acc H2=>∃ ras:List Addr,acc=ras.map V.ref∧ras.length=i∧(∀ (j:Nat) a r,ras[j]? = some a→st[j]? = some r→H2 a=some (.lst (r.map nI)))∧(∀ a∈ras,∃ o,H2 a=some o)∧ras.Nodup∧(∀ a∈ras,H a=none)∧Zr H H2) (by rw [zA]; exact Zw (by omega)) ⟨[],rfl,rfl,λj a r z=>by simp at z,λa z=>absurd z (by simp),List.nodup_nil,λa z=>absurd z (by simp),Zr.refl _⟩
  (λj acc H2 ⟨ras,e,hl,_⟩=>by rw [e,zA,hl]; exact zI _) (λj acc H2 ⟨ras,e,hl,_,_,_,_,e2⟩=>SqT.of (e2 _ _ h3)) (λj acc H2 x hxj q=>?_) (λacc H2 q y hy=>?_)
 ·obtain ⟨ras,rfl,hl,X3,Ha,hnd,Ph,e2⟩:=q
  rw [zE] at hxj
  cases hc:ra0[j]? with
  | none=>rw [hc] at hxj; cases hxj
  | some a=>
   rw [hc] at hxj
   cases hxj
   have hj:j < st.length:=by rw [← h4]; exact (zF.mp hc).1
   have ha:=h5 j a _ hc (getD_mem (l:=st) (d:=[]) hj).2
   refine Ss ⟨_,rfl,a,_,rfl,.inr (SqT.of (e2 _ _ ha)),λq hq=>?_⟩
   have s3:=Zd hq (.lst ((st.getD j []).map nI))
   refine ⟨ras ++ [q],by rw [zZ]; rfl,by rw [zK,hl]; rfl,λi a' r z1 z2=>?_,λa' h'=>?_,?_,λa' h'=>?_,e2.trans s3⟩
   ·rcases xB i ras.length with z | z
    ·rw [zU z] at z1
     exact s3 _ _ (X3 i a' r z1 z2)
    ·rw [zX z] at z1
     cases hi:i - ras.length with
     | zero=>
      rw [hi] at z1
      cases z1
      have hij:i=j:=by omega
      subst hij
      rw [(getD_mem (l:=st) (d:=[]) hj).2] at z2
      cases z2
      exact Zb
     | succ n=>rw [hi] at z1; simp at z1
   ·rcases yS.mp h' with z | z
    ·obtain ⟨o,ho⟩:=Ha a' z
     exact ⟨o,s3 _ _ ho⟩
    ·rw [zT.mp z]
     exact ⟨_,Zb⟩
   ·rw [vQ]
    refine ⟨hnd,by simp,λx hx y hy e=>?_⟩
    have:y=q:=by simpa using hy
    rw [e,this] at hx
    obtain ⟨o,ho⟩:=Ha q hx
    rw [hq] at ho
    cases ho
   ·rcases yS.mp h' with z | z
    ·exact Ph a' z
    ·rw [zT.mp z]
     exact none_of e2 hq
 obtain ⟨ras,rfl,hl,X3,Ha,hnd,Ph,e2⟩:=q
 rw [zA,h4] at hl
 have s3:=Zd hy (.lst (ras.map V.ref))
 have h3y:upd H2 y (.lst (ras.map V.ref)) y=some (.lst (ras.map V.ref)):=Zb
 have hny:∀ a∈ras,a≠y:=λa ha=>by
  obtain ⟨o,ho⟩:=Ha a ha
  exact Zf ho hy
 have hy0:=none_of e2 hy
 generalize upd H2 y (.lst (ras.map V.ref))=H3 at s3 h3y
 have e3:=e2.trans s3
 refine ⟨_,rfl,eA,_,rfl,.inr (SqT.of (e3 _ _ h2)),λeL heL=>?_⟩
 have s4:=Zd heL (.lst (es.map nI))
 have hne:∀ a∈ras,a≠eL:=λa ha=>by
  obtain ⟨o,ho⟩:=Ha a ha
  exact Zf (s3 _ _ ho) heL
 have S4:Ve H p sc y eL ras es st (upd H3 eL (.lst (es.map nI))):=
  ⟨FA,FA.same (e3.trans s4),Yh.same (e3.trans s4),s4 _ _ h3y,Zb,hl,λi a r q1 q2=>s4 _ _ (s3 _ _ (X3 i a r q1 q2)),hnd,λa ha=>⟨Ph a ha,hny a ha,hne a ha⟩,Zf h3y heL,hy0,none_of e3 heL⟩
 generalize upd H3 eL (.lst (es.map nI))=H4 at s4 S4
 have F4:=Fold.id_ Pf Cb EO.2.1
 clear hne s4 heL hny Ha X3 Ph
 have hy0:=S4.s0
 refine ⟨_,rfl,_,rfl,_,rfl,y,_,rfl,.inl (SqL.of S4.steps),_,_,rfl,rfl,_,_,rfl,rfl,p,sc,_,rfl,by rw [zA]; omega,by rw [zA]; omega,S4.O4,λr0 xs0 hr0 hr1 hx0=>⟨_,rfl,by omega,by rw [zA] at hr1; omega,?_⟩⟩
 rw [zA] at hr1
 have S5:=S4.go hx0
 generalize upd H4 p (.lst xs0)=H5 at S5
 refine Sb (lo:=0) (n:=r0.toNat) (soR H p sc m y eL l st es b)
  ⟨b,es,st,ras,id,none,none,none,none,rfl,S5,F4,rfl,EO.1⟩ ?_ ?_
 ·rintro i σ H6 hi ⟨b',es',st',ras,ph,v7,v8,v9,v10,rfl,S6,F6,hl6,he6⟩
  have hs6:st'.length≤6:=by omega
  have hrl:=S6.len
  refine ⟨_,rfl,_,rfl,y,_,rfl,.inl (SqL.of S6.steps),p,sc,_,rfl,by rw [zA]; have:=F6.beg.1; omega,by rw [zA]; omega,S6.O4,λr7 xs7 h70 h71 hx7=>?_⟩
  rw [zA] at h71
  have S7:=S6.go hx7
  generalize upd H6 p (.lst xs7)=H7 at S7
  have hlk:r7.toNat < st'.length:=by omega
  obtain ⟨a7,ha7,Zmt,Zfq⟩:=S7.rowAt hlk
  rw [Zj4 h70]
  generalize r7.toNat=y7 at hlk ha7 Zmt Zfq
  refine ⟨_,rfl,.inl ⟨rfl,_,SqL.of S7.steps⟩,_,rfl,_,rfl,y,_,_,_,rfl,rfl,SqL.of S7.steps,Zmt,a7,_,rfl,.inl (SqL.of Zfq),λa ha=>?_⟩
  have s8:=Zd ha (.lst ((st'.getD y7 []).map nI))
  have h8a:upd H7 a (.lst ((st'.getD y7 []).map nI)) a=some (.lst ((st'.getD y7 []).map nI)):=Zb
  have S8:=S7.same s8
  have ha0:H a=none:=by
   cases hc:H a with
   | none=>rfl
   | some o=>
    by_cases z:a=p
    ·obtain ⟨xs,q,_⟩:=S7.O4.here
     rw [z,q] at ha
     cases ha
    ·rw [S7.drew a o hc z] at ha
     cases ha
  have nay:a≠y:=(Zf S7.steps ha).symm
  have nae:a≠eL:=(Zf S7.ends ha).symm
  have nar:a∉ras:=λz=>by
   obtain ⟨j,hj,e⟩:=yU z
   have hj':j < st'.length:=by omega
   have:=S7.rows j a _ (by rw [zC hj,e]) (getD_mem (l:=st') (d:=[]) hj').2
   rw [ha] at this
   cases this
  generalize upd H7 a (.lst ((st'.getD y7 []).map nI))=H8 at s8 h8a S8
  refine ⟨y,_,_,rfl,rfl,S8.steps,by rw [zA]; exact Zw (by omega),?_⟩
  have S9:=S8.more h8a ha0 nar nay nae
  generalize upd H8 y (.lst (ras.map V.ref ++ [.ref a]))=H9 at S9
  have F9:=F6.more hlk
  have hl9:(st' ++ [st'.getD y7 []]).length=st'.length+1:=by rw [zK]; rfl
  have hpn:(if st'.length=st'.length then ph y7 else ph st'.length)=ph y7:=if_pos rfl
  have hpo:∀ r,r < st'.length→(if r=st'.length then ph y7 else ph r)=ph r:=λr hr=>if_neg (by omega)
  refine ⟨soE H p sc m y eL l st es b b' i y7 st' ph ras a v9 v10,?_,?_⟩
  ·have hin:inV (nI y7) (es'.map nI)=decide (y7∈es'):=Ta y7 es'
   refine ⟨_,rfl,_,rfl,eL,_,rfl,.inl (SqL.of S9.ends),rfl,Vd es',_,rfl,?_⟩
   rw [hin]
   refine Wu (λc=>?_) (λc=>?_)
   ·have c':y7∈es':=of_decide_eq_true c
    rw [if_pos c'] at F9
    refine ⟨_,rfl,.inl ⟨rfl,_,SqL.of S9.ends⟩,_,rfl,y,_,rfl,.inl (SqL.of S9.steps),_,_,rfl,rfl,eL,_,_,rfl,rfl,S9.ends,by rw [zA]; exact Zw (by omega),?_⟩
    have e9:V.int ((((ras ++ [a]).map V.ref).length:Nat) - 1:Int)=nI st'.length:=by
     show V.int _=V.int ((st'.length:Nat):Int)
     rw [zA,S9.len,hl9]
     congr 1
     omega
    have S9':Ve H p sc y eL (ras ++ [a]) (es' ++ [st'.length]) (st' ++ [st'.getD y7 []]) (upd H9 eL (.lst (es'.map nI ++ [V.int ((((ras ++ [a]).map V.ref).length:Nat) - 1:Int)]))):=by
     rw [e9,Vx]
     exact S9.end_ _
    exact ⟨_,rfl,S9',F9,by rw [zK]; show es'.length+1≤_; omega⟩
   ·have c':¬ y7∈es':=λz=>c (decide_eq_true z)
    rw [if_neg c'] at F9
    exact ⟨_,rfl,S9,F9,by omega⟩
  clear S9 F9 S8 h8a s8 Zfq Zmt ha7 S7 S6
  rintro σ' H10 ⟨es2,rfl,S10,F10,Zmo⟩
  have hph:(λr=>if r=st'.length then ph y7 else ph r) st'.length=(λr=>if r=st'.length then ph y7 else ph r) y7:=by
   show (if st'.length=st'.length then ph y7 else ph st'.length)=if y7=st'.length then ph y7 else ph y7
   rw [hpn,hpo y7 hlk]
  generalize (λr=>if r=st'.length then ph y7 else ph r)=ph2 at F10 hph
  generalize hst2:st' ++ [st'.getD y7 []]=st2 at S10 F10 hl9
  generalize ras ++ [a]=Rn at S10
  clear hst2 hpn hpo nar nay nae ha0 hrl F6
  refine Or.inl ⟨_,rfl,y,rfl,⟨_,SqL.of S10.steps⟩,?_⟩
  refine O1 (K:=K) (a:=y) (xs:=Rn.map V.ref) (soL H p sc m y eL l st es b b' i y7 st' ph2 Rn es2)
   ⟨st2,v9,v10,rfl,S10,F10,hl9⟩ (λi2 σ H11 _ h=>?_) ?_ ?_
  ·obtain ⟨_,_,_,_,S11,_⟩:=h
   exact SqL.of S11.steps
  ·rintro i2 x σ H11 hx ⟨st3,v9,v10,rfl,S11,F11,Ziq⟩
   rw [zE] at hx
   cases hc:Rn[i2]? with
   | none=>rw [hc] at hx; cases hx
   | some a2=>
    rw [hc] at hx
    cases hx
    have hi2:i2 < st3.length:=by rw [← S11.len]; exact (zF.mp hc).1
    have X3:=S11.rows i2 a2 _ hc (getD_mem (l:=st3) (d:=[]) hi2).2
    have hrw:=(F11.V1 _ (getD_mem (l:=st3) (i:=i2) (d:=[]) hi2).1).1
    refine ⟨_,rfl,a2,_,rfl,.inl (SqL.of X3),_,rfl,by omega,by rw [zA]; omega,?_⟩
    rw [zA,hrw]
    refine Sb (lo:=0) (n:=((l.length:Nat):Int).toNat) (soJ H p sc m y eL l st es b b' i y7 st' ph2 Rn es2 a2)
     ⟨st3,v10,rfl,S11,F11,Ziq⟩ ?_ ?_
    ·rintro j σ H12 hj ⟨st4,v10,rfl,S12,F12,Ai⟩
     have hj':j < l.length:=by omega
     have hi4:i2 < st4.length:=by rw [Ai,← Ziq]; exact hi2
     have hr4:=getD_mem (l:=st4) (i:=i2) (d:=[]) hi4
     have X3:=S12.rows i2 a2 _ hc hr4.2
     have hrw:=F12.V1 _ hr4.1
     have Zmh:st4[i2]? = some (st4.getD i2 []):=hr4.2
     have hstep:(st4.getD i2 []).getD j 0=stN st4 i2 j:=rfl
     generalize st4.getD i2 []=row at X3 hrw Zmh
     have hat:atI (row.map nI) (0+(j:Int))=some (nI (row.getD j 0)):=by
      rw [show (0:Int)+(j:Int)=((j:Nat):Int) by omega]
      exact Zk (by rw [zE,(getD_mem (l:=row) (d:=0) (show j < row.length by omega)).2]; rfl)
     refine ⟨_,rfl,_,rfl,a2,_,_,_,rfl,rfl,SqL.of X3,hat,_,rfl,rfl,_,rfl,?_⟩
     refine Wu (λc=>?_) (λc=>?_)
     ·have c':row.getD j 0=y7:=by
       have:=of_decide_eq_true c
       have:(((row.getD j 0:Nat):Int))=(y7:Int):=V.int.inj this
       omega
      refine ⟨_,rfl,p,sc,2,rfl,by decide,by decide,S12.O4,λr13 Zkk _ _ Zmf=>⟨rfl,_,rfl,?_⟩⟩
      have S13:=S12.go Zmf
      generalize upd H12 p (.lst Zkk)=H13 at S13
      refine Wu (λ_=>?_) (λ_=>?_)
      ·have Zmj:=S13.rows i2 a2 _ hc Zmh
       refine ⟨_,rfl,y,_,rfl,.inl (SqL.of S13.steps),_,_,rfl,rfl,_,rfl,_,rfl,a2,_,_,j,rfl,rfl,Zmj,?_,?_⟩
       ·rw [zA]
        show ixN row.length (0+(j:Int))=some j
        rw [show (0:Int)+(j:Int)=((j:Nat):Int) by omega]
        exact Zbq (by omega)
       ·have e9:V.int (((Rn.map V.ref).length:Nat) - 1:Int)=nI st'.length:=by
         show V.int _=V.int ((st'.length:Nat):Int)
         rw [zA,S13.len,Ai]
         congr 1
         omega
        have S14:Ve H p sc y eL Rn es2 (st4.set i2 (row.set j st'.length)) (upd H13 a2 (.lst ((row.map nI).set j (V.int (((Rn.map V.ref).length:Nat) - 1:Int))))):=by
         rw [e9,← List.map_set]
         exact S13.row hc _
        refine ⟨st4.set i2 (row.set j st'.length),_,rfl,S14,F12.set Zmh (by omega) (by omega) ?_,by rw [xY]; exact Ai⟩
        rw [c']
        exact hph
      ·exact ⟨st4,_,rfl,S13,F12,Ai⟩
     ·exact ⟨st4,_,rfl,S12,F12,Ai⟩
    ·rintro σ H12 ⟨st4,v10,rfl,S12,F12,Ai⟩
     exact ⟨st4,_,_,rfl,S12,F12,Ai⟩
  ·rintro σ H11 ⟨st3,v9,v10,rfl,S11,F11,Ziq⟩
   refine ⟨_,rfl,_,rfl,rfl,_,rfl,?_⟩
   refine Wu (λc=>?_) (λc=>?_)
   ·have c':b'=y7:=by
     have:=of_decide_eq_true c
     have:(((b':Nat):Int))=(y7:Int):=V.int.inj this
     omega
    refine ⟨_,rfl,p,sc,2,rfl,by decide,by decide,S11.O4,λr13 Zkk _ _ Zmf=>⟨rfl,_,rfl,?_⟩⟩
    have S13:=S11.go Zmf
    generalize upd H11 p (.lst Zkk)=H13 at S13
    refine Wu (λ_=>?_) (λ_=>?_)
    ·refine ⟨_,rfl,y,_,rfl,.inl (SqL.of S13.steps),_,_,rfl,rfl,?_⟩
     have e9:V.int (((Rn.map V.ref).length:Nat) - 1:Int)=nI st'.length:=by
      show V.int _=V.int ((st'.length:Nat):Int)
      rw [zA,S13.len,Ziq]
      congr 1
      omega
     exact ⟨st'.length,es2,st3,Rn,ph2,_,_,_,_,(by rw [← e9]; rfl),S13,F11.begin (by omega) (by rw [c']; exact hph),by omega,Zmo⟩
    ·exact ⟨b',es2,st3,Rn,ph2,_,_,_,_,rfl,S13,F11,by omega,Zmo⟩
   ·exact ⟨b',es2,st3,Rn,ph2,_,_,_,_,rfl,S11,F11,by omega,Zmo⟩
 ·rintro σ H6 ⟨b',es',st',ras,ph,v7,v8,v9,v10,rfl,S6,F6,hl6,he6⟩
  have hs6:st'.length≤6:=by omega
  have hrl:=S6.len
  have Zil:(ras.map V.ref).length=st'.length:=by rw [zA,hrl]
  refine ⟨_,rfl,y,_,rfl,.inl (SqL.of S6.steps),(ras.map V.ref).length,rfl,by omega,λlf hlf=>?_⟩
  rw [Zil]
  have s7:=Zd hlf (.lst ((List.range st'.length).map λi:Nat=>V.int (i:Int)))
  have h7l:upd H6 lf (.lst ((List.range st'.length).map λi:Nat=>V.int (i:Int))) lf=some (.lst ((List.range st'.length).map nI)):=Zb
  have S7:=S6.same s7
  have Zmm:H lf=none:=by
   cases hc:H lf with
   | none=>rfl
   | some o=>
    by_cases z:lf=p
    ·obtain ⟨xs,q,_⟩:=S6.O4.here
     rw [z,q] at hlf
     cases hlf
    ·rw [S6.drew lf o hc z] at hlf
     cases hlf
  have nly:y≠lf:=Zf S6.steps hlf
  have nle:eL≠lf:=Zf S6.ends hlf
  have nlr:∀ a∈ras,a≠lf:=λa ha=>by
   obtain ⟨j,hj,e⟩:=yU ha
   exact Zf (S6.rows j a _ (by rw [zC hj,e]) (getD_mem (l:=st') (d:=[]) (by omega)).2) hlf
  have Sput:∀ {H':Hp} (o:HO),Ve H p sc y eL ras es' st' H'→Ve H p sc y eL ras es' st' (upd H' lf o):=λo S=>
   ⟨S.Mq,O3 S.O4 (S.np Zmm),O6 S.drew Zmm _,(Zi nly).trans S.steps,(Zi nle).trans S.ends,S.len,λi a r h1 h2=>(Zi (nlr a (zJ h1))).trans (S.rows i a r h1 h2),S.nd,S.free,S.nse,S.s0,S.e0⟩
  generalize upd H6 lf (.lst ((List.range st'.length).map λi:Nat=>V.int (i:Int)))=H7 at s7 h7l S7
  refine Or.inl ⟨_,rfl,y,rfl,⟨_,SqL.of S7.steps⟩,?_⟩
  refine Ub (K:=K) (a:=y) (xs:=ras.map V.ref) (λi acc H8=>∃ ys rem:List Nat,acc=ys.map nI∧ys.length=i∧H8 lf=some (.lst (rem.map nI))∧(ys ++ rem).Perm (List.range st'.length)∧Ve H p sc y eL ras es' st' H8) (by rw [Zil]; exact Zw (by omega)) ⟨[],List.range st'.length,rfl,rfl,h7l,List.Perm.refl _,S7⟩
   (λi acc H8 ⟨ys,rem,e,hl,_⟩=>by rw [e,zA,hl]; exact zI _) (λi acc H8 ⟨ys,rem,e,hl,_,_,S8⟩=>SqL.of S8.steps) (λi acc H8 x hx q=>?_) (λacc H8 q op hop=>?_)
  ·obtain ⟨ys,rem,rfl,hyl,h8l,U3,S8⟩:=q
   have hi:=(zF.mp hx).1
   rw [Zil] at hi
   have hlen:ys.length+rem.length=st'.length:=by
    have:=U3.length_eq
    rw [zK,zV] at this
    exact this
   refine Ss ⟨_,rfl,.inl ⟨rfl,_,SqL.of h8l⟩,_,rfl,_,rfl,lf,_,rfl,.inl (SqL.of h8l),p,sc,_,rfl,by rw [zA]; omega,by rw [zA]; omega,S8.O4,λr9 xs9 h90 h91 hx9=>?_⟩
   rw [zA] at h91
   have hrn:r9.toNat < rem.length:=by omega
   have hv:rem[r9.toNat]? = some rem[r9.toNat]:=zC hrn
   have S9:=S8.go hx9
   have h9l:upd H8 p (.lst xs9) lf=some (.lst (rem.map nI)):=(Zi (S8.np Zmm).1.symm).trans h8l
   generalize upd H8 p (.lst xs9)=H9 at S9 h9l
   refine ⟨lf,_,r9,r9.toNat,nI rem[r9.toNat],rfl,rfl,h9l,by omega,by omega,?_,?_,?_⟩
   ·rw [zA]
    exact seqIndex_of h90 h91
   ·rw [zE,hv]
    rfl
   ·refine ⟨ys ++ [rem[r9.toNat]],rem.eraseIdx r9.toNat,by rw [zZ]; rfl,by rw [zK,hyl]; rfl,?_,?_,Sput _ S9⟩
    ·rw [Zb,Ma]
    ·rw [tT]
     exact (List.Perm.append_left ys (Pq hv)).trans U3
  obtain ⟨ys,rem,rfl,hyl,h8l,U3,S8⟩:=q
  rw [Zil] at hyl
  have Ae:rem=[]:=by
   have:=U3.length_eq
   rw [zK,zV] at this
   exact uN (by omega)
  rw [Ae,xF] at U3
  clear Ae h8l
  have s9:=Zd hop (.lst (ys.map nI))
  have h9o:upd H8 op (.lst (ys.map nI)) op=some (.lst (ys.map nI)):=Zb
  have S9:=S8.same s9
  generalize upd H8 op (.lst (ys.map nI))=H9 at s9 h9o S9
  have hin:∀ x,x < st'.length→x∈ys:=λx hx=>U3.mem_iff.mpr (yN.mpr hx)
  have Zim:∀ x,x∈ys→x < st'.length:=λx hx=>yN.mp (U3.mem_iff.mp hx)
  have Zo6:ys.map nI=(ys.map λn:Nat=>(n:Int)).map V.int:=by rw [yD]; rfl
  have hI:∀ {H':Hp},H' op=some (.lst (ys.map nI))→H' op=some (.lst ((ys.map λn:Nat=>(n:Int)).map V.int)):=λh=>by rw [← Zo6]; exact h
  have hmI:∀ {x:Nat},x < st'.length→((x:Nat):Int)∈ys.map λn:Nat=>(n:Int):=λ{x} hx=>zY.mpr ⟨x,hin x hx,rfl⟩
  refine ⟨_,rfl,op,rfl,⟨_,SqL.of h9o⟩,?_⟩
  refine Ub (K:=K) (a:=op) (xs:=ys.map nI) (λi acc H10=>Vf H10 acc ((ys.map λx=>(st'.getD x []).map λt=>ys.idxOf t).take i)∧Zr H9 H10) (by rw [zA,hyl]; exact Zw (by omega)) ⟨⟨rfl,λi x r a=>by simp at a⟩,Zr.refl _⟩
   (λi acc H8 p=>by rw [p.1.1,zS]; exact xG _ _) (λi acc H10 q=>SqL.of (q.2 _ _ h9o)) (λi acc H10 x' hx' q=>?_) (λacc H10 q rp hrp=>?_)
  ·obtain ⟨R10,e10⟩:=q
   rw [zE] at hx'
   cases hc:ys[i]? with
   | none=>rw [hc] at hx'; cases hx'
   | some x=>
    rw [hc] at hx'
    cases hx'
    have hx:=Zim x (zJ hc)
    obtain ⟨a,ha1,ha2,ha3⟩:=S9.rowAt hx
    have hrw:=F6.V1 _ (getD_mem (l:=st') (i:=x) (d:=[]) hx).1
    refine Ss ⟨_,rfl,_,rfl,y,_,_,_,rfl,rfl,SqL.of (e10 _ _ S9.steps),ha2,a,rfl,⟨_,SqL.of (e10 _ _ ha3)⟩,?_⟩
    refine Ub (K:=K) (a:=a) (xs:=(st'.getD x []).map nI) (λj' acc H12=>acc=((st'.getD x []).take j').map (λt=>nI (ys.idxOf t))∧Zr H10 H12) (by rw [zA]; exact Zw (by omega)) ⟨rfl,Zr.refl _⟩ (λj' acc H12 q=>by rw [q.1,zA,zS]; exact xG _ _)
     (λj' acc H12 q=>SqL.of (q.2 _ _ (e10 _ _ ha3))) (λj' acc H12 x' hxj q=>?_) (λacc H12 q lp hlp=>?_)
    ·obtain ⟨rfl,e12⟩:=q
     rw [zE] at hxj
     cases hc2:(st'.getD x [])[j']? with
     | none=>rw [hc2] at hxj; cases hxj
     | some t=>
      rw [hc2] at hxj
      cases hxj
      have Fp:=e12 _ _ (e10 _ _ h9o)
      refine Ss ⟨_,rfl,.inl ⟨rfl,_,SqL.of Fp⟩,_,rfl,op,_,_,rfl,rfl,hI Fp,hmI (hrw.2 t (zJ hc2)),?_,e12⟩
      rw [map_take hc2,K8]
      rfl
    obtain ⟨rfl,e12⟩:=q
    rw [zA,yC]
    have u2:=Zd hlp (.lst ((st'.getD x []).map λt=>nI (ys.idxOf t)))
    refine ⟨lp,_,rfl,.inl ⟨SqL.of Zb,λz hz=>?_⟩⟩
    have u3:=Zd hz (.tup ((st'.getD x []).map λt=>nI (ys.idxOf t)))
    have u13:=(e12.trans u2).trans u3
    refine ⟨?_,e10.trans u13⟩
    have X3:(ys.map λx=>(st'.getD x []).map λt=>ys.idxOf t)[i]? = some ((st'.getD x []).map λt=>ys.idxOf t):=by
     rw [zE,hc]
     rfl
    rw [yK,X3]
    refine (R10.keep (Tk.same u13)).snoc ?_
    refine Zb.trans ?_
    rw [yD]
    rfl
  obtain ⟨R10,e10⟩:=q
  have htl:(ys.map λx=>(st'.getD x []).map λt=>ys.idxOf t).take (ys.map nI).length=ys.map λx=>(st'.getD x []).map λt=>ys.idxOf t:=xS (by rw [zA,zA]; exact zI _)
  rw [htl] at R10
  obtain ⟨rr,rfl,r1,r2⟩:=R10.ras
  have u1:=Zd hrp (.lst (rr.map V.ref))
  have Zpf:upd H10 rp (.lst (rr.map V.ref)) rp=some (.lst (rr.map V.ref)):=Zb
  have r2':∀ (i:Nat) a r,rr[i]? = some a→(ys.map λx=>(st'.getD x []).map λt=>ys.idxOf t)[i]? = some r→upd H10 rp (.lst (rr.map V.ref)) a=some (.tup (r.map nI)):=λi a r q1 q2=>u1 _ _ (r2 i a r q1 q2)
  have e11:=e10.trans u1
  generalize upd H10 rp (.lst (rr.map V.ref))=H11 at u1 Zpf r2' e11
  have J3:=e11 _ _ h9o
  refine ⟨_,rfl,_,rfl,.inl ⟨rfl,_,SqL.of J3⟩,_,rfl,op,_,_,rfl,rfl,hI J3,hmI F6.beg.1,?_⟩
  refine ⟨_,rfl,eL,rfl,⟨_,SqL.of (e11 _ _ S9.ends)⟩,?_⟩
  refine Ub (K:=K) (a:=eL) (xs:=es'.map nI) (λj' acc H12=>acc=(es'.take j').map (λt=>nI (ys.idxOf t))∧Zr H11 H12) (by rw [zA]; exact Zw (by omega)) ⟨rfl,Zr.refl _⟩ (λj' acc H12 q=>by rw [q.1,zA,zS]; exact xG _ _)
   (λj' acc H12 q=>SqL.of (q.2 _ _ (e11 _ _ S9.ends))) (λj' acc H12 x' hxj q=>?_) (λacc H12 q lp hlp=>?_)
  ·obtain ⟨rfl,e12⟩:=q
   rw [zE] at hxj
   cases hc2:es'[j']? with
   | none=>rw [hc2] at hxj; cases hxj
   | some t=>
    rw [hc2] at hxj
    cases hxj
    have Fp:=e12 _ _ J3
    refine Ss ⟨_,rfl,.inl ⟨rfl,_,SqL.of Fp⟩,_,rfl,op,_,_,rfl,rfl,hI Fp,hmI (F6.elt t (zJ hc2)),?_,e12⟩
    rw [map_take hc2,K8]
    rfl
  obtain ⟨rfl,e12⟩:=q
  rw [zA,yC]
  have Zms:(es'.map λt=>nI (ys.idxOf t))=(es'.map λt=>((ys.idxOf t:Nat):Int)).map V.int:=by rw [yD]; rfl
  have u2:=Zd hlp (.lst (es'.map λt=>nI (ys.idxOf t)))
  refine ⟨lp,es'.map λt=>((ys.idxOf t:Nat):Int),rfl,SqL.of (by rw [← Zms]; exact Zb),by rw [zA]; omega,λns' sp hpm _ hsp=>?_⟩
  have u3:=Zd hsp (.lst (ns'.map V.int))
  refine ⟨sp,_,rfl,.inl ⟨SqL.of Zb,λep hep=>?_⟩⟩
  have u4:=Zd hep (.tup (ns'.map V.int))
  have u24:=(u2.trans u3).trans u4
  have hns:ns'=(ns'.map Int.toNat).map λn:Nat=>(n:Int):=by
   rw [yD]
   refine (wN ns').symm.trans (List.map_congr_left λz hz=>?_)
   obtain ⟨t,_,e⟩:=zY.mp (hpm.mem_iff.mp hz)
   show z=((z.toNat:Nat):Int)
   omega
  have Zpc:upd (upd (upd H12 lp (.lst (es'.map λt=>nI (ys.idxOf t)))) sp (.lst (ns'.map V.int))) ep (.tup (ns'.map V.int)) ep=some (.tup ((ns'.map Int.toNat).map nI)):=by
   rw [Zb]
   refine congrArg (λz=>some (HO.tup z)) ?_
   conv=>lhs; rw [hns]
   rw [yD,yD,yD]
   rfl
  generalize upd (upd (upd H12 lp (.lst (es'.map λt=>nI (ys.idxOf t)))) sp (.lst (ns'.map V.int))) ep (.tup (ns'.map V.int))=H14 at u4 u24 Zpc
  have e14:=e12.trans u24
  refine ⟨_,rfl,rp,_,rfl,.inl ⟨SqL.of (e14 _ _ Zpf),λtp htp=>⟨(by show 4≤sizeLine; decide),λm' hm'=>?_⟩⟩⟩
  have u5:=Zd htp (.tup (rr.map V.ref))
  have u6:=Zd hm' (.tup [V.str l,V.int (((ys.map λn:Nat=>(n:Int)).idxOf ((b':Nat):Int):Nat):Int),.ref ep,.ref tp])
  have u56:=u5.trans u6
  have F14:=F6.perm (es2:=ns'.map Int.toNat) U3 λx=>by
   rw [zY,zY]
   constructor
   ·rintro ⟨z,hz,rfl⟩
    obtain ⟨t,ht,e⟩:=zY.mp (hpm.mem_iff.mp hz)
    exact ⟨t,ht,by rw [← e]; rfl⟩
   ·rintro ⟨t,ht,rfl⟩
    exact ⟨((ys.idxOf t:Nat):Int),hpm.mem_iff.mpr (zY.mpr ⟨t,ht,rfl⟩),rfl⟩
  have Zfu:(ys.map λx=>(st'.getD x []).map λt=>ys.idxOf t).length=st'.length:=by rw [zA,hyl]
  have Zpp:=(e11.trans e14).trans u56
  refine k m' (ys.idxOf b') (ns'.map Int.toNat) (ys.map λx=>(st'.getD x []).map λt=>ys.idxOf t) _ ⟨⟨ep,tp,rr,by rw [Zb,K8]; rfl,u56 _ _ Zpc,u6 _ _ Zb,r1,λi a r q1 q2=>u56 _ _ (e14 _ _ (r2' i a r q1 q2))⟩,⟨M.few.1,hll,by rw [Zfu]; omega⟩,F14.beg.1,F14.V1⟩ ⟨?_,by rw [Zfu]; exact hs6⟩ F14.lk (λb o hb hne=>Zpp _ _ (S9.drew b o hb hne)) (S9.O4.same Zpp)
  rw [zA,hpm.length_eq,zA]
  omega
theorem K1 {l:Str} {n:Nat} (h:Hs l n):l.cps.toList.Nodup:=h.2.1.imp λh=>yH h
inductive Zar (vs:List V) (H:Hp) (Q:VK):Prop
 | mk (p sc:Addr) (h1:vs=[.ref p]) (h2:Yb H p sc) (h3:∀ m l b es st H',Z9 H' m l b es st→Zjc es st→l.cps.toList.Nodup→Yh H H' p→Yb H' p sc→Q (.ref m) H'):Zar vs H Q
def Be:Sp:=λvs H Q u3_=>Zar vs H Q
theorem Dh {f:Addr} {fd:FuncData} (F:Fun K "_law_some" "_law_some" Vj f fd) (Z:Blt mg) (Zq:Cal P w K mg base "_law_pick" 1 ["_law_flow_here","_law_many"] Sg) (Ti:Cal P w K mg base "_law_letters" 2 ["_law_flow_here","_law_many"] Nl) (Y1:Cal P w K mg base "_law_machine" 2 ["_law_flow_here","_law_letters_here","_law_most"] W6) (Wq:Cal P w K mg base "_law_rising_machine" 2 ["_law_flow_here","_law_letters_here","_law_most"] W6):Yt P w K mg base CX0 3 f fd ["_law_flow_here"] Be:=by
 refine F.ok Rk (λvs H Q E h=>?_) (λcdv A outer s H vs Q E hr h=>?_)
 ·obtain ⟨p,sc,rfl,_⟩:=h
  rfl
 obtain ⟨p,sc,rfl,FA,k⟩:=h
 refine ⟨_,(Ze (Zm (i:=1) Rk.nd (by rfl) (Or.inl (by rfl)) (We Vh (Ys Zq (hr.mono (by decide)) (Za (pv 0) (Za Zh Zc))) Zh (Yo _))) 
   (Ze (Zm (i:=2) Rk.nd (by rfl) (Or.inl (by rfl)) (Ys Ti (hr.mono (by decide)) (Za (pv 0) (Za (Yd X8 Zh (Ys Zq (hr.mono (by decide)) (Za (pv 0) (Za Zh Zc)))) Zc)))) 
   (Ze (X5 (Xo (K:=K) (pv 1) (λ_=>rfl)) 
    (Zj (Zz (Ys Wq (hr.mono (by decide)) (Za (pv 0) (Za (pv 2) (Za Zh Zc)))))) Yv) 
   (Zj (Zz (Ys Y1 (hr.mono (by decide)) (Za (pv 0) (Za (pv 2) (Za Zh Zc))))))))),?_⟩
 refine (let zz0:TS:=_; let zz1:TS:=Zt _ zz0; let zz2:TS:=Zt _ zz1; (?_:Zt _ zz2 _ _ _))
 refine ⟨_,rfl,p,sc,3,rfl,by decide,by decide,FA,λr1 xs1 _ _ hx1=>⟨rfl,?_⟩⟩
 have FA1:=FA.go hx1
 have d1:Yh H (upd H p (.lst xs1)) p:=Yh.upd _
 generalize upd H p (.lst xs1)=H1 at FA1 d1
 refine ⟨_,rfl,_,rfl,p,sc,3,rfl,by decide,by decide,FA1,λr2 xs2 h20 h21 hx2=>⟨_,_,rfl,rfl,p,sc,1+r2,rfl,by omega,by omega,FA1.go hx2,λl H3 hl dr3 FA3=>?_⟩⟩
 have d3:=(W0 d1 (.lst xs2)).trans dr3
 have hll:=len_list l
 have hl0:0 < l.length:=by rw [← hll,hl.1]; omega
 have hl1:l.length≤3:=by rw [← hll,hl.1]; omega
 refine ⟨_,rfl,_,rfl,?_⟩
 refine Wu (λ_=>?_) (λ_=>?_)
 ·exact ⟨_,rfl,_,rfl,p,sc,l,6,rfl,hl0,hl1,by decide,by decide,FA3,λm b es st H4 M eo dr4 FA4=>k m l b es st H4 M eo (K1 hl) (d3.trans dr4) FA4⟩
 ·exact ⟨_,rfl,_,rfl,p,sc,l,6,rfl,hl0,hl1,by decide,by decide,FA3,λm b es st H4 M eo dr4 FA4=>k m l b es st H4 M eo (K1 hl) (d3.trans dr4) FA4⟩
inductive Zau (vs:List V) (H:Hp) (Q:VK):Prop
 | mk (p sc m:Addr) (l:Str) (b:Nat) (es:List Nat) (st:List (List Nat)) (h1:vs=[.ref p,.ref m]) (h2:Z9 H m l b es st) (h3:Zjc es st) (h4:Yb H p sc) (h5:∀ m' b' es' st' H',Z9 H' m' l b' es' st'→es'.length≤100→st'.length≤6→Yh H H' p→Yb H' p sc→Q (.ref m') H'):Zau vs H Q
def Bf:Sp:=λvs H Q u3_=>Zau vs H Q
theorem Zgo (xs:List V) (k:Nat):Mc xs none (some ((k:Nat):Int))=xs.take k:=by
 unfold Mc
 rw [HT.La,HT.Ol,tL,Nat.sub_zero]
 rcases xB k xs.length with z | z
 ·rw [tF (by omega)]
 ·rw [Nat.min_eq_right z,xS z,yC]
theorem Zgp (xs:List V) (k:Nat) (h:k≤xs.length):Mc xs (some ((k:Nat):Int)) none=xs.drop k:=by
 unfold Mc
 rw [HT.La,HT.Ol,tF h,xS (by rw [wA]; exact zI _)]
theorem Dj {f:Addr} {fd:FuncData} (F:Fun K "_law_near" "_law_near" W3 f fd) (Z:Blt mg) (Zq:Cal P w K mg base "_law_pick" 1 ["_law_flow_here","_law_many"] Sg) (Y1:Cal P w K mg base "_law_machine" 2 ["_law_flow_here","_law_letters_here","_law_most"] W6) (Va:Cal P w K mg base "_law_least" 1 ["_law_machine_here"] Oi) (Wo:Cal P w K mg base "_law_same_otherwise" 2 ["_law_flow_here","_law_machine_here","_law_most"] Ga):Yt P w K mg base CX0 3 f fd ["_law_flow_here","_law_machine_here"] Bf:=by
 refine F.ok Xk (λvs H Q E h=>?_) (λcdv A outer s H vs Q E hr h=>?_)
 ·obtain ⟨p,sc,m,l,b,es,st,rfl,_⟩:=h
  rfl
 obtain ⟨p,sc,m,l,b,es,st,rfl,M,EO,FA,k⟩:=h
 refine ⟨_,(Ze (Zm (i:=2) Xk.nd (by rfl) (Or.inl (by rfl)) (Ys Zq (hr.mono (by decide)) (Za (pv 0) (Za Zh Zc)))) 
   (Ze (Ug (pv 1) (Vq (K:=K) (n:=4) (by rfl) (Yg (Zl (i:=3) Xk.nd (by rfl) (Or.inl (by rfl))) (Yg (Zl (i:=4) Xk.nd (by rfl) (Or.inl (by rfl))) (Yg (Zl (i:=5) Xk.nd (by rfl) (Or.inl (by rfl))) (Yg (Zl (i:=6) Xk.nd (by rfl) (Or.inl (by rfl))) Vp)))))) 
   (Ze (X5 (Yc Vh (pv 2) Zh (Yo _)) 
    (Zj (Zz (Ys Y1 (hr.mono (by decide)) (Za (pv 0) (Za (pv 3) (Za Zh Zc)))))) Yv) 
   (Ze (X5 (Yc Vh (pv 2) Zh (Yo _)) 
    (Zj (Zz (Ys Va (hr.mono (by decide)) (Za (pv 1) Zc)))) Yv) 
   (Ze (Zm (i:=7) Xk.nd (by rfl) (Or.inr (by rfl)) (Ys Wo (hr.mono (by decide)) (Za (pv 0) (Za (pv 1) (Za Zh Zc))))) 
   (Ze (X5 (Yc Vh (pv 2) Zh (Yo _)) 
    (Zj (Zz (pv 7))) Yv) 
   (Ze (Zm (i:=8) Xk.nd (by rfl) (Or.inr (by rfl)) (Ys Zq (hr.mono (by decide)) (Za (pv 0) (Za (Zn (Z4 (K:=K)) (by rfl) Z.len Yq (Za (Zu (Zv (K:=K)) (pv 7) Zh (λ_ _=>rfl)) Zc)) Zc)))) 
   (Ze (X5 (Yc Ze5 (pv 2) Zh (Yo _)) 
    (Ze (Lc (i:=9) Xk.nd (by rfl) (by rfl) (sc:=Zg W3) (Nm:=["_law_flow_here","_law_machine_here","_law_way","_law_letters_here","_law_begin","_law_ends","_law_steps","_law_other","_law_at","_law_some_here","_law_row"]) (own:=["_law_room"]) (fr:=[7,8]) ⟨rfl,by decide +kernel,by decide +kernel,by decide +kernel,by decide +kernel⟩ (by rfl) (Yi (by decide)) (Xe (by rfl) Z.range (Za (Zn (Z4 (K:=K)) (by rfl) Z.len Yq (Za (Zu (Zv (K:=K)) (pv 7) Zh (λ_ _=>rfl)) Zc)) Zc)) (λd=>(Zl (i:=0) Ju (by rfl) (Or.inl (by rfl)))) (λd=>(Uy (Yc Ir (We (U8 (K:=K)) (pv 0) (Zu (Zv (K:=K)) (pv 1) Zh (λ_ _=>rfl)) (by with_unfolding_all rfl)) (We Vh (pv 0) (pv 2) (Yo _)) (Yo _)))) (λd=>(pv 0))) 
    (Zj (Zz (Yd (Lg (K:=K)) (Tq (M9 (K:=K)) (pv 7) Qr (Qq Zh)) (Ww (Za (Zs (Z3 (K:=K)) (by rfl) Z.tuple Z7 (Za (pv 9) Zc)) (Za (Zu (Zv (K:=K)) (pv 7) Zh (λ_ _=>rfl)) Zc))))))) Yv) 
   (Ze (Zm (i:=10) Xk.nd (by rfl) (Or.inl (by rfl)) (Zs (Ur (K:=K)) (by rfl) Z.list Vs (Za (Zu (Zv (K:=K)) (Zu (Zv (K:=K)) (pv 7) Zh (λ_ _=>rfl)) (pv 8) (λ_ _=>rfl)) Zc))) 
   (Ze (Ug (Ys Zq (hr.mono (by decide)) (Za (pv 0) (Za (Zn (Z4 (K:=K)) (by rfl) Z.len Yq (Za (Zu (Zv (K:=K)) (pv 7) Zh (λ_ _=>rfl)) Zc)) Zc))) (Rq (pv 10) (Ys Zq (hr.mono (by decide)) (Za (pv 0) (Za (Zn (Z4 (K:=K)) (by rfl) Z.len Yq (Za (pv 10) Zc)) Zc))) set_list)) 
   (Zj (Zz (Yd (Lg (K:=K)) (Tq (M9 (K:=K)) (pv 7) Qr (Qq Zh)) (Ww (Za (Yd (Lg (K:=K)) (Yd (Lg (K:=K)) (Tq (M9 (K:=K)) (Zu (Zv (K:=K)) (pv 7) Zh (λ_ _=>rfl)) Qr (Qq (pv 8))) (Ww (Za (Zs (Z3 (K:=K)) (by rfl) Z.tuple Z7 (Za (pv 10) Zc)) Zc))) (Tq (M9 (K:=K)) (Zu (Zv (K:=K)) (pv 7) Zh (λ_ _=>rfl)) (Qq (Yd X8 (pv 8) Zh)) Qr)) Zc))))))))))))))),?_⟩
 refine (let zz0:TS:=_; let zz1:TS:=Zt _ zz0; let zz2:TS:=Zt _ zz1; let zz3:TS:=_; let zz4:TS:=Zt _ zz3; let zz5:TS:=Zt (Eh _ zz4 _) zz2; let zz6:TS:=Zt _ zz5; let zz7:TS:=Zt _ zz6; let zz8:TS:=Zt _ zz7; let zz9:TS:=Zt _ zz8; let Ht:TS:=Zt _ zz9; let Zdl:TS:=Zt _ Ht; (?_:Zt _ Zdl _ _ _))
 have hll:=M.few.2.1
 have hst:=EO.2.2
 have Pf:Wf st l.length:=M.rows
 refine ⟨_,rfl,p,sc,6,rfl,by decide,by decide,FA,λwy xs0 _ _ hx0=>?_⟩
 have FA1:=FA.go hx0
 have d1:Yh H (upd H p (.lst xs0)) p:=Yh.upd _
 have M1:=M.keep (Tk.drew FA d1)
 generalize upd H p (.lst xs0)=H1 at FA1 d1 M1
 obtain ⟨eA,sA,ra0,h1,h2,h3,h4,h5⟩:=M1.lay
 refine ⟨_,rfl,m,_,rfl,SqT.of h1,rfl,_,_,rfl,_,_,rfl,_,_,rfl,_,_,rfl,rfl,?_⟩
 refine ⟨_,rfl,rfl,_,rfl,?_⟩
 refine Wu (λ_=>?_) (λ_=>?_)
 ·exact ⟨_,rfl,_,rfl,p,sc,l,6,rfl,M.few.1,hll,by decide,by decide,FA1,λm' b' es' st' H2 M2 eo2 dr2 FA2=>k m' b' es' st' H2 M2 (by have:=eo2.1; omega) eo2.2.2 (d1.trans dr2) FA2⟩
 refine ⟨_,rfl,rfl,_,rfl,?_⟩
 refine Wu (λ_=>?_) (λ_=>?_)
 ·refine ⟨_,rfl,m,l,b,es,st,rfl,M1,by have:=EO.1; omega,λm' Sx N H2 e2 hS hN h6 hL=>?_⟩
  have W:=C2 Pf hS
  have hrows:(Yk (λx=>Sx.getD x 0) (λx=>st.getD x []) (lwO Sx st b N)).length=(lwO Sx st b N).length:=by unfold Yk; rw [zA]
  have Zc2:0 < (lwO Sx st b N).length:=(Kh (k:=λx=>Sx.getD x 0) (T:=λx=>st.getD x []) (b:=b) N).1
  have hel:(Xg (lwO Sx st b N) λx=>decide (x∈es)).length≤(lwO Sx st b N).length:=by
   unfold Xg
   exact yG (xO _ _) (by rw [zV]; exact zI _)
  exact k m' 0 _ _ H2 ⟨hL,⟨M.few.1,hll,by omega⟩,by omega,W.V1 M.beg hN⟩ (by omega) (by omega) (d1.trans (Yh.same e2)) (FA1.same e2)
 refine ⟨_,rfl,_,rfl,p,sc,m,l,b,es,st,rfl,M1,EO,FA1,λm4 b4 es4 st4 H2 M4 he4 lk4 dr2 FA2=>?_⟩
 clear lk4 h1 h2 h3 h4 h5
 have d2:=d1.trans dr2
 obtain ⟨he4,hs4⟩:=he4
 obtain ⟨eB,sB,rB,g1,g2,g3,g4,g5⟩:=M4.lay
 have Af:Wf st4 l.length:=M4.rows
 have hb4:=M4.beg
 have hrl:(rB.map V.ref).length=st4.length:=by rw [zA,g4]
 refine ⟨_,rfl,rfl,_,rfl,?_⟩
 refine Wu (λ_=>?_) (λ_=>?_)
 ·exact ⟨_,rfl,k m4 b4 es4 st4 H2 M4 he4 hs4 d2 FA2⟩
 refine ⟨_,rfl,_,rfl,m4,_,_,_,rfl,rfl,SqT.of g1,Zk (j:=3) rfl,sB,_,rfl,.inr (SqT.of g3),p,sc,_,rfl,by omega,by omega,FA2,λat_ xs3 ha0 ha1 hx3=>?_⟩
 have FA3:=FA2.go hx3
 have t3:=Tk.drew FA2 (Yh.upd (.lst xs3))
 have d3:=W0 d2 (.lst xs3)
 generalize upd H2 p (.lst xs3)=H3 at FA3 t3 d3
 have q1:=t3 _ _ g1
 have q2:=t3 _ _ g2
 have q3:=t3 _ _ g3
 have q5:∀ (i:Nat) a r,rB[i]? = some a→st4[i]? = some r→H3 a=some (.tup (r.map nI)):=λi a r z1 z2=>t3 _ _ (g5 i a r z1 z2)
 rw [hrl] at ha1
 refine ⟨_,rfl,_,_,rfl,rfl,_,rfl,?_⟩
 refine Wu (λ_=>?_) (λ_=>?_)
 ·-- the ends Zcn
  refine ⟨_,rfl,m4,_,_,_,rfl,rfl,SqT.of q1,Zk (j:=3) rfl,sB,_,rfl,.inr (SqT.of q3),_,rfl,by omega,by omega,?_⟩
  refine Xz (lo:=0) (k:=((((rB.map V.ref).length:Nat):Int)).toNat) (λi acc H4=>∃ e':List Nat,acc=e'.map nI∧e'.length≤i∧Zr H3 H4) (yO (show _≤6 by omega) (by decide)) ⟨[],rfl,zI _,Zr.refl _⟩
   (λi acc H4 ⟨e',e,hl,_⟩=>by rw [e,zA]; exact hl) (λi acc H4 hi p=>?_) (λacc H4 p y hy=>?_)
  ·obtain ⟨e',rfl,hel,e4⟩:=p
   refine ⟨_,rfl,_,rfl,m4,_,_,_,rfl,rfl,SqT.of (e4 _ _ q1),Zk (j:=2) rfl,eB,_,rfl,.inr (SqT.of (e4 _ _ q2)),rfl,Vd es4,_,rfl,_,rfl,rfl,rfl,_,rfl,?_⟩
   refine Wu (λ_=>⟨_,rfl,e' ++ [i],by rw [Zgd,Vx],by rw [zK]; show e'.length+1≤_; omega,e4⟩) (λ_=>⟨e',rfl,by omega,e4⟩)
  obtain ⟨e',rfl,hel,e4⟩:=p
  have s5:=Zd hy (.lst (e'.map nI))
  have h5y:upd H4 y (.lst (e'.map nI)) y=some (.lst (e'.map nI)):=Zb
  generalize upd H4 y (.lst (e'.map nI))=H5 at s5 h5y
  have e35:=e4.trans s5
  refine ⟨_,rfl,_,rfl,m4,_,rfl,e35 _ _ q1,λc2 H6 e6 h6=>?_⟩
  have h6':H6 c2=some (.tup [V.str l,nI b4]):=h6
  refine ⟨_,rfl,y,_,rfl,.inl ⟨SqL.of (e6 _ _ h5y),λep hep=>?_⟩⟩
  have s7:=Zd hep (.tup (e'.map nI))
  have h7e:upd H6 ep (.tup (e'.map nI)) ep=some (.tup (e'.map nI)):=Zb
  generalize upd H6 ep (.tup (e'.map nI))=H7 at s7 h7e
  have e37:=(e35.trans e6).trans s7
  refine ⟨_,rfl,m4,_,_,_,rfl,rfl,SqT.of (e37 _ _ q1),Zk (j:=3) rfl,(by show 2≤sizeLine; decide),λc3 hc3=>?_⟩
  have s8:=Zd hc3 (.tup [V.ref ep,V.ref sB])
  refine ⟨c2,c3,_,_,rfl,rfl,s8 _ _ (s7 _ _ h6'),Zb,(by show 2+2≤1000; decide),λm' H9 e9 h9=>?_⟩
  have e39:=(e37.trans s8).trans e9
  refine k m' b4 e' st4 H9 ⟨⟨ep,sB,rB,h9,e9 _ _ (s8 _ _ h7e),e39 _ _ q3,g4,λi a r z1 z2=>e39 _ _ (q5 i a r z1 z2)⟩,M4.few,hb4,Af⟩ (by omega) hs4 (d3.trans (Yh.same e39)) (FA3.same e39)
 ·-- one step Zcn
  have han:at_.toNat < st4.length:=by omega
  obtain ⟨hrm,hri⟩:=getD_mem (l:=st4) (i:=at_.toNat) (d:=[]) han
  have hrw:=Af _ hrm
  have hra:at_.toNat < rB.length:=by omega
  have hat:atI (rB.map V.ref) at_=some (.ref rB[at_.toNat]):=by
   have:atI (rB.map V.ref) ((at_.toNat:Nat):Int)=some (.ref rB[at_.toNat]):=Zk (by rw [zE,zC hra]; rfl)
   rwa [show ((at_.toNat:Nat):Int)=at_ by omega] at this
  have X3:=q5 at_.toNat _ _ (zC hra) hri
  refine ⟨_,rfl,m4,_,_,_,rfl,rfl,SqT.of q1,Zk (j:=3) rfl,_,rfl,sB,_,_,_,rfl,rfl,SqT.of q3,hat,_,_,rfl,.inr (SqT.of X3),λrp hrp=>?_⟩
  have s4:=Zd hrp (.lst ((st4.getD at_.toNat []).map nI))
  have h4r:upd H3 rp (.lst ((st4.getD at_.toNat []).map nI)) rp=some (.lst ((st4.getD at_.toNat []).map nI)):=Zb
  have FA4:=FA3.same s4
  have npr:p≠rp:=by
   obtain ⟨ys,z1,_⟩:=FA3.here
   exact Zf z1 hrp
  have nsr:sc≠rp:=by
   obtain ⟨ys,z1⟩:=FA3.cells
   exact Zf z1 hrp
  have hfr:∀ b' o',H b'=some o'→b'≠p→b'≠rp:=λb' o' z1 z2=>Zf (d3 b' o' z1 z2) hrp
  generalize upd H3 rp (.lst ((st4.getD at_.toNat []).map nI))=H4 at s4 h4r FA4
  have q1':=s4 _ _ q1
  have q3':=s4 _ _ q3
  refine ⟨_,rfl,_,rfl,m4,_,_,_,rfl,rfl,SqT.of q1',Zk (j:=3) rfl,sB,_,rfl,.inr (SqT.of q3'),p,sc,_,rfl,by omega,by omega,FA4,λnv xs5 hn0 hn1 hx5=>?_⟩
  rw [hrl] at hn1
  have FA5:=FA4.go hx5
  have h5r:upd H4 p (.lst xs5) rp=some (.lst ((st4.getD at_.toNat []).map nI)):=(Zi npr.symm).trans h4r
  have t5:=Tk.drew FA4 (Yh.upd (.lst xs5))
  have d5:Yh H (upd H4 p (.lst xs5)) p:=W0 (d3.trans (Yh.same s4)) _
  generalize upd H4 p (.lst xs5)=H5 at FA5 h5r t5 d5
  have Zbu:((st4.getD at_.toNat []).map nI).length=l.length:=by rw [zA]; exact hrw.1
  refine ⟨_,rfl,_,rfl,_,rfl,rp,_,rfl,.inl (SqL.of h5r),p,sc,_,rfl,by rw [Zbu]; have:=M.few.1; omega,by rw [Zbu]; omega,FA5,λpv xs6 hp0 hp1 hx6=>?_⟩
  rw [Zbu] at hp1
  have FA6:=FA5.go hx6
  have h6r:upd H5 p (.lst xs6) rp=some (.lst ((st4.getD at_.toNat []).map nI)):=(Zi npr.symm).trans h5r
  have t6:=Tk.drew FA5 (Yh.upd (.lst xs6))
  have d6:=W0 d5 (.lst xs6)
  generalize upd H5 p (.lst xs6)=H6 at FA6 h6r t6 d6
  have hpv:ixN ((st4.getD at_.toNat []).map nI).length pv=some pv.toNat:=by
   have:=Zbq (n:=((st4.getD at_.toNat []).map nI).length) (j:=pv.toNat) (by omega)
   rwa [show ((pv.toNat:Nat):Int)=pv by omega] at this
  refine ⟨rp,_,_,_,rfl,rfl,h6r,hpv,?_⟩
  rw [Zj4 hn0,← List.map_set]
  have t7:=Tk.lst h6r (.lst (((st4.getD at_.toNat []).set pv.toNat nv.toNat).map nI))
  have h7r:upd H6 rp (.lst (((st4.getD at_.toNat []).set pv.toNat nv.toNat).map nI)) rp=some (.lst (((st4.getD at_.toNat []).set pv.toNat nv.toNat).map nI)):=Zb
  have FA7:=Um (o:=.lst (((st4.getD at_.toNat []).set pv.toNat nv.toNat).map nI)) FA6 npr nsr
  have d7:Yh H (upd H6 rp (.lst (((st4.getD at_.toNat []).set pv.toNat nv.toNat).map nI))) p:=λb' o' z1 z2=>by
   rw [Zi (hfr b' o' z1 z2)]
   exact d6 b' o' z1 z2
  generalize upd H6 rp (.lst (((st4.getD at_.toNat []).set pv.toNat nv.toNat).map nI))=H7 at t7 h7r FA7 d7
  have t37:=(((Tk.same s4).trans t5).trans t6).trans t7
  have w1:=t37 _ _ q1
  have w3:=t37 _ _ q3
  refine ⟨_,rfl,_,rfl,m4,_,rfl,w1,λc1 H8 e8 h8=>?_⟩
  have h8':H8 c1=some (.tup [V.str l,nI b4,V.ref eB]):=h8
  refine ⟨_,rfl,m4,_,_,_,rfl,rfl,SqT.of (e8 _ _ w1),Zk (j:=3) rfl,_,rfl,_,rfl,sB,_,rfl,e8 _ _ w3,λc2 H9 e9 h9=>?_⟩
  refine ⟨_,rfl,rp,_,rfl,.inl ⟨SqL.of (e9 _ _ (e8 _ _ h7r)),λtp htp=>?_⟩⟩
  have s10:=Zd htp (.tup (((st4.getD at_.toNat []).set pv.toNat nv.toNat).map nI))
  have Zpi:upd H9 tp (.tup (((st4.getD at_.toNat []).set pv.toNat nv.toNat).map nI)) tp=some (.tup (((st4.getD at_.toNat []).set pv.toNat nv.toNat).map nI)):=Zb
  generalize upd H9 tp (.tup (((st4.getD at_.toNat []).set pv.toNat nv.toNat).map nI))=H10 at s10 Zpi
  refine ⟨(by show 1≤sizeLine; decide),λc3 hc3=>?_⟩
  have s11:=Zd hc3 (.tup [V.ref tp])
  have Zph:upd H10 c3 (.tup [V.ref tp]) c3=some (.tup [V.ref tp]):=Zb
  generalize upd H10 c3 (.tup [V.ref tp])=H11 at s11 Zph
  have Zm5:=s10.trans s11
  have ct:Mc (rB.map V.ref) none (some at_)=(rB.take at_.toNat).map V.ref:=by
   have:=Zgo (rB.map V.ref) at_.toNat
   rwa [show ((at_.toNat:Nat):Int)=at_ by omega,← List.map_take] at this
  rw [ct] at h9
  have hcl:((rB.take at_.toNat).map V.ref).length≤6:=by rw [zA,zS]; omega
  refine ⟨c2,c3,_,_,rfl,rfl,Zm5 _ _ h9,Zph,by show _+1≤1000; omega,λc4 H12 e12 h12=>?_⟩
  have Zm6:=((e8.trans e9).trans Zm5).trans e12
  refine ⟨_,rfl,m4,_,_,_,rfl,rfl,SqT.of (Zm6 _ _ w1),Zk (j:=3) rfl,_,rfl,_,_,rfl,rfl,_,rfl,sB,_,rfl,Zm6 _ _ w3,λc5 H13 e13 h13=>?_⟩
  have cd:Mc (rB.map V.ref) (some (at_+1)) none=(rB.drop (at_.toNat+1)).map V.ref:=by
   have:=Zgp (rB.map V.ref) (at_.toNat+1) (by rw [zA]; omega)
   rwa [show (((at_.toNat+1:Nat):Nat):Int)=at_+1 by omega,← List.map_drop] at this
  rw [cd] at h13
  have hdl:((rB.drop (at_.toNat+1)).map V.ref).length≤6:=by rw [zA,wA]; omega
  refine ⟨c4,c5,_,_,rfl,rfl,e13 _ _ h12,h13,by rw [zK]; show _+1+_≤1000; omega,λc6 H14 e14 h14=>?_⟩
  refine ⟨(by show 1≤sizeLine; decide),λc7 hc7=>?_⟩
  have s15:=Zd hc7 (.tup [V.ref c6])
  have h15:upd H14 c7 (.tup [V.ref c6]) c7=some (.tup [V.ref c6]):=Zb
  generalize upd H14 c7 (.tup [V.ref c6])=H15 at s15 h15
  have e715:=((Zm6.trans e13).trans e14).trans s15
  have e815:=(((e9.trans Zm5).trans e12).trans e13).trans (e14.trans s15)
  refine ⟨c1,c7,_,_,rfl,rfl,e815 _ _ h8',h15,(by show 3+1≤1000; decide),λm' H16 e16 h16=>?_⟩
  have Ziw:=e715.trans e16
  have D7:(rB.take at_.toNat).map V.ref ++ [V.ref tp] ++ (rB.drop (at_.toNat+1)).map V.ref=(rB.set at_.toNat tp).map V.ref:=by
   rw [List.set_eq_take_append_cons_drop,if_pos hra,zZ,zO,tT]
   rfl
  rw [D7] at h14
  have Zmw:=e16 _ _ (s15 _ _ (e14 _ _ (e13 _ _ (e12 _ _ (s11 _ _ Zpi)))))
  refine k m' b4 es4 (st4.set at_.toNat ((st4.getD at_.toNat []).set pv.toNat nv.toNat)) H16 ⟨⟨eB,c6,rB.set at_.toNat tp,h16,Ziw _ _ (t37 _ _ q2),e16 _ _ (s15 _ _ h14),by rw [xY,xY]; exact g4,λi a r z1 z2=>?_⟩,⟨M.few.1,hll,by rw [xY]; omega⟩,by rw [xY]; exact hb4,λr hr=>?_⟩ (by omega) (by rw [xY]; exact hs4) (d7.trans (Yh.same Ziw)) (FA7.same Ziw)
  ·by_cases c:i=at_.toNat
   ·subst c
    rw [xK hra] at z1
    rw [xK han] at z2
    cases z1
    cases z2
    exact Zmw
   ·rw [xR (λz=>c z.symm)] at z1 z2
    exact Ziw _ _ (t37 _ _ (q5 i a r z1 z2))
  ·rw [xY]
   rcases vT hr with z | z
   ·exact Af r z
   ·rw [z]
    refine ⟨by rw [xY]; exact hrw.1,λx hx=>?_⟩
    rcases vT hx with y | y
    ·exact hrw.2 x y
    ·rw [y]; omega
def dNs (r:List Nat):Dt:=.tup (r.map λn:Nat=>Dt.int ((n:Nat):Int))
def Hk (l:Str) (b:Nat) (es:List Nat) (st:List (List Nat)):Dt:=.tup [.str l,.int (b:Int),dNs es,.tup (st.map dNs)]
theorem Zb2 {α:Type} (f:α→Dt) (n:Nat) (h:∀ x,(f x).dep≤n) (xs:List α):((xs.map f).map Dt.dep).foldr max 0≤n:=by
 induction xs with
 | nil=>exact yV _
 | cons x r ih=>
  rw [zO,zO,List.foldr_cons]
  have:=h x
  omega
theorem Zb6 (r:List Nat):(dNs r).dep≤1:=by
 unfold dNs
 rw [Dt.dep]
 have:=Zb2 (λn:Nat=>Dt.int (n:Int)) 0 (λx=>by simp [Dt.dep]) r
 omega
theorem Hj (l:Str) (b:Nat) (es:List Nat) (st:List (List Nat)):(Hk l b es st).dep < 4:=by
 unfold Hk
 have h1:=Zb6 es
 have h2:(Dt.tup (st.map dNs)).dep≤2:=by
  rw [Dt.dep]
  have:=Zb2 dNs 1 Zb6 st
  omega
 rw [Dt.dep]
 simp only [zO,wQ,List.foldr_cons,List.foldr_nil]
 simp only [Dt.dep] at *
 omega
theorem Zfc {H:Hp} {a:Addr} {r:List Nat} (h:H a=some (.tup (r.map nI))) (hr:r.length≤1000):Den H (.ref a) (dNs r):=by
 refine Den.tup h (by rw [zA]; omega) (by rw [zA,zA]) λi x d q1 q2=>?_
 rw [zE] at q1 q2
 cases y:r[i]? with
 | none=>rw [y] at q1; cases q1
 | some k=>
  rw [y] at q1 q2
  cases q1
  cases q2
  exact .int _
def Nr (w:Nat) (r1 r2:List Nat):List Nat:=List.zipWith (λa b=>a * w+b) r1 r2
def pSt (st1 st2:List (List Nat)):List (List Nat):=st1.flatMap λr1=>st2.map λr2=>Nr st2.length r1 r2
theorem Qt:∀ (st1:List (List Nat)) (st2:List (List Nat)),(pSt st1 st2).length=st1.length * st2.length
 | [],st2=>by simp [pSt]
 | r :: st1,st2=>by
  have ih:=Qt st1 st2
  show ((st2.map _) ++ pSt st1 st2).length=_
  rw [zK,zA,ih,yR,rC,sZ]
theorem Ze4:∀ {st1 st2:List (List Nat)} {x y:Nat} {r1 r2:List Nat},st1[x]? = some r1→st2[y]? = some r2→(pSt st1 st2)[x * st2.length+y]? = some (Nr st2.length r1 r2)
 | [],_,_,_,_,_,h,_=>by simp at h
 | r :: st1,st2,0,y,r1,r2,h,h2=>by
  have e:r=r1:=by simpa using h
  subst e
  have hy:=(zF.mp h2).1
  show ((st2.map _) ++ pSt st1 st2)[_]? = _
  rw [Nat.zero_mul,vY,zU (by rw [zA]; exact hy),zE,h2]
  rfl
 | r :: st1,st2,x+1,y,r1,r2,h,h2=>by
  have ih:=Ze4 (st1:=st1) (st2:=st2) (x:=x) (y:=y) (r1:=r1) (r2:=r2) (by simpa using h) h2
  show ((st2.map _) ++ pSt st1 st2)[_]? = _
  rw [zX (by rw [zA,rC]; omega),zA,show (x+1) * st2.length+y - st2.length=x * st2.length+y by rw [rC]; omega]
  exact ih
theorem Gv {w:Nat} {r1 r2:List Nat} {c a b:Nat} (h1:r1[c]? = some a) (h2:r2[c]? = some b):(Nr w r1 r2)[c]? = some (a * w+b):=by
 unfold Nr
 rw [List.getElem?_zipWith,h1,h2]
theorem Oq {w:Nat} {r1 r2:List Nat} (h:r1.length=r2.length):(Nr w r1 r2).length=r1.length:=by
 unfold Nr
 rw [List.length_zipWith]
 omega
theorem De {st1 st2:List (List Nat)} {n:Nat} (R1:Wf st1 n) (R2:Wf st2 n):Wf (pSt st1 st2) n:=λr hr=>by
 unfold pSt at hr
 obtain ⟨r1,h1,h⟩:=List.mem_flatMap.mp hr
 obtain ⟨r2,h2,rfl⟩:=zY.mp h
 obtain ⟨l1,b1⟩:=R1 r1 h1
 obtain ⟨l2,b2⟩:=R2 r2 h2
 refine ⟨(Oq (by omega)).trans l1,λx hx=>?_⟩
 obtain ⟨c,hc,e⟩:=yU hx
 rw [Oq (by omega)] at hc
 have q:=Gv (w:=st2.length) (r1:=r1) (r2:=r2) (c:=c) (zC hc) (zC (by omega))
 have q2:=zC (l:=Nr st2.length r1 r2) (i:=c) (by rw [Oq (by omega)]; exact hc)
 rw [q2,e] at q
 rw [Option.some.inj q,Qt]
 exact Qs (b1 _ (wB hc)) (b2 _ (wB _))
theorem Za9 {st1 st2:List (List Nat)} {n:Nat} (R1:Wf st1 n) (R2:Wf st2 n):∀ (cs:List Nat) (x y:Nat),x < st1.length→y < st2.length→(∀ c∈cs,c < n)→Xs (pSt st1 st2) (x * st2.length+y) cs=Xs st1 x cs * st2.length+Xs st2 y cs
 | [],_,_,_,_,_=>rfl
 | c :: cs,x,y,hx,hy,h=>by
  have hc:=h c zM
  have e1:st1[x]? = some st1[x]:=zC hx
  have e2:st2[y]? = some st2[y]:=zC hy
  obtain ⟨l1,b1⟩:=R1 _ (wB hx)
  obtain ⟨l2,b2⟩:=R2 _ (wB hy)
  have f1:(st1[x])[c]? = some (st1[x])[c]:=zC (by omega)
  have f2:(st2[y])[c]? = some (st2[y])[c]:=zC (by omega)
  have g:=Ze4 e1 e2
  have g2:=Gv (w:=st2.length) f1 f2
  have ih:=Za9 R1 R2 cs _ _ (b1 _ (wB (by omega:c < (st1[x]).length))) (b2 _ (wB (by omega:c < (st2[y]).length))) λd hd=>h d (zQ _ hd)
  have s0:((pSt st1 st2).getD (x * st2.length+y) []).getD c 0=(st1[x])[c] * st2.length+(st2[y])[c]:=by
   rw [zD,zD,g,vZ,g2,vZ]
  have s1:(st1.getD x []).getD c 0=(st1[x])[c]:=by rw [zD,zD,e1,vZ,f1,vZ]
  have s2:(st2.getD y []).getD c 0=(st2[y])[c]:=by rw [zD,zD,e2,vZ,f2,vZ]
  show Xs (pSt st1 st2) (((pSt st1 st2).getD (x * st2.length+y) []).getD c 0) cs=Xs st1 ((st1.getD x []).getD c 0) cs * st2.length+Xs st2 ((st2.getD y []).getD c 0) cs
  rw [s0,s1,s2]
  exact ih
def pEs (w:Nat) (es1 es2:List Nat) (mn n:Nat):List Nat:=(List.range n).filter λx=>decide (mn≤(if x / w∈es1 then 1 else 0)+(if x % w∈es2 then 1 else 0))
theorem Zhy {w:Nat} {es1 es2:List Nat} {mn n x:Nat}:x∈pEs w es1 es2 mn n↔x < n∧mn≤(if x / w∈es1 then 1 else 0)+(if x % w∈es2 then 1 else 0):=by
 unfold pEs
 rw [xX,yN,decide_eq_true_eq]
theorem Zes {l:Str} (nd:l.cps.toList.Nodup) {st1:List (List Nat)} {es1:List Nat} {b1 k N1:Nat} (R1:Wf st1 l.length) (hb1:b1 < st1.length) (few:dn (lkN st1 es1 (k+1))≤dn (lkN st1 es1 k)) (hN1:(Zo id (TL l (gL l st1 (lkN st1 es1 (k+1)))) ((lkN st1 es1 (k+1)).getD b1 0) N1).length≤N1)
  {st:List (List Nat)} {es:List Nat} {b N:Nat} {S:List Nat} (R:Wf st l.length) (hb:b < st.length) (hS:∀ i j,i < st.length→j < st.length→(S.getD i 0=S.getD j 0↔Fut st es l.length i j)) (hN:(lwO S st b N).length≤N) (hL:Lk st es st1 es1 l.length b b1) :
  Yk id (TL l (gL l st1 (lkN st1 es1 (k+1)))) (Zo id (TL l (gL l st1 (lkN st1 es1 (k+1)))) ((lkN st1 es1 (k+1)).getD b1 0) N1)=Yk (λx=>S.getD x 0) (λx=>st.getD x []) (lwO S st b N)∧Xg (Zo id (TL l (gL l st1 (lkN st1 es1 (k+1)))) ((lkN st1 es1 (k+1)).getD b1 0) N1) (λx=>decide (x∈es1))=Xg (lwO S st b N) λx=>decide (x∈es):=by
 have lf:=Vm st1 es1 (k+1)
 have ll:=Sl st1 es1 (k+1)
 have l1:=lf.le b1 (by omega)
 have l2:=lf.own b1 (by omega)
 have hf:=(G9 (i:=(lkN st1 es1 (k+1)).getD b1 0) (j:=b1) R1 few (by omega) hb1).mp l2
 exact Bj (Zal nd R1 few) (C2 R hS) ⟨by omega,l2⟩ hb (λcs hc=>(hf cs hc).trans (hL cs hc).symm) hN1 hN
theorem LM.law {l:Str} (nd:l.cps.toList.Nodup) {P:List Nat→Prop} {stD:List (List Nat)} {esD:List Nat} (D:LM l P stD esD) {st:List (List Nat)} {es:List Nat} {b N:Nat} {S:List Nat} (R:Wf st l.length) (hb:b < st.length) (hS:∀ i j,i < st.length→j < st.length→(S.getD i 0=S.getD j 0↔Fut st es l.length i j)) (hN:(lwO S st b N).length≤N)
  (q:∀ cs,(∀ c∈cs,c < l.length)→(P cs↔Xs st b cs∈es)):Yk (λx=>S.getD x 0) (λx=>st.getD x []) (lwO S st b N)=stD∧Xg (lwO S st b N) (λx=>decide (x∈es))=esD:=by
 obtain ⟨st1,es1,b1,k,N1,p⟩:=D.is
 have h:=Zes nd p.V1 p.beg p.few p.len R hb hS hN λcs hc=>(q cs hc).symm.trans ((D.lg cs hc).symm.trans ((LM.of nd p).1.lg cs hc))
 rw [p.rows,p.ends] at h
 exact ⟨h.1.symm,h.2.symm⟩
def Zg4 (l:Str) (b1:Nat) (es1:List Nat) (st1:List (List Nat)) (b2:Nat) (es2:List Nat) (st2:List (List Nat)) (mn:Nat) (H:Hp) (Q:VK):Prop:=∀ m' H',Zr H H'→(∀ (P:List Nat→Prop) stD esD,LM l P stD esD→(∀ cs,(∀ c∈cs,c < l.length)→(P cs↔mn≤(if Xs st1 b1 cs∈es1 then 1 else 0)+(if Xs st2 b2 cs∈es2 then 1 else 0)))→Rf H' m' l 0 esD stD)→Q (.ref m') H'
inductive Ep (vs:List V) (H:Hp) (Q:VK):Prop
 | mk (m1 m2:Addr) (l:Str) (b1 b2:Nat) (es1 es2:List Nat) (st1 st2:List (List Nat)) (mn:Nat) (h1:vs=[.ref m1,.ref m2,nI mn]) (h2:Z9 H m1 l b1 es1 st1) (h3:Z9 H m2 l b2 es2 st2) (h4:st1.length * st2.length≤216) (h5:l.cps.toList.Nodup) (h6:Zg4 l b1 es1 st1 b2 es2 st2 mn H Q):Ep vs H Q
def Gd:Sp:=λvs H Q u3_=>Ep vs H Q
theorem Zee {ras:List Addr} {st:List (List Nat)} {H:Hp} (h4:ras.length=st.length) (h5:∀ (i:Nat) a r,ras[i]? = some a→st[i]? = some r→H a=some (.tup (r.map nI))) {i:Nat} {x:V} (h:(ras.map V.ref)[i]? = some x):∃ a r,x=.ref a∧st[i]? = some r∧H a=some (.tup (r.map nI)):=by
 rw [zE] at h
 cases e:ras[i]? with
 | none=>rw [e] at h; cases h
 | some a=>
  rw [e] at h
  have hi:=(zF.mp e).1
  have e2:st[i]? = some st[i]:=zC (by omega)
  exact ⟨a,_,(Option.some.inj h).symm,e2,h5 i a _ e e2⟩
theorem Zj5 {r:List Nat} {i:Nat} {x:V} (h:(r.map nI)[i]? = some x):∃ a,x=nI a∧r[i]? = some a:=by
 rw [zE] at h
 cases e:r[i]? with
 | none=>rw [e] at h; cases h
 | some a=>rw [e] at h; exact ⟨a,(Option.some.inj h).symm,rfl⟩
theorem Ze3 {st1 st2:List (List Nat)} {i:Nat} {r:List Nat} (h:st1[i]? = some r):pSt (st1.take (i+1)) st2=pSt (st1.take i) st2 ++ st2.map (Nr st2.length r):=by
 unfold pSt
 rw [yK,h,List.flatMap_append]
 simp
theorem Df {w:Nat} {es1 es2:List Nat} {mn i:Nat}:pEs w es1 es2 mn (i+1)=pEs w es1 es2 mn i ++ if mn≤(if i / w∈es1 then 1 else 0)+(if i % w∈es2 then 1 else 0) then [i] else []:=by
 unfold pEs
 rw [wW,wU]
 by_cases z:mn≤(if i / w∈es1 then 1 else 0)+(if i % w∈es2 then 1 else 0)
 ·rw [if_pos z]
  simp [z]
 ·rw [if_neg z]
  simp [z]
theorem Zba (w:Nat) (es1 es2:List Nat) (mn n:Nat):(pEs w es1 es2 mn n).length≤n:=by
 unfold pEs
 exact yG (xO _ _) (by rw [zV]; exact zI _)
def lbO (m1 m2 sp:Addr) (mn:Nat) (st1 st2:List (List Nat)) (H:Hp) (i:Nat) (σ:L2.St) (H2:Hp):Prop:=∃ (ys:List V) (v5 v6:Option V),σ=[some (.ref m1),some (.ref m2),some (nI mn),some (nI st2.length),some (.ref sp),v5,v6,none,none]∧H2 sp=some (.lst ys)∧Vf H2 ys (pSt (st1.take i) st2)∧Zr H H2
def lbI (m1 m2 sp a:Addr) (mn:Nat) (st1 st2:List (List Nat)) (r1:List Nat) (i:Nat) (H:Hp) (j:Nat) (σ:L2.St) (H2:Hp):Prop:=∃ (ys:List V) (v6:Option V),σ=[some (.ref m1),some (.ref m2),some (nI mn),some (nI st2.length),some (.ref sp),some (.ref a),v6,none,none]∧H2 sp=some (.lst ys)∧Vf H2 ys (pSt (st1.take i) st2 ++ (st2.take j).map (Nr st2.length r1))∧Zr H H2
def lbE (m1 m2 sp ep:Addr) (mn:Nat) (es1 es2:List Nat) (st2:List (List Nat)) (v5 v6:Option V) (H H3:Hp) (i:Nat) (σ:L2.St) (H4:Hp):Prop:=∃ (v8:Option V),σ=[some (.ref m1),some (.ref m2),some (nI mn),some (nI st2.length),some (.ref sp),v5,v6,some (.ref ep),v8]∧H4 ep=some (.lst ((pEs st2.length es1 es2 mn i).map nI))∧Yh H3 H4 ep
theorem Dl {f:Addr} {fd:FuncData} (F:Fun K "_law_both" "_law_both" W4 f fd) (Z:Blt mg) (Va:Cal P w K mg base "_law_least" 1 ["_law_machine_here"] Oi):Yt P w K mg base CX0 3 f fd ["_law_one","_law_other","_law_many"] Gd:=by
 refine F.ok Wi (λvs H Q E h=>?_) (λcdv A outer s H vs Q E hr h=>?_)
 ·obtain ⟨m1,m2,l,b1,b2,es1,es2,st1,st2,mn,rfl,_⟩:=h
  rfl
 obtain ⟨m1,m2,l,b1,b2,es1,es2,st1,st2,mn,rfl,M1,M2,hmul,nd,k⟩:=h
 refine ⟨_,(Ze (Zm (i:=3) Wi.nd (by rfl) (Or.inr (by rfl)) (Zn (Z4 (K:=K)) (by rfl) Z.len Yq (Za (Zu (Zv (K:=K)) (pv 1) Zh (λ_ _=>rfl)) Zc))) 
   (Ze (Zm (i:=4) Wi.nd (by rfl) (Or.inl (by rfl)) (X2 Zc)) 
   (Ze (Xq yB (by rfl) (Vo (K:=K) (Zu (Zv (K:=K)) (pv 0) Zh (λ_ _=>rfl))) (Zl (i:=5) Wi.nd (by rfl) (Or.inl (by rfl))) 
    (Zj (Xq yB (by rfl) (Vo (K:=K) (Zu (Zv (K:=K)) (pv 1) Zh (λ_ _=>rfl))) (Zl (i:=6) Wi.nd (by rfl) (Or.inl (by rfl))) 
     (Zj (Xw (Xh (K:=K) zW yI yJ Xf (pv 4) (Za (Zs (Z3 (K:=K)) (by rfl) Z.tuple Z7 (Za (Yw (sc:=Zg W4) (Nm:=["_law_one","_law_other","_law_many","_law_wide","_law_steps","_law_mine","_law_theirs","_law_ends","_law_room"]) (own:=["_law_a","_law_b"]) (fr:=[3]) ⟨rfl,by decide +kernel,by decide +kernel,by decide +kernel,by decide +kernel⟩ (by rfl) (Lj (W9 (by decide) (W9 (by decide) Oz))) (Zli (K:=K) (by rfl) Z.zip (pv 5) (pv 6)) (λd=>(Vq (K:=K) (n:=2) (by rfl) (Yg (Zl (i:=0) Pc (by rfl) (Or.inl (by rfl))) (Yg (Zl (i:=1) Pc (by rfl) (Or.inl (by rfl))) Vp)))) (λd=>Y5) (λd=>(Yd X8 (Yd Kj (pv 0) (pv 2)) (pv 1)))) Zc)) Zc))))))) 
   (Ze (Zm (i:=7) Wi.nd (by rfl) (Or.inl (by rfl)) (X2 Zc)) 
   (Ze (Xq yB (by rfl) (Xe (by rfl) Z.range (Za (Zn (Z4 (K:=K)) (by rfl) Z.len Yq (Za (pv 4) Zc)) Zc)) (Zl (i:=8) Wi.nd (by rfl) (Or.inl (by rfl))) 
    (Zj (X5 (Yc Zj2 (Yd X8 (Zs Q8 (by rfl) Z.int Fy (Za (We (U8 (K:=K)) (Yd Lf (pv 8) (pv 3)) (Zu (Zv (K:=K)) (pv 0) Zh (λ_ _=>rfl)) (by with_unfolding_all rfl)) Zc)) (Zs Q8 (by rfl) Z.int Fy (Za (We (U8 (K:=K)) (Yd Rr (pv 8) (pv 3)) (Zu (Zv (K:=K)) (pv 1) Zh (λ_ _=>rfl)) (by with_unfolding_all rfl)) Zc))) (pv 2) (Yo _)) 
     (Zj (Xw (Xh (K:=K) zW yI yJ Xf (pv 7) (Za (pv 8) Zc)))) Yv))) 
   (Zj (Zz (Ys Va (hr.mono (by decide)) (Za (Ww (Za (Zu (Zv (K:=K)) (pv 0) Zh (λ_ _=>rfl)) (Za (Yd X8 (Yd Kj (Zu (Zv (K:=K)) (pv 0) Zh (λ_ _=>rfl)) (pv 3)) (Zu (Zv (K:=K)) (pv 1) Zh (λ_ _=>rfl))) (Za (Zs (Z3 (K:=K)) (by rfl) Z.tuple Z7 (Za (pv 7) Zc)) (Za (Zs (Z3 (K:=K)) (by rfl) Z.tuple Z7 (Za (pv 4) Zc)) Zc))))) Zc))))))))),?_⟩
 refine (let zz0:TS:=_; let zz1:TS:=Zt _ zz0; let zz2:TS:=Zt _ zz1; let zz3:TS:=Zt _ zz2; let zz4:TS:=Zt _ zz3; (?_:Zt _ zz4 _ _ _))
 obtain ⟨eA,sA,rA,g1,g2,g3,g4,g5⟩:=M1.lay
 obtain ⟨eB,sB,rB,p1,p2,p3,p4,p5⟩:=M2.lay
 have R1:Wf st1 l.length:=M1.rows
 have R2:Wf st2 l.length:=M2.rows
 have Zpm:=M1.few
 have few2:=M2.few
 refine ⟨_,rfl,m2,_,_,_,rfl,rfl,SqT.of p1,Zk (j:=3) rfl,sB,_,rfl,.inr (SqT.of p3),?_⟩
 rw [zA,p4]
 refine ⟨(by show 0≤sizeLine; decide),λsp hsp=>?_⟩
 have s1:=Zd hsp (.lst [])
 have h1:upd H sp (.lst []) sp=some (.lst []):=Zb
 generalize upd H sp (.lst [])=H1 at s1 h1 ⊢
 refine ⟨_,rfl,m1,_,_,_,rfl,rfl,SqT.of (s1 _ _ g1),Zk (j:=3) rfl,sA,rfl,⟨_,SqT.of (s1 _ _ g3)⟩,?_⟩
 refine Ll (K:=K) (a:=sA) (xs:=rA.map V.ref) (lbO m1 m2 sp mn st1 st2 H) ⟨[],none,none,rfl,h1,⟨rfl,by simp⟩,s1⟩ (λi σ H2 _ h=>?_) ?_ ?_
 ·obtain ⟨_,_,_,rfl,_,_,e2⟩:=h
  exact SqT.of (e2 _ _ g3)
 ·rintro i x σ H2 hx ⟨ys,v5,v6,rfl,h2,Q2,e2⟩
  obtain ⟨a,r1,rfl,hr1,ha⟩:=Zee g4 g5 hx
  obtain ⟨l1,q1⟩:=R1 r1 (zJ hr1)
  refine ⟨_,rfl,m2,_,_,_,rfl,rfl,SqT.of (e2 _ _ p1),Zk (j:=3) rfl,sB,rfl,⟨_,SqT.of (e2 _ _ p3)⟩,?_⟩
  refine Ll (K:=K) (a:=sB) (xs:=rB.map V.ref) (lbI m1 m2 sp a mn st1 st2 r1 i H) ⟨ys,v6,rfl,h2,by simpa using Q2,e2⟩ (λj σ H3 _ h=>?_) ?_ ?_
  ·obtain ⟨_,_,rfl,_,_,e3⟩:=h
   exact SqT.of (e3 _ _ p3)
  ·rintro j x σ H3 hx3 ⟨ys,v6,rfl,h3,Q3,e3⟩
   obtain ⟨c,r2,rfl,hr2,hc⟩:=Zee p4 p5 hx3
   obtain ⟨l2,q2⟩:=R2 r2 (zJ hr2)
   have hrl:=Oq (w:=st2.length) (r1:=r1) (r2:=r2) (by omega)
   refine ⟨_,rfl,.inl ⟨rfl,_,SqL.of h3⟩,_,rfl,_,rfl,a,c,_,_,rfl,SqT.of (e3 _ _ ha),SqT.of (e3 _ _ hc),?_⟩
   refine Zgs (xs:=r1.map nI) (ys:=r2.map nI) (by rw [zA,zA]; omega) (λn acc H4=>acc=((Nr st2.length r1 r2).take n).map nI∧Zr H3 H4) (by rw [zA]; exact Zw (by omega)) ⟨rfl,Zr.refl _⟩ (λn acc H4 q=>by rw [q.1,zA,zS]; exact xG _ _)
    (λn acc H4 q=>⟨SqT.of (q.2 _ _ (e3 _ _ ha)),SqT.of (q.2 _ _ (e3 _ _ hc))⟩) (λn acc H4 x y pp hxn hyn q hp=>?_) (λacc H4 q y hy=>?_)
   ·obtain ⟨rfl,e4⟩:=q
    obtain ⟨u,rfl,hu⟩:=Zj5 hxn
    obtain ⟨v,rfl,hv⟩:=Zj5 hyn
    refine Zgn rfl (SqT.of Zb) ⟨_,rfl,_,rfl,_,_,rfl,rfl,.inr ⟨by omega,by omega⟩,_,rfl,_,_,rfl,rfl,?_,e4.trans (Zd hp _)⟩
    rw [yK,Gv hu hv,zZ]
    refine congrArg (List.map nI (List.take n (Nr st2.length r1 r2)) ++ ·) ?_
    show [V.int ((u:Int) * (st2.length:Int)+(v:Int))]=[V.int ((u * st2.length+v:Nat):Int)]
    rw [Int.natCast_add,Int.natCast_mul]
   obtain ⟨rfl,e4⟩:=q
   rw [zA,← hrl,yC]
   refine ⟨y,_,rfl,.inl ⟨SqL.of Zb,λz hz=>?_⟩⟩
   have t1:=Zd hy (.lst ((Nr st2.length r1 r2).map nI))
   have t2:=Zd hz (.tup ((Nr st2.length r1 r2).map nI))
   have t02:=(e4.trans t1).trans t2
   have hyl:ys.length≤432:=by
    have h5:=Qt (st1.take i) st2
    have h6:(st1.take i).length * st2.length≤st1.length * st2.length:=Nat.mul_le_mul_right _ (by rw [zS]; omega)
    have h7:(st2.take j).length≤st2.length:=by rw [zS]; omega
    rw [Q3.1,zK,h5,zA]
    omega
   refine ⟨sp,_,_,rfl,rfl,t02 _ _ h3,Zw (by omega),ys ++ [.ref z],_,rfl,Zb,?_,Yr (e3.trans t02) hsp _⟩
   rw [yK,hr2,sV,zZ,← tT]
   refine ((Q3.keep (Tk.same t02)).keep (Tk.lst (t02 _ _ h3) _)).snoc ?_
   rw [Zi (Xm Zb (t02 _ _ h3) λz=>nomatch z)]
   exact Zb
  ·rintro σ H3 ⟨ys,v6,rfl,h3,Q3,e3⟩
   refine ⟨ys,_,_,rfl,h3,?_,e3⟩
   rw [Ze3 hr1]
   rw [zA,p4,yC] at Q3
   exact Q3
 ·rintro σ H2 ⟨ys,v5,v6,rfl,h2,Q2,e2⟩
  rw [zA,g4,yC] at Q2
  have hN:ys.length=st1.length * st2.length:=Q2.1.trans (Qt ..)
  have hw:0 < st2.length:=yO (yV _) M2.beg
  refine ⟨(by show 0≤sizeLine; decide),λep hep=>?_⟩
  have s3:=Zd hep (.lst [])
  have h3e:upd H2 ep (.lst []) ep=some (.lst []):=Zb
  have h3s:=s3 _ _ h2
  have Q3:=Q2.keep (Tk.same s3)
  have nse:sp≠ep:=Zf h2 hep
  have hep0:H ep=none:=none_of e2 hep
  generalize upd H2 ep (.lst [])=H3 at s3 h3e h3s Q3 ⊢
  have e3:=e2.trans s3
  refine ⟨_,rfl,sp,_,rfl,.inl (SqL.of h3s),_,rfl,by omega,by omega,?_⟩
  rw [hN]
  refine Sb (lo:=0) (n:=st1.length * st2.length) (lbE m1 m2 sp ep mn es1 es2 st2 v5 v6 H H3) ⟨none,rfl,h3e,Yh.refl _ _⟩ ?_ ?_
  ·rintro i σ H4 hi ⟨v8,rfl,h4e,d4⟩
   rw [Int.zero_add (i:Int)]
   have g1':=d4 _ _ (e3 _ _ g1) (Zf (e2 _ _ g1) hep)
   have g2':=d4 _ _ (e3 _ _ g2) (Zf (e2 _ _ g2) hep)
   have p1':=d4 _ _ (e3 _ _ p1) (Zf (e2 _ _ p1) hep)
   have p2':=d4 _ _ (e3 _ _ p2) (Zf (e2 _ _ p2) hep)
   have i1:inV (V.int ((i:Int) / (st2.length:Int))) (es1.map nI)=decide (i / st2.length∈es1):=by
    rw [← Int.natCast_ediv]
    exact Ta (i / st2.length) es1
   have i2:inV (V.int ((i:Int) % (st2.length:Int))) (es2.map nI)=decide (i % st2.length∈es2):=by
    rw [← Int.natCast_emod]
    exact Ta (i % st2.length) es2
   refine ⟨_,rfl,_,rfl,_,_,rfl,rfl,⟨by omega,by omega⟩,_,rfl,m1,_,_,_,rfl,rfl,SqT.of g1',Zk (j:=2) rfl,eA,_,rfl,.inr (SqT.of g2'),rfl,Vd es1,.inr ⟨_,rfl,?_⟩⟩
   refine ⟨_,rfl,_,rfl,_,_,rfl,rfl,by omega,_,rfl,m2,_,_,_,rfl,rfl,SqT.of p1',Zk (j:=2) rfl,eB,_,rfl,.inr (SqT.of p2'),rfl,Vd es2,.inr ⟨_,rfl,?_⟩⟩
   rw [i1,i2]
   refine ⟨_,_,rfl,rfl,_,rfl,_,_,rfl,rfl,_,rfl,?_⟩
   have cc:decide ((mn:Int)≤(if (if false=true then !decide (i / st2.length∈es1) else decide (i / st2.length∈es1))=true then 1 else 0)+(if (if false=true then !decide (i % st2.length∈es2) else decide (i % st2.length∈es2))=true then 1 else 0))=decide (mn≤(if i / st2.length∈es1 then 1 else 0)+(if i % st2.length∈es2 then 1 else 0)):=by
    rw [decide_eq_decide]
    by_cases x:i / st2.length∈es1 <;> by_cases y:i % st2.length∈es2 <;> simp [x,y] <;> omega
   have hel:=Zba st2.length es1 es2 mn i
   refine cc▸?_
   refine Wu (λc=>?_) (λc=>?_)
   ·refine ⟨_,rfl,.inl ⟨rfl,_,SqL.of h4e⟩,_,rfl,ep,_,_,rfl,rfl,h4e,by rw [zA]; exact Zw (by omega),_,rfl,?_,d4.trans (Yh.upd _)⟩
    rw [Df,if_pos (of_decide_eq_true c),zZ]
    exact Zb
   ·refine ⟨_,rfl,?_,d4⟩
    rw [Df,if_neg (λz=>c (decide_eq_true z)),xF]
    exact h4e
  ·rintro σ H4 ⟨v8,rfl,h4e,d4⟩
   have g1':=d4 _ _ (e3 _ _ g1) (Zf (e2 _ _ g1) hep)
   have p1':=d4 _ _ (e3 _ _ p1) (Zf (e2 _ _ p1) hep)
   have h4s:=d4 _ _ h3s nse
   have e4:Zr H H4:=λb o h=>d4 _ _ (e3 _ _ h) (Zf h hep0)
   have Q4:=Q3.keep (H':=H4) λb ys h=>d4 _ _ h (Xm h h3e λz=>nomatch z)
   have eb:(b1:Int) * (st2.length:Int)+(b2:Int)=((b1 * st2.length+b2:Nat):Int):=by rw [Int.natCast_add,Int.natCast_mul]
   refine ⟨_,rfl,m1,_,_,_,rfl,rfl,SqT.of g1',Zk (j:=0) rfl,_,rfl,m1,_,_,_,rfl,rfl,SqT.of g1',Zk (j:=1) rfl,_,rfl,_,_,rfl,rfl,.inr ⟨by omega,by omega⟩,_,rfl,m2,_,_,_,rfl,rfl,SqT.of p1',Zk (j:=1) rfl,_,_,rfl,rfl,_,rfl,ep,_,rfl,.inl ⟨SqL.of h4e,λze hze=>?_⟩⟩
   have t1:=Zd hze (.tup ((pEs st2.length es1 es2 mn (st1.length * st2.length)).map nI))
   refine ⟨_,rfl,sp,_,rfl,.inl ⟨SqL.of (t1 _ _ h4s),λzs hzs=>?_⟩⟩
   have t2:=Zd hzs (.tup ys)
   refine ⟨(by show 4≤sizeLine; decide),λm3 hm3=>?_⟩
   have t3:=Zd hm3 (.tup [V.str l,V.int ((b1:Int) * (st2.length:Int)+(b2:Int)),.ref ze,.ref zs])
   have Q5:=Q4.keep (Tk.same ((t1.trans t2).trans t3))
   obtain ⟨ras,rfl,hrl,hat⟩:=Q5.ras
   have hel:=Zba st2.length es1 es2 mn (st1.length * st2.length)
   have hb:b1 * st2.length+b2 < (pSt st1 st2).length:=by rw [Qt]; exact Qs M1.beg M2.beg
   refine ⟨m3,l,b1 * st2.length+b2,pEs st2.length es1 es2 mn (st1.length * st2.length),pSt st1 st2,rfl,⟨⟨ze,zs,ras,?_,t3 _ _ (t2 _ _ Zb),t3 _ _ Zb,hrl,hat⟩,⟨Zpm.1,Zpm.2.1,by rw [Qt]; exact hmul⟩,hb,De R1 R2⟩,by omega,λm' S N H' e' hS hN hL hM=>k m' H' ((((e4.trans t1).trans t2).trans t3).trans e') λP stD esD D q=>?_⟩
   ·rw [Zb,eb]
    rfl
   ·have h:=D.law nd (De R1 R2) hb hS hN λcs hc=>(q cs hc).trans ?_
    ·rw [h.1,h.2] at hM
     exact hM
    rw [Za9 R1 R2 cs b1 b2 M1.beg M2.beg hc,Zhy]
    have hd:=Ts (x:=Xs st1 b1 cs) (Ql R2 cs b2 M2.beg hc)
    rw [hd.1,hd.2]
    exact ⟨λz=>⟨Qs (Ql R1 cs b1 M1.beg hc) (Ql R2 cs b2 M2.beg hc),z⟩,λz=>z.2⟩
theorem Zn3 (z:Str) (n:Nat):(Txt.slice z none (some ((n:Nat):Int))).cps.toList=z.cps.toList.take n:=by
 have hl:=len_list z
 rw [slice_list,HT.Ol,HT.La,tL,Nat.sub_zero]
 by_cases h:n≤z.length
 ·rw [tF h]
 ·rw [Nat.min_eq_right (by omega),xS (by omega),xS (by omega)]
theorem Zk6 (z:Str) (n:Nat):(Txt.slice z (some ((n:Nat):Int)) none).cps.toList=z.cps.toList.drop n:=by
 have hl:=len_list z
 rw [slice_list,HT.Ol,HT.La]
 by_cases h:n≤z.length
 ·rw [tF h,xS (by rw [wA]; omega)]
 ·rw [Nat.min_eq_right (by omega),uL (by omega),uL (by omega),List.take_nil]
theorem V0 (a b:Str):(a ++ b).cps.toList=a.cps.toList ++ b.cps.toList:=by
 show (a.cps ++ b.cps).toList=_
 rw [uB]
theorem Zhc {B G:Prop} (h:B→G) (b:B):G:=h b
inductive Ij (vs:List V) (H:Hp) (Q:VK):Prop
 | mk (p sc:Addr) (l:Str) (h1:vs=[.ref p,.str l]) (h2:0 < l.length) (h3:l.length≤3) (h4:l.cps.toList.Nodup) (h5:Yb H p sc) (h6:∀ z H',z≠l→0 < z.length→z.length≤3→z.cps.toList.Nodup→Yh H H' p→Yb H' p sc→Q (.str z) H'):Ij vs H Q
def Lu:Sp:=λvs H Q u3_=>Ij vs H Q
theorem Zfe:∀ (xs ys:List Nat),xs.Nodup→(∀ x∈xs,x∈ys)→xs.length≤ys.length
 | [],_,_,_=>yV _
 | x :: xs,ys,nd,h=>by
  rw [wL] at nd
  have hx:=h x zM
  have:=Zfe xs (ys.erase x) nd.2 λy hy=>(List.mem_erase_of_ne (show y≠x from λe=>nd.1 (by rw [← e]; exact hy))).mpr (h y (zQ _ hy))
  rw [List.length_erase_of_mem hx] at this
  have:=List.length_pos_of_mem hx
  simp only [yR]
  omega
theorem Zlh {l:List Nat} (h:l.length≤3):(abc.filter λc=>!decide (c∈l))≠[]:=λe=>by
 have:∀ c∈abc,c∈l:=λc hc=>by
  by_cases q:c∈l
  ·exact q
  ·have:c∈abc.filter λc=>!decide (c∈l):=xX.mpr ⟨hc,by simp [q]⟩
   rw [e] at this
   cases this
 have:=Zfe [97,98,99,100] l (by decide) λc hc=>this c (by
  have:c=97∨c=98∨c=99∨c=100:=by simpa using hc
  rcases this with rfl | rfl | rfl | rfl <;> decide +kernel)
 simp at this
 omega
theorem Jr {f:Addr} {fd:FuncData} (F:Fun K "_law_unlike" "_law_unlike" X7 f fd) (Z:Blt mg) (Zq:Cal P w K mg base "_law_pick" 1 ["_law_flow_here","_law_many"] Sg):Yt P w K mg base CX0 2 f fd ["_law_flow_here","_law_letters_here"] Lu:=by
 refine F.ok X9 (λvs H Q E h=>?_) (λcdv A outer s H vs Q E hr h=>?_)
 ·obtain ⟨p,sc,l,rfl,_⟩:=h
  rfl
 obtain ⟨p,sc,l,rfl,hl0,hl1,lnd,FA,k⟩:=h
 refine ⟨_,(Ze (Zm (i:=2) X9.nd (by rfl) (Or.inl (by rfl)) (Ys Zq (hr.mono (by decide)) (Za (pv 0) (Za Zh Zc)))) 
   (Ze (Zm (i:=3) X9.nd (by rfl) (Or.inl (by rfl)) (Ys Zq (hr.mono (by decide)) (Za (pv 0) (Za (Zn Su (by rfl) Z.len Yq (Za (pv 1) Zc)) Zc)))) 
   (Ze (Zm (i:=4) X9.nd (by rfl) (Or.inl (by rfl)) (Yd Uj (Tq Zeb (pv 1) Qr (Qq (pv 3))) (Tq Zeb (pv 1) (Qq (Yd X8 (pv 3) Zh)) Qr))) 
   (Ze (X5 (PW.pt (E9 (Yc Vh (Zn Su (by rfl) Z.len Yq (Za (pv 1) Zc)) Zh (Yo _)) (Gm (PW.pt (Gn (Yc Vh (pv 2) Zh (Yo _)) (Lb (Yc Zbb (Zn Su (by rfl) Z.len Yq (Za (pv 1) Zc)) Zh (Yo _)))))))) 
    (Zj (Zz (pv 4))) Yv) 
   (Ze (Lc (i:=5) X9.nd (by rfl) (by rfl) (sc:=Zg X7) (Nm:=["_law_flow_here","_law_letters_here","_law_way","_law_at","_law_left","_law_some_here","_law_other"]) (own:=["_law_letter"]) (fr:=[1]) ⟨rfl,by decide +kernel,by decide +kernel,by decide +kernel,by decide +kernel⟩ (by rfl) (Yi (by decide)) (Rp Pk) (λd=>(Zl (i:=0) Mx (by rfl) (Or.inl (by rfl)))) (λd=>(Uy (Yc Gw (pv 0) (pv 1) (by with_unfolding_all rfl)))) (λd=>(pv 0))) 
   (Ze (Zm (i:=6) X9.nd (by rfl) (Or.inl (by rfl)) (Zu (Zy (K:=K)) (pv 5) (Ys Zq (hr.mono (by decide)) (Za (pv 0) (Za (Zn (Z4 (K:=K)) (by rfl) Z.len Yq (Za (pv 5) Zc)) Zc))) (λ_ _=>rfl))) 
   (Ze (X5 (Yc Vh (pv 2) Zh (Yo _)) 
    (Zj (Zz (Xh (K:=K) uM sH sI (Ky (K:=K)) Pk (Za (Zn (Mr (by rfl)) (by rfl) Z.sorted Q9 (Za (Yd Uj (pv 1) (pv 6)) Zc)) Zc)))) Yv) 
   (Zj (Zz (Xh (K:=K) uM sH sI (Ky (K:=K)) Pk (Za (Zn (Mr (by rfl)) (by rfl) Z.sorted Q9 (Za (Yd Uj (pv 4) (pv 6)) Zc)) Zc))))))))))),?_⟩
 refine (let zz0:TS:=_; let zz1:TS:=Zt _ zz0; let zz2:TS:=Zt _ zz1; let zz3:TS:=Zt _ zz2; let zz4:TS:=Zt _ zz3; let zz5:TS:=Zt _ zz4; let zz6:TS:=Zt _ zz5; (?_:Zt _ zz6 _ _ _))
 have hll:=len_list l
 refine ⟨_,rfl,p,sc,3,rfl,by decide,by decide,FA,λr xs hr0 hr1 hx=>?_⟩
 have FA1:=FA.go hx
 have d1:=Yh.upd (H:=H) (p:=p) (.lst xs)
 generalize upd H p (.lst xs)=H1 at FA1 d1
 refine ⟨_,rfl,_,rfl,l,rfl,Vr (by omega),p,sc,_,rfl,by omega,by omega,FA1,λa ys ha0 ha1 hy=>?_⟩
 have FA2:=FA1.go hy
 have d2:=d1.trans (Yh.upd (H:=H1) (p:=p) (.lst ys))
 generalize upd H1 p (.lst ys)=H2 at FA2 d2
 obtain ⟨n,rfl⟩:∃ n:Nat,a=(n:Int):=⟨a.toNat,by omega⟩
 have hn:n < l.length:=by omega
 have b:∀ lo hi,(Txt.slice l lo hi).length≤3:=λlo hi=>yG (Txt.slice_le l lo hi) hl1
 have b1:=b none (some ((n:Nat):Int))
 have b2:=b (some (((n:Nat):Int)+1)) none
 refine ⟨_,rfl,_,rfl,_,rfl,l,rfl,Vr (by omega),_,rfl,_,rfl,_,_,rfl,rfl,_,rfl,l,rfl,Vr (by omega),_,_,rfl,rfl,Vr (by omega),?_⟩
 have Zfv:(Txt.slice l none (some ((n:Nat):Int)) ++ Txt.slice l (some (((n:Nat):Int)+1)) none).cps.toList=l.cps.toList.take n ++ l.cps.toList.drop (n+1):=by
  rw [V0,Zn3,show ((n:Nat):Int)+1=((n+1:Nat):Int) by omega,Zk6]
 generalize Txt.slice l none (some ((n:Nat):Int)) ++ Txt.slice l (some (((n:Nat):Int)+1)) none=left at Zfv
 have hle:left.length=l.length - 1:=by
  rw [← len_list left,Zfv,zK,zS,wA]
  omega
 have Zly:left.cps.toList.Sublist l.cps.toList:=by
  have t:(l.cps.toList.drop (n+1)).Sublist (l.cps.toList.drop n):=by rw [← List.drop_drop]; exact List.drop_sublist _ _
  have q:=(List.Sublist.refl (l.cps.toList.take n)).append t
  rw [vL] at q
  rw [Zfv]
  exact q
 have leaf:l.length≠1→Q (.str left) H2:=λh1=>k _ _ (λe=>by rw [e] at hle; omega) (by omega) (by omega) (lnd.sublist Zly) d2 FA2
 refine ⟨_,rfl,l,rfl,Vr (by omega),rfl,_,rfl,?_⟩
 refine Wu (λc=>Ab ⟨_,rfl,leaf ?_⟩) (λc=>?_)
 ·have:((l.length:Nat):Int)=3:=V.int.inj (of_decide_eq_true c)
  omega
 have h3:l.length≠3:=λe=>c (decide_eq_true (congrArg V.int (by rw [e]; rfl)))
 refine Zhc (λrest=>⟨_,rfl,rfl,_,rfl,Wu (λc2=>⟨_,rfl,l,rfl,Vr (by omega),_,_,rfl,rfl,_,rfl,Wu (λc3=>⟨_,rfl,leaf ?_⟩) (λ_=>rest)⟩) (λ_=>Ox rest)⟩) ?_
 ·have:(1:Int) < ((l.length:Nat):Int):=of_decide_eq_true c3
  omega
 refine ⟨_,rfl,?_⟩
 refine O9 (cs:=(Str.ofString "abcdefghijklmnopqrstuvwxyz").cps.toList) (λj acc H3=>Zr H2 H3∧acc=(((Str.ofString "abcdefghijklmnopqrstuvwxyz").cps.toList.take j).filter λc=>!decide (c∈l.cps.toList)).map Tt) (by rw [Zad]; decide) ⟨Zr.refl _,rfl⟩
  (λj acc H3 q=>by rw [q.2,zA]; exact yG (xO _ _) (by rw [zS]; exact xG _ _)) (λj acc H3 c hc q=>?_) (λacc H3 q lp hlp=>?_)
 ·obtain ⟨e3,rfl⟩:=q
  refine ⟨_,rfl,_,rfl,_,_,rfl,rfl,_,rfl,?_⟩
  have hf:(!(!(Builtin.Str.occurrences l ⟨#[c]⟩ 0 l.length 1).isEmpty)) = !decide (c∈l.cps.toList):=congrArg (! ·) (StrLaws.found_one l c)
  show if (!(!(Builtin.Str.occurrences l ⟨#[c]⟩ 0 l.length 1).isEmpty))=true then _ else _
  rw [hf,yK,hc]
  refine Wu (λc1=>⟨_,rfl,e3,?_⟩) (λc1=>⟨e3,?_⟩)
  ·rw [wU,zZ]
   simp only [sV,vD,c1,if_true,List.filter_nil]
   rfl
  ·rw [wU,zZ]
   simp only [sV,vD,c1,List.filter_nil]
   simp
 ·obtain ⟨e3,rfl⟩:=q
  rw [yC,Zad]
  have hne:=Zlh (l:=l.cps.toList) (by omega)
  have D9:∀ c∈abc.filter (λc=>!decide (c∈l.cps.toList)),c∉l.cps.toList:=λc hc q=>by
   have:=(xX.mp hc).2
   simp [q] at this
  have hlen:(abc.filter λc=>!decide (c∈l.cps.toList)).length≤26:=yG (xO _ _) (by decide)
  generalize abc.filter (λc=>!decide (c∈l.cps.toList))=cs at hne D9 hlen
  have s4:=Zd hlp (.lst (cs.map Tt))
  have h4:upd H3 lp (.lst (cs.map Tt)) lp=some (.lst (cs.map Tt)):=Zb
  have FA4:=(FA2.same e3).same s4
  have d4:=d2.trans (Yh.same (p:=p) (e3.trans s4))
  generalize upd H3 lp (.lst (cs.map Tt))=H4 at s4 h4 FA4 d4
  have hcs:0 < cs.length:=by cases cs with | nil=>exact absurd rfl hne | cons _ _=>exact Nat.succ_pos _
  have npl:lp≠p:=by
   obtain ⟨xs',hp',_⟩:=(FA2.same e3).here
   exact (Zf hp' hlp).symm
  refine ⟨_,rfl,_,rfl,_,rfl,lp,_,rfl,.inl (SqL.of h4),p,sc,_,rfl,by rw [zA]; omega,by rw [zA]; omega,FA4,λr3 xs3 h30 h31 hx3=>?_⟩
  have FA5:=FA4.go hx3
  have d5:=d4.trans (Yh.upd (H:=H4) (p:=p) (.lst xs3))
  have h5:upd H4 p (.lst xs3) lp=some (.lst (cs.map Tt)):=(Zi npl).trans h4
  generalize upd H4 p (.lst xs3)=H5 at FA5 d5 h5
  rw [zA] at h31
  have hk:r3.toNat < cs.length:=by omega
  have hat:atI (cs.map Tt) r3=some (Tt cs[r3.toNat]):=by
   have q:atI (cs.map Tt) ((r3.toNat:Nat):Int)=some (Tt cs[r3.toNat]):=Zk (by rw [zE,zC hk]; rfl)
   rwa [show ((r3.toNat:Nat):Int)=r3 by omega] at q
  have Zmk:=D9 _ (wB hk)
  generalize cs[r3.toNat]=o at hat Zmk
  refine ⟨lp,_,_,_,rfl,rfl,SqL.of h5,hat,?_⟩
  have done:∀ (t:Str),t.cps.toList.Nodup→(∀ c∈t.cps.toList,c∈l.cps.toList)→t.length≤2→(l.length=t.length→o∈(t ++ one o).cps.toList)→l.length≤t.length+1→∀ (ys:List Str) (l2:Addr),ys.Perm (L2.signs (t ++ one o))→sortedS ys=true→H5 l2=none→(ys.map (·.length)).sum+ys.length * (Str.ofString "").length≤16777216∧Q (.str (Txt.join (Str.ofString "") ys)) (upd H5 l2 (.lst (ys.map V.str))):=λt tn tl ht hin htl ys l2 hp hs hl2=>by
   obtain ⟨cs',hc',rfl⟩:=Ih (cs:=(t ++ one o).cps.toList) hp
   have hcl:=hc'.length_eq
   have htt:=len_list t
   rw [V0,zK,htt] at hcl
   have hcl':cs'.length=t.length+1:=hcl
   have e3:=Pe (cs'.map one)
   rw [Hf] at e3
   refine ⟨?_,?_⟩
   ·rw [Ek,zA]
    have:(Str.ofString "").length=0:=by decide +kernel
    rw [this]
    omega
   ·have hjl:(Txt.join (Str.ofString "") (cs'.map one)).length=t.length+1:=by rw [← len_list,e3,hcl']
    refine k _ _ (λe=>?_) (by omega) (by omega) (by rw [e3]; exact hc'.nodup_iff.mpr (by rw [V0]; exact vQ.mpr ⟨tn,wL.mpr ⟨by simp,List.nodup_nil⟩,λa ha b hb e=>Zmk (by rw [← zT.mp hb,← e]; exact tl a ha)⟩)) (d5.trans (Yh.same (Zd hl2 _))) (FA5.same (Zd hl2 _))
    have hom:o∈(Txt.join (Str.ofString "") (cs'.map one)).cps.toList:=by
     rw [e3]
     refine hc'.mem_iff.mpr ?_
     rw [V0]
     exact yL _ zM
    rw [e] at hom
    exact Zmk hom
  refine ⟨_,rfl,rfl,_,rfl,Wu (λ_=>?_) (λ_=>?_)⟩
  ·refine ⟨rfl,_,rfl,_,rfl,l,one o,rfl,rfl,Vr (by show l.length+1≤1000; omega),_,rfl,(by show (l ++ one o).cps.size < 64; rw [← yX,V0,zK,hll]; show l.length+1 < 64; omega),λys l2 hp hs hl2=>?_⟩
   obtain ⟨a1,a2⟩:=done l lnd (λ_ h=>h) (by omega) (λ_=>by rw [V0]; exact yL _ zM) (by omega) ys l2 hp hs hl2
   exact ⟨_,l2,ys,rfl,rfl,SqL.of Zb,a1,a2⟩
  ·have hlel:=len_list left
   refine ⟨rfl,_,rfl,_,rfl,left,one o,rfl,rfl,Vr (by show left.length+1≤1000; omega),_,rfl,(by show (left ++ one o).cps.size < 64; rw [← yX,V0,zK,hlel]; show left.length+1 < 64; omega),λys l2 hp hs hl2=>?_⟩
   obtain ⟨a1,a2⟩:=done left (lnd.sublist Zly) (λc h=>Zly.subset h) (by omega) (λ_=>by rw [V0]; exact yL _ zM) (by omega) ys l2 hp hs hl2
   exact ⟨_,l2,ys,rfl,rfl,SqL.of Zb,a1,a2⟩
def GV (H:Hp) (m:Addr) (l:Str) (P:List Nat→Prop) (n:Nat):Prop:=∃ b es st,Z9 H m l b es st∧(∀ cs,(∀ c∈cs,c < l.length)→(Xs st b cs∈es↔P cs))∧es.length≤500∧st.length≤n
def LV (H:Hp) (m:Addr) (l:Str) (P:List Nat→Prop) (n:Nat):Prop:=∃ st es,LM l P st es∧Rf H m l 0 es st∧st.length≤n
theorem GV.keep {H H':Hp} {m:Addr} {l:Str} {P:List Nat→Prop} {n:Nat} (h:GV H m l P n) (k:Tk H H'):GV H' m l P n:=let ⟨b,es,st,M,r⟩:=h; ⟨b,es,st,M.keep k,r⟩
theorem LV.gv {H:Hp} {m:Addr} {l:Str} {P:List Nat→Prop} {n:Nat} (h:LV H m l P n) (hn:n≤216) (hl:0 < l.length∧l.length≤3):GV H m l P n:=by
 obtain ⟨st,es,D,M,r⟩:=h
 exact ⟨0,es,st,D.Zh7 hl (by omega) M,D.lg,by have:=D.ends.1; omega,r⟩
theorem Rf.den {H:Hp} {m:Addr} {l:Str} {b:Nat} {es:List Nat} {st:List (List Nat)} (h:Rf H m l b es st) (he:es.length≤1000) (hs:st.length≤1000) (hr:∀ r∈st,r.length≤1000):Den H (.ref m) (Hk l b es st):=by
 obtain ⟨e,s,ras,h1,h2,h3,h4,h5⟩:=h
 refine Den.tup h1 (by show 4≤1000000; decide) rfl λi x d q1 q2=>?_
 match i,q1,q2 with
 | 0,q1,q2=>cases q1; cases q2; exact .str _
 | 1,q1,q2=>cases q1; cases q2; exact .int _
 | 2,q1,q2=>cases q1; cases q2; exact Zfc h2 he
 | 3,q1,q2=>
  cases q1
  cases q2
  refine Den.tup h3 (by rw [zA]; omega) (by rw [zA,zA]; exact h4) λj x d q1 q2=>?_
  rw [zE] at q1 q2
  cases c1:ras[j]? with
  | none=>rw [c1] at q1; cases q1
  | some a=>
   cases c2:st[j]? with
   | none=>rw [c2] at q2; cases q2
   | some r=>
    rw [c1] at q1
    rw [c2] at q2
    cases q1
    cases q2
    exact Zfc (h5 j a r c1 c2) (hr r (zJ c2))
 | i+4,q1,q2=>cases q1
theorem LM.den {l:Str} {P:List Nat→Prop} {st:List (List Nat)} {es:List Nat} (D:LM l P st es) (hl:l.length≤3) (hs:st.length≤216) {H:Hp} {m:Addr} (h:Rf H m l 0 es st):Den H (.ref m) (Hk l 0 es st):=h.den (by have:=D.ends.1; omega) (by omega) λr hr=>by have:=(D.V1 r hr).1; omega
structure Vg (Pb Pl:Addr) (H:Hp):Prop where
 b:Tb Pb V4 H
 l:Tb Pl Yx H
 n:Pb≠Pl
theorem Kp2.tk {Pb Pl:Addr} {H H':Hp} (e:Kp2 Pb Pl H H') (t:Vg Pb Pl H):Tk H H':=λb ys h=>e b _ (λz=>by
 obtain ⟨ps,hp,_⟩:=t.b
 rw [z,hp] at h
 cases h) (λz=>by
 obtain ⟨ps,hp,_⟩:=t.l
 rw [z,hp] at h
 cases h) h
theorem Vg.same {Pb Pl:Addr} {H H':Hp} (t:Vg Pb Pl H) (e:Zr H H'):Vg Pb Pl H':=⟨t.b.same e,t.l.same e,t.n⟩
theorem Zr.kpp {Pb Pl:Addr} {H H':Hp} (e:Zr H H'):Kp2 Pb Pl H H':=λb o _ _ h=>e b o h
def Zkf (Pb Pl:Addr) (l:Str) (P:List Nat→Prop) (n:Nat) (H:Hp) (Q:VK):Prop:=∀ m' H',Kp2 Pb Pl H H'→Vg Pb Pl H'→LV H' m' l P n→Q (.ref m') H'
section
variable {Pb Pl:Addr} {H:Hp} {l:Str} {P P1 P2:List Nat→Prop} {n n1 n2:Nat} {Q:VK} {m m1 m2:Addr}
theorem Ct {cN:Addr} {E:XK} (G1:GV H m1 l P1 n1) (G2:GV H m2 l P2 n2) (hm:n1 * n2≤216) (nd:l.cps.toList.Nodup) (T:Vg Pb Pl H) (k:Zkf Pb Pl l (λcs=>P1 cs∧P2 cs) (n1 * n2) H Q):Sh Pb Pl cN [.ref m1,.ref m2] H Q E:=by
 obtain ⟨b1,es1,st1,M1,lg1,he1,hs1⟩:=G1
 obtain ⟨b2,es2,st2,M2,lg2,he2,hs2⟩:=G2
 have hmul:st1.length * st2.length≤n1 * n2:=sT hs1 hs2
 exact ⟨m1,m2,l,l,b1,b2,es1,es2,st1,st2,rfl,M1,M2,T.b,T.l,T.n,λ_=>⟨by omega,nd,λm' stD esD H' e tb tl D hs hL=>k m' H' e ⟨tb,tl,T.n⟩ ⟨stD,esD,D.Zgr λcs hc=>and_congr (lg1 cs hc) (lg2 cs hc),hL,by omega⟩⟩,λh=>absurd rfl h⟩
theorem Jc {cN:Addr} {E:XK} (G1:GV H m1 l P1 n1) (G2:GV H m2 l P2 n2) (hm:n1 * n2≤216) (nd:l.cps.toList.Nodup) (T:Vg Pb Pl H) (k:Zkf Pb Pl l (λcs=>P1 cs∨P2 cs) (n1 * n2) H Q):Ua Pb Pl cN [.ref m1,.ref m2] H Q E:=by
 obtain ⟨b1,es1,st1,M1,lg1,he1,hs1⟩:=G1
 obtain ⟨b2,es2,st2,M2,lg2,he2,hs2⟩:=G2
 have hmul:st1.length * st2.length≤n1 * n2:=sT hs1 hs2
 exact ⟨m1,m2,l,l,b1,b2,es1,es2,st1,st2,rfl,M1,M2,he1,he2,nd,nd,T.b,T.l,T.n,λ_=>⟨by omega,λm' stD esD H' e tb tl D hs hL=>k m' H' e ⟨tb,tl,T.n⟩ ⟨stD,esD,D.Zgr λcs hc=>or_congr (lg1 cs hc) (lg2 cs hc),hL,by omega⟩⟩,λh=>absurd rfl h⟩
end
theorem Tb.drew {Pt p sc:Addr} {L:List (Pos × Str)} {H H':Hp} (t:Tb Pt L H) (F:Yb H p sc) (d:Yh H H' p):Tb Pt L H':=by
 obtain ⟨ps,h1,h2,h3⟩:=t
 obtain ⟨xs,hp,_⟩:=F.here
 refine ⟨ps,d _ _ h1 (Xm h1 hp λz=>nomatch z),h2,λx hx=>(h3 x hx).imp id λ⟨c,a,b⟩=>⟨c,a,d _ _ b (Xm b hp λz=>nomatch z)⟩⟩
theorem Vg.drew {Pb Pl p sc:Addr} {H H':Hp} (t:Vg Pb Pl H) (F:Yb H p sc) (d:Yh H H' p):Vg Pb Pl H':=⟨Tb.drew t.b F d,Tb.drew t.l F d,t.n⟩
theorem Kp2.K5 {Pb Pl p sc:Addr} {H H':Hp} (e:Kp2 Pb Pl H H') (t:Vg Pb Pl H) (F:Yb H p sc):Yb H' p sc:=by
 obtain ⟨qs,hb,_⟩:=t.b
 obtain ⟨rs,hl,_⟩:=t.l
 obtain ⟨xs,hp,hx⟩:=F.here
 obtain ⟨ns,hc⟩:=F.cells
 exact ⟨⟨xs,e _ _ (Xm hp hb λz=>nomatch z) (Xm hp hl λz=>nomatch z) hp,hx⟩,ns,e _ _ (Xm hc hb λz=>nomatch z) (Xm hc hl λz=>nomatch z) hc⟩
theorem Zcl {X:Cx} {P:Program} {w:World} {K:W.Frag} {mg:Str→Option Value} {base:Heap} {E:L2.St→XK} {i:Nat} (n:Nat) {x:Str} {p pos:Pos} {e:Expr} {es:List Expr} {t:TA} (hr:Wx n X.A) (hx:RX X E) (ha:PA X (e :: es) t) (hP:X.prog=P:=by rfl) (hw:X.w=w:=by rfl) (hK:X.K=K:=by rfl) (hm:X.mg=mg:=by rfl) (hb:X.base=base:=by rfl)
  (hN:X.N[i]? = some x:=by rfl) (hv:Vis X.env.scope x:=by first | exact Or.inl rfl | exact Or.inr (Or.inl rfl) | exact Or.inr (Or.inr rfl)) (hd:(x==("__debug__" : Str))=false:=by decide) (hcd:(x==("__classdict__" : Str))=false:=by decide)
  (he:starEach (e :: es) X.env=(false,eval e X.env) :: starEach es X.env:=by rfl) (hpl:(backTo pos (starEach es X.env)).any (·.1)=false:=by rfl):PE X (.Call (.Name x p) (e :: es) [] pos) (Zap P w K mg base i n E t):=by
 subst hP hw hK hm hb
 exact Zcm n hr hx ha hN hv hd hcd he hpl
theorem Tb.lst {Pt sp:Addr} {L:List (Pos × Str)} {H:Hp} {ys:List V} (t:Tb Pt L H) (h:H sp=some (.lst ys)) (o:HO):Tb Pt L (upd H sp o):=by
 obtain ⟨ps,h1,h2,h3⟩:=t
 exact ⟨ps,(Zi (Xm h1 h λz=>nomatch z)).trans h1,h2,λx hx=>(h3 x hx).imp id λ⟨c,a,b⟩=>⟨c,a,(Zi (Xm b h λz=>nomatch z)).trans b⟩⟩
theorem Kp2.lst {Pb Pl:Addr} {H H':Hp} (e:Kp2 Pb Pl H H') (t:Vg Pb Pl H) {b:Addr} {ys:List V} (h:H b=some (.lst ys)):H' b=some (.lst ys):=by
 obtain ⟨qs,hb,_⟩:=t.b
 obtain ⟨rs,hl,_⟩:=t.l
 exact e _ _ (Xm h hb λz=>nomatch z) (Xm h hl λz=>nomatch z) h
inductive Lv (Pb:Addr) (Pl:Addr) (vs:List V) (H:Hp) (Q:VK):Prop
 | mk (m1 m2:Addr) (l1 l2:Str) (b1 b2:Nat) (es1 es2:List Nat) (st1 st2:List (List Nat)) (h1:vs=[.ref m1,.ref m2]) (h2:Z9 H m1 l1 b1 es1 st1) (h3:Z9 H m2 l2 b2 es2 st2) (h4:es1.length≤500) (h5:es2.length≤500) (h6:l1≠l2) (h7:l1.cps.toList.Nodup) (h8:l2.cps.toList.Nodup) (h9:Vg Pb Pl H) (h10:∀ H',Kp2 Pb Pl H H'→Vg Pb Pl H'→Q (.bl true) H'):Lv Pb Pl vs H Q
def Nk (Pb Pl:Addr):Sp:=λvs H Q u3_=>Lv Pb Pl vs H Q
theorem Km {f:Addr} {fd:FuncData} {Pb Pl Z6 Y6 Z8 Yp Xa Xi:Addr} (F:Fun K "_law_refused" "_law_refused" Wc f fd) (Z:Blt mg) (kl:Kls K mg Z6 Y6 Z8 Yp Xa Xi)
  (Xj:Ic P w K mg base "both" 6 ["one","other"] (Sh Pb Pl Yp)) (Yu:Ic P w K mg base "either" 7 ["one","other"] (Ua Pb Pl Yp)) (S3:Cal P w K mg base "_law_caught" 1 ["_law_e"] (L6 K Z6 Y6 Z8 Yp Xa Xi)):Yt P w K mg base CX0 8 f fd ["_law_one","_law_other"] (Nk Pb Pl):=by
 refine F.ok Wg (λvs H Q E h=>?_) (λcdv A outer s H vs Q E hr h=>?_)
 ·obtain ⟨m1,m2,l1,l2,b1,b2,es1,es2,st1,st2,rfl,_⟩:=h
  rfl
 obtain ⟨m1,m2,l1,l2,b1,b2,es1,es2,st1,st2,rfl,M1,M2,he1,he2,hne,nd1,nd2,T,k⟩:=h
 obtain ⟨⟨_,_,K2,_,_⟩,_,_⟩:=kinds_of kl.kit
 have hJ:∀ j∈[Xj.f,Yu.f],∃ (fd:FuncData) (ps:List Str) (sp:Sp),Yt P w K mg base (CXE P w) 7 j fd ps sp∧W.keepIn K (.ref j)=true∧Binds K fd ps []∧∀ (H1:Hp) (Q1:VK) (E1:XK),Z9 H1 m1 l1 b1 es1 st1→Z9 H1 m2 l2 b2 es2 st2→Vg Pb Pl H1→(∀ a H',Kp2 Pb Pl H1 H'→Vg Pb Pl H'→H' a=some (exR a Yp none)→E1 (.ref a) none H')→sp [.ref m1,.ref m2] H1 Q1 E1:=λj hj=>by
  rcases yE.mp hj with z | z
  ·subst z
   exact ⟨_,_,_,Xj.ok.mono (by decide),Xj.kp,Xj.b,λH1 Q1 E1 N1 N2 T1 q=>⟨m1,m2,l1,l2,b1,b2,es1,es2,st1,st2,rfl,N1,N2,T1.b,T1.l,T1.n,λz=>absurd z hne,λ_ a H' e' ha=>q a H' (Zr.kpp e') (T1.same e') ha⟩⟩
  ·rw [zT.mp z]
   exact ⟨_,_,_,Yu.ok,Yu.kp,Yu.b,λH1 Q1 E1 N1 N2 T1 q=>⟨m1,m2,l1,l2,b1,b2,es1,es2,st1,st2,rfl,N1,N2,he1,he2,nd1,nd2,T1.b,T1.l,T1.n,λz=>absurd z hne,λ_ a H' e' tb tl ha=>q a H' e' ⟨tb,tl,T1.n⟩ ha⟩⟩
 refine ⟨_,(Ze (Zm (i:=2) Wg.nd (by rfl) (Or.inl (by rfl)) (X2 Zc)) 
   (Ze (Xq yB (by rfl) (Vo (K:=K) (Ww (Za (Si (v:=.ref Xj.f) (by rfl) Xj.at_ rfl) (Za (Si (v:=.ref Yu.f) (by rfl) Yu.at_ rfl) Zc)))) (Zl (i:=3) Wg.nd (by rfl) (Or.inl (by rfl))) 
    (Ze (Zm (i:=4) Wg.nd (by rfl) (Or.inl (by rfl)) Zll) 
    (Ze (Zlg (K:=K) (i:=5) (j:=4) Wg.nd (by rfl) (by rfl) (by rfl) (by rfl) kl.G8 (by rfl) (by rfl) (λpn xe E rx=>
     (Zj (Xw (Zcl (P:=P) (w:=w) (K:=K) (mg:=mg) (base:=base) (i:=3) 7 (hr.mono (by decide)) rx (Za (pv 0) (Za (pv 1) Zc))))))) 
    (Zj (Xw (Xh (K:=K) zW yI yJ Xf (pv 2) (Za (Ys S3 (hr.mono (by decide)) (Za (pv 4) Zc)) Zc))))))) 
   (Zj (Zz (We (Zlo (K:=K) (Zoz hr)) (pv 2) (X2 (Za Zh (Za Zh Zc))) (Yo _)))))),?_⟩
 refine (let zz0:TS:=_; let zz1:TS:=_; let zz2:TS:=Zt _ zz1; let zz3:TS:=Zt _ zz2; let zz4:TS:=Zt (Jp _ _ zz3) zz0; (?_:Zt _ zz4 _ _ _))
 refine ⟨(by show 0≤sizeLine; decide),λsp hsp=>?_⟩
 have s1:=Zd hsp (.lst [])
 have h1:upd H sp (.lst []) sp=some (.lst []):=Zb
 generalize upd H sp (.lst [])=H1 at s1 h1 ⊢
 refine ⟨(by show 2≤sizeLine; decide),λtp htp=>⟨tp,rfl,⟨_,SqT.of Zb⟩,?_⟩⟩
 have s2:=Zd htp (.tup [.ref Xj.f,.ref Yu.f])
 have h2:upd H1 tp (.tup [.ref Xj.f,.ref Yu.f]) tp=some (.tup [.ref Xj.f,.ref Yu.f]):=Zb
 have h2s:=s2 _ _ h1
 generalize upd H1 tp (.tup [.ref Xj.f,.ref Yu.f])=H2 at s2 h2 h2s ⊢
 have T2:=(T.same s1).same s2
 refine Ll (K:=K) (a:=tp) (xs:=[.ref Xj.f,.ref Yu.f]) (λi σ H3=>∃ v3 v4 v5,σ=[some (.ref m1),some (.ref m2),some (.ref sp),v3,v4,v5]∧H3 sp=some (.lst (List.replicate i (V.int 2)))∧H3 tp=some (.tup [.ref Xj.f,.ref Yu.f])∧Kp2 Pb Pl H H3∧Vg Pb Pl H3) ⟨none,none,none,rfl,h2s,h2,Zr.kpp (s1.trans s2),T2⟩ (λi σ H3 _ h=>?_) ?_ ?_
 ·obtain ⟨_,_,_,rfl,_,h3,_⟩:=h
  exact SqT.of h3
 ·rintro i x σ H3 hx ⟨v3,v4,v5,rfl,h3s,h3t,e3,T3⟩
  obtain ⟨j,hj,rfl⟩:∃ j∈[Xj.f,Yu.f],x=.ref j:=by
   have:=zJ hx
   simp only [yE,wS,or_false] at this
   rcases this with z | z <;> exact ⟨_,by simp,z⟩
  obtain ⟨fd',ps',sp',ok',kp',b',use⟩:=hJ j hj
  have k3:=e3.tk T
  refine ⟨j,fd',ps',sp',ok',kp',b',rfl,_,rfl,_,rfl,use _ _ _ (M1.keep k3) (M2.keep k3) T3 λa H' e' T' ha=>⟨a,Yp,none,rfl,ha,Zm2 kl.exm (by simp),?_⟩⟩
  have h4s:H' sp=some (.lst (List.replicate i (V.int 2))):=e'.lst T3 h3s
  have h4t:=e'.tk T3 _ _ h3t
  refine ⟨_,rfl,.inl ⟨rfl,_,SqL.of h4s⟩,_,rfl,a,Yp,[],2,rfl,.inl ⟨ha,rfl⟩,kl.Zm1,K2,by decide,λH5 e5=>?_⟩
  have hi:i < 2:=(zF.mp hx).1
  refine ⟨sp,_,_,rfl,rfl,e5 _ _ h4s,by rw [vI]; exact Zw (by omega),_,_,_,rfl,?_,(Zi (Xm (e5 _ _ h4t) (e5 _ _ h4s) λz=>nomatch z)).trans (e5 _ _ h4t),?_,?_⟩
  ·rw [List.replicate_succ']
   exact Zb
  ·exact λb o n1 n2 h=>(Zi (Zf h hsp)).trans (e5 _ _ (e' _ _ n1 n2 (e3 _ _ n1 n2 h)))
  ·exact ⟨Tb.lst (T'.b.same e5) (e5 _ _ h4s) _,Tb.lst (T'.l.same e5) (e5 _ _ h4s) _,T'.n⟩
 ·rintro σ H3 ⟨v3,v4,v5,rfl,h3s,h3t,e3,T3⟩
  refine ⟨_,rfl,(by show 2≤sizeLine; decide),λy hy=>?_⟩
  have s4:=Zd hy (.lst [V.int 2,V.int 2])
  exact ⟨sp,y,_,_,rfl,rfl,.inl ⟨SqL.of (s4 _ _ h3s),SqL.of Zb⟩,rfl,rfl,k _ (e3.trans (Zr.kpp s4)) (T3.same s4)⟩
inductive El (Pb:Addr) (Pl:Addr) (vs:List V) (H:Hp) (Q:VK):Prop
 | mk (m1 m2:Addr) (l:Str) (P1 P2:List Nat→Prop) (n1 n2:Nat) (h1:vs=[.ref m1,.ref m2]) (h2:GV H m1 l P1 n1) (h3:GV H m2 l P2 n2) (h4:n1 * n2≤216) (h5:l.cps.toList.Nodup) (h6:Vg Pb Pl H) (h7:∀ H',Kp2 Pb Pl H H'→Vg Pb Pl H'→Q (.bl true) H'):El Pb Pl vs H Q
def Hy (Pb Pl:Addr):Sp:=λvs H Q u3_=>El Pb Pl vs H Q
theorem Gy {f:Addr} {fd:FuncData} {Pb Pl cN:Addr} (F:Fun K "_law_right" "_law_right" W7 f fd) (Z:Blt mg) (Xj:Cal P w K mg base "both" 6 ["one","other"] (λvs H Q _=>Sh Pb Pl cN vs H Q λ_ _ _=>False)) (Yu:Cal P w K mg base "either" 7 ["one","other"] (λvs H Q _=>Ua Pb Pl cN vs H Q λ_ _ _=>False))
  (Ra:Cal P w K mg base "_law_both" 3 ["_law_one","_law_other","_law_many"] Gd) (Vb:Cal P w K mg base "_law_alike" 4 ["_law_found","_law_due"] (Ux 4)):Yt P w K mg base CX0 8 f fd ["_law_one","_law_other"] (Hy Pb Pl):=by
 refine F.ok Gf (λvs H Q E h=>?_) (λcdv A outer s H vs Q E hr h=>?_)
 ·obtain ⟨m1,m2,l,P1,P2,n1,n2,rfl,_⟩:=h
  rfl
 obtain ⟨m1,m2,l,P1,P2,n1,n2,rfl,G1,G2,hm,nd,T,k⟩:=h
 refine ⟨_,(Ze (X5 (Pj (Xo (K:=K) (Ys Vb (hr.mono (by decide)) (Za (Ys Xj (hr.mono (by decide)) (Za (pv 0) (Za (pv 1) Zc))) (Za (Ys Ra (hr.mono (by decide)) (Za (pv 0) (Za (pv 1) (Za Zh Zc)))) Zc))) (λ_=>rfl))) 
    (Zj (Zz Mm)) Yv) 
   (Zj (Zz (Ys Vb (hr.mono (by decide)) (Za (Ys Yu (hr.mono (by decide)) (Za (pv 0) (Za (pv 1) Zc))) (Za (Ys Ra (hr.mono (by decide)) (Za (pv 0) (Za (pv 1) (Za Zh Zc)))) Zc)))))),?_⟩
 refine (let zz0:TS:=_; (?_:Zt _ zz0 _ _ _))
 have hl3:0 < l.length∧l.length≤3:=by
  obtain ⟨b1,es1,st1,M1,_⟩:=id G1
  exact ⟨M1.few.1,M1.few.2.1⟩
 refine ⟨_,rfl,_,rfl,Ct G1 G2 hm nd T λx1 H1 e1 T1 L1=>?_⟩
 have k1:=e1.tk T
 have G11:=G1.keep k1
 have G21:=G2.keep k1
 obtain ⟨b1,es1,st1,M1,lg1,he1,hs1⟩:=id G11
 obtain ⟨b2,es2,st2,M2,lg2,he2,hs2⟩:=id G21
 have hmul:st1.length * st2.length≤n1 * n2:=sT hs1 hs2
 refine ⟨_,rfl,_,rfl,m1,m2,l,b1,b2,es1,es2,st1,st2,2,rfl,M1,M2,by omega,nd,λx2 H2 e2 told=>?_⟩
 obtain ⟨sD,eD,D,MD,hs⟩:=L1
 have MD2:=told _ sD eD D λcs hc=>by
  rw [← lg1 cs hc,← lg2 cs hc]
  by_cases x:Xs st1 b1 cs∈es1 <;> by_cases y:Xs st2 b2 cs∈es2 <;> simp [x,y]
 refine ⟨_,_,Hk l 0 eD sD,rfl,Hj _ _ _ _,D.den hl3.2 (by omega) (MD.keep (Tk.same e2)),D.den hl3.2 (by omega) MD2,λH3 e3=>⟨_,rfl,Ox ?_⟩⟩
 have e13:=e2.trans e3
 have T3:=T1.same e13
 refine ⟨_,rfl,_,rfl,Jc (G11.keep (Tk.same e13)) (G21.keep (Tk.same e13)) hm nd T3 λx4 H4 e4 T4 L4=>?_⟩
 have k4:=e4.tk T3
 refine ⟨_,rfl,_,rfl,m1,m2,l,b1,b2,es1,es2,st1,st2,1,rfl,(M1.same e13).keep k4,(M2.same e13).keep k4,by omega,nd,λx5 H5 e5 Znr=>?_⟩
 obtain ⟨sF,eF,D4,MF,hs4⟩:=L4
 have MF2:=Znr _ sF eF D4 λcs hc=>by
  rw [← lg1 cs hc,← lg2 cs hc]
  by_cases x:Xs st1 b1 cs∈es1 <;> by_cases y:Xs st2 b2 cs∈es2 <;> simp [x,y]
 refine ⟨_,_,Hk l 0 eF sF,rfl,Hj _ _ _ _,D4.den hl3.2 (by omega) (MF.keep (Tk.same e5)),D4.den hl3.2 (by omega) MF2,λH6 e6=>?_⟩
 exact k H6 (((e1.trans (Zr.kpp e13)).trans e4).trans (Zr.kpp (e5.trans e6))) ((T4.same e5).same e6)
inductive Zaw (K:W.Frag) (tabs:List (Addr × Addr)) (vs:List V) (H:Hp) (Q:VK):Prop
 | mk (a:Addr) (ns:List Int) (h1:vs=[.ref a]) (h2:SqL K H a (ns.map V.int)) (h3:ns.length≤63) (h4:(∀ q∈tabs,H q.2=some (.tbl #[]))) (h5:∀ H',Q (.bl true) H'):Zaw K tabs vs H Q
def Gb (K:W.Frag) (tabs:List (Addr × Addr)):Sp:=λvs H Q u3_=>Zaw K tabs vs H Q
theorem Zlq {f:Addr} {fd:FuncData} {cl cb Pl Pb cN:Addr} (nlb:Pl≠Pb) (F:Fun K "law" "law" Oj f fd) (Z:Blt mg) (Og:Cal P w K mg base "_law_flow" 1 ["_law_script"] (Bh K)) (Oe:Cal P w K mg base "_law_some" 3 ["_law_flow_here"] Be) (Of:Cal P w K mg base "_law_near" 3 ["_law_flow_here","_law_machine_here"] Bf) (Y1:Cal P w K mg base "_law_machine" 2 ["_law_flow_here","_law_letters_here","_law_most"] W6)
  (S2:Cal P w K mg base "_law_unlike" 2 ["_law_flow_here","_law_letters_here"] Lu) (Xj:Cal P w K mg base "both" 6 ["one","other"] (λvs H Q _=>Sh Pb Pl cN vs H Q λ_ _ _=>False)) (Yu:Cal P w K mg base "either" 7 ["one","other"] (λvs H Q _=>Ua Pb Pl cN vs H Q λ_ _ _=>False))
  (X6:Cal P w K mg base "_law_right" 8 ["_law_one","_law_other"] (Hy Pb Pl)) (Vv:Cal P w K mg base "_law_refused" 8 ["_law_one","_law_other"] (Nk Pb Pl)):Yt P w K mg base CX0 9 f fd ["_law_script"] (Gb K [(cl,Pl),(cb,Pb)]):=by
 refine F.ok Nn (λvs H Q E h=>?_) (λcdv A outer s H vs Q E hr h=>?_)
 ·obtain ⟨a,ns,rfl,_⟩:=h
  rfl
 obtain ⟨a,ns,rfl,hS,h63,hT0,k⟩:=h
 have hTl:H Pl=some (.tbl #[]):=hT0 (cl,Pl) zM
 have hTb:H Pb=some (.tbl #[]):=hT0 (cb,Pb) (zQ _ zM)
 refine ⟨_,(Ze (Zm (i:=1) Nn.nd (by rfl) (Or.inl (by rfl)) (Ys Og (hr.mono (by decide)) (Za (pv 0) Zc))) 
   (Ze (Zm (i:=2) Nn.nd (by rfl) (Or.inl (by rfl)) (Ys Oe (hr.mono (by decide)) (Za (pv 1) Zc))) 
   (Ze (Zm (i:=3) Nn.nd (by rfl) (Or.inl (by rfl)) (Ys Of (hr.mono (by decide)) (Za (pv 1) (Za (pv 2) Zc)))) 
   (Ze (Zm (i:=4) Nn.nd (by rfl) (Or.inl (by rfl)) (Ys Y1 (hr.mono (by decide)) (Za (pv 1) (Za (Zu (Zv (K:=K)) (pv 2) Zh (λ_ _=>rfl)) (Za Zh Zc))))) 
   (Ze (X5 (PW.pt (E9 (Pj (Xo (K:=K) (Ys X6 (hr.mono (by decide)) (Za (pv 2) (Za (pv 3) Zc))) (λ_=>rfl))) (E9 (Pj (Xo (K:=K) (Ys X6 (hr.mono (by decide)) (Za (pv 3) (Za (pv 4) Zc))) (λ_=>rfl))) (Gm (Pj (Xo (K:=K) (Ys X6 (hr.mono (by decide)) (Za (pv 2) (Za (pv 2) Zc))) (λ_=>rfl))))))) 
    (Zj (Zz Mm)) Yv) 
   (Ze (X5 (PW.pt (E9 (Pj (Xo (K:=K) (Ys X6 (hr.mono (by decide)) (Za (Ys Xj (hr.mono (by decide)) (Za (pv 2) (Za (pv 3) Zc))) (Za (pv 4) Zc))) (λ_=>rfl))) (Gm (Pj (Xo (K:=K) (Ys X6 (hr.mono (by decide)) (Za (pv 4) (Za (Ys Yu (hr.mono (by decide)) (Za (pv 3) (Za (pv 2) Zc))) Zc))) (λ_=>rfl)))))) 
    (Zj (Zz Mm)) Yv) 
   (Ze (Zm (i:=5) Nn.nd (by rfl) (Or.inl (by rfl)) (Ys Y1 (hr.mono (by decide)) (Za (pv 1) (Za (Ys S2 (hr.mono (by decide)) (Za (pv 1) (Za (Zu (Zv (K:=K)) (pv 2) Zh (λ_ _=>rfl)) Zc))) (Za Zh Zc))))) 
   (Zj (Zz (Gu (Ys Vv (hr.mono (by decide)) (Za (pv 2) (Za (pv 5) Zc))) (Gu (Ys Vv (hr.mono (by decide)) (Za (pv 5) (Za (pv 2) Zc))) (Bp (Ys X6 (hr.mono (by decide)) (Za (pv 2) (Za (pv 3) Zc))))))))))))))),?_⟩
 refine (let zz0:TS:=_; let zz1:TS:=Zt _ zz0; let zz2:TS:=Zt _ zz1; let zz3:TS:=Zt _ zz2; let zz4:TS:=Zt _ zz3; let zz5:TS:=Zt _ zz4; let zz6:TS:=Zt _ zz5; (?_:Zt _ zz6 _ _ _))
 refine ⟨_,rfl,a,ns,rfl,hS,λp sc H1 hp e1 FA=>?_⟩
 have T1:Vg Pb Pl H1:=⟨Tb.start (e1 _ _ hTb),Tb.start (e1 _ _ hTl),nlb.symm⟩
 refine ⟨_,rfl,p,sc,rfl,FA,λm1 l b1 es1 st1 H2 M1 eo nd d2 FA2=>?_⟩
 have T2:Vg Pb Pl H2:=Vg.drew T1 FA d2
 refine ⟨_,rfl,_,rfl,p,sc,m1,l,b1,es1,st1,rfl,M1,eo,FA2,λm2 b2 es2 st2 H3 M2 he2 hs2 d3 FA3=>?_⟩
 have T3:Vg Pb Pl H3:=Vg.drew T2 FA2 d3
 have M1:=M1.keep (Tk.drew FA2 d3)
 have hl:0 < l.length∧l.length≤3:=⟨M1.few.1,M1.few.2.1⟩
 obtain ⟨eA,sA,rA,g1,_⟩:=M1.lay
 refine ⟨_,rfl,_,rfl,m1,_,_,_,rfl,rfl,SqT.of g1,Zk (j:=0) rfl,p,sc,l,3,rfl,hl.1,hl.2,by decide,by decide,FA3,λm3 b3 es3 st3 H4 M3 eo3 d4 FA4=>?_⟩
 have T4:Vg Pb Pl H4:=Vg.drew T3 FA3 d4
 have k4:=Tk.drew FA3 d4
 have M1:=M1.keep k4
 have M2:=M2.keep k4
 have G1:GV H4 m1 l (λcs=>Xs st1 b1 cs∈es1) 6:=⟨b1,es1,st1,M1,λ_ _=>Iff.rfl,by have:=eo.1; omega,eo.2.2⟩
 have G2:GV H4 m2 l (λcs=>Xs st2 b2 cs∈es2) 6:=⟨b2,es2,st2,M2,λ_ _=>Iff.rfl,by omega,hs2⟩
 have G3:GV H4 m3 l (λcs=>Xs st3 b3 cs∈es3) 6:=⟨b3,es3,st3,M3,λ_ _=>Iff.rfl,by have:=eo3.1; omega,eo3.2.2⟩
 refine ⟨_,rfl,_,rfl,m1,m2,l,_,_,6,6,rfl,G1,G2,by decide,nd,T4,λH5 e5 T5=>⟨_,rfl,Ox ?_⟩⟩
 have k5:=e5.tk T4
 refine ⟨_,rfl,_,rfl,m2,m3,l,_,_,6,6,rfl,G2.keep k5,G3.keep k5,by decide,nd,T5,λH6 e6 T6=>⟨_,rfl,Ox ?_⟩⟩
 have k6:=k5.trans (e6.tk T5)
 refine ⟨_,rfl,_,rfl,m1,m1,l,_,_,6,6,rfl,G1.keep k6,G1.keep k6,by decide,nd,T6,λH7 e7 T7=>⟨_,rfl,Ox ?_⟩⟩
 have k7:=k6.trans (e7.tk T6)
 refine ⟨_,rfl,_,rfl,Ct (G1.keep k7) (G2.keep k7) (by decide) nd T7 λx H8 e8 T8 L8=>?_⟩
 have k8:=k7.trans (e8.tk T7)
 refine ⟨_,rfl,x,m3,l,_,_,36,6,rfl,L8.gv (by decide) hl,G3.keep k8,by decide,nd,T8,λH9 e9 T9=>⟨_,rfl,Ox ?_⟩⟩
 have k9:=k8.trans (e9.tk T8)
 refine ⟨_,rfl,_,rfl,_,rfl,Jc (G2.keep k9) (G1.keep k9) (by decide) nd T9 λy H10 e10 T10 L10=>?_⟩
 have k10:=k9.trans (e10.tk T9)
 refine ⟨m3,y,l,_,_,6,36,rfl,G3.keep k10,L10.gv (by decide) hl,by decide,nd,T10,λH11 e11 T11=>⟨_,rfl,Ox ?_⟩⟩
 have k11:=k10.trans (e11.tk T10)
 have Znm:=e11.K5 T10 (e10.K5 T9 (e9.K5 T8 (e8.K5 T7 (e7.K5 T6 (e6.K5 T5 (e5.K5 T4 FA4))))))
 have M1:=M1.keep k11
 obtain ⟨eB,sB,rB,q1,_⟩:=M1.lay
 refine ⟨_,rfl,_,rfl,_,rfl,m1,_,_,_,rfl,rfl,SqT.of q1,Zk (j:=0) rfl,p,sc,l,rfl,hl.1,hl.2,nd,Znm,λz H12 hne z0 z3 znd d12 Znl=>?_⟩
 refine ⟨p,sc,z,6,rfl,z0,z3,by decide,by decide,Znl,λm4 b4 es4 st4 H13 M4 eo4 d13 FA13=>?_⟩
 have T13:Vg Pb Pl H13:=Vg.drew (Vg.drew T11 Znm d12) Znl d13
 have k13:=(Tk.drew Znm d12).trans (Tk.drew Znl d13)
 have M1:=M1.keep k13
 have l1:=eo.1
 have l4:=eo4.1
 refine ⟨_,rfl,_,rfl,m1,m4,l,z,b1,b4,es1,es4,st1,st4,rfl,M1,M4,by omega,by omega,hne.symm,nd,znd,T13,λH14 e14 T14=>⟨_,rfl,Ab ?_⟩⟩
 have k14:=e14.tk T13
 refine ⟨_,rfl,_,rfl,m4,m1,z,l,b4,b1,es4,es1,st4,st1,rfl,M4.keep k14,M1.keep k14,by omega,by omega,hne,znd,nd,T14,λH15 e15 T15=>⟨_,rfl,Ab ?_⟩⟩
 have k15:=(k11.trans k13).trans (k14.trans (e15.tk T14))
 exact ⟨_,rfl,_,rfl,m1,m2,l,_,_,6,6,rfl,G1.keep k15,G2.keep k15,by decide,nd,T15,λH16 e16 T16=>k _⟩
end
theorem all_mk {l:W.OpenLaw} {w:World} {K:W.Frag} {h:Heap} {mg:Str→Option Value} {fa:Addr} (X:K.In h) (G:h.Ns mainGlobals mg) (hfa:mg "law" = some (.ref fa)) {qp:Program} (TT:Zae qp K h)
  {f1:Addr} {od1 an1:Option Addr} {sl1:Array (Option Value)} {oc1 kV1 dc1 pm1 cd1 ct1:Value}
  (a1:W.nsIn K mainGlobals "room_behind" = some (some (.ref f1))) (l1:K.lookup f1=some ⟨oc1,od1,.func (W.fnOf "room_behind" "room_behind" (Ye Wa) (Z5 Wa) (Zg Wa) .none kV1 dc1 pm1 an1 cd1 ct1),sl1⟩) (c1:W.codeIn K cd1 "room_behind" = true) (k1:W.keepIn K (.ref f1)=true)
  {f2:Addr} {od2 an2:Option Addr} {sl2:Array (Option Value)} {oc2 kV2 dc2 pm2 cd2 ct2:Value}
  (a2:W.nsIn K mainGlobals "look_fit" = some (some (.ref f2))) (l2:K.lookup f2=some ⟨oc2,od2,.func (W.fnOf "look_fit" "look_fit" (Ye Vi) (Z5 Vi) (Zg Vi) .none kV2 dc2 pm2 an2 cd2 ct2),sl2⟩) (c2:W.codeIn K cd2 "look_fit" = true) (k2:W.keepIn K (.ref f2)=true)
  {f3:Addr} {od3 an3:Option Addr} {sl3:Array (Option Value)} {oc3 kV3 dc3 pm3 cd3 ct3:Value}
  (a3:W.nsIn K mainGlobals "pair_behind" = some (some (.ref f3))) (l3:K.lookup f3=some ⟨oc3,od3,.func (W.fnOf "pair_behind" "pair_behind" (Ye Wb) (Z5 Wb) (Zg Wb) .none kV3 dc3 pm3 an3 cd3 ct3),sl3⟩) (c3:W.codeIn K cd3 "pair_behind" = true) (k3:W.keepIn K (.ref f3)=true)
  {f4:Addr} {od4 an4:Option Addr} {sl4:Array (Option Value)} {oc4 kV4 dc4 pm4 cd4 ct4:Value}
  (a4:W.nsIn K mainGlobals "walked" = some (some (.ref f4))) (l4:K.lookup f4=some ⟨oc4,od4,.func (W.fnOf "walked" "walked" (Ye Ud) (Z5 Ud) (Zg Ud) .none kV4 dc4 pm4 an4 cd4 ct4),sl4⟩) (c4:W.codeIn K cd4 "walked" = true) (k4:W.keepIn K (.ref f4)=true)
  {f5:Addr} {od5 an5:Option Addr} {sl5:Array (Option Value)} {oc5 kV5 dc5 pm5 cd5 ct5:Value}
  (a5:W.nsIn K mainGlobals "machine_from" = some (some (.ref f5))) (l5:K.lookup f5=some ⟨oc5,od5,.func (W.fnOf "machine_from" "machine_from" (Ye Ym) (Z5 Ym) (Zg Ym) .none kV5 dc5 pm5 an5 cd5 ct5),sl5⟩) (c5:W.codeIn K cd5 "machine_from" = true) (k5:W.keepIn K (.ref f5)=true)
  {f6:Addr} {od6 an6:Option Addr} {sl6:Array (Option Value)} {oc6 kV6 dc6 pm6 cd6 ct6:Value}
  (a6:W.nsIn K mainGlobals "first_like" = some (some (.ref f6))) (l6:K.lookup f6=some ⟨oc6,od6,.func (W.fnOf "first_like" "first_like" (Ye Xv) (Z5 Xv) (Zg Xv) .none kV6 dc6 pm6 an6 cd6 ct6),sl6⟩) (c6:W.codeIn K cd6 "first_like" = true) (k6:W.keepIn K (.ref f6)=true)
  {f7:Addr} {od7 an7:Option Addr} {sl7:Array (Option Value)} {oc7 kV7 dc7 pm7 cd7 ct7:Value}
  (a7:W.nsIn K mainGlobals "like_rooms" = some (some (.ref f7))) (l7:K.lookup f7=some ⟨oc7,od7,.func (W.fnOf "like_rooms" "like_rooms" (Ye Xu) (Z5 Xu) (Zg Xu) .none kV7 dc7 pm7 an7 cd7 ct7),sl7⟩) (c7:W.codeIn K cd7 "like_rooms" = true) (k7:W.keepIn K (.ref f7)=true)
  {f8:Addr} {od8 an8:Option Addr} {sl8:Array (Option Value)} {oc8 kV8 dc8 pm8 cd8 ct8:Value}
  (a8:W.nsIn K mainGlobals "least" = some (some (.ref f8))) (l8:K.lookup f8=some ⟨oc8,od8,.func (W.fnOf "least" "least" (Ye Vn) (Z5 Vn) (Zg Vn) .none kV8 dc8 pm8 an8 cd8 ct8),sl8⟩) (c8:W.codeIn K cd8 "least" = true) (k8:W.keepIn K (.ref f8)=true)
  {f9:Addr} {od9 an9:Option Addr} {sl9:Array (Option Value)} {oc9 kV9 dc9 pm9 cd9 ct9:Value}
  (a9:W.nsIn K mainGlobals "contrary" = some (some (.ref f9))) (l9:K.lookup f9=some ⟨oc9,od9,.func (W.fnOf "contrary" "contrary" (Ye W5) (Z5 W5) (Zg W5) .none kV9 dc9 pm9 an9 cd9 ct9),sl9⟩) (c9:W.codeIn K cd9 "contrary" = true) (k9:W.keepIn K (.ref f9)=true)
  {f10:Addr} {od10 an10:Option Addr} {sl10:Array (Option Value)} {oc10 kV10 dc10 pm10 Znb ct10:Value}
  (a10:W.nsIn K mainGlobals "both" = some (some (.ref f10))) (l10:K.lookup f10=some ⟨oc10,od10,.func (W.fnOf "both" "both" (Ye U7) (Z5 U7) (Zg U7) .none kV10 dc10 pm10 an10 Znb ct10),sl10⟩) (c10:W.codeIn K Znb "both" = true) (k10:W.keepIn K (.ref f10)=true)
  {f11:Addr} {od11 an11:Option Addr} {sl11:Array (Option Value)} {oc11 kV11 dc11 pm11 Zp8 ct11:Value}
  (a11:W.nsIn K mainGlobals "either" = some (some (.ref f11))) (l11:K.lookup f11=some ⟨oc11,od11,.func (W.fnOf "either" "either" (Ye Tn) (Z5 Tn) (Zg Tn) .none kV11 dc11 pm11 an11 Zp8 ct11),sl11⟩) (c11:W.codeIn K Zp8 "either" = true) (k11:W.keepIn K (.ref f11)=true)
  {f12:Addr} {od12 an12:Option Addr} {sl12:Array (Option Value)} {oc12 kV12 dc12 pm12 Zp7 ct12:Value}
  (a12:W.nsIn K mainGlobals "_law_flow" = some (some (.ref f12))) (l12:K.lookup f12=some ⟨oc12,od12,.func (W.fnOf "_law_flow" "_law_flow" (Ye Vl) (Z5 Vl) (Zg Vl) .none kV12 dc12 pm12 an12 Zp7 ct12),sl12⟩) (c12:W.codeIn K Zp7 "_law_flow" = true) (k12:W.keepIn K (.ref f12)=true)
  {f13:Addr} {od13 an13:Option Addr} {sl13:Array (Option Value)} {oc13 kV13 dc13 pm13 Zp6 ct13:Value}
  (a13:W.nsIn K mainGlobals "_law_pick" = some (some (.ref f13))) (l13:K.lookup f13=some ⟨oc13,od13,.func (W.fnOf "_law_pick" "_law_pick" (Ye Vk) (Z5 Vk) (Zg Vk) .none kV13 dc13 pm13 an13 Zp6 ct13),sl13⟩) (c13:W.codeIn K Zp6 "_law_pick" = true) (k13:W.keepIn K (.ref f13)=true)
  {f14:Addr} {od14 an14:Option Addr} {sl14:Array (Option Value)} {oc14 kV14 dc14 pm14 Zp5 ct14:Value}
  (a14:W.nsIn K mainGlobals "_law_alike" = some (some (.ref f14))) (l14:K.lookup f14=some ⟨oc14,od14,.func (W.fnOf "_law_alike" "_law_alike" (Ye X4) (Z5 X4) (Zg X4) .none kV14 dc14 pm14 an14 Zp5 ct14),sl14⟩) (c14:W.codeIn K Zp5 "_law_alike" = true) (k14:W.keepIn K (.ref f14)=true)
  {f15:Addr} {od15 an15:Option Addr} {sl15:Array (Option Value)} {oc15 kV15 dc15 pm15 Zp4 ct15:Value}
  (a15:W.nsIn K mainGlobals "_law_letters" = some (some (.ref f15))) (l15:K.lookup f15=some ⟨oc15,od15,.func (W.fnOf "_law_letters" "_law_letters" (Ye Xy) (Z5 Xy) (Zg Xy) .none kV15 dc15 pm15 an15 Zp4 ct15),sl15⟩) (c15:W.codeIn K Zp4 "_law_letters" = true) (k15:W.keepIn K (.ref f15)=true)
  {f16:Addr} {od16 an16:Option Addr} {sl16:Array (Option Value)} {oc16 kV16 dc16 pm16 Zp3 ct16:Value}
  (a16:W.nsIn K mainGlobals "_law_machine" = some (some (.ref f16))) (l16:K.lookup f16=some ⟨oc16,od16,.func (W.fnOf "_law_machine" "_law_machine" (Ye Xl) (Z5 Xl) (Zg Xl) .none kV16 dc16 pm16 an16 Zp3 ct16),sl16⟩) (c16:W.codeIn K Zp3 "_law_machine" = true) (k16:W.keepIn K (.ref f16)=true)
  {f17:Addr} {od17 an17:Option Addr} {sl17:Array (Option Value)} {oc17 kV17 dc17 pm17 Zp2 ct17:Value}
  (a17:W.nsIn K mainGlobals "_law_rising_machine" = some (some (.ref f17))) (l17:K.lookup f17=some ⟨oc17,od17,.func (W.fnOf "_law_rising_machine" "_law_rising_machine" (Ye Yn) (Z5 Yn) (Zg Yn) .none kV17 dc17 pm17 an17 Zp2 ct17),sl17⟩) (c17:W.codeIn K Zp2 "_law_rising_machine" = true) (k17:W.keepIn K (.ref f17)=true)
  {f18:Addr} {od18 an18:Option Addr} {sl18:Array (Option Value)} {oc18 kV18 dc18 pm18 Zp1 ct18:Value}
  (a18:W.nsIn K mainGlobals "_law_least" = some (some (.ref f18))) (l18:K.lookup f18=some ⟨oc18,od18,.func (W.fnOf "_law_least" "_law_least" (Ye Xc) (Z5 Xc) (Zg Xc) .none kV18 dc18 pm18 an18 Zp1 ct18),sl18⟩) (c18:W.codeIn K Zp1 "_law_least" = true) (k18:W.keepIn K (.ref f18)=true)
  {f19:Addr} {od19 an19:Option Addr} {sl19:Array (Option Value)} {oc19 kV19 dc19 pm19 Zp0 ct19:Value}
  (a19:W.nsIn K mainGlobals "_law_caught" = some (some (.ref f19))) (l19:K.lookup f19=some ⟨oc19,od19,.func (W.fnOf "_law_caught" "_law_caught" (Ye Wr) (Z5 Wr) (Zg Wr) .none kV19 dc19 pm19 an19 Zp0 ct19),sl19⟩) (c19:W.codeIn K Zp0 "_law_caught" = true) (k19:W.keepIn K (.ref f19)=true)
  {f20:Addr} {od20 an20:Option Addr} {sl20:Array (Option Value)} {oc20 kV20 dc20 pm20 Zpz ct20:Value}
  (a20:W.nsIn K mainGlobals "_law_same_otherwise" = some (some (.ref f20))) (l20:K.lookup f20=some ⟨oc20,od20,.func (W.fnOf "_law_same_otherwise" "_law_same_otherwise" (Ye Zx) (Z5 Zx) (Zg Zx) .none kV20 dc20 pm20 an20 Zpz ct20),sl20⟩) (c20:W.codeIn K Zpz "_law_same_otherwise" = true) (k20:W.keepIn K (.ref f20)=true)
  {f21:Addr} {od21 an21:Option Addr} {sl21:Array (Option Value)} {oc21 kV21 dc21 pm21 Zpy ct21:Value}
  (a21:W.nsIn K mainGlobals "_law_near" = some (some (.ref f21))) (l21:K.lookup f21=some ⟨oc21,od21,.func (W.fnOf "_law_near" "_law_near" (Ye W3) (Z5 W3) (Zg W3) .none kV21 dc21 pm21 an21 Zpy ct21),sl21⟩) (c21:W.codeIn K Zpy "_law_near" = true) (k21:W.keepIn K (.ref f21)=true)
  {f22:Addr} {od22 an22:Option Addr} {sl22:Array (Option Value)} {oc22 kV22 dc22 pm22 Zpx ct22:Value}
  (a22:W.nsIn K mainGlobals "_law_some" = some (some (.ref f22))) (l22:K.lookup f22=some ⟨oc22,od22,.func (W.fnOf "_law_some" "_law_some" (Ye Vj) (Z5 Vj) (Zg Vj) .none kV22 dc22 pm22 an22 Zpx ct22),sl22⟩) (c22:W.codeIn K Zpx "_law_some" = true) (k22:W.keepIn K (.ref f22)=true)
  {f23:Addr} {od23 an23:Option Addr} {sl23:Array (Option Value)} {oc23 kV23 dc23 pm23 Zpw ct23:Value}
  (a23:W.nsIn K mainGlobals "_law_both" = some (some (.ref f23))) (l23:K.lookup f23=some ⟨oc23,od23,.func (W.fnOf "_law_both" "_law_both" (Ye W4) (Z5 W4) (Zg W4) .none kV23 dc23 pm23 an23 Zpw ct23),sl23⟩) (c23:W.codeIn K Zpw "_law_both" = true) (k23:W.keepIn K (.ref f23)=true)
  {f24:Addr} {od24 an24:Option Addr} {sl24:Array (Option Value)} {oc24 kV24 dc24 pm24 Zpv ct24:Value}
  (a24:W.nsIn K mainGlobals "_law_unlike" = some (some (.ref f24))) (l24:K.lookup f24=some ⟨oc24,od24,.func (W.fnOf "_law_unlike" "_law_unlike" (Ye X7) (Z5 X7) (Zg X7) .none kV24 dc24 pm24 an24 Zpv ct24),sl24⟩) (c24:W.codeIn K Zpv "_law_unlike" = true) (k24:W.keepIn K (.ref f24)=true)
  {f25:Addr} {od25 an25:Option Addr} {sl25:Array (Option Value)} {oc25 kV25 dc25 pm25 Zpu ct25:Value}
  (a25:W.nsIn K mainGlobals "_law_refused" = some (some (.ref f25))) (l25:K.lookup f25=some ⟨oc25,od25,.func (W.fnOf "_law_refused" "_law_refused" (Ye Wc) (Z5 Wc) (Zg Wc) .none kV25 dc25 pm25 an25 Zpu ct25),sl25⟩) (c25:W.codeIn K Zpu "_law_refused" = true) (k25:W.keepIn K (.ref f25)=true)
  {f26:Addr} {od26 an26:Option Addr} {sl26:Array (Option Value)} {oc26 kV26 dc26 pm26 Zpt ct26:Value}
  (a26:W.nsIn K mainGlobals "_law_right" = some (some (.ref f26))) (l26:K.lookup f26=some ⟨oc26,od26,.func (W.fnOf "_law_right" "_law_right" (Ye W7) (Z5 W7) (Zg W7) .none kV26 dc26 pm26 an26 Zpt ct26),sl26⟩) (c26:W.codeIn K Zpt "_law_right" = true) (k26:W.keepIn K (.ref f26)=true)
  {f27:Addr} {od27 Zqa:Option Addr} {sl27:Array (Option Value)} {oc27 Zot Zpq Zoj Zna Zps:Value}
  (a27:W.nsIn K mainGlobals "law" = some (some (.ref f27))) (l27:K.lookup f27=some ⟨oc27,od27,.func (W.fnOf "law" "law" (Ye Oj) (Z5 Oj) (Zg Oj) .none Zot Zpq Zoj Zqa Zna Zps),sl27⟩) (c27:W.codeIn K Zna "law" = true) (k27:W.keepIn K (.ref f27)=true)
  (z_ValueError:W.nsIn K mainGlobals "ValueError" = some none)
  (z_all:W.nsIn K mainGlobals "all" = some none)
  (z_bool:W.nsIn K mainGlobals "bool" = some none)
  (z_enumerate:W.nsIn K mainGlobals "enumerate" = some none)
  (z_int:W.nsIn K mainGlobals "int" = some none)
  (z_isinstance:W.nsIn K mainGlobals "isinstance" = some none)
  (z_len:W.nsIn K mainGlobals "len" = some none)
  (z_list:W.nsIn K mainGlobals "list" = some none)
  (z_range:W.nsIn K mainGlobals "range" = some none)
  (z_set:W.nsIn K mainGlobals "set" = some none)
  (z_sorted:W.nsIn K mainGlobals "sorted" = some none)
  (z_tuple:W.nsIn K mainGlobals "tuple" = some none)
  (z_zip:W.nsIn K mainGlobals "zip" = some none)
  {Z6:Addr} (a_SpreadError:W.nsIn K mainGlobals "SpreadError" = some (some (.ref Z6)))
  {Y6:Addr} (a_NoText:W.nsIn K mainGlobals "NoText" = some (some (.ref Y6))) (f_NoText:Ao K Y6=true) (k_NoText:W.keepIn K (.ref Y6)=true)
  {Z8:Addr} (a_NoMachine:W.nsIn K mainGlobals "NoMachine" = some (some (.ref Z8))) (f_NoMachine:Ao K Z8=true) (k_NoMachine:W.keepIn K (.ref Z8)=true)
  {Yp:Addr} (a_NoFit:W.nsIn K mainGlobals "NoFit" = some (some (.ref Yp))) (f_NoFit:Ao K Yp=true) (k_NoFit:W.keepIn K (.ref Yp)=true)
  {Xa:Addr} (a_NoName:W.nsIn K mainGlobals "NoName" = some (some (.ref Xa))) (f_NoName:Ao K Xa=true) (k_NoName:W.keepIn K (.ref Xa)=true)
  {Xi:Addr} (a_NoRow:W.nsIn K mainGlobals "NoRow" = some (some (.ref Xi))) (f_NoRow:Ao K Xi=true) (k_NoRow:W.keepIn K (.ref Xi)=true)
  (e_NoFit:Cf K Yp none=true)
  (e_NoRow:Cf K Xi none=true)
  (kit:Zij K Z6 Y6 Z8 Yp Xa Xi=true)
  (f_exm:Ziu K Z6 Y6 Z8 Yp Xa Xi=true)
  (n0:W.noTabs K=true)
  {Fw Vt:Addr} {Zi0:DefRec} {Zfb:Value} {Zfa:Option Addr} {Zec:Array (Option Value)} {Eb:Array Value} (y_least:cd8=.ref Fw) (v_least:K.lookup Fw=some ⟨Zfb,Zfa,.fields Eb,Zec⟩) (u_least:Eb[11]? = some (.ref Vt)) (w_least:(recsOf qp).find? (λe=>e.name==Str.ofString "least")=some Zi0)
  {A2 Py:Addr} {Zm8:DefRec} {Zh1:Value} {Zh0:Option Addr} {Zhm:Array (Option Value)} {Zam:Array Value} (y_both:Znb=.ref A2) (v_both:K.lookup A2=some ⟨Zh1,Zh0,.fields Zam,Zhm⟩) (u_both:Zam[11]? = some (.ref Py)) (w_both:(recsOf qp).find? (λe=>e.name==Str.ofString "both")=some Zm8)
  (x_least_both:Vt≠Py)
  : W.noTabs K=true∧∃ (fd:FuncData) (tabs:List (Addr × Addr)),W.TabsAt tabs h∧(∀ (s:Shared) (v:Value),BindsTo s fd ⟨[v],[]⟩ [("_law_script",v)])∧∀ base:Heap,K.In base→base.Ns mainGlobals mg→Oh mg base→Yt l.prog w K mg base CX0 9 fa fd ["_law_script"] (Gb K tabs):=by
 have e:=hfa.symm.trans (yZ X G a27)
 cases e
 have Td:=Y3 (st:=Wa) l1 c1 k1
 have J7:=Td.binds (ps:=["machine","room","text"]) λ_ _ _ _ _ _ us hl=>match us,hl with | [_,_,_],_=>rfl
 have Jx:=yZ X G a1
 have Pz:=Y3 (st:=Vi) l2 c2 k2
 have A3:=Pz.binds (ps:=["one","other"]) λ_ _ _ _ _ _ us hl=>match us,hl with | [_,_],_=>rfl
 have Bx:=yZ X G a2
 have Te:=Y3 (st:=Wb) l3 c3 k3
 have J8:=Te.binds (ps:=["one","other","pair","letter"]) λ_ _ _ _ _ _ us hl=>match us,hl with | [_,_,_,_],_=>rfl
 have Jy:=yZ X G a3
 have Qe:=Y3 (st:=Ud) l4 c4 k4
 have Cu:=Qe.binds (ps:=["letters","begin","step"]) λ_ _ _ _ _ _ us hl=>match us,hl with | [_,_,_],_=>rfl
 have Dv:=yZ X G a4
 have Wl:=Y3 (st:=Ym) l5 c5 k5
 have Qa:=Wl.binds (ps:=["letters","begin","step","is_end"]) λ_ _ _ _ _ _ us hl=>match us,hl with | [_,_,_,_],_=>rfl
 have Rv:=yZ X G a5
 have S0:=Y3 (st:=Xv) l6 c6 k6
 have F3:=S0.binds (ps:=["rows"]) λ_ _ _ _ _ _ us hl=>match us,hl with | [_],_=>rfl
 have G7:=yZ X G a6
 have Sw:=Y3 (st:=Xu) l7 c7 k7
 have Fz:=Sw.binds (ps:=["machine"]) λ_ _ _ _ _ _ us hl=>match us,hl with | [_],_=>rfl
 have G4:=yZ X G a7
 have F7:=Y3 (st:=Vn) l8 c8 k8
 have Zi5:=F7.binds (ps:=["machine"]) λ_ _ _ _ _ _ us hl=>match us,hl with | [_],_=>rfl
 have Zbh:=yZ X G a8
 have Oc:=Y3 (st:=W5) l9 c9 k9
 have A9:=Oc.binds (ps:=["machine"]) λ_ _ _ _ _ _ us hl=>match us,hl with | [_],_=>rfl
 have B3:=yZ X G a9
 have Zaf:=Y3 (st:=U7) l10 c10 k10
 have Znf:=Zaf.binds (ps:=["one","other"]) λ_ _ _ _ _ _ us hl=>match us,hl with | [_,_],_=>rfl
 have Zfi:=yZ X G a10
 have Jl:=Y3 (st:=Tn) l11 c11 k11
 have Zgw:=Jl.binds (ps:=["one","other"]) λ_ _ _ _ _ _ us hl=>match us,hl with | [_,_],_=>rfl
 have Zfh:=yZ X G a11
 have Oa:=Y3 (st:=Vl) l12 c12 k12
 have A7:=Oa.binds (ps:=["_law_script"]) λ_ _ _ _ _ _ us hl=>match us,hl with | [_],_=>rfl
 have B1:=yZ X G a12
 have P4:=Y3 (st:=Vk) l13 c13 k13
 have A5:=P4.binds (ps:=["_law_flow_here","_law_many"]) λ_ _ _ _ _ _ us hl=>match us,hl with | [_,_],_=>rfl
 have Bz:=yZ X G a13
 have Qi:=Y3 (st:=X4) l14 c14 k14
 have Ms:=Qi.binds (ps:=["_law_found","_law_due"]) λ_ _ _ _ _ _ us hl=>match us,hl with | [_,_],_=>rfl
 have Mn:=yZ X G a14
 have Th:=Y3 (st:=Xy) l15 c15 k15
 have Ib:=Th.binds (ps:=["_law_flow_here","_law_many"]) λ_ _ _ _ _ _ us hl=>match us,hl with | [_,_],_=>rfl
 have J2:=yZ X G a15
 have Tg:=Y3 (st:=Xl) l16 c16 k16
 have Ia:=Tg.binds (ps:=["_law_flow_here","_law_letters_here","_law_most"]) λ_ _ _ _ _ _ us hl=>match us,hl with | [_,_,_],_=>rfl
 have J1:=yZ X G a16
 have Wn:=Y3 (st:=Yn) l17 c17 k17
 have Qc:=Wn.binds (ps:=["_law_flow_here","_law_letters_here","_law_most"]) λ_ _ _ _ _ _ us hl=>match us,hl with | [_,_,_],_=>rfl
 have Rx:=yZ X G a17
 have Qh:=Y3 (st:=Xc) l18 c18 k18
 have Cw:=Qh.binds (ps:=["_law_machine_here"]) λ_ _ _ _ _ _ us hl=>match us,hl with | [_],_=>rfl
 have Dx:=yZ X G a18
 have Sz:=Y3 (st:=Wr) l19 c19 k19
 have F1:=Sz.binds (ps:=["_law_e"]) λ_ _ _ _ _ _ us hl=>match us,hl with | [_],_=>rfl
 have G6:=yZ X G a19
 have Wm:=Y3 (st:=Zx) l20 c20 k20
 have Qb:=Wm.binds (ps:=["_law_flow_here","_law_machine_here","_law_most"]) λ_ _ _ _ _ _ us hl=>match us,hl with | [_,_,_],_=>rfl
 have Rw:=yZ X G a20
 have P6:=Y3 (st:=W3) l21 c21 k21
 have A6:=P6.binds (ps:=["_law_flow_here","_law_machine_here"]) λ_ _ _ _ _ _ us hl=>match us,hl with | [_,_],_=>rfl
 have B0:=yZ X G a21
 have P0:=Y3 (st:=Vj) l22 c22 k22
 have A4:=P0.binds (ps:=["_law_flow_here"]) λ_ _ _ _ _ _ us hl=>match us,hl with | [_],_=>rfl
 have By:=yZ X G a22
 have Ob:=Y3 (st:=W4) l23 c23 k23
 have A8:=Ob.binds (ps:=["_law_one","_law_other","_law_many"]) λ_ _ _ _ _ _ us hl=>match us,hl with | [_,_,_],_=>rfl
 have B2:=yZ X G a23
 have Sy:=Y3 (st:=X7) l24 c24 k24
 have F0:=Sy.binds (ps:=["_law_flow_here","_law_letters_here"]) λ_ _ _ _ _ _ us hl=>match us,hl with | [_,_],_=>rfl
 have G5:=yZ X G a24
 have Tf:=Y3 (st:=Wc) l25 c25 k25
 have J9:=Tf.binds (ps:=["_law_one","_law_other"]) λ_ _ _ _ _ _ us hl=>match us,hl with | [_,_],_=>rfl
 have Jz:=yZ X G a25
 have Qg:=Y3 (st:=W7) l26 c26 k26
 have Cv:=Qg.binds (ps:=["_law_one","_law_other"]) λ_ _ _ _ _ _ us hl=>match us,hl with | [_,_],_=>rfl
 have Dw:=yZ X G a26
 have Zkh:=Y3 (st:=Oj) l27 c27 k27
 have b_law:=Zkh.binds (ps:=["_law_script"]) λ_ _ _ _ _ _ us hl=>match us,hl with | [_],_=>rfl
 have m_law:=yZ X G a27
 have Z:Blt mg:=⟨wI X G z_ValueError,wI X G z_all,wI X G z_bool,wI X G z_enumerate,wI X G z_int,wI X G z_isinstance,wI X G z_len,wI X G z_list,wI X G z_range,wI X G z_set,wI X G z_sorted,wI X G z_tuple,wI X G z_zip⟩
 have Zan:=Eg a8 l8 y_least v_least u_least
 have Cz:=TT _ _ _ _ w_least Zan
 have Zdw:=Eg a10 l10 y_both v_both u_both
 have Zcb:=TT _ _ _ _ w_both Zdw
 refine ⟨n0,W.fnOf "law" "law" (Ye Oj) (Z5 Oj) (Zg Oj) .none Zot Zpq Zoj Zqa Zna Zps,[(Fw,Vt),(A2,Py)],?_,λs v=>.of_eq rfl,λbase BX BG BM=>?_⟩
 ·exact List.forall_mem_cons.mpr ⟨Cz,List.forall_mem_cons.mpr ⟨Zcb,λ_ h=>nomatch h⟩⟩
 have Zg7:=Zbv Cz.1 X BX v_least
 have Zis:=W.law_code X G Zan Zbh (X _ _ l8) rfl
 have Zjd:=Zbv Zcb.1 X BX v_both
 have Zmu:=W.law_code X G Zdw Zfi (X _ _ l10) rfl
 have kl:Kls K mg Z6 Y6 Z8 Yp Xa Xi:=⟨yZ X G a_SpreadError,yZ X G a_NoText,yZ X G a_NoMachine,yZ X G a_NoFit,yZ X G a_NoName,yZ X G a_NoRow,O5 f_NoText,O5 f_NoMachine,O5 f_NoFit,O5 f_NoName,O5 f_NoRow,k_NoFit,k_NoRow,e_NoFit,e_NoRow,kit,f_exm⟩
 have Zq:Cal l.prog w K mg base "_law_pick" 1 _ Sg:=⟨_,_,Di P4 Z,Bz,P4.kp,A5⟩
 have Og:Cal l.prog w K mg base "_law_flow" 1 _ (Bh K):=⟨_,_,Dk Oa Z,B1,Oa.kp,A7⟩
 have Vb:Cal l.prog w K mg base "_law_alike" 4 _ (Ux 4):=⟨_,_,Ot Qi Ms Mn Z 4,Mn,Qi.kp,Ms⟩
 have Ti:Cal l.prog w K mg base "_law_letters" 2 _ Nl:=⟨_,_,Ko Th Z Zq,J2,Th.kp,Ib⟩
 have Y1:Cal l.prog w K mg base "_law_machine" 2 _ W6:=⟨_,_,Kn Tg Z Zq,J1,Tg.kp,Ia⟩
 have Wq:Cal l.prog w K mg base "_law_rising_machine" 2 _ W6:=⟨_,_,Rc Wn Z Zq,Rx,Wn.kp,Qc⟩
 have Oe:Cal l.prog w K mg base "_law_some" 3 _ Be:=⟨_,_,Dh P0 Z Zq Ti Y1 Wq,By,P0.kp,A4⟩
 have Va:Cal l.prog w K mg base "_law_least" 1 _ Oi:=⟨_,_,Gz Qh Z,Dx,Qh.kp,Cw⟩
 have Wo:Cal l.prog w K mg base "_law_same_otherwise" 2 _ Ga:=⟨_,_,Rb Wm Z Zq,Rw,Wm.kp,Qb⟩
 have Of:Cal l.prog w K mg base "_law_near" 3 _ Bf:=⟨_,_,Dj P6 Z Zq Y1 Va Wo,B0,P6.kp,A6⟩
 have CR:∀ base,Cal l.prog w K mg base "room_behind" 1 _ Hx:=λbase=>⟨_,_,Kk Td Z,Jx,Td.kp,J7⟩
 have CB:∀ base,Cal l.prog w K mg base "pair_behind" 2 _ Hz:=λbase=>⟨_,_,Kl Te Z (CR base),Jy,Te.kp,J8⟩
 have V9:Cal l.prog w K mg base "first_like" 1 _ Zk4:=⟨_,_,Jt S0 Z,G7,S0.kp,F3⟩
 have S1:Cal l.prog w K mg base "like_rooms" 2 _ Bg:=⟨_,_,Jq Sw Z V9,G4,Sw.kp,Fz⟩
 have CM:∀ base,Cal l.prog w K mg base "machine_from" 4 _ (Zk3 l.prog w K mg base 2):=λbase=>
  have Qj:Cal l.prog w K mg base "walked" 3 _ (Zk2 l.prog w K mg base 2):=⟨_,_,Zcr Qe Z,Dv,Qe.kp,Cu⟩
  ⟨_,_,Mu Wl Z Qj,Rv,Wl.kp,Qa⟩
 have CW:∀ base,Cal l.prog w K mg base "walked" 4 _ (Zd4 l.prog w K mg base 3):=λbase=>⟨_,_,Bq Qe Z,Dv,Qe.kp,Cu⟩
 have CMT:∀ base,Cal l.prog w K mg base "machine_from" 5 _ (Zd7 l.prog w K mg base 3):=λbase=>⟨_,_,Nu Wl Z (CW base),Rv,Wl.kp,Qa⟩
 have Qk:Cal l.prog w K mg base "least" 5 _ (M8 Vt):=⟨_,_,Ze9 F7 Z Zis Zg7 BM S1 CM CR,Zbh,F7.kp,Zi5⟩
 have Nd:Cal l.prog w K mg base "least" 5 _ (Ly Vt):=⟨_,_,Qk.ok.imp B9,Qk.at_,Qk.kp,Qk.b⟩
 have Od:Ic l.prog w K mg base "look_fit" 1 _ (Bi Yp):=⟨_,_,Dg Pz Z kl,Bx,Pz.kp,A3⟩
 have Xj:Ic l.prog w K mg base "both" 6 _ (Sh Py Vt Yp):=⟨_,_,Zhz Zaf Z Zmu Zjd BM Od CMT CB Nd,Zfi,Zaf.kp,Znf⟩
 have Uv:Cal l.prog w K mg base "contrary" 6 _ (L5 Vt):=⟨_,_,(Dm Oc Z Qk).imp Ar,B3,Oc.kp,A9⟩
 have Yu:Ic l.prog w K mg base "either" 7 _ (Ua Py Vt Yp):=⟨_,_,Zcs Jl Z Uv Xj,Zfh,Jl.kp,Zgw⟩
 have S3:Cal l.prog w K mg base "_law_caught" 1 _ (L6 K Z6 Y6 Z8 Yp Xa Xi):=⟨_,_,Js Sz Z kl,G6,Sz.kp,F1⟩
 have S2:Cal l.prog w K mg base "_law_unlike" 2 _ Lu:=⟨_,_,Jr Sy Z Zq,G5,Sy.kp,F0⟩
 have Ra:Cal l.prog w K mg base "_law_both" 3 _ Gd:=⟨_,_,Dl Ob Z Va,B2,Ob.kp,A8⟩
 have Vv:Cal l.prog w K mg base "_law_refused" 8 _ (Nk Py Vt):=⟨_,_,Km Tf Z kl Xj Yu S3,Jz,Tf.kp,J9⟩
 have X6:Cal l.prog w K mg base "_law_right" 8 _ (Hy Py Vt):=⟨_,_,Gy Qg Z Xj.calm Yu.calm Ra Vb,Dw,Qg.kp,Cv⟩
 exact Zlq x_least_both Zkh Z Og Oe Of Y1 S2 Xj.calm Yu.calm X6 Vv
theorem walk {l:W.OpenLaw} {q:Program} {loose:List Str} {XP:(Str→Option Value)→Heap→Prop} {YP:World→Heap→Prop} {d:DefRec} {K:Params→W.Frag} (hn:l.most=some 63) (hdf:d.params.defaults=[])
  (hY:∀ (w:World) (h:Heap),YP w h→(K w.params).In h)
  (F:∀ (w:World) (mg:Str→Option Value) (fa:Addr) (h:Heap),(K w.params).In h→h.Ns mainGlobals mg→mg d.name=some (.ref fa)→Zae q (K w.params) h→
   W.noTabs (K w.params)=true∧∃ (fd:FuncData) (tabs:List (Addr × Addr)),W.TabsAt tabs h∧(∀ (s:Shared) (u:Value),BindsTo s fd ⟨[u],[]⟩ [("_law_script",u)])∧∀ base:Heap,(K w.params).In base→base.Ns mainGlobals mg→Oh mg base→Yt l.prog w (K w.params) mg base CX0 9 fa fd ["_law_script"] (Gb (K w.params) tabs)) :
  W.WalkO q loose XP YP l.row.toRowW d [] (λf vs=>PySem.call f vs):=
 L2.Zdp (n:=63) (k:=9) (x:="_law_script") (CX:=λ_=>CX0) (sp:=λw tabs=>Gb (K w.params) tabs) hn (by decide) hdf ⟨rfl,by decide,by decide⟩ hY F (λ_ _ _ a ns hl hT hS=>⟨a,ns,rfl,hS,hl,hT,λ_=>rfl⟩) λ_ _ _ _ _ z=>z
end My
open PySem PySem.W PyProof.Rows
def PySem.W.Fast.tw7933830916776036871:Nat:=0
def PySem.W.Fast.tw2720970213313893574:Nat:=0
def PySem.W.Fast.tw3512769154665422264:Nat:=0
def PySem.W.Fast.tw4339355571320685947:Nat:=0
def PySem.W.Fast.tw4836223989476029400:Nat:=0
def PySem.W.Fast.tw17660779146099103416:Nat:=0
def PySem.W.Fast.tw4947945737472498552:Nat:=0
def PySem.W.Fast.tw16387918880581209294:Nat:=0
def PySem.W.Fast.tw6815708626625089637:Nat:=0
def PySem.W.Fast.tw2998553547960267692:Nat:=0
def PySem.W.Fast.tw14287908029469578497:Nat:=0
def PySem.W.Fast.tw10208918102555836926:Nat:=0
def PySem.W.Fast.tw7373416246588358777:Nat:=0
def PySem.W.Fast.tw12903265307810766885:Nat:=0
def PySem.W.Fast.tw9131445068503541034:Nat:=0
def PySem.W.Fast.tw15975604136379148560:Nat:=0
def PySem.W.Fast.tw16997631441114858805:Nat:=0
def PySem.W.Fast.tw14097211170158280713:Nat:=0
def PySem.W.Fast.tw15538445626758561432:Nat:=0
def PySem.W.Fast.tw1061751223509368731:Nat:=0
def PySem.W.Fast.tw15502725466277498753:Nat:=0
def PySem.W.Fast.tw5806646870219744090:Nat:=0
def PySem.W.Fast.tw1033129404008019894:Nat:=0
def PySem.W.Fast.tw8100740329822915238:Nat:=0
def PySem.W.Fast.tw14707657661324607680:Nat:=0
def PySem.W.Fast.tw16914510869700455863:Nat:=0
def PySem.W.Fast.tw145013027199230600:Nat:=0
def PySem.W.Fast.tw7882997331806074523:Nat:=0
def PySem.W.Fast.tw14730852747436752456:Nat:=0
def PySem.W.Fast.tw7420866392641705956:Nat:=0
def PySem.W.Fast.tw14315958111959455419:Nat:=0
def PySem.W.Fast.tw15938862478010792603:Nat:=0
def PySem.W.Fast.tw14878563699869794210:Nat:=0
def PySem.W.Fast.tw16532077522804000909:Nat:=0
def PySem.W.Fast.tw1761654024942982612:Nat:=0
def PySem.W.Fast.tw17047805025583651711:Nat:=0
def PySem.W.Fast.tw2717449931536642908:Nat:=0
def PySem.W.Fast.tw7313113205283947074:Nat:=0
def PySem.W.Fast.tw2675864490667123246:Nat:=0
def PySem.W.Fast.tw1009008898824462424:Nat:=0
def PySem.W.Fast.tw16211486575535119413:Nat:=0
def PySem.W.Fast.tw7160413222589799881:Nat:=0
def PySem.W.Fast.tw12320890549590192708:Nat:=0
def PySem.W.Fast.tw198288354232926636:Nat:=0
def PySem.W.Fast.tw1729248205720479965:Nat:=0
def PySem.W.Fast.tw1845214896270830194:Nat:=0
set_option maxRecDepth 100000 in
set_option maxHeartbeats 0 in
theorem PySem.Challenge.cw_spreadwords_k24_both_and_either_holds : PySem.Challenge.rw_spreadwords_k24_both_and_either.Holds := by
 w_on; o_law; k_head; (case hw=>w_witness2)
 k_fill
 refine My.walk (l:=PySem.Challenge.rw_spreadwords_k24_both_and_either) rfl rfl (fun w h Y=>PySem.W.km_in_of Y) ?F
 case F=>
  intro w mg fa h KX G hmg TT
  refine' My.all_mk KX G hmg TT ?a1 ?l1 ?c1 ?k1 ?a2 ?l2 ?c2 ?k2 ?a3 ?l3 ?c3 ?k3 ?a4 ?l4 ?c4 ?k4 ?a5 ?l5 ?c5 ?k5 ?a6 ?l6 ?c6 ?k6 ?a7 ?l7 ?c7 ?k7 ?a8 ?l8 ?c8 ?k8 ?a9 ?l9 ?c9 ?k9 ?a10 ?l10 ?c10 ?k10 ?a11 ?l11 ?c11 ?k11 ?a12 ?l12 ?c12 ?k12 ?a13 ?l13 ?c13 ?k13 ?a14 ?l14 ?c14 ?k14 ?a15 ?l15 ?c15 ?k15 ?a16 ?l16 ?c16 ?k16 ?a17 ?l17 ?c17 ?k17 ?a18 ?l18 ?c18 ?k18 ?a19 ?l19 ?c19 ?k19 ?a20 ?l20 ?c20 ?k20 ?a21 ?l21 ?c21 ?k21 ?a22 ?l22 ?c22 ?k22 ?a23 ?l23 ?c23 ?k23 ?a24 ?l24 ?c24 ?k24 ?a25 ?l25 ?c25 ?k25 ?a26 ?l26 ?c26 ?k26 ?a27 ?l27 ?c27 ?k27 ?z_ValueError ?z_all ?z_bool ?z_enumerate ?z_int ?z_isinstance ?z_len ?z_list ?z_range ?z_set ?z_sorted ?z_tuple ?z_zip ?a_SpreadError ?a_NoText ?f_NoText ?k_NoText ?a_NoMachine ?f_NoMachine ?k_NoMachine ?a_NoFit ?f_NoFit ?k_NoFit ?a_NoName ?f_NoName ?k_NoName ?a_NoRow ?f_NoRow ?k_NoRow ?e_NoFit ?e_NoRow ?kit ?f_exm ?n0 ?y_least ?v_least ?u_least ?w_least ?y_both ?v_both ?u_both ?w_both ?x_least_both
  (case a1=>k_is)
  (case l1=>k_is)
  (case c1=>k_is)
  (case k1=>k_is)
  (case a2=>k_is)
  (case l2=>k_is)
  (case c2=>k_is)
  (case k2=>k_is)
  (case a3=>k_is)
  (case l3=>k_is)
  (case c3=>k_is)
  (case k3=>k_is)
  (case a4=>k_is)
  (case l4=>k_is)
  (case c4=>k_is)
  (case k4=>k_is)
  (case a5=>k_is)
  (case l5=>k_is)
  (case c5=>k_is)
  (case k5=>k_is)
  (case a6=>k_is)
  (case l6=>k_is)
  (case c6=>k_is)
  (case k6=>k_is)
  (case a7=>k_is)
  (case l7=>k_is)
  (case c7=>k_is)
  (case k7=>k_is)
  (case a8=>k_is)
  (case l8=>k_is)
  (case c8=>k_is)
  (case k8=>k_is)
  (case a9=>k_is)
  (case l9=>k_is)
  (case c9=>k_is)
  (case k9=>k_is)
  (case a10=>k_is)
  (case l10=>k_is)
  (case c10=>k_is)
  (case k10=>k_is)
  (case a11=>k_is)
  (case l11=>k_is)
  (case c11=>k_is)
  (case k11=>k_is)
  (case a12=>k_is)
  (case l12=>k_is)
  (case c12=>k_is)
  (case k12=>k_is)
  (case a13=>k_is)
  (case l13=>k_is)
  (case c13=>k_is)
  (case k13=>k_is)
  (case a14=>k_is)
  (case l14=>k_is)
  (case c14=>k_is)
  (case k14=>k_is)
  (case a15=>k_is)
  (case l15=>k_is)
  (case c15=>k_is)
  (case k15=>k_is)
  (case a16=>k_is)
  (case l16=>k_is)
  (case c16=>k_is)
  (case k16=>k_is)
  (case a17=>k_is)
  (case l17=>k_is)
  (case c17=>k_is)
  (case k17=>k_is)
  (case a18=>k_is)
  (case l18=>k_is)
  (case c18=>k_is)
  (case k18=>k_is)
  (case a19=>k_is)
  (case l19=>k_is)
  (case c19=>k_is)
  (case k19=>k_is)
  (case a20=>k_is)
  (case l20=>k_is)
  (case c20=>k_is)
  (case k20=>k_is)
  (case a21=>k_is)
  (case l21=>k_is)
  (case c21=>k_is)
  (case k21=>k_is)
  (case a22=>k_is)
  (case l22=>k_is)
  (case c22=>k_is)
  (case k22=>k_is)
  (case a23=>k_is)
  (case l23=>k_is)
  (case c23=>k_is)
  (case k23=>k_is)
  (case a24=>k_is)
  (case l24=>k_is)
  (case c24=>k_is)
  (case k24=>k_is)
  (case a25=>k_is)
  (case l25=>k_is)
  (case c25=>k_is)
  (case k25=>k_is)
  (case a26=>k_is)
  (case l26=>k_is)
  (case c26=>k_is)
  (case k26=>k_is)
  (case a27=>k_is)
  (case l27=>k_is)
  (case c27=>k_is)
  (case k27=>k_is)
  (case z_ValueError=>k_is)
  (case z_all=>k_is)
  (case z_bool=>k_is)
  (case z_enumerate=>k_is)
  (case z_int=>k_is)
  (case z_isinstance=>k_is)
  (case z_len=>k_is)
  (case z_list=>k_is)
  (case z_range=>k_is)
  (case z_set=>k_is)
  (case z_sorted=>k_is)
  (case z_tuple=>k_is)
  (case z_zip=>k_is)
  (case a_SpreadError=>k_is)
  (case a_NoText=>k_is)
  (case f_NoText=>with_unfolding_all rfl)
  (case k_NoText=>k_is)
  (case a_NoMachine=>k_is)
  (case f_NoMachine=>with_unfolding_all rfl)
  (case k_NoMachine=>k_is)
  (case a_NoFit=>k_is)
  (case f_NoFit=>with_unfolding_all rfl)
  (case k_NoFit=>k_is)
  (case a_NoName=>k_is)
  (case f_NoName=>with_unfolding_all rfl)
  (case k_NoName=>k_is)
  (case a_NoRow=>k_is)
  (case f_NoRow=>with_unfolding_all rfl)
  (case k_NoRow=>k_is)
  (case e_NoFit=>with_unfolding_all rfl)
  (case e_NoRow=>with_unfolding_all rfl)
  (case kit=>with_unfolding_all rfl)
  (case f_exm=>with_unfolding_all rfl)
  (case n0=>kernel_rfl)
  (case y_least=>exact rfl)
  (case v_least=>k_is)
  (case u_least=>exact rfl)
  (case w_least=>exact rfl)
  (case y_both=>exact rfl)
  (case v_both=>k_is)
  (case u_both=>exact rfl)
  (case w_both=>exact rfl)
  (case x_least_both=>decide)
