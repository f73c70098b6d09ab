import PyProof.Rows.All
import Wide.All
import OpenK.AllK
import Wide.FinOn
import KE.KMinKey
import PyProof.DictRoadsH
import PyProof.Rows.TupTab
import PyProof.ZipIter
import KE.KTryMore
import PyProof.NsDelKeeps
import PyProof.ListRange
import PyProof.Draws
import PyProof.EnumMake
import KE.KUnpack
import KE.KLam
import KE.KRevIter
import KE.KDictOf
import PyProof.AttrMissSeq
import KE.KDictList
import KE.LcSums
import KE.KSortTup
import KE.KIntText
import PyProof.StrLawsTight
import PyProof.StrLawsChain
import PyProof.Rows.StrItems
import PyProof.NeKinds
import PyProof.Rows.SetFrom
import PyProof.DictFindH
import Lean
import PyProof.EqAt
import PyProof.EqKinds
import PyProof.TupleCall
import PyProof.ListStr
import KE.KRevSl
import PyProof.Rows.Range3
import PySem.Challenge.RW_spreadwords_k52_machines_told_apart
set_option Elab.async false
set_option linter.all false
set_option maxRecDepth 100000
set_option maxHeartbeats 4000000
set_option compiler.extract_closed false
section
open PySem PySem.Spec PyProof.Rows
def rS:=@wpAny_bind
def rT:=@wpAny_pure
def rV:=@Heap.get?_push_of_some
def rW:=@List.length_map
def rX:=@Nat.le_refl
def rY:=@List.mem_singleton
def rZ:=@List.getElem?_eq_getElem
def oB:=@List.length_append
def oC:=@Heap.get?_push_size
def oD:=@Heap.lt_size
def oE:=@List.mem_cons_self
def oF:=@List.size_toArray
def oG:=@List.getElem?_eq_some_iff
def oH:=@List.mem_cons
def oJ:=@List.mem_append
def oK:=@List.map_append
def oM:=@List.mem_of_getElem?
def oO:=@List.mem_cons_of_mem
def oP:=@List.getElem?_map
def oQ:=@List.getD_eq_getElem?_getD
def oR:=@List.length_cons
def oS:=@Nat.lt_of_lt_of_le
def oU:=@List.mem_map
def oV:=@List.eq_nil_of_length_eq_zero
def oW:=@Bool.false_ne_true
def oX:=@List.mem_append_right
def oY:=@Nat.ne_of_lt
def oZ:=@Array.length_toList
def lA:=@Array.getElem?_toList
def lB:=@Nat.zero_le
def lC:=@Nat.le_trans
def lE:=@wpAny_holding
def lF:=@List.mem_append_left
def lG:=@List.map_cons
def lH:=@Bool.eq_iff_iff
def lI:=@PassesOwn.never
def lJ:=@Bool.and_eq_true
def lK:=@Heap.get?_update_other
def lL:=@PySem.F.plainAttrs_list
def lM:=@List.filter_cons
def lN:=@List.append_nil
def lP:=@List.getElem?_append_left
def lQ:=@wpAny_newObj_type
def lS:=@PySem.F.called_set
def lT:=@List.getElem?_append_right
def lU:=@List.mem_filter
def lV:=@Around.under_plainId
def lW:=@List.map_map
def lX:=@List.take_length
def lY:=@Nat.lt_of_le_of_lt
def lZ:=@List.mem_range
def iA:=@Nat.lt_irrefl
def iB:=@PySem.mem_of_lookup
def iC:=@List.length_pos_of_mem
def iD:=@wpAny_mono
def iE:=@List.length_take
def iF:=@wpAny_call_entry
def iG:=@codeAny_builtin
def iH:=@PySem.F.slot_list_append
def iI:=@PySem.F.type_list_append
def iJ:=@Heap.size_push
def iK:=@List.append_assoc
def iL:=@List.nodup_iff_pairwise_ne
def iM:=@wpAny_field
def iN:=@List.lookup_cons
def iO:=@List.not_mem_nil
def iP:=@PyProof.Rows.F.plain_set_update_loop
def iQ:=@List.filter_append
def iR:=@List.nodup_cons
def iS:=@wpAny_loadPart'
def iT:=@Heap.get?_update_self
def iU:=@Nat.lt_succ_self
def iV:=@List.take_add_one
def iW:=@W.mg_none_of
def iX:=@wpAny_Call_Name_kw
def iY:=@Bool.false_eq_true
def iZ:=@Nat.ne_of_gt
def dA:=@Ne.symm
def dB:=@List.length_replicate
def dC:=@Nat.lt_succ_of_lt
def dD:=@wpAny_callSpecial?_slot
def dE:=@wpAny_seqItems
def dG:=@List.length_filter_le
def dH:=@Nat.le_succ
def dI:=@List.find?_cons
def dJ:=@List.filter_nil
def dM:=@List.any_eq_true
def dO:=@Nat.le_add_right
def dP:=@codeAny_mono
def dQ:=@PySem.F.plain_min_loop
def dR:=@wpAny_truthy_bool
def dS:=@List.length_range
def dU:=@Heap.SameBut.update
def dW:=@List.mem_map_of_mem
def dX:=@Classical.byContradiction
def dY:=@PyProof.Rows.F.entry_set_update_loop
def dZ:=@Paired.length
def cA:=@wpAny_rule
def cB:=@F.slot_dict_keyiterator_next
def cC:=@List.nodup_append
def cD:=@List.pairwise_map
def cE:=@Nat.le_of_lt
def cF:=@List.all_eq_true
def cG:=@wpAny_isInstance
def cH:=@W.mg_of
def cI:=@Obj.data_mapFields
def cJ:=@List.getElem?_eq_none_iff
def cK:=@List.getElem?_set_ne
def cL:=@List.forIn_cons
def cM:=@List.eq_nil_iff_forall_not_mem
def cO:=@Int.toNat_natCast
def cP:=@Option.isSome_map
def cQ:=@wpAny_setState_of
def cR:=@wpAny_standAt
def cS:=@W.kia_one
def cT:=@wpAny_typeNameOfWhole_keyiter
def cU:=@List.getElem_mem
def cV:=@wpAny_setField
def cW:=@List.mem_flatMap
def cX:=@wpAny_call
def cY:=@List.take_of_length_le
def cZ:=@PySem.F.plainAttrs_str
def bA:=@PyProof.Rows.callWith_type1
def bB:=@wpAny_setField_rec
def bC:=@Array.getD_eq_getD_getElem?
def bD:=@Option.toList_some
def bE:=@wpAny_passesOwn
def bF:=@List.length_singleton
def bG:=@List.length_nil
def bH:=@wpAny_ite_split
def bI:=@wpAny_attempt
def bJ:=@F.slot_tuple_iterator_next
def bK:=@wpAny_pyIter_list
def bL:=@List.drop_eq_getElem_cons
def bM:=@Array.getElem?_eq_getElem
def bN:=@List.pairwise_iff_getElem
def bO:=@List.exists_mem_of_ne_nil
def bP:=@List.Perm.refl
def bQ:=@wpAny_tryCatch
def bR:=@wpAny_typeNameOf_keyiter
def bS:=@List.filterMap_cons
def bT:=@List.replicate_succ
def bU:=@Array.toList_append
def bV:=@PyProof.Rows.slot_tuple_getitem
def bW:=@List.eraseIdx_cons_succ
def bX:=@wpAny_getItem_str_slice
def bY:=@PySem.F.plain_list_iadd
def bZ:=@List.length_eq_zero_iff
def aB:=@List.of_mem_zip
def aC:=@wpAny_specialOf
def aD:=@wpAny_tupleItemsOf
def aE:=@List.getElem?_set_self
def aF:=@List.flatten_cons
def aG:=@Array.toList_push
def aH:=@wpAny_loadPart_at
def aI:=@List.flatMap_cons
def aJ:=@Nat.lt_succ_of_le
def aK:=@Nat.lt_or_ge
def aL:=@Obj.isFreed_of_fields
def aM:=@List.mem_iff_getElem?
def aO:=@List.length_drop
def aP:=@List.length_dropLast
def aQ:=@codeAny_call_builtin
def aR:=@List.mem_of_mem_take
def aS:=@Nat.pow_le_pow_right
def aT:=@List.replicate_succ'
def aU:=@List.any_cons
def aV:=@Array.getElem?_eq_some_iff
def aW:=@W.kasC_bind
def aY:=@wpAny_letGo
def aZ:=@List.getElem_of_mem
def ZA:=@List.map_congr_left
def ZC:=@wpAny_execs_nil
def ZD:=@wpAny_updateSeq
def ZE:=@Nat.min_le_left
def ZF:=@wpAny_pyIter_tuple
def ZG:=@Nat.zero_add
def ZH:=@Code.quiet_builtin
def ZI:=@Array.forIn_toList
def ZJ:=@F.slot_list_getattribute
def ZK:=@List.zip_cons_cons
def ZL:=@List.mem_replicate
def ZM:=@List.length_erase_of_mem
def ZN:=@List.forIn_nil
def ZO:=@wpAny_fieldsOf
def ZP:=@List.getElem?_replicate
def ZQ:=@List.filter_cons_of_pos
def ZR:=@List.filter_cons_of_neg
def ZS:=@wpAny_pyIter_enum
def ZT:=@wpAny_dictEntries
def ZU:=@F.slot_tuple_hash
def ZV:=@List.foldl_append
def ZW:=@Nat.le_of_lt_succ
def ZX:=@Calls.callWith_builtin
def ZY:=@Option.map_eq_some_iff
def ZZ:=@wpAny_of_eq
def YA:=@PySem.F.entry_min_loop
def YB:=@List.length_eq_one_iff
def YC:=@Nat.lt_of_succ_lt_succ
def YD:=@Nat.succ_ne_self
def YE:=@wpAny_forIn_list
def YF:=@List.nil_sublist
def YG:=@codeAny_call_function
def YH:=@wpAny_notOrdered_dict
def YI:=@wpAny_isOneOf_keyiter
def YJ:=@List.eraseIdxIfInBounds_toArray
def YK:=@Heap.get?_none_of_le
def YL:=@wpAny_typeOf
def YM:=@List.map_nil
def YN:=@wpAny_newFunctionEnv
def YO:=@Walks.list
def YQ:=@List.nil_append
def YR:=@codeAny_of_tree
def YS:=@Nat.not_lt_zero
def YT:=@Array.toArray_toList
def YU:=@F.args_dict_keyiterator_next_1
def YV:=@wpAny_pyIter_keyiter
def YW:=@F.slot_zip_next
def YX:=@List.mem_iff_getElem
def YY:=@F.slot_tuple_eq
def YZ:=@List.mem_erase_of_ne
def XA:=@List.length_zipWith
def XB:=@Bool.and_false
def XC:=@List.nodup_nil
def XD:=@List.drop_zero
def XF:=@wpAny_runValue
def XG:=@List.not_lt
def XH:=@Calls.spliced_cons
def XI:=@Nat.lt_or_eq_of_le
def XJ:=@List.all_cons
def XM:=@wpAny_newList
def XN:=@wpAny_onRaise
def XO:=@Nat.lt_of_succ_lt
def XQ:=@wpAny_pyIter_slot
def XR:=@List.reverse_cons
def XS:=@Obj.cls_mapFields
def XT:=@Nat.le_of_eq
abbrev XU:List Str:=["_law_one","_law_other","_law_wish","_law_k","_law_words","_law_waiting","_law_met","_law_known","_law_here","_law_there","_law_gone","_law_so","_law_letter","_law_later","_law_stand"]
abbrev XW:=Value→Shared→Prop
abbrev XX:=List (Addr × Obj)
abbrev XY:List Str:=["_law_letters_here","_law_words","_law_wish","_law_rooms","_law_numbers","_law_steps","_law_row","_law_letter","_law_gone","_law_later","_law_ends","_law_number"]
abbrev XZ:=Addr × Obj
abbrev WA:=List (List Nat)
abbrev WB:List Str:=["_law_flow_here","_law_letters_here","_law_most"]
abbrev WC:=List Value
abbrev WD:=Str→Option Value
abbrev WE:=List Nat
abbrev WG:List Str:=["_law_flow_here","_law_letters_here","_law_first","_law_second","_law_words"]
abbrev WH:List Str:=["_law_flow_here","_law_letters_here","_law_most","_law_rooms","_law_ends","_law_steps","_law_room_here"]
abbrev WI:List Str:=["_law_flow_here","_law_many"]
abbrev WJ:List Str:=["_law_wish","_law_letters_here"]
abbrev WL:List Str:=["_law_flow_here","_law_words","_law_deep_here"]
abbrev WM:=Array (Int × Value)
abbrev WN:=Array Value
abbrev WO:List Str:=["_law_flow_here","_law_letters_here","_law_most","_law_rooms","_law_ends","_law_steps","_law_room_here","_law_row","_law_letter","_law_stays"]
abbrev WQ:List Str:=["words","held","others"]
abbrev WR:=Unit→Shared→Prop
abbrev WS:=Option Addr
abbrev WT:=List (List Str)
abbrev WU:=Nat→Nat→Bool
abbrev WV:List Str:=["_law_one","_law_other","_law_k","_law_told"]
abbrev WW:=List Str
abbrev WX:=Option Value→Shared→Prop
abbrev WY:List Str:=["_law_wish"]
abbrev WZ:List Str:=["rows","word"]
abbrev VA:List Str:=["_law_wish","_law_words"]
abbrev VB:=List Addr
abbrev VC:List Str:=["_law_word"]
abbrev VD:=List Bool
abbrev VE:=Bool→Shared→Prop
abbrev VF:List Str:=["_law_one","_law_other","_law_first","_law_second","_law_k"]
abbrev VG:=List (Str × Addr)
abbrev VH:=List Expr
abbrev VI:=Array (Option Value)
abbrev VJ:List Str:=["_law_word","_law_at"]
abbrev VL:List Str:=["_law_machine_here","_law_room_here","_law_text"]
abbrev VM:=Array Nat
abbrev VN:=Option Int
abbrev VO:=List (Str × NameKind)
abbrev VP:=List (Pos × Str)
abbrev VQ:List Str:=["_law_script"]
abbrev VR:=List (Addr × Addr)
abbrev VS:=Option Value
abbrev VT:=(Str→Option Value)→Heap→Prop
abbrev VU:List Str:=["_law_machine_here","_law_text"]
abbrev VW:List Str:=["_law_letters_here","_law_found","_law_letter"]
abbrev VX:=Value→Value→Sem Value
abbrev VY:List Str:=["text","k","letters","told","level","length"]
abbrev VZ:List Str:=["_law_one","_law_other","_law_wish","_law_k"]
abbrev UA:List Str:=["_law_letters_here","_law_words","_law_wish"]
abbrev UB:List Str:=["letters","k","here","there"]
abbrev UC:List Str:=["_law_flow_here","_law_many","_law_left"]
abbrev UD:List Str:=["_law_room_here"]
abbrev UE:List Str:=["word","there","elsewhere"]
abbrev UG:List Str:=["_law_wish","_law_found","_law_part"]
abbrev UH:List Str:=["_law_flow_here","_law_letters_here"]
abbrev UI:=List Value→Shared→Prop
abbrev UJ:List Str:=["text","start","letter"]
abbrev UK:List Str:=["one","other","k"]
abbrev UL:List Str:=["_law_letter"]
abbrev UM:List Str:=["_law_one","_law_other","_law_k"]
abbrev UN:List Str:=["_law_machine_here","_law_ends"]
abbrev UO:=Result→Shared→Prop
abbrev UP:=Int × Int
abbrev UQ:List Str:=["words","letter","k","longer"]
abbrev UR:=Str→Option NameKind
abbrev US:List Str:=["one","other"]
abbrev UT:=List Nat × Nat
abbrev UU:=World→Heap→Prop
abbrev UW:=Nat→Shared→Prop
abbrev UX:List Str:=["_law_size","_law_flow_here","_law_letters_here"]
abbrev UY:List Str:=["text","letters","level"]
abbrev UZ:List Str:=["letters","begin","step"]
end
set_option hygiene false

namespace L2
open PySem PySem.Spec PyProof.Rows
variable {A:Around}{C a f it:Addr}{CX:CXT}{D:Ends}{E Q:XW}{H H':Hp}{K:W.Frag}{M:Model}{N ps:List Str}{P:Program}{X:Cx}{base h:Heap}{body:List Stmt}{c e l tg:Expr}{cd ct doc oc pm u:Value}{ch fp:VB}{es:VH}{fd:FuncData}{g:TG}{i j n t':Nat}{mg:WD}{name qual x:Str}{o:Obj}{od:WS}{op:CmpOp}{outer:List Env}{p:Pos}{params:Arguments}{pins:XX}{r:R2}{s:Shared}{scope:Scope}{sp:Sp}{tb:TS}{te tl to:TE}{us:WC}{v y:V}{w:World}{xs:List V}{σ:St}
abbrev Key:=Sum Int Str
def Hh:Key→Value→Bool
 |.inl k,v=>Value.isInt k v
 |.inr x,v=>Value.isStrOf x v
def keyH(w:World):Key→Int
 |.inl k=>hashInt k
 |.inr x=>hashStr w x
theorem Xh:∀{k:Key}{v:Value},Hh k v=true→(∃i t,k=Sum.inl i∧v=Value.int i t)∨(∃x t,k=Sum.inr x∧v=Value.str x t)
 |.inl i,v,h=>by
  obtain⟨t,e⟩:=Value.isInt_shape (k:=i) (v:=v) h;exact .inl ⟨i,t,rfl,e⟩
 |.inr x,v,h=>by
  obtain⟨t,e⟩:=Value.isStrOf_shape (x:=x) (v:=v) h;exact .inr ⟨x,t,rfl,e⟩
theorem Zf6(i:Int)(t:Tok):Hh (.inl i) (.int i t)=true:=by simp[Hh,Value.isInt]
theorem Zf5(x:Str)(t:Tok):Hh (.inr x) (.str x t)=true:=by simp[Hh,Value.isStrOf]
theorem Zqw(a b:Int):decide ((Sum.inl a:Key)=Sum.inl b)=(a==b):=by
 by_cases e:a=b
 ·subst e;simp
 ·have h:¬ (Sum.inl a:Key)=Sum.inl b:=λq=>e (Sum.inl.inj q);rw[decide_eq_false h];exact(beq_eq_false_iff_ne.mpr e).symm
theorem Zqt(a b:Str):decide ((Sum.inr a:Key)=Sum.inr b)=decide (a=b):=by
 by_cases e:a=b
 ·subst e;simp
 ·have h:¬ (Sum.inr a:Key)=Sum.inr b:=λq=>e (Sum.inr.inj q);rw[decide_eq_false h,decide_eq_false e]
theorem Zqv(a:Int)(b:Str):decide ((Sum.inl a:Key)=Sum.inr b)=false:=decide_eq_false (λq=>nomatch q)
theorem Zqu(a:Str)(b:Int):decide ((Sum.inr a:Key)=Sum.inl b)=false:=decide_eq_false (λq=>nomatch q)
def Z0(prog:Program)(w:World):PySem.KeyKind prog w Key where
 is:=Hh
 hash:=keyH w
 inj:=λv a b ha hb=>by
  rcases Xh ha with ⟨i,t,rfl,rfl⟩|⟨x,t,rfl,rfl⟩
  ·rcases Xh hb with ⟨j,u,rfl,e⟩|⟨y,u,rfl,e⟩
   ·injection e with e1 _;rw[e1]
   ·exact nomatch e
  ·rcases Xh hb with ⟨j,u,rfl,e⟩|⟨y,u,rfl,e⟩
   ·exact nomatch e
   ·injection e with e1 _;rw[e1]
 byValue:=λk v h=>by
  rcases Xh h with ⟨i,t,rfl,rfl⟩|⟨x,t,rfl,rfl⟩<;>rfl
 pyHash:=λhv h=>by
  rcases Xh hv with ⟨i,t,rfl,rfl⟩|⟨x,t,rfl,rfl⟩
  ·exact wpAny_pyHash_int h
  ·exact wpAny_pyHash_str h
 eqBool:=λhu hv h=>by
  rcases Xh hu with ⟨i,t,rfl,rfl⟩|⟨x,t,rfl,rfl⟩
  ·rcases Xh hv with ⟨j,u,rfl,rfl⟩|⟨y,u,rfl,rfl⟩
   ·rw[Zqw]at h;exact wpAny_eqBool_int h
   ·rw[Zqv]at h;exact SeqAt.EqAt.int_str i t y u _ _ _ _ h
  ·rcases Xh hv with ⟨j,u,rfl,rfl⟩|⟨y,u,rfl,rfl⟩
   ·rw[Zqu]at h;exact SeqAt.EqAt.str_int x t j u _ _ _ _ h
   ·rw[Zqt]at h;exact wpAny_eqBool_str h
 «strs»:=λk x t v h=>by
  rcases Xh h with ⟨i,u,rfl,e⟩|⟨y,u,rfl,e⟩
  ·exact nomatch e
  ·injection e with e1 _
   subst e1;cases v<;>rfl
theorem A6(prog:Program)(w:World)(i:Int)(t:Tok):(Z0 prog w).is (.inl i) (.int i t)=true:=Zf6 i t
theorem A5(prog:Program)(w:World)(x:Str)(t:Tok):(Z0 prog w).is (.inr x) (.str x t)=true:=Zf5 x t
inductive V where
 |non|bl (b:Bool)|int (i:Int)|str (x:Str)|byt (b:Array UInt8)|flt (b:UInt64)|ref (a:Addr)|ty (n:String)
 deriving DecidableEq
def RelV:V→Value→Prop
 |.non,u=>u=Value.none
 |.bl b,u=>u=Value.bool b
 |.int i,u=>∃t,u=Value.int i t
 |.str x,u=>∃t,u=Value.str x t
 |.byt b,u=>∃t,u=Value.bytes b t
 |.flt b,u=>∃t,u=Value.float b t
 |.ref a,u=>u=Value.ref a
 |.ty n,u=>u=Value.type n
abbrev Vals:List V→List Value→Prop:=Paired RelV
theorem Vals.length{xs:List V}{us:WC}(r:Vals xs us):xs.length=us.length:=dZ r
theorem Vals.get:∀{xs:List V}{us:WC}{i:Nat}{x:V},Vals xs us→xs[i]?=some x→∃u,us[i]?=some u∧RelV x u
 |_,_,_,_,.nil,e=>by simp at e
 |_,_,0,_,.cons r _,e=>by simp at e;subst e;exact⟨_,rfl,r⟩
 |_,_,i+1,x,.cons _ t,e=>by
  obtain⟨u,h1,h2⟩:=Vals.get (i:=i) (x:=x) t (by simpa using e);exact⟨u,by simpa using h1,h2⟩
theorem Vals.set{x:V}{u:Value}(r:RelV x u):∀{xs:List V}{us:WC} (i:Nat),Vals xs us→Vals (xs.set i x) (us.set i u)
 |_,_,_,.nil=>.nil
 |_,_,0,.cons _ t=>.cons r t
 |_,_,i+1,.cons q t=>.cons q (Vals.set r i t)
theorem Vals.append:∀{xs ys:List V}{us ws:WC},Vals xs us→Vals ys ws→Vals (xs++ys) (us++ws)
 |_,_,_,_,.nil,s=>s
 |_,_,_,_,.cons r t,s=>.cons r (Vals.append t s)
theorem Vals.take:∀{xs:List V}{us:WC} (n:Nat),Vals xs us→Vals (xs.take n) (us.take n)
 |_,_,0,_=>.nil
 |_,_,_+1,.nil=>.nil
 |_,_,n+1,.cons r t=>.cons r (Vals.take n t)
theorem Vals.drop:∀{xs:List V}{us:WC} (n:Nat),Vals xs us→Vals (xs.drop n) (us.drop n)
 |_,_,0,r=>r
 |_,_,_+1,.nil=>.nil
 |_,_,n+1,.cons _ t=>Vals.drop n t
theorem Vals.none_of:∀{xs:List V}{us:WC}{i:Nat},Vals xs us→xs[i]?=none→us[i]?=none:=λ{xs us i} r e=>by
 have h1:=r.length;have h2:xs.length≤i:=cJ.mp e;exact cJ.mpr (by lia)
def O7:Option V→Option Value→Prop
 |some v,some u=>RelV v u
 |none,none=>True
 |_,_=>False
def KV{κ:Type}:List (κ×V)→List (κ×Value)→Prop:=Paired λ(p:κ×V) (q:κ×Value)=>p.1=q.1∧RelV p.2 q.2
def kV:Key→V
 |.inl i=>.int i
 |.inr x=>.str x
inductive HO where
  |lst (xs:List V)
  |tup (xs:List V)
  |dK (kvs:List (Key×V))|dT (kvs:List (List Key×V))
  |set (S:Int→Bool) (n:Nat)
  |ins (C dx:Addr) (fs:List (Str×V))
  |own (x:Addr)
  |xd (fs:List (Str×V))
  |met (f x:Addr)
  |rng (lo hi:Int)
  |frz (o:Obj) (u:HO)
  |tbl (ps:WN)
  |ext (φ:Heap→Prop)
abbrev Hp:=Addr→Option HO
def upd(H:Hp)(a:Addr)(o:HO):Hp:=λb=>if b=a then some o else H b
theorem Zc{o:HO}:upd H a o a=some o:=by unfold upd;rw[if_pos rfl]
theorem Zk{b:Addr}{o:HO}(h:b≠a):upd H a o b=H b:=by unfold upd;rw[if_neg h]
theorem U3{o u:HO}:upd (upd H a o) a u=upd H a u:=by
 funext b;unfold upd;split<;>rfl
theorem Yt{b:Addr}{o u:HO}(h:H a=some o)(h':H b=some u)(d:o≠u):a≠b:=by
 intro e;subst e;rw[h]at h';exact d (Option.some.inj h')
theorem Zi{b:Addr}{o:HO}(h:H a=some o)(h':H b=none):a≠b:=by
 intro e;subst e;rw[h]at h';cases h'
section
variable (P:Program) (w:World)
def Z9(H:Hp)(h:Heap)(a:Addr):HO→Prop
 |.lst xs=>xs.length≤sizeLine∧∃(its:WC) (n:Nat),Vals xs its∧h.get? a=some { cls:=.type "list",data:=.seq its.toArray n }
 |.tup xs=>xs.length≤sizeLine∧∃its:List Value,Vals xs its∧IsTup h a its.toArray
 |.dK kvs=>kvs.length≤sizeLine∧(a==sysModules)=false∧∃vs,KV kvs vs∧h.DictOf (Z0 P w) a vs
 |.dT kvs=>kvs.length≤sizeLine∧(a==sysModules)=false∧∃xs:List (List Key×Addr×Value),
   Paired (λ(p:List Key×V) (q:List Key×Addr×Value)=>p.1=q.1∧H q.2.1=some (.tup (p.1.map kV))∧RelV p.2 q.2.2) kvs xs∧
   ∃o es ep,h.get? a=some o∧o.ExactDict∧o.data=.dict es ep∧es.toList=xs.map (entryOfKey (tupleKind (Z0 P w)))∧(xs.map (·.1)).Nodup
 |.set S n=>h.SetOf (intKind P w) a S n
 |.ins C dx fs=>H dx=some (.own a)∧fs.length≤1000∧dx≠a∧h.get? a=some (W.instObj C dx)∧
   ∃mA,h.Ns1 dx mA∧(∀f,O7 (fs.lookup f) (mA f))∧PySem.Within mA (fs.map (·.1))
 |.own _=>∃o,h.get? a=some o
 |.xd fs=>∃mA,h.Ns1 a mA∧∀f,O7 (fs.lookup f) (mA f)
 |.rng lo hi=>∃t u v,h.get? a=some { cls:=.type "range",data:=.fields #[.int lo t,.int hi u,.int 1 v] }
 |.frz o u=>h.get? a=some o∧Z9 H h a u
 |.tbl ps=>h.get? a=some { cls:=.none,data:=.fields ps }
 |.met f x=>h.get? a=some (W.methodObj (.ref f) (.ref x))
 |.ext φ=>φ h∧(∃o,h.get? a=some o)∧∀h1 h2:Heap,φ h1→(∀o,h1.get? a=some o→h2.get? a=some o)→φ h2
def HOk(H:Hp)(h:Heap):Prop:=∀a o,H a=some o→Z9 P w H h a o
end
section
variable {P:Program}{w:World}{H H':Hp}{h h':Heap}{a:Addr}{o:HO}
theorem Z9.lt(x:Z9 P w H h a o):a<h.objs.size:=by
 cases o with
 |lst xs=>obtain⟨_,_,_,_,e⟩:=x;exact oD e
 |tup xs=>obtain⟨_,_,_,p⟩:=x;exact p.lt
 |dK kvs=>obtain⟨_,_,_,_,o,_,_,e,_⟩:=x;exact oD e
 |dT kvs=>obtain⟨_,_,_,_,o,_,_,e,_⟩:=x;exact oD e
 |set S n=>obtain⟨o,_,_,_,e,_⟩:=x;exact oD e
 |ins C dx fs=>obtain⟨_,_,_,e,_⟩:=x;exact oD e
 |own y=>obtain⟨_,e⟩:=x;exact oD e
 |xd fs=>obtain⟨_,⟨_,_,_,e,_⟩,_⟩:=x;exact oD e
 |rng lo hi=>obtain⟨_,_,_,e⟩:=x;exact oD e
 |frz ob u=>obtain⟨e,_⟩:=x;exact oD e
 |tbl ps=>exact oD (show h.get? a=some _ from x)
 |met f y=>exact oD (show h.get? a=some _ from x)
 |ext φ=>obtain⟨_,⟨_,e⟩,_⟩:=x;exact oD e
theorem Paired.Zql{α β:Type}{F G:α→β→Prop}:∀{tI:List α}{tJ:List β},Paired F tI tJ→(∀a b,F a b→G a b)→Paired G tI tJ
 |_,_,.nil,_=>.nil
 |_,_,.cons r t,f=>.cons (f _ _ r) (Paired.Zql t f)
theorem Z9.Oi(x:Z9 P w H h a o)(k:∀b u,(b=a∨H b=some (.own a))→h.get? b=some u→h'.get? b=some u)
  (ho:∀b,H b=some (.own a)→H' b=some (.own a)) (ht:∀b xs,H b=some (.tup xs)→H' b=some (.tup xs)):Z9 P w H' h' a o:=by
 induction o with
 |lst xs=>obtain⟨z,its,n,r,e⟩:=x;exact⟨z,its,n,r,k _ _ (.inl rfl) e⟩
 |tup xs=>obtain⟨z,its,r,ob,e,c⟩:=x;exact⟨z,its,r,ob,k _ _ (.inl rfl) e,c⟩
 |dK kvs=>obtain⟨z,y,vs,r,ob,es,ep,e,c⟩:=x;exact⟨z,y,vs,r,ob,es,ep,k _ _ (.inl rfl) e,c⟩
 |dT kvs=>
  obtain⟨z,y,xs,r,ob,es,ep,e,c⟩:=x;exact⟨z,y,xs,Paired.Zql r λp q z=>⟨z.1,ht _ _ z.2.1,z.2.2⟩,ob,es,ep,k _ _ (.inl rfl) e,c⟩
 |set S n=>obtain⟨ob,es,ep,t,e,c⟩:=x;exact⟨ob,es,ep,t,k _ _ (.inl rfl) e,c⟩
 |ins C dx fs=>
  obtain⟨d,z,ne,e,mA,⟨od,es,ep,e2,c⟩,r⟩:=x;exact⟨ho _ d,z,ne,k _ _ (.inl rfl) e,mA,⟨od,es,ep,k _ _ (.inr d) e2,c⟩,r⟩
 |own y=>obtain⟨ob,e⟩:=x;exact⟨ob,k _ _ (.inl rfl) e⟩
 |xd fs=>obtain⟨mA,⟨od,es,ep,e,c⟩,r⟩:=x;exact⟨mA,⟨od,es,ep,k _ _ (.inl rfl) e,c⟩,r⟩
 |rng lo hi=>obtain⟨t,u,v,e⟩:=x;exact⟨t,u,v,k _ _ (.inl rfl) e⟩
 |frz ob u ih=>obtain⟨e,q⟩:=x;exact⟨k _ _ (.inl rfl) e,ih q⟩
 |tbl ps=>
  have e:h.get? a=some { cls:=.none,data:=.fields ps }:=x;show h'.get? a=some { cls:=.none,data:=.fields ps };exact k a _ (.inl rfl) e
 |met f y=>
  have e:h.get? a=some (W.methodObj (.ref f) (.ref y)):=x;show h'.get? a=some (W.methodObj (.ref f) (.ref y));exact k a _ (.inl rfl) e
 |ext φ=>obtain⟨p,⟨o,e⟩,st⟩:=x;exact⟨st _ _ p λo q=>k _ _ (.inl rfl) q,⟨o,k _ _ (.inl rfl) e⟩,st⟩
theorem HOk.lt(x:HOk P w H h)(e:H a=some o):a<h.objs.size:=(x a o e).lt
theorem HOk.fresh(x:HOk P w H h)(e:h.objs.size≤a):H a=none:=by
 cases q:H a with
 |none=>rfl
 |some u=>exact absurd (oS (x.lt q) e) (iA _)
theorem HOk.kept(x:HOk P w H h)(k:∀b u,h.get? b=some u→h'.get? b=some u):HOk P w H h':=λa o e=>
 (x a o e).Oi (λb u _ q=>k b u q) (λ_ q=>q) λ_ _ q=>q
theorem HOk.laid(x:HOk P w H h)(k:∀b u,h.get? b=some u→h'.get? b=some u)(hp:h.objs.size≤a)(new:Z9 P w (upd H a o) h' a o):HOk P w (upd H a o) h':=λb u e=>by
 have hn:=x.fresh hp
 by_cases hb:b=a
 ·subst hb;rw[Zc]at e;cases e;exact new
 ·rw[Zk hb]at e;exact(x b u e).Oi (λc v _ q=>k c v q) (λc q=>by rw[Zk (Zi q hn)];exact q) λc xs q=>by rw[Zk (Zi q hn)];exact q
end
def Rd(H:Hp)(a:Addr)(u:HO):Prop:=H a=some u∨∃o,H a=some (.frz o u)
theorem Rd.ok{u:HO}(r:Rd H a u)(x:HOk P w H h):Z9 P w H h a u:=by
 rcases r with r|⟨o,r⟩
 ·exact x a u r
 ·obtain⟨_,q⟩:=x a _ r;exact q
def Mut:Option HO→Prop
 |some (.lst _)=>True
 |some (.dK _)=>True
 |some (.dT _)=>True
 |some (.set _ _)=>True
 |some (.ins _ _ _)=>True
 |some (.ext _)=>True
 |_=>False
section
variable {P:Program}{w:World}{H:Hp}{h h':Heap}{x e:Addr}{o':HO}
theorem HOk.write(ok:HOk P w H h)(mu:Mut (H x))(he:e=x∨H e=some (.own x))(k:∀b u,b≠e→h.get? b=some u→h'.get? b=some u)(eV:∃u,h'.get? e=some u)
  (new:Z9 P w (upd H x o') h' x o'):HOk P w (upd H x o') h':=λb u q=>by
 have Ztz:∀c y,H c=some (.own y)→c≠x:=λc y r z=>by subst z;rw[r]at mu;exact mu
 have fR:∀c xs,H c=some (.tup xs)→c≠x:=λc xs r z=>by subst z;rw[r]at mu;exact mu
 by_cases hb:b=x
 ·subst hb;rw[Zc]at q;cases q;exact new
 ·rw[Zk hb]at q
  by_cases i6:b=e
  ·have q':H b=some (.own x):=by
    rcases he with z|z
    ·exact absurd (i6.trans z) hb
    ·rw[i6];exact z
   rw[q]at q';cases q';obtain⟨v,hv⟩:=eV;exact⟨v,by rw[i6];exact hv⟩
  ·refine(ok b u q).Oi (λc v hc r=>k c v ?_ r) (λc r=>by rw[Zk (Ztz c b r)];exact r) λc xs r=>by rw[Zk (fR c xs r)];exact r
   rcases hc with rfl|hc
   ·exact i6
   ·rintro rfl
    rcases he with z|z
    ·exact Ztz c b hc z
    ·rw[hc]at z;cases z;exact hb rfl
end
structure Un(fs ex:VB)(H H':Hp)(h h':Heap):Prop where
 keep:∀b o,h.get? b=some o→H b=none→b∉fs→b∉ex→h'.get? b=some o
 slot:∀b o,h.get? b=some o→H b=none→b∈fs→b∉ex→∃sl,h'.get? b=some { o with slots:=sl }
 free:∀b o,h.get? b=some o→H b=none→b∉ex→H' b=none
 there:∀b o,h.get? b=some o→b∉ex→∃o',h'.get? b=some o'
 G1:∀b xs,H b=some (.tup xs)→H' b=some (.tup xs)
 Ki:∀b o u,H b=some (.frz o u)→H' b=some (.frz o u)
 Jb:∀b ps,H b=some (.tbl ps)→∃more,H' b=some (.tbl (ps++more))
section
variable {fs fs' ex ex':VB}{H H1 H2:Hp}{h h1 h2 h':Heap}{a x e:Addr}{o:HO}
theorem Un.any(u:Un fs ex H H1 h h1){b:Addr}{ob:Obj}(q:h.get? b=some ob)(n:H b=none)(hx:b∉ex):∃sl,h1.get? b=some { ob with slots:=sl }:=by
 by_cases hb:b∈fs
 ·exact u.slot b ob q n hb hx
 ·exact⟨ob.slots,u.keep b ob q n hb hx⟩
theorem Un.kept(k:∀b u,h.get? b=some u→h'.get? b=some u):Un fs ex H H h h':=
 ⟨λb ob q _ _ _=>k b ob q,λb ob q _ _ _=>⟨ob.slots,k b ob q⟩,λ_ _ _ n _=>n,λb ob q _=>⟨ob,k b ob q⟩,λ_ _ q=>q,λ_ _ _ q=>q,λ_ ps q=>⟨#[],by rw[q];simp⟩⟩
theorem Un.refl:Un fs ex H H h h:=Un.kept λ_ _ q=>q
theorem Un.laid(k:∀b u,h.get? b=some u→h'.get? b=some u)(hp:h.objs.size≤a)(hn:H a=none):Un fs ex H (upd H a o) h h' where
 keep:=λb u q _ _ _=>k b u q
 slot:=λb u q _ _ _=>⟨u.slots,k b u q⟩
 free:=λb u q n _=>by rw[Zk (oY (oS (oD q) hp))];exact n
 there:=λb u q _=>⟨u,k b u q⟩
 G1:=λb xs q=>by rw[Zk (Zi q hn)];exact q
 Ki:=λb u xs q=>by rw[Zk (Zi q hn)];exact q
 Jb:=λb ps q=>⟨#[],by rw[Zk (Zi q hn),q];simp⟩
theorem Un.write(mu:Mut (H x))(he:e=x∨H e=some (.own x))(k:∀b u,b≠e→h.get? b=some u→h'.get? b=some u)(eV:∃u,h'.get? e=some u):Un fs ex H (upd H x o) h h':=by
 have hx:∀b,H b=none→b≠x:=λb n z=>by subst z;rw[n]at mu;exact mu
 have hb:∀b,H b=none→b≠e:=λb n z=>by
  subst z
  rcases he with r|r
  ·exact hx b n r
  ·rw[n]at r;cases r
 have hm:∀b u,H b=some u→¬ Mut (some u)→b≠x:=λb u q nm z=>by subst z;rw[q]at mu;exact nm mu
 refine⟨λb u q n _ _=>k b u (hb b n) q,λb u q n _ _=>⟨u.slots,k b u (hb b n) q⟩,λb u q n _=>by rw[Zk (hx b n)];exact n,λb u q _=>?_,
  λb xs q=>by rw[Zk (hm b _ q λz=>z)];exact q,λb u xs q=>by rw[Zk (hm b _ q λz=>z)];exact q,λb ps q=>⟨#[],by rw[Zk (hm b _ q λz=>z),q];simp⟩⟩
 by_cases i6:b=e
 ·subst i6;exact eV
 ·exact⟨u,k b u i6 q⟩
end
def trk(h:Heap)(H:Hp):List Addr:=(List.range h.objs.size).filter λa=>(H a).isSome
def O1(h:Heap)(H:Hp):Heap:=W.hideAll h (trk h H)
theorem Dc(h:Heap)(H:Hp):(O1 h H).objs.size=h.objs.size:=W.hideAll_size _ _
theorem Zaa{b:Addr}(e:h.get? b=some o)(n:H b=none):(O1 h H).get? b=some o:=
 W.hideAll_get _ e λhm=>by
  have q:(H b).isSome=true:=(lU.mp hm).2;rw[n]at q;simp at q
theorem Zef{b:Addr}(e:(O1 h H).get? b=some o):h.get? b=some o∧H b=none:=by
 have e':h.get? b=some o:=W.of_hideAll (trk h H) e;refine⟨e',?_⟩
 cases q:H b with
 |none=>rfl
 |some x=>
  have hm:b∈trk h H:=lU.mpr ⟨lZ.mpr (oD e'),by simp[q]⟩;have z:(O1 h H).get? b=none:=W.hideAll_none (trk h H) hm;rw[z]at e;cases e
structure Mod(K:W.Frag)(mg:WD)(base:Heap):Prop where
 kin:K.In base
 glob:base.Ns mainGlobals mg
 blt:∃mb,base.Ns builtinsNs mb∧∀x:Str,x≠"__name__"→mb x=bootBuiltins x
 nolimit:base.NoLimit
structure Cx where
 prog:Program
 w:World
 K:W.Frag
 mg:Str→Option Value
 base:Heap
 A:Around
 N:List Str
 s₀:Shared
 H₀:Hp
 env:Env
 outer:List Env
 stack:List Env
 ex:List Addr
 fn:Str→Bool
 calm:Bool
 pn:List XZ
 xe:Value→Shared→Prop
def frs(l:List Env):List Addr:=l.filterMap (·.frame)
abbrev Cx.fs(X:Cx):List Addr:=frs X.outer
def Vis(sc:Scope)(x:Str):Prop:=sc.names.lookup x=some .local∨sc.names.lookup x=some .cell∨sc.names.lookup x=some .free
def Loc(sc:Scope)(x:Str):Prop:=sc.names.lookup x=some .local∨sc.names.lookup x=some .cell
def Look(env:Env)(h:Heap)(m:WD)(x:Str)(u:Value):Prop:=
 (env.kindOf x=some .local∧m x=some u)∨((env.kindOf x=some .cell∨env.kindOf x=some .free)∧∃c,env.cells.lookup x=some c∧h.IsCell c (some u))
structure Cx.Ok(X:Cx):Prop where
 mod:Mod X.K X.mg X.base
 kind:X.env.scope.kind=.function
 glob:X.env.globals=mainGlobals
 blt:X.env.builtins=builtinsNs
 above:X.s₀.heap.objs.size≤X.env.locals
 inj:∀x y c,X.env.cells.lookup x=some c→X.env.cells.lookup y=some c→x=y
 has:∀x,(X.env.kindOf x=some .cell∨X.env.kindOf x=some .free)→∃c,X.env.cells.lookup x=some c
 cab:∀x c,X.fn x=true→X.env.cells.lookup x=some c→X.s₀.heap.objs.size≤c
 hd:X.calm=true→X.A.handled=none
 frames:X.A.frames=some X.stack
 stk:X.stack=X.outer∨(X.stack=X.env :: X.outer∧X.env.frame=some X.env.locals)
 exf:∀b∈X.ex,b≠X.env.locals∧∀x c,X.env.cells.lookup x=some c→c≠b
 bs:∀b o,X.base.get? b=some o→X.s₀.heap.get? b=some o∧X.H₀ b=none
 bsz:X.base.objs.size≤X.s₀.heap.objs.size
 Zb7:∀b o,X.base.get? b=some o→b∉X.ex
 Zcr:∀b∈X.ex,b∉X.fs
 Ob:X.s₀.heap.FunFrames X.base X.outer
 frf:∀b∈X.fs,X.H₀ b=none
structure Inv(X:Cx)(pins:XX)(σ:List (Option V))(H:Hp)(s:Shared):Prop where
 ok:X.Ok
 os:s.os=X.s₀.os
 bare:AllBare s.gens
 base:Un X.fs X.ex X.H₀ H X.s₀.heap s.heap
 loc:∃m,s.heap.Ns X.env.locals m∧∀(i:Nat) (x:Str) (v:V),X.N[i]?=some x→σ[i]?=some (some v)→Vis X.env.scope x→∃u,RelV v u∧Look X.env s.heap m x u
 cell:∀x c,X.env.cells.lookup x=some c→∃v,s.heap.IsCell c v
 free:H X.env.locals=none
 Vk:∀x c,X.env.cells.lookup x=some c→H c=none
 pin:∀p∈X.pn++pins,s.heap.get? p.1=some p.2∧H p.1=none∧p.1≠X.env.locals∧p.1∉X.fs∧∀v,p.2.data≠.cell v
 hok:HOk X.prog X.w H s.heap
 len:σ.length=X.N.length
section
variable {X:Cx}{pins:XX}{σ:List (Option V)}{H H':Hp}{s:Shared}{h':Heap}
theorem Cx.Ok.nofr(ok:X.Ok){b:Addr}(e:X.base.get? b=some o):b∉X.fs:=λhb=>by
 have:=(ok.Ob.mem hb).1;rw[e]at this;cases this
theorem Inv.bs(I:Inv X pins σ H s):∀b o,X.base.get? b=some o→s.heap.get? b=some o∧H b=none:=λb o e=>
 ⟨I.base.keep b o (I.ok.bs b o e).1 (I.ok.bs b o e).2 (I.ok.nofr e) (I.ok.Zb7 b o e),I.base.free b o (I.ok.bs b o e).1 (I.ok.bs b o e).2 (I.ok.Zb7 b o e)⟩
theorem Inv.bk(I:Inv X pins σ H s):∀b o,X.base.get? b=some o→s.heap.get? b=some o:=λb o e=>(I.bs b o e).1
theorem Inv.mod(I:Inv X pins σ H s):Mod X.K X.mg X.base:=I.ok.mod
theorem Inv.kIn(I:Inv X pins σ H s):X.K.In s.heap:=I.ok.mod.kin.keeps I.bk
theorem Inv.lt(I:Inv X pins σ H s):X.env.locals<s.heap.objs.size:=let ⟨_,hn,_⟩:=I.loc;hn.lt
theorem Inv.sz(I:Inv X pins σ H s):X.s₀.heap.objs.size≤s.heap.objs.size:=lC I.ok.above (cE I.lt)
theorem Inv.Zt0(I:Inv X pins σ H s)(h:s.heap.objs.size≤a):a∉X.fs:=λhb=>by
 obtain⟨_,o,ho,_⟩:=I.ok.Ob.mem hb;exact absurd (oS (oD ho) (lC I.sz h)) (iA _)
theorem Inv.cne(I:Inv X pins σ H s):∀x c,X.env.cells.lookup x=some c→c≠X.env.locals:=λx c e z=>by
 obtain⟨v,o,ho,hd⟩:=I.cell x c e;obtain⟨m,⟨o',es,ep,z0,hZ,_⟩,_⟩:=I.loc;rw[z,z0]at ho;cases ho;rw[hZ]at hd;cases hd
theorem Inv.Ob(I:Inv X pins σ H s):s.heap.FunFrames X.base X.outer:=by
 have all:∀(l:List Env),(∀b∈frs l,b∈X.fs)→X.s₀.heap.FunFrames X.base l→s.heap.FunFrames X.base l:=by
  intro l
  induction l with
  |nil=>intro _ _;trivial
  |cons env r ih=>
   intro hs hl;obtain⟨hk,⟨L,o,hf,hn,ho,hd⟩,hr⟩:=hl;have hL:L∈X.fs:=hs L (by unfold frs;rw[bS,hf];exact oE);obtain⟨sl,e⟩:=I.base.slot L o ho (I.ok.frf L hL) hL λz=>I.ok.Zcr L z hL;exact⟨hk,⟨L,_,hf,hn,e,hd⟩,ih (λb hb=>hs b (by unfold frs;rw[bS,hf];exact oO _ hb)) hr⟩
 exact all X.outer (λ_ hb=>hb) I.ok.Ob
theorem Inv.stack(I:Inv X pins σ H s):s.heap.FunFrames X.base X.stack:=by
 rcases I.ok.stk with e|⟨e,hf⟩
 ·rw[e];exact I.Ob
 ·rw[e];obtain⟨m,hn,_⟩:=I.loc;refine .cons (by rw[I.ok.kind];decide) hf hn ?_ I.Ob;exact YK (lC I.ok.bsz I.ok.above)
theorem Inv.Ji(I:Inv X pins σ H s):∀b∈frs X.stack,b∈X.env.locals :: X.fs:=λb hb=>by
 rcases I.ok.stk with e|⟨e,hf⟩
 ·rw[e]at hb;exact oO _ hb
 ·rw[e]at hb;unfold frs at hb;rw[bS,hf]at hb;exact hb
theorem Inv.Kr(I:Inv X pins σ H s):∀b∈frs X.stack,H b=none:=λb hb=>by
 rcases oH.mp (I.Ji b hb) with e|hb
 ·rw[e];exact I.free
 ·obtain⟨_,o,ho,_⟩:=I.ok.Ob.mem hb;exact I.base.free b o ho (I.ok.frf b hb) λz=>I.ok.Zcr b z hb
theorem Inv.step{g':Array GenState}{d':Drawn}(I:Inv X pins σ H s)
  (eT:∀b∈ch,(b∈X.ex∨X.s₀.heap.objs.size≤b)∧b≠X.env.locals∧(∀x c,X.env.cells.lookup x=some c→c≠b)∧∀p∈X.pn++pins,p.1≠b)
  (keep:∀b o,b≠X.env.locals→b∉X.fs→b∉ch→s.heap.get? b=some o→H b=none→h'.get? b=some o)
  (slot:∀b o,b≠X.env.locals→b∈X.fs→b∉ch→s.heap.get? b=some o→H b=none→∃sl,h'.get? b=some { o with slots:=sl }) (free:∀b o,b∉ch→s.heap.get? b=some o→H b=none→H' b=none)
  (there:∀b o,b∉ch→s.heap.get? b=some o→∃o',h'.get? b=some o')
  (G1:∀b xs,H b=some (.tup xs)→H' b=some (.tup xs)) (Ki:∀b o u,H b=some (.frz o u)→H' b=some (.frz o u)) (Jb:∀b ps,H b=some (.tbl ps)→∃more,H' b=some (.tbl (ps++more)))
  (ns:∀m,s.heap.Ns X.env.locals m→h'.Ns X.env.locals m) (hok:HOk X.prog X.w H' h') (hg:AllBare g') :
  Inv X pins σ H' { s with heap:=h',gens:=g',drawn:=d',toks:=t' }:=by
 have neL:∀b o,X.s₀.heap.get? b=some o→b≠X.env.locals:=λb o e=>oY (oS (oD e) I.ok.above)
 have wF:∀b o,X.s₀.heap.get? b=some o→b∉X.ex→b∉ch:=λb o e hx hb=>by
  rcases(eT b hb).1 with z|z
  ·exact hx z
  ·exact absurd (oS (oD e) z) (iA _)
 have cellK:∀x c,X.env.cells.lookup x=some c→∀v,s.heap.IsCell c v→h'.IsCell c v:=λx c e v ⟨o,ho,hd⟩=>by
  have tM:c∉ch:=λz=>(eT c z).2.2.1 x c e rfl
  by_cases hc:c∈X.fs
  ·obtain⟨sl,q⟩:=slot c o (I.cne x c e) hc tM ho (I.Vk x c e);exact⟨_,q,hd⟩
  ·exact⟨o,keep c o (I.cne x c e) hc tM ho (I.Vk x c e),hd⟩
 refine⟨I.ok,I.os,hg,⟨λb o e n hb hx=>?_,λb o e n hb hx=>?_,λb o e n hx=>?_,λb o e hx=>?_,λb xs e=>G1 b xs (I.base.G1 b xs e),λb o xs e=>Ki b o xs (I.base.Ki b o xs e),λb ps e=>?_⟩,?_,λx c e=>?_,?_,λx c e=>?_,λp hp=>?_,hok,I.len⟩
 ·exact keep b o (neL b o e) hb (wF b o e hx) (I.base.keep b o e n hb hx) (I.base.free b o e n hx)
 ·obtain⟨sl,e1⟩:=I.base.slot b o e n hb hx;obtain⟨rG,e2⟩:=slot b _ (neL b o e) hb (wF b o e hx) e1 (I.base.free b o e n hx);exact⟨rG,e2⟩
 ·obtain⟨o',e1⟩:=I.base.there b o e hx;exact free b o' (wF b o e hx) e1 (I.base.free b o e n hx)
 ·obtain⟨o',e1⟩:=I.base.there b o e hx;exact there b o' (wF b o e hx) e1
 ·obtain⟨m1,e1⟩:=I.base.Jb b ps e;obtain⟨m2,e2⟩:=Jb b _ e1;exact⟨m1++m2,by rw[e2,Array.append_assoc]⟩
 ·obtain⟨m,hn,hl⟩:=I.loc;refine⟨m,ns m hn,λi x v e1 e2 e3=>?_⟩;obtain⟨u,r,l⟩:=hl i x v e1 e2 e3;refine⟨u,r,?_⟩
  rcases l with l|⟨k,c,e,z⟩
  ·exact .inl l
  ·exact .inr ⟨k,c,e,cellK x c e _ z⟩
 ·obtain⟨v,z⟩:=I.cell x c e;exact⟨v,cellK x c e v z⟩
 ·obtain⟨m,⟨o,_,_,ho,_⟩,_⟩:=I.loc;exact free _ o (λz=>(eT _ z).2.1 rfl) ho I.free
 ·obtain⟨v,o,ho,hd⟩:=I.cell x c e;exact free c o (λz=>(eT c z).2.2.1 x c e rfl) ho (I.Vk x c e)
 ·obtain⟨e,n,ne,nf,d⟩:=I.pin p hp;have tM:p.1∉ch:=λz=>(eT p.1 z).2.2.2 p hp rfl;exact⟨keep p.1 p.2 ne nf tM e n,free p.1 p.2 tM e n,ne,nf,d⟩
theorem Inv.un(I:Inv X pins σ H s)(u:Un X.fs [] H H' s.heap h')(hok:HOk X.prog X.w H' h'):Inv X pins σ H' { s with heap:=h',toks:=t' }:=by
 obtain⟨m,⟨o,es,ep,ho,r⟩,_⟩:=id I.loc;obtain⟨sl,hL⟩:=u.any ho I.free (by simp)
 exact I.step (g':=s.gens) (d':=s.drawn) (ch:=[]) (λ_ z=>nomatch z) (λb o _ hb _ e n=>u.keep b o e n hb (by simp)) (λb o _ hb _ e n=>u.slot b o e n hb (by simp)) (λb o _ e n=>u.free b o e n (by simp)) (λb o _ e=>u.there b o e (by simp)) u.G1 u.Ki u.Jb (λm' hm=>by
  obtain⟨o',t9,zS,z0,r'⟩:=hm;rw[ho]at z0;cases z0
  exact⟨_,t9,zS,hL,r'⟩) hok I.bare
theorem Inv.call{g':Array GenState}{d':Drawn}(I:Inv X pins σ H s)(u:Un (frs X.stack) ch H H' s.heap h')(hok:HOk X.prog X.w H' h')(hg:AllBare g')
  (eT:∀b∈ch,(b∈X.ex∨X.s₀.heap.objs.size≤b)∧b≠X.env.locals∧(∀x c,X.env.cells.lookup x=some c→c≠b)∧∀p∈X.pn++pins,p.1≠b) :
  Inv X pins σ H' { s with heap:=h',gens:=g',drawn:=d',toks:=t' }:=by
 obtain⟨m,⟨o,es,ep,ho,r⟩,_⟩:=id I.loc;obtain⟨sl,hL⟩:=u.any ho I.free λz=>(eT _ z).2.1 rfl
 exact I.step (ch:=ch) eT (λb o hL hb hc e n=>u.keep b o e n (λz=>(oH.mp (I.Ji b z)).elim hL hb) hc) (λb o _ _ hc e n=>u.any e n hc) (λb o hc e n=>u.free b o e n hc) (λb o hc e=>u.there b o e hc) u.G1 u.Ki u.Jb (λm' hm=>by
  obtain⟨o',t9,zS,z0,r'⟩:=hm;rw[ho]at z0;cases z0
  exact⟨_,t9,zS,hL,r'⟩) hok hg
theorem Inv.turned(I:Inv X pins σ H s)(k:∀b o,b≠it→s.heap.get? b=some o→h'.get? b=some o)(hn:H it=none)(hL:it≠X.env.locals)
  (h1:it∈X.ex∨X.s₀.heap.objs.size≤it) (h2:∀x c,X.env.cells.lookup x=some c→c≠it) (h3:∀p∈X.pn++pins,p.1≠it):Inv X pins σ H { s with heap:=h',toks:=t' }:=by
 have tP:∀b u,H b=some u→b≠it:=λb u e z=>by rw[z,hn]at e;cases e
 refine I.step (g':=s.gens) (d':=s.drawn) (ch:=[it]) (λb hb=>?_) (λb o _ _ hc e _=>k b o (λz=>hc (by simp[z])) e) (λb o _ _ hc e _=>⟨o.slots,k b o (λz=>hc (by simp[z])) e⟩) (λ_ _ _ _ n=>n)
  (λb o hc e=>⟨o,k b o (λz=>hc (by simp[z])) e⟩) (λ_ _ e=>e) (λ_ _ _ e=>e) (λb ps e=>⟨#[],by rw[e];simp⟩) (λm hm=>?_) (λb u e=>?_) I.bare
 ·have e:b=it:=by simpa using hb
  subst e;exact⟨h1,hL,h2,h3⟩
 ·obtain⟨o,es,ep,ho,r⟩:=hm;exact⟨o,es,ep,k _ o (dA hL) ho,r⟩
 ·refine(I.hok b u e).Oi (λc v hc q=>k c v ?_ q) (λ_ q=>q) λ_ _ q=>q
  rcases hc with z|z
  ·rw[z];exact tP b u e
  ·exact tP c _ z
theorem Inv.tok(I:Inv X pins σ H s)(t:Nat):Inv X pins σ H { s with toks:=t }:=I.un (h':=s.heap) (t':=t) Un.refl I.hok
theorem Inv.kept{t':Nat}(I:Inv X pins σ H s)(k:∀b u,s.heap.get? b=some u→h'.get? b=some u):Inv X pins σ H { s with heap:=h',toks:=t' }:=I.un (Un.kept k) (I.hok.kept k)
theorem Inv.laid{a:Addr}{o:HO}{t':Nat}(I:Inv X pins σ H s)(k:∀b u,s.heap.get? b=some u→h'.get? b=some u)(hp:s.heap.objs.size≤a)(new:Z9 X.prog X.w (upd H a o) h' a o):
  Inv X pins σ (upd H a o) { s with heap:=h',toks:=t' }:=I.un (Un.laid k hp (I.hok.fresh hp)) (I.hok.laid k hp new)
theorem Inv.write{x e:Addr}{o:HO}{t':Nat}(I:Inv X pins σ H s)(mu:Mut (H x))(he:e=x∨H e=some (.own x))(k:∀b u,b≠e→s.heap.get? b=some u→h'.get? b=some u)(eV:∃u,h'.get? e=some u)
  (new:Z9 X.prog X.w (upd H x o) h' x o):Inv X pins σ (upd H x o) { s with heap:=h',toks:=t' }:=I.un (Un.write mu he k eV) (I.hok.write mu he k eV new)
theorem Inv.weak{x4:List (Option V)}(I:Inv X pins σ H s)(hl:x4.length=σ.length)(w:∀(i:Nat) v,x4[i]?=some (some v)→σ[i]?=some (some v)):Inv X pins x4 H s:=
 ⟨I.ok,I.os,I.bare,I.base,let ⟨m,hn,c7⟩:=I.loc;⟨m,hn,λi x v e1 e2 e3=>c7 i x v e1 (w i v e2) e3⟩,I.cell,I.free,I.Vk,I.pin,I.hok,hl.trans I.len⟩
theorem Inv.Ph{pins':XX}(I:Inv X pins σ H s)(h:∀p∈pins',s.heap.get? p.1=some p.2∧H p.1=none∧p.1≠X.env.locals∧p.1∉X.fs∧∀v,p.2.data≠.cell v):Inv X pins' σ H s:=
 ⟨I.ok,I.os,I.bare,I.base,I.loc,I.cell,I.free,I.Vk,λp hp=>(oJ.mp hp).elim (λz=>I.pin p (lF _ z)) (h p),I.hok,I.len⟩
theorem Iy(hN:N.Nodup)(a:N[i]?=some x)(b:N[j]?=some x):i=j:=by
 obtain⟨h1,e1⟩:=oG.mp a;obtain⟨h2,e2⟩:=oG.mp b;exact(List.getElem_inj hN).mp (e1.trans e2.symm)
theorem F5{Q:WR}(I:Inv X pins σ H s)(hN:X.N.Nodup)(hi:X.N[i]?=some x)(hx:Loc X.env.scope x)(r:RelV v u)
  (h:∀s',Inv X pins (σ.set i (some v)) H s'→(∃a,Heap.SameBut a s.heap s'.heap∧(a=X.env.locals∨X.env.cells.lookup x=some a))→Q () s') (hf:X.fn x=true∨X.env.scope.names.lookup x=some .local:=by first|exact .inl rfl|exact .inr rfl|assumption):wpAny M A (storeName X.env x u) Q E s:=by
 obtain⟨m,hn,hl⟩:=id I.loc;have Zrh:(X.env.scope.kind==.class||(X.env.scope.kind==.module&&X.env.locals != X.env.globals))=false:=by rw[I.ok.kind];rfl
 have gR:i<σ.length:=by rw[I.len];exact(oG.mp hi).1
 have cne:=I.cne
 have tracked:∀{a:Addr}{h':Heap},(∃o,s.heap.get? a=some o∧H a=none)→Heap.SameBut a s.heap h'→HOk X.prog X.w H h':=λ{a h'} ha hs b ob e=>by
  obtain⟨_,_,Zab⟩:=ha;refine(I.hok b ob e).Oi (λc w' hc q=>(hs.2 c ?_).trans q) (λ_ q=>q) λ_ _ q=>q;rintro rfl
  rcases hc with rfl|hc
  ·rw[Zab]at e;cases e
  ·rw[Zab]at hc;cases hc
 rcases hx with hk|hk
 ·refine wpAny_storeName_local hk hn (λh' nJ hs=>?_) Zrh;obtain⟨oL,_,_,kC,_⟩:=id hn;refine h _ ⟨I.ok,I.os,I.bare,⟨λb o e n hb hx=>?_,λb o e n hb hx=>?_,I.base.free,λb o e hx=>?_,I.base.G1,I.base.Ki,I.base.Jb⟩,⟨_,nJ,λj y v' e1 e2 e3=>?_⟩,λy c e=>?_,I.free,I.Vk,λp hp=>?_,tracked ⟨oL,kC,I.free⟩ hs,by simpa using I.len⟩ ⟨_,hs,.inl rfl⟩
  ·exact(hs.2 b (oY (oS (oD e) I.ok.above))).trans (I.base.keep b o e n hb hx)
  ·obtain⟨sl,e1⟩:=I.base.slot b o e n hb hx;exact⟨sl,(hs.2 b (oY (oS (oD e) I.ok.above))).trans e1⟩
  ·obtain⟨o',e1⟩:=I.base.there b o e hx;exact⟨o',(hs.2 b (oY (oS (oD e) I.ok.above))).trans e1⟩
  ·by_cases hj:j=i
   ·subst hj;rw[hi]at e1;cases e1;rw[aE gR]at e2;cases e2;exact⟨u,r,.inl ⟨hk,by simp⟩⟩
   ·rw[cK (dA hj)]at e2;obtain⟨u',r',q⟩:=hl j y v' e1 e2 e3;refine⟨u',r',?_⟩
    rcases q with ⟨k,e⟩|⟨k,c,e,z⟩
    ·refine .inl ⟨k,?_⟩;have:y≠x:=λe=>hj (Iy hN e1 (e▸hi));simp[this,e]
    ·exact .inr ⟨k,c,e,z.sameBut hs (cne y c e)⟩
  ·obtain⟨w',z⟩:=I.cell y c e;exact⟨w',z.sameBut hs (cne y c e)⟩
  ·obtain⟨e,n,ne,nf,d⟩:=I.pin p hp;exact⟨(hs.2 p.1 ne).trans e,n,ne,nf,d⟩
 ·have p8:X.fn x=true:=by
   rcases hf with z|z
   ·exact z
   ·rw[z]at hk;cases hk
  obtain⟨c,hc⟩:=I.ok.has x (.inl hk);obtain⟨w',z⟩:=I.cell x c hc;refine wpAny_storeName_cell I.ok.kind hk hc z (λh' z9 hs=>?_);obtain⟨oc,kE,nK⟩:=id z
  refine h { s with heap:=h' } ⟨I.ok,I.os,I.bare,⟨λb o e n hb hx=>?_,λb o e n hb hx=>?_,I.base.free,λb o e hx=>?_,I.base.G1,I.base.Ki,I.base.Jb⟩,⟨m,hn.sameBut hs (dA (cne x c hc)),λj y v' e1 e2 e3=>?_⟩,λy c' e=>?_,I.free,I.Vk,λp hp=>?_,tracked ⟨oc,kE,I.Vk x c hc⟩ hs,by simpa using I.len⟩ ⟨c,hs,.inr hc⟩
  ·exact(hs.2 b (oY (oS (oD e) (I.ok.cab x c p8 hc)))).trans (I.base.keep b o e n hb hx)
  ·obtain⟨sl,e1⟩:=I.base.slot b o e n hb hx;exact⟨sl,(hs.2 b (oY (oS (oD e) (I.ok.cab x c p8 hc)))).trans e1⟩
  ·obtain⟨o',e1⟩:=I.base.there b o e hx;exact⟨o',(hs.2 b (oY (oS (oD e) (I.ok.cab x c p8 hc)))).trans e1⟩
  ·by_cases hj:j=i
   ·subst hj;rw[hi]at e1;cases e1;rw[aE gR]at e2;cases e2;exact⟨u,r,.inr ⟨.inl hk,c,hc,z9⟩⟩
   ·rw[cK (dA hj)]at e2;obtain⟨u',r',q⟩:=hl j y v' e1 e2 e3;refine⟨u',r',?_⟩
    rcases q with q|⟨k,c',e,z'⟩
    ·exact .inl q
    ·refine .inr ⟨k,c',e,z'.sameBut hs ?_⟩;rintro rfl;exact hj (Iy hN e1 (I.ok.inj _ _ _ e hc▸hi))
  ·by_cases hcc:c'=c
   ·subst hcc;exact⟨_,z9⟩
   ·obtain⟨w2,z2⟩:=I.cell y c' e;exact⟨w2,z2.sameBut hs hcc⟩
  ·obtain⟨e,n,ne,nf,d⟩:=I.pin p hp;refine⟨(hs.2 p.1 ?_).trans e,n,ne,nf,d⟩;intro q;rw[q,kE]at e;have q':oc=p.2:=Option.some.inj e;exact d w' (by rw[←q'];exact nK)
theorem Ue{Q:WR}(I:Inv X pins σ H s)(hN:X.N.Nodup)(hi:X.N[i]?=some x)(hx:Loc X.env.scope x)(r:RelV v u)
  (h:∀s',Inv X pins (σ.set i (some v)) H s'→Q () s') (hf:X.fn x=true∨X.env.scope.names.lookup x=some .local:=by first|exact .inl rfl|exact .inr rfl|assumption):wpAny M A (storeName X.env x u) Q E s:=
 F5 I hN hi hx r (λs' I' _=>h s' I') hf
theorem Inv.Zu6{s':Shared}(I:Inv X pins σ H s)(ho:s'.os=s.os)(u:Un (frs X.stack) ch H H' s.heap s'.heap)(hok:HOk X.prog X.w H' s'.heap)(hg:AllBare s'.gens)
  (eT:∀b∈ch,(b∈X.ex∨X.s₀.heap.objs.size≤b)∧b≠X.env.locals∧(∀x c,X.env.cells.lookup x=some c→c≠b)∧∀p∈X.pn++pins,p.1≠b):Inv X pins σ H' s':=by
 obtain⟨h',g',d',t',o'⟩:=s';have e:o'=s.os:=ho;subst e;exact I.call (g':=g') (t':=t') (d':=d') u hok hg eT
end
abbrev XK:=Value→Option Addr→Hp→Prop
abbrev St:=List (Option V)
abbrev VK:=V→Hp→Prop
abbrev TE:=St→Hp→VK→Prop
abbrev TT:=St→Hp→(Bool→Hp→Prop)→Prop
abbrev TA:=St→Hp→(List V→Hp→Prop)→Prop
structure Ends where
 nx:St→Hp→Prop
 rt:VK
 bk:St→Hp→Prop:=λ_ _=>False
 ct:St→Hp→Prop:=λ_ _=>False
abbrev TS:=Ends→St→Hp→Prop
def EP(X:Cx)(pins:XX)(σ:St)(Q:VK)(u:Value)(s':Shared):Prop:=∃v H',Inv X pins σ H' s'∧RelV v u∧Q v H'
def TP(X:Cx)(pins:XX)(σ:St)(Q:Bool→Hp→Prop)(b:Bool)(s':Shared):Prop:=∃H',Inv X pins σ H' s'∧Q b H'
def AP(X:Cx)(pins:XX)(σ:St)(Q:List V→Hp→Prop)(us:WC)(s':Shared):Prop:=∃vs H',Inv X pins σ H' s'∧Vals vs us∧Q vs H'
def SP(X:Cx)(pins:XX)(D:Ends)(f:Flow)(s':Shared):Prop:=
 match f with
 |.next=>∃x4 H',Inv X pins x4 H' s'∧D.nx x4 H'
 |.brk=>∃x4 H',Inv X pins x4 H' s'∧D.bk x4 H'
 |.cont=>∃x4 H',Inv X pins x4 H' s'∧D.ct x4 H'
 |.ret u=>∃v x4 H',Inv X pins x4 H' s'∧RelV v u∧D.rt v H'
def PE(X:Cx)(e:Expr)(t:TE):Prop:=
 ∀(pins:XX) (s:Shared) (σ:St) (H:Hp) (Q:VK),Inv X pins σ H s→t σ H Q→wpAny (model X.prog X.w) X.A (eval e X.env) (EP X pins σ Q) X.xe s
def PT(X:Cx)(e:Expr)(t:TT):Prop:=
 ∀(pins:XX) (s:Shared) (σ:St) (H:Hp) (Q:Bool→Hp→Prop),Inv X pins σ H s→t σ H Q→wpAny (model X.prog X.w) X.A (isTrue e X.env (eval e X.env)) (TP X pins σ Q) X.xe s
def PW(X:Cx)(e:Expr)(t:TT):Prop:=
 ∀(whole:Sem Value) (pins:XX) (s:Shared) (σ:St) (H:Hp) (Q:Bool→Hp→Prop),Inv X pins σ H s→t σ H Q→wpAny (model X.prog X.w) X.A (isTrue e X.env whole) (TP X pins σ Q) X.xe s
theorem PW.pt{t:TT}(h:PW X e t):PT X e t:=h _
def PA(X:Cx)(es:VH)(t:TA):Prop:=
 ∀(pos:Pos) (pins:XX) (s:Shared) (σ:St) (H:Hp) (Q:List V→Hp→Prop),Inv X pins σ H s→t σ H Q→wpAny (model X.prog X.w) X.A (spliced (backTo pos (starEach es X.env))) (AP X pins σ Q) X.xe s
def PS(X:Cx)(st:Stmt)(t:TS):Prop:=
 ∀(pins:XX) (s:Shared) (σ:St) (H:Hp) (D:Ends),Inv X pins σ H s→t D σ H→wpAny (model X.prog X.w) X.A (exec st X.env) (SP X pins D) X.xe s
def PSs(X:Cx)(st:List Stmt)(t:TS):Prop:=
 ∀(pins:XX) (s:Shared) (σ:St) (H:Hp) (D:Ends),Inv X pins σ H s→t D σ H→wpAny (model X.prog X.w) X.A (execs st X.env) (SP X pins D) X.xe s
theorem thn{α:Type}{t:Sem α}{Q Q':α→Shared→Prop}(h:wpAny M A t Q E s)(hQ:∀a s,Q a s→Q' a s):wpAny M A t Q' E s:=iD h hQ λ_ _ x=>x
section
variable {X:Cx}
inductive Znk(i:Nat)(σ:St)(H:Hp)(Q:VK):Prop
 |mk(v:_)(h1:σ[i]?=some (some v))(h2:Q v H):Znk i σ H Q
def Zff(i:Nat):TE:=λσ H Q=>Znk i σ H Q
def tC(v:V):TE:=λ_ H Q=>Q v H
theorem Zby{pos:Pos}(hN:X.N[i]?=some x)(hv:Vis X.env.scope x)(hd:(x==("__debug__" : Str))=false:=by decide)(v0:(x==("__classdict__" : Str))=false:=by decide):PE X (.Name x pos) (Zff i):=by
 intro pins s σ H Q I h;obtain⟨v,e,h⟩:=h;obtain⟨m,hn,hl⟩:=I.loc;obtain⟨u,r,l⟩:=hl i x v hN e hv;have fin:EP X pins σ Q u s:=⟨v,H,I,r,h⟩
 rcases l with ⟨hk,hm⟩|⟨hk,c,hc,Zep⟩
 ·exact wpAny_Name (wpAny_loadName_local I.ok.kind hk hn hm fin) hd
 ·rcases hk with hk|hk
  ·exact wpAny_Name (wpAny_loadName_cell I.ok.kind hk hc Zep fin) hd
  ·exact wpAny_Name (wpAny_loadName_free I.ok.kind hk hc Zep fin v0) hd
theorem Zf{i j pos}:PE X (.Constant (.int i) j pos) (tC (.int i)):=λ_ _ _ H _ I h=>wpAny_Constant_int ⟨.int i,H,I.tok _,⟨_,rfl⟩,h⟩
theorem W0{b j pos}:PE X (.Constant (.bool b) j pos) (tC (.bl b)):=λ_ _ _ H _ I h=>Constant_bool ⟨.bl b,H,I,rfl,h⟩
theorem Zja{j pos}:PE X (.Constant .none j pos) (tC .non):=λ_ _ _ H _ I h=>Constant_none ⟨.non,H,I,rfl,h⟩
theorem Z4{x j pos}:PE X (.Constant (.str x) j pos) (tC (.str x)):=λ_ _ _ H _ I h=>Calls.Constant_str ⟨.str x,H,I.tok _,⟨_,rfl⟩,h⟩
def Gl(X:Cx)(x:Str):Prop:=X.env.kindOf x=some .globalImplicit
theorem Pl{pos:Pos}(I:Inv X pins σ H s)(hg:Gl X x)(hm:X.mg x=some u)(h:Q u s)
  (hd:(x==("__debug__" : Str))=false:=by decide):wpAny (model X.prog X.w) X.A (eval (.Name x pos) X.env) Q E s:=
 Calls.Name_function_global I.ok.kind hg (Calls.loadGlobal_global (by rw[I.ok.glob];exact I.mod.glob.keeps I.bk) hm h) hd
theorem Qq{pos:Pos}(I:Inv X pins σ H s)(hg:Gl X x)(hm:X.mg x=none)(hv:bootBuiltins x=some u)(h:Q u s)
  (hn:x≠"__name__":=by decide) (hd:(x==("__debug__" : Str))=false:=by decide):wpAny (model X.prog X.w) X.A (eval (.Name x pos) X.env) Q E s:=by
 obtain⟨mb,h1,h2⟩:=I.mod.blt;exact Calls.Name_function_global I.ok.kind hg (Calls.loadGlobal_builtin (by rw[I.ok.glob];exact I.mod.glob.keeps I.bk) hm (by rw[I.ok.blt];exact h1.keeps I.bk) ((h2 x hn).trans hv) h) hd
theorem Vu{pos:Pos}(hg:Gl X x)(hm:X.mg x=some u)(r:RelV v u)(hd:(x==("__debug__" : Str))=false:=by decide):PE X (.Name x pos) (tC v):=
 λ_ _ _ H _ I h=>Pl I hg hm ⟨v,H,I,r,h⟩ hd
theorem S3{pos:Pos}(hg:Gl X x)(hm:X.mg x=none)(hv:bootBuiltins x=some u)(r:RelV v u)(hn:x≠"__name__":=by decide)(hd:(x==("__debug__" : Str))=false:=by decide):PE X (.Name x pos) (tC v):=
 λ_ _ _ H _ I h=>Qq I hg hm hv ⟨v,H,I,r,h⟩ hn hd
variable {a b:Expr}{ta tb:TE}{pos:Pos}
def PC(X:Cx)(op:CmpOp)(a b:Expr)(t:TE):Prop:=
 ∀(pins:XX) (s:Shared) (σ:St) (H:Hp) (Q:VK),Inv X pins σ H s→t σ H Q→
  wpAny (model X.prog X.w) X.A (eval a X.env) (λv x3=>wpAny (model X.prog X.w) X.A (eval b X.env) (λu y6=>wpAny (model X.prog X.w) X.A (compareOp op v u) (EP X pins σ Q) X.xe y6) X.xe x3) X.xe s
theorem Zjo(b:Expr)(h:op≠.In)(h2:op≠.NotIn):behindInMarks op b=false:=by
 have e1:(op==CmpOp.In)=false:=by cases op<;>first|rfl|exact absurd rfl h
 have e2:(op==CmpOp.NotIn)=false:=by cases op<;>first|rfl|exact absurd rfl h2
 cases b<;>simp[behindInMarks,e1,e2]
inductive tBI(Q:Bool→Hp→Prop)(x:V)(H1:Hp):Prop
 |mk(c:_)(h1:x=.bl c)(h2:Q c H1):tBI Q x H1
def tB(t:TE):TT:=λσ H Q=>t σ H λx H1=>tBI Q x H1
theorem J6{t:TE}(h:PC X op a b t)(h1:behindInMarks op b=false:=by first|exact Zjo _ (by decide) (by decide)|rfl):PT X (.Compare a [op] [b] pos) (tB t):=by
 intro pins s σ H Q I hw;refine wpAny_isTrue_Compare1 (thn (h pins s σ H _ I hw) λv s1 h1=>thn h1 λu s2 h2=>thn h2 λc s3 ⟨x,H1,I1,r1,q1⟩=>?_) h1;obtain⟨d,rfl,q⟩:=q1;cases r1;exact dR ⟨H1,I1,q⟩
variable {tA tB':TT}{rest:VH}
def Zls(t u:TT):TT:=λσ H Q=>t σ H λc H1=>if c=true then u σ H1 Q else Q false H1
def tOr(t u:TT):TT:=λσ H Q=>t σ H λc H1=>if c=true then Q true H1 else u σ H1 Q
def Zso(t:TT):TT:=λσ H Q=>t σ H λc H1=>Q (!c) H1
theorem Ck(ha:PT X a tA):PW X (.BoolOp .And [a] pos) tA:=by
 intro wh pins s σ H Q I h;refine isTrue_and (thn (ha pins s σ H Q I h) λc s1 e=>?_)
 cases c with
 |true=>exact isTrue_and_nil e
 |false=>exact e
theorem Tj(ha:PT X a tA):PW X (.BoolOp .Or [a] pos) tA:=by
 intro wh pins s σ H Q I h;refine isTrue_or (thn (ha pins s σ H Q I h) λc s1 e=>?_)
 cases c with
 |false=>exact isTrue_or_nil e
 |true=>exact e
theorem Zbv(ha:PT X a tA)(hb:PW X (.BoolOp .And (b :: rest) pos) tB'):PW X (.BoolOp .And (a :: b :: rest) pos) (Zls tA tB'):=by
 intro wh pins s σ H Q I h;refine isTrue_and (thn (ha pins s σ H _ I h) λc s1 ⟨H1,I1,q1⟩=>?_)
 cases c with
 |true=>exact hb wh pins s1 σ H1 Q I1 q1
 |false=>exact⟨H1,I1,q1⟩
theorem Si(ha:PT X a tA)(hb:PW X (.BoolOp .Or (b :: rest) pos) tB'):PW X (.BoolOp .Or (a :: b :: rest) pos) (tOr tA tB'):=by
 intro wh pins s σ H Q I h;refine isTrue_or (thn (ha pins s σ H _ I h) λc s1 ⟨H1,I1,q1⟩=>?_)
 cases c with
 |true=>exact⟨H1,I1,q1⟩
 |false=>exact hb wh pins s1 σ H1 Q I1 q1
theorem Um(ha:PT X a tA):PT X (.UnaryOp .Not a pos) (Zso tA):=by
 intro pins s σ H Q I h;exact isTrue_not (ha pins s σ H (λc H1=>Q (!c) H1) I h)
inductive Zhs(tb:TE)(σ:St)(Q:VK)(x:V)(H1:Hp):Prop
 |mk(c:_)(h1:x=.bl c)(h2:if c=true then tb σ H1 Q else Q (.bl false) H1):Zhs tb σ Q x H1
def Zsx(ta tb:TE):TE:=λσ H Q=>ta σ H λx H1=>Zhs tb σ Q x H1
inductive Znm(tb:TE)(σ:St)(Q:VK)(x:V)(H1:Hp):Prop
 |mk(c:_)(h1:x=.bl c)(h2:if c=true then Q (.bl true) H1 else tb σ H1 Q):Znm tb σ Q x H1
def tOrV(ta tb:TE):TE:=λσ H Q=>ta σ H λx H1=>Znm tb σ Q x H1
inductive Zhm(Q:VK)(x:V)(H1:Hp):Prop
 |mk(c:_)(h1:x=.bl c)(h2:Q (.bl (!c)) H1):Zhm Q x H1
def Zsn(ta:TE):TE:=λσ H Q=>ta σ H λx H1=>Zhm Q x H1
theorem Zbz{op}{t:TE}(h:PE X a t):PE X (.BoolOp op [a] pos) t:=λpins s σ H Q I hw=>BoolOp_one (h pins s σ H Q I hw)
theorem Zjf(ha:PE X a ta)(hb:PE X (.BoolOp .And (b :: rest) pos) tb):PE X (.BoolOp .And (a :: b :: rest) pos) (Zsx ta tb):=by
 intro pins s σ H Q I h;refine BoolOp_and (thn (ha pins s σ H _ I h) λv s1 ⟨x,H1,I1,r1,q1⟩=>?_);obtain⟨c,rfl,q1⟩:=q1;cases r1;refine dR ?_
 cases c with
 |true=>exact hb pins s1 σ H1 Q I1 q1
 |false=>exact⟨.bl false,H1,I1,rfl,q1⟩
theorem Zts(ha:PE X a ta)(hb:PE X (.BoolOp .Or (b :: rest) pos) tb):PE X (.BoolOp .Or (a :: b :: rest) pos) (tOrV ta tb):=by
 intro pins s σ H Q I h;refine BoolOp_or (thn (ha pins s σ H _ I h) λv s1 ⟨x,H1,I1,r1,q1⟩=>?_);obtain⟨c,rfl,q1⟩:=q1;cases r1;refine dR ?_
 cases c with
 |false=>exact hb pins s1 σ H1 Q I1 q1
 |true=>exact⟨.bl true,H1,I1,rfl,q1⟩
theorem Zp9(ha:PE X a ta):PE X (.UnaryOp .Not a pos) (Zsn ta):=by
 intro pins s σ H Q I h;refine UnaryOp_ (thn (ha pins s σ H _ I h) λv s1 ⟨x,H1,I1,r1,q1⟩=>?_);obtain⟨c,rfl,q1⟩:=q1;cases r1;exact not_of (dR ⟨.bl (!c),H1,I1,rfl,q1⟩)
def tIf(t:TT)(ta tb:TE):TE:=λσ H Q=>t σ H λc H1=>if c=true then ta σ H1 Q else tb σ H1 Q
theorem Ag(hc:PT X c tA)(ha:PE X a ta)(hb:PE X b tb):PE X (.IfExp c a b pos) (tIf tA ta tb):=by
 intro pins s σ H Q I h;refine wpAny_IfExp (thn (hc pins s σ H _ I h) λd s1 ⟨H1,I1,q1⟩=>?_)
 cases d with
 |true=>exact ha pins s1 σ H1 Q I1 q1
 |false=>exact hb pins s1 σ H1 Q I1 q1
end
def SqL(K:W.Frag)(H:Hp)(a:Addr)(xs:List V):Prop:=
 Rd H a (.lst xs)∨
  ∃(o:Obj) (its:WN) (n:Nat),K.lookup a=some o∧o.cls=.type "list"∧o.dict=none∧o.data=.seq its n∧its.size≤sizeLine∧Vals xs its.toList
def SqT(K:W.Frag)(H:Hp)(a:Addr)(xs:List V):Prop:=
 Rd H a (.tup xs)∨
  ∃(o:Obj) (its:WN) (n:Nat),K.lookup a=some o∧o.cls=.type "tuple"∧o.data=.seq its n∧its.size≤sizeLine∧Vals xs its.toList
def absV:Value→Option V
 |.none=>some .non
 |.bool b=>some (.bl b)
 |.int i _=>some (.int i)
 |.str x _=>some (.str x)
 |.bytes b _=>some (.byt b)
 |.float b _=>some (.flt b)
 |.ref a=>some (.ref a)
 |.type n=>some (.ty n)
 |_=>none
theorem RelV.abs{x:V}(r:RelV x u):absV u=some x:=by
 cases x with
 |non=>cases r;rfl
 |bl _=>cases r;rfl
 |int _=>obtain⟨t,rfl⟩:=r;rfl
 |str _=>obtain⟨t,rfl⟩:=r;rfl
 |byt _=>obtain⟨t,rfl⟩:=r;rfl
 |flt _=>obtain⟨t,rfl⟩:=r;rfl
 |ref _=>cases r;rfl
 |ty _=>cases r;rfl
theorem RelV.inj{x y:V}{u:Value}(r:RelV x u)(q:RelV y u):x=y:=Option.some.inj (r.abs.symm.trans q.abs)
theorem Vals.inj:∀{xs ys:List V}{us:WC},Vals xs us→Vals ys us→xs=ys
 |_,_,_,.nil,.nil=>rfl
 |_,_,_,.cons r t,.cons r' t'=>by rw[r.inj r',Vals.inj t t']
section
variable {X:Cx}{pins:XX}{σ:St}{H:Hp}{s:Shared}{a:Addr}{xs ys:List V}
theorem SqL.of(h:H a=some (.lst xs)):SqL K H a xs:=.inl (.inl h)
theorem SqT.of(h:H a=some (.tup xs)):SqT K H a xs:=.inl (.inl h)
theorem Inv.list(I:Inv X pins σ H s)(h:SqL X.K H a xs):∃its:List Value,Vals xs its∧PlainL s.heap a its.toArray∧xs.length≤sizeLine:=by
 rcases h with h|⟨o,its,n,hk,hc,hd,hs,hz,r⟩
 ·obtain⟨z,its,n,r,e⟩:=h.ok I.hok;exact⟨its,r,⟨_,n,e,rfl,rfl,rfl⟩,z⟩
 ·refine⟨its.toList,r,⟨o,n,I.kIn a o hk,hc,hd,by simpa using hs⟩,?_⟩;have e:=r.length;simp only[oZ]at e;lia
theorem Inv.tuple(I:Inv X pins σ H s)(h:SqT X.K H a xs):∃its:List Value,Vals xs its∧IsTup s.heap a its.toArray∧xs.length≤sizeLine:=by
 rcases h with h|⟨o,its,n,hk,hc,hs,hz,r⟩
 ·obtain⟨z,its,r,p⟩:=h.ok I.hok;exact⟨its,r,p,z⟩
 ·refine⟨its.toList,r,⟨o,I.kIn a o hk,hc,n,by simpa using hs⟩,?_⟩;have e:=r.length;simp only[oZ]at e;lia
theorem Inv.He(I:Inv X pins σ H s)(h:SqL X.K H a xs)(h':SqL X.K H a ys):xs=ys:=by
 obtain⟨its,r,⟨o,n,e,_,_,d⟩,_⟩:=I.list h;obtain⟨its',r',⟨o',n',e',_,_,d'⟩,_⟩:=I.list h';rw[e]at e';cases e';rw[d]at d'
 injection d' with d1 _
 have:its=its':=by simpa using congrArg Array.toList d1
 subst this;exact r.inj r'
theorem Inv.Mk(I:Inv X pins σ H s)(h:SqT X.K H a xs)(h':SqT X.K H a ys):xs=ys:=by
 obtain⟨its,r,⟨o,e,_,n,d⟩,_⟩:=I.tuple h;obtain⟨its',r',⟨o',e',_,n',d'⟩,_⟩:=I.tuple h';rw[e]at e';cases e';rw[d]at d'
 injection d' with d1 _
 have:its=its':=by simpa using congrArg Array.toList d1
 subst this;exact r.inj r'
end
abbrev Cx.Nb(X:Cx)(E:XW):Cx:={ X with xe:=E }
abbrev Cx.nox(X:Cx):Cx:=X.Nb λ_ _=>False
theorem Cx.Ok.Nb{X:Cx}(ok:X.Ok)(E:XW):(X.Nb E).Ok:=
 ⟨ok.mod,ok.kind,ok.glob,ok.blt,ok.above,ok.inj,ok.has,ok.cab,ok.hd,ok.frames,ok.stk,ok.exf,ok.bs,ok.bsz,ok.Zb7,ok.Zcr,ok.Ob,ok.frf⟩
theorem Cx.Ok.Rt{X:Cx}(ok:(X.Nb E).Ok):X.Ok:=
 ⟨ok.mod,ok.kind,ok.glob,ok.blt,ok.above,ok.inj,ok.has,ok.cab,ok.hd,ok.frames,ok.stk,ok.exf,ok.bs,ok.bsz,ok.Zb7,ok.Zcr,ok.Ob,ok.frf⟩
section
variable {X:Cx}{pins:XX}{σ:St}{H:Hp}{s:Shared}{E:XW}
theorem Inv.Nb(I:Inv X pins σ H s)(E:XW):Inv (X.Nb E) pins σ H s:=⟨I.ok.Nb E,I.os,I.bare,I.base,I.loc,I.cell,I.free,I.Vk,I.pin,I.hok,I.len⟩
theorem Inv.Rt(I:Inv (X.Nb E) pins σ H s):Inv X pins σ H s:=⟨I.ok.Rt,I.os,I.bare,I.base,I.loc,I.cell,I.free,I.Vk,I.pin,I.hok,I.len⟩
theorem SP.Rt{D:Ends}{f:Flow}{s':Shared}(h:SP (X.Nb E) pins D f s'):SP X pins D f s':=by
 cases f with
 |next=>obtain⟨x4,H',I,q⟩:=h;exact⟨x4,H',I.Rt,q⟩
 |brk=>obtain⟨x4,H',I,q⟩:=h;exact⟨x4,H',I.Rt,q⟩
 |cont=>obtain⟨x4,H',I,q⟩:=h;exact⟨x4,H',I.Rt,q⟩
 |ret u=>obtain⟨v,x4,H',I,r,q⟩:=h;exact⟨v,x4,H',I.Rt,r,q⟩
theorem PSs.nox{st:List Stmt}{t:TS}(h:PSs X.nox st t):PSs X st t:=λpins s σ H D I hw=>
 iD (h pins s σ H D (I.Nb _) hw) (λ_ _ q=>q.Rt) λ_ _ z=>False.elim z
end
section
variable {X:Cx}{st:Stmt}{rest:List Stmt}{t u:TS}{e:Expr}{te:TE}{pos:Pos}
def Znn:TS:=λD σ H=>D.nx σ H
def X8(t u:TS):TS:=λD σ H=>t { D with nx:=u D } σ H
theorem Zu:PSs X [] Znn:=λ_ _ σ H _ I h=>ZC ⟨σ,H,I,h⟩
theorem Ze(h1:PS X st t)(h2:PSs X rest u):PSs X (st :: rest) (X8 t u):=by
 intro pins s σ H D I h
 refine wpAny_execs_cons (thn (h1 pins s σ H { D with nx:=u D } I h) λf s1 q=>?_)
 cases f with
 |next=>
  obtain⟨x4,H',I',q⟩:=q;exact h2 pins s1 x4 H' D I' q
 |ret v=>exact q
 |brk=>exact q
 |cont=>exact q
theorem Zg(h1:PS X st t):PSs X [st] t:=by
 intro pins s σ H D I h;refine wpAny_execs_cons (thn (h1 pins s σ H D I h) λf s1 q=>?_)
 cases f with
 |next=>exact ZC q
 |ret v=>exact q
 |brk=>exact q
 |cont=>exact q
theorem Inv.quiet(I:Inv X pins σ H s):interactive X.env=false:=by simp[interactive,I.ok.kind]
def Zss(te:TE):TS:=λD σ H=>te σ H λ_ H1=>D.nx σ H1
theorem Xu(he:PE X e te)(hs:swapsWith e none pos.line X.env=pure false:=by rfl):PS X (.Expr e pos) (Zss te):=by
 intro pins s σ H D I h;exact wpAny_Expr_any (thn (he pins s σ H _ I h) λv s1 ⟨x,H1,I1,r1,q1⟩=>⟨σ,H1,I1,q1⟩) I.quiet hs
def tRet(te:TE):TS:=λD σ H=>te σ H D.rt
theorem Zl(he:PE X e te):PS X (.Return (some e) pos) (tRet te):=by
 intro pins s σ H D I h;exact wpAny_Return_some (thn (he pins s σ H _ I h) λv s1 ⟨x,H1,I1,r1,q1⟩=>⟨x,σ,H1,I1,r1,q1⟩)
def Zlq(c:TT)(t u:TS):TS:=λD σ H=>c σ H λb H1=>if b=true then t D σ H1 else u D σ H1
theorem Yd{a b:List Stmt}{tc:TT}(hc:PT X c tc)(ha:PSs X a t)(hb:PSs X b u):PS X (.If c a b pos) (Zlq tc t u):=by
 intro pins s σ H D I h;refine wpAny_If (thn (hc pins s σ H _ I h) λd s1 ⟨H1,I1,q1⟩=>?_)
 cases d with
 |true=>exact ha pins s1 σ H1 D I1 q1
 |false=>exact hb pins s1 σ H1 D I1 q1
end
abbrev TG:=V→St→Hp→(St→Hp→Prop)→Prop
abbrev TGs:=List V→St→Hp→(St→Hp→Prop)→Prop
def PG(X:Cx)(target:Expr)(t:TG):Prop:=
 ∀(pins:XX) (s:Shared) (σ:St) (H:Hp) (v:V) (u:Value) (Q:St→Hp→Prop),Inv X pins σ H s→RelV v u→t v σ H Q→
  wpAny (model X.prog X.w) X.A (assign target X.env u) (λ_ s'=>∃x4 H',Inv X pins x4 H' s'∧Q x4 H') X.xe s
def PGs(X:Cx)(ts:VH)(t:TGs):Prop:=
 ∀(pins:XX) (s:Shared) (σ:St) (H:Hp) (vs:List V) (us:WC) (Q:St→Hp→Prop),Inv X pins σ H s→Vals vs us→t vs σ H Q→
  wpAny (model X.prog X.w) X.A (assignInOrder ((assignEach ts X.env).map (·.2)) us) (λ_ s'=>∃x4 H',Inv X pins x4 H' s'∧Q x4 H') X.xe s
abbrev Zr7:=V→V→V→Hp→(Hp→Prop)→Prop
def Zvf(X:Cx)(t:Zr7):Prop:=
 ∀(pins:XX) (s:Shared) (σ:St) (H:Hp) (o i v:V) (ov iv u:Value) (Q:Hp→Prop),Inv X pins σ H s→RelV o ov→RelV i iv→RelV v u→t o i v H Q→
  wpAny (model X.prog X.w) X.A (setItem ov iv u) (λ_ s'=>∃H',Inv X pins σ H' s'∧Q H') X.xe s
section
variable {X:Cx}{pos:Pos}
def So(i:Nat):TG:=λv σ H Q=>Q (σ.set i (some v)) H
theorem Zn(hN:X.N.Nodup)(hi:X.N[i]?=some x)(hx:Loc X.env.scope x)(hf:X.fn x=true∨X.env.scope.names.lookup x=some .local:=by first|exact .inl rfl|exact .inr rfl|assumption):PG X (.Name x pos) (So i):=by
 intro pins s σ H v u Q I r h;exact wpAny_assign_Name (Ue I hN hi hx r (λs' I'=>⟨_,H,I',h⟩) hf)
def Zkj:TGs:=λvs σ H Q=>vs=[]∧Q σ H
inductive Zkk(t:TG)(u:TGs)(vs:List V)(σ:St)(H:Hp)(Q:St→Hp→Prop):Prop
 |mk(v r:_)(h1:vs=v :: r)(h2:t v σ H λx4 H'=>u r x4 H' Q):Zkk t u vs σ H Q
def Lv(t:TG)(u:TGs):TGs:=λvs σ H Q=>Zkk t u vs σ H Q
theorem Ve:PGs X [] Zkj:=by
 intro pins s σ H vs us Q I r h;obtain⟨e,h⟩:=h;subst e;cases r;exact assignInOrder_nil ⟨σ,H,I,h⟩
theorem Ye{t:TG}{u:TGs}(h1:PG X e t)(h2:PGs X es u)
  (hs:(assignEach (e :: es) X.env).map (·.2)=assign e X.env :: (assignEach es X.env).map (·.2):=by rfl):PGs X (e :: es) (Lv t u):=by
 intro pins s σ H vs us Q I r h;obtain⟨v,vr,e1,h⟩:=h;subst e1
 cases r with
 |cons r rr=>
  rw[hs];refine assignInOrder_cons (thn (h1 pins s σ H _ _ _ I r h) λ_ s1 ⟨n9,H1,I1,q1⟩=>?_);exact h2 pins s1 n9 H1 _ _ Q I1 rr q1
inductive Zov(K:W.Frag)(n:Nat)(t:TGs)(v:V)(σ:St)(H:Hp)(Q:St→Hp→Prop):Prop
 |mk(a xs:_)(h1:v=.ref a)(h2:SqT K H a xs)(h3:xs.length=n)(h4:t xs σ H Q):Zov K n t v σ H Q
def Zgf(K:W.Frag)(n:Nat)(t:TGs):TG:=λv σ H Q=>Zov K n t v σ H Q
theorem Zp8{k:Nat}{t:TGs}(hc:X.calm=true)(h:PGs X es t)
  (hn:(assignEach es X.env).length=n:=by rfl) (y0:(assignEach es X.env).findIdx? (·.1)=none:=by rfl):PG X (.Tuple es k pos) (Zgf X.K n t):=by
 intro pins s σ H v u Q I r hw;obtain⟨a,xs,e1,hq,hl,hw⟩:=hw;subst e1;cases r;obtain⟨its,rv,ht,hz⟩:=I.tuple hq;refine assign_Tuple_tuple (I.ok.hd hc) ht (by simp[hn,←hl,rv.length]) y0 λh' hx=>?_
 have I1:Inv X pins σ H { s with heap:=h' }:=I.kept (t':=s.toks) λb o e=>hx b o (oY (oD e)) e;exact h pins _ σ H xs _ Q I1 (by simpa using rv) hw
def gSub(to ti:TE)(t:Zr7):TG:=λv σ H Q=>to σ H λo H1=>ti σ H1 λi H2=>t o i v H2 λH3=>Q σ H3
theorem Mu{o i:Expr}{ti:TE}{t:Zr7}(ho:PE X o to)(hi:PE X i ti)(hs:Zvf X t)
  (ha:∀v,assign (.Subscript o i pos) X.env v=(do
   let ov ←holding [v] (eval o X.env)
   let iv ←holding [v,ov] (eval i X.env)
   standAt pos
   holding [v,ov,iv] (setItem ov iv v)
   release [v,ov,iv] []):=by intro _;rfl):PG X (.Subscript o i pos) (gSub to ti t):=by
 intro pins s σ H v u Q I r h;rw[ha];refine rS (lE (thn (ho pins s σ H _ I h) λov s1 ⟨x,H1,I1,r1,q1⟩=>?_));refine rS (lE (thn (hi pins s1 σ H1 _ I1 q1) λiv s2 ⟨y,H2,I2,r2,q2⟩=>?_));refine rS (cR (rS (lE (thn (hs pins s2 σ H2 x y v ov iv u _ I2 r1 r2 r q2) λ_ s3 ⟨H3,I3,q3⟩=>?_))));exact wpAny_release ⟨σ,H3,I3,q3⟩
def Zpj(te:TE)(g:TG):TS:=λD σ H=>te σ H λx H1=>g x σ H1 D.nx
theorem S2(he:PE X e te)(hg:PG X tg g)(hs:swapsWithSole [tg] e pos.line X.env=pure false:=by rfl)(hw:swappedStores [tg] e X.env=pure none:=by rfl)
  (h1:(assignEach [tg] X.env).map (·.2)=[assign tg X.env]:=by rfl):PS X (.Assign [tg] e pos) (Zpj te g):=by
 intro pins s σ H D I h;refine wpAny_Assign_stores (thn (he pins s σ H _ I h) λv s1 ⟨x,H1,I1,r1,q1⟩=>?_) hs hw;rw[h1];exact thn (hg pins s1 σ H1 x v _ I1 r1 q1) λ_ s2 q=>q
theorem Zr{pos':Pos}(hN:X.N.Nodup)(hi:X.N[i]?=some x)(hx:Loc X.env.scope x)(he:PE X e te)(hs:swapsWith e (some (.Name x pos')) pos.line X.env=pure false:=by rfl)(hf:X.fn x=true∨X.env.scope.names.lookup x=some .local:=by first|exact .inl rfl|exact .inr rfl|assumption):
  PS X (.Assign [.Name x pos'] e pos) (Zpj te (So i)):=by
 intro pins s σ H D I h;refine wpAny_Assign_Name (thn (he pins s σ H _ I h) λv s1 ⟨y,H1,I1,r1,q1⟩=>?_) hs;exact Ue I1 hN hi hx r1 (λs2 I2=>⟨_,H1,I2,q1⟩) hf
inductive Znl(i:Nat)(j:Nat)(D:Ends)(σ:St)(vs:List V)(H1:Hp):Prop
 |mk(v w:_)(h1:vs=[v,w])(h2:D.nx ((σ.set i (some v)).set j (some w)) H1):Znl i j D σ vs H1
def tPar(i j:Nat)(ta:TA):TS:=λD σ H=>ta σ H λvs H1=>Znl i j D σ vs H1
theorem Zp5{y:Str}{a b:Expr}{ta:TA}{px py pt:Pos}{kt k2 rD}(hc:X.calm=true)(hN:X.N.Nodup)(hi:X.N[i]?=some x)(hj:X.N[j]?=some y)(gP:i≠j)
  (hx:X.env.scope.names.lookup x=some .local) (hy:X.env.scope.names.lookup y=some .local) (ha:PA X [a,b] ta)
  (hw:swappedStores [.Tuple [.Name x px,.Name y py] kt pt] (.Tuple [a,b] k2 rD) X.env=pure (some [x,y]))
  (hs:swapsWithSole [.Tuple [.Name x px,.Name y py] kt pt] (.Tuple [a,b] k2 rD) pos.line X.env=pure false:=by rfl) :
  PS X (.Assign [.Tuple [.Name x px,.Name y py] kt pt] (.Tuple [a,b] k2 rD) pos) (tPar i j ta):=by
 intro pins s σ H D I h;rw[exec_Assign_arm];refine rS (cR ?_);rw[hs];refine rS (rT ?_);rw[if_neg (by decide)];refine rS (Tuple_ (thn (ha _ pins s σ H _ I h) λus s1 ⟨vs,H1,I1,r1,q1⟩=>?_));obtain⟨v,w,e1,q1⟩:=q1;subst e1
 obtain⟨u1,u2,rfl,rv,j4⟩:∃u1 u2,us=[u1,u2]∧RelV v u1∧RelV w u2:=by
  cases r1 with
  |cons p q=>
   cases q with
   |cons p' q'=>
    cases q';exact⟨_,_,rfl,p,p'⟩
 refine lQ ?_ (by show 2≤sizeLine;decide)
 have I2:Inv X pins σ H1 { s1 with heap:=s1.heap.push { cls:=.type "tuple",data:=.seq [u1,u2].toArray } }:=I1.kept (t':=s1.toks) λb o e=>rV _ e;rw[hw];refine rS (rT ?_);show wpAny (model X.prog X.w) X.A (do rule "assign.swapped-stores";let items ←unpackItems (.ref s1.heap.objs.size) 2 none;assignInOrder [λv=>bindName X.env y v,λv=>bindName X.env x v] items.reverse;pure Flow.next) _ _ _;refine rS (cA (rS (unpackItems_tuple (items:=#[u1,u2]) (I.ok.hd hc) (IsTup.new s1.heap _) λh' m9=>?_)));have I3:=I2.kept (h':=h') (t':=s1.toks) λb o e=>m9 b o (oY (oD e)) e;show wpAny _ _ (assignInOrder [λv=>bindName X.env y v,λv=>bindName X.env x v] [u2,u1] >>= λ_=>pure Flow.next) _ _ _;refine rS (assignInOrder_cons (wpAny_bindName (Ue I3 hN hj (.inl hy) j4 (λs2 I4=>?_) (.inr hy))));refine assignInOrder_cons (wpAny_bindName (Ue I4 hN hi (.inl hx) rv (λs3 I5=>assignInOrder_nil (rT ?_)) (.inr hx)));rw[List.set_comm _ _ (dA gP)]at I5;exact⟨_,H1,I5,q1⟩
end
section
variable {X:Cx}{pos:Pos}
inductive Zdk(c:TT)(tb:TS)(D:Ends)(σ:St)(H:Hp):Prop
 |mk(W:Nat→St→Hp→Prop)(h1:(∃m,W m σ H))(h2:∀m σ H,W m σ H→c σ H λb H1=>if b=true then ∃N:St→Hp→Prop,(∀x4 H',N x4 H'→∃m',m'<m∧W m' x4 H')∧tb { D with nx:=N,ct:=N,bk:=D.nx } σ H1 else D.nx σ H1):Zdk c tb D σ H
def Zpa(c:TT)(tb:TS):TS:=λD σ H=>Zdk c tb D σ H
theorem J7{tc:TT}(hp:PassesOwn (model X.prog X.w) X.A X.env X.xe)(hc:PT X c tc)(hb:PSs X body tb):PS X (.While c body [] pos) (Zpa tc tb):=by
 intro pins s σ H D I h;obtain⟨W,⟨m0,w0⟩,turn⟩:=h;refine wpAny_While (codeAny_whileLoop (λn s'=>∃x4 H',Inv X pins x4 H' s'∧W n x4 H') ?_ m0 ⟨σ,H,I,w0⟩);rintro n s1 ⟨n9,H1,I1,w1⟩;refine bE hp (thn (hc pins s1 n9 H1 _ I1 (turn n n9 H1 w1)) λb s2 ⟨H2,I2,q2⟩=>?_)
 cases b with
 |true=>
  obtain⟨N,hN,q2⟩:=q2;rw[if_pos rfl];refine bE hp (thn (hb pins s2 n9 H2 _ I2 q2) λf s3 q3=>?_)
  cases f with
  |next=>
   obtain⟨eQ,H3,I3,n3⟩:=q3;obtain⟨m',hm,w3⟩:=hN eQ H3 n3;exact⟨m',hm,eQ,H3,I3,w3⟩
  |cont=>
   obtain⟨eQ,H3,I3,n3⟩:=q3;obtain⟨m',hm,w3⟩:=hN eQ H3 n3;exact⟨m',hm,eQ,H3,I3,w3⟩
  |brk=>exact q3
  |ret v=>exact q3
 |false=>
  rw[if_neg oW];exact ZC ⟨n9,H2,I2,q2⟩
end
structure It where
 go:Nat→Hp→Prop
 yld:Nat→Hp→V→Hp→Prop
 stop:Nat→Hp→Prop
def Gw(X:Cx)(pins:XX)(H:Hp)(b:Addr):Prop:=
 H b=none∧b≠X.env.locals∧b∉X.fs∧(b∈X.ex∨X.s₀.heap.objs.size≤b)∧(∀x c,X.env.cells.lookup x=some c→c≠b)∧∀p∈X.pn++pins,p.1≠b
theorem Inv.Fg{b:Addr}(I:Inv X pins σ H s)(hb:s.heap.objs.size≤b)(hn:H' b=none):Gw X pins H' b:=by
 refine⟨hn,iZ (oS I.lt hb),I.Zt0 hb,.inr (lC I.sz hb),λx c e z=>?_,λp hp z=>?_⟩
 ·obtain⟨v,q⟩:=I.cell x c e;exact absurd (oS q.lt (by rw[z];exact hb)) (iA _)
 ·exact absurd (oS (oD (I.pin p hp).1) (by rw[z];exact hb)) (iA _)
structure Turn(P:Program)(w:World)(K:W.Frag)(tg:Expr)(J:It)(fp:VB)(it:Addr)(tn:Nat→Heap→Prop):Prop where
 mem:it∈fp
 obj:∀i h,tn i h→∀b∈fp,∃o,h.get? b=some o∧∀v,o.data≠.cell v
 keep:∀i h h',tn i h→(∀b∈fp,∀o,h.get? b=some o→h'.get? b=some o)→tn i h'
 item:∀(X:Cx),X.prog=P→X.w=w→X.K=K→X.calm=true→∀(i:Nat) (pins:XX) (s:Shared) (σ:St) (H:Hp) (E:XW),Inv X pins σ H s→(∀b∈fp,Gw X pins H b)→tn i s.heap→J.go i H→
  wpAny (model P w) X.A (pyNext (.ref it)) (λr s1=>∃u,r=some u∧
   wpAny (model P w) X.A (letOwnedTupleGo tg (.ref it) u) (λ_ s2=>∃x H',Inv X pins σ H' s2∧RelV x u∧J.yld i H x H'∧tn (i+1) s2.heap∧∀b∈fp,H' b=none) E s1) E s
 done:∀(X:Cx),X.prog=P→X.w=w→X.K=K→X.calm=true→∀(i:Nat) (pins:XX) (s:Shared) (σ:St) (H:Hp) (E:XW),Inv X pins σ H s→(∀b∈fp,Gw X pins H b)→tn i s.heap→J.stop i H→
  wpAny (model P w) X.A (pyNext (.ref it)) (λr s1=>r=none∧Inv X pins σ H s1) E s
 self:∀(A:Around) (i:Nat) (s:Shared) (Q:XW) (E:XW),tn i s.heap→Q (.ref it) s→wpAny (model P w) A (pyIter (.ref it)) Q E s
abbrev TI:=St→Hp→(It→Hp→Prop)→Prop
def PIE(X:Cx)(pins:XX)(σ:St)(tg:Expr)(R:It→Hp→Prop)(pW:Value)(s2:Shared):Prop:=
 ∃(it:Addr) (fp:VB) (tn:Nat→Heap→Prop) (J:It) (H':Hp),pW=.ref it∧Inv X pins σ H' s2∧Turn X.prog X.w X.K tg J fp it tn∧tn 0 s2.heap∧(∀b∈fp,Gw X pins H' b)∧R J H'
def PI(X:Cx)(tg iter:Expr)(wi:TI):Prop:=
 ∀(pins:XX) (s:Shared) (σ:St) (H:Hp) (R:It→Hp→Prop),Inv X pins σ H s→wi σ H R→
  wpAny (model X.prog X.w) X.A (eval iter X.env) (λv s1=>wpAny (model X.prog X.w) X.A (pyIter v) (PIE X pins σ tg R) X.xe s1) X.xe s
theorem Df{n:String}{vs:WN}{Q:WR}(ho:s.heap.get? it=some o)(hc:o.cls=.type n)(hd:o.data=.fields vs)
  (hn:["enumerate","zip","dict_itemiterator","dict_reverseitemiterator","odict_iterator","itertools.zip_longest","itertools.pairwise"].contains n=false) (hQ:Q () s):wpAny M A (letOwnedTupleGo tg (.ref it) u) Q E s:=by
 unfold letOwnedTupleGo
 cases tg<;>first
  |exact rT hQ
  | (cases u<;>first
    |exact rT hQ
    | (refine rS (wpAny_load ho ?_)
       rw[hc,hd];show wpAny M A (if (["enumerate","zip","dict_itemiterator","dict_reverseitemiterator","odict_iterator","itertools.zip_longest","itertools.pairwise"].contains n&&vs[0]? == some (rawInt _))=true then _ else _) Q E s;rw[if_neg (by intro h;rw[hn,Bool.false_and]at h;cases h)]
       exact rT hQ))
def Itl(K:W.Frag)(a:Addr):It:=
 ⟨λi H=>∃xs x,SqL K H a xs∧xs[i]?=some x,λi H x H'=>H'=H∧∀xs,SqL K H a xs→xs[i]?=some x,λi H=>∃xs,SqL K H a xs∧xs.length≤i⟩
def Itt(K:W.Frag)(a:Addr):It:=
 ⟨λi H=>∃xs x,SqT K H a xs∧xs[i]?=some x,λi H x H'=>H'=H∧∀xs,SqT K H a xs→xs[i]?=some x,λi H=>∃xs,SqT K H a xs∧xs.length≤i⟩
def Itr(lo:Int)(n:Nat):It:=⟨λi _=>i<n,λi H x H'=>H'=H∧x=.int (lo+i),λi _=>n≤i⟩
theorem Zfc(a it:Addr):Turn P w K tg (Itl K a) [it] it (λi h=>h.IsListIter it a i) where
 mem:=by simp
 obj:=λi h st b hb=>by
  have e:b=it:=by simpa using hb
  subst e;obtain⟨o,e,c,d⟩:=st;exact⟨o,e,λv z=>by rw[d]at z;cases z⟩
 keep:=λi h h' st k=>st.at λo e=>k it (by simp) o e
 item:=by
  intro X hP hw hK hc i pins s σ H E I hf st hg;subst hP hw hK;obtain⟨xs,x,hq,hx⟩:=hg;obtain⟨its,rv,p,hz⟩:=I.list hq;obtain⟨u,hu,ru⟩:=rv.get hx;obtain⟨f0,f1,f2,f3,f4,f5⟩:=hf it (by simp);refine wpAny_pyNext_list_item st p.isList (x:=u) (by simpa using hu) λh' t7 sb=>?_
  have I1:Inv X pins σ H { s with heap:=h' }:=I.turned (t':=s.toks) (λb o hb e=>(sb.2 b hb).trans e) f0 f1 f3 f4 f5;obtain⟨o,e,c,d⟩:=id t7
  exact⟨u,rfl,Df (s:={ s with heap:=h' }) e c d (by decide) ⟨x,H,I1,ru,⟨rfl,λys hy=>by rw[I.He hy hq];exact hx⟩,t7,λb hb=>(hf b hb).1⟩⟩
 done:=by
  intro X hP hw hK hc i pins s σ H E I hf st hg;subst hP hw hK;obtain⟨xs,hq,hx⟩:=hg;obtain⟨its,rv,p,hz⟩:=I.list hq;obtain⟨f0,f1,f2,f3,f4,f5⟩:=hf it (by simp);have hl:=rv.length;exact wpAny_pyNext_list_end (I.ok.hd hc) st p.isList (by simp;lia) λh' eb=>⟨rfl,I.turned (t':=s.toks) (λb o hb e=>eb b o hb e) f0 f1 f3 f4 f5⟩
 self:=λ_ _ _ _ _ st h=>wpAny_pyIter_listiter st h
theorem Zbh(a it:Addr):Turn P w K tg (Itt K a) [it] it (λi h=>h.IsTupleIter it a i) where
 mem:=by simp
 obj:=λi h st b hb=>by
  have e:b=it:=by simpa using hb
  subst e;obtain⟨o,e,c,d⟩:=st;exact⟨o,e,λv z=>by rw[d]at z;cases z⟩
 keep:=λi h h' st k=>st.at λo e=>k it (by simp) o e
 item:=by
  intro X hP hw hK hc i pins s σ H E I hf st hg;subst hP hw hK;obtain⟨xs,x,hq,hx⟩:=hg;obtain⟨its,rv,p,hz⟩:=I.tuple hq;obtain⟨u,hu,ru⟩:=rv.get hx;obtain⟨f0,f1,f2,f3,f4,f5⟩:=hf it (by simp);refine wpAny_pyNext_tuple_item st (show s.heap.IsTuple a its.toArray from p) (x:=u) (by simpa using hu) λh' t7 sb=>?_
  have I1:Inv X pins σ H { s with heap:=h' }:=I.turned (t':=s.toks) (λb o hb e=>(sb.2 b hb).trans e) f0 f1 f3 f4 f5;obtain⟨o,e,c,d⟩:=id t7
  exact⟨u,rfl,Df (s:={ s with heap:=h' }) e c d (by decide) ⟨x,H,I1,ru,⟨rfl,λys hy=>by rw[I.Mk hy hq];exact hx⟩,t7,λb hb=>(hf b hb).1⟩⟩
 done:=by
  intro X hP hw hK hc i pins s σ H E I hf st hg;subst hP hw hK;obtain⟨xs,hq,hx⟩:=hg;obtain⟨its,rv,p,hz⟩:=I.tuple hq;obtain⟨f0,f1,f2,f3,f4,f5⟩:=hf it (by simp);have hl:=rv.length;exact wpAny_pyNext_tuple_end (I.ok.hd hc) st (show s.heap.IsTuple a its.toArray from p) (by simp;lia) λh' eb=>⟨rfl,I.turned (t':=s.toks) (λb o hb e=>eb b o hb e) f0 f1 f3 f4 f5⟩
 self:=λ_ _ _ _ _ st h=>wpAny_pyIter_tupleiter st h
theorem Zbi(it:Addr)(lo:Int)(n:Nat):Turn P w K tg (Itr lo n) [it] it (λi h=>IsRangeIter h it (lo+(i:Nat)*1) ((n:Int)-(i:Nat)) 1) where
 mem:=by simp
 obj:=λi h st b hb=>by
  have e:b=it:=by simpa using hb
  subst e
  exact⟨_,st,λv z=>by
   have z':Data.fields _=Data.cell v:=z
   cases z'⟩
 keep:=λi h h' st k=>k it (by simp) _ st
 item:=by
  intro X hP hw hK hc i pins s σ H E I hf st hg;subst hP hw hK;obtain⟨f0,f1,f2,f3,f4,f5⟩:=hf it (by simp);have W:=Walks.range (prog:=X.prog) (w:=X.w) (I.ok.hd hc) it lo 1 n;refine W.item i s _ _ hg st λv h' tk hv t7 kk=>?_;obtain⟨t,rfl⟩:=hv
  have I1:Inv X pins σ H { s with heap:=h',toks:=tk }:=I.turned (λb o hb e=>kk b o (by simpa using hb) e) f0 f1 f3 f4 f5
  refine⟨_,rfl,Df (s:={ s with heap:=h',toks:=tk }) (n:="range_iterator") t7 rfl rfl (by decide) ⟨.int (lo+i),H,I1,⟨t,?_⟩,⟨rfl,rfl⟩,t7,λb hb=>(hf b hb).1⟩⟩;rw[Int.mul_one]
 done:=by
  intro X hP hw hK hc i pins s σ H E I hf st hg;subst hP hw hK;obtain⟨f0,f1,f2,f3,f4,f5⟩:=hf it (by simp);exact wpAny_pyNext_range_end (I.ok.hd hc) st (by have:n≤i:=hg;lia) λh' eb=>⟨rfl,I.turned (t':=s.toks) (λb o hb e=>eb b o hb e) f0 f1 f3 f4 f5⟩
 self:=λ_ _ _ _ _ st h=>wpAny_pyIter_rangeiter st h
section
variable {X:Cx}{tg:Expr}
inductive Zj6(K:W.Frag)(R:It→Hp→Prop)(x:V)(H1:Hp):Prop
 |mk(a:_)(h1:x=.ref a)(h2:(∃xs,SqL K H1 a xs))(h3:R (Itl K a) H1):Zj6 K R x H1
def Zos(K:W.Frag)(tl:TE):TI:=λσ H R=>tl σ H λx H1=>Zj6 K R x H1
inductive Zor(K:W.Frag)(R:It→Hp→Prop)(x:V)(H1:Hp):Prop
 |mk(a:_)(h1:x=.ref a)(h2:(∃xs,SqT K H1 a xs))(h3:R (Itt K a) H1):Zor K R x H1
def Zuf(K:W.Frag)(tl:TE):TI:=λσ H R=>tl σ H λx H1=>Zor K R x H1
theorem Zl1(hl:PE X l tl):PI X tg l (Zos X.K tl):=by
 intro pins s σ H R I h;refine thn (hl pins s σ H _ I h) λv s1 ⟨x,H1,I1,r1,q1⟩=>?_;obtain⟨a,e,⟨xs,hq⟩,q⟩:=q1;subst e;cases r1;obtain⟨its,rv,p,hz⟩:=I1.list hq;refine bK p.isList ?_;refine⟨s1.heap.objs.size,[s1.heap.objs.size],_,_,H1,rfl,I1.kept (t':=s1.toks) λb o e=>rV _ e,Zfc a _,⟨_,oC _ rfl,rfl,rfl⟩,λb hb=>?_,q⟩;have e:b=s1.heap.objs.size:=by simpa using hb
 subst e;exact I1.Fg (rX _) (I1.hok.fresh (rX _))
theorem Zp7(hl:PE X l tl):PI X tg l (Zuf X.K tl):=by
 intro pins s σ H R I h;refine thn (hl pins s σ H _ I h) λv s1 ⟨x,H1,I1,r1,q1⟩=>?_;obtain⟨a,e,⟨xs,hq⟩,q⟩:=q1;subst e;cases r1;obtain⟨its,rv,p,hz⟩:=I1.tuple hq;refine ZF (show s1.heap.IsTuple a its.toArray from p) ?_;refine⟨s1.heap.objs.size,[s1.heap.objs.size],_,_,H1,rfl,I1.kept (t':=s1.toks) λb o e=>rV _ e,Zbh a _,⟨_,oC _ rfl,rfl,rfl⟩,λb hb=>?_,q⟩;have e:b=s1.heap.objs.size:=by simpa using hb
 subst e;exact I1.Fg (rX _) (I1.hok.fresh (rX _))
theorem Zik{R:It→Hp→Prop}{lo hi:Int}{t u v:Tok}{tk:Nat}(I:Inv X pins σ H s)(h1 : -(2 ^ 62)≤lo)(h2:lo<2 ^ 62)(h3 : -(2 ^ 62)≤hi)(h4:hi<2 ^ 62)
  (q:R (Itr lo (hi-lo).toNat) H):wpAny (model X.prog X.w) X.A (pyIter (.ref s.heap.objs.size)) (PIE X pins σ tg R) E { s with heap:=s.heap.push { cls:=.type "range",data:=.fields #[.int lo t,.int hi u,.int 1 v] },toks:=tk }:=by
 refine wpAny_pyIter_range (IsRange.new ..) (small_one h1 h2 h3 h4) ?_
 have I1:Inv X pins σ H { s with heap:=s.heap.push { cls:=.type "range",data:=.fields #[.int lo t,.int hi u,.int 1 v] },toks:=tk }:=I.kept λb o e=>rV _ e
 refine⟨(s.heap.push { cls:=.type "range",data:=.fields #[.int lo t,.int hi u,.int 1 v] }).objs.size,[(s.heap.push { cls:=.type "range",data:=.fields #[.int lo t,.int hi u,.int 1 v] }).objs.size],_,_,H,rfl,
  I1.kept (t':=tk) λb o e=>rV _ e,Zbi _ lo (hi-lo).toNat,?_,λb hb=>?_,q⟩
 ·have e1:lo+((0:Nat):Int)*1=lo:=by simp
  have e2:(((hi-lo).toNat:Nat):Int)-((0:Nat):Int)=Builtin.Range.rangeSize lo hi 1:=by rw[rangeSize_one];split<;>lia
  show IsRangeIter _ _ (lo+((0:Nat):Int)*1) ((((hi-lo).toNat:Nat):Int)-((0:Nat):Int)) 1;rw[e1,e2];exact oC _ rfl
 ·have e:b=(s.heap.push { cls:=.type "range",data:=.fields #[.int lo t,.int hi u,.int 1 v] }).objs.size:=by simpa using hb
  subst e;exact I1.Fg (rX _) (I1.hok.fresh (rX _))
inductive Zj5(R:It→Hp→Prop)(vs:List V)(H1:Hp):Prop
 |mk(j:Int)(h1:vs=[.int j])(h2 : -(2 ^ 62)≤j)(h3:j<2 ^ 62)(h4:R (Itr 0 j.toNat) H1):Zj5 R vs H1
def Zug(ta:TA):TI:=λσ H R=>ta σ H λvs H1=>Zj5 R vs H1
theorem Wz{a:Expr}{ta:TA}{pos:Pos}(hg:Gl X "range")(hm:X.mg "range"=none)(ha:PA X [a] ta)(hs:starEach [a] X.env=[(false,eval a X.env)]:=by rfl):PI X tg (.Call (.Name "range" p) [a] [] pos) (Zug ta):=by
 intro pins s σ H R I h;refine Call_ (Qq I hg hm boot_range (bA (thn (ha pos pins s σ H _ I h) λus s1 ⟨vs,H1,I1,r1,q1⟩=>?_) hs rfl));obtain⟨j,e,q1,q2,q⟩:=q1;subst e
 cases r1 with
 |cons r rr=>
  cases rr;obtain⟨t,rfl⟩:=r;exact call_range_1 (Zik I1 (by lia) (by lia) q1 q2 (by simpa using q))
def Zfg(wi:TI)(g:TG)(tb:TS):TS:=λD σ H=>wi σ H λJ H1=>∃W:Nat→Nat→St→Hp→Prop,(∃m,W 0 m σ H1)∧∀i m σ H,W i m σ H→
 (J.stop i H∧D.nx σ H)∨(J.go i H∧∃N:St→Hp→Prop,(∀x4 H',N x4 H'→∃m',m'<m∧W (i+1) m' x4 H')∧∀x H',J.yld i H x H'→g x σ H' λx8 H2=>tb { D with nx:=N,ct:=N,bk:=D.nx } x8 H2)
def Mt(fp:VB)(h:Heap):List XZ:=fp.filterMap λb=>(h.get? b).map λo=>(b,o)
theorem S4{b:Addr}(hb:b∈fp)(e:h.get? b=some o):(b,o)∈Mt fp h:=List.mem_filterMap.mpr ⟨b,hb,by rw[e];rfl⟩
theorem Zfu{p:Addr×Obj}(hp:p∈Mt fp h):p.1∈fp∧h.get? p.1=some p.2:=by
 obtain⟨b,hb,e⟩:=List.mem_filterMap.mp hp
 cases q:h.get? b with
 |none=>rw[q]at e;cases e
 |some o=>
  rw[q]at e;have e':(b,o)=p:=Option.some.inj e;subst e';exact⟨hb,q⟩
theorem Inv.pinned(I:Inv X pins σ H s)(hf:∀b∈fp,Gw X pins H b)(ho:∀b∈fp,∃o,s.heap.get? b=some o∧∀v,o.data≠.cell v):Inv X (pins++Mt fp s.heap) σ H s:=
 I.Ph λp hp=>(oJ.mp hp).elim (λz=>I.pin p (oX _ z)) λz=>by
  obtain⟨hb,e⟩:=Zfu z;obtain⟨f0,f1,f2,_⟩:=hf p.1 hb;obtain⟨o,e',d⟩:=ho p.1 hb;rw[e]at e';cases e';exact⟨e,f0,f1,f2,d⟩
theorem Inv.X9{pl:XX}(I:Inv X (pins++pl) σ H s):Inv X pins σ H s:=I.Ph λp hp=>I.pin p (oX _ (lF _ hp))
theorem Xp{iter:Expr}{wi:TI}{pos:Pos}(hp:PassesOwn (model X.prog X.w) X.A X.env X.xe)(hc:X.calm=true)(hi:PI X tg iter wi)(hg:PG X tg g)(hb:PSs X body tb)
  (hs:∀x,foldedSetIterable iter X.env x=pure x:=by intro _;rfl):PS X (.For tg iter body [] pos) (Zfg wi g tb):=by
 intro pins s σ H D I h;refine wpAny_For (thn (hi pins s σ H _ I h) λv s1 h1=>thn h1 λpW s2 h2=>?_) hs;obtain⟨it,fp,tn,J,H2,e,I2,T,st2,f2,W,⟨m0,w0⟩,turn⟩:=h2;subst e;have Zbn:∀{H':Hp},(∀b∈fp,H' b=none)→∀b∈fp,Gw X pins H' b:=λhn b hb=>⟨hn b hb,(f2 b hb).2⟩;refine codeAny_forLoop_any (λn s'=>∃i x4 H',Inv X pins x4 H' s'∧tn i s'.heap∧(∀b∈fp,H' b=none)∧W i n x4 H') ?_ m0 ⟨0,σ,H2,I2,st2,λb hb=>(f2 b hb).1,w0⟩;rintro n s3 ⟨i,eQ,H3,I3,mF,kY,w3⟩
 rcases turn i n eQ H3 w3 with ⟨stop,qn⟩|⟨go,N,hN,step⟩
 ·refine bE hp (thn (T.done X rfl rfl rfl hc i pins s3 eQ H3 X.xe I3 (Zbn kY) mF stop) λr s4 ⟨hr,I4⟩=>?_);subst hr;exact ZC ⟨eQ,H3,I4,qn⟩
 ·refine bE hp (thn (T.item X rfl rfl rfl hc i pins s3 eQ H3 X.xe I3 (Zbn kY) mF go) λr s4 ⟨u,hr,h4⟩=>?_);subst hr;refine bE hp (thn h4 λ_ s5 ⟨x,H5,I5,r5,y5,mG,zX⟩=>?_);have wV:=I5.pinned (Zbn zX) (T.obj _ _ mG);refine bE hp (thn (hg _ s5 eQ H5 x u _ wV r5 (step x H5 y5)) λ_ s6 ⟨tW,H6,I6,q6⟩=>?_);refine bE hp (thn (hb _ s6 tW H6 _ I6 q6) λf s7 q7=>?_)
  have again:∀{eR:St}{H7:Hp},Inv X (pins++Mt fp s5.heap) eR H7 s7→N eR H7→∃m,m<n∧∃i x4 H',Inv X pins x4 H' s7∧tn i s7.heap∧(∀b∈fp,H' b=none)∧W i m x4 H':=λ{eR H7} I7 n7=>by
   obtain⟨m',hm,w7⟩:=hN eR H7 n7;refine⟨m',hm,i+1,eR,H7,I7.X9,T.keep _ _ _ mG λb hb o e=>(I7.pin (b,o) (oX _ (oX _ (S4 hb e)))).1,λb hb=>?_,w7⟩;obtain⟨o,e,d⟩:=T.obj _ _ mG b hb;exact(I7.pin (b,o) (oX _ (oX _ (S4 hb e)))).2.1
  cases f with
  |next=>obtain⟨eR,H7,I7,n7⟩:=q7;exact again I7 n7
  |cont=>obtain⟨eR,H7,I7,n7⟩:=q7;exact again I7 n7
  |brk=>obtain⟨eR,H7,I7,q7⟩:=q7;exact⟨eR,H7,I7.X9,q7⟩
  |ret v=>obtain⟨x7,eR,H7,I7,r7,q7⟩:=q7;exact⟨x7,eR,H7,I7.X9,r7,q7⟩
end
theorem Qz(Pv:Nat→St→Hp→Prop)(h0:Pv 0 σ H)(hl:∀i σ H,i≤xs.length→Pv i σ H→SqL K H a xs)
  (hs:∀i x σ H,xs[i]?=some x→Pv i σ H→g x σ H λx8 H2=>tb { D with nx:=Pv (i+1),ct:=Pv (i+1),bk:=D.nx } x8 H2) (hd:∀σ H,Pv xs.length σ H→D.nx σ H) :
  ∃W:Nat→Nat→St→Hp→Prop,(∃m,W 0 m σ H)∧∀i m σ H,W i m σ H→
   ((Itl K a).stop i H∧D.nx σ H)∨((Itl K a).go i H∧∃N:St→Hp→Prop,(∀x4 H',N x4 H'→∃m',m'<m∧W (i+1) m' x4 H')∧∀x H',(Itl K a).yld i H x H'→g x σ H' λx8 H2=>tb { D with nx:=N,ct:=N,bk:=D.nx } x8 H2):=by
 refine⟨λi m σ H=>m=xs.length-i∧i≤xs.length∧Pv i σ H,⟨xs.length,by simp,lB _,h0⟩,?_⟩;rintro i m σ H ⟨rfl,hi,p⟩;have q:=hl i σ H hi p
 by_cases x5:i<xs.length
 ·refine .inr ⟨⟨xs,xs[i],q,by simp[x5]⟩,Pv (i+1),λx4 H' p'=>⟨xs.length-(i+1),by lia,rfl,x5,p'⟩,λx H' y=>?_⟩;obtain⟨e,y⟩:=y;subst e;exact hs i x σ _ (y xs q) p
 ·have e:i=xs.length:=by lia
  subst e;exact .inl ⟨⟨xs,q,rX _⟩,hd σ H p⟩
theorem Zmx(Pv:Nat→St→Hp→Prop)(h0:Pv 0 σ H)(hl:∀i σ H,i≤xs.length→Pv i σ H→SqT K H a xs)
  (hs:∀i x σ H,xs[i]?=some x→Pv i σ H→g x σ H λx8 H2=>tb { D with nx:=Pv (i+1),ct:=Pv (i+1),bk:=D.nx } x8 H2) (hd:∀σ H,Pv xs.length σ H→D.nx σ H) :
  ∃W:Nat→Nat→St→Hp→Prop,(∃m,W 0 m σ H)∧∀i m σ H,W i m σ H→
   ((Itt K a).stop i H∧D.nx σ H)∨((Itt K a).go i H∧∃N:St→Hp→Prop,(∀x4 H',N x4 H'→∃m',m'<m∧W (i+1) m' x4 H')∧∀x H',(Itt K a).yld i H x H'→g x σ H' λx8 H2=>tb { D with nx:=N,ct:=N,bk:=D.nx } x8 H2):=by
 refine⟨λi m σ H=>m=xs.length-i∧i≤xs.length∧Pv i σ H,⟨xs.length,by simp,lB _,h0⟩,?_⟩;rintro i m σ H ⟨rfl,hi,p⟩;have q:=hl i σ H hi p
 by_cases x5:i<xs.length
 ·refine .inr ⟨⟨xs,xs[i],q,by simp[x5]⟩,Pv (i+1),λx4 H' p'=>⟨xs.length-(i+1),by lia,rfl,x5,p'⟩,λx H' y=>?_⟩;obtain⟨e,y⟩:=y;subst e;exact hs i x σ _ (y xs q) p
 ·have e:i=xs.length:=by lia
  subst e;exact .inl ⟨⟨xs,q,rX _⟩,hd σ H p⟩
theorem Le{lo:Int}(Pv:Nat→St→Hp→Prop)(h0:Pv 0 σ H)
  (hs:∀i σ H,i<n→Pv i σ H→g (.int (lo+i)) σ H λx8 H2=>tb { D with nx:=Pv (i+1),ct:=Pv (i+1),bk:=D.nx } x8 H2) (hd:∀σ H,Pv n σ H→D.nx σ H) :
  ∃W:Nat→Nat→St→Hp→Prop,(∃m,W 0 m σ H)∧∀i m σ H,W i m σ H→
   ((Itr lo n).stop i H∧D.nx σ H)∨((Itr lo n).go i H∧∃N:St→Hp→Prop,(∀x4 H',N x4 H'→∃m',m'<m∧W (i+1) m' x4 H')∧∀x H',(Itr lo n).yld i H x H'→g x σ H' λx8 H2=>tb { D with nx:=N,ct:=N,bk:=D.nx } x8 H2):=by
 refine⟨λi m σ H=>m=n-i∧i≤n∧Pv i σ H,⟨n,by simp,lB _,h0⟩,?_⟩;rintro i m σ H ⟨rfl,hi,p⟩
 by_cases x5:i<n
 ·refine .inr ⟨x5,Pv (i+1),λx4 H' p'=>⟨n-(i+1),by lia,rfl,x5,p'⟩,λx H' y=>?_⟩;obtain⟨e,y⟩:=y;subst e y;exact hs i σ _ x5 p
 ·have e:i=n:=by lia
  subst e;exact .inl ⟨rX _,hd σ H p⟩
abbrev R2:=V→V→Hp→VK→Prop
def OpR(X:Cx)(f:VX)(r:R2):Prop:=
 ∀(pins:XX) (s:Shared) (σ:St) (H:Hp) (x y:V) (v u:Value) (Q:VK),Inv X pins σ H s→RelV x v→RelV y u→r x y H Q→
  wpAny (model X.prog X.w) X.A (f v u) (EP X pins σ Q) X.xe s
def UnR(X:Cx)(f:Value→Sem Value)(r:V→Hp→VK→Prop):Prop:=
 ∀(pins:XX) (s:Shared) (σ:St) (H:Hp) (x:V) (v:Value) (Q:VK),Inv X pins σ H s→RelV x v→r x H Q→
  wpAny (model X.prog X.w) X.A (f v) (EP X pins σ Q) X.xe s
def Yx(X:Cx)(f:Value)(r:List V→Hp→VK→Prop):Prop:=
 ∀(pins:XX) (s:Shared) (σ:St) (H:Hp) (xs:List V) (us:WC) (Q:VK),Inv X pins σ H s→Vals xs us→r xs H Q→
  wpAny (model X.prog X.w) X.A (call f us) (EP X pins σ Q) X.xe s
def TruR(X:Cx)(r:V→Hp→(Bool→Hp→Prop)→Prop):Prop:=
 ∀(pins:XX) (s:Shared) (σ:St) (H:Hp) (x:V) (v:Value) (Q:Bool→Hp→Prop),Inv X pins σ H s→RelV x v→r x H Q→
  wpAny (model X.prog X.w) X.A (truthy v) (TP X pins σ Q) X.xe s
def tOp(r:R2)(ta tb:TE):TE:=λσ H Q=>ta σ H λx H1=>tb σ H1 λy H2=>r x y H2 Q
def tUn(r:V→Hp→VK→Prop)(ta:TE):TE:=λσ H Q=>ta σ H λx H1=>r x H1 Q
inductive rII(C:Int→Int→Prop)(g:Int→Int→V)(x:V)(y:V)(H:Hp)(Q:VK):Prop
 |mk(i j:_)(h1:x=.int i)(h2:y=.int j)(h3:C i j)(h4:Q (g i j) H):rII C g x y H Q
def rI(C:Int→Int→Prop)(g:Int→Int→V):R2:=λx y H Q=>rII C g x y H Q
inductive Ztm(g:Int→Int→V)(x:V)(y:V)(H:Hp)(Q:VK):Prop
 |mk(i j:_)(h1:x=.int i)(h2:y=.int j)(h3:Q (g i j) H):Ztm g x y H Q
def rI0(g:Int→Int→V):R2:=λx y H Q=>Ztm g x y H Q
inductive rUI(g:Int→V)(x:V)(H:Hp)(Q:VK):Prop
 |mk(i:_)(h1:x=.int i)(h2:Q (g i) H):rUI g x H Q
def rU(g:Int→V):V→Hp→VK→Prop:=λx H Q=>rUI g x H Q
section
variable {X:Cx}{a b c:Expr}{ta tb tc:TE}{pos:Pos}
theorem Zr2(ha:PE X a ta)(hb:PE X b tb){R:V→V→Hp→Prop}(I:Inv X pins σ H s)
  (h:ta σ H λx H1=>tb σ H1 λy H2=>R x y H2) {f:VX}
  (hf:∀v u s2 x y H2,Inv X pins σ H2 s2→RelV x v→RelV y u→R x y H2→wpAny (model X.prog X.w) X.A (f v u) Q X.xe s2) :
  wpAny (model X.prog X.w) X.A (eval a X.env) (λv x3=>wpAny (model X.prog X.w) X.A (eval b X.env) (λu y6=>wpAny (model X.prog X.w) X.A (f v u) Q X.xe y6) X.xe x3) X.xe s:=by
 refine thn (ha pins s σ H _ I h) λv s1 ⟨x,H1,I1,r1,q1⟩=>?_;refine thn (hb pins s1 σ H1 _ I1 q1) λu s2 ⟨y,H2,I2,r2,q2⟩=>?_;exact hf v u s2 x y H2 I2 r1 r2 q2
theorem Z7{op:Operator}(ho:OpR X (binaryOp op) r)(ha:PE X a ta)(hb:PE X b tb):PE X (.BinOp a op b pos) (tOp r ta tb):=by
 intro pins s σ H Q I h;exact wpAny_BinOp (Zr2 ha hb I h λv u s2 x y H2 I2 rx ry q=>ho pins s2 σ H2 x y v u Q I2 rx ry q)
theorem Zok{op:UnaryOp}{r:V→Hp→VK→Prop}(ho:UnR X (unaryOp op) r)(ha:PE X a ta):PE X (.UnaryOp op a pos) (tUn r ta):=by
 intro pins s σ H Q I h;exact UnaryOp_ (thn (ha pins s σ H _ I h) λv s1 ⟨x,H1,I1,r1,q1⟩=>ho pins s1 σ H1 x v Q I1 r1 q1)
theorem opI{f:VX}{C:Int→Int→Prop}{g:Int→Int→Int}
  (rule:∀(i j:Int) (t u:Tok) (s:Shared) (Q:XW) (E:XW),C i j→Q (.int (g i j) s.toks) { s with toks:=s.toks+1 }→wpAny (model X.prog X.w) X.A (f (.int i t) (.int j u)) Q E s) :
  OpR X f (rI C λi j=>.int (g i j)):=by
 intro pins s σ H x y v u Q I rx ry h;obtain⟨i,j,rfl,rfl,hc,q⟩:=h;obtain⟨t,rfl⟩:=rx;obtain⟨t',rfl⟩:=ry;exact rule i j t t' s _ _ hc ⟨.int (g i j),H,I.tok _,⟨_,rfl⟩,q⟩
theorem Ztw{f:VX}{g:Int→Int→Int}
  (rule:∀(i j:Int) (t u:Tok) (s:Shared) (Q:XW) (E:XW),Q (.int (g i j) s.toks) { s with toks:=s.toks+1 }→wpAny (model X.prog X.w) X.A (f (.int i t) (.int j u)) Q E s) :
  OpR X f (rI0 λi j=>.int (g i j)):=by
 intro pins s σ H x y v u Q I rx ry h;obtain⟨i,j,rfl,rfl,q⟩:=h;obtain⟨t,rfl⟩:=rx;obtain⟨t',rfl⟩:=ry;exact rule i j t t' s _ _ ⟨.int (g i j),H,I.tok _,⟨_,rfl⟩,q⟩
theorem Zqe{f:VX}{g:Int→Int→Bool}
  (rule:∀(i j:Int) (t u:Tok) (s:Shared) (Q:XW) (E:XW),Q (.bool (g i j)) s→wpAny (model X.prog X.w) X.A (f (.int i t) (.int j u)) Q E s) :
  OpR X f (rI0 λi j=>.bl (g i j)):=by
 intro pins s σ H x y v u Q I rx ry h;obtain⟨i,j,rfl,rfl,q⟩:=h;obtain⟨t,rfl⟩:=rx;obtain⟨t',rfl⟩:=ry;exact rule i j t t' s _ _ ⟨.bl (g i j),H,I,rfl,q⟩
def CDiv(i j:Int):Prop:=0<j∧j<1073741824
def CPow(i j:Int):Prop:=0≤j∧j≤1000000∧i.natAbs<2 ^ 64
def Zsg(i j:Int):Prop:=(-(2 ^ 64)<i∧i<2 ^ 64)∨(-(2 ^ 64)<j∧j<2 ^ 64)
theorem Zsg.ok{i j:Int}(h:Zsg i j):IntMulOk i j:=by
 rcases h with ⟨h1,h2⟩|⟨h1,h2⟩
 ·exact .of_left (intBits_le_64 h1 h2)
 ·exact .of_right (intBits_le_64 h1 h2)
theorem Xl:OpR X (binaryOp .Add) (rI0 λi j=>.int (i+j)):=Ztw λ_ _ _ _ _ _ _ q=>add_int q
theorem Qg:OpR X (binaryOp .Sub) (rI0 λi j=>.int (i-j)):=Ztw λ_ _ _ _ _ _ _ q=>sub_int q
theorem Zb2:OpR X (binaryOp .Mult) (rI Zsg λi j=>.int (i*j)):=opI λ_ _ _ _ _ _ _ hc q=>mul_int q hc.ok
theorem Ct:OpR X (binaryOp .FloorDiv) (rI CDiv λi j=>.int (i/j)):=opI λi j _ _ _ _ _ hc q=>by
 have h1:(0:Int)<j:=hc.1;have h2:j<1073741824:=hc.2;exact floordiv_int (by lia) (by rw[Int.fdiv_eq_ediv_of_nonneg i (by lia)];exact q) (.inl (PyProof.noPylong_small (by lia)))
theorem Qh:OpR X (binaryOp .Mod) (rI (λ_ j=>0<j) λi j=>.int (i%j)):=opI λi j _ _ _ _ _ hc q=>by
 have h1:(0:Int)<j:=hc;exact mod_int' (by lia) (by rw[Int.fmod_eq_emod_of_nonneg i (by lia)];exact q)
theorem Zqc:OpR X (binaryOp .Pow) (rI CPow λi j=>.int (i ^ j.toNat)):=opI λ_ _ _ _ _ _ _ hc q=>pow_int_small hc.1 hc.2.1 hc.2.2 q
theorem unI{f:Value→Sem Value}{g:Int→Int}
  (rule:∀(i:Int) (t:Tok) (s:Shared) (Q:XW) (E:XW),Q (.int (g i) s.toks) { s with toks:=s.toks+1 }→wpAny (model X.prog X.w) X.A (f (.int i t)) Q E s) :
  UnR X f (rU λi=>.int (g i)):=by
 intro pins s σ H x v Q I rx h;obtain⟨i,rfl,q⟩:=h;obtain⟨t,rfl⟩:=rx;exact rule i t s _ _ ⟨.int (g i),H,I.tok _,⟨_,rfl⟩,q⟩
theorem Zhg:UnR X (unaryOp .USub) (rU λi=>.int (-i)):=unI λ_ _ _ _ _ q=>neg_int q
end
def Zs6:V→V→Bool
 |.non,.non=>true|.non,.int _=>true|.int _,.non=>true|.non,.bl _=>true|.bl _,.non=>true|.non,.str _=>true|.str _,.non=>true
 |.int _,.int _=>true|.bl _,.bl _=>true|.str _,.str _=>true|.byt _,.byt _=>true
 |.int _,.str _=>true|.str _,.int _=>true|.bl _,.str _=>true|.str _,.bl _=>true
 |_,_=>false
def rEq:R2:=λx y H Q=>Zs6 x y=true∧Q (.bl (decide (x=y))) H
def rNe:R2:=λx y H Q=>Zs6 x y=true∧Q (.bl (!decide (x=y))) H
theorem Zez{i j:Int}:decide (V.int i=V.int j)=(i==j):=by
 rw[lH];simp
theorem Zk3{i j:Bool}:decide (V.bl i=V.bl j)=(i==j):=by
 rw[lH];simp
theorem Zey{i j:Str}:decide (V.str i=V.str j)=(i==j):=by
 rw[lH];simp
theorem Ze0{i j:Array UInt8}:decide (V.byt i=V.byt j)=(i.toList==j.toList):=by
 rw[lH];cases i;cases j;simp
section
variable {X:Cx}{a b c:Expr}{ta tb tc:TE}{pos:Pos}
theorem Yi{Q:VK}{k k':Bool}(I:Inv X pins σ H s)(q:Q (.bl k) H)(e:k=k'):EP X pins σ Q (.bool k') s:=by
 subst e;exact⟨.bl k,H,I,rfl,q⟩
theorem Xw:OpR X (compareOp .Eq) rEq:=by
 intro pins s σ H x y v u Q I rx ry h;obtain⟨hs,q⟩:=h
 cases x with
 |non=>
  cases rx
  cases y with
  |non=>cases ry;exact PySem.EqNone.eq_none_none (Yi I q (by simp))
  |bl j=>cases ry;exact PySem.EqNone.eq_none_bool (Yi I q (by simp))
  |int j=>obtain⟨t',rfl⟩:=ry;exact PySem.EqNone.eq_none_int (Yi I q (by simp))
  |str j=>obtain⟨t',rfl⟩:=ry;exact PySem.EqNone.eq_none_str (Yi I q (by simp))
  |_=>exact absurd (show false=true from hs) oW
 |bl i=>
  cases rx
  cases y with
  |non=>cases ry;exact PySem.EqNone.eq_bool_none (Yi I q (by simp))
  |bl j=>cases ry;exact eq_bool (Yi I q Zk3)
  |str j=>obtain⟨t',rfl⟩:=ry;exact PySem.EqMixed.eq_bool_str (Yi I q (by simp))
  |_=>exact absurd (show false=true from hs) oW
 |int i=>
  obtain⟨t,rfl⟩:=rx
  cases y with
  |non=>cases ry;exact PySem.EqNone.eq_int_none (Yi I q (by simp))
  |int j=>obtain⟨t',rfl⟩:=ry;exact eq_int (Yi I q Zez)
  |str j=>obtain⟨t',rfl⟩:=ry;exact PySem.EqMixed.eq_int_str (Yi I q (by simp))
  |_=>exact absurd (show false=true from hs) oW
 |str i=>
  obtain⟨t,rfl⟩:=rx
  cases y with
  |non=>cases ry;exact PySem.EqNone.eq_str_none (Yi I q (by simp))
  |bl j=>cases ry;exact PySem.EqMixed.eq_str_bool (Yi I q (by simp))
  |int j=>obtain⟨t',rfl⟩:=ry;exact PySem.EqMixed.eq_str_int (Yi I q (by simp))
  |str j=>obtain⟨t',rfl⟩:=ry;exact eq_str (Yi I q Zey)
  |_=>exact absurd (show false=true from hs) oW
 |byt i=>
  obtain⟨t,rfl⟩:=rx
  cases y with
  |byt j=>obtain⟨t',rfl⟩:=ry;exact W.eq_bytes (Yi I q Ze0)
  |_=>exact absurd (show false=true from hs) oW
 |_=>cases y<;>exact absurd (show false=true from hs) oW
theorem Nr:OpR X (compareOp .NotEq) rNe:=by
 intro pins s σ H x y v u Q I rx ry h;obtain⟨hs,q⟩:=h
 cases x with
 |non=>
  cases rx
  cases y with
  |non=>cases ry;exact PySem.EqNone.ne_none_none (Yi I q (by simp))
  |bl j=>cases ry;exact PySem.EqNone.ne_none_bool (Yi I q (by simp))
  |int j=>obtain⟨t',rfl⟩:=ry;exact PySem.EqNone.ne_none_int (Yi I q (by simp))
  |str j=>obtain⟨t',rfl⟩:=ry;exact PySem.EqNone.ne_none_str (Yi I q (by simp))
  |_=>exact absurd (show false=true from hs) oW
 |bl i=>
  cases rx
  cases y with
  |non=>cases ry;exact PySem.EqNone.ne_bool_none (Yi I q (by simp))
  |bl j=>cases ry;exact ne_bool (Yi I q (congrArg not Zk3))
  |str j=>obtain⟨t',rfl⟩:=ry;exact PySem.EqMixed.ne_bool_str (Yi I q (by simp))
  |_=>exact absurd (show false=true from hs) oW
 |int i=>
  obtain⟨t,rfl⟩:=rx
  cases y with
  |non=>cases ry;exact PySem.EqNone.ne_int_none (Yi I q (by simp))
  |int j=>obtain⟨t',rfl⟩:=ry;exact ne_int (Yi I q (congrArg not Zez))
  |str j=>obtain⟨t',rfl⟩:=ry;exact PySem.EqMixed.ne_int_str (Yi I q (by simp))
  |_=>exact absurd (show false=true from hs) oW
 |str i=>
  obtain⟨t,rfl⟩:=rx
  cases y with
  |non=>cases ry;exact PySem.EqNone.ne_str_none (Yi I q (by simp))
  |bl j=>cases ry;exact PySem.EqMixed.ne_str_bool (Yi I q (by simp))
  |int j=>obtain⟨t',rfl⟩:=ry;exact PySem.EqMixed.ne_str_int (Yi I q (by simp))
  |str j=>obtain⟨t',rfl⟩:=ry;exact ne_str (Yi I q (congrArg not Zey))
  |_=>exact absurd (show false=true from hs) oW
 |byt i=>
  obtain⟨t,rfl⟩:=rx
  cases y with
  |byt j=>obtain⟨t',rfl⟩:=ry;exact W.ne_bytes (Yi I q (congrArg not Ze0))
  |_=>exact absurd (show false=true from hs) oW
 |_=>cases y<;>exact absurd (show false=true from hs) oW
theorem An:OpR X (compareOp .Lt) (rI0 λi j=>.bl (decide (i<j))):=Zqe λ_ _ _ _ _ _ _ q=>lt_int q
theorem Ao:OpR X (compareOp .Gt) (rI0 λi j=>.bl (decide (j<i))):=Zqe λ_ _ _ _ _ _ _ q=>gt_int q
theorem Ztv:OpR X (compareOp .GtE) (rI0 λi j=>.bl (decide (j≤i))):=Zqe λ_ _ _ _ _ _ _ q=>ge_int q
theorem Ek:OpR X (compareOp .In) (λx y H Q=>∃i j,x=.str i∧y=.str j∧Q (.bl (!(Builtin.Str.occurrences j i 0 j.length 1).isEmpty)) H):=by
 intro pins s σ H x y v u Q I rx ry h;obtain⟨i,j,rfl,rfl,q⟩:=h;obtain⟨t,rfl⟩:=rx;obtain⟨t',rfl⟩:=ry;exact in_str (Yi I q rfl)
theorem Zqd:OpR X (compareOp .Is) (λx y H Q=>y=.non∧Q (.bl (decide (x=.non))) H):=by
 intro pins s σ H x y v u Q I rx ry h;obtain⟨rfl,q⟩:=h;cases ry;refine is_none_gen (Yi I q ?_)
 cases x<;>first
  | (cases rx;rfl)
  | (obtain⟨t,rfl⟩:=rx;rfl)
theorem Zw(b:Expr)(h:op≠.In:=by decide)(h2:op≠.NotIn:=by decide):behindInMarks op b=false:=by
 have e1:(op==CmpOp.In)=false:=by cases op<;>first|rfl|exact absurd rfl h
 have e2:(op==CmpOp.NotIn)=false:=by cases op<;>first|rfl|exact absurd rfl h2
 cases b<;>simp[behindInMarks,e1,e2]
theorem Wj(ho:OpR X (compareOp op) r)(ha:PE X a ta)(hb:PE X b tb)(hm:behindInMarks op b=false):PE X (.Compare a [op] [b] pos) (tOp r ta tb):=by
 intro pins s σ H Q I h;exact wpAny_Compare1 (Zr2 ha hb I h λv u s2 x y H2 I2 rx ry q=>ho pins s2 σ H2 x y v u Q I2 rx ry q) hm
inductive Zhk(Q:Bool→Hp→Prop)(x:V)(H':Hp):Prop
 |mk(k:_)(h1:x=.bl k)(h2:Q k H'):Zhk Q x H'
def Zsl(t:TE):TT:=λσ H Q=>t σ H λx H'=>Zhk Q x H'
theorem Zp(ho:OpR X (compareOp op) r)(ha:PE X a ta)(hb:PE X b tb)(hm:behindInMarks op b=false):PT X (.Compare a [op] [b] pos) (Zsl (tOp r ta tb)):=by
 intro pins s σ H Q I h
 refine wpAny_isTrue_Compare1 (thn (ha pins s σ H _ I h) λv s1 ⟨x,H1,I1,r1,q1⟩=>thn (hb pins s1 σ H1 _ I1 q1) λu s2 ⟨y,H2,I2,r2,q2⟩=>
  thn (ho pins s2 σ H2 x y v u _ I2 r1 r2 q2) λc s3 ⟨z,H3,I3,r3,k,e,q3⟩=>?_) hm
 subst e;cases r3;exact dR ⟨H3,I3,q3⟩
def Zr5(K:W.Frag)(x:V)(H:Hp)(k:Bool):Prop:=
 match x with
 |.non=>k=false
 |.bl b=>k=b
 |.int i=>k=(i != 0)
 |.str y=>y.length≤sizeLine∧k=((y.length:Int) != 0)
 |.byt y=>y.size≤sizeLine∧k=((y.size:Int) != 0)
 |.ref p=>(∃xs,SqL K H p xs∧k = !xs.isEmpty)∨(∃xs,SqT K H p xs∧k = !xs.isEmpty)∨∃kvs,H p=some (.dK kvs)∧k = !kvs.isEmpty
 |_=>False
theorem Zcm{κ:Type}{kvs:List (κ×V)}{vs:List (κ×Value)}(r:KV kvs vs):(!vs.isEmpty) = !kvs.isEmpty:=by
 cases r<;>rfl
theorem Hi{its:WC}(r:Vals xs its):(!its.toArray.isEmpty) = !xs.isEmpty:=by
 cases r<;>simp
theorem Oy:(sizeLine:Nat)<2 ^ 63:=by rw[sizeLine_eq];decide
theorem Zo8:TruR X (λx H Q=>∃k,Zr5 X.K x H k∧Q k H):=by
 intro pins s σ H x v Q I rx h;obtain⟨k,e,q⟩:=h;have hl:=Oy;have hs:sizeLine=16777216:=sizeLine_eq
 cases x with
 |non=>
  cases rx;have e':k=false:=e;subst e';exact truthy_none ⟨H,I,q⟩
 |bl b=>
  cases rx;have e':k=b:=e;subst e';exact dR ⟨H,I,q⟩
 |int i=>
  obtain⟨t,rfl⟩:=rx;have e':k=(i != 0):=e;subst e';exact PySem.P.truthy_int ⟨H,I,q⟩
 |str y=>
  obtain⟨t,rfl⟩:=rx;obtain⟨hy,e'⟩:y.length≤sizeLine∧k=((y.length:Int) != 0):=e;subst e';exact PySem.P.truthy_str (by lia) ⟨H,I.tok _,q⟩
 |byt y=>
  obtain⟨t,rfl⟩:=rx;obtain⟨hy,e'⟩:y.size≤sizeLine∧k=((y.size:Int) != 0):=e;subst e';exact W.truthy_bytes (by lia) ⟨H,I.tok _,q⟩
 |ref p=>
  cases rx;have e':(∃xs,SqL X.K H p xs∧k = !xs.isEmpty)∨(∃xs,SqT X.K H p xs∧k = !xs.isEmpty)∨∃kvs,H p=some (.dK kvs)∧k = !kvs.isEmpty:=e
  rcases e' with ⟨xs,hx,e'⟩|⟨xs,hx,e'⟩|⟨kvs,hx,e'⟩
  ·subst e';obtain⟨its,r,pl,hz⟩:=I.list hx;have hlen:=r.length;exact wpAny_truthy_list pl.isList (by simp only[oF];lia) ⟨H,I.tok _,by rw[Hi r];exact q⟩
  ·subst e';obtain⟨its,r,pl,hz⟩:=I.tuple hx;have hlen:=r.length;exact truthy_tuple pl (by simp only[oF];lia) ⟨H,I.tok _,by rw[Hi r];exact q⟩
  ·subst e';obtain⟨hz,hS,vs,r,m⟩:kvs.length≤sizeLine∧(p==sysModules)=false∧∃vs,KV kvs vs∧s.heap.DictOf (Z0 X.prog X.w) p vs:=I.hok p _ hx;have hlen:kvs.length=vs.length:=dZ r;exact wpAny_truthy_dict hS m (by lia) ⟨H,I.tok _,by rw[Zcm r];exact q⟩
 |_=>exact(show False from e).elim
theorem Zi1(ha:PE X a ta)(he:∀whole,isTrue a X.env whole=(do let v ←whole;standAt a.pos;holding [v] (truthy v))):
  PT X a (λσ H Q=>ta σ H λx H'=>∃k,Zr5 X.K x H' k∧Q k H'):=by
 intro pins s σ H Q I h;exact isTrue_plain (thn (ha pins s σ H _ I h) λv s1 ⟨x,H1,I1,r1,q1⟩=>Zo8 pins s1 σ H1 x v Q I1 r1 q1) (he _)
theorem Vl:OpR X (binaryOp .Add) (λx y H Q=>∃i j,x=.str i∧y=.str j∧i.length+j.length≤sizeLine∧Q (.str (i++j)) H):=by
 intro pins s σ H x y v u Q I rx ry h;obtain⟨i,j,rfl,rfl,hz,q⟩:=h;obtain⟨t,rfl⟩:=rx;obtain⟨t',rfl⟩:=ry;exact add_str (λt' tk=>⟨.str (i++j),H,I.tok _,⟨_,rfl⟩,q⟩) hz
theorem vals1{x:V}(r:Vals [x] us):∃u,us=[u]∧RelV x u:=by
 cases r with
 |cons r1 r2=>cases r2;exact⟨_,rfl,r1⟩
theorem vals2{x:V}(r:Vals [x,y] us):∃u w',us=[u,w']∧RelV x u∧RelV y w':=by
 cases r with
 |cons r1 r2=>
  cases r2 with
  |cons r3 r4=>cases r4;exact⟨_,_,rfl,r1,r3⟩
theorem Zgv(hc:X.calm=true):Yx X (.builtin "max") (λxs H Q=>∃i j,xs=[.int i,.int j]∧Q (.int (if j>i then j else i)) H):=by
 intro pins s σ H xs us Q I r h;obtain⟨i,j,rfl,q⟩:=h;obtain⟨u,w',rfl,⟨t,rfl⟩,⟨t',rfl⟩⟩:=vals2 r;refine max_two_ints (I.ok.hd hc) λh' tk k=>⟨_,H,I.kept k,?_,q⟩
 by_cases hj:j>i
 ·rw[if_pos hj,if_pos hj];exact⟨_,rfl⟩
 ·rw[if_neg hj,if_neg hj];exact⟨_,rfl⟩
theorem Ds(hc:X.calm=true):Yx X (.builtin "min") (λxs H Q=>∃i j,xs=[.int i,.int j]∧Q (.int (if j<i then j else i)) H):=by
 intro pins s σ H xs us Q I r h;obtain⟨i,j,rfl,q⟩:=h;obtain⟨u,w',rfl,⟨t,rfl⟩,⟨t',rfl⟩⟩:=vals2 r;refine min_two_ints (I.ok.hd hc) λh' tk k=>⟨_,H,I.kept k,?_,q⟩
 by_cases hj:j<i
 ·rw[if_pos hj,if_pos hj];exact⟨_,rfl⟩
 ·rw[if_neg hj,if_neg hj];exact⟨_,rfl⟩
theorem Sw:Yx X (.type "int") (λxs H Q=>(∃i,xs=[.int i]∧Q (.int i) H)∨∃k,xs=[.bl k]∧Q (.int (if k then 1 else 0)) H):=by
 intro pins s σ H xs us Q I r h
 rcases h with ⟨i,rfl,q⟩|⟨k,rfl,q⟩
 ·obtain⟨u,rfl,t,rfl⟩:=vals1 r;exact call_int_int ⟨.int i,H,I,⟨_,rfl⟩,q⟩
 ·obtain⟨u,rfl,r1⟩:=vals1 r;cases r1;exact call_int_bool ⟨.int (if k then 1 else 0),H,I.tok _,⟨_,rfl⟩,q⟩
end
structure Zr9(h:Heap)(x dx C:Addr)(mA:WD):Prop where
 obj:h.get? x=some (W.instObj C dx)
 ns:h.Ns1 dx mA
 ne:dx≠x
theorem Er{h:Heap}{dx:Addr}{mA:WD}(n:h.Ns1 dx mA):∃od,h.get? dx=some od∧∀name,W.lookIn name od=some (mA name):=by
 obtain⟨o,es,ep,ho,hd,hk,_,hm⟩:=n;refine⟨o,ho,λname=>?_⟩;have e:=hm name;unfold nsFind findBy at e;rw[←Array.find?_toList]at e;unfold W.lookIn;rw[hd];dsimp only
 split
 ·rename_i y q
  rw[q]at e;exact congrArg some e
 ·rename_i q
  rw[q]at e
  have a:es.toList.any (·.refKey)=false:=by
   rw[List.any_eq_false];intro y hy;obtain⟨z,t,Hk⟩:=hk y (Array.mem_toList_iff.mp hy);simp[DictEntry.refKey,Hk]
  have a':¬ es.toList.any (·.refKey)=true:=by rw[a];exact oW
  rw[if_neg a'];exact congrArg some e
theorem Zr9.look{x dx:Addr}{mA:WD}(I:Zr9 h x dx C mA):∃od,W.InstAt h x (W.instObj C dx) C (some od)∧∀name,W.lookIn name od=some (mA name):=
 let ⟨od,ho,hl⟩:=Er I.ns
 ⟨od,⟨I.obj,rfl,rfl,ho⟩,hl⟩
section
variable {prog:Program}{w:World}{A:Around}{E:XW}{s:Shared}{K:W.Frag}{x dx C f:Addr}{mA:WD}{name:Str}{v:Value}
end
theorem O7.some_of{o:VS}(r:O7 (some v) o):∃u,o=some u∧RelV v u:=by
 cases o with
 |none=>exact(show False from r).elim
 |some u=>exact⟨u,rfl,r⟩
section
variable {P:Program}{w:World}{H H':Hp}{h h':Heap}{a C dx:Addr}{fs fs':List (Str×V)}
theorem Zmo(hok:HOk P w H h)(e:H a=some (.ins C dx fs)):∃mA,Zr9 h a dx C mA∧(∀f,O7 (fs.lookup f) (mA f))∧PySem.Within mA (fs.map (·.1))∧fs.length≤1000∧H dx=some (.own a):=by
 obtain⟨d,z,ne,ob,mA,n,r,q⟩:=(show Z9 P w H h a (.ins C dx fs) from hok a _ e);exact⟨mA,⟨ob,n,ne⟩,r,q,z,d⟩
end
structure Cls(K:W.Frag)(C:Addr):Prop where
 pg:W.plainGet K C Str.empty=true
 hd:W.hasDictIn K C=true
 po:W.plainOver K C=true
 sa:W.findIn K (.ref C) "__setattr__"=some (some (.builtin "object.__setattr__"))
theorem Cls.get(c:Cls K C)(f:Str):W.plainGet K C f=true:=c.pg
section
variable {X:Cx}{pins:XX}{σ:St}{H:Hp}{s:Shared}{a C dx:Addr}{fs:List (Str×V)}{f:Str}{v:V}{A:Around}{E:XW}
end
section
variable {X:Cx}{o e value:Expr}{f:Str}{pos pos' Zsi:Pos}{ta tv:TE}
end
section
variable {X:Cx}{pins:XX}{σ:St}{H:Hp}{s:Shared}{A:Around}{E:XW}{Q:XW}{c:Value}{b:Bool}
inductive Md(K:W.Frag)(H:Hp):V→Value→Prop where
 |non:Md K H .non (.type "NoneType")
 |bl (x:Bool):Md K H (.bl x) (.type "bool")
 |int (i:Int):Md K H (.int i) (.type "int")
 |str (x:Str):Md K H (.str x) (.type "str")
 |flt (x:UInt64):Md K H (.flt x) (.type "float")
 |lst {a:Addr}{xs:List V} (e:H a=some (.lst xs)):Md K H (.ref a) (.type "list")
 |frz {a:Addr}{o:Obj}{xs:List V} (e:H a=some (.frz o (.lst xs))):Md K H (.ref a) (.type "list")
 |tup {a:Addr}{xs:List V} (e:H a=some (.tup xs)):Md K H (.ref a) (.type "tuple")
 |dK {a:Addr}{kvs:List (Key×V)} (e:H a=some (.dK kvs)):Md K H (.ref a) (.type "dict")
 |dT {a:Addr}{kvs:List (List Key×V)} (e:H a=some (.dT kvs)):Md K H (.ref a) (.type "dict")
 |ins {a C dx:Addr}{fs:List (Str×V)} (e:H a=some (.ins C dx fs)) (cl:Cls K C) (ha:W.findIn K (.ref C) "__class__"=some (some (.builtin "object.__class__")))
   (hn:W.specialIn K (.builtin "object.__class__") "__get__"=some (some (.builtin "getset_descriptor.__get__"))) (htk:W.takesIn K (.builtin "object.__class__")=some true)
   (hm:W.mroIn K C (.type "object")=some true):Md K H (.ref a) (.ref C)
theorem Ez{x:V}{t:Value}(I:Inv X pins σ H s)(rx:RelV x u)(ty:Md X.K H x t)(e:W.kitOne X.K t c=some b)(h:∀tk,Q (.bool b) { s with toks:=tk }):
  wpAny (model X.prog X.w) A (call (.builtin "isinstance") [u,c]) Q E s:=by
 cases ty with
 |non=>cases (show u=Value.none from rx);exact cS W.kitx_none I.kIn True.intro e (λz=>nomatch z) h
 |bl y=>cases (show u=Value.bool y from rx);exact cS W.kitx_bool I.kIn True.intro e (λz=>nomatch z) h
 |int i=>obtain⟨t,q⟩:=(show ∃t,u=Value.int i t from rx);cases q;exact cS W.kitx_int I.kIn True.intro e (λz=>nomatch z) h
 |str y=>obtain⟨t,q⟩:=(show ∃t,u=Value.str y t from rx);cases q;exact cS W.kitx_str I.kIn True.intro e (λz=>nomatch z) h
 |flt y=>obtain⟨t,q⟩:=(show ∃t,u=Value.float y t from rx);cases q;exact cS W.kitx_float I.kIn True.intro e (λz=>nomatch z) h
 | @lst a xs ea=>
  cases (show u=Value.ref a from rx);obtain⟨_,_,n,_,h1⟩:=(show Z9 X.prog X.w H s.heap a (.lst xs) from I.hok a _ ea);exact cS W.kitx_list I.kIn ⟨_,h1,rfl⟩ e (λz=>nomatch z) h
 | @frz a ob xs ea=>
  cases (show u=Value.ref a from rx);obtain⟨_,_,_,n,_,h1⟩:=(show Z9 X.prog X.w H s.heap a (.frz ob (.lst xs)) from I.hok a _ ea);exact cS W.kitx_list I.kIn ⟨_,h1,rfl⟩ e (λz=>nomatch z) h
 | @tup a xs ea=>
  cases (show u=Value.ref a from rx);obtain⟨_,_,_,p⟩:=(show Z9 X.prog X.w H s.heap a (.tup xs) from I.hok a _ ea);obtain⟨o,h1,h2,_⟩:=p;exact cS W.kitx_tuple I.kIn ⟨o,h1,h2⟩ e (λz=>nomatch z) h
 | @dK a kvs ea=>
  cases (show u=Value.ref a from rx);obtain⟨_,_,vs,_,p⟩:=(show Z9 X.prog X.w H s.heap a (.dK kvs) from I.hok a _ ea);obtain⟨o,es,ep,h1,h2,_⟩:=p;exact cS W.kitx_dict I.kIn ⟨o,h1,h2.1⟩ e (λz=>nomatch z) h
 | @dT a kvs ea=>
  cases (show u=Value.ref a from rx);obtain⟨_,_,xs,_,o,es,ep,h1,h2,_⟩:=(show Z9 X.prog X.w H s.heap a (.dT kvs) from I.hok a _ ea);exact cS W.kitx_dict I.kIn ⟨o,h1,h2.1⟩ e (λz=>nomatch z) h
 | @ins a C dx fs ea cl ha hn htk hm=>
  cases (show u=Value.ref a from rx);obtain⟨mA,O,_⟩:=Zmo I.hok ea;obtain⟨od,J,_⟩:=O.look;exact cS (W.kitx_own (cl.get _) cl.hd ha hn htk hm) I.kIn J e (λz=>nomatch z) h
end
structure Xi(k:Nat)(A:Around):Prop where
 hd:A.handled=none
 dp:A.depth+3*k+5<recursionLimit
 un:A.units+16*k+200<cLine
theorem Xi.mono{k:Nat}(r:Xi k A)(h:j≤k):Xi j A:=⟨r.hd,by have:=r.dp;lia,by have:=r.un;lia⟩
theorem Xi.deeper{k:Nat}(r:Xi (k+1) A)(env:Env):Xi k (A.deeper env):=
 ⟨r.hd,by have:=r.dp;show A.depth+1+3*k+5<_;lia,by have:=r.un;show A.units+3+16*k+200<_;lia⟩
theorem Xi.in1{k:Nat}(r:Xi (k+1) A):Xi k A.in1:=
 ⟨r.hd,by have:=r.dp;show A.depth+3*k+5<_;lia,by have:=r.un;show A.units+1+16*k+200<_;lia⟩
theorem Xi.depth{k:Nat}(r:Xi k A):A.depth<recursionLimit:=by have:=r.dp;lia
theorem Xi.units{k:Nat}(r:Xi k A):A.units+64<cLine:=by have:=r.un;lia
def Je:TA:=λ_ H Q=>Q [] H
def Sd(ta:TE)(tr:TA):TA:=λσ H Q=>ta σ H λx H1=>tr σ H1 λxs H2=>Q (x :: xs) H2
section
variable {X:Cx}{e:Expr}{es:VH}{te:TE}{t:TA}{pos:Pos}
theorem Zb:PA X [] Je:=λ_ _ _ _ H Q I h=>Calls.spliced_nil ⟨[],H,I,.nil,h⟩
theorem Za(ha:PE X e te)(hr:PA X es t)(hs:starEach (e :: es) X.env=(false,eval e X.env) :: starEach es X.env:=by rfl):PA X (e :: es) (Sd te t):=by
 intro pos pins s σ H Q I h;rw[hs];show wpAny _ _ (spliced ((false,eval e X.env) :: backTo pos (starEach es X.env))) _ _ s;refine XH (thn (ha pins s σ H _ I h) λu s1 ⟨x,H1,I1,r1,q1⟩=>?_);exact thn (hr pos pins s1 σ H1 _ I1 q1) λus s2 ⟨xs,H2,I2,r2,q2⟩=>⟨x :: xs,H2,I2,.cons r1 r2,q2⟩
def Zsj(t:TA):TE:=λσ H Q=>t σ H λxs H1=>xs.length≤sizeLine∧∀p,H1 p=none→Q (.ref p) (upd H1 p (.tup xs))
def tLst(t:TA):TE:=λσ H Q=>t σ H λxs H1=>xs.length≤sizeLine∧∀p,H1 p=none→Q (.ref p) (upd H1 p (.lst xs))
theorem Z2{x1}(h:PA X es t):PE X (.Tuple es x1 pos) (Zsj t):=by
 intro pins s σ H Q I hq;refine wpAny_Tuple_spliced (thn (h pos pins s σ H _ I hq) λus s1 ⟨xs,H1,I1,r,z,q⟩=>⟨by rw[←r.length];exact z,?_⟩);have hf:H1 s1.heap.objs.size=none:=I1.hok.fresh (rX _);refine⟨.ref s1.heap.objs.size,upd H1 s1.heap.objs.size (.tup xs),I1.laid (t':=s1.toks) (λb u e=>rV _ e) (rX _) ?_,rfl,q _ hf⟩;exact⟨z,us,r,⟨_,oC _ rfl,rfl,_,rfl⟩⟩
theorem Yk(h:PA X es t):PE X (.List es pos) (tLst t):=by
 intro pins s σ H Q I hq;refine wpAny_List_spliced (thn (h pos pins s σ H _ I hq) λus s1 ⟨xs,H1,I1,r,z,q⟩=>⟨by rw[←r.length];exact z,?_⟩);have hf:H1 s1.heap.objs.size=none:=I1.hok.fresh (rX _);refine⟨.ref s1.heap.objs.size,upd H1 s1.heap.objs.size (.lst xs),I1.laid (t':=s1.toks) (λb u e=>rV _ e) (rX _) ?_,rfl,q _ hf⟩;exact⟨z,us,0,r,oC _ rfl⟩
end
abbrev Sp:=List V→Hp→VK→XK→Prop
abbrev CXT:=List Env→Hp→Shared→XK→Value→Shared→Prop
structure Fx(P:Program)(w:World)(K:W.Frag)(mg:WD)(base:Heap)(A:Around)(outer:List Env)(s:Shared)(H:Hp):Prop where
 frames:A.frames=some outer
 mod:Mod K mg base
 bs:∀b o,base.get? b=some o→s.heap.get? b=some o∧H b=none
 bsz:base.objs.size≤s.heap.objs.size
 Ob:s.heap.FunFrames base outer
 frf:∀b∈frs outer,H b=none
 hok:HOk P w H s.heap
 bare:AllBare s.gens
def CE(outer:List Env)(P:Program)(w:World)(H:Hp)(s:Shared)(Q:VK)(u:Value)(s':Shared):Prop:=
 ∃v H',s'.os=s.os∧AllBare s'.gens∧Un (frs outer) [] H H' s.heap s'.heap∧HOk P w H' s'.heap∧RelV v u∧Q v H'
def CR(CX:CXT)(outer:List Env)(P:Program)(w:World)(H:Hp)(s:Shared)(Q:VK)(E:XK)(r:Result)(s':Shared):Prop:=
 match r with
 |.ok (.ret u)=>CE outer P w H s Q u s'
 |.ok _=>False
 |.error e=>CX outer H s E e s'
structure Ya(P:Program)(w:World)(K:W.Frag)(mg:WD)(base:Heap)(CX:CXT)(k:Nat)(f:Addr)(fd:FuncData)(ps:List Str)(sp:Sp):Prop where
 len:∀vs H Q E,sp vs H Q E→vs.length=ps.length
 run:∀(A:Around) (outer:List Env) (s:Shared) (H:Hp) (args:Args) (us:WC) (vs:List V) (Q:VK) (E:XK),Xi k A→Fx P w K mg base A outer s H→BindsTo s fd args (ps.zip us)→Vals vs us→sp vs H Q E→
  codeAny (model P w) A (.call (.ref f) args) (CR CX outer P w H s Q E) s
theorem Fx.in1(e:Fx P w K mg base A outer s H):
  Fx P w K mg base A.in1 outer s H:=⟨e.frames,e.mod,e.bs,e.bsz,e.Ob,e.frf,e.hok,e.bare⟩
section
variable {X:Cx}{pins:XX}{σ:St}{H:Hp}{s s':Shared}
theorem Inv.Zrr(I:Inv X pins σ H s):Fx X.prog X.w X.K X.mg X.base X.A X.stack s H:=
 ⟨I.ok.frames,I.ok.mod,I.bs,lC I.ok.bsz I.sz,I.stack,I.Kr,I.hok,I.bare⟩
theorem Inv.after{Q:VK}(I:Inv X pins σ H s)(h:CE X.stack X.prog X.w H s Q u s'):EP X pins σ Q u s':=by
 obtain⟨v,H',os,bare,un,hok,r,q⟩:=h;obtain⟨hh,g,d,t,xA⟩:=s';obtain rfl:xA=s.os:=os;exact⟨v,H',I.call (h':=hh) (g':=g) (d':=d) (t':=t) (ch:=[]) un hok bare (λb z=>absurd z (by simp)),r,q⟩
end
def Zhr(sp:Sp)(dvs:List V)(E:XK)(t:TA):TE:=λσ H Q=>t σ H λvs H1=>sp (vs++dvs) H1 Q E
def Binds(K:W.Frag)(fd:FuncData)(ps:List Str)(ds:WC):Prop:=
 ∀(s:Shared) (us:WC),K.In s.heap→(us++ds).length=ps.length→BindsTo s fd ⟨us,[]⟩ (ps.zip (us++ds))
theorem Binds.all(h:∀us:List Value,us.length=ps.length→bindArgs fd ⟨us,[]⟩=pure (ps.zip us)):Binds K fd ps []:=λs us _ hl=>by
 rw[lN]at hl ⊢;exact .of_eq (h us hl)
def Passes(CX:CXT)(X:Cx)(E:XK):Prop:=∀(pins:XX) (σ:St) (H:Hp) (s:Shared) (e:Value) (s':Shared),Inv X pins σ H s→CX X.stack H s E e s'→X.xe e s'
section
variable {X:Cx}{CX:CXT}{k:Nat}{f C:Addr}{fd:FuncData}{ps:List Str}{sp:Sp}{dvs:List V}{ds:WC}{E:XK}{x m:Str}{p pos apos:Pos}{e o:Expr}{es:VH}{ta:TE}{t:TA}
theorem Zij{Q:VK}{vs:List V}(F:Ya X.prog X.w X.K X.mg X.base CX k f fd ps sp)(hr:Xi k X.A)(hb:Binds X.K fd ps ds)(hd:Vals dvs ds)(hx:Passes CX X E)
  (I:Inv X pins σ H s) (r:Vals vs us) (h:sp (vs++dvs) H Q E):wpAny (model X.prog X.w) X.A (call (.ref f) us) (EP X pins σ Q) X.xe s:=by
 have r2:Vals (vs++dvs) (us++ds):=r.append hd;have hl:(us++ds).length=ps.length:=by rw[←r2.length];exact F.len _ _ _ _ h
 refine cX (dP (F.run X.A X.stack s H ⟨us,[]⟩ (us++ds) (vs++dvs) Q E hr I.Zrr (hb s us I.kIn hl) r2 h) λr s' hq=>?_)
 cases r with
 |error e=>exact hx pins σ H s e s' I hq
 |ok fl=>
  cases fl with
  |ret u=>exact I.after hq
  |next=>exact False.elim hq
  |brk=>exact False.elim hq
  |cont=>exact False.elim hq
theorem Zl6(F:Ya X.prog X.w X.K X.mg X.base CX k f fd ps sp)(hr:Xi k X.A)(hg:Gl X x)(hm:X.mg x=some (.ref f))(hk:W.keepIn X.K (.ref f)=true)(hb:Binds X.K fd ps ds)(hd:Vals dvs ds)(hx:Passes CX X E)
  (ha:PA X (e :: es) t) (u7:(x==("__debug__" : Str))=false:=by decide) (he:starEach (e :: es) X.env=(false,eval e X.env) :: starEach es X.env:=by rfl) (y3:(backTo pos (starEach es X.env)).any (·.1)=false:=by rfl) :
  PE X (.Call (.Name x p) (e :: es) [] pos) (Zhr sp dvs E t):=by
 intro pins s σ H Q I h;refine iX (Pl I hg hm ?_ u7);refine W.callWith_K (h₀:=X.base) I.ok.mod.kin hk (thn (ha pos pins s σ H _ I h) λus s1 ⟨vs,H1,I1,r,q⟩=>⟨I1.kIn,?_⟩) he y3;exact Zij F hr hb hd hx I1 r q
end
def PK(X:Cx)(kws:List Keyword)(t:TA):Prop:=
 ∀(pos:Pos) (pins:XX) (s:Shared) (σ:St) (H:Hp) (Q:List V→Hp→Prop),Inv X pins σ H s→t σ H Q→wpAny (model X.prog X.w) X.A (evalAll ((backToKw pos (keywordEach kws X.env)).map (·.2))) (AP X pins σ Q) X.xe s
section
variable {X:Cx}{CX:CXT}{k:Nat}{f C:Addr}{fd:FuncData}{ps ks:List Str}{sp:Sp}{E:XK}{x m:Str}{p pos apos kpos:Pos}{e o:Expr}{es:VH}{kws:List Keyword}{te ta:TE}{t tk:TA}{nm:Option Str}
theorem Zi5:PK X [] Je:=λ_ _ _ _ H Q I h=>wpAny_evalAll_nil ⟨[],H,I,.nil,h⟩
theorem Zed(ha:PE X e te)(hr:PK X kws t):PK X (⟨nm,e,kpos⟩ :: kws) (Sd te t):=by
 intro pos pins s σ H Q I h;show wpAny _ _ (evalAll ((do let v ←eval e X.env;standAt pos;pure v) :: (backToKw pos (keywordEach kws X.env)).map (·.2))) _ _ s;refine wpAny_evalAll_cons (rS (thn (ha pins s σ H _ I h) λu s1 ⟨x,H1,I1,r1,q1⟩=>rS (cR (rT ?_))));exact thn (hr pos pins s1 σ H1 _ I1 q1) λus s2 ⟨xs,H2,I2,r2,q2⟩=>⟨x :: xs,H2,I2,.cons r1 r2,q2⟩
variable {g:List Value→List Value→List Value}{gV:List V→List V→List V}
end
structure Zv(N P:List Str)(sc:Scope):Prop where
 kind:sc.kind=.function
 co:sc.isCoroutine=false
 gen:sc.isGenerator=false
 nd:N.Nodup
 pre:N.take P.length=P
 par:∀x∈P,sc.names.lookup x=some .local∨sc.names.lookup x=some .cell
 Zqi:∀y∈sc.names,y.2≠.free
theorem Dt{kindOf:UR}{x:Str}:∀{binds:List (Str×Value)}{m:WD},(∀v,(x,v)∉binds)→bindL kindOf binds m x=m x
 |[],_,_=>rfl
 | (n,v) :: r,m,h=>by
  unfold bindL;rw[Dt λw hw=>h w (oO _ hw)]
  split
  ·have:x≠n:=by rintro rfl;exact h v oE
   simp[this]
  ·rfl
theorem Dv{kindOf:UR}{x:Str}:∀{binds:List (Str×Value)}{m:WD},(∀v,(x,v)∉binds)→bindC kindOf binds m x=m x
 |[],_,_=>rfl
 | (n,v) :: r,m,h=>by
  unfold bindC;rw[Dv λw hw=>h w (oO _ hw)]
  split
  ·rfl
  ·have:x≠n:=by rintro rfl;exact h v oE
   simp[this]
theorem Du{kindOf:UR}{x:Str}{v:Value}:∀{P:List Str}{vs:WC}{i:Nat}{m:WD},P.Nodup→P[i]?=some x→vs[i]?=some v→kindOf x=some .local→
  bindL kindOf (P.zip vs) m x=some v
 |[],_,_,_,_,h,_,_=>by simp at h
 |_ :: _,[],_,_,_,_,h,_=>by simp at h
 |p :: P,w :: vs,0,m,nd,h1,h2,hk=>by
  simp at h1 h2;subst h1;subst h2;show bindL kindOf ((p,w) :: P.zip vs) m p=_;unfold bindL;rw[Dt λv hv=>(iR.mp nd).1 (aB hv).1,if_pos hk];simp
 |p :: P,w :: vs,i+1,m,nd,h1,h2,hk=>by
  show bindL kindOf ((p,w) :: P.zip vs) m x=_;unfold bindL;exact Du (i:=i) (iR.mp nd).2 (by simpa using h1) (by simpa using h2) hk
theorem Dw{kindOf:UR}{x:Str}{v:Value}:∀{P:List Str}{vs:WC}{i:Nat}{m:WD},P.Nodup→P[i]?=some x→vs[i]?=some v→kindOf x≠some .local→
  bindC kindOf (P.zip vs) m x=some v
 |[],_,_,_,_,h,_,_=>by simp at h
 |_ :: _,[],_,_,_,_,h,_=>by simp at h
 |p :: P,w :: vs,0,m,nd,h1,h2,hk=>by
  simp at h1 h2;subst h1;subst h2;show bindC kindOf ((p,w) :: P.zip vs) m p=_;unfold bindC;rw[Dv λv hv=>(iR.mp nd).1 (aB hv).1,if_neg hk];simp
 |p :: P,w :: vs,i+1,m,nd,h1,h2,hk=>by
  show bindC kindOf ((p,w) :: P.zip vs) m x=_;unfold bindC;exact Dw (i:=i) (iR.mp nd).2 (by simpa using h1) (by simpa using h2) hk
def start(N:List Str)(vs:List V):St:=vs.map some++List.replicate (N.length-vs.length) none
def Fm(CX:CXT)(P:Program)(w:World)(K:W.Frag)(mg:WD)(base:Heap)(N:List Str)(qual:Str)(scope:Scope)(f:Addr)(cd:Value)(A:Around)(outer:List Env)(s:Shared)(H:Hp)(E:XK):Cx where
 prog:=P
 w:=w
 K:=K
 mg:=mg
 base:=base
 A:=A.deeper (envOfC qual scope s.heap.objs.size f cd)
 N:=N
 s₀:=s
 H₀:=H
 env:=envOfC qual scope s.heap.objs.size f cd
 outer:=outer
 stack:=envOfC qual scope s.heap.objs.size f cd :: outer
 ex:=[]
 calm:=true
 fn:=λ_=>true
 pn:=[]
 xe:=λe s'=>wpAny (model P w) (A.deeper (envOfC qual scope s.heap.objs.size f cd)) (leaving (envOfC qual scope s.heap.objs.size f cd) e) (λ_ xT=>CX outer H s E e xT) (λe' xT=>CX outer H s E e' xT) s'
theorem Zas{sc:Scope}(h:sc.names.lookup x=some .cell):∃c,(cellsFrom n sc.names []).lookup x=some c:=by
 have q:=W.cellsFrom_some sc.names n [] (.inl h);exact Option.isSome_iff_exists.mp q
theorem Zf8{s1:Shared}{E:XK}{vs:List V}
  (S:Zv N ps scope) (hd:A.handled=none) (e0:Fx P w K mg base A outer s H) (hl:vs.length=ps.length) (r:Vals vs us)
  (x:InCallC s s.heap.objs.size (bindL (envOfC qual scope s.heap.objs.size f cd).kindOf (ps.zip us) λ_=>none) (cellsFrom (s.heap.objs.size+1) scope.names []) (bindC (envOfC qual scope s.heap.objs.size f cd).kindOf (ps.zip us) λ_=>none) s1) :
  Inv (Fm CX P w K mg base N qual scope f cd A outer s H E) [] (start N vs) H s1:=by
 have y3:ps.length≤N.length:=by have:=congrArg List.length S.pre;rw[iE]at this;lia
 obtain⟨h1,tk,rfl,hk⟩:=x.done;have o8:∀b:Addr,b∉(Fm CX P w K mg base N qual scope f cd A outer s H E).ex:=λb z=>absurd (show b∈([]:List Addr) from z) (by simp)
 refine⟨⟨e0.mod,S.kind,rfl,rfl,rX _,λy z c h1 h2=>?_,λy hy=>?_,λy c _ h=>?_,λ_=>hd,Around.frames_deeper e0.frames,.inr ⟨rfl,rfl⟩,λb z=>absurd z (o8 b),e0.bs,e0.bsz,λb _ _=>o8 b,λb z=>absurd z (o8 b),e0.Ob,e0.frf⟩,
  rfl,e0.bare,Un.kept hk,⟨_,x.toInCall.ns,λi y v h1 h2 h3=>?_⟩,λy c h=>⟨_,x.cell y c h⟩,e0.hok.fresh (rX _),λy c h=>?_,λp hp=>absurd (show p∈([]:List XZ) from hp) (by simp),e0.hok.kept hk,?_⟩
 ·exact name_of_addr x.apart (iB h1) (iB h2)
 ·have hy:scope.names.lookup y=some .cell∨scope.names.lookup y=some .free:=hy
  rcases hy with hy|hy
  ·exact Zas hy
  ·exact absurd rfl (S.Zqi _ (iB hy))
 ·exact cE (x.above y c (iB h))
 ·have hi:i<vs.length:=by
   unfold start at h2
   by_cases hi:i<vs.length
   ·exact hi
   ·rw[lT (by simpa using hi)]at h2;rw[ZP]at h2
    split at h2<;>cases h2
  have ha:vs[i]?=some v:=by
   unfold start at h2;rw[lP (by simpa using hi),oP]at h2
   cases e:vs[i]? with
   |none=>rw[e]at h2;cases h2
   |some a=>rw[e]at h2;cases h2;rfl
  obtain⟨u,hu,rv⟩:=r.get ha
  have hp:ps[i]?=some y:=by
   rw[←S.pre,List.getElem?_take_of_lt (by lia)];exact h1
  have wE:ps.Nodup:=by rw[←S.pre];exact S.nd.sublist (List.take_sublist _ _)
  refine⟨u,rv,?_⟩
  rcases S.par y (oM hp) with k|k
  ·exact .inl ⟨k,Du wE hp hu k⟩
  ·obtain⟨c,e⟩:=Zas (n:=s.heap.objs.size+1) k;refine .inr ⟨.inl k,c,e,?_⟩;have q:=x.cell y c e;rw[Dw wE hp hu (by show scope.names.lookup y≠_;rw[k];decide)]at q;exact q
 ·exact e0.hok.fresh (cE (x.above y c (iB h)))
 ·unfold start;show _=N.length;rw[oB,rW,dB];lia
theorem Zkn{k:Nat}{dV kV cdv:Value}{an:WS}
  {osl:VI} (lk:K.lookup f=some ⟨oc,od,.func (W.fnOf name qual params body scope dV kV doc pm an cdv ct),osl⟩) (v0:W.codeIn K cdv qual=true) (S:Zv N ps scope)
  (len:∀vs H Q E,sp vs H Q E→vs.length=ps.length)
  (Qw:∀(A:Around) (outer:List Env) (s:Shared) (H:Hp) (vs:List V) (Q:VK) (E:XK),Xi k (A.deeper (envOfC qual scope s.heap.objs.size f cdv))→sp vs H Q E→
   ∃t,PSs (Fm CX P w K mg base N qual scope f cdv A outer s H E) body t∧t { nx:=λ_ H'=>Q .non H',rt:=Q } (start N vs) H) :
  Ya P w K mg base CX (k+1) f (W.fnOf name qual params body scope dV kV doc pm an cdv ct) ps sp:=by
 refine⟨len,λA outer s H args us vs Q E hr e0 hb r m8=>?_⟩;have hl:=len _ _ _ _ m8;have KX:K.In s.heap:=e0.mod.kin.keeps λb o e=>(e0.bs b o e).1;have lim:s.heap.NoLimit:=e0.mod.nolimit.keeps λb o e=>(e0.bs b o e).1
 have Zus:∀y∈ps.zip us,scope.names.lookup y.1=some .local∨(scope.names.lookup y.1=some .cell∧((cellsFrom (s.heap.objs.size+1) scope.names []).lookup y.1).isSome=true):=λ⟨n,v⟩ hy=>by
  rcases S.par n (aB hy).1 with q|q
  ·exact .inl q
  ·exact .inr ⟨q,W.cellsFrom_some _ _ _ (.inl q)⟩
 refine YG hr.depth (KX _ _ lk) rfl S.co S.gen rfl (W.codeRec_of KX v0) (hb _ _ _ _ ?_);refine wpAny_newFunctionEnv_cells S.kind Zus λenv he s1 x=>?_;subst he;refine⟨lim.keeps x.toInCall.keep,codeAny_func ?_⟩;obtain⟨t,ht,hq⟩:=Qw A outer s H vs Q E (hr.deeper _) m8;have I:Inv (Fm CX P w K mg base N qual scope f cdv A outer s H E) [] (start N vs) H s1:=Zf8 S hr.hd e0 hl r x;refine iD (ht [] s1 (start N vs) H _ I hq) (λfl s' hs=>?_) λe s' hs=>hs
 have fin:∀{x4:St}{H':Hp}{v:V}{u:Value},Inv (Fm CX P w K mg base N qual scope f cdv A outer s H E) [] x4 H' s'→RelV v u→Q v H'→CE outer P w H s Q u s':=
  λ{x4 H' v u} J rv q=>⟨v,H',J.os,J.bare,J.base,J.hok,rv,q⟩
 cases fl with
 |ret u=>
  obtain⟨v,x4,H',J,rv,q⟩:=hs;exact fin J rv q
 |next=>
  obtain⟨x4,H',J,q⟩:=hs;exact fin (v:=V.non) (u:=Value.none) J rfl q
 |brk=>
  obtain⟨_,_,_,q⟩:=hs;exact False.elim q
 |cont=>
  obtain⟨_,_,_,q⟩:=hs;exact False.elim q
section
variable {X:Cx}{x:Str}{p pos:Pos}{e:Expr}{es:VH}{t:TA}{id T:String}{r:List V→Hp→VK→Prop}
def tCB(r:List V→Hp→VK→Prop)(t:TA):TE:=λσ H Q=>t σ H λvs H1=>r vs H1 Q
theorem Zq(hc:Yx X (.builtin id) r)(hg:Gl X x)(hm:X.mg x=none)(hv:bootBuiltins x=some (.builtin id))(ha:PA X (e :: es) t)(hn:x≠"__name__":=by decide)(u7:(x==("__debug__" : Str))=false:=by decide)
  (he:starEach (e :: es) X.env=(false,eval e X.env) :: starEach es X.env:=by rfl) (y3:(backTo pos (starEach es X.env)).any (·.1)=false:=by rfl):PE X (.Call (.Name x p) (e :: es) [] pos) (tCB r t):=by
 intro pins s σ H Q I h;refine iX (Qq I hg hm hv ?_ hn u7);exact PyProof.Rows.callWith_builtin1 (thn (ha pos pins s σ H _ I h) λus s1 ⟨vs,H1,I1,r1,q1⟩=>hc pins s1 σ H1 vs us Q I1 r1 q1) he y3
theorem Zy(hc:Yx X (.type T) r)(hg:Gl X x)(hm:X.mg x=none)(hv:bootBuiltins x=some (.type T))(ha:PA X (e :: es) t)(hn:x≠"__name__":=by decide)(u7:(x==("__debug__" : Str))=false:=by decide)
  (he:starEach (e :: es) X.env=(false,eval e X.env) :: starEach es X.env:=by rfl) (y3:(backTo pos (starEach es X.env)).any (·.1)=false:=by rfl):PE X (.Call (.Name x p) (e :: es) [] pos) (tCB r t):=by
 intro pins s σ H Q I h;refine iX (Qq I hg hm hv ?_ hn u7);exact bA (thn (ha pos pins s σ H _ I h) λus s1 ⟨vs,H1,I1,r1,q1⟩=>hc pins s1 σ H1 vs us Q I1 r1 q1) he y3
end
end L2
namespace HT
open PySem PyProof.Rows
section
open PySem.SeqAt
open PySem.AutoSeq1 (wpAny_loadPart')
open PySem.MeetsSeq PySem.MeetsSeq2 PySem.MeetsSeq3
end
section
variable {prog:Program}{w:World}{A:Around}{E:XW}{s:Shared}
theorem Zm6{t b:Addr}{vs ws:WC}{Q:XW}(ht:IsTup s.heap t vs.toArray)(hb:IsTup s.heap b ws.toArray)(hv:vs≠[])
  (h1:ws=[]→Q (.ref t) s) (h2:ws≠[]→Q (.ref s.heap.objs.size) { s with heap:=s.heap.push { cls:=.type "tuple",data:=.seq (vs++ws).toArray } })
  (hsz:vs.length+ws.length≤sizeLine):wpAny (model prog w) A (binaryOp .Add (.ref t) (.ref b)) Q E s:=by
 obtain⟨⟨cls,dd,data,sl⟩,ho,hc,n,hd⟩:=id ht;obtain⟨⟨cls2,dd2,data2,sl2⟩,xM,i7,n2,hd2⟩:=id hb;simp only at hc hd i7 hd2;subst hc hd i7 hd2;have e:vs.toArray++ws.toArray=(vs++ws).toArray:=by simp
 by_cases hw:ws=[]
 ·exact concat_meets ⟨_,ho,rfl⟩ ⟨_,xM,rfl⟩ noFill_tuple_add seq_tuple_add PySem.F.slot_tuple_add PySem.F.entry_tuple_add (PySem.F.args_tuple_add_2 _ _)
   (tuple_addW1 t b vs.toArray ws.toArray n n2 dd dd2 sl sl2 (by simpa using hv) (by simp[hw])) ⟨ho,xM,h1 hw⟩
 ·refine concat_meets ⟨_,ho,rfl⟩ ⟨_,xM,rfl⟩ noFill_tuple_add seq_tuple_add PySem.F.slot_tuple_add PySem.F.entry_tuple_add (PySem.F.args_tuple_add_2 _ _)
   (tuple_addW2 t b vs.toArray ws.toArray n n2 dd dd2 sl sl2 (by simpa using hv) (by simpa using hw) (by rw[oF,oF];exact hsz)) ⟨ho,xM,?_⟩
  rw[e];exact h2 hw
def sIx(n d:Nat):Option Int→Nat
 |none=>d
 |some v=>if v<0 then (v+(n:Int)).toNat else min v.toNat n
theorem Pe(n d k:Nat):sIx n d (some (k:Int))=min k n:=by
 show (if (k:Int)<0 then ((k:Int)+(n:Int)).toNat else min (k:Int).toNat n)=min k n;rw[if_neg (by lia),cO]
theorem Zbt(n d:Nat)(hd:d≤n)(o:VN):sIx n d o≤n:=by
 cases o with
 |none=>exact hd
 |some v=>
  show (if v<0 then (v+(n:Int)).toNat else min v.toNat n)≤n
  by_cases hv:v<0
  ·rw[if_pos hv];lia
  ·rw[if_neg hv];exact Nat.min_le_right _ _
theorem Ze2(v:Int)(n d:Nat):(if v<0 then max (v+(n:Int)) 0 else min v (n:Int))=((sIx n d (some v):Nat):Int):=by
 show (if v<0 then max (v+(n:Int)) 0 else min v (n:Int))=(((if v<0 then (v+(n:Int)).toNat else min v.toNat n):Nat):Int)
 by_cases hv:v<0
 ·simp only[if_pos hv];lia
 ·simp only[if_neg hv];lia
theorem Zc8(lo hi:VN)(n:Nat):Builtin.Slice.sliceAdjust lo hi 1 (n:Int)=(((sIx n 0 lo:Nat):Int),((sIx n n hi:Nat):Int)):=by
 have h1:¬ ((1:Int)<0):=by lia
 unfold Builtin.Slice.sliceAdjust;simp only[h1,if_false];refine Prod.ext ?_ ?_
 ·cases lo with
  |none=>rfl
  |some v=>exact Ze2 v n 0
 ·cases hi with
  |none=>rfl
  |some v=>exact Ze2 v n n
theorem Zbx(i j:Nat):Builtin.Slice.slicePlaces (i:Int) (j:Int) 1=j-i:=by
 unfold Builtin.Slice.slicePlaces;have h1:(1:Int)>0:=by lia
 simp only[h1,if_true,Int.ediv_one]
 split<;>lia
theorem Jr{v:Value}{o:VN}{Q:Option Int→Shared→Prop}(p:IsPart v o)(h:Q o s):wpAny (model prog w) A (Builtin.Slice.slicePartIndex v) Q E s:=by
 cases p with
 |none=>exact slicePart_none h
 |int i t=>exact slicePart_int h
theorem Mp{sl:Addr}{vl vu:Value}{lo hi:VN}{n:Nat}{Q:Int×Int×Nat→Shared→Prop}(hs:s.heap.IsSliceOf sl vl vu .none)(pl:IsPart vl lo)(pu:IsPart vu hi)
  (h:Q (((sIx n 0 lo:Nat):Int),1,sIx n n hi-sIx n 0 lo) s):wpAny (model prog w) A (Builtin.Slice.sliceApplied (.ref sl) (pure (n:Int))) Q E s:=by
 obtain⟨os,yQ,hcs,vN⟩:=id hs;unfold Builtin.Slice.sliceApplied Builtin.Slice.sliceFields;refine rS (rS (iM yQ vN (x:=vl) rfl (rS (iM yQ vN (x:=vu) rfl (rS (iM yQ vN (x:=.none) rfl (rT ?_)))))));refine rS (slicePart_none ?_);show wpAny _ _ (if ((1:Int)==0)=true then _ else _) _ _ s;rw[if_neg (by decide)];refine rS (Jr pl (rS (Jr pu (rS (rT ?_)))))
 show wpAny _ _ (match Builtin.Slice.sliceAdjust lo hi 1 (n:Int) with|(lo,hi)=>pure (lo,(1:Int),Builtin.Slice.slicePlaces lo hi 1)) _ _ s;rw[Zc8 lo hi n];show wpAny _ _ (pure (((sIx n 0 lo:Nat):Int),(1:Int),Builtin.Slice.slicePlaces ((sIx n 0 lo:Nat):Int) ((sIx n n hi:Nat):Int) 1)) _ _ s;rw[Zbx];exact rT h
theorem Zi6(xs:WN)(i k:Nat):((List.range k).filterMap λ(m:Nat)=>xs[((i:Int)+(m:Int)*1).toNat]?).toArray=((xs.toList.drop i).take k).toArray:=by
 have e:(λ(m:Nat)=>xs[((i:Int)+(m:Int)*1).toNat]?)=λm=>xs[i+m]?:=by
  funext m
  have:((i:Int)+(m:Int)*1).toNat=i+m:=by lia
  rw[this]
 rw[e];have:=pick_run xs i k;rw[List.filterMap_map]at this;have e2:((λx=>xs[x]?) ∘ λx=>i+x)=λm=>xs[i+m]?:=rfl;rw[e2]at this;rw[this]
theorem N2{t sl:Addr}{items:WN}{vl vu:Value}{lo hi:VN}{Q:XW}(ht:IsTup s.heap t items)(hs:s.heap.IsSliceOf sl vl vu .none)(pl:IsPart vl lo)(pu:IsPart vu hi)
  (hw:¬ (sIx items.size 0 lo=0∧sIx items.size items.size hi=items.size))
  (h:Q (.ref s.heap.objs.size) { s with heap:=s.heap.push { cls:=.type "tuple",data:=.seq ((items.toList.drop (sIx items.size 0 lo)).take (sIx items.size items.size hi-sIx items.size 0 lo)).toArray } })
  (hsz:items.size≤sizeLine):wpAny (model prog w) A (getItem (.ref t) (.ref sl)) Q E s:=by
 have Zem:sizeOk (.seq ((items.toList.drop (sIx items.size 0 lo)).take (sIx items.size items.size hi-sIx items.size 0 lo)).toArray):=by
  show ((items.toList.drop (sIx items.size 0 lo)).take (sIx items.size items.size hi-sIx items.size 0 lo)).toArray.size≤sizeLine;rw[oF,iE,aO,oZ];lia
 have hj:sIx items.size items.size hi≤items.size:=Zbt _ _ (rX _) hi;obtain⟨os,yQ,hcs,vN⟩:=id hs;have hTs:s.TypeIs (.ref sl) "slice":=⟨os,yQ,hcs⟩;unfold getItem
 try with_reducible refine lE ?_
 first|refine rS (rT ?_)|skip
 refine rS (wpAny_sequenceKey ht.typeIs (by decide) ?_)
 refine rS (dD (name:=Str.ofString "__getitem__") ht.typeIs bV
  (iF bV ht.typeIs entry_tuple_getitem ?_ (args_tuple_getitem _ _)))
 show wpAny _ _ (Builtin.Tuple.tupleItemsOf (.ref t) >>= _) _ _ s;refine rS (tupleItemsOf_ ht ?_);refine rS (YL hTs ?_);rw[if_pos (by decide)];refine rS (Mp hs pl pu ?_)
 have w8:¬ ((((sIx items.size 0 lo:Nat):Int)==0&&(1:Int)==1&&(sIx items.size items.size hi-sIx items.size 0 lo)==items.size)=true):=by
  intro q;rw[lJ,lJ]at q;have q1:((sIx items.size 0 lo:Nat):Int)=0:=eq_of_beq q.1.1;have q2:sIx items.size items.size hi-sIx items.size 0 lo=items.size:=eq_of_beq q.2;exact hw ⟨by lia,by lia⟩
 show wpAny _ _ (if (((sIx items.size 0 lo:Nat):Int)==0&&(1:Int)==1&&(sIx items.size items.size hi-sIx items.size 0 lo)==items.size)=true then _ else _) _ _ s;rw[if_neg w8,Zi6]
 first
  |exact rS (m:=Builtin.Tuple.tupleExact _) (lQ (rT ⟨_,rfl,rT h⟩) Zem)
  |exact rS (m:=Builtin.Tuple.tupleExact _) (lQ (rS (rT (rT ⟨_,rfl,rT h⟩))) Zem)
  |exact rS (rS (m:=Builtin.Tuple.tupleExact _) (lQ (rT (rT ⟨_,rfl,rT h⟩)) Zem))
  |exact rS (rS (m:=Builtin.Tuple.tupleExact _) (lQ (rT ⟨_,rfl,rT h⟩) Zem))
end
end HT
namespace L2
open PySem PySem.Spec PyProof.Rows
variable {A:Around}{H:Hp}{T:String}{j n t':Nat}{ns:List Int}{pins:XX}{r:R2}{s:Shared}{u:Value}{us:WC}{xs ys:List V}{y:V}{σ:St}
abbrev TO:=St→Hp→(Option Int→Hp→Prop)→Prop
def PO(X:Cx)(e:Option Expr)(t:TO):Prop:=
 ∀(pins:XX) (s:Shared) (σ:St) (H:Hp) (Q:Option Int→Hp→Prop),Inv X pins σ H s→t σ H Q→
  wpAny (model X.prog X.w) X.A (evalPart e X.env) (λu s'=>∃o H',Inv X pins σ H' s'∧IsPart u o∧Q o H') X.xe s
def Zlp:TO:=λ_ H Q=>Q none H
inductive Zhl(Q:Option Int→Hp→Prop)(x:V)(H1:Hp):Prop
 |mk(i:_)(h1:x=.int i)(h2:Q (some i) H1):Zhl Q x H1
def Zsm(t:TE):TO:=λσ H Q=>t σ H λx H1=>Zhl Q x H1
theorem intsAre_of:∀{us:WC},Vals (ns.map V.int) us→IntsAre us ns:=by
 induction ns with
 |nil=>intro us r;rw[YM]at r;cases r;exact .nil
 |cons n ns ih=>
  intro us r;rw[lG]at r
  cases r with
  |cons r1 r2=>
   obtain⟨t,e⟩:=r1;subst e;exact .cons n t (ih r2)
section
variable {X:Cx}{e:Expr}{te:TE}{lo hi:Option Expr}{tl th:TO}{pos p2:Pos}
theorem Pf:PO X none Zlp:=by
 intro pins s σ H Q I h;rw[evalPart_none];exact rT ⟨none,H,I,.none,h⟩
theorem Vt(h:PE X e te):PO X (some e) (Zsm te):=by
 intro pins s σ H Q I hw;rw[evalPart_some];refine thn (h pins s σ H _ I hw) λu s1 ⟨x,H1,I1,r1,q1⟩=>?_;obtain⟨i,rfl,q⟩:=q1;obtain⟨t,rfl⟩:=r1;exact⟨some i,H1,I1,.int i t,q⟩
def SlR(X:Cx)(r:V→Option Int→Option Int→Hp→VK→Prop):Prop:=
 ∀(pins:XX) (s:Shared) (σ:St) (H:Hp) (x:V) (v vl vu:Value) (lo hi:VN) (sl:Addr) (Q:VK),Inv X pins σ H s→RelV x v→s.heap.IsSliceOf sl vl vu .none→IsPart vl lo→IsPart vu hi→r x lo hi H Q→
  ∃T id,typeLookup (.type T) "__getitem__"=pure (some (.builtin id))∧s.TypeIs v T∧wpAny (model X.prog X.w) X.A (getItem v (.ref sl)) (EP X pins σ Q) X.xe s
def tSl(r:V→Option Int→Option Int→Hp→VK→Prop)(te:TE)(tl th:TO):TE:=λσ H Q=>te σ H λx H1=>tl σ H1 λl H2=>th σ H2 λu H3=>r x l u H3 Q
theorem Vy{r:V→Option Int→Option Int→Hp→VK→Prop}(hr:SlR X r)(he:PE X e te)(hl:PO X lo tl)(hu:PO X hi th):PE X (.Subscript e (.Slice lo hi none p2) pos) (tSl r te tl th):=by
 intro pins s σ H Q I h;refine Subscript_ (thn (he pins s σ H _ I h) λv s1 ⟨x,H1,I1,r1,q1⟩=>?_);refine wpAny_Slice (thn (hl pins s1 σ H1 _ I1 q1) λvl s2 ⟨l,H2,I2,pl,q2⟩=>thn (hu pins s2 σ H2 _ I2 q2) λvu s3 ⟨u,H3,I3,pu,q3⟩=>?_);rw[evalPart_none];refine rT ?_
 have I4:Inv X pins σ H3 { s3 with heap:=s3.heap.push { cls:=.type "slice",data:=.fields #[vl,vu,.none] } }:=I3.kept (t':=s3.toks) λb ob q=>rV _ q
 obtain⟨T,id,hT,ht,hg⟩:=hr pins { s3 with heap:=s3.heap.push { cls:=.type "slice",data:=.fields #[vl,vu,.none] } } σ H3 x v vl vu l u s3.heap.objs.size Q I4 r1 (Heap.IsSliceOf.new ..) pl pu q3
 show wpAny (model X.prog X.w) X.A (subscriptTail e (.Slice lo hi none p2) v (.ref s3.heap.objs.size)) (EP X pins σ Q) X.xe { s3 with heap:=s3.heap.push { cls:=.type "slice",data:=.fields #[vl,vu,.none] } };exact tail_any (ops:=[.ref s3.heap.objs.size,v]) ht hT hg (by with_unfolding_all rfl)
def Hy(xs:List V)(lo hi:VN):List V:=(xs.drop (HT.sIx xs.length 0 lo)).take (HT.sIx xs.length xs.length hi-HT.sIx xs.length 0 lo)
theorem L4(xs:List V)(lo hi:VN):(Hy xs lo hi).length≤xs.length:=by
 unfold Hy;rw[iE,aO];lia
inductive Zn5(K:W.Frag)(x:V)(lo:VN)(hi:VN)(H:Hp)(Q:VK):Prop
 |mk(a xs:_)(h1:x=.ref a)(h2:SqT K H a xs)(h3:¬ (HT.sIx xs.length 0 lo=0∧HT.sIx xs.length xs.length hi=xs.length))(h4:∀p,H p=none→Q (.ref p) (upd H p (.tup (Hy xs lo hi)))):Zn5 K x lo hi H Q
def Ztc(K:W.Frag):V→Option Int→Option Int→Hp→VK→Prop:=λx lo hi H Q=>Zn5 K x lo hi H Q
theorem Zpr:SlR X (Ztc X.K):=by
 intro pins s σ H x v vl vu lo hi sl Q I rx hs pl pu h;obtain⟨a,xs,rfl,hx,hw,q⟩:=h;cases rx;obtain⟨its,r,ht,hz⟩:=I.tuple hx;have hlen:its.toArray.size=xs.length:=by rw[oF];exact r.length.symm
 refine⟨"tuple",_,bV.lookup,ht.typeIs,?_⟩;refine HT.N2 ht hs pl pu (by rw[hlen];exact hw) ?_ (by rw[hlen];exact hz);rw[hlen];refine⟨.ref s.heap.objs.size,_,I.laid (t':=s.toks) (o:=.tup (Hy xs lo hi)) (λb ob q=>rV _ q) (rX _) ?_,rfl,q _ (I.hok.fresh (rX _))⟩;exact⟨lC (L4 xs lo hi) hz,_,(r.drop (HT.sIx xs.length 0 lo)).take (HT.sIx xs.length xs.length hi-HT.sIx xs.length 0 lo),IsTup.new _ _⟩
inductive Ziy(K:W.Frag)(x:V)(y:V)(H:Hp)(Q:VK):Prop
 |mk(a b xs ys:_)(h1:x=.ref a)(h2:y=.ref b)(h3:SqT K H a xs)(h4:SqT K H b ys)(h5:xs≠[])(h6:xs.length+ys.length≤sizeLine)(h7:(ys=[]→Q (.ref a) H))(h8:(ys≠[]→∀p,H p=none→Q (.ref p) (upd H p (.tup (xs++ys))))):Ziy K x y H Q
def Zoh(K:W.Frag):R2:=λx y H Q=>Ziy K x y H Q
theorem Vals.C0(r:Vals xs us):us=[]↔xs=[]:=by
 cases r with
 |nil=>simp
 |cons _ _=>simp
theorem Zmb:OpR X (binaryOp .Add) (Zoh X.K):=by
 intro pins s σ H x y v u Q I rx ry h;obtain⟨a,b,xs,ys,rfl,rfl,ha,hb,hx,hz,q1,q2⟩:=h;cases rx;cases ry;obtain⟨its,r1,p1,_⟩:=I.tuple ha;obtain⟨A9,r2,p2,_⟩:=I.tuple hb;refine HT.Zm6 p1 p2 (λz=>hx (r1.C0.mp z)) (λz=>⟨.ref a,H,I,rfl,q1 (r2.C0.mp z)⟩) (λz=>?_) (by rw[←r1.length,←r2.length];exact hz);refine⟨.ref s.heap.objs.size,_,I.laid (t':=s.toks) (o:=.tup (xs++ys)) (λb ob q=>rV _ q) (rX _) ?_,rfl,q2 (λw=>z (r2.C0.mpr w)) _ (I.hok.fresh (rX _))⟩;exact⟨by rw[oB];exact hz,_,r1.append r2,IsTup.new _ _⟩
end
def ixN(n:Nat)(i:Int):Option Nat:=if 0≤i then (if i<n then some i.toNat else none) else if -(n:Int)≤i then some (i+n).toNat else none
def atI{α:Type}(xs:List α)(i:Int):Option α:=(ixN xs.length i).bind λj=>xs[j]?
theorem Zej{n:Nat}{i:Int}(h:ixN n i=some j):seqIndex? i n=some j∧j<n∧-(n:Int)≤i∧i<n:=by
 unfold ixN at h
 by_cases h0:0≤i
 ·rw[if_pos h0]at h
  by_cases h1:i<n
  ·rw[if_pos h1]at h;have e:i.toNat=j:=Option.some.inj h;exact⟨by rw[seqIndex_of h0 h1,e],by lia,by lia,h1⟩
  ·rw[if_neg h1]at h;cases h
 ·rw[if_neg h0]at h
  by_cases h1 : -(n:Int)≤i
  ·rw[if_pos h1]at h;have e:(i+n).toNat=j:=Option.some.inj h;exact⟨by rw[seqIndex_neg (by lia) h1,e],by lia,h1,by lia⟩
  ·rw[if_neg h1]at h;cases h
theorem Bl{α:Type}{xs:List α}{i:Int}{v:α}(h:atI xs i=some v):∃j,seqIndex? i xs.length=some j∧xs[j]?=some v∧j<xs.length∧-(xs.length:Int)≤i∧i<xs.length:=by
 unfold atI at h
 cases e:ixN xs.length i with
 |none=>rw[e]at h;cases h
 |some j=>
  rw[e]at h;obtain⟨h1,h2,h3,h4⟩:=Zej e;exact⟨j,h1,h,h2,h3,h4⟩
theorem Zj{α:Type}{xs:List α}{j:Nat}{v:α}(h:xs[j]?=some v):atI xs (j:Int)=some v:=by
 have hj:j<xs.length:=(oG.mp h).1
 have e:ixN xs.length (j:Int)=some j:=by
  unfold ixN;rw[if_pos (by lia),if_pos (by lia)];simp
 unfold atI;rw[e];exact h
def Znd(b:Expr):Prop:=∀o i,subscripted b false o i=operate [o,i] (getItem o i)
def IxR(X:Cx)(r:R2):Prop:=
 ∀(value slice:Expr) (pins:XX) (s:Shared) (σ:St) (H:Hp) (x y:V) (v u:Value) (Q:VK),Inv X pins σ H s→RelV x v→RelV y u→r x y H Q→
  subscripted slice false v u=operate [v,u] (getItem v u)→wpAny (model X.prog X.w) X.A (subscriptTail value slice v u) (EP X pins σ Q) X.xe s
def MtR(X:Cx)(id:String)(r:V→List V→Hp→VK→Prop):Prop:=
 ∀(pins:XX) (s:Shared) (σ:St) (H:Hp) (x:V) (xs:List V) (v:Value) (us:WC) (Q:VK),Inv X pins σ H s→RelV x v→Vals xs us→r x xs H Q→
  wpAny (model X.prog X.w) X.A (call (.builtin id) (v :: us)) (EP X pins σ Q) X.xe s
section
variable {X:Cx}{a b:Expr}{ta tb:TE}{pos:Pos}
theorem Zs(hr:IxR X r)(ha:PE X a ta)(hb:PE X b tb)(hs:Znd b):PE X (.Subscript a b pos) (tOp r ta tb):=by
 intro pins s σ H Q I h;exact Subscript_ (Zr2 ha hb I h λv u s2 x y H2 I2 rx ry q=>hr a b pins s2 σ H2 x y v u Q I2 rx ry q (hs _ _))
inductive Zob(K:W.Frag)(x:V)(y:V)(H:Hp)(Q:VK):Prop
 |mk(p xs i v:_)(h1:x=.ref p)(h2:y=.int i)(h3:SqL K H p xs)(h4:atI xs i=some v)(h5:Q v H):Zob K x y H Q
def Zp2(K:W.Frag):R2:=λx y H Q=>Zob K x y H Q
inductive Zn9(K:W.Frag)(x:V)(y:V)(H:Hp)(Q:VK):Prop
 |mk(p xs i v:_)(h1:x=.ref p)(h2:y=.int i)(h3:SqT K H p xs)(h4:atI xs i=some v)(h5:Q v H):Zn9 K x y H Q
def Zti(K:W.Frag):R2:=λx y H Q=>Zn9 K x y H Q
inductive Zoa(x:V)(y:V)(H:Hp)(Q:VK):Prop
 |mk(z i c:_)(h1:x=.str z)(h2:y=.int i)(h3:z.length≤sizeLine)(h4:atI z.cps.toList i=some c)(h5:Q (.str ⟨#[c]⟩) H):Zoa x y H Q
def Ztj:R2:=λx y H Q=>Zoa x y H Q
theorem Zmn:IxR X (Zp2 X.K):=by
 intro value slice pins s σ H x y v u Q I rx ry h hs;obtain⟨p,xs,i,z,rfl,rfl,hq,he,q⟩:=h;cases rx;obtain⟨t,rfl⟩:=ry;obtain⟨its,r,pl,hz⟩:=I.list hq;obtain⟨j,h1,h2,h3,h4,h5⟩:=Bl he;obtain⟨w,ew,j4⟩:=r.get h2;have hl:=r.length;have hn:=Oy;have fin:EP X pins σ Q w s:=⟨z,H,I,j4,q⟩
 by_cases h0:0≤i
 ·have hj:i.toNat=j:=by
   rw[seqIndex_of h0 h5]at h1;exact Option.some.inj h1
  exact item_listR pl.isList h0 (by lia) (by rw[hj];simpa using ew) fin hs
 ·have hj:(i+(its.toArray.size:Int)).toNat=j:=by
   rw[seqIndex_neg (by lia) h4]at h1;rw[oF,←hl];exact Option.some.inj h1
  exact subscriptTail_builtinR (x:=w) pl.isList.typeIs slot_list_getitem.lookup
   (wpAny_getItem_list_neg (Q:=λr s'=>r=w∧EP X pins σ Q r s') pl.isList (by lia) (by rw[oF]<;>lia) (by lia) (by rw[hj];simpa using ew) ⟨rfl,fin⟩) hs
theorem Zqz:IxR X (Zti X.K):=by
 intro value slice pins s σ H x y v u Q I rx ry h hs;obtain⟨p,xs,i,z,rfl,rfl,hq,he,q⟩:=h;cases rx;obtain⟨t,rfl⟩:=ry;obtain⟨its,r,pl,hz⟩:=I.tuple hq;obtain⟨j,h1,h2,h3,h4,h5⟩:=Bl he;obtain⟨w,ew,j4⟩:=r.get h2;have hl:=r.length;have hn:=Oy;have fin:EP X pins σ Q w s:=⟨z,H,I,j4,q⟩
 exact subscriptTail_builtinR (x:=w) pl.typeIs slot_tuple_getitem.lookup
  (getItem_tuple (j:=j) (Q:=λr s'=>r=w∧EP X pins σ Q r s') pl (by lia) (by lia) (by rw[oF,←hl];exact h1) (by simpa using ew) ⟨rfl,fin⟩) hs
theorem Zq0:IxR X Ztj:=by
 intro value slice pins s σ H x y v u Q I rx ry h hs;obtain⟨z,i,c,rfl,rfl,hz,he,q⟩:=h;obtain⟨t,rfl⟩:=rx;obtain⟨t',rfl⟩:=ry;obtain⟨j,h1,h2,h3,h4,h5⟩:=Bl he;have hl:z.cps.toList.length=z.length:=by simp[Str.length]
 rw[hl]at h1 h4 h5;have hn:=Oy
 exact tail_any (typeIs_str s z t) slot_str_getitem.lookup (getItem_str (c:=c) (by
  have e1:decide (i < -(2 ^ 63:Int))=false:=decide_eq_false (by lia);have e2:decide (i ≥ 2 ^ 63)=false:=decide_eq_false (by lia)
  rw[e1,e2,Bool.or_false]) (by rw[h1];simpa using h2) ⟨.str ⟨#[c]⟩,H,I.tok _,⟨_,rfl⟩,q⟩) hs
theorem Zca(its:WC)(n j:Nat)(u:Value):Obj.mapSeq (·.setIfInBounds j u) { cls:=.type "list",data:=.seq its.toArray n } = { cls:=.type "list",data:=.seq (its.set j u).toArray n }:=by
 simp[Obj.mapSeq]
theorem Inv.lst{pins:XX}{σ:St}{H:Hp}{s:Shared}{p:Addr}{xs:List V}(I:Inv X pins σ H s)(h:H p=some (.lst xs)):
  ∃(its:WC) (n:Nat),Vals xs its∧s.heap.get? p=some { cls:=.type "list",data:=.seq its.toArray n }∧xs.length≤sizeLine:=by
 obtain⟨z,its,n,r,e⟩:=I.hok p _ h;exact⟨its,n,r,e,z⟩
theorem Inv.Zqo{p:Addr}{its its':WC}{n':Nat}{f:Obj→Obj}(I:Inv X pins σ H s)(h:H p=some (.lst xs))
  (ho:s.heap.get? p=some { cls:=.type "list",data:=.seq its.toArray n }) (hf:f { cls:=.type "list",data:=.seq its.toArray n } = { cls:=.type "list",data:=.seq its'.toArray n' }) (r:Vals ys its') (hz:ys.length≤sizeLine) (t:Nat) :
  Inv X pins σ (upd H p (.lst ys)) { s with heap:=s.heap.update p f,toks:=t }:=by
 have e:(s.heap.update p f).get? p=some { cls:=.type "list",data:=.seq its'.toArray n' }:=by
  rw[iT f ho (by rw[hf]<;>rfl),hf]
 refine I.write (x:=p) (e:=p) (by rw[h];trivial) (.inl rfl) (λb u hb q=>(lK _ _ (dA hb)).trans q) ⟨_,e⟩ ?_;exact⟨hz,its',n',r,e⟩
inductive Zis(o:V)(i:V)(v:V)(H:Hp)(Q:(Hp→Prop)):Prop
 |mk(p xs k j:_)(h1:o=.ref p)(h2:i=.int k)(h3:H p=some (.lst xs))(h4:ixN xs.length k=some j)(h5:Q (upd H p (.lst (xs.set j v)))):Zis o i v H Q
def Ztf:V→V→V→Hp→(Hp→Prop)→Prop:=λo i v H Q=>Zis o i v H Q
theorem set_list:Zvf X Ztf:=by
 intro pins s σ H o i v ov iv u Q I ro ri rv h;obtain⟨p,xs,k,j,rfl,rfl,hp,hj,q⟩:=h;cases ro;obtain⟨t,rfl⟩:=ri;obtain⟨its,n,r,ho,hz⟩:=I.lst hp;obtain⟨h1,h2,h3,h4⟩:=Zej hj;have hl:=r.length;have hn:=Oy
 have I':Inv X pins σ (upd H p (.lst (xs.set j v))) { s with heap:=s.heap.update p (Obj.mapSeq (·.setIfInBounds j u)) }:=
  I.Zqo hp ho (Zca its n j u) (r.set rv j) (by rw[List.length_set];exact hz) s.toks
 by_cases h0:0≤k
 ·have hk:k.toNat=j:=by
   rw[seqIndex_of h0 h4]at h1;exact Option.some.inj h1
  exact W.ki_setAt ho h0 (by lia) (by rw[oF,←hl];exact h4) (by rw[hk];exact⟨_,I',q⟩)
 ·have hk:(k+(its.toArray.size:Int)).toNat=j:=by
   rw[seqIndex_neg (by lia) h3]at h1;rw[oF,←hl];exact Option.some.inj h1
  exact W.ki_setBack ho (by lia) (by rw[oF,←hl];exact h3) (by lia) (by rw[hk];exact⟨_,I',q⟩)
theorem Nh(lo hi:VN)(n:Nat):(sliceBounds lo hi none n).1=((HT.sIx n 0 lo:Nat):Int)∧(sliceBounds lo hi none n).2.1=((HT.sIx n n hi:Nat):Int)∧(sliceBounds lo hi none n).2.2=1:=by
 refine⟨?_,?_,rfl⟩
 ·cases lo with
  |none=>simp[sliceBounds,HT.sIx]
  |some i=>
   simp only[sliceBounds,HT.sIx,Option.getD_none,show (1:Int)>0 by decide,if_true]
   by_cases h:i<0
   ·simp only[h,if_true]<;>lia
   ·simp only[h,if_false]<;>lia
 ·cases hi with
  |none=>simp[sliceBounds,HT.sIx]
  |some i=>
   simp only[sliceBounds,HT.sIx,Option.getD_none,show (1:Int)>0 by decide,if_true]
   by_cases h:i<0
   ·simp only[h,if_true]<;>lia
   ·simp only[h,if_false]<;>lia
theorem G2(its:WC)(lo hi:VN):slicePick its.toArray lo hi none=((its.drop (HT.sIx its.length 0 lo)).take (HT.sIx its.length its.length hi-HT.sIx its.length 0 lo)).toArray:=by
 obtain⟨h1,h2,h3⟩:=Nh lo hi its.toArray.size;unfold slicePick;rw[h1,h2,h3];simp only[sliceRange_one,pick_run,oF]<;>rfl
inductive Zn7(K:W.Frag)(x:V)(lo:VN)(hi:VN)(H:Hp)(Q:VK):Prop
 |mk(a xs:_)(h1:x=.ref a)(h2:SqL K H a xs)(h3:∀p,H p=none→Q (.ref p) (upd H p (.lst (Hy xs lo hi)))):Zn7 K x lo hi H Q
def Ztd(K:W.Frag):V→Option Int→Option Int→Hp→VK→Prop:=λx lo hi H Q=>Zn7 K x lo hi H Q
theorem Zlt:SlR X (Ztd X.K):=by
 intro pins s σ H x v vl vu lo hi sl Q I rx hs pl pu h;obtain⟨a,xs,rfl,hx,q⟩:=h;cases rx;obtain⟨its,r,ht,hz⟩:=I.list hx;have hlen:=r.length;refine⟨"list",_,slot_list_getitem.lookup,ht.isList.typeIs,?_⟩;refine wpAny_getItem_list_slice ht.isList hs pl pu .none (by simp) ?_ (by rw[oF]<;>lia);rw[G2,←hlen];refine⟨.ref s.heap.objs.size,_,I.laid (t':=s.toks) (o:=.lst (Hy xs lo hi)) (λb ob q=>rV _ q) (rX _) ?_,rfl,q _ (I.hok.fresh (rX _))⟩;exact⟨lC (L4 xs lo hi) hz,_,0,(r.drop (HT.sIx xs.length 0 lo)).take (HT.sIx xs.length xs.length hi-HT.sIx xs.length 0 lo),oC _ rfl⟩
def Us:V→Bool
 |.non=>true
 |.bl _=>true
 |.int _=>true
 |.str _=>true
 |_=>false
def eqV:V→V→Bool
 |.non,.non=>true
 |.bl a,.bl b=>a==b
 |.bl a,.int b=>(if a then 1 else 0)==b
 |.int a,.bl b=>a==(if b then 1 else 0)
 |.int a,.int b=>a==b
 |.str a,.str b=>a==b
 |_,_=>false
theorem Zkt{x:V}{v:Value}(ry:RelV y u)(rx:RelV x v)(fy:Us y=true)(fx:Us x=true):SeqAt.EqAt A s u v (eqV y x):=by
 cases y with
 |non=>
  cases ry
  cases x with
  |non=>cases rx;exact SeqAt.EqAt.same _
  |bl b=>cases rx;exact SeqAt.EqAt.none_bool b
  |int b=>obtain⟨t,rfl⟩:=rx;exact SeqAt.EqAt.none_int b t
  |str b=>obtain⟨t,rfl⟩:=rx;exact SeqAt.EqAt.none_str b t
  |_=>exact absurd (show false=true from fx) oW
 |bl a=>
  cases ry
  cases x with
  |non=>cases rx;exact SeqAt.EqAt.bool_none a
  |bl b=>cases rx;exact SeqAt.EqAt.bool_bool a b
  |int b=>obtain⟨t,rfl⟩:=rx;exact SeqAt.EqAt.bool_int a b t
  |str b=>obtain⟨t,rfl⟩:=rx;exact SeqAt.EqAt.bool_str a b t
  |_=>exact absurd (show false=true from fx) oW
 |int a=>
  obtain⟨t',rfl⟩:=ry
  cases x with
  |non=>cases rx;exact SeqAt.EqAt.int_none a t'
  |bl b=>cases rx;exact SeqAt.EqAt.int_bool a t' b
  |int b=>obtain⟨t,rfl⟩:=rx;exact SeqAt.EqAt.int_int a t' b t
  |str b=>obtain⟨t,rfl⟩:=rx;exact SeqAt.EqAt.int_str a t' b t
  |_=>exact absurd (show false=true from fx) oW
 |str a=>
  obtain⟨t',rfl⟩:=ry
  cases x with
  |non=>cases rx;exact SeqAt.EqAt.str_none a t'
  |bl b=>cases rx;exact SeqAt.EqAt.str_bool a t' b
  |int b=>obtain⟨t,rfl⟩:=rx;exact SeqAt.EqAt.str_int a t' b t
  |str b=>obtain⟨t,rfl⟩:=rx;exact SeqAt.EqAt.str_str a t' b t
  |_=>exact absurd (show false=true from fx) oW
 |_=>exact absurd (show false=true from fy) oW
def eqU(x:V)(u:Value):Bool:=match u with
 |.none=>eqV .non x
 |.bool b=>eqV (.bl b) x
 |.int i _=>eqV (.int i) x
 |.str z _=>eqV (.str z) x
 |_=>false
theorem Zks{x:V}(r:RelV y u)(f:Us y=true):eqU x u=eqV y x:=by
 cases y with
 |non=>cases r;rfl
 |bl b=>cases r;rfl
 |int i=>obtain⟨t,rfl⟩:=r;rfl
 |str z=>obtain⟨t,rfl⟩:=r;rfl
 |_=>exact absurd (show false=true from f) oW
theorem Mc{x:V}:∀{xs:List V}{us:WC},Vals xs us→xs.all Us=true→us.any (eqU x)=xs.any λy=>eqV y x
 |_,_,.nil,_=>rfl
 |y :: xs,u :: us,.cons r t,f=>by
  rw[XJ,lJ]at f;rw[aU,aU,Zks r f.1,Mc t f.2]
theorem Qo{A:Around}{s:Shared}{x:V}{v:Value}(rx:RelV x v)(fx:Us x=true):∀{xs:List V}{us:WC},Vals xs us→xs.all Us=true→∀u∈us,SeqAt.EqAt A s u v (eqU x u)
 |_,_,.nil,_=>λu hu=>by cases hu
 |y :: xs,u :: us,.cons r t,f=>λu' hu=>by
  rw[XJ,lJ]at f
  rcases oH.mp hu with rfl|hu
  ·rw[Zks r f.1];exact Zkt r rx f.1 fx
  ·exact Qo rx fx t f.2 u' hu
def inV(x:V)(xs:List V):Bool:=xs.any λy=>eqV y x
inductive Ztl(K:W.Frag)(neg:Bool)(x:V)(y:V)(H:Hp)(Q:VK):Prop
 |mk(p xs:_)(h1:y=.ref p)(h2:(SqL K H p xs∨SqT K H p xs))(h3:Us x=true)(h4:xs.all Us=true)(h5:Q (.bl (if neg then !inV x xs else inV x xs)) H):Ztl K neg x y H Q
def rIn(K:W.Frag)(neg:Bool):R2:=λx y H Q=>Ztl K neg x y H Q
theorem Zfs:OpR X (compareOp .In) (rIn X.K false):=by
 intro pins s σ H x y v u Q I rx ry h;obtain⟨p,xs,rfl,hq,fx,fs,q⟩:=h;cases ry
 rcases hq with hq|hq
 ·obtain⟨its,r,pl,hz⟩:=I.list hq;refine SeqAt.in_listAt (eqU x) pl.isList (λw hw=>Qo rx fx r fs w (by simpa using hw)) ⟨.bl _,H,I,rfl,?_⟩;rw[show its.toArray.any (eqU x)=its.any (eqU x) by simp,Mc r fs];exact q
 ·obtain⟨its,r,pl,hz⟩:=I.tuple hq;refine SeqAt.in_tupleAt (eqU x) pl (λw hw=>Qo rx fx r fs w (by simpa using hw)) ⟨.bl _,H,I,rfl,?_⟩;rw[show its.toArray.any (eqU x)=its.any (eqU x) by simp,Mc r fs];exact q
theorem Cr:OpR X (compareOp .NotIn) (rIn X.K true):=by
 intro pins s σ H x y v u Q I rx ry h;obtain⟨p,xs,rfl,hq,fx,fs,q⟩:=h;cases ry
 rcases hq with hq|hq
 ·obtain⟨its,r,pl,hz⟩:=I.list hq;refine SeqAt.notIn_listAt (eqU x) pl.isList (λw hw=>Qo rx fx r fs w (by simpa using hw)) ⟨.bl _,H,I,rfl,?_⟩;rw[show its.toArray.any (eqU x)=its.any (eqU x) by simp,Mc r fs];exact q
 ·obtain⟨its,r,pl,hz⟩:=I.tuple hq;refine SeqAt.notIn_tupleAt (eqU x) pl (λw hw=>Qo rx fx r fs w (by simpa using hw)) ⟨.bl _,H,I,rfl,?_⟩;rw[show its.toArray.any (eqU x)=its.any (eqU x) by simp,Mc r fs];exact q
theorem Bi:Yx X (.builtin "len") (λxs H Q=>∃p ys,xs=[.ref p]∧(SqL X.K H p ys∨SqT X.K H p ys)∧Q (.int ys.length) H):=by
 intro pins s σ H xs us Q I r h;obtain⟨p,ys,rfl,hq,q⟩:=h;obtain⟨u,rfl,rx⟩:=vals1 r;cases rx;have hn:=Oy
 rcases hq with hq|hq
 ·obtain⟨its,r',pl,hz⟩:=I.list hq;have hlen:=r'.length;exact Calls.call_len_list pl.isList (by simp only[oF]<;>lia) ⟨.int ys.length,H,I.tok _,⟨s.toks+1,by rw[oF,hlen]⟩,q⟩
 ·obtain⟨its,r',pl,hz⟩:=I.tuple hq;have hlen:=r'.length;exact len_tuple pl (by simp only[oF]<;>lia) ⟨.int ys.length,H,I.tok _,⟨s.toks+1,by rw[oF,hlen]⟩,q⟩
theorem Y0:Yx X (.builtin "len") (λxs H Q=>∃z,xs=[.str z]∧z.length≤sizeLine∧Q (.int z.length) H):=by
 intro pins s σ H xs us Q I r h;obtain⟨z,rfl,hz,q⟩:=h;obtain⟨u,rfl,t,rfl⟩:=vals1 r;have hn:=Oy;exact len_str (by lia) ⟨.int z.length,H,I.tok _,⟨_,rfl⟩,q⟩
theorem Bh:Yx X (.type "list") (λxs H Q=>∃p ys,xs=[.ref p]∧(SqL X.K H p ys∨SqT X.K H p ys)∧∀l,H l=none→Q (.ref l) (upd H l (.lst ys))):=by
 intro pins s σ H xs us Q I r h;obtain⟨p,ys,rfl,hq,q⟩:=h;obtain⟨u,rfl,rx⟩:=vals1 r;cases rx
 have fin:∀(its:WC),Vals ys its→ys.length≤sizeLine→∀(h':Heap) (c':Nat),(∀b o',s.heap.get? b=some o'→h'.get? b=some o')→
   h'.get? s.heap.objs.size=some { cls:=.type "list",dict:=none,data:=.seq its.toArray c',slots:=#[] }→EP X pins σ Q (.ref s.heap.objs.size) { s with heap:=h' }:=λits r' hz h' c' kp e=>
  ⟨.ref s.heap.objs.size,_,I.laid (t':=s.toks) kp (rX _) (show Z9 X.prog X.w _ h' _ (.lst ys) from⟨hz,its,c',r',e⟩),rfl,q _ (I.hok.fresh (rX _))⟩
 rcases hq with hq|hq
 ·obtain⟨its,r',pl,hz⟩:=I.list hq;have hlen:=r'.length;obtain⟨o,ho,hc,n,hd⟩:=pl.isList;exact call_list_seq p (.inl rfl) ho hc hd (λh' c' kp e=>fin its r' hz h' c' kp e) (by simp only[oF]<;>lia)
 ·obtain⟨its,r',pl,hz⟩:=I.tuple hq;have hlen:=r'.length;obtain⟨o,ho,hc,n,hd⟩:=pl;exact call_list_seq p (.inr rfl) ho hc hd (λh' c' kp e=>fin its r' hz h' c' kp e) (by simp only[oF]<;>lia)
theorem Fn:Yx X (.type "tuple") (λxs H Q=>∃p ys,xs=[.ref p]∧((SqL X.K H p ys∧∀l,H l=none→Q (.ref l) (upd H l (.tup ys)))∨(SqT X.K H p ys∧Q (.ref p) H))):=by
 intro pins s σ H xs us Q I r h;obtain⟨p,ys,rfl,h⟩:=h;obtain⟨u,rfl,rx⟩:=vals1 r;cases rx
 rcases h with ⟨hq,q⟩|⟨hq,q⟩
 ·obtain⟨its,r',pl,hz⟩:=I.list hq;have hlen:=r'.length;refine call_tuple_list pl.isList (λh' kp=>?_) (by simp only[oF]<;>lia)
  have I1:Inv X pins σ H { s with heap:=h' }:=I.kept (t':=s.toks) kp
  have I2:Inv X pins σ (upd H h'.objs.size (.tup ys)) { s with heap:=h'.push { cls:=.type "tuple",data:=.seq its.toArray } }:=
   I1.laid (t':=s.toks) (λb o e=>rV _ e) (rX _) (show Z9 X.prog X.w _ _ _ (.tup ys) from⟨hz,its,r',IsTup.new _ _⟩)
  exact⟨.ref h'.objs.size,_,I2,rfl,q _ (I1.hok.fresh (rX _))⟩
 ·obtain⟨its,r',pl,hz⟩:=I.tuple hq;exact call_tuple_same pl ⟨.ref p,H,I,rfl,q⟩
def tyV(K:W.Frag)(T:String)(x:V)(H:Hp):Prop:=match x with
 |.str _=>T = "str"
 |.int _=>T = "int"
 |.ref p=>(T = "list"∧∃xs,SqL K H p xs)∨(T = "tuple"∧∃o,K.lookup p=some o∧o.cls=.type "tuple"∧o.dict=none)∨
   (T = "dict"∧((∃kvs,H p=some (.dK kvs))∨∃kvs,H p=some (.dT kvs)))∨(T = "set"∧∃S n,H p=some (.set S n))
 |_=>False
theorem Zhh{x:V}{v:Value}(I:Inv X pins σ H s)(r:RelV x v)(ty:tyV X.K T x H):
  s.TypeIs v T∧∀a,v=.ref a→∃ob,s.heap.get? a=some ob∧ob.dict=none:=by
 cases x with
 |str z=>
  obtain⟨t,rfl⟩:=r;cases (show T = "str" from ty);exact⟨typeIs_str s z t,λ_ e=>nomatch e⟩
 |int i=>
  obtain⟨t,rfl⟩:=r;cases (show T = "int" from ty);exact⟨typeIs_int s i t,λ_ e=>nomatch e⟩
 |ref p=>
  cases r
  rcases ty with ⟨rfl,xs,hq⟩|⟨rfl,o,hk,hc,hd⟩|⟨rfl,hk⟩|⟨rfl,S,n,hk⟩
  ·obtain⟨its,_,pl,_⟩:=I.list hq;refine⟨pl.isList.typeIs,λa e=>?_⟩;cases e;obtain⟨o,n,e,c,hd,_⟩:=pl;exact⟨o,e,hd⟩
  ·refine⟨⟨o,I.kIn p o hk,hc⟩,λa e=>?_⟩;cases e;exact⟨o,I.kIn _ o hk,hd⟩
  ·have z:∃o,s.heap.get? p=some o∧o.ExactDict:=by
    rcases hk with ⟨kvs,hk⟩|⟨kvs,hk⟩
    ·obtain⟨_,_,_,_,o,_,_,e,ex,_⟩:=I.hok p _ hk;exact⟨o,e,ex⟩
    ·obtain⟨_,_,_,_,o,_,_,e,ex,_⟩:=I.hok p _ hk;exact⟨o,e,ex⟩
   obtain⟨o,e,ex⟩:=z;refine⟨⟨o,e,ex.1⟩,λa e2=>?_⟩;cases e2;exact⟨o,e,ex.2.1⟩
  ·obtain⟨o,_,_,_,e,ex,_⟩:=I.hok p _ hk;refine⟨⟨o,e,ex.1⟩,λa e2=>?_⟩;cases e2;exact⟨o,e,ex.2.1⟩
 |_=>exact False.elim ty
def Zsw(K:W.Frag)(T:String)(r:V→List V→Hp→VK→Prop)(to:TE):TE:=λσ H Q=>to σ H λx H1=>tyV K T x H1∧r x [] H1 Q
def tBM(K:W.Frag)(T:String)(r:V→List V→Hp→VK→Prop)(to:TE)(t:TA):TE:=λσ H Q=>to σ H λx H1=>tyV K T x H1∧t σ H1 λxs H2=>r x xs H2 Q
variable {o e:Expr}{es:VH}{to:TE}{t:TA}{name:Str}{apos Xy:Pos}{T id:String}{r:V→List V→Hp→VK→Prop}
theorem Zqa(pa:PlainAttrs T)(slot:Slot T name id)(b9:typeOf (.builtin id)=pure (.type "method_descriptor"))(hm:MtR X id r)(ho:PE X o to)
  (Hl:attributeBase o name X.env (eval o X.env)=eval o X.env:=by rfl) (Lu:(apos.endLine==Xy.line)=true:=by rfl):PE X (.Call (.Attribute o name apos) [] [] Xy) (Zsw X.K T r to):=by
 intro pins s σ H Q I h;refine wpAny_Call_method0_late Hl Lu (thn (ho pins s σ H _ I h) λv s1 ⟨x,H1,I1,r1,ty,q1⟩=>?_);obtain⟨h1,h2⟩:=Zhh I1 r1 ty;exact⟨T,id,pa,slot,b9,h1,h2,ZX rfl (PySem.evalArgs_none (hm pins s1 σ H1 x [] v [] Q I1 r1 .nil q1))⟩
theorem Ztu(pa:PlainAttrs T)(slot:Slot T name id)(b9:typeOf (.builtin id)=pure (.type "method_descriptor"))(hm:MtR X id r)(ho:PE X o to)(ha:PA X (e :: es) t)
  (Hl:attributeBase o name X.env (eval o X.env)=eval o X.env:=by rfl)
  (Zrg:((backTo Xy (starEach (e :: es) X.env)).all (λx=>!x.1)&&(backToKw Xy (keywordEach [] X.env)).all (λx=>x.1.isSome)
   && decide ((e :: es).length+([]:List Keyword).length+(if ([]:List Keyword).isEmpty then 0 else 1)<30))=true:=by rfl)
  (Lu:(apos.endLine==Xy.line)=true:=by rfl) (hs:starEach (e :: es) X.env=(false,eval e X.env) :: starEach es X.env:=by rfl) (Zcn:(backTo Xy (starEach es X.env)).any (·.1)=false:=by rfl) :
  PE X (.Call (.Attribute o name apos) (e :: es) [] Xy) (tBM X.K T r to t):=by
 intro pins s σ H Q I h;refine wpAny_Call_method_late Hl Zrg Lu rfl (thn (ho pins s σ H _ I h) λv s1 ⟨x,H1,I1,r1,ty,q1⟩=>?_);obtain⟨h1,h2⟩:=Zhh I1 r1 ty;refine⟨T,id,pa,slot,b9,h1,h2,?_⟩;have hA:=ha Xy pins s1 σ H1 _ I1 q1;rw[hs]at hA ⊢;refine ZX (by show (false||(backTo Xy (starEach es X.env)).any (·.1))=false;rw[Zcn]<;>rfl) (Calls.evalArgs_plain ?_);exact thn hA λus s2 ⟨vs,H2,I2,r2,q2⟩=>hm pins s2 σ H2 x vs v us Q I2 r1 r2 q2
end
def MtM(X:Cx)(id:String)(r:V→List V→Hp→VK→Prop):Prop:=
 ∀(pins:XX) (s:Shared) (σ:St) (H:Hp) (x:V) (xs:List V) (v:Value) (us:WC) (Q:VK),Inv X pins σ H s→RelV x v→Vals xs us→r x xs H Q→
  wpAny (model X.prog X.w) X.A (call (.builtin id) (v :: us)) (EP X pins σ Q) X.xe s
theorem Vals.one:∀{x:V}{us:WC},Vals [x] us→∃u,us=[u]∧RelV x u
 |_,_,.cons r .nil=>⟨_,rfl,r⟩
theorem Vals.two:∀{x y:V}{us:WC},Vals [x,y] us→∃u v,us=[u,v]∧RelV x u∧RelV y v
 |_,_,_,.cons r (.cons q .nil)=>⟨_,_,rfl,r,q⟩
theorem Vals.zero:∀{us:WC},Vals [] us→us=[]
 |_,.nil=>rfl
theorem Vals.dropLast(h:Vals xs us):Vals xs.dropLast us.dropLast:=by
 induction h with
 |nil=>exact .nil
 |cons r t ih=>
  cases t with
  |nil=>exact .nil
  |cons q t'=>exact .cons r ih
theorem Vals.eraseIdx:∀{xs:List V}{us:WC} (i:Nat),Vals xs us→Vals (xs.eraseIdx i) (us.eraseIdx i)
 |_,_,_,.nil=>.nil
 |_,_,0,.cons _ t=>t
 |_,_,i+1,.cons r t=>.cons r (Vals.eraseIdx i t)
theorem Zcs{α:Type}(l:List α):l.eraseIdx (l.length-1)=l.dropLast:=by
 induction l with
 |nil=>rfl
 |cons a r ih=>
  cases r with
  |nil=>rfl
  |cons b r=>
   have e:(a :: b :: r).length-1=((b :: r).length-1)+1:=by
    have h1:(a :: b :: r).length=r.length+2:=rfl;have h2:(b :: r).length=r.length+1:=rfl;lia
   rw[e,bW,ih]
   all_goals rfl
theorem Es{α:Type}:∀(l:List α) (i:Nat),(l.eraseIdx i).length≤l.length
 |[],_=>rX _
 |_ :: _,0=>dH _
 |_ :: r,i+1=>Nat.succ_le_succ (Es r i)
section
variable {X:Cx}{pins:XX}{σ:St}{H:Hp}{s:Shared}{l b:Addr}{xs ys zs:List V}
theorem Inv.Zmk{its its':WC}{f:Array Value→Array Value}(I:Inv X pins σ H s)(hH:H l=some (.lst xs))
  (e:s.heap.get? l=some { cls:=.type "list",data:=.seq its.toArray n }) (hf:f its.toArray=its'.toArray) (hv:Vals ys its') (hz:ys.length≤sizeLine) :
  Inv X pins σ (upd H l (.lst ys)) { s with heap:=s.heap.update l (Obj.mapSeq f),toks:=t' }:=by
 have q:=PySem.IsL.update e f;rw[hf]at q;refine I.write (x:=l) (e:=l) (by rw[hH];exact trivial) (.inl rfl) (λb' u hb hu=>(lK s.heap (Obj.mapSeq f) (dA hb)).trans hu) ⟨_,q⟩ ?_;exact⟨hz,its',_,hv,q⟩
theorem Inv.lnew{its:WC}(I:Inv X pins σ H s)(hv:Vals ys its)(hz:ys.length≤sizeLine):
  Inv X pins σ (upd H s.heap.objs.size (.lst ys)) { s with heap:=s.heap.push { cls:=.type "list",data:=.seq its.toArray },toks:=t' }:=
 I.laid (λ_ _ q=>rV _ q) (rX _) ⟨hz,its,0,hv,oC _ rfl⟩
theorem Inv.fresh(I:Inv X pins σ H s):H s.heap.objs.size=none:=I.hok.fresh (rX _)
theorem Inv.Zch(I:Inv X pins σ H s)(hH:H l=some (.lst xs)):xs.length≤sizeLine∧∃(its:WC) (n:Nat),Vals xs its∧xs.length=its.length∧s.heap.get? l=some { cls:=.type "list",data:=.seq its.toArray n }:=by
 obtain⟨z,its,n,r,e⟩:=I.hok l _ hH;exact⟨z,its,n,r,r.length,e⟩
theorem Zjn(h:n≤sizeLine):Builtin.List.listTooLong n=false:=by
 unfold Builtin.List.listTooLong;exact decide_eq_false (by lia)
end
section
variable {X:Cx}
inductive Ad(x:V)(vs:List V)(H:Hp)(Q:VK):Prop
 |mk(l xs y:_)(h1:x=.ref l)(h2:vs=[y])(h3:H l=some (.lst xs))(h4:xs.length<sizeLine)(h5:Q .non (upd H l (.lst (xs++[y])))):Ad x vs H Q
def Zlz:V→List V→Hp→VK→Prop:=λx vs H Q=>Ad x vs H Q
theorem X0:MtM X "list.append" Zlz:=by
 intro pins s σ H x vs v us Q I rx rv h;obtain⟨l,xs,y,rfl,rfl,hH,hz,q⟩:=h;cases rx;obtain⟨u,rfl,ru⟩:=rv.one;obtain⟨z,its,n,r,hl,e⟩:=I.Zch hH;refine call_meets F.slot_list_append ⟨_,e,rfl⟩ F.entry_list_append (F.args_list_append_2 _ _) (PySem.list_append l its.toArray n u (by rw[oF];lia)) ⟨e,?_⟩;refine⟨.non,_,I.Zmk (its':=its++[u]) hH e (by simp) (r.append (.cons ru .nil)) ?_,rfl,q⟩;rw[oB,bF];lia
inductive Ac(x:V)(vs:List V)(H:Hp)(Q:VK):Prop
 |mk(l b xs zs:_)(h1:x=.ref l)(h2:vs=[.ref b])(h3:H l=some (.lst xs))(h4:H b=some (.lst zs))(h5:xs.length+zs.length≤sizeLine)(h6:Q .non (upd H l (.lst (xs++zs)))):Ac x vs H Q
def Zly:V→List V→Hp→VK→Prop:=λx vs H Q=>Ac x vs H Q
theorem Eo:MtM X "list.extend" Zly:=by
 intro pins s σ H x vs v us Q I rx rv h;obtain⟨l,b,xs,zs,rfl,rfl,hH,hB,hz,q⟩:=h;cases rx;obtain⟨u,rfl,ru⟩:=rv.one;cases ru;obtain⟨z,its,n,r,hl,e⟩:=I.Zch hH;obtain⟨z2,A9,n2,r2,kB,e2⟩:=I.Zch hB;have hsz:its.toArray.size+A9.toArray.size≤sizeLine:=by rw[oF,oF];lia
 have Zkb:¬ (!its.toArray.isEmpty&&Builtin.List.listTooLong (its.toArray.size+A9.toArray.size))=true:=by
  rw[Zjn hsz,XB];exact oW
 refine call_meets F.slot_list_extend ⟨_,e,rfl⟩ F.entry_list_extend (F.args_list_extend_2 _ _)
  (AutoSeq1.list_extend_list_list_0 l its.toArray n b A9.toArray n2 Zkb (by rw[oF];lia) (by lia)) ⟨e,e2,?_⟩
 refine⟨.non,_,I.Zmk (its':=its++A9) hH e (by simp) (r.append r2) ?_,rfl,q⟩;rw[oB];lia
inductive Zn8(x:V)(vs:List V)(H:Hp)(Q:VK):Prop
 |mk(l xs y:_)(h1:x=.ref l)(h2:vs=[])(h3:H l=some (.lst xs))(h4:xs[xs.length-1]?=some y)(h5:Q y (upd H l (.lst xs.dropLast))):Zn8 x vs H Q
def rPop:V→List V→Hp→VK→Prop:=λx vs H Q=>Zn8 x vs H Q
theorem Zqk:MtM X "list.pop" rPop:=by
 intro pins s σ H x vs v us Q I rx rv h;obtain⟨l,xs,y,rfl,rfl,hH,hy,q⟩:=h;cases rx;have kJ:=rv.zero;subst kJ;obtain⟨z,its,n,r,hl,e⟩:=I.Zch hH;obtain⟨u,hu,ru⟩:=r.get hy
 have j3:its.toArray[its.toArray.size-1]?=some u:=by
  show its.toArray[its.length-1]?=some u;rw[←lA,←hl];exact hu
 refine call_meets F.slot_list_pop ⟨_,e,rfl⟩ F.entry_list_pop (F.args_list_pop_1 _) (MeetsSeq.list_pop_last l its.toArray n u j3 (by rw[oF];lia)) ⟨e,?_⟩;refine⟨y,_,I.Zmk (its':=its.dropLast) hH e ?_ r.dropLast ?_,ru,q⟩
 ·show its.toArray.eraseIdxIfInBounds (its.toArray.size-1)=its.dropLast.toArray;rw[oF,YJ,Zcs]
 ·rw[aP];lia
inductive Zd4(x:V)(vs:List V)(H:Hp)(Q:VK):Prop
 |mk(l xs i k y:_)(h1:x=.ref l)(h2:vs=[.int i])(h3:H l=some (.lst xs))(h4 : -(2 ^ 63)≤i)(h5:i<2 ^ 63)(h6:seqIndex? i xs.length=some k)(h7:xs[k]?=some y)(h8:Q y (upd H l (.lst (xs.eraseIdx k)))):Zd4 x vs H Q
def Zpz:V→List V→Hp→VK→Prop:=λx vs H Q=>Zd4 x vs H Q
theorem Zjq:MtM X "list.pop" Zpz:=by
 intro pins s σ H x vs v us Q I rx rv h;obtain⟨l,xs,i,k,y,rfl,rfl,hH,h1,h2,hk,hy,q⟩:=h;cases rx;obtain⟨u,rfl,ru⟩:=rv.one;obtain⟨t,rfl⟩:=ru;obtain⟨z,its,n,r,hl,e⟩:=I.Zch hH;obtain⟨w,hw,j4⟩:=r.get hy
 refine call_meets F.slot_list_pop ⟨_,e,rfl⟩ F.entry_list_pop (F.args_list_pop_2 _ _)
  (MeetsSeq.list_pop_at l its.toArray n i t k w (fitsIndex_both h1 h2) (by rw[oF,←hl];exact hk) (by rw[←lA];exact hw) (by rw[oF];lia)) ⟨e,?_⟩
 refine⟨y,_,I.Zmk (its':=its.eraseIdx k) hH e ?_ (r.eraseIdx k) ?_,j4,q⟩
 ·show its.toArray.eraseIdxIfInBounds k=(its.eraseIdx k).toArray;rw[YJ]
 ·have:=Es xs k;lia
inductive Zoi(x:V)(y:V)(H:Hp)(Q:VK):Prop
 |mk(l b xs zs:_)(h1:x=.ref l)(h2:y=.ref b)(h3:H l=some (.lst xs))(h4:H b=some (.lst zs))(h5:xs.length+zs.length≤sizeLine)(h6:∀p,H p=none→Q (.ref p) (upd H p (.lst (xs++zs)))):Zoi x y H Q
def rCat:R2:=λx y H Q=>Zoi x y H Q
theorem Zb3:OpR X (binaryOp .Add) rCat:=by
 intro pins s σ H x y v u Q I rx ry h;obtain⟨l,b,xs,zs,rfl,rfl,hH,hB,hz,q⟩:=h;cases rx;cases ry;obtain⟨z,its,n,r,hl,e⟩:=I.Zch hH;obtain⟨z2,A9,n2,r2,kB,e2⟩:=I.Zch hB;refine PySem.P.add_list e e2 ?_ (by rw[oF,oF];lia);have ea:its.toArray++A9.toArray=(its++A9).toArray:=by simp
 rw[ea];exact⟨.ref _,_,I.lnew (t':=s.toks) (r.append r2) (by rw[oB];lia),rfl,q _ I.fresh⟩
theorem len_rep{α:Type}(xs:List α)(k:Nat):(List.replicate k xs).flatten.length=k*xs.length:=by
 induction k with
 |zero=>simp
 |succ k ih=>rw[bT,aF,oB,ih,Nat.succ_mul,Nat.add_comm]
end
section
variable {prog:Program}{w:World}{A:Around}{E:XW}{s:Shared}
set_option maxRecDepth 100000 in
end
section
variable {X:Cx}
end
end L2
namespace Att
open PySem PySem.W PySem.Calls PyProof.Rows
theorem Kh{P:Params}{h:Heap}:∀(ns:List Int) (vs:WC),WellAll P h vs (ns.map WData.int)→IntsAre vs ns:=by
 intro ns
 induction ns with
 |nil=>
  intro vs w;rw[YM]at w;cases w;exact .nil
 |cons n ns ih=>
  intro vs w;rw[lG]at w
  cases w with
  |cons a b=>
   cases a;exact .cons _ _ (ih _ b)
theorem Zfm{l:OpenLaw}{n:Nat}(hn:l.most=some n){P:Params}{h:Heap}{args:List WData}{vals:WC}
  (Zmr:l.row.toRowW.claim.pre args=true) (tF:WellAll P h vals args) :
  ∃a vs ns,vals=[Value.ref a]∧args=[WData.list (ns.map WData.int)]∧h.get? a=some { cls:=.type "list",data:=.seq vs.toArray }∧IntsAre vs ns∧ns.length≤n:=by
 have hsh:WShape.hasAll [] args [.list .int]=true:=(pre_splitW Zmr).1;have hc:l.pre.holds [] { args:=args } = true:=(pre_splitW Zmr).2;obtain⟨d,r,rfl,h1,h2⟩:=hasAllW_cons hsh;obtain rfl:=hasAllW_nil h2;obtain⟨xs,rfl,h3⟩:=hasW_list h1;obtain⟨ns,rfl⟩:=items_int h3
 have hlen:ns.length≤n:=by
  unfold OpenLaw.pre at hc
  have h4:(WTm.not (.lt (.lit (.int (n:Int))) (.len (.arg 0)))).holds [] { args:=[.list (ns.map .int)] } = true:=by
   have h4:=(holds_andW hc).1;rw[hn]at h4;exact h4
  have h5:=condW_of h4 (w_not (w_lt w_lit (w_len_list (w_arg rfl))));rw[rW]at h5;refine Nat.le_of_not_lt λq=>?_;have q':(n:Int)<((ns.length:Nat):Int):=by lia
  first
   | (rw[decide_eq_true q']at h5;exact absurd h5 (by decide))
   | (simp at h5;lia)
 cases tF with
 |cons w1 w2=>
  cases w2
  cases w1 with
  |list ho Ld=>exact⟨_,_,ns,rfl,rfl,ho,Kh ns _ Ld,hlen⟩
theorem Zfq(l:OpenLaw)(args:List WData):l.row.toRowW.claim.post args (.bool true) args=true:=
 postW_of (r:=l.row.toRowW) (X:=(true==true))
  (show WShape.has [] (.bool true) .bool=true by first|rfl|decide|simp[WShape.has,WShape.arms,WShape.armsAll])
  (show (WTm.eq .res (.lit (.bool true))).value [] { args:=args,res:=some (.bool true),after:=args } = some (.bool (true==true)) from w_eq_bool (w_res rfl) w_lit) rfl
theorem Ka{l:OpenLaw}{n:Nat}{q:Program}{loose:List Str}{XP:VT}{YP:UU}{d:DefRec}
  (hn:l.most=some n) (eU:d.params.defaults=[])
  (call:∀(w:World) (s₀ x3:Shared) (mg mb:WD) (fa:Addr) (o:Obj) (pm cd doc:Value) (a:Addr) (vs:WC) (ns:List Int),
   Ground q loose [] XP w s₀ mg mb x3.heap→YP w x3.heap→
   x3.heap.get? fa=some o→o.data=.func (docDef d.name d.params d.body d.scope pm cd doc)→x3.heap.CodeRec cd d.name→mg d.name=some (.ref fa)→
   x3.heap.get? a=some { cls:=.type "list",data:=.seq vs.toArray }→IntsAre vs ns→ns.length≤n→x3.gens = #[]→
   codeAny (model l.prog w) callerA (.call (.ref fa) ⟨[.ref a],[]⟩) (λr s'=>r=.ok (.ret (.bool true))∧OldK x3.heap s'.heap∧s'.os=x3.os∧AllBare s'.gens) x3) :
  WalkO q loose XP YP l.row.toRowW d [] (λf vs=>PySem.call f vs):=by
 intro w s₀ x3 mg mb G Y fa o pm cd doc dV kV ho hd v0 hD xL hg args vals as Zmr Zur hrd tF hlo;obtain rfl:dV=.none:=Dflts.none hD eU;obtain rfl:kV=.none:=Dflts.noKw hD;obtain⟨a,vs,ns,rfl,rfl,Zj9,hints,hlen⟩:=Zfm hn Zmr tF;refine enter_call (dP (call w s₀ x3 mg mb fa o pm cd doc a vs ns G Y ho (fd_plain hd) v0 xL Zj9 hints hlen hg) λr s' hq=>?_);obtain⟨rfl,h2,h3,h4⟩:=hq;exact⟨.inl ⟨.bool true,.bool true,[],rfl,λ_=>rfl,.bool true,Zfq l _,λ_=>⟨List.Pairwise.nil,λ_ hm=>(nomatch hm)⟩⟩,h2,h3,h4⟩
section
variable {prog:Program}{w:World}{A:Around}{E:XW}{s:Shared}{K:Frag}
def ledger(h:Heap)(L d:Addr):List XZ:=(List.range h.objs.size).filterMap λa=>if a=L∨a=d then none else (h.get? a).map λo=>(a,o)
end
end Att
namespace L2
open PySem PySem.Spec PyProof.Rows
variable {CX:CXT}{K:W.Frag}{P q:Program}{XP:VT}{YP:UU}{a:Addr}{fd:FuncData}{loose:List Str}{mg:WD}{n:Nat}{ns:List Int}{sp:Sp}{vs:WC}{w:World}{x:Str}
theorem Mi:∀{vs:WC}{ns:List Int},IntsAre vs ns→Vals (ns.map V.int) vs
 |_,_,.nil=>.nil
 |_,_,.cons n t h=>.cons ⟨t,rfl⟩ (Mi h)
def Zr8(H:Hp):Prop:=∀b,H b=none∨∃o xs,H b=some (.frz o (.lst xs))
theorem Zjy{mb:WD}{k:Nat}{fa:Addr}{x:Str}{x3:Shared} 
  (KX:K.In x3.heap) (c8:x3.heap.Ns mainGlobals mg) (hb:x3.heap.Ns builtinsNs mb) (qC:∀x:Str,x≠"__name__"→mb x=bootBuiltins x) (Zrd:x3.heap.NoLimit) (hg:x3.gens = #[])
  (ha:x3.heap.get? a=some { cls:=.type "list",data:=.seq vs.toArray }) (hi:IntsAre vs ns) (hl:ns.length≤sizeLine) (hr:Xi k callerA)
  (F:∀base:Heap,K.In base→base.Ns mainGlobals mg→Ya P w K mg base CX k fa fd [x] sp) (Zke:∀(s:Shared) (u:Value),BindsTo s fd ⟨[u],[]⟩ [(x,u)])
  (m8:∀H:Hp,Zr8 H→SqL K H a (ns.map V.int)→sp [.ref a] H (λv _=>v=.bl true) λ_ _ _=>False)
  (yE:∀H e s',CX [] H x3 (λ_ _ _=>False) e s'→False) :
  codeAny (model P w) callerA (.call (.ref fa) ⟨[.ref a],[]⟩) (λr s'=>r=.ok (.ret (.bool true))∧OldK x3.heap s'.heap∧s'.os=x3.os∧AllBare s'.gens) x3:=by
 have rv:=Mi hi;have Zqp:=hi.length
 have core:∀H:Hp,Zr8 H→SqL K H a (ns.map V.int)→HOk P w H x3.heap→(∀b,H b≠none→b=a)→(H a≠none→K.lookup a=none)→
   codeAny (model P w) callerA (.call (.ref fa) ⟨[.ref a],[]⟩) (λr s'=>r=.ok (.ret (.bool true))∧OldK x3.heap s'.heap∧s'.os=x3.os∧AllBare s'.gens) x3:=by
  intro H hO hS hok hA hK;have Pr:∀{b:Addr}{o:Obj},x3.heap.get? b=some o→H b=none→(O1 x3.heap H).get? b=some o:=λe n=>Zaa e n
  have o8:∀{b:Addr}{o:Obj}{es:Array DictEntry}{ep:Nat},x3.heap.get? b=some o→o.data=.dict es ep→H b=none:=λ{b o es ep} e d=>by
   cases q:H b with
   |none=>rfl
   |some u=>
    have e':b=a:=hA b (by rw[q];simp);subst e';rw[ha]at e;cases e;have d':Data.seq vs.toArray _=Data.dict es ep:=d;cases d'
  have xS:∀{b:Addr}{m:WD},x3.heap.Ns b m→(O1 x3.heap H).Ns b m:=λ{b m} ⟨o,es,ep,e,d,r⟩=>⟨o,es,ep,Pr e (o8 e d),d,r⟩
  have gF:K.In (O1 x3.heap H):=λb o e=>Pr (KX b o e) (by
   cases q:H b with
   |none=>rfl
   |some u=>
    have e':b=a:=hA b (by rw[q];simp);subst e'
    rw[hK (by rw[q];simp)]at e;cases e)
  have hM:Mod K mg (O1 x3.heap H):=⟨gF,xS c8,⟨mb,xS hb,qC⟩,let ⟨mc,h1,h2⟩:=Zrd;⟨mc,xS h1,h2⟩⟩;have e0:Fx P w K mg (O1 x3.heap H) callerA [] x3 H:=⟨rfl,hM,λb o e=>Zef e,XT (Dc _ _),trivial,λb hb=>absurd (show b∈([]:List Addr) from hb) (by simp),hok,.of_eq hg⟩;refine dP ((F _ gF (xS c8)).run callerA [] x3 H ⟨[.ref a],[]⟩ [.ref a] [.ref a] _ _ hr e0 (Zke x3 (.ref a)) (.cons rfl .nil) (m8 H hO hS)) λr s' h=>?_
  cases r with
  |error e=>exact(yE H e s' h).elim
  |ok fl=>
   cases fl with
   |next=>exact False.elim h
   |brk=>exact False.elim h
   |cont=>exact False.elim h
   |ret u=>
    obtain⟨v,H',os,bare,un,Zms,r',q⟩:=h;have q':v=.bl true:=q;subst q';obtain rfl:u=Value.bool true:=r';refine⟨rfl,OldK.of_keep λb o e=>?_,os,bare⟩
    cases q:H b with
    |none=>exact un.keep b o e q (by intro z;exact absurd (show b∈([]:List Addr) from z) (by simp)) (by simp)
    |some u=>
     rcases hO b with z|⟨ob,xs,z⟩
     ·rw[q]at z;cases z
     ·have z2:=un.Ki b ob _ z;obtain⟨e1,_⟩:=hok b _ z;obtain⟨e2,_⟩:=Zms b _ z2;rw[e]at e1;cases e1;exact e2
 cases hk:K.lookup a with
 |some o=>
  have e:=KX a o hk;rw[ha]at e;cases e;refine core (λ_=>none) (λ_=>.inl rfl) (.inr ⟨_,vs.toArray,_,hk,rfl,rfl,rfl,by rw[oF,Zqp];exact hl,by simpa using rv⟩) (λb u z=>by have z':(none:Option HO)=some u:=z;cases z') (λb z=>absurd rfl z) λz=>absurd rfl z
 |none=>
  refine core (λb=>if b=a then some (.frz { cls:=.type "list",data:=.seq vs.toArray } (.lst (ns.map V.int))) else none) (λb=>?_) (.inl (.inr ⟨{ cls:=.type "list",data:=.seq vs.toArray },if_pos rfl⟩)) (λb u z=>?_) (λb z=>?_) λ_=>hk
  ·by_cases hb:b=a
   ·exact .inr ⟨_,_,if_pos hb⟩
   ·exact .inl (if_neg hb)
  ·by_cases hb:b=a
   ·have z':=(if_pos hb).symm.trans z;cases z';subst hb;exact⟨ha,by rw[rW];exact hl,vs,_,rv,ha⟩
   ·have z':=(if_neg hb).symm.trans z;cases z'
  ·by_cases hb:b=a
   ·exact hb
   ·exact absurd (if_neg hb) z
abbrev KOf{K:W.Frag}{h:Heap}(_:K.In h):W.Frag:=K
theorem Zlm{l:W.OpenLaw}{k:Nat}{d:DefRec}{K:Params→W.Frag}{CX:World→CXT}{sp:World→Sp} 
  (hn:l.most=some n) (eF:n≤sizeLine) (eU:d.params.defaults=[]) (hr:Xi k callerA)
  (hY:∀(w:World) (h:Heap),YP w h→(K w.params).In h)
  (F:∀(w:World) (mg:WD) (fa:Addr) (h:Heap),(K w.params).In h→h.Ns mainGlobals mg→mg d.name=some (.ref fa)→
   ∃fd:FuncData,(∀(s:Shared) (u:Value),BindsTo s fd ⟨[u],[]⟩ [(x,u)])∧
    ∀base:Heap,(K w.params).In base→base.Ns mainGlobals mg→Ya l.prog w (K w.params) mg base (CX w) k fa fd [x] (sp w))
  (m8:∀(w:World) (H:Hp) (a:Addr) (ns:List Int),ns.length≤n→Zr8 H→SqL (K w.params) H a (ns.map V.int)→sp w [.ref a] H (λv _=>v=.bl true) λ_ _ _=>False)
  (yE:∀(w:World) (H:Hp) (s:Shared) (e:Value) (s':Shared),CX w [] H s (λ_ _ _=>False) e s'→False) :
  W.WalkO q loose XP YP l.row.toRowW d [] (λf vs=>PySem.call f vs):=by
 refine Att.Ka hn eU λw s₀ x3 mg mb fa o pm cd doc a vs ns G Y ho hd v0 xL Zj9 hints hlen hg=>?_;have KX:=hY w _ Y;obtain⟨fd,hb,hF⟩:=F w mg fa _ KX G.T.g xL;exact Zjy KX G.T.g G.T.b G.T.builtins G.T.nolimit hg Zj9 hints (lC hlen eF) hr hF hb (λH hO hS=>m8 w H a ns hlen hO hS) λH e s'=>yE w H x3 e s'
end L2
/- THE LAST THEOREM (shape;LID,My.* are yours):
   My.Adr:a structure of wM addresses that your layer names (classes,Zsh);My.Txt K t:a structure (Prop) of wM equations over K;
   My.Zo7:{K} {implicit addresses ..} (e1:nsIn K mainGlobals "law"=some (some (.ref f))) (e2:K.lookup f=some ⟨oc,od,.func (fnOf "law" "law" params body scope dV kV doc pm an cdv ct),sl⟩) (e3:codeIn K cdv "law"=true) .. : ∃t,My.Txt K t
set_option maxRecDepth 100000 in
set_option maxHeartbeats 0 in
theorem PySem.Challenge.Zm3:PySem.Challenge.Zpw.Holds := by
 w_on;o_law;k_head;(case hw=>w_witness2)
 k_fill
 refine L2.Zlm (l:=PySem.Challenge.Zpw) (n:=63) (k:=40) (x:="script") (CX:=λw=>..) (sp:=λ_=>My.sp_law) rfl (by decide) rfl ⟨rfl,by decide,by decide⟩ (λw h Y=>W.kIn_of Y) ?F ?S ?C
 case F=>
  intro w mg fa h KX G xL
  have T:∃t,My.Txt (L2.KOf KX) t:=by
   dsimp only[L2.KOf]                          -- K must stand as «<heap const> w.params» for k_is;refine' My.Zo7 ?e1 ?e2 ?e3 ..
   (case e1=>W.k_is)                    -- in wM order:a name -> its address -> its object -> its parts
   (case e2=>W.k_is)
   ..
  obtain⟨t,T⟩:=T;have e0:=xL.symm.trans (cH KX G T.law);cases e0                                       -- fa is wM law's own address;exact⟨_,λs u=>.of_eq rfl,λbase kb nb=>My.Zqs T kb nb⟩     -- if «.of_eq rfl» comes too early:refine' ⟨_,?b,λbase kb nb=>My.Zqs T kb nb⟩;exact λs u=>.of_eq rfl
 case S=>exact λw H a ns hl hO hS=>..
 case C=>exact ..
(wM tactic k_is has no namespace:write k_is) -/
namespace L2
open PySem PySem.Spec PyProof.Rows
variable {A:Around}{B:Prop}{C I a d f it z:Addr}{CX:CXT}{D:Ends}{E Q:XW}{H H' H1 H2:Hp}{K:W.Frag}{M:Model}{N loose ps zs:List Str}{P prog q:Program}{R:UO}{T:String}{X:Cx}{XP:VT}{YP:UU}{apos Xy p p2:Pos}{base h h' h1:Heap}{body:List Stmt}{c e l tg:Expr}{cd ct doc oc pm u:Value}{env:Env}{ep i j m n t':Nat}{es:VH}{fd:FuncData}{fp:VB}{fv xs ys:List V}{g:TG}{items:WN}{ks us vs:WC}{kvs:List (List Key×V)}{mg:WD}{name qual x:Str}{ns:List Int}{o:Obj}{od:WS}{outer:List Env}{params:Arguments}{pins:XX}{s:Shared}{sc scope:Scope}{sh:VD}{sp:Sp}{st:Stmt}{tb:TS}{te tl to tv:TE}{v y:V}{w:World}{σ:St}
def Ub(s:Stmt):Arguments:=match s with
 |.FunctionDef _ a _ _ _ _ _ _ _ _=>a
 |_=>{ posonlyargs:=[],args:=[],vararg:=none,kwonlyargs:=[],kw_defaults:=[],kwarg:=none,defaults:=[] }
def Wk(s:Stmt):List Stmt:=match s with
 |.FunctionDef _ _ b _ _ _ _ _ _ _=>b
 |_=>[]
def Zh(s:Stmt):Scope:=match s with
 |.FunctionDef _ _ _ _ _ _ sc _ _ _=>sc
 |_=>{ kind:=.function,names:=[],isGenerator:=false,isCoroutine:=false }
abbrev CX0:CXT:=λ_ _ _ _ _ _=>False
abbrev E0:XK:=λ_ _ _=>False
theorem Zol:Passes CX0 X E0:=λ_ _ _ _ _ _ _ h=>h.elim
structure Fun(K:W.Frag)(x qual:Str)(st:Stmt)(f:Addr)(fd:FuncData):Prop where
 ex:∃(oc:Value) (od:WS) (kV doc pm:Value) (an:WS) (cdv ct:Value) (osl:VI),
  fd=W.fnOf x qual (Ub st) (Wk st) (Zh st) .none kV doc pm an cdv ct∧K.lookup f=some ⟨oc,od,.func fd,osl⟩∧W.codeIn K cdv qual=true
 kp:W.keepIn K (.ref f)=true
section
variable {P:Program}{w:World}{K:W.Frag}{mg:WD}{base:Heap}
theorem Fun.ok{k:Nat}(F:Fun K x qual st f fd)(S:Zv N ps (Zh st))(len:∀vs H Q E,sp vs H Q E→vs.length=ps.length)
  (Qw:∀(cdv:Value) (A:Around) (outer:List Env) (s:Shared) (H:Hp) (vs:List V) (Q:VK) (E:XK),Xi k (A.deeper (envOfC qual (Zh st) s.heap.objs.size f cdv))→sp vs H Q E→
   ∃t,PSs (Fm CX0 P w K mg base N qual (Zh st) f cdv A outer s H E).nox (Wk st) t∧t { nx:=λ_ H'=>Q .non H',rt:=Q } (start N vs) H):Ya P w K mg base CX0 (k+1) f fd ps sp:=by
 obtain⟨oc,od,kV,doc,pm,an,cdv,ct,osl,rfl,lk,v0⟩:=F.ex;refine Zkn lk v0 S len λA outer s H vs Q E hr m8=>?_;obtain⟨t,h,q⟩:=Qw cdv A outer s H vs Q E hr m8;exact⟨t,h.nox,q⟩
theorem Fun.binds(F:Fun K x qual st f fd)
  (h:∀(kV doc pm:Value) (an:WS) (cdv ct:Value) (us:WC),us.length=ps.length→bindArgs (W.fnOf x qual (Ub st) (Wk st) (Zh st) .none kV doc pm an cdv ct) ⟨us,[]⟩=pure (ps.zip us)):Binds K fd ps []:=by
 obtain⟨oc,od,kV,doc,pm,an,cdv,ct,osl,rfl,lk,v0⟩:=F.ex;exact .all (h kV doc pm an cdv ct)
theorem fun_mk{an:WS}{osl:VI}{kV cdv:Value}(l:K.lookup f=some ⟨oc,od,.func (W.fnOf x qual (Ub st) (Wk st) (Zh st) .none kV doc pm an cdv ct),osl⟩)
  (c:W.codeIn K cdv qual=true) (k:W.keepIn K (.ref f)=true):Fun K x qual st f (W.fnOf x qual (Ub st) (Wk st) (Zh st) .none kV doc pm an cdv ct):=⟨⟨oc,od,kV,doc,pm,an,cdv,ct,osl,rfl,l,c⟩,k⟩
end
theorem Sn{k:Nat}(hr:Xi k A):A.units+1<cLine:=lY (Nat.add_le_add_left (by decide:1≤64) _) hr.units
theorem Sf(h:n≤1000):n<sizeLine:=lY h (by decide)
section
variable {X:Cx}
theorem pv(i:Nat){pos:Pos}(hN:X.N[i]?=some x:=by rfl)(hv:Vis X.env.scope x:=by first|exact Or.inl rfl|exact Or.inr (Or.inl rfl)|exact Or.inr (Or.inr rfl))(hd:(x==("__debug__" : Str))=false:=by decide)
  (v0:(x==("__classdict__" : Str))=false:=by decide):PE X (.Name x pos) (Zff i):=Zby hN hv hd v0
end
theorem U2{A:Prop}(h:B):if false=true then A else B:=by
 rw[if_neg oW];exact h
theorem C5{A:Prop}(h:A):if true=true then A else B:=by
 rw[if_pos rfl];exact h
theorem Xx{c A:Prop} [Decidable c] (h1:c→A) (h2:¬ c→B):if c then A else B:=by
 by_cases h:c
 ·rw[if_pos h];exact h1 h
 ·rw[if_neg h];exact h2 h
def Zt(H H':Hp):Prop:=∀b o,H b=some o→H' b=some o
theorem Zt.refl(H:Hp):Zt H H:=λ_ _ h=>h
theorem Zt.trans(a:Zt H H1)(b:Zt H1 H2):Zt H H2:=λc o h=>b c o (a c o h)
theorem Zt.free(e:Zt H H'){l:Addr}(h:H' l=Option.none):H l=Option.none:=by
 cases q:H l with
 |none=>rfl
 |some o=>
  rw[e l o q]at h;cases h
section
variable {κ:Type} [DecidableEq κ]
def W8(kvs:List (κ×V))(k:κ):Option V:=(kvs.find? λkv=>decide (kv.1=k)).map (·.2)
def putK(kvs:List (κ×V))(k:κ)(v:V):List (κ×V):=
 if (kvs.any λkv=>decide (kv.1=k))=true then kvs.map (λkv=>if kv.1=k then (kv.1,v) else kv) else kvs++[(k,v)]
theorem Rr{p:κ×V}{r:List (κ×V)}{k:κ}(e:p.1=k):W8 (p :: r) k=some p.2:=by simp[W8,dI,e]
theorem Sb{p:κ×V}{r:List (κ×V)}{k:κ}(e:¬ p.1=k):W8 (p :: r) k=W8 r k:=by simp[W8,dI,e]
theorem K9(k:κ):∀kvs:List (κ×V),(kvs.any λkv=>decide (kv.1=k))=(W8 kvs k).isSome
 |[]=>rfl
 |p :: r=>by
  rw[aU]
  by_cases e:p.1=k
  ·simp only[Rr e,decide_eq_true e,Bool.true_or,Option.isSome_some]
  ·rw[Sb e,decide_eq_false e,Bool.false_or];exact K9 k r
theorem Tc(kvs:List (κ×V))(k:κ)(v:V):(putK kvs k v).length≤kvs.length+1:=by
 unfold putK
 split
 ·rw[rW];lia
 ·rw[oB,oR,bG];lia
theorem J5{kvs:List (κ×V)}{k:κ}(v:V)(h:W8 kvs k=none):putK kvs k v=kvs++[(k,v)]:=by
 unfold putK;rw[K9,h];exact if_neg (by decide)
theorem O7.Vm{o:Option V}{u:VS}(r:O7 o u):o.isSome=u.isSome:=by
 cases o with
 |none=>cases u with
  |none=>rfl
  |some _=>exact(show False from r).elim
 |some _=>cases u with
  |none=>exact(show False from r).elim
  |some _=>rfl
theorem KV.val{kvs:List (κ×V)}{vs:List (κ×Value)}(r:KV kvs vs)(k:κ):O7 (W8 kvs k) (valueAt vs k):=by
 unfold KV at r
 induction r with
 |nil=>exact True.intro
 | @cons p q ps qs h t ih=>
  obtain⟨h1,h2⟩:=h
  by_cases e:p.1=k
  ·have e':q.1=k:=h1.symm.trans e;have b:valueAt (q :: qs) k=some q.2:=by simp[valueAt,dI,e']
   rw[Rr e,b];exact h2
  ·have e':¬ q.1=k:=λz=>e (h1.trans z);have b:valueAt (q :: qs) k=valueAt qs k:=by simp[valueAt,dI,e']
   rw[Sb e,b];exact ih
theorem KV.any{kvs:List (κ×V)}{vs:List (κ×Value)}(r:KV kvs vs)(k:κ):(kvs.any λkv=>decide (kv.1=k))=vs.any λkv=>decide (kv.1=k):=by
 unfold KV at r
 induction r with
 |nil=>rfl
 |cons h t ih=>rw[aU,aU,ih,h.1]
theorem KV.Zpy{kvs:List (κ×V)}{vs:List (κ×Value)}(r:KV kvs vs)(k:κ)(ry:RelV y u):
  KV (kvs.map λkv=>if kv.1=k then (kv.1,y) else kv) (vs.map λkv=>if kv.1=k then (kv.1,u) else kv):=by
 unfold KV at r ⊢
 induction r with
 |nil=>exact .nil
 | @cons p q ps qs h t ih=>
  rw[lG,lG];refine .cons ?_ ih;obtain⟨h1,h2⟩:=h
  by_cases e:p.1=k
  ·rw[if_pos e,if_pos (h1.symm.trans e)];exact⟨h1,ry⟩
  ·rw[if_neg e,if_neg (λz=>e (h1.trans z))];exact⟨h1,h2⟩
theorem KV.put{kvs:List (κ×V)}{vs:List (κ×Value)}(r:KV kvs vs)(k:κ)(ry:RelV y u):KV (putK kvs k y) (stored vs k u):=by
 unfold putK stored;rw[r.any k]
 by_cases e:(vs.any λkv=>decide (kv.1=k))=true
 ·rw[if_pos e,if_pos e];exact r.Zpy k ry
 ·rw[if_neg e,if_neg e];exact Paired.snoc r ⟨rfl,ry⟩
theorem KV.length{kvs:List (κ×V)}{vs:List (κ×Value)}(r:KV kvs vs):kvs.length=vs.length:=dZ r
end
theorem Ls{k:Key}(r:RelV (kV k) u):(Z0 P w).is k u=true:=by
 cases k with
 |inl i=>obtain⟨t,e⟩:=(show ∃t,u=Value.int i t from r);subst e;exact A6 P w i t
 |inr x=>obtain⟨t,e⟩:=(show ∃t,u=Value.str x t from r);subst e;exact A5 P w x t
theorem Ey{P:Program}{w:World}:∀{ks:List Key}{us:WC},Vals (ks.map kV) us→ItemsAre (Z0 P w) ks us
 |[],_,r=>by rw[YM]at r;cases r;exact .nil
 |k :: ks,_,r=>by
  rw[lG]at r
  cases r with
  |cons h t=>exact .cons (Ls h) (Ey t)
abbrev KT(H:Hp):List (List Key×V)→List (List Key×Addr×Value)→Prop:=Paired λp q=>p.1=q.1∧H q.2.1=some (.tup (p.1.map kV))∧RelV p.2 q.2.2
theorem KT.val{xs:List (List Key×Addr×Value)}(r:KT H kvs xs)(k:List Key):O7 (W8 kvs k) ((atKey xs k).map (·.2)):=by
 induction r with
 |nil=>exact True.intro
 | @cons p q ps qs h t ih=>
  obtain⟨h1,_,h2⟩:=h
  by_cases e:p.1=k
  ·have e':q.1=k:=h1.symm.trans e;have b:atKey (q :: qs) k=some q.2:=by simp[atKey,dI,e']
   rw[Rr e,b];exact h2
  ·have e':¬ q.1=k:=λz=>e (h1.trans z);have b:atKey (q :: qs) k=atKey qs k:=by simp[atKey,dI,e']
   rw[Sb e,b];exact ih
theorem KT.Zpy{xs:List (List Key×Addr×Value)}(r:KT H kvs xs)(k:List Key)(ry:RelV y u):
  KT H (kvs.map λkv=>if kv.1=k then (kv.1,y) else kv) (xs.map (putAt k u)):=by
 induction r with
 |nil=>exact .nil
 | @cons p q ps qs h t ih=>
  rw[lG,lG];refine .cons ?_ ih;obtain⟨h1,h2,h3⟩:=h;unfold putAt
  by_cases e:p.1=k
  ·rw[if_pos e,if_pos (h1.symm.trans e)];exact⟨h1,h2,ry⟩
  ·rw[if_neg e,if_neg (λz=>e (h1.trans z))];exact⟨h1,h2,h3⟩
theorem KT.put{xs:List (List Key×Addr×Value)}(r:KT H kvs xs)(k:List Key){b:Addr}(hb:H b=some (.tup (k.map kV)))(ry:RelV y u):
  KT H (putK kvs k y) (storedH xs k b u):=by
 have e:(kvs.any λkv=>decide (kv.1=k))=(atKey xs k).isSome:=by
  rw[K9,(r.val k).Vm,cP]
 unfold putK storedH;rw[e]
 by_cases q:(atKey xs k).isSome=true
 ·rw[if_pos q,if_pos q];exact r.Zpy k ry
 ·rw[if_neg q,if_neg q];exact Paired.snoc r ⟨rfl,hb,ry⟩
theorem KT.keeps{xs:List (List Key×Addr×Value)}(r:KT H kvs xs)(ht:∀b ys,H b=some (.tup ys)→H' b=some (.tup ys)):KT H' kvs xs:=
 Paired.Zql r λ_ _ z=>⟨z.1,ht _ _ z.2.1,z.2.2⟩
section
variable {P:Program}{w:World}{H:Hp}{h:Heap}{a:Addr}
theorem Zn4{u:HO}(ok:HOk P w H h)(e:Rd H a u):Z9 P w H h a u:=e.ok ok
theorem Dq{kvs:List (Key×V)}(ok:HOk P w H h)(e:Rd H a (.dK kvs)):kvs.length≤sizeLine∧(a==sysModules)=false∧∃vs,KV kvs vs∧h.DictOf (Z0 P w) a vs:=
 show Z9 P w H h a (.dK kvs) from Zn4 ok e
theorem Zex{kvs:List (Key×V)}(ok:HOk P w H h)(e:H a=some (.dK kvs)):kvs.length≤sizeLine∧(a==sysModules)=false∧∃vs,KV kvs vs∧h.DictOf (Z0 P w) a vs:=Dq ok (.inl e)
theorem Qr{ks:List Key}(ok:HOk P w H h)(e:H a=some (.tup (ks.map kV))):(tupleKind (Z0 P w)).is h ks a:=by
 obtain⟨_,its,r,o,h1,h2,n,h3⟩:=(show Z9 P w H h a (.tup (ks.map kV)) from ok a _ e);exact⟨o,its.toArray,n,h1,h2,h3,by simpa using Ey r⟩
theorem Dp(ok:HOk P w H h)(e:Rd H a (.dT kvs)):kvs.length≤sizeLine∧(a==sysModules)=false∧
  ∃xs,KT H kvs xs∧h.DictOfH (tupleKind (Z0 P w)) a xs:=by
 obtain⟨z,y,xs,r,o,es,ep,h1,h2,h3,h4,h5⟩:=(show Z9 P w H h a (.dT kvs) from Zn4 ok e);refine⟨z,y,xs,r,o,es,ep,h1,h2,h3,h4,λx hx=>?_,h5⟩
 have all:∀{l:List (List Key×V)}{m:List (List Key×Addr×Value)},KT H l m→∀x∈m,(tupleKind (Z0 P w)).is h x.1 x.2.1:=by
  intro l m q
  induction q with
  |nil=>intro x hx;exact nomatch hx
  | @cons p q ps qs hq t ih=>
   intro x hx
   rcases oH.mp hx with e|hx
   ·subst e;exact Qr ok (by rw[←hq.1];exact hq.2.1)
   ·exact ih x hx
 exact all r x hx
theorem Zk0(ok:HOk P w H h)(e:H a=some (.dT kvs)):kvs.length≤sizeLine∧(a==sysModules)=false∧
  ∃xs,KT H kvs xs∧h.DictOfH (tupleKind (Z0 P w)) a xs:=Dp ok (.inl e)
end
def Lm(H:Hp)(a:Addr)(y:V)(r:Option V):Prop:=
 (∃kvs k,Rd H a (.dK kvs)∧y=kV k∧r=W8 kvs k)∨∃kvs k b,Rd H a (.dT kvs)∧y=.ref b∧H b=some (.tup (k.map kV))∧r=W8 kvs k
def Fy(H:Hp)(a:Addr)(y v:V)(H':Hp):Prop:=
 (∃kvs k,H a=some (.dK kvs)∧y=kV k∧kvs.length<sizeLine∧H'=upd H a (.dK (putK kvs k v)))∨
 ∃kvs k b,H a=some (.dT kvs)∧y=.ref b∧H b=some (.tup (k.map kV))∧kvs.length<sizeLine∧H'=upd H a (.dT (putK kvs k v))
theorem Lm.t{b:Addr}{k:List Key}(e:H a=some (.dT kvs))(eb:H b=some (.tup (k.map kV))):Lm H a (.ref b) (W8 kvs k):=.inr ⟨kvs,k,b,.inl e,rfl,eb,rfl⟩
theorem Fy.k{kvs:List (Key×V)}{k:Key}(e:H a=some (.dK kvs))(hl:kvs.length<sizeLine):Fy H a (kV k) v (upd H a (.dK (putK kvs k v))):=.inl ⟨kvs,k,e,rfl,hl,rfl⟩
theorem Fy.t{b:Addr}{k:List Key}(e:H a=some (.dT kvs))(eb:H b=some (.tup (k.map kV)))(hl:kvs.length<sizeLine):
  Fy H a (.ref b) v (upd H a (.dT (putK kvs k v))):=.inr ⟨kvs,k,b,e,rfl,eb,hl,rfl⟩
section
variable {X:Cx}{pins:XX}{σ:St}{H:Hp}{s:Shared}{a:Addr}{y v:V}{u r:Value}{o:Option V}{A:Around}{E:XW}
theorem Inv.big(I:Inv X pins σ H s):sysModules<s.heap.objs.size:=by
 have h:mainGlobals<s.heap.objs.size:=(I.mod.glob.keeps I.bk).lt;exact Nat.lt_trans (by decide) h
theorem Zgt(hu:A.units+1<cLine)(I:Inv X pins σ H s)(g:Lm H a y (some v))(ry:RelV y u)(h:∀w' s',Inv X pins σ H s'→RelV v w'→Q w' s'):
  wpAny (model X.prog X.w) A (getItem (.ref a) u) Q E s:=by
 rcases g with ⟨kvs,k,e,ey,l⟩|⟨kvs,k,b,e,ey,eb,l⟩
 ·subst ey;obtain⟨z,hd,vs,rel,dd⟩:=Dq I.hok e;obtain⟨w',hw,j4⟩:=O7.some_of (v:=v) (o:=valueAt vs k) (by rw[l];exact rel.val k);exact wpAny_getItem_of (Ls ry) dd.mapOf hw (h w' _ (I.tok _) j4)
 ·subst ey;cases (show u=Value.ref b from ry);obtain⟨z,hd,xs,rel,dd⟩:=Dp I.hok e;obtain⟨w',hw,j4⟩:=O7.some_of (v:=v) (o:=(atKey xs k).map (·.2)) (by rw[l];exact rel.val k);obtain⟨p,hp,o5⟩:=ZY.mp hw;refine wpAny_getItem_heap (tupleKind_room_in1 hu) (Qr I.hok eb) dd hp ?_;rw[o5];exact h w' _ (I.tok _) j4
theorem d_in(hu:A.units+1<cLine)(I:Inv X pins σ H s)(g:Lm H a y o)(ry:RelV y u)(h:∀s',Inv X pins σ H s'→Q (.bool o.isSome) s'):
  wpAny (model X.prog X.w) A (compareOp .In u (.ref a)) Q E s:=by
 rcases g with ⟨kvs,k,e,ey,l⟩|⟨kvs,k,b,e,ey,eb,l⟩
 ·subst ey;obtain⟨z,hd,vs,rel,dd⟩:=Dq I.hok e;refine wpAny_in_of (Ls ry) hd dd.mapOf ?_;rw[←(rel.val k).Vm,←l];exact h _ (I.tok _)
 ·subst ey;cases (show u=Value.ref b from ry);obtain⟨z,hd,xs,rel,dd⟩:=Dp I.hok e;refine wpAny_in_heap (tupleKind_room_in1 hu) (Qr I.hok eb) hd dd ?_;have q:=(rel.val k).Vm;rw[cP]at q;rw[←q,←l];exact h _ (I.tok _)
theorem Zm2(hu:A.units+1<cLine)(I:Inv X pins σ H s)(g:Lm H a y o)(ry:RelV y u)(h:∀s',Inv X pins σ H s'→Q (.bool (!o.isSome)) s'):
  wpAny (model X.prog X.w) A (compareOp .NotIn u (.ref a)) Q E s:=by
 rcases g with ⟨kvs,k,e,ey,l⟩|⟨kvs,k,b,e,ey,eb,l⟩
 ·subst ey;obtain⟨z,hd,vs,rel,dd⟩:=Dq I.hok e;refine wpAny_notIn_of (Ls ry) hd dd.mapOf ?_;rw[←(rel.val k).Vm,←l];exact h _ (I.tok _)
 ·subst ey;cases (show u=Value.ref b from ry);obtain⟨z,hd,xs,rel,dd⟩:=Dp I.hok e;refine wpAny_notIn_heap (tupleKind_room_in1 hu) (Qr I.hok eb) hd dd ?_;have q:=(rel.val k).Vm;rw[cP]at q;rw[←q,←l];exact h _ (I.tok _)
theorem S9{ob:HO}(I:Inv X pins σ H s)(mu:Mut (H a))(hs:Heap.SameBut a s.heap h')(he:∃q,h'.get? a=some q)(new:Z9 X.prog X.w (upd H a ob) h' a ob):
  Inv X pins σ (upd H a ob) { s with heap:=h',toks:=t' }:=
 I.write (x:=a) (e:=a) mu (.inl rfl) (λb q hb z=>(hs.2 b hb).trans z) he new
theorem Zcu{kvs:List (Key×V)}{vs:List (Key×Value)}(z:kvs.length≤sizeLine)(hd:(a==sysModules)=false)(rel:KV kvs vs)(dd:h'.DictOf (Z0 P w) a vs):
  Z9 P w H' h' a (.dK kvs):=⟨z,hd,vs,rel,dd⟩
theorem Zgs{Q:WR}(hu:A.units+1<cLine)(I:Inv X pins σ H s)(g:Fy H a y v H')(ry:RelV y u)(rv:RelV v r)(h:∀s',Inv X pins σ H' s'→Q () s'):
  wpAny (model X.prog X.w) A (setItem (.ref a) u r) Q E s:=by
 rcases g with ⟨kvs,k,e,ey,l,eH⟩|⟨kvs,k,b,e,ey,eb,l,eH⟩
 ·subst ey eH;obtain⟨z,hd,vs,rel,dd⟩:=Zex I.hok e;have hz:vs.length≤sizeLine:=by rw[←rel.length];exact z
  have hl:(putK kvs k v).length≤sizeLine:=by have:=Tc kvs k v;lia
  refine wpAny_setItem_pairs (hsz:=hz) (Ls ry) dd λh' p7 hs=>h _ ?_;have he:∃q,h'.get? a=some q:=let ⟨q,_,_,hq,_⟩:=p7;⟨q,hq⟩
  exact S9 I (by rw[e];exact True.intro) hs he (Zcu hl hd (rel.put k rv) p7)
 ·subst ey eH;cases (show u=Value.ref b from ry);obtain⟨z,hd,xs,rel,dd⟩:=Zk0 I.hok e;have hz:xs.length≤sizeLine:=by rw[←dZ rel];exact z
  have hl:(putK kvs k v).length≤sizeLine:=by have:=Tc kvs k v;lia
  refine wpAny_setItem_heap (hsz:=hz) (tupleKind_room_in1 hu) (Qr I.hok eb) dd λh' p7 hs=>h _ ?_;obtain⟨q,es,ep,hq,h2,h3,h4,_,h5⟩:=p7;refine S9 I (by rw[e];exact True.intro) hs ⟨q,hq⟩ ⟨hl,hd,_,(rel.put k eb rv).keeps λc ys ec=>?_,q,es,ep,hq,h2,h3,h4,h5⟩;rw[Zk (Yt ec e (λz=>nomatch z))];exact ec
end
section
variable {X:Cx}{pins:XX}{σ:St}{H:Hp}{s:Shared}{a:Addr}{kvs:List (Key×V)}{k:Key}{u:Value}{A:Around}{E:XW}
end
def Zsa(i:Expr):Prop:=∀ov iv,subscripted i false ov iv=operate [ov,iv] (getItem ov iv)
theorem Zdl{value slice:Expr}{pos:Pos}{id:String} 
  (hl:typeLookup (.type T) "__getitem__"=pure (some (.builtin id))) (hs:Zsa slice)
  (h:wpAny (model prog w) A (eval value env) (λo x3=>wpAny (model prog w) A (eval slice env) (λi y6=>y6.TypeIs o T∧wpAny (model prog w) A (getItem o i) Q E y6) E x3) E s) :
  wpAny (model prog w) A (eval (.Subscript value slice pos) env) Q E s:=by
 refine Subscript_ (iD h (λo x3 pU=>iD pU (λi y6 yX=>?_) λ_ _ x=>x) λ_ _ x=>x);obtain⟨hT,yX⟩:=yX;unfold subscriptTail;refine rS ?_;rw[getitemInPython_of_ne hT.not_modules];refine rS (aC hT hl ?_)
 have fin:wpAny (model prog w) A (subscripted slice false o i) (λr tS=>wpAny (model prog w) A (letTemporaryGo value o r >>= λ_=>pure r) Q E tS) E y6:=by
  rw[hs o i];exact wpAny_operating (iD yX (λr tS pV=>rS (wpAny_letTemporaryGo (rT pV))) λ_ _ x=>x)
 first
  |exact rT (rS fin)
  |exact rS (rT (rS fin))
  |exact rS fin
theorem Zal{o:Option V}(I:Inv X pins σ H s)(g:Lm H a y o):s.TypeIs (.ref a) "dict":=by
 rcases g with ⟨kvs,k,e,_,_⟩|⟨kvs,k,b,e,_,_,_⟩
 ·obtain⟨_,_,vs,_,dd⟩:=Dq I.hok e;exact dd.typeIs
 ·obtain⟨_,_,xs,_,dd⟩:=Dp I.hok e;exact dd.typeIs
def Zsu(td ty:TE):TE:=λσ H Q=>td σ H λx H1=>ty σ H1 λy H2=>∃a v,x=.ref a∧Lm H2 a y (some v)∧Q v H2
def tDIn(ty td:TE):TE:=λσ H Q=>ty σ H λy H1=>td σ H1 λx H2=>∃a o,x=.ref a∧Lm H2 a y o∧Q (.bl o.isSome) H2
def Zlr(ty td:TE):TE:=λσ H Q=>ty σ H λy H1=>td σ H1 λx H2=>∃a o,x=.ref a∧Lm H2 a y o∧Q (.bl (!o.isSome)) H2
def Zs7(td ty tv:TE):TS:=λD σ H=>tv σ H λv H1=>td σ H1 λx H2=>ty σ H2 λy H3=>∃a H4,x=.ref a∧Fy H3 a y v H4∧D.nx σ H4
section
variable {X:Cx}{o i e value:Expr}{pos pos' Zsi:Pos}{td ty tv:TE}
theorem Ku(hu:X.A.units+1<cLine)(ho:PE X o td)(hi:PE X i ty)(hs:Zsa i):PE X (.Subscript o i pos) (Zsu td ty):=by
 intro pins s σ H Q I h;refine Zdl PySem.F.slot_dict_getitem.lookup hs (thn (ho pins s σ H _ I h) λu s1 ⟨x,H1,I1,rx,q1⟩=>thn (hi pins s1 σ H1 _ I1 q1) λiv s2 ⟨y,H2,I2,ry,a,v,ex,g,q2⟩=>?_);subst ex;obtain rfl:u=Value.ref a:=rx;exact⟨Zal I2 g,Zgt hu I2 g ry λw' s3 I3 j4=>⟨v,H2,I3,j4,q2⟩⟩
theorem Zqb(hu:X.A.units+1<cLine)(hi:PE X i ty)(ho:PE X o td):PC X .In i o (tDIn ty td):=by
 intro pins s σ H Q I h;refine thn (hi pins s σ H _ I h) λiv s1 ⟨y,H1,I1,ry,q1⟩=>thn (ho pins s1 σ H1 _ I1 q1) λu s2 ⟨x,H2,I2,rx,a,ov,ex,g,q2⟩=>?_;subst ex;obtain rfl:u=Value.ref a:=rx;exact d_in hu I2 g ry λs3 I3=>⟨.bl ov.isSome,H2,I3,rfl,q2⟩
theorem Ei(hu:X.A.units+1<cLine)(hi:PE X i ty)(ho:PE X o td):PC X .NotIn i o (Zlr ty td):=by
 intro pins s σ H Q I h;refine thn (hi pins s σ H _ I h) λiv s1 ⟨y,H1,I1,ry,q1⟩=>thn (ho pins s1 σ H1 _ I1 q1) λu s2 ⟨x,H2,I2,rx,a,ov,ex,g,q2⟩=>?_;subst ex;obtain rfl:u=Value.ref a:=rx;exact Zm2 hu I2 g ry λs3 I3=>⟨.bl (!ov.isSome),H2,I3,rfl,q2⟩
theorem Cn(hu:X.A.units+1<cLine)(ho:PE X o td)(hi:PE X i ty)(hv:PE X value tv)(hs:swapsWith value (some (.Subscript o i pos')) pos.line X.env=pure false):
  PS X (.Assign [.Subscript o i pos'] value pos) (Zs7 td ty tv):=by
 intro pins s σ H D I h;refine wpAny_Assign_Subscript (thn (hv pins s σ H _ I h) λr s1 ⟨v,H1,I1,rv,q1⟩=>thn (ho pins s1 σ H1 _ I1 q1) λu s2 ⟨x,H2,I2,rx,q2⟩=>thn (hi pins s2 σ H2 _ I2 q2) λiv s3 ⟨y,H3,I3,ry,a,H4,ex,g,q3⟩=>?_) hs;subst ex;obtain rfl:u=Value.ref a:=rx;exact Zgs hu I3 g ry rv λs4 I4=>⟨σ,H4,I4,q3⟩
end
theorem Zk2(h:Heap)(hb:sysModules<h.objs.size):Z9 P w H (h.push { cls:=.type "dict",data:=.dict #[] }) h.objs.size (.dK []):=
 ⟨lB _,beq_eq_false_iff_ne.mpr (dA (oY hb)),[],.nil,Heap.DictOf.new h⟩
theorem Zaj(h:Heap)(hb:sysModules<h.objs.size):Z9 P w H (h.push { cls:=.type "dict",data:=.dict #[] }) h.objs.size (.dT []):=
 ⟨lB _,beq_eq_false_iff_ne.mpr (dA (oY hb)),[],.nil,_,#[],0,oC _ rfl,⟨rfl,rfl,rfl⟩,rfl,rfl,XC⟩
def Zpf:TE:=λ_ H Q=>∀p,H p=none→Q (.ref p) (upd H p (.dT []))
section
variable {X:Cx}{pos:Pos}
theorem Ah:PE X (.Dict [] [] pos) Zpf:=λpins s σ H Q I h=>
 wpAny_Dict_empty ⟨.ref s.heap.objs.size,_,I.laid (a:=s.heap.objs.size) (o:=.dT []) (t':=s.toks) (λ_ _ q=>rV _ q) (rX _) (Zaj s.heap I.big),rfl,h _ (I.hok.fresh (rX _))⟩
end
def Jd:List (TE×TE)→St→Hp→(List (V×V)→Hp→Prop)→Prop
 |[],_,H,Q=>Q [] H
 | (tk,tv) :: r,σ,H,Q=>tk σ H λx H1=>tv σ H1 λy H2=>Jd r σ H2 λps H3=>Q ((x,y) :: ps) H3
abbrev VV:List (V×V)→List (Value×Value)→Prop:=Paired λp q=>RelV p.1 q.1∧RelV p.2 q.2
def PPs(X:Cx)(pos:Pos)(keys:List (Option Expr))(values:VH)(xV:List (TE×TE)):Prop:=
 ∀(pins:XX) (s:Shared) (σ:St) (H:Hp) (Q:List (V×V)→Hp→Prop),Inv X pins σ H s→Jd xV σ H Q→
  wpAny (model X.prog X.w) X.A (evalPairs (pairTrees keys values X.env pos)) (λvs s'=>∃ps H',Inv X pins σ H' s'∧VV ps vs∧Q ps H') X.xe s
theorem Co{pos:Pos}:PPs X pos [] [] []:=λpins s σ H Q I h=>pairTrees_nil_walk ⟨[],H,I,.nil,h⟩
theorem J8{pos:Pos}{k v:Expr}{ks:List (Option Expr)}{vs:VH}{tk:TE}{xV:List (TE×TE)}(hk:PE X k tk)(hv:PE X v tv)(hr:PPs X pos ks vs xV):
  PPs X pos (some k :: ks) (v :: vs) ((tk,tv) :: xV):=λpins s σ H Q I h=>
 pairTrees_cons_walk (thn (hk pins s σ H _ I h) λu s1 ⟨x,H1,I1,rx,q1⟩=>thn (hv pins s1 σ H1 _ I1 q1) λw2 s2 ⟨y,H2,I2,ry,q2⟩=>
  thn (hr pins s2 σ H2 _ I2 q2) λws s3 ⟨ps,H3,I3,rel,q3⟩=>⟨(x,y) :: ps,H3,I3,.cons ⟨rx,ry⟩ rel,q3⟩)
def To(kvs more:List (Key×V)):List (Key×V):=more.foldl (λacc kv=>putK acc kv.1 kv.2) kvs
theorem KV.merge:∀{more:List (Key×V)}{rs:List (Key×Value)}{kvs:List (Key×V)}{vs:List (Key×Value)},KV more rs→KV kvs vs→KV (To kvs more) (merged vs rs):=by
 intro more rs kvs vs r;unfold KV at r
 induction r generalizing kvs vs with
 |nil=>intro q;exact q
 | @cons p q ps qs h t ih=>
  intro r0
  have e:KV (putK kvs p.1 p.2) (stored vs q.1 q.2):=by
   have:=r0.put p.1 h.2;rw[←h.1];exact this
  exact ih e
theorem Tp:∀(more kvs:List (Key×V)),(To kvs more).length≤kvs.length+more.length
 |[],kvs=>by show kvs.length≤kvs.length+0;lia
 |p :: r,kvs=>by
  have h1:=Tp r (putK kvs p.1 p.2);have h2:=Tc kvs p.1 p.2;show (To (putK kvs p.1 p.2) r).length≤_;rw[oR];lia
theorem Ge{P:Program}{w:World}:∀{kvs:List (Key×V)}{ws:List (Value×Value)},VV (kvs.map λkv=>(kV kv.1,kv.2)) ws→∃rs,Carries (Z0 P w) ws rs∧KV kvs rs
 |[],_,r=>by rw[YM]at r;cases r;exact⟨[],True.intro,.nil⟩
 |p :: kvs,_,r=>by
  rw[lG]at r
  cases r with
  | @cons a b as bs h t=>
   obtain⟨rs,c,q⟩:=Ge (P:=P) (w:=w) t;obtain⟨b1,b2⟩:=b;exact⟨(p.1,b2) :: rs,⟨Ls h.1,rfl,c⟩,.cons ⟨rfl,h.2⟩ q⟩
def Zst(xV:List (TE×TE)):TE:=λσ H Q=>∀p,H p=none→Jd xV σ (upd H p (.dK [])) λps H2=>H2 p=some (.dK [])∧∃kvs:List (Key×V),ps=kvs.map (λkv=>(kV kv.1,kv.2))∧kvs.length≤15∧Q (.ref p) (upd H2 p (.dK (To [] kvs)))
theorem Zl5{pos:Pos}{keys:List (Option Expr)}{values:VH}{xV:List (TE×TE)}(h:PPs X pos keys values xV)(Ld:keys.all (·.isSome)=true)(hl:keys.length=values.length)(h0:keys≠[])
  (h15:keys.length≤15):PE X (.Dict keys values pos) (Zst xV):=by
 intro pins s σ H Q I q;have hn:=I.hok.fresh (rX s.heap.objs.size);have I1:=I.laid (a:=s.heap.objs.size) (o:=.dK []) (h':=s.heap.push { cls:=.type "dict",data:=.dict #[] }) (t':=s.toks) (λ_ _ q=>rV _ q) (rX _) (Zk2 s.heap I.big);refine wpAny_Dict_walk (knd:=Z0 X.prog X.w) Ld hl h0 h15 (thn (h pins _ σ _ _ I1 (q _ hn)) λws s2 ⟨ps,H2,I2,rel,e,kvs,ep,lk,q2⟩=>?_);subst ep;obtain⟨rs,c,rk⟩:=Ge (P:=X.prog) (w:=X.w) rel;obtain⟨z,hd,vs0,r0,dd⟩:=Zex I2.hok e;cases r0;refine⟨rs,c,dd,λh' p7 hs=>⟨.ref s.heap.objs.size,_,?_,rfl,q2⟩⟩
 have hz:(To [] kvs).length≤sizeLine:=by
  have h1:=Tp kvs [];rw[bG]at h1;rw[sizeLine_eq];lia
 have he:∃q,h'.get? s.heap.objs.size=some q:=let ⟨q,_,_,hq,_⟩:=p7;⟨q,hq⟩
 exact S9 I2 (by rw[e];exact True.intro) hs he (Zcu hz hd (rk.merge .nil) p7)
structure M1(X:Cx)(o:Expr)(m:Str)(apos:Pos)(e:Expr)(Xy:Pos):Prop where
 base:attributeBase o m X.env (eval o X.env)=eval o X.env
 few:((backTo Xy (starEach [e] X.env)).all (λx=>!x.1)&&(backToKw Xy (keywordEach [] X.env)).all (λx=>x.1.isSome)
  && decide (([e]:List Expr).length+([]:List Keyword).length+(if ([]:List Keyword).isEmpty then 0 else 1)<30))=true
 line:(apos.endLine==Xy.line)=true
 trees:backTo Xy (starEach [e] X.env)=[(false,eval e X.env)]
structure M2(X:Cx)(o:Expr)(m:Str)(apos:Pos)(e f:Expr)(Xy:Pos):Prop where
 base:attributeBase o m X.env (eval o X.env)=eval o X.env
 few:((backTo Xy (starEach [e,f] X.env)).all (λx=>!x.1)&&(backToKw Xy (keywordEach [] X.env)).all (λx=>x.1.isSome)
  && decide (([e,f]:List Expr).length+([]:List Keyword).length+(if ([]:List Keyword).isEmpty then 0 else 1)<30))=true
 line:(apos.endLine==Xy.line)=true
 trees:backTo Xy (starEach [e,f] X.env)=[(false,eval e X.env),(false,eval f X.env)]
def IsD(H:Hp)(a:Addr):Prop:=(∃kvs,Rd H a (.dK kvs))∨∃kvs,Rd H a (.dT kvs)
theorem Zq3(I:Inv X pins σ H s)(d:IsD H a):
  s.TypeIs (.ref a) "dict"∧(∀b,Value.ref a=.ref b→∃ob,s.heap.get? b=some ob∧ob.dict=none)∧(a==sysModules)=false:=by
 rcases d with ⟨kvs,e⟩|⟨kvs,e⟩
 ·obtain⟨_,hd,vs,_,dd⟩:=Dq I.hok e;refine⟨dd.typeIs,λb q=>?_,hd⟩;cases q;obtain⟨ob,_,_,h1,h2,_⟩:=dd;exact⟨ob,h1,h2.2.1⟩
 ·obtain⟨_,hd,xs,_,dd⟩:=Dp I.hok e;refine⟨dd.typeIs,λb q=>?_,hd⟩;cases q;obtain⟨ob,_,_,h1,h2,_⟩:=dd;exact⟨ob,h1,h2.2.1⟩
section
variable {X:Cx}{pins:XX}{σ:St}{H:Hp}{s:Shared}{a:Addr}{y d:V}{u r:Value}{o:Option V}{A:Around}{E:XW}
end
section
variable {X:Cx}{o e f:Expr}{apos Xy:Pos}{td ty tx:TE}
end
def Sv(env:Env):List (Str×NameKind)→List (Str×Addr)→List (Str×Addr)
 |[],acc=>acc
 | (n,.free) :: r,acc=>Sv env r ((n,(env.cells.lookup n).getD 0) :: acc)
 |_ :: r,acc=>Sv env r acc
def Zdf(env:Env)(acc:VG):Prop:=∀y c,acc.lookup y=some c→c=(env.cells.lookup y).getD 0
theorem Pn{n:Str}{k:NameKind}{r:VO}{acc:VG}(h:k≠.free):Sv env ((n,k) :: r) acc=Sv env r acc:=by
 cases k<;>first|rfl|exact absurd rfl h
theorem Po{env:Env}:∀(names:VO) (acc:VG),Zdf env acc→Zdf env (Sv env names acc)
 |[],acc,h=>h
 | (n,k) :: r,acc,h=>by
  by_cases hk:k=.free
  ·subst hk;refine Po r _ λy c e=>?_;rw[iN]at e
   by_cases hy:y=n
   ·subst hy;simp only[beq_self_eq_true]at e;exact(Option.some.inj e).symm
   ·have hb:(y==n)=false:=by simpa using hy
    rw[hb]at e;exact h y c e
  ·rw[Pn hk];exact Po r acc h
theorem Q6{env:Env}{x:Str}:∀(names:VO) (acc:VG),((∃c,acc.lookup x=some c)∨(x,NameKind.free)∈names)→∃c,(Sv env names acc).lookup x=some c
 |[],acc,h=>by
  rcases h with h|h
  ·exact h
  ·cases h
 | (n,k) :: r,acc,h=>by
  by_cases hk:k=.free
  ·subst hk;refine Q6 r _ ?_;rw[iN]
   by_cases hy:x=n
   ·subst hy;exact .inl ⟨(env.cells.lookup x).getD 0,by simp only[beq_self_eq_true]⟩
   ·have hb:(x==n)=false:=by simpa using hy
    rw[hb]
    rcases h with h|h
    ·exact .inl h
    ·rcases oH.mp h with h|h
     ·exact absurd (congrArg Prod.fst h) hy
     ·exact .inr h
  ·rw[Pn hk];refine Q6 r acc ?_
   rcases h with h|h
   ·exact .inl h
   ·rcases oH.mp h with h|h
    ·exact absurd (congrArg Prod.snd h).symm hk
    ·exact .inr h
theorem N5{env:Env}{x:Str}{c:Addr}:∀(names:VO) (acc:VG),(Sv env names acc).lookup x=some c→acc.lookup x=some c∨(x,NameKind.free)∈names
 |[],acc,h=>.inl h
 | (n,k) :: r,acc,h=>by
  by_cases hk:k=.free
  ·subst hk
   rcases N5 r _ h with h1|h1
   ·rw[iN]at h1
    by_cases hy:x=n
    ·subst hy;exact .inr oE
    ·have hb:(x==n)=false:=by simpa using hy
     rw[hb]at h1;exact .inl h1
   ·exact .inr (oO _ h1)
  ·rw[Pn hk]at h
   rcases N5 r acc h with h1|h1
   ·exact .inl h1
   ·exact .inr (oO _ h1)
theorem Hq{env:Env}{f:Str×NameKind→List (Str×Addr)→Sem (ForInStep (List (Str×Addr)))}(h1:∀n k r,k≠NameKind.free→f (n,k) r=pure (.yield r))
  (h2:∀n r c,env.cells.lookup n=some c→f (n,.free) r=pure (.yield ((n,c) :: r))) :
  ∀(names:VO) (acc:VG),(∀y∈names,y.2=NameKind.free→∃c,env.cells.lookup y.1=some c)→forIn names acc f=pure (Sv env names acc)
 |[],acc,_=>rfl
 | (n,k) :: r,acc,hc=>by
  have hr:∀y∈r,y.2=NameKind.free→∃c,env.cells.lookup y.1=some c:=λy hy=>hc y (oO _ hy);rw[cL]
  by_cases hk:k=.free
  ·subst hk;obtain⟨c,e⟩:=hc (n,.free) oE rfl;rw[h2 n acc c e,pure_bind];show forIn r ((n,c) :: acc) f=_;rw[Hq h1 h2 r _ hr];show _=pure (Sv env r ((n,(env.cells.lookup n).getD 0) :: acc));rw[e];rfl
  ·rw[h1 n k acc hk,pure_bind,Pn hk];exact Hq h1 h2 r acc hr
theorem O4(hc:∀y∈scope.names,y.2=NameKind.free→∃c,env.cells.lookup y.1=some c):closureFor scope env=pure (Sv env scope.names []):=by
 unfold closureFor;dsimp only;rw[Hq (env:=env) ?_ ?_ scope.names [] hc]
 ·rfl
 ·intro n k r hk;have hb:(k==NameKind.free)=false:=by simpa using hk
  simp only[hb,iY,if_false]
 ·intro n r c e;simp only[cellOf,e,beq_self_eq_true,if_true,pure_bind]
structure Zde(sc:Scope)(Nm own:List Str)(fr:List Nat)(scope:Scope):Prop where
 kind:scope.kind=.function
 Mx:∀y∈scope.names,y.2≠NameKind.cell
 free:∀y∈scope.names,y.2=NameKind.free→sc.names.lookup y.1=some .cell∨sc.names.lookup y.1=some .free
 locs:∀y∈scope.names,y.2=NameKind.local→scope.names.lookup y.1=some .local
 frs:∀j∈fr,j<Nm.length∧scope.names.lookup (Nm.getD j "")=some .free
def Yy(own Nm:List Str)(fr:List Nat):List Str:=own++fr.map λj=>Nm.getD j ""
def Ur(n:Nat)(fr:List Nat)(σ:St):St:=List.replicate n none++fr.map λj=>σ.getD j none
structure CD where
 cl:List (Str×Addr)
 C:Addr
 s:Shared
 H:Hp
 fp:List Addr
def Xb(X:Cx)(Nm:List Str)(scope:Scope)(d:CD):Cx:=
 {prog:=X.prog,w:=X.w,K:=X.K,mg:=X.mg,base:=X.base,A:=X.A,N:=Nm,s₀:=d.s,H₀:=d.H,env:=compEnvC scope d.cl d.C X.env,outer:=X.stack,stack:=X.stack,
  ex:=d.fp,fn:=λ_=>false,calm:=X.calm,pn:=[],xe:=λ_ _=>False }
def PTs(X:Cx)(ifs:VH)(t:TT):Prop:=
 ∀(pins:XX) (s:Shared) (σ:St) (H:Hp) (Q:Bool→Hp→Prop),Inv X pins σ H s→t σ H Q→
  wpAny (model X.prog X.w) X.A (forIn ifs true λc r=>if r=true then do let ok ←isTrue c X.env (eval c X.env);pure (ForInStep.yield ok) else pure (ForInStep.yield r)) (TP X pins σ Q) X.xe s
def Zlo:TT:=λ_ H Q=>Q true H
theorem Xt:PTs X [] Zlo:=by
 intro pins s σ H Q I h;rw[ZN];exact rT ⟨H,I,h⟩
theorem Vs{t:TT}(hc:PT X c t):PTs X [c] t:=by
 intro pins s σ H Q I h;rw[cL,if_pos rfl];refine rS (rS (thn (hc pins s σ H Q I h) λb s1 q=>rT ?_));show wpAny _ _ (forIn [] b _) _ _ s1;rw[ZN];exact rT q
def GFr(n:Nat)(g:TG):Prop:=∀v σ H Q,g v σ H Q→g v σ H λx8 H2=>Q x8 H2∧x8.length=σ.length∧∀i,n≤i→x8[i]?=σ[i]?
theorem Ym(h:i<n):GFr n (So i):=λv σ H Q q=>⟨q,by simp,λj hj=>by
 rw[cK (by lia)]⟩
def Zng(n:Nat)(g:TGs):Prop:=∀v σ H Q,g v σ H Q→g v σ H λx8 H2=>Q x8 H2∧x8.length=σ.length∧∀i,n≤i→x8[i]?=σ[i]?
theorem Qx:Zng n Zkj:=λv σ H Q q=>⟨q.1,q.2,rfl,λ_ _=>rfl⟩
theorem X1{u:TGs}(h:i<n)(hu:Zng n u):Zng n (Lv (So i) u):=λv σ H Q q=>by
 obtain⟨x,r,e,q⟩:=q;refine⟨x,r,e,?_⟩;have q2:=hu r (σ.set i (some x)) H Q q;have mono:∀Q1 Q2:St→Hp→Prop,(∀a b,Q1 a b→Q2 a b)→True:=λ_ _ _=>True.intro;have e1:(σ.set i (some x)).length=σ.length:=by simp
 have e2:∀j,n≤j→(σ.set i (some x))[j]?=σ[j]?:=λj hj=>by rw[cK (by lia)]
 have:(λx8 H2=>Q x8 H2∧x8.length=(σ.set i (some x)).length∧∀j,n≤j→x8[j]?=(σ.set i (some x))[j]?)=λx8 H2=>Q x8 H2∧x8.length=σ.length∧∀j,n≤j→x8[j]?=σ[j]?:=by
  funext x8 H2
  rw[e1];refine propext ⟨λz=>⟨z.1,z.2.1,λj hj=>(z.2.2 j hj).trans (e2 j hj)⟩,λz=>⟨z.1,z.2.1,λj hj=>(z.2.2 j hj).trans (e2 j hj).symm⟩⟩
 rw[this]at q2;exact q2
theorem N1{k:Nat}{u:TGs}(hu:Zng n u):GFr n (Zgf K k u):=λv σ H Q q=>by
 obtain⟨a,xs,e,h1,h2,q⟩:=q;exact⟨a,xs,e,h1,h2,hu xs σ H Q q⟩
def Za7(J:It)(n:Nat)(fr:List Nat)(g:TG)(tt:TT)(te:TE)(σ:St)(H1:Hp)(Q:VK):Prop:=∃W:Nat→Nat→List V→Hp→Prop,(∃m,W 0 m [] H1)∧∀i m acc H2,W i m acc H2→
 acc.length<sizeLine∧((J.stop i H2∧∀l,H2 l=none→Q (.ref l) (upd H2 l (.lst acc)))∨
  (J.go i H2∧∃Nx:List V→Hp→Prop,(∀Zr3 H',Nx Zr3 H'→∃m',m'<m∧W (i+1) m' Zr3 H')∧
   ∀x H3,J.yld i H2 x H3→g x (Ur n fr σ) H3 λt4 H4=>tt t4 H4 λb H5=>if b=true then te t4 H5 λv H6=>Nx (acc++[v]) H6 else Nx acc H5))
def Zhp(n:Nat)(fr:List Nat)(wi:TI)(g:TG)(tt:TT)(te:TE):TE:=λσ H Q=>wi σ H λJ H1=>Za7 J n fr g tt te σ H1 Q
section
variable {X:Cx}{pins:XX}{σ:St}{H:Hp}{s:Shared}
theorem Inv.adopt{o:HO}(I:Inv X pins σ H s)(hp:X.s₀.heap.objs.size≤a)(hn:H a=none)(hL:a≠X.env.locals)(hc:∀x c,X.env.cells.lookup x=some c→c≠a)
  (hq:∀p∈X.pn++pins,p.1≠a) (new:Z9 X.prog X.w (upd H a o) s.heap a o):Inv X pins σ (upd H a o) s:=by
 refine⟨I.ok,I.os,I.bare,⟨I.base.keep,I.base.slot,λb ob e n hx=>?_,I.base.there,λb xs e=>?_,λb ob u e=>?_,λb ps e=>?_⟩,I.loc,I.cell,?_,λx c e=>?_,λp n6=>?_,λb u e=>?_,I.len⟩
 ·rw[Zk (oY (oS (oD e) hp))];exact I.base.free b ob e n hx
 ·have q:=I.base.G1 b xs e;rw[Zk (Zi q hn)];exact q
 ·have q:=I.base.Ki b ob u e;rw[Zk (Zi q hn)];exact q
 ·obtain⟨more,q⟩:=I.base.Jb b ps e;exact⟨more,by rw[Zk (Zi q hn)];exact q⟩
 ·rw[Zk (dA hL)];exact I.free
 ·rw[Zk (hc x c e)];exact I.Vk x c e
 ·obtain⟨h1,h2,h3⟩:=I.pin p n6;exact⟨h1,by rw[Zk (hq p n6)];exact h2,h3⟩
 ·by_cases hb:b=a
  ·subst hb;rw[Zc]at e;cases e;exact new
  ·rw[Zk hb]at e;refine(I.hok b u e).Oi (λc v _ q=>q) (λc q=>?_) λc xs q=>?_
   ·rw[Zk (Zi q hn)];exact q
   ·rw[Zk (Zi q hn)];exact q
end
section
variable {prog:Program}{w:World}{A:Around}{R:UO}{s:Shared}
theorem Zf0{elt target iter:Expr}{ifs:VH}{pos:Pos}{it acc:Value}(J:UW)
  (turn:∀n s,J n s→wpAny (model prog w) A (pyNext it) (λr s1=>match r with
   |none=>R (.ok .next) s1
   |some v=>wpAny (model prog w) A (letOwnedTupleGo target it v) (λ_ s2=>wpAny (model prog w) A (assign target env v) (λ_ s3=>
     wpAny (model prog w) A (forIn ifs true λc r=>if r=true then do let ok ←isTrue c env (eval c env);pure (ForInStep.yield ok) else pure (ForInStep.yield r)) (λok s4=>
      if ok=true then wpAny (model prog w) A (eval elt env) (λx s5=>wpAny (model prog w) A (call (.builtin "list.append") [acc,x]) (λ_ s6=>∃m,m<n∧J m s6) (λ_ _=>False) s5) (λ_ _=>False) s4
      else ∃m,m<n∧J m s4) (λ_ _=>False) s3) (λ_ _=>False) s2) (λ_ _=>False) s1) (λ_ _=>False) s)
  (n:Nat) (h:J n s):codeAny (model prog w) A (.compLoop (.ListComp elt [⟨target,iter,ifs,0⟩] scope pos) 0 it acc env) R s:=by
 refine codeAny_loop rfl J (λk t hJ=>?_) n h;show wpAny _ A ((compTurn (.ListComp elt [⟨target,iter,ifs,0⟩] scope pos) 0 it acc env).onRaise (λx=>do noteFrame x env;theTreesLotGoes x)) _ _ t;refine wpAny_noted ?_;rw[compTurn_list];have no:∀{α:Type}{m:Sem α}{Q:α→Shared→Prop}{E:XW}{u:Shared},wpAny (model prog w) A m Q (λ_ _=>False) u→wpAny (model prog w) A m Q E u:=λq=>iD q (λ_ _ z=>z) λ_ _ z=>z.elim;refine rS (cR (rS (no (thn (turn k t hJ) λr s1 h1=>?_))))
 cases r with
 |none=>exact rT h1
 |some v=>
  refine rS (no (thn h1 λ_ s2 h2=>rS (no (thn h2 λ_ s3 h3=>rS (no (thn h3 λok s4 h4=>?_))))))
  cases ok with
  |false=>exact rT ⟨rfl,h4⟩
  |true=>
   exact rS (rS (no (thn h4 λx s5 h5=>rS (no (thn h5 λ_ s6 h6=>rT (rT ⟨rfl,h6⟩))))))
end
section
variable {X:Cx}{sc scope:Scope}{Nm own:List Str}{fr:List Nat}{elt tg iter:Expr}{ifs:VH}{Xy:Pos}{wi:TI}{g:TG}{tt:TT}{te:TE}
theorem S5{env:Env}{x:Str}{k:NameKind}:∀{names:VO},(names.map λ(n,k)=>if (k==NameKind.free&&env.scope.kind==.function&&env.kindOf n==some .cell) then (n,NameKind.cell) else (n,k)).lookup x=some k→
  names.lookup x=some k∨(k=.cell∧names.lookup x=some .free)
 |[],h=>by simp at h
 | (n,j) :: r,h=>by
  have ih:=@S5 env x k r;have h':List.lookup x ((if (j==NameKind.free&&env.scope.kind==.function&&env.kindOf n==some .cell)=true then (n,NameKind.cell) else (n,j)) :: _)=some k:=h
  cases hx:x==n with
  |true=>
   by_cases hc:(j==NameKind.free&&env.scope.kind==.function&&env.kindOf n==some .cell)=true
   ·rw[if_pos hc]at h';simp only[iN,hx]at h' ⊢;simp only[lJ,beq_iff_eq]at hc;exact .inr ⟨(Option.some.inj h').symm,congrArg some hc.1.1⟩
   ·rw[if_neg hc]at h';simp only[iN,hx]at h' ⊢;exact .inl h'
  |false=>
   have h2:List.lookup x (r.map λ(n,k)=>if (k==NameKind.free&&env.scope.kind==.function&&env.kindOf n==some .cell) then (n,NameKind.cell) else (n,k))=some k:=by
    by_cases hc:(j==NameKind.free&&env.scope.kind==.function&&env.kindOf n==some .cell)=true
    ·rw[if_pos hc]at h';simpa only[iN,hx] using h'
    ·rw[if_neg hc]at h';simpa only[iN,hx] using h'
   simp only[iN,hx];exact ih h2
theorem J1{env:Env}{x:Str}:∀{names:VO},names.lookup x=some .free→
  (names.map λ(n,k)=>if (k==NameKind.free&&env.scope.kind==.function&&env.kindOf n==some .cell) then (n,NameKind.cell) else (n,k)).lookup x=some .cell∨
  (names.map λ(n,k)=>if (k==NameKind.free&&env.scope.kind==.function&&env.kindOf n==some .cell) then (n,NameKind.cell) else (n,k)).lookup x=some .free
 |[],h=>by simp at h
 | (n,j) :: r,h=>by
  have ih:=@J1 env x r;show List.lookup x ((if (j==NameKind.free&&env.scope.kind==.function&&env.kindOf n==some .cell)=true then (n,NameKind.cell) else (n,j)) :: _)=_∨List.lookup x ((if (j==NameKind.free&&env.scope.kind==.function&&env.kindOf n==some .cell)=true then (n,NameKind.cell) else (n,j)) :: _)=_
  cases hx:x==n with
  |true=>
   simp only[iN,hx]at h
   by_cases hc:(j==NameKind.free&&env.scope.kind==.function&&env.kindOf n==some .cell)=true
   ·rw[if_pos hc];simp only[iN,hx];first|exact .inl rfl|exact .inl trivial
   ·rw[if_neg hc];simp only[iN,hx];exact .inr h
  |false=>
   simp only[iN,hx]at h
   by_cases hc:(j==NameKind.free&&env.scope.kind==.function&&env.kindOf n==some .cell)=true
   ·rw[if_pos hc];simp only[iN,hx];exact ih h
   ·rw[if_neg hc];simp only[iN,hx];exact ih h
theorem Dr(S:Zde sc Nm own fr scope)(eW:X.env.scope=sc)(hN:X.N=Nm)(hc:X.calm=true)(gN:GFr own.length g)(hi:PI X tg iter wi)(hg:∀d,PG (Xb X (Yy own Nm fr) scope d) tg g)
  (ht:∀d,PTs (Xb X (Yy own Nm fr) scope d) ifs tt) (he:∀d,PE (Xb X (Yy own Nm fr) scope d) elt te) (hs:∀x,foldedSetIterable iter X.env x=pure x)
  {use:Option (Value→Sem Unit)}{Q0:XW} (I:Inv X pins σ H s) {Qf:VK} (h:Zhp own.length fr wi g tt te σ H Qf)
  (Zrf:∀(D C:Addr) (Hd:Hp) (s':Shared) (m:WD),Inv X pins σ Hd s'→Qf (.ref D) Hd→s'.heap.Ns C m→Hd C=none→X.s₀.heap.objs.size≤C→C≠X.env.locals→(∀x c,X.env.cells.lookup x=some c→c≠C)→
   (∀p∈X.pn++pins,p.1≠C)→compPost (model X.prog X.w) X.A X.xe use Q0 (.ref D) C (.ok .next) s') :
  wpAny (model X.prog X.w) X.A (comprehension (.ListComp elt [⟨tg,iter,ifs,0⟩] scope Xy) scope X.env (firstIterPos [⟨tg,iter,ifs,0⟩] Xy) (newList []) false (eval iter X.env) use) Q0 X.xe s:=by
 have Zab:∀y∈scope.names,y.2=NameKind.free→∃c,X.env.cells.lookup y.1=some c:=λy hy hk=>by
  have q:=S.free y hy hk;rw[←eW]at q;exact I.ok.has y.1 q
 refine wpAny_comprehension_free (g:=⟨tg,iter,ifs,0⟩) (gs:=[]) rfl hs (O4 Zab) S.kind S.locs ?_;refine thn (hi pins s σ H _ I h) λv s1 h1=>thn h1 λpW s2 h2=>?_;obtain⟨it,fp,tn,J,H2,e,I2,T,st2,f2,W,⟨m0,w0⟩,turn⟩:=h2;subst e;refine lQ (YN S.Mx (by intro y hy;simp at hy) (λh1 c8 b8=>?_) S.kind);dsimp only at c8 b8 ⊢;generalize hG:s2.heap.push { cls:=.type "list",dict:=none,data:=.seq ([]:List Value).toArray } = G at c8 b8 ⊢;have hC:G.objs.size=s2.heap.objs.size+1:=by rw[←hG,iJ]
 have vF:s2.heap.objs.size≠G.objs.size:=by lia
 have lo:∀b,b<s2.heap.objs.size→b≠G.objs.size∧b≠s2.heap.objs.size:=λb hb=>⟨by lia,by lia⟩;have old:∀b o,s2.heap.get? b=some o→h1.get? b=some o:=λb o e=>b8.extBut b o (lo b (oD e)).1 (rV _ (hG▸rV _ e));have Zmu:h1.PlainList s2.heap.objs.size #[]:=⟨_,b8.extBut _ _ vF (rV _ (hG▸oC _ rfl))⟩
 have fpl:∀b∈fp,b<s2.heap.objs.size:=λb hb=>by
  obtain⟨o,e,_⟩:=T.obj 0 _ st2 b hb;exact oD e
 have hDf:s2.heap.objs.size∉fp:=λz=>iA _ (fpl _ z);have hCf:G.objs.size∉fp:=λz=>iA _ (Nat.lt_trans (fpl _ z) (by rw[hC];exact iU _))
 have Gd:∀x c,(Sv X.env scope.names []).lookup x=some c→X.env.cells.lookup x=some c∧(x,NameKind.free)∈scope.names:=λx c e=>by
  have e1:=Po (env:=X.env) scope.names [] (λy c z=>by simp at z) x c e
  rcases N5 scope.names [] e with z|z
  ·simp at z
  ·obtain⟨c',e'⟩:=Zab _ z rfl;rw[e1,e'];exact⟨rfl,z⟩
 have Zk4:∀x c,X.env.cells.lookup x=some c→c<s2.heap.objs.size:=λx c e=>by
  obtain⟨v,q⟩:=I2.cell x c e;exact q.lt
 let d:CD:=⟨Sv X.env scope.names [],G.objs.size,s2,H2,fp⟩
 have isFree:∀x,((Xb X (Yy own Nm fr) scope d).env.kindOf x=some .cell∨(Xb X (Yy own Nm fr) scope d).env.kindOf x=some .free)→scope.names.lookup x=some .free:=λx hx=>by
  have noC:scope.names.lookup x≠some .cell:=λz=>S.Mx _ (iB z) rfl
  rcases hx with hx|hx
  ·rcases S5 (names:=scope.names) hx with z|z
   ·exact absurd z noC
   ·exact z.2
  ·rcases S5 (names:=scope.names) hx with z|z
   ·exact z
   ·exact absurd z.1 (by decide)
 have ok:(Xb X (Yy own Nm fr) scope d).Ok:=by
  refine⟨I.ok.mod,S.kind,I.ok.glob,I.ok.blt,?_,λx y c e1 e2=>?_,λx hx=>?_,λx c z=>?_,I.ok.hd,I.ok.frames,.inl rfl,λb hb=>⟨?_,λx c e=>?_⟩,I2.bs,lC I2.ok.bsz I2.sz,λb o e hb=>?_,λb hb z=>?_,I2.stack,I2.Kr⟩
  ·show s2.heap.objs.size≤G.objs.size;lia
  ·exact I.ok.inj x y c (Gd x c e1).1 (Gd y c e2).1
  ·exact Q6 scope.names [] (.inr (iB (isFree x hx)))
  ·exact absurd (show false=true from z) oW
  ·exact λz=>hCf ((show b=G.objs.size from z)▸hb)
  ·exact(f2 b hb).2.2.2.2.1 x c (Gd x c e).1
  ·rcases(f2 b hb).2.2.2.1 with z|z
   ·exact I.ok.Zb7 b o e z
   ·exact absurd (oS (oD e) (lC I.ok.bsz z)) (iA _)
  ·rcases oH.mp (I2.Ji b z) with z|z
   ·exact(f2 b hb).2.1 z
   ·exact(f2 b hb).2.2.1 z
 have qM:∀(i:Nat) x v,(Yy own Nm fr)[i]?=some x→(Ur own.length fr σ)[i]?=some (some v)→scope.names.lookup x=some .free∧∃j,Nm[j]?=some x∧σ[j]?=some (some v):=λi x v e1 e2=>by
  unfold Yy at e1;unfold Ur at e2
  by_cases o4:i<own.length
  ·rw[lP (by simpa using o4),ZP,if_pos o4]at e2;cases e2
  ·rw[lT (by lia),oP]at e1;rw[lT (by simpa using o4),oP,dB]at e2
   cases q:fr[i-own.length]? with
   |none=>rw[q]at e1;cases e1
   |some j=>
    rw[q]at e1 e2;have hj:=S.frs j (oM q);have e1':Nm.getD j ""=x:=Option.some.inj e1;have kU:σ.getD j none=some v:=Option.some.inj e2;rw[e1']at hj;refine⟨hj.2,j,?_,?_⟩
    ·rw[←e1',oQ,rZ hj.1];rfl
    ·rw[oQ]at kU
     cases q2:σ[j]? with
     |none=>rw[q2]at kU;cases kU
     |some z=>rw[q2]at kU;exact congrArg some kU
 have Zop:(Ur own.length fr σ).length=(Yy own Nm fr).length:=by
  unfold Ur Yy;simp
 have J0:∀tk,Inv (Xb X (Yy own Nm fr) scope d) [] (Ur own.length fr σ) H2 { s2 with heap:=h1,toks:=tk }:=λtk=>by
  obtain⟨m,hn,hl⟩:=I2.loc;refine⟨ok,rfl,I2.bare,Un.kept old,⟨_,c8,λi x v e1 e2 _=>?_⟩,λx c e=>?_,I2.hok.fresh (show s2.heap.objs.size≤G.objs.size by lia),λx c e=>I2.Vk x c (Gd x c e).1,λp hp=>absurd (show p∈([]:List XZ) from hp) (by simp),I2.hok.kept old,Zop⟩
  ·obtain⟨hf,j,hj1,hj2⟩:=qM i x v e1 e2
   have kd:X.env.scope.names.lookup x=some .cell∨X.env.scope.names.lookup x=some .free:=by
    rw[eW];exact S.free _ (iB hf) rfl
   obtain⟨u,r,q⟩:=hl j x v (by rw[hN];exact hj1) hj2 (kd.elim (λz=>.inr (.inl z)) λz=>.inr (.inr z));refine⟨u,r,.inr ⟨J1 hf,?_⟩⟩;obtain⟨c,e⟩:=Q6 (env:=X.env) scope.names [] (.inr (iB hf));refine⟨c,e,?_⟩
   rcases q with ⟨k,_⟩|⟨_,c',e',z⟩
   ·have k':X.env.scope.names.lookup x=some .local:=k
    rcases kd with y|y<;>rw[y]at k'<;>cases k'
   ·have:c=c':=Option.some.inj ((Gd x c e).1.symm.trans e');subst this;obtain⟨o,ho,hd⟩:=z;exact⟨o,old _ o ho,hd⟩
  ·obtain⟨v,o,ho,hd⟩:=I2.cell x c (Gd x c e).1;exact⟨v,o,old _ o ho,hd⟩
 have Zbn:∀{H':Hp}{pl:XX},(∀b∈fp,H' b=none)→(∀p∈pl,p.1∉fp)→∀b∈fp,Gw (Xb X (Yy own Nm fr) scope d) pl H' b:=λhn hp b hb=>
  ⟨hn b hb,λz=>hCf ((show b=G.objs.size from z)▸hb),ok.Zcr b hb,.inl hb,(ok.exf b hb).2,λp n6 z=>hp p (by simpa using (show p∈([]:List XZ)++_ from n6)) (z▸hb)⟩
 have loop:∀tk,codeAny (model X.prog X.w) X.A (.compLoop (.ListComp elt [⟨tg,iter,ifs,0⟩] scope Xy) 0 (.ref it) (.ref s2.heap.objs.size) (compEnvC scope (Sv X.env scope.names []) G.objs.size X.env))
   (compPost (model X.prog X.w) X.A X.xe use Q0 (.ref s2.heap.objs.size) G.objs.size) { s2 with heap:=h1,toks:=tk }:=by
  intro tk
  refine Zf0 (λn s'=>∃i acc its H',Inv (Xb X (Yy own Nm fr) scope d) [] (Ur own.length fr σ) H' s'∧tn i s'.heap∧(∀b∈fp,H' b=none)∧H' s2.heap.objs.size=none∧Vals acc its∧s'.heap.PlainList s2.heap.objs.size its.toArray∧W i n acc H') ?_ m0
   ⟨0,[],[],H2,J0 tk,T.keep 0 _ _ st2 λb _ o e=>old b o e,λb hb=>(f2 b hb).1,I2.hok.fresh (rX _),.nil,Zmu,w0⟩
  rintro n s3 ⟨i,acc,its,H3,I3,mF,kY,nD,va,⟨na,pa⟩,w3⟩
  have Ztq:Inv (Xb X (Yy own Nm fr) scope d) [(s2.heap.objs.size,{ cls:=.type "list",data:=.seq its.toArray na })] (Ur own.length fr σ) H3 s3:=I3.Ph λp hp=>by
   have n6:=rY.mp hp;subst n6;refine⟨pa,nD,vF,λz=>?_,λv z=>?_⟩
   ·have z':s2.heap.objs.size∈frs X.stack:=z
    rcases oH.mp (I2.Ji _ z') with y|y
    ·exact absurd I2.lt (by rw[←y];exact iA _)
    ·exact I2.Zt0 (rX _) y
   ·have z':Data.seq its.toArray na=Data.cell v:=z;cases z'
  have Cq:∀p∈[(s2.heap.objs.size,({ cls:=.type "list",data:=.seq its.toArray na }:Obj))],p.1∉fp:=λp hp=>by
   rw[rY.mp hp];exact hDf
  obtain⟨hz,alt⟩:=turn i n acc H3 w3
  rcases alt with ⟨stop,qn⟩|⟨go,Nx,hNx,step⟩
  ·refine thn (T.done (Xb X (Yy own Nm fr) scope d) rfl rfl rfl hc i _ s3 _ H3 _ Ztq (Zbn kY Cq) mF stop) λr s4 ⟨hr,I4⟩=>?_;subst hr;have pD:=I4.pin (s2.heap.objs.size,{ cls:=.type "list",data:=.seq its.toArray na }) (oX _ (rY.mpr rfl));obtain⟨m4,hn4,_⟩:=I4.loc;have I5:Inv X pins σ H3 s4:=I2.Zu6 (ch:=fp) I4.os I4.base I4.hok I4.bare λb hb=>⟨(f2 b hb).2.2.2.1,(f2 b hb).2.1,(f2 b hb).2.2.2.2.1,(f2 b hb).2.2.2.2.2⟩
   have far:∀a,s2.heap.objs.size≤a→X.s₀.heap.objs.size≤a∧a≠X.env.locals∧(∀x c,X.env.cells.lookup x=some c→c≠a)∧∀p∈X.pn++pins,p.1≠a:=λa ha=>
    ⟨lC I2.sz ha,iZ (oS I2.lt ha),λx c e=>oY (oS (Zk4 x c e) ha),λp hp=>oY (oS (oD (I2.pin p hp).1) ha)⟩
   have fD:=far s2.heap.objs.size (rX _);have fC:=far G.objs.size (by lia);have I6:=I5.adopt (o:=.lst acc) fD.1 pD.2.1 fD.2.1 fD.2.2.1 fD.2.2.2 ⟨cE hz,its,na,va,pD.1⟩;exact Zrf s2.heap.objs.size G.objs.size _ s4 m4 I6 (qn _ pD.2.1) hn4 (by rw[Zk (dA vF)];exact I4.free) fC.1 fC.2.1 fC.2.2.1 fC.2.2.2
  ·refine thn (T.item (Xb X (Yy own Nm fr) scope d) rfl rfl rfl hc i _ s3 _ H3 _ Ztq (Zbn kY Cq) mF go) λr s4 ⟨u,hr,h4⟩=>?_;subst hr;refine thn h4 λ_ s5 ⟨x,H5,I5,r5,y5,mG,zX⟩=>?_;have wV:=I5.pinned (Zbn zX Cq) (T.obj _ _ mG);refine thn (hg d _ s5 _ H5 x u _ wV r5 (gN _ _ _ _ (step x H5 y5))) λ_ s6 ⟨tW,H6,I6,q6,l6,k6⟩=>?_
   have wk:∀(j:Nat) v,(Ur own.length fr σ)[j]?=some (some v)→tW[j]?=some (some v):=λj v e=>by
    by_cases hj:j<own.length
    ·unfold Ur at e;rw[lP (by simpa using hj),ZP,if_pos hj]at e;cases e
    ·rw[k6 j (by lia)];exact e
   refine thn (ht d _ s6 tW H6 _ I6 q6) λb s7 ⟨H7,I7,q7⟩=>?_
   have fpK:∀{x4:St}{H':Hp}{s':Shared},Inv (Xb X (Yy own Nm fr) scope d) ([(s2.heap.objs.size,({ cls:=.type "list",data:=.seq its.toArray na }:Obj))]++Mt fp s5.heap) x4 H' s'→
     tn (i+1) s'.heap∧(∀b∈fp,H' b=none)∧H' s2.heap.objs.size=none∧s'.heap.get? s2.heap.objs.size=some { cls:=.type "list",data:=.seq its.toArray na }:=λ{x4 H' s'} I'=>by
    have pD:=I'.pin (s2.heap.objs.size,{ cls:=.type "list",data:=.seq its.toArray na }) (oX _ (lF _ (rY.mpr rfl)));refine⟨T.keep _ _ _ mG λb hb o e=>(I'.pin (b,o) (oX _ (oX _ (S4 hb e)))).1,λb hb=>?_,pD.2.1,pD.1⟩;obtain⟨o,e,_⟩:=T.obj _ _ mG b hb;exact(I'.pin (b,o) (oX _ (oX _ (S4 hb e)))).2.1
   have drop:∀{x4:St}{H':Hp}{s':Shared},(∀(j:Nat) v,(Ur own.length fr σ)[j]?=some (some v)→x4[j]?=some (some v))→Inv (Xb X (Yy own Nm fr) scope d) ([(s2.heap.objs.size,({ cls:=.type "list",data:=.seq its.toArray na }:Obj))]++Mt fp s5.heap) x4 H' s'→
     Inv (Xb X (Yy own Nm fr) scope d) [] (Ur own.length fr σ) H' s':=λ{x4 H' s'} hw I'=>
    (I'.Ph (pins':=[]) (λp hp=>absurd hp (by simp))).weak (Zop.trans I'.len.symm) hw
   cases b with
   |false=>
    rw[if_neg oW];obtain⟨m',hm,w'⟩:=hNx acc H7 (by rw[if_neg oW]at q7;exact q7);obtain⟨k1,k2,k3,k4⟩:=fpK I7;exact⟨m',hm,i+1,acc,its,H7,drop wk I7,k1,k2,k3,va,⟨_,k4⟩,w'⟩
   |true=>
    rw[if_pos rfl];rw[if_pos rfl]at q7;refine thn (he d _ s7 tW H7 _ I7 q7) λy s8 ⟨yv,H8,I8,r8,q8⟩=>?_;obtain⟨m',hm,w'⟩:=hNx _ H8 q8;obtain⟨k1,k2,k3,k4⟩:=fpK I8
    have hsz:its.toArray.size≤sizeLine:=by
     rw[oF,←va.length];exact cE hz
    refine wpAny_list_append_plain (hsz:=hsz) ⟨_,k4⟩ λh9 hl9 hs9=>?_
    have I9:Inv (Xb X (Yy own Nm fr) scope d) [] (Ur own.length fr σ) H8 { s8 with heap:=h9 }:=by
     refine(drop wk I8).turned (t':=s8.toks) (it:=s2.heap.objs.size) (λb o hb e=>hs9.extBut b o hb e) k3 vF (.inr (rX _)) (λx c e=>?_) λp hp=>absurd (show p∈([]:List XZ) from hp) (by simp);exact oY (Zk4 x c (Gd x c e).1)
    refine⟨m',hm,i+1,acc++[yv],its++[y],H8,I9,T.keep _ _ _ k1 λb hb o e=>hs9.extBut b o (λz=>hDf (z▸hb)) e,k2,k3,va.append (.cons r8 .nil),?_,w'⟩;rw[show (its++[y]).toArray=its.toArray.push y by simp];exact hl9
 exact codeAny_compStart_list (loop _) (T.self _ 0 _ _ _ (T.keep 0 _ _ st2 λb _ o e=>old b o e) (loop _))
theorem Yo(S:Zde sc Nm own fr scope)(hc:X.calm=true)(gN:GFr own.length g)(hi:PI X tg iter wi)(hg:∀d,PG (Xb X (Yy own Nm fr) scope d) tg g)
  (ht:∀d,PTs (Xb X (Yy own Nm fr) scope d) ifs tt) (he:∀d,PE (Xb X (Yy own Nm fr) scope d) elt te) (eW:X.env.scope=sc:=by rfl) (hN:X.N=Nm:=by rfl)
  (hs:∀x,foldedSetIterable iter X.env x=pure x:=by intro _;rfl):PE X (.ListComp elt [⟨tg,iter,ifs,0⟩] scope Xy) (Zhp own.length fr wi g tt te):=by
 intro pins s σ H Q I h;rw[eval_ListComp];refine Dr (use:=none) S eW hN hc gN hi hg ht he hs I h λD C Hd s' m I' q hn nC c1 c2 c3 c4=>?_;exact⟨m,hn,λh' hb=>⟨.ref D,Hd,I'.turned (t':=s'.toks) (λb o x6 e=>hb.extBut b o x6 e) nC c2 (.inr c1) c3 c4,rfl,q⟩⟩
theorem Zeb{pos pos':Pos}(hNd:X.N.Nodup)(hix:X.N[i]?=some x)(hx:X.env.scope.names.lookup x=some .local)(S:Zde sc Nm own fr scope)(hc:X.calm=true)(gN:GFr own.length g)(hi:PI X tg iter wi)
  (hg:∀d,PG (Xb X (Yy own Nm fr) scope d) tg g) (ht:∀d,PTs (Xb X (Yy own Nm fr) scope d) ifs tt) (he:∀d,PE (Xb X (Yy own Nm fr) scope d) elt te) (eW:X.env.scope=sc:=by rfl) (hN:X.N=Nm:=by rfl)
  (hs:∀x,foldedSetIterable iter X.env x=pure x:=by intro _;rfl)
  (hsw:swapsWith (.ListComp elt [⟨tg,iter,ifs,0⟩] scope Xy) (some (.Name x pos')) pos.line X.env=pure true:=by rfl) :
  PS X (.Assign [.Name x pos'] (.ListComp elt [⟨tg,iter,ifs,0⟩] scope Xy) pos) (Zpj (Zhp own.length fr wi g tt te) (So i)):=by
 intro pins s σ H D0 I h;rw[exec_Assign_Name_used _ _ _ _ hsw];refine rS (cR (rS ?_));refine rS (thn (Dr (use:=some (assign (.Name x pos') X.env)) (Q0:=λ_ s'=>SP X pins D0 .next s') S eW hN hc gN hi hg ht he hs I h λD C Hd s' m I' q hn nC c1 c2 c3 c4=>?_) λ_ s' q=>rT (rT q));show wpAny _ _ (assign (.Name x pos') X.env (.ref D)) _ _ s';refine wpAny_assign_Name (F5 I' hNd hix (.inl hx) (v:=.ref D) rfl (λs2 I2 ⟨a,sb,ha⟩=>?_) (.inr hx))
 have hCa:C≠a:=by
  rcases ha with z|z
  ·rw[z];exact c2
  ·exact(c3 x a z).symm
 refine⟨m,hn.sameBut sb hCa,λh' hb=>⟨_,Hd,I2.turned (t':=s2.toks) (λb o x6 e=>hb.extBut b o x6 e) nC c2 (.inr c1) c3 c4,q⟩⟩
end
theorem Su{J:It}{k:Nat}{fr:List Nat}{tt:TT}{Q:VK}(Pv:Nat→List V→Hp→Prop)(hk:k<sizeLine)(h0:Pv 0 [] H)(hlen:∀i acc H,Pv i acc H→acc.length≤i)
  (hgo:∀i acc H,i<k→Pv i acc H→J.go i H) (y0:∀acc H,Pv k acc H→J.stop k H)
  (hs:∀i acc H2 x H3,i<k→Pv i acc H2→J.yld i H2 x H3→g x (Ur n fr σ) H3 λt4 H4=>tt t4 H4 λb H5=>if b=true then te t4 H5 λv H6=>Pv (i+1) (acc++[v]) H6 else Pv (i+1) acc H5)
  (hd:∀acc H2,Pv k acc H2→∀l,H2 l=none→Q (.ref l) (upd H2 l (.lst acc))) :
  Za7 J n fr g tt te σ H Q:=by
 refine⟨λi m acc H=>m=k-i∧i≤k∧Pv i acc H,⟨k,by simp,lB _,h0⟩,?_⟩;rintro i m acc H2 ⟨rfl,hi,p⟩;have hl:=hlen i acc H2 p;refine⟨by lia,?_⟩
 by_cases x5:i<k
 ·exact .inr ⟨hgo i acc H2 x5 p,Pv (i+1),λZr3 H' p'=>⟨k-(i+1),by lia,rfl,x5,p'⟩,λx H3 y=>hs i acc H2 x H3 x5 p y⟩
 ·have e:i=k:=by lia
  subst e;exact .inl ⟨y0 acc H2 p,hd acc H2 p⟩
def Ut{lo:Int}{n k:Nat}{fr:List Nat}{g:TG}{tt:TT}{te:TE}{σ:St}{H:Hp}{Q:VK}(Pv:Nat→List V→Hp→Prop)(hk:k<sizeLine)(h0:Pv 0 [] H)(hlen:∀i acc H,Pv i acc H→acc.length≤i)
  (hs:∀i acc H2,i<k→Pv i acc H2→g (.int (lo+i)) (Ur n fr σ) H2 λt4 H4=>tt t4 H4 λb H5=>if b=true then te t4 H5 λv H6=>Pv (i+1) (acc++[v]) H6 else Pv (i+1) acc H5)
  (hd:∀acc H2,Pv k acc H2→∀l,H2 l=none→Q (.ref l) (upd H2 l (.lst acc))):=
 Su (J:=Itr lo k) (n:=n) (fr:=fr) (g:=g) (tt:=tt) (te:=te) (σ:=σ) (Q:=Q) Pv hk h0 hlen (λ_ _ _ h _=>h) (λ_ _ _=>rX _) (λi acc H2 x H3 hi p y=>by
  obtain⟨e1,e2⟩:=y;subst e1 e2
  exact hs i acc _ hi p) hd
def Wl{K:W.Frag}{a:Addr}{xs:List V}{n:Nat}{fr:List Nat}{g:TG}{tt:TT}{te:TE}{σ:St}{H:Hp}{Q:VK}(Pv:Nat→List V→Hp→Prop)(hk:xs.length<sizeLine)(h0:Pv 0 [] H)(hlen:∀i acc H,Pv i acc H→acc.length≤i)
  (hl:∀i acc H,Pv i acc H→SqL K H a xs)
  (hs:∀i acc H2 x,xs[i]?=some x→Pv i acc H2→g x (Ur n fr σ) H2 λt4 H4=>tt t4 H4 λb H5=>if b=true then te t4 H5 λv H6=>Pv (i+1) (acc++[v]) H6 else Pv (i+1) acc H5)
  (hd:∀acc H2,Pv xs.length acc H2→∀l,H2 l=none→Q (.ref l) (upd H2 l (.lst acc))):=
 Su (J:=Itl K a) (n:=n) (fr:=fr) (g:=g) (tt:=tt) (te:=te) (σ:=σ) (Q:=Q) Pv hk h0 hlen (λi acc H hi p=>⟨xs,xs[i],hl i acc H p,by simp[hi]⟩) (λacc H p=>⟨xs,hl _ acc H p,rX _⟩) (λi acc H2 x H3 hi p y=>by
  obtain⟨e1,e2⟩:=y;subst e1
  exact hs i acc _ x (e2 xs (hl i acc _ p)) p) hd
def Q5{K:W.Frag}{a:Addr}{xs:List V}{n:Nat}{fr:List Nat}{g:TG}{tt:TT}{te:TE}{σ:St}{H:Hp}{Q:VK}(Pv:Nat→List V→Hp→Prop)(hk:xs.length<sizeLine)(h0:Pv 0 [] H)(hlen:∀i acc H,Pv i acc H→acc.length≤i)
  (hl:∀i acc H,Pv i acc H→SqT K H a xs)
  (hs:∀i acc H2 x,xs[i]?=some x→Pv i acc H2→g x (Ur n fr σ) H2 λt4 H4=>tt t4 H4 λb H5=>if b=true then te t4 H5 λv H6=>Pv (i+1) (acc++[v]) H6 else Pv (i+1) acc H5)
  (hd:∀acc H2,Pv xs.length acc H2→∀l,H2 l=none→Q (.ref l) (upd H2 l (.lst acc))):=
 Su (J:=Itt K a) (n:=n) (fr:=fr) (g:=g) (tt:=tt) (te:=te) (σ:=σ) (Q:=Q) Pv hk h0 hlen (λi acc H hi p=>⟨xs,xs[i],hl i acc H p,by simp[hi]⟩) (λacc H p=>⟨xs,hl _ acc H p,rX _⟩) (λi acc H2 x H3 hi p y=>by
  obtain⟨e1,e2⟩:=y;subst e1
  exact hs i acc _ x (e2 xs (hl i acc _ p)) p) hd
def Its(cs:List Nat):It:=⟨λi _=>i<cs.length,λi H x H'=>H'=H∧∃c,cs[i]?=some c∧x=.str ⟨#[c]⟩,λi _=>cs.length≤i⟩
theorem Zhi(it:Addr)(ty:String)(b9:ty = "str_ascii_iterator"∨ty = "str_iterator")(x:Str)(t:Tok):
  Turn P w K tg (Its x.cps.toList) [it] it (λi h=>h.IsStrIter it ty x t i) where
 mem:=by simp
 obj:=λi h st b hb=>by
  rw[rY.mp hb];obtain⟨o,e,c,d⟩:=st;exact⟨o,e,λv z=>by rw[d]at z;cases z⟩
 keep:=λi h h' st k=>by
  obtain⟨o,e,r⟩:=st;exact⟨o,k it (by simp) o e,r⟩
 item:=by
  intro X hP hw hK hc i pins s σ H E I hf st hg;subst hP hw hK;have x5:i<x.cps.toList.length:=hg;obtain⟨f0,f1,f2,f3,f4,f5⟩:=hf it (by simp)
  have hx:x.cps[i]?=some (x.cps.toList[i]):=by
   rw[←lA];exact rZ x5
  have fin:∀h',h'.IsStrIter it ty x t (i+1)→Heap.SameBut it s.heap h'→∃u,some (Value.str ⟨#[x.cps.toList[i]]⟩ s.toks)=some u∧
    wpAny (model X.prog X.w) X.A (letOwnedTupleGo tg (.ref it) u) (λ_ s2=>∃y H',Inv X pins σ H' s2∧RelV y u∧(Its x.cps.toList).yld i H y H'∧s2.heap.IsStrIter it ty x t (i+1)∧∀b∈[it],H' b=none) E { s with heap:=h',toks:=s.toks+1 }:=λh' t7 sb=>by
   have I1:Inv X pins σ H { s with heap:=h',toks:=s.toks+1 }:=I.turned (λb o hb e=>(sb.2 b hb).trans e) f0 f1 f3 f4 f5;obtain⟨o,e,c,d⟩:=id t7
   refine⟨_,rfl,Df (s:={ s with heap:=h',toks:=s.toks+1 }) (n:=ty) e c d (by rcases b9 with z|z<;>subst z<;>decide) ⟨.str ⟨#[x.cps.toList[i]]⟩,H,I1,⟨_,rfl⟩,⟨rfl,_,rZ x5,rfl⟩,t7,λb hb=>(hf b hb).1⟩⟩
  rcases b9 with z|z
  ·subst z;exact wpAny_pyNext_ascii_item st hx λh' t7 sb=>fin h' t7 sb
  ·subst z;exact wpAny_pyNext_wide_item st hx λh' t7 sb=>fin h' t7 sb
 done:=by
  intro X hP hw hK hc i pins s σ H E I hf st hg;subst hP hw hK;have hle:x.cps.toList.length≤i:=hg;obtain⟨f0,f1,f2,f3,f4,f5⟩:=hf it (by simp)
  have hx:x.cps[i]?=none:=by
   rw[←lA];exact cJ.mpr hle
  rcases b9 with z|z
  ·subst z;exact wpAny_pyNext_ascii_end (I.ok.hd hc) st hx λh' eb=>⟨rfl,I.turned (t':=s.toks) (λb o hb e=>eb b o hb e) f0 f1 f3 f4 f5⟩
  ·subst z;exact wpAny_pyNext_wide_end (I.ok.hd hc) st hx λh' eb=>⟨rfl,I.turned (t':=s.toks) (λb o hb e=>eb b o hb e) f0 f1 f3 f4 f5⟩
 self:=λ_ _ _ _ _ st h=>by
  rcases b9 with z|z
  ·subst z;exact wpAny_pyIter_striter_ascii st h
  ·subst z;exact wpAny_pyIter_striter_wide st h
section
variable {X:Cx}{tg e:Expr}{te:TE}
def iStr(te:TE):TI:=λσ H R=>te σ H λv H1=>∃z,v=.str z∧R (Its z.cps.toList) H1
theorem Uo(he:PE X e te):PI X tg e (iStr te):=by
 intro pins s σ H R I h;refine thn (he pins s σ H _ I h) λv s1 ⟨x,H1,I1,r1,q1⟩=>?_;obtain⟨z,e1,q⟩:=q1;subst e1;obtain⟨t,rfl⟩:=r1
 have go:∀(ty:String),(ty = "str_ascii_iterator"∨ty = "str_iterator")→PIE X pins σ tg R (.ref s1.heap.objs.size) { s1 with heap:=s1.heap.push { cls:=.type ty,data:=.fields #[.str z t,.int 0 0] } }:=λty b9=>by
  refine⟨s1.heap.objs.size,[s1.heap.objs.size],_,_,H1,rfl,I1.kept (t':=s1.toks) λb o e=>rV _ e,Zhi _ ty b9 z t,⟨_,oC _ rfl,rfl,rfl⟩,λb hb=>?_,q⟩;rw[rY.mp hb];exact I1.Fg (rX _) (I1.hok.fresh (rX _))
 cases ha:z.cps.all (· < 128) with
 |false=>exact wpAny_pyIter_wide ha (go _ (.inr rfl))
 |true=>exact wpAny_pyIter_ascii ha (go _ (.inl rfl))
end
theorem Td{cs:List Nat}(Pv:Nat→St→Hp→Prop)(h0:Pv 0 σ H)
  (hs:∀i c σ H,cs[i]?=some c→Pv i σ H→g (.str ⟨#[c]⟩) σ H λx8 H2=>tb { D with nx:=Pv (i+1),ct:=Pv (i+1),bk:=D.nx } x8 H2) (hd:∀σ H,Pv cs.length σ H→D.nx σ H) :
  ∃W:Nat→Nat→St→Hp→Prop,(∃m,W 0 m σ H)∧∀i m σ H,W i m σ H→
   ((Its cs).stop i H∧D.nx σ H)∨((Its cs).go i H∧∃N:St→Hp→Prop,(∀x4 H',N x4 H'→∃m',m'<m∧W (i+1) m' x4 H')∧∀x H',(Its cs).yld i H x H'→g x σ H' λx8 H2=>tb { D with nx:=N,ct:=N,bk:=D.nx } x8 H2):=by
 refine⟨λi m σ H=>m=cs.length-i∧i≤cs.length∧Pv i σ H,⟨cs.length,by simp,lB _,h0⟩,?_⟩;rintro i m σ H ⟨rfl,hi,p⟩
 by_cases x5:i<cs.length
 ·refine .inr ⟨x5,Pv (i+1),λx4 H' p'=>⟨cs.length-(i+1),by lia,rfl,x5,p'⟩,λx H' y=>?_⟩;obtain⟨e,c,hc,hx⟩:=y;subst e hx;exact hs i c σ _ hc p
 ·have e:i=cs.length:=by lia
  subst e;exact .inl ⟨rX _,hd σ H p⟩
def Hz{cs:List Nat}{n:Nat}{fr:List Nat}{g:TG}{tt:TT}{te:TE}{σ:St}{H:Hp}{Q:VK}(Pv:Nat→List V→Hp→Prop)(hk:cs.length<sizeLine)(h0:Pv 0 [] H)(hlen:∀i acc H,Pv i acc H→acc.length≤i)
  (hs:∀i acc H2 c,cs[i]?=some c→Pv i acc H2→g (.str ⟨#[c]⟩) (Ur n fr σ) H2 λt4 H4=>tt t4 H4 λb H5=>if b=true then te t4 H5 λv H6=>Pv (i+1) (acc++[v]) H6 else Pv (i+1) acc H5)
  (hd:∀acc H2,Pv cs.length acc H2→∀l,H2 l=none→Q (.ref l) (upd H2 l (.lst acc))):=
 Su (J:=Its cs) (n:=n) (fr:=fr) (g:=g) (tt:=tt) (te:=te) (σ:=σ) (Q:=Q) Pv hk h0 hlen (λ_ _ _ h _=>h) (λ_ _ _=>rX _) (λi acc H2 x H3 hi p y=>by
  obtain⟨e1,c,hc,hx⟩:=y;subst e1 hx
  exact hs i acc _ c hc p) hd
theorem J3(bs:VD):(List.range bs.length).all (λi=>bs.getD i false)=bs.all id:=by
 rw[lH,cF,cF];constructor
 ·intro h b hb;obtain⟨i,hi,rfl⟩:=aZ hb;have:=h i (lZ.mpr hi);simpa[oQ,hi] using this
 ·intro h i hi;have u5:=lZ.mp hi;have:=h bs[i] (cU u5);simpa[oQ,u5] using this
theorem J2(bs:VD):(List.range bs.length).any (λi=>bs.getD i false)=bs.any id:=by
 rw[lH,dM,dM];constructor
 ·rintro⟨i,hi,h⟩;have u5:=lZ.mp hi;exact⟨bs[i],cU u5,by simpa[oQ,u5] using h⟩
 ·rintro⟨b,hb,h⟩;obtain⟨i,hi,rfl⟩:=aZ hb;exact⟨i,lZ.mpr hi,by simpa[oQ,hi] using h⟩
section
variable {X:Cx}
theorem K5{p:Addr}{bs:VD}{Qv:VK}{f:Nat→(Nat→Bool)→Bool}{b:Bool}(hc:X.calm=true)(I:Inv X pins σ H s)(hq:SqL X.K H p (bs.map V.bl))(hb:f bs.length (λi=>bs.getD i false)=b)(q:Qv (.bl b) H):
  wpAny (model X.prog X.w) X.A.in1 (pyIter (.ref p)) (λit y6=>∃I fp wr n P St tr,it=.ref I∧Walks X.prog X.w X.A.in1 I fp wr n P St∧St 0 y6.heap∧TruthOf X.prog X.w X.A.in1 P tr∧
   ∀h' tk,(∀b o,b∉wr→y6.heap.get? b=some o→h'.get? b=some o)→EP X pins σ Qv (.bool (f n tr)) { y6 with heap:=h',toks:=tk }) X.xe s:=by
 obtain⟨its,r,pl,hz⟩:=I.list hq
 have hlen:its.toArray.size=bs.length:=by
  rw[oF,←r.length,rW]
 have y3:p<s.heap.objs.size:=by
  obtain⟨o,e,_⟩:=pl.isList;exact oD e
 refine bK pl.isList ?_;refine⟨s.heap.objs.size,[s.heap.objs.size,p],[s.heap.objs.size],its.toArray.size,_,_,λi=>bs.getD i false,rfl,YO (A:=X.A.in1) (show X.A.in1.handled=none from I.ok.hd hc) s.heap.objs.size p (oY y3) its.toArray,?_,?_,λh' tk k=>?_⟩
 ·refine And.intro (show Heap.IsListIter _ _ _ _ from⟨_,oC _ rfl,rfl,rfl⟩) ?_;obtain⟨o,e,z⟩:=pl.isList;exact⟨o,rV _ e,z⟩
 ·intro i v s' Q E hv hQ;have u6:its[i]?=some v:=by simpa using hv
  cases e:(bs.map V.bl)[i]? with
  |none=>
   have z:=r.none_of e;rw[u6]at z;cases z
  |some x=>
   obtain⟨u,hu,ru⟩:=r.get e;rw[u6]at hu;cases hu;rw[oP]at e
   cases e2:bs[i]? with
   |none=>rw[e2]at e;cases e
   |some y=>
    rw[e2]at e;cases e;cases ru;refine dR ?_;have:bs.getD i false=y:=by rw[oQ,e2];rfl
    exact this▸(show Q (bs.getD i false) s' from hQ)
 ·rw[hlen,hb];refine⟨.bl b,H,I.kept λc o e=>k c o ?_ (rV _ e),rfl,q⟩;have:=oD e;intro z;rw[rY.mp z]at this;exact iA _ this
theorem Zaw(hc:X.calm=true):Yx X (.builtin "all") (λxs H Q=>∃(p:Addr) (bs:VD),xs=[.ref p]∧SqL X.K H p (bs.map V.bl)∧Q (.bl (bs.all id)) H):=by
 intro pins s σ H xs us Q I r h;obtain⟨p,bs,rfl,hq,q⟩:=h;obtain⟨u,rfl,ru⟩:=vals1 r;cases ru;exact call_all_walk (K5 (f:=λn tr=>(List.range n).all tr) hc I hq (J3 bs) q)
theorem Zav(hc:X.calm=true):Yx X (.builtin "any") (λxs H Q=>∃(p:Addr) (bs:VD),xs=[.ref p]∧SqL X.K H p (bs.map V.bl)∧Q (.bl (bs.any id)) H):=by
 intro pins s σ H xs us Q I r h;obtain⟨p,bs,rfl,hq,q⟩:=h;obtain⟨u,rfl,ru⟩:=vals1 r;cases ru;exact call_any_walk (K5 (f:=λn tr=>(List.range n).any tr) hc I hq (J2 bs) q)
theorem Oh:∀{ys:List Str}{us:WC},Vals (ys.map V.str) us→StrsAre us ys
 |[],us,r=>by rw[YM]at r;cases r;exact .nil
 |y :: ys,us,r=>by
  rw[lG]at r
  cases r with
  |cons r1 r2=>
   obtain⟨t,e⟩:=r1;subst e;exact .cons y t (Oh r2)
theorem Pc:∀{us:WC}{ys:List Str},StrsAre us ys→Vals (ys.map V.str) us
 |_,_,.nil=>.nil
 |_,_,.cons y t h=>.cons ⟨t,rfl⟩ (Pc h)
inductive Ziv(K:W.Frag)(x:V)(xs:List V)(H:Hp)(Q:VK):Prop
 |mk(z p ys:_)(h1:x=.str z)(h2:xs=[.ref p])(h3:SqL K H p (ys.map V.str))(h4:(ys.map (·.length)).sum+ys.length*z.length≤16777216)(h5:Q (.str (Txt.join z ys)) H):Ziv K x xs H Q
def rJoin(K:W.Frag):V→List V→Hp→VK→Prop:=λx xs H Q=>Ziv K x xs H Q
theorem Zmh:MtR X "str.join" (rJoin X.K):=by
 intro pins s σ H x xs v us Q I rx rs h;obtain⟨z,p,ys,rfl,rfl,hq,hz,q⟩:=h;obtain⟨t,rfl⟩:=rx;obtain⟨u,rfl,ru⟩:=rs.one;cases ru;obtain⟨its,r,pl,_⟩:=I.list hq;exact join_list pl.isList (by simpa using Oh r) hz λt' k=>⟨.str _,H,I.tok _,⟨_,rfl⟩,q⟩
theorem Og(ys:List Str):(Txt.join (Str.ofString "") ys).cps.toList=(ys.map λy=>y.cps.toList).flatten:=by
  show (Builtin.Str.glued (Str.ofString "") ys).cps.toList=_;rw[StrLaws.glued_eq_join]
  induction ys with
  |nil=>rfl
  |cons y r ih=>
   cases r with
   |nil=>simp[Str.join]
   |cons z r=>
    have e:Str.join (Str.ofString "") (y :: z :: r)=y++Str.ofString ""++Str.join (Str.ofString "") (z :: r):=rfl;rw[e];have h0:(Str.ofString "").cps = #[]:=by decide +kernel
    show ((y.cps++(Str.ofString "").cps)++(Str.join (Str.ofString "") (z :: r)).cps).toList=_;rw[h0,Array.append_empty,bU,ih,lG,lG,aF];rfl
inductive Zn6(x:V)(lo:VN)(hi:VN)(H:Hp)(Q:VK):Prop
 |mk(z:_)(h1:x=.str z)(h2:z.length≤sizeLine)(h3:Q (.str (Txt.slice z lo hi)) H):Zn6 x lo hi H Q
def rSlS:V→Option Int→Option Int→Hp→VK→Prop:=λx lo hi H Q=>Zn6 x lo hi H Q
theorem Zie:SlR X rSlS:=by
 intro pins s σ H x v vl vu lo hi sl Q I rx hs pl pu h;obtain⟨z,rfl,hz,q⟩:=h;obtain⟨t,rfl⟩:=rx;refine⟨"str",_,F.slot_str_getitem.lookup,typeIs_str _ _ _,?_⟩
 have fin:∀t' k,EP X pins σ Q (.str (Txt.slice z lo hi) t') { s with toks:=k }:=λt' k=>⟨.str _,H,I.tok _,⟨_,rfl⟩,q⟩;have hle:(Txt.slice z lo hi).length≤sizeLine:=lC (Txt.slice_le z _ _) hz
 cases pl with
 |none=>
  cases pu with
  |none=>exact bX (l:=none) (u:=none) (st:=none) hs rfl (post_val_or_str ⟨hle,fin⟩)
  |int j uj=>exact bX (l:=none) (u:=some (j,uj)) (st:=none) hs rfl (post_val_or_str ⟨hle,fin⟩)
 |int i ui=>
  cases pu with
  |none=>exact bX (l:=some (i,ui)) (u:=none) (st:=none) hs rfl (post_val_or_str ⟨hle,fin⟩)
  |int j uj=>exact bX (l:=some (i,ui)) (u:=some (j,uj)) (st:=none) hs rfl (post_val_or_str ⟨hle,fin⟩)
def Ms(z:Str)(n:Nat):Str:=⟨(List.replicate n z.cps.toList).flatten.toArray⟩
theorem Dg(a:VM):∀(k:Nat) (acc:List Nat),List.foldl (λx1 x2=>x1++x2) acc.toArray (List.replicate k a)=(acc++(List.replicate k a.toList).flatten).toArray
 | 0,acc=>by simp
 |k+1,acc=>by
  rw[bT,List.foldl_cons];have e:acc.toArray++a=(acc++a.toList).toArray:=by simp
  rw[e,Dg a k,bT,aF,iK]
theorem Zb1:OpR X (binaryOp .Mult) (λx y H Q=>∃z n,x=.str z∧y=.int n∧0≤n∧n≤1000∧z.length≤1000∧Q (.str (Ms z n.toNat)) H):=by
 intro pins s σ H x y v u Q I rx ry h;obtain⟨z,n,rfl,rfl,h0,h1,hz,q⟩:=h;obtain⟨t,rfl⟩:=rx;obtain⟨t',rfl⟩:=ry;have hl:z.length*n.toNat≤1000*1000:=Nat.mul_le_mul hz (by lia);have Lu:sizeLine=16777216:=sizeLine_eq
 have Zkb:Builtin.Str.tooLong (z.length*n.toNat)=false:=by
  unfold Builtin.Str.tooLong;exact decide_eq_false (by lia)
 refine PySem.P.mul_str (by
   rw[decide_eq_false (by lia),decide_eq_false (by lia)];rfl) (λhn _=>?_) (λ_ _=>Zkb) ?_
 ·have h2:(2 ^ 63-1:Int)/n ≥ 1000:=by
   refine Int.le_ediv_of_mul_le (by lia) ?_;have:(1000:Int)*n≤1000*1000:=Int.mul_le_mul_of_nonneg_left h1 (by lia);lia
  lia
 ·have rep0:∀k,(⟨(List.replicate k z.cps).foldl (· ++ ·) #[]⟩:Str)=Ms z k:=λk=>by
   have:=Dg z.cps k [];rw[YQ]at this;exact congrArg Str.mk this
  have fin:∀(y:Str),y=Ms z n.toNat→∀t2 k,EP X pins σ Q (.str y t2) { s with toks:=k }:=λy e t2 k=>by
   subst e;exact⟨.str _,H,I.tok _,⟨_,rfl⟩,q⟩
  by_cases hn:n<1
  ·rw[if_pos hn];refine⟨by decide,fin _ ?_ _ _⟩;have:n.toNat=0:=by lia
   rw[this];rfl
  ·rw[if_neg hn]
   by_cases hb:(n==1||z.length==0)=true
   ·rw[if_pos hb];refine fin z ?_ t s.toks
    rcases Bool.or_eq_true_iff.mp hb with e|e
    ·have:n=1:=by simpa using e
     subst this;show z=⟨([z.cps.toList].flatten).toArray⟩;simp
    ·have e':z.cps.size=0:=by simpa[Str.length] using e
     have e2:z.cps = #[]:=Array.eq_empty_of_size_eq_zero e';unfold Ms;obtain⟨c⟩:=z;subst e2;simp
   ·rw[if_neg hb];refine⟨?_,?_⟩
    ·rw[rep0];show ((List.replicate n.toNat z.cps.toList).flatten.toArray).size≤sizeLine;rw[oF,len_rep,oZ];have:n.toNat*z.cps.size=z.length*n.toNat:=Nat.mul_comm _ _;lia
    ·exact fin _ (rep0 _) _ _
inductive Zd2(K:W.Frag)(xs:List V)(H:Hp)(Q:VK):Prop
 |mk(p ys:_)(h1:xs=[.ref p])(h2:SqL K H p (ys.map V.str))(h3:ys.length<64)(h4:∀m6 l,m6.Perm ys→sortedS m6=true→H l=none→Q (.ref l) (upd H l (.lst (m6.map V.str)))):Zd2 K xs H Q
def Zio(K:W.Frag):List V→Hp→VK→Prop:=λxs H Q=>Zd2 K xs H Q
theorem Kk:Yx X (.builtin "sorted") (Zio X.K):=by
 intro pins s σ H xs us Q I r h;obtain⟨p,ys,rfl,hq,h64,q⟩:=h;obtain⟨u,rfl,ru⟩:=vals1 r;cases ru;obtain⟨its,r',pl,hz⟩:=I.list hq;have hlen:=r'.length;rw[rW]at hlen hz;refine sorted_strs pl.isList (Oh r') (by lia) λout ss' a1 a2 a3=>?_;obtain⟨e,he⟩:=sortedAll_at s.heap its out;have hn:H (s.heap.objs.size+1)=none:=I.hok.fresh (dH _);refine⟨.ref (s.heap.objs.size+1),upd H (s.heap.objs.size+1) (.lst (ss'.map V.str)),I.laid (t':=s.toks) (λ_ _=>sortedAll_old) (dH _) ⟨?_,out.toList,e,Pc a1,?_⟩,rfl,q ss' _ a2 a3 hn⟩
 ·rw[rW,a2.length_eq];exact hz
 ·simpa[seqObj] using he
def Oq(c:Nat):V:=.str ⟨#[c]⟩
theorem K7{x:Str}:∀(us:WC) (k:Nat),(∀i v,us[i]?=some v→SignAt x (k+i) v)→us.length+k=x.cps.toList.length→Vals ((x.cps.toList.drop k).map Oq) us
 |[],k,_,hl=>by
  rw[List.drop_eq_nil_of_le (by simpa using XT hl.symm)];exact .nil
 |u :: us,k,h,hl=>by
  have hk:k<x.cps.toList.length:=by
   simp only[oR]at hl;lia
  rw[bL hk,lG];refine .cons ?_ (K7 us (k+1) (λi v e=>?_) (by simp only[oR]at hl;lia))
  ·obtain⟨c,t,hc,rfl⟩:=h 0 u rfl
   have z9:x.cps.toList[k]?=some c:=by
    rw[lA];exact hc
   rw[rZ hk]at z9;rw[Option.some.inj z9];exact⟨t,rfl⟩
  ·have:=h (i+1) v e;rw[show k+1+i=k+(i+1) by lia];exact this
theorem Gg(hc:X.calm=true):Yx X (.type "list") (λxs H Q=>∃z,xs=[.str z]∧z.length≤sizeLine∧∀l,H l=none→Q (.ref l) (upd H l (.lst (z.cps.toList.map Oq)))):=by
 intro pins s σ H xs us Q I r h;obtain⟨z,rfl,hz,q⟩:=h;obtain⟨u,rfl,t,rfl⟩:=vals1 r;refine call_list_str (hn:=hz) (I.ok.hd hc) z t λh' tk acc c kp e it=>?_;refine⟨.ref s.heap.objs.size,_,I.laid kp (rX _) (show Z9 X.prog X.w _ h' _ (.lst (z.cps.toList.map Oq)) from⟨by rw[rW];simpa[Str.length] using hz,acc.toList,c,?_,by simpa using e⟩),rfl,q _ (I.hok.fresh (rX _))⟩;have e1:=K7 (x:=z) acc.toList 0 (λi v e=>by rw[ZG];exact it.2 i v (by rw[←lA];exact e)) (by rw[oZ,it.1,Nat.add_zero,oZ]);rw[XD]at e1;exact e1
inductive Zd8(x:V)(xs:List V)(H:Hp)(Q:VK):Prop
 |mk(z y i:_)(h1:x=.str z)(h2:xs=[.str y,.int i])(h3:Q (.int (Txt.find3 z y i)) H):Zd8 x xs H Q
def Zp4:V→List V→Hp→VK→Prop:=λx xs H Q=>Zd8 x xs H Q
theorem Zjr:MtR X "str.find" Zp4:=by
 intro pins s σ H x xs v us Q I rx rs h;obtain⟨z,y,i,rfl,rfl,q⟩:=h;obtain⟨t,rfl⟩:=rx;obtain⟨u1,u2,rfl,⟨t1,rfl⟩,⟨t2,rfl⟩⟩:=rs.two;exact SC.find3 ⟨.int _,H,I.tok _,⟨_,rfl⟩,q⟩
inductive Zd7(x:V)(xs:List V)(H:Hp)(Q:VK):Prop
 |mk(z y:_)(h1:x=.str z)(h2:xs=[.str y])(h3:0≤Txt.find z y)(h4:Q (.int (Txt.find z y)) H):Zd7 x xs H Q
def Zp3:V→List V→Hp→VK→Prop:=λx xs H Q=>Zd7 x xs H Q
theorem A4(hc:X.calm=true):MtR X "str.index" Zp3:=by
 intro pins s σ H x xs v us Q I rx rs h;obtain⟨z,y,rfl,rfl,h0,q⟩:=h;obtain⟨t,rfl⟩:=rx;obtain⟨u1,rfl,⟨t1,rfl⟩⟩:=rs.one;exact index_or (I.ok.hd hc) (λe=>by lia) λ_ _=>⟨.int _,H,I.tok _,⟨_,rfl⟩,q⟩
theorem RelV.Zo6{c:V}{u':Value}(h:RelV c u)(h':RelV c u')(hc:(∃n,c=.ty n)∨∃a,c=.ref a):u=u':=by
 rcases hc with ⟨n,rfl⟩|⟨a,rfl⟩
 ·exact(show u=Value.type n from h).trans (show u'=Value.type n from h').symm
 ·exact(show u=Value.ref a from h).trans (show u'=Value.ref a from h').symm
inductive Ztk(K:W.Frag)(xs:List V)(H:Hp)(Q:VK):Prop
 |mk(x n t b:_)(h1:xs=[x,.ty n])(h2:Md K H x t)(h3:W.kitOne K t (.type n)=some b)(h4:Q (.bl b) H):Ztk K xs H Q
def rIs(K:W.Frag):List V→Hp→VK→Prop:=λxs H Q=>Ztk K xs H Q
theorem Zm7:Yx X (.builtin "isinstance") (rIs X.K):=by
 intro pins s σ H xs us Q I r h;obtain⟨x,n,t,b,rfl,ty,e,q⟩:=h;obtain⟨u,w',rfl,rx,rc⟩:=vals2 r;cases (show w'=Value.type n from rc);exact Ez I rx ty e λtk=>⟨.bl b,H,I.tok _,rfl,q⟩
end
inductive Zno(t:TS)(u:TS)(D:Ends)(σ:St)(H:Hp):Prop
 |mk(P:St→Hp→Prop)(h1:t { D with nx:=P } σ H)(h2:∀x4 H',P x4 H'→u D x4 H'):Zno t u D σ H
def Zsv(t u:TS):TS:=λD σ H=>Zno t u D σ H
theorem Cm{rest:List Stmt}{t u:TS}(h1:PS X st t)(h2:PSs X rest u):PSs X (st :: rest) (Zsv t u):=by
 intro pins s σ H D I h;obtain⟨P,q,k⟩:=h;have z:PSs X (st :: rest) (X8 (λD' x4 H'=>D'=D∧x4=σ∧H'=H) (λ_ _ _=>True))→True:=λ_=>True.intro
 exact Ze (t:=λD' x4 H'=>t { D' with nx:=P } x4 H'∧∀x8 H2,P x8 H2→D'.nx x8 H2) (u:=u) (λpins s σ H D I h=>by
  refine thn (h1 pins s σ H _ I h.1) λf s' r=>?_
  cases f with
  |next=>
   obtain⟨x4,H',I',p⟩:=r;exact⟨x4,H',I',h.2 x4 H' p⟩
  |brk=>exact r
  |cont=>exact r
  |ret v=>exact r) h2 pins s σ H D I ⟨q,k⟩
structure Cal(P:Program)(w:World)(K:W.Frag)(mg:WD)(base:Heap)(x:Str)(k:Nat)(ps:List Str)(sp:Sp) where
 f:Addr
 fd:FuncData
 ok:Ya P w K mg base CX0 k f fd ps sp
 at_:mg x=some (.ref f)
 kp:W.keepIn K (.ref f)=true
 b:Binds K fd ps []
theorem Z5{k:Nat}{pos:Pos}{t:TA}(C:Cal X.prog X.w X.K X.mg X.base x k ps sp)(hr:Xi k X.A)(ha:PA X (e :: es) t)(hg:Gl X x:=by rfl)
  (u7:(x==("__debug__" : Str))=false:=by decide) (he:starEach (e :: es) X.env=(false,eval e X.env) :: starEach es X.env:=by rfl) (y3:(backTo pos (starEach es X.env)).any (·.1)=false:=by rfl) :
  PE X (.Call (.Name x p) (e :: es) [] pos) (Zhr sp [] E0 t):=Zl6 C.ok hr hg C.at_ C.kp C.b .nil Zol ha u7 he y3
section
variable {X:Cx}
end
theorem Zqn(a b:Nat):decide (([a]:List Nat)<[b])=decide (a<b):=by
 rw[lH,decide_eq_true_eq,decide_eq_true_eq];constructor
 ·intro h
  cases h with
  |rel h=>exact h
  |cons h=>cases h
 ·intro h;exact List.Lex.rel h
section
variable {X:Cx}{K:W.Frag}
inductive Ziu(K:W.Frag)(xs:List V)(H:Hp)(Q:VK):Prop
 |mk(p ys:_)(h1:xs=[V.ref p])(h2:(SqL K H p ys∨SqT K H p ys))(h3:Q (.int ys.length) H):Ziu K xs H Q
def Zth(K:W.Frag):List V→Hp→VK→Prop:=λxs H Q=>Ziu K xs H Q
inductive Zd5(K:W.Frag)(xs:List V)(H:Hp)(Q:VK):Prop
 |mk(p ys:_)(h1:xs=[V.ref p])(h2:(SqL K H p ys∨SqT K H p ys))(h3:∀l,H l=none→Q (.ref l) (upd H l (.lst ys))):Zd5 K xs H Q
def Zp0(K:W.Frag):List V→Hp→VK→Prop:=λxs H Q=>Zd5 K xs H Q
inductive Zim(K:W.Frag)(xs:List V)(H:Hp)(Q:VK):Prop
 |mk(p ys:_)(h1:xs=[V.ref p])(h2:((SqL K H p ys∧∀l,H l=none→Q (.ref l) (upd H l (.tup ys)))∨(SqT K H p ys∧Q (.ref p) H))):Zim K xs H Q
def Ztb(K:W.Frag):List V→Hp→VK→Prop:=λxs H Q=>Zim K xs H Q
inductive Zi0(K:W.Frag)(xs:List V)(H:Hp)(Q:VK):Prop
 |mk(p:Addr)(bs:VD)(h1:xs=[V.ref p])(h2:SqL K H p (bs.map V.bl))(h3:Q (.bl (bs.all id)) H):Zi0 K xs H Q
def Zto(K:W.Frag):List V→Hp→VK→Prop:=λxs H Q=>Zi0 K xs H Q
inductive Ziz(K:W.Frag)(xs:List V)(H:Hp)(Q:VK):Prop
 |mk(p:Addr)(bs:VD)(h1:xs=[V.ref p])(h2:SqL K H p (bs.map V.bl))(h3:Q (.bl (bs.any id)) H):Ziz K xs H Q
def Ztn(K:W.Frag):List V→Hp→VK→Prop:=λxs H Q=>Ziz K xs H Q
theorem Yx.imp{f:Value}{r r':List V→Hp→VK→Prop}(h:Yx X f r)(hi:∀xs H Q,r' xs H Q→r xs H Q):Yx X f r':=λpins s σ H xs us Q I rv q=>h pins s σ H xs us Q I rv (hi xs H Q q)
theorem Z3(hK:X.K=K:=by rfl):IxR X (Zp2 K):=by subst hK;exact Zmn
theorem Zo(hK:X.K=K:=by rfl):IxR X (Zti K):=by subst hK;exact Zqz
theorem Yh(hK:X.K=K:=by rfl):Yx X (.builtin "len") (Zth K):=by subst hK;exact Bi.imp λ_ _ _ ⟨p,ys,e,h,q⟩=>⟨p,ys,e,h,q⟩
theorem Gh(hK:X.K=K:=by rfl):Yx X (.type "list") (Zp0 K):=by subst hK;exact Bh.imp λ_ _ _ ⟨p,ys,e,h,q⟩=>⟨p,ys,e,h,q⟩
theorem Yv(hK:X.K=K:=by rfl):Yx X (.type "tuple") (Ztb K):=by subst hK;exact Fn.imp λ_ _ _ ⟨p,ys,e,h⟩=>⟨p,ys,e,h⟩
theorem Lg(hc:X.calm=true:=by rfl)(hK:X.K=K:=by rfl):Yx X (.builtin "all") (Zto K):=by subst hK;exact(Zaw hc).imp λ_ _ _ ⟨p,bs,e,h,q⟩=>⟨p,bs,e,h,q⟩
theorem Zgx(hc:X.calm=true:=by rfl)(hK:X.K=K:=by rfl):Yx X (.builtin "any") (Ztn K):=by subst hK;exact(Zav hc).imp λ_ _ _ ⟨p,bs,e,h,q⟩=>⟨p,bs,e,h,q⟩
theorem Zcv(hK:X.K=K:=by rfl):Yx X (.builtin "sorted") (Zio K):=by subst hK;exact Kk
theorem N6(hK:X.K=K:=by rfl):Yx X (.builtin "isinstance") (rIs K):=by subst hK;exact Zm7
theorem Qi(hK:X.K=K:=by rfl):OpR X (compareOp .In) (rIn K false):=by subst hK;exact Zfs
theorem Pj(hK:X.K=K:=by rfl):OpR X (compareOp .NotIn) (rIn K true):=by subst hK;exact Cr
theorem Ap(hK:X.K=K:=by rfl):OpR X (binaryOp .Add) (Zoh K):=by subst hK;exact Zmb
theorem B2(hK:X.K=K:=by rfl):SlR X (Ztd K):=by subst hK;exact Zlt
theorem Ks(hK:X.K=K:=by rfl):SlR X (Ztc K):=by subst hK;exact Zpr
theorem A3(hK:X.K=K:=by rfl):MtR X "str.join" (rJoin K):=by subst hK;exact Zmh
theorem Xg(hl:PE X l tl)(hK:X.K=K:=by rfl):PI X tg l (Zos K tl):=by subst hK;exact Zl1 hl
theorem Nq(hl:PE X l tl)(hK:X.K=K:=by rfl):PI X tg l (Zuf K tl):=by subst hK;exact Zp7 hl
theorem Vf{k:Nat}{t:TGs}{pos:Pos}(hc:X.calm=true)(h:PGs X es t)(hK:X.K=K:=by rfl)
  (hn:(assignEach es X.env).length=n:=by rfl) (y0:(assignEach es X.env).findIdx? (·.1)=none:=by rfl):PG X (.Tuple es k pos) (Zgf K n t):=by subst hK;exact Zp8 hc h hn y0
theorem Zl7{o:Expr}{id:String}{r:V→List V→Hp→VK→Prop}(pa:PlainAttrs T)(slot:Slot T name id)(b9:typeOf (.builtin id)=pure (.type "method_descriptor"))(hm:MtR X id r)(ho:PE X o to)(hK:X.K=K:=by rfl)
  (Hl:attributeBase o name X.env (eval o X.env)=eval o X.env:=by rfl) (Lu:(apos.endLine==Xy.line)=true:=by rfl):PE X (.Call (.Attribute o name apos) [] [] Xy) (Zsw K T r to):=by subst hK;exact Zqa pa slot b9 hm ho Hl Lu
theorem X5{o:Expr}{t:TA}{id:String}{r:V→List V→Hp→VK→Prop}(pa:PlainAttrs T)(slot:Slot T name id)(b9:typeOf (.builtin id)=pure (.type "method_descriptor"))(hm:MtR X id r)(ho:PE X o to)
  (ha:PA X (e :: es) t) (hK:X.K=K:=by rfl) (Hl:attributeBase o name X.env (eval o X.env)=eval o X.env:=by rfl)
  (Zrg:((backTo Xy (starEach (e :: es) X.env)).all (λx=>!x.1)&&(backToKw Xy (keywordEach [] X.env)).all (λx=>x.1.isSome)
   && decide ((e :: es).length+([]:List Keyword).length+(if ([]:List Keyword).isEmpty then 0 else 1)<30))=true:=by rfl)
  (Lu:(apos.endLine==Xy.line)=true:=by rfl) (hs:starEach (e :: es) X.env=(false,eval e X.env) :: starEach es X.env:=by rfl) (Zcn:(backTo Xy (starEach es X.env)).any (·.1)=false:=by rfl) :
  PE X (.Call (.Attribute o name apos) (e :: es) [] Xy) (tBM K T r to t):=by subst hK;exact Ztu pa slot b9 hm ho ha Hl Zrg Lu hs Zcn
end
theorem Zic(lo hi:VN)(n:Nat):Builtin.Str.strSliceIndices lo hi 1 n=(List.range (HT.sIx n n hi-HT.sIx n 0 lo)).map (HT.sIx n 0 lo + ·):=by
 obtain⟨h1,h2,h3⟩:=Nh lo hi n
 have e:Builtin.Str.strSliceIndices lo hi 1 n=sliceRange (sliceBounds lo hi none n).1 (sliceBounds lo hi none n).2.1 (sliceBounds lo hi none n).2.2:=by
  cases lo<;>cases hi<;>rfl
 rw[e,h1,h2,h3,sliceRange_one]
theorem slice_list(z:Str)(lo hi:VN):(Txt.slice z lo hi).cps.toList=(z.cps.toList.drop (HT.sIx z.length 0 lo)).take (HT.sIx z.length z.length hi-HT.sIx z.length 0 lo):=by
 unfold Txt.slice;rw[Zic]
 by_cases hc:((1:Int)==1&&((List.range (HT.sIx z.length z.length hi-HT.sIx z.length 0 lo)).map (HT.sIx z.length 0 lo + ·)).length==z.length)=true
 ·rw[if_pos hc];simp only[lJ,rW,dS,beq_iff_eq,true_and]at hc;have h1:=HT.Zbt z.length 0 (lB _) lo;have h2:=HT.Zbt z.length z.length (rX _) hi;have hl:z.cps.toList.length=z.length:=by simp[Str.length]
  by_cases h0:z.length=0
  ·have:z.cps.toList=[]:=oV (by lia);rw[this];simp
  ·have e0:HT.sIx z.length 0 lo=0:=by lia
   rw[e0,XD,cY (by lia)]
 ·rw[if_neg hc];rw[pick_run]
theorem Yw:bootBuiltins "len"=some (.builtin "len"):=by decide +kernel
theorem Pp:bootBuiltins "sorted"=some (.builtin "sorted"):=by decide +kernel
theorem Zc3:bootBuiltins "all"=some (.builtin "all"):=by decide +kernel
theorem Zr1:bootBuiltins "any"=some (.builtin "any"):=by decide +kernel
theorem Y4:bootBuiltins "isinstance"=some (.builtin "isinstance"):=by decide +kernel
theorem Zk8:bootBuiltins "max"=some (.builtin "max"):=by decide +kernel
theorem Zc2:bootBuiltins "min"=some (.builtin "min"):=by decide +kernel
theorem Pq:bootBuiltins "list"=some (.type "list"):=by decide +kernel
theorem Yu:bootBuiltins "tuple"=some (.type "tuple"):=by decide +kernel
theorem Gj:bootBuiltins "int"=some (.type "int"):=by decide +kernel
theorem Zc1:bootBuiltins "str"=some (.type "str"):=by decide +kernel
theorem Bj:bootBuiltins "enumerate"=some (.type "enumerate"):=by decide +kernel
theorem Zk7:bootBuiltins "set"=some (.type "set"):=by decide +kernel
theorem Ze3:bootBuiltins "dict"=some (.type "dict"):=by decide +kernel
theorem Kj{x:V}{Nt:VK}{Nf:Hp→Prop}(h:te (σ.set i (some x)) H Nt):So i x σ H λt4 H4=>Zlo t4 H4 λb H5=>if b=true then te t4 H5 Nt else Nf H5:=by
 show if true=true then te (σ.set i (some x)) H Nt else Nf H
 exact C5 h
theorem Zd{p:Addr}(h:H p=none)(o:HO):Zt H (upd H p o):=λb u q=>by rw[Zk (Zi q h)];exact q
theorem Xn(h:n≤1000):n≤sizeLine:=cE (Sf h)
def Gx(sc:Addr)(xs:List V):Prop:=∃a b c d:Int,xs=[.ref sc,.int a,.int b,.int c,.int d]∧0≤a∧0≤b∧0≤c∧c<2147483647∧0≤d
structure Yb(H:Hp)(p sc:Addr):Prop where
 here:∃xs,H p=some (.lst xs)∧Gx sc xs
 cells:∃ns:List Int,H sc=some (.lst (ns.map V.int))
theorem Yb.ne{p sc:Addr}(F:Yb H p sc):sc≠p:=by
 obtain⟨xs,h1,a,b,c,d,e,_⟩:=F.here;obtain⟨ns,h2⟩:=F.cells;refine Yt h2 h1 λz=>?_;have z':ns.map V.int=xs:=by injection z
 rw[e]at z'
 cases ns with
 |nil=>cases z'
 |cons n r=>
  rw[lG]at z'
  injection z' with z1
  cases z1
theorem Yb.go{p sc:Addr}(F:Yb H p sc)(h:Gx sc xs):Yb (upd H p (.lst xs)) p sc:=by
 obtain⟨ns,h2⟩:=F.cells;exact⟨⟨xs,Zc,h⟩,ns,by rw[Zk F.ne];exact h2⟩
def Zz(H H':Hp)(p:Addr):Prop:=∀b o,H b=some o→b≠p→H' b=some o
theorem Yb.same{p sc:Addr}(F:Yb H p sc)(e:Zt H H'):Yb H' p sc:=by
 obtain⟨xs,h1,h2⟩:=F.here;obtain⟨ns,h3⟩:=F.cells;exact⟨⟨xs,e _ _ h1,h2⟩,ns,e _ _ h3⟩
theorem Zz.refl(H:Hp)(p:Addr):Zz H H p:=λ_ _ h _=>h
theorem Zz.trans{p:Addr}(a:Zz H H1 p)(b:Zz H1 H2 p):Zz H H2 p:=λc o h n=>b c o (a c o h n) n
theorem Zz.upd{p:Addr}(o:HO):Zz H (upd H p o) p:=λb u h n=>by rw[Zk n];exact h
theorem Zz.same{p:Addr}(h:Zt H H'):Zz H H' p:=λb o e _=>h b o e
inductive Zdt(K:W.Frag)(vs:List V)(H:Hp)(Q:VK):Prop
 |mk(a:Addr)(ns:List Int)(h1:vs=[.ref a])(h2:SqL K H a (ns.map V.int))(h3:∀p sc H',H p=none→Zt H H'→Yb H' p sc→Q (.ref p) H'):Zdt K vs H Q
def Zh5(K:W.Frag):Sp:=λvs H Q _=>Zdt K vs H Q
inductive Zdq(vs:List V)(H:Hp)(Q:VK):Prop
 |mk(p sc:Addr)(m:Int)(h1:vs=[.ref p,.int m])(h2:0<m)(h3:m<1073741824)(h4:Yb H p sc)(h5:∀r xs,0≤r→r<m→Gx sc xs→Q (.int r) (upd H p (.lst xs))):Zdq vs H Q
def V2:Sp:=λvs H Q _=>Zdq vs H Q
def Dz(z:Str)(n:Nat):Prop:=z.cps.toList.length=n∧z.cps.toList.Pairwise (·<·)∧∀c∈z.cps.toList,97≤c∧c≤122
inductive Jo(vs:List V)(H:Hp)(Q:VK):Prop
 |mk(p sc:Addr)(m:Int)(h1:vs=[.ref p,.int m])(h2:0≤m)(h3:m≤26)(h4:Yb H p sc)(h5:∀z H',Dz z m.toNat→Zz H H' p→Yb H' p sc→Q (.str z) H'):Jo vs H Q
def Ed:Sp:=λvs H Q _=>Jo vs H Q
section
variable {X:Cx}{tg:Expr}
end
def tTru(K:W.Frag)(ta:TE):TT:=λσ H Q=>ta σ H λx H'=>∃k,Zr5 K x H' k∧Q k H'
theorem Yr{a:Expr}{ta:TE}(ha:PE X a ta)(he:∀whole,isTrue a X.env whole=(do let v ←whole;standAt a.pos;holding [v] (truthy v)))(hK:X.K=K:=by rfl):PT X a (tTru K ta):=by
 subst hK;exact Zi1 ha he
def Zsf(w:World)(e:Int×Value):Prop:=∃y u,e=(hashStr w y,Value.str y u)
def Fb(e:Int×Value):Str:=strOf e.2
def Vj(w:World)(o:Obj)(D:List Str)(n:Nat):Prop:=
 ∃(es:WM) (ep:Nat) (t:SetTable),o = { cls:=.type "set",dict:=none,data:=.set es ep t }∧(∀e∈es.toList,Zsf w e)∧
  (es.toList.map Fb).Nodup∧(∀y,y∈es.toList.map Fb↔y∈D)∧es.size≤n∧t.fits es.size=true∧t.led = !w.params.followText "set-order"∧(es.size=0∨t.plain=false)
theorem Zf1(t:SetTable)(es:WM)(h:Int)(x:Value):(layNew t es h x).2.1.led=t.led∧(t.plain=false→(layNew t es h x).2.1.plain=false):=by
 unfold layNew
 split
 ·dsimp only;unfold SetTable.orStandIn
  split
  ·exact⟨rfl,λz=>z⟩
  ·exact⟨rfl,λ_=>rfl⟩
 ·exact⟨rfl,λ_=>rfl⟩
theorem B9(t:SetTable)(es:WM)(n:Nat):(relayAll t es n).2.1.led=t.led∧(t.plain=false→(relayAll t es n).2.1.plain=false):=by
 unfold relayAll
 split
 ·rename_i t' order hr
  dsimp only
  split
  ·unfold SetTable.relaid SetTable.laid at hr
   cases hl:SetTable.layClean (SetTable.sizeAbove n-1) (es.map (·.1)) with
   |none=>rw[hl]at hr;cases hr
   |some ow=>
    rw[hl]at hr;have e:=Option.some.inj hr;have e1:t'.led=t.led:=by rw[←(Prod.mk.inj e).1]
    have e2:t'.plain=t.plain:=by rw[←(Prod.mk.inj e).1]
    exact⟨e1,λz=>e2.trans z⟩
  ·exact⟨rfl,λ_=>rfl⟩
 ·exact⟨rfl,λ_=>rfl⟩
section
variable {P:Program}{w:World}{A:Around}{E:XW}{s:Shared}
theorem Zky{es:List (Int×Value)}(h:∀e∈es,Zsf w e):ElemsOf (strKind P w) es:=λe he=>by
 obtain⟨y,u,rfl⟩:=h e he;exact⟨⟨y,by show Value.isStrOf y (.str y u)=true;simp[Value.isStrOf],rfl⟩,rfl⟩
theorem Ud{es t9:WM}{t t':SetTable}{Q:WR}(ho:s.heap.get? a=some { cls:=.type "set",dict:=none,data:=.set es ep t })(hz:t9.size≤4096)
  (h:∀h',Heap.SameBut a s.heap h'→h'.get? a=some { cls:=.type "set",dict:=none,data:=.set t9 (ep+1) t' }→Q () { s with heap:=h' }):wpAny (model P w) A (storeSet a t9 t') Q E s:=by
 refine wpAny_storeSet_of ho rfl (h _ (dU _ _ _) ?_) (lC hz (by rw[sizeLine_eq];lia));have e:=iT (Obj.putSet t9 t') ho (by rw[putSet_of t9 t' rfl];rfl);rw[putSet_of t9 t' rfl]at e;exact e
theorem F4{g:Bool→Sem Unit}(hg:∀(b:Bool) (x3:Shared) (Q':WR),Q' () x3→wpAny (model P w) A (g b) Q' E x3){es es1:WM}{t t2:SetTable}
  (ho:s.heap.get? a=some { cls:=.type "set",dict:=none,data:=.set es ep t }) (hz:es1.size≤4096) (hf:t2.fits es1.size=true) {wd:Bool}{R:Option Bool→Shared→Prop}
  (h:∀h' es2 xC t3,Heap.SameBut a s.heap h'→h'.get? a=some { cls:=.type "set",dict:=none,data:=.set es2 xC t3 }→es2.toList.Perm es1.toList→t3.fits es2.size=true→t3.led=t2.led→(t2.plain=false→t3.plain=false)→
   R (some true) { s with heap:=h' }) :
  wpAny (model P w) A (do
   storeSet a es1 t2
   if (!wd&&t2.tooFull)=true then do
    g (relayAll t2 es1 (SetTable.grown es1.size)).2.2
    storeSet a (relayAll t2 es1 (SetTable.grown es1.size)).1
     (relayAll t2 es1 (SetTable.grown es1.size)).2.1
    pure (some true)
   else pure (some true)) R E s:=by
 refine rS (Ud ho hz λh1 i0 e1=>?_)
 split
 ·have hp:=relayAll_perm t2 es1 (SetTable.grown es1.size);have n5:=relayAll_fits t2 es1 (SetTable.grown es1.size);have sK:=B9 t2 es1 (SetTable.grown es1.size);generalize hRl:relayAll t2 es1 (SetTable.grown es1.size)=Rl at hp n5 sK ⊢;obtain⟨es2,t3,gv⟩:=Rl;dsimp only at hp n5 sK ⊢;have hsz:es2.size=es1.size:=by rw[←oZ,hp.length_eq,oZ]
  refine rS (hg _ _ _ ?_)
  refine rS (Ud (s:={ s with heap:=h1 }) e1 (by rw[hsz];exact hz) λh2 mE e2=>?_);exact rT (h h2 _ _ _ (i0.trans mE) e2 hp n5 sK.1 sK.2)
 ·exact rT (h h1 _ _ _ i0 e1 (bP _) hf rfl λz=>z)
theorem key_is{es:List (Int×Value)}(h:∀e∈es,Zsf w e){e:Int×Value}(he:e∈es)(y:Str):(strKind P w).is y e.2=true↔Fb e=y:=by
 obtain⟨z,u,rfl⟩:=h e he;show Value.isStrOf y (.str z u)=true↔z=y;simp only[Value.isStrOf,beq_iff_eq]
theorem Za2{D:List Str}{Q:VE}(ho:s.heap.get? a=some o)(hS:Vj w o D n)(hb:n+1<4096)(y:Str)(u:Tok)
  (h:∀b h' o',Heap.SameBut a s.heap h'→h'.get? a=some o'→Vj w o' (D++[y]) (n+1)→Q b { s with heap:=h' }):wpAny (model P w) A (setAddHashed a (.str y u) (hashStr w y)) Q E s:=by
 obtain⟨es,ep,t,rfl,yN,gY,Hj,hsz,hf,Ba,y3⟩:=hS;have j6:ElemsOf (strKind P w) es.toList:=Zky yN;have qD:es.size<scanBound:=by show es.size<4096;lia
 have Hk:(strKind P w).is y (.str y u)=true:=by show Value.isStrOf y (.str y u)=true;simp[Value.isStrOf]
 unfold setAddHashed setAddHashedIn;refine lE (rS (cQ ho rfl hf ?_));dsimp only;rw[byScan_of (knd:=strKind P w) (x:=.str y u) rfl qD j6];simp only[↓reduceIte];unfold setAddByScan;refine rS (rS (cA (rS ?_)));refine wpAny_setScan_of (knd:=strKind P w) (k:=y) Hk ho rfl hf j6 ?_
 have yO:∀r,es.toList.findIdx? (λe=>(strKind P w).is y e.2)=r→r.isSome=decide (y∈es.toList.map Fb):=λr hr=>by
  subst hr;rw[lH,decide_eq_true_eq,List.findIdx?_isSome,dM,oU];exact⟨λ⟨e,he,z⟩=>⟨e,he,(key_is (P:=P) yN he y).mp z⟩,λ⟨e,he,z⟩=>⟨e,he,(key_is (P:=P) yN he y).mpr z⟩⟩
 cases hr:es.toList.findIdx? (λe=>(strKind P w).is y e.2) with
 |some j=>
  have w5:y∈es.toList.map Fb:=of_decide_eq_true (yO _ hr).symm;dsimp only;refine rT (rT ?_);refine h _ s.heap _ (Heap.SameBut.refl a s.heap) ho ⟨es,ep,t,rfl,yN,gY,λz=>?_,by lia,hf,Ba,y3⟩;rw[Hj z,oJ,rY];exact⟨.inl,λz=>z.elim id λe=>e▸(Hj y).mp w5⟩
 |none=>
  have Zco:y∉es.toList.map Fb:=λz=>by
   have:=yO _ hr;rw[decide_eq_true z]at this;cases this
  dsimp only;have Qu:=layNew_perm t es (hashStr w y) (.str y u);have Dd:=layNew_fits t es (hashStr w y) (.str y u);have sK:=Zf1 t es (hashStr w y) (.str y u);show wpAny (model P w) A (_ >>= _) _ _ _;have eh:(strKind P w).hash y=hashStr w y:=rfl;generalize hL:layNew t es (hashStr w y) (.str y u)=L at Qu Dd sK ⊢;obtain⟨es1,t1,wd,gv⟩:=L;dsimp only at Qu Dd sK ⊢;rw[aG]at Qu;have hsz1:es1.size=es.size+1:=by rw[←oZ,Qu.length_eq,oB,oZ];rfl
  have qP:∀(b:Bool) (x3:Shared) (Q':WR),Q' () x3→wpAny (model P w) A (match b with|true=>rule "set.scan.the-table-gave-way"|false=>pure ()) Q' E x3:=
   λb x3 Q' hq=>by cases b<;>first|exact rT hq|exact cA hq
  have fin:∀t2:SetTable,t2.led=t1.led→t2.plain=false→t2.fits es1.size=true→∀h' es2 xC t3,Heap.SameBut a s.heap h'→h'.get? a=some { cls:=.type "set",dict:=none,data:=.set es2 xC t3 }→es2.toList.Perm es1.toList→
    t3.fits es2.size=true→t3.led=t2.led→(t2.plain=false→t3.plain=false)→Q true { s with heap:=h' }:=λt2 l2 p2 _ h' es2 xC t3 sb e2 hp f3 l3 p3=>by
   have pm:es2.toList.Perm (es.toList++[(hashStr w y,.str y u)]):=hp.trans Qu
   have pk:(es2.toList.map Fb).Perm (es.toList.map Fb++[y]):=by
    have:=pm.map Fb;rw[oK]at this;exact this
   refine h _ h' _ sb e2 ⟨es2,xC,t3,rfl,λe he=>?_,?_,λz=>?_,?_,f3,?_,.inr (p3 p2)⟩
   ·rcases oJ.mp (pm.mem_iff.mp he) with z|z
    ·exact yN e z
    ·exact⟨y,u,rY.mp z⟩
   ·refine pk.nodup_iff.mpr (cC.mpr ⟨gY,by simp,λa ha b hb=>?_⟩);rw[rY.mp hb];exact λz=>Zco (z▸ha)
   ·rw[pk.mem_iff,oJ,oJ,Hj z]
   ·have:es2.size=es1.size:=by rw[←oZ,hp.length_eq,oZ]
    lia
   ·rw[l3,l2,sK.1,Ba]
  refine rS (qP _ _ _ ?_)
  split
  ·refine rS ?_;rw[hashByValue_scannable 8 (x:=.str y u) rfl];refine rT ?_
   refine F4 qP ho (by lia) (t2:={ t1 with plain:=false }) (SetTable.fits_plain_off Dd) λh' es2 xC t3 sb e2 hp f3 l3 p3=>?_;dsimp only
   exact rT (fin { t1 with plain:=false } rfl rfl (SetTable.fits_plain_off Dd) h' es2 xC t3 sb e2 hp f3 l3 p3)
  ·rename_i hnp
   refine rS (rT ?_);simp only[↓reduceIte];refine F4 qP ho (by lia) Dd λh' es2 xC t3 sb e2 hp f3 l3 p3=>?_;dsimp only;exact rT (fin t1 rfl (by simpa using hnp) Dd h' es2 xC t3 sb e2 hp f3 l3 p3)
theorem Zfz{wr:VB}{G:Array GenState→Array GenState→Prop}{St:UW}(W:WalksS P w A.in1 I fp wr G x.cps.size (SignAt x) St)(S:Addr)(l9:S∉fp)
  (hb:x.cps.size+1<4096):∀(k i:Nat) (s:Shared) (o:Obj),x.cps.size-i=k→i≤x.cps.size→St i s→s.heap.get? S=some o→Vj w o ((x.cps.toList.take i).map λc=>⟨#[c]⟩) i→
   (∀s' o',Moved (S :: wr) G s s'→s'.heap.get? S=some o'→Vj w o' (x.cps.toList.map λc=>⟨#[c]⟩) x.cps.size→R (.ok (.ret .none)) s')→
   codeAny (model P w) A (.builtin "set.update.loop" ⟨[.ref S,.ref I],[]⟩) R s:=by
 have gH:S∉wr:=λh=>l9 (W.sub _ h);have Oa:∀b∈wr,b∈S :: wr:=λb hb=>oO _ hb;intro k
 induction k with
 |zero=>
  intro i s o hk hi y0 ho hS hR;have w5:i=x.cps.size:=by lia
  subst w5;refine iG dY ?_;rw[lV iP _];show wpAny _ A.in1 (pyNext (.ref I) >>= _) _ _ s;refine rS (W.done s _ _ y0 λs' hm=>rT (hR s' o (hm.mono Oa) (hm.heap S _ gH ho) ?_));rw[cY (by simp)]at hS;exact hS
 |succ k ih=>
  intro i s o hk hi y0 ho hS hR;have x5:i<x.cps.size:=by lia
  refine iG dY ?_;rw[lV iP _];show wpAny _ A.in1 (pyNext (.ref I) >>= _) _ _ s;refine rS (W.item i s _ _ x5 y0 λv s' hP Zq6 hm=>?_);obtain⟨c,u,hc,rfl⟩:=hP;show wpAny _ A.in1 (holding [Value.str ⟨#[c]⟩ u] (setAdd S (.str ⟨#[c]⟩ u)) >>= _) _ _ s';unfold setAdd;refine rS (lE (lE (rS ?_)));refine(PySem.strKind P w).pyHash (k:=⟨#[c]⟩) (by show Value.isStrOf ⟨#[c]⟩ (.str ⟨#[c]⟩ u)=true;simp[Value.isStrOf]) ?_
  refine Za2 (s:={ s' with toks:=s'.toks+1 }) (hm.heap S _ gH ho) hS (by lia) ⟨#[c]⟩ u λ_ h' o' b8 e2 yG=>?_
  have jU:Vj w o' ((x.cps.toList.take (i+1)).map λc=>⟨#[c]⟩) (i+1):=by
   have e:x.cps.toList.take (i+1)=x.cps.toList.take i++[c]:=by
    rw[List.take_succ,lA,hc];rfl
   rw[e,oK];exact yG
  refine rT ⟨plainId_quiet iP _,ih (i+1) _ o' (by lia) x5 (W.frame _ s' _ _ Zq6 (dH _) λb hb o e=>?_) e2 jU λxT fT Zrc zO Zrj=>?_⟩
  ·exact(b8.2 b (λz:b=S=>l9 (z▸hb))).trans e
  ·exact hR xT fT (Moved.trans W.gtrans ((hm.mono Oa).then_heap (dH _) λb o hb e=>(b8.2 b (λz:b=S=>hb (by rw[z];exact oE))).trans e) Zrc) zO Zrj
def Yf(w:World):Obj:={ cls:=.type "set",dict:=none,data:=.set #[] 0 (.fresh 0 0 (!w.params.followText "set-order")) }
theorem A1(v:Value){Q₁:XW}(h:Q₁ (.ref s.heap.objs.size) { s with heap:=s.heap.push (Yf w) }):codeAny (model P w) A (.call (.builtin "set.__new__") ⟨[.type "set",v],[]⟩) (wants Q₁ E) s:=by
 refine YR ?_;show wpAny _ A.in1 (do checkBuiltinCall "set.__new__" ⟨[.type "set",v],[]⟩;again (.builtin "set.__new__" ⟨[.type "set",v],[]⟩)) _ _ s;refine rS (ZZ (PySem.F.newCall_set_1 v) (rT ⟨plainId_quiet PySem.F.plain_set_new _,iG PySem.F.entry_set_new ?_⟩));rw[lV PySem.F.plain_set_new _];unfold Builtin.«set.__new__» Builtin.Frozenset.newClass;have Oa:=PySem.sub_set_self;obtain⟨hp,g,d,tk,os⟩:=s;dsimp only
 wp_walk
 refine wpAny_askSetting (rT ?_);dsimp only;simp only[newObj];exact rS (wpAny_alloc (rT (rT h)))
theorem sub_str_set:isSubtype (.type "str") (.type "set")=pure false:=by rw[isSubtype_type];kernel_rfl
theorem sub_str_frozenset:isSubtype (.type "str") (.type "frozenset")=pure false:=by rw[isSubtype_type];kernel_rfl
theorem Zom(w:World):Vj w (Yf w) [] 0:=
 ⟨#[],0,_,rfl,λe he=>by simp at he,by simp,λy=>by simp,rX _,rfl,rfl,.inl rfl⟩
set_option maxHeartbeats 3200000 in
theorem Fp(hh:A.handled=none)(x:Str)(t:Tok)(hb:x.cps.size+1<4096)
  (hQ:∀h' tk o,(∀b o,s.heap.get? b=some o→h'.get? b=some o)→h'.get? s.heap.objs.size=some o→Vj w o (x.cps.toList.map λc=>⟨#[c]⟩) x.cps.size→Q (.ref s.heap.objs.size) { s with heap:=h',toks:=tk }) :
  wpAny (model P w) A (call (.type "set") [.str x t]) Q E s:=by
 obtain⟨c,tl,nH⟩:=lS.mro;have Zuq:=lS.made;have Oa:=lS.sub;refine cX (YR ?_);show wpAny _ _ (callAny (.type "set") _) _ _ _;refine rT ⟨ZH _ (by decide +kernel),iG PySem.F.entry_type_call ?_⟩;rw[Around.under_plain (weight_type_call_type "set" [.str x t] []) rfl];have h1:=lS.notType;have h2:=lS.canCreate;have hct:=PySem.F.typeCall_set_1 (.str x t)
 repeat (any_goals (first|assumption|wp_step))
 refine dP (A1 (.str x t) (E:=E) (Q₁:=λobj x3=>obj=.ref s.heap.objs.size∧x3 = { s with heap:=s.heap.push (Yf w) }) ⟨rfl,rfl⟩) λr x3 hr=>?_
 cases r with
 |error e=>exact hr
 |ok fl=>
  cases fl with
  |ret obj=>
   obtain⟨rfl,rfl⟩:=hr;have hS:(s.heap.push (Yf w)).get? s.heap.objs.size=some (Yf w):=oC _ rfl
   have hT:Shared.TypeIs { s with heap:=s.heap.push (Yf w) } (.ref s.heap.objs.size) "set":=⟨_,hS,rfl⟩;have vQ:=lS.init.lookup;have hbi:=lS.init.bind (.ref s.heap.objs.size)
   repeat (any_goals (first|assumption|wp_step))
   refine dP (aQ (R:=wants (λr y6=>r=.none∧∃h' tk o,y6 = { s with heap:=h',toks:=tk }∧(∀b o,s.heap.get? b=some o→h'.get? b=some o)∧h'.get? s.heap.objs.size=some o∧
    Vj w o (x.cps.toList.map λc=>⟨#[c]⟩) x.cps.size) E) lS.init.plain PySem.F.entry_set_init (check_set_init_1 hT ?_)) λmD y6 u9=>?_
   ·have pA:=sub_str_set;have nZ:=sub_str_frozenset;have x6:(Value.type "str"==Value.type "dict")=false:=by decide
    have hU:(s.heap.push (Yf w)).get? s.heap.objs.size=some { cls:=.type "set",dict:=none,data:=.set #[] 0 (.fresh 0 0 (!w.params.followText "set-order")) }:=hS;unfold Builtin.«set.__init__» noKeywords Builtin.Frozenset.updateFrom;generalize jS:pyIter=PI
    wp_walk
    subst jS;refine wpAny_pyIter_str λoI St W y0=>rS (XF ?_)
    have l9:s.heap.objs.size∉[(s.heap.push (Yf w)).objs.size]:=by
     rw[iJ,rY];exact oY (iU _)
    refine Zfz (W _ (by simp[hh])).toS s.heap.objs.size l9 hb (x.cps.size-0) 0 _ (Yf w) (by lia) (lB _) y0 (rV _ hS) (Zom w) λs' o' hm e' yG=>?_;obtain⟨h',g',d',l8,xA⟩:=s';have eg:g'=s.gens:=hm.gens;have ed:d'=s.drawn:=hm.drawn;have eo:xA=s.os:=hm.os;subst eg;subst ed;subst eo;show wpAny _ _ _ _ _ _;refine rT (rT ⟨rfl,h',l8,o',rfl,λb o e=>?_,e',yG⟩);have lt:=oD e;refine hm.heap b o (λz=>?_) (rV _ (rV _ e))
    rcases oH.mp z with z|z
    ·exact iA _ (z▸lt)
    ·have z2:=rY.mp z;rw[iJ]at z2;have:=z2▸lt;exact iA _ (XO this)
   ·cases mD with
    |error e=>exact u9
    |ok o9=>
     cases o9 with
     |ret r=>
      obtain⟨rfl,h',tk,o,rfl,qU,e',hU⟩:=u9
      repeat (any_goals (first|assumption|wp_step))
      exact hQ h' tk o qU e' hU
     |_=>exact u9.elim
  |_=>exact hr.elim
end
theorem V9:Slot "set_iterator" "__next__" "set_iterator.__next__":=
 .of (owner:="set_iterator") (n:="__next__") (by rw[typeLookup_type,builtinLookup_eq_fast];kernel_rfl) (by decide +kernel) (by decide +kernel) (by decide +kernel) (by first|exact .inl (by decide +kernel)|exact .inr (by decide +kernel)) (by rw[isSubtype_type];kernel_rfl)
theorem Ng:Slot "set_iterator" "__iter__" "set_iterator.__iter__":=
 .of (owner:="set_iterator") (n:="__iter__") (by rw[typeLookup_type,builtinLookup_eq_fast];kernel_rfl) (by decide +kernel) (by decide +kernel) (by decide +kernel) (by first|exact .inl (by decide +kernel)|exact .inr (by decide +kernel)) (by rw[isSubtype_type];kernel_rfl)
theorem Fh:entryFor table "set_iterator.__next__"=some Builtin.«set_iterator.__next__»:=entryFor_of_tree (by kernel_rfl)
theorem Bm(a:Value):argsOk "set_iterator.__next__" ⟨[a],[]⟩:=by unfold argsOk;kernel_rfl
theorem Bn(a:Value):argsOk "set_iterator.__iter__" ⟨[a],[]⟩:=by unfold argsOk;kernel_rfl
theorem Ht:entryFor table "set.__iter__"=some Builtin.«frozenset.__iter__»:=
 entryFor_alias (id':="frozenset.__iter__") (by kernel_rfl) rfl (by decide +kernel) (by kernel_rfl)
theorem Q4{α:Type}:∀(l:List α) (i:Nat) (h:i<l.length),(l[i] :: l.eraseIdx i).Perm l
 |x :: l,0,h=>bP _
 |x :: l,i+1,h=>by
  have:=Q4 l i (by simpa using h);exact(List.Perm.swap _ _ _).trans (List.Perm.cons x this)
theorem Zee{α:Type}(next:Nat→Nat):∀(fuel k:Nat) (left:List α) (out:Array α),left.length=fuel→(pickOrder.go next fuel k left out).toList.Perm (out.toList++left)
 | 0,k,left,out,h=>by
  rw[oV h,lN];exact bP _
 |fuel+1,k,left,out,h=>by
  have x5:next k%left.length<left.length:=Nat.mod_lt _ (by lia)
  unfold pickOrder.go;rw[rZ x5];dsimp only;refine(Zee next fuel (k+1) _ _ (by rw[List.length_eraseIdx,if_pos x5];lia)).trans ?_;rw[aG,iK];refine List.Perm.append_left _ ?_;exact(Q4 _ _ x5)
theorem Zfr{α:Type}(next:Nat→Nat)(xs:Array α):(pickOrder next xs).toList.Perm xs.toList:=by
 have:=Zee next xs.size 0 xs.toList #[] (by simp)
 rw[show (#[]:Array α).toList=[] from rfl,YQ]at this;exact this
section
variable {P:Program}{w:World}{A:Around}{E:XW}{s:Shared}
theorem Zak{α:Type}:∀(n:Nat) (xs:List α) {s:Shared}{Q:List α→Shared→Prop},xs.length=n→(∀ps d',ps.Perm xs→Q ps { s with drawn:=d' })→wpAny (model P w) A (drawOrder n xs) Q E s
 | 0,xs,s,Q,h,hq=>by
  rw[oV h]at hq ⊢;exact rT (hq [] s.drawn (bP _))
 |n+1,[],s,Q,h,hq=>by cases h
 |n+1,x :: xs,s,Q,h,hq=>by
  unfold drawOrder;refine rS ?_;intro Γ p hΓ;show Sem.wp _ _ (Sem.choose .order (x :: xs).length Sem.pure) _ _ _ _;rw[Sem.wp_choose];refine⟨by simp,?_⟩;have x5:=Nat.mod_lt ((model P w).w.draws .order (s.drawn.get .order)) (show 0<(x :: xs).length by simp);generalize ((model P w).w.draws .order (s.drawn.get .order))%(x :: xs).length=i at x5;rw[Sem.wp_pure]
  refine(show wpAny (model P w) A (match (x :: xs)[i]? with|some y=>(do return y :: (←drawOrder n ((x :: xs).eraseIdx i)))|none=>unsupported "internal:drawOrder") Q E { s with drawn:=s.drawn.bump .order } from ?_);rw[rZ x5];dsimp only;refine rS (Zak n _ (by rw[List.length_eraseIdx,if_pos x5];lia) λps d' hp=>rT ?_);exact hq _ _ ((List.Perm.cons _ hp).trans (Q4 _ _ x5))
def Zfl(es:WM)(ep:Nat)(t:SetTable):Obj:={ cls:=.type "set",dict:=none,data:=.set es ep t }
def itO(f:Value)(i:Nat)(S:Addr)(n ep:Nat):Obj:={ cls:=.type "set_iterator",data:=.fields #[f,.int i 0,.ref S,.int n 0,.int ep 0] }
def ItT(w:World)(I S T:Addr)(es:WM)(ep:Nat)(t:SetTable)(vs:WC)(i:Nat)(h:Heap):Prop:=
 h.get? S=some (Zfl es ep t)∧(
  (w.params.followText "set-order"=true∧vs=(pickOrder (w.params.setOrder S ep) es).toList.map (·.2)∧h.get? I=some (itO (.int 0 0) i S es.size ep))∨
  (w.params.followText "set-order"=false∧es.size≤1∧vs=es.toList.map (·.2)∧∃k:Nat,h.get? I=some (itO (.int k 0) i S es.size ep)∧SetTable.below t.place k=i)∨
  (w.params.followText "set-order"=false∧∃ps:List Nat,vs=ps.map (λp=>((es[p]?).map (·.2)).getD .none)∧(∀p∈ps,p<es.size)∧h.get? I=some (itO (.ref T) i S es.size ep)∧
   h.get? T=some { cls:=.type "tuple",data:=.seq (ps.map λ(p:Nat)=>Value.int p 0).toArray }))
theorem V0{f v:Value}{j:Nat}{S:Addr}{n ep:Nat}{Q:WR}(ho:s.heap.get? a=some (itO f j S n ep))(hi:i<5)
  (h:∀h',Heap.SameBut a s.heap h'→h'.get? a=some { cls:=.type "set_iterator",data:=.fields ((#[f,.int j 0,.ref S,.int n 0,.int ep 0]:Array Value).setIfInBounds i v) }→Q () { s with heap:=h' }) :
  wpAny (model P w) A (setField (.ref a) i v) Q E s:=
 bB (cls:=.type "set_iterator") (vs:=#[f,.int j 0,.ref S,.int n 0,.int ep 0]) ho hi λh' e sb=>h h' sb e
theorem Zbu{Q:WX}{Q0:Fin→Shared→Prop}(hh:A.handled=none)(hQ:∀h',(∀b o,s.heap.get? b=some o→h'.get? b=some o)→Q none { s with heap:=h' }):
  wpAny (model P w) A (do raiseNew (←newExc (.type "StopIteration") [])) Q0 (λe s'=>wpAny (model P w) A (do if ←isInstance e (.type "StopIteration") then pure none else throw e) Q E s') s:=by
 refine rS ?_;simp only[newExc,newTuple];refine rS (lQ ?_ (by size_fits));refine rS (m:=firstArgMember _ _) (ZZ (a:=Value.none) (by first|rfl|(simp only[firstArgMember];rfl)) ?_);refine lQ ?_ (by size_fits);simp only[raiseNew];refine rS (wpAny_handled ?_);rw[hh];refine rS (rT (wpAny_throw ?_));refine rS (cG (T:="StopIteration") (b:=true) ⟨_,oC _ rfl,rfl⟩ isSubtype_stop ?_);exact rT (hQ _ λb o e=>rV _ (rV _ e))
theorem K0{Q:VE}(h:Q (w.params.followText "set-order") s):wpAny (model P w) A setsByText Q E s:=by
 unfold setsByText;exact rS (wpAny_askSetting (rT h))
theorem F3{S:Addr}{f v:Value}{nx:Nat}{Q:WX}{E0:XW}(hI:s.heap.get? I=some (itO f i S n ep))
  (hQ:∀h',(∀b,b≠I→h'.get? b=s.heap.get? b)→h'.get? I=some (itO (.int nx 0) (i+1) S n ep)→Q (some v) { s with heap:=h' }) :
  wpAny (model P w) A.in1 (do setField (.ref I) 0 (rawInt nx);setField (.ref I) 1 (rawInt (i+1));ret v) (λfin s'=>∃v,fin=Fin.done (Flow.ret v)∧wpAny (model P w) A (pure (some v)) Q E s') E0 s:=by
 refine rS (V0 hI (by lia) λh1 i0 e1=>?_)
 refine rS (V0 (s:={ s with heap:=h1 }) (f:=.int nx 0) e1 (by lia) λh2 mE e2=>?_);exact rT ⟨v,rfl,rT (hQ h2 (λb hb=>(mE.2 b hb).trans (i0.2 b hb)) e2)⟩
theorem Zgy{pl:VM}(h:pl.size=1)(e:pl[0]?=some j):SetTable.below pl (j+1)=1:=by
 obtain⟨l⟩:=pl
 match l,h with
 |[z],_=>
  have:z=j:=by simpa using e
  subst this;simp[SetTable.below,SetTable.below.go]
theorem Zc4(pl:VM):SetTable.below pl 0=0:=by
 have:∀fuel hi,SetTable.below.go pl 0 fuel 0 hi=0:=λfuel=>by
  induction fuel with
  |zero=>intro hi;rfl
  |succ n ih=>
   intro hi;unfold SetTable.below.go
   split
   ·dsimp only;rw[if_neg (YS _)];exact ih _
   ·rfl
 exact this _ _
theorem Zqr{Q:WR}{t:SetTable}{es:WM}(h:t.led=true)(q:Q () s):wpAny (model P w) A (if (!t.led && !es.isEmpty)=true then unsupported "set:maker-not-led" else pure ()) Q E s:=by
 rw[h];exact rT q
theorem En{S T:Addr}{es:WM}{t:SetTable}{Q:WX}(mV:S≠I)(vJ:T≠I)(y0:ItT w I S T es ep t vs i s.heap)(hh:A.handled=none)
  (hf:t.fits es.size=true) (Ba:t.led = !w.params.followText "set-order") (hi:i≤vs.length)
  (hQ:∀v h',vs[i]?=some v→(∀b,b≠I→h'.get? b=s.heap.get? b)→ItT w I S T es ep t vs (i+1) h'→Q (some v) { s with heap:=h' })
  (hN:vs[i]?=none→∀h',(∀b o,b≠I→s.heap.get? b=some o→h'.get? b=some o)→Q none { s with heap:=h' }):wpAny (model P w) A (pyNext (.ref I)) Q E s:=by
 obtain⟨hS,hm⟩:=y0
 have hI:∃f,s.heap.get? I=some (itO f i S es.size ep):=by
  rcases hm with ⟨_,_,e⟩|⟨_,_,_,k,e,_⟩|⟨_,ps,_,_,e,_⟩<;>exact⟨_,e⟩
 obtain⟨f,hI⟩:=hI;have hT:s.TypeIs (.ref I) "set_iterator":=⟨_,hI,rfl⟩
 have stop:∀(s1:Shared) (Q0:Fin→Shared→Prop) (f1:Value),(∀b o,b≠I→s.heap.get? b=some o→s1.heap.get? b=some o)→s1 = { s with heap:=s1.heap }→s1.heap.get? I=some (itO f1 i S es.size ep)→vs[i]?=none→
   wpAny (model P w) A.in1 (do setField (.ref I) 2 .none;raiseNew (←newExc (.type "StopIteration") [])) Q0 (λe s'=>wpAny (model P w) A (do if ←isInstance e (.type "StopIteration") then pure none else throw e) Q E s') s1:=λs1 Q0 f1 k e1 eI en=>by
  refine rS (V0 eI (by lia) λh2 mE _=>?_)
  refine Zbu (A:=A.in1) hh (s:={ s1 with heap:=h2 }) (Q:=Q) (λh3 k3=>?_) |> λz=>iD z (λ_ _ q=>q) λe s' q=>wpAny_of_in1 q
  have:=hN en h3 λb o hb e=>k3 b o ((mE.2 b hb).trans (k b o hb e));rw[e1];exact this
 have y3:t.place.size=es.size:=by
  have:=hf;simp only[SetTable.fits,lJ,beq_iff_eq]at this;exact this.1
 unfold pyNext;refine rS (bI (dD (name:=Str.ofString "__next__") hT V9 (iF V9 hT Fh ?_ (Bm _))));unfold Builtin.«set_iterator.__next__»;refine rS (m:=slotArgs "__next__" 0 _) (rT (rS ?_));refine ZO hI rfl ?_;show wpAny (model P w) _ (do if ((←setEntries S).size:Int) != (es.size:Int) then _ else _) _ _ _;refine rS (wpAny_setEntries_of hS rfl hf ?_);rw[if_neg (by simp)]
 rcases hm with ⟨hb,rfl,gE⟩|⟨hb,h1,rfl,k,gE,hk⟩|⟨hb,ps,rfl,sM,gE,hT'⟩
 ·cases hI.symm.trans gE;show wpAny (model P w) _ (setNext S 0 i ep >>= _) _ _ _;unfold setNext;refine rS (rS (cQ hS rfl hf ?_));refine rS (K0 ?_);rw[hb];simp only[if_true];rw[if_neg (by simp)];refine rS ?_;unfold setWalk;refine rS (cQ hS rfl hf (rS (K0 ?_)));rw[hb];simp only[if_true];refine rS (wpAny_askSetting (rT (rT ?_)))
  show wpAny (model P w) A.in1 (match ((pickOrder (w.params.setOrder S ep) es)[i]?).map (λe=>(e.2,0)) with|some (x,next)=>_|none=>_) _ _ _
  cases hv:(pickOrder (w.params.setOrder S ep) es)[i]? with
  |none=>
   refine stop s _ _ (λb o _ e=>e) rfl hI ?_;rw[oP,lA,hv];rfl
  |some e=>
   have u6:((pickOrder (w.params.setOrder S ep) es).toList.map (·.2))[i]?=some e.2:=by
    rw[oP,lA,hv];rfl
   exact F3 (nx:=0) hI λh' k e1=>hQ _ h' u6 k ⟨(k S mV).trans hS,.inl ⟨hb,rfl,e1⟩⟩
 ·cases hI.symm.trans gE;show wpAny (model P w) _ (setNext S k i ep >>= _) _ _ _;unfold setNext;refine rS (rS (cQ hS rfl hf ?_));refine rS (K0 ?_);rw[hb];simp only[iY,if_false];refine bH (λhd=>?_) (λ_=>?_)
  ·have hZ:(!t.plain&&decide (es.size>1))=true:=hd;simp only[lJ,decide_eq_true_eq]at hZ;lia
  ·refine rS (Zqr (by rw[Ba,hb];rfl) (rT ?_));rw[hk]
   cases hv:es[i]? with
   |none=>
    refine stop s _ _ (λb o _ e=>e) rfl hI ?_;rw[oP,lA,hv];rfl
   |some e=>
    have x5:i<es.size:=by
     rcases aK i es.size with z|z
     ·exact z
     ·rw[Array.getElem?_eq_none z]at hv;cases hv
    have hi0:i=0:=by lia
    subst hi0
    have u6:(es.toList.map (·.2))[0]?=some e.2:=by
     rw[oP,lA,hv];rfl
    have hj:t.place[0]?=some (t.place[0]'(by lia)):=bM (by lia);rw[hj];obtain⟨eh,ev⟩:=e;exact F3 (nx:=t.place[0]'(by lia)+1) hI λh' k e1=>hQ _ h' u6 k ⟨(k S mV).trans hS,.inr (.inl ⟨hb,h1,rfl,_,e1,Zgy (by lia) hj⟩)⟩
 ·cases hI.symm.trans gE;show wpAny (model P w) A.in1 (seqItems? (.ref T) >>= _) _ _ _;unfold seqItems?;refine rS (rS (wpAny_load hT' (rT ?_)))
  show wpAny (model P w) A.in1 (match ((ps.map λ(p:Nat)=>Value.int p 0).toArray)[i]? with|some (.int place _)=>_|some _=>_|none=>_) _ _ _
  cases hv:ps[i]? with
  |none=>
   have e0:((ps.map λ(p:Nat)=>Value.int p 0).toArray)[i]?=none:=by
    rw[List.getElem?_toArray,oP,hv];rfl
   rw[e0];refine rS (V0 hI (by lia) λh1 i0 e1=>?_)
   refine stop { s with heap:=h1 } _ (rawInt 0) (λb o hb e=>(i0.2 b hb).trans e) rfl e1 ?_;rw[oP,hv];rfl
  |some p=>
   have e0:((ps.map λ(p:Nat)=>Value.int p 0).toArray)[i]?=some (Value.int p 0):=by
    rw[List.getElem?_toArray,oP,hv];rfl
   rw[e0];have hp:=sM p (oM hv);have he:es[p]?=some es[p]:=bM hp;show wpAny (model P w) A.in1 (setNextDrawn S p ep >>= _) _ _ _;unfold setNextDrawn;refine rS (rS (cQ hS rfl hf ?_));dsimp only;rw[if_neg (by simp)];rw[he];generalize vO:es[p]=e2 at he;obtain⟨eh,ev⟩:=e2
   have u6:(ps.map λp=>((es[p]?).map (·.2)).getD .none)[i]?=some ev:=by
    rw[oP,hv];show some (((es[p]?).map (·.2)).getD .none)=_;rw[he];rfl
   refine rT (rS (V0 hI (by lia) λh1 i0 e1=>?_));exact rT ⟨ev,rfl,rT (hQ ev h1 u6 (λb hb=>i0.2 b hb) ⟨(i0.2 S mV).trans hS,.inr (.inr ⟨hb,ps,rfl,sM,e1,(i0.2 T vJ).trans hT'⟩)⟩)⟩
theorem Zf7{S:Addr}{es:WM}{t:SetTable}(hS:s.heap.get? S=some (Zfl es ep t))(hf:t.fits es.size=true)(hp:es.size=0∨t.plain=false)(hz:es.size≤4096)
  (hQ:∀I T vs h' d',(∀b o,s.heap.get? b=some o→h'.get? b=some o)→s.heap.objs.size≤I→s.heap.objs.size≤T→T≠I→vs.Perm (es.toList.map (·.2))→ItT w I S T es ep t vs 0 h'→Q (.ref I) { s with heap:=h',drawn:=d' }) :
  wpAny (model P w) A (pyIter (.ref S)) Q E s:=by
 have hT:s.TypeIs (.ref S) "set":=⟨_,hS,rfl⟩;refine XQ hT PySem.F.slot_set_iter (iF PySem.F.slot_set_iter hT Ht ?_ (PySem.F.args_set_iter_1 _));unfold Builtin.«frozenset.__iter__» Builtin.Frozenset.slot0;refine rS (rS (m:=slotArgs "__iter__" 0 _) (rT (rT ?_)));unfold Builtin.Frozenset.sizeOf;refine rS (rS (wpAny_setEntries_of hS rfl hf (rT ?_)));refine rS ?_;unfold setDrawn;refine rS (cQ hS rfl hf (rS (K0 (rT ?_))))
 have fin:∀(s1:Shared) (f:Value),s1.heap.get? S=some (Zfl es ep t)→(∀h',(∀b o,s1.heap.get? b=some o→h'.get? b=some o)→h'.get? s1.heap.objs.size=some (itO f 0 S es.size ep)→Q (.ref s1.heap.objs.size) { s1 with heap:=h' })→
   wpAny (model P w) A.in1 (do ret (←newFields "set_iterator" [f,rawInt 0,.ref S,rawInt es.size,rawInt (←setEpoch S)])) (λfin s'=>∃v,fin=.done (.ret v)∧∃T' r,s'.TypeIs v T'∧typeLookup (.type T') "__next__"=pure (some r)∧Q v s') E s1:=λs1 f e1 q=>by
  refine rS (wpAny_setEpoch_of e1 rfl hf ?_);refine rS (lQ ?_ (by size_fits));refine rT ⟨_,rfl,"set_iterator",_,⟨_,oC _ rfl,rfl⟩,V9.lookup,?_⟩;exact q _ (λb o e=>rV _ e) (oC _ rfl)
 have lt:=oD hS
 cases hb:w.params.followText "set-order" with
 |true=>
  dsimp only;refine bH (λhd=>nomatch (show false=true from hd)) (λ_=>rS (rT ?_));refine fin s (rawInt 0) hS λh' k e=>?_;exact hQ _ (s.heap.objs.size+1) _ h' s.drawn k (rX _) (dH _) (YD _) ((Zfr _ es).map _) ⟨k _ _ hS,.inl ⟨hb,rfl,e⟩⟩
 |false=>
  by_cases h1:es.size≤1
  ·dsimp only;refine bH (λhd=>?_) (λ_=>rS (rT ?_))
   ·have hZ:(!t.plain&&decide (es.size>1))=true:=hd;simp only[lJ,decide_eq_true_eq]at hZ;lia
   ·refine fin s (rawInt 0) hS λh' k e=>?_;exact hQ _ (s.heap.objs.size+1) _ h' s.drawn k (rX _) (dH _) (YD _) (bP _) ⟨k _ _ hS,.inr (.inl ⟨hb,h1,rfl,0,e,Zc4 _⟩)⟩
  ·dsimp only;refine bH (λ_=>?_) (λhd=>absurd (show (!t.plain&&decide (es.size>1))=true from ?_) hd)
   ·refine rS (Zak es.size (List.range es.size) dS λps d' sM=>?_);have hl:(ps.map λ(i:Nat)=>rawInt i).length=es.size:=by rw[rW,sM.length_eq,dS]
    refine rS (wpAny_newTuple ?_ (by rw[hl,sizeLine_eq];lia));have e1:(s.heap.push { cls:=.type "tuple",data:=.seq (ps.map λ(i:Nat)=>rawInt i).toArray }).get? S=some (Zfl es ep t):=rV _ hS;refine fin _ (.ref s.heap.objs.size) e1 λh' k e=>?_;have sz:(s.heap.push { cls:=.type "tuple",data:=.seq (ps.map λ(i:Nat)=>rawInt i).toArray }).objs.size=s.heap.objs.size+1:=iJ _ _
    refine hQ _ s.heap.objs.size (ps.map λp=>((es[p]?).map (·.2)).getD .none) h' d' (λb o e=>k b o (rV _ e)) (by rw[sz];exact dH _) (rX _) (by rw[sz];exact oY (iU _)) ?_
     ⟨k _ _ e1,.inr (.inr ⟨hb,ps,rfl,λp hp=>lZ.mp (sM.mem_iff.mp hp),e,k _ _ (oC _ rfl)⟩)⟩
    refine(sM.map _).trans (List.Perm.of_eq ?_);refine List.ext_getElem (by simp) λi h1 h2=>?_;have x5:i<es.size:=by simpa using h1
    simp[x5]
   ·rcases hp with z|z
    ·lia
    ·rw[z];exact decide_eq_true (by lia)
theorem Fi:entryFor table "set_iterator.__iter__"=some Builtin.«dict_keyiterator.__iter__»:=
 entryFor_alias (id':="dict_keyiterator.__iter__") (by kernel_rfl) rfl (by decide +kernel) (by kernel_rfl)
theorem ItT.at{S T:Addr}{es:WM}{t:SetTable}(x:ItT w I S T es ep t vs i h)(k:∀b,b=I∨b=S∨b=T→∀o,h.get? b=some o→h'.get? b=some o):ItT w I S T es ep t vs i h':=by
 obtain⟨hS,hm⟩:=x;refine⟨k S (.inr (.inl rfl)) _ hS,?_⟩
 rcases hm with ⟨hb,e,hI⟩|⟨hb,h1,e,j,hI,hk⟩|⟨hb,ps,e,sM,hI,hT⟩
 ·exact .inl ⟨hb,e,k I (.inl rfl) _ hI⟩
 ·exact .inr (.inl ⟨hb,h1,e,j,k I (.inl rfl) _ hI,hk⟩)
 ·exact .inr (.inr ⟨hb,ps,e,sM,k I (.inl rfl) _ hI,k T (.inr (.inr rfl)) _ hT⟩)
theorem Zbf{S T:Addr}{es:WM}{t:SetTable}(hh:A.handled=none)(mV:S≠I)(vJ:T≠I)(hf:t.fits es.size=true)(Ba:t.led = !w.params.followText "set-order"):
  Walks P w A I [I,S,T] [I] vs.length (λi v=>vs[i]?=some v) (λi h=>ItT w I S T es ep t vs i h) where
 sub:=λb hb=>by simp at hb;simp[hb]
 frame:=λi h h' st k=>ItT.at st λb hb o e=>k b (by rcases hb with z|z|z<;>simp[z]) o e
 item:=λi s Q E hi st hQ=>En mV vJ st hh hf Ba (cE hi) (λv h' hv k t7=>hQ v h' s.toks hv t7 λb o hb e=>(k b (λz=>hb (by simp[z]))).trans e) λhn=>by
  rw[rZ hi]at hn;cases hn
 done:=λs Q E st hQ=>En mV vJ st hh hf Ba (rX _) (λv h' hv=>by simp at hv) λ_ h' k=>hQ h' s.toks λb o hb e=>k b o (λz=>hb (by simp[z])) e
 self:=λi s Q E st h=>by
  have hI:∃f,s.heap.get? I=some (itO f i S es.size ep):=by
   rcases st.2 with ⟨_,_,e⟩|⟨_,_,_,k,e,_⟩|⟨_,ps,_,_,e,_⟩<;>exact⟨_,e⟩
  obtain⟨f,hI⟩:=hI;have hT:s.TypeIs (.ref I) "set_iterator":=⟨_,hI,rfl⟩;refine XQ hT Ng (iF Ng hT Fi ?_ (Bn _));show wpAny _ _ (ret (.ref I)) _ _ s;exact rT ⟨_,rfl,"set_iterator",_,hT,V9.lookup,h⟩
theorem Zga{r:Addr}{Q:VE}(hT:s.TypeIs (.ref r) "set")(h:Q false s):wpAny (model P w) A (Builtin.List.listLengthHint (.ref r)) Q E s:=by
 unfold Builtin.List.listLengthHint;refine rS (aC hT PySem.F.slot_set_len.lookup ?_);generalize hid:("set.__len__" : String)=id0
 wp_delta
 rw[show splitId id0=some ("set","__len__") from by subst hid;decide +kernel];subst hid;refine rS (cG (T:="set") (b:=true) hT sub_set_self ?_);refine bH (λz=>absurd z (by decide)) (λ_=>bH (λ_=>?_) (λz=>absurd (by decide +kernel) z));exact rS (YL hT (rT h))
theorem Be{S:Addr}{D:List Str}{Q:UI}(hh:A.handled=none)(hS:s.heap.get? S=some o)(hX:Vj w o D n)(hn:n≤4000)
  (hQ:∀(vs:WC) (ys:List Str) (h':Heap) tk d',s.heap.objs.size≤h'.objs.size→StrsAre vs ys→ys.Nodup→(∀y,y∈ys↔y∈D)→ys.length≤n→(∀b o,s.heap.get? b=some o→h'.get? b=some o)→Q vs { s with heap:=h',toks:=tk,drawn:=d' }) :
  wpAny (model P w) A (collect (.ref S)) Q E s:=by
 obtain⟨es,ep,t,rfl,yN,gY,Hj,hsz,hf,Ba,y3⟩:=hX;have lt:=oD hS;unfold collect;refine rS (XF (iG PySem.F.entry_proto_collect ?_));rw[lV PySem.F.plain_proto_collect _];show wpAny _ A.in1 (newList [] >>= λl=>again (.builtin "list.__iadd__" ⟨[l,.ref S],[]⟩)) _ _ s;refine rS (lQ ?_);refine rT ⟨plainId_quiet bY _,iG PySem.F.entry_list_iadd ?_⟩;rw[lV bY _];show wpAny _ A.in1 (Builtin.List.listExtendWith (.ref s.heap.objs.size) (.ref S) (.ref s.heap.objs.size)) _ _ _;generalize hH:s.heap.push { cls:=.type "list",data:=.seq ([]:List Value).toArray } = H;have hHs:H.objs.size=s.heap.objs.size+1:=by rw[←hH,iJ]
 have hL:H.get? s.heap.objs.size=some { cls:=.type "list",data:=.seq #[] 0 }:=hH▸oC _ rfl;have jT:H.get? S=some (Zfl es ep t):=hH▸rV _ hS;unfold Builtin.List.listExtendWith;refine rS (YL (T:="set") ⟨_,jT,rfl⟩ ?_);have h1:Builtin.List.listSameRef (.ref s.heap.objs.size) (.ref S)=false:=by simp[Builtin.List.listSameRef,iZ lt]
 have h2:(Value.type "set"==Value.type "list")=false:=by decide
 have h3:(Value.type "set"==Value.type "tuple")=false:=by decide
 simp only[h1,h2,h3,Bool.or_false,iY,if_false]
 refine rS (Zf7 (s:={ s with heap:=H }) jT hf y3 (by lia) λI T vs h2 d2 k2 gI gT hTI hvs st=>?_);have zY:s.heap.objs.size+1≤I:=hHs▸gI;have gT':s.heap.objs.size+1≤T:=hHs▸gT;refine rS (lE (Zga ⟨_,k2 _ _ jT,rfl⟩ ?_));have hL2:=k2 _ _ hL
 have l9:s.heap.objs.size∉[I,S,T]:=by
  simp only[oH,iO,or_false,not_or];exact⟨oY (oS (iU _) zY),iZ lt,oY (oS (iU _) gT')⟩
 have hSI:S≠I:=oY (oS (dC lt) zY);have hlen:vs.length=es.size:=by rw[hvs.length_eq,rW,oZ]
 have W:Walks P w A.in1 I [I,S,T] [I] vs.length (λi v=>vs[i]?=some v) (λi h=>ItT w I S T es ep t vs i h):=Zbf (A:=A.in1) hh hSI hTI hf Ba
 have stx:∀us:List Value,us.Perm (es.toList.map (·.2))→∃ys,StrsAre us ys∧ys.Perm (es.toList.map Fb):=λus hp=>by
  refine⟨us.map strOf,strsAre_map us λv hv=>?_,?_⟩
  ·obtain⟨e,he,rfl⟩:=oU.mp (hp.mem_iff.mp hv);obtain⟨y,u,rfl⟩:=yN e he;exact⟨y,u,rfl⟩
  ·have:=hp.map strOf;rw[lW]at this;exact this
 have key:∀(h:Heap) (c tk:Nat),ItT w I S T es ep t vs 0 h→(∀b o,b≠s.heap.objs.size→h2.get? b=some o→h.get? b=some o)→h.get? s.heap.objs.size=some { cls:=.type "list",data:=.seq #[] c }→
   codeAny (model P w) A (.builtin "list.extend.loop" ⟨[.ref s.heap.objs.size,.ref I,.ref s.heap.objs.size],[]⟩)
    (λr s'=>match r with|.ok (.ret v)=>wpAny (model P w) A (match v with|.ref a=>(do match (←load a).data with|.seq xs _=>pure xs.toList|_=>unsupported "internal:collect")|_=>unsupported "internal:collect") Q E s'|.ok _=>False|.error e=>E e s') { s with heap:=h,toks:=tk,drawn:=d2 }:=λh c tk t7 k hL'=>by
  refine codeAny_extend_loopS W.toS (by rw[hlen,sizeLine_eq];lia) _ l9 _ vs.length 0 _ #[] c rfl (lB _) t7 hL' (ItemsOf.nil _) λs' acc c' hm Zux Zmu=>?_;refine rS (wpAny_load Zux ?_)
  have zQ:acc.toList=vs:=by
   refine List.ext_getElem? λi=>?_;rw[lA]
   cases ev:acc[i]? with
   |some v=>exact(Zmu.2 i v ev).symm
   |none=>
    symm
    rw[cJ,←Zmu.1];exact Array.getElem?_eq_none_iff.mp ev
  obtain⟨ys,sy,py⟩:=stx vs hvs;obtain⟨h3,g3,d3,t3,o3⟩:=s';have eg:g3=s.gens:=hm.gens;have ed:d3=d2:=hm.drawn;have eo:o3=s.os:=hm.os;subst eg;subst ed;subst eo;refine rT ?_;rw[zQ];refine hQ vs ys h3 t3 d3 (cE (oD Zux)) sy (py.nodup_iff.mpr gY) (λy=>(py.mem_iff).trans (Hj y)) (by rw[py.length_eq,rW,oZ];exact hsz) λb o e=>?_;have lb:=oD e;refine hm.heap b o (λz=>?_) (k b o (oY lb) (k2 b o (hH▸rV _ e)))
  rcases oH.mp z with z|z
  ·exact iA _ (z▸lb)
  ·have:=rY.mp z;exact iA _ (oS (dC lb) (this▸zY))
 refine bH (λ_=>?_) (λz=>absurd (by decide +kernel) z);refine rS (cA (rS ?_));show wpAny _ _ (updateSeq s.heap.objs.size (·.push .none) >>= λ_=>updateSeq s.heap.objs.size (·.pop)) _ _ _;refine rS (ZD hL2 rfl ?_);have gG:=iT (Obj.mapSeq (·.push Value.none)) hL2 rfl;refine ZD (hz:=by seq_fits) gG rfl ?_;have hL4:=iT (Obj.mapSeq (·.pop)) gG rfl
 have oth:∀b o,b≠s.heap.objs.size→h2.get? b=some o→((h2.update s.heap.objs.size (Obj.mapSeq (·.push Value.none))).update s.heap.objs.size (Obj.mapSeq (·.pop))).get? b=some o:=λb o hb e=>
  (lK _ _ (dA hb)).trans ((lK _ _ (dA hb)).trans e)
 refine rT ⟨plainId_quiet PySem.F.plain_extend_loop _,key _ _ _ (st.at λb hb o e=>oth b o (λz=>l9 (by rw[←z];rcases hb with y|y|y<;>simp[y])) e) oth hL4⟩
end
section
variable {P:Program}{w:World}{A:Around}{E:XW}{s:Shared}
theorem Lp{S:Addr}{D:List Str}(hh:A.handled=none)(hS:s.heap.get? S=some o)(hX:Vj w o D n)(hn:n<64)
  (hQ:∀(a:Addr) (out:WC) (e:Nat) (ys:List Str) h' tk d',ys.length≤n→StrsAre out ys→ys.Nodup→(∀y,y∈ys↔y∈D)→sortedS ys=true→(∀b o,s.heap.get? b=some o→h'.get? b=some o)→s.heap.objs.size≤a→
   h'.get? a=some (seqObj "list" out.toArray e)→Q (.ref a) { s with heap:=h',toks:=tk,drawn:=d' }):wpAny (model P w) A (call (.builtin "sorted") [.ref S]) Q E s:=by
 refine Calls.call_function_entry kind_sorted plain_sorted entry_sorted (args_sorted1 _) ?_;unfold Builtin.«sorted»;refine rS (m:=checkCount "sorted" 1 1 _) (rT ?_);refine rS (Be (A:=A.in1) hh hS hX (by lia) λvs ys h' tk d' le sy nd mem len k=>?_);have hlen:vs.length=ys.length:=by rw[←sy.strs,rW]
 refine rS (XM ?_ (by rw[hlen,sizeLine_eq];lia));have kC:(h'.push (seqObj "list" vs.toArray 0)).get? h'.objs.size=some (seqObj "list" vs.toArray 0):=oC _ rfl
 refine rS (lE (iF slot_list_sort ⟨_,kC,rfl⟩ entry_list_sort (list_sort_treeK (s:={ s with heap:=h'.push (seqObj "list" vs.toArray 0),toks:=tk,drawn:=d' }) strKind_oneLt kC sy.keysOf (λv₁ v₂ rest e=>keyKind_strs (by rw[←e];exact sy)) (by lia) λt7 a1 a2=>⟨_,rfl,?_⟩) (args_list_sort _)));obtain⟨m6,s1,s2,s3⟩:=sorted_out_str sy a1 a2;obtain⟨e,he⟩:=sortedHeap_at (vs:=vs) (out:=(arrOf t7).map (·.2)) (n:=0) kC;refine rT ⟨_,rfl,hQ h'.objs.size ((arrOf t7).map (·.2)).toList e m6 _ tk d' (by rw[s2.length_eq];exact len) s1 (s2.nodup_iff.mpr nd) (λy=>s2.mem_iff.trans (mem y)) s3 (λb o' eb=>?_) le ?_⟩
 ·have lb:=oD (k b o' eb);rw[sortedHeap_old (oY lb) (by rw[size_push'];exact dC lb)];exact rV _ (k b o' eb)
 ·rw[YT];exact he
end
theorem Inv.Zew(I:Inv X pins σ H s)(d:Drawn):Inv X pins σ H { s with drawn:=d }:=
 ⟨I.ok,I.os,I.bare,I.base,I.loc,I.cell,I.free,I.Vk,I.pin,I.hok,I.len⟩
def signs(z:Str):List Str:=z.cps.toList.map λc=>⟨#[c]⟩
def Cc(w:World)(a:Addr)(D:List Str)(n:Nat):HO:=.ext λh=>∃o,h.get? a=some o∧Vj w o D n
def rSet(w:World):List V→Hp→VK→Prop:=λxs H Q=>∃z,xs=[.str z]∧z.length+1<4096∧∀l,H l=none→Q (.ref l) (upd H l (Cc w l (signs z) z.length))
section
variable {X:Cx}
theorem Zcw(hc:X.calm=true):Yx X (.type "set") (rSet X.w):=by
 intro pins s σ H xs us Q I r h;obtain⟨z,rfl,hz,q⟩:=h;obtain⟨u,rfl,t,rfl⟩:=vals1 r;refine Fp (I.ok.hd hc) z t hz λh' tk o k e sx=>?_;exact⟨.ref s.heap.objs.size,_,I.laid k (rX _) (show Z9 X.prog X.w _ h' _ (Cc X.w s.heap.objs.size (signs z) z.length) from⟨⟨o,e,sx⟩,⟨o,e⟩,λh1 h2 ⟨o1,e1,x1⟩ k1=>⟨o1,k1 o1 e1,x1⟩⟩),rfl,q _ (I.hok.fresh (rX _))⟩
inductive Eh(w:World)(xs:List V)(H:Hp)(Q:VK):Prop
 |mk(p D n:_)(h1:xs=[.ref p])(h2:H p=some (Cc w p D n))(h3:n<64)(h4:∀(ys:List Str) l,ys.Nodup→(∀y,y∈ys↔y∈D)→sortedS ys=true→H l=none→Q (.ref l) (upd H l (.lst (ys.map V.str)))):Eh w xs H Q
def Zin(w:World):List V→Hp→VK→Prop:=λxs H Q=>Eh w xs H Q
theorem Bg(hc:X.calm=true):Yx X (.builtin "sorted") (Zin X.w):=by
 intro pins s σ H xs us Q I r h;obtain⟨p,D,n,rfl,hp,hn,q⟩:=h;obtain⟨u,rfl,ru⟩:=vals1 r;cases ru;obtain⟨⟨o,e,sx⟩,_,_⟩:=(show Z9 X.prog X.w H s.heap p (Cc X.w p D n) from I.hok p _ hp);refine Lp (I.ok.hd hc) e sx hn λa out ee ys h' tk d' len sy nd mem so k le ea=>?_;have Zka:H a=none:=I.hok.fresh le;have hlen:out.length=ys.length:=by rw[←sy.strs,rW]
 have Zqq:ys.length≤sizeLine:=by rw[sizeLine_eq];lia
 exact⟨.ref a,_,(I.Zew d').laid (s:={ s with drawn:=d' }) k le (show Z9 X.prog X.w _ h' a (.lst (ys.map V.str)) from⟨by rw[rW];exact Zqq,out,ee,Pc sy,ea⟩),rfl,q ys a nd mem so Zka⟩
end
def C6(c:Nat):List Nat→List Nat
 |[]=>[c]
 |x :: l=>if c<x then c :: x :: l else if c=x then x :: l else x :: C6 c l
theorem Ha(c y:Nat):∀l:List Nat,y∈C6 c l↔y=c∨y∈l
 |[]=>by simp[C6]
 |x :: l=>by
  unfold C6
  split
  ·simp
  ·split
   ·rename_i e
    subst e;simp
   ·rw[oH,Ha c y l,oH];constructor
    ·rintro(a|a|a)
     ·exact .inr (.inl a)
     ·exact .inl a
     ·exact .inr (.inr a)
    ·rintro(a|a|a)
     ·exact .inr (.inl a)
     ·exact .inl a
     ·exact .inr (.inr a)
theorem Eg(c:Nat):∀l:List Nat,l.Pairwise (·<·)→(C6 c l).Pairwise (·<·)
 |[],_=>by simp[C6]
 |x :: l,h=>by
  cases h with
  |cons h1 h2=>
   unfold C6
   split
   ·rename_i hc
    refine List.Pairwise.cons (λy hy=>?_) (List.Pairwise.cons h1 h2)
    rcases oH.mp hy with e|e
    ·lia
    ·have:=h1 y e;lia
   ·split
    ·exact List.Pairwise.cons h1 h2
    ·refine List.Pairwise.cons (λy hy=>?_) (Eg c l h2)
     rcases(Ha c y l).mp hy with e|e
     ·lia
     ·exact h1 y e
def U1(cs:List Nat):List Nat:=cs.foldr C6 []
theorem Qn(y:Nat):∀cs:List Nat,y∈U1 cs↔y∈cs
 |[]=>by simp[U1]
 |c :: cs=>by
  show y∈C6 c (U1 cs)↔_;rw[Ha,Qn y cs,oH]
theorem Sh:∀cs:List Nat,(U1 cs).Pairwise (·<·)
 |[]=>.nil
 |c :: cs=>Eg c _ (Sh cs)
theorem Zdz:∀(a b:List Nat),a.Pairwise (·<·)→b.Pairwise (·<·)→(∀y,y∈a↔y∈b)→a=b
 |[],[],_,_,_=>rfl
 |[],y :: b,_,_,h=>by
  have:=(h y).mpr oE;cases this
 |x :: a,[],_,_,h=>by
  have:=(h x).mp oE;cases this
 |x :: a,y :: b,ha,hb,h=>by
  cases ha with
  |cons j9 xG=>
   cases hb with
   |cons d8 j5=>
    have e:x=y:=by
     rcases oH.mp ((h x).mp oE) with e|e
     ·exact e
     ·rcases oH.mp ((h y).mpr oE) with e2|e2
      ·exact e2.symm
      ·have:=d8 x e;have:=j9 y e2;lia
    subst e;rw[Zdz a b xG j5 λz=>?_];constructor
    ·intro hz
     rcases oH.mp ((h z).mp (oO _ hz)) with e|e
     ·have:=j9 z hz;lia
     ·exact e
    ·intro hz
     rcases oH.mp ((h z).mpr (oO _ hz)) with e|e
     ·have:=d8 z hz;lia
     ·exact e
def Zpc(tk tv:TE):TE:=λσ H Q=>∀p,H p=none→Jd [(tk,tv)] σ (upd H p (.dT [])) λps H2=>∃x y,ps=[(x,y)]∧H2 p=some (.dT [])∧∃b ks,x=.ref b∧H2 b=some (.tup (ks.map kV))∧Q (.ref p) (upd H2 p (.dT [(ks,y)]))
theorem Zjc{pos:Pos}{k v:Expr}{tk:TE}(hu:X.A.units+1<cLine)(hk:PE X k tk)(hv:PE X v tv):PE X (.Dict [some k] [v] pos) (Zpc tk tv):=by
 intro pins s σ H Q I q;have hn:=I.hok.fresh (rX s.heap.objs.size);have I1:=I.laid (a:=s.heap.objs.size) (o:=.dT []) (h':=s.heap.push { cls:=.type "dict",data:=.dict #[] }) (t':=s.toks) (λ_ _ q=>rV _ q) (rX _) (Zaj s.heap I.big);have Ld:([some k]:List (Option Expr)).all (·.isSome)=true:=rfl;have i8:=pairTrees_length [some k] [v] X.env pos Ld rfl;rw[arm_eval_Dict,zip_pairTrees [some k] [v] X.env pos Ld rfl,dictDisplay_pairs _ (λhe=>by rw[he]at i8;cases i8) (by rw[i8];show 1<17;decide)];refine rS (cR (rS ?_));unfold subDict;refine rS (wpAny_alloc (rS (lE ?_)));rw[if_pos (by rw[i8];show 1≤15;decide)];refine rS (iD (J8 hk hv Co pins _ σ _ _ I1 (q _ hn)) (λvs s2 h2=>?_) λ_ _ e=>e);obtain⟨ps,H2,I2,rel,x,y,rfl,e,b,ks,rfl,eb,q2⟩:=h2
 cases rel with
 | @cons a c as cs gL tl=>
  cases tl;obtain⟨u,r⟩:=c;cases (show u=Value.ref b from gL.1);refine lE (rS ?_);rw[cL];obtain⟨z,hd,xs,rl,dd⟩:=Zk0 I2.hok e;cases rl;refine rS (rS (wpAny_dictSet_heap (show X.A.units<cLine by lia) (Qr I2.hok eb) dd λh' p7 hs=>rT ?_));refine rT (rT (rT (rT ?_)));obtain⟨qo,es,ep,hq,h2,h3,h4,_,h5⟩:=p7;refine⟨.ref s.heap.objs.size,_,S9 (ob:=.dT [(ks,y)]) I2 (by rw[e];exact True.intro) hs ⟨qo,hq⟩ ⟨by show 1≤sizeLine;decide,hd,_,.cons ⟨rfl,?_,gL.2⟩ .nil,qo,es,ep,hq,h2,h3,h4,h5⟩,rfl,q2⟩;rw[Zk (Yt eb e (λz=>nomatch z))];exact eb
def eqL:List V→List V→Bool
 |[],[]=>true
 |x :: xs,y :: ys=>eqV x y&&eqL xs ys
 |_,_=>false
theorem K3:∀(xs ys:List V),(((List.range (min xs.length ys.length)).all λj=>eqV (xs.getD j .non) (ys.getD j .non))&&xs.length==ys.length)=eqL xs ys
 |[],[]=>rfl
 |[],y :: ys=>by simp[eqL]
 |x :: xs,[]=>by simp[eqL]
 |x :: xs,y :: ys=>by
  have ih:=K3 xs ys;show _=(eqV x y&&eqL xs ys);rw[←ih,oR,oR,Nat.succ_min_succ,List.range_succ_eq_map,XJ,List.all_map]
  have e1:((λj=>eqV ((x :: xs).getD j .non) ((y :: ys).getD j .non)) ∘ Nat.succ)=λj=>eqV (xs.getD j .non) (ys.getD j .non):=by
   funext j
   rfl
  rw[e1,Bool.and_assoc]
  have e2:(xs.length+1==ys.length+1)=(xs.length==ys.length):=by
   rw[lH,beq_iff_eq,beq_iff_eq];lia
  rw[e2];rfl
theorem Vals.at_:∀{xs:List V}{us:WC}{j:Nat}{u:Value},Vals xs us→us[j]?=some u→∃x,xs[j]?=some x∧RelV x u
 |_,_,j,u,.nil,h=>by simp at h
 |_,_,0,u,.cons r t,h=>by
  cases h;exact⟨_,rfl,r⟩
 |_,_,j+1,u,.cons r t,h=>by
  obtain⟨x,e,r'⟩:=Vals.at_ (j:=j) t (by simpa using h);exact⟨x,by simpa using e,r'⟩
theorem Ic{ws:WC}(r1:Vals xs us)(r2:Vals ys ws)(f1:xs.all Us=true)(f2:ys.all Us=true)(j:Nat)(h1:j<us.toArray.size)(h2:j<ws.toArray.size):
  SeqAt.EqAt A s us.toArray[j] ws.toArray[j] (eqV (xs.getD j .non) (ys.getD j .non)):=by
 have g1:us[j]?=some us.toArray[j]:=by simp at h1 ⊢
 have g2:ws[j]?=some ws.toArray[j]:=by simp at h2 ⊢
 obtain⟨x,e1,q1⟩:=r1.at_ g1;obtain⟨y,e2,q2⟩:=r2.at_ g2;rw[oQ,e1,oQ,e2];exact Zkt q1 q2 (cF.mp f1 x (oM e1)) (cF.mp f2 y (oM e2))
inductive Zoe(K:W.Frag)(neg:Bool)(x:V)(y:V)(H:Hp)(Q:VK):Prop
 |mk(a b xs ys:_)(h1:x=.ref a)(h2:y=.ref b)(h3:((SqL K H a xs∧SqL K H b ys)∨(SqT K H a xs∧SqT K H b ys)))(h4:xs.all Us=true)(h5:ys.all Us=true)(h6:Q (.bl (if neg then !eqL xs ys else eqL xs ys)) H):Zoe K neg x y H Q
def rEqS(K:W.Frag)(neg:Bool):R2:=λx y H Q=>Zoe K neg x y H Q
section
variable {X:Cx}{K:W.Frag}
theorem size_of(r:Vals xs us):us.toArray.size=xs.length:=by
 rw[oF];exact r.length.symm
theorem Bd(h:xs.length≠ys.length):eqL xs ys=false:=by
 rw[←K3,(beq_eq_false_iff_ne).mpr h,XB]
theorem Zag(h:xs.length=ys.length):((List.range xs.length).all λj=>eqV (xs.getD j .non) (ys.getD j .non))=eqL xs ys:=by
 rw[←K3,h,Nat.min_self,beq_self_eq_true,Bool.and_true]
theorem Zji(hu:X.A.units<cLine)(hK:X.K=K:=by rfl):OpR X (compareOp .Eq) (rEqS K false):=by
 subst hK;intro pins s σ H x y v u Q I rx ry h;obtain⟨a,b,xs,ys,rfl,rfl,hq,f1,f2,q⟩:=h;cases rx;cases ry
 rcases hq with ⟨ha,hb⟩|⟨ha,hb⟩
 ·obtain⟨i1,r1,p1,_⟩:=I.list ha;obtain⟨i2,r2,p2,_⟩:=I.list hb
  by_cases hl:xs.length=ys.length
  ·refine SeqAt.eq_listAt p1.isList p2.isList (by rw[size_of r1,size_of r2,hl]) hu (λj h1 h2=>Ic r1 r2 f1 f2 j h1 h2) ⟨.bl _,H,I,rfl,?_⟩;rw[size_of r1,Zag hl];exact q
  ·refine SeqAt.eq_list_lengthsAt p1.isList p2.isList (by rw[size_of r1,size_of r2];exact bne_iff_ne.mpr hl) hu ⟨.bl false,H,I,rfl,?_⟩;rw[←Bd hl];exact q
 ·obtain⟨i1,r1,p1,_⟩:=I.tuple ha;obtain⟨i2,r2,p2,_⟩:=I.tuple hb;refine SeqAt.eq_tupleAt p1 p2 hu (λj h1 h2=>Ic r1 r2 f1 f2 j h1 h2) ⟨.bl _,H,I,rfl,?_⟩;rw[size_of r1,size_of r2,K3];exact q
theorem Qt{k:Nat}(hr:Xi k A):A.units<cLine:=XO (Sn hr)
inductive Zit(K:W.Frag)(xs:List V)(H:Hp)(Q:VK):Prop
 |mk(l:Addr)(ns:List Int)(h1:xs=[.ref l])(h2:SqL K H l (ns.map V.int))(h3:0<ns.length)(h4:∀M,M∈ns→(∀a∈ns,a≤M)→Q (.int M) H):Zit K xs H Q
def Ztg(K:W.Frag):List V→Hp→VK→Prop:=λxs H Q=>Zit K xs H Q
theorem Zgw(hc:X.calm=true)(hK:X.K=K:=by rfl):Yx X (.builtin "max") (Ztg K):=by
 subst hK;intro pins s σ H xs us Q I r h;obtain⟨l,ns,rfl,hl,x6,q⟩:=h;obtain⟨u,rfl,ru⟩:=vals1 r;cases ru;obtain⟨its,r1,p1,_⟩:=I.list hl;have hi:IntsAre its.toArray.toList ns:=intsAre_of r1;obtain⟨ys,e⟩:=hi.allInts.items;have en:ns=ys.toList.map (·.1):=(hi.numsOf.symm.trans (by rw[e])).trans (nums_intItems ys);have el:ns.length=ys.size:=by rw[en,rW];exact oZ
 have p1':=p1.isList;rw[show its.toArray=intItems ys from e]at p1';refine max_intList (I.ok.hd hc) p1' (by lia) λv h' tk hv hk=>?_;obtain⟨t,rfl⟩:=intItems_at hv;have g:=argBest_gt (numAt ys) (ys.size-1);have at_:∀j,numAt ys j=ns.getD j 0:=λj=>by rw[en];exact numAt_eq ..
 refine⟨.int _,H,I.kept hk,⟨_,rfl⟩,q _ (by rw[at_];exact getD_mem (by have:=g.1;lia)) λa ha=>?_⟩;obtain⟨j,hj,rfl⟩:=mem_getD ha;rw[←at_];exact g.2 j (by lia)
end
section
variable {X:Cx}
end
def jl(c:Nat):List WE→List Nat
 |[]=>[]
 |[x]=>x
 |x :: y :: r=>x++c :: jl c (y :: r)
section
variable {X:Cx}{K:W.Frag}
end
section
open PySem.SeqAt
open PySem.AutoSeq1 (wpAny_loadPart')
open PySem.MeetsSeq PySem.MeetsSeq2 PySem.MeetsSeq3
end
section
variable {X:Cx}{K:W.Frag}
end
section
open PySem.W (KasT kas_asc kas_count kas_cmp kas_st kas_item)
def W7(n:Nat)(lt:WU){α:Type}(P:α→Prop):KasT α→Prop
 |.ret a=>P a
 |.ask i j k=>i<n∧j<n∧W7 n lt P (k (lt i j))
theorem W7.imp{n:Nat}{lt:WU}{α:Type}{P P':α→Prop}(g:∀a,P a→P' a):∀{t:KasT α},W7 n lt P t→W7 n lt P' t
 |.ret a,h=>g a h
 |.ask _ _ _,⟨h1,h2,h3⟩=>⟨h1,h2,W7.imp g h3⟩
theorem W7.bind{n:Nat}{lt:WU}{α β:Type}{P:α→Prop}{R:β→Prop}{f:α→KasT β}(g:∀a,P a→W7 n lt R (f a)):∀{t:KasT α},W7 n lt P t→W7 n lt R (t.bind f)
 |.ret a,h=>g a h
 |.ask _ _ _,⟨h1,h2,h3⟩=>⟨h1,h2,W7.bind g h3⟩
theorem W7.wp{n:Nat}{lt:WU}{α:Type}{P:α→Prop}{cmp:Nat→Nat→(Bool→Shared→Prop)→Shared→Prop}{s:Shared}{Q:α→Shared→Prop}
  (hc:∀i j (C:VE),i<n→j<n→C (lt i j) s→cmp i j C s) (q:∀a,P a→Q a s):∀{t:KasT α},W7 n lt P t→t.kasWp cmp Q s
 |.ret a,h=>q a h
 |.ask i j _,⟨h1,h2,h3⟩=>hc i j _ h1 h2 (W7.wp hc q h3)
theorem Ze4{p:VM}{n:Nat}{lt:WU}(hp:∀i,p.getD i 0<n):∀(f m:Nat),(∀t,m≤t→t<m+f→lt (p.getD t 0) (p.getD (t-1) 0)=false)→W7 n lt (λr=>r=m+f) (kas_asc p f m)
 | 0,_,_=>rfl
 |f+1,m,h=>by
  refine⟨hp _,hp _,?_⟩;rw[h m (rX _) (by lia)];show W7 n lt _ (kas_asc p f (m+1));exact(Ze4 hp f (m+1) λt h1 h2=>h t (by lia) (by lia)).imp λa e=>by lia
theorem Ep:∀(f n r:Nat),minRun' f n r≤n+r
 | 0,_,_=>rX _
 |f+1,n,r=>by
  rw[minRun'_succ]
  split
  ·exact rX _
  ·have:=Ep f (n/2) (max r (n%2));lia
theorem Zlv{κ:SortKind}{it:Array Keyed}{Q:Unit→SortSt→Shared→Prop}{G:Array Nat→Shared→Prop}(two:2≤n)
  (fin:∀p st t,p.size=n→arrOf st=p.map (kas_item it)→failedOf st=none→G p t→Q () st t)
  (h:(kas_count n (List.range n).toArray).kasWp (kas_cmp prog w A κ it) (λr t=>r.1=n∧G r.2 t) s):W.kasC (model prog w) A E sortRuns' Q (kas_st κ it (List.range n).toArray) s:=by
 obtain⟨m,rfl⟩:∃m,n=m+2:=⟨n-2,by lia⟩;have z1:(List.range (m+2)).toArray.size=m+2:=by simp
 have z2:(arrOf (kas_st κ it (List.range (m+2)).toArray)).size=m+2:=by
  show ((List.range (m+2)).toArray.map (kas_item it)).size=m+2;rw[Array.size_map,z1]
 have z3:¬ m+2<minRun' (m+2) (m+2) 0:=by
  have:=Ep (m+2) (m+2) 0;lia
 rw[sortRuns'_eq];refine aW (W.kasC_get ?_);dsimp only;simp only[z2];refine aW (W.kasC_range ?_);show W.kasC _ _ _ (forIn (0 :: 1 :: List.range' 2 m) _ _) _ _ _;refine W.kasC_cons ?_;dsimp only;rw[if_neg (by lia)];simp only[Nat.sub_zero,ZG];refine aW (W.kas_count_ (by lia) (by rw[z1];exact rX _) (λr p t l1 l2 zp g=>?_) h);obtain⟨er,gp⟩:r=m+2∧G p t:=g;subst er;dsimp only;rw[if_neg z3];refine aW (W.kasC_get ?_);rw[show (pendingOf (kas_st κ it p)).back?=none from rfl];dsimp only;refine aW (W.kasC_modify (W.kasC_pure ?_));show W.kasC _ _ _ (forIn (1 :: List.range' 2 m) _ _) _ _ _;refine W.kasC_cons ?_;dsimp only;rw[if_pos (rX _)];refine W.kasC_pure ?_;dsimp only;refine aW (W.kasC_range ?_);show W.kasC _ _ _ (forIn (0 :: 1 :: List.range' 2 m) _ _) _ _ _;refine W.kasC_cons (aW (W.kasC_get ?_));rw[if_pos (show (pendingOf (setPending (kas_st κ it p) ((pendingOf (kas_st κ it p)).push (0,m+2,0)))).size≤1 from rX 1)];refine W.kasC_pure ?_;dsimp only;exact W.kasC_pure (fin p _ _ (zp.trans z1) rfl rfl gp)
end
def Ie(i j:Int)(a b:Str):Bool:=if i=j then decide (a.cps.toList<b.cps.toList) else decide (i<j)
section
variable {prog:Program}{w:World}{A:Around}{E:XW}{s:Shared}
theorem Zma{x y:Addr}{ox oy:Obj}{i j:Int}{t t2 u u2:Tok}{a b:Str}{Q:VE}(hx:s.heap.get? x=some ox)(dx:ox.data=.seq #[.int i t,.str a u] n)(hy:s.heap.get? y=some oy)(dy:oy.data=.seq #[.int j t2,.str b u2] m)
  (h:Q (Ie i j a b) s):wpAny (model prog w) A (keyLt' (tuples' true) (.ref x) (.ref y)) Q E s:=by
 refine W.kat_lt hx dx hy dy ?_;show W.KatLex prog w A true _ Q [(Value.int i t,Value.int j t2),(Value.str a u,Value.str b u2)] 0 s;have e1:=SeqAt.EqAt.int_int (A:=A) (s:=s) i t j t2;have e2:=SeqAt.EqAt.str_str (A:=A) (s:=s) a u b u2;unfold Ie at h;refine W.kat_cons (e1 prog w _ _ ?_)
 by_cases e:i=j
 ·rw[show (i==j)=true from beq_iff_eq.mpr e];rw[if_pos e]at h;refine W.kat_yes (W.kat_cons (e2 prog w _ _ ?_))
  by_cases e':a=b
  ·rw[show (a==b)=true from beq_iff_eq.mpr e'];subst e';refine W.kat_yes (W.kat_nil ?_);rw[decide_eq_false (List.lt_irrefl _)]at h;exact h
  ·rw[show (a==b)=false from beq_eq_false_iff_ne.mpr e'];refine W.kat_no ?_;show wpAny _ _ (oneLt' false _ _) _ _ _;exact W.kat_one _ _ (PySem.P.lt_str h)
 ·rw[show (i==j)=false from beq_eq_false_iff_ne.mpr e];rw[if_neg e]at h;refine W.kat_no ?_;show wpAny _ _ (oneLt' true _ _) _ _ _;exact oneLt_int h
theorem Lw{M:Model}{α:Type}{body:α→PUnit→Sem (ForInStep PUnit)}(J:UW):∀(l:List α) (i:Nat) (s:Shared),(∀j x t,l[j]?=some x→J (i+j) t→wpAny M A (body x ⟨⟩) (λr t'=>r=.yield ⟨⟩∧J (i+j+1) t') E t)→J i s→
  wpAny M A (forIn l PUnit.unit body) (λ_ t=>J (i+l.length) t) E s
 |[],i,s,_,h=>by
  rw[ZN];exact rT h
 |x :: l,i,s,st,h=>by
  rw[cL];refine rS (iD (st 0 x s rfl h) (λr t hr=>?_) λ_ _ z=>z);obtain⟨rfl,hr⟩:=hr
  have q:=Lw J l (i+1) t (λj y t' hy hj=>by
   have z:=st (j+1) y t' (by simpa using hy) (by rw[show i+(j+1)=i+1+j by lia];exact hj);rw[show i+1+j+1=i+(j+1)+1 by lia]
   exact z) hr
  rw[show i+(x :: l).length=i+1+l.length by rw[oR];lia];exact q
end
abbrev lo(ks:WC)(e:Nat):Obj:={ cls:=.type "list",data:=.seq ks.toArray e }
section
variable {X:Cx}{pins:XX}{σ:St}{H:Hp}{s:Shared}
structure Far(X:Cx)(pins:XX)(a:Addr):Prop where
 loc:a≠X.env.locals
 fs:a∉X.fs
 new:X.s₀.heap.objs.size≤a
 cell:∀x c,X.env.cells.lookup x=some c→c≠a
 pin:∀p∈X.pn++pins,p.1≠a
theorem Inv.far(I:Inv X pins σ H s)(h:s.heap.objs.size≤a):Far X pins a:=by
 obtain⟨_,f1,f2,f3,f4,f5⟩:=I.Fg (H':=λ_=>none) h rfl;exact⟨f1,f2,lC I.sz h,f4,f5⟩
theorem Far.more(f:Far X pins a){b:Addr}(h:b≠a):Far X (pins++[(b,o)]) a:=
 ⟨f.loc,f.fs,f.new,f.cell,λp hp=>by
  rcases oJ.mp hp with z|z
  ·exact f.pin p (lF _ z)
  ·rcases oJ.mp z with y|y
   ·exact f.pin p (oX _ y)
   ·rw[rY.mp y]
    exact h⟩
theorem Inv.hold{e:Nat}(I:Inv X pins σ H s)(f:Far X pins a)(h:s.heap.get? a=some (lo ks e))(hn:H a=none):Inv X (pins++[(a,lo ks e)]) σ H s:=
 I.Ph λp hp=>(oJ.mp hp).elim (λz=>I.pin p (oX _ z)) λz=>by
  rw[rY.mp z];exact⟨h,hn,f.loc,f.fs,λv y=>by cases y⟩
theorem Inv.held(I:Inv X (pins++[(a,o)]) σ H s):s.heap.get? a=some o∧H a=none:=
 let p:=I.pin (a,o) (oX _ (oX _ (rY.mpr rfl)))
 ⟨p.1,p.2.1⟩
theorem Inv.Cg{ks':WC}{e:Nat}{f:Array Value→Array Value}(I:Inv X (pins++[(a,lo ks e)]) σ H s)(fa:Far X pins a)(hf:f ks.toArray=ks'.toArray):
  ∃e',Inv X (pins++[(a,lo ks' e')]) σ H { s with heap:=s.heap.update a (Obj.mapSeq f) }:=by
 obtain⟨h1,hn⟩:=I.held;have q:=PySem.IsL.update h1 f;rw[hf]at q;have I1:=(I.X9).turned (t':=s.toks) (it:=a) (h':=s.heap.update a (Obj.mapSeq f)) (λb o hb hu=>(lK s.heap (Obj.mapSeq f) (dA hb)).trans hu) hn fa.loc (.inr fa.new) fa.cell fa.pin;exact⟨_,I1.hold fa q hn⟩
end
def Za6(sp:Sp)(ok:V→Prop)(kf:V→List V):Prop:=∀(v:V) (H:Hp) (Q:VK),ok v→(∀q H',Zt H H'→H' q=some (.tup (kf v))→Q (.ref q) H')→sp [v] H Q E0
section
variable {X:Cx}{pins:XX}{σ:St}{H:Hp}{s:Shared}{x:Str}{k:Nat}{ps:List Str}{sp:Sp}{ok:V→Prop}{kf:V→List V}
theorem Zj0(C:Cal X.prog X.w X.K X.mg X.base x k ps sp)(hk:Za6 sp ok kf)(hr:Xi (k+2) X.A)(I:Inv X pins σ H s)(hv:ok v)(ru:RelV v u):
  wpAny (model X.prog X.w) X.A.in1.in1 (call (.ref C.f) [u]) (λr s'=>∃q H',r=.ref q∧Inv X pins σ H' s'∧Zt H H'∧H' q=some (.tup (kf v))) (λ_ _=>False) s:=by
 have h:sp [v] H (λr H'=>∃q,r=.ref q∧Zt H H'∧H' q=some (.tup (kf v))) E0:=hk v H _ hv λq H' e1 e2=>⟨q,rfl,e1,e2⟩;have hl:([u]++([]:List Value)).length=ps.length:=C.ok.len _ _ _ _ h;refine cX (dP (C.ok.run _ X.stack s H ⟨[u],[]⟩ [u] [v] _ E0 hr.in1.in1 I.Zrr.in1.in1 (C.b s [u] I.kIn hl) (.cons ru .nil) h) λr s' hq=>?_)
 cases r with
 |error e=>exact False.elim hq
 |ok fl=>
  cases fl with
  |ret y=>
   obtain⟨v',H',I',ry,q,rfl,e1,e2⟩:=I.after hq;obtain rfl:y=Value.ref q:=ry;exact⟨q,H',rfl,I',e1,e2⟩
  |next=>exact False.elim hq
  |brk=>exact False.elim hq
  |cont=>exact False.elim hq
def Zvh(X:Cx)(pins:XX)(σ:St)(H:Hp)(D kS:Addr)(e1:Nat)(kf:V→List V)(ws:List V)(i:Nat)(s:Shared):Prop:=
 ∃H' ks e,Inv X (pins++[(D,lo [] e1)]++[(kS,lo ks e)]) σ H' s∧Zt H H'∧ks.length=i∧∀j,j<i→∃q,ks[j]?=some (.ref q)∧H' q=some (.tup (kf (ws.getD j .non)))
theorem Vz(h:n≤1000000):n≤sizeLine:=by rw[sizeLine_eq];lia
theorem Mo{D kS:Addr}{e1 e:Nat}{its:WC}{ws:List V}{st:SortSt}{P:PySem.Fin→Shared→Prop}(I:Inv X (pins++[(D,lo [] e1)]++[(kS,lo ks e)]) σ H s)(fD:Far X pins D)
  (fk:Far X (pins++[(D,lo [] e1)]) kS) (qZ:ks.length≤1000000) (Zco:(arrOf st).map (·.2)=its.toArray) (hf:failedOf st=none) (hv:Vals ws its) (hw:ws.length≤1000000)
  (fin:∀s',Inv X pins σ (upd H D (.lst ws)) s'→P (.done (.ret .none)) s'):wpAny (model X.prog X.w) A (ksk_tail D false e1 (.ref kS) st) P E s:=by
 obtain⟨hk,_⟩:=I.held;obtain⟨e2,I2⟩:=I.Cg (f:=λ_=>#[]) (ks':=[]) fk rfl;have I3:=I2.X9;obtain⟨hD,nD⟩:=I3.held;obtain⟨e3,I4⟩:=I3.Cg (f:=λ_=>its.toArray) (ks':=its) fD rfl;have vQ:its.length≤1000000:=by rw[←hv.length];exact hw
 have I5:=(I4.X9).adopt (o:=.lst ws) fD.new nD fD.loc fD.cell fD.pin ⟨Vz hw,its,e3,hv,I4.held.1⟩;unfold ksk_tail;dsimp only;rw[Zco];refine rS (listUpdate_at hk rfl ?_ (by rw[oF];exact Vz qZ) (lB _));refine rS (aY ?_);refine rS (seqEpoch_at hD rfl ?_);refine rS (listUpdate_at hD rfl ?_ (lB _) (Nat.le_succ_of_le (by show its.toArray.size≤_;rw[oF];exact Vz vQ)));rw[hf];simp only[bne_self_eq_false,iY,if_false];exact rT (fin _ I5)
def Tn(a b:Str):Bool:=Ie (a.length:Int) (b.length:Int) a b
def okS(v:V):Prop:=∃z:Str,v=.str z∧z.length≤1000
def kfS:V→List V
 |.str z=>[.int (z.length:Int),.str z]
 |_=>[]
theorem Hm{zs:List Str}(h:j<zs.length):(zs.map V.str).getD j .non=.str (zs.getD j ⟨#[]⟩):=by
 rw[oQ,oP,oQ,rZ h];rfl
theorem Zeu{zs:List Str}{C:VE}(I:Inv X pins σ H s)(ent:∀j,j<zs.length→∃q,ks[j]?=some (.ref q)∧H q=some (.tup (kfS ((zs.map V.str).getD j .non))))(hi:i<zs.length)(hj:j<zs.length)
  (h:C (Tn (zs.getD i ⟨#[]⟩) (zs.getD j ⟨#[]⟩)) s):W.kas_ask X.prog X.w A (tuples' true) ks i j C s:=by
 obtain⟨q,k1,t1⟩:=ent i hi;obtain⟨r,k2,t2⟩:=ent j hj;rw[Hm hi]at t1;rw[Hm hj]at t2;obtain⟨_,its,v1,o1,g1,c1,n1,d1⟩:=I.hok q _ t1;obtain⟨_,its',v2,o2,g2,c2,n2,d2⟩:=I.hok r _ t2;obtain⟨u1,u2,rfl,⟨a1,rfl⟩,⟨a2,rfl⟩⟩:=Vals.two v1;obtain⟨u3,u4,rfl,⟨a3,rfl⟩,⟨a4,rfl⟩⟩:=Vals.two v2;unfold W.kas_ask;rw[oQ,k1,oQ,k2];exact Zma g1 d1 g2 d2 h
theorem Zkv{zs:List Str}{Q:SortKind→Shared→Prop}(I:Inv X pins σ H s)(ent:∀j,j<zs.length→∃q,ks[j]?=some (.ref q)∧H q=some (.tup (kfS ((zs.map V.str).getD j .non))))(hl:ks.length=zs.length)(hn:0<zs.length)
  (h:Q (tuples' true) s):wpAny (model X.prog X.w) A (keyKind' ks.toArray) Q E s:=by
 have all:∀(ls:WC),(∀v∈ls,∃q z,v=.ref q∧H q=some (.tup [.int ((z:Str).length:Int),.str z]))→∃fs:List Value,W.KatTups s.heap ls fs∧fs.length=ls.length∧∀v∈fs,∃i t,v=.int i t:=by
  intro ls
  induction ls with
  |nil=>exact λ_=>⟨[],.nil,rfl,λv hv=>by cases hv⟩
  |cons v ls ih=>
   intro hv;obtain⟨fs,f1,f2,f3⟩:=ih λu hu=>hv u (oO _ hu);obtain⟨q,z,rfl,t1⟩:=hv v oE;obtain⟨_,its,v1,o1,g1,c1,n1,d1⟩:=I.hok q _ t1;obtain⟨u1,u2,rfl,⟨a1,rfl⟩,_⟩:=Vals.two v1;refine⟨.int z.length a1 :: fs,.cons g1 c1 d1 rfl f1,by rw[oR,f2,oR],λu hu=>?_⟩
   rcases oH.mp hu with rfl|hu
   ·exact⟨_,_,rfl⟩
   ·exact f3 u hu
 obtain⟨fs,f1,f2,f3⟩:=all ks λv hv=>by
  obtain⟨j,hj,e⟩:=aZ hv;obtain⟨q,k1,t1⟩:=ent j (by lia);rw[Hm (by lia)]at t1;rw[rZ hj,e]at k1;exact⟨q,_,Option.some.inj k1,t1⟩
 exact W.kat_kind (T:=.type "int") f1 (by lia) (λv hv=>by
  obtain⟨i,t,rfl⟩:=f3 v hv
  exact W.Looks.of_pure rfl) rfl h
end
theorem range_getD(h:i<n):(List.range n).toArray.getD i 0=i:=by simp[Array.getD,h]
section
open PySem.W (KasT kas_asc kas_desc kas_tail3 kas_descPart kas_count kas_place kas_bin kas_sort kas_rev)
structure Uu(n:Nat)(lt:WU):Prop where
 irr:∀i,i<n→lt i i=false
 tra:∀i j k,i<n→j<n→k<n→lt i j=true→lt j k=true→lt i k=true
 tot:∀i j,i<n→j<n→i≠j→lt i j=true∨lt j i=true
structure Xr(n:Nat)(p:VM):Prop where
 per:p.toList.Perm (List.range n)
theorem N3{p:VM}(h:i<p.size):p[i]?=some (p.getD i 0):=by
 rw[bM h];simp[Array.getD,h]
theorem Hn{p q:VM}(h:p[i]?=q[j]?):p.getD i 0=q.getD j 0:=by
 rw[bC,bC,h]
theorem Af(n:Nat):Xr n (List.range n).toArray:=⟨by simp⟩
theorem Xr.size{p:VM}(h:Xr n p):p.size=n:=by
 have:=h.per.length_eq;simpa using this
theorem Xr.lt{p:VM}(h:Xr n p)(i:Nat)(hi:i<n):p.getD i 0<n:=by
 have q:=N3 (p:=p) (i:=i) (by rw[h.size];exact hi);rw[←lA]at q;exact lZ.mp (h.per.mem_iff.mp (oM q))
theorem Xr.inj{n:Nat}{p:VM}(h:Xr n p)(i j:Nat)(hi:i<n)(hj:j<n)(e:p.getD i 0=p.getD j 0):i=j:=by
 have nd:p.toList.Nodup:=h.per.nodup_iff.mpr List.nodup_range;rw[iL,bN]at nd;have li:i<p.toList.length:=by rw[oZ,h.size];exact hi
 have lj:j<p.toList.length:=by rw[oZ,h.size];exact hj
 have a:=N3 (p:=p) (i:=i) (by rw[h.size];exact hi);have b:=N3 (p:=p) (i:=j) (by rw[h.size];exact hj);rw[←lA,rZ li]at a;rw[←lA,rZ lj]at b;have e':p.toList[i]=p.toList[j]:=by rw[Option.some.inj a,Option.some.inj b,e]
 rcases Nat.lt_trichotomy i j with z|z|z
 ·exact absurd e' (nd i j li lj z)
 ·exact z
 ·exact absurd e'.symm (nd j i lj li z)
def Km(lt:WU)(p:VM)(m:Nat):Prop:=∀i j,i<j→j<m→lt (p.getD i 0) (p.getD j 0)=true
def Ll(lt:WU)(p:VM)(m:Nat):Prop:=∀i j,i<j→j<m→lt (p.getD j 0) (p.getD i 0)=true
variable {n:Nat}{lt:WU}{p:VM}
theorem Km.succ(hS:Uu n lt)(hp:Xr n p)(h1:1≤m)(hm:m<n)(u:Km lt p m)(c:lt (p.getD (m-1) 0) (p.getD m 0)=true):Km lt p (m+1):=λi j gP hj=>by
 by_cases e:j=m
 ·subst e
  by_cases e2:i=j-1
  ·subst e2;exact c
  ·exact hS.tra _ _ _ (hp.lt _ (by lia)) (hp.lt _ (by lia)) (hp.lt _ hm) (u i (j-1) (by lia) (by lia)) c
 ·exact u i j gP (by lia)
theorem Ll.succ(hS:Uu n lt)(hp:Xr n p)(h1:1≤m)(hm:m<n)(u:Ll lt p m)(c:lt (p.getD m 0) (p.getD (m-1) 0)=true):Ll lt p (m+1):=λi j gP hj=>by
 by_cases e:j=m
 ·subst e
  by_cases e2:i=j-1
  ·subst e2;exact c
  ·exact hS.tra _ _ _ (hp.lt _ hm) (hp.lt _ (by lia)) (hp.lt _ (by lia)) c (u i (j-1) (by lia) (by lia))
 ·exact u i j gP (by lia)
theorem Uu.not(hS:Uu n lt)(hi:i<n)(hj:j<n)(h:i≠j)(c:lt i j=false):lt j i=true:=by
 rcases hS.tot i j hi hj h with z|z
 ·rw[c]at z;cases z
 ·exact z
theorem Gp(hS:Uu n lt)(hp:Xr n p):∀(f m:Nat),1≤m→m+f≤n→Km lt p m→W7 n lt (λr=>m≤r∧r≤m+f∧Km lt p r∧(r<m+f→lt (p.getD r 0) (p.getD (r-1) 0)=true)) (kas_asc p f m)
 | 0,m,_,_,u=>⟨rX _,rX _,u,λz=>absurd z (by lia)⟩
 |f+1,m,h1,h2,u=>by
  have a:=hp.lt m (by lia);have b:=hp.lt (m-1) (by lia);refine⟨a,b,?_⟩
  cases c:lt (p.getD m 0) (p.getD (m-1) 0) with
  |true=>exact⟨rX _,by lia,u,λ_=>c⟩
  |false=>
   have q:=hS.not a b (λe=>by have:=hp.inj m (m-1) (by lia) (by lia) e;lia) c;exact(Gp hS hp f (m+1) (by lia) (by lia) (u.succ hS hp h1 (by lia) q)).imp λr h=>⟨by lia,by lia,h.2.2.1,λz=>h.2.2.2 (by lia)⟩
theorem Dx(hS:Uu n lt)(hp:Xr n p):∀(f m:Nat),1≤m→m+f≤n→Ll lt p m→W7 n lt (λr=>r.1=p∧m≤r.2.1∧r.2.1≤m+f∧r.2.2=0∧Ll lt p r.2.1) (kas_desc f p m 0)
 | 0,m,_,_,u=>⟨rfl,rX _,rX _,rfl,u⟩
 |f+1,m,h1,h2,u=>by
  have a:=hp.lt m (by lia);have b:=hp.lt (m-1) (by lia);refine⟨a,b,?_⟩
  cases c:lt (p.getD m 0) (p.getD (m-1) 0) with
  |true=>exact(Dx hS hp f (m+1) (by lia) (by lia) (u.succ hS hp h1 (by lia) c)).imp λr h=>⟨h.1,by lia,by lia,h.2.2.2.1,h.2.2.2.2⟩
  |false=>
   have q:=hS.not a b (λe=>by have:=hp.inj m (m-1) (by lia) (by lia) e;lia) c;refine⟨b,a,?_⟩;rw[q];exact⟨rfl,rX _,(by show m≤m+(f+1);lia),rfl,u⟩
theorem rev_getD(hp:Xr n p)(hm:m≤n)(k:Nat):(kas_rev p 0 m).getD k 0=if k<m then p.getD (m-1-k) 0 else p.getD k 0:=by
 have h:=getElem?_mirror_all (xs:=p) (i:=0) (j:=m) (by rw[hp.size];exact hm) k;unfold W.kas_rev
 by_cases z:k<m
 ·rw[if_pos ⟨lB _,z⟩,ZG]at h;rw[if_pos z];exact Hn h
 ·rw[if_neg (by lia)]at h;rw[if_neg z];exact Hn h
theorem Xr.rev(hp:Xr n p)(m:Nat):Xr n (kas_rev p 0 m):=⟨(Array.perm_iff_toList_perm.mp (mirror_perm _ _ _ _)).trans hp.per⟩
theorem Zc7(hS:Uu n lt)(hp:Xr n p)(h1:1≤n):W7 n lt (λr=>1≤r.1∧r.1≤n∧Xr n r.2∧Km lt r.2 r.1) (kas_count n p):=by
 unfold W.kas_count;refine W7.bind (λm hm=>?_) (Gp hS hp (n-1) 1 (rX _) (by lia) λi j a b=>by lia);obtain⟨m1,m2,u,c⟩:=hm
 by_cases e:m=n
 ·subst e;rw[if_pos (by simp)];exact⟨h1,rX _,hp,u⟩
 ·rw[if_neg (by simpa using e)]
  by_cases g:m>1
  ·rw[if_pos g];refine⟨hp.lt _ (by lia),hp.lt _ (by lia),?_⟩;rw[u 0 (m-1) (by lia) (by lia)];exact⟨m1,by lia,hp,u⟩
  ·rw[if_neg g];obtain rfl:m=1:=by lia
   have d2:Ll lt p 2:=λi j a b=>by
    obtain rfl:j=1:=by lia
    obtain rfl:i=0:=by lia
    exact c (by lia)
   unfold W.kas_descPart;refine W7.bind (λr hr=>?_) (Dx hS hp (n-2) 2 (by lia) (by lia) d2);obtain⟨r1,r2,r3⟩:=r;obtain⟨e1,e2,e3,e4,e5⟩:=hr;dsimp only at e1 e2 e3 e4 e5 ⊢;subst e1 e4;rw[if_neg (by lia)];unfold W.kas_tail3;have nW:r2≤n:=by lia
   refine W7.bind (λq hq=>?_) (Gp hS (hp.rev r2) (n-r2) r2 (by lia) (by lia) λi j a b=>?_)
   ·exact⟨by lia,by lia,hp.rev r2,hq.2.2.1⟩
   ·rw[rev_getD hp nW,rev_getD hp nW,if_pos (by lia),if_pos b];exact e5 _ _ (by lia) (by lia)
theorem O5(hS:Uu n lt)(hp:Xr n p){k:Nat}(hk:k<n)(u:Km lt p k):∀(f l r:Nat),l≤r→r≤k→r-l≤f→(∀t,t<l→lt (p.getD k 0) (p.getD t 0)=false)→(∀t,r≤t→t<k→lt (p.getD k 0) (p.getD t 0)=true)→
  W7 n lt (λl'=>l'≤k∧(∀t,t<l'→lt (p.getD k 0) (p.getD t 0)=false)∧∀t,l'≤t→t<k→lt (p.getD k 0) (p.getD t 0)=true) (kas_place p k f l r)
 | 0,l,r,h1,h2,h3,a,b=>⟨by lia,a,λt t1 t2=>b t (by lia) t2⟩
 |f+1,l,r,h1,h2,h3,a,b=>by
  unfold W.kas_place
  by_cases z:l ≥ r
  ·rw[if_pos z];exact⟨by lia,a,λt t1 t2=>b t (by lia) t2⟩
  ·rw[if_neg z];have gk:=hp.lt k hk;have gm:=hp.lt ((l+r)/2) (by lia);refine⟨gk,gm,?_⟩
   cases c:lt (p.getD k 0) (p.getD ((l+r)/2) 0) with
   |true=>
    refine O5 hS hp hk u f l ((l+r)/2) (by lia) (by lia) (by lia) a λt t1 t2=>?_
    by_cases e:t=(l+r)/2
    ·rw[e];exact c
    ·exact hS.tra _ _ _ gk gm (hp.lt _ (by lia)) c (u _ t (by lia) t2)
   |false=>
    refine O5 hS hp hk u f ((l+r)/2+1) r (by lia) h2 (by lia) (λt t1=>?_) b
    by_cases e:t=(l+r)/2
    ·rw[e];exact c
    ·cases q:lt (p.getD k 0) (p.getD t 0) with
     |false=>rfl
     |true=>
      have:=hS.tra _ _ _ gk (hp.lt t (by lia)) gm q (u t _ (by lia) (by lia));rw[c]at this;cases this
theorem Zax(hp:Xr n p){k l:Nat}(hk:k<n)(hl:l≤k)(t:Nat):(bubble p k (k-l)).getD t 0=if t=l then p.getD k 0 else if l<t∧t≤k then p.getD (t-1) 0 else p.getD t 0:=by
 have h:=getElem?_bubble (xs:=p) (src:=k) (by rw[hp.size];exact hk) (k-l) (by lia) t;rw[show k-(k-l)=l by lia]at h
 split at h
 ·rename_i z;rw[if_pos z];exact Hn h
 ·rename_i z
  rw[if_neg z]
  split at h
  ·rename_i y;rw[if_pos y];exact Hn h
  ·rename_i y;rw[if_neg y];exact Hn h
theorem Xr.bub(hp:Xr n p)(k d:Nat):Xr n (bubble p k d):=⟨(Array.perm_iff_toList_perm.mp (bubble_perm _ _ _)).trans hp.per⟩
theorem Za0(hS:Uu n lt):∀(f:Nat) (p:VM) (k:Nat),Xr n p→1≤k→k+f=n→Km lt p k→W7 n lt (λq=>Xr n q∧Km lt q n) (kas_bin f p k)
 | 0,p,k,hp,_,e,u=>⟨hp,by rw[←e];exact u⟩
 |f+1,p,k,hp,h1,e,u=>by
  have hk:k<n:=by lia
  unfold W.kas_bin;refine W7.bind (λl hl=>?_) (O5 hS hp hk u k 0 k (lB _) (rX _) (by lia) (λt z=>absurd z (YS _)) λt a b=>absurd a (by lia));obtain⟨l1,l2,l3⟩:=hl;refine Za0 hS f _ (k+1) (hp.bub k (k-l)) (by lia) (by lia) λi j a b=>?_;have ne:∀t,t<k→p.getD k 0≠p.getD t 0:=λt ht z=>by have:=hp.inj k t hk (by lia) z;lia
  rw[Zax hp hk l1,Zax hp hk l1]
  by_cases c1:i=l
  ·rw[if_pos c1,if_neg (by lia)]
   split
   ·exact l3 _ (by lia) (by lia)
   ·exact absurd a (by lia)
  ·rw[if_neg c1]
   by_cases c2:j=l
   ·rw[if_pos c2,if_neg (by lia)];exact hS.not (hp.lt _ hk) (hp.lt _ (by lia)) (ne i (by lia)) (l2 i (by lia))
   ·rw[if_neg c2]
    split<;>split<;>exact u _ _ (by lia) (by lia)
theorem Zgz(hS:Uu n lt)(h1:1≤n):W7 n lt (λq=>Xr n q∧Km lt q n) (kas_sort n):=by
 unfold W.kas_sort;refine W7.bind (λr hr=>?_) (Zc7 hS (Af n) h1);obtain⟨m,q⟩:=r;obtain⟨e1,e2,e3,e4⟩:=hr;dsimp only at e1 e2 e3 e4 ⊢
 by_cases z:m<n
 ·rw[if_pos z,show max m 1=m by lia];exact Za0 hS (n-m) q m e3 e1 (by lia) e4
 ·rw[if_neg z];obtain rfl:m=n:=by lia
  exact⟨e3,e4⟩
end
def Pa(zs:List Str):Prop:=zs.Pairwise λa b=>Tn b a=false
section
open PySem.W (kas_count kas_ask kas_item kas_st kas_asc)
theorem Zaz{lt:WU}(h1:1≤n)(h:∀t,1≤t→t<n→lt t (t-1)=false):W7 n lt (λr=>r.1=n∧r.2=(List.range n).toArray) (kas_count n (List.range n).toArray):=by
 unfold W.kas_count;refine W7.bind (P:=λm=>m=1+(n-1)) (λm e=>?_) (Ze4 (λi=>?_) _ _ λt t1 t2=>?_)
 ·have e':m=n:=by lia
  subst e';rw[if_pos (by simp)];exact⟨rfl,rfl⟩
 ·by_cases hi:i<n
  ·rw[range_getD hi];exact hi
  ·simp[Array.getD,hi];lia
 ·rw[range_getD (by lia),range_getD (by lia)];exact h t t1 (by lia)
theorem Zpx{κ:SortKind}{vs:WC}{Q:SortSt→Shared→Prop}{G:Array Nat→Shared→Prop}(hl:ks.length=vs.length)(two:2≤vs.length)
  (fin:∀p st t,p.size=vs.length→arrOf st=p.map (kas_item (ks.toArray.zip vs.toArray))→failedOf st=none→G p t→Q st t)
  (h:(kas_count vs.length (List.range vs.length).toArray).kasWp (kas_ask prog w A κ ks) (λr t=>r.1=vs.length∧G r.2 t) s) :
  wpAny (model prog w) A ((sortRuns').run (SortSt.mk' κ (ks.toArray.zip vs.toArray) #[] 7 none)) (λr t=>Q r.2 t) E s:=by
 rw[W.kat_ask_eq hl]at h;have run:=Zlv (E:=E) (Q:=λ_ st t=>Q st t) two fin h;have zl:(ks.toArray.zip vs.toArray).size=vs.length:=by simp[hl]
 have e:=W.kas_range (ks.toArray.zip vs.toArray);rw[zl]at e
 have e':SortSt.mk' κ (ks.toArray.zip vs.toArray) #[] 7 none=kas_st κ (ks.toArray.zip vs.toArray) (List.range vs.length).toArray:=by
  show _=SortSt.mk' κ ((List.range vs.length).toArray.map (kas_item (ks.toArray.zip vs.toArray))) #[] 7 none;exact congrArg (λz=>SortSt.mk' κ z #[] 7 none) e.symm
 rw[e'];exact run
end
section
variable {X:Cx}{pins:XX}{σ:St}{H:Hp}{s:Shared}{x:Str}{k:Nat}{ps:List Str}{sp:Sp}
def Comes(zs x9:List Str):Prop:=x9.Perm zs∧Pa x9
def Known(zs:List Str):Prop:=Pa zs∨(zs.length<64∧zs.Nodup)
theorem Zjw(x y:List Nat)(h:x≠y):x<y∨y<x:=by
 rcases Decidable.em (x<y) with z|z
 ·exact .inl z
 ·rcases Decidable.em (y<x) with z'|z'
  ·exact .inr z'
  ·exact absurd (List.le_antisymm (XG.mp z') (XG.mp z)) h
theorem Am(a:Str):Tn a a=false:=by
 unfold Tn Ie;rw[if_pos rfl];exact decide_eq_false (List.lt_irrefl _)
theorem Ak{a b c:Str}(h1:Tn a b=true)(h2:Tn b c=true):Tn a c=true:=by
 unfold Tn Ie at *
 by_cases e1:(a.length:Int)=b.length
 ·rw[if_pos e1]at h1
  by_cases e2:(b.length:Int)=c.length
  ·rw[if_pos e2]at h2;rw[if_pos (e1.trans e2)];exact decide_eq_true (List.lt_trans (of_decide_eq_true h1) (of_decide_eq_true h2))
  ·rw[if_neg e2]at h2;have:=of_decide_eq_true h2;rw[if_neg (by lia)];exact decide_eq_true (by lia)
 ·rw[if_neg e1]at h1;have h1':=of_decide_eq_true h1
  by_cases e2:(b.length:Int)=c.length
  ·rw[if_neg (by lia)];exact decide_eq_true (by lia)
  ·rw[if_neg e2]at h2;have:=of_decide_eq_true h2;rw[if_neg (by lia)];exact decide_eq_true (by lia)
theorem Al{a b:Str}(h:a≠b):Tn a b=true∨Tn b a=true:=by
 unfold Tn Ie
 by_cases e:(a.length:Int)=b.length
 ·rw[if_pos e,if_pos e.symm]
  rcases Zjw a.cps.toList b.cps.toList (λz=>h (by cases a;cases b;simpa using z)) with z|z
  ·exact .inl (decide_eq_true z)
  ·exact .inr (decide_eq_true z)
 ·rw[if_neg e,if_neg (λz=>e z.symm)]
  rcases Int.lt_or_lt_of_ne e with z|z
  ·exact .inl (decide_eq_true z)
  ·exact .inr (decide_eq_true z)
theorem Zfi{zs:List Str}(nd:zs.Nodup):Uu zs.length λi j=>Tn (zs.getD i ⟨#[]⟩) (zs.getD j ⟨#[]⟩):=by
 refine⟨λi _=>Am _,λi j k _ _ _=>Ak,λi j hi hj h=>Al ?_⟩;rw[oQ,rZ hi,oQ,rZ hj];intro e;rw[iL,bN]at nd
 rcases Nat.lt_trichotomy i j with z|z|z
 ·exact nd i j hi hj z e
 ·exact h z
 ·exact nd j i hj hi z e.symm
theorem Zl9:∀{zs:List Str},zs.length<2→Pa zs
 |[],_=>.nil
 |[_],_=>List.pairwise_singleton _ _
 |_ :: _ :: _,h=>absurd h (by simp)
theorem Zib{D kS:Addr}{e1 e:Nat}{its:WC}{P:PySem.Fin→Shared→Prop}(I:Inv X (pins++[(D,lo [] e1)]++[(kS,lo ks e)]) σ H s)(fD:Far X pins D)
  (fk:Far X (pins++[(D,lo [] e1)]) kS) (hz:Vals (zs.map V.str) its) (hn:zs.length≤1000000) (hl:ks.length=zs.length) (ent:∀j,j<zs.length→∃q,ks[j]?=some (.ref q)∧H q=some (.tup (kfS ((zs.map V.str).getD j .non)))) (how:Known zs)
  (fin:∀x9 s',Comes zs x9→Inv X pins σ (upd H D (.lst (x9.map V.str))) s'→P (.done (.ret .none)) s'):wpAny (model X.prog X.w) A (ksk_end D false its.toArray e1 (.ref kS) ks.toArray) P E s:=by
 have hi:its.length=zs.length:=by rw[←hz.length,rW]
 have vP:ks.length=its.length:=by lia
 have hw:(zs.map V.str).length≤1000000:=by rw[rW];exact hn
 unfold ksk_end;dsimp only;simp only[iY,if_false]
 by_cases n2:its.toArray.size<2
 ·rw[if_pos n2,if_pos n2];refine rS (rT (rS (rT ?_)));refine Mo I fD fk (by lia) ?_ rfl hz hw λs' I'=>fin zs s' ⟨.refl _,?_⟩ I'
  ·show (ks.toArray.zip its.toArray).map (·.2)=its.toArray;apply Array.toList_inj.mp;simp only[Array.toList_map,Array.toList_zip];rw[show (λx:Value×Value=>x.2)=Prod.snd from rfl,List.map_snd_zip (by lia)]
  ·rw[oF,hi]at n2;exact Zl9 n2
 ·rw[if_neg n2,if_neg n2];have two:2≤its.length:=by rw[oF]at n2;lia
  refine rS (Zkv I ent hl (by lia) (rS ?_))
  rcases how with up|⟨h64,nd⟩
  ·refine iD (Zpx (E:=E) (Q:=λst t=>∃p:Array Nat,arrOf st=p.map (W.kas_item (ks.toArray.zip its.toArray))∧failedOf st=none∧p=(List.range its.length).toArray∧t=s) (G:=λp t=>p=(List.range its.length).toArray∧t=s) vP two (λp st t _ b c d=>⟨p,b,c,d.1,d.2⟩)
    (W7.wp (n:=its.length) (lt:=λi j=>Tn (zs.getD i ⟨#[]⟩) (zs.getD j ⟨#[]⟩)) (λi j C u5 gU hC=>Zeu I ent (by lia) (by lia) hC) (λr hr=>⟨hr.1,hr.2,rfl⟩) (Zaz (by lia) λt t1 t2=>?_))) (λr t hr=>?_) λ_ _ z=>z
   ·have a:t-1<zs.length:=by lia
    have b:t<zs.length:=by lia
    have q:=bN.mp up (t-1) t a b (by lia);show Tn (zs.getD t ⟨#[]⟩) (zs.getD (t-1) ⟨#[]⟩)=false;rw[oQ,rZ b,oQ,rZ a];exact q
   ·obtain⟨⟨⟩,st⟩:=r;obtain⟨p,h1,h2,h3,h4⟩:=hr;subst h4;refine Mo I fD fk (by lia) ?_ h2 hz hw λs' I'=>fin zs s' ⟨.refl _,up⟩ I';rw[W.kat_snds vP h1,h3]
    congr 1
    refine List.ext_getElem (by simp) λi a b=>?_;simp[b]
  ·have hS:=Zfi nd;rw[←hi]at hS
   refine iD (W.kat_run (E:=E) (Q:=λst t=>∃p:Array Nat,arrOf st=p.map (W.kas_item (ks.toArray.zip its.toArray))∧failedOf st=none∧(Xr its.length p∧Km (λi j=>Tn (zs.getD i ⟨#[]⟩) (zs.getD j ⟨#[]⟩)) p its.length)∧t=s)
    (G:=λp t=>(Xr its.length p∧Km (λi j=>Tn (zs.getD i ⟨#[]⟩) (zs.getD j ⟨#[]⟩)) p its.length)∧t=s) vP two (by lia) (λp st t _ b c d=>⟨p,b,c,d.1,d.2⟩)
    (W7.wp (n:=its.length) (lt:=λi j=>Tn (zs.getD i ⟨#[]⟩) (zs.getD j ⟨#[]⟩)) (λi j C u5 gU hC=>Zeu I ent (by lia) (by lia) hC) (λr hr=>⟨hr,rfl⟩) (Zgz hS (by lia)))) (λr t hr=>?_) λ_ _ z=>z
   obtain⟨⟨⟩,st⟩:=r;obtain⟨p,h1,h2,⟨h3,h5⟩,h4⟩:=hr;subst h4;have pl:p.toList.Perm (List.range zs.length):=by rw[←hi];exact h3.per
   have Zco:Vals ((p.toList.map λi=>zs.getD i ⟨#[]⟩).map V.str) (p.toList.map λi=>its.getD i Value.none):=by
    have:∀l:List Nat,(∀i∈l,i<zs.length)→Vals ((l.map λi=>zs.getD i ⟨#[]⟩).map V.str) (l.map λi=>its.getD i Value.none):=λl=>by
     induction l with
     |nil=>exact λ_=>.nil
     |cons i l ih=>
      intro h;have u5:=h i oE;refine .cons ?_ (ih λj hj=>h j (oO _ hj));obtain⟨u,hu,ru⟩:=Vals.get (i:=i) (x:=V.str zs[i]) hz (by rw[oP,rZ u5];rfl);show RelV (V.str (zs.getD i ⟨#[]⟩)) (its.getD i Value.none);rw[oQ,rZ u5,oQ,hu];exact ru
    exact this _ λi u5=>lZ.mp (pl.mem_iff.mp u5)
   have wC:p.toList.length=zs.length:=by rw[pl.length_eq,dS]
   refine Mo I fD fk (by lia) (W.kat_snds vP h1) h2 Zco (by rw[rW,rW,wC];exact hn) λs' I'=>fin _ s' ⟨?_,?_⟩ I'
   ·have q:=pl.map λi=>zs.getD i ⟨#[]⟩
    have e:(List.range zs.length).map (λi=>zs.getD i ⟨#[]⟩)=zs:=by
     refine List.ext_getElem (by simp) λi a b=>?_;simp[b]
    rwa[e]at q
   ·unfold Pa;rw[cD,bN];intro i j li lj lij;have a1:=N3 (p:=p) (i:=i) (by simpa using li);have a2:=N3 (p:=p) (i:=j) (by simpa using lj);rw[←lA,rZ li]at a1;rw[←lA,rZ lj]at a2;have q:=h5 i j lij (by rw[←h3.size];simpa using lj);rw[←Option.some.inj a1,←Option.some.inj a2]at q
    cases z:Tn (zs.getD p.toList[j] ⟨#[]⟩) (zs.getD p.toList[i] ⟨#[]⟩) with
    |false=>rfl
    |true=>
     have:=Ak q z;rw[Am]at this;cases this
theorem Zfj{its:WC}{P:PySem.Fin→Shared→Prop}(C:Cal X.prog X.w X.K X.mg X.base x k ps sp)(hk:Za6 sp okS kfS)(hr:Xi (k+2) X.A)(I:Inv X pins σ H s)(hz:Vals (zs.map V.str) its)(hn:zs.length≤1000000)
  (hs:∀z∈zs,z.length≤1000) (how:Known zs) (fin:∀x9 H' s',Comes zs x9→Zt H H'→H' s.heap.objs.size=none→Inv X pins σ (upd H' s.heap.objs.size (.lst (x9.map V.str))) s'→P (.done (.ret .none)) s') :
  wpAny (model X.prog X.w) X.A.in1.in1 (ksk_tree s.heap.objs.size (.ref C.f) false) P E { s with heap:=s.heap.push (lo its 0) }:=by
 have hi:its.length=zs.length:=by rw[←hz.length,rW]
 have o4:its.toArray.size≤sizeLine:=by rw[oF];exact Vz (by lia)
 generalize yF:s.heap.objs.size=D at fin ⊢;have hD:(s.heap.push (lo its 0)).get? D=some (lo its 0):=by rw[←yF];exact oC _ rfl
 obtain⟨e1,vE⟩:∃e1,((s.heap.push (lo its 0)).update D (Obj.mapSeq λ_=>#[])).get? D=some (lo [] e1):=⟨_,PySem.IsL.update hD λ_=>#[]⟩;have lt:∀b o,s.heap.get? b=some o→b<D:=λb o q=>by rw[←yF];exact oD q
 have old:∀b o,s.heap.get? b=some o→((s.heap.push (lo its 0)).update D (Obj.mapSeq λ_=>#[])).get? b=some o:=λb o q=>
  (lK _ _ (iZ (lt b o q))).trans (rV _ q)
 unfold ksk_tree;refine rS (listItems_at hD rfl ?_);refine rS (listUpdate_at hD rfl ?_ o4 (lB _));refine rS (seqEpoch_at vE rfl ?_);refine rS (wpAny_newTuple ?_ (by show its.length≤_;exact Vz (by lia)));refine rS (XM ?_ (lB _));refine lE ?_;dsimp only;generalize hG:((s.heap.push (lo its 0)).update D (Obj.mapSeq λ_=>#[])).push { cls:=.type "tuple",data:=.seq its.toArray.toList.toArray } = G;have jP:G.objs.size=D+2:=by rw[←hG,iJ,Heap.size_update,iJ,yF]
 have fZ:∀b o,s.heap.get? b=some o→(G.push (lo [] 0)).get? b=some o:=λb o q=>rV _ (by rw[←hG];exact rV _ (old b o q))
 have I1:Inv X pins σ H { s with heap:=G.push (lo [] 0) }:=I.kept (t':=s.toks) fZ;have fD:Far X pins D:=I.far (by rw[yF];exact rX _);have fk:Far X (pins++[(D,lo [] e1)]) G.objs.size:=(I.far (by rw[jP,yF];exact dO _ _)).more (by rw[jP];exact oY (Nat.lt_add_of_pos_right (by decide)));have I2:=I1.hold (ks:=[]) (e:=e1) fD (rV _ (by rw[←hG];exact rV _ vE)) (I.hok.fresh (by rw[yF];exact rX _));have I3:=I2.hold (ks:=[]) (e:=0) fk (oC _ rfl) (I.hok.fresh (by rw[jP,yF];exact dO _ _));unfold ksk_rest;refine rS (cA ?_)
 first
  |rw[List.forIn_toArray]
  | (rw[←ZI];simp only[List.toList_toArray])
 refine rS (iD (Lw (Zvh X pins σ H D G.objs.size e1 kfS (zs.map V.str)) its 0 _ (λj y t hy hJ=>?_) ⟨H,[],0,I3,λ_ _ z=>z,rfl,λj hj=>absurd hj (YS _)⟩) (λ_ t ht=>?_) λ_ _ z=>z)
 ·obtain⟨H',ks,e,I',sm,vR,ent⟩:=hJ;rw[ZG]at vR ent
  have hj:j<its.length:=by
   rcases aK j its.length with z|z
   ·exact z
   ·rw[cJ.mpr z]at hy;cases hy
  have gU:j<zs.length:=by lia
  obtain⟨u,hu,ru⟩:=Vals.get (i:=j) (x:=V.str zs[j]) hz (by rw[oP,rZ gU];rfl);rw[hy]at hu;cases hu;refine rS (bI (iD (Zj0 C hk hr I' ⟨_,rfl,hs _ (cU gU)⟩ ru) (λr t' y4=>?_) λ_ _ z=>z.elim));obtain⟨q,H2,rfl,I4,s2,e2⟩:=y4;dsimp only;have qY:ks.toArray.size≤1000000:=by rw[oF,vR];lia
  refine rS (listUpdate_at I4.held.1 rfl ?_ (Vz qY) (by rw[Array.size_push];exact Nat.succ_le_succ (Vz qY)));obtain⟨e',I5⟩:=I4.Cg (f:=(·.push (.ref q))) (ks':=ks++[.ref q]) fk (by simp);refine rT ⟨rfl,H2,ks++[.ref q],e',I5,λb o z=>s2 b o (sm b o z),by simp[vR],λi u5=>?_⟩;rw[ZG]at u5
  by_cases e:i<j
  ·obtain⟨q',k1,k2⟩:=ent i e;exact⟨q',by rw[lP (by lia)];exact k1,s2 _ _ k2⟩
  ·have e':i=j:=by lia
   subst e';refine⟨q,by rw[←vR];simp,?_⟩;rw[e2,oQ,oP,rZ gU];rfl
 ·rw[ZG]at ht;obtain⟨H',ks,e,I',sm,hl,ent⟩:=ht;rw[hi]at ent
  try dsimp only
  refine rS (listItems_at I'.held.1 rfl ?_);exact Zib I' fD fk hz hn (hl.trans hi) ent how λx9 s' cm Is=>fin x9 H' s' cm sm (I'.X9.held.2) Is
theorem B1{Q:VK}{A0:Around}(hA:A0=X.A)(C:Cal X.prog X.w X.K X.mg X.base x k ps sp)(hk:Za6 sp okS kfS)(hr:Xi (k+2) X.A)(hn:zs.length≤1000000)(hs:∀z∈zs,z.length≤1000)(how:Known zs)
  (qH:∀(Qc:UI),(∀its s',Vals (zs.map V.str) its→Inv X pins σ H s'→Qc its s')→wpAny (model X.prog X.w) X.A.in1 (collect u) Qc X.xe s)
  (q:∀x9 l H',Comes zs x9→H' l=none→Zt H H'→Q (.ref l) (upd H' l (.lst (x9.map V.str)))) :
  wpAny (model X.prog X.w) A0 (call (.builtin "sorted") [u] [(Str.ofString "key",.ref C.f)]) (EP X pins σ Q) X.xe s:=by
 subst hA;refine call_function_entry_kw kind_sorted plain_sorted entry_sorted (ksk_s1 _ _) ?_;unfold Builtin.«sorted»;refine rS (m:=checkCount "sorted" 1 1 _) (rT ?_);refine rS (qH _ λits s' hz I'=>?_);have hi:its.length=zs.length:=by rw[←hz.length,rW]
 refine rS (XM ?_ (Vz (by lia)));refine rS (lE (wpAny_call_entry_kw slot_list_sort ⟨_,oC _ rfl,rfl⟩ entry_list_sort ?_ (ksk_l1 _ _)));rw[ksk_t1];refine Zfj C hk hr I' hz hn hs how λx9 H' s3 cm sm nJ I3=>⟨_,rfl,?_⟩;exact rT ⟨_,rfl,.ref s'.heap.objs.size,_,I3,rfl,q x9 _ H' cm nJ sm⟩
theorem Zi9{r:List V→Hp→VK→Prop}{kp pos:Pos}(C:Cal X.prog X.w X.K X.mg X.base x k ps sp)(hg:Gl X "sorted")(hm:X.mg "sorted"=none)(qQ:Gl X x)(he:PE X e te)
  (hr:∀(pins:XX) (s:Shared) (σ:St) (H:Hp) (vs:List V) (us:WC) (Q:VK),Inv X pins σ H s→Vals vs us→r vs H Q→wpAny (model X.prog X.w) X.A (call (.builtin "sorted") us [(Str.ofString "key",.ref C.f)]) (EP X pins σ Q) X.xe s)
  (u7:(x==("__debug__" : Str))=false) (yT:starEach [e] X.env=(false,eval e X.env) :: starEach [] X.env)
  (y3:(backTo pos (starEach [e] X.env)).any (·.1)=false) (hkw:∀e':Expr,(backToKw pos (keywordEach [⟨some "key",e',kp⟩] X.env)).filterMap (·.1)=[Str.ofString "key"])
  (Ld:∀e':Expr,(backToKw pos (keywordEach [⟨some "key",e',kp⟩] X.env)).all (·.1.isSome)=true) (qB:∀e':Expr,(backToKw pos (keywordEach [⟨some "key",e',kp⟩] X.env)).any (·.1.isNone)=false) :
  PE X (.Call (.Name "sorted" p) [e] [⟨some "key",.Name x p2,kp⟩] pos) (tCB r (Sd te Je)):=by
 intro pins s σ H Q I h;refine iX (Qq I hg hm Pp ?_);refine PyProof.Rows.callWith_kw (thn (Za he Zb yT pos pins s σ H (λvs H1=>r vs H1 Q) I h) λus s1 ⟨vs,H1,I1,r1,hq⟩=>?_) (by rw[yT];rfl) y3 (Ld _) (qB _);refine thn (Zed (nm:=some "key") (kpos:=kp) (Vu (pos:=p2) qQ C.at_ (show RelV (.ref C.f) (.ref C.f) from rfl) u7) Zi5 pos pins s1 σ H1 (λws H2=>ws=[.ref C.f]∧H2=H1) I1 ⟨rfl,rfl⟩) λws s2 ⟨x9,H2,I2,rz,e1,e2⟩=>?_;subst e1 e2;obtain⟨w1,rfl,rF⟩:=Vals.one rz;obtain rfl:w1=Value.ref C.f:=rF;rw[hkw];exact hr pins s2 σ H2 vs us Q I2 r1 hq
theorem Zl8{x9:List Str}(h:zs.Perm x9)(a:Pa zs)(b:Pa x9):zs=x9:=by
 refine List.Perm.eq_of_pairwise (le:=λx y=>Tn y x=false) (λx y _ _ h1 h2=>?_) a b h
 rcases Decidable.em (x=y) with e|e
 ·exact e
 ·rcases Al e with z|z
  ·rw[h2]at z;cases z
  ·rw[h1]at z;cases z
end
section
variable {P:Program}{w:World}{A:Around}{E:XW}{s:Shared}
theorem Zap{r:Addr}{Pv:Nat→Value→Prop}{OK:Heap→Prop}{Q:UI}(K:W.KdlSrc P w T r d n Pv OK)(hh:A.handled=none)(hok:OK s.heap)(hn:n≤sizeLine)
  (hQ:∀(vs:WC) (h':Heap) (tk:Nat),(∀b o,s.heap.get? b=some o→h'.get? b=some o)→vs.length=n→(∀(j:Nat) v,vs[j]?=some v→Pv j v)→Q vs { s with heap:=h',toks:=tk }):wpAny (model P w) A (collect (.ref r)) Q E s:=by
 have lt:=K.there _ hok;unfold collect;refine rS (XF (iG PySem.F.entry_proto_collect ?_));rw[lV PySem.F.plain_proto_collect _];show wpAny _ A.in1 (newList [] >>= λl=>again (.builtin "list.__iadd__" ⟨[l,.ref r],[]⟩)) _ _ s;refine rS (lQ ?_);refine rT ⟨plainId_quiet bY _,iG PySem.F.entry_list_iadd ?_⟩;rw[lV bY _];show wpAny _ A.in1 (Builtin.List.listExtendWith (.ref s.heap.objs.size) (.ref r) (.ref s.heap.objs.size)) _ _ _
 refine W.kdl_extend (R:=λr s'=>match r with|.ok (.ret v)=>wpAny (model P w) A (match v with|.ref a=>(do match (←load a).data with|.seq xs _=>pure xs.toList|_=>unsupported "internal:collect")|_=>unsupported "internal:collect") Q E s'|.ok _=>False|.error e=>E e s') (s:={ s with heap:=s.heap.push { cls:=.type "list",data:=.seq ([]:List Value).toArray } }) K hh (K.keep _ _ hok λb _ o e=>rV _ e) _ (iZ lt.1) (iZ lt.2) _ 0 (oC _ rfl) (λh' tk acc c k e it=>?_) hn;refine rS (wpAny_load e (rT ?_));exact hQ acc.toList h' tk (λb o q=>k b o (oY (oD q)) (rV _ q)) (by rw[oZ];exact it.1) λj v q=>it.2 j v (by rw[←lA];exact q)
end
section
variable {X:Cx}{pins:XX}{σ:St}{H:Hp}{s:Shared}{x:Str}{k:Nat}{ps:List Str}{sp:Sp}
theorem Et{kvs:List (Key×V)}{vs:List (Key×Value)}{its:WC}(rel:KV kvs vs)(hl:its.length=vs.length)(h:∀(j:Nat) (v:Value),its[j]?=some v→∃(k:Key) (y:Value),vs[j]?=some (k,y)∧(Z0 X.prog X.w).is k v=true):Vals (kvs.map λq=>kV q.1) its:=by
 have one:∀(k:Key) (v:Value),(Z0 X.prog X.w).is k v=true→RelV (kV k) v:=λk v e=>by
  have e':Hh k v=true:=e
  cases k with
  |inl i=>
   have e2:Value.isInt i v=true:=e';unfold Value.isInt at e2
   split at e2
   ·exact⟨_,by rw[beq_iff_eq.mp e2]⟩
   ·cases e2
  |inr z=>
   have e2:Value.isStrOf z v=true:=e';unfold Value.isStrOf at e2
   split at e2
   ·exact⟨_,by rw[beq_iff_eq.mp e2]⟩
   ·cases e2
 induction rel generalizing its with
 |nil=>
  obtain rfl:its=[]:=oV hl;exact .nil
 | @cons p q _ _ r _ ih=>
  cases its with
  |nil=>cases hl
  |cons u its=>
   obtain⟨k,y,e1,e2⟩:=h 0 u rfl;refine .cons ?_ (ih (Nat.succ.inj hl) λj v e=>?_)
   ·have e3:q=(k,y):=Option.some.inj e1;have:p.1=k:=by rw[r.1,e3]
    show RelV (kV p.1) u;rw[this];exact one k u e2
   ·obtain⟨k',y',a,b⟩:=h (j+1) v (by simpa using e);exact⟨k',y',by simpa using a,b⟩
theorem Bf{kvs:List (Key×V)}{Qc:UI}(hh:A.handled=none)(I:Inv X pins σ H s)(e:H a=some (.dK kvs))(h:∀its s',Vals (kvs.map λq=>kV q.1) its→Inv X pins σ H s'→Qc its s'):
  wpAny (model X.prog X.w) A (collect (.ref a)) Qc E s:=by
 obtain⟨z,hd,vs,rel,o,es,ep,dd⟩:=Zex I.hok e;have hv:vs.length=kvs.length:=(dZ rel).symm;refine Zap (W.kdl_dict (knd:=Z0 X.prog X.w) (kvs:=vs) (ep:=ep) hd) hh ⟨o,es,dd⟩ (by lia) λits h' tk kp hl hP=>?_;exact h its _ (Et rel hl hP) (I.kept kp)
inductive Zd6(xs:List V)(H:Hp)(Q:VK):Prop
 |mk(p kvs:_)(h1:xs=[.ref p])(h2:H p=some (.dK kvs))(h3:∀l,H l=none→Q (.ref l) (upd H l (.lst (kvs.map λq=>kV q.1)))):Zd6 xs H Q
def Zp1:List V→Hp→VK→Prop:=λxs H Q=>Zd6 xs H Q
theorem Zcy(hc:X.calm=true):Yx X (.type "list") Zp1:=by
 intro pins s σ H xs us Q I r h;obtain⟨p,kvs,rfl,e,q⟩:=h;obtain⟨u,rfl,ru⟩:=Vals.one r;obtain rfl:u=Value.ref p:=ru;obtain⟨z,hd,vs,rel,o,es,ep,dd⟩:=Zex I.hok e;have hv:vs.length=kvs.length:=(dZ rel).symm;refine W.kdl_call (W.kdl_dict (knd:=Z0 X.prog X.w) (kvs:=vs) (ep:=ep) hd) (I.ok.hd hc) ⟨o,es,dd⟩ (by lia) λh' tk acc c kp hD it=>?_;have hV:=Et (X:=X) (its:=acc.toList) rel (by rw[oZ];exact it.1) λj v q=>it.2 j v (by rw[←lA];exact q);refine⟨.ref s.heap.objs.size,_,I.laid (t':=tk) kp (rX _) (show Z9 X.prog X.w _ h' _ (.lst (kvs.map λq=>kV q.1)) from⟨by rw[rW];exact z,acc.toList,c,hV,?_⟩),rfl,q _ I.fresh⟩;rw[YT];exact hD
inductive Zd3(xs:List V)(H:Hp)(Q:VK):Prop
 |mk(p kvs zs:_)(h1:xs=[.ref p])(h2:H p=some (.dK kvs))(h3:kvs.map (·.1)=zs.map Sum.inr)(h4:zs.length≤1000000)(h5:(∀z∈zs,z.length≤1000))(h6:Known zs)(h7:∀x9 l H',Comes zs x9→H' l=none→Zt H H'→Q (.ref l) (upd H' l (.lst (x9.map V.str)))):Zd3 xs H Q
def Ziq:List V→Hp→VK→Prop:=λxs H Q=>Zd3 xs H Q
theorem Eu{kvs:List (Key×V)}{zs:List Str}(h:kvs.map (·.1)=zs.map Sum.inr):(kvs.map λq=>kV q.1)=zs.map V.str:=by
 have e:=congrArg (List.map kV) h;rw[lW,lW]at e;exact e
theorem J9{kp pos:Pos}(C:Cal X.prog X.w X.K X.mg X.base x k ps sp)(hk:Za6 sp okS kfS)(hc:X.calm=true)(hr:Xi (k+2) X.A)(hg:Gl X "sorted")(hm:X.mg "sorted"=none)(qQ:Gl X x)(he:PE X e te)
  (u7:(x==("__debug__" : Str))=false:=by decide) (yT:starEach [e] X.env=(false,eval e X.env) :: starEach [] X.env:=by rfl)
  (y3:(backTo pos (starEach [e] X.env)).any (·.1)=false:=by rfl):PE X (.Call (.Name "sorted" p) [e] [⟨some "key",.Name x p2,kp⟩] pos) (tCB Ziq (Sd te Je)):=by
 refine Zi9 C hg hm qQ he (λpins s σ H vs us Q I rv h=>?_) u7 yT y3 (λ_=>rfl) (λ_=>rfl) λ_=>rfl;obtain⟨l,kvs,zs,rfl,hl,hz,hn,hs,how,q⟩:=h;obtain⟨u,rfl,ru⟩:=Vals.one rv;obtain rfl:u=Value.ref l:=ru;refine B1 rfl C hk hr hn hs how (λQc hQ=>?_) q;exact Bf (A:=X.A.in1) (I.ok.hd hc) I hl λits s' hv I'=>hQ its s' (by rw[←Eu hz];exact hv) I'
end
abbrev bmV:List Value:=[.type "ValueError",.type "Exception",.type "BaseException",.type "object"]
def Zgm(K:W.Frag)(C:Addr)(ini:VS):Bool:=match K.lookup C with
 |some ⟨.type "type",_,.cls cd,sl⟩=>match cd.mro,sl.toList with
  |.ref C' :: bm,[_,_,_,_,some (.builtin n),_]=>C'==C&&n=="ValueError.__new__" && !cd.hasDel&&cd.hasDict&&W.tailIn K bmV bm&&W.nsOkIn K cd.ns&&W.nsIn K cd.ns "__init__"==some ini
  |_,_=>false
 |_=>false
structure Zse(K:W.Frag)(h:Heap)(C:Addr)(ini:VS):Prop where
 obj:∃nm q N bs bm sn sub ab col dd k0 k1 k2 k3 k5 mN,h.get? C=some (excClassObj nm q C N bs bm true sn sub ab col dd k0 k1 k2 k3 k5 "ValueError.__new__")∧h.Ns N mN∧mN "__init__"=ini∧OwnTail h bmV bm
theorem Zmc{N:Addr}{n:Str}{r:VS}(X:K.In h)(G:h.Ns N mg)(e:W.nsIn K N n=some r):mg n=r:=by
 cases r with
 |none=>exact W.ns_none_of X G e
 |some v=>
  obtain⟨o,es,ep,ho,hd,_,hf⟩:=G;unfold W.nsIn at e
  split at e
  ·rename_i t9 n' sl q
   have z:=X _ _ q;rw[ho]at z;cases z;cases hd
   split at e
   ·rename_i en he
    cases e;rw[←hf,nsFind,findBy,←Array.find?_toList,he];rfl
   ·split at e<;>cases e
  ·cases e
theorem Zet{ini:VS}(X:K.In h)(e:Zgm K C ini=true):Zse K h C ini:=by
 unfold Zgm at e
 split at e
 ·rename_i dd cd sl ho
  split at e
  ·rename_i C' bm k0 k1 k2 k3 n k5 hm hs
   simp only[lJ,beq_iff_eq,Bool.not_eq_true']at e;obtain⟨⟨⟨⟨⟨⟨rfl,rfl⟩,Zut⟩,Zuu⟩,ht⟩,hok⟩,hni⟩:=e;obtain⟨nm,bs,mro,ns,qn,hd,sn,sub,ab,col,del⟩:=cd;dsimp only at hm Zut hok hni Zuu;subst hm Zut Zuu
   have hsl:sl = #[k0,k1,k2,k3,some (.builtin "ValueError.__new__"),k5]:=by
    cases sl;simpa using hs
   subst hsl;have G:h.Ns ns (h.nsMap ns):=.of_isNs (W.isNs_of_in X hok);exact⟨nm,qn,ns,bs,bm,sn,sub,ab,col,dd,k0,k1,k2,k3,k5,_,X _ _ ho,G,Zmc X G hni,W.tail_of_in X ht⟩
  ·cases e
 ·cases e
section
variable {prog:Program}{w:World}{A:Around}{E:XW}{s:Shared}{K:W.Frag}{C:Addr}
theorem Zkq{g:Array GenState}{d:Drawn}{t:Nat}{os:OsState}{nm q:Str}{N:Addr}{bs bm:WC}{sn:List Str}{sub:WC}{ab:Bool}{col:Option Bool}{dd:WS}{k0 k1 k2 k3 k5:VS}{rest:WC} 
  (hC:h.get? C=some (excClassObj nm q C N bs bm true sn sub ab col dd k0 k1 k2 k3 k5 "ValueError.__new__"))
  (hb:wpAny (model prog w) (A.under (.builtin "type.__call__" ⟨.ref C :: rest,[]⟩)) (Builtin.«type.__call__» ⟨.ref C :: rest,[]⟩) (λfin s'=>∃v,fin=.done (.ret v)∧Q v s') E ⟨h,g,d,t,os⟩) :
  wpAny (model prog w) A (call (.ref C) rest) Q E ⟨h,g,d,t,os⟩:=by
 have f1:=tc_lookup;have f2:=tc_bind (.ref C);have hT:(⟨h,g,d,t,os⟩:Shared).TypeIs (.ref C) "type":=⟨_,hC,rfl⟩;refine cX (YR ?_);show wpAny _ _ (callAny (.ref C) _) _ _ _
 repeat (any_goals (first|assumption|with_reducible refine aH hC ?_|wp_step))
 refine⟨rfl,?_⟩;refine codeAny_call_builtin_at (ZH _ (by decide +kernel)) entry_typeCall (wpAny_check_type_call_sub hC (iD hb (λfin s' z=>?_) λ_ _ z=>z));obtain⟨v,rfl,hv⟩:=z;exact hv
theorem Zgj{g:Array GenState}{d:Drawn}{t:Nat}{os:OsState}{nm q:Str}{N:Addr}{bs bm:WC}{sn:List Str}{sub:WC}{ab:Bool}{col:Option Bool}{dd:WS}{k0 k1 k2 k3 k5:VS}{mN:WD}{rest:WC}
  {Q:Fin→Shared→Prop} (T:OwnTail h bmV bm) (hC:h.get? C=some (excClassObj nm q C N bs bm true sn sub ab col dd k0 k1 k2 k3 k5 "ValueError.__new__")) (hN:h.Ns N mN) (hi:mN "__init__"=none) (hr:rest.length≤sizeLine)
  (hq:∀h' e,Heap.MadeExcOf h h' e (.ref C) rest→h.objs.size≤e→Q (.done (.ret (.ref e))) ⟨h',g,d,t,os⟩) :
  wpAny (model prog w) A (Builtin.«type.__call__» ⟨.ref C :: rest,[]⟩) Q E ⟨h,g,d,t,os⟩:=by
 have F:=PySem.F.excBase_ValueError
 repeat (first|with_reducible refine aH hC ?_|with_reducible refine wpAny_madeBy_exc hC ?_|wp_step)
 refine codeAny_call_builtin_code (ZH _ F.quiet) (wpAny_check_new_subT F T hC (codeAny_exc_new_subT F T hC ?_ hr));show wpAny _ _ _ _ _ _;have kp:∀b o,h.get? b=some o→((h.push { cls:=.type "tuple",data:=.seq rest.toArray }).push { cls:=.ref C,data:=.fields #[.ref h.objs.size,.none,.none,.none,.bool false,.none] }).get? b=some o:=λb o e=>rV _ (rV _ e)
 have hx:((h.push { cls:=.type "tuple",data:=.seq rest.toArray }).push { cls:=.ref C,data:=.fields #[.ref h.objs.size,.none,.none,.none,.bool false,.none] }).get? (h.objs.size+1)=some
   {cls:=.ref C,data:=.fields #[.ref h.objs.size,.none,.none,.none,.bool false,.none] }:=by heap_get
 have jM:=kp _ _ hC;have hN1:=hN.keeps kp;have T1:=T.keeps kp;have cc:(Value.ref C :: bm).contains (.ref C)=true:=by simp
 unfold isInstance
 repeat (first|with_reducible refine aH hx ?_|(with_reducible refine wpAny_isSubtype_exc jM ?_;rw[cc])|wp_step)
 show wpAny _ _ (typeLookup (.ref C) _) _ _ _;refine wpAny_typeLookup_tail jM hN1 T1 F.mroIs F.init.lookup ?_;rw[hi];refine lE (rS (ZZ (F.init.bind _) ?_));refine rS (cX (aQ F.init.plain F.initEntry (wpAny_check_init_subT F T1 jM hx rfl ?_)))
 wp_walk
 refine hq _ (h.objs.size+1) ⟨λb o hb=>?_,YK (dH _),h.objs.size+2,?_,YK (dO _ 2),?_⟩ (dH _)
 ·rw[lK _ _ (iZ (dC (oD hb)))];exact rV _ (kp b o hb)
 ·rw[iT _ (rV _ hx) rfl];simp only[iJ];rfl
 ·rw[lK _ _ (oY (iU _))];exact Heap.get?_push_at (by simp only[iJ]) rfl
theorem Zgk{rest:WC}(c:Zse K s.heap C none)(hr:rest.length≤sizeLine)(hq:∀h' e,Heap.MadeExcOf s.heap h' e (.ref C) rest→s.heap.objs.size≤e→Q (.ref e) { s with heap:=h' }):wpAny (model prog w) A (call (.ref C) rest) Q E s:=by
 obtain⟨nm,q,N,bs,bm,sn,sub,ab,col,dd,k0,k1,k2,k3,k5,mN,hC,hN,hi,T⟩:=c.obj;obtain⟨hh,g,d,t,os⟩:=s;exact Zkq hC (Zgj T hC hN hi hr λh' e m le=>⟨_,rfl,hq h' e m le⟩)
end
abbrev exO(C T:Addr)(d:WS):Obj:={ cls:=.ref C,dict:=d,data:=.fields #[.ref T,.none,.none,.none,.bool false,.none] }
section
variable {prog:Program}{w:World}{A:Around}{E:XW}{s:Shared}{K:W.Frag}{x C:Addr}{ox:Obj}{od:Option Obj}{name:Str}
theorem Zro{tk:Tok}{fill ex:Bool}(X:K.In s.heap)(I:W.InstAt s.heap x ox C od)(r6:W.findIn K (.ref C) "__getattribute__"=some (some (.builtin "BaseException.__getattribute__")))
  (mZ:W.findIn K (.ref C) "__getattr__"=some none) (i6:W.mroIn K C (.type "BaseException")=some true)
  (h:wpAny (model prog w) A.in1 (Builtin.«object.__getattribute__» ⟨[.ref x,.str name tk],[]⟩) (λfin s'=>match fin with|.done (.ret v)=>wpAny (model prog w) A (handedOut v) Q E s'|_=>False) (λ_ _=>False) s) :
  wpAny (model prog w) A (getAttrBy (.ref x) (.str name tk) fill ex) Q E s:=by
 have L0:=I.type (M:=model prog w);have L1:=W.looks_findIn (M:=model prog w) X r6;have L2:=W.looks_findIn (M:=model prog w) X mZ;have L3:W.Looks (model prog w) s.heap (isInstance (.ref x) (.type "BaseException")) true:=L0.andThen (W.looks_mroIn X i6);have G:=PySem.F.attr_ValueError.ga;have x6:(Value.builtin "BaseException.__getattribute__"==Value.builtin "object.__getattribute__")=false:=by decide +kernel
 unfold getAttrBy;refine lE (rS (L0.here (rS (L1.here ?_))));show wpAny _ _ (if (onTheHeap (Value.ref C)&&Value.builtin "BaseException.__getattribute__"==Value.builtin "object.__getattribute__")=true then getAttrEveryday (.ref x) (.str name tk) fill else getAttrByItsOwn (.ref x) (.str name tk) (.ref C) (.builtin "BaseException.__getattribute__") fill ex) _ _ _;rw[if_neg (by rw[x6,XB];decide)];unfold getAttrByItsOwn;refine rS (m:=hookBefore (.ref C)) (show wpAny _ _ (typeLookup (.ref C) "__getattr__") _ _ _ from L2.here ?_);refine rS (bI (lE ?_))
 have w8:¬ (ex&&onTheHeap (Value.builtin "BaseException.__getattribute__"))=true:=by
  show ¬ (ex&&false)=true;rw[XB];decide
 unfold callGetattribute;rw[if_neg w8];unfold boundAndCalled;rw[G.bind];refine rS (rT ?_);show wpAny _ _ (call (.builtin "BaseException.__getattribute__") [.ref x,.str name tk]) _ _ _;have k1:builtinKind "BaseException.__getattribute__"=some .slot:=by decide +kernel
 have k2:splitId "BaseException.__getattribute__"=some ("BaseException","__getattribute__"):=by decide +kernel
 refine cX ?_;refine aQ G.plain PySem.F.entry_bexc_ga ?_;refine @W.check_slot (model prog w) _ _ s "BaseException.__getattribute__" "BaseException" "__getattribute__" (.ref x) [.str name tk] [] _ k1 k2 L3 (PySem.F.args_bexc_ga _ _) ?_;refine iD h (λfin s' z=>?_) λ_ _ z=>z.elim
 rcases fin with (_|_|_|_)|_<;>first|exact z|exact z.elim
theorem Zgl{Q:WX}(X:K.In s.heap)(I:W.InstAt s.heap x ox C od)(r6:W.findIn K (.ref C) "__getattribute__"=some (some (.builtin "BaseException.__getattribute__")))
  (mZ:W.findIn K (.ref C) "__getattr__"=some none) (i6:W.mroIn K C (.type "BaseException")=some true) (hm:W.mroIn K C (.type "object")=some true)
  (hf:W.findObj K C od "__class__"=some (.bind (.builtin "getset_descriptor.__get__") (.builtin "object.__class__"))) (h:Q (some (.ref C)) { s with toks:=s.toks+1 }):wpAny (model prog w) A (getAttr? (.ref x) "__class__") Q E s:=by
 unfold getAttr? getAttrBy?;refine rS (wpAny_mkText (rS (bI ?_)))
 refine Zro (s:={ s with toks:=s.toks+1 }) X I r6 mZ i6 ?_;obtain⟨hh',g,d,t,os⟩:=s;have L0:=I.type (M:=model prog w);have L1:=W.looks_find (M:=model prog w) X I hf;refine rS (rT ?_);refine rS (rT ?_);refine rS (L0.at ?_);refine rS (L1.at ?_);show wpAny _ _ (holding [Value.builtin "object.__class__"] (call (.builtin "getset_descriptor.__get__") [.builtin "object.__class__",.ref x,.ref C]) >>= ret) _ _ _;refine rS (lE (cX (W.class_get (s:=⟨hh',g,d,t+1,os⟩) X I hm ?_)));refine rT ?_;exact W.handed_on rfl (rT h)
def Zjg:List Value→Bool
 |[]=>false
 |v :: r=>(v :: r)==bmV||match v with|.ref _=>Zjg r|_=>false
end
def exH(a C:Addr)(d:WS):HO:=.ext λh=>∃T,h.get? a=some (exO C T d)
def xdH(dx:Addr)(fs:List (Str×V)):HO:=.ext λh=>∃mA,h.Ns1 dx mA∧(∀f,O7 (fs.lookup f) (mA f))∧PySem.Within mA (fs.map (·.1))
def Zrp(K:W.Frag)(C:Addr):Bool:=
 W.findIn K (.ref C) "__getattribute__"==some (some (.builtin "BaseException.__getattribute__"))&&W.findIn K (.ref C) "__getattr__"==some none&&W.mroIn K C (.type "BaseException")==some true&&W.mroIn K C (.type "object")==some true &&
  (W.clsIn K C).any (λcd=>cd.hasDict&&Zjg cd.mro)&&W.findIn K (.ref C) "__setattr__"==some (some (.builtin "object.__setattr__"))&&W.findIn K (.ref C) "__class__"==some (some (.builtin "object.__class__")) &&
  W.specialIn K (.builtin "object.__class__") "__get__"==some (some (.builtin "getset_descriptor.__get__"))&&W.takesIn K (.builtin "object.__class__")==some true
structure Zni(K:W.Frag)(C:Addr):Prop where
 ga:W.findIn K (.ref C) "__getattribute__"=some (some (.builtin "BaseException.__getattribute__"))
 gn:W.findIn K (.ref C) "__getattr__"=some none
 be:W.mroIn K C (.type "BaseException")=some true
 ob:W.mroIn K C (.type "object")=some true
 cl:∃cd,W.clsIn K C=some cd∧cd.hasDict=true∧Zjg cd.mro=true
 sa:W.findIn K (.ref C) "__setattr__"=some (some (.builtin "object.__setattr__"))
 cc:W.findIn K (.ref C) "__class__"=some (some (.builtin "object.__class__"))
 cg:W.specialIn K (.builtin "object.__class__") "__get__"=some (some (.builtin "getset_descriptor.__get__"))
 ct:W.takesIn K (.builtin "object.__class__")=some true
theorem Zmz(e:Zrp K C=true):Zni K C:=by
 unfold Zrp at e;simp only[lJ,beq_iff_eq]at e;obtain⟨⟨⟨⟨⟨⟨⟨⟨e1,e2⟩,e3⟩,e4⟩,e5⟩,e6⟩,e7⟩,e8⟩,e9⟩:=e;obtain⟨cd,h1,h2⟩:=W.any_some e5;simp only[lJ]at h2;exact⟨e1,e2,e3,e4,⟨cd,h1,h2.1,h2.2⟩,e6,e7,e8,e9⟩
section
variable {X:Cx}{pins:XX}{σ:St}{H:Hp}{s:Shared}{a C:Addr}{fs:List (Str×V)}{A:Around}{E:XW}
theorem Zrq{e:Addr}(I:Inv X pins σ H s)(m:Heap.MadeExcOf s.heap h' e (.ref C) us)(le:s.heap.objs.size≤e):Inv X pins σ (upd H e (exH e C none)) { s with heap:=h' }:=by
 obtain⟨T,g,_⟩:=m.there;exact I.laid (t':=s.toks) m.keeps le ⟨⟨T,g⟩,⟨_,g⟩,λk1 k2 ⟨T',q⟩ k=>⟨T',k _ q⟩⟩
def Zsr(C:Addr)(t:TA):TE:=λσ H Q=>t σ H λvs H1=>vs.length≤1000∧∀e,H1 e=none→Q (.ref e) (upd H1 e (exH e C none))
theorem Zl4{pos:Pos}(c:Zgm X.K C none=true)(hk:W.keepIn X.K (.ref C)=true)(hm:X.mg x=some (.ref C))(hg:Gl X x:=by rfl)(u7:(x==("__debug__" : Str))=false:=by decide):PE X (.Call (.Name x p) [] [] pos) (Zsr C Je):=by
 intro pins s σ H Q I h;refine iX (Pl I hg hm ?_ u7);refine W.callWith_K0 I.kIn hk (Zgk (Zet I.kIn c) (lB _) λh' e m le=>?_);exact⟨.ref e,_,Zrq I m le,rfl,h.2 e (I.hok.fresh le)⟩
theorem Zjz{x D:Addr}{ox:Obj}{od:Option Obj}(c:Zni K D):W.KitX K (.ref x) (.ref D) (λh=>W.InstAt h x ox D od) where
 ty:=λ_ _ _ I=>I.type
 it:=λ_ _ X _=>by
  obtain⟨cd,hc,_⟩:=c.cl;unfold W.clsIn at hc
  split at hc
  ·rename_i ho
   intro A' Q' E' s' k q;unfold isType loadHead;exact rS (wpAny_loadPart (k _ _ (X _ _ ho)) (rT q))
  ·cases hc
 ne:=λh tp dd its n sl X kG=>by
  obtain⟨cd,hc,_⟩:=c.cl;refine Bool.eq_false_iff.mpr λq=>?_;obtain rfl:D=tp:=Value.ref.inj (beq_iff_eq.mp q);unfold W.clsIn at hc
  split at hc
  ·rename_i ho
   cases (X _ _ ho).symm.trans kG
  ·cases hc
 ca:=λX I k=>by
  obtain⟨cd,hc,_⟩:=c.cl;refine Zgl X I c.ga c.gn c.be c.ob ?_ k;unfold W.findObj;rw[hc,Option.bind_some,c.cc,Option.bind_some];simp[c.cg,c.ct]
end
theorem Fq:bootBuiltins "ValueError"=some (.type "ValueError"):=by decide +kernel
theorem Ri:entryFor table "dict.update.loop"=some Builtin.«dict.update.loop»:=entryFor_of_tree (by kernel_rfl)
theorem Ws:plainId "dict.update.loop"=true:=by decide +kernel
theorem C4:typeLookup (.type "list") "keys"=pure none:=by rw[typeLookup_type,builtinLookup_eq_fast];kernel_rfl
section
variable {P:Program}{w:World}{A:Around}{E:XW}{s:Shared}
theorem Zf4{xs:WN}{k:Nat}{Q:WX}(hx:s.heap.get? a=some o)(hc:o.cls=.type "list")(Zuv:o.data=.seq xs k)(hd:o.dict=none)(hA:A.handled=none)
  (h:∀h' tk,(∀b u,s.heap.get? b=some u→h'.get? b=some u)→Q none { s with heap:=h',toks:=tk }):wpAny (model P w) A (getAttr? (.ref a) "keys") Q E s:=by
 obtain⟨c,dct,dat,sl⟩:=o;simp only at hc Zuv hd;subst hc Zuv hd;obtain⟨hp,g,d,tk,os⟩:=s;have hT:∀l8,(⟨hp,g,d,l8,os⟩:Shared).TypeIs (.ref a) "list":=λ_=>⟨_,hx,rfl⟩;have f1:=sub_AttributeError;have f3:=ZJ.lookup;have f4:=ZJ.bind (.ref a);have f5:=am_list_getattr_none;have Zup:=C4;unfold getAttr? getAttrBy? getAttrBy
 repeat (any_goals (first|assumption|exact hT _|((with_reducible show wpAny _ _ (call (Value.builtin "list.__getattribute__") _ _) _ _ _);refine call_meets ZJ (hT _) am_entry_list_getattribute (F.args_list_getattribute_2 _ _) (meets_getattribute_miss_list a xs k sl "keys" _ Zup (by decide) (by size_fits)) ⟨hx,hA,λh' l8 e m9=>?_⟩)|wp_step))
 obtain⟨t',u',he⟩:=m9.there;have kp:=m9.keeps;have hTe:∀rK,(⟨h',g,d,rK,os⟩:Shared).TypeIs (.ref e) "AttributeError":=λ_=>⟨_,he,rfl⟩;show wpAny _ _ (getattributeRaised _ _ _ _ _ _ _) _ _ _;unfold getattributeRaised
 repeat (any_goals (first|assumption|exact hTe _|wp_step))
 all_goals exact h _ _ kp
theorem Kz{κ:Type} [DecidableEq κ] {knd:PySem.KeyKind P w κ}{h h':Heap}{kvs:List (κ×Value)} (x:h.DictOf knd a kvs) (hk:∀o,h.get? a=some o→h'.get? a=some o):h'.DictOf knd a kvs:=
 let ⟨o,es,ep,e,r⟩:=x;⟨o,es,ep,hk _ e,r⟩
def Zda{κ:Type} [DecidableEq κ] (knd:PySem.KeyKind P w κ) (h:Heap) (away:Addr→Prop) (rs:List (κ×Value)) (i:Nat) (v:Value):Prop:=
 ∃(a:Addr) (o:Obj) (key y:Value) (kk:κ) (c:Nat),v=.ref a∧away a∧h.get? a=some o∧o.cls=.type "tuple"∧o.data=.seq #[key,y] c∧rs[i]?=some (kk,y)∧knd.is kk key=true
theorem Zgp{κ:Type} [DecidableEq κ] {knd:PySem.KeyKind P w κ}{wr:VB}{Pv:Nat→Value→Prop}{St:Nat→Heap→Prop}
  (W:Walks P w A.in1 I fp wr n Pv St) (eU:d∉fp) (rs:List (κ×Value)) (hn:rs.length=n) (hz:n≤sizeLine) :
  ∀(k i:Nat) (j:Int) (s:Shared),n-i=k→i≤n→St i s.heap→s.heap.DictOf knd d (merged [] (rs.take i))→
   (∀i v,Pv i v→Zda knd s.heap (λa=>a∉wr∧a≠d) rs i v)→
   (∀h' tk,(∀b o,b≠d→b∉wr→s.heap.get? b=some o→h'.get? b=some o)→h'.DictOf knd d (merged [] rs)→R (.ok (.ret .none)) { s with heap:=h',toks:=tk })→
   codeAny (model P w) A (.builtin "dict.update.loop" ⟨[.ref d,.ref I,rawInt j,.none],[]⟩) R s:=by
 have hdw:d∉wr:=λh=>eU (W.sub _ h);intro k
 induction k with
 |zero=>
  intro i j s hk hi y0 hD hP hR;have w5:i=n:=by lia
  subst w5;refine iG Ri ?_;rw[lV Ws _];show wpAny _ A.in1 (pyNext (.ref I) >>= _) _ _ s;refine rS (W.done s _ _ y0 λh' tk kp=>?_);show wpAny _ A.in1 (Builtin.Dict.addKeywords d [] >>= λ_=>ret Value.none) _ _ _;refine rS (rT (rT (hR h' tk (λb o _ hb e=>kp b o hb e) ?_)));rw[←hn,lX]at hD;exact Kz hD λo e=>kp d o hdw e
 |succ k ih=>
  intro i j s hk hi y0 hD hP hR;have x5:i<n:=by lia
  refine iG Ri ?_;rw[lV Ws _];show wpAny _ A.in1 (pyNext (.ref I) >>= _) _ _ s;refine rS (W.item i s _ _ x5 y0 λv h1 tk hPv pB eX=>?_);obtain⟨a,o,key,y,kk,c,rfl,aw,ho,kE,nM,i9,Hk⟩:=hP i v hPv;have ho1:=eX a o aw.1 ho;have hT:(Shared.mk h1 s.gens s.drawn tk s.os).TypeIs (.ref a) "tuple":=⟨_,ho1,kE⟩;have vE:h1.DictOf knd d (merged [] (rs.take i)):=Kz hD λo e=>eX d o hdw e;refine rS (lE (rS (bQ ?_)));unfold Builtin.Dict.pairItems;refine rS (YL hT ?_);rw[if_pos (by decide)];refine rS (dE ho1 nM (rT ?_))
  have nE:(merged [] (rs.take i)).length≤sizeLine:=by
   have:=merged_length_le ([]:List (κ×Value)) (rs.take i);rw[iE]at this;simp only[bG]at this;lia
  refine lE (wpAny_dictSet_pairs (hsz:=nE) Hk vE λh2 jN yS=>?_);have hD3:h2.DictOf knd d (merged [] (rs.take (i+1))):=by rw[merged_take_succ _ _ _ _ i9];exact jN
  refine rT ⟨plainId_quiet Ws _,ih (i+1) (j+1) _ (by lia) x5 (W.frame _ _ _ pB λb hb o e=>?_) hD3 (λi' v' hP'=>?_) λh3 tk3 kp3 hD4=>?_⟩
  ·exact(yS.2 b (λz:b=d=>eU (z▸hb))).trans e
  ·obtain⟨a',o',Zqx,y',fB,c',e1,zH,z0,r'⟩:=hP i' v' hP';exact⟨a',o',Zqx,y',fB,c',e1,zH,(yS.2 a' zH.2).trans (eX a' o' zH.1 z0),r'⟩
  ·exact hR h3 tk3 (λb o hb hw e=>kp3 b o hb hw ((yS.2 b hb).trans (eX b o hw e))) hD4
theorem Kl{κ:Type} [DecidableEq κ] {knd:PySem.KeyKind P w κ}{l:Addr}{c:Nat}{rs:List (κ×Value)} (hh:A.handled=none) (ho:s.heap.get? l=some o) (hc:o.cls=.type "list") (yK:o.dict=none) (hd:o.data=.seq items c)
  (hn:rs.length=items.size) (hz:items.size≤sizeLine) (hP:∀i v,items[i]?=some v→Zda knd s.heap (λ_=>True) rs i v)
  (h:∀h' tk,(∀b u,s.heap.get? b=some u→h'.get? b=some u)→h'.DictOf knd s.heap.objs.size (merged [] rs)→Q (.ref s.heap.objs.size) { s with heap:=h',toks:=tk }):wpAny (model P w) A (call (.type "dict") [.ref l]) Q E s:=by
 refine callType_codes (Q₁:=λobj x3=>obj=.ref s.heap.objs.size∧x3 = { s with heap:=s.heap.push { cls:=.type "dict",data:=.dict #[] } }) F.kt_called_dict (F.kt_typeCall_dict_1 _) F.entry_dict_init (kt_code_dict_new _ ⟨rfl,rfl⟩) ?_;rintro obj x3 ⟨rfl,rfl⟩;have Zra:(s.heap.push { cls:=.type "dict",data:=.dict #[] }).DictOf knd s.heap.objs.size []:=Heap.DictOf.new s.heap;have z0:=rV { cls:=.type "dict",data:=.dict #[] } ho;have hT:(Shared.mk (s.heap.push { cls:=.type "dict",data:=.dict #[] }) s.gens s.drawn s.toks s.os).TypeIs (.ref l) "list":=⟨_,z0,hc⟩;refine⟨Zra.typeIs,F.args_dict_init_2 _ _,?_⟩;unfold Builtin.«dict.__init__»;refine rS ?_;unfold Builtin.Dict.selfAndRest;refine rS (YH Zra.typeIs ?_);show wpAny _ _ (pure (s.heap.objs.size,[Value.ref l])) _ _ _;refine rT ?_;show wpAny _ _ (Builtin.Dict.updateFrom "dict.__init__" s.heap.objs.size (.ref l) [] .none) _ _ _;unfold Builtin.Dict.updateFrom;refine rS (YL hT ?_);rw[if_pos (by decide)];refine rS (Zf4 z0 hc hd yK hh λh1 tk1 eX=>?_);rw[if_pos (show (none:VS).isNone=true from rfl)];refine rS (cA ?_);have ll:=oD ho;have j0:h1.IsList l items:=⟨o,eX _ _ z0,hc,c,hd⟩;have Zou:h1.DictOf knd s.heap.objs.size []:=Kz Zra λo e=>eX _ o e;have uZ:s.heap.objs.size<h1.objs.size:=let ⟨_,_,_,e,_⟩:=Zou;oD e
 refine rS (bK j0 ?_);refine rT ⟨plainId_quiet Ws _,?_⟩;have W:=YO (prog:=P) (w:=w) (A:=A.in1.in1) hh h1.objs.size l (oY (Nat.lt_trans ll uZ)) items;refine Zgp (A:=A.in1) (knd:=knd) W (d:=s.heap.objs.size) ?_ rs hn hz items.size 0 0 _ rfl (lB _) ⟨?_,?_⟩ ?_ (λi v hv=>?_) λh2 xU kp2 jN=>⟨rfl,?_⟩
 ·intro hm
  rcases oH.mp hm with e|hm
  ·exact absurd e (oY uZ)
  ·rcases oH.mp hm with e|hm
   ·exact absurd e (iZ ll)
   ·cases hm
 ·exact⟨_,oC _ rfl,rfl,rfl⟩
 ·exact⟨o,rV _ (eX _ _ z0),hc,c,hd⟩
 ·exact Kz Zou λo e=>rV _ e
 ·obtain⟨a,o2,key,y,kk,c2,e1,_,xM,r⟩:=hP i v hv;have l2:=oD xM;refine⟨a,o2,key,y,kk,c2,e1,⟨λhm=>?_,oY l2⟩,rV _ (eX _ _ (rV _ xM)),r⟩;rw[rY.mp hm]at l2;exact absurd l2 (Nat.not_lt.mpr (cE uZ))
 ·refine h h2 xU (λb u e=>?_) jN;have lb:=oD e;exact kp2 b u (oY lb) (λhm=>by rw[rY.mp hm]at lb;exact absurd lb (Nat.not_lt.mpr (cE uZ))) (rV _ (eX _ _ (rV _ e)))
end
section
variable {X:Cx}
inductive Zd9(xs:List V)(H:Hp)(Q:VK):Prop
 |mk(p:Addr)(its:List V)(kvs:List (Key×V))(h1:xs=[.ref p])(h2:H p=some (.lst its))(h3:its.length=kvs.length)(h4:(∀(i:Nat) x kv,its[i]?=some x→kvs[i]?=some kv→∃a,x=.ref a∧H a=some (.tup [kV kv.1,kv.2])))(h5:∀l,H l=none→Q (.ref l) (upd H l (.dK (To [] kvs)))):Zd9 xs H Q
def Zix:List V→Hp→VK→Prop:=λxs H Q=>Zd9 xs H Q
theorem Zml(I:Inv X pins σ H s):∀{its:List V}{us:WC}{kvs:List (Key×V)},Vals its us→its.length=kvs.length→(∀(i:Nat) x kv,its[i]?=some x→kvs[i]?=some kv→∃a,x=.ref a∧H a=some (.tup [kV kv.1,kv.2]))→
  ∃rs:List (Key×Value),KV kvs rs∧∀i v,us[i]?=some v→Zda (Z0 X.prog X.w) s.heap (λ_=>True) rs i v:=by
 intro its us kvs r
 induction r generalizing kvs with
 |nil=>
  intro hl _;obtain rfl:kvs=[]:=oV hl.symm;exact⟨[],.nil,λi v e=>by simp at e⟩
 | @cons x u its us rx r ih=>
  intro hl hP
  cases kvs with
  |nil=>cases hl
  |cons kv kvs=>
   obtain⟨rs,rk,i9⟩:=ih (Nat.succ.inj hl) λi x kv' e1 e2=>hP (i+1) x kv' (by simpa using e1) (by simpa using e2);obtain⟨a,rfl,ha⟩:=hP 0 x kv rfl rfl;obtain rfl:u=Value.ref a:=rx;obtain⟨vs,rv,⟨o,e,oc,n,od⟩,_⟩:=I.tuple (SqT.of ha)
   cases rv with
   |cons r1 rv=>
    cases rv with
    |cons r2 rv=>
     cases rv
     rename_i u1 u2
     refine⟨(kv.1,u2) :: rs,.cons ⟨rfl,r2⟩ rk,λi v hv=>?_⟩
     cases i with
     |zero=>
      cases hv;exact⟨a,_,u1,u2,kv.1,n,rfl,trivial,e,oc,od,rfl,Ls r1⟩
     |succ i=>
      obtain⟨a',o',Zqx,y',fB,c',q⟩:=i9 i v (by simpa using hv);exact⟨a',o',Zqx,y',fB,c',by simpa using q⟩
theorem Gi(hc:X.calm=true):Yx X (.type "dict") Zix:=by
 intro pins s σ H xs us Q I r h;obtain⟨p,its,kvs,rfl,e,hl,hP,q⟩:=h;obtain⟨u,rfl,ru⟩:=Vals.one r;obtain rfl:u=Value.ref p:=ru;obtain⟨vs,rv,pl,hz⟩:=I.list (SqL.of e);obtain⟨rs,rk,i9⟩:=Zml I rv hl hP;obtain⟨o,n,ho,kE,nM,yQ⟩:=pl;have xP:=rv.length;have vU:kvs.length=rs.length:=dZ rk;refine Kl (knd:=Z0 X.prog X.w) (rs:=rs) (I.ok.hd hc) ho kE nM yQ (by rw[oF];lia) (by rw[oF];lia) (λi v hv=>i9 i v (by simpa using hv)) λh' tk kp dd=>?_
 have hm:(To [] kvs).length≤sizeLine:=by
  have:=Tp kvs [];simp only[bG]at this;lia
 exact⟨.ref s.heap.objs.size,_,I.laid (t':=tk) kp (rX _) (Zcu hm (beq_eq_false_iff_ne.mpr (iZ I.big)) (rk.merge .nil) dd),rfl,q _ I.fresh⟩
end
section
variable {P:Program}{w:World}{A:Around}{E:XW}{s:Shared}{d:Addr}{vs:WC}{ep:Nat}
end
section
variable {X:Cx}{pins:XX}{σ:St}{H:Hp}{s:Shared}{x:Str}{k:Nat}{ps:List Str}{sp:Sp}
end
section
open PySem.W (KasT kas_asc kas_desc kas_tail3 kas_descPart kas_count kas_place kas_bin kas_sort kas_rev)
variable {n:Nat}{key:Nat→Nat}{p:VM}
end
section
open PySem.W (kas_sort kas_ask kas_item)
variable {X:Cx}{pins:XX}{σ:St}{H:Hp}{s:Shared}
end
section
variable {P:Program}{w:World}{A:Around}{E:XW}{s:Shared}
def Gr(D:List Str)(i:Nat)(v:Value):Prop:=∃z t,D[i]?=some z∧v=.str z t
theorem Zci{wr:VB}{G:Array GenState→Array GenState→Prop}{D:List Str}{St:UW}(W:WalksS P w A.in1 I fp wr G D.length (Gr D) St)(S:Addr)(l9:S∉fp)
  (hb:D.length+1<4096):∀(k i:Nat) (s:Shared) (o:Obj),D.length-i=k→i≤D.length→St i s→s.heap.get? S=some o→Vj w o (D.take i) i→
   (∀s' o',Moved (S :: wr) G s s'→s'.heap.get? S=some o'→Vj w o' D D.length→R (.ok (.ret .none)) s')→
   codeAny (model P w) A (.builtin "set.update.loop" ⟨[.ref S,.ref I],[]⟩) R s:=by
 have gH:S∉wr:=λh=>l9 (W.sub _ h);have Oa:∀b∈wr,b∈S :: wr:=λb hb=>oO _ hb;intro k
 induction k with
 |zero=>
  intro i s o hk hi y0 ho hS hR;have w5:i=D.length:=by lia
  subst w5;refine iG dY ?_;rw[lV iP _];show wpAny _ A.in1 (pyNext (.ref I) >>= _) _ _ s;refine rS (W.done s _ _ y0 λs' hm=>rT (hR s' o (hm.mono Oa) (hm.heap S _ gH ho) ?_));rw[cY (rX _)]at hS;exact hS
 |succ k ih=>
  intro i s o hk hi y0 ho hS hR;have x5:i<D.length:=by lia
  refine iG dY ?_;rw[lV iP _];show wpAny _ A.in1 (pyNext (.ref I) >>= _) _ _ s;refine rS (W.item i s _ _ x5 y0 λv s' hP Zq6 hm=>?_);obtain⟨z,u,hz,rfl⟩:=hP;show wpAny _ A.in1 (holding [Value.str z u] (setAdd S (.str z u)) >>= _) _ _ s';unfold setAdd;refine rS (lE (lE (rS ?_)));refine(PySem.strKind P w).pyHash (k:=z) (by show Value.isStrOf z (.str z u)=true;simp[Value.isStrOf]) ?_
  refine Za2 (s:={ s' with toks:=s'.toks+1 }) (hm.heap S _ gH ho) hS (by lia) z u λ_ h' o' b8 e2 yG=>?_
  have jU:Vj w o' (D.take (i+1)) (i+1):=by
   have e:D.take (i+1)=D.take i++[z]:=by rw[iV,hz];rfl
   rw[e];exact yG
  refine rT ⟨plainId_quiet iP _,ih (i+1) _ o' (by lia) x5 (W.frame _ s' _ _ Zq6 (dH _) λb hb o e=>?_) e2 jU λxT fT Zrc zO Zrj=>?_⟩
  ·exact(b8.2 b (λz:b=S=>l9 (z▸hb))).trans e
  ·exact hR xT fT (Moved.trans W.gtrans ((hm.mono Oa).then_heap (dH _) λb o hb e=>(b8.2 b (λz:b=S=>hb (by rw[z];exact oE))).trans e) Zrc) zO Zrj
theorem sub_list_set:isSubtype (.type "list") (.type "set")=pure false:=by rw[isSubtype_type];kernel_rfl
theorem sub_list_frozenset:isSubtype (.type "list") (.type "frozenset")=pure false:=by rw[isSubtype_type];kernel_rfl
theorem Bt{l:Addr}(hh:A.handled=none)(x6:l≠I){D:List Str}(hn:items.size=D.length)(hD:∀(i:Nat) v,items[i]?=some v→Gr D i v):Walks P w A I [I,l] [I] D.length (Gr D) (λi h=>h.IsListIter I l i∧h.IsList l items):=
 let W:=YO (prog:=P) (w:=w) (A:=A) hh I l x6 items
 {sub:=W.sub,frame:=W.frame,self:=W.self,done:=λs Q E st hQ=>W.done s Q E (by rw[hn];exact st) hQ
  item:=λi s Q E hi st hQ=>W.item i s Q E (by rw[hn];exact hi) st λv h' tk p=>hQ v h' tk (hD i v p) }
set_option maxHeartbeats 3200000 in
theorem Gf(hh:A.handled=none){l:Addr}{D:List Str}(hl:s.heap.IsList l items)(hn:items.size=D.length)(hD:∀(i:Nat) v,items[i]?=some v→Gr D i v)(hb:D.length+1<4096)
  (hQ:∀h' tk o,(∀b o,s.heap.get? b=some o→h'.get? b=some o)→h'.get? s.heap.objs.size=some o→Vj w o D D.length→Q (.ref s.heap.objs.size) { s with heap:=h',toks:=tk }) :
  wpAny (model P w) A (call (.type "set") [.ref l]) Q E s:=by
 obtain⟨c,tl,nH⟩:=lS.mro;have Zuq:=lS.made;have Oa:=lS.sub;refine cX (YR ?_);show wpAny _ _ (callAny (.type "set") _) _ _ _;refine rT ⟨ZH _ (by decide +kernel),iG PySem.F.entry_type_call ?_⟩;rw[Around.under_plain (weight_type_call_type "set" [.ref l] []) rfl];have h1:=lS.notType;have h2:=lS.canCreate;have hct:=PySem.F.typeCall_set_1 (.ref l)
 repeat (any_goals (first|assumption|wp_step))
 refine dP (A1 (.ref l) (E:=E) (Q₁:=λobj x3=>obj=.ref s.heap.objs.size∧x3 = { s with heap:=s.heap.push (Yf w) }) ⟨rfl,rfl⟩) λr x3 hr=>?_
 cases r with
 |error e=>exact hr
 |ok fl=>
  cases fl with
  |ret obj=>
   obtain⟨rfl,rfl⟩:=hr;have hS:(s.heap.push (Yf w)).get? s.heap.objs.size=some (Yf w):=oC _ rfl
   have hT:Shared.TypeIs { s with heap:=s.heap.push (Yf w) } (.ref s.heap.objs.size) "set":=⟨_,hS,rfl⟩;have j0:(s.heap.push (Yf w)).IsList l items:=let ⟨o,e,r⟩:=hl;⟨o,rV _ e,r⟩
   have ll:l<s.heap.objs.size:=let ⟨_,e,_⟩:=hl;oD e
   have hTl:Shared.TypeIs { s with heap:=s.heap.push (Yf w) } (.ref l) "list":=j0.typeIs;have vQ:=lS.init.lookup;have hbi:=lS.init.bind (.ref s.heap.objs.size)
   repeat (any_goals (first|assumption|wp_step))
   refine dP (aQ (R:=wants (λr y6=>r=.none∧∃h' tk o,y6 = { s with heap:=h',toks:=tk }∧(∀b o,s.heap.get? b=some o→h'.get? b=some o)∧h'.get? s.heap.objs.size=some o∧
    Vj w o D D.length) E) lS.init.plain PySem.F.entry_set_init (check_set_init_1 hT ?_)) λmD y6 u9=>?_
   ·have pA:=sub_list_set;have nZ:=sub_list_frozenset;have x6:(Value.type "list"==Value.type "dict")=false:=by decide
    have hU:(s.heap.push (Yf w)).get? s.heap.objs.size=some { cls:=.type "set",dict:=none,data:=.set #[] 0 (.fresh 0 0 (!w.params.followText "set-order")) }:=hS;unfold Builtin.«set.__init__» noKeywords Builtin.Frozenset.updateFrom;generalize jS:pyIter=PI
    wp_walk
    subst jS;refine bK j0 (rS (XF ?_));have sz:(s.heap.push (Yf w)).objs.size=s.heap.objs.size+1:=iJ _ _
    have l9:s.heap.objs.size∉[(s.heap.push (Yf w)).objs.size,l]:=by
     rw[sz];intro z
     rcases oH.mp z with z|z
     ·exact absurd z (oY (iU _))
     ·exact absurd (rY.mp z) (iZ ll)
    refine Zci (Bt (A:=A.in1.in1.in1) (by simp[hh]) (by rw[sz];exact oY (dC ll)) hn hD).toS s.heap.objs.size l9 hb (D.length-0) 0 _ (Yf w) (by lia) (lB _) ?_ ?_ (Zom w) λs' o' hm e' yG=>?_
    ·obtain⟨o,e,r⟩:=j0;exact⟨⟨_,oC _ rfl,rfl,rfl⟩,⟨o,rV _ e,r⟩⟩
    ·exact rV _ hS
    obtain⟨h',g',d',l8,xA⟩:=s';have eg:g'=s.gens:=hm.gens;have ed:d'=s.drawn:=hm.drawn;have eo:xA=s.os:=hm.os;subst eg;subst ed;subst eo;show wpAny _ _ _ _ _ _;refine rT (rT ⟨rfl,h',l8,o',rfl,λb o e=>?_,e',yG⟩);have lt:=oD e;refine hm.heap b o (λz=>?_) (rV _ (rV _ e))
    rcases oH.mp z with z|z
    ·exact iA _ (z▸lt)
    ·have z2:=rY.mp z;rw[iJ]at z2;have:=z2▸lt;exact iA _ (XO this)
   ·cases mD with
    |error e=>exact u9
    |ok o9=>
     cases o9 with
     |ret r=>
      obtain⟨rfl,h',tk,o,rfl,qU,e',hU⟩:=u9
      repeat (any_goals (first|assumption|wp_step))
      exact hQ h' tk o qU e' hU
     |_=>exact u9.elim
  |_=>exact hr.elim
end
section
variable {X:Cx}
inductive Zir(K:W.Frag)(w:World)(xs:List V)(H:Hp)(Q:VK):Prop
 |mk(p zs:_)(h1:xs=[.ref p])(h2:SqL K H p (zs.map V.str))(h3:zs.length+1<4096)(h4:∀l,H l=none→Q (.ref l) (upd H l (Cc w l zs zs.length))):Zir K w xs H Q
def Zte(K:W.Frag)(w:World):List V→Hp→VK→Prop:=λxs H Q=>Zir K w xs H Q
theorem Zbg{its:WC}(r:Vals (zs.map V.str) its)(i:Nat)(v:Value)(h:its[i]?=some v):Gr zs i v:=by
 have hi:i<its.length:=(oG.mp h).1;have hl:i<zs.length:=by rw[←r.length,rW]at hi;exact hi
 obtain⟨u,hu,t,rfl⟩:=Vals.get (i:=i) (x:=V.str zs[i]) r (by rw[oP,rZ hl];rfl);rw[h]at hu;exact⟨zs[i],t,rZ hl,Option.some.inj hu⟩
theorem Zcx(hc:X.calm=true)(hK:X.K=K:=by rfl):Yx X (.type "set") (Zte K X.w):=by
 subst hK;intro pins s σ H xs us Q I r h;obtain⟨p,zs,rfl,hp,hz,q⟩:=h;obtain⟨u,rfl,ru⟩:=vals1 r;obtain rfl:u=Value.ref p:=ru;obtain⟨its,rv,pl,_⟩:=I.list hp;have hl:its.length=zs.length:=by rw[←rv.length,rW]
 refine Gf (I.ok.hd hc) pl.isList (by rw[oF];exact hl) (λi v e=>Zbg rv i v (by simpa using e)) hz λh' tk o k e sx=>?_;exact⟨.ref s.heap.objs.size,_,I.laid k (rX _) (show Z9 X.prog X.w _ h' _ (Cc X.w s.heap.objs.size zs zs.length) from⟨⟨o,e,sx⟩,⟨o,e⟩,λh1 h2 ⟨o1,e1,x1⟩ k1=>⟨o1,k1 o1 e1,x1⟩⟩),rfl,q _ (I.hok.fresh (rX _))⟩
end
section
variable {P:Program}{w:World}{A:Around}{E:XW}{s:Shared}{t r:Addr}{items:WN}
end
section
variable {X:Cx}
end
section
variable {X:Cx}{tg:Expr}
end
def FnO(f:Addr)(fd:FuncData):HO:=.ext λh=>h.get? f=some { cls:=.type "function",data:=.func fd }
def CdO(c:Addr)(q:Str):HO:=.ext λh=>h.CodeRec (.ref c) q
section
variable {P:Program}{w:World}{H:Hp}{h h':Heap}{f c a:Addr}{fd:FuncData}{q:Str}
theorem Zkm(e:h.get? f=some { cls:=.type "function",data:=.func fd }):Z9 P w H h f (FnO f fd):=⟨e,⟨_,e⟩,λ_ _ a k=>k _ a⟩
theorem Zrx(e:h.CodeRec (.ref c) q):Z9 P w H h c (CdO c q):=by
 have e':=e;obtain⟨c2,o,vs,t,e1,e2,e3,e4⟩:=e';cases e1;refine⟨e,⟨o,e2⟩,λh1 h2 a k=>?_⟩;obtain⟨c3,o3,vs3,t3,f1,f2,f3,f4⟩:=a;cases f1;exact⟨_,o3,vs3,t3,rfl,k _ f2,f3,f4⟩
theorem FnO.at_(ok:HOk P w H h)(e:H f=some (FnO f fd)):h.get? f=some { cls:=.type "function",data:=.func fd }:=(ok f _ e).1
theorem CdO.at_(ok:HOk P w H h)(e:H c=some (CdO c q)):h.CodeRec (.ref c) q:=(ok c _ e).1
end
theorem Zg0{r:WC}(l:WC)(h:TriplesOk l):codeAmong p (l++r)=match codeAmong p l with|some c=>some c|none=>codeAmong p r:=by
 fun_induction TriplesOk l with
 |case1=>rfl
 |case2 a t b u x rest ih=>
  simp only[List.cons_append,codeAmong]
  split
  ·rfl
  ·exact ih h
 |case3 l h1 h2=>exact h.elim
def Uv(P:Addr)(H H':Hp):Prop:=∀b o,b≠P→H b=some o→H' b=some o
theorem Uv.trans{P:Addr}(a:Uv P H H1)(b:Uv P H1 H2):Uv P H H2:=λc o n h=>b c o n (a c o n h)
theorem Zt.t{P:Addr}(a:Zt H H1):Uv P H H1:=λc o _ h=>a c o h
def Tb(P:Addr)(L:VP)(H:Hp):Prop:=
 ∃ps,H P=some (.tbl ps)∧TriplesOk ps.toList∧∀x∈L,codeAmong x.1 ps.toList=none∨∃c,codeAmong x.1 ps.toList=some (.ref c)∧H c=some (CdO c x.2)
theorem Tb.same{P:Addr}{L:VP}(t:Tb P L H)(e:Zt H H'):Tb P L H':=by
 obtain⟨ps,h1,h2,h3⟩:=t;refine⟨ps,e _ _ h1,h2,λx hx=>?_⟩
 rcases h3 x hx with h|⟨c,a,b⟩
 ·exact .inl h
 ·exact .inr ⟨c,a,e _ _ b⟩
theorem Tb.start{P:Addr}{L:VP}(h:H P=some (.tbl #[])):Tb P L H:=⟨#[],h,True.intro,λ_ _=>.inl rfl⟩
section
variable {fs ex:VB}{H:Hp}{h h':Heap}{P c f:Addr}{o1 o2:HO}{ps more:WN}
def made(H:Hp)(P c f:Addr)(ps:WN)(o1 o2:HO):Hp:=upd (upd (upd H P (.tbl ps)) c o1) f o2
theorem Ua{b:Addr}(h1:b≠P)(h2:b≠c)(h3:b≠f):made H P c f ps o1 o2 b=H b:=by
 unfold made;rw[Zk h3,Zk h2,Zk h1]
theorem Zju:made H P c f ps o1 o2 f=some o2:=Zc
theorem Zcb(n:c≠f):made H P c f ps o1 o2 c=some o1:=by
 unfold made;rw[Zk n,Zc]
theorem Zcc(n1:P≠c)(n2:P≠f):made H P c f ps o1 o2 P=some (.tbl ps):=by
 unfold made;rw[Zk n2,Zk n1,Zc]
theorem Un.made(e:H P=some (.tbl ps))(k:∀b u,b≠P→h.get? b=some u→h'.get? b=some u)(hP:∃u,h'.get? P=some u)(hc:h.objs.size≤c)(hf:h.objs.size≤f)(nc:H c=none)(nf:H f=none):
  Un fs ex H (made H P c f (ps++more) o1 o2) h h':=by
 have nP:∀b,H b=none→b≠P:=λb n z=>by rw[z,e]at n;cases n
 have lo:∀{b:Addr}{u:Obj},h.get? b=some u→b≠c∧b≠f:=λ{b u} q=>⟨oY (oS (oD q) hc),oY (oS (oD q) hf)⟩;refine⟨λb u q n _ _=>k b u (nP b n) q,λb u q n _ _=>⟨u.slots,k b u (nP b n) q⟩,λb u q n _=>by rw[Ua (nP b n) (lo q).1 (lo q).2];exact n,λb u q _=>?_,λb xs q=>?_,λb u xs q=>?_,λb ps' q=>?_⟩
 ·by_cases hb:b=P
  ·rw[hb];exact hP
  ·exact⟨u,k b u hb q⟩
 ·rw[Ua (λz=>by rw[z,e]at q;cases q) (Zi q nc) (Zi q nf)];exact q
 ·rw[Ua (λz=>by rw[z,e]at q;cases q) (Zi q nc) (Zi q nf)];exact q
 ·by_cases hb:b=P
  ·subst hb;rw[e]at q;cases q;exact⟨more,Zcc (Zi e nc) (Zi e nf)⟩
  ·exact⟨#[],by rw[Ua hb (Zi q nc) (Zi q nf),q];simp⟩
theorem HOk.made{Pg:Program}(ok:HOk Pg w H h)(e:H P=some (.tbl ps))(k:∀b u,b≠P→h.get? b=some u→h'.get? b=some u)(hP:h'.get? P=some (W.tabObj (ps++more)))(nc:H c=none)(nf:H f=none)(tL:c≠f)
  (hc:Z9 Pg w (made H P c f (ps++more) o1 o2) h' c o1) (hf:Z9 Pg w (made H P c f (ps++more) o1 o2) h' f o2):HOk Pg w (made H P c f (ps++more) o1 o2) h':=λb u q=>by
 by_cases b1:b=f
 ·subst b1;rw[Zju]at q;cases q;exact hf
 by_cases b2:b=c
 ·subst b2;rw[Zcb tL]at q;cases q;exact hc
 by_cases b3:b=P
 ·subst b3;rw[Zcc b2 b1]at q;cases q;exact hP
 rw[Ua b3 b2 b1]at q;refine(ok b u q).Oi (λy v hy r=>k y v ?_ r) (λy r=>?_) λy xs r=>?_
 ·rcases hy with z|z
  ·rw[z];exact b3
  ·intro z2;rw[z2,e]at z;cases z
 ·rw[Ua (λz=>by rw[z,e]at r;cases r) (Zi r nc) (Zi r nf)];exact r
 ·rw[Ua (λz=>by rw[z,e]at r;cases r) (Zi r nc) (Zi r nf)];exact r
end
def Mf(mg:WD)(h:Heap):Prop:=∃bm ob,mg "__builtins__"=some (.ref bm)∧bm≠builtinsNs∧h.get? bm=some ob∧ob.cls=.type "module"∧ob.dict=some builtinsNs∧ob.data=.plain
theorem Mf.keeps(b:Mf mg h)(k:∀b o,h.get? b=some o→h'.get? b=some o):Mf mg h':=
 let ⟨bm,ob,h1,h2,h3,r⟩:=b;⟨bm,ob,h1,h2,k _ _ h3,r⟩
theorem Mf.at_{P:Addr}{ps:WN}(b:Mf mg h)(g:h.Ns mainGlobals mg)(e:h.get? P=some (W.tabObj ps)):h.BuiltinsAt mg P:=by
 obtain⟨bm,ob,h1,h2,h3,h4,h5,h6⟩:=b;refine⟨bm,ob,h1,h2,λz=>?_,λz=>?_,h3,h4,h5,h6⟩
 ·obtain⟨o,es,ep,e2,hd,_⟩:=g;rw[z,e2]at h3;cases h3;rw[hd]at h6;cases h6
 ·rw[z,e]at h3;cases h3;cases h4
theorem Zty{h:Heap}{P:Addr}{ps:WN}(g:h.Ns mainGlobals mg)(e:h.get? P=some (W.tabObj ps)):mainGlobals≠P:=λz=>by
 obtain⟨o,es,ep,e2,hd,_⟩:=g;rw[z,e]at e2;cases e2;cases hd
section
variable {X:Cx}{params:Arguments}{body:Expr}{scope:Scope}{pos:Pos}{c P:Addr}{L:VP}
theorem Zmj{q:Str}{fdOf:Addr→Value→FuncData}{Q:VK}{ps:WN}(I:Inv X pins σ H s)(hP:H P=some (.tbl ps))(ht:TriplesOk ps.toList)
  (hT:∀x∈L,codeAmong x.1 ps.toList=none∨∃c,codeAmong x.1 ps.toList=some (.ref c)∧H c=some (CdO c x.2)) (hu:∀x∈L,x.1.line=pos.line→x.1.col=pos.col→x.2=q)
  (hq:∀H' f c ct,Uv P H H'→Tb P L H'→H f=none→H' f=some (FnO f (fdOf c ct))→H' c=some (CdO c q)→Q (.ref f) H') (hn:codeAmong pos ps.toList=none)
  {c':Addr}{sF:Value}{tk:Tok} (hx:Heap.ExtBut P s.heap h') (eD:s.heap.objs.size≤c') (x5:c'<h'.objs.size) (Zq9:h'.CodeRec (.ref c') q)
  (gZ:h'.get? P=some (W.tabObj (ps ++ #[rawInt pos.line,rawInt pos.col,.ref c']))) :
  EP X pins σ Q (.ref h'.objs.size) { s with heap:=h'.push { cls:=.type "function",data:=.func (fdOf c' sF) },toks:=tk }:=by
 have hsz:s.heap.objs.size≤h'.objs.size:=cE (lY eD x5);have nc:H c'=none:=I.hok.fresh eD;have nf:H h'.objs.size=none:=I.hok.fresh hsz;have tL:c'≠h'.objs.size:=oY x5;have k:∀b u,b≠P→s.heap.get? b=some u→(h'.push { cls:=.type "function",data:=.func (fdOf c' sF) }).get? b=some u:=λb u hb e=>rV _ (hx b u hb e);have hPc:P≠c':=Zi hP nc;have hPf:P≠h'.objs.size:=Zi hP nf
 refine⟨.ref h'.objs.size,L2.made H P c' h'.objs.size (ps ++ #[rawInt pos.line,rawInt pos.col,.ref c']) (CdO c' q) (FnO h'.objs.size (fdOf c' sF)),
  I.un (t':=tk) (Un.made hP k ⟨_,rV _ gZ⟩ eD hsz nc nf) (HOk.made I.hok hP k (rV _ gZ) nc nf tL (Zrx (Zq9.push _)) (Zkm (oC _ rfl))),rfl,?_⟩
 refine hq _ _ c' sF (λb o hb e=>by rw[Ua hb (Zi e nc) (Zi e nf)];exact e) ⟨_,Zcc hPc hPf,?_,λx eK=>?_⟩ nf Zju (Zcb tL)
 ·rw[bU];exact TriplesOk_snoc _ _ _ _ ht
 ·rw[bU,Zg0 _ ht]
  rcases hT x eK with hh|⟨c2,e1,e2⟩
  ·rw[hh];show codeAmong x.1 [rawInt pos.line,rawInt pos.col,.ref c']=none∨_
   by_cases hp:x.1.line=pos.line∧x.1.col=pos.col
   ·refine .inr ⟨c',?_,?_⟩
    ·simp[codeAmong,rawInt,hp.1,hp.2]
    ·rw[hu x eK hp.1 hp.2];exact Zcb tL
   ·left;have:¬ ((pos.line=x.1.line)∧(pos.col=x.1.col)):=λz=>hp ⟨z.1.symm,z.2.symm⟩;simp only[codeAmong,rawInt];rw[if_neg]
    ·rw[lJ,beq_iff_eq,beq_iff_eq];rintro⟨z1,z2⟩;exact this ⟨by lia,by lia⟩
  ·rw[e1];refine .inr ⟨c2,rfl,?_⟩;rw[Ua (λz=>by rw[z,hP]at e2;cases e2) (Zi e2 nc) (Zi e2 nf)];exact e2
end
def Zph(i:Nat)(f:Addr)(fd:FuncData)(sp:Sp)(t:TA):TE:=λσ H Q=>σ[i]?=some (some (.ref f))∧H f=some (FnO f fd)∧t σ H λvs H1=>H1 f=some (FnO f fd)∧sp vs H1 Q E0
theorem Zje{k:Nat}{pos:Pos}{t:TA}(F:Ya X.prog X.w X.K X.mg X.base CX0 k f fd ps sp)(hr:Xi k X.A)(hb:Binds X.K fd ps [])
  (ha:PA X (e :: es) t) (hN:X.N[i]?=some x:=by rfl) (hv:Vis X.env.scope x:=by first|exact Or.inl rfl|exact Or.inr (Or.inl rfl)|exact Or.inr (Or.inr rfl)) (hd:(x==("__debug__" : Str))=false:=by decide) (v0:(x==("__classdict__" : Str))=false:=by decide)
  (he:starEach (e :: es) X.env=(false,eval e X.env) :: starEach es X.env:=by rfl) (y3:(backTo pos (starEach es X.env)).any (·.1)=false:=by rfl):PE X (.Call (.Name x p) (e :: es) [] pos) (Zph i f fd sp t):=by
 intro pins s σ H Q I ⟨hs,hf,h⟩;refine iX (thn (Zby hN hv hd v0 pins s σ H (λv H1=>v=.ref f∧H1=H) I ⟨_,hs,rfl,rfl⟩) λu s1 ⟨v,H1,I1,r,q⟩=>?_);obtain⟨rfl,rfl⟩:=q;obtain rfl:u=Value.ref f:=r;refine W.callWith_F ⟨_,_,_,_,FnO.at_ I1.hok hf⟩ (thn (ha pos pins s1 σ H1 _ I1 h) λus s2 ⟨vs,H2,I2,r2,q1,q2⟩=>⟨⟨_,_,_,_,FnO.at_ I2.hok q1⟩,?_⟩) he y3;exact Zij F hr hb .nil Zol I2 r2 (by rw[lN];exact q2)
structure Zle(N ps:List Str)(scope:Scope):Prop where
 kind:scope.kind=.function
 co:scope.isCoroutine=false
 gen:scope.isGenerator=false
 nd:N.Nodup
 pre:N.take ps.length=ps
 par:∀x∈ps,scope.names.lookup x=some .local
 Mx:∀y∈scope.names,y.2≠.cell
structure Ze8(base:Heap)(N ps:List Str)(scope:Scope)(cl:VG)(fv:List V):Prop where
 inj:∀x y c,cl.lookup x=some c→cl.lookup y=some c→x=y
 has:∀x,scope.names.lookup x=some .free→∃c,cl.lookup x=some c
 cell:∀x c,cl.lookup x=some c→∃v,base.IsCell c v
 len:N.length=ps.length+fv.length
 val:∀(j:Nat) x v,N[ps.length+j]?=some x→fv[j]?=some v→scope.names.lookup x=some .free∧∃c u,cl.lookup x=some c∧RelV v u∧base.IsCell c (some u)
def Lz(P:Program)(w:World)(K:W.Frag)(mg:WD)(base:Heap)(N:List Str)(qual:Str)(scope:Scope)(f:Addr)(cd:Value)(cl:VG)(A:Around)(outer:List Env)(s:Shared)(H:Hp):Cx where
 prog:=P
 w:=w
 K:=K
 mg:=mg
 base:=base
 A:=A.deeper (W.envX qual scope s.heap.objs.size f cd cl)
 N:=N
 s₀:=s
 H₀:=H
 env:=W.envX qual scope s.heap.objs.size f cd cl
 outer:=outer
 stack:=W.envX qual scope s.heap.objs.size f cd cl :: outer
 ex:=[]
 calm:=true
 fn:=λ_=>false
 pn:=[]
 xe:=λ_ _=>False
theorem Jy:∀{ps:List Str}{us:WC}{i:Nat}{y:Str}{u:Value},ps.Nodup→ps[i]?=some y→us[i]?=some u→((ps.zip us).reverse).lookup y=some u
 |[],_,_,_,_,_,h,_=>by simp at h
 |_ :: _,[],_,_,_,_,_,h=>by simp at h
 |p :: ps,u0 :: us,0,y,u,nd,h1,h2=>by
  simp at h1 h2;subst h1;subst h2;rw[ZK,XR]
  have hn:((ps.zip us).reverse).lookup p=none:=by
   rw[List.lookup_eq_none_iff];rintro⟨a,b⟩ hm;have:=(aB (List.mem_reverse.mp hm)).1;have ne:a≠p:=λz=>(iR.mp nd).1 (z▸this);simpa using λz=>ne z.symm
  rw[List.lookup_append,hn];simp[List.lookup]
 |p :: ps,u0 :: us,i+1,y,u,nd,h1,h2=>by
  rw[ZK,XR,List.lookup_append,Jy (i:=i) (iR.mp nd).2 (by simpa using h1) (by simpa using h2)];rfl
theorem Zek{cl:VG}{vs:List V}{tk:Tok}
  (S:Zle N ps scope) (LC:Ze8 base N ps scope cl fv) (hd:A.handled=none) (e0:Fx P w K mg base A outer s H) (hl:vs.length=ps.length) (r:Vals vs us)
  (c8:h1.Ns s.heap.objs.size (λx=>(ps.zip us).reverse.lookup x)) (hk:∀b o,s.heap.get? b=some o→h1.get? b=some o) :
  Inv (Lz P w K mg base N qual scope f cd cl A outer s H) [] (vs.map some++fv.map some) H { s with heap:=h1,toks:=tk }:=by
 have o8:∀b:Addr,b∉(Lz P w K mg base N qual scope f cd cl A outer s H).ex:=λb z=>absurd (show b∈([]:List Addr) from z) (by simp);have bk:∀b o,base.get? b=some o→h1.get? b=some o:=λb o e=>hk b o (e0.bs b o e).1;have wE:ps.Nodup:=by rw[←S.pre];exact S.nd.sublist (List.take_sublist _ _)
 have cellK:∀{c:Addr}{v:VS},base.IsCell c v→h1.IsCell c v:=λ⟨o,e,d⟩=>⟨o,bk _ _ e,d⟩
 refine⟨⟨e0.mod,S.kind,rfl,rfl,rX _,λy z c h1 h2=>LC.inj y z c h1 h2,λy hy=>?_,λy c z _=>(by cases z),λ_=>hd,Around.frames_deeper e0.frames,.inr ⟨rfl,rfl⟩,λb z=>absurd z (o8 b),e0.bs,e0.bsz,λb _ _=>o8 b,λb z=>absurd z (o8 b),e0.Ob,e0.frf⟩,
  rfl,e0.bare,Un.kept hk,⟨_,c8,λi y v h1 h2 h3=>?_⟩,λy c h=>?_,e0.hok.fresh (rX _),λy c h=>?_,λp hp=>absurd (show p∈([]:List XZ) from hp) (by simp),e0.hok.kept hk,?_⟩
 ·have hy:scope.names.lookup y=some .cell∨scope.names.lookup y=some .free:=hy
  rcases hy with hy|hy
  ·exact absurd rfl (S.Mx _ (iB hy))
  ·exact LC.has y hy
 ·have h1:N[i]?=some y:=h1
  by_cases hi:i<vs.length
  ·have ha:vs[i]?=some v:=by
    rw[lP (by simpa using hi),oP]at h2
    cases e:vs[i]? with
    |none=>rw[e]at h2;cases h2
    |some a=>rw[e]at h2;cases h2;rfl
   obtain⟨u,hu,rv⟩:=r.get ha
   have hp:ps[i]?=some y:=by
    rw[←S.pre,List.getElem?_take_of_lt (by lia)];exact h1
   exact⟨u,rv,.inl ⟨S.par y (oM hp),Jy wE hp hu⟩⟩
  ·rw[lT (by simpa using hi),oP]at h2;rw[rW]at h2
   have ha:fv[i-vs.length]?=some v:=by
    cases e:fv[i-vs.length]? with
    |none=>rw[e]at h2;cases h2
    |some a=>rw[e]at h2;cases h2;rfl
   have e:ps.length+(i-vs.length)=i:=by lia
   obtain⟨hf,c,u,hc,rv,Zep⟩:=LC.val (i-vs.length) y v (by rw[e];exact h1) ha;exact⟨u,rv,.inr ⟨.inr hf,c,hc,cellK Zep⟩⟩
 ·obtain⟨v,z⟩:=LC.cell y c h;exact⟨v,cellK z⟩
 ·obtain⟨v,o,e,_⟩:=LC.cell y c h;exact(e0.bs c o e).2
 ·show _=N.length;rw[oB,rW,rW,LC.len,hl]
theorem Fun.okC{k:Nat}(F:Fun K x qual st f fd)(S:Zv N ps (Zh st))(len:∀vs H Q E,sp vs H Q E→vs.length=ps.length)
  (Qw:∀(A:Around) (outer:List Env) (s:Shared) (H:Hp) (vs:List V) (Q:VK) (E:XK),Xi k (A.deeper (envOfC qual (Zh st) s.heap.objs.size f fd.code))→sp vs H Q E→
   ∃t,PSs (Fm CX0 P w K mg base N qual (Zh st) f fd.code A outer s H E).nox (Wk st) t∧t { nx:=λ_ H'=>Q .non H',rt:=Q } (start N vs) H):Ya P w K mg base CX0 (k+1) f fd ps sp:=by
 obtain⟨oc,od,kV,doc,pm,an,cdv,ct,osl,rfl,lk,v0⟩:=F.ex;refine Zkn lk v0 S len λA outer s H vs Q E hr m8=>?_;obtain⟨t,h,q⟩:=Qw A outer s H vs Q E hr m8;exact⟨t,h.nox,q⟩
theorem Zf2{mb:WD}{k:Nat}{fa:Addr}{x:Str}{x3:Shared}{tabs:VR}
  (KX:K.In x3.heap) (c8:x3.heap.Ns mainGlobals mg) (hb:x3.heap.Ns builtinsNs mb) (qC:∀x:Str,x≠"__name__"→mb x=bootBuiltins x) (Zrd:x3.heap.NoLimit) (hg:x3.gens = #[])
  (ha:x3.heap.get? a=some { cls:=.type "list",data:=.seq vs.toArray }) (hi:IntsAre vs ns) (hl:ns.length≤sizeLine) (hr:Xi k callerA) (hT:W.TabsAt tabs x3.heap) (hK0:W.noTabs K=true) (hBM:Mf mg x3.heap)
  (F:∀base:Heap,K.In base→base.Ns mainGlobals mg→Mf mg base→Ya P w K mg base CX k fa fd [x] sp) (Zke:∀(s:Shared) (u:Value),BindsTo s fd ⟨[u],[]⟩ [(x,u)])
  (m8:∀H:Hp,(∀q∈tabs,H q.2=some (.tbl #[]))→SqL K H a (ns.map V.int)→sp [.ref a] H (λv _=>v=.bl true) λ_ _ _=>False)
  (yE:∀H e s',CX [] H x3 (λ_ _ _=>False) e s'→False) :
  codeAny (model P w) callerA (.call (.ref fa) ⟨[.ref a],[]⟩) (λr s'=>r=.ok (.ret (.bool true))∧OldK x3.heap s'.heap∧s'.os=x3.os∧AllBare s'.gens) x3:=by
 have rv:=Mi hi;have Zqp:=hi.length
 have core:∀H:Hp,(∀b,H b=none∨(∃o xs,H b=some (.frz o (.lst xs))∧b=a)∨(H b=some (.tbl #[])∧∃q∈tabs,q.2=b))→(∀q∈tabs,H q.2=some (.tbl #[]))→SqL K H a (ns.map V.int)→HOk P w H x3.heap→(∀o xs,H a=some (.frz o (.lst xs))→K.lookup a=none)→
   codeAny (model P w) callerA (.call (.ref fa) ⟨[.ref a],[]⟩) (λr s'=>r=.ok (.ret (.bool true))∧OldK x3.heap s'.heap∧s'.os=x3.os∧AllBare s'.gens) x3:=by
  intro H hO hTb hS hok hK;have Pr:∀{b:Addr}{o:Obj},x3.heap.get? b=some o→H b=none→(O1 x3.heap H).get? b=some o:=λe n=>Zaa e n
  have o8:∀{b:Addr}{o:Obj},x3.heap.get? b=some o→(∀xs n,o.data≠.seq xs n)→(∀xs,o.data≠.fields xs)→H b=none:=λ{b o} e d1 d2=>by
   rcases hO b with z|⟨ob,xs,z,rfl⟩|⟨z,_⟩
   ·exact z
   ·rw[ha]at e;cases e;exact absurd rfl (d1 _ _)
   ·have:=hok b _ z;rw[show x3.heap.get? b=some (W.tabObj #[]) from this]at e;cases e;exact absurd rfl (d2 _)
  have xS:∀{b:Addr}{m:WD},x3.heap.Ns b m→(O1 x3.heap H).Ns b m:=λ{b m} ⟨o,es,ep,e,d,r⟩=>⟨o,es,ep,Pr e (o8 e (λ_ _ z=>by rw[d]at z;cases z) λ_ z=>by rw[d]at z;cases z),d,r⟩
  have gF:K.In (O1 x3.heap H):=λb o e=>Pr (KX b o e) (by
   rcases hO b with z|⟨ob,xs,z,rfl⟩|⟨z,_⟩
   ·exact z
   ·rw[hK _ _ z]at e;cases e
   ·have e2:x3.heap.get? b=some (W.tabObj #[]):=hok b _ z;have e3:=KX b o e;rw[e2]at e3;cases e3;have h2:=cF.mp hK0 _ (W.mem_of_lookupK e)
    exact absurd (show false=true from h2) oW)
  have hBb:Mf mg (O1 x3.heap H):=by
   obtain⟨bm,ob,b1,b2,b3,b4,b5,b6⟩:=hBM;exact⟨bm,ob,b1,b2,Pr b3 (o8 b3 (λ_ _ z=>by rw[b6]at z;cases z) λ_ z=>by rw[b6]at z;cases z),b4,b5,b6⟩
  have hM:Mod K mg (O1 x3.heap H):=⟨gF,xS c8,⟨mb,xS hb,qC⟩,let ⟨mc,h1,h2⟩:=Zrd;⟨mc,xS h1,h2⟩⟩;have e0:Fx P w K mg (O1 x3.heap H) callerA [] x3 H:=⟨rfl,hM,λb o e=>Zef e,XT (Dc _ _),trivial,λb hb=>absurd (show b∈([]:List Addr) from hb) (by simp),hok,.of_eq hg⟩;refine dP ((F _ gF (xS c8) hBb).run callerA [] x3 H ⟨[.ref a],[]⟩ [.ref a] [.ref a] _ _ hr e0 (Zke x3 (.ref a)) (.cons rfl .nil) (m8 H hTb hS)) λr s' h=>?_
  cases r with
  |error e=>exact(yE H e s' h).elim
  |ok fl=>
   cases fl with
   |next=>exact False.elim h
   |brk=>exact False.elim h
   |cont=>exact False.elim h
   |ret u=>
    obtain⟨v,H',os,bare,un,Zms,r',q⟩:=h;have q':v=.bl true:=q;subst q';obtain rfl:u=Value.bool true:=r';refine⟨rfl,⟨λb o e=>?_,λb o e=>un.there b o e (by simp)⟩,os,bare⟩
    rcases hO b with z|⟨ob,xs,z,_⟩|⟨z,q,hq,rfl⟩
    ·exact .inl (un.keep b o e z (by intro z;exact absurd (show b∈([]:List Addr) from z) (by simp)) (by simp))
    ·have z2:=un.Ki b ob _ z;obtain⟨e1,_⟩:=hok b _ z;obtain⟨e2,_⟩:=Zms b _ z2;rw[e]at e1;cases e1;exact .inl e2
    ·obtain⟨more,z2⟩:=un.Jb _ _ z;have e1:x3.heap.get? q.2=some (W.tabObj #[]):=(hT q hq).2;rw[e]at e1;cases e1;exact .inr (.inl ⟨((hT q hq).1.tab (hT q hq).2).isCodeTable,rfl,#[],more,rfl,Zms _ _ z2⟩)
 have hTa:∀q∈tabs,q.2≠a:=λq hq z=>by
  have e:=(hT q hq).2;rw[z,ha]at e;cases e
 cases hk:K.lookup a with
 |some o=>
  have e:=KX a o hk;rw[ha]at e;cases e;refine core (λb=>if b∈tabs.map (·.2) then some (.tbl #[]) else none) (λb=>?_) (λq hq=>if_pos (dW hq)) (.inr ⟨_,vs.toArray,_,hk,rfl,rfl,rfl,by rw[oF,Zqp];exact hl,by simpa using rv⟩) (λb u z=>?_) (λo xs z=>?_)
  ·by_cases hb:b∈tabs.map (·.2)
   ·obtain⟨q,hq,e⟩:=oU.mp hb;exact .inr (.inr ⟨if_pos hb,q,hq,e⟩)
   ·exact .inl (if_neg hb)
  ·by_cases hb:b∈tabs.map (·.2)
   ·have z':=(if_pos hb).symm.trans z;cases z';obtain⟨q,hq,rfl⟩:=oU.mp hb;exact(hT q hq).2
   ·have z':=(if_neg hb).symm.trans z;cases z'
  ·by_cases hb:a∈tabs.map (·.2)
   ·have z':=(if_pos hb).symm.trans z;cases z'
   ·have z':=(if_neg hb).symm.trans z;cases z'
 |none=>
  refine core (λb=>if b=a then some (.frz { cls:=.type "list",data:=.seq vs.toArray } (.lst (ns.map V.int))) else if b∈tabs.map (·.2) then some (.tbl #[]) else none) (λb=>?_) (λq hq=>(if_neg (hTa q hq)).trans (if_pos (dW hq))) (.inl (.inr ⟨{ cls:=.type "list",data:=.seq vs.toArray },if_pos rfl⟩)) (λb u z=>?_) (λ_ _ _=>hk)
  ·by_cases hb:b=a
   ·exact .inr (.inl ⟨_,_,if_pos hb,hb⟩)
   ·by_cases j5:b∈tabs.map (·.2)
    ·obtain⟨q,hq,e⟩:=oU.mp j5;exact .inr (.inr ⟨(if_neg hb).trans (if_pos j5),q,hq,e⟩)
    ·exact .inl ((if_neg hb).trans (if_neg j5))
  ·by_cases hb:b=a
   ·have z':=(if_pos hb).symm.trans z;cases z';subst hb;exact⟨ha,by rw[rW];exact hl,vs,_,rv,ha⟩
   ·have z:=(if_neg hb).symm.trans z
    by_cases j5:b∈tabs.map (·.2)
    ·have z':=(if_pos j5).symm.trans z;cases z';obtain⟨q,hq,rfl⟩:=oU.mp j5;exact(hT q hq).2
    ·have z':=(if_neg j5).symm.trans z;cases z'
def Zc9(q:Program)(K:W.Frag)(h:Heap):Prop:=∀(x:Str) (d:DefRec) (c P:Addr),(recsOf q).find? (λe=>e.name==x)=some d→W.tabIn K x=some (c,P)→W.CodeHd h c P∧h.get? P=some (W.tabObj #[])
theorem Zhd{l:W.OpenLaw}{k:Nat}{d:DefRec}{K:Params→W.Frag}{CX:World→CXT}{sp:World→List (Addr×Addr)→Sp} 
  (hn:l.most=some n) (eF:n≤sizeLine) (eU:d.params.defaults=[]) (hr:Xi k callerA)
  (hY:∀(w:World) (h:Heap),YP w h→(K w.params).In h)
  (F:∀(w:World) (mg:WD) (fa:Addr) (h:Heap),(K w.params).In h→h.Ns mainGlobals mg→mg d.name=some (.ref fa)→Zc9 q (K w.params) h→
   W.noTabs (K w.params)=true∧∃(fd:FuncData) (tabs:VR),W.TabsAt tabs h∧(∀(s:Shared) (u:Value),BindsTo s fd ⟨[u],[]⟩ [(x,u)])∧
    ∀base:Heap,(K w.params).In base→base.Ns mainGlobals mg→Mf mg base→Ya l.prog w (K w.params) mg base (CX w) k fa fd [x] (sp w tabs))
  (m8:∀(w:World) (tabs:VR) (H:Hp) (a:Addr) (ns:List Int),ns.length≤n→(∀q∈tabs,H q.2=some (.tbl #[]))→SqL (K w.params) H a (ns.map V.int)→sp w tabs [.ref a] H (λv _=>v=.bl true) λ_ _ _=>False)
  (yE:∀(w:World) (H:Hp) (s:Shared) (e:Value) (s':Shared),CX w [] H s (λ_ _ _=>False) e s'→False) :
  W.WalkO q loose XP YP l.row.toRowW d [] (λf vs=>PySem.call f vs):=by
 refine Att.Ka hn eU λw s₀ x3 mg mb fa o pm cd doc a vs ns G Y ho hd v0 xL Zj9 hints hlen hg=>?_;have KX:=hY w _ Y;obtain⟨h0,fd,tabs,hT,hb,hF⟩:=F w mg fa _ KX G.T.g xL (λx d c P hr ht=>W.tab_of G.T KX hr ht);exact Zf2 KX G.T.g G.T.b G.T.builtins G.T.nolimit hg Zj9 hints (lC hlen eF) hr hT h0 G.T.bmain hF hb (λH hO hS=>m8 w tabs H a ns hlen hO hS) λH e s'=>yE w H x3 e s'
theorem Bv{c P:Addr}{oc':Value}{od':WS}{sl rG:VI}{vs:WN}(a:W.nsIn K mainGlobals x=some (some (.ref f)))(l:K.lookup f=some ⟨oc,od,.func fd,sl⟩)(y:fd.code=.ref c)
  (v:K.lookup c=some ⟨oc',od',.fields vs,rG⟩) (u:vs[11]?=some (.ref P)):W.tabIn K x=some (c,P):=by
 unfold W.tabIn;rw[a];dsimp only;rw[l];dsimp only;rw[y];dsimp only;rw[v];dsimp only;rw[u]
theorem Zeo{K:W.Frag}{c P:Addr}(C:W.CodeHd h c P)(X:K.In h)(B:K.In base)(lk:K.lookup c=some o):W.CodeHd base c P:=by
 obtain⟨o',vs,file,tf,flags,tg,inF,text,tt,e,r⟩:=C;have:=X c o lk;rw[this]at e;cases e;exact⟨o,vs,file,tf,flags,tg,inF,text,tt,B c o lk,r⟩
section
variable {P:Program}{w:World}{A:Around}{E:XW}{s:Shared}{r:Addr}{x:Str}
end
section
variable {X:Cx}
end
structure Za8(X:Cx)(σ:St)(W5:Heap):Prop where
 sub:∀b o,X.base.get? b=some o→W5.get? b=some o
 inj:∀x y c,X.env.cells.lookup x=some c→X.env.cells.lookup y=some c→x=y
 has:∀x,(X.env.kindOf x=some .cell∨X.env.kindOf x=some .free)→∃c,X.env.cells.lookup x=some c
 cell:∀x c,X.env.cells.lookup x=some c→∃v,W5.IsCell c v
 val:∀(i:Nat) (x:Str) (v:V),X.N[i]?=some x→σ[i]?=some (some v)→(X.env.kindOf x=some .cell∨X.env.kindOf x=some .free)→∃u c,RelV v u∧X.env.cells.lookup x=some c∧W5.IsCell c (some u)
def Uq(X:Cx)(b:Addr):Bool:=X.env.cells.any λp=>p.2==b&&X.env.cells.lookup p.1==some b
theorem S6{b:Addr}:Uq X b=true↔∃x,X.env.cells.lookup x=some b:=by
 unfold Uq;rw[dM];constructor
 ·rintro⟨p,_,h⟩;rw[lJ]at h;exact⟨p.1,by simpa using h.2⟩
 ·rintro⟨x,h⟩;refine⟨(x,b),iB h,?_⟩;simp[h]
def Zmt(X:Cx)(h:Heap):List Addr:=(List.range h.objs.size).filter λb=>(X.base.get? b).isNone && !Uq X b
def baseOf(X:Cx)(h:Heap):Heap:=W.hideAll h (Zmt X h)
section
variable {X:Cx}{pins:XX}{σ:St}{H:Hp}{s:Shared}
theorem Zei{b:Addr}(h:(X.base.get? b).isSome=true∨Uq X b=true):b∉Zmt X s.heap:=λz=>by
 have:=(lU.mp z).2;rw[lJ]at this
 rcases h with h|h
 ·cases e:X.base.get? b with
  |none=>rw[e]at h;cases h
  |some o=>rw[e]at this;cases this.1
 ·rw[h]at this;cases this.2
theorem Zeg{b:Addr}(h:(baseOf X s.heap).get? b=some o):s.heap.get? b=some o∧((X.base.get? b).isSome=true∨Uq X b=true):=by
 have e:=W.of_hideAll _ h;refine⟨e,?_⟩
 by_cases c:(X.base.get? b).isSome=true∨Uq X b=true
 ·exact c
 ·have hm:b∈Zmt X s.heap:=by
   refine lU.mpr ⟨lZ.mpr (oD e),?_⟩;rw[lJ];refine⟨?_,?_⟩
   ·cases e2:X.base.get? b with
    |none=>rfl
    |some u=>exact absurd (.inl (by rw[e2];rfl)) c
   ·cases e2:Uq X b with
    |false=>rfl
    |true=>exact absurd (.inr e2) c
  rw[show baseOf X s.heap=W.hideAll s.heap (Zmt X s.heap) from rfl,W.hideAll_none _ hm]at h;cases h
theorem Inv.Zk9(I:Inv X pins σ H s):Za8 X σ (baseOf X s.heap):=by
 have cellK:∀{x:Str}{c:Addr}{v:VS},X.env.cells.lookup x=some c→s.heap.IsCell c v→(baseOf X s.heap).IsCell c v:=λ{x c v} e ⟨o,ho,hd⟩=>
  ⟨o,W.hideAll_get _ ho (Zei (.inr (S6.mpr ⟨x,e⟩))),hd⟩
 refine⟨λb o e=>W.hideAll_get _ (I.bk b o e) (Zei (.inl (by rw[e];rfl))),I.ok.inj,I.ok.has,λx c e=>?_,λi x v h1 h2 h3=>?_⟩
 ·obtain⟨v,z⟩:=I.cell x c e;exact⟨v,cellK e z⟩
 ·obtain⟨m,_,hl⟩:=I.loc
  have hv:Vis X.env.scope x:=by
   rcases h3 with h3|h3
   ·exact .inr (.inl h3)
   ·exact .inr (.inr h3)
  obtain⟨u,r,l⟩:=hl i x v h1 h2 hv
  rcases l with ⟨hk,_⟩|⟨hk,c,e,z⟩
  ·rcases h3 with h3|h3<;>rw[h3]at hk<;>cases hk
  ·exact⟨u,c,r,e,cellK e z⟩
theorem Inv.Zox(I:Inv X pins σ H s)(p8:∀x,X.fn x=true):Fx X.prog X.w X.K X.mg (baseOf X s.heap) X.A X.stack s H:=by
 have B:=I.Zk9
 have bs:∀b o,(baseOf X s.heap).get? b=some o→s.heap.get? b=some o∧H b=none:=λb o e=>by
  obtain⟨e1,h⟩:=Zeg e;refine⟨e1,?_⟩
  rcases h with h|h
  ·obtain⟨u,hu⟩:=Option.isSome_iff_exists.mp h;exact(I.bs b u hu).2
  ·obtain⟨x,hx⟩:=S6.mp h;exact I.Vk x b hx
 refine⟨I.ok.frames,?_,bs,XT (W.hideAll_size _ _),?_,I.Kr,I.hok,I.bare⟩
 ·obtain⟨k,g,⟨mb,h1,h2⟩,nl⟩:=I.ok.mod;exact⟨k.keeps B.sub,g.keeps B.sub,⟨mb,h1.keeps B.sub,h2⟩,nl.keeps B.sub⟩
 ·have all:∀(l:List Env),(∀b∈frs l,b∈X.env.locals :: X.fs)→s.heap.FunFrames X.base l→s.heap.FunFrames (baseOf X s.heap) l:=by
   intro l
   induction l with
   |nil=>intro _ _;trivial
   |cons env r ih=>
    intro hs hl;obtain⟨hk,⟨L,o,hf,hn,ho,hd⟩,hr⟩:=hl;refine⟨hk,⟨L,o,hf,?_,ho,hd⟩,ih (λb hb=>hs b (by unfold frs;rw[bS,hf];exact oO _ hb)) hr⟩
    cases q:(baseOf X s.heap).get? L with
    |none=>rfl
    |some u=>
     obtain⟨e1,h⟩:=Zeg q
     rcases h with h|h
     ·rw[hn]at h;cases h
     ·obtain⟨x,hx⟩:=S6.mp h
      rcases oH.mp (hs L (by unfold frs;rw[bS,hf];exact oE)) with z|z
      ·exact absurd z (I.cne x L hx)
      ·obtain⟨_,o2,xM,_⟩:=I.ok.Ob.mem z;exact absurd (oS (oD xM) (I.ok.cab x L (p8 x) hx)) (iA _)
  exact all _ I.Ji I.stack
end
def Zpi(X:Cx)(x:Str)(k:Nat)(t:TA):TE:=λσ H Q=>t σ H λvs H1=>∀W5:Heap,Za8 X σ W5→
 ∃(ps:List Str) (sp:Sp) (_:Cal X.prog X.w X.K X.mg W5 x k ps sp),sp vs H1 Q E0
theorem Ztt{k:Nat}{pos:Pos}{t:TA}(C:Cal X.prog X.w X.K X.mg X.base x k ps sp)(hr:Xi k X.A)(ha:PA X (e :: es) t)(hg:Gl X x:=by rfl)(p8:∀x,X.fn x=true:=by intro _;rfl)
  (u7:(x==("__debug__" : Str))=false:=by decide) (he:starEach (e :: es) X.env=(false,eval e X.env) :: starEach es X.env:=by rfl) (y3:(backTo pos (starEach es X.env)).any (·.1)=false:=by rfl) :
  PE X (.Call (.Name x p) (e :: es) [] pos) (Zpi X x k t):=by
 intro pins s σ H Q I h;refine iX (Pl I hg C.at_ ?_ u7);refine W.callWith_K (h₀:=X.base) I.ok.mod.kin C.kp (thn (ha pos pins s σ H _ I h) λus s1 ⟨vs,H1,I1,r,q⟩=>⟨I1.kIn,?_⟩) he y3;obtain⟨ps',sp',C',m8⟩:=q _ I1.Zk9
 have ef:C'.f=C.f:=by
  have:=C'.at_.symm.trans C.at_
  injection this with this
  injection this
 have hl:us.length=ps'.length:=by rw[←r.length];exact C'.ok.len _ _ _ _ m8
 have hb:=C'.b s1 us I1.kIn (by rw[lN];exact hl);rw[lN]at hb;have run:=C'.ok.run X.A X.stack s1 H1 ⟨us,[]⟩ us vs Q E0 hr (I1.Zox p8) hb r m8;rw[ef]at run;show wpAny _ _ (call (.ref C.f) ([]++us)) _ _ s1;refine cX (dP run λr s' hq=>?_)
 cases r with
 |error e=>exact hq.elim
 |ok fl=>
  cases fl with
  |ret u=>exact I1.after hq
  |next=>exact False.elim hq
  |brk=>exact False.elim hq
  |cont=>exact False.elim hq
theorem Za8.cl{W5:Heap}(B:Za8 X σ W5)(fr:List Nat)(eW:X.env.scope=sc)(n5:∀y∈scope.names,y.2=NameKind.free→sc.names.lookup y.1=some .cell∨sc.names.lookup y.1=some .free)
  (hlen:N.length=ps.length+fr.length) (qL:fv.length=fr.length) (hN:∀(j:Nat) i x,fr[j]?=some i→N[ps.length+j]?=some x→scope.names.lookup x=some .free∧X.N[i]?=some x)
  (hv:∀(j:Nat) i v,fr[j]?=some i→fv[j]?=some v→σ[i]?=some (some v)):Ze8 W5 N ps scope (Sv X.env scope.names []) fv:=by
 subst eW;have kind:∀x,scope.names.lookup x=some .free→(X.env.kindOf x=some .cell∨X.env.kindOf x=some .free):=λx hx=>n5 _ (iB hx) rfl;have good:Zdf X.env (Sv X.env scope.names []):=Po _ _ λy c e=>by simp at e
 have look:∀x c,(Sv X.env scope.names []).lookup x=some c→X.env.cells.lookup x=some c:=λx c e=>by
  have h1:=good x c e
  rcases N5 _ _ e with z|z
  ·simp at z
  ·obtain⟨c2,e2⟩:=B.has x (n5 _ z rfl);rw[e2]at h1;rw[e2];exact congrArg some h1.symm
 have Zuw:∀x,scope.names.lookup x=some .free→∃c,(Sv X.env scope.names []).lookup x=some c:=λx hx=>Q6 _ _ (.inr (iB hx));refine⟨λx y c h1 h2=>B.inj x y c (look x c h1) (look y c h2),Zuw,λx c e=>B.cell x c (look x c e),by rw[hlen,qL],λj x v h1 h2=>?_⟩;have hj:j<fr.length:=by rw[←qL];exact(oG.mp h2).1
 have hfj:fr[j]?=some fr[j]:=rZ hj;obtain⟨hf,hX⟩:=hN j _ x hfj h1;obtain⟨u,c,r,e,z⟩:=B.val _ x v hX (hv j _ v hfj h2) (kind x hf);obtain⟨c2,e2⟩:=Zuw x hf;have:=look x c2 e2;rw[e]at this;cases this;exact⟨hf,c,u,e2,r,z⟩
section
variable {X:Cx}
end
section
variable {P:Program}{w:World}{H:Hp}{s:Shared}
end
section
variable {X:Cx}
end
section
variable {X:Cx}{tg:Expr}
end
section
variable {P:Program}{w:World}{A:Around}{E:XW}{s:Shared}
theorem Hw{t:Addr}{us:WN}{x:Value}(hi:s.heap.IsTupleIter it t i)(ht:s.heap.IsTuple t us)(hx:us[i]?=some x)
  (q:∀h',h'.IsTupleIter it t (i+1)→Heap.SameBut it s.heap h'→Q x { s with heap:=h' }):wpAny (model P w) A (Builtin.SmallTypes.nextOf (.ref it)) Q E s:=by
 obtain⟨o,e0,ec,ed⟩:=id hi;obtain⟨ot,e1,_,n,e2⟩:=ht;unfold Builtin.SmallTypes.nextOf;refine rS (dD (name:=Str.ofString "__next__") hi.typeIs bJ (iF bJ hi.typeIs F.entry_tuple_iterator_next ?_ (F.args_tuple_iterator_next_1 _)));refine rS (m:=field (.ref it) 0) (iM e0 ed (x:=.ref t) rfl ?_);show wpAny _ _ (ite ((Value.ref t==Value.none)=true) _ _) _ _ s;refine(if_neg (show ¬ (Value.ref t==Value.none)=true from oW))▸?_;refine rS (m:=field (.ref it) 1) (iM e0 ed (x:=.int i 0) rfl ?_);refine rS (m:=seqItems? (.ref t)) (dE e1 e2 ?_);simp only[cO,hx];refine rS (cV e0 ed (by simp) (rT ⟨x,rfl,rT (q _ ⟨_,iT _ e0 (aL (cI ed _)),(XS ..).trans ec,?_⟩ (dU ..))⟩));rw[cI ed];simp[rawInt]
theorem Zgo{t:Addr}{us:WN}(hh:A.handled=none)(hi:s.heap.IsTupleIter it t i)(ht:s.heap.IsTuple t us)(hx:us[i]?=none)
  (q:∀h' e,Heap.ExtBut it s.heap h'→(∃o,h'.get? e=some o∧o.cls=.type "StopIteration")→E (.ref e) { s with heap:=h' }):wpAny (model P w) A (Builtin.SmallTypes.nextOf (.ref it)) Q E s:=by
 obtain⟨o,e0,ec,ed⟩:=id hi;obtain⟨ot,e1,_,n,e2⟩:=ht;unfold Builtin.SmallTypes.nextOf;refine rS (dD (name:=Str.ofString "__next__") hi.typeIs bJ (iF bJ hi.typeIs F.entry_tuple_iterator_next ?_ (F.args_tuple_iterator_next_1 _)));refine rS (m:=field (.ref it) 0) (iM e0 ed (x:=.ref t) rfl ?_);show wpAny _ _ (ite ((Value.ref t==Value.none)=true) _ _) _ _ s;refine(if_neg (show ¬ (Value.ref t==Value.none)=true from oW))▸?_;refine rS (m:=field (.ref it) 1) (iM e0 ed (x:=.int i 0) rfl ?_);refine rS (m:=seqItems? (.ref t)) (dE e1 e2 ?_);simp only[cO,hx];refine rS (cA (rS (cV e0 ed (by simp) (rS (m:=newExc (.type "StopIteration") []) ?_))));simp only[newExc,newTuple,raiseNew];refine rS (lQ (rS (m:=firstArgMember _ _) (ZZ (a:=Value.none) (by first|rfl|(simp only[firstArgMember];rfl)) (lQ ?_ (by size_fits)))) (by size_fits));refine rS (wpAny_handled ?_)
 first|rw[show A.in1.handled=none from hh]|rw[hh]
 exact rS (rT (wpAny_throw (q _ _ (((dU ..).extBut.push _).push _) ⟨_,oC _ rfl,rfl⟩)))
theorem Zk1(hh:A.handled=none)(it t:Addr)(x6:t≠it)(us:WN):Draws P w A it [it,t] us.size (λi v=>us[i]?=some v) (λi h=>h.IsTupleIter it t i∧h.IsTuple t us) where
 live:=λ_ _ ⟨⟨o,e,_⟩,_⟩=>⟨o,e⟩
 frame:=λ_ _ _ ⟨a,b⟩ k=>⟨a.at λo e=>k it (by simp) o e,b.at λo e=>k t (by simp) o e⟩
 item:=λi s Q E hi st q=>Hw st.1 st.2 (x:=us[i]) (by simp[hi]) λh' a b=>q _ h' s.toks (by simp[hi]) ⟨a,st.2.extBut b.extBut x6⟩ b
 done:=λs Q E st q=>Zgo hh st.1 st.2 (by simp) q
open AutoSeq1 (wpAny_loadPart') in
theorem Zku(t:Addr)(us:WN)(n:Nat)(dx:WS)(sl:VI):
  Meets (Builtin.«enumerate.__new__» ⟨[.type "enumerate",.ref t],[]⟩) (λ_ R s=>s.heap.get? t=some { cls:=.type "tuple",dict:=dx,data:=.seq us n,slots:=sl }∧
   R (.ok (.ret (.ref (s.heap.push { cls:=.type "tuple_iterator",data:=.fields #[.ref t,.int 0 0] }).objs.size))) { s with heap:=(s.heap.push { cls:=.type "tuple_iterator",data:=.fields #[.ref t,.int 0 0] }).push { cls:=.type "enumerate",data:=.fields #[.none,.bool false,.ref s.heap.objs.size,rawInt 0,.none,.none] } }):=
 .of_wp λprog w A R s h=>by
  obtain⟨hp,g,d,tk,os⟩:=s;obtain⟨ht,q⟩:=h;have Oa:=sub_enumerate;have hT:Heap.IsTuple (Shared.heap ⟨hp,g,d,tk,os⟩) t us:=⟨_,ht,rfl,n,rfl⟩
  wp_walk using iS ht
  refine wpAny_stack_any λst=>rT ?_
  split
  ·rename_i c _ _ _ _ _
   cases (c==Value.type "enumerate")<;>(wp_walk using iS ht,ZF hT;exact⟨_,rfl,q⟩)
  ·wp_walk using iS ht,ZF hT
   exact⟨_,rfl,q⟩
theorem Zcz{t:Addr}{us:WN}(hT:s.heap.IsTuple t us)
  (q:∀h',IsEnum h' (s.heap.objs.size+1) s.heap.objs.size 0 .none→h'.IsTupleIter s.heap.objs.size t 0→h'.objs.size=s.heap.objs.size+2→(∀b o,s.heap.get? b=some o→h'.get? b=some o)→Q (.ref (s.heap.objs.size+1)) { s with heap:=h' }) :
  wpAny (model P w) A (call (.type "enumerate") [.ref t]) Q E s:=by
 obtain⟨⟨c,dx,dt,sl⟩,ht,ec,n,ed⟩:=hT;obtain rfl:c=.type "tuple":=ec;obtain rfl:dt=.seq us n:=ed;refine callType_new F.called_enumerate (by decide) (F.typeCall_enumerate_1 _) (F.newCall_enumerate_1 _) (λobj=>F.args_object_init_2 obj _) F.entry_enumerate_new (Zku t us n dx sl) ⟨ht,?_⟩;have z:(s.heap.push { cls:=.type "tuple_iterator",data:=.fields #[.ref t,.int 0 0] }).objs.size=s.heap.objs.size+1:=iJ ..;show _∧_;have en:=oC (s.heap.push { cls:=.type "tuple_iterator",data:=.fields #[.ref t,.int 0 0] }) (o:={ cls:=.type "enumerate",data:=.fields #[.none,.bool false,.ref s.heap.objs.size,rawInt 0,.none,.none] }) rfl;rw[z]at en ⊢;exact⟨⟨_,en,rfl⟩,q _ en ⟨_,rV _ (oC _ rfl),rfl,rfl⟩ (by rw[iJ,z]) λb o x=>rV _ (rV _ x)⟩
end
theorem Inv.D8(I:Inv X pins σ H s)(k:∀b o,b∉fp→s.heap.get? b=some o→h'.get? b=some o)(hf:∀b∈fp,Gw X pins H b):
  Inv X pins σ H { s with heap:=h',toks:=t' }:=by
 have tP:∀b u,H b=some u→b∉fp:=λb u e z=>by rw[(hf b z).1]at e;cases e
 refine I.step (g':=s.gens) (d':=s.drawn) (ch:=fp) (λb hb=>?_) (λb o _ _ hc e _=>k b o hc e) (λb o _ _ hc e _=>⟨o.slots,k b o hc e⟩) (λ_ _ _ _ n=>n) (λb o hc e=>⟨o,k b o hc e⟩) (λ_ _ e=>e) (λ_ _ _ e=>e) (λb ps e=>⟨#[],by rw[e];simp⟩) (λm hm=>?_) (λb u e=>?_) I.bare
 ·obtain⟨_,f1,_,f3,f4,f5⟩:=hf b hb;exact⟨f3,f1,f4,f5⟩
 ·obtain⟨o,es,ep,ho,r⟩:=hm;exact⟨o,es,ep,k _ o (λz=>(hf _ z).2.1 rfl) ho,r⟩
 ·refine(I.hok b u e).Oi (λc v hc q=>k c v (λy=>?_) q) (λ_ q=>q) λ_ _ q=>q
  rcases hc with z|z
  ·rw[z]at y;exact tP b u e y
  ·exact tP c _ z y
def ItE(Sq:Hp→List V→Prop):It:=
 ⟨λi H=>∃xs x,Sq H xs∧xs[i]?=some x,λi H x H'=>∃p y,x=.ref p∧H p=none∧H'=upd H p (.tup [.int i,y])∧∀xs,Sq H xs→xs[i]?=some y,λi H=>∃xs,Sq H xs∧xs.length=i⟩
theorem Dm{h2:Heap}{e:Addr}{tk:Nat}(I:Inv X pins σ H s)(hf:∀b∈[e,it],Gw X pins H b)(ru:RelV y u)
  (ht:h1.get? s.heap.objs.size=some { cls:=.type "tuple",data:=.seq #[.int i tk,u] }) (k:∀b o,b≠e→b≠it→s.heap.get? b=some o→h1.get? b=some o) (sb:Heap.SameBut e h1 h2) (j6:e<s.heap.objs.size) (o4:it<s.heap.objs.size) :
  Inv X pins σ (upd H s.heap.objs.size (.tup [.int i,y])) { s with heap:=h2,toks:=t' }∧∀b∈[e,it],upd H s.heap.objs.size (.tup [.int i,y]) b=none:=by
 have hn:∀b∈[e,it],upd H s.heap.objs.size (.tup [.int i,y]) b=none:=λb hb=>by
  have z8:b=e∨b=it:=by simpa using hb
  have x5:b<s.heap.objs.size:=by
   rcases z8 with z|z
   ·rw[z];exact j6
   ·rw[z];exact o4
  rw[Zk (oY x5)];exact(hf b hb).1
 have I1:Inv X pins σ (upd H s.heap.objs.size (.tup [.int i,y])) { s with heap:=s.heap.push { cls:=.type "tuple",data:=.seq #[.int i tk,u] },toks:=s.toks }:=
  I.laid (λb o q=>rV _ q) (rX _) ⟨(by show 2≤sizeLine;decide),[.int i tk,u],.cons ⟨tk,rfl⟩ (.cons ru .nil),⟨_,oC _ rfl,rfl,_,rfl⟩⟩
 have I2:=I1.D8 (fp:=[e,it]) (h':=h2) (t':=t') (λb o hb q=>?_) (λb hb=>⟨hn b hb,(hf b hb).2⟩)
 ·exact⟨I2,hn⟩
 have d8:b≠e:=λz=>hb (by simp[z]);have j5:b≠it:=λz=>hb (by simp[z]);refine(sb.2 b d8).trans ?_
 rcases Heap.get?_push_cases q with ⟨z1,z2⟩|z
 ·rw[z1,z2];exact ht
 ·exact k b o d8 j5 z
theorem Zbk{pos:Pos}(a e it:Addr)(mX:e≠it):
  Turn P w K (.Tuple es n pos) (ItE λH xs=>SqL K H a xs) [e,it] e (λi h=>(∃old,IsEnum h e it i old)∧h.IsListIter it a i) where
 mem:=by simp
 obj:=λi h st b hb=>by
  obtain⟨⟨old,he⟩,oi,e1,c1,d1⟩:=st;have z8:b=e∨b=it:=by simpa using hb
  rcases z8 with z|z
  ·subst z;exact⟨_,he,λv z=>by cases z⟩
  ·subst z;exact⟨oi,e1,λv z=>by rw[d1]at z;cases z⟩
 keep:=λi h h' st k=>⟨let ⟨old,he⟩:=st.1;⟨old,k e (by simp) _ he⟩,st.2.at λo q=>k it (by simp) o q⟩
 item:=by
  intro X hP hw hK hc i pins s σ H E I hf st hg;subst hP hw hK;obtain⟨xs,x,hq,hx⟩:=hg;obtain⟨its,rv,p,hz⟩:=I.list hq;obtain⟨u,hu,ru⟩:=rv.get hx;obtain⟨⟨old,he⟩,hit⟩:=st;have j6:=oD he;have o4:it<s.heap.objs.size:=by obtain⟨o,q,_⟩:=id hit;exact oD q
  refine wpAny_pyNext_enum_item he hit p.isList (x:=u) (by simpa using hu) mX λh1 eV Zre pC pR qW=>⟨_,rfl,?_⟩;refine wpAny_letOwnedTupleGo_enum eV λh2 vO sb=>?_;obtain⟨I2,hn⟩:=Dm (t':=s.toks+1) I hf ru pC qW sb j6 o4;exact⟨.ref s.heap.objs.size,_,I2,rfl,⟨_,x,rfl,I.hok.fresh (rX _),rfl,λys hy=>by rw[I.He hy hq];exact hx⟩,⟨⟨_,by simpa using vO⟩,Zre.at λo q=>(sb.2 it (dA mX)).trans q⟩,hn⟩
 done:=by
  intro X hP hw hK hc i pins s σ H E I hf st hg;subst hP hw hK;obtain⟨xs,hq,hx⟩:=hg;obtain⟨its,rv,p,hz⟩:=I.list hq;have hl:=rv.length;obtain⟨⟨old,he⟩,hit⟩:=st;obtain⟨f0,f1,f2,f3,f4,f5⟩:=hf it (by simp);exact wpAny_pyNext_enum_end (I.ok.hd hc) he hit p.isList (by simp;lia) λh' eb=>⟨rfl,I.turned (t':=s.toks) (λb o hb q=>eb b o hb q) f0 f1 f3 f4 f5⟩
 self:=λ_ _ _ _ _ st h=>let ⟨_,he⟩:=st.1;ZS he h
theorem Zbj{pos:Pos}(a e it:Addr)(mX:e≠it):
  Turn P w K (.Tuple es n pos) (ItE λH xs=>SqT K H a xs) [e,it] e (λi h=>(∃old,IsEnum h e it i old)∧h.IsTupleIter it a i) where
 mem:=by simp
 obj:=λi h st b hb=>by
  obtain⟨⟨old,he⟩,oi,e1,c1,d1⟩:=st;have z8:b=e∨b=it:=by simpa using hb
  rcases z8 with z|z
  ·subst z;exact⟨_,he,λv z=>by cases z⟩
  ·subst z;exact⟨oi,e1,λv z=>by rw[d1]at z;cases z⟩
 keep:=λi h h' st k=>⟨let ⟨old,he⟩:=st.1;⟨old,k e (by simp) _ he⟩,st.2.at λo q=>k it (by simp) o q⟩
 item:=by
  intro X hP hw hK hc i pins s σ H E I hf st hg;subst hP hw hK;obtain⟨xs,x,hq,hx⟩:=hg;obtain⟨its,rv,p,hz⟩:=I.tuple hq;have hl:=rv.length
  have x5:i<its.toArray.size:=by
   have:=(oG.mp hx).1;simp;lia
  obtain⟨⟨old,he⟩,hit⟩:=st;have j6:=oD he;have hT:s.heap.IsTuple a its.toArray:=p;have o4:it<s.heap.objs.size:=by obtain⟨o,q,_⟩:=id hit;exact oD q
  have nat:a≠it:=λz=>by
   obtain⟨o,q,c,_⟩:=id hit;obtain⟨o2,q2,c2,_⟩:=id hT;rw[z,q]at q2;cases q2;rw[c]at c2
   injection c2 with c2
   exact absurd c2 (by decide)
  have nae:a≠e:=λz=>by
   obtain⟨o2,q2,c2,_⟩:=id hT;rw[z,he]at q2;cases q2
   injection c2 with c2
   exact absurd c2 (by decide)
  have hef:e∉[it,a]:=by simp[mX,dA nae]
  refine wpAny_pyNext_enum_itemD (Zk1 (A:=X.A.in1) (I.ok.hd hc) it a nat its.toArray) he ⟨hit,hT⟩ x5 mX hef λu h1 tk hu eV Zre pC pR qW=>⟨_,rfl,?_⟩;refine wpAny_letOwnedTupleGo_enum eV λh2 vO sb=>?_;obtain⟨u',vX,ru⟩:=rv.get hx
  have eu:u=u':=by
   have h3:its[i]?=some u:=by simpa using hu
   rw[vX]at h3;exact(Option.some.inj h3).symm
  subst eu;obtain⟨I2,hn⟩:=Dm (t':=tk+1) I hf ru pC qW sb j6 o4;exact⟨.ref s.heap.objs.size,_,I2,rfl,⟨_,x,rfl,I.hok.fresh (rX _),rfl,λys hy=>by rw[I.Mk hy hq];exact hx⟩,⟨⟨_,by simpa using vO⟩,Zre.1.at λo q=>(sb.2 it (dA mX)).trans q⟩,hn⟩
 done:=by
  intro X hP hw hK hc i pins s σ H E I hf st hg;subst hP hw hK;obtain⟨xs,hq,hx⟩:=hg;obtain⟨its,rv,p,hz⟩:=I.tuple hq;have hl:=rv.length;obtain⟨⟨old,he⟩,hit⟩:=st;have hT:s.heap.IsTuple a its.toArray:=p
  have nat:a≠it:=λz=>by
   obtain⟨o,q,c,_⟩:=id hit;obtain⟨o2,q2,c2,_⟩:=id hT;rw[z,q]at q2;cases q2;rw[c]at c2
   injection c2 with c2
   exact absurd c2 (by decide)
  obtain⟨f0,f1,f2,f3,f4,f5⟩:=hf it (by simp);have ei:i=its.toArray.size:=by simp;lia
  subst ei;exact wpAny_pyNext_enum_endD (Zk1 (A:=X.A.in1) (I.ok.hd hc) it a nat its.toArray) he ⟨hit,hT⟩ λh' eb=>⟨rfl,I.turned (t':=s.toks) (λb o hb q=>eb b o hb q) f0 f1 f3 f4 f5⟩
 self:=λ_ _ _ _ _ st h=>let ⟨_,he⟩:=st.1;ZS he h
section
variable {X:Cx}{es:VH}{n:Nat}{tp:Pos}
def Zuh(K:W.Frag)(te:TE):TI:=λσ H R=>te σ H λx H1=>∃a xs,x=.ref a∧((SqL K H1 a xs∧R (ItE λH xs=>SqL K H a xs) H1)∨(SqT K H1 a xs∧R (ItE λH xs=>SqT K H a xs) H1))
theorem Zl2{pos:Pos}(hg:Gl X "enumerate")(hm:X.mg "enumerate"=none)(he:PE X e te)(hK:X.K=K:=by rfl)
  (h2:starEach [e] X.env=(false,eval e X.env) :: starEach [] X.env:=by rfl):PI X (.Tuple es n tp) (.Call (.Name "enumerate" p) [e] [] pos) (Zuh K te):=by
 subst hK;intro pins s σ H R I h
 refine iX (Qq I hg hm Bj (bA (thn (Za he Zb h2 pos pins s σ H (λvs H1=>match vs with|[x]=>∃a xs,x=.ref a∧((SqL X.K H1 a xs∧R (ItE λH xs=>SqL X.K H a xs) H1)∨(SqT X.K H1 a xs∧R (ItE λH xs=>SqT X.K H a xs) H1))|_=>False) I h) λus s1 ⟨vs,H1,I1,r1,q1⟩=>?_) h2 rfl))
 obtain⟨x0,e0,a,xs,e1,q⟩:∃x0,vs=[x0]∧∃a xs,x0=.ref a∧((SqL X.K H1 a xs∧R (ItE λH xs=>SqL X.K H a xs) H1)∨(SqT X.K H1 a xs∧R (ItE λH xs=>SqT X.K H a xs) H1)):=by
  match vs,q1 with
  |[x0],q1=>exact⟨x0,rfl,q1⟩
 subst e0 e1;obtain⟨u,rfl,ru⟩:=Vals.one r1;obtain rfl:u=Value.ref a:=ru
 have fp:∀b∈[s1.heap.objs.size+1,s1.heap.objs.size],Gw X pins H1 b:=λb hb=>by
  have z8:b=s1.heap.objs.size+1∨b=s1.heap.objs.size:=by simpa using hb
  rcases z8 with z|z
  ·rw[z];exact I1.Fg (dH _) (I1.hok.fresh (dH _))
  ·rw[z];exact I1.Fg (rX _) (I1.hok.fresh (rX _))
 rcases q with ⟨hx,q⟩|⟨hx,q⟩
 ·obtain⟨its,rv,pl,hz⟩:=I1.list hx;refine call_enumerate_list pl.isList λh' hE hI hsz hk=>ZS hE ?_;exact⟨_,[s1.heap.objs.size+1,s1.heap.objs.size],_,_,H1,rfl,I1.kept (t':=s1.toks) hk,Zbk a _ _ (YD _),⟨⟨_,hE⟩,hI⟩,fp,q⟩
 ·obtain⟨its,rv,pl,hz⟩:=I1.tuple hx;refine Zcz (show s1.heap.IsTuple a its.toArray from pl) λh' hE hI hsz hk=>ZS hE ?_;exact⟨_,[s1.heap.objs.size+1,s1.heap.objs.size],_,_,H1,rfl,I1.kept (t':=s1.toks) hk,Zbj a _ _ (YD _),⟨⟨_,hE⟩,hI⟩,fp,q⟩
end
theorem Zkl{Sq:Hp→List V→Prop}(Pv:Nat→St→Hp→Prop)(h0:Pv 0 σ H)(hl:∀i σ H,i≤xs.length→Pv i σ H→Sq H xs)
  (hs:∀i x σ H p,xs[i]?=some x→Pv i σ H→H p=none→g (.ref p) σ (upd H p (.tup [.int i,x])) λx8 H2=>tb { D with nx:=Pv (i+1),ct:=Pv (i+1),bk:=D.nx } x8 H2) (hd:∀σ H,Pv xs.length σ H→D.nx σ H) :
  ∃W:Nat→Nat→St→Hp→Prop,(∃m,W 0 m σ H)∧∀i m σ H,W i m σ H→
   ((ItE Sq).stop i H∧D.nx σ H)∨((ItE Sq).go i H∧∃N:St→Hp→Prop,(∀x4 H',N x4 H'→∃m',m'<m∧W (i+1) m' x4 H')∧∀x H',(ItE Sq).yld i H x H'→g x σ H' λx8 H2=>tb { D with nx:=N,ct:=N,bk:=D.nx } x8 H2):=by
 refine⟨λi m σ H=>m=xs.length-i∧i≤xs.length∧Pv i σ H,⟨xs.length,by simp,lB _,h0⟩,?_⟩;rintro i m σ H ⟨rfl,hi,p⟩;have q:=hl i σ H hi p
 by_cases x5:i<xs.length
 ·refine .inr ⟨⟨xs,xs[i],q,by simp[x5]⟩,Pv (i+1),λx4 H' p'=>⟨xs.length-(i+1),by lia,rfl,x5,p'⟩,λx H' y=>?_⟩;obtain⟨a,y,e1,hn,e2,hy⟩:=y;subst e1 e2;exact hs i y σ H a (hy xs q) p hn
 ·have e:i=xs.length:=by lia
  subst e;exact .inl ⟨⟨xs,q,rfl⟩,hd σ H p⟩
section
variable {P:Program}{w:World}{κ:Type} [DecidableEq κ] {knd:HeapKind P w κ}{A:Around}{E:XW}{s:Shared}
theorem B3{xs:List (κ×Addr×Value)}{k:κ}{dflt:Value}(hu:knd.room A)(Hk:knd.is s.heap k a)(hm:s.heap.DictOfH knd d xs)(hsz:xs.length≤sizeLine)
  (h1:∀p,atKey xs k=some p→Q p.2 { s with toks:=s.toks+knd.draws k }) (h2:atKey xs k=none→∀h',h'.DictOfH knd d (storedH xs k a dflt)→Heap.SameBut d s.heap h'→Q dflt { s with heap:=h',toks:=s.toks+knd.draws k }) :
  wpAny (model P w) A (dictSetDefault d (.ref a) dflt) Q E s:=by
 obtain⟨o,es,ep,ho,hc,hd,he,gQ,hn⟩:=hm;unfold dictSetDefault
 try with_reducible refine lE ?_
 refine rS (knd.pyHash hu Hk (rS (wpAny_dictFind_heap (s:={ s with toks:=s.toks+knd.draws k }) hu Hk ho hd he gQ hn (λno=>?_) λj p hj=>?_)))
 ·have h0:=atKey_none_of_get no;have e:=storedH_new h0 a dflt;have z:=size_of_entries he
  refine rS (cA (rS (wpAny_updateDictKeys (hz:=by lia) (s:={ s with toks:=s.toks+knd.draws k }) ho hd (rT (h2 h0 _ ?_ (dU ..))))));refine⟨_,_,ep+1,iT _ ho (Obj.isFreed_of_dict (Obj.data_mapDictKeys hd _)),hc.mapDictKeys _,Obj.data_mapDictKeys hd _,?_,?_,?_⟩<;>rw[e]
  ·simp[he,entryOfKey]
  ·intro x hx
   rcases oJ.mp hx with y|y
   ·exact knd.keeps (gQ x y) ho hd (dU ..)
   ·rw[rY.mp y];exact knd.keeps Hk ho hd (dU ..)
  ·rw[oK,cC];refine⟨hn,by simp,λx hx y hy q=>not_mem_keys_of_get no ?_⟩;have:y=k:=by simpa using hy
   rw[←this,←q];exact hx
 ·refine rS (ZT (s:={ s with toks:=s.toks+knd.draws k }) ho hd ?_);rw[entry_at he j,hj];exact rS (cA (rT (h1 p (atKey_of_get hn hj))))
theorem G7{k:κ}(hs:(d==sysModules)=false)(dflt:Value):
  MeetsIn P w (Builtin.«dict.setdefault» ⟨[.ref d,.ref a,dflt],[]⟩) (λA R s=>knd.room A.in1∧knd.is s.heap k a∧∃xs,s.heap.DictOfH knd d xs∧xs.length≤sizeLine∧
   (∀p,atKey xs k=some p→R (.ok (.ret p.2)) { s with toks:=s.toks+knd.draws k })∧(atKey xs k=none→∀h',h'.DictOfH knd d (storedH xs k a dflt)→Heap.SameBut d s.heap h'→R (.ok (.ret dflt)) { s with heap:=h',toks:=s.toks+knd.draws k })):=
 .of_wp λA R s ⟨hu,hk,xs,hm,hz,h1,h2⟩=>by
  unfold Builtin.«dict.setdefault» Builtin.Dict.keyAndDefault;refine rS (rS (YH hm.typeIs (rT ?_)));show wpAny _ _ (ite ((d==sysModules)=true) _ (dictSetDefault d (.ref a) dflt >>= _)) _ _ s;rw[hs,if_neg oW];exact rS (B3 hu hk hm hz (λp q=>rT ⟨_,rfl,h1 p q⟩) λn h' a b=>rT ⟨_,rfl,h2 n h' a b⟩)
end
section
variable {X:Cx}
def Zpe(td ty tx:TE):TE:=λσ H Q=>td σ H λx H1=>∃a,x=.ref a∧IsD H1 a∧ty σ H1 λy H2=>tx σ H2 λz H3=>∃kvs k b,H3 a=some (.dT kvs)∧y=.ref b∧H3 b=some (.tup (k.map kV))∧kvs.length<sizeLine∧
 (∀v,W8 kvs k=some v→Q v H3)∧(W8 kvs k=none→Q z (upd H3 a (.dT (putK kvs k z))))
theorem Zjb{o f:Expr}{td ty tx:TE}(hu:X.A.units+1<cLine)(ho:PE X o td)(he:PE X e ty)(hf:PE X f tx)(m:M2 X o "setdefault" apos e f Xy):PE X (.Call (.Attribute o "setdefault" apos) [e,f] [] Xy) (Zpe td ty tx):=by
 intro pins s σ H Q I h;refine wpAny_Call_method m.base m.few m.line PySem.F.plainAttrs_dict PySem.F.slot_dict_setdefault PySem.F.type_dict_setdefault (thn (ho pins s σ H _ I h) λu s1 ⟨x,H1,I1,rx,a,ex,d,q1⟩=>?_);subst ex;obtain rfl:u=Value.ref a:=rx;obtain⟨t1,t2,_⟩:=Zq3 I1 d;refine⟨t1,t2,?_⟩;rw[m.trees]
 refine ZX rfl (Calls.evalArgs_plain (XH (thn (he pins s1 σ H1 _ I1 q1) λiv s2 ⟨y,H2,I2,ry,q2⟩=>
  XH (thn (hf pins s2 σ H2 _ I2 q2) λfv s3 ⟨z,H3,I3,rz,kvs,k,b,hk,ey,hb,x5,q3,q4⟩=>Calls.spliced_nil ?_))))
 subst ey;obtain rfl:iv=Value.ref b:=ry;obtain⟨hz,vV,xs,rel,dd⟩:=Zk0 I3.hok hk;have pM:xs.length≤sizeLine:=by rw[←dZ rel];exact hz
 refine call_meetsIn PySem.F.slot_dict_setdefault dd.typeIs PySem.F.entry_dict_setdefault (PySem.F.args_dict_setdefault_3 _ _ _) (G7 (knd:=tupleKind (Z0 X.prog X.w)) (k:=k) vV fv) ⟨tupleKind_room_in1 hu,Qr I3.hok hb,xs,dd,pM,λp hp=>?_,λhn h' p7 hs=>?_⟩
 ·have r:=rel.val k;rw[hp]at r
  cases hv:W8 kvs k with
  |none=>rw[hv]at r;exact r.elim
  |some v=>
   rw[hv]at r;exact⟨v,H3,I3.tok _,r,q3 v hv⟩
 ·have r:=rel.val k;rw[hn]at r
  have hv:W8 kvs k=none:=by
   cases hv:W8 kvs k with
   |none=>rfl
   |some v=>rw[hv]at r;exact r.elim
  have hl:(putK kvs k z).length≤sizeLine:=by have:=Tc kvs k z;lia
  obtain⟨q,es,ep,hq,h2,h3,h4,_,h5⟩:=p7;refine⟨z,upd H3 a (.dT (putK kvs k z)),S9 I3 (by rw[hk];exact True.intro) hs ⟨q,hq⟩ ⟨hl,vV,_,(rel.put k hb rz).keeps λc ys ec=>?_,q,es,ep,hq,h2,h3,h4,h5⟩,rz,q4 hv⟩;rw[Zk (Yt ec hk (λz=>nomatch z))];exact ec
end
section
variable {X:Cx}{pos:Pos}
end
section
variable {X:Cx}
end
def Zsp(P:Addr)(L:VP)(fdOf:Value→Addr→Value→FuncData)(q:Str)(i:Nat):TS:=λD σ H=>Tb P L H∧
 ∀H' f c ct doc,Uv P H H'→Tb P L H'→H f=none→H' f=some (FnO f (fdOf doc c ct))→H' c=some (CdO c q)→D.nx (σ.set i (some (.ref f))) H'
section
variable {X:Cx}{name:Str}{params:Arguments}{body:List Stmt}{scope:Scope}{pos:Pos}{c P:Addr}{L:VP}{i:Nat}
theorem Zec(hN:X.N.Nodup)(hi:X.N[i]?=some name)(hx:Loc X.env.scope name)(De:X.env.code=.ref c)(C:W.CodeHd X.base c P)(hB:Mf X.mg X.base)(hL:(pos,qualnameIn X.env name name)∈L)(hu:∀x∈L,x.1.line=pos.line→x.1.col=pos.col→x.2=qualnameIn X.env name name)
  (xH:params.defaults=[]:=by rfl) (qV:params.kw_defaults=[]:=by rfl) (ha:annTrees params none X.env=[]:=by rfl) {sc:Scope} (eW:X.env.scope=sc:=by rfl) (n5:∀y∈scope.names,y.2=NameKind.free→sc.names.lookup y.1=some .cell∨sc.names.lookup y.1=some .free:=by decide +kernel)
  (hf:X.fn name=true∨X.env.scope.names.lookup name=some .local:=by first|exact .inl rfl|exact .inr rfl|assumption) :
  PS X (.FunctionDef name params body [] none [] scope none name pos) (Zsp P L (λdoc c ct=>W.fnX name (qualnameIn X.env name name) params body scope (Sv X.env scope.names []) .none .none doc ((X.mg "__name__").getD .none) none (.ref c) ct) (qualnameIn X.env name name) i):=by
 intro pins s σ H D I ⟨⟨ps,hP,ht,hT⟩,hq⟩;have vK:s.heap.get? P=some (W.tabObj ps):=I.hok P _ hP;have hg:=I.mod.glob.keeps I.bk;have hb:=(hB.keeps I.bk).at_ hg vK;have o0:∀y∈scope.names,y.2=NameKind.free→∃c,X.env.cells.lookup y.1=some c:=λy hy e=>I.ok.has y.1 (by subst eW;exact n5 y hy e);refine W.nestDef_K xH qV ha (thn (Q:=EP X pins σ λv H'=>D.nx (σ.set i (some v)) H') ?_ λu s1 ⟨v,H1,I1,r1,q1⟩=>Ue I1 hN hi hx r1 (λs2 I2=>⟨_,H1,I2,q1⟩) hf)
 rcases hT _ hL with hn|⟨c2,hc,v0⟩
 ·refine W.makeFunction_K (mg:=X.mg) (O4 o0) I.ok.glob hg De (C.keeps I.bk) vK ht hn (Zty hg vK) hb λc' sF doc h' tk m9 eD x5 Zq9 gZ=>?_;exact Zmj (fdOf:=λc ct=>W.fnX name (qualnameIn X.env name name) params body scope (Sv X.env scope.names []) .none .none doc ((X.mg "__name__").getD .none) none (.ref c) ct) I hP ht hT hu (λH' f c ct a b d e g=>hq H' f c ct doc a b d e g) hn m9 eD x5 Zq9 gZ
 ·refine W.makeFunction_hit (mg:=X.mg) (O4 o0) I.ok.glob hg De (C.keeps I.bk) vK ht hc hb λsF doc h' tk hk hsz=>?_;have nf:H h'.objs.size=none:=I.hok.fresh hsz;refine⟨.ref h'.objs.size,_,I.laid (t':=tk) (λb u e=>rV _ (hk b u e)) hsz (Zkm (oC _ rfl)),rfl,?_⟩;have e0:Zt H (upd H h'.objs.size (FnO h'.objs.size (W.fnX name (qualnameIn X.env name name) params body scope (Sv X.env scope.names []) .none .none doc ((X.mg "__name__").getD .none) none (.ref c2) sF))):=λb o e=>by rw[Zk (Zi e nf)];exact e
  exact hq _ _ c2 sF doc e0.t (Tb.same ⟨ps,hP,ht,hT⟩ e0) nf Zc (e0 _ _ v0)
end
theorem Zrw{k:Nat}{c:Addr}{cl:VG} 
  (S:Zle N ps scope) (LC:Ze8 base N ps scope cl fv) (len:∀vs H Q E,sp vs H Q E→vs.length=ps.length)
  (yI:∀vs H Q E,sp vs H Q E→H f=some (FnO f (W.fnX name qual params body scope cl .none .none doc pm none (.ref c) ct))∧H c=some (CdO c qual))
  (Qw:∀(A:Around) (outer:List Env) (s:Shared) (H:Hp) (vs:List V) (Q:VK) (E:XK),Xi k (A.deeper (W.envX qual scope s.heap.objs.size f (.ref c) cl))→sp vs H Q E→
   ∃t,PSs (Lz P w K mg base N qual scope f (.ref c) cl A outer s H) body t∧t { nx:=λ_ H'=>Q .non H',rt:=Q } (vs.map some++fv.map some) H) :
  Ya P w K mg base CX0 (k+1) f (W.fnX name qual params body scope cl .none .none doc pm none (.ref c) ct) ps sp:=by
 refine⟨len,λA outer s H args us vs Q E hr e0 hb r m8=>?_⟩;have hl:=len _ _ _ _ m8;obtain⟨hf,hc⟩:=yI _ _ _ _ m8;have lim:s.heap.NoLimit:=e0.mod.nolimit.keeps λb o e=>(e0.bs b o e).1;refine YG hr.depth (FnO.at_ e0.hok hf) rfl S.co S.gen rfl (CdO.at_ e0.hok hc) (hb _ _ _ _ ?_);refine YN S.Mx (λy hy=>S.par y.1 (aB hy).1) (λh1 c8 b8=>?_) S.kind;have hk:∀b o,s.heap.get? b=some o→h1.get? b=some o:=λb o e=>b8.extBut b o (oY (oD e)) (rV _ e);refine⟨lim.keeps hk,codeAny_func ?_⟩;obtain⟨t,ht,hq⟩:=Qw A outer s H vs Q E (hr.deeper _) m8
 have I:Inv (Lz P w K mg base N qual scope f (.ref c) cl A outer s H) [] (vs.map some++fv.map some) H { s with heap:=h1,toks:=s.toks+(ps.zip us).length }:=Zek S LC hr.hd e0 hl r c8 hk;refine iD (ht [] _ _ H _ I hq) (λfl s' hs=>?_) λe s' hs=>hs.elim
 cases fl with
 |ret u=>
  obtain⟨v,x4,H',J,rv,q⟩:=hs;exact⟨v,H',J.os,J.bare,J.base,J.hok,rv,q⟩
 |next=>
  obtain⟨x4,H',J,q⟩:=hs;exact⟨.non,H',J.os,J.bare,J.base,J.hok,rfl,q⟩
 |brk=>
  obtain⟨_,_,_,q⟩:=hs;exact False.elim q
 |cont=>
  obtain⟨_,_,_,q⟩:=hs;exact False.elim q
section
variable {P:Program}{w:World}{κ:Type} [DecidableEq κ] {knd:PySem.KeyKind P w κ}{A:Around}{E:XW}{s:Shared}
abbrev kitO(d:Addr)(n ep:Nat):Obj:={ cls:=.type "dict_keyiterator",data:=.fields #[.ref d,.int 0 0,.int n 0,.int ep 0] }
open AutoSeq1 (wpAny_loadPart') in
end
section
variable {X:Cx}{ex:VH}{n:Nat}{tp:Pos}
end
section
variable {P:Program}{w:World}{κ:Type} [DecidableEq κ] {knd:HeapKind P w κ}{A:Around}{E:XW}{s:Shared}
end
section
variable {X:Cx}
end
section
variable {X:Cx}
end
def Lj(h:Heap)(d:Addr)(es:Array DictEntry)(ep:Nat):Prop:=∃o,h.get? d=some o∧o.ExactDict∧o.data=.dict es ep
section
variable {P:Program}{w:World}{A:Around}{E:XW}{s:Shared}{it d:Addr}{i ep:Nat}{es:Array DictEntry}
theorem Lj.typeIs(hm:Lj s.heap d es ep):s.TypeIs (.ref d) "dict":=let ⟨o,h1,h2,_⟩:=hm;⟨o,h1,h2.1⟩
theorem Ci(hs:(d==sysModules)=false)(hm:Lj s.heap d es ep)(q:Q (.ref s.heap.objs.size) { s with heap:=s.heap.push (kitO d es.size ep) }):wpAny (model P w) A (pyIter (.ref d)) Q E s:=by
 have ty:=hm.typeIs;obtain⟨o,e1,e2,e3⟩:=hm;refine XQ ty F.slot_dict_iter (iF F.slot_dict_iter ty F.entry_dict_iter ?_ (F.args_dict_iter_1 _));unfold Builtin.«dict.__iter__»;refine rS ?_;unfold Builtin.Dict.dictSlotNone;refine rS (YH ty (rT ?_));show wpAny _ _ (Builtin.Dict.showsAll d >>= _) _ _ s;unfold Builtin.Dict.showsAll;rw[if_neg (by rw[hs];exact oW)];refine rS (rT (rS (ZT e1 e3 (rS (wpAny_dictEpoch e1 e3 ?_)))));refine rS (lQ (rT ⟨_,rfl,"dict_keyiterator",_,⟨_,oC _ rfl,rfl⟩,cB.lookup,?_⟩));simpa[rawInt] using q
theorem Cj(hi:s.heap.IsKeyIter it d i es.size ep)(hm:Lj s.heap d es ep)(x5:i<es.size)(q:∀h',h'.IsKeyIter it d (i+1) es.size ep→Heap.SameBut it s.heap h'→Q es[i].key { s with heap:=h' }):
  wpAny (model P w) A (Builtin.«dict_keyiterator.__next__» ⟨[.ref it],[]⟩) (λfin s'=>∃r,fin=.done (.ret r)∧Q r s') E s:=by
 obtain⟨o,e0,ec,ed⟩:=id hi;obtain⟨od,eo,ecd,kW⟩:=id hm;refine rS (rT (rS (rS ?_)))
 first|refine rS (cT hi.typeIs (rT (rS (ZO e0 ed ?_))))|refine rS (bR hi.typeIs (rT (rS (ZO e0 ed ?_))))
 simp only[show Builtin.Dict_items.ownsTuple "dict_keyiterator"=false by decide,iY,if_false];show wpAny _ _ (ite ((Value.ref d==Value.none)=true) _ _) _ _ s;refine(if_neg (show ¬ (Value.ref d==Value.none)=true from oW))▸?_;refine rS (rT (rS (ZT eo kW ?_)));rw[if_neg (by simp)];refine rS (rT (rS (wpAny_dictEpoch eo kW ?_)));rw[if_neg (by simp)];refine rT ?_;simp only[show ¬ ((i:Int)<0) from by lia,if_false,cO,bM x5];refine rS ?_
 first|refine rS (cT hi.typeIs (rT (rS (YI hi.typeIs ?_))))|refine rS (bR hi.typeIs (rT (rS (YI hi.typeIs ?_))))
 have u5:(s.heap.update it (Obj.mapFields (·.setIfInBounds 1 (rawInt ((i:Int)+1))))).IsKeyIter it d (i+1) es.size ep:=by
  refine⟨_,iT _ e0 (aL (cI ed _)),(XS ..).trans ec,?_⟩;rw[cI ed];simp[rawInt]
 refine rS (m:=setField (.ref it) 1 (rawInt ((i:Int)+1))) (cV e0 ed (by simp) (rS (lE (rS (YI (s:={ s with heap:=s.heap.update it (Obj.mapFields (·.setIfInBounds 1 (rawInt ((i:Int)+1)))) }) u5.typeIs ?_)))));exact rT (rT ⟨_,rfl,q _ u5 (dU ..)⟩)
theorem S1{Q:WX}(hi:s.heap.IsKeyIter it d i es.size ep)(hm:Lj s.heap d es ep)(x5:i<es.size)(q:∀h',h'.IsKeyIter it d (i+1) es.size ep→Heap.SameBut it s.heap h'→Q (some es[i].key) { s with heap:=h' }):
  wpAny (model P w) A (pyNext (.ref it)) Q E s:=by
 unfold pyNext;refine rS (bI (dD (name:=Str.ofString "__next__") hi.typeIs cB (iF cB hi.typeIs F.entry_dict_keyiterator_next ?_ (YU _))));exact Cj hi hm x5 λh' a b=>rT (q h' a b)
theorem Aa{Qf:Fin→Shared→Prop}(hh:A.handled=none)(hi:s.heap.IsKeyIter it d i es.size ep)(hm:Lj s.heap d es ep)(eD:es.size≤i)(q:∀h' e,Heap.ExtBut it s.heap h'→(∃o,h'.get? e=some o∧o.cls=.type "StopIteration")→E (.ref e) { s with heap:=h' }):
  wpAny (model P w) A (Builtin.«dict_keyiterator.__next__» ⟨[.ref it],[]⟩) Qf E s:=by
 obtain⟨o,e0,ec,ed⟩:=id hi;obtain⟨od,eo,ecd,kW⟩:=id hm;refine rS (rT (rS (rS ?_)))
 first|refine rS (cT hi.typeIs (rT (rS (ZO e0 ed ?_))))|refine rS (bR hi.typeIs (rT (rS (ZO e0 ed ?_))))
 simp only[show Builtin.Dict_items.ownsTuple "dict_keyiterator"=false by decide,iY,if_false];show wpAny _ _ (ite ((Value.ref d==Value.none)=true) _ _) _ _ s;refine(if_neg (show ¬ (Value.ref d==Value.none)=true from oW))▸?_;refine rS (rT (rS (ZT eo kW ?_)));rw[if_neg (by simp)];refine rS (rT (rS (wpAny_dictEpoch eo kW ?_)));rw[if_neg (by simp)];refine rT ?_;simp only[show ¬ ((i:Int)<0) from by lia,if_false,cO,Array.getElem?_eq_none eD];refine rS ?_
 first|refine rS (cT hi.typeIs (rT ?_))|refine rS (bR hi.typeIs (rT ?_))
 refine rS (m:=setField (.ref it) 0 .none) (cV e0 ed (by simp) (rS (m:=newExc (.type "StopIteration") []) ?_));simp only[newExc,newTuple,raiseNew];refine rS (lQ (rS (m:=firstArgMember _ _) (ZZ (a:=Value.none) (by first|rfl|(simp only[firstArgMember];rfl)) (lQ ?_ (by size_fits)))) (by size_fits));refine rS (wpAny_handled ?_);rw[hh];exact rS (rT (wpAny_throw (q _ _ (((dU ..).extBut.push _).push _) ⟨_,oC _ rfl,rfl⟩)))
theorem Qd{Q:WX}(hh:A.handled=none)(hi:s.heap.IsKeyIter it d i es.size ep)(hm:Lj s.heap d es ep)(eD:es.size≤i)(q:∀h',Heap.ExtBut it s.heap h'→Q none { s with heap:=h' }):
  wpAny (model P w) A (pyNext (.ref it)) Q E s:=by
 unfold pyNext;refine rS (bI (dD (name:=Str.ofString "__next__") hi.typeIs cB (iF cB hi.typeIs F.entry_dict_keyiterator_next ?_ (YU _))));refine Aa (A:=A.in1) hh hi hm eD λh' e eb ho=>?_;refine rS (cG (T:="StopIteration") (b:=true) ho isSubtype_stop ?_);exact rT (q _ eb)
open AutoSeq1 (wpAny_loadPart') in
theorem Lj.at'(x:Lj h d es ep)(e:∀o,h.get? d=some o→h'.get? d=some o):Lj h' d es ep:=let ⟨o,a,b⟩:=x;⟨o,e o a,b⟩
end
theorem rawT(ok:HOk P w H h)(e:H a=some (.frz o (.dT kvs))):
  (a==sysModules)=false∧∃(es:Array DictEntry) (ep:Nat) (bs:VB),h.get? a=some o∧o.ExactDict∧o.data=.dict es ep∧es.toList.map (·.key)=bs.map Value.ref∧bs.length=kvs.length∧∀(i:Nat) b k v,bs[i]?=some b→kvs[i]?=some (k,v)→H b=some (.tup (k.map kV)):=by
 obtain⟨ho,z,y,xs,r,o',es,ep,h1,h2,h3,h4,h5⟩:=ok a _ e;rw[ho]at h1;cases h1;refine⟨y,es,ep,xs.map (·.2.1),ho,h2,h3,?_,by rw[rW];exact(dZ r).symm,?_⟩
 ·rw[h4,lW,lW];rfl
 ·have key:∀{l:List (List Key×V)}{m:List (List Key×Addr×Value)},KT H l m→∀(i:Nat) b k v,(m.map (·.2.1))[i]?=some b→l[i]?=some (k,v)→H b=some (.tup (k.map kV)):=by
   intro l m q
   induction q with
   |nil=>intro i b k v a1 _;simp at a1
   | @cons p q ps qs hq t ih=>
    intro i b k v a1 a2
    cases i with
    |zero=>
     cases a1;cases a2;exact hq.2.1
    |succ i=>exact ih i b k v (by simpa using a1) (by simpa using a2)
  exact key r
theorem Hg{es:Array DictEntry}{bs:VB}(h:es.toList.map (·.key)=bs.map Value.ref):es.size=bs.length∧∀(i:Nat) (hi:i<es.size),∃b,bs[i]?=some b∧es[i].key=.ref b:=by
 have hl:es.size=bs.length:=by
  have:=congrArg List.length h;rwa[rW,rW,oZ]at this
 refine⟨hl,λi hi=>⟨bs[i]'(by lia),rZ (by lia),?_⟩⟩;have:=congrArg (λz:List Value=>z[i]?) h;simp only[oP]at this;rw[rZ (by rw[oZ];exact hi),rZ (by lia)]at this;simpa using this
def Zdc(a:Addr)(o:Obj)(kvs:List (List Key×V))(bs:VB):It:=
 ⟨λi H=>i<kvs.length∧H a=some (.frz o (.dT kvs)),λi H x H'=>H'=H∧∃b,bs[i]?=some b∧x=.ref b,λi H=>i=kvs.length∧H a=some (.frz o (.dT kvs))⟩
theorem Zbl(a it:Addr)(o:Obj)(kvs:List (List Key×V))(bs:VB)(es:Array DictEntry)(ep:Nat)(hx:o.ExactDict)(hd:o.data=.dict es ep)(hk:es.toList.map (·.key)=bs.map Value.ref)(hl:bs.length=kvs.length):
  Turn P w K tg (Zdc a o kvs bs) [it] it (λi h=>h.IsKeyIter it a i es.size ep) where
 mem:=by simp
 obj:=λi h st b hb=>by
  have e:b=it:=by simpa using hb
  subst e;obtain⟨o,e,c,d⟩:=st;exact⟨o,e,λv z=>by rw[d]at z;cases z⟩
 keep:=λi h h' st k=>st.at λo e=>k it (by simp) o e
 item:=by
  intro X hP hw hK hc i pins s σ H E I hf st hg;subst hP hw hK;obtain⟨hi,hq⟩:=hg;obtain⟨k1,k2⟩:=Hg hk;have u5:i<es.size:=by lia
  obtain⟨b,hb,ek⟩:=k2 i u5;obtain⟨f0,f1,f2,f3,f4,f5⟩:=hf it (by simp);refine S1 st ⟨o,(I.hok a _ hq).1,hx,hd⟩ u5 λh' t7 sb=>?_
  have I1:Inv X pins σ H { s with heap:=h' }:=I.turned (t':=s.toks) (λb o hb e=>(sb.2 b hb).trans e) f0 f1 f3 f4 f5;obtain⟨oi,e,c,d⟩:=id t7;rw[ek]
  exact⟨.ref b,rfl,Df (s:={ s with heap:=h' }) e c d (by decide) ⟨.ref b,H,I1,rfl,⟨rfl,b,hb,rfl⟩,t7,λb hb=>(hf b hb).1⟩⟩
 done:=by
  intro X hP hw hK hc i pins s σ H E I hf st hg;subst hP hw hK;obtain⟨hi,hq⟩:=hg;obtain⟨k1,_⟩:=Hg hk;obtain⟨f0,f1,f2,f3,f4,f5⟩:=hf it (by simp);exact Qd (I.ok.hd hc) st ⟨o,(I.hok a _ hq).1,hx,hd⟩ (by lia) λh' eb=>⟨rfl,I.turned (t':=s.toks) (λb o hb e=>eb b o hb e) f0 f1 f3 f4 f5⟩
 self:=λ_ _ _ _ _ st h=>YV st h
def Gv(H:Hp)(kvs:List (List Key×V))(bs:VB):Prop:=bs.length=kvs.length∧∀(i:Nat) b k v,bs[i]?=some b→kvs[i]?=some (k,v)→H b=some (.tup (k.map kV))
section
variable {X:Cx}{tg:Expr}
theorem frzT{s1:Shared}(I1:Inv X pins σ H1 s1)(hd:H1 a=some (.dT kvs)):∃o,Inv X pins σ (upd H1 a (.frz o (.dT kvs))) s1:=by
 obtain⟨z,y,xs,r,o,es,ep,h1,h2,h3,h4,h5⟩:=I1.hok a _ hd;refine⟨o,I1.write (x:=a) (e:=a) (t':=s1.toks) (h':=s1.heap) (by rw[hd];exact True.intro) (.inl rfl) (λb u _ e=>e) ⟨o,h1⟩ ⟨h1,z,y,xs,?_,o,es,ep,h1,h2,h3,h4,h5⟩⟩
 have key:∀{l:List (List Key×V)}{m:List (List Key×Addr×Value)},KT H1 l m→KT (upd H1 a (.frz o (.dT kvs))) l m:=by
  intro l m q
  induction q with
  |nil=>exact .nil
  |cons hq t ih=>exact .cons ⟨hq.1,by rw[Zk (Yt hq.2.1 hd λz=>nomatch z)];exact hq.2.1,hq.2.2⟩ ih
 exact key r
def Zq4(te:TE):TI:=λσ H R=>te σ H λx H1=>∃a kvs,x=.ref a∧((H1 a=some (.dT kvs)∧∀o bs,Gv (upd H1 a (.frz o (.dT kvs))) kvs bs→R (Zdc a o kvs bs) (upd H1 a (.frz o (.dT kvs))))∨∃o,H1 a=some (.frz o (.dT kvs))∧∀bs,Gv H1 kvs bs→R (Zdc a o kvs bs) H1)
theorem Zi7(he:PE X e te):PI X tg e (Zq4 te):=by
 intro pins s σ H R I h;refine thn (he pins s σ H _ I h) λv s1 ⟨x,H1,I1,r1,q1⟩=>?_;obtain⟨a,kvs,e,q⟩:=q1;subst e;obtain rfl:v=Value.ref a:=r1
 have key:∀(o:Obj) (H2:Hp),Inv X pins σ H2 s1→H2 a=some (.frz o (.dT kvs))→(∀bs,Gv H2 kvs bs→R (Zdc a o kvs bs) H2)→wpAny (model X.prog X.w) X.A (pyIter (.ref a)) (PIE X pins σ tg R) X.xe s1:=by
  intro o H2 I2 h2 q2;obtain⟨vV,es,ep,bs,g1,g2,g3,g4,g5,g6⟩:=rawT I2.hok h2;refine Ci vV ⟨o,g1,g2,g3⟩ ?_;refine⟨s1.heap.objs.size,[s1.heap.objs.size],_,_,H2,rfl,I2.kept (t':=s1.toks) λb o e=>rV _ e,Zbl a _ o kvs bs es ep g2 g3 g4 g5,⟨_,oC _ rfl,rfl,rfl⟩,λb hb=>?_,q2 bs ⟨g5,g6⟩⟩;have e:b=s1.heap.objs.size:=by simpa using hb
  subst e;exact I2.Fg (rX _) (I2.hok.fresh (rX _))
 rcases q with ⟨hd,q⟩|⟨o,hd,q⟩
 ·obtain⟨o,I2⟩:=frzT I1 hd;exact key o _ I2 Zc (q o)
 ·exact key o H1 I1 hd q
theorem Zgg{bs:VB}(Pv:Nat→St→Hp→Prop)(h0:Pv 0 σ H)(hl:∀i σ H,i≤kvs.length→Pv i σ H→H a=some (.frz o (.dT kvs)))
  (hs:∀i b σ H,bs[i]?=some b→Pv i σ H→g (.ref b) σ H λx8 H2=>tb { D with nx:=Pv (i+1),ct:=Pv (i+1),bk:=D.nx } x8 H2) (hd:∀σ H,Pv kvs.length σ H→D.nx σ H) :
  ∃W:Nat→Nat→St→Hp→Prop,(∃m,W 0 m σ H)∧∀i m σ H,W i m σ H→
   ((Zdc a o kvs bs).stop i H∧D.nx σ H)∨((Zdc a o kvs bs).go i H∧∃N:St→Hp→Prop,(∀x4 H',N x4 H'→∃m',m'<m∧W (i+1) m' x4 H')∧∀x H',(Zdc a o kvs bs).yld i H x H'→g x σ H' λx8 H2=>tb { D with nx:=N,ct:=N,bk:=D.nx } x8 H2):=by
 refine⟨λi m σ H=>m=kvs.length-i∧i≤kvs.length∧Pv i σ H,⟨kvs.length,by simp,lB _,h0⟩,?_⟩;rintro i m σ H ⟨rfl,hi,p⟩;have q:=hl i σ H hi p
 by_cases x5:i<kvs.length
 ·refine .inr ⟨⟨x5,q⟩,Pv (i+1),λx4 H' p'=>⟨kvs.length-(i+1),by lia,rfl,x5,p'⟩,λx H' y=>?_⟩;obtain⟨e,b,hb,ex⟩:=y;subst e ex;exact hs i b σ _ hb p
 ·have e:i=kvs.length:=by lia
  subst e;exact .inl ⟨⟨rfl,q⟩,hd σ H p⟩
end
section
variable {X:Cx}{ex:VH}{n:Nat}{tp:Pos}
end
open AutoSeq1 (wpAny_loadPart') in
open AutoSeq1 (wpAny_loadPart') in
section
variable {X:Cx}
end
def Fly(h:Heap)(e C:Addr)(d:WS):Prop:=∃(oe:Obj) (vs:WN),h.get? e=some oe∧oe.cls=.ref C∧oe.dict=d∧oe.data=.fields vs∧1<vs.size∧
 (vs[1]?=some .none∨∃T oT ts,vs[1]?=some (.ref T)∧h.get? T=some oT∧oT.data=.fields ts∧ts[3]?=some .none)
def exR(a C:Addr)(d:WS):HO:=.ext λh=>∃(oe:Obj) (vs:WN),h.get? a=some oe∧oe.cls=.ref C∧oe.dict=d∧oe.data=.fields vs∧1<vs.size
theorem Zkr{d:WS}(q:∃(oe:Obj) (vs:WN),h.get? a=some oe∧oe.cls=.ref C∧oe.dict=d∧oe.data=.fields vs∧1<vs.size):Z9 P w H h a (exR a C d):=
 ⟨q,let ⟨o,_,e,_⟩:=q;⟨o,e⟩,λ_ _ ⟨o,vs,e,r⟩ k=>⟨o,vs,k _ e,r⟩⟩
theorem Fly.there{d:WS}(F:Fly h a C d):∃(oe:Obj) (vs:WN),h.get? a=some oe∧oe.cls=.ref C∧oe.dict=d∧oe.data=.fields vs∧1<vs.size:=
 let ⟨o,vs,e,c,q,f,z,_⟩:=F;⟨o,vs,e,c,q,f,z⟩
section
variable {M:Model}{A:Around}{E:XW}{s:Shared}{base:Heap}{env:Env}{outer:List Env}{L e C:Addr}{d:WS}
def Zo0(env:Env)(outer:List Env)(e:Addr)(h h':Heap):Prop:=
 (∀b o,b≠e→b∉frs (env :: outer)→h.get? b=some o→h'.get? b=some o)∧∀b o,b≠e→h.get? b=some o→∃sl,h'.get? b=some { o with slots:=sl }
theorem Zai{oe:Obj}{vs:WN}{xH:Value}{had:Bool}{Q:WR}(n5:A.frames=some (env :: outer))(hl:s.heap.FunFrames base (env :: outer))(hf:env.frame=some L)
  (he:s.heap.get? e=some oe) (hc:oe.cls=.ref C) (yK:oe.dict=d) (hv:oe.data=.fields vs) (hz:1<vs.size) (h:∀h',Zo0 env outer e s.heap h'→Fly h' e C d→Q () { s with heap:=h' }) :
  wpAny M A (do let fr ←frameOf env;let pl ←entryPlaceOf L had;let en ←EntryCells.newEntry xH fr .none (rawInt L) .none pl;setField (.ref e) 1 en) (λ_ s'=>wpAny M A (setFlight (.ref e) none) Q E s') E s:=by
 have nfr:e∉(env :: outer).filterMap (·.frame):=λz=>by
  obtain⟨_,o,q,nf⟩:=hl.mem z;rw[he]at q;cases q;exact nf vs hv
 refine rS (wpAny_frameOf_fun n5 hl hf λh1 k1=>?_);refine rS (wpAny_entryPlaceOf λpl y3=>?_);unfold EntryCells.newEntry newFields;have sz5:=y3.sizeOk5 xH (.ref L) .none (rawInt L) .none;refine rS (lQ ?_ (y3.sizeOk5 _ _ _ _ _));have g1:h1.get? e=some oe:=(k1.2.1 e nfr).trans he;have ht3:(([xH,.ref L,.none,rawInt L,.none]++(if pl.isEmpty then List.replicate 6 Value.none else pl)).toArray)[3]?=some (rawInt L):=by simp
 have pG:3<(([xH,.ref L,.none,rawInt L,.none]++(if pl.isEmpty then List.replicate 6 Value.none else pl)).toArray).size:=(aV.mp ht3).1;generalize hoT:([xH,.ref L,.none,rawInt L,.none]++(if pl.isEmpty then List.replicate 6 Value.none else pl)).toArray=ts at ht3 pG;have g2:=rV (h:=h1) { cls:=.type "traceback",dict:=none,data:=.fields ts } g1;refine cV g2 hv hz ?_;have nT:h1.objs.size≠e:=iZ (oD g1);have v3:=cI hv (·.setIfInBounds 1 (Value.ref h1.objs.size));have g3:=iT (Obj.mapFields (·.setIfInBounds 1 (Value.ref h1.objs.size))) g2 (aL v3)
 have t3:((h1.push { cls:=.type "traceback",dict:=none,data:=.fields ts }).update e (Obj.mapFields (·.setIfInBounds 1 (Value.ref h1.objs.size)))).get? h1.objs.size=some { cls:=.type "traceback",dict:=none,data:=.fields ts }:=
  (lK _ _ (dA nT)).trans (oC h1 rfl)
 unfold setFlight;refine rS (iM g3 v3 (x:=.ref h1.objs.size) (by simp[hz]) ?_);rw[if_pos (by simp)];refine cV t3 rfl pG (h _ ⟨λb o nb nf q=>?_,λb o nb q=>?_⟩ ?_)
 ·have q1:h1.get? b=some o:=(k1.2.1 b nf).trans q;rw[lK _ _ (iZ (oD q1)),lK _ _ (dA nb)];exact rV _ q1
 ·obtain⟨sl,q1⟩:=k1.2.2 b o q;refine⟨sl,?_⟩;rw[lK _ _ (iZ (oD q1)),lK _ _ (dA nb)];exact rV _ q1
 ·refine⟨_,_,(lK _ _ nT).trans g3,(XS _ _).trans hc,?_,v3,by simpa using hz,.inr ⟨h1.objs.size,_,_,by simp[hz],iT _ t3 (aL (cI rfl _)),cI rfl _,?_⟩⟩
  ·cases oe;cases hv;exact yK
  ·rw[Array.getElem?_setIfInBounds_self_of_lt pG];rfl
theorem Zmd{Q:WR}(n5:A.frames=some (env :: outer))(hl:s.heap.FunFrames base (env :: outer))(hf:env.frame=some L)(F:Fly s.heap e C d)(h:∀h',Zo0 env outer e s.heap h'→Fly h' e C d→Q () { s with heap:=h' }):
  wpAny M A (noteFrame (.ref e) env) (λ_ s'=>wpAny M A (setFlight (.ref e) none) Q E s') E s:=by
 obtain⟨oe,vs,he,hc,yK,hv,hz,hT⟩:=F;unfold noteFrame;simp only[hf]
 rcases hT with h1|⟨T,oT,ts,h1,hT,mW,h3⟩
 ·refine rS (iM he hv h1 ?_);rw[if_neg (by decide)];exact Zai n5 hl hf he hc yK hv hz h
 ·refine rS (iM he hv h1 ?_);rw[if_pos (by simp)];refine rS (iM hT mW h3 ?_);rw[if_neg (show ¬ ((Value.none==rawInt L)=true) from by simp[rawInt])];refine rS (cV hT mW (aV.mp h3).1 ?_);rw[Heap.update_setField_same s.heap T oT ts 3 .none hT mW h3];exact Zai n5 hl hf he hc yK hv hz h
end
def CXE(P:Program)(w:World):CXT:=λouter H s E e s'=>∃(a C:Addr) (d:WS) (H':Hp),e=.ref a∧s'.os=s.os∧AllBare s'.gens∧Un (frs outer) [] H H' s.heap s'.heap∧HOk P w H' s'.heap∧Fly s'.heap a C d∧H' a=some (exR a C d)∧E (.ref a) none H'
section
variable {X:Cx}{pins:XX}{σ:St}{H:Hp}{s:Shared}{a C:Addr}{d:WS}{M:Model}{A:Around}{E':XW}
theorem Ay{Q:WR}(I:Inv X pins σ H s)(hA:A.frames=some X.stack)(y0:X.stack=X.env :: X.outer)(n5:X.env.frame=some X.env.locals)(ha:H a=some (exR a C d))(F:Fly s.heap a C d)
  (h:∀h',Inv X pins σ H { s with heap:=h' }→Fly h' a C d→Q () { s with heap:=h' }):wpAny M A (noteFrame (.ref a) X.env) (λ_ s'=>wpAny M A (setFlight (.ref a) none) Q E' s') E' s:=by
 refine Zmd (base:=X.base) (outer:=X.outer) (by rw[hA,y0]) (by rw[←y0];exact I.stack) n5 F λh' ⟨k1,k2⟩ F'=>h h' ?_ F';have na:∀b,H b=none→b≠a:=λb n z=>by rw[z,ha]at n;cases n
 refine I.call (g':=s.gens) (t':=s.toks) (d':=s.drawn) (ch:=[]) ⟨λb o q n nf _=>k1 b o (na b n) (by rw[←y0];exact nf) q,λb o q n _ _=>k2 b o (na b n) q,λb o q n _=>n,λb o q _=>?_,λ_ _ q=>q,λ_ _ _ q=>q,λb ps q=>⟨#[],by rw[q];simp⟩⟩ (λb o q=>?_) I.bare (λb z=>absurd z (by simp))
 ·by_cases z:b=a
  ·obtain⟨oe,_,e,_⟩:=F';exact⟨oe,by rw[z];exact e⟩
  ·obtain⟨sl,e⟩:=k2 b o z q;exact⟨_,e⟩
 ·by_cases z:b=a
  ·subst z;rw[ha]at q;cases q;exact Zkr F'.there
  ·refine(I.hok b o q).Oi (λc v hc r=>k1 c v ?_ ?_ r) (λ_ r=>r) λ_ _ r=>r
   ·rintro rfl
    rcases hc with rfl|hc
    ·exact z rfl
    ·rw[ha]at hc;cases hc
   ·intro hm;rw[←y0]at hm;have:=I.Kr c hm
    rcases hc with rfl|hc
    ·rw[q]at this;cases this
    ·rw[hc]at this;cases this
end
def RX(X:Cx)(E:St→XK):Prop:=∀(pins:XX) (σ:St) (H:Hp) (s:Shared) (a C:Addr) (d:WS),Inv X pins σ H s→H a=some (exR a C d)→Fly s.heap a C d→E σ (.ref a) none H→X.xe (.ref a) s
theorem Zii{E:XK}:
  RX (Fm (CXE P w) P w K mg base N qual scope f cd A outer s H E) λ_=>E:=by
 intro pins σ H1 s1 a C d I ha F e;refine rS (Ay I I.ok.frames rfl rfl ha F λh' I' F'=>?_);exact⟨a,C,d,H1,rfl,I'.os,I'.bare,I'.base,I'.hok,F',ha,e⟩
section
variable {X:Cx}{E:St→XK}
def Zhq(sp:Sp)(E:St→XK)(t:TA):TE:=λσ H Q=>t σ H λvs H1=>sp vs H1 Q (E σ)
theorem Zlw{k:Nat}{Q:VK}{vs:List V}(F:Ya X.prog X.w X.K X.mg X.base (CXE X.prog X.w) k f fd ps sp)(hr:Xi k X.A)(hb:Binds X.K fd ps [])(hx:RX X E)
  (I:Inv X pins σ H s) (r:Vals vs us) (h:sp vs H Q (E σ)):wpAny (model X.prog X.w) X.A (call (.ref f) us) (EP X pins σ Q) X.xe s:=by
 have hl:us.length=ps.length:=r.length.symm.trans (F.len _ _ _ _ h)
 have bd:BindsTo s fd ⟨us,[]⟩ (ps.zip us):=by
  have:=hb s us I.kIn (by rw[lN];exact hl);rwa[lN]at this
 refine cX (dP (F.run X.A X.stack s H ⟨us,[]⟩ us vs Q (E σ) hr I.Zrr bd r h) λr s' q=>?_)
 cases r with
 |ok fl=>cases fl with
  |ret u=>exact I.after q
  |_=>exact False.elim q
 |error e=>
  obtain⟨a,C,d,H',rfl,os,bare,un,hok,F,ha,q⟩:=q;obtain⟨hh,g,dd,t,xA⟩:=s';obtain rfl:xA=s.os:=os;exact hx pins σ H' _ a C d (I.call (h':=hh) (g':=g) (d':=dd) (t':=t) (ch:=[]) un hok bare λb z=>absurd z (by simp)) ha F q
theorem Zjd{k:Nat}{pos:Pos}{t:TA}(F:Ya X.prog X.w X.K X.mg X.base (CXE X.prog X.w) k f fd ps sp)(hr:Xi k X.A)(hg:Gl X x)(hm:X.mg x=some (.ref f))(hk:W.keepIn X.K (.ref f)=true)(hb:Binds X.K fd ps [])(hx:RX X E)
  (ha:PA X (e :: es) t) (u7:(x==("__debug__" : Str))=false:=by decide) (he:starEach (e :: es) X.env=(false,eval e X.env) :: starEach es X.env:=by rfl) (y3:(backTo pos (starEach es X.env)).any (·.1)=false:=by rfl) :
  PE X (.Call (.Name x p) (e :: es) [] pos) (Zhq sp E t):=by
 intro pins s σ H Q I h;refine iX (Pl I hg hm ?_ u7);exact W.callWith_K (h₀:=X.base) I.ok.mod.kin hk (thn (ha pos pins s σ H _ I h) λus s1 ⟨vs,H1,I1,r,q⟩=>⟨I1.kIn,Zlw F hr hb hx I1 r q⟩) he y3
def Zpu(K:W.Frag)(te:TE)(E:St→XK):TS:=λ_ σ H=>te σ H λx H1=>∃a C d ini,x=.ref a∧Zgm K C ini=true∧H1 a=some (exH a C d)∧E σ (.ref a) none (upd H1 a (exR a C d))
theorem Zil{E0:XW}{x:Sem Value}{Q:Flow→Shared→Prop}(hh:A.handled=none)
  (h:wpAny M A x (λv s1=>∃a C T d ini,v=.ref a∧Zse K s1.heap C ini∧s1.heap.get? a=some (exO C T d)∧E0 (.ref a) s1) E0 s):wpAny M A (raiseStmt env (some x) none) Q E0 s:=by
 unfold raiseStmt;refine rS (iD h (λv s1 h1=>?_) λ_ _ z=>z);obtain⟨a,C,T,d,ini,rfl,c,he,hE⟩:=h1;obtain⟨nm,q,N,bs,bm,sn,sub,ab,col,dd,k0,k1,k2,k3,k5,mN,hC,hN,hi,Tl⟩:=c.obj;have i6:bm.contains (.type "BaseException")=true:=Tl.hasType (by decide);have hcB:(Value.ref C :: bm).contains (.type "BaseException")=true:=by rw[List.contains_cons,i6,Bool.or_true]
 obtain⟨hp,g,dr,tk,os⟩:=s1
 repeat (first|with_reducible refine aH he ?_|with_reducible refine aH hC ?_|(with_reducible refine wpAny_isSubtype_exc hC ?_;rw[hcB])|wp_step)
 exact wpAny_raiseNew_none hh hE
theorem Zi2{pos:Pos}(he:PE X e te)(hx:RX X E)(hc:X.calm=true:=by rfl)(hK:X.K=K:=by rfl):PS X (.Raise (some e) none pos) (Zpu K te E):=by
 subst hK;intro pins s σ H D I h;rw[arm_exec_Raise];refine rS (cR (Zil (K:=X.K) (I.ok.hd hc) (rS (thn (he pins s σ H _ I h) λu s1 ⟨x,H1,I1,rx,a,C,d,ini,ex,ck,ea,q⟩=>rS (cR (rT ?_))))));subst ex;obtain rfl:u=Value.ref a:=rx;obtain⟨⟨T,g⟩,_,_⟩:=(show Z9 X.prog X.w H1 s1.heap a (exH a C d) from I1.hok a _ ea);refine⟨a,C,T,d,ini,rfl,Zet I1.kIn ck,g,?_⟩;have F:Fly s1.heap a C d:=⟨_,_,g,rfl,rfl,rfl,(by show 1<6;decide),.inl rfl⟩;refine hx pins σ _ s1 a C d ?_ Zc F q;exact I1.write (t':=s1.toks) (h':=s1.heap) (x:=a) (e:=a) (by rw[ea];exact True.intro) (.inl rfl) (λb o _ q=>q) ⟨_,g⟩ (Zkr F.there)
end
abbrev Cx.near(X:Cx)(A:Around)(c:Bool)(pn:XX)(xe:XW):Cx:={ X with A:=A,calm:=c,pn:=pn,xe:=xe }
section
variable {X:Cx}{pins pins':XX}{σ:St}{H:Hp}{s:Shared}{A:Around}{c:Bool}{pn:XX}{xe:XW}
theorem Inv.near(I:Inv X pins σ H s)(hA:A.frames=X.A.frames)(hc:c=true→A.handled=none)(hp:∀p∈pn++pins',p∈X.pn++pins):Inv (X.near A c pn xe) pins' σ H s:=
 ⟨⟨I.ok.mod,I.ok.kind,I.ok.glob,I.ok.blt,I.ok.above,I.ok.inj,I.ok.has,I.ok.cab,hc,hA.trans I.ok.frames,I.ok.stk,I.ok.exf,I.ok.bs,I.ok.bsz,I.ok.Zb7,I.ok.Zcr,I.ok.Ob,I.ok.frf⟩,
  I.os,I.bare,I.base,I.loc,I.cell,I.free,I.Vk,λp h=>I.pin p (hp p h),I.hok,I.len⟩
theorem Inv.Zhf(I:Inv (X.near A c pn xe) pins' σ H s)(hA:X.A.frames=A.frames)(hc:X.calm=true→X.A.handled=none)(hp:∀p∈X.pn++pins,p∈pn++pins'):Inv X pins σ H s:=
 ⟨⟨I.ok.mod,I.ok.kind,I.ok.glob,I.ok.blt,I.ok.above,I.ok.inj,I.ok.has,I.ok.cab,hc,hA.trans I.ok.frames,I.ok.stk,I.ok.exf,I.ok.bs,I.ok.bsz,I.ok.Zb7,I.ok.Zcr,I.ok.Ob,I.ok.frf⟩,
  I.os,I.bare,I.base,I.loc,I.cell,I.free,I.Vk,λp h=>I.pin p (hp p h),I.hok,I.len⟩
theorem name_goes{n:Str}{pos:Pos}{Q:WR}(I:Inv X pins σ H s)(hN:X.N.Nodup)(hi:X.N[i]?=some n)(hx:X.env.scope.names.lookup n=some .local)
  (h:∀s',Inv X pins (σ.set i none) H s'→Q () s'):wpAny M A (do bindName X.env n .none;unbindBehindTheSuite X.env n pos) Q E s:=by
 have Zrh:(X.env.scope.kind==.class||(X.env.scope.kind==.module&&X.env.locals != X.env.globals))=false:=by rw[I.ok.kind];rfl
 refine rS (wpAny_bindName (Ue (v:=.non) I hN hi (.inl hx) rfl (λs1 I1=>?_) (.inr hx)));obtain⟨m,hn,hl⟩:=id I1.loc;unfold unbindBehindTheSuite;refine XN ?_;unfold unbindName;refine rS (wpAny_point (rS ?_));unfold deleteName;simp only[show X.env.kindOf n=some .local from hx,Zrh];rw[if_neg (by decide)]
 have hm:(m n).isSome=true:=by
  obtain⟨u,_,z⟩:=hl i n .non hi (aE (by rw[I.len];exact(oG.mp hi).1)) (.inl hx)
  rcases z with ⟨_,e⟩|⟨z,_⟩
  ·rw[e];rfl
  ·rcases z with z|z<;>(rw[show X.env.kindOf n=some .local from hx]at z;cases z)
 refine rS (wpAny_nsDel_keeps hn λh2 v2 eF hs=>?_);rw[hm];simp only[Bool.not_true,iY,if_false]
 refine rT (wpAny_point (h { s1 with heap:=h2 } ?_));have cne:=I1.cne;obtain⟨oL,_,_,kC,_⟩:=id hn;have nL:∀b o,X.s₀.heap.get? b=some o→b≠X.env.locals:=λb o q=>oY (oS (oD q) I.ok.above);refine⟨I1.ok,I1.os,I1.bare,⟨λb o e n hb hx=>?_,λb o e n hb hx=>?_,I1.base.free,λb o e hx=>?_,I1.base.G1,I1.base.Ki,I1.base.Jb⟩,⟨_,eF,λj y v' e1 e2 e3=>?_⟩,λy c e=>?_,I1.free,I1.Vk,λp hp=>?_,λb ob e=>?_,by simpa using I.len⟩
 ·exact(hs.2 b (nL b o e)).trans (I1.base.keep b o e n hb hx)
 ·obtain⟨sl,q⟩:=I1.base.slot b o e n hb hx;exact⟨sl,(hs.2 b (nL b o e)).trans q⟩
 ·obtain⟨o',q⟩:=I1.base.there b o e hx;exact⟨o',(hs.2 b (nL b o e)).trans q⟩
 ·by_cases hj:j=i
  ·subst hj;rw[aE (by rw[I.len];exact(oG.mp hi).1)]at e2;cases e2
  ·rw[cK (dA hj)]at e2;obtain⟨u',r',q⟩:=hl j y v' e1 (by rw[cK (dA hj)];exact e2) e3;refine⟨u',r',?_⟩
   rcases q with ⟨k,e⟩|⟨k,c,e,z⟩
   ·have ny:y≠n:=λe=>hj (Iy hN e1 (e▸hi));exact .inl ⟨k,(if_neg ny).trans e⟩
   ·exact .inr ⟨k,c,e,z.sameBut hs (cne y c e)⟩
 ·obtain⟨w',z⟩:=I1.cell y c e;exact⟨w',z.sameBut hs (cne y c e)⟩
 ·obtain⟨e,n,ne,nf,d⟩:=I1.pin p hp;exact⟨(hs.2 p.1 ne).trans e,n,ne,nf,d⟩
 ·refine(I1.hok b ob e).Oi (λc w' hc q=>(hs.2 c ?_).trans q) (λ_ q=>q) λ_ _ q=>q;rintro rfl
  rcases hc with rfl|hc
  ·rw[I1.free]at e;cases e
  ·rw[I1.free]at hc;cases hc
theorem Zgi{d:WS}{Q:WR}(F:Fly s.heap a C d)(h:Q () s):wpAny M A (setFlight (.ref a) none) Q E s:=by
 obtain⟨oe,vs,he,hc,yK,hv,hz,hT⟩:=F;unfold setFlight
 rcases hT with h1|⟨T,oT,ts,h1,hT,mW,h3⟩
 ·refine rS (iM he hv h1 ?_);rw[if_neg (by decide)];exact rT h
 ·refine rS (iM he hv h1 ?_);rw[if_pos (by simp)];refine cV hT mW (aV.mp h3).1 ?_
  show Q () { s with heap:=s.heap.update T (Obj.mapFields (·.setIfInBounds 3 .none)) };rw[Heap.update_setField_same s.heap T oT ts 3 .none hT mW h3];exact h
end
def Zsd(H:Hp)(a C:Addr)(fs:List (Str×V)):Prop:=(H a=some (exR a C none)∧fs=[])∨∃dx,H a=some (exR a C (some dx))∧H dx=some (xdH dx fs)
section
variable {X:Cx}{pins:XX}{σ:St}{H:Hp}{s:Shared}{a C:Addr}{fs:List (Str×V)}{A:Around}{E:XW}
theorem Zsd.inst(I:Inv X pins σ H s)(e:Zsd H a C fs):∃ox od,W.InstAt s.heap a ox C od∧∀f v,fs.lookup f=some v→∃o u,od=some o∧W.lookIn f o=some (some u)∧RelV v u:=by
 rcases e with ⟨h1,rfl⟩|⟨dx,h1,h2⟩
 ·obtain⟨⟨oe,vs,g,c,d,fl,_⟩,_,_⟩:=(show Z9 X.prog X.w H s.heap a (exR a C none) from I.hok a _ h1);obtain⟨cls,dct,dat,sl⟩:=oe;cases c;cases d;cases fl;exact⟨_,none,⟨g,rfl,rfl,True.intro⟩,λf v z=>by cases z⟩
 ·obtain⟨⟨oe,vs,g,c,d,fl,_⟩,_,_⟩:=(show Z9 X.prog X.w H s.heap a (exR a C (some dx)) from I.hok a _ h1);obtain⟨cls,dct,dat,sl⟩:=oe;cases c;cases d;cases fl;obtain⟨⟨mA,n,r,_⟩,_,_⟩:=(show Z9 X.prog X.w H s.heap dx (xdH dx fs) from I.hok dx _ h2);obtain⟨od,ho,hl⟩:=Er n;refine⟨_,some od,⟨g,rfl,rfl,ho⟩,λf v z=>?_⟩;obtain⟨u,hu,ru⟩:=O7.some_of (v:=v) (o:=mA f) (by rw[←z];exact r f);exact⟨od,u,rfl,by rw[hl,hu],ru⟩
inductive Zoc(K:W.Frag)(xs:List V)(H:Hp)(Q:VK):Prop
 |mk(a C fs c u b:_)(h1:xs=[.ref a,c])(h2:Zsd H a C fs)(h3:Zni K C)(h4:RelV c u)(h5:((∃n,c=.ty n)∨∃d,c=.ref d))(h6:W.kitOne K (.ref C) u=some b)(h7:Q (.bl b) H):Zoc K xs H Q
def rIsR(K:W.Frag):List V→Hp→VK→Prop:=λxs H Q=>Zoc K xs H Q
theorem Zat(hK:X.K=K:=by rfl):Yx X (.builtin "isinstance") (rIsR K):=by
 subst hK;intro pins s σ H xs us Q I r h;obtain⟨a,C,fs,c,u,b,rfl,e,cf,rc,kc,hk,q⟩:=h;obtain⟨u1,u2,rfl,r1,r2⟩:=Vals.two r;obtain rfl:u1=Value.ref a:=r1;obtain rfl:u2=u:=RelV.Zo6 r2 rc kc;obtain⟨ox,od,J,_⟩:=e.inst I;exact cS (Zjz cf) I.kIn J hk (λz=>nomatch z) λtk=>⟨.bl b,H,I.tok _,rfl,q⟩
end
section
variable {P:Program}{w:World}{K:W.Frag}{mg:WD}{base:Heap}
theorem Fun.okX{k:Nat}(F:Fun K x qual st f fd)(S:Zv N ps (Zh st))(len:∀vs H Q E,sp vs H Q E→vs.length=ps.length)
  (Qw:∀(A:Around) (outer:List Env) (s:Shared) (H:Hp) (vs:List V) (Q:VK) (E:XK),Xi k (A.deeper (envOfC qual (Zh st) s.heap.objs.size f fd.code))→sp vs H Q E→
   ∃t,PSs (Fm (CXE P w) P w K mg base N qual (Zh st) f fd.code A outer s H E) (Wk st) t∧t { nx:=λ_ H'=>Q .non H',rt:=Q } (start N vs) H):Ya P w K mg base (CXE P w) (k+1) f fd ps sp:=by
 obtain⟨oc,od,kV,doc,pm,an,cdv,ct,osl,rfl,lk,v0⟩:=F.ex;exact Zkn lk v0 S len λA outer s H vs Q E hr m8=>Qw A outer s H vs Q E hr m8
structure Zdg(P:Program)(w:World)(K:W.Frag)(mg:WD)(base:Heap)(x:Str)(k:Nat)(ps:List Str)(sp:Sp) where
 f:Addr
 fd:FuncData
 ok:Ya P w K mg base (CXE P w) k f fd ps sp
 at_:mg x=some (.ref f)
 kp:W.keepIn K (.ref f)=true
 b:Binds K fd ps []
theorem Ya.calm{k:Nat}(F:Ya P w K mg base (CXE P w) k f fd ps sp):Ya P w K mg base CX0 k f fd ps (λvs H Q _=>sp vs H Q λ_ _ _=>False):=
 ⟨λvs H Q E h=>F.len vs H Q _ h,λA outer s H args us vs Q E hr he hb hv hs=>dP (F.run A outer s H args us vs Q _ hr he hb hv hs) λr s' q=>by
  cases r with
  |error e=>obtain⟨a,C,d,H',_,_,_,_,_,_,_,z⟩:=q;exact z.elim
  |ok fl=>cases fl<;>exact q⟩
def Zdg.calm{x:Str}{k:Nat}{ps:List Str}{sp:Sp}(C:Zdg P w K mg base x k ps sp):Cal P w K mg base x k ps (λvs H Q _=>sp vs H Q λ_ _ _=>False):=⟨C.f,C.fd,C.ok.calm,C.at_,C.kp,C.b⟩
end
theorem Ztr{E:St→XK}{k:Nat}{pos:Pos}{t:TA}(C:Zdg X.prog X.w X.K X.mg X.base x k ps sp)(hr:Xi k X.A)(hx:RX X E)(ha:PA X (e :: es) t)(hg:Gl X x:=by rfl)
  (u7:(x==("__debug__" : Str))=false:=by decide) (he:starEach (e :: es) X.env=(false,eval e X.env) :: starEach es X.env:=by rfl) (y3:(backTo pos (starEach es X.env)).any (·.1)=false:=by rfl) :
  PE X (.Call (.Name x p) (e :: es) [] pos) (Zhq sp E t):=Zjd C.ok hr hg C.at_ C.kp C.b hx ha u7 he y3
section
variable {X:Cx}{es:VH}{n:Nat}{tp:Pos}
end
section
variable {P:Program}{w:World}{A:Around}{E:XW}{s:Shared}{r t:Addr}{items:WN}
open AutoSeq1 (wpAny_loadPart') in
end
section
variable {X:Cx}
end
section
variable {X:Cx}
end
section
open PySem.W (kasC kasC_pure kasC_bind kasC_get kasC_modify kasC_lift kasC_nil kasC_cons kasC_range kas_item kas_cmp kas_st)
variable {prog:Program}{w:World}{A:Around}{s:Shared}{α β:Type}{st:SortSt}
variable {κ:SortKind}{it:Array Keyed}{n:Nat}{lt:WU}
end
section
open PySem.W (kas_item)
variable {lt:WU}{a b o:List Nat}{ia ib x:Nat}
variable {n:Nat}{pa pb:VM}{it:Array Keyed}
variable {out:Array Keyed}
end
section
open PySem.W (kas_item)
variable {prog:Program}{w:World}{A:Around}{s:Shared}{st:SortSt}{κ:SortKind}{it:Array Keyed}{n:Nat}{lt:WU}{pa pb:VM}
section
variable {α β:Type}{R:β→SortSt→Prop}
end
end
section
open PySem.W (kas_item)
variable {lt:WU}{a b o:List Nat}{na nb x:Nat}
variable {n:Nat}{pa pb:VM}{it:Array Keyed}{out:Array Keyed}
end
section
open PySem.W (kas_item)
variable {prog:Program}{w:World}{A:Around}{s:Shared}{st:SortSt}{κ:SortKind}{it:Array Keyed}{n:Nat}{lt:WU}{pa pb:VM}{na nb:Nat}
end
section
open PySem.W (kas_item kas_rev kas_swaps_map)
variable {prog:Program}{w:World}{A:Around}{s:Shared}{κ:SortKind}{it:Array Keyed}{n:Nat}{lt:WU}{p:VM}{pd:Array (Nat×Nat×Nat)}{g:Nat}
section
variable {β:Type}{R:β→SortSt→Prop}
end
end
section
open PySem.W (kas_item)
variable {prog:Program}{w:World}{A:Around}{s:Shared}{κ:SortKind}{it:Array Keyed}{n:Nat}{lt:WU}{p:VM}{g:Nat}
end
section
open PySem.W (kas_item kas_st kasC)
variable {prog:Program}{w:World}{A:Around}{s:Shared}{κ:SortKind}{it:Array Keyed}{n:Nat}{lt:WU}{p:VM}
end
section
open PySem.W (kas_ask kas_item kasC)
end
section
variable {X:Cx}{pins:XX}{σ:St}{H:Hp}{s:Shared}{x:Str}{k:Nat}{ps:List Str}{sp:Sp}
end
section
variable {P:Program}{w:World}{A:Around}{E:XW}{s:Shared}
structure ZNe(z TI TO i j:Addr):Prop where
 a:TI≠z
 b:TO≠z
 c:i≠z
 d:j≠z
 e:TI≠TO
 f:TI≠i
 g:TI≠j
 h:TO≠i
 k:TO≠j
 l:i≠j
theorem Zn3{T:Addr}{a b v:Value}{Q:WR}(hT:IsPair s.heap T a b)(q:∀h',h'.get? T=some { cls:=.type "tuple",data:=.seq ((#[a,b]:Array Value).setIfInBounds n v) }→Heap.SameBut T s.heap h'→Q () { s with heap:=h' }):
  wpAny (model P w) A (updateSeq T (·.setIfInBounds n v)) Q E s:=wpAny_updateSeq_pair hT q
end
def ItZ(Sq Sr:Hp→List V→Prop):It:=
 ⟨λi H=>∃xs ys x y,(Sq H xs∧Sr H ys)∧xs[i]?=some x∧ys[i]?=some y,λi H x H'=>∃p a b,x=.ref p∧H p=none∧H'=upd H p (.tup [a,b])∧∀xs ys,Sq H xs→Sr H ys→xs[i]?=some a∧ys[i]?=some b,λi H=>∃xs,Sq H xs∧xs.length=i⟩
theorem Zg4{h2:Heap}{v:Value}{a b:V}(I:Inv X pins σ H s)(hf:∀b∈fp,Gw X pins H b)(ra:RelV a u)(rb:RelV b v)
  (ht:IsPair h1 s.heap.objs.size u v) (k:∀b o,b∉fp→s.heap.get? b=some o→h1.get? b=some o) (sb:Heap.SameBut z h1 h2) (hz:z∈fp) (hl:∀b∈fp,b<s.heap.objs.size) :
  Inv X pins σ (upd H s.heap.objs.size (.tup [a,b])) { s with heap:=h2,toks:=t' }∧∀c∈fp,upd H s.heap.objs.size (.tup [a,b]) c=none:=by
 have hn:∀c∈fp,upd H s.heap.objs.size (.tup [a,b]) c=none:=λc hc=>by
  rw[Zk (oY (hl c hc))];exact(hf c hc).1
 have I1:Inv X pins σ (upd H s.heap.objs.size (.tup [a,b])) { s with heap:=s.heap.push { cls:=.type "tuple",data:=.seq #[u,v] },toks:=s.toks }:=
  I.laid (λb o q=>rV _ q) (rX _) ⟨(by show 2≤sizeLine;decide),[u,v],.cons ra (.cons rb .nil),⟨_,oC _ rfl,rfl,_,rfl⟩⟩
 have I2:=I1.D8 (fp:=fp) (h':=h2) (t':=t') (λc o hc q=>?_) (λc hc=>⟨hn c hc,(hf c hc).2⟩)
 ·exact⟨I2,hn⟩
 refine(sb.2 c λe=>hc (e▸hz)).trans ?_
 rcases Heap.get?_push_cases q with ⟨z1,z2⟩|y
 ·rw[z1,z2];exact ht
 ·exact k c o hc y
section
variable {X:Cx}{es:VH}{n:Nat}{tp:Pos}
theorem Zlj(n:Nat):ZNe (n+4) (n+2) (n+3) n (n+1):=by
 constructor<;>(refine W.neN ?_;lia)
theorem Zdh{t:Nat}(h:t<n):t≠n+4∧t≠n+3∧t≠n∧t≠n+1:=by lia
theorem Zr0:bootBuiltins "zip"=some (.type "zip"):=by decide +kernel
end
def Zan{Sq Sr:Hp→List V→Prop}{xs ys:List V}{n:Nat}{fr:List Nat}{g:TG}{tt:TT}{te:TE}{σ:St}{H:Hp}{Q:VK}(hxy:xs.length≤ys.length)(Pv:Nat→List V→Hp→Prop)(hk:xs.length<sizeLine)(h0:Pv 0 [] H)(hlen:∀i acc H,Pv i acc H→acc.length≤i)
  (hl:∀i acc H,Pv i acc H→Sq H xs∧Sr H ys)
  (hs:∀i acc H2 x y p,xs[i]?=some x→ys[i]?=some y→Pv i acc H2→H2 p=none→g (.ref p) (Ur n fr σ) (upd H2 p (.tup [x,y])) λt4 H4=>tt t4 H4 λb H5=>if b=true then te t4 H5 λv H6=>Pv (i+1) (acc++[v]) H6 else Pv (i+1) acc H5)
  (hd:∀acc H2,Pv xs.length acc H2→∀l,H2 l=none→Q (.ref l) (upd H2 l (.lst acc))):=
 Su (J:=ItZ Sq Sr) (n:=n) (fr:=fr) (g:=g) (tt:=tt) (te:=te) (σ:=σ) (Q:=Q) Pv hk h0 hlen (λi acc H hi p=>⟨xs,ys,xs[i],ys[i]'(by lia),hl i acc H p,by simp[hi],by simp[show i<ys.length by lia]⟩) (λacc H p=>⟨xs,(hl _ acc H p).1,rfl⟩) (λi acc H2 x H3 hi p y=>by
  obtain⟨a,x,y,e1,hn,e2,hy⟩:=y;subst e1 e2;have q:=hl i acc H2 p
  exact hs i acc H2 x y a (hy xs ys q.1 q.2).1 (hy xs ys q.1 q.2).2 p hn) hd
section
variable {P:Program}{w:World}{H:Hp}{s:Shared}
end
section
variable {X:Cx}
end
section
open PySem.SeqAt
open PySem.AutoSeq1 (wpAny_loadPart')
open PySem.MeetsSeq PySem.MeetsSeq2 PySem.MeetsSeq3
end
section
variable {X:Cx}{K:W.Frag}
end
section
variable {P:Program}{w:World}{A:Around}{E:XW}{s:Shared}
end
section
variable {X:Cx}
end
section
variable {P:Program}{w:World}{A:Around}{E:XW}{s:Shared}
structure Za3(h:Heap)(z TI TO i j t u:Addr)(k:Nat)(own:Value):Prop where
 zp:IsZip h z TI TO own
 ti:IsPair h TI (.ref i) (.ref j)
 to:∃a b,IsPair h TO a b
 it:h.IsListIter i t k
 jt:h.IsTupleIter j u k
theorem Zg3{TI TO i j t u:Addr}{k:Nat}{xs ys:WN}{x y:Value}(N:ZNe z TI TO i j)(Z:Za3 s.heap z TI TO i j t u k .none)(ht:s.heap.IsList t xs)(hu:s.heap.IsTuple u ys)
  (n1:t≠z∧t≠TO∧t≠i∧t≠j) (n2:u≠z∧u≠TO∧u≠i∧u≠j) (hx:xs[k]?=some x) (hy:ys[k]?=some y)
  (q:∀h',Za3 h' z TI TO i j t u (k+1) (rawInt s.heap.objs.size)→IsPair h' s.heap.objs.size x y→(∀c o,c≠z→c≠TO→c≠i→c≠j→s.heap.get? c=some o→h'.get? c=some o)→Q (.ref s.heap.objs.size) { s with heap:=h' }) :
  wpAny (model P w) A (Builtin.«zip.__next__» ⟨[.ref z],[]⟩) (λr s'=>∃v,r=.done (.ret v)∧Q v s') E s:=by
 obtain⟨zp,ti,⟨a,b,to⟩,it,jt⟩:=Z;refine rS (m:=field (.ref z) 2) (iM zp rfl (x:=.bool false) rfl (rS (m:=field (.ref z) 3) (iM zp rfl (x:=.ref TI) rfl (rS (dE ti rfl ?_)))));refine rS (m:=Builtin.SmallTypes.ownedTupleIsFree (.ref z)) ?_;unfold Builtin.SmallTypes.ownedTupleIsFree;refine rS (iM zp rfl (x:=.none) rfl (rT ?_));simp only[if_true];refine rS (cA (rS (iM zp rfl (x:=.ref TO) rfl (rS (bB zp (by simp) λg1 mH e1=>rS ?_)))))
 replace mH:IsZip g1 z TI TO .ellipsis:=mH
 simp only[List.zipIdx_cons,List.zipIdx_nil,cL,ZN];refine rS (rS (XN (rS (m:=Builtin.SmallTypes.nextOf (.ref i)) (wpAny_nextOf_list_item (it.extBut e1.extBut N.c) (ht.extBut e1.extBut n1.1) hx λg2 it2 e2=>rT ?_))));have to2:IsPair g2 TO a b:=e2.extBut _ _ N.h (e1.extBut _ _ N.b to);refine rS (dE to2 rfl (rS (Zn3 to2 λg3 to3 e3=>rS (aY (rT ?_)))))
 replace to3:IsPair g3 TO x b:=to3
 refine rS (rS (XN (rS (m:=Builtin.SmallTypes.nextOf (.ref j)) (Hw (((jt.extBut e1.extBut N.d).extBut e2.extBut N.l.symm).extBut e3.extBut N.k.symm) (((hu.extBut e1.extBut n2.1).extBut e2.extBut n2.2.2.1).extBut e3.extBut n2.2.1) hy λg4 jt4 e4=>rT ?_))));have to4:IsPair g4 TO x b:=e4.extBut _ _ N.k to3;refine rS (dE to4 rfl (rS (Zn3 to4 λg5 wO e5=>rS (aY (rT (rT ?_))))))
 replace wO:IsPair g5 TO x y:=wO
 refine rS (dE wO rfl (rS (wpAny_newTuple ?_)));have sz:g5.objs.size=s.heap.objs.size:=by rw[e5.1,e4.1,e3.1,e2.1,e1.1]
 have kp:∀c o,c≠z→c≠TO→c≠i→c≠j→s.heap.get? c=some o→g5.get? c=some o:=λc o c1 c2 c3 c4 h=>e5.extBut _ _ c2 (e4.extBut _ _ c4 (e3.extBut _ _ c2 (e2.extBut _ _ c3 (e1.extBut _ _ c1 h))));have rN:IsZip g5 z TI TO .ellipsis:=e5.extBut _ _ N.b.symm (e4.extBut _ _ N.d.symm (e3.extBut _ _ N.b.symm (e2.extBut _ _ N.c.symm mH)));have it5:g5.IsListIter i t (k+1):=((it2.extBut e3.extBut N.h.symm).extBut e4.extBut N.l).extBut e5.extBut N.h.symm;have jt5:g5.IsTupleIter j u (k+1):=jt4.extBut e5.extBut N.k.symm;refine rS (m:=Builtin.SmallTypes.ownedTupleHandOut (.ref z) (.ref g5.objs.size)) ?_;unfold Builtin.SmallTypes.ownedTupleHandOut;have zp6:IsZip (g5.push { cls:=.type "tuple",data:=.seq #[x,y] }) z TI TO .ellipsis:=rV _ rN;refine rS (bB zp6 (by simp) λg7 rO e7=>?_)
 replace rO:IsZip g7 z TI TO (rawInt g5.objs.size):=rO
 refine bB rO (by simp) λg8 wQ e8=>rT ⟨_,rfl,?_⟩;have up:∀c o,c≠z→g5.get? c=some o→g8.get? c=some o:=λc o c1 h=>e8.extBut _ _ c1 (e7.extBut _ _ c1 (rV _ h));have hT:IsPair g8 g5.objs.size x y:=e8.extBut _ _ (iZ (oD rN)) (e7.extBut _ _ (iZ (oD rN)) (oC _ rfl))
 replace wQ:IsZip g8 z TI TO (rawInt g5.objs.size):=wQ
 show Q (.ref g5.objs.size) _;rw[sz]at wQ hT ⊢;exact q g8 ⟨wQ,up _ _ N.a (kp _ _ N.a N.e N.f N.g ti),⟨x,y,up _ _ N.b wO⟩,it5.at λo h=>up _ o N.c h,jt5.at λo h=>up _ o N.d h⟩ hT λc o c1 c2 c3 c4 h=>up c o c1 (kp c o c1 c2 c3 c4 h)
theorem Zg2{TI TO i j t u:Addr}{k:Nat}{xs:WN}{Q:Fin→Shared→Prop}(hh:A.handled=none)(N:ZNe z TI TO i j)(Z:Za3 s.heap z TI TO i j t u k .none)(ht:s.heap.IsList t xs)(n1:t≠z)(hx:xs[k]?=none)
  (q:∀h' e,(∀c o,c≠z→c≠i→s.heap.get? c=some o→h'.get? c=some o)→(∃o,h'.get? e=some o∧o.cls=.type "StopIteration")→E (.ref e) { s with heap:=h' }) :
  wpAny (model P w) A (Builtin.«zip.__next__» ⟨[.ref z],[]⟩) Q E s:=by
 obtain⟨zp,ti,⟨a,b,to⟩,it,jt⟩:=Z;refine rS (m:=field (.ref z) 2) (iM zp rfl (x:=.bool false) rfl (rS (m:=field (.ref z) 3) (iM zp rfl (x:=.ref TI) rfl (rS (dE ti rfl ?_)))));refine rS (m:=Builtin.SmallTypes.ownedTupleIsFree (.ref z)) ?_;unfold Builtin.SmallTypes.ownedTupleIsFree;refine rS (iM zp rfl (x:=.none) rfl (rT ?_));simp only[if_true];refine rS (cA (rS (iM zp rfl (x:=.ref TO) rfl (rS (bB zp (by simp) λg1 mH e1=>rS ?_)))))
 replace mH:IsZip g1 z TI TO .ellipsis:=mH
 simp only[List.zipIdx_cons,List.zipIdx_nil,cL,ZN];refine rS (rS (XN (rS (m:=Builtin.SmallTypes.nextOf (.ref i)) (wpAny_nextOf_list_end hh (it.extBut e1.extBut N.c) (ht.extBut e1.extBut n1) hx λg2 e e2 he=>?_))));obtain⟨oe,h1,h2⟩:=he;have wP:IsZip g2 z TI TO .ellipsis:=e2 _ _ N.c.symm mH;have ne:e≠z:=λh=>by subst h;rw[wP]at h1;cases h1;simp at h2
 exact bB wP (by simp) λg3 _ e3=>q g3 e (λc o c1 c3 h=>e3.extBut _ _ c1 (e2 _ _ c3 (e1.extBut _ _ c1 h))) ⟨oe,e3.extBut _ _ ne h1,h2⟩
theorem Zo3{TI TO i j t u:Addr}{k:Nat}{xs ys:WN}{x y:Value}{Q:WX}(N:ZNe z TI TO i j)(Z:Za3 s.heap z TI TO i j t u k .none)(ht:s.heap.IsList t xs)(hu:s.heap.IsTuple u ys)
  (n1:t≠z∧t≠TO∧t≠i∧t≠j) (n2:u≠z∧u≠TO∧u≠i∧u≠j) (hx:xs[k]?=some x) (hy:ys[k]?=some y)
  (q:∀h',Za3 h' z TI TO i j t u (k+1) (rawInt s.heap.objs.size)→IsPair h' s.heap.objs.size x y→(∀c o,c≠z→c≠TO→c≠i→c≠j→s.heap.get? c=some o→h'.get? c=some o)→Q (some (.ref s.heap.objs.size)) { s with heap:=h' }) :
  wpAny (model P w) A (pyNext (.ref z)) Q E s:=by
 have ty:s.TypeIs (.ref z) "zip":=⟨_,Z.zp,rfl⟩;unfold pyNext;exact rS (bI (dD (name:=Str.ofString "__next__") ty YW (iF YW ty F.entry_zip_next (Zg3 N Z ht hu n1 n2 hx hy λh' a b c=>rT (q h' a b c)) (F.args_zip_next_1 _))))
theorem Zli{TI TO i j t u:Addr}{k:Nat}{xs:WN}{Q:WX}(hh:A.handled=none)(N:ZNe z TI TO i j)(Z:Za3 s.heap z TI TO i j t u k .none)(ht:s.heap.IsList t xs)(n1:t≠z)(hx:xs[k]?=none)
  (q:∀h',(∀c o,c≠z→c≠i→s.heap.get? c=some o→h'.get? c=some o)→Q none { s with heap:=h' }):wpAny (model P w) A (pyNext (.ref z)) Q E s:=by
 have ty:s.TypeIs (.ref z) "zip":=⟨_,Z.zp,rfl⟩;unfold pyNext;refine rS (bI (dD (name:=Str.ofString "__next__") ty YW (iF YW ty F.entry_zip_next (Zg2 hh N Z ht n1 hx λh' e kp he=>?_) (F.args_zip_next_1 _))));obtain⟨o,h1,h2⟩:=he;exact rS (cG (T:="StopIteration") (b:=true) ⟨o,h1,h2⟩ isSubtype_stop (rT (q _ kp)))
def Ze9(h:Heap)(t:Addr):Heap:=h.push { cls:=.type "list_iterator",data:=.fields #[.ref t,.int 0 0] }
def Zbc(h:Heap)(t u:Addr):Heap:=(Ze9 h t).push { cls:=.type "tuple_iterator",data:=.fields #[.ref u,.int 0 0] }
def Zbb(h:Heap)(t u:Addr):Heap:=(Zbc h t u).push { cls:=.type "tuple",data:=.seq #[.ref h.objs.size,.ref (Ze9 h t).objs.size] }
def Zba(h:Heap)(t u:Addr):Heap:=(Zbb h t u).push { cls:=.type "tuple",data:=.seq #[.none,.none] }
def Mg(h:Heap)(t u:Addr):Heap:=(Zba h t u).push { cls:=.type "zip",data:=.fields #[.none,.bool false,.bool false,.ref (Zbc h t u).objs.size,.ref (Zbb h t u).objs.size] }
theorem Zlk(t u:Addr)(xs ys:WN):
  Meets (Builtin.«zip.__new__» ⟨[.type "zip",.ref t,.ref u],[]⟩) (λ_ R s=>(s.heap.IsList t xs∧s.heap.IsTuple u ys)∧R (.ok (.ret (.ref (Zba s.heap t u).objs.size))) { s with heap:=Mg s.heap t u }):=
 .of_wp λprog w A R s h=>by
  obtain⟨hp,g,d,tk,os⟩:=s;obtain⟨⟨h1,h2⟩,q⟩:=h;have Oa:=sub_zip;have jV:Heap.IsList (Shared.heap ⟨hp,g,d,tk,os⟩) t xs:=h1;have hT2:Heap.IsTuple (Shared.heap ⟨hp.push { cls:=.type "list_iterator",data:=.fields #[.ref t,.int 0 0] },g,d,tk,os⟩) u ys:=Heap.IsTuple.at h2 λo e=>rV _ e
  wp_walk using bK jV,ZF hT2
  exact⟨_,rfl,q⟩
theorem Zgu{t u:Addr}{xs ys:WN}(ht:s.heap.IsList t xs)(hu:s.heap.IsTuple u ys)
  (q:∀h',Za3 h' (s.heap.objs.size+4) (s.heap.objs.size+2) (s.heap.objs.size+3) s.heap.objs.size (s.heap.objs.size+1) t u 0 .none→(∀c o,s.heap.get? c=some o→h'.get? c=some o)→Q (.ref (s.heap.objs.size+4)) { s with heap:=h' }) :
  wpAny (model P w) A (call (.type "zip") [.ref t,.ref u]) Q E s:=by
 refine callType_new F.called_zip (by decide) (F.typeCall_zip_2 _ _) (F.newCall_zip_2 _ _) (λobj=>F.args_object_init_3 obj _ _) F.entry_zip_new (Zlk t u xs ys) ⟨⟨ht,hu⟩,?_⟩;have z1:(Ze9 s.heap t).objs.size=s.heap.objs.size+1:=iJ ..;have z2:(Zbc s.heap t u).objs.size=s.heap.objs.size+2:=(iJ ..).trans (by rw[z1]);have z3:(Zbb s.heap t u).objs.size=s.heap.objs.size+3:=(iJ ..).trans (by rw[z2]);have z4:(Zba s.heap t u).objs.size=s.heap.objs.size+4:=(iJ ..).trans (by rw[z3]);have k5:∀c o,(Zba s.heap t u).get? c=some o→(Mg s.heap t u).get? c=some o:=λc o e=>rV _ e;have k4:∀c o,(Zbb s.heap t u).get? c=some o→(Mg s.heap t u).get? c=some o:=λc o e=>k5 _ _ (rV _ e);have k3:∀c o,(Zbc s.heap t u).get? c=some o→(Mg s.heap t u).get? c=some o:=λc o e=>k4 _ _ (rV _ e);have k2:∀c o,(Ze9 s.heap t).get? c=some o→(Mg s.heap t u).get? c=some o:=λc o e=>k3 _ _ (rV _ e);have k1:∀c o,s.heap.get? c=some o→(Mg s.heap t u).get? c=some o:=λc o e=>k2 _ _ (rV _ e)
 have g5:IsZip (Mg s.heap t u) (s.heap.objs.size+4) (s.heap.objs.size+2) (s.heap.objs.size+3) .none:=by
  have:=oC (Zba s.heap t u) (o:={ cls:=.type "zip",data:=.fields #[.none,.bool false,.bool false,.ref (Zbc s.heap t u).objs.size,.ref (Zbb s.heap t u).objs.size] }) rfl;rw[z2,z3,z4]at this;unfold Mg;rw[z2,z3];exact this
 have g4:IsPair (Mg s.heap t u) (s.heap.objs.size+3) .none .none:=by
  have:=oC (Zbb s.heap t u) (o:={ cls:=.type "tuple",data:=.seq #[.none,.none] }) rfl;rw[z3]at this;exact k5 _ _ this
 have g3:IsPair (Mg s.heap t u) (s.heap.objs.size+2) (.ref s.heap.objs.size) (.ref (s.heap.objs.size+1)):=by
  have:=oC (Zbc s.heap t u) (o:={ cls:=.type "tuple",data:=.seq #[.ref s.heap.objs.size,.ref (Ze9 s.heap t).objs.size] }) rfl;have this:=k4 _ _ this;rw[z2,z1]at this;exact this
 have g2:(Mg s.heap t u).IsTupleIter (s.heap.objs.size+1) u 0:=by
  have:=oC (Ze9 s.heap t) (o:={ cls:=.type "tuple_iterator",data:=.fields #[.ref u,.int 0 0] }) rfl;rw[z1]at this;exact⟨_,k3 _ _ this,rfl,rfl⟩
 have g1:(Mg s.heap t u).IsListIter s.heap.objs.size t 0:=⟨_,k2 _ _ (oC s.heap (o:={ cls:=.type "list_iterator",data:=.fields #[.ref t,.int 0 0] }) rfl),rfl,rfl⟩;have gz:(Mg s.heap t u).get? (Zba s.heap t u).objs.size=some _:=oC (Zba s.heap t u) (o:={ cls:=.type "zip",data:=.fields #[.none,.bool false,.bool false,.ref (Zbc s.heap t u).objs.size,.ref (Zbb s.heap t u).objs.size] }) rfl;show _∧_;rw[z4]at gz ⊢;exact⟨⟨_,gz,rfl⟩,q _ ⟨g5,g3,⟨_,_,g4⟩,g1,g2⟩ k1⟩
end
theorem Zfb{pos:Pos}{TI TO i j t u:Addr}(N:ZNe z TI TO i j)(n1:t≠z∧t≠TO∧t≠i∧t≠j)(n2:u≠z∧u≠TO∧u≠i∧u≠j):
  Turn P w K (.Tuple es n pos) (ItZ (λH xs=>SqL K H t xs) λH xs=>SqT K H u xs) [z,TI,TO,i,j] z (λk h=>Za3 h z TI TO i j t u k .none) where
 mem:=by simp
 obj:=λk h Z b hb=>by
  obtain⟨zp,ti,⟨_,_,to⟩,⟨oi,e1,c1,d1⟩,oj,e2,c2,d2⟩:=Z;simp only[oH,iO,or_false]at hb
  rcases hb with y|y|y|y|y<;>subst y
  ·exact⟨_,zp,λv y=>by cases y⟩
  ·exact⟨_,ti,λv y=>by cases y⟩
  ·exact⟨_,to,λv y=>by cases y⟩
  ·exact⟨oi,e1,λv y=>by rw[d1]at y;cases y⟩
  ·exact⟨oj,e2,λv y=>by rw[d2]at y;cases y⟩
 keep:=λk h h' Z kp=>⟨kp z (by simp) _ Z.zp,kp TI (by simp) _ Z.ti,let ⟨a,b,e⟩:=Z.to;⟨a,b,kp TO (by simp) _ e⟩,Z.it.at λo q=>kp i (by simp) o q,Z.jt.at λo q=>kp j (by simp) o q⟩
 item:=by
  intro X hP hw hK hc k pins s σ H E I hf Z hg;subst hP hw hK;obtain⟨xs,ys,x,y,⟨hq,hr⟩,hx,hy⟩:=hg;obtain⟨its,rv,p,_⟩:=I.list hq;obtain⟨wD,j4,p',_⟩:=I.tuple hr;obtain⟨v,hv,rx⟩:=rv.get hx;obtain⟨v',u6,ry⟩:=j4.get hy
  have lt:∀b∈[z,TI,TO,i,j],b<s.heap.objs.size:=λb hb=>by
   obtain⟨zp,ti,⟨_,_,to⟩,⟨oi,e1,_⟩,oj,e2,_⟩:=id Z;simp only[oH,iO,or_false]at hb
   rcases hb with e|e|e|e|e<;>rw[e]
   ·exact oD zp
   ·exact oD ti
   ·exact oD to
   ·exact oD e1
   ·exact oD e2
  refine Zo3 N Z p.isList (show s.heap.IsTuple u wD.toArray from p') n1 n2 (x:=v) (y:=v') (by simpa using hv) (by simpa using u6) λh1 Z1 ht kp=>⟨_,rfl,?_⟩;refine wpAny_letOwnedTupleGo_zip Z1.zp λh2 wP sb=>?_;obtain⟨I2,hn⟩:=Zg4 (t':=s.toks) (fp:=[z,TI,TO,i,j]) I hf rx ry ht (λb o hb e=>kp b o (λy=>hb (by simp[y])) (λy=>hb (by simp[y])) (λy=>hb (by simp[y])) (λy=>hb (by simp[y])) e) sb (by simp) lt
  exact⟨.ref s.heap.objs.size,_,I2,rfl,⟨_,x,y,rfl,I.hok.fresh (rX _),rfl,λz5 m6 a b=>by rw[I.He a hq,I.Mk b hr];exact⟨hx,hy⟩⟩,
   ⟨wP,(sb.2 _ N.a).trans Z1.ti,let ⟨a,b,e⟩:=Z1.to;⟨a,b,(sb.2 _ N.b).trans e⟩,Z1.it.at λo q=>(sb.2 _ N.c).trans q,Z1.jt.at λo q=>(sb.2 _ N.d).trans q⟩,hn⟩
 done:=by
  intro X hP hw hK hc k pins s σ H E I hf Z hg;subst hP hw hK;obtain⟨xs,hq,hx⟩:=hg;obtain⟨its,rv,p,_⟩:=I.list hq;have hl:=rv.length;refine Zli (I.ok.hd hc) N Z p.isList n1.1 (by simp;lia) λh' kp=>⟨rfl,?_⟩;exact I.D8 (fp:=[z,TI,TO,i,j]) (t':=s.toks) (λb o hb e=>kp b o (λy=>hb (by simp[y])) (λy=>hb (by simp[y])) e) hf
 self:=λ_ _ _ _ _ Z h=>wpAny_pyIter_zip Z.zp h
section
variable {X:Cx}{es:VH}{n:Nat}{tp:Pos}
def Zue(K:W.Frag)(te tf:TE):TI:=λσ H R=>Sd te (Sd tf Je) σ H λvs H1=>∃a b xs ys,vs=[.ref a,.ref b]∧SqL K H1 a xs∧SqT K H1 b ys∧R (ItZ (λH xs=>SqL K H a xs) λH xs=>SqT K H b xs) H1
theorem Kt{f:Expr}{tf:TE}{pos:Pos}(hg:Gl X "zip")(hm:X.mg "zip"=none)(he:PE X e te)(hf:PE X f tf)(hK:X.K=K:=by rfl)
  (h2:starEach [e,f] X.env=(false,eval e X.env) :: starEach [f] X.env:=by rfl) (h3:starEach [f] X.env=(false,eval f X.env) :: starEach [] X.env:=by rfl):PI X (.Tuple es n tp) (.Call (.Name "zip" p) [e,f] [] pos) (Zue K te tf):=by
 subst hK;intro pins s σ H R I h;refine iX (Qq I hg hm Zr0 (bA (thn (Za he (Za hf Zb h3) h2 pos pins s σ H _ I h) λus s1 ⟨vs,H1,I1,r1,q1⟩=>?_) h2 (by rw[h3];rfl)));obtain⟨a,b,xs,ys,rfl,hx,hy,q⟩:=q1;obtain⟨u,v,rfl,ru,rv⟩:=Vals.two r1;obtain rfl:u=Value.ref a:=ru;obtain rfl:v=Value.ref b:=rv;obtain⟨its,_,p1,_⟩:=I1.list hx;obtain⟨wD,_,p2,_⟩:=I1.tuple hy;have la:a<s1.heap.objs.size:=by obtain⟨o,e,_⟩:=p1.isList;exact oD e
 have lb:b<s1.heap.objs.size:=by obtain⟨o,e,_⟩:=(show s1.heap.IsTuple b wD.toArray from p2);exact oD e
 refine Zgu p1.isList (show s1.heap.IsTuple b wD.toArray from p2) λh' Z kp=>wpAny_pyIter_zip Z.zp ?_;refine⟨_,_,_,_,H1,rfl,I1.kept (t':=s1.toks) kp,Zfb (Zlj _) (Zdh la) (Zdh lb),Z,λc hc=>?_,q⟩
 have z9:s1.heap.objs.size≤c:=by
  simp only[oH,iO,or_false]at hc
  rcases hc with e|e|e|e|e<;>rw[e]
  ·exact dO ..
  ·exact dO ..
  ·exact dO ..
  ·exact rX _
  ·exact dO ..
 exact I1.Fg z9 (I1.hok.fresh z9)
end
open AutoSeq1 (wpAny_loadPart') in
section
variable {X:Cx}
end
section
variable {M:Model}{A:Around}{E:XW}{s:Shared}{base:Heap}{env:Env}{outer:List Env}{L e C T:Addr}{d:WS}
end
section
variable {X:Cx}{pins:XX}{σ:St}{H:Hp}{s:Shared}{a C T:Addr}{d:WS}{M:Model}{A:Around}{E':XW}
end
section
variable {prog:Program}{w:World}{A:Around}{R:UO}{s:Shared}
end
section
variable {X:Cx}{sc scope:Scope}{Nm own:List Str}{fr:List Nat}{elt tg iter:Expr}{ifs:VH}{Xy:Pos}{wi:TI}{g:TG}{tt:TT}{te:TE}{E:XK}
end
theorem Vj.few{D:List Str}(h:Vj w o D n)(hm:∀ys:List Str,ys.Nodup→(∀y∈ys,y∈D)→ys.length≤m):Vj w o D m:=by
 obtain⟨es,ep,t,e,a,nd,mem,_,r⟩:=h;refine⟨es,ep,t,e,a,nd,mem,?_,r⟩;have:=hm _ nd λy hy=>(mem y).mp hy;simpa using this
inductive J4(w:World)(xs:List V)(H:Hp)(Q:VK):Prop
 |mk(p D n:_)(h1:xs=[.ref p])(h2:H p=some (Cc w p D n))(h3:(∀ys:List Str,ys.Nodup→(∀y∈ys,y∈D)→ys.length≤63))(h4:∀(ys:List Str) l,ys.Nodup→(∀y,y∈ys↔y∈D)→sortedS ys=true→H l=none→Q (.ref l) (upd H l (.lst (ys.map V.str)))):J4 w xs H Q
def Zfp(w:World):List V→Hp→VK→Prop:=λxs H Q=>J4 w xs H Q
theorem Fo(hc:X.calm=true):Yx X (.builtin "sorted") (Zfp X.w):=by
 intro pins s σ H xs us Q I r h;obtain⟨p,D,n,rfl,hp,hm,q⟩:=h;obtain⟨u,rfl,ru⟩:=vals1 r;cases ru;obtain⟨⟨o,e,sx⟩,_,_⟩:=(show Z9 X.prog X.w H s.heap p (Cc X.w p D n) from I.hok p _ hp);refine Lp (I.ok.hd hc) e (sx.few hm) (by decide) λa out ee ys h' tk d' len sy nd mem so k le ea=>?_;have Zka:H a=none:=I.hok.fresh le;have hlen:out.length=ys.length:=by rw[←sy.strs,rW]
 have Zqq:ys.length≤sizeLine:=by rw[sizeLine_eq];lia
 exact⟨.ref a,_,(I.Zew d').laid (s:={ s with drawn:=d' }) k le (show Z9 X.prog X.w _ h' a (.lst (ys.map V.str)) from⟨by rw[rW];exact Zqq,out,ee,Pc sy,ea⟩),rfl,q ys a nd mem so Zka⟩
def tbI(led:Bool)(vs:List Nat):SetTable:={ mask:=if vs.length<5 then 7 else 31,place:=vs.toArray,dummies:=#[],finger:=0,led:=led,moves:=if vs.length<5 then 0 else 1,plain:=true }
def tbM(led:Bool)(vs:List Nat):SetTable:={ mask:=if vs.length<6 then 7 else 31,place:=vs.toArray,dummies:=#[],finger:=0,led:=led,moves:=if vs.length<6 then 0 else 1,plain:=true }
def O0(y:Nat)(vs:List Nat):List Nat:=vs.filter (· < y)++y :: vs.filter λv=>!decide (v<y)
def Cp(y:Nat)(vs:List Nat):Nat:=(vs.filter (· < y)).length
def Ln:List WE:=(List.range 64).map λm=>(List.range 6).filter λi=>m.testBit i
theorem Zln:∀vs∈Ln,∀y∈List.range 6,y∉vs→∀led∈[true,false],(tbI led vs).freeSlot ((y:Nat):Int)=some (y,false)∧(tbI led vs).put y=(tbM led (O0 y vs),Cp y vs)∧O0 y vs∈Ln:=by decide +kernel
theorem Zhj:∀vs∈Ln,vs.length=5→∀led∈[true,false],(tbM led vs).relaid (vs.map λv:Nat=>(v:Int)).toArray 20=some (tbI led vs,(List.range 5).toArray):=by decide +kernel
theorem Ru:∀vs∈Ln,(vs.length=5→∀led∈[true,false],(tbM led vs).tooFull=true)∧(vs.length≠5→∀led∈[true,false],tbM led vs=tbI led vs∧(tbM led vs).tooFull=false)∧∀led∈[true,false],(tbI led vs).fits vs.length=true∧(tbM led vs).fits vs.length=true:=by decide +kernel
theorem Zfd:∀vs∈Ln,∀y∈List.range 6,vs=vs.take (Cp y vs)++vs.drop (Cp y vs)∧O0 y vs=vs.take (Cp y vs)++y :: vs.drop (Cp y vs)∧Cp y vs≤vs.length∧vs.Nodup∧(∀v∈vs,v<6):=by decide +kernel
theorem Oz(b:Bool):b∈[true,false]:=by cases b<;>simp
theorem Zjt(y z:Nat)(vs:List Nat):z∈O0 y vs↔z=y∨z∈vs:=by
 unfold O0;simp only[oJ,oH,lU,Bool.not_eq_true',decide_eq_true_eq,decide_eq_false_iff_not];constructor
 ·rintro(h|h|h)
  ·exact .inr h.1
  ·exact .inl h
  ·exact .inr h.1
 ·rintro(h|h)
  ·exact .inr (.inl h)
  ·by_cases c:z<y
   ·exact .inl ⟨h,c⟩
   ·exact .inr (.inr ⟨h,c⟩)
def EsI(vs:List Nat)(es:WM):Prop:=∃us:List Tok,us.length=vs.length∧es.toList=List.zipWith (λ(v:Nat) (u:Tok)=>(((v:Nat):Int),Value.int ((v:Nat):Int) u)) vs us
theorem EsI.size{vs:List Nat}{es:WM}(h:EsI vs es):es.size=vs.length:=by
 obtain⟨us,hl,e⟩:=h;rw[←oZ,e,XA,hl,Nat.min_self]
theorem EsI.hashes{vs:List Nat}{es:WM}(h:EsI vs es):es.map (·.1)=(vs.map λv:Nat=>(v:Int)).toArray:=by
 obtain⟨us,hl,e⟩:=h;apply Array.toList_inj.mp;rw[Array.toList_map,e,List.toList_toArray,List.map_zipWith];clear e
 induction vs generalizing us with
 |nil=>cases us<;>rfl
 |cons v vs ih=>
  match us,hl with
  |u :: us,hl=>exact congrArg _ (ih us (by simpa using hl))
theorem EsI.mem{vs:List Nat}{es:WM}(h:EsI vs es){e:Int×Value}(he:e∈es.toList):∃v u,v∈vs∧e=(((v:Nat):Int),Value.int ((v:Nat):Int) u):=by
 obtain⟨us,hl,q⟩:=h;rw[q]at he;obtain⟨i,hi,e1⟩:=YX.mp he;rw[List.getElem_zipWith]at e1;exact⟨_,_,cU _,e1.symm⟩
theorem EsI.has{vs:List Nat}{es:WM}(h:EsI vs es){v:Nat}(hv:v∈vs):∃u,(((v:Nat):Int),Value.int ((v:Nat):Int) u)∈es.toList:=by
 obtain⟨us,hl,q⟩:=h;obtain⟨i,hi,rfl⟩:=YX.mp hv;refine⟨us[i]'(by lia),?_⟩;rw[q];refine YX.mpr ⟨i,by rw[XA];lia,?_⟩;rw[List.getElem_zipWith]
theorem EsI.ins{vs:List Nat}{es:WM}(h:EsI vs es)(p:Nat)(hp:p≤vs.length)(y:Nat)(u:Tok):EsI (vs.take p++y :: vs.drop p) (SetTable.insertAt es p (((y:Nat):Int),Value.int ((y:Nat):Int) u)):=by
 have hsz:=h.size;obtain⟨us,hl,q⟩:=h;refine⟨us.take p++u :: us.drop p,by simp[hl],?_⟩;unfold SetTable.insertAt;rw[bU,aG,Array.toList_extract,Array.toList_extract,q];rw[List.zipWith_append (by simp[hl]),List.zipWith_cons_cons,iK]
 congr 1
 ·simp[List.take_zipWith,List.extract_eq_drop_take]
 ·rw[List.singleton_append]
  congr 1
  rw[List.extract_eq_drop_take,List.drop_zipWith,cY];rw[XA,aO,aO,hsz];lia
def Zoz(w:World)(o:Obj)(vs:List Nat):Prop:=vs∈Ln∧∃es ep,o=Zfl es ep (tbI (!w.params.followText "set-order") vs)∧EsI vs es
section
variable {P:Program}{w:World}{A:Around}{E:XW}{s:Shared}
theorem Zrt{vs:List Nat}{es:WM}(hs:∀v∈vs,v<6)(h:EsI vs es):ElemsOf (intKind P w) es.toList:=λe he=>by
 obtain⟨v,u,hv,rfl⟩:=h.mem he;have h6:∀v∈List.range 6,hashInt ((v:Nat):Int)=((v:Nat):Int):=by decide +kernel
 exact⟨⟨(v:Int),by show Value.isInt (v:Int) (.int (v:Int) u)=true;simp[Value.isInt],(h6 v (lZ.mpr (hs v hv))).symm⟩,rfl⟩
theorem add_int{vs:List Nat}{Q:VE}(ho:s.heap.get? a=some o)(hS:Zoz w o vs){y:Nat}(hy:y<6)(u:Tok)
  (h:∀b h' o' vs',Heap.SameBut a s.heap h'→h'.get? a=some o'→Zoz w o' vs'→(∀z,z∈vs'↔z=y∨z∈vs)→Q b { s with heap:=h' }):wpAny (model P w) A (setAddHashed a (.int ((y:Nat):Int) u) ((y:Nat):Int)) Q E s:=by
 obtain⟨Oa,es,ep,rfl,c0⟩:=hS;have wA:=lZ.mpr hy;obtain⟨_,qS,y3,gY,h6⟩:=Zfd vs Oa y wA
 have hl:vs.length≤6:=by
  have:∀vs∈Ln,vs.length≤6:=by decide +kernel
  exact this vs Oa
 have hsz:=c0.size;have hf:(tbI (!w.params.followText "set-order") vs).fits es.size=true:=by rw[hsz];exact((Ru vs Oa).2.2 _ (Oz _)).1
 have j6:ElemsOf (intKind P w) es.toList:=Zrt h6 c0;have qD:es.size<scanBound:=by show es.size<4096;lia
 have Hk:(intKind P w).is ((y:Nat):Int) (.int ((y:Nat):Int) u)=true:=by show Value.isInt ((y:Nat):Int) (.int ((y:Nat):Int) u)=true;simp[Value.isInt]
 have hh:hashInt ((y:Nat):Int)=((y:Nat):Int):=by
  have h6:∀v∈List.range 6,hashInt ((v:Nat):Int)=((v:Nat):Int):=by decide +kernel
  exact h6 y wA
 unfold setAddHashed setAddHashedIn;refine lE (rS (cQ ho rfl hf ?_));dsimp only;rw[byScan_of (knd:=intKind P w) (x:=.int ((y:Nat):Int) u) rfl qD j6];simp only[↓reduceIte];unfold setAddByScan;refine rS (rS (cA (rS ?_)));rw[show setScan a (.int ((y:Nat):Int) u) ((y:Nat):Int) true es=setScan a (.int ((y:Nat):Int) u) ((intKind P w).hash ((y:Nat):Int)) true es from by rw[show (intKind P w).hash ((y:Nat):Int)=((y:Nat):Int) from hh]];refine wpAny_setScan_of (knd:=intKind P w) (k:=((y:Nat):Int)) Hk ho rfl hf j6 ?_
 have gQ:∀(v:Nat) (t:Tok),(intKind P w).is ((y:Nat):Int) (.int ((v:Nat):Int) t)=true↔v=y:=λv t=>by
  show Value.isInt ((y:Nat):Int) (.int ((v:Nat):Int) t)=true↔v=y;simp only[Value.isInt,beq_iff_eq];lia
 have yO:(es.toList.findIdx? (λe=>(intKind P w).is ((y:Nat):Int) e.2)).isSome=decide (y∈vs):=by
  rw[lH,decide_eq_true_eq,List.findIdx?_isSome,dM];constructor
  ·rintro⟨e,he,z⟩;obtain⟨v,t,hv,rfl⟩:=c0.mem he;rw[←(gQ v t).mp z];exact hv
  ·intro hv;obtain⟨t,ht⟩:=c0.has hv;exact⟨_,ht,(gQ y t).mpr rfl⟩
 cases hr:es.toList.findIdx? (λe=>(intKind P w).is ((y:Nat):Int) e.2) with
 |some j=>
  rw[hr]at yO;have w5:y∈vs:=of_decide_eq_true yO.symm;dsimp only;refine rT (rT ?_);exact h _ s.heap _ vs (Heap.SameBut.refl a s.heap) ho ⟨Oa,es,ep,rfl,c0⟩ λz=>⟨.inr,λq=>q.elim (λe=>e▸w5) id⟩
 |none=>
  rw[hr]at yO;have Zco:y∉vs:=of_decide_eq_false yO.symm;obtain⟨f1,f2,f3⟩:=Zln vs Oa y wA Zco _ (Oz (!w.params.followText "set-order"));have Zgb:=c0.ins (Cp y vs) y3 y u;rw[←qS]at Zgb;have Zj8:=Zgb.size;have hfM:=((Ru _ f3).2.2 _ (Oz (!w.params.followText "set-order"))).2;have hfI:=((Ru _ f3).2.2 _ (Oz (!w.params.followText "set-order"))).1
  have hl6:(O0 y vs).length≤6:=by
   have:∀vs∈Ln,vs.length≤6:=by decide +kernel
   exact this _ f3
  have Zur:layNew (tbI (!w.params.followText "set-order") vs) es ((y:Nat):Int) (.int ((y:Nat):Int) u)=(SetTable.insertAt es (Cp y vs) (((y:Nat):Int),.int ((y:Nat):Int) u),tbM (!w.params.followText "set-order") (O0 y vs),false,false):=by
   unfold layNew;rw[f1];dsimp only;rw[f2];dsimp only;rw[Zj8];unfold SetTable.orStandIn;rw[if_pos hfM,hfM];rfl
  dsimp only;rw[Zur];dsimp only;generalize SetTable.insertAt es (Cp y vs) (((y:Nat):Int),Value.int ((y:Nat):Int) u)=es1 at Zgb Zj8;refine rS (rT ?_);rw[if_pos (show (tbM (!w.params.followText "set-order") (O0 y vs)).plain=true from rfl)];refine rS ?_;rw[hashByValue_scannable 8 (x:=.int ((y:Nat):Int) u) rfl];refine rT ?_;rw[show plainKind (.int ((y:Nat):Int) u)=true from rfl];simp only[↓reduceIte,Bool.not_false,Bool.true_and];have hz:es1.size≤4096:=by lia
  have mem:∀z,z∈O0 y vs↔z=y∨z∈vs:=λz=>Zjt y z vs
  by_cases hlen:(O0 y vs).length=5
  ·rw[(Ru _ f3).1 hlen _ (Oz _)]
   have nY:relayAll (tbM (!w.params.followText "set-order") (O0 y vs)) es1 (SetTable.grown es1.size)=(es1,tbI (!w.params.followText "set-order") (O0 y vs),false):=by
    unfold relayAll;rw[Zgb.hashes,Zj8,hlen,show SetTable.grown 5=20 from rfl,Zhj _ f3 hlen _ (Oz _)];dsimp only
    have he:(List.range 5).toArray.filterMap (es1[·]?)=es1:=by
     obtain⟨l⟩:=es1
     have nA:l.length=5:=by
      have:l.length=(O0 y vs).length:=Zj8;lia
     match l,nA with
     |[a,b,c,d,e],_=>rfl
    rw[he,Zj8,hlen];rw[hlen]at hfI;rw[hfI];rfl
   rw[nY];refine rS (Ud ho hz λh1 i0 e1=>?_);simp only[↓reduceIte];refine rS (rT ?_)
   refine rS (Ud (s:={ s with heap:=h1 }) e1 hz λh2 mE e2=>?_);exact rT (rT (h _ h2 _ (O0 y vs) (i0.trans mE) e2 ⟨f3,es1,_,rfl,Zgb⟩ mem))
  ·obtain⟨g1,g2⟩:=(Ru _ f3).2.1 hlen _ (Oz (!w.params.followText "set-order"));rw[g2,g1];refine rS (Ud ho hz λh1 i0 e1=>?_);simp only[iY,↓reduceIte];exact rT (rT (h _ h1 _ (O0 y vs) i0 e1 ⟨f3,es1,_,rfl,Zgb⟩ mem))
set_option maxHeartbeats 3200000 in
end
section
variable {X:Cx}
end
section
variable {prog:Program}{w:World}{A:Around}{E:XW}{s:Shared}{l:Addr}{xs:Array (Int×Tok)}
end
section
variable {X:Cx}{K:W.Frag}
end
section
variable {P:Program}{w:World}{A:Around}{E:XW}{s:Shared}{κ:Type} [DecidableEq κ] {knd:PySem.KeyKind P w κ}
end
section
variable {X:Cx}
end
open AutoSeq1 (wpAny_loadPart')
section
variable {prog:Program}{w:World}{A:Around}{E:XW}{s:Shared}
end
section
variable {prog:Program}{w:World}{A:Around}{E:XW}{s:Shared}
end
section
variable {X:Cx}
end
section
variable {P:Program}{w:World}
abbrev NI:=Key ⊕ List Key
abbrev NK:=List NI
def Zb9(P:Program)(w:World):NI→Int
 |.inl k=>(Z0 P w).hash k
 |.inr t=>(tupleKind (Z0 P w)).hash t
def Kw:NI→Nat
 |.inl _=>1
 |.inr t=>t.length+1
inductive NIs(P:Program)(w:World)(h:Heap):NK→List Value→Prop
 |nil:NIs P w h [] []
 |key {k:Key}{v:Value}{r:NK}{vs:WC} (q:(Z0 P w).is k v=true) (t:NIs P w h r vs):NIs P w h (.inl k :: r) (v :: vs)
 |tup {ks:List Key}{b:Addr}{r:NK}{vs:WC} (q:IsTupleKey (Z0 P w) h ks b) (t:NIs P w h r vs):NIs P w h (.inr ks :: r) (.ref b :: vs)
structure Zvg(P:Program)(w:World)(h:Heap)(k:NK)(a:Addr)(o:Obj)(its:WN)(n:Nat):Prop where
 at_:h.get? a=some o
 cls:o.cls=.type "tuple"
 dat:o.data=.seq its n
 its:NIs P w h k its.toList
def O8(P:Program)(w:World)(h:Heap)(k:NK)(a:Addr):Prop:=∃o its n,Zvg P w h k a o its n
theorem Zjm{b:Addr}{k:Key}(h:(Z0 P w).is k (.ref b)=true):False:=by
 have:=(Z0 P w).byValue _ _ h;simp[carriedByValue]at this
theorem NIs.one:∀{h:Heap}{x y:NK}{vs:WC},NIs P w h x vs→NIs P w h y vs→x=y
 |_,_,_,_,.nil,.nil=>rfl
 |_,_,_,_,.key q t,.key q' t'=>by rw[(Z0 P w).inj _ _ _ q q',NIs.one t t']
 |_,_,_,_,.tup q t,.tup q' t'=>by rw[q.inj q',NIs.one t t']
 |_,_,_,_,.key q _,.tup _ _=>(Zjm q).elim
 |_,_,_,_,.tup _ _,.key q _=>(Zjm q).elim
theorem NIs.move{h h':Heap}(m:∀ks b,IsTupleKey (Z0 P w) h ks b→IsTupleKey (Z0 P w) h' ks b):∀{x:NK}{vs:WC},NIs P w h x vs→NIs P w h' x vs
 |_,_,.nil=>.nil
 |_,_,.key q t=>.key q (t.move m)
 |_,_,.tup q t=>.tup (m _ _ q) (t.move m)
theorem O8.one{h:Heap}{a:Addr}{x y:NK}(p:O8 P w h x a)(q:O8 P w h y a):x=y:=by
 obtain⟨o,its,n,p⟩:=p;obtain⟨o',its',n',q⟩:=q;have e:=p.at_.symm.trans q.at_;cases e;have e:=p.dat.symm.trans q.dat;cases e;exact p.its.one q.its
theorem O8.type{s:Shared}{x:NK}(p:O8 P w s.heap x a):s.TypeIs (.ref a) "tuple":=let ⟨o,_,_,p⟩:=p;⟨o,p.at_,p.cls⟩
theorem O8.Oi{k:NK}{es:Array DictEntry}(p:O8 P w h k a)(ho:h.get? d=some o)(hd:o.data=.dict es ep)(hs:Heap.SameBut d h h'):O8 P w h' k a:=by
 obtain⟨o',its,n,p⟩:=p
 have ne:a≠d:=λz=>by
  subst z;have e:=p.at_.symm.trans ho;cases e;have e:=p.dat.symm.trans hd;cases e
 exact⟨o',its,n,(hs.2 a ne).trans p.at_,p.cls,p.dat,p.its.move λks b q=>q.keeps ho hd hs⟩
variable {A:Around}{s:Shared}{E:XW}
def Zb8(P:Program)(w:World)(k:NK):Int:=reduceHash (Builtin.Tuple.tupleHashOf (k.map (Zb9 P w)))
def Kv(k:NK):Nat:=(k.map Kw).sum+1
theorem Zme{k:NK}{Q:Int→Shared→Prop}(hu:A.units+1<cLine)(hk:O8 P w s.heap k a)(h:Q (Zb8 P w k) { s with toks:=s.toks+Kv k }):wpAny (model P w) A (pyHash (.ref a)) Q E s:=by
 have ty:=hk.type;obtain⟨o,its,n,hk⟩:=hk;unfold pyHash;unfold pyHashByItsType;refine rS (wpAny_cRoomFor_or (.inr (show A.units<cLine by lia)) (rS (aC ty ZU.lookup ?_)));dsimp only;rw[if_neg (by rw[beq_builtin_none];decide)];refine rS (aC ty ZU.lookup (rS (wpAny_callSpecialIfBoundUnlessNone?_slot ty ZU (iF ZU ty F.entry_tuple_hash ?_ (F.args_tuple_hash_1 _)))));unfold Builtin.«tuple.__hash__»;refine rS (m:=slotArgs "__hash__" 0 _) (rT ?_);dsimp only;refine rS (aD hk.at_ hk.dat (rS ?_));rw[←ZI]
 refine YE _ (λrest (b:Array Int) s'=>∃dn lf,k=dn++lf∧NIs P w s.heap lf rest∧b.toList=dn.map (Zb9 P w)∧s' = { s with toks:=s.toks+(dn.map Kw).sum }) _ ?_ ?_ _ _ ⟨[],k,rfl,hk.its,rfl,rfl⟩
 ·rintro x rest b s' ⟨dn,lf,rfl,hl,hb,rfl⟩
  cases hl with
  | @key c _ r _ q t=>
   refine rS ((Z0 P w).pyHash q (rT ⟨dn++[.inl c],r,?_,t,?_,?_⟩))
   ·rw[iK];rfl
   ·rw[aG,hb,oK];rfl
   ·rw[oK,List.sum_append];rfl
  | @tup ks b2 r _ q t=>
   refine rS ((tupleKind (Z0 P w)).pyHash (a:=b2) (k:=ks) (s:={ s with toks:=s.toks+(dn.map Kw).sum }) (show A.in1.units<cLine from hu) q (rT ⟨dn++[.inr ks],r,?_,t,?_,?_⟩))
   ·rw[iK];rfl
   ·rw[aG,hb,oK];rfl
   ·rw[oK,List.sum_append,←Nat.add_assoc];rfl
 ·rintro b s' ⟨dn,lf,rfl,hl,hb,rfl⟩;cases hl;rw[lN]at h;rw[hb];refine wpAny_ret_mkInt ?_;dsimp only;have e1:s.toks+Kv dn=s.toks+(dn.map Kw).sum+1:=by unfold Kv;lia
  rw[e1]at h;unfold Zb8 at h;unfold pyHashByItsType.reduced;unfold reduceHash at h;generalize Builtin.Tuple.tupleHashOf (dn.map (Zb9 P w))=z at h ⊢
  split
  ·rename_i c
   rw[if_pos c]at h;exact rT h
  ·rename_i c
   rw[if_neg c]at h;exact rS (cA <| rT h)
theorem Zjp(d:Nat){k:List Key}{Q:VE}(hk:IsTupleKey (Z0 P w) s.heap k a)(h:Q true s):wpAny (model P w) A (eqIsQuiet (d+1) (.ref a)) Q E s:=by
 have ty:=hk.typeIs;obtain⟨o,its,n,h1,_,h2,hi⟩:=hk;unfold eqIsQuiet;refine rS (aC ty YY.lookup ?_);dsimp only;refine rS (cG ty isSubtype_tuple_tuple ?_);rw[if_neg (by decide)];refine rS (dE h1 h2 ?_);dsimp only[Option.getD];rw[←ZI];refine rS (YE _ (λrest r s'=>r.1=none∧s'=s∧∀v∈rest,carriedByValue v=true) _ ?_ ?_ _ _ ⟨rfl,rfl,hi.byValue⟩)
 ·rintro v rest r s' ⟨hr,rfl,all⟩;rw[eqIsQuiet_byValue _ (all v oE)];exact rS (rT (rT ⟨rfl,rfl,λu hu=>all u (oO _ hu)⟩))
 ·rintro⟨rr,_⟩ s' ⟨hr,rfl,_⟩;cases (show rr=none from hr);exact rT h
theorem Zfw{k:NK}{Q:VE}(hk:O8 P w s.heap k a)(h:Q true s):wpAny (model P w) A (eqIsQuiet 8 (.ref a)) Q E s:=by
 have ty:=hk.type;obtain⟨o,its,n,hk⟩:=hk;unfold eqIsQuiet;refine rS (aC ty YY.lookup ?_);dsimp only;refine rS (cG ty isSubtype_tuple_tuple ?_);rw[if_neg (by decide)];refine rS (dE hk.at_ hk.dat ?_);dsimp only[Option.getD];rw[←ZI];refine rS (YE _ (λrest r s'=>r.1=none∧s'=s∧∃lf,NIs P w s.heap lf rest) _ ?_ ?_ _ _ ⟨rfl,rfl,_,hk.its⟩)
 ·rintro v rest r s' ⟨hr,rfl,lf,hl⟩
  cases hl with
  |key q t=>
   rw[eqIsQuiet_byValue _ ((Z0 P w).byValue _ _ q)];exact rS (rT (rT ⟨rfl,rfl,_,t⟩))
  |tup q t=>exact rS (Zjp 6 q (rT ⟨rfl,rfl,_,t⟩))
 ·rintro⟨rr,_⟩ s' ⟨hr,rfl,_⟩;cases (show rr=none from hr);exact rT h
theorem NIs.len:∀{h:Heap}{x:NK}{vs:WC},NIs P w h x vs→x.length=vs.length
 |_,_,_,.nil=>rfl
 |_,_,_,.key _ t=>by rw[oR,oR,t.len]
 |_,_,_,.tup _ t=>by rw[oR,oR,t.len]
theorem Zt2{x y:NI}{r r':NK}{v:Value}(sh:x.isLeft=y.isLeft)(p:NIs P w s.heap (x :: r) (u :: us))(q:NIs P w s.heap (y :: r') (v :: vs))(hu:A.units<cLine){Q:VE}(k:Q (decide (x=y)) s):wpAny (model P w) A (eqBool u v) Q E s:=by
 cases p with
 | @key c _ _ _ p t=>
  cases q with
  | @key d _ _ _ q t'=>
   refine(Z0 P w).eqBool p q ?_;rw[show decide (c=d)=decide ((Sum.inl c:NI)=Sum.inl d) by rw[lH,decide_eq_true_eq,decide_eq_true_eq];exact⟨λz=>by rw[z],λz=>Sum.inl.inj z⟩];exact k
  |tup q t'=>cases sh
 | @tup ks b _ _ p t=>
  cases q with
  |key q t'=>cases sh
  | @tup ks' b' _ _ q t'=>
   refine(tupleKind (Z0 P w)).eqBool hu p q ?_;rw[show decide (ks=ks')=decide ((Sum.inr ks:NI)=Sum.inr ks') by rw[lH,decide_eq_true_eq,decide_eq_true_eq];exact⟨λz=>by rw[z],λz=>Sum.inr.inj z⟩];exact k
theorem NIs.rest{x:NI}{r:NK}(p:NIs P w h (x :: r) (u :: us)):NIs P w h r us:=by
 cases p with
 |key _ t=>exact t
 |tup _ t=>exact t
theorem Zfx{x y:NK}{b:Addr}{R:Fin→Shared→Prop}(sh:x.map Sum.isLeft=y.map Sum.isLeft)(hu:A.units<cLine)(hx:O8 P w s.heap x a)(hy:O8 P w s.heap y b)(h:R (.done (.ret (.bool (decide (x=y))))) s):wpAny (model P w) A (Builtin.«tuple.__eq__» ⟨[.ref a,.ref b],[]⟩) R E s:=by
 have ty:=hy.type;obtain⟨o,its,n,hx⟩:=hx;obtain⟨o',its',n',hy⟩:=hy
 have hl:its.size=its'.size:=by
  have e:=congrArg List.length sh;rw[rW,rW,hx.its.len,hy.its.len]at e;simpa using e
 refine rS (m:=isInstance (.ref b) (.type "tuple")) (cG ty isSubtype_tuple_tuple ?_);rw[if_neg (by decide)];refine rS (aD hx.at_ hx.dat (rS (aD hy.at_ hy.dat (rS ?_))));refine YE _ (λrest r s'=>r.1=none∧s'=s∧∃x' y' us vs,rest=List.zip us vs∧NIs P w s.heap x' us∧NIs P w s.heap y' vs∧x'.map Sum.isLeft=y'.map Sum.isLeft∧decide (x'=y')=decide (x=y)) _ ?_ ?_ _ _ ⟨rfl,rfl,x,y,its.toList,its'.toList,rfl,hx.its,hy.its,sh,rfl⟩
 ·rintro⟨u,v⟩ rest r s' ⟨hr,rfl,x',y',us,vs,hz,m9,j3,xB,hd⟩
  match us,vs,x',y',hz,m9,j3,xB,hd with
  |u1 :: us,v1 :: vs,k1 :: x',k2 :: y',hz,m9,j3,xB,hd=>
   rw[ZK]at hz
   injection hz with pR hz2
   injection pR with hz3 hz4
   subst hz2 hz3 hz4;rw[lG,lG]at xB
   injection xB with sh1 sh2
   refine rS (Zt2 sh1 m9 j3 hu ?_)
   by_cases c:k1=k2
   ·rw[decide_eq_true c,if_neg (by decide)];refine rT ⟨rfl,rfl,x',y',us,vs,rfl,m9.rest,j3.rest,sh2,?_⟩;rw[←hd,lH,decide_eq_true_eq,decide_eq_true_eq];exact⟨λz=>by rw[c,z],λz=>by injection z⟩
   ·rw[decide_eq_false c,if_pos (by decide)];have hf:decide (x=y)=false:=by rw[←hd];exact decide_eq_false λz=>c (by injection z)
    rw[hf]at h;exact rS (rT (rT <| rT h))
  |[],_,_,_,hz,_,_,_,_=>cases hz
  |_ :: _,[],_,_,hz,_,_,_,_=>cases hz
  |_ :: _,_ :: _,[],_,_,m9,_,_,_=>cases m9
  |_ :: _,_ :: _,_ :: _,[],_,_,j3,_,_=>cases j3
 ·rintro⟨r1,r2⟩ s' ⟨hr,rfl,x',y',us,vs,hz,m9,j3,xB,hd⟩;cases (show r1=none from hr);refine rT ?_
  have hb:(its.size==its'.size)=decide (x=y):=by
   rw[hl,←hd]
   match us,vs,x',y',hz,m9,j3,xB with
   |[],[],[],[],_,_,_,_=>simp
   |[],_,_ :: _,_,_,m9,_,_=>cases m9
   |[],_,[],_ :: _,_,_,_,xB=>cases xB
   |[],_ :: _,[],[],_,_,j3,_=>cases j3
   |_ :: _,[],_,_ :: _,_,_,j3,_=>cases j3
   |_ :: _,[],_ :: _,[],_,_,_,xB=>cases xB
   |_ :: _,[],[],[],_,m9,_,_=>cases m9
   |_ :: _,_ :: _,_,_,hz,_,_,_=>cases hz
  show R (.done (.ret (.bool (its.size==its'.size)))) s';rw[hb];exact h
theorem Zt1{x y:NK}{b:Addr}{Q:VE}(sh:x.map Sum.isLeft=y.map Sum.isLeft)(hu:A.units+1<cLine)(hx:O8 P w s.heap x a)(hy:O8 P w s.heap y b)(h:Q (decide (x=y)) s):wpAny (model P w) A (eqBool (.ref a) (.ref b)) Q E s:=by
 unfold eqBool
 (try with_reducible refine lE ?_)
 by_cases c:(Value.ref a==Value.ref b)=true
 ·have e:a=b:=by have:=eq_of_beq c;injection this
  subst e;have e:=hx.one hy;subst e;rw[if_pos (beq_self_eq_true _)];rw[decide_eq_true rfl]at h;exact rS (cA <| rT h)
 ·rw[if_neg c];exact rS (wpAny_richCompare_same_room (op:=.Eq) hx.type hy.type YY (iF YY hx.type F.entry_tuple_eq (Zfx sh (show A.in1.units<cLine from hu) hx hy ⟨_,rfl,nofun,dR h⟩) (F.args_tuple_eq_2 _ _)) (by lia))
def Iz(P:Program)(w:World)(sh:VD):HeapKind P w NK where
 is:=λh k a=>O8 P w h k a∧k.map Sum.isLeft=sh
 hash:=Zb8 P w
 draws:=Kv
 room:=λA=>A.units+1<cLine
 inj:=λp q=>p.1.one q.1
 keeps:=λp ho hd hs=>⟨p.1.Oi ho hd hs,p.2⟩
 pyHash:=λhu p h=>Zme hu p.1 h
 eqBool:=λhu p q h=>Zt1 (p.2.trans q.2.symm) hu p.1 q.1 h
 quiet:=λp h=>Zfw p.1 h
end
inductive NVs(H:Hp):NK→List V→Prop
 |nil:NVs H [] []
 |key {k:Key}{r:NK}{vs:List V} (t:NVs H r vs):NVs H (.inl k :: r) (kV k :: vs)
 |tup {ks:List Key}{b:Addr}{r:NK}{vs:List V} (q:H b=some (.tup (ks.map kV))) (t:NVs H r vs):NVs H (.inr ks :: r) (.ref b :: vs)
def NAt(H:Hp)(k:NK)(a:Addr):Prop:=∃vs,H a=some (.tup vs)∧NVs H k vs
theorem NVs.keep{H H':Hp}(e:∀b ys,H b=some (.tup ys)→H' b=some (.tup ys)):∀{k:NK}{vs:List V},NVs H k vs→NVs H' k vs
 |_,_,.nil=>.nil
 |_,_,.key t=>.key (t.keep e)
 |_,_,.tup q t=>.tup (e _ _ q) (t.keep e)
theorem NAt.keep{H H':Hp}(e:∀b ys,H b=some (.tup ys)→H' b=some (.tup ys)){k:NK}{a:Addr}(h:NAt H k a):NAt H' k a:=let ⟨vs,h1,h2⟩:=h;⟨vs,e _ _ h1,h2.keep e⟩
theorem NVs.is{P:Program}{w:World}{H:Hp}{h:Heap}(ok:HOk P w H h):∀{k:NK}{vs:List V}{us:WC},NVs H k vs→Vals vs us→NIs P w h k us
 |_,_,_,.nil,.nil=>.nil
 |_,_,_,.key t,.cons r rs=>.key (Ls r) (t.is ok rs)
 |_,_,_,.tup q t,.cons r rs=>by
  obtain rfl:=r;exact .tup (Qr ok q) (t.is ok rs)
theorem NAt.is{P:Program}{w:World}{H:Hp}{h:Heap}{sh:VD}(ok:HOk P w H h){k:NK}{a:Addr}(p:NAt H k a)(e:k.map Sum.isLeft=sh):(Iz P w sh).is h k a:=by
 obtain⟨vs,h1,h2⟩:=p;obtain⟨_,its,r,o,g1,g2,n,g3⟩:=(show Z9 P w H h a (.tup vs) from ok a _ h1);exact⟨⟨o,its.toArray,n,g1,g2,g3,by simpa using h2.is ok r⟩,e⟩
abbrev NX:=List (NK×Addr×V)
abbrev Zdb:NX→List (NK×Addr×Value)→Prop:=Paired λp q=>p.1=q.1∧p.2.1=q.2.1∧RelV p.2.2 q.2.2
structure NRaw(P:Program)(w:World)(sh:VD)(h:Heap)(a:Addr)(xs:NX)(ys:List (NK×Addr×Value))(o:Obj)(es:Array DictEntry)(ep:Nat):Prop where
 rel:Zdb xs ys
 at_:h.get? a=some o
 ex:o.ExactDict
 dat:o.data=.dict es ep
 ent:es.toList=ys.map (entryOfKey (Iz P w sh))
 nd:(ys.map (·.1)).Nodup
def Zo1(P:Program)(w:World)(sh:VD)(a:Addr)(xs:NX)(h:Heap):Prop:=xs.length≤sizeLine∧(a==sysModules)=false∧∃ys o es ep,NRaw P w sh h a xs ys o es ep
def dN(P:Program)(w:World)(sh:VD)(a:Addr)(xs:NX):HO:=.ext (Zo1 P w sh a xs)
theorem Ze1{xs:NX}(q:Zo1 P w sh a xs h):Z9 P w H h a (dN P w sh a xs):=by
 refine⟨q,?_,λh1 h2 ⟨z,y,ys,o,es,ep,r⟩ k=>⟨z,y,ys,o,es,ep,r.rel,k _ r.at_,r.ex,r.dat,r.ent,r.nd⟩⟩;obtain⟨_,_,ys,o,es,ep,r⟩:=q;exact⟨o,r.at_⟩
structure Kn(P:Program)(w:World)(sh:VD)(H:Hp)(a:Addr)(xs:NX):Prop where
 at_:Rd H a (dN P w sh a xs)
 keys:∀x∈xs,NAt H x.1 x.2.1
 Ho:∀x∈xs,x.1.map Sum.isLeft=sh
theorem Ax:∀{xs:NX}{ys:List (NK×Addr×Value)},Zdb xs ys→∀y∈ys,∃x∈xs,x.1=y.1∧x.2.1=y.2.1
 |_,_,.nil,y,h=>by cases h
 |_,_,.cons q t,y,h=>by
  rcases oH.mp h with e|e
  ·subst e;exact⟨_,oE,q.1,q.2.1⟩
  ·obtain⟨x,h1,h2⟩:=Ax t y e;exact⟨x,oO _ h1,h2⟩
theorem Kn.of{xs:NX}(t:Kn P w sh H a xs)(ok:HOk P w H h):xs.length≤sizeLine∧(a==sysModules)=false∧∃ys,Zdb xs ys∧h.DictOfH (Iz P w sh) a ys:=by
 obtain⟨⟨z,y,ys,o,es,ep,r⟩,_,_⟩:=(show Z9 P w H h a (dN P w sh a xs) from t.at_.ok ok);refine⟨z,y,ys,r.rel,o,es,ep,r.at_,r.ex,r.dat,r.ent,λq hq=>?_,r.nd⟩;obtain⟨x,h1,h2,h3⟩:=Ax r.rel q hq;rw[←h2,←h3];exact(t.keys x h1).is ok (t.Ho x h1)
def valN(xs:NX)(k:NK):Option V:=(xs.find? λx=>decide (x.1=k)).map (·.2.2)
theorem Nc(k:NK):∀{xs:NX}{ys:List (NK×Addr×Value)},Zdb xs ys→O7 (valN xs k) ((atKey ys k).map (·.2))
 |_,_,.nil=>True.intro
 |x :: xs,y :: ys,.cons q t=>by
  by_cases e:x.1=k
  ·have e':y.1=k:=q.1.symm.trans e;have h1:valN (x :: xs) k=some x.2.2:=by simp[valN,dI,e]
   have h2:atKey (y :: ys) k=some y.2:=by simp[atKey,dI,e']
   rw[h1,h2];exact q.2.2
  ·have e':¬ y.1=k:=λz=>e (q.1.trans z);have h1:valN (x :: xs) k=valN xs k:=by simp[valN,dI,e]
   have h2:atKey (y :: ys) k=atKey ys k:=by simp[atKey,dI,e']
   rw[h1,h2];exact Nc k t
theorem Zjl:∀{xs:NX}{ys:List (NK×Addr×Value)},Zdb xs ys→xs.length=ys.length:=λr=>dZ r
section
variable {X:Cx}{pins:XX}{σ:St}{H:Hp}{s:Shared}{a b:Addr}{sh:VD}{xs:NX}{k:NK}{E:XW}
theorem Zt4(hu:X.A.units+2<cLine)(I:Inv X pins σ H s)(t:Kn X.prog X.w sh H a xs)(hb:NAt H k b)(hk:k.map Sum.isLeft=sh)(l:valN xs k=some v)(h:∀w' s',Inv X pins σ H s'→RelV v w'→Q w' s'):wpAny (model X.prog X.w) X.A (getItem (.ref a) (.ref b)) Q E s:=by
 obtain⟨z,hd,ys,rel,dd⟩:=t.of I.hok;obtain⟨w',hw,j4⟩:=O7.some_of (v:=v) (o:=(atKey ys k).map (·.2)) (by rw[←l];exact Nc k rel);obtain⟨p,hp,o5⟩:=ZY.mp hw;refine wpAny_getItem_heap (show X.A.in1.units+1<cLine from hu) (hb.is I.hok hk) dd hp ?_;rw[o5];exact h w' _ (I.tok _) j4
theorem Zmg(hu:X.A.units+2<cLine)(I:Inv X pins σ H s)(t:Kn X.prog X.w sh H a xs)(hb:NAt H k b)(hk:k.map Sum.isLeft=sh)(h:∀s',Inv X pins σ H s'→Q (.bool (!(valN xs k).isSome)) s'):wpAny (model X.prog X.w) X.A (compareOp .NotIn (.ref b) (.ref a)) Q E s:=by
 obtain⟨z,hd,ys,rel,dd⟩:=t.of I.hok;refine wpAny_notIn_heap (show X.A.in1.units+1<cLine from hu) (hb.is I.hok hk) hd dd ?_;have q:=(Nc k rel).Vm;rw[cP]at q;rw[←q];exact h _ (I.tok _)
theorem Zqj{ys:List (NK×Addr×Value)}{k:NK}(h:valN xs k=none)(r:Zdb xs ys):atKey ys k=none:=by
 have q:=(Nc k r).Vm;rw[h,cP]at q
 cases e:atKey ys k with
 |none=>rfl
 |some _=>rw[e]at q;cases q
theorem Zt3{Q:WR}(hu:X.A.units+2<cLine)(I:Inv X pins σ H s)(t:Kn X.prog X.w sh H a xs)(ha:H a=some (dN X.prog X.w sh a xs))(hl:xs.length<sizeLine)(hb:NAt H k b)(hk:k.map Sum.isLeft=sh)(l:valN xs k=none)(rv:RelV v u)
  (h:∀s',Inv X pins σ (upd H a (dN X.prog X.w sh a (xs++[(k,b,v)]))) s'→Q () s'):wpAny (model X.prog X.w) X.A (setItem (.ref a) (.ref b) u) Q E s:=by
 obtain⟨z,hd,ys,rel,dd⟩:=t.of I.hok;refine wpAny_setItem_heap (hsz:=by rw[←Zjl rel];exact z) (show X.A.in1.units+1<cLine from hu) (hb.is I.hok hk) dd λh' p7 hs=>h _ ?_;rw[storedH_new (Zqj l rel)]at p7;obtain⟨q,es,ep,hq,h2,h3,h4,_,h5⟩:=p7;refine S9 I (by rw[ha];exact True.intro) hs ⟨q,hq⟩ (Ze1 ⟨?_,hd,_,q,es,ep,Paired.snoc rel ⟨rfl,rfl,rv⟩,hq,h2,h3,h4,h5⟩);rw[oB];exact hl
theorem Zfv(I:Inv X pins σ H s)(t:Kn X.prog X.w sh H a xs):s.TypeIs (.ref a) "dict":=by
 obtain⟨_,_,ys,_,dd⟩:=t.of I.hok;exact dd.typeIs
end
def Zpg(P:Program)(w:World)(sh:VD)(td ty:TE):TE:=λσ H Q=>td σ H λx H1=>ty σ H1 λy H2=>∃a xs k b v,x=.ref a∧y=.ref b∧Kn P w sh H2 a xs∧NAt H2 k b∧k.map Sum.isLeft=sh∧valN xs k=some v∧Q v H2
def Zho(P:Program)(w:World)(sh:VD)(ty td:TE):TE:=λσ H Q=>ty σ H λy H1=>td σ H1 λx H2=>∃a xs k b,x=.ref a∧y=.ref b∧Kn P w sh H2 a xs∧NAt H2 k b∧k.map Sum.isLeft=sh∧Q (.bl (!(valN xs k).isSome)) H2
def Zpv(P:Program)(w:World)(sh:VD)(td ty tv:TE):TS:=λD σ H=>tv σ H λv H1=>td σ H1 λx H2=>ty σ H2 λy H3=>∃a xs k b,x=.ref a∧y=.ref b∧H3 a=some (dN P w sh a xs)∧Kn P w sh H3 a xs∧xs.length<sizeLine∧NAt H3 k b∧k.map Sum.isLeft=sh∧valN xs k=none∧D.nx σ (upd H3 a (dN P w sh a (xs++[(k,b,v)])))
section
variable {X:Cx}{o i e value:Expr}{pos pos' Zsi:Pos}{td ty tv:TE}{sh:VD}
theorem Aj(hu:X.A.units+2<cLine)(ho:PE X o td)(hi:PE X i ty)(hs:Zsa i)(hP:X.prog=P:=by rfl)(hw:X.w=w:=by rfl):PE X (.Subscript o i pos) (Zpg P w sh td ty):=by
 subst hP hw;intro pins s σ H Q I h;refine Zdl PySem.F.slot_dict_getitem.lookup hs (thn (ho pins s σ H _ I h) λu s1 ⟨x,H1,I1,rx,q1⟩=>thn (hi pins s1 σ H1 _ I1 q1) λiv s2 ⟨y,H2,I2,ry,a,xs,k,b,v,ex,ey,t,hb,hk,l,q2⟩=>?_);subst ex ey;obtain rfl:u=Value.ref a:=rx;obtain rfl:iv=Value.ref b:=ry;exact⟨Zfv I2 t,Zt4 hu I2 t hb hk l λw' s3 I3 j4=>⟨v,H2,I3,j4,q2⟩⟩
theorem Ib(hu:X.A.units+2<cLine)(hi:PE X i ty)(ho:PE X o td)(hP:X.prog=P:=by rfl)(hw:X.w=w:=by rfl):PC X .NotIn i o (Zho P w sh ty td):=by
 subst hP hw;intro pins s σ H Q I h;refine thn (hi pins s σ H _ I h) λiv s1 ⟨y,H1,I1,ry,q1⟩=>thn (ho pins s1 σ H1 _ I1 q1) λu s2 ⟨x,H2,I2,rx,a,xs,k,b,ex,ey,t,hb,hk,q2⟩=>?_;subst ex ey;obtain rfl:u=Value.ref a:=rx;obtain rfl:iv=Value.ref b:=ry;exact Zmg hu I2 t hb hk λs3 I3=>⟨.bl (!(valN xs k).isSome),H2,I3,rfl,q2⟩
theorem Ae(hu:X.A.units+2<cLine)(ho:PE X o td)(hi:PE X i ty)(hv:PE X value tv)(hs:swapsWith value (some (.Subscript o i pos')) pos.line X.env=pure false)(hP:X.prog=P:=by rfl)(hw:X.w=w:=by rfl):
  PS X (.Assign [.Subscript o i pos'] value pos) (Zpv P w sh td ty tv):=by
 subst hP hw;intro pins s σ H D I h;refine wpAny_Assign_Subscript (thn (hv pins s σ H _ I h) λr s1 ⟨v,H1,I1,rv,q1⟩=>thn (ho pins s1 σ H1 _ I1 q1) λu s2 ⟨x,H2,I2,rx,q2⟩=>thn (hi pins s2 σ H2 _ I2 q2) λiv s3 ⟨y,H3,I3,ry,a,xs,k,b,ex,ey,ha,t,hl,hb,hk,l,q3⟩=>?_) hs;subst ex ey;obtain rfl:u=Value.ref a:=rx;obtain rfl:iv=Value.ref b:=ry;exact Zt3 hu I3 t ha hl hb hk l rv λs4 I4=>⟨σ,_,I4,q3⟩
end
def Zpd(P:Program)(w:World)(sh:VD)(tk tv:TE):TE:=λσ H Q=>∀p,H p=none→Jd [(tk,tv)] σ (upd H p (dN P w sh p [])) λps H2=>∃x y,ps=[(x,y)]∧H2 p=some (dN P w sh p [])∧∃b k,x=.ref b∧NAt H2 k b∧k.map Sum.isLeft=sh∧Q (.ref p) (upd H2 p (dN P w sh p [(k,b,y)]))
theorem Ai{pos:Pos}{k v:Expr}{tk:TE}(hu:X.A.units+2<cLine)(hk:PE X k tk)(hv:PE X v tv)(hP:X.prog=P:=by rfl)(hw:X.w=w:=by rfl):PE X (.Dict [some k] [v] pos) (Zpd P w sh tk tv):=by
 subst hP hw;intro pins s σ H Q I q;have hn:=I.hok.fresh (rX s.heap.objs.size)
 have new:Z9 X.prog X.w (upd H s.heap.objs.size (dN X.prog X.w sh s.heap.objs.size [])) (s.heap.push { cls:=.type "dict",data:=.dict #[] }) s.heap.objs.size (dN X.prog X.w sh s.heap.objs.size []):=
  Ze1 ⟨lB _,beq_eq_false_iff_ne.mpr (dA (oY I.big)),[],_,#[],0,.nil,oC _ rfl,⟨rfl,rfl,rfl⟩,rfl,rfl,XC⟩
 have I1:=I.laid (a:=s.heap.objs.size) (o:=dN X.prog X.w sh s.heap.objs.size []) (h':=s.heap.push { cls:=.type "dict",data:=.dict #[] }) (t':=s.toks) (λ_ _ q=>rV _ q) (rX _) new;have Ld:([some k]:List (Option Expr)).all (·.isSome)=true:=rfl;have i8:=pairTrees_length [some k] [v] X.env pos Ld rfl;rw[arm_eval_Dict,zip_pairTrees [some k] [v] X.env pos Ld rfl,dictDisplay_pairs _ (λhe=>by rw[he]at i8;cases i8) (by rw[i8];show 1<17;decide)];refine rS (cR (rS ?_));unfold subDict;refine rS (wpAny_alloc (rS (lE ?_)));rw[if_pos (by rw[i8];show 1≤15;decide)];refine rS (iD (J8 hk hv Co pins _ σ _ _ I1 (q _ hn)) (λvs s2 h2=>?_) λ_ _ e=>e);obtain⟨ps,H2,I2,rel,x,y,rfl,e,b,kk,rfl,eb,es,q2⟩:=h2
 cases rel with
 | @cons a c as cs gL tl=>
  cases tl;obtain⟨u,r⟩:=c;cases (show u=Value.ref b from gL.1);refine lE (rS ?_);rw[cL];have t:Kn X.prog X.w sh H2 s.heap.objs.size []:=⟨.inl e,nofun,nofun⟩;obtain⟨z,hd,ys,rl,dd⟩:=t.of I2.hok;cases rl;refine rS (rS (wpAny_dictSet_heap (show X.A.units+1<cLine by lia) (eb.is I2.hok es) dd λh' p7 hs=>rT ?_));refine rT (rT (rT (rT ?_)));obtain⟨qo,ens,ep,hq,h2,h3,h4,_,h5⟩:=p7;exact⟨.ref s.heap.objs.size,_,S9 (ob:=dN X.prog X.w sh s.heap.objs.size [(kk,b,y)]) I2 (by rw[e];exact True.intro) hs ⟨qo,hq⟩ (Ze1 ⟨by show 1≤sizeLine;decide,hd,_,qo,ens,ep,.cons ⟨rfl,rfl,gL.2⟩ .nil,hq,h2,h3,h4,h5⟩),rfl,q2⟩
def ItN(a:Addr)(o:Obj)(u:HO)(bs:VB):It:=
 ⟨λi H=>i<bs.length∧H a=some (.frz o u),λi H x H'=>H'=H∧∃b,bs[i]?=some b∧x=.ref b,λi H=>i=bs.length∧H a=some (.frz o u)⟩
theorem Zbm(a it:Addr)(o:Obj)(u:HO)(bs:VB)(es:Array DictEntry)(ep:Nat)(hx:o.ExactDict)(hd:o.data=.dict es ep)(hk:es.toList.map (·.key)=bs.map Value.ref):
  Turn P w K tg (ItN a o u bs) [it] it (λi h=>h.IsKeyIter it a i es.size ep) where
 mem:=by simp
 obj:=λi h st b hb=>by
  have e:b=it:=by simpa using hb
  subst e;obtain⟨o,e,c,d⟩:=st;exact⟨o,e,λv z=>by rw[d]at z;cases z⟩
 keep:=λi h h' st k=>st.at λo e=>k it (by simp) o e
 item:=by
  intro X hP hw hK hc i pins s σ H E I hf st hg;subst hP hw hK;obtain⟨hi,hq⟩:=hg;obtain⟨k1,k2⟩:=Hg hk;have u5:i<es.size:=by lia
  obtain⟨b,hb,ek⟩:=k2 i u5;obtain⟨f0,f1,f2,f3,f4,f5⟩:=hf it (by simp);refine S1 st ⟨o,(I.hok a _ hq).1,hx,hd⟩ u5 λh' t7 sb=>?_
  have I1:Inv X pins σ H { s with heap:=h' }:=I.turned (t':=s.toks) (λb o hb e=>(sb.2 b hb).trans e) f0 f1 f3 f4 f5;obtain⟨oi,e,c,d⟩:=id t7;rw[ek]
  exact⟨.ref b,rfl,Df (s:={ s with heap:=h' }) e c d (by decide) ⟨.ref b,H,I1,rfl,⟨rfl,b,hb,rfl⟩,t7,λb hb=>(hf b hb).1⟩⟩
 done:=by
  intro X hP hw hK hc i pins s σ H E I hf st hg;subst hP hw hK;obtain⟨hi,hq⟩:=hg;obtain⟨k1,_⟩:=Hg hk;obtain⟨f0,f1,f2,f3,f4,f5⟩:=hf it (by simp);exact Qd (I.ok.hd hc) st ⟨o,(I.hok a _ hq).1,hx,hd⟩ (by lia) λh' eb=>⟨rfl,I.turned (t':=s.toks) (λb o hb e=>eb b o hb e) f0 f1 f3 f4 f5⟩
 self:=λ_ _ _ _ _ st h=>YV st h
theorem El:∀{xs:NX}{ys:List (NK×Addr×Value)},Zdb xs ys→ys.map (·.2.1)=xs.map (·.2.1)
 |_,_,.nil=>rfl
 |_,_,.cons q t=>by rw[lG,lG,El t,q.2.1]
def Zq5(P:Program)(w:World)(sh:VD)(te:TE):TI:=λσ H R=>te σ H λx H1=>∃a xs,x=.ref a∧H1 a=some (dN P w sh a xs)∧∀o,R (ItN a o (dN P w sh a xs) (xs.map (·.2.1))) (upd H1 a (.frz o (dN P w sh a xs)))
theorem Zi8(he:PE X e te)(hP:X.prog=P:=by rfl)(hw:X.w=w:=by rfl):PI X tg e (Zq5 P w sh te):=by
 subst hP hw;intro pins s σ H R I h;refine thn (he pins s σ H _ I h) λv s1 ⟨x,H1,I1,r1,q1⟩=>?_;obtain⟨a,xs,rfl,hd,q⟩:=q1;obtain rfl:v=Value.ref a:=r1;obtain⟨⟨z,y,ys,o,es,ep,r⟩,_,_⟩:=(show Z9 X.prog X.w H1 s1.heap a (dN X.prog X.w sh a xs) from I1.hok a _ hd);have I2:Inv X pins σ (upd H1 a (.frz o (dN X.prog X.w sh a xs))) s1:=I1.write (x:=a) (e:=a) (t':=s1.toks) (h':=s1.heap) (by rw[hd];exact True.intro) (.inl rfl) (λb u _ e=>e) ⟨o,r.at_⟩ ⟨r.at_,Ze1 ⟨z,y,ys,o,es,ep,r⟩⟩
 have hk:es.toList.map (·.key)=(xs.map (·.2.1)).map Value.ref:=by
  rw[r.ent,←El r.rel,lW,lW];rfl
 refine Ci y ⟨o,r.at_,r.ex,r.dat⟩ ?_;refine⟨s1.heap.objs.size,[s1.heap.objs.size],_,_,_,rfl,I2.kept (t':=s1.toks) λb o e=>rV _ e,Zbm a _ o _ _ es ep r.ex r.dat hk,⟨_,oC _ rfl,rfl,rfl⟩,λb hb=>?_,q o⟩;have e:b=s1.heap.objs.size:=by simpa using hb
 subst e;exact I2.Fg (rX _) (I2.hok.fresh (rX _))
theorem Zgh{u:HO}{bs:VB}(Pv:Nat→St→Hp→Prop)(h0:Pv 0 σ H)(hl:∀i σ H,i≤bs.length→Pv i σ H→H a=some (.frz o u))
  (hs:∀i b σ H,bs[i]?=some b→Pv i σ H→g (.ref b) σ H λx8 H2=>tb { D with nx:=Pv (i+1),ct:=Pv (i+1),bk:=D.nx } x8 H2) (hd:∀σ H,Pv bs.length σ H→D.nx σ H) :
  ∃W:Nat→Nat→St→Hp→Prop,(∃m,W 0 m σ H)∧∀i m σ H,W i m σ H→
   ((ItN a o u bs).stop i H∧D.nx σ H)∨((ItN a o u bs).go i H∧∃N:St→Hp→Prop,(∀x4 H',N x4 H'→∃m',m'<m∧W (i+1) m' x4 H')∧∀x H',(ItN a o u bs).yld i H x H'→g x σ H' λx8 H2=>tb { D with nx:=N,ct:=N,bk:=D.nx } x8 H2):=by
 refine⟨λi m σ H=>m=bs.length-i∧i≤bs.length∧Pv i σ H,⟨bs.length,by simp,lB _,h0⟩,?_⟩;rintro i m σ H ⟨rfl,hi,p⟩;have q:=hl i σ H hi p
 by_cases x5:i<bs.length
 ·refine .inr ⟨⟨x5,q⟩,Pv (i+1),λx4 H' p'=>⟨bs.length-(i+1),by lia,rfl,x5,p'⟩,λx H' y=>?_⟩;obtain⟨e,b,hb,ex⟩:=y;subst e ex;exact hs i b σ _ hb p
 ·have e:i=bs.length:=by lia
  subst e;exact .inl ⟨⟨rfl,q⟩,hd σ H p⟩
theorem hu2{k:Nat}(hr:Xi k A):A.units+2<cLine:=by have:=hr.units;lia
section
variable {X:Cx}{pins:XX}{σ:St}{H:Hp}{s:Shared}
theorem Inv.Zot(I:Inv X pins σ H s)(f:Far X pins a)(h:s.heap.get? a=some o)(hn:H a=none)(hd:∀v,o.data≠.cell v):Inv X (pins++[(a,o)]) σ H s:=
 I.Ph λq hq=>(oJ.mp hq).elim (λz=>I.pin q (oX _ z)) λz=>by
  rw[rY.mp z];exact⟨h,hn,f.loc,f.fs,hd⟩
def Znf(X:Cx)(σ:St)(k:Nat)(f:Addr)(fd:FuncData)(xs:List V)(kf:V→Int)(H1:Hp):Prop:=∀W5:Heap,Za8 X σ W5→
 ∃(ps:List Str) (sp:Sp),Ya X.prog X.w X.K X.mg W5 CX0 k f fd ps sp∧Binds X.K fd ps []∧∀x∈xs,∀H2,Zt H1 H2→∀R:VK,(∀H3,Zt H2 H3→R (.int (kf x)) H3)→sp [x] H2 R E0
theorem Ew{k:Nat}{kf:V→Int}(C:Znf X σ k f fd xs kf H1)(p8:∀x,X.fn x=true)(hr:Xi (k+1) X.A)(I:Inv X pins σ H s)(e:Zt H1 H)(hv:v∈xs)(ru:RelV v u):
  wpAny (model X.prog X.w) X.A.in1 (call (.ref f) [u]) (λr s'=>∃t H',r=.int (kf v) t∧Inv X pins σ H' s'∧Zt H H') (λ_ _=>False) s:=by
 obtain⟨ps,sp,F,hb,hk⟩:=C _ I.Zk9;have h:sp [v] H (λr H'=>r=.int (kf v)∧Zt H H') E0:=hk v hv H e _ λH3 e3=>⟨rfl,e3⟩;have hl:([u]++([]:List Value)).length=ps.length:=F.len _ _ _ _ h;refine cX (dP (F.run _ X.stack s H ⟨[u],[]⟩ [u] [v] _ E0 hr.in1 (I.Zox p8).in1 (hb s [u] I.kIn hl) (.cons ru .nil) h) λr s' hq=>?_)
 cases r with
 |error e=>exact False.elim hq
 |ok fl=>
  cases fl with
  |ret y=>
   obtain⟨v',H',I',ry,rfl,e1⟩:=I.after hq;obtain⟨t,rfl⟩:=ry;exact⟨t,H',rfl,I',e1⟩
  |next=>exact False.elim hq
  |brk=>exact False.elim hq
  |cont=>exact False.elim hq
theorem Zd0{b:Addr}{ks':WC}{c:Nat}(I:Inv X (pins++[(a,o)]++[(b,lo ks c)]) σ H s)(fb:Far X (pins++[(a,o)]) b)(g:Array Value→Array Value)(hg:g ks.toArray=ks'.toArray):∃c',Inv X (pins++[(a,o)]++[(b,lo ks' c')]) σ H { s with heap:=s.heap.update b (Obj.mapSeq g) }:=I.Cg fb hg
theorem Zf9{m n:Int}{t u:Tok}(h:Q (.bool (decide (m<n))) s):wpAny (model P w) A (richCompare .Lt (.int m t) (.int n u)) Q E s:=
 CmpOf.ints_lt (P:=λj v=>∃t,v=.int (if j=0 then m else n) t) (λj=>if j=0 then m else n) (λ_ _ q=>q) 0 1 _ _ s Q E ⟨t,rfl⟩ ⟨u,rfl⟩ h
variable {k:Nat}{f:Addr}{fd:FuncData}{xs:List V}{kf:V→Int}{H1:Hp}{R:UO}{l Ia Sa:Addr}
theorem Zfy(hc:X.calm=true)(p8:∀x,X.fn x=true)(hr:Xi (k+1) X.A)(C:Znf X σ k f fd xs kf H1)(hl:SqL X.K H1 l xs)(Zen:∀H2,Zt H1 H2→SqL X.K H2 l xs)(nlI:l≠Ia)(eY:Sa≠Ia)(fI:Far X pins Ia)(fS:Far X pins Sa)
  (hR:∀x H2 u s',x∈xs→(∀y∈xs,kf x≤kf y)→Zt H1 H2→Inv X pins σ H2 s'→RelV x u→R (.ok (.ret u)) s') :
  ∀(r j:Nat) (s:Shared) (H:Hp) (oI:Obj) (vb:Value) (xb:V) (tb:Tok) (c:Nat),xs.length-(j+1)=r→j+1≤xs.length→Inv X (pins++[(Ia,oI)]++[(Sa,lo [vb,.int (kf xb) tb] c)]) σ H s→Zt H1 H→oI.cls=.type "list_iterator"→oI.data=.fields #[.ref l,.int (j+1:Nat) 0]→
   xb∈xs→RelV xb vb→(∀i y,i≤j→xs[i]?=some y→kf xb≤kf y)→codeAny (model X.prog X.w) X.A (.builtin "min.loop" ⟨[.ref Ia,.ref f,.ref Sa],[]⟩) R s:=by
 have nm:(toString "min"++toString ".loop" : String) = "min.loop":=by decide
 intro r
 induction r with
 |zero=>
  intro j s H oI vb xb tb c c9 hj I e oc od pL rb best;have hS:=I.held.1;have I1:=I.X9;have hI:=I1.held;have I2:=I1.X9;obtain⟨its,rv,pl,_⟩:=I2.list (Zen H e);have hn:its.length=xs.length:=rv.length.symm;have W:=YO (prog:=X.prog) (w:=X.w) (A:=X.A.in1) (I2.ok.hd hc) Ia l nlI its.toArray;refine iG YA ?_;rw[lV dQ _];refine rS (m:=seqItems? (.ref Sa)) (dE hS rfl ?_);refine rS (bQ (W.done _ _ _ ⟨by rw[oF,hn,show xs.length=j+1 by lia];exact⟨oI,hI.1,oc,od⟩,pl.isList⟩ λh' l8 hk=>?_));have I3:=I2.turned (t':=l8) (h':=h') (it:=Ia) (λb o hb z=>hk b o (λq=>hb (rY.mp q)) z) hI.2 fI.loc (.inr fI.new) fI.cell fI.pin;have hU:=hk Sa _ (λq=>eY (rY.mp q)) hS;have I4:=I3.turned (t':=l8) (h':=h'.update Sa (Obj.mapSeq λ_=>(#[]:Array Value))) (it:=Sa) (λb o hb z=>(lK h' _ (dA hb)).trans z) I.held.2 fS.loc (.inr fS.new) fS.cell fS.pin;refine rS (ZD hU rfl (rS (aY (rT ?_))));exact hR xb H vb _ pL (λy hy=>let ⟨i,hi⟩:=aM.mp hy;best i y (by have:=(oG.mp hi).1;lia) hi) e I4 rb
 |succ r ih=>
  intro j s H oI vb xb tb c c9 hj I e oc od pL rb best;have hS:=I.held.1;have I1:=I.X9;have hI:=I1.held;have I2:=I1.X9;obtain⟨its,rv,pl,_⟩:=I2.list (Zen H e);have hn:its.length=xs.length:=rv.length.symm;have W:=YO (prog:=X.prog) (w:=X.w) (A:=X.A.in1) (I2.ok.hd hc) Ia l nlI its.toArray;refine iG YA ?_;rw[lV dQ _];refine rS (m:=seqItems? (.ref Sa)) (dE hS rfl ?_);refine rS (bQ (W.item (j+1) _ _ _ (by rw[oF];lia) ⟨⟨oI,hI.1,oc,od⟩,pl.isList⟩ λv h' l8 hP y0 hk=>?_));have hv:its[j+1]?=some v:=by simpa using hP
  obtain⟨wI,go,vA,mT⟩:=y0.1;have I3:=I2.turned (t':=l8) (h':=h') (it:=Ia) (λb o hb z=>hk b o (λq=>hb (rY.mp q)) z) hI.2 fI.loc (.inr fI.new) fI.cell fI.pin;have hU:=hk Sa _ (λq=>eY (rY.mp q)) hS;have I4:=(I3.Zot fI go hI.2 (λv q=>by rw[mT]at q;cases q)).hold (fS.more eY.symm) hU I.held.2;have hx:xs[j+1]?=some (xs[j+1]'(by lia)):=rZ (by lia);generalize xs[j+1]'(by lia)=x at hx;have r9:=oM hx;obtain⟨v',u6,rx⟩:=rv.get hx;rw[hv]at u6;cases u6;refine rS (bQ (lE (iD (Ew C p8 hr I4 e r9 rx) (λy xT he=>?_) λ_ _ z=>z.elim)));obtain⟨t2,H2,rfl,I5,e2⟩:=he;have e3:=e.trans e2;refine rS (bQ (lE (rS (Zf9 ?_))));refine rS (lE (dR (rS (aY (rT ?_)))))
  have eK:∀i y,i≤j+1→xs[i]?=some y→(kf x<kf xb→kf x≤kf y)∧(¬ kf x<kf xb→kf xb≤kf y):=λi y hi hy=>by
   by_cases z:i=j+1
   ·rw[z,hx]at hy;cases hy;exact⟨λ_=>Int.le_refl _,λq=>by lia⟩
   ·have:=best i y (by lia) hy;exact⟨λ_=>by lia,λ_=>this⟩
  by_cases hb:kf x<kf xb
  ·rw[decide_eq_true hb,if_pos rfl];obtain⟨c',I6⟩:=Zd0 I5 (fS.more eY.symm) (λ_=>#[v,.int (kf x) t2]) (ks':=[v,.int (kf x) t2]) rfl;refine rS (ZD I5.held.1 rfl (rS (aY ?_)));rw[nm];exact rT ⟨plainId_quiet dQ _,ih (j+1) _ H2 wI v x t2 c' (by lia) (by lia) I6 e3 vA mT r9 rx λi y hi hy=>(eK i y hi hy).1 hb⟩
  ·rw[decide_eq_false hb,if_neg (by decide)];refine rS (aY ?_);rw[nm];exact rT ⟨plainId_quiet dQ _,ih (j+1) _ H2 wI vb xb tb c (by lia) (by lia) I5 e3 vA mT pL rb λi y hi hy=>(eK i y hi hy).2 hb⟩
theorem Zmi{Q:VK}(hc:X.calm=true)(p8:∀x,X.fn x=true)(hr:Xi (k+1) X.A)(C:Znf X σ k f fd xs kf H)(hl:SqL X.K H l xs)(x6:0<xs.length)(I:Inv X pins σ H s)
  (hQ:∀x H2,x∈xs→(∀y∈xs,kf x≤kf y)→Zt H H2→Q x H2):wpAny (model X.prog X.w) X.A (call (.builtin "min") [.ref l] [(Str.ofString "key",.ref f)]) (EP X pins σ Q) X.xe s:=by
 have nm:(toString "min"++toString ".loop" : String) = "min.loop":=by decide
 have Zen:∀H2,Zt H H2→SqL X.K H2 l xs:=λH2 e=>hl.imp (λr=>r.imp (e _ _) λ⟨o,z⟩=>⟨o,e _ _ z⟩) id;refine kmk_tree PySem.F.kind_min PySem.F.plain_min PySem.F.entry_min (kmk_min_key _ _) ?_;refine rS (m:=Builtin.Builtins.bindParams "min" ["key","default"] 0 ⟨[],[(Str.ofString "key",.ref f)]⟩) (ZZ (show _=pure [some (.ref f),none] from rfl) ?_);obtain⟨its,rv,pl,_⟩:=I.list hl;have hn:its.length=xs.length:=rv.length.symm;refine rS (rT (rS (bK pl.isList (rS (XM ?_ (lB _))))));rw[nm]
 have nB:l<s.heap.objs.size:=by
  obtain⟨o,z,_⟩:=pl.isList;exact oD z
 have hsz:(s.heap.push { cls:=.type "list_iterator",data:=.fields #[.ref l,.int 0 0] }).objs.size=s.heap.objs.size+1:=size_push' ..;have gI:((s.heap.push { cls:=.type "list_iterator",data:=.fields #[.ref l,.int 0 0] }).push (lo [] 0)).get? s.heap.objs.size=some { cls:=.type "list_iterator",data:=.fields #[.ref l,.int 0 0] }:=rV _ (oC _ rfl);have gS:((s.heap.push { cls:=.type "list_iterator",data:=.fields #[.ref l,.int 0 0] }).push (lo [] 0)).get? (s.heap.push { cls:=.type "list_iterator",data:=.fields #[.ref l,.int 0 0] }).objs.size=some (lo [] 0):=oC _ rfl;have I0:=I.kept (h':=(s.heap.push { cls:=.type "list_iterator",data:=.fields #[.ref l,.int 0 0] }).push (lo [] 0)) (t':=s.toks) λb o z=>rV _ (rV _ z);have fI:=I.far (a:=s.heap.objs.size) (rX _);have fS:Far X pins (s.heap.push { cls:=.type "list_iterator",data:=.fields #[.ref l,.int 0 0] }).objs.size:=I.far (by lia);have nI:=I.hok.fresh (rX s.heap.objs.size);have nS:=I.hok.fresh (a:=(s.heap.push { cls:=.type "list_iterator",data:=.fields #[.ref l,.int 0 0] }).objs.size) (by lia);have eY:(s.heap.push { cls:=.type "list_iterator",data:=.fields #[.ref l,.int 0 0] }).objs.size≠s.heap.objs.size:=by lia
 generalize (s.heap.push { cls:=.type "list_iterator",data:=.fields #[.ref l,.int 0 0] }).objs.size=Sa at gS fS nS eY;have pl0:((s.heap.push { cls:=.type "list_iterator",data:=.fields #[.ref l,.int 0 0] }).push (lo [] 0)).IsList l its.toArray:=pl.isList.at λo z=>rV _ (rV _ z);refine rT ⟨plainId_quiet dQ _,?_⟩;refine iG YA ?_;rw[lV dQ _];have W:=YO (prog:=X.prog) (w:=X.w) (A:=X.A.in1) (I.ok.hd hc) s.heap.objs.size l (oY nB) its.toArray;refine rS (m:=seqItems? (.ref Sa)) (dE gS rfl ?_);refine rS (bQ (W.item 0 _ _ _ (by rw[oF];lia) ⟨⟨_,gI,rfl,rfl⟩,pl0⟩ λv h' l8 hP y0 hk=>?_));have hv:its[0]?=some v:=by simpa using hP
 obtain⟨wI,go,vA,mT⟩:=y0.1;have I3:=I0.turned (t':=l8) (h':=h') (it:=s.heap.objs.size) (λb o hb z=>hk b o (λq=>hb (rY.mp q)) z) nI fI.loc (.inr fI.new) fI.cell fI.pin;have hU:=hk Sa _ (λq=>eY (rY.mp q)) gS;have I4:=(I3.Zot fI go nI (λv q=>by rw[mT]at q;cases q)).hold (fS.more eY.symm) hU nS;have hx:xs[0]?=some (xs[0]'(by lia)):=rZ (by lia);generalize xs[0]'(by lia)=x at hx;have r9:=oM hx;obtain⟨v',u6,rx⟩:=rv.get hx;rw[hv]at u6;cases u6;refine rS (bQ (lE (iD (Ew C p8 hr I4 (Zt.refl _) r9 rx) (λy xT he=>?_) λ_ _ z=>z.elim)));obtain⟨t2,H2,rfl,I5,e2⟩:=he;obtain⟨c',I6⟩:=Zd0 I5 (fS.more eY.symm) (λ_=>#[v,.int (kf x) t2]) (ks':=[v,.int (kf x) t2]) rfl;refine rS (ZD I5.held.1 rfl ?_);rw[nm];refine rT ⟨plainId_quiet dQ _,Zfy hc p8 hr C hl Zen (oY nB) eY fI fS (λx H3 u s' h1 h2 h3 I' r=>⟨x,H3,I',r,hQ x H3 h1 h2 h3⟩) _ 0 _ H2 wI v x t2 c' rfl (by lia) I6 e2 vA mT r9 rx λi y hi hy=>?_⟩;rw[show i=0 by lia,hx]at hy;cases hy;exact Int.le_refl _
end
inductive Zhn(X:Cx)(K:W.Frag)(i k:Nat)(σ:St)(Q:VK)(v:V)(H:Hp):Prop
 |mk(l:Addr)(xs:List V)(f:Addr)(fd:FuncData)(kf:V→Int)(h1:v=.ref l)(h2:SqL K H l xs)(h3:0<xs.length)(h4:σ[i]?=some (some (.ref f)))(h7:H f=some (FnO f fd))(h5:Znf X σ k f fd xs kf H)(h6:∀x H2,x∈xs→(∀y∈xs,kf x≤kf y)→Zt H H2→Q x H2):Zhn X K i k σ Q v H
def Zsq(X:Cx)(K:W.Frag)(i k:Nat)(te:TE):TE:=λσ H Q=>Sd te Je σ H λvs H1=>∃v,vs=[v]∧Zhn X K i k σ Q v H1
theorem Zl3{kp pos:Pos}(k:Nat)(hc:X.calm=true)(hr:Xi (k+1) X.A)(hg:Gl X "min")(hm:X.mg "min"=none)(he:PE X e te)(hN:X.N[i]?=some x:=by rfl)(hv:Vis X.env.scope x:=by first|exact Or.inl rfl|exact Or.inr (Or.inl rfl)|exact Or.inr (Or.inr rfl))(hd:(x==("__debug__" : Str))=false:=by decide)(v0:(x==("__classdict__" : Str))=false:=by decide)
  (p8:∀x,X.fn x=true:=by intro _;rfl) (hK:X.K=K:=by rfl) (yT:starEach [e] X.env=(false,eval e X.env) :: starEach [] X.env:=by rfl)
  (y3:(backTo pos (starEach [e] X.env)).any (·.1)=false:=by rfl):PE X (.Call (.Name "min" p) [e] [⟨some "key",.Name x p2,kp⟩] pos) (Zsq X K i k te):=by
 subst hK;intro pins s σ H Q I h;refine iX (Qq I hg hm Zc2 ?_);refine PyProof.Rows.callWith_kw (thn (Za he Zb yT pos pins s σ H _ I h) λus s1 ⟨vs,H1,I1,r1,hq⟩=>?_) (by rw[yT];rfl) y3 rfl rfl;obtain⟨v,rfl,l,xs,f,fd,kf,rfl,h2,h3,h4,_,h5,h6⟩:=hq;refine thn (Zed (nm:=some "key") (kpos:=kp) (Zby (pos:=p2) hN hv hd v0) Zi5 pos pins s1 σ H1 (λws H2=>ws=[.ref f]∧H2=H1) I1 ⟨_,h4,rfl,rfl⟩) λws s2 ⟨x9,H2,I2,rz,e1,e2⟩=>?_;subst e1 e2;obtain⟨w1,rfl,rF⟩:=Vals.one rz;obtain rfl:w1=Value.ref f:=rF;obtain⟨u,rfl,ru⟩:=Vals.one r1;obtain rfl:u=Value.ref l:=ru;exact Zmi hc p8 hr h5 h2 h3 I2 h6
section
variable {P:Program}{w:World}
theorem Zo4(hh:A.handled=none)(it d:Addr)(x6:d≠it)(es:Array DictEntry)(ep:Nat):Walks P w A it [it,d] [it] es.size (λi v=>∃hi:i<es.size,v=es[i].key) (λi h=>h.IsKeyIter it d i es.size ep∧Lj h d es ep) where
 sub:=λb hb=>by rw[rY.mp hb];exact oE
 frame:=λ_ _ _ st hk=>⟨st.1.at λo e=>hk it (by simp) o e,st.2.at' λo e=>hk d (by simp) o e⟩
 item:=λi s Q E hi st hQ=>S1 st.1 st.2 hi λh' a b=>hQ _ h' s.toks ⟨hi,rfl⟩ ⟨a,st.2.at' λo e=>(b.2 d x6).trans e⟩ λc o hc e=>(b.2 c (λz=>hc (rY.mpr z))).trans e
 done:=λs Q E st hQ=>Qd hh st.1 st.2 (rX _) λh' eb=>hQ h' s.toks λb o hb e=>eb b o (λz=>hb (rY.mpr z)) e
 self:=λ_ _ _ _ st q=>YV st.1 q
theorem Zmm{es:Array DictEntry}(hs:(d==sysModules)=false):W.KdlSrc P w "dict" d d es.size (λi v=>∃hi:i<es.size,v=es[i].key) (λh=>Lj h d es ep) where
 type:=λ_ hm=>hm.typeIs
 there:=λ_ hm=>let ⟨_,e,_⟩:=hm;⟨oD e,oD e⟩
 keep:=λ_ _ m k=>m.at' λo e=>k d (.inl rfl) o e
 notList:=by decide
 notTuple:=by decide
 hint:=λ_ _ _ _ hm hq=>W.kdl_hint_dict hm.typeIs hq
 iter:=λ_ _ hh hm=>⟨_,_,(λ_ _ hq=>Ci hs hm hq),Zo4 hh _ d (let ⟨_,e,_⟩:=hm;oY (oD e)) es ep,⟨⟨_,oC _ rfl,rfl,rfl⟩,hm.at' λo e=>rV _ e⟩⟩
theorem Zs9(ok:HOk P w H h)(e:Rd H a (.dT kvs)):
  (a==sysModules)=false∧kvs.length≤sizeLine∧∃(es:Array DictEntry) (ep:Nat) (bs:VB),Lj h a es ep∧es.toList.map (·.key)=bs.map Value.ref∧Gv H kvs bs:=by
 obtain⟨z,y,xs,r,o,es,ep,h1,h2,h3,h4,h5⟩:=(show Z9 P w H h a (.dT kvs) from e.ok ok);refine⟨y,z,es,ep,xs.map (·.2.1),⟨o,h1,h2,h3⟩,?_,by rw[rW];exact(dZ r).symm,?_⟩
 ·rw[h4,lW,lW];rfl
 ·have key:∀{l:List (List Key×V)}{m:List (List Key×Addr×Value)},KT H l m→∀(i:Nat) b k v,(m.map (·.2.1))[i]?=some b→l[i]?=some (k,v)→H b=some (.tup (k.map kV)):=by
   intro l m q
   induction q with
   |nil=>intro i b k v a1 _;simp at a1
   | @cons p q ps qs hq t ih=>
    intro i b k v a1 a2
    cases i with
    |zero=>cases a1;cases a2;exact hq.2.1
    |succ i=>exact ih i b k v (by simpa using a1) (by simpa using a2)
  exact key r
end
section
variable {X:Cx}
inductive Ab(xs:List V)(H:Hp)(Q:VK):Prop
 |mk(p kvs:_)(h1:xs=[.ref p])(h2:Rd H p (.dT kvs))(h3:∀l bs,Gv H kvs bs→H l=none→Q (.ref l) (upd H l (.lst (bs.map V.ref)))):Ab xs H Q
def Zlx:List V→Hp→VK→Prop:=λxs H Q=>Ab xs H Q
theorem Zfo{its:WC}{bs:VB}(h:its=bs.map Value.ref):Vals (bs.map V.ref) its:=by
 subst h
 induction bs with
 |nil=>exact .nil
 |cons b r ih=>exact .cons rfl ih
theorem L6(hc:X.calm=true):Yx X (.type "list") Zlx:=by
 intro pins s σ H xs us Q I r h;obtain⟨p,kvs,rfl,e,q⟩:=h;obtain⟨u,rfl,ru⟩:=Vals.one r;obtain rfl:u=Value.ref p:=ru;obtain⟨hs,z,es,ep,bs,rd,hk,kt⟩:=Zs9 I.hok e;obtain⟨k1,k2⟩:=Hg hk;have hn:=kt.1;refine W.kdl_call (Zmm (ep:=ep) hs) (I.ok.hd hc) rd (by lia) λh' tk acc c kp hD it=>?_
 have ha:acc.toList=bs.map Value.ref:=by
  refine List.ext_getElem? λj=>?_
  by_cases hj:j<es.size
  ·have h1:acc.toList[j]?=some (acc.toList[j]'(by rw[oZ,it.1];exact hj)):=rZ _;obtain⟨_,ev⟩:=it.2 j _ (by rw[←lA];exact h1);obtain⟨b,hb,eb⟩:=k2 j hj;rw[h1,ev,eb,oP,hb];rfl
  ·rw[List.getElem?_eq_none (by rw[oZ,it.1];lia),List.getElem?_eq_none (by rw[rW];lia)]
 refine⟨.ref s.heap.objs.size,_,I.laid (t':=tk) kp (rX _) (show Z9 X.prog X.w _ h' _ (.lst (bs.map V.ref)) from⟨by rw[rW];lia,acc.toList,c,Zfo ha,?_⟩),rfl,q _ bs kt I.fresh⟩;rw[YT];exact hD
inductive Zog(K:W.Frag)(x:V)(y:V)(H:Hp)(Q:VK):Prop
 |mk(a b xs:_)(h1:x=.ref a)(h2:y=.ref b)(h3:SqL K H a xs)(h4:SqL K H b [])(h5:Q (.bl xs.isEmpty) H):Zog K x y H Q
def rEqE(K:W.Frag):R2:=λx y H Q=>Zog K x y H Q
theorem Cu(hu:X.A.units<cLine)(hK:X.K=K:=by rfl):OpR X (compareOp .Eq) (rEqE K):=by
 subst hK;intro pins s σ H x y v u Q I rx ry h;obtain⟨a,b,xs,rfl,rfl,ha,hb,q⟩:=h
 cases xs with
 |nil=>exact Zji hu rfl pins s σ H _ _ _ _ Q I rx ry ⟨a,b,[],[],rfl,rfl,.inl ⟨ha,hb⟩,rfl,rfl,q⟩
 |cons x xs=>
  cases rx;cases ry;obtain⟨i1,r1,p1,_⟩:=I.list ha;obtain⟨i2,r2,p2,_⟩:=I.list hb;exact SeqAt.RcAt.lists_lengths p1.isList p2.isList (by rw[size_of r1,size_of r2];exact bne_iff_ne.mpr (by simp)) hu _ _ _ _ ⟨.bl false,H,I,rfl,q⟩
end
theorem Zj4{own:List Str}{cl:VG}{s':Shared} 
  (I:Inv (Lz P w K mg base N qual scope f cd cl A outer s H) pins σ H' s'):Inv (Lz P w K mg base (N++own) qual scope f cd cl A outer s H) pins (σ++List.replicate own.length none) H' s':=by
 have hl:σ.length=N.length:=I.len;obtain⟨m,hn,nF⟩:=I.loc;refine⟨⟨I.ok.1,I.ok.2,I.ok.3,I.ok.4,I.ok.5,I.ok.6,I.ok.7,I.ok.8,I.ok.9,I.ok.10,I.ok.11,I.ok.12,I.ok.13,I.ok.14,I.ok.15,I.ok.16,I.ok.17,I.ok.18⟩,I.os,I.bare,I.base,⟨m,hn,λi y v h1 h2 h3=>?_⟩,I.cell,I.free,I.Vk,I.pin,I.hok,?_⟩
 ·rcases aK i σ.length with z|z
  ·rw[lP z]at h2;have h1:(N++own)[i]?=some y:=h1;rw[lP (by lia)]at h1;exact nF i y v h1 h2 h3
  ·rw[lT z]at h2;have:=oM h2;cases (ZL.mp this).2
 ·show _=(N++own).length;rw[oB,oB,dB,hl]
theorem Zm1{k:Nat}{c:Addr}{cl:VG}{own:List Str} 
  (S:Zle N ps scope) (LC:Ze8 base N ps scope cl fv) (len:∀vs H Q E,sp vs H Q E→vs.length=ps.length)
  (yI:∀vs H Q E,sp vs H Q E→H f=some (FnO f (W.fnX name qual params body scope cl .none .none doc pm none (.ref c) ct))∧H c=some (CdO c qual))
  (Qw:∀(A:Around) (outer:List Env) (s:Shared) (H:Hp) (vs:List V) (Q:VK) (E:XK),Xi k (A.deeper (W.envX qual scope s.heap.objs.size f (.ref c) cl))→sp vs H Q E→
   ∃t,PSs (Lz P w K mg base (N++own) qual scope f (.ref c) cl A outer s H) body t∧t { nx:=λ_ H'=>Q .non H',rt:=Q } ((vs.map some++fv.map some)++List.replicate own.length none) H) :
  Ya P w K mg base CX0 (k+1) f (W.fnX name qual params body scope cl .none .none doc pm none (.ref c) ct) ps sp:=by
 refine⟨len,λA outer s H args us vs Q E hr e0 hb r m8=>?_⟩;have hl:=len _ _ _ _ m8;obtain⟨hf,hc⟩:=yI _ _ _ _ m8;have lim:s.heap.NoLimit:=e0.mod.nolimit.keeps λb o e=>(e0.bs b o e).1;refine YG hr.depth (FnO.at_ e0.hok hf) rfl S.co S.gen rfl (CdO.at_ e0.hok hc) (hb _ _ _ _ ?_);refine YN S.Mx (λy hy=>S.par y.1 (aB hy).1) (λh1 c8 b8=>?_) S.kind;have hk:∀b o,s.heap.get? b=some o→h1.get? b=some o:=λb o e=>b8.extBut b o (oY (oD e)) (rV _ e);refine⟨lim.keeps hk,codeAny_func ?_⟩;obtain⟨t,ht,hq⟩:=Qw A outer s H vs Q E (hr.deeper _) m8
 have I:Inv (Lz P w K mg base N qual scope f (.ref c) cl A outer s H) [] (vs.map some++fv.map some) H { s with heap:=h1,toks:=s.toks+(ps.zip us).length }:=Zek S LC hr.hd e0 hl r c8 hk;refine iD (ht [] _ _ H _ (Zj4 I) hq) (λfl s' hs=>?_) λe s' hs=>hs.elim
 cases fl with
 |ret u=>
  obtain⟨v,x4,H',J,rv,q⟩:=hs;exact⟨v,H',J.os,J.bare,J.base,J.hok,rv,q⟩
 |next=>
  obtain⟨x4,H',J,q⟩:=hs;exact⟨.non,H',J.os,J.bare,J.base,J.hok,rfl,q⟩
 |brk=>
  obtain⟨_,_,_,q⟩:=hs;exact False.elim q
 |cont=>
  obtain⟨_,_,_,q⟩:=hs;exact False.elim q
section
variable {P:Program}{w:World}{A:Around}{s:Shared}{E:XW}
theorem Zgd{b:Addr}{o':Obj}{its its':WN}{n':Nat}{z z':Str}{t t':Tok}{R:Fin→Shared→Prop}(ha:s.heap.get? a=some o)(da:o.data=.seq its n)(hb:s.heap.get? b=some o')(cb:o'.cls=.type "tuple")(db:o'.data=.seq its' n')(e1:its.toList=.str z t :: us)(e2:its'.toList=[.str z' t'])
  (hu:z=z'→us=[]) (h:R (.done (.ret (.bool (decide (z=z'))))) s):wpAny (model P w) A (Builtin.«tuple.__eq__» ⟨[.ref a,.ref b],[]⟩) R E s:=by
 have ty:s.TypeIs (.ref b) "tuple":=⟨o',hb,cb⟩;refine rS (m:=isInstance (.ref b) (.type "tuple")) (cG ty isSubtype_tuple_tuple ?_);rw[if_neg (by decide)];refine rS (aD ha da (rS (aD hb db (rS ?_))));have hl:its.size=us.length+1:=by rw[←oZ,e1];rfl
 have c7:its'.size=1:=by rw[←oZ,e2];rfl
 rw[e1,e2,ZK,List.zip_nil_right,cL];refine rS (rS (eqGives_str z z' t t' _ _ _ _ _ _ ?_))
 by_cases c:z=z'
 ·rw[show (z==z')=true by rw[c];simp,if_neg (by decide)];refine rT (rT ?_);refine rT ?_;have z8:(its.size==its'.size)=decide (z=z'):=by rw[hl,c7,hu c,decide_eq_true c];rfl
  show R (.done (.ret (.bool (its.size==its'.size)))) s;rw[z8];exact h
 ·rw[show (z==z')=false from beq_eq_false_iff_ne.mpr c,if_pos (by decide)];rw[decide_eq_false c]at h;exact rS (rT (rT (rT (rT h))))
end
section
variable {X:Cx}
inductive Ziw(K:W.Frag)(x:V)(y:V)(H:Hp)(Q:VK):Prop
 |mk(a b z z' xs:_)(h1:x=.ref a)(h2:y=.ref b)(h3:SqT K H a (.str z :: xs))(h4:SqT K H b [.str z'])(h5:(z=z'→xs=[]))(h6:Q (.bl (decide (z=z'))) H):Ziw K x y H Q
def Zof(K:W.Frag):R2:=λx y H Q=>Ziw K x y H Q
theorem Pk(hu:X.A.units<cLine)(hK:X.K=K:=by rfl):OpR X (compareOp .Eq) (Zof K):=by
 subst hK;intro pins s σ H x y v u Q I rx ry h;obtain⟨a,b,z,z',xs,rfl,rfl,ha,hb,hz,q⟩:=h;cases rx;cases ry;obtain⟨i1,r1,⟨o1,g1,c1,n1,d1⟩,_⟩:=I.tuple ha;obtain⟨i2,r2,⟨o2,g2,c2,n2,d2⟩,_⟩:=I.tuple hb
 cases r1 with
 | @cons _ u1 _ us1 p1 t1=>
  cases r2 with
  | @cons _ u2 _ us2 p2 t2=>
   cases t2;obtain⟨k1,rfl⟩:=p1;obtain⟨k2,rfl⟩:=p2;have ty1:s.TypeIs (.ref a) "tuple":=⟨o1,g1,c1⟩;have ty2:s.TypeIs (.ref b) "tuple":=⟨o2,g2,c2⟩;show wpAny _ _ (richCompare .Eq _ _) _ _ _;refine wpAny_richCompare_same_room (op:=.Eq) ty1 ty2 PySem.F.slot_tuple_eq (iF PySem.F.slot_tuple_eq ty1 PySem.F.entry_tuple_eq ?_ (PySem.F.args_tuple_eq_2 _ _)) hu;refine Zgd (z:=z) (z':=z') (t:=k1) (t':=k2) (us:=us1) g1 d1 g2 c2 d2 (by simp) (by simp) (λe=>?_) ⟨_,rfl,nofun,⟨.bl _,H,I,rfl,q⟩⟩;have:=hz e;subst this;cases t1;rfl
end
def EXr(K:W.Frag)(Cs:Addr)(i:Nat)(te:TE)(D:Ends):St→XK:=λσ v _ H=>∃(a C:Addr) (d:WS),v=.ref a∧H a=some (exR a C d)∧W.exmOne K (.ref C) (.ref Cs)=some true∧te (σ.set i (some (.ref a))) H D.rt
def Zsk(K:W.Frag)(Cs:Addr)(i:Nat)(te:TE)(tb:(St→XK)→TS):TS:=λD σ H=>tb (EXr K Cs i te D) D σ H
theorem Zl0{Cs:Addr}{cls n:Str}{rE:Expr}{p3 hp pos:Pos}{tb:(St→XK)→TS}(hN:X.N.Nodup)(hi:X.N[i]?=some n)(pN:X.env.scope.names.lookup n=some .local)
  (hm:X.mg cls=some (.ref Cs)) (y0:X.stack=X.env :: X.outer) (n5:X.env.frame=some X.env.locals)
  (hb:∀(pn:XX) (xe:XW) (E:St→XK),RX (X.near X.A X.calm pn xe) E→PSs (X.near X.A X.calm pn xe) body (tb E)) (he:∀a:Addr,PE (X.near (X.A.mark (some (.ref a))) false X.pn λ_ _=>False) rE te)
  (hg:Gl X cls:=by rfl) (hK:X.K=K:=by rfl) (u7:(cls==("__debug__" : Str))=false:=by decide) :
  PS X (.Try body [.ExceptHandler (some (.Name cls p)) (some n) [.Return (some rE) p3] hp] [] [] pos) (Zsk K Cs i te tb):=by
 subst hK;intro pins s σ H D I h;refine wpAny_Try_except ?_;generalize hXE:(λ(e:Value) (s1:Shared)=>wpAny (model X.prog X.w) X.A (noteFrame e X.env) (λ_ s2=>wpAny (model X.prog X.w) X.A (setFlight e none) (λ_ s3=>wpAny (model X.prog X.w) X.A (handleBy e X.env [.ExceptHandler (some (.Name cls p)) (some n) [.Return (some rE) p3] hp]) (SP X pins D) X.xe s3) X.xe s2) X.xe s1)=XE;have mA:∀p∈X.pn++pins,p∈(X.pn++pins)++([]:List XZ):=λp h=>by rw[lN];exact h
 have I':Inv (X.near X.A X.calm (X.pn++pins) XE) [] σ H s:=I.near rfl I.ok.hd λp h=>by rw[lN]at h;exact h
 have back:∀{pins' σ H s},Inv (X.near X.A X.calm (X.pn++pins) XE) pins' σ H s→Inv X pins σ H s:=λI=>I.Zhf rfl I.ok.hd λp h=>lF _ h
 have rx:RX (X.near X.A X.calm (X.pn++pins) XE) (EXr X.K Cs i te D):=by
  rintro pins' n9 H1 s1 a C d I1 ha F ⟨a',C',d',e,gK,hex,q⟩;cases e;rw[ha]at gK
  have hCC:C'=C:=by
   obtain⟨o1,v1,g1,c1,_⟩:=F.there;obtain⟨⟨o2,v2,g2,c2,_⟩,_⟩:=(show Z9 X.prog X.w H1 s1.heap a (exR a C' d') from I1.hok a _ (ha.trans gK));rw[g1]at g2;cases g2;rw[c1]at c2;cases c2;rfl
  subst hCC;have I1:=back I1;show XE (.ref a) s1;rw[←hXE];refine Ay I1 I1.ok.frames y0 n5 ha F λh2 I2 F2=>?_
  have F2:Fly ({ s1 with heap:=h2 }:Shared).heap a C' d:=F2
  generalize ({ s1 with heap:=h2 }:Shared)=s2 at I2 F2;have I3:Inv (X.near (X.A.mark (some (.ref a))) false X.pn λ_ _=>False) pins n9 H1 s2:=I2.near rfl (λz=>nomatch z) λp h=>h;refine wpAny_handleBy_cons (codeAny_handlers_test (Pl (X:=X.near (X.A.mark (some (.ref a))) false X.pn λ_ _=>False) I3 hg hm ?_ u7)) (by intro z;cases z)
  have LT:W.Looks (model X.prog X.w) s2.heap (typeOf (.ref a)) (.ref C'):=by
   obtain⟨oe,vs,ge,hc,_⟩:=F2;exact hc▸(W.Looks.ld ge).andThen .now
  refine(W.exm_one I2.kIn LT hex).here ?_;refine codeAny_handlers_suite_as (Zgi F2 (Ue (v:=.ref a) I2 hN hi (.inl pN) rfl (λs4 I4=>?_) (.inr pN)));have I4:Inv (X.near (X.A.mark (some (.ref a))) false X.pn λ_ _=>False) pins (n9.set i (some (.ref a))) H1 s4:=I4.near rfl (λz=>nomatch z) λp h=>h;refine iD (Zg (Zl (X:=X.near (X.A.mark (some (.ref a))) false X.pn λ_ _=>False) (he a)) pins s4 _ H1 { nx:=λ_ _=>False,rt:=D.rt } I4 q) (λf s5 q5=>?_) λ_ _ z=>z.elim
  cases f with
  |ret u=>
   obtain⟨v,σ5,H5,I5,r,q⟩:=q5;have I6:Inv X pins σ5 H5 s5:=I5.Zhf rfl I2.ok.hd λp h=>h;exact name_goes I6 hN hi pN λs7 I7=>⟨v,_,H5,I7,r,q⟩
  |next=>obtain⟨_,_,_,z⟩:=q5;exact z.elim
  |brk=>obtain⟨_,_,_,z⟩:=q5;exact z.elim
  |cont=>obtain⟨_,_,_,z⟩:=q5;exact z.elim
 refine iD (hb _ XE _ rx [] s σ H D I' h) (λf s1 q=>?_) λ_ _ q=>q
 cases f with
 |next=>
  obtain⟨n9,H1,I1,q⟩:=q;exact ZC ⟨n9,H1,back I1,q⟩
 |ret u=>
  obtain⟨v,n9,H1,I1,r,q⟩:=q;exact⟨v,n9,H1,back I1,r,q⟩
 |brk=>obtain⟨n9,H1,I1,q⟩:=q;exact⟨n9,H1,back I1,q⟩
 |cont=>obtain⟨n9,H1,I1,q⟩:=q;exact⟨n9,H1,back I1,q⟩
section
variable {X:Cx}
inductive Zod(K:W.Frag)(xs:List V)(H:Hp)(Q:VK):Prop
 |mk(x n t b:_)(h1:xs=[x,.ty n])(h2:(Md K H x t∨∃a ys,x=.ref a∧t=.type "tuple"∧SqT K H a ys))(h3:W.kitOne K t (.type n)=some b)(h4:Q (.bl b) H):Zod K xs H Q
def rIsQ(K:W.Frag):List V→Hp→VK→Prop:=λxs H Q=>Zod K xs H Q
theorem Zau(hK:X.K=K:=by rfl):Yx X (.builtin "isinstance") (rIsQ K):=by
 subst hK;intro pins s σ H xs us Q I r h;obtain⟨x,n,t,b,rfl,ty,e,q⟩:=h;obtain⟨u,w',rfl,rx,rc⟩:=vals2 r;cases (show w'=Value.type n from rc)
 rcases ty with ty|⟨a,ys,rfl,rfl,sq⟩
 ·exact Ez I rx ty e λtk=>⟨.bl b,H,I.tok _,rfl,q⟩
 ·cases (show u=Value.ref a from rx);obtain⟨its,r1,⟨o1,g1,c1,n1,d1⟩,_⟩:=I.tuple sq;exact cS W.kitx_tuple I.kIn ⟨o1,g1,c1⟩ e (λz=>nomatch z) λtk=>⟨.bl b,H,I.tok _,rfl,q⟩
end
inductive AllP:List Expr→List UP→Prop where
 |nil:AllP [] []
 |cons {a b:Int} {j1 j2 k}{p1 p2 pos:Pos}{es:VH}{zs:List UP} (h:AllP es zs):AllP (.Tuple [.Constant (.int a) j1 p1,.Constant (.int b) j2 p2] k pos :: es) ((a,b) :: zs)
def Zpb:List UP→TA
 |[]=>Je
 | (a,b) :: zs=>Sd (Zsj (Sd (tC (.int a)) (Sd (tC (.int b)) Je))) (Zpb zs)
theorem Zjh{zs:List UP}(h:AllP es zs):PA X es (Zpb zs):=by
 induction h with
 |nil=>exact Zb
 |cons _ ih=>exact Za (Z2 (Za Zf (Za Zf Zb))) ih rfl
end L2
namespace My
open PySem PySem.Spec PyProof.Rows L2
abbrev TB:=List (List Key×V)
theorem nS7{H H1:Hp}{a:Addr}{o:HO}(e:upd H a o=H1)(h:H a=none):Zt H H1:=e▸Zd h o
theorem nU7{H H1:Hp}{a:Addr}{o:HO}(e:upd H a o=H1):H1 a=some o:=e▸Zc
variable {B:Prop}{H H' H2:Hp}{K:W.Frag}{L:VP}{Pt Px Py a aA aN Yj Y1 f m p q sc:Addr}{Q:VK}{T es es1 es2 fr u y:List Nat}{b1 b2 c i j n r s:Nat}{fd:FuncData}{kvs:TB}{l z:Str}{o:HO}{rs:WT}{st st1 st2 us ws:WA}{te:TE}{v:V}{vs xs:List V}{x:Wi}{ys zs:List Str}{σ:L2.St}
def top(i:Nat):Stmt:=PySem.Challenge.pw_spreadwords_k52_machines_told_apart.main.body.getD i (.Pass ⟨0,0,0,0⟩)
abbrev Tg:Stmt:=top 4
abbrev Tf:Stmt:=top 6
abbrev Oj:Stmt:=top 7
abbrev Jx:Stmt:=top 9
abbrev Va:Stmt:=top 11
abbrev Y2:Stmt:=top 12
abbrev Ti:Stmt:=top 13
abbrev Uj:Stmt:=top 15
abbrev Vc:Stmt:=top 16
abbrev Nk:Stmt:=top 20
abbrev Pd:Stmt:=top 21
abbrev S0:Stmt:=top 22
abbrev Y3:Stmt:=top 23
abbrev Cf:Stmt:=top 24
abbrev Vb:Stmt:=top 25
abbrev Ui:Stmt:=top 26
abbrev Sz:Stmt:=top 28
abbrev Oo:Stmt:=top 30
abbrev Om:Stmt:=top 31
abbrev Vr:Stmt:=top 32
abbrev Qb:Stmt:=top 33
abbrev Wu:Stmt:=top 34
abbrev Wn:Stmt:=top 35
abbrev Xf:Stmt:=top 36
abbrev Wc:Stmt:=top 37
abbrev Ol:Stmt:=top 38
abbrev Qa:Stmt:=top 39
abbrev Yl:Stmt:=top 40
abbrev Vd:Stmt:=top 41
abbrev Ys:Stmt:=top 42
abbrev Vp:Stmt:=top 43
abbrev Wt:Stmt:=top 44
abbrev X6:Stmt:=top 45
abbrev Xa:Stmt:=top 46
abbrev V5:Stmt:=top 47
abbrev Wm:Stmt:=top 48
abbrev Vq:Stmt:=top 49
abbrev Wh:Stmt:=top 50
abbrev Uk:Stmt:=top 51
abbrev Xz:Stmt:=top 52
abbrev Th:Stmt:=top 53
abbrev Nj:Stmt:=top 54
theorem Ju:Zv UJ UJ (Zh Tg):=⟨rfl,rfl,rfl,by decide +kernel,rfl,by decide +kernel,by decide +kernel⟩
theorem Xo:Zv ["machine","room","text","letters","steps","behind","letter"] ["machine","room","text"] (Zh Tf):=⟨rfl,rfl,rfl,by decide +kernel,rfl,by decide +kernel,by decide +kernel⟩
theorem B4:Zv US US (Zh Oj):=⟨rfl,rfl,rfl,by decide +kernel,rfl,by decide +kernel,by decide +kernel⟩
theorem Wy:Zv ["letters","begin","step","texts","level","longer","place","letter","ahead"] UZ (Zh Jx):=⟨rfl,rfl,rfl,by decide +kernel,rfl,by decide +kernel,by decide +kernel⟩
theorem Rb:Zv UQ ["words","letter","k"] (Zh Va):=⟨rfl,rfl,rfl,by decide +kernel,rfl,by decide +kernel,by decide +kernel⟩
theorem Wa:Zv ["machine","k","step","texts","told","place"] ["machine","k"] (Zh Y2):=⟨rfl,rfl,rfl,by decide +kernel,rfl,by decide +kernel,by decide +kernel⟩
theorem R9:Zv ["here","there","words"] ["here","there"] (Zh Ti):=⟨rfl,rfl,rfl,by decide +kernel,rfl,by decide +kernel,by decide +kernel⟩
theorem Xd:Zv ["text","letters","level","told","word","start","letter","behind"] UY (Zh Uj):=⟨rfl,rfl,rfl,by decide +kernel,rfl,by decide +kernel,by decide +kernel⟩
theorem Xc:Zv VY ["text","k"] (Zh Vc):=⟨rfl,rfl,rfl,by decide +kernel,rfl,by decide +kernel,by decide +kernel⟩
theorem Zfn:Zv WZ WZ (Zh Nk):=⟨rfl,rfl,rfl,by decide +kernel,rfl,by decide +kernel,by decide +kernel⟩
theorem Zbr:Zv WZ WZ (Zh Pd):=⟨rfl,rfl,rfl,by decide +kernel,rfl,by decide +kernel,by decide +kernel⟩
theorem G3:Zv ["held","others"] ["held","others"] (Zh S0):=⟨rfl,rfl,rfl,by decide +kernel,rfl,by decide +kernel,by decide +kernel⟩
theorem R8:Zv ["words","held","others","most_left"] WQ (Zh Y3):=⟨rfl,rfl,rfl,by decide +kernel,rfl,by decide +kernel,by decide +kernel⟩
theorem Jw:Zv ["word","there","elsewhere","has","lacks"] UE (Zh Cf):=⟨rfl,rfl,rfl,by decide +kernel,rfl,by decide +kernel,by decide +kernel⟩
theorem V3:Zv ["words","held","others","word","there"] WQ (Zh Vb):=⟨rfl,rfl,rfl,by decide +kernel,rfl,by decide +kernel,by decide +kernel⟩
theorem Kb:Zv UB UB (Zh Ui):=⟨rfl,rfl,rfl,by decide +kernel,rfl,by decide +kernel,by decide +kernel⟩
theorem Vo:Zv ["one","other","k","here","there","texts"] UK (Zh Sz):=⟨rfl,rfl,rfl,by decide +kernel,rfl,by decide +kernel,by decide +kernel⟩
theorem B5:Zv VQ VQ (Zh Oo):=⟨rfl,rfl,rfl,by decide +kernel,rfl,by decide +kernel,by decide +kernel⟩
theorem R0:Zv ["_law_flow_here","_law_many","_law_cell","_law_digit"] WI (Zh Om):=⟨rfl,rfl,rfl,by decide +kernel,rfl,by decide +kernel,by decide +kernel⟩
theorem R6:Zv UC WI (Zh Vr):=⟨rfl,rfl,rfl,by decide +kernel,rfl,by decide +kernel,by decide +kernel⟩
theorem Ce:Zv VC VC (Zh Qb):=⟨rfl,rfl,rfl,by decide +kernel,rfl,by decide +kernel,by decide +kernel⟩
theorem Xm:Zv ["_law_text","_law_k","_law_found","_law_letter","_law_word"] ["_law_text","_law_k"] (Zh Wu):=⟨rfl,rfl,rfl,by decide +kernel,rfl,by decide +kernel,by decide +kernel⟩
theorem Wb:Zv WH WB (Zh Wn):=⟨rfl,rfl,rfl,by decide +kernel,rfl,by decide +kernel,by decide +kernel⟩
theorem Z6:Zv WO WB (Zh Xf):=⟨rfl,rfl,rfl,by decide +kernel,rfl,by decide +kernel,by decide +kernel⟩
theorem V4:Zv UG WY (Zh Wc):=⟨rfl,rfl,rfl,by decide +kernel,rfl,by decide +kernel,by decide +kernel⟩
theorem Ry:Zv ["_law_machine_here","_law_room_here","_law_text","_law_letter"] VL (Zh Ol):=⟨rfl,rfl,rfl,by decide +kernel,rfl,by decide +kernel,by decide +kernel⟩
theorem Cd:Zv VU VU (Zh Qa):=⟨rfl,rfl,rfl,by decide +kernel,rfl,by decide +kernel,by decide +kernel⟩
theorem Zx:Zv XY UA (Zh Yl):=⟨rfl,rfl,rfl,by decide +kernel,rfl,by decide +kernel,by decide +kernel⟩
theorem Rc:Zv ["_law_wish","_law_words","_law_one"] VA (Zh Vd):=⟨rfl,rfl,rfl,by decide +kernel,rfl,by decide +kernel,by decide +kernel⟩
theorem Wg:Zv WG UH (Zh Ys):=⟨rfl,rfl,rfl,by decide +kernel,rfl,by decide +kernel,by decide +kernel⟩
theorem Rx:Zv ["_law_flow_here","_law_words","_law_deep_here","_law_way"] WL (Zh Vp):=⟨rfl,rfl,rfl,by decide +kernel,rfl,by decide +kernel,by decide +kernel⟩
theorem Yq:Zv ["_law_flow_here","_law_letters_here","_law_most","_law_way","_law_one","_law_words","_law_wish"] WB (Zh Wt):=⟨rfl,rfl,rfl,by decide +kernel,rfl,by decide +kernel,by decide +kernel⟩
theorem Ug:Zv UN ["_law_machine_here"] (Zh X6):=⟨rfl,rfl,rfl,by decide +kernel,rfl,by decide +kernel,by decide +kernel⟩
theorem Z8:Zv XU VZ (Zh Xa):=⟨rfl,rfl,rfl,by decide +kernel,rfl,by decide +kernel,by decide +kernel⟩
theorem Mq:Zv VF VF (Zh V5):=⟨rfl,rfl,rfl,by decide +kernel,rfl,by decide +kernel,by decide +kernel⟩
theorem R7:Zv WB WB (Zh Wm):=⟨rfl,rfl,rfl,by decide +kernel,rfl,by decide +kernel,by decide +kernel⟩
theorem W9:Zv VW ["_law_letters_here"] (Zh Vq):=⟨rfl,rfl,rfl,by decide +kernel,rfl,by decide +kernel,by decide +kernel⟩
theorem Ni:Zv WV WV (Zh Wh):=⟨rfl,rfl,rfl,by decide +kernel,rfl,by decide +kernel,by decide +kernel⟩
theorem B6:Zv WY WY (Zh Uk):=⟨rfl,rfl,rfl,by decide +kernel,rfl,by decide +kernel,by decide +kernel⟩
theorem Jv:Zv WJ WJ (Zh Xz):=⟨rfl,rfl,rfl,by decide +kernel,rfl,by decide +kernel,by decide +kernel⟩
theorem Rz:Zv ["_law_one","_law_other","_law_k","e"] UM (Zh Th):=⟨rfl,rfl,rfl,by decide +kernel,rfl,by decide +kernel,by decide +kernel⟩
theorem Uh:Zv ["_law_script","_law_flow_here","_law_every","_law_at","_law_letters_here","_law_strange","_law_many","_law_k","_law_one","_law_other","_law_first","_law_second"] VQ (Zh Nj):=⟨rfl,rfl,rfl,by decide +kernel,rfl,by decide +kernel,by decide +kernel⟩
theorem M6:(Yy ["_law_k"] UC [0,2]).Nodup:=by decide +kernel
theorem Nw:(Yy ["word"] UQ [1,2]).Nodup:=by decide +kernel
theorem A2:(Yy ["row"] WZ [1]).Nodup:=by decide +kernel
theorem C1:(Yy ["row"] WZ [1]).Nodup:=by decide +kernel
theorem U6:(Yy ["word","start"] VY []).Nodup:=by decide +kernel
theorem M5:(Yy UD WH [0]).Nodup:=by decide +kernel
theorem M0:(Yy UL WH [0,3]).Nodup:=by decide +kernel
theorem Sk:(Yy UD WO [0]).Nodup:=by decide +kernel
theorem Qm:(Yy UD UN [0]).Nodup:=by decide +kernel
theorem G6:(Yy ["_law_part"] WY []).Nodup:=by decide +kernel
theorem M9:(Yy UL WJ [1]).Nodup:=by decide +kernel
theorem M7:(Yy ["_law_part"] WJ [1]).Nodup:=by decide +kernel
theorem Ny:(Yy VC UG []).Nodup:=by decide +kernel
theorem Mz:(Yy ["_law_some"] VW [2]).Nodup:=by decide +kernel
theorem P6:(Yy UL WV [0]).Nodup:=by decide +kernel
theorem Ow:(Yy ["_law_size"] WG [0,1]).Nodup:=by decide +kernel
theorem Ov:(Yy ["_law_k"] UX [1,2]).Nodup:=by decide +kernel
theorem Ou:(Yy VC WG []).Nodup:=by decide +kernel
theorem Sl:(Yy VC XY []).Nodup:=by decide +kernel
theorem W4:(Yy VJ XY [7]).Nodup:=by decide +kernel
theorem W3:(Yy VJ XY []).Nodup:=by decide +kernel
theorem N0:(Yy VC XU [3]).Nodup:=by decide +kernel
theorem Nz:(Yy VC XU []).Nodup:=by decide +kernel
theorem U9:(Yy VJ XU []).Nodup:=by decide +kernel
theorem U8:(Yy VJ XU [12]).Nodup:=by decide +kernel
structure Blt(mg:WD):Prop where
 ValueError:mg "ValueError"=none
 all:mg "all"=none
 any:mg "any"=none
 dict:mg "dict"=none
 enumerate:mg "enumerate"=none
 int:mg "int"=none
 isinstance:mg "isinstance"=none
 len:mg "len"=none
 list:mg "list"=none
 max:mg "max"=none
 min:mg "min"=none
 range:mg "range"=none
 set:mg "set"=none
 sorted:mg "sorted"=none
 str:mg "str"=none
 tuple:mg "tuple"=none
 zip:mg "zip"=none
section
variable {P:Program}{w:World}{K:W.Frag}{mg:WD}{base:Heap}
theorem Ul{i:Int}(h0:σ[j]?=some (some (.ref p)))(hp:H p=some (.lst xs))(hv:atI xs i=some v)(q:Q v H):tOp (Zp2 K) (Zff j) (tC (.int i)) σ H Q:=
 ⟨_,h0,p,xs,i,v,rfl,rfl,SqL.of hp,hv,q⟩
theorem Av(F:Fun K "_law_flow" "_law_flow" Oo f fd)(Z:Blt mg):Ya P w K mg base CX0 1 f fd VQ (Zh5 K):=by
 refine F.ok B5 (λvs H Q E h=>?_) (λcdv A outer s H vs Q E hr h=>?_)
 ·obtain⟨a,ns,rfl,_⟩:=h;rfl
 obtain⟨a,ns,rfl,hS,k⟩:=h;refine⟨_,(Zg (Zl (Yk (Za (Zy (Gh (K:=K)) (by rfl) Z.list Pq (Za (pv 0) Zb)) (Za Zf (Za Zf (Za Zf (Za Zf Zb)))))))),?_⟩;refine⟨_,rfl,a,_,rfl,.inl hS,λl hl=>?_⟩;refine⟨(by show 5≤sizeLine;decide),λp hp=>?_⟩;have e1:Zt H (upd H l (.lst (ns.map V.int))):=Zd hl _;refine k p l _ (e1.free hp) (e1.trans (Zd hp _)) ⟨⟨_,Zc,0,0,1,0,rfl,by decide,by decide,by decide,by decide,by decide⟩,ns,?_⟩;rw[Zk (Zi Zc hp)];exact Zc
theorem Sj(c:Int)(m:Int)(hm:0<m):0≤c%m∧c%m<m:=⟨Int.emod_nonneg _ (by lia),Int.emod_lt_of_pos _ hm⟩
theorem Zlb{ns:List Int}{a:Int}(h0:0≤a)(h1:a<((ns.map V.int).length:Int)):∃z,atI (ns.map V.int) a=some (.int z):=by
 have hk:a.toNat<ns.length:=by
  rw[rW]at h1;lia
 have q:atI (ns.map V.int) ((a.toNat:Nat):Int)=some (.int ns[a.toNat]):=Zj (by rw[oP,rZ hk];rfl);rw[show ((a.toNat:Nat):Int)=a by lia]at q;exact⟨_,q⟩
theorem Au(F:Fun K "_law_pick" "_law_pick" Om f fd)(Z:Blt mg):Ya P w K mg base CX0 1 f fd WI V2:=by
 refine F.ok R0 (λvs H Q E h=>?_) (λcdv A outer s H vs Q E hr h=>?_)
 ·obtain⟨p,sc,m,rfl,_⟩:=h;rfl
 obtain⟨p,sc,m,rfl,j7,xK,FA,k⟩:=h;obtain⟨xs,hp,a,b,c,d,rfl,ha,hb,hc0,hc1,hd⟩:=FA.here;obtain⟨ns,hs⟩:=FA.cells
 refine⟨_,(Cm (Yd (PW.pt (Zbv (Zp Xw (Zs (Z3 (K:=K)) (pv 0) Zf (λ_ _=>rfl)) Zf (Zw _)) (Ck (Zp An (Zs (Z3 (K:=K)) (pv 0) Zf (λ_ _=>rfl)) (Zq (Yh (K:=K)) (by rfl) Z.len Yw (Za (Zs (Z3 (K:=K)) (pv 0) Zf (λ_ _=>rfl)) Zb)) (Zw _))))) 
    (Ze (Zr (i:=2) R0.nd (by rfl) (Or.inl (by rfl)) (Zs (Z3 (K:=K)) (Zs (Z3 (K:=K)) (pv 0) Zf (λ_ _=>rfl)) (Zs (Z3 (K:=K)) (pv 0) Zf (λ_ _=>rfl)) (λ_ _=>rfl))) 
    (Ze (S2 (Z7 Xl (Zs (Z3 (K:=K)) (pv 0) Zf (λ_ _=>rfl)) Zf) (Mu (pv 0) Zf set_list)) 
    (Zg (Yd (Zp Ztv (pv 2) (Z7 Zqc Zf Zf) (Zw _)) 
     (Zg (S2 (pv 2) (Mu (pv 0) Zf set_list))) 
     (Zg (S2 (Z7 Qh (Z7 Xl (Z7 Xl (Z7 Zb2 (Zs (Z3 (K:=K)) (pv 0) Zf (λ_ _=>rfl)) Zf) (Z7 Qh (pv 2) Zf)) Zf) Zf) (Mu (pv 0) Zf set_list))))))) Zu) 
   (Ze (Yd (Zp Ao (Zs (Z3 (K:=K)) (pv 0) Zf (λ_ _=>rfl)) Zf (Zw _)) 
    (Ze (Zr (i:=3) R0.nd (by rfl) (Or.inl (by rfl)) (Z7 Qh (Zs (Z3 (K:=K)) (pv 0) Zf (λ_ _=>rfl)) (pv 1))) 
    (Ze (S2 (Z7 Ct (Zs (Z3 (K:=K)) (pv 0) Zf (λ_ _=>rfl)) (pv 1)) (Mu (pv 0) Zf set_list)) 
    (Zg (Zl (pv 3))))) Zu) 
   (Ze (S2 (Z7 Xl (Zs (Z3 (K:=K)) (pv 0) Zf (λ_ _=>rfl)) Zf) (Mu (pv 0) Zf set_list)) 
   (Ze (S2 (Z7 Qh (Z7 Xl (Z7 Xl (Z7 Zb2 (Zs (Z3 (K:=K)) (pv 0) Zf (λ_ _=>rfl)) Zf) Zf) (Zs (Z3 (K:=K)) (pv 0) Zf (λ_ _=>rfl))) Zf) (Mu (pv 0) Zf set_list)) 
   (Zg (Zl (Z7 Qh (Z7 Ct (Z7 Qh (Z7 Zb2 (Z7 Xl (Z7 Qh (Zs (Z3 (K:=K)) (pv 0) Zf (λ_ _=>rfl)) Zf) Zf) (Z7 Xl (Z7 Ct (Zs (Z3 (K:=K)) (pv 0) Zf (λ_ _=>rfl)) Zf) Zf)) Zf) Zf) (pv 1)))))))),?_⟩
 refine(let n8:TS:=_;let eN:TS:=X8 _ n8;let eO:TS:=X8 _ eN;let eP:TS:=_;let mI:TS:=X8 _ eP;let tV:TS:=X8 _ mI;let rP:TS:=X8 (Zlq _ tV _) eO;let rQ:TS:=_;let rR:TS:=X8 _ rQ;let zz9:TS:=X8 _ rR;(?_:Zsv (Zlq _ zz9 _) rP _ _ _));refine⟨λx4 H'=>∃cv z5,x4=[some (V.ref p),some (V.int m),cv,none]∧H' p=some (.lst z5)∧(∀o,upd H' p o=upd H p o)∧Gx sc z5,?_,?_⟩
 ·have Oi:∃cv z5,[some (V.ref p),some (V.int m),none,none]=[some (V.ref p),some (V.int m),cv,none]∧H p=some (.lst z5)∧(∀o,upd H p o=upd H p o)∧Gx sc z5:=⟨_,_,rfl,hp,λ_=>rfl,a,b,c,d,rfl,ha,hb,hc0,hc1,hd⟩;refine Ul rfl hp (Zj (j:=2) rfl) ?_;refine⟨rfl,_,rfl,?_⟩;refine Xx (λ_=>?_) (λ_=>Oi);refine Ul rfl hp (Zj (j:=1) rfl) ?_;refine Ul rfl hp (Zj (j:=0) rfl) ?_;refine⟨sc,_,rfl,.inl (SqL.of hs),_,_,rfl,rfl,_,rfl,?_⟩;refine Xx (λlt=>?_) (λ_=>Oi);obtain⟨z,hz⟩:=Zlb (ns:=ns) ha (of_decide_eq_true lt);refine Ul rfl hp (Zj (j:=0) rfl) ?_;refine Ul rfl hp (Zj (j:=1) rfl) ?_;refine⟨sc,_,_,_,rfl,rfl,SqL.of hs,hz,?_⟩;refine Ul rfl hp (Zj (j:=1) rfl) ?_;refine⟨_,_,rfl,rfl,_,rfl,p,_,_,1,rfl,rfl,hp,rfl,?_⟩;have nN:upd H p (.lst [.ref sc,.int (a+1),.int b,.int c,.int d]) p=_:=Zc;refine⟨_,rfl,_,_,rfl,rfl,⟨by decide,by decide,by decide⟩,_,_,rfl,rfl,_,rfl,?_⟩;refine Xx (λbig=>?_) (λ_=>?_)
  ·have big':(10:Int) ^ 18≤z:=of_decide_eq_true big;refine⟨_,rfl,_,rfl,p,_,_,2,rfl,rfl,nN,rfl,?_⟩;exact⟨_,_,rfl,Zc,λo=>by rw[U3,U3],a+1,z,c,d,rfl,by lia,by lia,hc0,hc1,hd⟩
  ·refine Ul rfl nN (Zj (j:=3) rfl) ?_;refine⟨_,_,rfl,rfl,.inl ⟨by lia,by lia⟩,?_⟩;refine⟨_,rfl,_,_,rfl,rfl,(by show (0:Int)<1000003;decide),_,_,rfl,rfl,_,_,rfl,rfl,_,_,rfl,rfl,(by show (0:Int)<2147483647;decide),?_⟩;refine⟨_,rfl,p,_,_,3,rfl,rfl,nN,rfl,?_⟩;have q:=Sj (c*40013+z%1000003+1) 2147483647 (by decide);exact⟨_,_,rfl,Zc,λo=>by rw[U3,U3],a+1,b,_,d,rfl,by lia,hb,q.1,q.2,hd⟩
 ·rintro x4 H' ⟨cv,z5,rfl,n6,hu,a',b',c',d',rfl,gK,z8,qF,qG,hZ⟩;refine Ul rfl n6 (Zj (j:=2) rfl) ?_;refine⟨_,_,rfl,rfl,_,rfl,?_⟩;refine Xx (λpos=>?_) (λ_=>?_)
  ·have pos':0<b':=of_decide_eq_true pos;refine Ul rfl n6 (Zj (j:=2) rfl) ?_;refine⟨_,rfl,_,_,rfl,rfl,j7,?_⟩;refine Ul rfl n6 (Zj (j:=2) rfl) ?_;refine⟨_,rfl,_,_,rfl,rfl,⟨j7,xK⟩,_,rfl,p,_,_,2,rfl,rfl,n6,rfl,?_⟩;refine⟨_,rfl,?_⟩;have q:=Sj b' m j7;have e:=k (b'%m) [.ref sc,.int a',.int (b'/m),.int c',.int d'] q.1 q.2 ⟨a',b'/m,c',d',rfl,gK,Int.ediv_nonneg z8 (by lia),qF,qG,hZ⟩;rw[←hu]at e;exact e
  ·refine Ul rfl n6 (Zj (j:=4) rfl) ?_;refine⟨_,_,rfl,rfl,_,rfl,p,_,_,4,rfl,rfl,n6,rfl,?_⟩;have o5:upd H' p (.lst [.ref sc,.int a',.int b',.int c',.int (d'+1)]) p=_:=Zc;refine Ul rfl o5 (Zj (j:=3) rfl) ?_;refine⟨_,_,rfl,rfl,.inl ⟨by lia,by lia⟩,_,_,rfl,rfl,?_⟩;refine Ul rfl o5 (Zj (j:=4) rfl) ?_;refine⟨_,_,rfl,rfl,_,_,rfl,rfl,(by show (0:Int)<2147483647;decide),?_⟩;refine⟨_,rfl,p,_,_,3,rfl,rfl,o5,rfl,?_⟩;have q:=Sj (c'*48271+12820163+(d'+1)) 2147483647 (by decide);have hp3:∀H3:Hp,upd H3 p (.lst [.ref sc,.int a',.int b',.int ((c'*48271+12820163+(d'+1))%2147483647),.int (d'+1)]) p=some (.lst [.ref sc,.int a',.int b',.int ((c'*48271+12820163+(d'+1))%2147483647),.int (d'+1)]):=λ_=>Zc;refine Ul rfl (hp3 _) (Zj (j:=3) rfl) ?_;refine⟨_,_,rfl,rfl,(by show (0:Int)<65521;decide),_,_,rfl,rfl,?_⟩;refine Ul rfl (hp3 _) (Zj (j:=3) rfl) ?_;have q2:=Sj ((c'*48271+12820163+(d'+1))%2147483647) 65521 (by decide);refine⟨_,_,rfl,rfl,⟨by decide,by decide⟩,_,_,rfl,rfl,_,_,rfl,rfl,.inl ⟨by lia,by lia⟩,_,_,rfl,rfl,(by show (0:Int)<1000003;decide),_,_,rfl,rfl,⟨by decide,by decide⟩,_,rfl,_,_,rfl,rfl,j7,?_⟩;have q3:=Sj (((c'*48271+12820163+(d'+1))%2147483647%65521+1)*((c'*48271+12820163+(d'+1))%2147483647/65521+7919)%1000003/7) m j7;have e:=k _ [.ref sc,.int a',.int b',.int ((c'*48271+12820163+(d'+1))%2147483647),.int (d'+1)] q3.1 q3.2 ⟨a',b',_,d'+1,rfl,gK,z8,q.1,q.2,by lia⟩;rw[←hu,←U3 (H:=H') (o:=.lst [.ref sc,.int a',.int b',.int c',.int (d'+1)])]at e;exact e
def one(c:Nat):Str:=⟨#[c]⟩
theorem Zfh{m6:List Str}{cs:List Nat}(h:m6.Perm (cs.map one)):∃cs':List Nat,cs'.Perm cs∧m6=cs'.map one:=by
 have e:∀y∈m6,y=one (y.cps.toList.headD 0):=λy hy=>by
  obtain⟨c,_,rfl⟩:=oU.mp (h.mem_iff.mp hy);rfl
 have e2:m6=(m6.map λy=>y.cps.toList.headD 0).map one:=by
  rw[lW]
  have:∀(l:List Str),(∀y∈l,y=one (y.cps.toList.headD 0))→l=l.map (one ∘ λy=>y.cps.toList.headD 0):=by
   intro l
   induction l with
   |nil=>intro _;rfl
   |cons y r ih=>
    intro hl;rw[lG,←ih λz hz=>hl z (oO _ hz)];exact congrArg (· :: r) (hl y oE)
  exact this m6 e
 refine⟨_,?_,e2⟩;have p:=h.map λy:Str=>y.cps.toList.headD 0;rw[lW]at p;have:(λy:Str=>y.cps.toList.headD 0) ∘ one=id:=rfl;rw[this,List.map_id]at p;exact p
theorem Zcf(a b:Nat):ltCps (one a).cps.toList (one b).cps.toList=decide (a<b):=by
 rw[ltCps_eq];exact Zqn a b
theorem Lq:∀(p:Nat) (cs:List Nat),risingS (one p) (cs.map one)=true→∀c∈cs,p≤c
 |_,[],_,c,hc=>by cases hc
 |p,x :: r,h,c,hc=>by
  have h':(!ltCps (one x).cps.toList (one p).cps.toList&&risingS (one x) (r.map one))=true:=h;rw[lJ,Zcf]at h'
  have h1:p≤x:=by
   have:=h'.1;simp at this;exact this
  rcases oH.mp hc with e|e
  ·subst e;exact h1
  ·exact lC h1 (Lq x r h'.2 c e)
theorem Rv:∀(cs:List Nat),sortedS (cs.map one)=true→cs.Pairwise (·≤·)
 |[],_=>.nil
 |p :: r,h=>by
  have h':risingS (one p) (r.map one)=true:=h;refine List.Pairwise.cons (Lq p r h') (Rv r ?_)
  cases r with
  |nil=>rfl
  |cons x r=>
   have h2:(!ltCps (one x).cps.toList (one p).cps.toList&&risingS (one x) (r.map one))=true:=h';rw[lJ]at h2;exact h2.2
theorem Up:∀{cs:List Nat},cs.Pairwise (·≤·)→cs.Nodup→cs.Pairwise (·<·)
 |[],_,_=>.nil
 |p :: r,h,n=>by
  cases h with
  |cons h1 h2=>
   rw[iR]at n;refine List.Pairwise.cons (λc hc=>?_) (Up h2 n.2);have:=h1 c hc;have:p≠c:=λe=>n.1 (e▸hc);lia
theorem Hs{α:Type}:∀{l:List α}{n:Nat}{v:α},l[n]?=some v→(v :: l.eraseIdx n).Perm l
 |[],n,v,h=>by simp at h
 |x :: r,0,v,h=>by
  have e:x=v:=by simpa using h
  subst e;exact bP _
 |x :: r,n+1,v,h=>by
  have ih:=Hs (l:=r) (n:=n) (v:=v) (by simpa using h);rw[bW];exact(List.Perm.swap x v _).trans (List.Perm.cons x ih)
theorem Dk{α β:Type}(f:α→β):∀(l:List α) (i:Nat),(l.map f).eraseIdx i=(l.eraseIdx i).map f
 |[],_=>rfl
 |_ :: _,0=>rfl
 |x :: r,i+1=>by
  rw[lG,bW,bW,lG,Dk f r i]
theorem Dj(cs:List Nat):((cs.map one).map λy=>y.cps.toList).flatten=cs:=by
 induction cs with
 |nil=>rfl
 |cons c r ih=>rw[lG,lG,aF,ih];rfl
theorem Bw(cs:List Nat):((cs.map one).map (·.length)).sum=cs.length:=by
 induction cs with
 |nil=>rfl
 |cons c r ih=>rw[lG,lG,List.sum_cons,ih,oR,Nat.add_comm];rfl
def abc:List Nat:=(List.range 26).map (· + 97)
theorem Zr4:(Str.ofString "abcdefghijklmnopqrstuvwxyz").cps.toList=abc:=by decide +kernel
theorem Zg1:abc.Nodup:=by decide +kernel
theorem Znc(h:c∈abc):97≤c∧c≤122:=by
 unfold abc at h;obtain⟨i,hi,rfl⟩:=oU.mp h;have:=lZ.mp hi;lia
theorem Aq(cs:List Nat):cs.map Oq=(cs.map one).map V.str:=by
 rw[lW];rfl
theorem Im(F:Fun K "_law_letters" "_law_letters" Vr f fd)(Z:Blt mg)(Zm:Cal P w K mg base "_law_pick" 1 WI V2):
  Ya P w K mg base CX0 2 f fd WI Ed:=by
 refine F.ok R6 (λvs H Q E h=>?_) (λcdv A outer s H vs Q E hr h=>?_)
 ·obtain⟨p,sc,m,rfl,_⟩:=h;rfl
 obtain⟨p,sc,m,rfl,j7,xK,FA,k⟩:=h
 refine⟨_,(Ze (Zr (i:=2) R6.nd (by rfl) (Or.inr (by rfl)) (Zy (Gg (by rfl)) (by rfl) Z.list Pq (Za Z4 Zb))) 
   (Zg (Zl (X5 (K:=K) cZ PySem.F.slot_str_join PySem.F.type_str_join (A3 (K:=K)) Z4 (Za (Zq (Zcv (K:=K)) (by rfl) Z.sorted Pp (Za (Yo (sc:=Zh Vr) (Nm:=UC) (own:=["_law_k"]) (fr:=[0,2]) ⟨rfl,by decide +kernel,by decide +kernel,by decide +kernel,by decide +kernel⟩ (by rfl) (Ym (by decide)) (Wz (by rfl) Z.range (Za (pv 1) Zb)) (λd=>(Zn (i:=0) M6 (by rfl) (Or.inl (by rfl)))) (λd=>Xt) (λd=>(X5 (K:=K) lL PySem.F.slot_list_pop PySem.F.type_list_pop Zjq (pv 2) (Za (Z5 Zm (hr.mono (by decide)) (Za (pv 1) (Za (Zq (Yh (K:=K)) (by rfl) Z.len Yw (Za (pv 2) Zb)) Zb))) Zb)))) Zb)) Zb))))),?_⟩
 refine(let n8:TS:=_;(?_:X8 _ n8 _ _ _));refine⟨_,rfl,(by decide +kernel),λl hl=>?_⟩;have e1:Zt H (upd H l (.lst ((Str.ofString "abcdefghijklmnopqrstuvwxyz").cps.toList.map Oq))):=Zd hl _
 have l7:p≠l:=by
  obtain⟨xs,hp,_⟩:=FA.here;exact Zi hp hl
 refine⟨rfl,_,rfl,_,rfl,by lia,by lia,?_⟩
 refine Ut (lo:=0) (k:=m.toNat) (λi acc H2=>∃ys rem:List Nat,acc=ys.map Oq∧ys.length=i∧H2 l=some (.lst (rem.map Oq))∧(ys++rem).Perm abc∧Yb H2 p sc∧Zz H H2 p) (lY (show m.toNat≤26 by lia) (by decide))
  ⟨[],abc,rfl,rfl,by rw[Zc,Zr4],bP _,FA.same e1,Zz.same e1⟩ (λi acc H2 ⟨ys,rem,e,c7,_⟩=>by rw[e,rW,c7];exact rX _) (λi acc H2 hi hp=>?_) (λacc H2 hp q hq=>?_)
 ·obtain⟨ys,rem,rfl,m5,Zmq,Qu,y9,dr⟩:=hp
  have hlen:ys.length+rem.length=26:=by
   have:=Qu.length_eq;rw[oB]at this;exact this
  refine Kj ?_;refine⟨_,rfl,.inl ⟨rfl,_,SqL.of Zmq⟩,_,rfl,_,rfl,l,_,rfl,.inl (SqL.of Zmq),p,sc,_,rfl,?_,?_,y9,λr xs c9 sN hxs=>?_⟩
  ·rw[rW];lia
  ·rw[rW];lia
  ·have nV:r<(rem.length:Int):=by
    rw[rW]at sN;exact sN
   have hrn:r.toNat<rem.length:=by lia
   have hv:rem[r.toNat]?=some rem[r.toNat]:=rZ hrn;have kB:upd H2 p (.lst xs) l=some (.lst (rem.map Oq)):=by rw[Zk (dA l7)];exact Zmq
   refine⟨l,_,r,r.toNat,Oq rem[r.toNat],rfl,rfl,kB,by lia,by lia,?_,?_,?_⟩
   ·rw[rW];exact seqIndex_of c9 nV
   ·rw[oP,hv];rfl
   ·refine⟨ys++[rem[r.toNat]],rem.eraseIdx r.toNat,by rw[oK];rfl,by rw[oB,m5];rfl,?_,?_,?_,?_⟩
    ·rw[Zc,Dk]
    ·rw[iK];exact(List.Perm.append_left ys (Hs hv)).trans Qu
    ·have m7:=y9.go hxs;obtain⟨z5,h1,h2⟩:=m7.here;obtain⟨ns,h3⟩:=m7.cells;refine⟨⟨z5,by rw[Zk l7];exact h1,h2⟩,ns,?_⟩;rw[Zk ?_]
     ·exact h3
     ·obtain⟨ns0,h0⟩:=FA.cells;exact Zi h0 hl
    ·intro b o hb x6;rw[Zk (Zi hb hl),Zk x6];exact dr b o hb x6
 ·obtain⟨ys,rem,rfl,m5,Zmq,Qu,y9,dr⟩:=hp;have hn:ys.Nodup:=(cC.mp (Qu.nodup_iff.mpr Zg1)).1;refine⟨q,ys.map one,rfl,SqL.of (by rw[Zc,Aq]),by rw[rW];lia,λm6 l2 o5 yS kB=>?_⟩;obtain⟨cs,hc,rfl⟩:=Zfh o5;have hclen:=hc.length_eq;refine⟨_,l2,cs.map one,rfl,rfl,SqL.of Zc,?_,?_⟩
  ·rw[Bw,rW];have:(Str.ofString "").length=0:=by decide +kernel
   rw[this];lia
  ·have e3:=Og (cs.map one);rw[Dj]at e3;refine k _ _ ⟨?_,?_,λc sI=>?_⟩ ?_ ?_
   ·rw[e3];lia
   ·rw[e3];exact Up (Rv cs yS) (hc.nodup_iff.mpr hn)
   ·rw[e3]at sI;exact Znc (Qu.mem_iff.mp (lF _ (hc.mem_iff.mp sI)))
   ·exact dr.trans (Zz.trans (Zz.same (Zd hq _)) (Zz.same (Zd kB _)))
   ·exact(y9.same (Zd hq _)).same (Zd kB _)
theorem Vv{H0:Hp}(d:Zz H0 H p)(o:HO):Zz H0 (upd H p o) p:=d.trans (Zz.upd o)
theorem Zla{l:Str}{r:Int}(h0:0≤r)(h1:r<(l.length:Int)):∃c,c∈l.cps.toList∧atI l.cps.toList r=some c:=by
 have hk:r.toNat<l.cps.toList.length:=by
  have:l.cps.toList.length=l.length:=by simp[Str.length]
  lia
 refine⟨l.cps.toList[r.toNat],cU hk,?_⟩;have q:atI l.cps.toList ((r.toNat:Nat):Int)=some l.cps.toList[r.toNat]:=Zj (rZ hk);rw[show ((r.toNat:Nat):Int)=r by lia]at q;exact q
def Drawn(H:Hp)(p sc:Addr)(l:Str)(i:Nat)(acc:List V)(H2:Hp):Prop:=∃ys:List Nat,acc=ys.map Oq∧ys.length=i∧(∀c∈ys,c∈l.cps.toList)∧Yb H2 p sc∧Zz H H2 p
theorem Zct{acc:List V}{jl jf:Nat}(u8:0<l.length)(j0:l.length≤1000)(vY:σ[jl]?=some (some (.str l)))(tD:σ[jf]?=some (some (.ref p)))(h:Drawn H p sc l i acc H2):
  tOp Ztj (Zff jl) (Zhr V2 [] E0 (Sd (Zff jf) (Sd (tCB (λxs H Q=>∃z,xs=[V.str z]∧z.length≤sizeLine∧Q (.int z.length) H) (Sd (Zff jl) Je)) Je))) σ H2 λv H6=>Drawn H p sc l (i+1) (acc++[v]) H6:=by
 obtain⟨ys,rfl,m5,tG,y9,dr⟩:=h;refine⟨_,vY,_,tD,_,vY,l,rfl,Xn j0,p,sc,_,rfl,by lia,by lia,y9,λr xs h0 h1 hx=>?_⟩;obtain⟨c,hc,ha⟩:=Zla h0 h1;exact⟨l,r,c,rfl,rfl,Xn j0,ha,ys++[c],by rw[oK];rfl,by rw[oB,m5];rfl,λc' h'=>(oJ.mp h').elim (tG c') λz=>by rw[rY.mp z];exact hc,y9.go hx,Vv dr _⟩
theorem Zgn:∀i acc H2,Drawn H p sc l i acc H2→acc.length≤i:=λi acc H2 ⟨ys,e,c7,_⟩=>by rw[e,rW,c7];exact rX _
theorem Fc(ys:List Nat)(h:ys.length≤1000):((ys.map one).map (·.length)).sum+(ys.map one).length*(Str.ofString "").length≤16777216:=by
 have:(Str.ofString "").length=0:=by decide +kernel
 rw[Bw,this];lia
theorem join_ones(ys:List Nat):(Txt.join (Str.ofString "") (ys.map one)).cps.toList=ys:=by
 rw[Og,Dj]
theorem len_list(z:Str):z.cps.toList.length=z.length:=by simp[Str.length]
theorem N4(es:List Nat):(es.map λn:Nat=>V.int (n:Int)).all Us=true:=by
 induction es with
 |nil=>rfl
 |cons e r ih=>rw[lG,XJ,ih];rfl
def nI(n:Nat):V:=.int (n:Int)
structure Yc(H:Hp)(m:Addr)(l:Str)(b:Nat)(es:List Nat)(st:WA):Prop where
 lay:∃(e s:Addr) (ras:VB),H m=some (.tup [.str l,nI b,.ref e,.ref s])∧H e=some (.tup (es.map nI))∧H s=some (.tup (ras.map V.ref))∧ras.length=st.length∧∀(i:Nat) a r,ras[i]?=some a→st[i]?=some r→H a=some (.tup (r.map nI))
 few:0<l.length∧l.length≤3∧st.length≤216
 beg:b<st.length
 rows:∀r∈st,r.length=l.length∧∀x∈r,x<st.length
theorem Yc.same{b:Nat}(h:Yc H m l b es st)(e:Zt H H'):Yc H' m l b es st:=by
 obtain⟨⟨e1,s1,ras,h1,h2,h3,h4,h5⟩,f,g,r⟩:=h;exact⟨⟨e1,s1,ras,e _ _ h1,e _ _ h2,e _ _ h3,h4,λi a r q1 q2=>e _ _ (h5 i a r q1 q2)⟩,f,g,r⟩
def stp(l:Str)(st:WA)(r c:Nat):Nat:=(st.getD r []).getD (Txt.find l (one c)).toNat 0
def way(l:Str)(st:WA)(r:Nat)(t:List Nat):Nat:=t.foldl (stp l st) r
theorem Zes(h:c∈l.cps.toList):0≤Txt.find l (one c)∧(Txt.find l (one c)).toNat<l.length:=by
 have hl:=len_list l;obtain⟨i,hi,e⟩:=aZ h
 have hD:∀v:Nat,v<l.length→l.cps.getD v 0=l.cps.toList.getD v 0:=λv hv=>by
  rw[oQ,lA,bC]
 have hf:Txt.find l (one c)=Txt.find3 l (one c) 0:=by
  unfold Txt.find Txt.find3;rfl
 rcases StrLaws.find3_spec l c 0 with ⟨_,hn⟩|⟨k,hk,_,x5,_⟩
 ·refine absurd ?_ (hn i ?_ (by lia))
  ·rw[hD i (by lia),oQ,rZ hi];exact e
  ·show _≤i;unfold PySem.fromIndex;simp
 ·rw[hf];have:Txt.find3 l (one c) 0=(k:Int):=hk;rw[this];lia
theorem getD_mem{α:Type}{l:List α}{d:α}(h:i<l.length):l.getD i d∈l∧l[i]?=some (l.getD i d):=by
 rw[oQ,rZ h];exact⟨cU h,rfl⟩
theorem Zpm{b:Nat}(M:Yc H m l b es st)(hr:r<st.length)(hc:c∈l.cps.toList):stp l st r c<st.length:=by
 obtain⟨h1,h2⟩:=M.rows _ (getD_mem (d:=[]) hr).1;have hf:=Zes hc;exact h2 _ (getD_mem (l:=st.getD r []) (d:=0) (by rw[h1];exact hf.2)).1
theorem Mh{H:Hp}{m:Addr}{l:Str}{b:Nat}{es:List Nat}{st:WA}(M:Yc H m l b es st):∀(t:List Nat) (r:Nat),r<st.length→(∀c∈t,c∈l.cps.toList)→way l st r t<st.length
 |[],r,hr,_=>hr
 |c :: t,r,hr,h=>Mh M t _ (Zpm M hr (h c oE)) λx hx=>h x (oO _ hx)
inductive Zdp(vs:List V)(H:Hp)(Q:VK):Prop
 |mk(m:Addr)(l:Str)(b:Nat)(es:List Nat)(st:WA)(r:Nat)(t:Str)(h1:vs=[.ref m,nI r,.str t])(h2:Yc H m l b es st)(h3:r<st.length)(h4:(∀c∈t.cps.toList,c∈l.cps.toList))(h5:Q (nI (way l st r t.cps.toList)) H):Zdp vs H Q
def Jl:Sp:=λvs H Q _=>Zdp vs H Q
inductive Bx(vs:List V)(H:Hp)(Q:VK):Prop
 |mk(m:Addr)(l:Str)(b:Nat)(es:List Nat)(st:WA)(t:Str)(h1:vs=[.ref m,.str t])(h2:Yc H m l b es st)(h3:(∀c∈t.cps.toList,c∈l.cps.toList))(h4:Q (.bl (inV (nI (way l st b t.cps.toList)) (es.map nI))) H):Bx vs H Q
def Zdo:Sp:=λvs H Q _=>Bx vs H Q
theorem Zd1{K:W.Frag}{b:Nat}(M:Yc H m l b es st){r:Nat}(hr:r<st.length)(hc:c∈l.cps.toList)(q:Q (nI (stp l st r c)) H):
  ∃(e s:Addr) (ras:VB) (a:Addr),H m=some (.tup [.str l,nI b,.ref e,.ref s])∧H s=some (.tup (ras.map V.ref))∧atI (ras.map V.ref) (r:Int)=some (.ref a)∧H a=some (.tup ((st.getD r []).map nI))∧0≤Txt.find l ⟨#[c]⟩∧atI ((st.getD r []).map nI) (Txt.find l ⟨#[c]⟩)=some (nI (stp l st r c)):=by
 obtain⟨e,s,ras,h1,h2,h3,h4,h5⟩:=M.lay;have b7:r<ras.length:=by lia
 have hf:=Zes hc;obtain⟨g1,g2⟩:=getD_mem (l:=st) (d:=[]) hr;have hlen:=(M.rows _ g1).1;have g3:=(getD_mem (l:=st.getD r []) (i:=(Txt.find l (one c)).toNat) (d:=0) (by rw[hlen];exact hf.2)).2;refine⟨e,s,ras,ras[r],h1,h3,Zj (by rw[oP,rZ b7];rfl),h5 r _ _ (rZ b7) g2,hf.1,?_⟩;have z:atI ((st.getD r []).map nI) (((Txt.find l (one c)).toNat:Nat):Int)=some (nI (stp l st r c)):=Zj (by rw[oP,g3];rfl);rw[show (((Txt.find l (one c)).toNat:Nat):Int)=Txt.find l (one c) by lia]at z;exact z
theorem Bs(l:Str)(st:WA)(r:Nat)(t:List Nat)(i c:Nat)(h:t[i]?=some c):way l st r (t.take (i+1))=stp l st (way l st r (t.take i)) c:=by
 rw[iV,h];unfold way;rw[ZV];rfl
theorem take_all{P:Nat→Prop}{t:List Nat}(h:∀c∈t,P c):∀c∈t.take n,P c:=λc hc=>h c (aR hc)
theorem Ih(F:Fun K "room_behind" "room_behind" Tf f fd)(Z:Blt mg):Ya P w K mg base CX0 1 f fd ["machine","room","text"] Jl:=by
 refine F.ok Xo (λvs H Q E h=>?_) (λcdv A outer s H vs Q E hr h=>?_)
 ·obtain⟨m,l,b,es,st,r,t,rfl,_⟩:=h;rfl
 obtain⟨m,l,b,es,st,r,t,rfl,M,c9,ht,k⟩:=h
 refine⟨_,(Ze (Zr (i:=3) Xo.nd (by rfl) (Or.inl (by rfl)) (Zs (Zo (K:=K)) (pv 0) Zf (λ_ _=>rfl))) 
   (Ze (Zr (i:=4) Xo.nd (by rfl) (Or.inl (by rfl)) (Zs (Zo (K:=K)) (pv 0) Zf (λ_ _=>rfl))) 
   (Ze (Zr (i:=5) Xo.nd (by rfl) (Or.inl (by rfl)) (pv 1)) 
   (Ze (Xp lI (by rfl) (Uo (pv 2)) (Zn (i:=6) Xo.nd (by rfl) (Or.inl (by rfl))) 
    (Zg (Zr (i:=5) Xo.nd (by rfl) (Or.inl (by rfl)) (Zs (Zo (K:=K)) (Zs (Zo (K:=K)) (pv 4) (pv 5) (λ_ _=>rfl)) (X5 (K:=K) cZ PySem.F.slot_str_index PySem.F.type_str_index (A4 (by rfl)) (pv 3) (Za (pv 6) Zb)) (λ_ _=>rfl))))) 
   (Zg (Zl (pv 5))))))),?_⟩
 refine(let n8:TS:=_;let eN:TS:=X8 _ n8;let eO:TS:=X8 _ eN;let eP:TS:=X8 _ eO;(?_:X8 _ eP _ _ _));obtain⟨e,s',ras,h1,h2,h3,h4,h5⟩:=M.lay;refine⟨_,rfl,m,_,_,_,rfl,rfl,SqT.of h1,Zj (j:=0) rfl,_,rfl,m,_,_,_,rfl,rfl,SqT.of h1,Zj (j:=3) rfl,_,rfl,?_⟩;refine⟨_,rfl,t,rfl,?_⟩;refine Td (cs:=t.cps.toList) (λi σ H2=>∃v,σ=[some (.ref m),some (nI r),some (.str t),some (.str l),some (.ref s'),some (nI (way l st r (t.cps.toList.take i))),v]∧H2=H) ⟨none,rfl,rfl⟩ ?_ ?_
 ·rintro i c σ H2 hc ⟨v,rfl,rfl⟩;have o0:c∈l.cps.toList:=ht c (oM hc);have hw:=Mh M (t.cps.toList.take i) r c9 (take_all ht);obtain⟨e2,s2,Zta,a,q1,q2,q3,q4,q5,q6⟩:=Zd1 (K:=K) (Q:=λ_ _=>True) M hw o0 trivial;rw[h1]at q1;cases q1;refine⟨_,rfl,_,rfl,s',_,_,_,rfl,rfl,SqT.of q2,q3,_,rfl,rfl,_,rfl,l,_,rfl,rfl,q5,a,_,_,_,rfl,rfl,SqT.of q4,q6,?_⟩;refine⟨some (.str ⟨#[c]⟩),?_,rfl⟩;rw[Bs l st r _ i c hc];rfl
 ·rintro σ H2 ⟨v,rfl,rfl⟩;refine⟨_,rfl,?_⟩;rw[lX];exact k
def Tk(H H':Hp):Prop:=∀b ys,H b=some (.tup ys)→H' b=some (.tup ys)
theorem Tk.same(e:Zt H H'):Tk H H':=λb ys h=>e b _ h
theorem Tk.trans{H1:Hp}(a:Tk H H1)(b:Tk H1 H2):Tk H H2:=λc ys h=>b c ys (a c ys h)
theorem Tk.lst{H:Hp}{l:Addr}{xs:List V}(h:H l=some (.lst xs))(o:HO):Tk H (upd H l o):=λb ys e=>by
 rw[Zk (Yt e h λz=>nomatch z)];exact e
theorem Tk.dct{l:Addr}{xs:TB}(h:H l=some (.dT xs))(o:HO):Tk H (upd H l o):=λb ys e=>by
 rw[Zk (Yt e h λz=>nomatch z)];exact e
theorem map_take{α β:Type}{f:α→β}{l:List α}{x:α}(h:l[i]?=some x):(l.take (i+1)).map f=(l.take i).map f++[f x]:=by
 rw[iV,h,oK];rfl
theorem none_of(e:Zt H H')(h:H' p=none):H p=none:=by
 cases z:H p with
 |none=>rfl
 |some o=>rw[e _ _ z]at h;cases h
theorem Tk.drew(F:Yb H p sc)(d:Zz H H' p):Tk H H':=λb ys h=>by
 obtain⟨xs,hp,_⟩:=F.here;exact d _ _ h (Yt h hp λz=>nomatch z)
inductive TR{α:Type}(tv:α→List V)(H:Hp):List V→List α→Prop where
 |nil:TR tv H [] []
 |cons {a:Addr}{r:α}{vs:List V}{rs:List α} (h:H a=some (.tup (tv r))) (t:TR tv H vs rs):TR tv H (.ref a :: vs) (r :: rs)
section
variable {α:Type}{tv:α→List V}
theorem TR.keep{H H':Hp}(e:Tk H H'):∀{vs:List V}{rs:List α},TR tv H vs rs→TR tv H' vs rs
 |_,_,.nil=>.nil
 |_,_,.cons h t=>.cons (e _ _ h) (t.keep e)
theorem TR.app{H:Hp}{ws:List V}{qs:List α}(h:TR tv H ws qs):∀{vs:List V}{rs:List α},TR tv H vs rs→TR tv H (vs++ws) (rs++qs)
 |_,_,.nil=>h
 |_,_,.cons h' t=>.cons h' (TR.app h t)
theorem TR.snoc{r:α}{rs:List α}(h:H a=some (.tup (tv r)))(t:TR tv H vs rs):TR tv H (vs++[.ref a]) (rs++[r]):=TR.app (.cons h .nil) t
theorem TR.len{H:Hp}:∀{vs:List V}{rs:List α},TR tv H vs rs→vs.length=rs.length
 |_,_,.nil=>rfl
 |_,_,.cons _ t=>by rw[oR,oR,t.len]
theorem TR.at_{H:Hp}:∀{vs:List V}{rs:List α}{i:Nat}{x:V},TR tv H vs rs→vs[i]?=some x→∃a r,x=.ref a∧rs[i]?=some r∧H a=some (.tup (tv r))
 |_,_,i,x,.nil,h=>by simp at h
 |_,_,0,x,.cons (a:=a) (r:=r) h' t,h=>by
  cases h;exact⟨a,r,rfl,rfl,h'⟩
 |_,_,i+1,x,.cons h' t,h=>t.at_ (i:=i) (by simpa using h)
end
theorem Xe{c:Addr}(e:Zt H H')(h:H c=none)(o:HO):Zt H (upd H' c o):=λb u q=>by
 rw[Zk (Zi q h)];exact e b u q
theorem ifN{c:Bool}{A:Prop}(h:c=false)(b:B):if c=true then A else B:=by rw[h];exact b
theorem ifY{c:Bool}{A:Prop}(h:c=true)(a:A):if c=true then A else B:=by rw[if_pos h];exact a
theorem Zoy{x x0 x1:V}{Nt:VK}{Nf:Hp→Prop}(hx:x=.ref a)(hq:SqT K H a [x0,x1])(h:te ((σ.set 0 (some x0)).set 1 (some x1)) H Nt):
  Zgf K 2 (Lv (So 0) (Lv (So 1) Zkj)) x σ H λt4 H4=>Zlo t4 H4 λb H5=>if b=true then te t4 H5 Nt else Nf H5:=by
 refine⟨a,_,hx,hq,rfl,_,_,rfl,_,_,rfl,rfl,?_⟩;show if true=true then te ((σ.set 0 (some x0)).set 1 (some x1)) H Nt else Nf H
 exact C5 h
abbrev S(w:List Nat):Str:=⟨w.toArray⟩
theorem Dy:Str.ofString ""=S []:=by decide +kernel
theorem Xq(w:List Nat):(S w).length=w.length:=by simp[Str.length]
theorem Li(w:List Nat)(c:Nat):S w++(⟨#[c]⟩:Str)=S (w++[c]):=by
 show (⟨(S w).cps ++ #[c]⟩:Str)=_;simp[S]
theorem Gs(z:Str):S z.cps.toList=z:=by
 cases z;simp[S]
theorem Mj{xs:NX}{k:NK}:valN xs k=none↔k∉xs.map (·.1):=by
 unfold valN;rw[Option.map_eq_none_iff,List.find?_eq_none];constructor
 ·intro h z;obtain⟨x,hx,e⟩:=oU.mp z;exact h x hx (decide_eq_true e)
 ·intro h x hx e;exact h (oU.mpr ⟨x,hx,of_decide_eq_true e⟩)
theorem D6:∀{xs:NX},(xs.map (·.1)).Nodup→∀{x:NK×Addr×V},x∈xs→valN xs x.1=some x.2.2
 |[],_,_,h=>by cases h
 |y :: ys,nd,x,h=>by
  rw[lG,iR]at nd;unfold valN;rw[dI]
  rcases oH.mp h with e|e
  ·subst e;rw[show decide (x.1=x.1)=true by simp];rfl
  ·have ne:¬ y.1=x.1:=λz=>nd.1 (by rw[z];exact dW e);rw[decide_eq_false ne];exact D6 nd.2 e
abbrev Gu:=List Nat→NK→Prop
inductive Zh0(f:Addr)(fd:FuncData)(l:Str)(Rl:Gu)(G:Hp→Prop)(vs:List V)(H:Hp)(Q:VK):Prop
 |mk(a u x c:_)(h1:vs=[.ref a,.str (one c)])(h2:NAt H x a)(h3:Rl u x)(h4:(∀d∈u,d∈l.cps.toList))(h5:c∈l.cps.toList)(h6:H f=some (FnO f fd))(h7:G H)(h8:∀r y H',Zt H H'→NAt H' y r→Rl (u++[c]) y→Q (.ref r) H'):Zh0 f fd l Rl G vs H Q
def Zs2(f:Addr)(fd:FuncData)(l:Str)(Rl:Gu)(G:Hp→Prop):Sp:=λvs H Q _=>Zh0 f fd l Rl G vs H Q
structure O6(P:Program)(w:World)(sh:VD)(l:Str)(Rl:Gu)(H:Hp)(d:Addr)(xs:NX)(t:Nat):Prop where
 at_:H d=some (dN P w sh d xs)
 tab:Kn P w sh H d xs
 nd:(xs.map (·.1)).Nodup
 tx:∀x∈xs,∃u:List Nat,(∀c∈u,c∈l.cps.toList)∧Rl u x.1∧x.2.2=.str (S u)∧u.length≤t
structure Zsb(sh:VD)(l:Str)(Rl:Gu)(B:Nat):Prop where
 Ho:∀u x,Rl u x→x.map Sum.isLeft=sh
 one:∀u x y,Rl u x→Rl u y→x=y
 step:∀u v x c y,Rl u x→Rl v x→Rl (u++[c]) y→Rl (v++[c]) y
 few:∀ks:List NK,ks.Nodup→(∀x∈ks,∃u:List Nat,(∀c∈u,c∈l.cps.toList)∧Rl u x)→ks.length≤B
 big:B≤1000000
theorem O6.same{P:Program}{w:World}{sh:VD}{Rl:Gu}{d:Addr}{xs:NX}{t:Nat}(h:O6 P w sh l Rl H d xs t)(e:Zt H H'):O6 P w sh l Rl H' d xs t:=
 ⟨e _ _ h.at_,⟨.inl (e _ _ h.at_),λx hx=>(h.tab.keys x hx).keep λb ys q=>e _ _ q,h.tab.Ho⟩,h.nd,h.tx⟩
theorem O6.lst{P:Program}{w:World}{sh:VD}{l:Str}{Rl:Gu}{H:Hp}{d q:Addr}{xs:NX}{t:Nat}{vs:List V}(h:O6 P w sh l Rl H d xs t)(hq:H q=some (.lst vs))(o:HO):O6 P w sh l Rl (upd H q o) d xs t:=by
 have ne:d≠q:=Yt h.at_ hq λz=>nomatch z;have hd:upd H q o d=some (dN P w sh d xs):=(Zk ne).trans h.at_;exact⟨hd,⟨.inl hd,λx hx=>(h.tab.keys x hx).keep (Tk.lst hq o),h.tab.Ho⟩,h.nd,h.tx⟩
theorem O6.few{P:Program}{w:World}{sh:VD}{l:Str}{Rl:Gu}{H:Hp}{d:Addr}{xs:NX}{t B:Nat}(h:O6 P w sh l Rl H d xs t)(f:Zsb sh l Rl B):xs.length≤B:=by
 have:=f.few _ h.nd λk hk=>by
  obtain⟨x,hx,rfl⟩:=oU.mp hk;obtain⟨u,h1,h2,_⟩:=h.tx x hx;exact⟨u,h1,h2⟩
 rwa[rW]at this
def Lv9(H:Hp)(vs:List V)(ks:List NK):Prop:=vs.length=ks.length∧∀(i:Nat) v k,vs[i]?=some v→ks[i]?=some k→∃a,v=.ref a∧NAt H k a
theorem Lv9.keep{H H':Hp}{vs:List V}{ks:List NK}(h:Lv9 H vs ks)(e:Tk H H'):Lv9 H' vs ks:=⟨h.1,λi v k a b=>let ⟨q,h1,h2⟩:=h.2 i v k a b;⟨q,h1,h2.keep e⟩⟩
theorem Lv9.snoc{ks:List NK}{k:NK}(h:Lv9 H vs ks)(ha:NAt H k a):Lv9 H (vs++[.ref a]) (ks++[k]):=by
 refine⟨by rw[oB,oB,h.1];rfl,λi v k' h1 h2=>?_⟩;have hl:=h.1
 rcases aK i vs.length with z|z
 ·rw[lP z]at h1;rw[lP (by lia)]at h2;exact h.2 i v k' h1 h2
 ·rw[lT z]at h1;rw[lT (by lia),←hl]at h2
  cases hq:i-vs.length with
  |zero=>
   rw[hq]at h1 h2;cases h1;cases h2;exact⟨a,rfl,ha⟩
  |succ n=>rw[hq]at h1;simp at h1
def Dn9(l:Str)(Rl:Gu)(xs:NX)(x:NK):Prop:=∀u:List Nat,(∀c∈u,c∈l.cps.toList)→Rl u x→∀c∈l.cps.toList,∃y∈xs.map (·.1),Rl (u++[c]) y
theorem Dn9.more{Rl:Gu}{xs ys:NX}{x:NK}(h:Dn9 l Rl xs x):Dn9 l Rl (xs++ys) x:=λu hu r c hc=>by
 obtain⟨y,hy,q⟩:=h u hu r c hc;exact⟨y,by rw[oK];exact lF _ hy,q⟩
theorem Jq{α:Type}{m:List α→Prop}(nil:m [])(snoc:∀u c,m u→m (u++[c]))(u:List α):m u:=by
 have h:∀v:List α,m v.reverse:=λv=>by
  induction v with
  |nil=>exact nil
  |cons c v ih=>rw[XR];exact snoc _ _ ih
 have:=h u.reverse;rwa[List.reverse_reverse]at this
inductive Zht(P:Program)(w:World)(K:W.Frag)(mg:WD)(base:Heap)(n:Nat)(sh:VD)(vs:List V)(H:Hp)(Q:VK):Prop
 |mk(f:Addr)(fd:FuncData)(ps:List Str)(l:Str)(a0:Addr)(b:NK)(Rl:Gu)(G:Hp→Prop)(B:Nat)(h1:Ya P w K mg base CX0 n f fd ps (Zs2 f fd l Rl G))(h2:Binds K fd ps [])(h3:(∀H1 H2,Zt H1 H2→G H1→G H2))(h4:vs=[.str l,.ref a0,.ref f])(h5:NAt H b a0)(h6:Rl [] b)(h7:Zsb sh l Rl B)(h8:H f=some (FnO f fd))(h9:G H)(yB:∀d xs H',H d=none→Zt H H'→O6 P w sh l Rl H' d xs B→(∀u:List Nat,(∀c∈u,c∈l.cps.toList)→∃x∈xs,Rl u x.1)→Q (.ref d) H'):Zht P w K mg base n sh vs H Q
def Zhu(P:Program)(w:World)(K:W.Frag)(mg:WD)(base:Heap)(n:Nat)(sh:VD):Sp:=λvs H Q _=>Zht P w K mg base n sh vs H Q
theorem Zb4(F:Fun K "walked" "walked" Jx f fd)(Z:Blt mg):Ya P w K mg base CX0 (n+1) f fd UZ (Zhu P w K mg base n [false,true]):=by
 refine F.ok Wy (λvs H Q E h=>?_) (λcdv A outer s H vs Q E hr h=>?_)
 ·obtain⟨f,fd,ps,l,a0,b,Rl,G,B,_,_,_,rfl,_⟩:=h;rfl
 obtain⟨fv,fdv,ps,l,a0,b,Rl,G,B,Znh,Zm8,hG,rfl,qA,hb,Zac,hf,hGH,k⟩:=h
 refine⟨_,(Ze (Zr (i:=3) Wy.nd (by rfl) (Or.inl (by rfl)) (Ai (P:=P) (w:=w) (sh:=[false,true]) (hu2 hr) (pv 1) Z4)) 
   (Ze (Zr (i:=4) Wy.nd (by rfl) (Or.inl (by rfl)) (Yk (Za (pv 1) Zb))) 
   (Ze (J7 lI (Yr (K:=K) (pv 4) (λ_=>rfl)) 
    (Ze (Zr (i:=5) Wy.nd (by rfl) (Or.inl (by rfl)) (Yk Zb)) 
    (Ze (Xp lI (by rfl) (Xg (K:=K) (pv 4)) (Zn (i:=6) Wy.nd (by rfl) (Or.inl (by rfl))) 
     (Zg (Xp lI (by rfl) (Uo (pv 0)) (Zn (i:=7) Wy.nd (by rfl) (Or.inl (by rfl))) 
      (Ze (Zr (i:=8) Wy.nd (by rfl) (Or.inl (by rfl)) (Zje (i:=2) Znh (hr.mono (by lia)) Zm8 (Za (pv 6) (Za (pv 7) Zb)))) 
      (Zg (Yd (J6 (Ib (P:=P) (w:=w) (sh:=[false,true]) (hu2 hr) (pv 8) (pv 3))) 
       (Ze (Ae (P:=P) (w:=w) (sh:=[false,true]) (hu2 hr) (pv 3) (pv 8) (Z7 Vl (Aj (P:=P) (w:=w) (sh:=[false,true]) (hu2 hr) (pv 3) (pv 6) (λ_ _=>rfl)) (pv 7)) rfl) 
       (Zg (Xu (X5 (K:=K) lL iH iI X0 (pv 5) (Za (pv 8) Zb))))) Zu)))))) 
    (Zg (Zr (i:=4) Wy.nd (by rfl) (Or.inl (by rfl)) (pv 5)))))) 
   (Zg (Zl (pv 3)))))),?_⟩
 have Ztx:(Str.ofString "")=S []:=Dy;refine λd hd=>⟨_,rfl,_,_,rfl,Zc,a0,b,rfl,qA.keep λq ys z=>Zd hd _ _ _ z,Zac.Ho _ _ hb,?_⟩;have e1:Zt H (upd (upd H d (dN P w [false,true] d [])) d (dN P w [false,true] d [(b,a0,V.str (Str.ofString ""))])):=Xe (Zd hd _) hd _;have vC:upd (upd H d (dN P w [false,true] d [])) d (dN P w [false,true] d [(b,a0,V.str (Str.ofString ""))]) d=some (dN P w [false,true] d [(b,a0,V.str (Str.ofString ""))]):=Zc;generalize upd (upd H d (dN P w [false,true] d [])) d (dN P w [false,true] d [(b,a0,V.str (Str.ofString ""))])=H1 at vC e1
 have T1:O6 P w [false,true] l Rl H1 d [(b,a0,V.str (Str.ofString ""))] 0:=by
  refine⟨vC,⟨.inl vC,λx hx=>?_,λx hx=>?_⟩,by simp,λx hx=>?_⟩
  ·rw[rY.mp hx];exact qA.keep λq ys z=>e1 _ _ z
  ·rw[rY.mp hx];exact Zac.Ho _ _ hb
  ·rw[rY.mp hx];exact⟨[],nofun,hb,by rw[Ztx],rX _⟩
 refine⟨_,rfl,(by show 1≤sizeLine;decide),λlv nG=>?_⟩;generalize eZ:upd H1 lv _=H2;have s2:=nS7 eZ nG;have xD:=nU7 eZ
 refine⟨λmm σ H5=>∃(t:Nat) (lv:Addr) (vs:List V) (ks:List NK) (xs:NX) (v5 v6 v7 v8:Option V),mm=B-t∧σ=[some (.str l),some (.ref a0),some (.ref fv),some (.ref d),some (.ref lv),v5,v6,v7,v8]∧H lv=none∧H5 lv=some (.lst vs)∧Lv9 H5 vs ks∧O6 P w [false,true] l Rl H5 d xs t∧Zt H H5∧t≤B∧(ks≠[]→t+1≤xs.length)∧b∈xs.map (λx:NK×Addr×V=>x.1)∧(∀k∈ks,k∈xs.map (λx:NK×Addr×V=>x.1))∧∀x∈xs.map (λx:NK×Addr×V=>x.1),x∈ks∨Dn9 l Rl xs x,
  ⟨_,0,lv,_,[b],_,none,none,none,none,rfl,rfl,none_of e1 nG,xD,⟨rfl,λi v kk q1 q2=>?_⟩,T1.same s2,e1.trans s2,lB _,λ_=>rX _,rY.mpr rfl,λkk h=>h,λx hx=>.inl hx⟩,?_⟩
 ·cases i with
  |zero=>cases q1;cases q2;exact⟨a0,rfl,qA.keep λq ys z=>s2 _ _ (e1 _ _ z)⟩
  |succ i=>simp at q1
 clear eZ xD s2 nG lv vC e1 T1 H1 H2;rintro mm σ H5 ⟨t,lv,vs,ks,xs,v5,v6,v7,v8,rfl,rfl,hlv0,vD,L5,T5,e5,gZ,eD,hbx,qZ,o0⟩;have hB:=T5.few Zac;have hB1:=Zac.big;have xP:=L5.1;refine⟨_,rfl,_,.inl ⟨_,SqL.of vD,rfl⟩,?_⟩;refine Xx (λc1=>?_) (λc1=>?_)
 ·have x6:ks≠[]:=λz=>by
   rw[z]at xP;rw[oV xP]at c1;cases c1
  have htB:=eD x6;refine⟨λx4 H'=>∃m',m'<B-t∧_,λ_ _ z=>z,?_⟩;refine⟨(by show 0≤sizeLine;decide),λrp eG=>?_⟩;generalize eZ:upd H5 rp _=H6;have s6:=nS7 eZ eG;have xF:=nU7 eZ;have Zum:=none_of e5 eG;have nlr:lv≠rp:=Zi vD eG;refine⟨_,rfl,lv,rfl,⟨_,SqL.of (s6 _ _ vD)⟩,?_⟩;have nd5:∀{Hx:Hp}{q:Addr}{us:List V}{ys:NX}{tt:Nat},Hx q=some (.lst us)→O6 P w [false,true] l Rl Hx d ys tt→q≠d:=λhq T=>Yt hq T.at_ λz=>nomatch z
  refine Qz (K:=K) (a:=lv) (xs:=vs) (λj σ H7=>∃(ys:NX) (us:List V) (ls:List NK) (v6 v7 v8:Option V),σ=[some (.str l),some (.ref a0),some (.ref fv),some (.ref d),some (.ref lv),some (.ref rp),v6,v7,v8]∧H7 lv=some (.lst vs)∧Lv9 H7 vs ks∧H7 rp=some (.lst us)∧Lv9 H7 us ls∧O6 P w [false,true] l Rl H7 d (xs++ys) (t+1)∧ys.map (·.1)=ls∧Zt H H7∧(∀i,i<j→∀x,ks[i]?=some x→Dn9 l Rl (xs++ys) x))
   ⟨[],[],[],v6,v7,v8,rfl,s6 _ _ vD,L5.keep (Tk.same s6),xF,⟨rfl,λi v kk q=>by simp at q⟩,?_,rfl,e5.trans s6,λi z=>absurd z (by lia)⟩ (λj σ H7 _ h=>?_) ?_ ?_
  ·rw[lN];have T6:=T5.same s6;exact⟨T6.at_,T6.tab,T6.nd,λx hx=>let ⟨u,h1,h2,h3,h4⟩:=T6.tx x hx;⟨u,h1,h2,h3,by lia⟩⟩
  ·obtain⟨_,_,_,_,_,_,_,h7,_⟩:=h;exact SqL.of h7
  ·rintro j x σ H7 hx ⟨ys,us,ls,v6,v7,v8,rfl,h7l,L7,yC,Y7,T7,m5,e7,sJ⟩;have hjl:=(oG.mp hx).1;have xJ:ks[j]?=some (ks[j]'(by lia)):=rZ (by lia);generalize ks[j]'(by lia)=kx at xJ;obtain⟨pa,rfl,yR⟩:=L7.2 j _ kx hx xJ;have hkm:=qZ kx (oM xJ);obtain⟨⟨yY,pk,pv⟩,r9,ekx⟩:=oU.mp hkm;have zR:yY=kx:=ekx;subst zR;obtain⟨u0,hu0,Zq8,hpv,kH⟩:=T5.tx _ r9;have nQ:pv=.str (S u0):=hpv;subst nQ;refine⟨_,rfl,l,rfl,?_⟩
   refine Td (cs:=l.cps.toList) (λm σ H8=>∃(ys:NX) (us:List V) (ls:List NK) (v7 v8:Option V),σ=[some (.str l),some (.ref a0),some (.ref fv),some (.ref d),some (.ref lv),some (.ref rp),some (.ref pa),v7,v8]∧H8 lv=some (.lst vs)∧Lv9 H8 vs ks∧H8 rp=some (.lst us)∧Lv9 H8 us ls∧O6 P w [false,true] l Rl H8 d (xs++ys) (t+1)∧ys.map (·.1)=ls∧Zt H H8∧(∀i,i<j→∀x,ks[i]?=some x→Dn9 l Rl (xs++ys) x)∧NAt H8 yY pa∧∀c∈l.cps.toList.take m,∃y∈(xs++ys).map (·.1),Rl (u0++[c]) y)
    ⟨ys,us,ls,v7,v8,rfl,h7l,L7,yC,Y7,T7,m5,e7,sJ,yR,λc hc=>by rw[List.take_zero]at hc;cases hc⟩ ?_ ?_
   ·rintro m c σ H8 hc ⟨ys,us,ls,v7,v8,rfl,jF,L8,jH,Y8,T8,m5,e8,sJ,jG,Zad⟩;have sI:c∈l.cps.toList:=oM hc;refine⟨rfl,e8 _ _ hf,_,rfl,_,rfl,e8 _ _ hf,pa,u0,yY,c,rfl,jG,Zq8,hu0,sI,e8 _ _ hf,hG _ _ e8 hGH,λr y H9 e9 jI xN=>?_⟩;have T9:=T8.same e9;have L9:=L8.keep (Tk.same e9);have Y9:=Y8.keep (Tk.same e9);have jJ:=e9 _ _ jF;have jL:=e9 _ _ jH;have jK:NAt H9 yY pa:=jG.keep λq ys z=>e9 _ _ z;have e09:=e8.trans e9;have Zq7:=Zac.Ho _ _ xN
    have Hj:∀{zs:NX},y∈zs.map (·.1)→∀c'∈l.cps.toList.take (m+1),(∀c∈l.cps.toList.take m,∃y∈zs.map (·.1),Rl (u0++[c]) y)→∃y∈zs.map (·.1),Rl (u0++[c']) y:=λhy c' z9 hZ=>by
     rw[iV,hc]at z9
     rcases oJ.mp z9 with z|z
     ·exact hZ c' z
     ·have:c'=c:=by simpa using z
      rw[this];exact⟨y,hy,xN⟩
    refine⟨_,rfl,_,rfl,d,_,y,r,rfl,rfl,T9.tab,jI,Zq7,_,rfl,?_⟩;have hBx:=T9.few Zac;rw[oB]at hBx
    by_cases w5:y∈(xs++ys).map (·.1)
    ·have hv:(valN (xs++ys) y).isSome=true:=by
      cases e:valN (xs++ys) y with
      |none=>exact absurd w5 (Mj.mp e)
      |some _=>rfl
     rw[hv];exact ifN rfl ⟨ys,us,ls,_,_,rfl,jJ,L9,jL,Y9,T9,m5,e09,sJ,jK,λc' z9=>Hj w5 c' z9 Zad⟩
    ·have hv:valN (xs++ys) y=none:=Mj.mpr w5;rw[hv];have hvx:valN (xs++ys) yY=some (.str (S u0)):=D6 (x:=(yY,pk,V.str (S u0))) T9.nd (lF _ r9);have hsl:=Xq u0;refine ifY rfl ⟨_,rfl,_,rfl,d,_,yY,pa,_,rfl,rfl,T9.tab,jK,Zac.Ho _ _ Zq8,hvx,_,rfl,_,_,rfl,rfl,(by show (S u0).length+1≤sizeLine;rw[sizeLine_eq];lia),_,rfl,_,rfl,d,_,y,r,rfl,rfl,T9.at_,T9.tab,(by rw[sizeLine_eq,oB];lia),jI,Zq7,hv,?_⟩;rw[Li,iK];have nrd:=nd5 jL T9;have nld:=nd5 jJ T9
     have tT:Tk H9 (upd H9 d (dN P w [false,true] d (xs++(ys++[(y,r,V.str (S (u0++[c])))])))):=λq zs hz=>by
      rw[Zk (Yt hz T9.at_ λz=>nomatch z)];exact hz
     have Zkg:=(Zk (H:=H9) (o:=dN P w [false,true] d (xs++(ys++[(y,r,V.str (S (u0++[c])))]))) nrd).trans jL;have Zu2:=(Zk (H:=H9) (o:=dN P w [false,true] d (xs++(ys++[(y,r,V.str (S (u0++[c])))]))) nld).trans jJ;have Zrl:upd H9 d (dN P w [false,true] d (xs++(ys++[(y,r,V.str (S (u0++[c])))]))) d=_:=Zc;have kT:=Xe e09 hd (dN P w [false,true] d (xs++(ys++[(y,r,V.str (S (u0++[c])))])));have Zrm:=jI.keep tT;have L10:=L9.keep tT;have zD:=Y9.keep tT;have Zu1:=jK.keep tT
     have pX:∀x∈xs++(ys++[(y,r,V.str (S (u0++[c])))]),(NAt (upd H9 d (dN P w [false,true] d (xs++(ys++[(y,r,V.str (S (u0++[c])))])))) x.1 x.2.1∧x.1.map Sum.isLeft=[false,true])∧∃u:List Nat,(∀c∈u,c∈l.cps.toList)∧Rl u x.1∧x.2.2=.str (S u)∧u.length≤t+1:=λx hx=>by
      rw[←iK]at hx
      rcases oJ.mp hx with z|z
      ·exact⟨⟨(T9.tab.keys x z).keep tT,T9.tab.Ho x z⟩,T9.tx x z⟩
      ·rw[rY.mp z];refine⟨⟨Zrm,Zq7⟩,u0++[c],λc' z9=>?_,xN,rfl,by rw[oB];show u0.length+1≤t+1;lia⟩
       rcases oJ.mp z9 with q|q
       ·exact hu0 c' q
       ·rw[rY.mp q];exact sI
     have T10:O6 P w [false,true] l Rl (upd H9 d (dN P w [false,true] d (xs++(ys++[(y,r,V.str (S (u0++[c])))])))) d (xs++(ys++[(y,r,V.str (S (u0++[c])))])) (t+1):=by
      refine⟨Zrl,⟨.inl Zrl,λx hx=>(pX x hx).1.1,λx hx=>(pX x hx).1.2⟩,?_,λx hx=>(pX x hx).2⟩;rw[←iK,oK,cC];refine⟨T9.nd,by simp,λp hp q hq e=>w5 ?_⟩;have:q=y:=by simpa using hq
      rw[←this,←e];exact hp
     generalize upd H9 d _=wU at Zkg Zu2 Zrl kT Zrm L10 zD Zu1 T10;have wN:=Tk.lst Zkg (.lst (us++[V.ref r]));have hul2:=zD.1;have pO:=congrArg List.length m5;rw[rW]at pO;refine⟨_,rfl,.inl ⟨rfl,_,SqL.of Zkg⟩,_,rfl,rp,_,_,rfl,rfl,Zkg,(by rw[sizeLine_eq];lia),?_⟩;refine⟨ys++[(y,r,V.str (S (u0++[c])))],us++[V.ref r],ls++[y],_,_,rfl,(Zk nlr).trans Zu2,L10.keep wN,Zc,(zD.keep wN).snoc (Zrm.keep wN),T10.lst Zkg _,by rw[oK,m5];rfl,Xe kT Zum _,λi hi x hx=>?_,Zu1.keep wN,λc' z9=>Hj ?_ c' z9 λc2 i7=>?_⟩
     ·rw[←iK];exact(sJ i hi x hx).more
     ·rw[←iK,oK];exact oX _ (rY.mpr rfl)
     ·obtain⟨y2,g1,g2⟩:=Zad c2 i7;exact⟨y2,by rw[←iK,oK];exact lF _ g1,g2⟩
   ·rintro σ H8 ⟨ys,us,ls,v7,v8,rfl,jF,L8,jH,Y8,T8,m5,e8,sJ,jG,Zad⟩;rw[lX]at Zad;refine⟨ys,us,ls,_,_,_,rfl,jF,L8,jH,Y8,T8,m5,e8,λi hi x hx=>?_⟩
    by_cases z:i=j
    ·rw[z,xJ]at hx;cases hx;intro u hu hru c hc;obtain⟨y,hy,xN⟩:=Zad c hc;exact⟨y,hy,Zac.step _ _ _ _ _ Zq8 hru xN⟩
    ·exact sJ i (by lia) x hx
  ·rintro σ H7 ⟨ys,us,ls,v6,v7,v8,rfl,h7l,L7,yC,Y7,T7,m5,e7,sJ⟩;refine⟨_,rfl,B-(t+1),by lia,t+1,rp,us,ls,xs++ys,_,_,_,_,rfl,rfl,Zum,yC,Y7,T7,e7,by lia,λhn=>?_,?_,λkk hk=>?_,λx hx=>?_⟩
   ·have:0<ys.length:=by
     have h1:=congrArg List.length m5;rw[rW]at h1;rw[h1];exact List.length_pos_iff.mpr hn
    rw[oB];lia
   ·rw[oK];exact lF _ hbx
   ·rw[oK,m5];exact oX _ hk
   ·rw[oK]at hx
    rcases oJ.mp hx with z|z
    ·rcases o0 x z with q|q
     ·obtain⟨i,hi⟩:=aM.mp q;exact .inr (sJ i (by have:=(oG.mp hi).1;lia) x hi)
     ·exact .inr q.more
    ·rw[m5]at z;exact .inl z
 ·have qV:ks=[]:=by
   cases ks with
   |nil=>rfl
   |cons kk r=>
    cases vs with
    |nil=>cases xP
    |cons=>exact absurd rfl c1
  subst qV
  have Zrf:∀u:List Nat,(∀c∈u,c∈l.cps.toList)→∃y∈xs.map (·.1),Rl u y:=by
   intro u
   induction u using Jq with
   |nil=>exact λ_=>⟨b,hbx,hb⟩
   |snoc u c ih=>
    intro hu;have vX:∀d∈u,d∈l.cps.toList:=λd hd=>hu d (lF _ hd);obtain⟨y,hy,xN⟩:=ih vX
    rcases o0 y hy with z|z
    ·cases z
    ·exact z u vX xN c (hu c (oX _ oE))
  refine⟨_,rfl,k d xs H5 hd e5 ⟨T5.at_,T5.tab,T5.nd,λx hx=>let ⟨u,h1,h2,h3,h4⟩:=T5.tx x hx;⟨u,h1,h2,h3,?_⟩⟩ λu hu=>?_⟩
  ·lia
  ·obtain⟨y,hy,xN⟩:=Zrf u hu;obtain⟨x,hx,e⟩:=oU.mp hy;exact⟨x,hx,by rw[e];exact xN⟩
theorem B8:∀(p:Str) (r:List Str),risingS p r=true→∀x∈r,¬ x.cps.toList<p.cps.toList
 |_,[],_,x,hx=>by cases hx
 |p,y :: r,h,x,hx=>by
  have h':(!ltCps y.cps.toList p.cps.toList&&risingS y r)=true:=h;rw[lJ,ltCps_eq]at h';have h1:¬ y.cps.toList<p.cps.toList:=λz=>by rw[decide_eq_true z]at h';exact absurd h'.1 (by decide)
  rcases oH.mp hx with e|e
  ·rw[e];exact h1
  ·exact XG.mpr (List.le_trans (XG.mp h1) (XG.mp (B8 y r h'.2 x e)))
theorem Mn:∀{ys:List Str},sortedS ys=true→ys.Nodup→ys.Pairwise λa b=>a.cps.toList<b.cps.toList
 |[],_,_=>.nil
 |p :: r,so,nd=>by
  have h:risingS p r=true:=so;rw[iR]at nd;refine .cons (λx hx=>?_) (Mn ?_ nd.2)
  ·rcases Zjw p.cps.toList x.cps.toList (λe=>nd.1 (by
    have:p=x:=by cases p;cases x;simpa using e
    rw[this];exact hx)) with z|z
   ·exact z
   ·exact absurd z (B8 p r h x hx)
  ·cases r with
   |nil=>rfl
   |cons y r=>
    have h':(!ltCps y.cps.toList p.cps.toList&&risingS y r)=true:=h;rw[lJ]at h';exact h'.2
def Cls(k:Nat)(u:List Nat)(ys:List Str):Prop:=ys.Nodup∧sortedS ys=true∧∀y,y∈ys↔∃v:List Nat,y=S v∧v.length≤k∧v.Sublist u
theorem Za5{a b:List Nat}(h:S a=S b):a=b:=by
 have:=congrArg (λz:Str=>z.cps.toList) h;simpa using this
theorem Cls.mem{k:Nat}{v:List Nat}(h:Cls k u ys):S v∈ys↔v.length≤k∧v.Sublist u:=by
 rw[h.2.2];constructor
 ·rintro⟨v',e,h1,h2⟩;rw[Za5 e];exact⟨h1,h2⟩
 ·exact λq=>⟨v,rfl,q⟩
theorem Zjx:∀{a b:List Str},a.Pairwise (λx y=>x.cps.toList<y.cps.toList)→b.Pairwise (λx y=>x.cps.toList<y.cps.toList)→(∀y,y∈a↔y∈b)→a=b
 |[],[],_,_,_=>rfl
 |[],y :: _,_,_,h=>by have:=(h y).mpr oE;cases this
 |x :: _,[],_,_,h=>by have:=(h x).mp oE;cases this
 |x :: a,y :: b,ha,hb,h=>by
  have irr:∀z:Str,¬ z.cps.toList<z.cps.toList:=λz=>List.lt_irrefl _
  cases ha with
  |cons j9 xG=>
   cases hb with
   |cons d8 j5=>
    have e:x=y:=by
     rcases oH.mp ((h x).mp oE) with z|z
     ·exact z
     ·rcases oH.mp ((h y).mpr oE) with q|q
      ·exact q.symm
      ·exact absurd (List.lt_trans (j9 y q) (d8 x z)) (irr x)
    subst e;rw[Zjx xG j5 λz=>⟨λhz=>?_,λhz=>?_⟩]
    ·rcases oH.mp ((h z).mp (oO _ hz)) with q|q
     ·rw[q]at hz;exact absurd (j9 x hz) (irr x)
     ·exact q
    ·rcases oH.mp ((h z).mpr (oO _ hz)) with q|q
     ·rw[q]at hz;exact absurd (d8 x hz) (irr x)
     ·exact q
theorem Cls.one{k:Nat}{v:List Nat}(h:Cls k u ys)(g:Cls k v zs)(e:∀w:List Nat,w.length≤k→(w.Sublist u↔w.Sublist v)):ys=zs:=by
 refine Zjx (Mn h.2.1 h.1) (Mn g.2.1 g.1) λy=>?_;rw[h.2.2,g.2.2];constructor
 ·rintro⟨w,h1,h2,h3⟩;exact⟨w,h1,h2,(e w h2).mp h3⟩
 ·rintro⟨w,h1,h2,h3⟩;exact⟨w,h1,h2,(e w h2).mpr h3⟩
theorem Cls.al{k:Nat}{v:List Nat}(h:Cls k u ys)(g:Cls k v ys)(w:List Nat)(hw:w.length≤k):w.Sublist u↔w.Sublist v:=by
 have h1:=h.mem (v:=w);rw[g.mem]at h1;exact⟨λq=>(h1.mpr ⟨hw,q⟩).2,λq=>(h1.mp ⟨hw,q⟩).2⟩
theorem sub_snoc{w:List Nat}:w.Sublist (u++[c])↔w.Sublist u∨∃v,w=v++[c]∧v.Sublist u:=by
 rw[List.sublist_append_iff];constructor
 ·rintro⟨l1,l2,rfl,h1,h2⟩
  cases l2 with
  |nil=>rw[lN];exact .inl h1
  |cons d r=>
   have hl:=h2.length_le;have:r=[]:=oV (by have h3:(d :: r).length≤1:=hl;rw[oR]at h3;lia);subst this;have hd:d=c:=by have:=h2.subset oE;simpa using this
   rw[hd];exact .inr ⟨l1,rfl,h1⟩
 ·rintro(h|⟨v,rfl,h⟩)
  ·exact⟨w,[],(lN _).symm,h,YF _⟩
  ·exact⟨v,[c],rfl,h,List.Sublist.refl _⟩
theorem Ze6{k:Nat}{v:List Nat}(h:∀w:List Nat,w.length≤k→(w.Sublist u↔w.Sublist v))(c:Nat)(w:List Nat)(hw:w.length≤k):w.Sublist (u++[c])↔w.Sublist (v++[c]):=by
 rw[sub_snoc,sub_snoc,h w hw];constructor
 ·rintro(q|⟨x,rfl,q⟩)
  ·exact .inl q
  ·rw[oB]at hw;exact .inr ⟨x,rfl,(h x (by lia)).mp q⟩
 ·rintro(q|⟨x,rfl,q⟩)
  ·exact .inl q
  ·rw[oB]at hw;exact .inr ⟨x,rfl,(h x (by lia)).mpr q⟩
def Zsc(k:Nat)(L:List Nat):Prop:=∀zs:List Str,zs.Nodup→(∀y∈zs,∃v:List Nat,y=S v∧v.length≤k∧∀c∈v,c∈L)→zs.length≤40
theorem Cls.few{k:Nat}{L:List Nat}(h:Cls k u ys)(hu:∀c∈u,c∈L)(f:Zsc k L):ys.length≤40:=f ys h.1 λy hy=>by
 obtain⟨v,h1,h2,h3⟩:=(h.2.2 y).mp hy;exact⟨v,h1,h2,λc hc=>hu c (h3.subset hc)⟩
inductive Znr(vs:List V)(H:Hp)(Q:VK):Prop
 |mk(p:Addr)(c k:Nat)(u L:List Nat)(ys:List Str)(h1:vs=[.ref p,.str ⟨#[c]⟩,nI k])(h2:H p=some (.tup (ys.map V.str)))(h3:Cls k u ys)(h4:(∀d∈u++[c],d∈L))(h5:Zsc k L)(h6:k≤10)(h7:∀q m6 H',Zt H H'→H' q=some (.tup (m6.map V.str))→Cls k (u++[c]) m6→Q (.ref q) H'):Znr vs H Q
def Zsz:Sp:=λvs H Q _=>Znr vs H Q
theorem Kc(F:Fun K "words_behind" "words_behind" Va f fd)(Z:Blt mg):Ya P w K mg base CX0 1 f fd ["words","letter","k"] Zsz:=by
 refine F.ok Rb (λvs H Q E h=>?_) (λcdv A outer s H vs Q E hr h=>?_)
 ·obtain⟨p,c,k,u,L,ys,rfl,_⟩:=h;rfl
 obtain⟨p,c,kn,u,L,ys,rfl,hp,hC,hL,hF,hk,k⟩:=h;have m5:=hC.few (λd hd=>hL d (lF _ hd)) hF
 have hys:∀y∈ys,y.length≤kn:=λy hy=>by
  obtain⟨v,h1,h2,_⟩:=(hC.2.2 y).mp hy;rw[h1,Xq];exact h2
 refine⟨_,(Ze (Zeb (i:=3) Rb.nd (by rfl) (by rfl) (sc:=Zh Va) (Nm:=UQ) (own:=["word"]) (fr:=[1,2]) ⟨rfl,by decide +kernel,by decide +kernel,by decide +kernel,by decide +kernel⟩ (by rfl) (Ym (by decide)) (Nq (K:=K) (pv 0)) (λd=>(Zn (i:=0) Nw (by rfl) (Or.inl (by rfl)))) (λd=>(Vs (Zp An (Zq Y0 (by rfl) Z.len Yw (Za (pv 0) Zb)) (pv 2) (Zw _)))) (λd=>(Z7 Vl (pv 0) (pv 1)))) 
   (Zg (Zl (Zy (Yv (K:=K)) (by rfl) Z.tuple Yu (Za (Zq (Fo (by rfl)) (by rfl) Z.sorted Pp (Za (Zy (Zcx (K:=K) (by rfl)) (by rfl) Z.set Zk7 (Za (Z7 Zb3 (Zy (Gh (K:=K)) (by rfl) Z.list Pq (Za (pv 0) Zb)) (pv 3)) Zb)) Zb)) Zb))))),?_⟩
 refine⟨_,rfl,p,rfl,⟨_,SqT.of hp⟩,?_⟩;have gX:(ys.map V.str).length=ys.length:=rW ..
 refine Q5 (K:=K) (a:=p) (xs:=ys.map V.str) (λj acc H3=>Zt H H3∧acc=(((ys.take j).filter λy=>decide (y.length<kn)).map λy=>y++(⟨#[c]⟩:Str)).map V.str) (by rw[gX];exact Sf (by lia)) ⟨Zt.refl _,rfl⟩ (λj acc H3 q=>by rw[q.2,rW,rW];exact lC (dG _ _) (by rw[iE];exact ZE _ _))
  (λj acc H3 q=>SqT.of (q.1 _ _ hp)) (λj acc H3 x hx q=>?_) (λacc H3 q y hy=>?_)
 ·obtain⟨e3,rfl⟩:=q;rw[oP]at hx
  cases i7:ys[j]? with
  |none=>rw[i7]at hx;cases hx
  |some z=>
   rw[i7]at hx;cases hx;have wC:=hys z (oM i7);refine⟨_,rfl,z,rfl,Xn (by lia),_,rfl,_,_,rfl,rfl,_,rfl,?_⟩
   have e0:decide ((z.length:Int)<((kn:Nat):Int))=decide (z.length<kn):=by
    rw[lH,decide_eq_true_eq,decide_eq_true_eq];lia
   rw[e0,iV,i7];refine Xx (λc1=>⟨_,rfl,_,rfl,_,_,rfl,rfl,(by show z.length+1≤sizeLine;rw[sizeLine_eq];lia),e3,?_⟩) (λc1=>⟨e3,?_⟩)
   ·rw[iQ,oK,oK];simp only[bD,lM,c1,if_true,dJ];rfl
   ·rw[iQ,oK,oK];simp only[bD,lM,c1,dJ];simp
 obtain⟨e3,rfl⟩:=q;rw[gX,lX];generalize hfs:(ys.filter λy=>decide (y.length<kn)).map (λy=>y++(⟨#[c]⟩:Str))=fs;have qL:fs.length≤40:=by rw[←hfs,rW];exact lC (dG _ _) m5
 have e4:=e3.trans (Zd hy (.lst (fs.map V.str)));have h4:upd H3 y (.lst (fs.map V.str)) y=_:=Zc;generalize upd H3 y _=H4 at e4 h4;refine⟨_,rfl,p,_,rfl,.inr (SqT.of (e4 _ _ hp)),λq hq=>?_⟩;generalize eZ:upd H4 q _=H5;have s5:=nS7 eZ hq;have h5:=nU7 eZ;refine⟨_,rfl,q,y,_,_,rfl,rfl,h5,s5 _ _ h4,by rw[rW,rW,sizeLine_eq];lia,λr y4=>?_⟩;rw[←oK];have s6:=Zd y4 (.lst ((ys++fs).map V.str));have h6:upd H5 r (.lst ((ys++fs).map V.str)) r=_:=Zc;generalize upd H5 r _=H6 at s6 h6;refine⟨r,ys++fs,rfl,SqL.of h6,by rw[oB];lia,λst y0=>?_⟩
 have Hj:∀z:Str,z∈ys++fs↔∃v:List Nat,z=S v∧v.length≤kn∧v.Sublist (u++[c]):=λz=>by
  rw[oJ,hC.2.2,←hfs,oU];constructor
  ·rintro(⟨v,h1,h2,h3⟩|⟨y,hy,e⟩)
   ·exact⟨v,h1,h2,sub_snoc.mpr (.inl h3)⟩
   ·obtain⟨h1,h2⟩:=lU.mp hy;obtain⟨v,g1,g2,g3⟩:=(hC.2.2 y).mp h1;have h3:y.length<kn:=of_decide_eq_true h2;rw[g1,Xq]at h3;refine⟨v++[c],?_,by rw[oB];show v.length+1≤kn;lia,sub_snoc.mpr (.inr ⟨v,rfl,g3⟩)⟩;rw[←e,g1,Li]
  ·rintro⟨v,h1,h2,h3⟩
   rcases sub_snoc.mp h3 with q|⟨v',rfl,q⟩
   ·exact .inl ⟨v,h1,h2,q⟩
   ·rw[oB]at h2;have sG:v'.length+1≤kn:=h2;refine .inr ⟨S v',lU.mpr ⟨hC.mem.mpr ⟨by lia,q⟩,decide_eq_true (by rw[Xq];lia)⟩,?_⟩;rw[h1,Li]
 refine⟨st,_,_,rfl,Zc,λzs nd hz=>?_,λzs lq nd hz so c7=>?_⟩
 ·have:=hF zs nd λz yW=>by
   obtain⟨v,h1,h2,h3⟩:=(Hj z).mp (hz z yW);exact⟨v,h1,h2,λd hd=>hL d (h3.subset hd)⟩
  lia
 ·have e7:=(((e4.trans s5).trans s6).trans (Zd y0 (Cc w st (ys++fs) (ys++fs).length))).trans (Zd c7 (.lst (zs.map V.str)));refine⟨lq,_,rfl,.inl ⟨SqL.of Zc,λtq htq=>?_⟩⟩;exact k tq zs _ (e7.trans (Zd htq _)) Zc ⟨nd,so,λz=>(hz z).trans (Hj z)⟩
def Zne(H:Hp)(m:Addr)(l:Str)(b:Nat)(es:List Nat)(st:WA):Prop:=∃(e s:Addr) (ras:VB),H m=some (.tup [.str l,nI b,.ref e,.ref s])∧H e=some (.tup (es.map nI))∧H s=some (.tup (ras.map V.ref))∧ras.length=st.length∧∀(i:Nat) a r,ras[i]?=some a→st[i]?=some r→H a=some (.tup (r.map nI))
theorem Tk.t(e:Uv Pt H H')(t:Tb Pt L H):Tk H H':=λb ys h=>e b _ (λz=>by
 obtain⟨ps,hp,_⟩:=t;rw[z,hp]at h
 cases h) h
theorem Zne.keep{b:Nat}(h:Zne H m l b es st)(k:Tk H H'):Zne H' m l b es st:=by
 obtain⟨e,s,ras,h1,h2,h3,h4,h5⟩:=h;exact⟨e,s,ras,k _ _ h1,k _ _ h2,k _ _ h3,h4,λi a r q1 q2=>k _ _ (h5 i a r q1 q2)⟩
theorem Yc.keep{H H':Hp}{m:Addr}{l:Str}{b:Nat}{es:List Nat}{st:WA}(h:Yc H m l b es st)(k:Tk H H'):Yc H' m l b es st:=⟨Zne.keep (b:=b) h.lay k,h.few,h.beg,h.rows⟩
theorem Tb.Zih{P2:Addr}{L2:VP}(t:Tb P2 L2 H)(t1:Tb Pt L H)(n:P2≠Pt)(e:Uv Pt H H'):Tb P2 L2 H':=by
 obtain⟨ps,h1,h2,h3⟩:=t;obtain⟨qs,g1,_⟩:=t1;exact⟨ps,e _ _ n h1,h2,λx hx=>(h3 x hx).imp id λ⟨c,a,b⟩=>⟨c,a,e _ _ (Yt b g1 λz=>nomatch z) b⟩⟩
theorem U7{α:Type} [DecidableEq α] {a:List α}:∀{b:List α},a.Nodup→(∀c∈a,c∈b)→a.length≤b.length:=by
 induction a with
 |nil=>intro b _ _;exact lB _
 |cons x r ih=>
  intro b nd h;rw[iR]at nd;have hx:x∈b:=h x oE;have:=ih (b:=b.erase x) nd.2 λc hc=>(YZ λe=>nd.1 (by rw[←e];exact hc)).mpr (h c (oO _ hc));rw[ZM hx]at this;have hp:=iC hx;rw[oR];lia
def subs{α:Type}:List α→List (List α)
 |[]=>[[]]
 |a :: r=>subs r++(subs r).map (a :: ·)
theorem Jf{α:Type}:∀l:List α,(subs l).length=2 ^ l.length
 |[]=>rfl
 |a :: r=>by
  show (subs r++(subs r).map (a :: ·)).length=_;rw[oB,rW,Jf r,oR,Nat.pow_succ];lia
theorem U4{α:Type}(p:α→Bool):∀l:List α,l.filter p∈subs l
 |[]=>rY.mpr rfl
 |a :: r=>by
  show (a :: r).filter p∈subs r++(subs r).map (a :: ·);rw[lM]
  by_cases h:p a=true
  ·rw[if_pos h];exact oX _ (oU.mpr ⟨_,U4 p r,rfl⟩)
  ·rw[if_neg h];exact lF _ (U4 p r)
def W15(k:Nat)(L:List Nat):Prop:=∃all:List Str,all.length≤15∧∀v:List Nat,v.length≤k→(∀c∈v,c∈L)→S v∈all
theorem W15.few{k:Nat}{L:List Nat}(h:W15 k L):Zsc k L:=λzs nd hz=>by
 obtain⟨all,h1,h2⟩:=h
 have:=U7 nd (b:=all) λy hy=>by
  obtain⟨v,e,q1,q2⟩:=hz y hy;rw[e];exact h2 v q1 q2
 lia
def Qs(ys:List Str)(r:Nat):NK:=[.inr (ys.map Sum.inr),.inl (.inl (r:Int))]
def Zs8(k:Nat)(l:Str)(st:WA)(b:Nat):Gu:=λu x=>∃ys,Cls k u ys∧x=Qs ys (way l st b u)
theorem Zel{ys:List Str}(h:(ys.map Sum.inr:List Key)=zs.map Sum.inr):ys=zs:=(List.map_inj_right λ_ _ q=>Sum.inr.inj q).mp h
theorem Ex(h:Qs ys r=Qs zs s):ys=zs∧r=s:=by
 unfold Qs at h
 injection h with h1 h2
 injection h2 with h3 _
 have h4:=Sum.inl.inj (Sum.inl.inj h3);exact⟨Zel (Sum.inr.inj h1),by lia⟩
def Zcq:List Key→List Str
 |[]=>[]
 |.inr s :: r=>s :: Zcq r
 |.inl _ :: r=>Zcq r
theorem Qy:∀ys:List Str,Zcq (ys.map Sum.inr)=ys
 |[]=>rfl
 |y :: ys=>congrArg (y :: ·) (Qy ys)
theorem Zow{k:Nat}{b:Nat}(hW:W15 k l.cps.toList)(hn:st.length≤6)(Zj7:∀u:List Nat,(∀c∈u,c∈l.cps.toList)→way l st b u<st.length)(hsn:∀(u:List Nat) c,way l st b (u++[c])=stp l st (way l st b u) c):Zsb [false,true] l (Zs8 k l st b) 200000:=by
 refine⟨λu x h=>?_,λu x y h g=>?_,λu v x c y h g q=>?_,λks nd hk=>?_,by decide⟩
 ·obtain⟨ys,_,rfl⟩:=h;rfl
 ·obtain⟨ys,h1,rfl⟩:=h;obtain⟨zs,g1,rfl⟩:=g;rw[h1.one g1 λ_ _=>Iff.rfl]
 ·obtain⟨ys,h1,rfl⟩:=h;obtain⟨zs,g1,e⟩:=g;obtain⟨e1,e2⟩:=Ex e;subst e1;obtain⟨us,q1,rfl⟩:=q;have al:=h1.al g1;refine⟨us,⟨q1.1,q1.2.1,λz=>?_⟩,by rw[hsn,hsn,e2]⟩;rw[q1.2.2];constructor
  ·rintro⟨w,a1,a2,a3⟩;exact⟨w,a1,a2,(Ze6 al c w a2).mp a3⟩
  ·rintro⟨w,a1,a2,a3⟩;exact⟨w,a1,a2,(Ze6 al c w a2).mpr a3⟩
 ·obtain⟨all,h1,h2⟩:=hW
  let f:NK→List Str×Nat:=λx=>match x with
   |[.inr ys,.inl (.inl r)]=>(all.filter λz=>decide (z∈Zcq ys),r.toNat)
   |_=>([],0)
  have fv:∀ys r,f (Qs ys r)=(all.filter λz=>decide (z∈ys),r):=λys r=>by
   show (all.filter λz=>decide (z∈Zcq (ys.map Sum.inr)),((r:Nat):Int).toNat)=_;rw[Qy];rfl
  have inj:∀x∈ks,∀y∈ks,f x=f y→x=y:=λx hx y hy e=>by
   obtain⟨u,hu,ys,cu,rfl⟩:=hk x hx;obtain⟨v,hv,zs,cv,rfl⟩:=hk y hy;rw[fv,fv]at e
   injection e with e1 e2
   have:ys=zs:=by
    refine cu.one cv λw hw=>?_
    have key:∀{u:List Nat}{ys:List Str},(∀c∈u,c∈l.cps.toList)→Cls k u ys→(w.Sublist u↔S w∈all.filter λz=>decide (z∈ys)):=λ{u ys} hu cu=>by
     rw[lU,decide_eq_true_eq,cu.mem];exact⟨λq=>⟨h2 w hw λc hc=>hu c (q.subset hc),hw,q⟩,λq=>q.2.2⟩
    rw[key hu cu,key hv cv,e1]
   rw[this,e2]
  have fK:(ks.map f).Nodup:=by
   rw[iL]at nd ⊢;rw[cD];exact List.Pairwise.imp_of_mem (λ{x y} hx hy ne e=>ne (inj x hx y hy e)) nd
  have le:=U7 fK (b:=(subs all).flatMap λs=>(List.range 6).map λr=>(s,r)) λp hp=>by
   obtain⟨x,hx,rfl⟩:=oU.mp hp;obtain⟨u,hu,ys,cu,rfl⟩:=hk x hx;rw[fv];refine cW.mpr ⟨_,U4 _ _,oU.mpr ⟨_,lZ.mpr ?_,rfl⟩⟩;have:=Zj7 u hu;lia
  rw[rW]at le
  have fl:∀L:List WW,(L.flatMap λs=>(List.range 6).map λr=>(s,r)).length=L.length*6:=λL=>by
   induction L with
   |nil=>rfl
   |cons s L ih=>rw[aI,oB,ih,rW,dS,oR];lia
  rw[fl,Jf]at le;have:2 ^ all.length≤2 ^ 15:=aS (by decide) h1;lia
theorem Lc(i:Nat)(es:List Nat):inV (nI i) (es.map nI)=decide (i∈es):=by
 unfold inV;rw[List.any_map,lH,dM,decide_eq_true_eq];constructor
 ·rintro⟨x,hx,e⟩;have:(((x:Nat):Int)==((i:Nat):Int))=true:=e;have:=eq_of_beq this;rw[show i=x by lia];exact hx
 ·intro h;refine⟨i,h,?_⟩;show (((i:Nat):Int)==((i:Nat):Int))=true;simp
theorem Ky(ys:List Str):(ys.map Sum.inr:List Key).map kV=ys.map V.str:=by
 rw[lW];rfl
theorem A8(h:NAt H (Qs ys r) a):∃b,H a=some (.tup [.ref b,nI r])∧H b=some (.tup (ys.map V.str)):=by
 obtain⟨vs,h1,h2⟩:=h
 cases h2 with
 | @tup ks b _ _ q t=>
  cases t with
  | @key k _ _ t2=>
   cases t2;rw[Ky]at q;exact⟨b,h1,q⟩
theorem A7{b:Addr}(h1:H a=some (.tup [.ref b,nI r]))(h2:H b=some (.tup (ys.map V.str))):NAt H (Qs ys r) a:=⟨_,h1,.tup (by rw[Ky];exact h2) (.key .nil)⟩
theorem Rn(l:Str)(st:WA)(b:Nat)(u:List Nat)(c:Nat):way l st b (u++[c])=stp l st (way l st b u) c:=by
 unfold way;rw[ZV];rfl
theorem cls_nil(k:Nat):Cls k [] [S []]:=by
 refine⟨by simp,rfl,λy=>?_⟩;rw[rY];constructor
 ·rintro rfl;exact⟨[],rfl,lB _,List.Sublist.refl _⟩
 ·rintro⟨v,e,_,h⟩;rw[e,List.sublist_nil.mp h]
theorem K8{k:List Key}(h:k∉kvs.map (·.1)):W8 kvs k=none:=by
 induction kvs with
 |nil=>rfl
 |cons p r ih=>
  rw[lG,oH]at h;rw[Sb λe=>h (.inl e.symm)];exact ih λz=>h (.inr z)
theorem Zdj{k:List Key}(h:k∈kvs.map (·.1)):∃v,W8 kvs k=some v:=by
 induction kvs with
 |nil=>cases h
 |cons p r ih=>
  by_cases e:p.1=k
  ·exact⟨_,Rr e⟩
  ·rw[lG]at h
   rcases oH.mp h with z|z
   ·exact absurd z.symm e
   ·obtain⟨v,hv⟩:=ih z;exact⟨v,by rw[Sb e,hv]⟩
theorem Zbs{b:Addr}(e:Uv Pt H H')(t:Tb Pt L H')(h:H' b=none):H b=none:=by
 cases z:H b with
 |none=>rfl
 |some o=>
  have ne:b≠Pt:=λq=>by
   obtain⟨ps,hp,_⟩:=t;rw[q,hp]at h;cases h
  rw[e b o ne z]at h;cases h
abbrev Nd:List (Pos×Str):=[(⟨40,4,41,90⟩,"taken_words"++".<locals>."++"step")]
structure Tkn(k:Nat)(l:Str)(st:WA)(b:Nat)(es:List Nat)(kvs:TB):Prop where
 nd:(kvs.map (·.1)).Nodup
 tx:∀x∈kvs,∃(u:List Nat) (ys:List Str),(∀c∈u,c∈l.cps.toList)∧Cls k u ys∧x.1=ys.map Sum.inr∧x.2=.str (S u)∧way l st b u∈es∧u.length≤200000
 all:∀u:List Nat,(∀c∈u,c∈l.cps.toList)→way l st b u∈es→∃x∈kvs,∃ys,Cls k u ys∧x.1=ys.map Sum.inr
 few:kvs.length≤200000
inductive Znt(Px:Addr)(vs:List V)(H:Hp)(Q:VK):Prop
 |mk(m:Addr)(l:Str)(b:Nat)(es:List Nat)(st:WA)(k:Nat)(h1:vs=[.ref m,nI k])(h2:Yc H m l b es st)(h3:st.length≤6)(h4:W15 k l.cps.toList)(h5:k≤10)(h6:Tb Px Nd H)(h7:∀d kvs H',Uv Px H H'→Tb Px Nd H'→H d=none→H' d=some (.dT kvs)→Tkn k l st b es kvs→Q (.ref d) H'):Znt Px vs H Q
def Zpo(Px:Addr):Sp:=λvs H Q _=>Znt Px vs H Q
theorem Ig(F:Fun K "taken_words" "taken_words" Y2 f fd)(Z:Blt mg){cw:Addr}(De:fd.code=.ref cw)(CH:W.CodeHd base cw Px)(BM:Mf mg base)
  (CW:∀base,Cal P w K mg base "walked" 3 UZ (Zhu P w K mg base 2 [false,true])) (CB:∀base,Cal P w K mg base "words_behind" 1 ["words","letter","k"] Zsz) (CR:∀base,Cal P w K mg base "room_behind" 1 ["machine","room","text"] Jl):Ya P w K mg base CX0 4 f fd ["machine","k"] (Zpo Px):=by
 refine F.okC Wa (λvs H Q E h=>?_) (λA outer s H vs Q E hr h=>?_)
 ·obtain⟨m,l,b,es,st,k,rfl,_⟩:=h;rfl
 obtain⟨m,l,b,es,st,kn,rfl,M,hs6,hW,qX,TX,kt⟩:=h;have Zfe:∀x∈Nd,x.1.line=(⟨40,4,41,90⟩:Pos).line→x.1.col=(⟨40,4,41,90⟩:Pos).col→x.2 = "taken_words"++".<locals>."++"step":=λx hx _ _=>by rw[rY.mp hx]
 let Zo9:=Nd
 have Zlg:=CW base
 refine⟨_,(Ze (Zec (i:=2) (L:=Zo9) (sc:=Zh Y2) Wa.nd (by rfl) (Or.inl (by rfl)) De CH BM (by first|exact oE|exact oO _ oE) Zfe) 
   (Ze (Zr (i:=3) Wa.nd (by rfl) (Or.inl (by rfl)) (Ztt Zlg (hr.mono (by decide)) (Za (Zs (Zo (K:=K)) (pv 0) Zf (λ_ _=>rfl)) (Za (Z2 (Za (Z2 (Za Z4 Zb)) (Za (Zs (Zo (K:=K)) (pv 0) Zf (λ_ _=>rfl)) Zb))) (Za (pv 2) Zb))))) 
   (Ze (Zr (i:=4) Wa.nd (by rfl) (Or.inl (by rfl)) Ah) 
   (Ze (Xp lI (by rfl) (Zi8 (P:=P) (w:=w) (sh:=[false,true]) (pv 3)) (Zn (i:=5) Wa.nd (by rfl) (Or.inl (by rfl))) 
    (Zg (Yd (Zp (Qi (K:=K)) (Zs (Zo (K:=K)) (pv 5) Zf (λ_ _=>rfl)) (Zs (Zo (K:=K)) (pv 0) Zf (λ_ _=>rfl)) (by with_unfolding_all rfl)) 
     (Zg (Xu (Zjb (Sn hr) (pv 4) (Zs (Zo (K:=K)) (pv 5) Zf (λ_ _=>rfl)) (Aj (P:=P) (w:=w) (sh:=[false,true]) (hu2 hr) (pv 3) (pv 5) (λ_ _=>rfl)) ⟨rfl,rfl,rfl,rfl⟩))) Zu))) 
   (Zg (Zl (pv 4))))))),?_⟩
 refine⟨TX,λH2 f2 c2 ct2 zN e2 sW qK mY i7=>?_⟩;have M2:=M.keep (Tk.t e2 TX);obtain⟨eA,sA,rA,g1,g2,g3,g4,g5⟩:=id M2.lay;refine⟨_,rfl,m,_,_,_,rfl,rfl,SqT.of g1,Zj (j:=0) rfl,(by show 1≤sizeLine;decide),λt1 n1=>?_⟩;generalize eZ:upd H2 t1 _=H3;have s3:=nS7 eZ n1;have h3:=nU7 eZ;refine⟨_,rfl,m,_,_,_,rfl,rfl,SqT.of (s3 _ _ g1),Zj (j:=1) rfl,(by show 2≤sizeLine;decide),λa0 n0=>?_⟩;generalize eZ:upd H3 a0 _=H4;have s4:=nS7 eZ n0;have h4:=nU7 eZ;have mS:=s3.trans s4;have mU:=s4 _ _ h3;have g0:=none_of s3 n0;have M4:=M2.same mS;refine⟨_,rfl,λW5 B=>?_⟩;have Fz:=CR W5;have Gy:=CB W5;have Zj7:∀u:List Nat,(∀c∈u,c∈l.cps.toList)→way l st b u<st.length:=λu hu=>Mh M u b M.beg hu;refine⟨_,_,CW W5,f2,_,["place","letter"],l,a0,Qs [S []] b,Zs8 kn l st b,(λH=>Yc H m l b es st∧H c2=some (CdO c2 ("taken_words"++".<locals>."++"step"))),200000,?_,?_,?_,rfl,A7 h4 (by rw[mU,Dy];rfl),⟨_,cls_nil kn,rfl⟩,Zow hW hs6 Zj7 (Rn l st b),mS _ _ mY,⟨M4,mS _ _ i7⟩,λd xs H5 hd e5 T5 zF=>?_⟩
 ·refine Zrw (N:=["place","letter","k","machine"]) (fv:=[nI kn,.ref m]) ⟨rfl,rfl,rfl,by decide,rfl,by decide +kernel,by decide +kernel⟩ (B.cl (sc:=Zh Y2) [1,0] rfl (by decide +kernel) rfl rfl (λj i x a b=>?_) (λj i x a b=>?_)) (λvs H Q E h=>?_) (λvs H Q E h=>?_) (λA outer s H vs Q E hr h=>?_)
  ·match j,a,b with
   | 0,a,b=>cases a;cases b;exact⟨rfl,rfl⟩
   | 1,a,b=>cases a;cases b;exact⟨rfl,rfl⟩
   |j+2,a,_=>simp at a
  ·match j,a,b with
   | 0,a,b=>cases a;cases b;rfl
   | 1,a,b=>cases a;cases b;rfl
   |j+2,a,_=>simp at a
  ·obtain⟨a,u,x,c,rfl,_⟩:=h;rfl
  ·obtain⟨a,u,x,c,rfl,_,_,_,_,h1,h2,_⟩:=h;exact⟨h1,h2.2⟩
  ·obtain⟨a,u,x,c,rfl,ha,⟨ys,hC,rfl⟩,hu,hc,h1,⟨q1,_⟩,k⟩:=h;obtain⟨b0,j9,vM⟩:=A8 ha;refine⟨_,(Zg (Zl (Z2 (Za (Z5 Gy (hr.mono (by decide)) (Za (Zs (Zo (K:=K)) (pv 0) Zf (λ_ _=>rfl)) (Za (pv 1) (Za (pv 2) Zb)))) (Za (Z5 Fz (hr.mono (by decide)) (Za (pv 3) (Za (Zs (Zo (K:=K)) (pv 0) Zf (λ_ _=>rfl)) (Za (pv 1) Zb)))) Zb))))),?_⟩
   have xO:∀d∈u++[c],d∈l.cps.toList:=λd hd=>by
    rcases oJ.mp hd with z|z
    ·exact hu d z
    ·rw[rY.mp z];exact hc
   refine⟨_,rfl,a,_,_,_,rfl,rfl,SqT.of j9,Zj (j:=0) rfl,_,rfl,_,rfl,b0,c,kn,u,l.cps.toList,ys,rfl,vM,hC,xO,hW.few,qX,λq m6 H' e hq hC'=>?_⟩;refine⟨_,rfl,_,rfl,a,_,_,_,rfl,rfl,SqT.of (e _ _ j9),Zj (j:=1) rfl,_,rfl,m,l,b,es,st,way l st b u,one c,rfl,q1.same e,Zj7 u hu,λd hd=>by rw[rY.mp hd];exact hc,(by show 2≤sizeLine;decide),λr y4=>?_⟩;have s6:=Zd y4 (.tup [.ref q,nI (way l st (way l st b u) (one c).cps.toList)]);refine k r (Qs m6 (way l st b (u++[c]))) _ (e.trans s6) (A7 (b:=q) ?_ (s6 _ _ hq)) ⟨m6,hC',rfl⟩;rw[Zc,Rn];rfl
 ·exact .all λus hl=>match us,hl with|[_,_],_=>rfl
 ·exact λH1 H2 e ⟨a1,a2⟩=>⟨a1.same e,e _ _ a2⟩
 intro td pE;have Zul:=none_of e5 pE;generalize eZ:upd H5 td _=H6;have s6:=nS7 eZ pE;have h6:=nU7 eZ;have e46:=e5.trans s6;have T6:=T5.same s6;have ndt:d≠td:=Zi T5.at_ pE;refine⟨_,rfl,d,xs,rfl,T6.at_,λo=>?_⟩;have e7:=Xe e46 hd (.frz o (dN P w [false,true] d xs));have h7d:upd H6 d (.frz o (dN P w [false,true] d xs)) d=_:=Zc;have gB:upd H6 d (.frz o (dN P w [false,true] d xs)) td=some (.dT []):=(Zk ndt.symm).trans h6
 have k7:∀x∈xs,NAt (upd H6 d (.frz o (dN P w [false,true] d xs))) x.1 x.2.1:=λx hx=>(T6.tab.keys x hx).keep λq ys z=>by
  rw[Zk (Yt z T6.at_ λz=>nomatch z)];exact z
 generalize upd H6 d _=H7 at e7 h7d gB k7;have hB:=T5.few (Zow hW hs6 Zj7 (Rn l st b))
 refine Zgh (a:=d) (o:=o) (u:=dN P w [false,true] d xs) (bs:=xs.map (·.2.1)) (λi σ H8=>∃(kvs:TB) (v5:Option V),σ=[some (.ref m),some (nI kn),some (.ref f2),some (.ref d),some (.ref td),v5]∧H8 td=some (.dT kvs)∧H8 d=some (.frz o (dN P w [false,true] d xs))∧Zt H4 H8∧(∀x∈xs,NAt H8 x.1 x.2.1)∧kvs.length≤i∧(kvs.map (·.1)).Nodup∧(∀x∈kvs,∃(u:List Nat) (ys:List Str),(∀c∈u,c∈l.cps.toList)∧Cls kn u ys∧x.1=ys.map Sum.inr∧x.2=.str (S u)∧way l st b u∈es∧u.length≤200000)∧∀j,j<i→∀x,xs[j]?=some x→∀u ys,Cls kn u ys→x.1=Qs ys (way l st b u)→way l st b u∈es→(ys.map Sum.inr:List Key)∈kvs.map (·.1))
  ⟨[],none,rfl,gB,h7d,e7,k7,rX _,by simp,nofun,λj z=>absurd z (by lia)⟩ (λi σ H8 _ h=>?_) ?_ ?_
 ·obtain⟨_,_,_,_,h8,_⟩:=h;exact h8
 ·rintro i pa σ H8 yR ⟨kvs,v5,rfl,yD,gC,e8,k8,hlen,tN,tU,uY⟩;rw[oP]at yR
  cases hx:xs[i]? with
  |none=>rw[hx]at yR;cases yR
  |some x=>
   rw[hx]at yR;cases yR;have r9:=oM hx;have o4:=(oG.mp hx).1;obtain⟨u,hu,⟨ys,hC,xJ⟩,hxv,kH⟩:=T5.tx x r9;have hna:=k8 x r9;have Zuo:=hna;rw[xJ]at Zuo;obtain⟨b0,j9,vM⟩:=A8 Zuo;have M8:=M4.same e8;obtain⟨eA,sA,rA,g1,g2,g3,g4,g5⟩:=id M8.lay;refine⟨_,rfl,x.2.1,_,_,_,rfl,rfl,SqT.of j9,Zj (j:=1) rfl,_,rfl,m,_,_,_,rfl,rfl,SqT.of g1,Zj (j:=2) rfl,eA,_,rfl,.inr (SqT.of g2),rfl,N4 es,_,rfl,?_⟩;have w5:(if false=true then !inV (nI (way l st b u)) (es.map nI) else inV (nI (way l st b u)) (es.map nI))=decide (way l st b u∈es):=Lc _ _
   have zE:∀{Zf3:TB},(∀q∈kvs.map (·.1),q∈Zf3.map (·.1))→(way l st b u∈es→(ys.map Sum.inr:List Key)∈Zf3.map (·.1))→∀j,j<i+1→∀x,xs[j]?=some x→∀u ys,Cls kn u ys→x.1=Qs ys (way l st b u)→way l st b u∈es→(ys.map Sum.inr:List Key)∈Zf3.map (·.1):=λ{Zf3} h1 h2 j hj x' m9 u' m6 c1 c2 c3=>by
    by_cases z:j=i
    ·rw[z,hx]at m9;cases m9;rw[xJ]at c2;obtain⟨q1,q2⟩:=Ex c2;subst q1;exact h2 (by rw[q2];exact c3)
    ·exact h1 _ (uY j (by lia) x' m9 u' m6 c1 c2 c3)
   show if (if false=true then !inV (nI (way l st b u)) (es.map nI) else inV (nI (way l st b u)) (es.map nI))=true then _ else _
   rw[w5];refine Xx (λc1=>?_) (λc1=>?_)
   ·have c2:way l st b u∈es:=of_decide_eq_true c1;refine⟨_,rfl,td,rfl,.inr ⟨_,.inl yD⟩,_,rfl,x.2.1,_,_,_,rfl,rfl,SqT.of j9,Zj (j:=0) rfl,_,rfl,_,rfl,d,xs,x.1,x.2.1,x.2.2,rfl,rfl,⟨.inr ⟨o,gC⟩,k8,T6.tab.Ho⟩,hna,T6.tab.Ho x r9,D6 T6.nd r9,kvs,ys.map Sum.inr,b0,yD,rfl,by rw[Ky];exact vM,by rw[sizeLine_eq];lia,λv hv=>?_,λhv=>?_⟩
    ·refine⟨kvs,_,rfl,yD,gC,e8,k8,by lia,tN,tU,zE (λq h=>h) λ_=>?_⟩;exact dX λz=>by rw[K8 z]at hv;cases hv
    ·have w8:(ys.map Sum.inr:List Key)∉kvs.map (·.1):=λz=>by
      obtain⟨v,tD⟩:=Zdj z;rw[tD]at hv;cases hv
     rw[J5 _ hv];refine⟨kvs++[(ys.map Sum.inr,x.2.2)],_,rfl,Zc,(Zk ndt).trans gC,Xe e8 Zul _,λy hy=>(k8 y hy).keep (Tk.dct yD _),by rw[oB];show kvs.length+1≤i+1;lia,?_,λy hy=>?_,zE (λq h=>?_) λ_=>?_⟩
     ·rw[oK,cC];refine⟨tN,by simp,λp hp q hq e=>w8 ?_⟩;have:q=ys.map Sum.inr:=by simpa using hq
      rw[←this,←e];exact hp
     ·rcases oJ.mp hy with z|z
      ·exact tU y z
      ·rw[rY.mp z];exact⟨u,ys,hu,hC,rfl,hxv,c2,kH⟩
     ·rw[oK];exact lF _ h
     ·rw[oK];exact oX _ (rY.mpr rfl)
   ·have c2:way l st b u∉es:=λz=>c1 (decide_eq_true z);exact⟨kvs,_,rfl,yD,gC,e8,k8,by lia,tN,tU,zE (λq h=>h) λz=>absurd z c2⟩
 ·rintro σ H8 ⟨kvs,v5,rfl,yD,gC,e8,k8,hlen,tN,tU,uY⟩;rw[rW]at hlen uY;refine⟨_,rfl,kt td kvs H8 (e2.trans (mS.trans e8).t) (sW.same (mS.trans e8)) (Zbs e2 sW (none_of mS Zul)) yD ⟨tN,tU,λu hu hue=>?_,by lia⟩⟩
  ·obtain⟨x,hx,ys,hC,xJ⟩:=zF u hu;obtain⟨j,hj⟩:=aM.mp hx;have h9:=uY j (oG.mp hj).1 x hj u ys hC xJ hue;obtain⟨y,hy,e⟩:=oU.mp h9;exact⟨y,hy,ys,hC,e⟩
abbrev tvS(r:List Str):List V:=r.map V.str
theorem C7(z:Str)(r:List Str):inV (.str z) (tvS r)=decide (z∈r):=by
 unfold inV;rw[List.any_map,lH,dM,decide_eq_true_eq];constructor
 ·rintro⟨x,hx,e⟩;have:(x==z)=true:=e;rw[←eq_of_beq this];exact hx
 ·intro h;refine⟨z,h,?_⟩;show (z==z)=true;simp
theorem Lf(r:List Str):(tvS r).all Us=true:=by
 rw[List.all_map];exact cF.mpr λ_ _=>rfl
def hav(z:Str)(rs:WT):List WW:=rs.filter λr=>decide (z∈r)
def lac(z:Str)(rs:WT):List WW:=rs.filter λr=>!decide (z∈r)
inductive Zh4(g:Str→List WW→List WW)(vs:List V)(H:Hp)(Q:VK):Prop
 |mk(p:Addr)(z:Str)(xs:List V)(rs:WT)(h1:vs=[.ref p,.str z])(h2:H p=some (.lst xs))(h3:TR tvS H xs rs)(h4:rs.length≤200000)(h5:∀q ys H',Zt H H'→H q=none→H' q=some (.lst ys)→TR tvS H' ys (g z rs)→Q (.ref q) H'):Zh4 g vs H Q
def Lo(g:Str→List WW→List WW):Sp:=λvs H Q _=>Zh4 g vs H Q
theorem Zft(F:Fun K "having" "having" Nk f fd)(Z:Blt mg):Ya P w K mg base CX0 1 f fd WZ (Lo hav):=by
 refine F.ok Zfn (λvs H Q E h=>?_) (λcdv A outer s H vs Q E hr h=>?_)
 ·obtain⟨p,z,xs,rs,rfl,_⟩:=h;rfl
 obtain⟨p,z,xs,rs,rfl,hp,R,hn,k⟩:=h;have hl:=R.len;refine⟨_,(Zg (Zl (Yo (sc:=Zh Nk) (Nm:=WZ) (own:=["row"]) (fr:=[1]) ⟨rfl,by decide +kernel,by decide +kernel,by decide +kernel,by decide +kernel⟩ (by rfl) (Ym (by decide)) (Xg (K:=K) (pv 0)) (λd=>(Zn (i:=0) A2 (by rfl) (Or.inl (by rfl)))) (λd=>(Vs (Zp (Qi (K:=K)) (pv 1) (pv 0) (by with_unfolding_all rfl)))) (λd=>(pv 0))))),?_⟩;refine⟨_,rfl,p,rfl,⟨_,SqL.of hp⟩,?_⟩
 refine Wl (K:=K) (a:=p) (xs:=xs) (λj acc H3=>Zt H H3∧acc.length≤j∧TR tvS H3 acc (hav z (rs.take j))) (by rw[sizeLine_eq];lia) ⟨Zt.refl _,rX _,.nil⟩ (λj acc H3 q=>q.2.1)
  (λj acc H3 q=>SqL.of (q.1 _ _ hp)) (λj acc H3 x hx q=>?_) (λacc H3 q y hy=>?_)
 ·obtain⟨e3,yH,R3⟩:=q;obtain⟨a,r,rfl,y4,ha⟩:=(R.keep (Tk.same e3)).at_ hx;refine⟨_,rfl,_,rfl,a,_,rfl,.inr (SqT.of ha),rfl,Lf r,_,rfl,?_⟩;show if inV (.str z) (tvS r)=true then _ else _
  rw[C7];unfold hav at R3 ⊢;rw[iV,y4];refine Xx (λc1=>⟨_,rfl,e3,?_,?_⟩) (λc1=>⟨e3,by lia,?_⟩)
  ·rw[oB];show acc.length+1≤j+1;lia
  ·rw[iQ];simp only[bD,lM,c1,if_true,dJ];exact R3.snoc ha
  ·rw[iQ];simp only[bD,lM,c1,dJ];simpa using R3
 ·obtain⟨e3,yH,R3⟩:=q;rw[hl,lX]at R3;have s4:=Zd hy (.lst acc);exact k y acc _ (e3.trans s4) (none_of e3 hy) Zc (R3.keep (Tk.same s4))
theorem Zb5(F:Fun K "lacking" "lacking" Pd f fd)(Z:Blt mg):Ya P w K mg base CX0 1 f fd WZ (Lo lac):=by
 refine F.ok Zbr (λvs H Q E h=>?_) (λcdv A outer s H vs Q E hr h=>?_)
 ·obtain⟨p,z,xs,rs,rfl,_⟩:=h;rfl
 obtain⟨p,z,xs,rs,rfl,hp,R,hn,k⟩:=h;have hl:=R.len;refine⟨_,(Zg (Zl (Yo (sc:=Zh Pd) (Nm:=WZ) (own:=["row"]) (fr:=[1]) ⟨rfl,by decide +kernel,by decide +kernel,by decide +kernel,by decide +kernel⟩ (by rfl) (Ym (by decide)) (Xg (K:=K) (pv 0)) (λd=>(Zn (i:=0) C1 (by rfl) (Or.inl (by rfl)))) (λd=>(Vs (Zp (Pj (K:=K)) (pv 1) (pv 0) (by with_unfolding_all rfl)))) (λd=>(pv 0))))),?_⟩;refine⟨_,rfl,p,rfl,⟨_,SqL.of hp⟩,?_⟩
 refine Wl (K:=K) (a:=p) (xs:=xs) (λj acc H3=>Zt H H3∧acc.length≤j∧TR tvS H3 acc (lac z (rs.take j))) (by rw[sizeLine_eq];lia) ⟨Zt.refl _,rX _,.nil⟩ (λj acc H3 q=>q.2.1)
  (λj acc H3 q=>SqL.of (q.1 _ _ hp)) (λj acc H3 x hx q=>?_) (λacc H3 q y hy=>?_)
 ·obtain⟨e3,yH,R3⟩:=q;obtain⟨a,r,rfl,y4,ha⟩:=(R.keep (Tk.same e3)).at_ hx;refine⟨_,rfl,_,rfl,a,_,rfl,.inr (SqT.of ha),rfl,Lf r,_,rfl,?_⟩;show if (!inV (.str z) (tvS r))=true then _ else _
  rw[C7];unfold lac at R3 ⊢;rw[iV,y4];refine Xx (λc1=>⟨_,rfl,e3,?_,?_⟩) (λc1=>⟨e3,by lia,?_⟩)
  ·rw[oB];show acc.length+1≤j+1;lia
  ·rw[iQ];simp only[bD,lM,c1,if_true,dJ];exact R3.snoc ha
  ·rw[iQ];simp only[bD,lM,c1,dJ];simpa using R3
 ·obtain⟨e3,yH,R3⟩:=q;rw[hl,lX]at R3;have s4:=Zd hy (.lst acc);exact k y acc _ (e3.trans s4) (none_of e3 hy) Zc (R3.keep (Tk.same s4))
def lmx(a b:Nat):Nat:=if a=0∨b=0 then 0 else a+b
inductive Znz(vs:List V)(H:Hp)(Q:VK):Prop
 |mk(p q:Addr)(xs ys:List V)(h1:vs=[.ref p,.ref q])(h2:H p=some (.lst xs))(h3:H q=some (.lst ys))(h4:∀H',Zt H H'→Q (nI (lmx xs.length ys.length)) H'):Znz vs H Q
def Zs3:Sp:=λvs H Q _=>Znz vs H Q
theorem G5(F:Fun K "left_mixed" "left_mixed" S0 f fd)(Z:Blt mg):Ya P w K mg base CX0 1 f fd ["held","others"] Zs3:=by
 refine F.ok G3 (λvs H Q E h=>?_) (λcdv A outer s H vs Q E hr h=>?_)
 ·obtain⟨p,q,xs,ys,rfl,_⟩:=h;rfl
 obtain⟨p,q,xs,ys,rfl,hp,hq,k⟩:=h
 refine⟨_,(Ze (Yd (PW.pt (Si (Zp (Cu (K:=K) (Qt hr)) (pv 0) (Yk Zb) (Zw _)) (Tj (Zp (Cu (K:=K) (Qt hr)) (pv 1) (Yk Zb) (Zw _))))) 
    (Zg (Zl Zf)) Zu) 
   (Zg (Zl (Z7 Xl (Zq (Yh (K:=K)) (by rfl) Z.len Yw (Za (pv 0) Zb)) (Zq (Yh (K:=K)) (by rfl) Z.len Yw (Za (pv 1) Zb)))))),?_⟩
 have e0:∀{zs:List V},zs.isEmpty=true→zs.length=0:=λ{zs} h=>by rw[List.isEmpty_iff.mp h];rfl
 have e1:∀{zs:List V},¬ zs.isEmpty=true→zs.length≠0:=λ{zs} h z=>h (by rw[oV z];rfl);refine⟨_,rfl,(by show 0≤sizeLine;decide),λn hn=>?_⟩;generalize eZ:upd H n _=H1;have s1:=nS7 eZ hn;have g1:=nU7 eZ;refine⟨p,n,xs,rfl,rfl,SqL.of (s1 _ _ hp),SqL.of g1,_,rfl,?_⟩;refine Xx (λc1=>?_) (λc1=>?_)
 ·have:=k H1 s1;rw[show lmx xs.length ys.length=0 from if_pos (.inl (e0 c1))]at this;exact this
 ·refine⟨_,rfl,(by show 0≤sizeLine;decide),λn2 eF=>?_⟩;generalize eZ:upd H1 n2 _=H2;have s2:=nS7 eZ eF;have g2:=nU7 eZ;refine⟨q,n2,ys,rfl,rfl,SqL.of (s2 _ _ (s1 _ _ hq)),SqL.of g2,_,rfl,?_⟩;refine Xx (λc2=>?_) (λc2=>?_)
  ·have:=k H2 (s1.trans s2);rw[show lmx xs.length ys.length=0 from if_pos (.inr (e0 c2))]at this;exact this
  ·refine⟨_,rfl,p,_,rfl,.inl (SqL.of (s2 _ _ (s1 _ _ hp))),_,rfl,q,_,rfl,.inl (SqL.of (s2 _ _ (s1 _ _ hq))),_,_,rfl,rfl,?_⟩;have:=k H2 (s1.trans s2);rw[show lmx xs.length ys.length=xs.length+ys.length from if_neg (λz=>z.elim (e1 c1) (e1 c2))]at this;exact this
def kfA(rs os:WT)(z:Str):Nat:=max (lmx (hav z rs).length (hav z os).length) (lmx (lac z rs).length (lac z os).length)
abbrev Rj:List (Pos×Str):=[(⟨83,4,85,81⟩,"asking_word"++".<locals>."++"most_left")]
inductive Zh9(Py:Addr)(vs:List V)(H:Hp)(Q:VK):Prop
 |mk(wp hp op:Addr)(zs:List Str)(xs ys:List V)(rs os:WT)(h1:vs=[.ref wp,.ref hp,.ref op])(h2:H wp=some (.lst (zs.map V.str)))(h3:0<zs.length)(h4:H hp=some (.lst xs))(h5:TR tvS H xs rs)(h6:H op=some (.lst ys))(h7:TR tvS H ys os)(h8:rs.length≤200000)(h9:os.length≤200000)(yB:Tb Py Rj H)(vB:∀z H',z∈zs→(∀y∈zs,kfA rs os z≤kfA rs os y)→Uv Py H H'→Tb Py Rj H'→Q (.str z) H'):Zh9 Py vs H Q
def Zdx(Py:Addr):Sp:=λvs H Q _=>Zh9 Py vs H Q
inductive Zdr(f:Addr)(c:Addr)(fo:Option HO)(hp:Addr)(op:Addr)(xs:List V)(ys:List V)(rs:WT)(os:WT)(vs:List V)(H:Hp)(Q:VK):Prop
 |mk(z:Str)(h1:vs=[.str z])(h2:H f=fo)(h3:H c=some (CdO c ("asking_word"++".<locals>."++"most_left")))(h4:H hp=some (.lst xs))(h5:TR tvS H xs rs)(h6:H op=some (.lst ys))(h7:TR tvS H ys os)(h8:rs.length≤200000)(h9:os.length≤200000)(yB:∀H',Zt H H'→Q (nI (kfA rs os z)) H'):Zdr f c fo hp op xs ys rs os vs H Q
def Zpq(f c:Addr)(fo:Option HO)(hp op:Addr)(xs ys:List V)(rs os:WT):Sp:=λvs H Q _=>Zdr f c fo hp op xs ys rs os vs H Q
theorem Ip(F:Fun K "asking_word" "asking_word" Y3 f fd)(Z:Blt mg){cw:Addr}(De:fd.code=.ref cw)(CH:W.CodeHd base cw Py)(BM:Mf mg base)
  (CV:∀base,Cal P w K mg base "having" 1 WZ (Lo hav)) (CL:∀base,Cal P w K mg base "lacking" 1 WZ (Lo lac)) (CX:∀base,Cal P w K mg base "left_mixed" 1 ["held","others"] Zs3):Ya P w K mg base CX0 4 f fd WQ (Zdx Py):=by
 refine F.okC R8 (λvs H Q E h=>?_) (λA outer s H vs Q E hr h=>?_)
 ·obtain⟨wp,hp,op,zs,xs,ys,rs,os,rfl,_⟩:=h;rfl
 obtain⟨wp,hp,op,zs,xs,ys,rs,os,rfl,hw,pQ,hh,RH,ho,RO,nr,no,TX,kt⟩:=h;have Jc:∀x∈Rj,x.1.line=(⟨83,4,85,81⟩:Pos).line→x.1.col=(⟨83,4,85,81⟩:Pos).col→x.2 = "asking_word"++".<locals>."++"most_left":=λx hx _ _=>by rw[rY.mp hx]
 let Zo9:=Rj
 refine⟨_,(Ze (Zec (i:=3) (L:=Zo9) (sc:=Zh Y3) R8.nd (by rfl) (Or.inl (by rfl)) De CH BM (by first|exact oE|exact oO _ oE) Jc) 
   (Zg (Zl (Zl3 (K:=K) (i:=3) 2 (by rfl) (hr.mono (by decide)) (by rfl) Z.min (pv 0))))),?_⟩
 refine⟨TX,λH2 f2 c2 ct2 zN e2 sW qK mY i7=>?_⟩;have xU:=Tk.t e2 TX
 have nP:∀{b:Addr}{o:HO},H b=some o→(∀ps,o≠.tbl ps)→b≠Py:=λh no z=>by
  obtain⟨ps,hp,_⟩:=TX;rw[z,hp]at h;cases h;exact no _ rfl
 have h2w:=e2 _ _ (nP hw λps z=>nomatch z) hw;have h2h:=e2 _ _ (nP hh λps z=>nomatch z) hh;have h2o:=e2 _ _ (nP ho λps z=>nomatch z) ho;have RH2:=RH.keep xU;have RO2:=RO.keep xU
 refine⟨_,rfl,_,rfl,wp,zs.map V.str,f2,_,(λv=>match v with|.str z=>(kfA rs os z:Int)|_=>0),rfl,SqL.of h2w,by rw[rW];exact pQ,rfl,mY,λW5 B=>⟨["word"],Zpq f2 c2 (H2 f2) hp op xs ys rs os,?_,?_,λx hx H3 e3 R hR=>?_⟩,λx H3 hx hm e3=>?_⟩
 ·have V1:=CV W5;have W6:=CL W5;have Me:=CX W5;refine Zm1 (N:=["word","held","others"]) (own:=["there"]) (fv:=[.ref hp,.ref op]) ⟨rfl,rfl,rfl,by decide,rfl,by decide +kernel,by decide +kernel⟩ (B.cl (sc:=Zh Y3) [1,2] rfl (by decide +kernel) rfl rfl (λj i x a b=>?_) (λj i x a b=>?_)) (λvs H Q E h=>?_) (λvs H Q E h=>?_) (λA outer s H vs Q E hr h=>?_)
  ·match j,a,b with
   | 0,a,b=>cases a;cases b;exact⟨rfl,rfl⟩
   | 1,a,b=>cases a;cases b;exact⟨rfl,rfl⟩
   |j+2,a,_=>simp at a
  ·match j,a,b with
   | 0,a,b=>cases a;cases b;rfl
   | 1,a,b=>cases a;cases b;rfl
   |j+2,a,_=>simp at a
  ·obtain⟨z,rfl,_⟩:=h;rfl
  ·obtain⟨z,rfl,h1,h2,_⟩:=h;exact⟨h1.trans mY,h2⟩
  ·obtain⟨z,rfl,_,_,gh,Rh,go,Ro,nr,no,k⟩:=h
   refine⟨_,(Ze (Zr (i:=3) (show (["word","held","others","there"]:List Str).Nodup by decide +kernel) (by rfl) (Or.inl (by rfl)) (Z5 Me (hr.mono (by decide)) (Za (Z5 V1 (hr.mono (by decide)) (Za (pv 1) (Za (pv 0) Zb))) (Za (Z5 V1 (hr.mono (by decide)) (Za (pv 2) (Za (pv 0) Zb))) Zb)))) 
   (Zg (Zl (Zq (Zgv (by rfl)) (by rfl) Z.max Zk8 (Za (pv 3) (Za (Z5 Me (hr.mono (by decide)) (Za (Z5 W6 (hr.mono (by decide)) (Za (pv 1) (Za (pv 0) Zb))) (Za (Z5 W6 (hr.mono (by decide)) (Za (pv 2) (Za (pv 0) Zb))) Zb))) Zb)))))),?_⟩
   refine⟨_,rfl,_,rfl,hp,z,xs,rs,rfl,gh,Rh,nr,λq1 a1 H3 e3 n1 g1 T1=>?_⟩;refine⟨_,rfl,_,rfl,op,z,ys,os,rfl,e3 _ _ go,Ro.keep (Tk.same e3),no,λq2 a2 H4 e4 n2 g2 T2=>?_⟩;refine⟨q1,q2,a1,a2,rfl,e4 _ _ g1,g2,λH5 e5=>?_⟩;have sZ:=e3.trans (e4.trans e5);refine⟨_,rfl,_,rfl,_,rfl,hp,z,xs,rs,rfl,sZ _ _ gh,Rh.keep (Tk.same sZ),nr,λq3 a3 H6 e6 n3 g3 T3=>?_⟩;have zP:=sZ.trans e6;refine⟨_,rfl,_,rfl,op,z,ys,os,rfl,zP _ _ go,Ro.keep (Tk.same zP),no,λq4 a4 H7 e7 n4 g4 T4=>?_⟩;refine⟨q3,q4,a3,a4,rfl,e7 _ _ g3,g4,λH8 e8=>⟨_,_,rfl,?_⟩⟩;have l1:=T1.len;have l2:=T2.len;have l3:=T3.len;have l4:=T4.len;have:=k H8 (zP.trans (e7.trans e8))
   have ev:nI (kfA rs os z)=V.int (if ((lmx a3.length a4.length:Nat):Int)>((lmx a1.length a2.length:Nat):Int) then ((lmx a3.length a4.length:Nat):Int) else ((lmx a1.length a2.length:Nat):Int)):=by
    unfold kfA;rw[l1,l2,l3,l4];show V.int _=_
    congr 1
    split
    ·rename_i c
     rw[Nat.max_eq_right (by lia)]
    ·rename_i c
     rw[Nat.max_eq_left (by lia)]
   rw[ev]at this;exact this
 ·exact .all λus hl=>match us,hl with|[_],_=>rfl
 ·obtain⟨z,hz,rfl⟩:=oU.mp hx;exact⟨z,rfl,(e3 _ _ mY).trans mY.symm,e3 _ _ i7,e3 _ _ h2h,RH2.keep (Tk.same e3),e3 _ _ h2o,RO2.keep (Tk.same e3),nr,no,λH4 e4=>hR H4 e4⟩
 ·obtain⟨z,hz,rfl⟩:=oU.mp hx;refine kt z H3 hz (λy hy=>?_) (e2.trans e3.t) (sW.same e3);have:=hm (.str y) (oU.mpr ⟨y,hy,rfl⟩);have:((kfA rs os z:Nat):Int)≤((kfA rs os y:Nat):Int):=this;lia
inductive Wi where
 |lf (b:Bool)
 |has (z:Str)
 |nt (x:Wi)
 |bi (b:Bool) (x y:Wi)
def Wi.nm:Wi→Str
 |.lf b=>if b then "always" else "never"
 |.has _=>"has"
 |.nt _=>"not"
 |.bi b _ _=>if b then "and" else "or"
def Wi.hd:Wi→List V
 |.lf b=>[.str (Wi.lf b).nm]
 |.has z=>[.str "has",.str z]
 |.nt _=>[.str "not"]
 |.bi b x y=>[.str (Wi.bi b x y).nm]
def Wi.kd:Wi→List Wi
 |.lf _=>[]
 |.has _=>[]
 |.nt x=>[x]
 |.bi _ x y=>[x,y]
def Wi.dep:Wi→Nat
 |.lf _=>0
 |.has _=>0
 |.nt x=>x.dep+1
 |.bi _ x y=>max x.dep y.dep+1
def Wi.ok(p:Str→Prop):Wi→Prop
 |.lf _=>True
 |.has z=>p z
 |.nt x=>x.ok p
 |.bi _ x y=>x.ok p∧y.ok p
def Wi.pre:Wi→List Wi
 |.lf b=>[.lf b]
 |.has z=>[.has z]
 |.nt x=>.nt x :: x.pre
 |.bi b x y=>.bi b x y :: (x.pre++y.pre)
def Wi.wd:Wi→Option Str
 |.has z=>some z
 |_=>none
def Wi.wds(W:Wi):List Str:=W.pre.filterMap Wi.wd
theorem Wi.Zbd(x:Wi):(Wi.nt x).wds=x.wds:=by
 show (Wi.nt x :: x.pre).filterMap Wi.wd=_;rw[List.filterMap_cons_none rfl];rfl
theorem Wi.Zbe(b:Bool)(x y:Wi):(Wi.bi b x y).wds=x.wds++y.wds:=by
 show (Wi.bi b x y :: (x.pre++y.pre)).filterMap Wi.wd=_;rw[List.filterMap_cons_none rfl,List.filterMap_append];rfl
theorem Wi.Zqf{p:Str→Prop}{W:Wi}(h:W.ok p):∀z∈W.wds,p z:=by
 induction W with
 |lf b=>intro z hz;simp[Wi.wds,Wi.pre,Wi.wd]at hz
 |has y=>intro z hz;simp[Wi.wds,Wi.pre,Wi.wd]at hz;rw[hz];exact h
 |nt x ih=>intro z hz;rw[Wi.Zbd]at hz;exact ih h z hz
 |bi b x y ihx ihy=>
  intro z hz;rw[Wi.Zbe]at hz
  rcases oJ.mp hz with e|e
  ·exact ihx h.1 z e
  ·exact ihy h.2 z e
theorem Wi.Zhc{W:Wi}(h:W.wd=none)(z:Str):z∈W.wds↔∃x∈W.kd,z∈x.wds:=by
 cases W with
 |lf b=>simp[Wi.wds,Wi.pre,Wi.wd,Wi.kd]
 |has y=>cases h
 |nt x=>rw[Wi.Zbd];simp[Wi.kd]
 |bi b x y=>rw[Wi.Zbe,oJ];simp[Wi.kd]
theorem Wi.Zck{W:Wi}(h:x∈W.kd):x.dep<W.dep:=by
 cases W with
 |lf b=>cases h
 |has z=>cases h
 |nt y=>rw[rY.mp h];simp[Wi.dep]
 |bi b y z=>
  simp only[Wi.kd,oH,iO,or_false]at h
  rcases h with e|e<;>rw[e]<;>simp only[Wi.dep]<;>lia
theorem Wi.Zub{p:Str→Prop}{W:Wi}(h:W.ok p)(hx:x∈W.kd):x.ok p:=by
 cases W with
 |lf b=>cases hx
 |has z=>cases hx
 |nt y=>rw[rY.mp hx];exact h
 |bi b y z=>
  simp only[Wi.kd,oH,iO,or_false]at hx
  rcases hx with e|e
  ·rw[e];exact h.1
  ·rw[e];exact h.2
def Fw(K:W.Frag)(a:Addr)(xs:List V):Prop:=∃(o:Obj) (its:WN) (n:Nat),K.lookup a=some o∧o.cls=.type "tuple"∧o.data=.seq its n∧its.size≤sizeLine∧Vals xs its.toList
def TKt(K:W.Frag)(H:Hp)(a:Addr)(xs:List V):Prop:=H a=some (.tup xs)∨Fw K a xs
theorem TKt.sq(h:TKt K H a xs):SqT K H a xs:=h.elim (λz=>SqT.of z) .inr
theorem TKt.keep(h:TKt K H a xs)(k:Tk H H'):TKt K H' a xs:=h.imp (k _ _) id
inductive WK(K:W.Frag)(H:Hp):V→Wi→Prop where
 |mk{a:Addr}{vs:List V}{W:Wi}(h:TKt K H a (W.hd++vs))(hl:vs.length=W.kd.length)(hk:∀(i:Nat) v x,vs[i]?=some v→W.kd[i]?=some x→WK K H v x):WK K H (.ref a) W
theorem WK.keep{K:W.Frag}{H H':Hp}(k:Tk H H'){v:V}{W:Wi}(h:WK K H v W):WK K H' v W:=by
 induction h with
 |mk h hl _ ih=>exact .mk (h.keep k) hl ih
def Zq2(b:Bool):Wi→Bool
 |.lf c=>c==b
 |_=>false
theorem Kp{b:Bool}(h:TKt K H a [.str (Wi.lf b).nm]):WK K H (.ref a) (.lf b):=.mk (vs:=[]) h rfl λi v x q=>by simp at q
theorem Zg8(h:H a=some (.tup [.str "has",.str z])):WK K H (.ref a) (.has z):=.mk (vs:=[]) (.inl h) rfl λi v x q=>by simp at q
theorem Zg7(h:H a=some (.tup [.str "not",v]))(hx:WK K H v x):WK K H (.ref a) (.nt x):=.mk (vs:=[v]) (.inl h) rfl λi u y p q=>by
 cases i with
 |zero=>cases p;cases q;exact hx
 |succ i=>simp at p
theorem Zg9{b:Bool}{u:V}{y:Wi}(h:H a=some (.tup [.str (Wi.bi b x y).nm,u,v]))(hx:WK K H u x)(hy:WK K H v y):WK K H (.ref a) (.bi b x y):=.mk (vs:=[u,v]) (.inl h) rfl λi u' z p q=>by
 match i,p,q with
 | 0,p,q=>cases p;cases q;exact hx
 | 1,p,q=>cases p;cases q;exact hy
 |i+2,p,_=>simp at p
theorem Zll{W:Wi}(h:WK K H v W)(b:Bool):∃a z xs,v=.ref a∧SqT K H a (.str z :: xs)∧(z=(Wi.lf b).nm→xs=[])∧decide (z=(Wi.lf b).nm)=Zq2 b W:=by
 cases h with
 | @mk a vs _ h hl hk=>
  cases W with
  |lf c=>
   have hv:vs=[]:=oV hl;subst hv;refine⟨a,(Wi.lf c).nm,[],rfl,h.sq,λ_=>rfl,?_⟩;cases b<;>cases c<;>decide +kernel
  |has z=>exact⟨a,"has",.str z :: vs,rfl,h.sq,λe=>absurd e (by cases b<;>decide +kernel),show decide (("has" : Str)=(Wi.lf b).nm)=false by cases b<;>decide +kernel⟩
  |nt x=>exact⟨a,"not",vs,rfl,h.sq,λe=>absurd e (by cases b<;>decide +kernel),show decide (("not" : Str)=(Wi.lf b).nm)=false by cases b<;>decide +kernel⟩
  |bi c x y=>exact⟨a,(Wi.bi c x y).nm,vs,rfl,h.sq,λe=>absurd (show (if c then ("and" : Str) else "or")=(Wi.lf b).nm from e) (by cases b<;>cases c<;>decide +kernel),show decide ((if c then ("and" : Str) else "or")=(Wi.lf b).nm)=false by cases b<;>cases c<;>decide +kernel⟩
theorem Dl{u:V}{t:Wi}{b:Bool}(h:WK K H u t){aX:Addr}(kX:Fw K aX [.str (Wi.lf b).nm])(hq:Q (.bl (Zq2 b t)) H):Zof K u (.ref aX) H Q:=by
 obtain⟨a,z,xs,e,h1,h2,h3⟩:=Zll h b;exact⟨a,aX,z,_,xs,e,rfl,h1,.inr kX,h2,by rw[h3];exact hq⟩
theorem Pm{b:Bool}{W:Wi}(h:Zq2 b W=true):W=.lf b:=by
 cases W with
 |lf c=>
  have:(c==b)=true:=h;rw[eq_of_beq this]
 |has _=>cases h
 |nt _=>cases h
 |bi _ _ _=>cases h
def ev(ly:Str→Bool):Wi→Bool
 |.lf b=>b
 |.has z=>ly z
 |.nt x=>!(ev ly x)
 |.bi b x y=>if b then ev ly x&&ev ly y else ev ly x||ev ly y
structure Pb(z:Str)(t e W:Wi):Prop where
 ev:∀ly,ev ly W=if ly z=true then ev ly t else ev ly e
 dep:W.dep≤max (max t.dep e.dep) 1+2
 ok:∀p:Str→Prop,p z→t.ok p→e.ok p→W.ok p
theorem Zvd(z:Str):Pb z (.lf true) (.lf false) (.has z):=⟨λly=>by cases h:ly z<;>simp[My.ev,h],by simp[Wi.dep],λp a _ _=>a⟩
theorem Zvc(z:Str)(e:Wi):Pb z (.lf true) e (.bi false (.has z) e):=⟨λly=>by cases h:ly z<;>simp[My.ev,h],by simp only[Wi.dep];lia,λp a _ c=>⟨a,c⟩⟩
theorem Zvb(z:Str):Pb z (.lf false) (.lf true) (.nt (.has z)):=⟨λly=>by cases h:ly z<;>simp[My.ev,h],by simp[Wi.dep],λp a _ _=>a⟩
theorem Zva(z:Str)(e:Wi):Pb z (.lf false) e (.bi true (.nt (.has z)) e):=⟨λly=>by cases h:ly z<;>simp[My.ev,h],by simp only[Wi.dep];lia,λp a _ c=>⟨a,c⟩⟩
theorem Zu9(z:Str)(t:Wi):Pb z t (.lf true) (.bi false (.nt (.has z)) t):=⟨λly=>by cases h:ly z<;>simp[My.ev,h],by simp only[Wi.dep];lia,λp a b _=>⟨a,b⟩⟩
theorem Zu8(z:Str)(t:Wi):Pb z t (.lf false) (.bi true (.has z) t):=⟨λly=>by cases h:ly z<;>simp[My.ev,h],by simp only[Wi.dep];lia,λp a b _=>⟨a,b⟩⟩
theorem Zu7(z:Str)(t e:Wi):Pb z t e (.bi false (.bi true (.has z) t) (.bi true (.nt (.has z)) e)):=⟨λly=>by cases h:ly z<;>simp[My.ev,h],by simp only[Wi.dep];lia,λp a b c=>⟨⟨a,b⟩,a,c⟩⟩
inductive B0(K:W.Frag)(vs:List V)(H:Hp)(Q:VK):Prop
 |mk(z:Str)(u v:V)(t e:Wi)(h1:vs=[.str z,u,v])(h2:WK K H u t)(h3:WK K H v e)(h4:∀r W H',Zt H H'→WK K H' r W→Pb z t e W→Q r H'):B0 K vs H Q
def Cb(K:W.Frag):Sp:=λvs H Q _=>B0 K vs H Q
theorem Zjj(F:Fun K "asked" "asked" Cf f fd)(Z:Blt mg)(Wd:mg "ALWAYS"=some (.ref aA))(Vi:mg "NEVER"=some (.ref aN))(kA:Fw K aA [.str "always"])(kN:Fw K aN [.str "never"]):Ya P w K mg base CX0 1 f fd UE (Cb K):=by
 refine F.ok Jw (λvs H Q E h=>?_) (λcdv A outer s H vs Q E hr h=>?_)
 ·obtain⟨z,u,v,t,e,rfl,_⟩:=h;rfl
 obtain⟨z,u,v,t,e,rfl,hu,hv,k⟩:=h;have Qe:RelV (.ref aA) (.ref aA):=rfl;have Nn:RelV (.ref aN) (.ref aN):=rfl
 refine⟨_,(Ze (Zr (i:=3) Jw.nd (by rfl) (Or.inl (by rfl)) (Z2 (Za Z4 (Za (pv 0) Zb)))) 
   (Ze (Zr (i:=4) Jw.nd (by rfl) (Or.inl (by rfl)) (Z2 (Za Z4 (Za (pv 3) Zb)))) 
   (Ze (Yd (Zp (Pk (K:=K) (Qt hr)) (pv 1) (Vu (by rfl) Wd Qe) (Zw _)) 
    (Zg (Zl (Ag (Zp (Pk (K:=K) (Qt hr)) (pv 2) (Vu (by rfl) Vi Nn) (Zw _)) (pv 3) (Z2 (Za Z4 (Za (pv 3) (Za (pv 2) Zb))))))) Zu) 
   (Ze (Yd (Zp (Pk (K:=K) (Qt hr)) (pv 1) (Vu (by rfl) Vi Nn) (Zw _)) 
    (Zg (Zl (Ag (Zp (Pk (K:=K) (Qt hr)) (pv 2) (Vu (by rfl) Wd Qe) (Zw _)) (pv 4) (Z2 (Za Z4 (Za (pv 4) (Za (pv 2) Zb))))))) Zu) 
   (Ze (Yd (Zp (Pk (K:=K) (Qt hr)) (pv 2) (Vu (by rfl) Wd Qe) (Zw _)) 
    (Zg (Zl (Z2 (Za Z4 (Za (pv 4) (Za (pv 1) Zb)))))) Zu) 
   (Ze (Yd (Zp (Pk (K:=K) (Qt hr)) (pv 2) (Vu (by rfl) Vi Nn) (Zw _)) 
    (Zg (Zl (Z2 (Za Z4 (Za (pv 3) (Za (pv 1) Zb)))))) Zu) 
   (Zg (Zl (Z2 (Za Z4 (Za (Z2 (Za Z4 (Za (pv 3) (Za (pv 1) Zb)))) (Za (Z2 (Za Z4 (Za (pv 4) (Za (pv 2) Zb)))) Zb)))))))))))),?_⟩
 refine⟨_,rfl,(by show 2≤sizeLine;decide),λa1 n1=>?_⟩;have s1:=Zd n1 (.tup [.str (Str.ofString "has"),.str z]);have w1:WK K (upd H a1 (.tup [.str (Str.ofString "has"),.str z])) (.ref a1) (.has z):=Zg8 Zc;generalize upd H a1 _=H1 at s1 w1;refine⟨_,rfl,(by show 2≤sizeLine;decide),λa2 n2=>?_⟩;have s2:=Zd n2 (.tup [.str (Str.ofString "not"),.ref a1]);have w2:WK K (upd H1 a2 (.tup [.str (Str.ofString "not"),.ref a1])) (.ref a2) (.nt (.has z)):=Zg7 Zc (w1.keep (Tk.same s2));have w1:=w1.keep (Tk.same s2);have e2:=s1.trans s2;generalize upd H1 a2 _=H2 at s2 w2 w1 e2;have hu:=hu.keep (Tk.same e2);have hv:=hv.keep (Tk.same e2);have bi:∀{b:Bool}{x y:Wi}{p q:V}{r:Addr}{H3:Hp},WK K H3 p x→WK K H3 q y→H3 r=none→WK K (upd H3 r (.tup [.str (Wi.bi b x y).nm,p,q])) (.ref r) (.bi b x y):=λ{b x y p q r H3} hx hy hn=>Zg9 Zc (hx.keep (Tk.same (Zd hn _))) (hy.keep (Tk.same (Zd hn _)));refine⟨_,rfl,Dl (b:=true) hu kA ⟨_,rfl,?_⟩⟩;refine Xx (λc1=>?_) (λc1=>?_)
 ·have:=Pm c1;subst this;refine⟨_,rfl,Dl (b:=false) hv kN ⟨_,rfl,?_⟩⟩;refine Xx (λc2=>?_) (λc2=>?_)
  ·have:=Pm c2;subst this;exact⟨_,rfl,k _ _ H2 e2 w1 (Zvd z)⟩
  ·exact⟨_,rfl,_,rfl,(by show 3≤sizeLine;decide),λr nr=>k _ _ _ (e2.trans (Zd nr _)) (bi (b:=false) w1 hv nr) (Zvc z e)⟩
 refine⟨_,rfl,Dl (b:=false) hu kN ⟨_,rfl,?_⟩⟩;refine Xx (λc2=>?_) (λc2=>?_)
 ·have:=Pm c2;subst this;refine⟨_,rfl,Dl (b:=true) hv kA ⟨_,rfl,?_⟩⟩;refine Xx (λc3=>?_) (λc3=>?_)
  ·have:=Pm c3;subst this;exact⟨_,rfl,k _ _ H2 e2 w2 (Zvb z)⟩
  ·exact⟨_,rfl,_,rfl,(by show 3≤sizeLine;decide),λr nr=>k _ _ _ (e2.trans (Zd nr _)) (bi (b:=true) w2 hv nr) (Zva z e)⟩
 refine⟨_,rfl,Dl (b:=true) hv kA ⟨_,rfl,?_⟩⟩;refine Xx (λc3=>?_) (λc3=>?_)
 ·have:=Pm c3;subst this;exact⟨_,rfl,_,rfl,(by show 3≤sizeLine;decide),λr nr=>k _ _ _ (e2.trans (Zd nr _)) (bi (b:=false) w2 hu nr) (Zu9 z t)⟩
 refine⟨_,rfl,Dl (b:=false) hv kN ⟨_,rfl,?_⟩⟩;refine Xx (λc4=>?_) (λc4=>?_)
 ·have:=Pm c4;subst this;exact⟨_,rfl,_,rfl,(by show 3≤sizeLine;decide),λr nr=>k _ _ _ (e2.trans (Zd nr _)) (bi (b:=true) w1 hu nr) (Zu8 z t)⟩
 refine⟨_,rfl,_,rfl,(by show 3≤sizeLine;decide),λr1 m1=>?_⟩;have b1:=bi (b:=true) w1 hu m1;have t1:=Zd m1 (.tup [.str (Wi.bi true (.has z) t).nm,.ref a1,u]);refine⟨_,rfl,_,rfl,(by show 3≤sizeLine;decide),λr2 m2=>?_⟩;have b2:=bi (b:=true) (w2.keep (Tk.same t1)) (hv.keep (Tk.same t1)) m2;have t2:=Zd m2 (.tup [.str (Wi.bi true (.nt (.has z)) e).nm,.ref a2,v]);exact⟨(by show 3≤sizeLine;decide),λr nr=>k _ _ _ (((e2.trans t1).trans t2).trans (Zd nr _)) (bi (b:=false) (b1.keep (Tk.same t2)) b2 nr) (Zu7 z t e)⟩
theorem S7(z:Str):∀rs:List WW,(hav z rs).length+(lac z rs).length=rs.length
 |[]=>rfl
 |r :: rs=>by
  have ih:=S7 z rs;unfold hav lac at *;rw[lM,lM]
  by_cases h:z∈r
  ·rw[decide_eq_true h];simp only[if_true,Bool.not_true,iY,if_false,oR];lia
  ·rw[decide_eq_false h];simp only[if_true,Bool.not_false,iY,if_false,oR];lia
theorem Vh{r:List Str}:r∈hav z rs↔r∈rs∧z∈r:=by
 unfold hav;rw[lU,decide_eq_true_eq]
theorem Vg{r:List Str}:r∈lac z rs↔r∈rs∧z∉r:=by
 unfold lac;rw[lU];simp
def Zb6(al:WT)(z:Str):Bool:=al.any (λr=>decide (z∈r))&&al.any λr=>!decide (z∈r)
theorem Nv{al:WT}:Zb6 al z=true↔(∃r∈al,z∈r)∧∃r∈al,z∉r:=by
 unfold Zb6;rw[lJ,dM,dM];simp
def cnt(zs:List Str)(al:WT):Nat:=(zs.filter (Zb6 al)).length
theorem Ly{α:Type}{p q:α→Bool}(h:∀x,q x=true→p x=true):∀{l:List α}{z:α},z∈l→p z=true→q z=false→(l.filter q).length<(l.filter p).length
 |a :: l,z,hz,hp,hq=>by
  have le:∀l:List α,(l.filter q).length≤(l.filter p).length:=λl=>by
   induction l with
   |nil=>exact rX _
   |cons b l ih=>
    rw[lM,lM]
    by_cases c:q b=true
    ·rw[if_pos c,if_pos (h b c)];simp only[oR];lia
    ·rw[if_neg c]
     split
     ·simp only[oR];lia
     ·exact ih
  rw[lM,lM]
  rcases oH.mp hz with e|e
  ·subst e;rw[if_pos hp,if_neg (by rw[hq];decide)];simp only[oR];have:=le l;lia
  ·have ih:=Ly h e hp hq
   by_cases c:q a=true
   ·rw[if_pos c,if_pos (h a c)];simp only[oR];lia
   ·rw[if_neg c]
    split
    ·simp only[oR];lia
    ·exact ih
theorem Zaq{al kQ:WT}(hz:z∈zs)(hn:Zb6 al z=true)(sub:∀r∈kQ,r∈al)(con:(∀r∈kQ,z∈r)∨∀r∈kQ,z∉r):cnt zs kQ<cnt zs al:=by
 refine Ly (λy hy=>?_) hz hn ?_
 ·obtain⟨⟨r,h1,h2⟩,r',h3,h4⟩:=Nv.mp hy;exact Nv.mpr ⟨⟨r,sub r h1,h2⟩,r',sub r' h3,h4⟩
 ·cases e:Zb6 kQ z with
  |false=>rfl
  |true=>
   obtain⟨⟨r,h1,h2⟩,r',h3,h4⟩:=Nv.mp e
   rcases con with c|c
   ·exact absurd (c r' h3) h4
   ·exact absurd h2 (c r h1)
def Mix(zs:List Str)(rs os:WT):Prop:=∀r∈rs,∀o∈os,∃z∈zs,¬ (z∈r↔z∈o)
theorem Mix.sub{os wJ xA:WT}(h:Mix zs rs os)(h1:∀r∈wJ,r∈rs)(h2:∀r∈xA,r∈os):Mix zs wJ xA:=λr hr o ho=>h r (h1 r hr) o (h2 o ho)
theorem Zjs{os:WT}(h:Mix zs rs os)(hr:rs≠[])(ho:os≠[])(hm:∀y∈zs,kfA rs os z≤kfA rs os y):Zb6 (rs++os) z=true:=by
 obtain⟨r,y4⟩:=bO rs hr;obtain⟨o,z0⟩:=bO os ho;obtain⟨y,hy,x6⟩:=h r y4 o z0;have l0:0<rs.length:=iC y4;have l1:0<os.length:=iC z0;have wA:=S7 y rs;have hyo:=S7 y os;have hzr:=S7 z rs;have hzo:=S7 z os;have lm:∀a b:Nat,lmx a b≤a+b:=λa b=>by unfold lmx;split<;>lia
 have ky:kfA rs os y<rs.length+os.length:=by
  unfold kfA
  have p1:0<(hav y rs).length+(hav y os).length:=by
   by_cases c:y∈r
   ·have:=iC (Vh.mpr ⟨y4,c⟩);lia
   ·have c2:y∈o:=dX λq=>x6 ⟨λx=>absurd x c,λx=>absurd x q⟩;have:=iC (Vh.mpr ⟨z0,c2⟩);lia
  have p2:0<(lac y rs).length+(lac y os).length:=by
   by_cases c:y∈r
   ·have c2:y∉o:=λq=>x6 ⟨λ_=>q,λ_=>c⟩;have:=iC (Vg.mpr ⟨z0,c2⟩);lia
   ·have:=iC (Vg.mpr ⟨y4,c⟩);lia
  have q1:=lm (hav y rs).length (hav y os).length;have q2:=lm (lac y rs).length (lac y os).length;lia
 have kz:=hm y hy
 cases e:Zb6 (rs++os) z with
 |true=>rfl
 |false=>
  refine absurd kz (Nat.not_le.mpr (oS ky ?_));unfold kfA
  by_cases c:∃q∈rs++os,z∈q
  ·have all:∀q∈rs++os,z∈q:=λq hq=>dX λx=>by
    rw[Nv.mpr ⟨c,q,hq,x⟩]at e;cases e
   have z1:(lac z rs).length=0:=bZ.mpr (cM.mpr λq hq=>(Vg.mp hq).2 (all q (lF _ (Vg.mp hq).1)));have z2:(lac z os).length=0:=bZ.mpr (cM.mpr λq hq=>(Vg.mp hq).2 (all q (oX _ (Vg.mp hq).1)));have:lmx (hav z rs).length (hav z os).length=(hav z rs).length+(hav z os).length:=if_neg (by lia);lia
  ·have z1:(hav z rs).length=0:=bZ.mpr (cM.mpr λq hq=>c ⟨q,lF _ (Vh.mp hq).1,(Vh.mp hq).2⟩);have z2:(hav z os).length=0:=bZ.mpr (cM.mpr λq hq=>c ⟨q,oX _ (Vh.mp hq).1,(Vh.mp hq).2⟩);have:lmx (lac z rs).length (lac z os).length=(lac z rs).length+(lac z os).length:=if_neg (by lia);lia
abbrev inR(r:List Str)(z:Str):Bool:=decide (z∈r)
structure Parts(zs:List Str)(rs os:WT)(n:Nat)(W:Wi):Prop where
 yes:∀r∈rs,ev (inR r) W=true
 no:∀o∈os,ev (inR o) W=false
 ok:W.ok (·∈zs)
 dep:W.dep≤2*n+1
inductive Zn1(K:W.Frag)(Py:Addr)(n:Nat)(vs:List V)(H:Hp)(Q:VK):Prop
 |mk(wp hp op:Addr)(zs:List Str)(xs ys:List V)(rs os:WT)(h1:vs=[.ref wp,.ref hp,.ref op])(h2:H wp=some (.lst (zs.map V.str)))(h3:H hp=some (.lst xs))(h4:TR tvS H xs rs)(h5:H op=some (.lst ys))(h6:TR tvS H ys os)(h7:rs.length≤200000)(h8:os.length≤200000)(h9:Mix zs rs os)(yB:cnt zs (rs++os)<n)(vB:Tb Py Rj H)(h12:∀v W H',Uv Py H H'→Tb Py Rj H'→WK K H' v W→Parts zs rs os n W→Q v H'):Zn1 K Py n vs H Q
def Zbq(K:W.Frag)(Py:Addr)(n:Nat):Sp:=λvs H Q _=>Zn1 K Py n vs H Q
theorem Zna:Ya P w K mg base CX0 5 f fd WQ (Zbq K Py 0):=by
 have no:∀vs H Q E,¬ Zbq K Py 0 vs H Q E:=λvs H Q E h=>by
  obtain⟨_,_,_,_,_,_,_,_,_,_,_,_,_,_,_,_,_,h,_⟩:=h;lia
 exact⟨λvs H Q E h=>absurd h (no vs H Q E),λA outer s H args us vs Q E _ _ _ _ h=>absurd h (no vs H Q E)⟩
theorem nTb(TX:Tb Py L H){b:Addr}{l:List V}(h:H b=some (.lst l)):b≠Py:=λz=>by
 obtain⟨ps,hp,_⟩:=TX;rw[z,hp]at h;cases h
theorem Zm9(F:Fun K "wish_between" "wish_between" Vb f fd)(Z:Blt mg)(Wd:mg "ALWAYS"=some (.ref aA))(Vi:mg "NEVER"=some (.ref aN))(kA:Fw K aA [.str "always"])(kN:Fw K aN [.str "never"])
  (X4:Cal P w K mg base "asking_word" 4 WQ (Zdx Py)) (V1:Cal P w K mg base "having" 1 WZ (Lo hav)) (W6:Cal P w K mg base "lacking" 1 WZ (Lo lac)) (Pu:Cal P w K mg base "asked" 1 UE (Cb K)) (Xs:Cal P w K mg base "wish_between" (n+5) WQ (Zbq K Py n)):Ya P w K mg base CX0 (n+6) f fd WQ (Zbq K Py (n+1)):=by
 refine F.ok V3 (λvs H Q E h=>?_) (λcdv A outer s H vs Q E hr h=>?_)
 ·obtain⟨wp,hp,op,zs,xs,ys,rs,os,rfl,_⟩:=h;rfl
 obtain⟨wp,hp,op,zs,xs,ys,rs,os,rfl,hw,hh,RH,ho,RO,nr,no,hM,hc,TX,kt⟩:=h;have Qe:RelV (.ref aA) (.ref aA):=rfl;have Nn:RelV (.ref aN) (.ref aN):=rfl
 refine⟨_,(Ze (Yd (Zp (Cu (K:=K) (Qt hr)) (pv 2) (Yk Zb) (Zw _)) 
    (Zg (Zl (Vu (by rfl) Wd Qe))) Zu) 
   (Ze (Yd (Zp (Cu (K:=K) (Qt hr)) (pv 1) (Yk Zb) (Zw _)) 
    (Zg (Zl (Vu (by rfl) Vi Nn))) Zu) 
   (Ze (Zr (i:=3) V3.nd (by rfl) (Or.inl (by rfl)) (Z5 X4 (hr.mono (by lia)) (Za (pv 0) (Za (pv 1) (Za (pv 2) Zb))))) 
   (Ze (Zr (i:=4) V3.nd (by rfl) (Or.inl (by rfl)) (Z5 Xs hr (Za (pv 0) (Za (Z5 V1 (hr.mono (by lia)) (Za (pv 1) (Za (pv 3) Zb))) (Za (Z5 V1 (hr.mono (by lia)) (Za (pv 2) (Za (pv 3) Zb))) Zb))))) 
   (Zg (Zl (Z5 Pu (hr.mono (by lia)) (Za (pv 3) (Za (pv 4) (Za (Z5 Xs hr (Za (pv 0) (Za (Z5 W6 (hr.mono (by lia)) (Za (pv 1) (Za (pv 3) Zb))) (Za (Z5 W6 (hr.mono (by lia)) (Za (pv 2) (Za (pv 3) Zb))) Zb)))) Zb)))))))))),?_⟩
 have lR:=RH.len;have lO:=RO.len;have mt:∀{zs:List V},zs.isEmpty=true→zs.length=0:=λ{zs} h=>by rw[List.isEmpty_iff.mp h];rfl
 have mf:∀{zs:List V},¬ zs.isEmpty=true→zs.length≠0:=λ{zs} h z=>h (by rw[oV z];rfl);refine⟨_,rfl,(by show 0≤sizeLine;decide),λn1 m1=>?_⟩;generalize eZ:upd H n1 _=H1;have s1:=nS7 eZ m1;have g1:=nU7 eZ;refine⟨op,n1,ys,rfl,rfl,SqL.of (s1 _ _ ho),SqL.of g1,_,rfl,?_⟩;refine Xx (λc1=>?_) (λc1=>?_)
 ·have:=mt c1;have e0:os=[]:=oV (by lia);subst e0;exact kt _ (.lf true) H1 s1.t (TX.same s1) (Kp (.inr kA)) ⟨λ_ _=>rfl,nofun,True.intro,lB _⟩
 refine⟨_,rfl,(by show 0≤sizeLine;decide),λn2 m2=>?_⟩;generalize eZ:upd H1 n2 _=H2;have s2:=nS7 eZ m2;have g2:=nU7 eZ;have e2:=s1.trans s2;refine⟨hp,n2,xs,rfl,rfl,SqL.of (e2 _ _ hh),SqL.of g2,_,rfl,?_⟩;refine Xx (λc2=>?_) (λc2=>?_)
 ·have:=mt c2;have e0:rs=[]:=oV (by lia);subst e0;exact kt _ (.lf false) H2 e2.t (TX.same e2) (Kp (.inr kN)) ⟨nofun,λ_ _=>rfl,True.intro,lB _⟩
 have c9:rs≠[]:=λz=>mf c2 (by rw[lR,z];rfl);have ho0:os≠[]:=λz=>mf c1 (by rw[lO,z];rfl)
 have pQ:0<zs.length:=by
  obtain⟨r,y4⟩:=bO rs c9;obtain⟨o,z0⟩:=bO os ho0;obtain⟨y,hy,_⟩:=hM r y4 o z0;exact iC hy
 refine⟨_,rfl,_,rfl,_,rfl,wp,hp,op,zs,xs,ys,rs,os,rfl,e2 _ _ hw,pQ,e2 _ _ hh,RH.keep (Tk.same e2),e2 _ _ ho,RO.keep (Tk.same e2),nr,no,TX.same e2,λz H3 hz hm e3 wY=>?_⟩;have E3:Uv Py H H3:=e2.t.trans e3;have hn:=Zjs hM c9 ho0 hm;refine⟨_,rfl,_,rfl,_,rfl,hp,z,xs,rs,rfl,E3 _ _ (nTb TX hh) hh,RH.keep (Tk.t E3 TX),nr,λq1 a1 H4 e4 _ g4 T4=>?_⟩;have E4:=E3.trans e4.t;refine⟨_,rfl,_,rfl,op,z,ys,os,rfl,E4 _ _ (nTb TX ho) ho,RO.keep (Tk.t E4 TX),no,λq2 a2 H5 e5 _ g5 T5=>?_⟩;have E5:=E4.trans e5.t;have TX5:=(wY.same e4).same e5;have f1:∀{z:Str}{l:WT},∀r∈hav z l,r∈l:=λr hr=>(Vh.mp hr).1;have f2:∀{z:Str}{l:WT},∀r∈lac z l,r∈l:=λr hr=>(Vg.mp hr).1;have k1:cnt zs (hav z rs++hav z os)<cnt zs (rs++os):=Zaq hz hn (λr hr=>(oJ.mp hr).elim (λq=>lF _ (f1 r q)) λq=>oX _ (f1 r q)) (.inl λr hr=>(oJ.mp hr).elim (λq=>(Vh.mp q).2) λq=>(Vh.mp q).2);have k2:cnt zs (lac z rs++lac z os)<cnt zs (rs++os):=Zaq hz hn (λr hr=>(oJ.mp hr).elim (λq=>lF _ (f2 r q)) λq=>oX _ (f2 r q)) (.inr λr hr=>(oJ.mp hr).elim (λq=>(Vg.mp q).2) λq=>(Vg.mp q).2);have l1:=S7 z rs;have l2:=S7 z os;refine⟨wp,q1,q2,zs,a1,a2,hav z rs,hav z os,rfl,E5 _ _ (nTb TX hw) hw,e5 _ _ g4,T4.keep (Tk.same e5),g5,T5,by lia,by lia,hM.sub f1 f1,by lia,TX5,λv1 W1 H6 e6 TX6 w6 p6=>?_⟩;have E6:=E5.trans e6;refine⟨_,rfl,_,rfl,_,rfl,_,rfl,_,rfl,hp,z,xs,rs,rfl,E6 _ _ (nTb TX hh) hh,RH.keep (Tk.t E6 TX),nr,λq3 a3 H7 e7 _ g7 T7=>?_⟩;have E7:=E6.trans e7.t;refine⟨_,rfl,_,rfl,op,z,ys,os,rfl,E7 _ _ (nTb TX ho) ho,RO.keep (Tk.t E7 TX),no,λq4 a4 H8 e8 _ g8 T8=>?_⟩;have E8:=E7.trans e8.t;have TX8:=(TX6.same e7).same e8;refine⟨wp,q3,q4,zs,a3,a4,lac z rs,lac z os,rfl,E8 _ _ (nTb TX hw) hw,e8 _ _ g7,T7.keep (Tk.same e8),g8,T8,by lia,by lia,hM.sub f2 f2,by lia,TX8,λv2 W2 H9 e9 TX9 w9 p9=>?_⟩;have E9:=E8.trans e9;refine⟨z,v1,v2,W1,W2,rfl,(w6.keep (Tk.same (e7.trans e8))).keep (Tk.t e9 TX8),w9,λr W wU kT w10 as=>?_⟩;refine kt r W wU (E9.trans kT.t) (TX9.same kT) w10 ⟨λq hq=>?_,λq hq=>?_,as.ok _ hz p6.ok p9.ok,?_⟩
 ·rw[as.ev]
  by_cases c:z∈q
  ·rw[if_pos (decide_eq_true c)];exact p6.yes q (Vh.mpr ⟨hq,c⟩)
  ·rw[if_neg (by rw[show inR q z=false from decide_eq_false c];decide)];exact p9.yes q (Vg.mpr ⟨hq,c⟩)
 ·rw[as.ev]
  by_cases c:z∈q
  ·rw[if_pos (decide_eq_true c)];exact p6.no q (Vh.mpr ⟨hq,c⟩)
  ·rw[if_neg (by rw[show inR q z=false from decide_eq_false c];decide)];exact p9.no q (Vg.mpr ⟨hq,c⟩)
 ·have:=as.dep;have:=p6.dep;have:=p9.dep;lia
theorem Rf{Py:Addr}{f:Addr}{fd:FuncData}(F:Fun K "wish_between" "wish_between" Vb f fd)(b:Binds K fd WQ [])(m:mg "wish_between"=some (.ref f))(Z:Blt mg){aA aN:Addr}(Wd:mg "ALWAYS"=some (.ref aA))(Vi:mg "NEVER"=some (.ref aN))(kA:Fw K aA [.str "always"])(kN:Fw K aN [.str "never"])
  (X4:Cal P w K mg base "asking_word" 4 WQ (Zdx Py)) (V1:Cal P w K mg base "having" 1 WZ (Lo hav)) (W6:Cal P w K mg base "lacking" 1 WZ (Lo lac)) (Pu:Cal P w K mg base "asked" 1 UE (Cb K)):∀n:Nat,Ya P w K mg base CX0 (n+5) f fd WQ (Zbq K Py n)
 | 0=>Zna
 |n+1=>Zm9 F Z Wd Vi kA kN X4 V1 W6 Pu ⟨f,fd,Rf F b m Z Wd Vi kA kN X4 V1 W6 Pu n,m,F.kp,b⟩
def Za4(p:Addr)(H H':Hp):Prop:=∀b u,b≠p→H b=some u→H' b=some u
inductive Zia(vs:List V)(H:Hp)(Q:VK):Prop
 |mk(p q:Addr)(y8 k9:TB)(h1:vs=[.ref p,.ref q])(h2:p≠q)(h3:H p=some (.dT y8))(h4:H q=some (.dT k9))(h5:(y8.map (·.1)).Nodup)(h6:(k9.map (·.1)).Nodup)(h7:(∀t x y H',x∈y8→y∈k9→x.1=y.1→Za4 p H H'→H' t=some (.tup [x.2,y.2])→Q (.ref t) H'))(h8:∀H',(∀x∈y8,x.1∉k9.map (·.1))→Za4 p H H'→Rd H' p (.dT y8)→Q .non H'):Zia vs H Q
def Zn2:Sp:=λvs H Q _=>Zia vs H Q
theorem D4:∀{kvs:TB},(kvs.map (·.1)).Nodup→∀{x:List Key×V},x∈kvs→W8 kvs x.1=some x.2
 |[],_,_,h=>by cases h
 |y :: ys,nd,x,h=>by
  rw[lG,iR]at nd
  rcases oH.mp h with e|e
  ·rw[e];exact Rr rfl
  ·rw[Sb λz=>nd.1 (by rw[z];exact dW e)];exact D4 nd.2 e
theorem Iq(F:Fun K "alike_texts" "alike_texts" Ti f fd)(Z:Blt mg):Ya P w K mg base CX0 1 f fd ["here","there"] Zn2:=by
 refine F.ok R9 (λvs H Q E h=>?_) (λcdv A outer s H vs Q E hr h=>?_)
 ·obtain⟨p,q,y8,k9,rfl,_⟩:=h;rfl
 obtain⟨p,q,y8,k9,rfl,tR,hp,hq,nd1,fK,k1,k2⟩:=h
 refine⟨_,(Ze (Xp lI (by rfl) (Zi7 (pv 0)) (Zn (i:=2) R9.nd (by rfl) (Or.inl (by rfl))) 
    (Zg (Yd (J6 (Zqb (Sn hr) (pv 2) (pv 1))) 
     (Zg (Zl (Z2 (Za (Ku (Sn hr) (pv 0) (pv 2) (λ_ _=>rfl)) (Za (Ku (Sn hr) (pv 1) (pv 2) (λ_ _=>rfl)) Zb))))) Zu))) 
   (Zg (Zl Zja))),?_⟩
 refine⟨_,rfl,p,y8,rfl,.inl ⟨hp,λo bs KT=>?_⟩⟩;have e1:Za4 p H (upd H p (.frz o (.dT y8))):=λb u n h=>(Zk n).trans h;have h1:upd H p (.frz o (.dT y8)) p=_:=Zc;generalize upd H p _=H1 at KT e1 h1;refine Zgg (a:=p) (o:=o) (kvs:=y8) (bs:=bs) (λi σ H2=>(∃v,σ=[some (.ref p),some (.ref q),v])∧H2=H1∧∀j,j<i→∀x,y8[j]?=some x→x.1∉k9.map (·.1)) ⟨⟨none,rfl⟩,rfl,λj z=>absurd z (by lia)⟩ (λi σ H2 _ h=>by rw[h.2.1];exact h1) ?_ ?_
 ·rintro i b σ H2 hb ⟨⟨v,rfl⟩,rfl,w8⟩;have hbl:=(oG.mp hb).1;have hx:y8[i]?=some (y8[i]'(by rw[←KT.1];exact hbl)):=rZ _;generalize y8[i]'(by rw[←KT.1];exact hbl)=x at hx;obtain⟨xk,xv⟩:=x;have qE:=KT.2 i b xk xv hb hx;have r9:=oM hx;refine⟨_,rfl,_,rfl,q,_,rfl,.inr ⟨k9,xk,b,.inl (e1 _ _ tR.symm hq),rfl,qE,rfl⟩,_,rfl,?_⟩
  by_cases c:xk∈k9.map (·.1)
  ·obtain⟨y,hy,ey⟩:=oU.mp c;have hv:=D4 fK hy;rw[ey]at hv;rw[hv];refine ifY rfl ⟨_,rfl,_,rfl,p,xv,rfl,.inr ⟨y8,xk,b,.inr ⟨o,h1⟩,rfl,qE,(D4 nd1 r9).symm⟩,_,rfl,_,rfl,q,y.2,rfl,.inr ⟨k9,xk,b,.inl (e1 _ _ tR.symm hq),rfl,qE,hv.symm⟩,(by show 2≤sizeLine;decide),λt nt=>?_⟩;exact k1 t (xk,xv) y _ r9 hy ey.symm (λb u n h=>Zd nt _ _ _ (e1 b u n h)) Zc
  ·rw[K8 c];refine ifN rfl ⟨⟨_,rfl⟩,rfl,λj hj x' m9=>?_⟩
   by_cases z:j=i
   ·rw[z,hx]at m9;cases m9;exact c
   ·exact w8 j (by lia) x' m9
 ·rintro σ H2 ⟨⟨v,rfl⟩,rfl,w8⟩;refine k2 H2 (λx hx=>?_) e1 (.inr ⟨o,h1⟩);obtain⟨j,hj⟩:=aM.mp hx;exact w8 j (oG.mp hj).1 x hj
def emb:List Nat→List Nat→Nat
 |[],_=>1
 |_ :: _,[]=>0
 |c :: w,d :: t=>emb (c :: w) t+if c=d then emb w t else 0
theorem S8(t:List Nat):emb [] t=1:=by cases t<;>rfl
theorem O3(c:Nat)(w:List Nat)(d:Nat)(t:List Nat):emb (c :: w) (d :: t)=emb (c :: w) t+if c=d then emb w t else 0:=rfl
theorem Zev{w:List Nat}(h:w≠[]):emb w []=0:=by
 cases w with
 |nil=>exact absurd rfl h
 |cons c r=>rfl
theorem Zkx(w:List Nat)(d:Nat)(t:List Nat):emb w t≤emb w (d :: t):=by
 cases w with
 |nil=>rw[S8,S8];exact rX _
 |cons c w=>rw[O3];lia
theorem Hu(c:Nat)(w:List Nat):∀t:List Nat,0<emb (c :: w) t→0<emb w t
 |[],h=>absurd h (iA 0)
 |d :: t,h=>by
  rw[O3]at h;have m:=Zkx w d t
  by_cases z:0<emb (c :: w) t
  ·have:=Hu c w t z;lia
  ·by_cases e:c=d
   ·rw[if_pos e]at h;lia
   ·rw[if_neg e]at h;lia
def adv(w:List Nat)(k c:Nat):Nat:=if k<w.length∧w.getD k 0=c then k+1 else k
def spB(w t:List Nat):Bool:=decide (t.foldl (adv w) 0=w.length)
theorem K4(w:List Nat):∀(t:List Nat) (k:Nat),k≤w.length→(t.foldl (adv w) k=w.length↔0<emb (w.drop k) t)
 |[],k,hk=>by
  show k=w.length↔_
  by_cases e:k=w.length
  ·subst e;rw[List.drop_length,S8];simp
  ·rw[Zev (by
    intro z;have:=congrArg List.length z;rw[aO,bG]at this
    lia)]
   lia
 |d :: t,k,hk=>by
  rw[List.foldl_cons]
  by_cases hl:k<w.length
  ·have hd:w.drop k=w.getD k 0 :: w.drop (k+1):=by
    rw[bL hl,oQ,rZ hl];rfl
   by_cases e:w.getD k 0=d
   ·have ea:adv w k d=k+1:=by unfold adv;rw[if_pos ⟨hl,e⟩]
    rw[ea,K4 w t (k+1) hl,hd,O3,if_pos e];constructor
    ·intro h;lia
    ·intro h
     by_cases z:0<emb (w.getD k 0 :: w.drop (k+1)) t
     ·exact Hu _ _ t z
     ·lia
   ·have ea:adv w k d=k:=by unfold adv;rw[if_neg λz=>e z.2]
    rw[ea,K4 w t k hk,hd,O3,if_neg e];simp
  ·have e:k=w.length:=by lia
   have ea:adv w k d=k:=by unfold adv;rw[if_neg λz=>hl z.1]
   rw[ea,K4 w t k hk];subst e;rw[List.drop_length,S8,S8]
theorem Zh8(w t:List Nat):spB w t=decide (0<emb w t):=by
 unfold spB;rw[lH,decide_eq_true_eq,decide_eq_true_eq,K4 w t 0 (lB _),XD]
structure Zld(t:List Nat)(s c k:Nat):Prop where
 ge:s≤k
 lt:k<t.length
 at_:t.getD k 0=c
 first:∀v,s≤v→v<k→t.getD v 0≠c
def nx(t:List Nat)(s c:Nat):Option Nat:=((List.range' s (t.length-s)).filter λv=>decide (t.getD v 0=c)).head?
theorem head_filter{p:Nat→Bool}:∀(n s k:Nat),((List.range' s n).filter p).head?=some k↔(s≤k∧k<s+n∧p k=true∧∀v,s≤v→v<k→p v=false)
 | 0,s,k=>by
  constructor
  ·intro h;simp at h
  ·intro h;lia
 |n+1,s,k=>by
  rw[List.range'_succ]
  by_cases hp:p s=true
  ·rw[ZQ hp,List.head?_cons];constructor
   ·intro h;have e:s=k:=Option.some.inj h;subst e;exact⟨rX _,by lia,hp,λv h1 h2=>by lia⟩
   ·intro ⟨h1,h2,h3,h4⟩
    by_cases e:s=k
    ·rw[e]
    ·have:=h4 s (rX _) (by lia);rw[hp]at this;cases this
  ·have n6:p s=false:=by simpa using hp
   rw[ZR hp,head_filter n (s+1) k];constructor
   ·intro ⟨h1,h2,h3,h4⟩;refine⟨by lia,by lia,h3,λv g1 g2=>?_⟩
    by_cases e:v=s
    ·subst e;exact n6
    ·exact h4 v (by lia) g2
   ·intro ⟨h1,h2,h3,h4⟩;have:s≠k:=λe=>by rw[e,h3]at n6;cases n6
    exact⟨by lia,by lia,h3,λv g1 g2=>h4 v (by lia) g2⟩
theorem Zgc{p:Nat→Bool}(n s:Nat):((List.range' s n).filter p).head?=none↔∀v,s≤v→v<s+n→p v=false:=by
 rw[List.head?_eq_none_iff,List.filter_eq_nil_iff];constructor
 ·intro h v h1 h2;have:=h v (List.mem_range'_1.mpr ⟨h1,h2⟩);simpa using this
 ·intro h v hv;obtain⟨h1,h2⟩:=List.mem_range'_1.mp hv;rw[h v h1 h2];simp
theorem Cy{t:List Nat}{k:Nat}(hs:s≤t.length):nx t s c=some k↔Zld t s c k:=by
 unfold nx;rw[head_filter];constructor
 ·intro ⟨h1,h2,h3,h4⟩;exact⟨h1,by lia,of_decide_eq_true h3,λv g1 g2=>of_decide_eq_false (h4 v g1 g2)⟩
 ·intro h;exact⟨h.ge,by have:=h.lt;lia,decide_eq_true h.at_,λv g1 g2=>decide_eq_false (h.first v g1 g2)⟩
theorem Zeh{t:List Nat}(hs:s≤t.length):nx t s c=none↔∀v,s≤v→v<t.length→t.getD v 0≠c:=by
 unfold nx;rw[Zgc];constructor
 ·intro h v h1 h2;exact of_decide_eq_false (h v h1 (by lia))
 ·intro h v h1 h2;exact decide_eq_false (h v h1 (by lia))
def gp(t:List Nat):List Nat→Nat→Option WE
 |[],_=>some []
 |c :: w,s=>match nx t s c with
  |none=>none
  |some k=>(gp t w (k+1)).map (k :: ·)
theorem drop_cons{t:List Nat}(h:n<t.length):t.drop n=t.getD n 0 :: t.drop (n+1):=by
 rw[bL h,oQ,rZ h];rfl
theorem Hv{t w:List Nat}{c:Nat}:∀(n s:Nat),s+n≤t.length→(∀v,s≤v→v<s+n→t.getD v 0≠c)→emb (c :: w) (t.drop s)=emb (c :: w) (t.drop (s+n))
 | 0,s,_,_=>rfl
 |n+1,s,h,x6=>by
  rw[drop_cons (show s<t.length by lia),O3,if_neg (λe=>x6 s (rX _) (by lia) e.symm),Nat.add_zero,Hv n (s+1) (by lia) (λv h1 h2=>x6 v (by lia) (by lia)),show s+1+n=s+(n+1) by lia]
theorem Zkw{t w:List Nat}{k:Nat}(h:Zld t s c k):emb (c :: w) (t.drop s)=emb (c :: w) (t.drop (k+1))+emb w (t.drop (k+1)):=by
 obtain⟨h1,h2,h3,h4⟩:=h;have e:=Hv (w:=w) (k-s) s (by lia) (λv g1 g2=>h4 v g1 (by lia));rw[e,show s+(k-s)=k by lia,drop_cons h2,O3,if_pos h3.symm]
theorem Zrs{t w:List Nat}(hs:s≤t.length)(h:∀v,s≤v→v<t.length→t.getD v 0≠c):emb (c :: w) (t.drop s)=0:=by
 rw[Hv (t.length-s) s (by lia) (λv h1 h2=>h v h1 (by lia)),show s+(t.length-s)=t.length by lia,List.drop_length];rfl
theorem Zeq(t:List Nat):∀(w:List Nat) (s:Nat),s≤t.length→((gp t w s).isSome=true↔0<emb w (t.drop s))
 |[],s,hs=>by rw[S8];simp[gp]
 |c :: w,s,hs=>by
  unfold gp
  cases e:nx t s c with
  |none=>
   rw[Zrs hs ((Zeh hs).mp e)];simp
  |some k=>
   have h:=(Cy hs).mp e;have ih:=Zeq t w (k+1) h.lt;rw[Zkw h];show ((gp t w (k+1)).map (k :: ·)).isSome=true↔_;rw[cP,ih];constructor
   ·intro z;lia
   ·intro z
    by_cases y:0<emb (c :: w) (t.drop (k+1))
    ·exact Hu c w _ y
    ·lia
def fc(t:List Nat)(s c:Nat)(w:List Nat):Option Nat:=(((List.range' s (t.length-s)).filter λv=>decide (t.getD v 0=c)).filter λv=>spB w (t.drop (v+1))).head?
def lf(t:List Nat):List Nat→Nat→Option WE
 |[],_=>some []
 |c :: w,s=>match fc t s c w with
  |none=>none
  |some k=>(lf t w (k+1)).map (k :: ·)
def lbv:Option Nat→Int
 |none=>0
 |some k=>(k:Int)+1
theorem Zmy(t:Str)(s c:Nat)(hs:s≤t.length):Txt.find3 t ⟨#[c]⟩ ((s:Nat):Int)+1=lbv (nx t.cps.toList s c):=by
 have hl:=len_list t;have hs':s≤t.cps.toList.length:=by lia
 have hD:∀v:Nat,t.cps.getD v 0=t.cps.toList.getD v 0:=λv=>by
  rw[oQ,lA,bC]
 have hf:PySem.fromIndex t.length ((s:Nat):Int)=s:=by
  unfold PySem.fromIndex;rw[if_neg (by lia)];lia
 rcases StrLaws.find3_spec t c ((s:Nat):Int) with ⟨e,hn⟩|⟨k,hk,h1,h2,h3,h4⟩
 ·rw[hf]at hn;rw[e,(Zeh hs').mpr λv g1 g2=>by rw[←hD];exact hn v g1 (by lia)];rfl
 ·rw[hf]at h1 h4;rw[hk,(Cy hs').mpr ⟨h1,by lia,by rw[←hD];exact h3,λv g1 g2=>by rw[←hD];exact h4 v g1 g2⟩];rfl
inductive Zn0(vs:List V)(H:Hp)(Q:VK):Prop
 |mk(t:Str)(s c:Nat)(h1:vs=[.str t,nI s,.str ⟨#[c]⟩])(h2:s≤t.length)(h3:Q (.int (lbv (nx t.cps.toList s c))) H):Zn0 vs H Q
def Zs4:Sp:=λvs H Q _=>Zn0 vs H Q
theorem Ii(F:Fun K "left_behind" "left_behind" Tg f fd)(Z:Blt mg):Ya P w K mg base CX0 1 f fd UJ Zs4:=by
 refine F.ok Ju (λvs H Q E h=>?_) (λcdv A outer s H vs Q E hr h=>?_)
 ·obtain⟨t,s,c,rfl,_⟩:=h;rfl
 obtain⟨t,s',c,rfl,hs,k⟩:=h;refine⟨_,(Zg (Zl (Z7 Xl (X5 (K:=K) cZ PySem.F.slot_str_find PySem.F.type_str_find Zjr (pv 0) (Za (pv 2) (Za (pv 1) Zb))) Zf))),?_⟩;refine⟨_,rfl,rfl,_,rfl,_,rfl,t,_,_,rfl,rfl,_,_,rfl,rfl,?_⟩;show Q (.int (Txt.find3 t ⟨#[c]⟩ ((s':Nat):Int)+1)) H;rw[Zmy t s' c hs];exact k
abbrev Rw:=List Nat×Nat×Nat
def lbn:Option Nat→Nat
 |none=>0
 |some k=>k+1
def nb(t:List Nat)(s c:Nat):Nat:=lbn (nx t s c)
def pos(t:List Nat):List Nat→Nat→Option Nat
 |[],s=>some s
 |c :: w,s=>match nx t s c with
  |none=>none
  |some k=>pos t w (k+1)
theorem Zi3{t:List Nat}:∀{w:List Nat}{s p:Nat},s≤t.length→pos t w s=some p→p≤t.length
 |[],s,p,hs,h=>by cases h;exact hs
 |c :: w,s,p,hs,h=>by
  unfold pos at h
  cases e:nx t s c with
  |none=>rw[e]at h;cases h
  |some k=>rw[e]at h;exact Zi3 ((Cy hs).mp e).lt h
theorem Np{t:List Nat}(c:Nat):∀(w:List Nat) (s:Nat),pos t (w++[c]) s=(pos t w s).bind λp=>(nx t p c).map (· + 1)
 |[],s=>by
  show pos t [c] s=(nx t s c).map (· + 1);unfold pos;cases nx t s c<;>rfl
 |d :: w,s=>by
  show pos t (d :: (w++[c])) s=_;unfold pos
  cases nx t s d with
  |none=>rfl
  |some k=>exact Np c w (k+1)
theorem Zi4{t:List Nat}:∀(w:List Nat) (s:Nat),(pos t w s).isSome=(gp t w s).isSome
 |[],s=>rfl
 |c :: w,s=>by
  unfold pos gp
  cases nx t s c with
  |none=>rfl
  |some k=>
   show (pos t w (k+1)).isSome=((gp t w (k+1)).map (k :: ·)).isSome;rw[cP,Zi4 w (k+1)]
theorem Zbw(t w:List Nat):(pos t w 0).isSome=spB w t:=by
 rw[Zi4,Zh8];have h:=Zeq t w 0 (lB _);rw[XD]at h
 cases e:(gp t w 0).isSome with
 |true=>rw[decide_eq_true (h.mp e)]
 |false=>
  rw[decide_eq_false λz=>?_];rw[h.mpr z]at e;cases e
def cands(L a b:List Nat)(rs:List Rw):List Rw:=rs.flatMap λr=>L.map λc=>(r.1++[c],nb a r.2.1 c,nb b r.2.2 c)
def go:List Rw→List (Nat×Nat)→List Rw→List Nat ⊕ (List (Nat×Nat)×List Rw)
 |[],seen,fr=>.inr (seen,fr)
 | (w,x,y) :: rest,seen,fr=>if (decide (x=0) != decide (y=0))=true then .inl w else if 0<x∧(x,y)∉seen then go rest (seen++[(x,y)]) (fr++[(w,x,y)]) else go rest seen fr
def bfs(L a b:List Nat):Nat→List Rw→List (Nat×Nat)→Option WE
 | 0,_,_=>none
 |n+1,rs,seen=>match rs with
  |[]=>none
  |r :: wJ=>match go (cands L a b (r :: wJ)) seen [] with
   |.inl w=>some w
   |.inr (Zs5,fr)=>bfs L a b n fr Zs5
def part(a b:List Nat):Option WE:=bfs (U1 (a++b)) a b (a.length+1) [([],0,0)] []
theorem Zp6{t w:List Nat}(h:pos t w 0=some s):(0<nb t s c→pos t (w++[c]) 0=some (nb t s c))∧(nb t s c=0→pos t (w++[c]) 0=none):=by
 rw[Np,h];unfold nb;show (_→(nx t s c).map (· + 1)=_)∧(_→(nx t s c).map (· + 1)=none)
 cases nx t s c with
 |none=>exact⟨λz=>absurd z (iA _),λ_=>rfl⟩
 |some k=>exact⟨λ_=>rfl,λz=>by cases z⟩
theorem Zpk{d:Nat}{w t:List Nat}:(c :: w).Sublist (d :: t)↔(c :: w).Sublist t∨(c=d∧w.Sublist t):=by
 constructor
 ·intro h
  cases h with
  |cons _ h=>exact .inl h
  |cons_cons _ h=>exact .inr ⟨rfl,h⟩
 ·rintro(h|⟨rfl,h⟩)
  ·exact h.cons _
  ·exact h.cons_cons _
theorem Zbo:∀(w t:List Nat),0<emb w t↔w.Sublist t
 |[],t=>by rw[S8];exact⟨λ_=>YF _,λ_=>Nat.one_pos⟩
 |c :: w,[]=>by
  rw[Zev (by simp)];exact⟨λh=>absurd h (iA _),λh=>by cases h⟩
 |c :: w,d :: t=>by
  rw[O3,Zpk,←Zbo (c :: w) t,←Zbo w t]
  by_cases e:c=d
  ·rw[if_pos e];constructor
   ·intro h
    by_cases z:0<emb (c :: w) t
    ·exact .inl z
    ·exact .inr ⟨e,by lia⟩
   ·rintro(z|⟨_,z⟩)<;>lia
  ·rw[if_neg e];constructor
   ·intro h;exact .inl (by lia)
   ·rintro(z|⟨z,_⟩)
    ·lia
    ·exact absurd z e
theorem Ca(w t:List Nat):spB w t=true↔w.Sublist t:=by
 rw[Zh8,decide_eq_true_eq];exact Zbo w t
inductive Lx:List Nat→List Nat→Prop where
 |hd {a b:Nat}{x y:List Nat} (h:a<b):Lx (a :: x) (b :: y)
 |tl {a:Nat}{x y:List Nat} (h:Lx x y):Lx (a :: x) (a :: y)
theorem Lx.app{x:List Nat}(h:Lx x y)(z z':List Nat):Lx (x++z) (y++z'):=by
 induction h with
 |hd h=>exact .hd h
 |tl _ ih=>exact .tl ih
theorem Lx.snoc{c d:Nat}(h:c<d):∀x:List Nat,Lx (x++[c]) (x++[d])
 |[]=>.hd h
 |_ :: x=>.tl (Lx.snoc h x)
def sl(v u:List Nat):Prop:=v.length<u.length∨(v.length=u.length∧Lx v u)
def lev(T:List Nat):Nat→List (List Nat×Nat)
 | 0=>[([],0)]
 |i+1=>(lev T i).flatMap λr=>((U1 T).filter λc=>decide (0<nb T r.2 c)).map λc=>(r.1++[c],nb T r.2 c)
theorem Ta{T:List Nat}:∀(i:Nat) (r:UT),r∈lev T i↔r.1.length=i∧pos T r.1 0=some r.2
 | 0,r=>by
  unfold lev;rw[rY];constructor
  ·intro h;rw[h];exact⟨rfl,rfl⟩
  ·intro ⟨h1,h2⟩;have e:r.1=[]:=oV h1;rw[e]at h2;have:(0:Nat)=r.2:=Option.some.inj h2;exact Prod.ext e this.symm
 |i+1,r=>by
  unfold lev;rw[cW];constructor
  ·rintro⟨q,hq,h⟩;obtain⟨c,hc,rfl⟩:=oU.mp h;obtain⟨h1,h2⟩:=(Ta i q).mp hq;have h3:=of_decide_eq_true (lU.mp hc).2;refine⟨?_,(Zp6 h2).1 h3⟩;show (q.1++[c]).length=_;rw[oB,h1];rfl
  ·intro ⟨h1,h2⟩;have x6:r.1≠[]:=λe=>by rw[e]at h1;cases h1
   have hd:=List.dropLast_concat_getLast x6;rw[←hd,Np]at h2
   cases hp:pos T r.1.dropLast 0 with
   |none=>rw[hp]at h2;cases h2
   |some p=>
    rw[hp]at h2;have sG:(nx T p (r.1.getLast x6)).map (· + 1)=some r.2:=h2;refine⟨(r.1.dropLast,p),(Ta i _).mpr ⟨by rw[aP,h1];rfl,hp⟩,oU.mpr ⟨r.1.getLast x6,lU.mpr ⟨?_,?_⟩,?_⟩⟩
    ·rw[Qn]
     have hs:r.1.Sublist T:=by
      rw[←Ca,←Zbw,←hd,Np,hp];show ((nx T p (r.1.getLast x6)).map (· + 1)).isSome=true;rw[sG];rfl
     exact hs.subset (List.getLast_mem x6)
    ·refine decide_eq_true ?_;unfold nb
     cases e:nx T p (r.1.getLast x6) with
     |none=>rw[e]at sG;cases sG
     |some k=>exact Nat.succ_pos _
    ·refine Prod.ext hd ?_;show nb T p (r.1.getLast x6)=r.2;unfold nb
     cases e:nx T p (r.1.getLast x6) with
     |none=>rw[e]at sG;cases sG
     |some k=>
      rw[e]at sG;exact Option.some.inj sG
theorem Hf(T:List Nat):∀i,(lev T i).Pairwise λr r'=>Lx r.1 r'.1
 | 0=>by simp[lev]
 |i+1=>by
  unfold lev;rw[List.pairwise_flatMap];refine⟨λr _=>?_,(Hf T i).imp λ{r r'} l x hx y hy=>?_⟩
  ·rw[cD];exact((Sh T).sublist List.filter_sublist).imp λ{c d} l=>Lx.snoc l r.1
  ·obtain⟨c,_,rfl⟩:=oU.mp hx;obtain⟨d,_,rfl⟩:=oU.mp hy;exact l.app _ _
def wl(T:List Nat)(n:Nat):List WE:=(List.range (n+1)).flatMap λi=>(lev T i).map (·.1)
theorem D2(T:List Nat)(n:Nat):wl T (n+1)=wl T n++(lev T (n+1)).map (·.1):=by
 unfold wl;rw[List.range_succ,List.flatMap_append];simp
theorem Zg5:u∈wl T n↔u.length≤n∧u.Sublist T:=by
 unfold wl;rw[cW];constructor
 ·rintro⟨i,hi,h⟩;obtain⟨r,hr,rfl⟩:=oU.mp h;obtain⟨h1,h2⟩:=(Ta i r).mp hr;refine⟨by have:=lZ.mp hi;lia,?_⟩;rw[←Ca,←Zbw,h2];rfl
 ·intro ⟨h1,h2⟩;refine⟨u.length,lZ.mpr (by lia),?_⟩;rw[←Ca,←Zbw]at h2
  cases hp:pos T u 0 with
  |none=>rw[hp]at h2;cases h2
  |some p=>exact oU.mpr ⟨(u,p),(Ta _ _).mpr ⟨rfl,hp⟩,rfl⟩
theorem Sg(h:sl u u):False:=by
 rcases h with h|⟨_,h⟩
 ·lia
 ·have irr:∀x y:List Nat,Lx x y→x=y→False:=λx y h=>by
   induction h with
   |hd h=>intro e;injection e with e1 _;lia
   |tl _ ih=>intro e;injection e with _ e2;exact ih e2
  exact irr u u h rfl
theorem Lx.trans{x z:List Nat}(h1:Lx x y)(h2:Lx y z):Lx x z:=by
 induction h1 generalizing z with
 |hd h=>
  cases h2 with
  |hd h'=>exact .hd (by lia)
  |tl _=>exact .hd h
 |tl _ ih=>
  cases h2 with
  |hd h'=>exact .hd h'
  |tl h'=>exact .tl (ih h')
theorem Zid{x z:List Nat}(h1:sl x y)(h2:sl y z):sl x z:=by
 rcases h1 with a|⟨a,a'⟩<;>rcases h2 with b|⟨b,b'⟩
 ·exact .inl (by lia)
 ·exact .inl (by lia)
 ·exact .inl (by lia)
 ·exact .inr ⟨by lia,a'.trans b'⟩
theorem Uc(T:List Nat):∀n,(wl T n).Pairwise sl
 | 0=>by simp[wl,lev]
 |n+1=>by
  rw[D2,List.pairwise_append];refine⟨Uc T n,?_,λx hx y hy=>?_⟩
  ·rw[cD];refine List.Pairwise.imp_of_mem (λ{r r'} hr y4 l=>.inr ⟨?_,l⟩) (Hf T (n+1));rw[((Ta _ _).mp hr).1,((Ta _ _).mp y4).1]
  ·obtain⟨r,hr,rfl⟩:=oU.mp hy;have:=(Zg5.mp hx).1;have:=((Ta _ _).mp hr).1;exact .inl (by lia)
theorem Zif:∀{a b:WA},a.Pairwise sl→b.Pairwise sl→(∀u,u∈a↔u∈b)→a=b
 |[],[],_,_,_=>rfl
 |[],y :: b,_,_,h=>by
  have:=(h y).mpr oE;cases this
 |x :: a,[],_,_,h=>by
  have:=(h x).mp oE;cases this
 |x :: a,y :: b,ha,hb,h=>by
  cases ha with
  |cons j9 xG=>
   cases hb with
   |cons d8 j5=>
    have e:x=y:=by
     rcases oH.mp ((h x).mp oE) with e|e
     ·exact e
     ·rcases oH.mp ((h y).mpr oE) with e2|e2
      ·exact e2.symm
      ·exact(Sg (Zid (d8 x e) (j9 y e2))).elim
    subst e;rw[Zif xG j5 λz=>?_];constructor
    ·intro hz
     rcases oH.mp ((h z).mp (oO _ hz)) with e|e
     ·exact(Sg (e▸j9 z hz)).elim
     ·exact e
    ·intro hz
     rcases oH.mp ((h z).mpr (oO _ hz)) with e|e
     ·exact(Sg (e▸d8 z hz)).elim
     ·exact e
def spw(T:List Nat)(k:Nat):List WE:=wl T (min k T.length)
theorem Wr{k:Nat}:u∈spw T k↔u.length≤k∧u.Sublist T:=by
 unfold spw;rw[Zg5];constructor
 ·intro ⟨h1,h2⟩;exact⟨by lia,h2⟩
 ·intro ⟨h1,h2⟩;have:=h2.length_le;exact⟨by lia,h2⟩
theorem Zua(t:List Nat)(s c:Nat):V.int (lbv (nx t s c))=nI (nb t s c):=by
 unfold nb;cases nx t s c<;>rfl
theorem Zcj(nd:ys.Nodup)(mem:∀y,y∈ys↔y∈L2.signs z)(so:sortedS ys=true):ys.map V.str=(U1 z.cps.toList).map Oq:=by
 let hd:Str→Nat:=λy=>y.cps.toList.headD 0
 have h1:∀y∈ys,one (hd y)=y∧hd y∈z.cps.toList:=λy hy=>by
  obtain⟨c,hc,rfl⟩:=oU.mp ((mem y).mp hy);exact⟨rfl,hc⟩
 have e1:(ys.map hd).map one=ys:=by
  rw[lW]
  conv=>rhs;rw[←List.map_id ys]
  exact ZA λy hy=>(h1 y hy).1
 have so':sortedS ((ys.map hd).map one)=true:=by rw[e1];exact so
 have nd':(ys.map hd).Nodup:=by
  have:((ys.map hd).map one).Nodup:=by rw[e1];exact nd
  rw[iL,cD]at this;rw[iL];exact this.imp λ{a b} h e=>h (by rw[e])
 have e2:ys.map hd=U1 z.cps.toList:=Zdz _ _ (Up (Rv _ so') nd') (Sh _) λy=>by
  rw[Qn];constructor
  ·intro h;obtain⟨x,hx,rfl⟩:=oU.mp h;exact(h1 x hx).2
  ·intro h;exact oU.mpr ⟨one y,(mem _).mpr (oU.mpr ⟨y,h,rfl⟩),rfl⟩
 rw[←e1,e2,lW];rfl
def wr(r:UT):List V:=[.str (S r.1),nI r.2]
def up1(T:List Nat)(r:UT)(L:List Nat):List (List Nat×Nat):=(L.filter λc=>decide (0<nb T r.2 c)).map λc=>(r.1++[c],nb T r.2 c)
theorem Zhe{r:UT}{L:List Nat}(h:L[j]?=some c):up1 T r (L.take (j+1))=up1 T r (L.take j)++if 0<nb T r.2 c then [(r.1++[c],nb T r.2 c)] else []:=by
 unfold up1;rw[iV,h,iQ,oK]
 by_cases z:0<nb T r.2 c
 ·rw[if_pos z];show _++List.map _ (List.filter _ [c])=_;rw[ZQ (by simpa using z)];rfl
 ·rw[if_neg z];show _++List.map _ (List.filter _ [c])=_;rw[ZR (by simpa using z)];rfl
theorem D7(T:List Nat)(r:UT)(L:List Nat):(up1 T r L).length≤L.length:=by
 unfold up1;rw[rW];exact dG _ _
theorem Dh{α β:Type}{f:α→List β}{l:List α}{x:α}(h:l[i]?=some x):(l.take (i+1)).flatMap f=(l.take i).flatMap f++f x:=by
 rw[iV,h,List.flatMap_append];simp
theorem Q3{α β:Type}{f:α→List β}{n:Nat}(h:∀x,(f x).length≤n):∀l:List α,(l.flatMap f).length≤l.length*n
 |[]=>by simp
 |x :: l=>by
  rw[aI,oB,oR,Nat.succ_mul];have:=h x;have:=Q3 h l;lia
inductive Jn(vs:List V)(H:Hp)(Q:VK):Prop
 |mk(t:Str)(lp vp:Addr)(L:List Nat)(xs:List V)(rs:List (List Nat×Nat))(h1:vs=[.str t,.ref lp,.ref vp])(h2:t.length≤100)(h3:H lp=some (.lst (L.map Oq)))(h4:H vp=some (.lst xs))(h5:TR wr H xs rs)(h6:(∀r∈rs,r.1.length≤100∧r.2≤t.length))(h7:L.length≤100)(h8:rs.length≤10000)(h9:∀l ys H',H l=none→Zt H H'→H' l=some (.lst ys)→TR wr H' ys (rs.flatMap λr=>up1 t.cps.toList r L)→Q (.ref l) H'):Jn vs H Q
def Ec:Sp:=λvs H Q _=>Jn vs H Q
theorem Kf(F:Fun K "longer_words" "longer_words" Uj f fd)(Z:Blt mg)(Tu:Cal P w K mg base "left_behind" 1 UJ Zs4):Ya P w K mg base CX0 2 f fd UY Ec:=by
 refine F.ok Xd (λvs H Q E h=>?_) (λcdv A outer s H vs Q E hr h=>?_)
 ·obtain⟨t,lp,vp,L,xs,rs,rfl,_⟩:=h;rfl
 obtain⟨t,lp,vp,L,xs,rs,rfl,ht,yP,tE,hR,hb,hL,i9,k⟩:=h
 refine⟨_,(Ze (Zr (i:=3) Xd.nd (by rfl) (Or.inl (by rfl)) (Yk Zb)) 
   (Ze (Xp lI (by rfl) (Xg (K:=K) (pv 2)) (Vf (K:=K) (n:=2) (by rfl) (Ye (Zn (i:=4) Xd.nd (by rfl) (Or.inl (by rfl))) (Ye (Zn (i:=5) Xd.nd (by rfl) (Or.inl (by rfl))) Ve))) 
    (Zg (Xp lI (by rfl) (Xg (K:=K) (pv 1)) (Zn (i:=6) Xd.nd (by rfl) (Or.inl (by rfl))) 
     (Ze (Zr (i:=7) Xd.nd (by rfl) (Or.inl (by rfl)) (Z5 Tu (hr.mono (by decide)) (Za (pv 0) (Za (pv 5) (Za (pv 6) Zb))))) 
     (Zg (Yd (Zp Ao (pv 7) Zf (Zw _)) 
      (Zg (Xu (X5 (K:=K) lL iH iI X0 (pv 3) (Za (Z2 (Za (Z7 Vl (pv 4) (pv 6)) (Za (pv 7) Zb))) Zb)))) Zu)))))) 
   (Zg (Zl (pv 3))))),?_⟩
 refine(let n8:TS:=_;let eN:TS:=_;let eO:TS:=X8 _ eN;let eP:TS:=(Zfg _ _ eO);let mI:TS:=X8 (Zfg _ _ eP) n8;(?_:X8 _ mI _ _ _));refine⟨(by show 0≤sizeLine;decide),λl vT=>?_⟩;have pM:=hR.len;refine⟨_,rfl,vp,rfl,⟨_,SqL.of (Zd vT _ _ _ tE)⟩,?_⟩
 refine Qz (K:=K) (a:=vp) (xs:=xs) (λi σ H2=>∃(ys:List V) (v4 v5 v6 v7:Option V),σ=[some (.str t),some (.ref lp),some (.ref vp),some (.ref l),v4,v5,v6,v7]∧H2 l=some (.lst ys)∧Zt H H2∧TR wr H2 ys ((rs.take i).flatMap λr=>up1 t.cps.toList r L))
  ⟨[],none,none,none,none,rfl,Zc,Zd vT _,.nil⟩ (λi σ H2 _ h=>?_) ?_ ?_
 ·obtain⟨ys,v4,v5,v6,v7,rfl,h1,h2,h3⟩:=h;exact SqL.of (h2 _ _ tE)
 ·rintro i x σ H2 hx ⟨ys,v4,v5,v6,v7,rfl,xD,e2,R2⟩;obtain⟨ra,r,rfl,y4,b7⟩:=(hR.keep (Tk.same e2)).at_ hx;obtain⟨b1,b2⟩:=hb r (oM y4);have hi:i<rs.length:=(oG.mp y4).1;refine⟨ra,wr r,rfl,SqT.of b7,rfl,_,_,rfl,_,_,rfl,rfl,?_⟩;refine⟨_,rfl,lp,rfl,⟨_,SqL.of (e2 _ _ yP)⟩,?_⟩
  refine Qz (K:=K) (a:=lp) (xs:=L.map Oq) (λj σ H3=>∃(ys:List V) (v6 v7:Option V),σ=[some (.str t),some (.ref lp),some (.ref vp),some (.ref l),some (.str (S r.1)),some (nI r.2),v6,v7]∧H3 l=some (.lst ys)∧Zt H H3∧TR wr H3 ys (((rs.take i).flatMap λr=>up1 t.cps.toList r L)++up1 t.cps.toList r (L.take j)))
   ⟨ys,v6,v7,rfl,xD,e2,by simpa[up1] using R2⟩ (λj σ H3 _ h=>?_) ?_ ?_
  ·obtain⟨ys,v6,v7,rfl,h1,h2,h3⟩:=h;exact SqL.of (h2 _ _ yP)
  ·rintro j y σ H3 hy ⟨ys,v6,v7,rfl,kZ,e3,R3⟩;rw[oP]at hy
   cases hc:L[j]? with
   |none=>rw[hc]at hy;cases hy
   |some c=>
    rw[hc]at hy;cases hy;have hj:j<L.length:=(oG.mp hc).1;refine⟨_,rfl,_,rfl,_,rfl,t,r.2,c,rfl,b2,?_⟩;rw[Zua];refine⟨_,rfl,_,_,rfl,rfl,_,rfl,?_⟩;rw[Zhe hc];refine Xx (λc1=>?_) (λc1=>?_)
    ·have sX:0<nb t.cps.toList r.2 c:=by
      have:(0:Int)<((nb t.cps.toList r.2 c:Nat):Int):=of_decide_eq_true c1;lia
     have s1:(S r.1).length+(⟨#[c]⟩:Str).length≤1000:=by
      rw[Xq];show r.1.length+1≤1000;lia
     refine⟨_,rfl,.inl ⟨rfl,_,SqL.of kZ⟩,_,rfl,_,rfl,_,_,rfl,rfl,Xn s1,_,rfl,(by show 2≤sizeLine;decide),λq hq=>?_⟩;rw[Li];have s3:=Zd hq (.tup [V.str (S (r.1++[c])),nI (nb t.cps.toList r.2 c)]);have Zuz:=s3 _ _ kZ
     have ll:ys.length<sizeLine:=by
      rw[R3.len,oB,sizeLine_eq];have:=Q3 (f:=λr=>up1 t.cps.toList r L) (n:=100) (λr=>lC (D7 _ _ _) hL) (rs.take i);have h5:(rs.take i).length*100≤10000*100:=Nat.mul_le_mul_right _ (by rw[iE];lia);have:=D7 t.cps.toList r (L.take j);rw[iE]at this;lia
     refine⟨l,_,_,rfl,rfl,Zuz,ll,_,_,_,rfl,Zc,Xe (e3.trans s3) vT _,?_⟩;rw[if_pos sX,←iK];have K6:=Tk.lst Zuz (.lst (ys++[.ref q]));exact(((R3.keep (Tk.same s3)).keep K6)).snoc (K6 _ _ Zc)
    ·have sX:¬ 0<nb t.cps.toList r.2 c:=λz=>c1 (decide_eq_true (show (0:Int)<((nb t.cps.toList r.2 c:Nat):Int) by lia));refine⟨ys,_,_,rfl,kZ,e3,?_⟩;rw[if_neg sX,lN];exact R3
  ·rintro σ H3 ⟨ys,v6,v7,rfl,kZ,e3,R3⟩;refine⟨ys,_,_,_,_,rfl,kZ,e3,?_⟩;rw[Dh y4];rw[rW,lX]at R3;exact R3
 ·rintro σ H2 ⟨ys,v4,v5,v6,v7,rfl,xD,e2,R2⟩;refine⟨_,rfl,k l ys H2 vT e2 xD ?_⟩;rw[pM,lX]at R2;exact R2
theorem Kx{T:List Nat}{m:Nat}(hm:(U1 T).length≤m):∀i,(lev T i).length≤m ^ i
 | 0=>rX _
 |i+1=>by
  have:=Q3 (f:=λr=>up1 T r (U1 T)) (n:=m) (λr=>lC (D7 _ _ _) hm) (lev T i);have h2:=Kx hm i;show ((lev T i).flatMap λr=>up1 T r (U1 T)).length≤_;rw[Nat.pow_succ];exact lC this (Nat.mul_le_mul_right _ h2)
def Wf(ws:WA):List V:=ws.map λu=>.str (S u)
inductive Jj(vs:List V)(H:Hp)(Q:VK):Prop
 |mk(t:Str)(k:Nat)(h1:vs=[.str t,nI k])(h2:t.length≤60)(h3:(U1 t.cps.toList).length≤3)(h4:k≤4)(h5:∀l H',H l=none→Zt H H'→H' l=some (.lst (Wf (spw t.cps.toList k)))→Q (.ref l) H'):Jj vs H Q
def F9:Sp:=λvs H Q _=>Jj vs H Q
theorem Zg6(hm:(U1 T).length≤3):∀n,n≤4→(wl T n).length≤400:=λn hn=>by
 have h:=Kx hm;have h0:=h 0;have h1:=h 1;have h2:=h 2;have h3:=h 3;have h4:=h 4;have e0:(wl T 0).length=(lev T 0).length:=by simp[wl]
 have st:∀j,(wl T (j+1)).length=(wl T j).length+(lev T (j+1)).length:=λj=>by rw[D2,oB,rW]
 have s0:=st 0;have s1:=st 1;have s2:=st 2;have s3:=st 3;simp only[Nat.reduceAdd,Nat.reducePow] at *
 match n,hn with
 | 0,_=>lia
 | 1,_=>lia
 | 2,_=>lia
 | 3,_=>lia
 | 4,_=>lia
theorem Kd(F:Fun K "spread_words" "spread_words" Vc f fd)(Z:Blt mg)(Uy:Cal P w K mg base "longer_words" 2 UY Ec):Ya P w K mg base CX0 3 f fd ["text","k"] F9:=by
 refine F.ok Xc (λvs H Q E h=>?_) (λcdv A outer s H vs Q E hr h=>?_)
 ·obtain⟨t,k,rfl,_⟩:=h;rfl
 obtain⟨t,kn,rfl,ht,t6,hk,k⟩:=h
 refine⟨_,(Ze (Zr (i:=2) Xc.nd (by rfl) (Or.inl (by rfl)) (Zq (Bg (by rfl)) (by rfl) Z.sorted Pp (Za (Zy (Zcw (by rfl)) (by rfl) Z.set Zk7 (Za (pv 0) Zb)) Zb))) 
   (Ze (Zr (i:=3) Xc.nd (by rfl) (Or.inl (by rfl)) (Yk (Za Z4 Zb))) 
   (Ze (Zr (i:=4) Xc.nd (by rfl) (Or.inl (by rfl)) (Yk (Za (Z2 (Za Z4 (Za Zf Zb))) Zb))) 
   (Ze (Xp lI (by rfl) (Wz (by rfl) Z.range (Za (Zq (Ds (by rfl)) (by rfl) Z.min Zc2 (Za (pv 1) (Za (Zq Y0 (by rfl) Z.len Yw (Za (pv 0) Zb)) Zb))) Zb)) (Zn (i:=5) Xc.nd (by rfl) (Or.inl (by rfl))) 
    (Ze (Zr (i:=4) Xc.nd (by rfl) (Or.inl (by rfl)) (Z5 Uy (hr.mono (by decide)) (Za (pv 0) (Za (pv 2) (Za (pv 4) Zb))))) 
    (Zg (Xu (X5 (K:=K) lL PySem.F.slot_list_extend PySem.F.type_list_extend Eo (pv 3) (Za (Yo (sc:=Zh Vc) (Nm:=VY) (own:=["word","start"]) (fr:=[]) ⟨rfl,by decide +kernel,by decide +kernel,by decide +kernel,by decide +kernel⟩ (by rfl) (N1 (X1 (by decide) (X1 (by decide) Qx))) (Xg (K:=K) (pv 4)) (λd=>(Vf (K:=K) (n:=2) (by rfl) (Ye (Zn (i:=0) U6 (by rfl) (Or.inl (by rfl))) (Ye (Zn (i:=1) U6 (by rfl) (Or.inl (by rfl))) Ve)))) (λd=>Xt) (λd=>(pv 0))) Zb)))))) 
   (Zg (Zl (pv 3))))))),?_⟩
 refine(let n8:TS:=_;let eN:TS:=_;let eO:TS:=X8 _ eN;let eP:TS:=X8 (Zfg _ _ eO) n8;let mI:TS:=X8 _ eP;let tV:TS:=X8 _ mI;(?_:X8 _ tV _ _ _));have htl:=len_list t;refine⟨_,rfl,_,rfl,by lia,λl0 u8=>⟨l0,_,_,rfl,Zc,by lia,λls lp nd mem so yP=>?_⟩⟩;rw[Zcj nd mem so];generalize jQ:upd (upd H l0 _) lp _=H1;have h1:H1 lp=some (.lst ((U1 t.cps.toList).map Oq)):=by rw[←jQ];exact Zc
 have e1:Zt H H1:=by rw[←jQ];exact(Zd u8 _).trans (Zd yP _)
 clear jQ;refine⟨(by show 1≤sizeLine;decide),λtp kG=>?_⟩;have e2:=e1.trans (Zd kG (.lst [.str (Str.ofString "")]));have xD:=Zd kG (.lst [.str (Str.ofString "")]) _ _ h1
 have h2t:upd H1 tp (.lst [.str (Str.ofString "")]) tp=some (.lst (Wf (wl t.cps.toList 0))):=by
  rw[Zc,Dy];rfl
 have Zuk:=none_of e1 kG;generalize upd H1 tp _=H2 at e2 xD h2t;refine⟨(by show 2≤sizeLine;decide),λra b7=>⟨(by show 1≤sizeLine;decide),λvp tE=>?_⟩⟩;generalize vH:upd (upd H2 ra _) vp _=H3;have s3:Zt H2 H3:=by rw[←vH];exact(Zd b7 _).trans (Zd tE _)
 have h3v:H3 vp=some (.lst [.ref ra]):=by rw[←vH];exact Zc
 have h3r:H3 ra=some (.tup (wr ([],0))):=by
  rw[←vH];refine Zd tE _ _ _ (Zc.trans ?_);rw[Dy];rfl
 clear vH;refine⟨_,rfl,_,rfl,t,rfl,Xn (by lia),_,_,rfl,_,rfl,?_,?_,?_⟩
 ·by_cases z:((t.length:Int))<((kn:Nat):Int)
  ·rw[if_pos z];lia
  ·rw[if_neg z];lia
 ·by_cases z:((t.length:Int))<((kn:Nat):Int)
  ·rw[if_pos z];lia
  ·rw[if_neg z];lia
 have Zrb:(if ((t.length:Int))<((kn:Nat):Int) then ((t.length:Int)) else ((kn:Nat):Int)).toNat=min kn t.cps.toList.length:=by
  by_cases z:((t.length:Int))<((kn:Nat):Int)
  ·rw[if_pos z];lia
  ·rw[if_neg z];lia
 rw[Zrb]
 refine Le (lo:=0) (n:=min kn t.cps.toList.length) (λi σ H4=>∃(vp:Addr) (xs:List V) (v5 v6 v7:Option V),σ=[some (.str t),some (nI kn),some (.ref lp),some (.ref tp),some (.ref vp),v5]∧H4 lp=some (.lst ((U1 t.cps.toList).map Oq))∧H4 tp=some (.lst (Wf (wl t.cps.toList i)))∧H4 vp=some (.lst xs)∧TR wr H4 xs (lev t.cps.toList i)∧Zt H H4)
  ⟨vp,[.ref ra],none,none,none,rfl,s3 _ _ xD,s3 _ _ h2t,h3v,.cons h3r .nil,e2.trans s3⟩ ?_ ?_
 ·rintro i σ H4 hi ⟨vp,xs,v5,v6,v7,rfl,jB,mU,h4v,R4,e4⟩;have vQ:=Kx t6 i;have hpow:3 ^ i≤3 ^ 4:=aS (by decide) (by lia);refine⟨_,rfl,_,rfl,_,rfl,t,lp,vp,U1 t.cps.toList,xs,lev t.cps.toList i,rfl,by lia,jB,h4v,R4,λr hr=>?_,by lia,by lia,λl5 ys H5 nA e5 h5 R5=>?_⟩
  ·obtain⟨g1,g2⟩:=(Ta i r).mp hr;have:=Zi3 (lB _) g2;exact⟨by lia,by lia⟩
  have wW:TR wr H5 ys (lev t.cps.toList (i+1)):=R5;have m5:=wW.len;have hli1:=Kx t6 (i+1);have hpow1:3 ^ (i+1)≤3 ^ 4:=aS (by decide) (by lia);have jE:=e5 _ _ mU;have ntl:l5≠tp:=(Zi mU nA).symm;refine⟨_,rfl,.inl ⟨rfl,_,SqL.of jE⟩,_,rfl,l5,rfl,⟨_,SqL.of h5⟩,?_⟩
  refine Wl (K:=K) (a:=l5) (xs:=ys) (λj acc H6=>acc=((lev t.cps.toList (i+1)).take j).map (λr=>V.str (S r.1))∧Zt H5 H6) (by rw[m5];exact Sf (by lia)) ⟨rfl,Zt.refl _⟩ (λj acc H6 p=>by rw[p.1,rW,iE];exact ZE _ _)
   (λj acc H6 p=>SqL.of (p.2 _ _ h5)) (λj acc H6 x hx p=>?_) (λacc H6 p y hy=>?_)
  ·obtain⟨rfl,e6⟩:=p;obtain⟨ra,r,rfl,y4,b7⟩:=(wW.keep (Tk.same e6)).at_ hx;refine Zoy rfl (SqT.of b7) ⟨_,rfl,?_,e6⟩;rw[map_take y4]
  ·obtain⟨rfl,e6⟩:=p;rw[m5,lX];have s7:=Zd hy (.lst ((lev t.cps.toList (i+1)).map λr=>V.str (S r.1)));have gB:=s7 _ _ (e6 _ _ jE);have wll:=Zg6 t6 i (by lia);refine⟨tp,y,_,_,rfl,rfl,gB,Zc,(by unfold Wf;rw[rW,rW];exact Xn (by lia)),?_⟩;have e17:=(e5.trans e6).trans s7;have nlt:lp≠tp:=Zi h1 kG;refine⟨l5,ys,_,none,none,rfl,(Zk nlt).trans (e17 _ _ jB),?_,(Zk ntl).trans (s7 _ _ (e6 _ _ h5)),((wW.keep (Tk.same e6)).keep (Tk.same s7)).keep (Tk.lst gB _),Xe (e4.trans e17) Zuk _⟩;rw[Zc,D2];unfold Wf;rw[oK,lW];rfl
 ·rintro σ H4 ⟨vp,xs,v5,v6,v7,rfl,jB,mU,h4v,R4,e4⟩;exact⟨_,rfl,k tp H4 Zuk e4 mU⟩
theorem Zdi:∀{k:Nat}{L v:List Nat},v.length≤k→(∀c∈v,c∈L)→v.Sublist (List.replicate k L).flatten
 | 0,L,v,h,_=>by rw[oV (by lia:v.length=0)];exact YF _
 |k+1,L,[],_,_=>YF _
 |k+1,L,c :: v,h,hc=>by
  rw[bT,aF];have h1:[c].Sublist L:=List.singleton_sublist.mpr (hc c oE);exact h1.append (Zdi (v:=v) (by simpa using h) λd hd=>hc d (oO _ hd))
def lies(u:List Nat)(z:Str):Bool:=decide (z.cps.toList.Sublist u)
theorem Hr{p:Str→Prop}{ly yZ:Str→Bool}(h:∀z,p z→ly z=yZ z):∀{W:Wi},W.ok p→ev ly W=ev yZ W
 |.lf _,_=>rfl
 |.has z,q=>h z q
 |.nt x,q=>by show (!(ev ly x)) = !(ev yZ x);rw[Hr h (W:=x) q]
 |.bi b x y,q=>by
  show (if b then ev ly x&&ev ly y else ev ly x||ev ly y)=if b then ev yZ x&&ev yZ y else ev yZ x||ev yZ y
  rw[Hr h (W:=x) q.1,Hr h (W:=y) q.2]
def U5(kvs:TB):List WW:=kvs.map λx=>Zcq x.1
theorem Tkn.rows{k:Nat}{b:Nat}(h:Tkn k l st b es kvs){bs:VB}(t:Gv H kvs bs):TR tvS H (bs.map V.ref) (U5 kvs):=by
 have key:∀(kvs:TB) (bs:VB),(∀x∈kvs,∃ys:List Str,x.1=ys.map Sum.inr)→Gv H kvs bs→TR tvS H (bs.map V.ref) (U5 kvs):=by
  intro kvs
  induction kvs with
  |nil=>
   intro bs _ t;rw[oV t.1];exact .nil
  |cons x kvs ih=>
   intro bs hx t
   cases bs with
   |nil=>cases t.1
   |cons c bs=>
    obtain⟨ys,e⟩:=hx x oE;have h0:=t.2 0 c x.1 x.2 rfl rfl;refine .cons ?_ (ih bs (λy hy=>hx y (oO _ hy)) ⟨by simpa using t.1,λi b' k' v' a1 a2=>t.2 (i+1) b' k' v' (by simpa using a1) (by simpa using a2)⟩);rw[e,Ky]at h0;show H c=some (.tup (tvS (Zcq x.1)));rw[e,Qy];exact h0
 exact key kvs bs (λx hx=>let ⟨_,ys,_,_,e,_⟩:=h.tx x hx;⟨ys,e⟩) t
theorem Tkn.row{k:Nat}{b:Nat}(h:Tkn k l st b es kvs){r:List Str}(hr:r∈U5 kvs):∃u:List Nat,(∀c∈u,c∈l.cps.toList)∧Cls k u r∧(r.map Sum.inr:List Key)∈kvs.map (·.1):=by
 obtain⟨x,hx,e⟩:=oU.mp hr;obtain⟨u,ys,h1,h2,h3,_⟩:=h.tx x hx;have:r=ys:=by rw[←e,h3,Qy]
 subst this;exact⟨u,h1,h2,by rw[←h3];exact dW hx⟩
theorem Tkn.has{k:Nat}{b:Nat}(h:Tkn k l st b es kvs)(hu:∀c∈u,c∈l.cps.toList)(he:way l st b u∈es):∃r∈U5 kvs,Cls k u r:=by
 obtain⟨x,hx,ys,h1,h2⟩:=h.all u hu he;exact⟨ys,oU.mpr ⟨x,hx,by rw[h2,Qy]⟩,h1⟩
def Sx(l:Str)(k:Nat):List Str:=(spw (Ms l k).cps.toList k).map S
theorem Nl(l:Str)(k:Nat):(Ms l k).cps.toList=(List.replicate k l.cps.toList).flatten:=by simp[Ms]
theorem D1{k:Nat}{v:List Nat}:S v∈Sx l k↔v.length≤k∧∀c∈v,c∈l.cps.toList:=by
 unfold Sx;rw[oU];constructor
 ·rintro⟨u,hu,e⟩;rw[Za5 e]at hu;obtain⟨h1,h2⟩:=Wr.mp hu;refine⟨h1,λc hc=>?_⟩;have:=h2.subset hc;rw[Nl]at this;obtain⟨x,hx,yJ⟩:=List.mem_flatten.mp this;rw[(ZL.mp hx).2]at yJ;exact yJ
 ·rintro⟨h1,h2⟩;exact⟨v,Wr.mpr ⟨h1,by rw[Nl];exact Zdi h1 h2⟩,rfl⟩
theorem Bp{k:Nat}(h:z∈Sx l k):∃v,z=S v∧v.length≤k∧∀c∈v,c∈l.cps.toList:=by
 obtain⟨v,_,e⟩:=oU.mp h;refine⟨v,e.symm,?_⟩;rw[←e]at h;exact D1.mp h
theorem Za9{k:Nat}(h:W15 k l.cps.toList):(Sx l k).length≤15:=by
 obtain⟨all,h1,h2⟩:=h
 have nd:(Sx l k).Nodup:=by
  unfold Sx;rw[iL,cD];refine(Uc (Ms l k).cps.toList (min k (Ms l k).cps.toList.length)).imp λ{a b} s e=>?_;rw[Za5 e]at s;exact Sg s
 have:=U7 nd (b:=all) λz hz=>by
  obtain⟨v,e,q1,q2⟩:=Bp hz;rw[e];exact h2 v q1 q2
 lia
theorem Zar{k:Nat}{r:List Str}(h:Cls k u r)(hz:z∈Sx l k):inR r z=lies u z:=by
 obtain⟨v,rfl,h1,_⟩:=Bp hz;unfold inR lies;rw[lH,decide_eq_true_eq,decide_eq_true_eq,h.mem];exact⟨λq=>q.2,λq=>⟨h1,q⟩⟩
structure Gq(k:Nat)(l:Str)(st1 st2:WA)(b1 b2:Nat)(es1 es2:List Nat)(W:Wi):Prop where
 dep:W.dep≤33
 ok:W.ok λz=>∃v:List Nat,z=S v∧v.length≤k∧∀c∈v,c∈l.cps.toList
 yes:∀u:List Nat,(∀c∈u,c∈l.cps.toList)→way l st1 b1 u∈es1→ev (lies u) W=true
 no:∀u:List Nat,(∀c∈u,c∈l.cps.toList)→way l st2 b2 u∈es2→ev (lies u) W=false
theorem Wi.Io{p q:Str→Prop}(h:∀z,p z→q z):∀{W:Wi},W.ok p→W.ok q
 |.lf _,_=>True.intro
 |.has z,x=>h z x
 |.nt x,y=>Wi.Io h (W:=x) y
 |.bi _ x y,z=>⟨Wi.Io h (W:=x) z.1,Wi.Io h (W:=y) z.2⟩
theorem Parts.Nb{k:Nat}{y8 k9:TB}{W:Wi}(t1:Tkn k l st1 b1 es1 y8)(t2:Tkn k l st2 b2 es2 k9)(p:Parts (Sx l k) (U5 y8) (U5 k9) 16 W):Gq k l st1 st2 b1 b2 es1 es2 W:=by
 refine⟨p.dep,Wi.Io (λz hz=>Bp hz) p.ok,λu hu he=>?_,λu hu he=>?_⟩
 ·obtain⟨r,hr,hC⟩:=t1.has hu he;rw[←Hr (λz hz=>Zar hC hz) p.ok];exact p.yes r hr
 ·obtain⟨r,hr,hC⟩:=t2.has hu he;rw[←Hr (λz hz=>Zar hC hz) p.ok];exact p.no r hr
theorem Zt5{k:Nat}{y8 k9:TB}(t1:Tkn k l st1 b1 es1 y8)(t2:Tkn k l st2 b2 es2 k9)(w8:∀x∈y8,x.1∉k9.map (·.1)):Mix (Sx l k) (U5 y8) (U5 k9):=λr hr o ho=>by
 obtain⟨u,hu,cu,ku⟩:=t1.row hr;obtain⟨v,hv,cv,kv⟩:=t2.row ho;refine dX λq=>?_;have all:∀z∈Sx l k,(z∈r↔z∈o):=λz hz=>dX λy=>q ⟨z,hz,y⟩
 have e:r=o:=cu.one cv λw hw=>by
  constructor
  ·intro hs;have hz:S w∈Sx l k:=D1.mpr ⟨hw,λc hc=>hu c (hs.subset hc)⟩;exact(cv.mem.mp ((all _ hz).mp (cu.mem.mpr ⟨hw,hs⟩))).2
  ·intro hs;have hz:S w∈Sx l k:=D1.mpr ⟨hw,λc hc=>hv c (hs.subset hc)⟩;exact(cu.mem.mp ((all _ hz).mpr (cv.mem.mpr ⟨hw,hs⟩))).2
 obtain⟨x,hx,ex⟩:=oU.mp ku;refine w8 x hx ?_;rw[ex,e];exact kv
theorem Zmf{l:List Nat}(h:l.Pairwise (·<·)):l.Nodup:=h.imp λ{a b} q=>oY q
inductive Zny(K:W.Frag)(Py:Addr)(vs:List V)(H:Hp)(Q:VK):Prop
 |mk(l:Str)(k:Nat)(p q:Addr)(y8 k9:TB)(st1 st2:WA)(b1 b2:Nat)(es1 es2:List Nat)(h1:vs=[.str l,nI k,.ref p,.ref q])(h2:Rd H p (.dT y8))(h3:Rd H q (.dT k9))(h4:Tkn k l st1 b1 es1 y8)(h5:Tkn k l st2 b2 es2 k9)(h6:(∀x∈y8,x.1∉k9.map (·.1)))(h7:l.length≤3)(h8:k≤3)(h9:W15 k l.cps.toList)(yB:Tb Py Rj H)(vB:∀v W H',Uv Py H H'→Tb Py Rj H'→WK K H' v W→Gq k l st1 st2 b1 b2 es1 es2 W→Q v H'):Zny K Py vs H Q
def Zpp(K:W.Frag)(Py:Addr):Sp:=λvs H Q _=>Zny K Py vs H Q
theorem Ke(F:Fun K "parting_wish" "parting_wish" Ui f fd)(Z:Blt mg)(Uw:Cal P w K mg base "spread_words" 3 ["text","k"] F9)(Xs:Cal P w K mg base "wish_between" 21 WQ (Zbq K Py 16)):Ya P w K mg base CX0 22 f fd UB (Zpp K Py):=by
 refine F.ok Kb (λvs H Q E h=>?_) (λcdv A outer s H vs Q E hr h=>?_)
 ·obtain⟨l,k,p,q,y8,k9,st1,st2,b1,b2,es1,es2,rfl,_⟩:=h;rfl
 obtain⟨l,kn,p,q,y8,k9,st1,st2,b1,b2,es1,es2,rfl,hp,hq,t1,t2,w8,t6,c5,hW,TX,kt⟩:=h;refine⟨_,(Zg (Zl (Z5 Xs (hr.mono (by decide)) (Za (Z5 Uw (hr.mono (by decide)) (Za (Z7 Zb1 (pv 0) (pv 1)) (Za (pv 1) Zb))) (Za (Zy (L6 (by rfl)) (by rfl) Z.list Pq (Za (pv 2) Zb)) (Za (Zy (L6 (by rfl)) (by rfl) Z.list Pq (Za (pv 3) Zb)) Zb)))))),?_⟩;have nB:=len_list l
 have vU:(Ms l kn).length≤9:=by
  rw[←len_list,Nl,List.length_flatten,List.map_replicate,List.sum_replicate_nat];have:kn*l.cps.toList.length≤3*3:=Nat.mul_le_mul c5 (by lia);exact this
 have x5:(U1 (Ms l kn).cps.toList).length≤3:=by
  have:=U7 (a:=U1 (Ms l kn).cps.toList) (b:=l.cps.toList) (Zmf (Sh _)) λc hc=>by
   have hc:=(Qn c _).mp hc;rw[Nl]at hc;obtain⟨x,hx,yJ⟩:=List.mem_flatten.mp hc;rw[(ZL.mp hx).2]at yJ;exact yJ
  lia
 refine⟨_,rfl,_,rfl,l,(kn:Int),rfl,rfl,by lia,by lia,by lia,_,rfl,Ms l kn,kn,rfl,by lia,x5,by lia,λw1 H1 n1 e1 g1=>?_⟩;have rs:∀{H H':Hp}{p:Addr}{u:HO},Rd H p u→Zt H H'→Rd H' p u:=λh e=>h.imp (e _ _) λ⟨o,z⟩=>⟨o,e _ _ z⟩;refine⟨_,rfl,p,y8,rfl,rs hp e1,λl1 bs1 K1 m1=>?_⟩;have R1:=t1.rows K1;generalize eZ:upd H1 l1 _=H2;have s2:=nS7 eZ m1;have g2:=nU7 eZ;refine⟨_,rfl,q,k9,rfl,rs hq (e1.trans s2),λl2 bs2 K2 m2=>?_⟩;have R2:=t2.rows K2;generalize eZ:upd H2 l2 _=H3;have s3:=nS7 eZ m2;have g3:=nU7 eZ;have e3:=e1.trans (s2.trans s3);have few:∀{kvs:TB},kvs.length≤200000→(U5 kvs).length≤200000:=λh=>by unfold U5;rw[rW];exact h
 refine⟨w1,l1,l2,Sx l kn,_,_,U5 y8,U5 k9,rfl,?_,s3 _ _ g2,R1.keep (Tk.same (s2.trans s3)),g3,R2.keep (Tk.same s3),few t1.few,few t2.few,Zt5 t1 t2 w8,?_,TX.same e3,λv W H4 e4 TX4 w4 p4=>kt v W H4 (e3.t.trans e4) TX4 w4 (p4.Nb t1 t2)⟩
 ·have:=s3 _ _ (s2 _ _ g1);rw[this];show some (HO.lst (Wf _))=_;unfold Wf Sx;rw[lW];rfl
 ·have:=Za9 hW;have h2:cnt (Sx l kn) (U5 y8++U5 k9)≤(Sx l kn).length:=dG _ _;lia
structure Kl2(K:W.Frag)(mg:WD)(Y1 Yj:Addr):Prop where
 C3:mg "SpreadError"=some (.ref Y1)
 Zjv:mg "NoFit"=some (.ref Yj)
 Zkp:Zni K Yj
 Zqy:W.keepIn K (.ref Yj)=true
 Zkz:Zgm K Yj none=true
 kn:W.kitOne K (.ref Yj) (.ref Yj)=some true
 kv:W.kitOne K (.ref Yj) (.type "ValueError")=some true
 exm:W.exmOne K (.ref Yj) (.ref Y1)=some true
inductive Zdu(cN:Addr)(vs:List V)(H:Hp)(Q:VK)(E:XK):Prop
 |mk(m1 m2:Addr)(l1 l2:Str)(b1 b2:Nat)(es1 es2:List Nat)(st1 st2:WA)(h1:vs=[.ref m1,.ref m2])(h2:Yc H m1 l1 b1 es1 st1)(h3:Yc H m2 l2 b2 es2 st2)(h4:(l1=l2→Q .non H))(h5:(l1≠l2→∀a H',Zt H H'→H' a=some (exR a cN none)→E (.ref a) none H')):Zdu cN vs H Q E
def Zbp(cN:Addr):Sp:=λvs H Q E=>Zdu cN vs H Q E
theorem Ar(F:Fun K "look_fit" "look_fit" Oj f fd)(Z:Blt mg)(kl:Kl2 K mg Y1 Yj):Ya P w K mg base (CXE P w) 1 f fd US (Zbp Yj):=by
 refine F.okX B4 (λvs H Q E h=>?_) (λA outer s H vs Q E hr h=>?_)
 ·obtain⟨m1,m2,l1,l2,b1,b2,es1,es2,st1,st2,rfl,_⟩:=h;rfl
 obtain⟨m1,m2,l1,l2,b1,b2,es1,es2,st1,st2,rfl,M1,M2,kq,kx⟩:=h
 refine⟨_,(Zg (Yd (Zp Nr (Zs (Zo (K:=K)) (pv 0) Zf (λ_ _=>rfl)) (Zs (Zo (K:=K)) (pv 1) Zf (λ_ _=>rfl)) (Zw _)) 
    (Zg (Zi2 (K:=K) (Zl4 kl.Zkz kl.Zqy kl.Zjv) Zii)) Zu)),?_⟩
 obtain⟨e1,s1,ras1,h1,_⟩:=M1.lay;obtain⟨e2,s2,Zta,h2,_⟩:=M2.lay;refine⟨_,rfl,m1,_,_,_,rfl,rfl,SqT.of h1,Zj (j:=0) rfl,_,rfl,m2,_,_,_,rfl,rfl,SqT.of h2,Zj (j:=0) rfl,rfl,_,rfl,?_⟩;refine Xx (λc=>?_) (λc=>?_)
 ·refine⟨(by show 0≤1000;decide),λe he=>⟨e,Yj,none,none,rfl,kl.Zkz,Zc,?_⟩⟩;rw[U3];exact kx (λz=>by rw[z]at c;simp at c) e _ (Zd he _) Zc
 ·refine kq (dX λz=>c ?_);simp[z]
def Kp2(P1 P2:Addr)(H H':Hp):Prop:=∀b o,b≠P1→b≠P2→H b=some o→H' b=some o
theorem Tb.B7{kv:TB}(t:Tb Pt L H)(hp:H p=some (.dT kv))(e:Za4 p H H'):Tb Pt L H':=by
 obtain⟨ps,h1,h2,h3⟩:=t;exact⟨ps,e _ _ (Yt h1 hp λz=>nomatch z) h1,h2,λx hx=>(h3 x hx).imp id λ⟨c,a,b⟩=>⟨c,a,e _ _ (Yt b hp λz=>nomatch z) b⟩⟩
theorem Tk.b{kv:TB}(hp:H p=some (.dT kv))(e:Za4 p H H'):Tk H H':=λb ys h=>e _ _ (Yt h hp λz=>nomatch z) h
structure Zr6(K:W.Frag)(Px Py:Addr)(k:Nat)(l:Str)(st1 st2:WA)(b1 b2:Nat)(es1 es2:List Nat)(H:Hp)(Q:VK):Prop where
 alike:∀t u v H',Kp2 Px Py H H'→Tb Px Nd H'→Tb Py Rj H'→H' t=some (.tup [.str "alike",.str (S u),.str (S v)])→(∀c∈u,c∈l.cps.toList)→(∀c∈v,c∈l.cps.toList)→way l st1 b1 u∈es1→way l st2 b2 v∈es2→(∀x:List Nat,x.length≤k→(x.Sublist u↔x.Sublist v))→u.length≤200000→v.length≤200000→Q (.ref t) H'
 Nb:∀t v W H',Kp2 Px Py H H'→Tb Px Nd H'→Tb Py Rj H'→H' t=some (.tup [.str "wish",v])→WK K H' v W→Gq k l st1 st2 b1 b2 es1 es2 W→(∀u v:List Nat,(∀c∈u,c∈l.cps.toList)→(∀c∈v,c∈l.cps.toList)→way l st1 b1 u∈es1→way l st2 b2 v∈es2→¬ ∀x:List Nat,x.length≤k→(x.Sublist u↔x.Sublist v))→Q (.ref t) H'
inductive Znw(K:W.Frag)(Px:Addr)(Py:Addr)(cN:Addr)(vs:List V)(H:Hp)(Q:VK)(E:XK):Prop
 |mk(m1 m2:Addr)(l1 l2:Str)(b1 b2:Nat)(es1 es2:List Nat)(st1 st2:WA)(k:Nat)(h1:vs=[.ref m1,.ref m2,nI k])(h2:Yc H m1 l1 b1 es1 st1)(h3:Yc H m2 l2 b2 es2 st2)(h4:Tb Px Nd H)(h5:Tb Py Rj H)(h6:Px≠Py)(h7:(l1=l2→st1.length≤6∧st2.length≤6∧k≤3∧W15 k l1.cps.toList∧Zr6 K Px Py k l1 st1 st2 b1 b2 es1 es2 H Q))(h8:(l1≠l2→∀a H',Zt H H'→H' a=some (exR a cN none)→E (.ref a) none H')):Znw K Px Py cN vs H Q E
def Zhy(K:W.Frag)(Px Py cN:Addr):Sp:=λvs H Q E=>Znw K Px Py cN vs H Q E
theorem G4(F:Fun K "told_apart" "told_apart" Sz f fd)(Z:Blt mg)(kl:Kl2 K mg Y1 Yj)
  (O9:Zdg P w K mg base "look_fit" 1 US (Zbp Yj)) (Vw:Cal P w K mg base "taken_words" 4 ["machine","k"] (Zpo Px)) (Tz:Cal P w K mg base "alike_texts" 1 ["here","there"] Zn2) (Ux:Cal P w K mg base "parting_wish" 22 UB (Zpp K Py)):Ya P w K mg base (CXE P w) 23 f fd UK (Zhy K Px Py Yj):=by
 refine F.okX Vo (λvs H Q E h=>?_) (λA outer s H vs Q E hr h=>?_)
 ·obtain⟨m1,m2,l1,l2,b1,b2,es1,es2,st1,st2,k,rfl,_⟩:=h;rfl
 obtain⟨m1,m2,l1,l2,b1,b2,es1,es2,st1,st2,kn,rfl,M1,M2,TX,TY,o7,kq,kx⟩:=h
 refine⟨_,(Ze (Xu (Ztr O9 (hr.mono (by decide)) Zii (Za (pv 0) (Za (pv 1) Zb)))) 
   (Ze (Zr (i:=3) Vo.nd (by rfl) (Or.inl (by rfl)) (Z5 Vw (hr.mono (by decide)) (Za (pv 0) (Za (pv 2) Zb)))) 
   (Ze (Zr (i:=4) Vo.nd (by rfl) (Or.inl (by rfl)) (Z5 Vw (hr.mono (by decide)) (Za (pv 1) (Za (pv 2) Zb)))) 
   (Ze (Zr (i:=5) Vo.nd (by rfl) (Or.inl (by rfl)) (Z5 Tz (hr.mono (by decide)) (Za (pv 3) (Za (pv 4) Zb)))) 
   (Ze (Yd (Zp Zqd (pv 5) Zja (Zw _)) 
    (Zg (Zl (Z2 (Za Z4 (Za (Z5 Ux (hr.mono (by decide)) (Za (Zs (Zo (K:=K)) (pv 0) Zf (λ_ _=>rfl)) (Za (pv 2) (Za (pv 3) (Za (pv 4) Zb))))) Zb))))) Zu) 
   (Zg (Zl (Z7 (Ap (K:=K)) (Z2 (Za Z4 Zb)) (pv 5))))))))),?_⟩
 refine⟨_,rfl,_,rfl,m1,m2,l1,l2,b1,b2,es1,es2,st1,st2,rfl,M1,M2,λhl=>?_,λhl a H' e' ha=>kx hl a H' e' ha⟩;subst hl;obtain⟨n1,n2,c5,hW,TD⟩:=kq rfl;refine⟨_,rfl,_,rfl,m1,l1,b1,es1,st1,kn,rfl,M1,n1,hW,by lia,TX,λp y8 H1 e1 tX p0 g1 t1=>?_⟩;have M2':=M2.keep (Tk.t e1 TX);have TY1:=Tb.Zih TY TX o7.symm e1;refine⟨_,rfl,_,rfl,m2,l1,b2,es2,st2,kn,rfl,M2',n2,hW,by lia,tX,λq k9 H2 e2 sW q0 g2 t2=>?_⟩;have zB:=Tb.Zih TY1 tX o7.symm e2
 have npx:p≠Px:=λz=>by
  obtain⟨ps,h,_⟩:=tX;rw[z,h]at g1;cases g1
 have yA:=e2 _ _ npx g1;have tR:p≠q:=Zi g1 q0;refine⟨_,rfl,_,rfl,p,q,y8,k9,rfl,tR,yA,g2,t1.nd,t2.nd,λt x y H3 hx hy exy e3 h3=>?_,λH3 w8 e3 h3=>?_⟩
 ·refine⟨_,rfl,rfl,_,rfl,U2 ?_⟩;refine⟨(by show 1≤sizeLine;decide),λa na=>?_⟩;have s4:=Zd na (.tup [.str (Str.ofString "alike")]);refine⟨_,rfl,a,t,_,_,rfl,rfl,SqT.of Zc,SqT.of (s4 _ _ h3),by simp,(by show 3≤sizeLine;decide),(λz=>by cases z),λ_ r nr=>?_⟩;have s5:=Zd nr (.tup ([.str (Str.ofString "alike")]++[x.2,y.2]));have sZ:=s4.trans s5;obtain⟨u,ys,hu,cu,ku,xu,wu,lu⟩:=t1.tx x hx;obtain⟨v,zs,hv,cv,kv,yv,wv,lv⟩:=t2.tx y hy;have e0:ys=zs:=Zel (by rw[←ku,←kv,exy]);subst e0;refine TD.alike r u v _ (λb o tK nb2 h=>sZ _ _ (e3 _ _ (λz=>by rw[z,p0]at h;cases h) (e2 _ _ tK (e1 _ _ tK h)))) ((Tb.B7 sW yA e3).same sZ) ((Tb.B7 zB yA e3).same sZ) ?_ hu hv wu wv (λw hw=>cu.al cv w hw) lu lv;rw[Zc,xu,yv];rfl
 ·refine⟨_,rfl,rfl,_,rfl,C5 ?_⟩;have M1':=((M1.keep (Tk.t e1 TX)).keep (Tk.t e2 tX)).keep (Tk.b yA e3);obtain⟨eA,sA,rA,l1',_⟩:=id M1'.lay;refine⟨_,rfl,m1,_,_,_,rfl,rfl,SqT.of l1',Zj (j:=0) rfl,_,rfl,_,rfl,_,rfl,l1,kn,p,q,y8,k9,st1,st2,b1,b2,es1,es2,rfl,h3,.inl (e3 _ _ tR.symm g2),t1,t2,w8,M1.few.2.1,c5,hW,Tb.B7 zB yA e3,λv W H4 e4 TY4 w4 p4=>?_⟩;refine⟨(by show 2≤sizeLine;decide),λr nr=>?_⟩;have s5:=Zd nr (.tup [.str (Str.ofString "wish"),v]);have wY:=Tb.B7 sW yA e3;refine TD.Nb r v W _ (λb o tK nb2 h=>s5 _ _ (e4 _ _ nb2 (e3 _ _ (λz=>by rw[z,p0]at h;cases h) (e2 _ _ tK (e1 _ _ tK h))))) ((Tb.Zih wY (Tb.B7 zB yA e3) o7 e4).same s5) (TY4.same s5) Zc (w4.keep (Tk.same s5)) p4 λu v hu hv wu wv al=>?_;obtain⟨x,hx,ys,cu,ku⟩:=t1.all u hu wu;obtain⟨y,hy,zs,cv,kv⟩:=t2.all v hv wv;refine w8 x hx ?_;rw[ku,cu.one cv al,←kv];exact dW hy
theorem O2{s0:Addr}(F:Yb H p sc)(h1:p≠s0)(h2:sc≠s0):Yb (upd H s0 o) p sc:=by
 obtain⟨xs,q1,q2⟩:=F.here;obtain⟨ns,q3⟩:=F.cells;exact⟨⟨xs,by rw[Zk h1];exact q1,q2⟩,ns,by rw[Zk h2];exact q3⟩
theorem Zru(i:Nat):V.int (0+(i:Int))=nI i:=by
 rw[Int.zero_add];rfl
theorem Sm{α β:Type}(f:α→β)(l:List α)(x:α):l.map f++[f x]=(l++[x]).map f:=by
 rw[oK];rfl
def Zdd(es:List Nat)(st:WA):Prop:=es.length≤6∧(∀x∈es,x<st.length)∧st.length≤6
inductive Jm(vs:List V)(H:Hp)(Q:VK):Prop
 |mk(p sc:Addr)(l:Str)(most:Int)(h1:vs=[.ref p,.str l,.int most])(h2:0<l.length)(h3:l.length≤3)(h4:0<most)(h5:most≤6)(h6:Yb H p sc)(h7:∀m b es st H',Yc H' m l b es st→Zdd es st→Zz H H' p→Yb H' p sc→Q (.ref m) H'):Jm vs H Q
def Wx:Sp:=λvs H Q _=>Jm vs H Q
theorem Il(F:Fun K "_law_machine" "_law_machine" Wn f fd)(Z:Blt mg)(Zm:Cal P w K mg base "_law_pick" 1 WI V2):Ya P w K mg base CX0 2 f fd WB Wx:=by
 refine F.ok Wb (λvs H Q E h=>?_) (λcdv A outer s H vs Q E hr h=>?_)
 ·obtain⟨p,sc,l,most,rfl,_⟩:=h;rfl
 obtain⟨p,sc,l,most,rfl,u8,j0,j7,xK,FA,k⟩:=h;have nE:=len_list l
 refine⟨_,(Ze (Zr (i:=3) Wb.nd (by rfl) (Or.inr (by rfl)) (Z7 Xl Zf (Z5 Zm (hr.mono (by decide)) (Za (pv 0) (Za (pv 2) Zb))))) 
   (Ze (Zr (i:=4) Wb.nd (by rfl) (Or.inl (by rfl)) (Zy (Yv (K:=K)) (by rfl) Z.tuple Yu (Za (Yo (sc:=Zh Wn) (Nm:=WH) (own:=UD) (fr:=[0]) ⟨rfl,by decide +kernel,by decide +kernel,by decide +kernel,by decide +kernel⟩ (by rfl) (Ym (by decide)) (Wz (by rfl) Z.range (Za (pv 3) Zb)) (λd=>(Zn (i:=0) M5 (by rfl) (Or.inl (by rfl)))) (λd=>(Vs (Zp Xw (Z5 Zm (hr.mono (by decide)) (Za (pv 1) (Za Zf Zb))) Zf (Zw _)))) (λd=>(pv 0))) Zb))) 
   (Ze (Zr (i:=5) Wb.nd (by rfl) (Or.inl (by rfl)) (Yk Zb)) 
   (Ze (Xp lI (by rfl) (Wz (by rfl) Z.range (Za (pv 3) Zb)) (Zn (i:=6) Wb.nd (by rfl) (Or.inl (by rfl))) 
    (Zg (Xu (X5 (K:=K) lL iH iI X0 (pv 5) (Za (Zy (Yv (K:=K)) (by rfl) Z.tuple Yu (Za (Yo (sc:=Zh Wn) (Nm:=WH) (own:=UL) (fr:=[0,3]) ⟨rfl,by decide +kernel,by decide +kernel,by decide +kernel,by decide +kernel⟩ (by rfl) (Ym (by decide)) (Uo (pv 1)) (λd=>(Zn (i:=0) M0 (by rfl) (Or.inl (by rfl)))) (λd=>Xt) (λd=>(Z5 Zm (hr.mono (by decide)) (Za (pv 1) (Za (pv 2) Zb))))) Zb)) Zb))))) 
   (Zg (Zl (Z2 (Za (pv 1) (Za (Z5 Zm (hr.mono (by decide)) (Za (pv 0) (Za (pv 3) Zb))) (Za (pv 4) (Za (Zy (Yv (K:=K)) (by rfl) Z.tuple Yu (Za (pv 5) Zb)) Zb))))))))))),?_⟩
 refine(let n8:TS:=_;let eN:TS:=X8 _ n8;let eO:TS:=X8 _ eN;let eP:TS:=X8 _ eO;(?_:X8 _ eP _ _ _));refine⟨_,rfl,_,rfl,p,sc,most,rfl,j7,by lia,FA,λr xW c9 sN xQ=>⟨_,_,rfl,rfl,?_⟩⟩;have z7:=FA.go xQ;have d0:Zz H (upd H p (.lst xW)) p:=Zz.upd _;refine⟨_,rfl,_,rfl,by lia,by lia,?_⟩
 refine Ut (lo:=0) (k:=(1+r).toNat) (λi acc H2=>∃es:List Nat,acc=es.map nI∧es.length≤i∧(∀x∈es,x<i)∧Yb H2 p sc∧Zz H H2 p) (lY (show (1+r).toNat≤6 by lia) (by decide)) ⟨[],rfl,rX _,λx z=>absurd z (by simp),z7,d0⟩
  (λi acc H2 ⟨es,e,c7,_⟩=>by rw[e,rW];exact c7) (λi acc H2 hi hp=>?_) (λacc H2 hp q hq=>?_)
 ·obtain⟨es,rfl,j6,xI,y9,dr⟩:=hp;refine⟨_,rfl,p,sc,2,rfl,by decide,by decide,y9,λr2 kL _ _ sO=>⟨rfl,_,rfl,?_⟩⟩;refine Xx (λ_=>⟨_,rfl,es++[i],?_,?_,λx hx=>?_,y9.go sO,Vv dr _⟩) (λ_=>⟨es,rfl,by lia,λx hx=>dC (xI x hx),y9.go sO,Vv dr _⟩)
  ·rw[Zru,Sm]
  ·rw[oB,bF];lia
  ·rcases oJ.mp hx with z|z
   ·exact dC (xI x z)
   ·rw[rY.mp z];exact iU _
 obtain⟨es,rfl,j6,xI,y9,kR⟩:=hp;refine⟨q,_,rfl,.inl ⟨SqL.of Zc,λe he=>?_⟩⟩;have s1:=Zd hq (.lst (es.map nI));have s2:=Zd he (.tup (es.map nI));have m7:=(y9.same s1).same s2;have d3:=(kR.trans (Zz.same s1)).trans (Zz.same (p:=p) s2);generalize hG:upd (upd H2 q (.lst (es.map nI))) e (.tup (es.map nI))=H3 at m7 d3 ⊢;have yL:H3 e=some (.tup (es.map nI)):=by rw[←hG];exact Zc
 refine⟨(by show 0≤sizeLine;decide),λs0 eJ=>?_⟩;have s4:=Zd eJ (.lst [])
 have mB:p≠s0:=by
  obtain⟨ys,h1,_⟩:=m7.here;exact Zi h1 eJ
 have Zqh:sc≠s0:=by
  obtain⟨ns,h1⟩:=m7.cells;exact Zi h1 eJ
 have nes:e≠s0:=Zi yL eJ
 have eL:e≠p:=by
  obtain⟨ys,h1,_⟩:=m7.here;exact Yt yL h1 (by intro z;cases z)
 have fresh:∀b o,H b=some o→b≠p→b≠s0:=λb o hb x6=>Zi (d3 b o hb x6) eJ;refine⟨_,rfl,_,rfl,by lia,by lia,?_⟩
 refine Le (lo:=0) (n:=(1+r).toNat) (λi σ H4=>∃(v:Option V) (ras:VB) (st:WA),σ=[some (.ref p),some (.str l),some (.int most),some (.int (1+r)),some (.ref e),some (.ref s0),v]∧H4 s0=some (.lst (ras.map V.ref))∧ras.length=i∧st.length=i∧
   (∀(j:Nat) a r',ras[j]?=some a→st[j]?=some r'→H4 a=some (.tup (r'.map nI)))∧(∀r'∈st,r'.length=l.length∧∀x∈r',x<(1+r).toNat)∧H4 e=some (.tup (es.map nI))∧Yb H4 p sc∧Zz H H4 p)
  ⟨none,[],[],rfl,Zc,rfl,rfl,λj a r' z=>by simp at z,λr' z=>absurd z (by simp),s4 _ _ yL,m7.same s4,d3.trans (Zz.same s4)⟩ ?_ ?_
 ·rintro i σ H4 hi ⟨v,ras,st,rfl,hs,b7,y0,Fd,C8,yM,y7,d4⟩;refine⟨_,rfl,.inl ⟨rfl,_,SqL.of hs⟩,_,rfl,l,rfl,?_⟩
  refine Hz (cs:=l.cps.toList) (λj acc H5=>∃ys:List Nat,acc=ys.map nI∧ys.length=j∧(∀x∈ys,x<(1+r).toNat)∧Yb H5 p sc∧Zz H4 H5 p) (lY (show l.cps.toList.length≤3 by lia) (by decide)) ⟨[],rfl,rfl,λx z=>absurd z (by simp),y7,Zz.refl _ _⟩
   (λj acc H5 ⟨ys,e',c7,_⟩=>by rw[e',rW,c7];exact rX _) (λj acc H5 c hc hp=>?_) (λacc H5 hp q5 nU=>?_)
  ·obtain⟨ys,rfl,m5,yV,t5,sY⟩:=hp;refine Kj ⟨_,rfl,_,rfl,p,sc,_,rfl,by lia,by lia,t5,λr5 sV h50 h51 yU=>⟨ys++[r5.toNat],?_,by rw[oB,m5];rfl,λx hx=>?_,t5.go yU,Vv sY _⟩⟩
   ·rw[←Sm]
    have:V.int r5=nI r5.toNat:=by
     show V.int r5=V.int ((r5.toNat:Nat):Int);rw[show ((r5.toNat:Nat):Int)=r5 by lia]
    rw[this]
   ·rcases oJ.mp hx with z|z
    ·exact yV x z
    ·rw[rY.mp z];lia
  ·obtain⟨ys,rfl,m5,yV,t5,sY⟩:=hp;refine⟨q5,_,rfl,.inl ⟨SqL.of Zc,λa ha=>?_⟩⟩;have t1:=Zd nU (.lst (ys.map nI));have t2:=Zd ha (.tup (ys.map nI));have kF:H5 s0=some (.lst (ras.map V.ref)):=sY _ _ hs (dA mB);have fG:a≠s0:=λz=>by rw[z,t1 _ _ kF]at ha;cases ha
   refine⟨s0,_,_,rfl,rfl,t2 _ _ (t1 _ _ kF),?_,?_⟩
   ·rw[rW];exact lY (show ras.length≤6 by lia) (by decide)
   ·have keep:∀b m6,H4 b=some (.tup m6)→upd (upd (upd H5 q5 (.lst (ys.map nI))) a (.tup (ys.map nI))) s0 (.lst (ras.map V.ref++[.ref a])) b=some (.tup m6):=λb m6 hb=>by
     have fH:b≠p:=by
      obtain⟨zs,h1,_⟩:=y7.here;exact Yt hb h1 (by intro z;cases z)
     have fJ:b≠s0:=Yt hb hs (by intro z;cases z);rw[Zk fJ];exact t2 _ _ (t1 _ _ (sY _ _ hb fH))
    refine⟨_,ras++[a],st++[ys],rfl,?_,?_,?_,?_,?_,?_,?_,?_⟩
    ·rw[Zc,←Sm]
    ·rw[oB,b7];rfl
    ·rw[oB,y0];rfl
    ·intro j a' r' z1 z2
     rcases aK j i with hj|hj
     ·rw[lP (by lia)]at z1 z2;exact keep _ _ (Fd j a' r' z1 z2)
     ·rw[lT (by lia)]at z1 z2
      have qT:j=i:=by
       have:=(oG.mp z1).1;rw[bF]at this;lia
      subst qT;rw[show j-ras.length=0 by lia]at z1;rw[show j-st.length=0 by lia]at z2;cases z1;cases z2;rw[Zk fG];exact Zc
    ·intro r' y4
     rcases oJ.mp y4 with z|z
     ·exact C8 r' z
     ·rw[rY.mp z];exact⟨by lia,yV⟩
    ·exact keep _ _ yM
    ·exact O2 ((t5.same t1).same t2) mB Zqh
    ·intro b o hb x6;rw[Zk (fresh b o hb x6)];exact t2 _ _ (t1 _ _ (sY _ _ (d4 b o hb x6) x6))
 ·rintro σ H4 ⟨v,ras,st,rfl,hs,b7,y0,Fd,C8,yM,y7,d4⟩;refine⟨_,rfl,_,rfl,_,rfl,p,sc,_,rfl,by lia,by lia,y7,λb sV vM d8 yU=>?_⟩;have t5:=y7.go yU;have d5:Zz H4 (upd H4 p (.lst sV)) p:=Zz.upd _;refine⟨_,rfl,_,rfl,s0,_,rfl,.inl ⟨SqL.of (d5 _ _ hs (dA mB)),λs5 kF=>⟨(by show 4≤sizeLine;decide),λm hm=>?_⟩⟩⟩;have t1:=Zd kF (.tup (ras.map V.ref));have t2:=Zd hm (.tup [.str l,.int b,.ref e,.ref s5]);refine k m b.toNat es st _ ⟨⟨e,s5,ras,?_,?_,?_,by lia,λj a' r' z1 z2=>?_⟩,⟨u8,j0,by lia⟩,by lia,λr' y4=>⟨(C8 r' y4).1,λx hx=>by have:=(C8 r' y4).2 x hx;lia⟩⟩ ⟨by lia,λx hx=>by have:=xI x hx;lia,by lia⟩ ?_ ((t5.same t1).same t2)
  ·rw[Zc]
   have:V.int b=nI b.toNat:=by
    show V.int b=V.int ((b.toNat:Nat):Int);rw[show ((b.toNat:Nat):Int)=b by lia]
   rw[this]
  ·exact t2 _ _ (t1 _ _ (d5 _ _ yM eL))
  ·exact t2 _ _ Zc
  ·have z8:=Fd j a' r' z1 z2
   have fH:a'≠p:=by
    obtain⟨zs,h1,_⟩:=y7.here;exact Yt z8 h1 (by intro z;cases z)
   exact t2 _ _ (t1 _ _ (d5 _ _ z8 fH))
  ·exact(d4.trans d5).trans ((Zz.same t1).trans (Zz.same t2))
theorem Rk(F:Fun K "_law_rising_machine" "_law_rising_machine" Xf f fd)(Z:Blt mg)(Zm:Cal P w K mg base "_law_pick" 1 WI V2):Ya P w K mg base CX0 2 f fd WB Wx:=by
 refine F.ok Z6 (λvs H Q E h=>?_) (λcdv A outer s H vs Q E hr h=>?_)
 ·obtain⟨p,sc,l,most,rfl,_⟩:=h;rfl
 obtain⟨p,sc,l,most,rfl,u8,j0,j7,xK,FA,k⟩:=h;have nE:=len_list l
 refine⟨_,(Ze (Zr (i:=3) Z6.nd (by rfl) (Or.inl (by rfl)) (Z7 Xl Zf (Z5 Zm (hr.mono (by decide)) (Za (pv 0) (Za (pv 2) Zb))))) 
   (Ze (Zr (i:=4) Z6.nd (by rfl) (Or.inl (by rfl)) (Zy (Yv (K:=K)) (by rfl) Z.tuple Yu (Za (Yo (sc:=Zh Xf) (Nm:=WO) (own:=UD) (fr:=[0]) ⟨rfl,by decide +kernel,by decide +kernel,by decide +kernel,by decide +kernel⟩ (by rfl) (Ym (by decide)) (Wz (by rfl) Z.range (Za (pv 3) Zb)) (λd=>(Zn (i:=0) Sk (by rfl) (Or.inl (by rfl)))) (λd=>(Vs (Zp Xw (Z5 Zm (hr.mono (by decide)) (Za (pv 1) (Za Zf Zb))) Zf (Zw _)))) (λd=>(pv 0))) Zb))) 
   (Ze (Zr (i:=5) Z6.nd (by rfl) (Or.inl (by rfl)) (Yk Zb)) 
   (Ze (Xp lI (by rfl) (Wz (by rfl) Z.range (Za (pv 3) Zb)) (Zn (i:=6) Z6.nd (by rfl) (Or.inl (by rfl))) 
    (Ze (Zr (i:=7) Z6.nd (by rfl) (Or.inl (by rfl)) (Yk Zb)) 
    (Ze (Xp lI (by rfl) (Uo (pv 1)) (Zn (i:=8) Z6.nd (by rfl) (Or.inl (by rfl))) 
     (Ze (Zr (i:=9) Z6.nd (by rfl) (Or.inl (by rfl)) (Wj Xw (Z5 Zm (hr.mono (by decide)) (Za (pv 0) (Za Zf Zb))) Zf (Zw _))) 
     (Zg (Xu (X5 (K:=K) lL iH iI X0 (pv 7) (Za (Zs (Z3 (K:=K)) (Yk (Za (Z7 Xl (pv 6) (Z5 Zm (hr.mono (by decide)) (Za (pv 0) (Za (Z7 Qg (pv 3) (pv 6)) Zb)))) (Za (pv 6) Zb))) (Zy Sw (by rfl) Z.int Gj (Za (pv 9) Zb)) (λ_ _=>rfl)) Zb)))))) 
    (Zg (Xu (X5 (K:=K) lL iH iI X0 (pv 5) (Za (Zy (Yv (K:=K)) (by rfl) Z.tuple Yu (Za (pv 7) Zb)) Zb))))))) 
   (Zg (Zl (Z2 (Za (pv 1) (Za Zf (Za (pv 4) (Za (Zy (Yv (K:=K)) (by rfl) Z.tuple Yu (Za (pv 5) Zb)) Zb))))))))))),?_⟩
 refine(let n8:TS:=_;let eN:TS:=_;let eO:TS:=_;let eP:TS:=X8 _ eO;let mI:TS:=X8 (Zfg _ _ eP) eN;let tV:TS:=X8 _ mI;let rP:TS:=X8 (Zfg _ _ tV) n8;let rQ:TS:=X8 _ rP;let rR:TS:=X8 _ rQ;(?_:X8 _ rR _ _ _));refine⟨_,rfl,_,rfl,p,sc,most,rfl,j7,by lia,FA,λr xW c9 sN xQ=>⟨_,_,rfl,rfl,?_⟩⟩;have z7:=FA.go xQ;have d0:Zz H (upd H p (.lst xW)) p:=Zz.upd _;refine⟨_,rfl,_,rfl,by lia,by lia,?_⟩
 refine Ut (lo:=0) (k:=(1+r).toNat) (λi acc H2=>∃es:List Nat,acc=es.map nI∧es.length≤i∧(∀x∈es,x<i)∧Yb H2 p sc∧Zz H H2 p) (lY (show (1+r).toNat≤6 by lia) (by decide)) ⟨[],rfl,rX _,λx z=>absurd z (by simp),z7,d0⟩
  (λi acc H2 ⟨es,e,c7,_⟩=>by rw[e,rW];exact c7) (λi acc H2 hi hp=>?_) (λacc H2 hp q hq=>?_)
 ·obtain⟨es,rfl,j6,xI,y9,dr⟩:=hp;refine⟨_,rfl,p,sc,2,rfl,by decide,by decide,y9,λr2 kL _ _ sO=>⟨rfl,_,rfl,?_⟩⟩;refine Xx (λ_=>⟨_,rfl,es++[i],?_,?_,λx hx=>?_,y9.go sO,Vv dr _⟩) (λ_=>⟨es,rfl,by lia,λx hx=>dC (xI x hx),y9.go sO,Vv dr _⟩)
  ·rw[Zru,Sm]
  ·rw[oB,bF];lia
  ·rcases oJ.mp hx with z|z
   ·exact dC (xI x z)
   ·rw[rY.mp z];exact iU _
 obtain⟨es,rfl,j6,xI,y9,kR⟩:=hp;refine⟨q,_,rfl,.inl ⟨SqL.of Zc,λe he=>?_⟩⟩;have s1:=Zd hq (.lst (es.map nI));have s2:=Zd he (.tup (es.map nI));have m7:=(y9.same s1).same s2;have d3:=(kR.trans (Zz.same s1)).trans (Zz.same (p:=p) s2);generalize hG:upd (upd H2 q (.lst (es.map nI))) e (.tup (es.map nI))=H3 at m7 d3 ⊢;have yL:H3 e=some (.tup (es.map nI)):=by rw[←hG];exact Zc
 refine⟨(by show 0≤sizeLine;decide),λs0 eJ=>?_⟩;have s4:=Zd eJ (.lst [])
 have mB:p≠s0:=by
  obtain⟨ys,h1,_⟩:=m7.here;exact Zi h1 eJ
 have Zqh:sc≠s0:=by
  obtain⟨ns,h1⟩:=m7.cells;exact Zi h1 eJ
 have nes:e≠s0:=Zi yL eJ
 have eL:e≠p:=by
  obtain⟨ys,h1,_⟩:=m7.here;exact Yt yL h1 (by intro z;cases z)
 have fresh:∀b o,H b=some o→b≠p→b≠s0:=λb o hb x6=>Zi (d3 b o hb x6) eJ;refine⟨_,rfl,_,rfl,by lia,by lia,?_⟩
 refine Le (lo:=0) (n:=(1+r).toNat) (λi σ H4=>∃(v v7 v8 v9:Option V) (ras:VB) (st:WA),σ=[some (.ref p),some (.str l),some (.int most),some (.int (1+r)),some (.ref e),some (.ref s0),v,v7,v8,v9]∧H4 s0=some (.lst (ras.map V.ref))∧ras.length=i∧st.length=i∧
   (∀(j:Nat) a r',ras[j]?=some a→st[j]?=some r'→H4 a=some (.tup (r'.map nI)))∧(∀r'∈st,r'.length=l.length∧∀x∈r',x<(1+r).toNat)∧H4 e=some (.tup (es.map nI))∧Yb H4 p sc∧Zz H H4 p)
  ⟨none,none,none,none,[],[],rfl,Zc,rfl,rfl,λj a r' z=>by simp at z,λr' z=>absurd z (by simp),s4 _ _ yL,m7.same s4,d3.trans (Zz.same s4)⟩ ?_ ?_
 ·rintro i σ H4 hi ⟨v,v7,v8,v9,ras,st,rfl,hs,b7,y0,Fd,C8,yM,y7,d4⟩;have u5:(i:Int)<1+r:=by lia
  refine⟨(by show 0≤sizeLine;decide),λrp eG=>?_⟩;have t0:=Zd eG (.lst []);have xE:upd H4 rp (.lst []) rp=_:=Zc;have wG:s0≠rp:=Zi hs eG
  have fM:p≠rp:=by
   obtain⟨ys,h1,_⟩:=y7.here;exact Zi h1 eG
  have nsr:sc≠rp:=by
   obtain⟨ys,h1⟩:=y7.cells;exact Zi h1 eG
  have Zrn:∀b o,H b=some o→b≠p→b≠rp:=λb o hb x6=>Zi (d4 b o hb x6) eG;refine⟨_,rfl,l,rfl,?_⟩
  refine Td (cs:=l.cps.toList) (λj σ H5=>∃(v8 v9:Option V) (ys:List Nat),σ=[some (.ref p),some (.str l),some (.int most),some (.int (1+r)),some (.ref e),some (.ref s0),some (.int (0+(i:Int))),some (.ref rp),v8,v9]∧H5 rp=some (.lst (ys.map nI))∧ys.length=j∧(∀x∈ys,x<(1+r).toNat)∧H5 s0=some (.lst (ras.map V.ref))∧Tk H4 H5∧Yb H5 p sc∧Zz H H5 p)
   ⟨v8,v9,[],rfl,xE,rfl,λx z=>absurd z (by simp),t0 _ _ hs,Tk.same t0,y7.same t0,d4.trans (Zz.same t0)⟩ ?_ ?_
  ·rintro j c σ H5 hc ⟨v8,v9,ys,rfl,xE,m5,yV,gA,rL,t5,d5⟩;refine⟨_,rfl,p,sc,2,rfl,by decide,by decide,t5,λr1 kL _ _ sO=>⟨rfl,?_⟩⟩;have p5:=t5.go sO;have xF:upd H5 p (.lst kL) rp=some (.lst (ys.map nI)):=(Zk fM.symm).trans xE;have h6s:upd H5 p (.lst kL) s0=some (.lst (ras.map V.ref)):=(Zk mB.symm).trans gA;have d6:=Vv d5 (.lst kL);have tk6:=rL.trans (Tk.drew t5 (Zz.upd (.lst kL)));generalize upd H5 p _=H6 at p5 xF h6s d6 tk6;generalize decide (V.int r1=V.int 0)=stays;refine⟨_,rfl,.inl ⟨rfl,_,SqL.of xF⟩,_,rfl,_,rfl,_,rfl,_,rfl,_,_,rfl,rfl,p,sc,_,rfl,by lia,by lia,p5,λr2 kM h20 h21 eK=>⟨_,_,rfl,rfl,_,rfl,(by show 2≤sizeLine;decide),λq hq=>?_⟩⟩;have kO:=p5.go eK;have yC:upd H6 p (.lst kM) rp=some (.lst (ys.map nI)):=(Zk fM.symm).trans xF;have h7s:upd H6 p (.lst kM) s0=some (.lst (ras.map V.ref)):=(Zk mB.symm).trans h6s;have d7:=Vv d6 (.lst kM);have tk7:=tk6.trans (Tk.drew p5 (Zz.upd (.lst kM)));generalize upd H6 p _=H7 at hq kO yC h7s d7 tk7;generalize eZ:upd H7 q _=H8;have t8:=nS7 eZ hq;have h8q:=nU7 eZ
   have Zuj:∃y:Nat,y<(1+r).toNat∧atI [V.int (0+(i:Int)+r2),V.int (0+(i:Int))] (if stays=true then 1 else 0)=some (nI y):=by
    cases stays with
    |true=>
     refine⟨i,by lia,?_⟩;have:atI [V.int (0+(i:Int)+r2),V.int (0+(i:Int))] ((1:Nat):Int)=some (V.int (0+(i:Int))):=Zj rfl;exact this.trans (congrArg some (Zru i))
    |false=>
     refine⟨i+r2.toNat,by lia,?_⟩;have:atI [V.int (0+(i:Int)+r2),V.int (0+(i:Int))] ((0:Nat):Int)=some (V.int (0+(i:Int)+r2)):=Zj rfl
     have e:V.int (0+(i:Int)+r2)=nI (i+r2.toNat):=by
      show V.int _=V.int (((i+r2.toNat:Nat):Nat):Int);rw[show (((i+r2.toNat:Nat):Nat):Int)=0+(i:Int)+r2 by lia]
     exact this.trans (congrArg some e)
   obtain⟨y,hy,yI⟩:=Zuj;refine⟨_,rfl,.inr ⟨_,rfl,q,_,_,_,rfl,rfl,SqL.of h8q,yI,rp,_,_,rfl,rfl,t8 _ _ yC,by rw[rW,m5];exact Sf (by have:=(oG.mp hc).1;lia),?_⟩⟩;refine⟨_,_,ys++[y],rfl,by rw[Zc,Sm],by rw[oB,m5];rfl,λx hx=>?_,(Zk wG).trans (t8 _ _ h7s),(tk7.trans (Tk.same t8)).trans (Tk.lst (t8 _ _ yC) _),O2 (kO.same t8) fM nsr,λb o hb x6=>?_⟩
   ·rcases oJ.mp hx with z|z
    ·exact yV x z
    ·rw[rY.mp z];exact hy
   ·rw[Zk (Zrn b o hb x6)];exact t8 _ _ (d7 b o hb x6)
  ·rintro σ H5 ⟨v8,v9,ys,rfl,xE,m5,yV,gA,rL,t5,d5⟩;refine⟨_,rfl,.inl ⟨rfl,_,SqL.of gA⟩,_,rfl,rp,_,rfl,.inl ⟨SqL.of xE,λa ha=>?_⟩⟩;have t2:=Zd ha (.tup (ys.map nI));have fG:a≠s0:=λz=>by rw[z,gA]at ha;cases ha
   refine⟨s0,_,_,rfl,rfl,t2 _ _ gA,?_,?_⟩
   ·rw[rW];exact lY (show ras.length≤6 by lia) (by decide)
   ·have keep:∀b m6,H4 b=some (.tup m6)→upd (upd H5 a (.tup (ys.map nI))) s0 (.lst (ras.map V.ref++[.ref a])) b=some (.tup m6):=λb m6 hb=>by
     have fJ:b≠s0:=Yt hb hs (by intro z;cases z);rw[Zk fJ];exact t2 _ _ (rL _ _ hb)
    refine⟨_,_,_,_,ras++[a],st++[ys],rfl,?_,?_,?_,?_,?_,?_,?_,?_⟩
    ·rw[Zc,←Sm]
    ·rw[oB,b7];rfl
    ·rw[oB,y0];rfl
    ·intro j a' r' z1 z2
     rcases aK j i with hj|hj
     ·rw[lP (by lia)]at z1 z2;exact keep _ _ (Fd j a' r' z1 z2)
     ·rw[lT (by lia)]at z1 z2
      have qT:j=i:=by
       have:=(oG.mp z1).1;rw[bF]at this;lia
      subst qT;rw[show j-ras.length=0 by lia]at z1;rw[show j-st.length=0 by lia]at z2;cases z1;cases z2;rw[Zk fG];exact Zc
    ·intro r' y4
     rcases oJ.mp y4 with z|z
     ·exact C8 r' z
     ·rw[rY.mp z];exact⟨by lia,yV⟩
    ·exact keep _ _ yM
    ·exact O2 (t5.same t2) mB Zqh
    ·intro b o hb x6;rw[Zk (fresh b o hb x6)];exact t2 _ _ (d5 b o hb x6)
 ·rintro σ H4 ⟨v,v7,v8,v9,ras,st,rfl,hs,b7,y0,Fd,C8,yM,y7,d4⟩;refine⟨_,rfl,_,rfl,_,rfl,s0,_,rfl,.inl ⟨SqL.of hs,λs5 kF=>⟨(by show 4≤sizeLine;decide),λm hm=>?_⟩⟩⟩;have t1:=Zd kF (.tup (ras.map V.ref));have t2:=Zd hm (.tup [.str l,.int 0,.ref e,.ref s5]);refine k m 0 es st _ ⟨⟨e,s5,ras,Zc,?_,?_,by lia,λj a' r' z1 z2=>?_⟩,⟨u8,j0,by lia⟩,by lia,λr' y4=>⟨(C8 r' y4).1,λx hx=>by have:=(C8 r' y4).2 x hx;lia⟩⟩ ⟨by lia,λx hx=>by have:=xI x hx;lia,by lia⟩ ?_ ((y7.same t1).same t2)
  ·exact t2 _ _ (t1 _ _ yM)
  ·exact t2 _ _ Zc
  ·exact t2 _ _ (t1 _ _ (Fd j a' r' z1 z2))
  ·exact d4.trans ((Zz.same t1).trans (Zz.same t2))
theorem As(F:Fun K "_law_room" "_law_room" Ol f fd)(Z:Blt mg):Ya P w K mg base CX0 1 f fd VL Jl:=by
 refine F.ok Ry (λvs H Q E h=>?_) (λcdv A outer s H vs Q E hr h=>?_)
 ·obtain⟨m,l,b,es,st,r,t,rfl,_⟩:=h;rfl
 obtain⟨m,l,b,es,st,r,t,rfl,M,c9,ht,k⟩:=h
 refine⟨_,(Ze (Xp lI (by rfl) (Uo (pv 2)) (Zn (i:=3) Ry.nd (by rfl) (Or.inl (by rfl))) 
    (Zg (Zr (i:=1) Ry.nd (by rfl) (Or.inl (by rfl)) (Zs (Zo (K:=K)) (Zs (Zo (K:=K)) (Zs (Zo (K:=K)) (pv 0) Zf (λ_ _=>rfl)) (pv 1) (λ_ _=>rfl)) (X5 (K:=K) cZ PySem.F.slot_str_index PySem.F.type_str_index (A4 (by rfl)) (Zs (Zo (K:=K)) (pv 0) Zf (λ_ _=>rfl)) (Za (pv 3) Zb)) (λ_ _=>rfl))))) 
   (Zg (Zl (pv 1)))),?_⟩
 refine(let n8:TS:=_;(?_:X8 _ n8 _ _ _));obtain⟨e,s',ras,h1,h2,h3,h4,h5⟩:=M.lay;refine⟨_,rfl,t,rfl,?_⟩;refine Td (cs:=t.cps.toList) (λi σ H2=>∃v,σ=[some (.ref m),some (nI (way l st r (t.cps.toList.take i))),some (.str t),v]∧H2=H) ⟨none,rfl,rfl⟩ ?_ ?_
 ·rintro i c σ H2 hc ⟨v,rfl,rfl⟩;have o0:c∈l.cps.toList:=ht c (oM hc);have hw:=Mh M (t.cps.toList.take i) r c9 (take_all ht);obtain⟨e2,s2,Zta,a,q1,q2,q3,q4,q5,q6⟩:=Zd1 (K:=K) (Q:=λ_ _=>True) M hw o0 trivial;rw[h1]at q1;cases q1;refine⟨_,rfl,m,_,_,_,rfl,rfl,SqT.of h1,Zj (j:=3) rfl,_,rfl,s',_,_,_,rfl,rfl,SqT.of q2,q3,?_⟩;refine⟨_,rfl,m,_,_,_,rfl,rfl,SqT.of h1,Zj (j:=0) rfl,rfl,_,rfl,l,_,rfl,rfl,q5,a,_,_,_,rfl,rfl,SqT.of q4,q6,?_⟩;refine⟨some (.str ⟨#[c]⟩),?_,rfl⟩;rw[Bs l st r _ i c hc];rfl
 ·rintro σ H2 ⟨v,rfl,rfl⟩;refine⟨_,rfl,?_⟩;rw[lX];exact k
theorem Cv(F:Fun K "_law_takes" "_law_takes" Qa f fd)(Z:Blt mg)(Ww:Cal P w K mg base "_law_room" 1 VL Jl):Ya P w K mg base CX0 2 f fd VU Zdo:=by
 refine F.ok Cd (λvs H Q E h=>?_) (λcdv A outer s H vs Q E hr h=>?_)
 ·obtain⟨m,l,b,es,st,t,rfl,_⟩:=h;rfl
 obtain⟨m,l,b,es,st,t,rfl,M,ht,k⟩:=h;refine⟨_,(Zg (Zl (Wj (Qi (K:=K)) (Z5 Ww (hr.mono (by decide)) (Za (pv 0) (Za (Zs (Zo (K:=K)) (pv 0) Zf (λ_ _=>rfl)) (Za (pv 1) Zb)))) (Zs (Zo (K:=K)) (pv 0) Zf (λ_ _=>rfl)) (by with_unfolding_all rfl)))),?_⟩;obtain⟨e,s',ras,h1,h2,h3,h4,h5⟩:=M.lay;refine⟨_,rfl,_,rfl,m,_,_,_,rfl,rfl,SqT.of h1,Zj (j:=1) rfl,_,rfl,m,l,b,es,st,b,t,rfl,M,M.beg,ht,?_⟩;refine⟨_,rfl,m,_,_,_,rfl,rfl,SqT.of h1,Zj (j:=2) rfl,e,_,rfl,.inr (SqT.of h2),rfl,N4 es,k⟩
theorem Ql(F:Fun K "_law_drawn_machine" "_law_drawn_machine" Wm f fd)(Z:Blt mg)(Zm:Cal P w K mg base "_law_pick" 1 WI V2)(X3:Cal P w K mg base "_law_machine" 2 WB Wx)(Yn:Cal P w K mg base "_law_rising_machine" 2 WB Wx):Ya P w K mg base CX0 3 f fd WB Wx:=by
 refine F.ok R7 (λvs H Q E h=>?_) (λcdv A outer s H vs Q E hr h=>?_)
 ·obtain⟨p,sc,l,most,rfl,_⟩:=h;rfl
 obtain⟨p,sc,l,most,rfl,u8,j0,j7,xK,FA,k⟩:=h
 refine⟨_,(Ze (Yd (Zp Xw (Z5 Zm (hr.mono (by decide)) (Za (pv 0) (Za Zf Zb))) Zf (Zw _)) 
    (Zg (Zl (Z5 X3 (hr.mono (by decide)) (Za (pv 0) (Za (pv 1) (Za (pv 2) Zb)))))) Zu) 
   (Zg (Zl (Z5 Yn (hr.mono (by decide)) (Za (pv 0) (Za (pv 1) (Za (pv 2) Zb))))))),?_⟩
 refine(let n8:TS:=_;(?_:X8 _ n8 _ _ _));refine⟨_,rfl,p,sc,2,rfl,by decide,by decide,FA,λr xW _ _ xQ=>⟨rfl,_,rfl,?_⟩⟩;have z7:=FA.go xQ;have d0:Zz H (upd H p (.lst xW)) p:=Zz.upd _;refine Xx (λ_=>?_) (λ_=>?_)
 ·exact⟨_,rfl,_,rfl,_,rfl,p,sc,l,most,rfl,u8,j0,j7,xK,z7,λm b es st H' M E' d wS=>k m b es st H' M E' (d0.trans d) wS⟩
 ·exact⟨_,rfl,_,rfl,_,rfl,p,sc,l,most,rfl,u8,j0,j7,xK,z7,λm b es st H' M E' d wS=>k m b es st H' M E' (d0.trans d) wS⟩
inductive Zdn(vs:List V)(H:Hp)(Q:VK):Prop
 |mk(m:Addr)(l:Str)(b:Nat)(es:List Nat)(st:WA)(h1:vs=[.ref m])(h2:Yc H m l b es st)(h3:Zdd es st)(h4:∀m' t9 H',Zt H H'→Yc H' m' l b t9 st→Zdd t9 st→Q (.ref m') H'):Zdn vs H Q
def Zhx:Sp:=λvs H Q _=>Zdn vs H Q
theorem Ot(F:Fun K "_law_turned_ends" "_law_turned_ends" X6 f fd)(Z:Blt mg):Ya P w K mg base CX0 1 f fd ["_law_machine_here"] Zhx:=by
 refine F.ok Ug (λvs H Q E h=>?_) (λcdv A outer s H vs Q E hr h=>?_)
 ·obtain⟨m,l,b,es,st,rfl,_⟩:=h;rfl
 obtain⟨m,l,b,es,st,rfl,M,⟨E1,E2,E3⟩,k⟩:=h
 refine⟨_,(Ze (Zr (i:=1) Ug.nd (by rfl) (Or.inl (by rfl)) (Zy (Yv (K:=K)) (by rfl) Z.tuple Yu (Za (Yo (sc:=Zh X6) (Nm:=UN) (own:=UD) (fr:=[0]) ⟨rfl,by decide +kernel,by decide +kernel,by decide +kernel,by decide +kernel⟩ (by rfl) (Ym (by decide)) (Wz (by rfl) Z.range (Za (Zq (Yh (K:=K)) (by rfl) Z.len Yw (Za (Zs (Zo (K:=K)) (pv 0) Zf (λ_ _=>rfl)) Zb)) Zb)) (λd=>(Zn (i:=0) Qm (by rfl) (Or.inl (by rfl)))) (λd=>(Vs (Zp (Pj (K:=K)) (pv 0) (Zs (Zo (K:=K)) (pv 1) Zf (λ_ _=>rfl)) (by with_unfolding_all rfl)))) (λd=>(pv 0))) Zb))) 
   (Zg (Zl (Z7 (Ap (K:=K)) (Vy (Ks (K:=K)) (pv 0) Pf (Vt Zf)) (Z2 (Za (pv 1) (Za (Zs (Zo (K:=K)) (pv 0) Zf (λ_ _=>rfl)) Zb))))))),?_⟩
 obtain⟨eA,sA,rA,g1,g2,g3,g4,g5⟩:=id M.lay;have gX:(rA.map V.ref).length=st.length:=by rw[rW,g4]
 refine⟨_,rfl,m,_,_,_,rfl,rfl,SqT.of g1,Zj (j:=3) rfl,sA,_,rfl,.inr (SqT.of g3),_,rfl,by lia,by lia,?_⟩
 refine Ut (lo:=0) (k:=(((rA.map V.ref).length:Nat):Int).toNat) (λi acc H2=>Zt H H2∧acc=((List.range i).filter λx=>!decide (x∈es)).map nI) (lY (show (((rA.map V.ref).length:Nat):Int).toNat≤6 by lia) (by decide)) ⟨Zt.refl _,rfl⟩
  (λi acc H2 q=>by rw[q.2,rW];exact lC (dG _ _) (by rw[dS];exact rX _)) (λi acc H2 hi q=>?_) (λacc H2 q y hy=>?_)
 ·obtain⟨e2,rfl⟩:=q;have ei:V.int (0+(i:Int))=nI i:=by rw[Int.zero_add];rfl
  rw[ei];refine⟨_,rfl,_,rfl,m,_,_,_,rfl,rfl,SqT.of (e2 _ _ g1),Zj (j:=2) rfl,eA,_,rfl,.inr (SqT.of (e2 _ _ g2)),rfl,N4 es,_,rfl,?_⟩;show if (!inV (nI i) (es.map nI))=true then _ else _
  rw[Lc,List.range_succ];refine Xx (λc1=>⟨_,rfl,e2,?_⟩) (λc1=>⟨e2,?_⟩)
  ·rw[iQ,oK];simp only[lM,c1,if_true,dJ];rfl
  ·rw[iQ,oK];simp only[lM,c1,dJ];simp
 obtain⟨e2,rfl⟩:=q;rw[gX,cO];generalize c0:((List.range st.length).filter λx=>!decide (x∈es))=t9
 have ok':Zdd t9 st:=by
  refine⟨?_,λx hx=>?_,E3⟩
  ·rw[←c0];exact lC (dG _ _) (by rw[dS];exact E3)
  ·rw[←c0]at hx;exact lZ.mp (lU.mp hx).1
 have s3:=Zd hy (.lst (t9.map nI));refine⟨y,_,rfl,.inl ⟨SqL.of Zc,λeb neb=>?_⟩⟩;have s4:=Zd neb (.tup (t9.map nI));have e4:=e2.trans (s3.trans s4);have g6:upd (upd H2 y (.lst (t9.map nI))) eb (.tup (t9.map nI)) eb=some (.tup (t9.map nI)):=Zc;generalize upd (upd H2 y (.lst (t9.map nI))) eb (.tup (t9.map nI))=H4 at e4 g6;refine⟨_,rfl,_,rfl,m,_,rfl,SqT.of (e4 _ _ g1),(by rintro⟨_,z⟩;exact absurd z (by show ¬ (min 2 4=4);decide)),λp1 np1=>?_⟩;have s5:=Zd np1 (.tup (Hy [V.str l,nI b,V.ref eA,V.ref sA] none (some 2)));have g7:upd H4 p1 (.tup (Hy [V.str l,nI b,V.ref eA,V.ref sA] none (some 2))) p1=some (.tup [V.str l,nI b]):=Zc;generalize upd H4 p1 _=H5 at s5 g7;refine⟨_,rfl,_,rfl,m,_,_,_,rfl,rfl,SqT.of (s5 _ _ (e4 _ _ g1)),Zj (j:=3) rfl,(by show 2≤sizeLine;decide),λp2 np2=>?_⟩;generalize eZ:upd H5 p2 _=H6;have s6:=nS7 eZ np2;have g8:=nU7 eZ;refine⟨p1,p2,_,_,rfl,rfl,SqT.of (s6 _ _ g7),SqT.of g8,by simp,(by show 4≤sizeLine;decide),(λz=>by cases z),λ_ r nr=>?_⟩;have s7:=Zd nr (.tup ([V.str l,nI b]++[V.ref eb,V.ref sA]));have e7:=e4.trans (s5.trans (s6.trans s7));exact k r t9 _ e7 ⟨⟨eb,sA,rA,Zc,s7 _ _ (s6 _ _ (s5 _ _ g6)),e7 _ _ g3,g4,λi a r q1 q2=>e7 _ _ (g5 i a r q1 q2)⟩,M.few,M.beg,M.rows⟩ ok'
inductive Bz(vs:List V)(H:Hp)(Q:VK):Prop
 |mk(z:Str)(h1:vs=[.str z])(h2:z.length≤1000)(h3:∀q H',Zt H H'→H' q=some (.tup [.int (z.length:Int),.str z])→Q (.ref q) H'):Bz vs H Q
def Sy:Sp:=λvs H Q _=>Bz vs H Q
theorem Cw(F:Fun K "_law_order" "_law_order" Qb f fd)(Z:Blt mg):Ya P w K mg base CX0 1 f fd VC Sy:=by
 refine F.ok Ce (λvs H Q E h=>?_) (λcdv A outer s H vs Q E hr h=>?_)
 ·obtain⟨z,rfl,_⟩:=h;rfl
 obtain⟨z,rfl,hz,k⟩:=h;refine⟨_,(Zg (Zl (Z2 (Za (Zq Y0 (by rfl) Z.len Yw (Za (pv 0) Zb)) (Za (pv 0) Zb))))),?_⟩;exact⟨_,rfl,z,rfl,Xn hz,_,rfl,(by show 2≤sizeLine;decide),λq hq=>k q _ (Zd hq _) Zc⟩
theorem Lb:Za6 Sy okS kfS:=λv H Q ⟨z,e,hz⟩ h=>by
 subst e;exact⟨z,rfl,hz,h⟩
def nmB(b:Bool):Str:=if b then "and" else "or"
inductive Zh1(Px:Addr)(Py:Addr)(vs:List V)(H:Hp)(Q:VK):Prop
 |mk(m1 m2:Addr)(l1 l2:Str)(b1 b2:Nat)(es1 es2:List Nat)(st1 st2:WA)(k:Nat)(h1:vs=[.ref m1,.ref m2,nI k])(h2:Yc H m1 l1 b1 es1 st1)(h3:Yc H m2 l2 b2 es2 st2)(h4:Tb Px Nd H)(h5:Tb Py Rj H)(h6:Px≠Py)(h7:l1≠l2)(h8:∀H',Q (.bl true) H'):Zh1 Px Py vs H Q
def Zh2(K:W.Frag)(Px Py:Addr):Sp:=λvs H Q _=>Zh1 Px Py vs H Q
theorem Ik(F:Fun K "_law_refused" "_law_refused" Th f fd)(Z:Blt mg)(kl:Kl2 K mg Y1 Yj)(Xj:Zdg P w K mg base "told_apart" 23 UK (Zhy K Px Py Yj)):Ya P w K mg base CX0 24 f fd UM (Zh2 K Px Py):=by
 refine F.ok Rz (λvs H Q E h=>?_) (λcdv A outer s H vs Q E hr h=>?_)
 ·obtain⟨m1,m2,l1,l2,b1,b2,es1,es2,st1,st2,k,rfl,_⟩:=h;rfl
 obtain⟨m1,m2,l1,l2,b1,b2,es1,es2,st1,st2,kn,rfl,M1,M2,TX,TY,o7,x6,k⟩:=h
 refine⟨_,(Ze (Zl0 (K:=K) (i:=3) Rz.nd (by rfl) (by rfl) kl.C3 (by rfl) (by rfl) (λpn xe E rx=>
    (Zg (Xu (Ztr Xj (hr.mono (by decide)) rx (Za (pv 0) (Za (pv 1) (Za (pv 2) Zb))))))) (λa=>(Zjf (Zq (Zat (K:=K)) (by rfl) Z.isinstance Y4 (Za (pv 3) (Za (Vu (v:=.ref Yj) (by rfl) kl.Zjv rfl) Zb))) (Zbz (Zq (Zat (K:=K)) (by rfl) Z.isinstance Y4 (Za (pv 3) (Za (S3 (v:=V.ty "ValueError") (by rfl) Z.ValueError Fq rfl) Zb))))))) 
   (Zg (Zl W0))),?_⟩
 refine⟨_,rfl,_,rfl,_,rfl,m1,m2,l1,l2,b1,b2,es1,es2,st1,st2,kn,rfl,M1,M2,TX,TY,o7,λz=>absurd z x6,λ_ a H' e' ha=>⟨a,Yj,none,rfl,ha,kl.exm,?_⟩⟩;refine⟨_,rfl,.mk a Yj [] _ _ _ rfl (.inl ⟨ha,rfl⟩) kl.Zkp rfl (.inr ⟨_,rfl⟩) kl.kn ⟨_,rfl,?_⟩⟩;exact⟨_,rfl,.mk a Yj [] _ _ _ rfl (.inl ⟨ha,rfl⟩) kl.Zkp rfl (.inl ⟨_,rfl⟩) kl.kv (k _)⟩
theorem Zoj(A B:V)(b:Bool):atI [A,B] (if decide (V.str (nmB b)=V.str "or")=true then 1 else 0)=some (if b then A else B):=by
 have:decide (V.str (nmB b)=V.str "or") = !b:=by cases b<;>decide +kernel
 rw[this];cases b<;>rfl
inductive Zh7(K:W.Frag)(n:Nat)(vs:List V)(H:Hp)(Q:VK):Prop
 |mk(v:V)(p:Addr)(W:Wi)(zs:List Str)(h1:vs=[v,.ref p])(h2:WK K H v W)(h3:W.dep<n)(h4:H p=some (.lst (zs.map V.str)))(h5:∀H',Zt H H'→Q (.bl (ev (inR zs) W)) H'):Zh7 K n vs H Q
def Jp(K:W.Frag)(n:Nat):Sp:=λvs H Q _=>Zh7 K n vs H Q
theorem Zk6:Ya P w K mg base CX0 1 f fd VA (Jp K 0):=by
 have no:∀vs H Q E,¬ Jp K 0 vs H Q E:=λvs H Q E h=>by
  obtain⟨_,_,_,_,_,_,hd,_⟩:=h;lia
 exact⟨λvs H Q E h=>absurd h (no vs H Q E),λA outer s H args us vs Q E _ _ _ _ h=>absurd h (no vs H Q E)⟩
theorem Zk5(F:Fun K "_law_by_words" "_law_by_words" Vd f fd)(Z:Blt mg)(Yp:Cal P w K mg base "_law_by_words" (n+1) VA (Jp K n)):Ya P w K mg base CX0 (n+2) f fd VA (Jp K (n+1)):=by
 refine F.ok Rc (λvs H Q E h=>?_) (λcdv A outer s H vs Q E hr h=>?_)
 ·obtain⟨v,p,W,zs,rfl,_⟩:=h;rfl
 obtain⟨v,p,W,zs,rfl,hW,hd,hp,k⟩:=h
 refine⟨_,(Ze (Yd (Zp Xw (Zs (Zo (K:=K)) (pv 0) Zf (λ_ _=>rfl)) Z4 (Zw _)) 
    (Zg (Zl (Wj (Qi (K:=K)) (Zs (Zo (K:=K)) (pv 0) Zf (λ_ _=>rfl)) (pv 1) (by with_unfolding_all rfl)))) Zu) 
   (Ze (Yd (Zp (Qi (K:=K)) (Zs (Zo (K:=K)) (pv 0) Zf (λ_ _=>rfl)) (Z2 (Za Z4 (Za Z4 Zb))) (by with_unfolding_all rfl)) 
    (Zg (Zl (Wj Xw (Zs (Zo (K:=K)) (pv 0) Zf (λ_ _=>rfl)) Z4 (Zw _)))) Zu) 
   (Ze (Zr (i:=2) Rc.nd (by rfl) (Or.inl (by rfl)) (Z5 Yp hr (Za (Zs (Zo (K:=K)) (pv 0) Zf (λ_ _=>rfl)) (Za (pv 1) Zb)))) 
   (Ze (Yd (Zp Xw (Zs (Zo (K:=K)) (pv 0) Zf (λ_ _=>rfl)) Z4 (Zw _)) 
    (Zg (Zl (Zp9 (pv 2)))) Zu) 
   (Zg (Zl (Zs (Z3 (K:=K)) (Yk (Za (Zjf (pv 2) (Zbz (Z5 Yp hr (Za (Zs (Zo (K:=K)) (pv 0) (Zok Zhg Zf) (λ_ _=>rfl)) (Za (pv 1) Zb))))) (Za (Zts (pv 2) (Zbz (Z5 Yp hr (Za (Zs (Zo (K:=K)) (pv 0) (Zok Zhg Zf) (λ_ _=>rfl)) (Za (pv 1) Zb))))) Zb))) (Zy Sw (by rfl) Z.int Gj (Za (Wj Xw (Zs (Zo (K:=K)) (pv 0) Zf (λ_ _=>rfl)) Z4 (Zw _)) Zb)) (λ_ _=>rfl)))))))),?_⟩
 cases hW with
 | @mk a vs _ h hl hk=>
  cases W with
  |has z=>
   have:vs=[]:=oV hl;subst this;refine⟨_,rfl,a,_,_,_,rfl,rfl,h.sq,Zj (j:=0) rfl,rfl,_,rfl,C5 ?_⟩;refine⟨_,rfl,a,_,_,_,rfl,rfl,h.sq,Zj (j:=1) rfl,_,rfl,p,_,rfl,.inl (SqL.of hp),rfl,Lf zs,?_⟩;have:=k H (Zt.refl _);rw[show ev (inR zs) (.has z)=inV (.str z) (tvS zs) from(C7 z zs).symm]at this;exact this
  |lf b=>
   have:vs=[]:=oV hl;subst this;refine⟨_,rfl,a,_,_,_,rfl,rfl,h.sq,Zj (j:=0) rfl,rfl,_,rfl,ifN (by cases b<;>decide +kernel) ?_⟩;refine⟨_,rfl,a,_,_,_,rfl,rfl,h.sq,Zj (j:=0) rfl,(by show 2≤sizeLine;decide),λq nq=>?_⟩;have s1:=Zd nq (.tup [V.str (Str.ofString "always"),V.str (Str.ofString "never")]);refine⟨q,_,rfl,.inr (SqT.of Zc),rfl,rfl,_,rfl,ifY (by cases b<;>decide +kernel) ?_⟩;refine⟨_,rfl,a,_,_,_,rfl,rfl,(h.keep (Tk.same s1)).sq,Zj (j:=0) rfl,rfl,?_⟩;have:=k _ s1;rw[show ev (inR zs) (.lf b)=decide (V.str (Wi.lf b).nm=V.str "always") from(show b=decide (V.str (Wi.lf b).nm=V.str "always") by cases b<;>decide +kernel)]at this;exact this
  |nt x=>
   obtain⟨v1,rfl⟩:=YB.mp (show vs.length=1 from hl);refine⟨_,rfl,a,_,_,_,rfl,rfl,h.sq,Zj (j:=0) rfl,rfl,_,rfl,ifN (by decide +kernel) ?_⟩;refine⟨_,rfl,a,_,_,_,rfl,rfl,h.sq,Zj (j:=0) rfl,(by show 2≤sizeLine;decide),λq nq=>?_⟩;have s1:=Zd nq (.tup [V.str (Str.ofString "always"),V.str (Str.ofString "never")]);refine⟨q,_,rfl,.inr (SqT.of Zc),rfl,rfl,_,rfl,ifN (by decide +kernel) ?_⟩;have h1:=h.keep (Tk.same s1);refine⟨_,rfl,a,_,_,_,rfl,rfl,h1.sq,Zj (j:=1) rfl,_,rfl,v1,p,x,zs,rfl,(hk 0 _ _ rfl rfl).keep (Tk.same s1),YC hd,s1 _ _ hp,λH2 s2=>?_⟩;have h2:=h1.keep (Tk.same s2);refine⟨_,rfl,a,_,_,_,rfl,rfl,h2.sq,Zj (j:=0) rfl,rfl,_,rfl,ifY (by decide +kernel) ?_⟩;exact⟨_,rfl,_,rfl,k _ (s1.trans s2)⟩
  |bi b x y=>
   obtain⟨v1,v2,rfl⟩:∃v1 v2,vs=[v1,v2]:=by
    match vs,hl with
    |[v1,v2],_=>exact⟨v1,v2,rfl⟩
   have h:TKt K H a [.str (nmB b),v1,v2]:=h;refine⟨_,rfl,a,_,_,_,rfl,rfl,h.sq,Zj (j:=0) rfl,rfl,_,rfl,ifN (by cases b<;>decide +kernel) ?_⟩;refine⟨_,rfl,a,_,_,_,rfl,rfl,h.sq,Zj (j:=0) rfl,(by show 2≤sizeLine;decide),λq nq=>?_⟩;have s1:=Zd nq (.tup [V.str (Str.ofString "always"),V.str (Str.ofString "never")]);refine⟨q,_,rfl,.inr (SqT.of Zc),rfl,rfl,_,rfl,ifN (by cases b<;>decide +kernel) ?_⟩;have h1:=h.keep (Tk.same s1);refine⟨_,rfl,a,_,_,_,rfl,rfl,h1.sq,Zj (j:=1) rfl,_,rfl,v1,p,x,zs,rfl,(hk 0 _ _ rfl rfl).keep (Tk.same s1),lY (Nat.le_max_left x.dep y.dep) (YC hd),s1 _ _ hp,λH2 s2=>?_⟩;have h2:=h1.keep (Tk.same s2);refine⟨_,rfl,a,_,_,_,rfl,rfl,h2.sq,Zj (j:=0) rfl,rfl,_,rfl,ifN (by cases b<;>decide +kernel) ?_⟩;have hy:=((hk 1 _ _ rfl rfl).keep (Tk.same s1)).keep (Tk.same s2);have dy:y.dep<n:=lY (Nat.le_max_right x.dep y.dep) (YC hd);have o5:=s2 _ _ (s1 _ _ hp);have neg:atI [V.str (nmB b),v1,v2] (-1:Int)=some v2:=rfl;have k':∀H',Zt H2 H'→Q (V.bl (if b then ev (inR zs) x&&ev (inR zs) y else ev (inR zs) x||ev (inR zs) y)) H':=λH' e=>k H' ((s1.trans s2).trans e);refine⟨_,rfl,_,rfl,?_⟩;generalize ev (inR zs) x=cx at k';generalize hcy:ev (inR zs) y=cy at k'
   cases cx with
   |true=>
    refine C5 ⟨_,rfl,_,rfl,a,_,_,_,rfl,rfl,h2.sq,neg,_,rfl,v2,p,y,zs,rfl,hy,dy,o5,λH3 s3=>?_⟩;refine⟨_,rfl,_,rfl,C5 ⟨(by show 2≤sizeLine;decide),λpl l7=>?_⟩⟩;have s4:=Zd l7 (.lst [V.bl (ev (inR zs) y),V.bl true]);refine⟨_,rfl,a,_,_,_,rfl,rfl,((h2.keep (Tk.same s3)).keep (Tk.same s4)).sq,Zj (j:=0) rfl,rfl,.inr ⟨_,rfl,pl,_,_,_,rfl,rfl,SqL.of Zc,Zoj _ _ b,?_⟩⟩;have:=k' _ (s3.trans s4);rw[←hcy]at this;cases b
    ·exact this
    ·exact this
   |false=>
    refine U2 ⟨_,rfl,_,rfl,U2 ⟨_,rfl,_,rfl,a,_,_,_,rfl,rfl,h2.sq,neg,_,rfl,v2,p,y,zs,rfl,hy,dy,o5,λH3 s3=>?_⟩⟩;refine⟨(by show 2≤sizeLine;decide),λpl l7=>?_⟩;have s4:=Zd l7 (.lst [V.bl false,V.bl (ev (inR zs) y)]);refine⟨_,rfl,a,_,_,_,rfl,rfl,((h2.keep (Tk.same s3)).keep (Tk.same s4)).sq,Zj (j:=0) rfl,rfl,.inr ⟨_,rfl,pl,_,_,_,rfl,rfl,SqL.of Zc,Zoj _ _ b,?_⟩⟩;have:=k' _ (s3.trans s4);rw[←hcy]at this;cases b
    ·exact this
    ·exact this
theorem Q5{g:TG}{tt:TT}(Pv:Nat→List V→Hp→Prop)(hk:xs.length<sizeLine)(h0:Pv 0 [] H)(hlen:∀i acc H,Pv i acc H→acc.length≤i)(hl:∀i acc H,Pv i acc H→SqT K H a xs)
  (hs:∀i acc H2 x,xs[i]?=some x→Pv i acc H2→g x (Ur n fr σ) H2 λt4 H4=>tt t4 H4 λb H5=>if b=true then te t4 H5 λv H6=>Pv (i+1) (acc++[v]) H6 else Pv (i+1) acc H5)
  (hd:∀acc H2,Pv xs.length acc H2→∀l,H2 l=none→Q (.ref l) (upd H2 l (.lst acc))):Za7 (Itt K a) n fr g tt te σ H Q:=
 Su Pv hk h0 hlen (λi acc H hi q=>⟨xs,_,hl i acc H q,rZ hi⟩) (λacc H q=>⟨xs,hl _ acc H q,rX _⟩)
  (λi acc H2 x H3 hi q y=>by
   obtain⟨rfl,z⟩:=y
   exact hs i acc H3 x (z xs (hl i acc H3 q)) q) hd
def Wi.its:Wi→List (Option Wi)
 |.lf _=>[]
 |.has _=>[none]
 |.nt x=>[some x]
 |.bi _ x y=>[some x,some y]
theorem WK.view{W:Wi}(h:WK K H v W):∃a us,v=.ref a∧TKt K H a (.str W.nm :: us)∧us.length=W.its.length∧∀(i:Nat) u o,us[i]?=some u→W.its[i]?=some o→(o=none→∃z,W=.has z∧u=.str z)∧∀x,o=some x→x∈W.kd∧WK K H u x:=by
 cases h with
 | @mk a vs _ h hl hk=>
  cases W with
  |lf b=>exact⟨a,vs,rfl,h,hl,λi u o p q=>by simp[Wi.its]at q⟩
  |has z=>
   have:vs=[]:=oV hl;subst this;refine⟨a,[.str z],rfl,h,rfl,λi u o p q=>?_⟩
   match i,p,q with
   | 0,p,q=>cases p;cases q;exact⟨λ_=>⟨z,rfl,rfl⟩,λx e=>by cases e⟩
   |i+1,p,q=>simp at p
  |nt x=>
   refine⟨a,vs,rfl,h,hl,λi u o p q=>?_⟩
   match i,p,q with
   | 0,p,q=>cases q;exact⟨(λe=>by cases e),λy e=>by cases e;exact⟨rY.mpr rfl,hk 0 _ _ p rfl⟩⟩
   |i+1,p,q=>simp[Wi.its]at q
  |bi b x y=>
   refine⟨a,vs,rfl,h,hl,λi u o p q=>?_⟩
   match i,p,q with
   | 0,p,q=>cases q;exact⟨(λe=>by cases e),λz e=>by cases e;exact⟨by simp[Wi.kd],hk 0 _ _ p rfl⟩⟩
   | 1,p,q=>cases q;exact⟨(λe=>by cases e),λz e=>by cases e;exact⟨by simp[Wi.kd],hk 1 _ _ p rfl⟩⟩
   |i+2,p,q=>simp[Wi.its]at q
theorem Zm5(x:V)(us:List V):Hy (x :: us) (some 1) none=us:=by
 have h:HT.sIx (x :: us).length 0 (some ((1:Nat):Int))=1:=by
  rw[HT.Pe];show min 1 (us.length+1)=1;lia
 show List.take ((x :: us).length-HT.sIx (x :: us).length 0 (some ((1:Nat):Int))) (List.drop (HT.sIx (x :: us).length 0 (some ((1:Nat):Int))) (x :: us))=us;rw[h];simp
def dpO:Option Wi→List Nat
 |none=>[]
 |some x=>[1+x.dep]
theorem Zrv(W:Wi)(n:Nat)(h:n∈W.its.flatMap dpO++[0])(h':∀a∈W.its.flatMap dpO++[0],a≤n):n=W.dep:=by
 cases W with
 |lf b=>simpa[Wi.its,Wi.dep] using h
 |has z=>simpa[Wi.its,Wi.dep,dpO] using h
 |nt x=>
  simp only[Wi.its,dpO,aI,List.flatMap_nil,lN,List.cons_append,YQ,oH,iO,or_false]at h h';have:=h' (1+x.dep) (.inl rfl);show n=x.dep+1;lia
 |bi b x y=>
  simp only[Wi.its,dpO,aI,List.flatMap_nil,lN,List.cons_append,YQ,oH,iO,or_false]at h h';have h1:=h' (1+x.dep) (.inl rfl);have h2:=h' (1+y.dep) (.inr (.inl rfl));show n=max x.dep y.dep+1;lia
inductive Zdw(K:W.Frag)(n:Nat)(vs:List V)(H:Hp)(Q:VK):Prop
 |mk(v:V)(W:Wi)(h1:vs=[v])(h2:WK K H v W)(h3:W.dep<n)(h4:∀H',Zt H H'→Q (nI W.dep) H'):Zdw K n vs H Q
def Mm(K:W.Frag)(n:Nat):Sp:=λvs H Q _=>Zdw K n vs H Q
theorem Zgr:Ya P w K mg base CX0 1 f fd WY (Mm K 0):=by
 have no:∀vs H Q E,¬ Mm K 0 vs H Q E:=λvs H Q E h=>by
  obtain⟨_,_,_,_,hd,_⟩:=h;lia
 exact⟨λvs H Q E h=>absurd h (no vs H Q E),λA outer s H args us vs Q E _ _ _ _ h=>absurd h (no vs H Q E)⟩
theorem Zgq(F:Fun K "_law_deep" "_law_deep" Uk f fd)(Z:Blt mg)(U0:Cal P w K mg base "_law_deep" (n+1) WY (Mm K n)):Ya P w K mg base CX0 (n+2) f fd WY (Mm K (n+1)):=by
 refine F.ok B6 (λvs H Q E h=>?_) (λcdv A outer s H vs Q E hr h=>?_)
 ·obtain⟨v,W,rfl,_⟩:=h;rfl
 obtain⟨v,W,rfl,hW,hd,k⟩:=h;refine⟨_,(Zg (Zl (Zq (Zgw (K:=K) (by rfl)) (by rfl) Z.max Zk8 (Za (Z7 Zb3 (Yo (sc:=Zh Uk) (Nm:=WY) (own:=["_law_part"]) (fr:=[]) ⟨rfl,by decide +kernel,by decide +kernel,by decide +kernel,by decide +kernel⟩ (by rfl) (Ym (by decide)) (Nq (K:=K) (Vy (Ks (K:=K)) (pv 0) (Vt Zf) Pf)) (λd=>(Zn (i:=0) G6 (by rfl) (Or.inl (by rfl)))) (λd=>(Vs (Yr (K:=K) (Zq (Zau (K:=K)) (by rfl) Z.isinstance Y4 (Za (pv 0) (Za (S3 (v:=V.ty "tuple") (by rfl) Z.tuple Yu rfl) Zb))) (λ_=>rfl)))) (λd=>(Z7 Xl Zf (Z5 U0 hr (Za (pv 0) Zb))))) (Yk (Za Zf Zb))) Zb)))),?_⟩;obtain⟨a,us,rfl,h,hl,hv⟩:=hW.view;have u2:us.length≤2:=by rw[hl];cases W<;>simp[Wi.its]
 refine⟨_,rfl,_,rfl,a,_,rfl,h.sq,?_,λsp eM=>?_⟩
 ·rintro⟨z,_⟩;have z:HT.sIx (V.str W.nm :: us).length 0 (some ((1:Nat):Int))=0:=z;rw[HT.Pe,oR]at z;lia
 rw[Zm5];generalize eZ:upd H sp _=H1;have s1:=nS7 eZ eM;have h1:=nU7 eZ;refine⟨sp,rfl,⟨_,SqT.of h1⟩,?_⟩;refine Q5 (xs:=us) (λi acc H2=>Zt H1 H2∧acc=((W.its.take i).flatMap dpO).map nI) (lY u2 (by decide)) ⟨Zt.refl _,rfl⟩ (λi acc H2 q=>?_) (λi acc H2 q=>SqT.of (q.1 _ _ h1)) (λi acc H2 x hx q=>?_) (λacc H2 q y hy=>?_)
 ·rw[q.2,rW];refine lC (Q3 (n:=1) (λo=>by cases o<;>simp[dpO]) _) ?_;rw[Nat.mul_one,iE];lia
 ·obtain⟨e2,rfl⟩:=q;have hi:i<W.its.length:=by rw[←hl];exact(oG.mp hx).1
  have ho:W.its[i]?=some W.its[i]:=rZ hi;obtain⟨v1,v2⟩:=hv i x _ hx ho;rw[Dh ho]
  cases sL:W.its[i] with
  |none=>
   obtain⟨z,rfl,rfl⟩:=v1 sL;exact⟨_,rfl,⟨_,"tuple",_,_,rfl,.inl (.str z),rfl,_,rfl,U2 ⟨e2,by rw[show dpO none=[] from rfl,lN]⟩⟩⟩
  |some x'=>
   obtain⟨m1,w1⟩:=v2 x' sL;obtain⟨b,bs,rfl,hb,_⟩:=w1.view;have e1:=s1.trans e2;have z8:=(hb.keep (Tk.same e1)).sq;refine⟨_,rfl,⟨_,"tuple",_,_,rfl,.inr ⟨b,_,rfl,rfl,z8⟩,rfl,_,rfl,C5 ?_⟩⟩;refine⟨_,rfl,.ref b,x',rfl,w1.keep (Tk.same e1),oS (Wi.Zck m1) (ZW hd),λH3 e3=>⟨_,_,rfl,rfl,e2.trans e3,?_⟩⟩;rw[oK];refine congrArg _ ?_;show [V.int (1+(x'.dep:Int))]=[V.int ((1+x'.dep:Nat):Int)];rw[Int.natCast_add];rfl
 ·obtain⟨e2,rfl⟩:=q;rw[hl,lX];generalize eZ:upd H2 y _=H3;have s3:=nS7 eZ hy;have h3:=nU7 eZ;refine⟨(by show 1≤sizeLine;decide),λq nq=>?_⟩;have s4:=Zd nq (.lst [V.int 0])
  have dl:(W.its.flatMap dpO).length≤2:=by
   refine lC (Q3 (n:=1) (λo=>by cases o<;>simp[dpO]) _) ?_;rw[Nat.mul_one,←hl];exact u2
  refine⟨y,q,_,_,rfl,rfl,s4 _ _ h3,Zc,?_,λr nr=>?_⟩
  ·rw[rW];exact lC (Nat.add_le_add_right dl 1) (by decide)
  have s5:=Zd nr (.lst ((W.its.flatMap dpO).map nI++[V.int 0]));refine⟨r,(W.its.flatMap dpO++[0]).map λ(n:Nat)=>(n:Int),rfl,SqL.of ?_,by simp,λM hM hM'=>?_⟩
  ·rw[Zc,lW,oK];rfl
  ·obtain⟨m,hm,rfl⟩:=oU.mp hM;rw[Zrv W m hm λa ha=>Int.ofNat_le.mp (hM' _ (dW ha))];exact k _ ((((s1.trans e2).trans s3).trans s4).trans s5)
theorem Jz(n:Nat):(List.replicate (n+1) true).map V.bl=(List.replicate n true).map V.bl++[V.bl true]:=by
 rw[aT,oK];rfl
theorem Bo(n:Nat):(List.replicate n true).all id=true:=cF.mpr λx hx=>(ZL.mp hx).2
inductive Zh3(K:W.Frag)(n:Nat)(vs:List V)(H:Hp)(Q:VK):Prop
 |mk(v:V)(l:Str)(W:Wi)(h1:vs=[v,.str l])(h2:WK K H v W)(h3:W.dep<n)(h4:W.ok (λz=>z.length≤3∧∀c∈z.cps.toList,c∈l.cps.toList))(h5:∀H',Zt H H'→Q (.bl true) H'):Zh3 K n vs H Q
def Ee(K:W.Frag)(n:Nat):Sp:=λvs H Q _=>Zh3 K n vs H Q
theorem Zj3:Ya P w K mg base CX0 1 f fd WJ (Ee K 0):=by
 have no:∀vs H Q E,¬ Ee K 0 vs H Q E:=λvs H Q E h=>by
  obtain⟨_,_,_,_,_,hd,_⟩:=h;lia
 exact⟨λvs H Q E h=>absurd h (no vs H Q E),λA outer s H args us vs Q E _ _ _ _ h=>absurd h (no vs H Q E)⟩
theorem Az{W:Wi}(h:W.wd=none)(h':∀b,W≠.lf b):inV (V.str W.nm) [V.str (Str.ofString "always"),V.str (Str.ofString "never")]=false∧decide (V.str W.nm=V.str (Str.ofString "has"))=false∧inV (V.str W.nm) [V.str (Str.ofString "not"),V.str (Str.ofString "and"),V.str (Str.ofString "or")]=true∧W.its.length+1=2+(if (!decide (V.str W.nm=V.str (Str.ofString "not")))=true then 1 else 0):=by
 cases W with
 |lf b=>exact absurd rfl (h' b)
 |has z=>cases h
 |nt x=>
  show inV (V.str (Str.ofString "not")) _=false∧decide (V.str (Str.ofString "not")=_)=false∧inV (V.str (Str.ofString "not")) _=true∧2=2+(if (!decide (V.str (Str.ofString "not")=_))=true then 1 else 0);decide +kernel
 |bi b x y=>
  show inV (V.str (nmB b)) _=false∧decide (V.str (nmB b)=_)=false∧inV (V.str (nmB b)) _=true∧3=2+(if (!decide (V.str (nmB b)=_))=true then 1 else 0);cases b<;>decide +kernel
theorem Zj2(F:Fun K "_law_is_wish" "_law_is_wish" Xz f fd)(Z:Blt mg)(Wo:Cal P w K mg base "_law_is_wish" (n+1) WJ (Ee K n)):Ya P w K mg base CX0 (n+2) f fd WJ (Ee K (n+1)):=by
 refine F.ok Jv (λvs H Q E h=>?_) (λcdv A outer s H vs Q E hr h=>?_)
 ·obtain⟨v,l,W,rfl,_⟩:=h;rfl
 obtain⟨v,l,W,rfl,hW,hd,ho,k⟩:=h
 refine⟨_,(Ze (Yd (PW.pt (Si (Um (Yr (K:=K) (Zq (Zau (K:=K)) (by rfl) Z.isinstance Y4 (Za (pv 0) (Za (S3 (v:=V.ty "tuple") (by rfl) Z.tuple Yu rfl) Zb))) (λ_=>rfl))) (Tj (Zp Xw (Zq (Yh (K:=K)) (by rfl) Z.len Yw (Za (pv 0) Zb)) Zf (Zw _))))) 
    (Zg (Zl W0)) Zu) 
   (Ze (Yd (Zp (Qi (K:=K)) (Zs (Zo (K:=K)) (pv 0) Zf (λ_ _=>rfl)) (Z2 (Za Z4 (Za Z4 Zb))) (by with_unfolding_all rfl)) 
    (Zg (Zl (Wj Xw (Zq (Yh (K:=K)) (by rfl) Z.len Yw (Za (pv 0) Zb)) Zf (Zw _)))) Zu) 
   (Ze (Yd (Zp Xw (Zs (Zo (K:=K)) (pv 0) Zf (λ_ _=>rfl)) Z4 (Zw _)) 
    (Ze (Yd (PW.pt (Si (Zp Nr (Zq (Yh (K:=K)) (by rfl) Z.len Yw (Za (pv 0) Zb)) Zf (Zw _)) (Tj (Um (Yr (K:=K) (Zq (N6 (K:=K)) (by rfl) Z.isinstance Y4 (Za (Zs (Zo (K:=K)) (pv 0) Zf (λ_ _=>rfl)) (Za (S3 (v:=V.ty "str") (by rfl) Z.str Zc1 rfl) Zb))) (λ_=>rfl)))))) 
     (Zg (Zl W0)) Zu) 
    (Zg (Zl (Zq (Lg (K:=K)) (by rfl) Z.all Zc3 (Za (Yo (sc:=Zh Xz) (Nm:=WJ) (own:=UL) (fr:=[1]) ⟨rfl,by decide +kernel,by decide +kernel,by decide +kernel,by decide +kernel⟩ (by rfl) (Ym (by decide)) (Uo (Zs (Zo (K:=K)) (pv 0) Zf (λ_ _=>rfl))) (λd=>(Zn (i:=0) M9 (by rfl) (Or.inl (by rfl)))) (λd=>Xt) (λd=>(Wj Ek (pv 0) (pv 1) (by with_unfolding_all rfl)))) Zb))))) Zu) 
   (Ze (Yd (PW.pt (Si (Zp (Pj (K:=K)) (Zs (Zo (K:=K)) (pv 0) Zf (λ_ _=>rfl)) (Z2 (Za Z4 (Za Z4 (Za Z4 Zb)))) (by with_unfolding_all rfl)) (Tj (Zp Nr (Zq (Yh (K:=K)) (by rfl) Z.len Yw (Za (pv 0) Zb)) (Z7 Xl Zf (Zy Sw (by rfl) Z.int Gj (Za (Wj Nr (Zs (Zo (K:=K)) (pv 0) Zf (λ_ _=>rfl)) Z4 (Zw _)) Zb))) (Zw _))))) 
    (Zg (Zl W0)) Zu) 
   (Zg (Zl (Zq (Lg (K:=K)) (by rfl) Z.all Zc3 (Za (Yo (sc:=Zh Xz) (Nm:=WJ) (own:=["_law_part"]) (fr:=[1]) ⟨rfl,by decide +kernel,by decide +kernel,by decide +kernel,by decide +kernel⟩ (by rfl) (Ym (by decide)) (Nq (K:=K) (Vy (Ks (K:=K)) (pv 0) (Vt Zf) Pf)) (λd=>(Zn (i:=0) M7 (by rfl) (Or.inl (by rfl)))) (λd=>Xt) (λd=>(Z5 Wo hr (Za (pv 0) (Za (pv 1) Zb))))) Zb)))))))),?_⟩
 obtain⟨a,us,rfl,h,hl,hv⟩:=hW.view;have u2:us.length≤2:=by rw[hl];cases W<;>simp[Wi.its]
 refine⟨_,rfl,⟨_,"tuple",_,_,rfl,.inr ⟨a,_,rfl,rfl,h.sq⟩,rfl,_,rfl,?_⟩⟩
 refine U2 ⟨_,rfl,a,_,rfl,.inr h.sq,rfl,_,rfl,ifN (decide_eq_false λz=>by injection z with z;rw[oR]at z;lia) ?_⟩;refine⟨_,rfl,a,_,_,_,rfl,rfl,h.sq,Zj (j:=0) rfl,(by show 2≤sizeLine;decide),λq nq=>?_⟩;generalize eZ:upd H q _=H1;have s1:=nS7 eZ nq;have g1:=nU7 eZ;have h1:=h.keep (Tk.same s1);refine⟨q,_,rfl,.inr (SqT.of g1),rfl,rfl,_,rfl,?_⟩
 by_cases gW:∃b,W=.lf b
 ·obtain⟨b,rfl⟩:=gW;have:us=[]:=oV hl;subst this;exact ifY (by cases b<;>decide +kernel) ⟨_,rfl,a,_,rfl,.inr h1.sq,rfl,k _ s1⟩
 cases o6:W.wd with
 |some z=>
  obtain rfl:W=.has z:=by
   cases W with
   |has y=>cases o6;rfl
   |_=>cases o6
  obtain⟨u,rfl⟩:=YB.mp (show us.length=1 from hl);obtain⟨v1,_⟩:=hv 0 u none rfl rfl;obtain⟨z',e,rfl⟩:=v1 rfl;cases e;refine ifN (show inV (V.str (Str.ofString "has")) [V.str (Str.ofString "always"),V.str (Str.ofString "never")]=false by decide +kernel) ⟨_,rfl,a,_,_,_,rfl,rfl,h1.sq,Zj (j:=0) rfl,rfl,_,rfl,ifY (show decide (V.str (Str.ofString "has")=V.str (Str.ofString "has"))=true by decide +kernel) ?_⟩;refine⟨_,rfl,a,_,rfl,.inr h1.sq,rfl,_,rfl,ifN (show (!decide (V.int 2=V.int 2))=false by decide +kernel) ?_⟩;refine⟨_,rfl,a,_,_,_,rfl,rfl,h1.sq,Zj (j:=1) rfl,⟨_,"str",_,_,rfl,.str z,rfl,_,rfl,U2 ?_⟩⟩;refine⟨_,rfl,a,_,_,_,rfl,rfl,h1.sq,Zj (j:=1) rfl,z,rfl,?_⟩;obtain⟨hz3,wC⟩:=ho;refine Hz (cs:=z.cps.toList) (λn acc H5=>acc=(List.replicate n true).map V.bl∧Zt H1 H5) (Sf (by have:=len_list z;lia)) ⟨rfl,Zt.refl _⟩ (λn acc H5 z=>by rw[z.1,rW,dB];exact rX _) (λn acc H5 y hy z=>?_) (λacc H5 z y hy=>?_)
  ·obtain⟨rfl,e5⟩:=z;have Zkd:=wC _ (oM hy);refine Kj ⟨_,rfl,_,rfl,_,_,rfl,rfl,?_⟩;have hf:(!(Builtin.Str.occurrences l ⟨#[_]⟩ 0 l.length 1).isEmpty)=true:=(StrLaws.found_one l _).trans (decide_eq_true Zkd);exact⟨by rw[Jz];exact congrArg (λb=>_++[V.bl b]) hf,e5⟩
  ·obtain⟨rfl,e5⟩:=z;refine⟨y,_,rfl,SqL.of Zc,?_⟩;rw[Bo];exact k _ ((s1.trans e5).trans (Zd hy _))
 |none=>
  obtain⟨f1,f2,f3,f4⟩:=Az o6 λb e=>gW ⟨b,e⟩;refine ifN f1 ⟨_,rfl,a,_,_,_,rfl,rfl,h1.sq,Zj (j:=0) rfl,rfl,_,rfl,ifN f2 ?_⟩;refine⟨_,rfl,a,_,_,_,rfl,rfl,h1.sq,Zj (j:=0) rfl,(by show 3≤sizeLine;decide),λq2 nq2=>?_⟩;generalize eZ:upd H1 q2 _=H2;have s2:=nS7 eZ nq2;have g2:=nU7 eZ;have h2:=h1.keep (Tk.same s2);refine⟨q2,_,rfl,.inr (SqT.of g2),rfl,rfl,_,rfl,ifN (show (!inV _ _)=false by rw[f3];rfl) ?_⟩;refine⟨_,rfl,a,_,rfl,.inr h2.sq,_,rfl,a,_,_,_,rfl,rfl,h2.sq,Zj (j:=0) rfl,rfl,.inr ⟨_,rfl,_,_,rfl,rfl,rfl,_,rfl,ifN ?_ ?_⟩⟩
  ·rw[oR,hl,f4];cases (!decide (V.str W.nm=V.str (Str.ofString "not")))<;>decide +kernel
  refine⟨_,rfl,_,rfl,a,_,rfl,h2.sq,?_,λsp eM=>?_⟩
  ·rintro⟨z,_⟩;have z:HT.sIx (V.str W.nm :: us).length 0 (some ((1:Nat):Int))=0:=z;rw[HT.Pe,oR]at z;lia
  rw[Zm5];generalize eZ:upd H2 sp _=H3;have s3:=nS7 eZ eM;have h3:=nU7 eZ;have e3:=(s1.trans s2).trans s3;refine⟨sp,rfl,⟨_,SqT.of h3⟩,?_⟩;refine Q5 (xs:=us) (λi acc H5=>acc=(List.replicate i true).map V.bl∧Zt H3 H5) (lY u2 (by decide)) ⟨rfl,Zt.refl _⟩ (λn acc H5 z=>by rw[z.1,rW,dB];exact rX _) (λi acc H5 q=>SqT.of (q.2 _ _ h3)) (λi acc H5 x hx z=>?_) (λacc H5 z y hy=>?_)
  ·obtain⟨rfl,e5⟩:=z;have hi:i<W.its.length:=by rw[←hl];exact(oG.mp hx).1
   have sL:W.its[i]?=some W.its[i]:=rZ hi;obtain⟨v1,v2⟩:=hv i x _ hx sL
   cases hh:W.its[i] with
   |none=>
    obtain⟨z,rfl,_⟩:=v1 hh;cases o6
   |some x'=>
    obtain⟨m1,w1⟩:=v2 x' hh;refine Kj ⟨_,rfl,_,rfl,x,l,x',rfl,w1.keep (Tk.same (e3.trans e5)),oS (Wi.Zck m1) (ZW hd),Wi.Zub ho m1,λH6 e6=>⟨?_,e5.trans e6⟩⟩;rw[Jz]
  ·obtain⟨rfl,e5⟩:=z;refine⟨y,_,rfl,SqL.of Zc,?_⟩;rw[Bo];exact k _ ((e3.trans e5).trans (Zd hy _))
theorem V6{f:Addr}{fd:FuncData}(F:Fun K "_law_by_words" "_law_by_words" Vd f fd)(b:Binds K fd VA [])(m:mg "_law_by_words"=some (.ref f))(Z:Blt mg):∀n:Nat,Ya P w K mg base CX0 (n+1) f fd VA (Jp K n)
 | 0=>Zk6
 |n+1=>Zk5 F Z ⟨f,fd,V6 F b m Z n,m,F.kp,b⟩
theorem Lr{f:Addr}{fd:FuncData}(F:Fun K "_law_deep" "_law_deep" Uk f fd)(b:Binds K fd WY [])(m:mg "_law_deep"=some (.ref f))(Z:Blt mg):∀n:Nat,Ya P w K mg base CX0 (n+1) f fd WY (Mm K n)
 | 0=>Zgr
 |n+1=>Zgq F Z ⟨f,fd,Lr F b m Z n,m,F.kp,b⟩
theorem Qk{f:Addr}{fd:FuncData}(F:Fun K "_law_is_wish" "_law_is_wish" Xz f fd)(b:Binds K fd WJ [])(m:mg "_law_is_wish"=some (.ref f))(Z:Blt mg):∀n:Nat,Ya P w K mg base CX0 (n+1) f fd WJ (Ee K n)
 | 0=>Zj3
 |n+1=>Zj2 F Z ⟨f,fd,Qk F b m Z n,m,F.kp,b⟩
theorem Vx(us:WA):(Wf us).length=us.length:=by unfold Wf;rw[rW]
theorem Zqm{x:List Nat}(h:Lx x y):¬ y<x:=by
 induction h with
 |hd h=>
  intro z
  cases z with
  |rel l=>lia
  |cons l=>lia
 |tl _ ih=>
  intro z
  cases z with
  |rel l=>lia
  |cons l=>exact ih l
theorem Zps{v:List Nat}(h:sl u v):Tn (S v) (S u)=false:=by
 unfold Tn Ie;rw[Xq,Xq]
 rcases h with h|⟨h,l⟩
 ·rw[if_neg (by lia),decide_eq_false (by lia)]
 ·rw[if_pos (by lia),decide_eq_false];simpa[S] using Zqm l
theorem Zb0{us:WA}(h:us.Pairwise sl):Pa (us.map λu=>S u):=by
 unfold Pa;rw[cD];exact h.imp Zps
theorem Kq{x:V}(h:(Wf us)[i]?=some x):∃u,us[i]?=some u∧x=.str (S u):=by
 unfold Wf at h;rw[oP]at h
 cases e:us[i]? with
 |none=>rw[e]at h;cases h
 |some u=>rw[e]at h;exact⟨u,rfl,(Option.some.inj h).symm⟩
theorem Zaf{α:Type}{f:α→Bool}{l:List α}{x:α}(h:l[i]?=some x):(l.take (i+1)).filter f=(l.take i).filter f++if f x=true then [x] else []:=by
 rw[iV,h,iQ]
 by_cases z:f x=true
 ·rw[if_pos z];show _++List.filter f [x]=_;rw[ZQ z];rfl
 ·rw[if_neg z];show _++List.filter f [x]=_;rw[ZR z];rfl
theorem Zpl(us:WA):Wf us=(us.map λu=>S u).map V.str:=by
 unfold Wf;rw[lW];rfl
theorem Zon:∀{a b:List Nat},a.Nodup→(∀c∈a,c∈b)→a.length≤b.length
 |[],_,_,_=>lB _
 |x :: a,b,nd,h=>by
  have hx:x∈b:=h x oE;have q:=Zon (a:=a) (b:=b.erase x) (iR.mp nd).2 λc hc=>(YZ λe=>(iR.mp nd).1 (by rw[←e];exact hc)).mpr (h c (oO _ hc));rw[ZM hx]at q;have:=iC hx;rw[oR];lia
theorem Zdm{L:List Nat}{k:Nat}(hT:∀c∈T,c∈L)(hL:L.length≤3)(hk:k≤4):(U1 T).length≤3∧(spw T k).length≤400:=by
 have h3:(U1 T).length≤3:=by
  have nd:(U1 T).Nodup:=(Sh T).imp λ{a b} h=>oY h;have sub:∀c∈U1 T,c∈L:=λc hc=>hT c ((Qn c T).mp hc);exact lC (Zon nd sub) hL
 exact⟨h3,Zg6 h3 _ (by lia)⟩
theorem Ze5{kvs:List (Key×V)}(h:kvs.map (·.1)=zs.map Sum.inr)(z:Str):((kvs.any λkv=>decide (kv.1=Sum.inr z))=true)↔z∈zs:=by
 rw[dM];constructor
 ·rintro⟨q,hq,e⟩;have:q.1∈zs.map Sum.inr:=by rw[←h];exact oU.mpr ⟨q,hq,rfl⟩
  rw[of_decide_eq_true e]at this;obtain⟨y,hy,e2⟩:=oU.mp this;cases e2;exact hy
 ·intro hz;have:(Sum.inr z:Key)∈kvs.map (·.1):=by rw[h];exact oU.mpr ⟨z,hz,rfl⟩
  obtain⟨q,hq,e⟩:=oU.mp this;exact⟨q,hq,decide_eq_true e⟩
theorem Zea{kvs:List (Key×V)}(h:kvs.map (·.1)=zs.map Sum.inr)(nd:zs.Nodup)(z:Str)(v:V):
  ∃x9:List Str,(putK kvs (Sum.inr z) v).map (·.1)=x9.map Sum.inr∧x9.Nodup∧(∀y,y∈x9↔y∈zs∨y=z)∧x9.length≤zs.length+1:=by
 unfold putK
 by_cases c:z∈zs
 ·rw[if_pos ((Ze5 h z).mpr c)];refine⟨zs,?_,nd,λy=>⟨.inl,λe=>e.elim id λe=>e▸c⟩,by lia⟩;rw[←h,lW];refine ZA λq _=>?_;show (if q.1=Sum.inr z then (q.1,v) else q).1=q.1
  split<;>rfl
 ·rw[if_neg λe=>c ((Ze5 h z).mp e)];refine⟨zs++[z],by rw[oK,oK,h];rfl,cC.mpr ⟨nd,by simp,λa ha b hb e=>?_⟩,λy=>by simp,by simp⟩;rw[rY.mp hb]at e;exact c (e▸ha)
theorem Ml(t:List Nat)(k:Nat):(spw t k).Nodup:=by
 rw[iL];exact List.Pairwise.imp (S:=λa b=>a≠b) (λ{a b} h e=>by subst e;exact Sg h) (Uc t _)
theorem Cz{us:WA}(h:us.Nodup):(us.map λu=>S u).Nodup:=by
 rw[iL,cD];exact(iL.mp h).imp λ{a b} ne e=>ne (Za5 e)
theorem Zoo:(z∈us.map λu=>S u)↔z.cps.toList∈us:=by
 rw[oU];constructor
 ·rintro⟨u,hu,rfl⟩;simpa[S] using hu
 ·exact λh=>⟨_,h,Gs z⟩
theorem Zao{x9:List Str}{t:List Nat}{k:Nat}(nd:zs.Nodup)(mem:∀z,z∈zs↔z.cps.toList∈spw t k)(h:L2.Comes zs x9):x9=(spw t k).map λu=>S u:=by
 have p:zs.Perm ((spw t k).map λu=>S u):=(List.perm_ext_iff_of_nodup nd (Cz (Ml t k))).mpr λz=>(mem z).trans Zoo.symm;exact Zl8 (h.1.trans p) h.2 (Zb0 (Uc t _))
theorem F0{t:List Nat}{k:Nat}(nd:zs.Nodup)(mem:∀z,z∈zs↔z.cps.toList∈spw t k):zs.length=(spw t k).length:=by
 have p:zs.Perm ((spw t k).map λu=>S u):=(List.perm_ext_iff_of_nodup nd (Cz (Ml t k))).mpr λz=>(mem z).trans Zoo.symm;rw[p.length_eq,rW]
theorem Zah:∀us:List WE,eqL (Wf us) (Wf us)=true
 |[]=>rfl
 |u :: us=>by
  show (eqV (.str (S u)) (.str (S u))&&eqL (Wf us) (Wf us))=true;rw[Zah us];simp[eqV]
def Put(H:Hp)(fp:Addr)(n:Nat)(ws:WA)(H2:Hp):Prop:=∃(kvs:List (Key×V)) (zs:List Str),H2 fp=some (.dK kvs)∧kvs.map (·.1)=zs.map Sum.inr∧zs.Nodup∧zs.length≤n∧(∀z:Str,z∈zs↔z.cps.toList∈ws)∧Zz H H2 fp
theorem Put.more{fp:Addr}(h:Put H fp n ws H2)(hn:n<1000000)(w:List Nat):∃H3,Fy H2 fp (.str (S w)) (.bl true) H3∧Put H fp (n+1) (ws++[w]) H3:=by
 obtain⟨kvs,zs,h1,h2,h3,h4,h5,h6⟩:=h;obtain⟨x9,g1,g2,g3,g4⟩:=Zea h2 h3 (S w) (.bl true)
 have hl:kvs.length=zs.length:=by
  have:=congrArg List.length h2;rwa[rW,rW]at this
 refine⟨_,Fy.k (k:=Sum.inr (S w)) h1 (by rw[sizeLine_eq];lia),_,x9,Zc,g1,g2,by lia,λz=>?_,h6.trans (Zz.upd _)⟩;rw[g3,h5,oJ,rY];refine or_congr Iff.rfl ⟨λe=>by rw[e],λe=>?_⟩;rw[←Gs z,e]
theorem Put.le{fp:Addr}{m:Nat}(h:Put H fp n ws H2)(hm:n≤m):Put H fp m ws H2:=by
 obtain⟨kvs,zs,h1,h2,h3,h4,h5⟩:=h;exact⟨kvs,zs,h1,h2,h3,by lia,h5⟩
def grow(c k:Nat)(ws:WA):List WE:=(ws.filter λu=>decide (u.length<k)).map λu=>u++[c]
theorem Zge{k:Nat}(h:ws[j]?=some u):grow c k (ws.take (j+1))=grow c k (ws.take j)++if u.length<k then [u++[c]] else []:=by
 unfold grow;rw[Zaf h,oK]
 by_cases z:u.length<k
 ·rw[if_pos (decide_eq_true z),if_pos z];rfl
 ·rw[if_neg (λe=>z (of_decide_eq_true e)),if_neg z];rfl
theorem Zkh{k:Nat}(h:∀u,u∈ws↔u∈spw T k)(u:List Nat):u∈ws++grow c k ws↔u∈spw (T++[c]) k:=by
 rw[oJ,h,Wr,Wr,sub_snoc];unfold grow;rw[oU];constructor
 ·rintro(⟨h1,h2⟩|⟨v,hv,rfl⟩)
  ·exact⟨h1,.inl h2⟩
  ·obtain⟨vY,tD⟩:=lU.mp hv;have:=of_decide_eq_true tD;obtain⟨_,hs⟩:=Wr.mp ((h v).mp vY);exact⟨by rw[oB];show v.length+1≤k;lia,.inr ⟨v,rfl,hs⟩⟩
 ·rintro⟨h1,h2|⟨v,rfl,hv⟩⟩
  ·exact .inl ⟨h1,h2⟩
  ·rw[oB]at h1;have h1':v.length+1≤k:=h1;exact .inr ⟨v,lU.mpr ⟨(h v).mpr (Wr.mpr ⟨by lia,hv⟩),decide_eq_true (by lia)⟩,rfl⟩
theorem take_snoc{α:Type}{l:List α}{x:α}(h:l[i]?=some x):l.take (i+1)=l.take i++[x]:=by rw[iV,h];rfl
def kvt(u:List Nat):Key×V:=(Sum.inr (S u),.bl true)
theorem Ox:∀(ws:WA) {kvs:List (Key×V)}{zs:List Str},kvs.map (·.1)=zs.map Sum.inr→zs.Nodup→
  ∃x9:List Str,(To kvs (ws.map kvt)).map (·.1)=x9.map Sum.inr∧x9.Nodup∧(∀y:Str,y∈x9↔y∈zs∨y.cps.toList∈ws)∧x9.length≤zs.length+ws.length
 |[],kvs,zs,h,nd=>⟨zs,h,nd,λy=>by simp,by simp⟩
 |u :: ws,kvs,zs,h,nd=>by
  obtain⟨z1,g1,g2,g3,g4⟩:=Zea h nd (S u) (.bl true);obtain⟨z2,k1,k2,k3,k4⟩:=Ox ws g1 g2;refine⟨z2,k1,k2,λy=>?_,by rw[oR];lia⟩;rw[k3,g3,oH];have:y=S u↔y.cps.toList=u:=⟨λe=>by rw[e],λe=>by rw[←Gs y,e]⟩;rw[this];exact or_assoc
theorem Mr(d:Zz H H' p)(hp:H p=none):Zt H H':=λb o h=>d b o h (Zi h hp)
inductive Jk(vs:List V)(H:Hp)(Q:VK):Prop
 |mk(t:Str)(kn:Nat)(L:List Nat)(h1:vs=[.str t,nI kn])(h2:t.length≤200000)(h3:L.length≤3)(h4:kn≤4)(h5:(∀c∈t.cps.toList,c∈L))(h6:(spw t.cps.toList kn).length≤40)(h7:∀q H',H q=none→Zt H H'→H' q=some (.lst (Wf (spw t.cps.toList kn)))→Q (.ref q) H'):Jk vs H Q
def Ea:Sp:=λvs H Q _=>Jk vs H Q
theorem Jg(zs:List Str):Wf (zs.map λz=>z.cps.toList)=zs.map V.str:=by
 unfold Wf;rw[lW];refine ZA λz _=>?_;show V.str (S z.cps.toList)=_;rw[Gs]
theorem La:u∈(zs.map λz=>z.cps.toList)↔S u∈zs:=by
 rw[oU];constructor
 ·rintro⟨z,hz,rfl⟩;rw[Gs];exact hz
 ·exact λh=>⟨_,h,by simp[S]⟩
theorem Pz(F:Fun K "_law_spread_words" "_law_spread_words" Wu f fd)(Z:Blt mg)(Yg:Cal P w K mg base "_law_order" 1 VC Sy):Ya P w K mg base CX0 4 f fd ["_law_text","_law_k"] Ea:=by
 refine F.ok Xm (λvs H Q E h=>?_) (λcdv A outer s H vs Q E hr h=>?_)
 ·obtain⟨t,kn,L,rfl,_⟩:=h;rfl
 obtain⟨t,kn,L,rfl,ht,gG,hk4,hT,h15,k⟩:=h
 refine⟨_,(Ze (Zr (i:=2) Xm.nd (by rfl) (Or.inl (by rfl)) (Zl5 (J8 Z4 W0 Co) (by rfl) (by rfl) (by intro h;cases h) (by show 1≤15;decide))) 
   (Ze (Xp lI (by rfl) (Uo (pv 0)) (Zn (i:=3) Xm.nd (by rfl) (Or.inl (by rfl))) 
    (Zg (Xp lI (by rfl) (Xg (K:=K) (Zy (Zcy (by rfl)) (by rfl) Z.list Pq (Za (pv 2) Zb))) (Zn (i:=4) Xm.nd (by rfl) (Or.inl (by rfl))) 
     (Zg (Yd (Zp An (Zq Y0 (by rfl) Z.len Yw (Za (pv 4) Zb)) (pv 1) (Zw _)) 
      (Zg (Cn (Sn hr) (pv 2) (Z7 Vl (pv 4) (pv 3)) W0 rfl)) Zu))))) 
   (Zg (Zl (J9 Yg Lb (by rfl) (hr.mono (by decide)) (by rfl) Z.sorted (by rfl) (pv 2)))))),?_⟩
 have htl:=len_list t;refine λfp hfp=>⟨Zc,[kvt []],by rw[Dy];rfl,by show 1≤15;decide,?_⟩;obtain⟨wR,z1,z2,z3,z4⟩:=Ox [[]] (kvs:=[]) (zs:=[]) rfl XC;have P0:Put H fp 400 [[]] (upd (upd H fp (.dK [])) fp (.dK (To [] ([[]].map kvt)))):=⟨_,wR,Zc,z1,z2,by simp only[bG,oR]at z4;lia,λz=>(z3 z).trans (by simp),(Zz.upd _).trans (Zz.upd _)⟩;refine⟨_,rfl,t,rfl,?_⟩
 refine Td (cs:=t.cps.toList) (λi σ H2=>∃(v3 v4:Option V) (ws:WA),σ=[some (.str t),some (nI kn),some (.ref fp),v3,v4]∧(∀u,u∈ws↔u∈spw (t.cps.toList.take i) kn)∧Put H fp 400 ws H2)
  ⟨none,none,[[]],rfl,λu=>?_,P0⟩ ?_ ?_
 ·rw[List.take_zero,Wr,rY,List.sublist_nil];exact⟨λe=>⟨by rw[e];exact lB _,e⟩,λe=>e.2⟩
 ·rintro i c σ H2 hc ⟨v3,v4,ws,rfl,hm,kvs,zs,h2,g1,g2,g3,g4,d2⟩;have sI:c∈t.cps.toList:=oM hc;have jV:∀d∈t.cps.toList.take (i+1),d∈L:=λd hd=>hT d (aR hd);have l1:=(Zdm jV gG hk4).2;refine⟨_,rfl,fp,kvs,rfl,h2,λlp yP=>⟨lp,rfl,⟨_,SqL.of Zc⟩,?_⟩⟩;rw[Eu g1,←Jg];generalize eZ:upd H2 lp _=H3;have s3:=nS7 eZ yP;have h3:=nU7 eZ;have sH:=s3 _ _ h2;have nlf:lp≠fp:=(Zi h2 yP).symm
  have Zt8:∀u,u∈(zs.map λz=>z.cps.toList)↔u∈spw (t.cps.toList.take i) kn:=λu=>by
   rw[La,g4,←hm u]
  have P3:Put H3 fp 400 (zs.map λz=>z.cps.toList) H3:=⟨kvs,zs,sH,g1,g2,g3,λz=>by rw[La,Gs],Zz.refl _ _⟩;have ws15:(zs.map λz=>z.cps.toList).length≤400:=by rw[rW];exact g3
  generalize (zs.map λz=>z.cps.toList)=us at *
  refine Qz (K:=K) (a:=lp) (xs:=Wf us) (λj σ H4=>∃(v4:Option V),σ=[some (.str t),some (nI kn),some (.ref fp),some (.str ⟨#[c]⟩),v4]∧Put H3 fp (400+j) (us++grow c kn (us.take j)) H4)
   ⟨v4,rfl,by simpa[grow] using P3⟩ (λj σ H4 _ h=>?_) ?_ ?_
  ·obtain⟨_,rfl,_,_,_,_,_,_,_,d⟩:=h;exact SqL.of (d _ _ h3 nlf)
  ·rintro j x σ H4 hx ⟨v4,rfl,P4⟩;obtain⟨u,hu,rfl⟩:=Kq hx;have hj:j<us.length:=(oG.mp hu).1;have ul:=(Wr.mp ((Zt8 u).mp (oM hu))).1;refine⟨_,rfl,S u,rfl,Xn (by rw[Xq];lia),_,rfl,_,_,rfl,rfl,_,rfl,?_⟩;rw[Zge hu];refine Xx (λc1=>?_) (λc1=>?_)
   ·have sX:u.length<kn:=by
     have:((S u).length:Int)<((kn:Nat):Int):=of_decide_eq_true c1;rw[Xq]at this;lia
    obtain⟨H5,D5,P5⟩:=P4.more (by lia) (u++[c]);refine⟨_,rfl,_,rfl,_,rfl,_,_,rfl,rfl,Xn (by rw[Xq];show u.length+1≤1000;lia),fp,H5,rfl,?_,_,rfl,?_⟩
    ·rw[Li];exact D5
    ·rw[if_pos sX,←iK];exact P5
   ·have sX:¬ u.length<kn:=λz=>c1 (decide_eq_true (show ((S u).length:Int)<((kn:Nat):Int) by rw[Xq];lia));refine⟨_,rfl,?_⟩;rw[if_neg sX,lN];exact P4.le (by lia)
  ·rintro σ H4 ⟨v4,rfl,P4⟩;rw[Vx,lX]at P4;obtain⟨Zf3,x9,h4,q1,q2,q3,q4,d4⟩:=P4
   have Zt7:∀u,u∈us++grow c kn us↔u∈spw (t.cps.toList.take (i+1)) kn:=λu=>by
    rw[take_snoc hc];exact Zkh Zt8 u
   have fF:∀z:Str,z∈x9↔z.cps.toList∈spw (t.cps.toList.take (i+1)) kn:=λz=>(q4 z).trans (Zt7 _);have zl:=F0 q2 fF;exact⟨_,_,_,rfl,Zt7,Zf3,x9,h4,q1,q2,by lia,q4,(d2.trans (Zz.same s3)).trans d4⟩
 ·rintro σ H2 ⟨v3,v4,ws,rfl,hm,kvs,zs,h2,g1,g2,g3,g4,d2⟩;rw[lX]at hm;have mem:∀z:Str,z∈zs↔z.cps.toList∈spw t.cps.toList kn:=λz=>(g4 z).trans (hm _);have zl:=F0 g2 mem;have l1:=(Zdm hT gG hk4).2;have e2:=Mr d2 hfp;refine⟨_,rfl,fp,kvs,zs,rfl,h2,g1,by lia,λz hz=>?_,.inr ⟨by lia,g2⟩,λx9 l H5 cm hl e5=>?_⟩
  ·have:=(Wr.mp ((mem z).mp hz)).1;have:=len_list z;lia
  rw[Zao g2 mem cm,←Zpl];exact k l _ (none_of (e2.trans e5) hl) ((e2.trans e5).trans (Zd hl _)) Zc
def pT(u:List Nat):List V:=[.str (S u),.bl true]
theorem Jh(a b:WA):Wf (a++b)=Wf a++Wf b:=oK ..
theorem Zam{acc:List V}{H5:Hp}(R:TR pT H5 acc ws)(hn:ws.length≤60)(h3:∀w∈ws,w.length≤3)(hq:H5 q=some (.lst acc))(k:∀(zs:List Str) (l:Addr) (H':Hp),zs.Nodup→(∀z,z∈zs↔z.cps.toList∈ws)→H5 l=none→Zt H5 H'→H' l=some (.lst (zs.map V.str))→Q (.ref l) H'):Zix [.ref q] H5 λv H6=>Ziq [v] H6 Q:=by
 refine⟨q,acc,ws.map kvt,rfl,hq,by rw[R.len,rW],λi x kv hx hkv=>?_,λl nl=>?_⟩
 ·obtain⟨a,r,rfl,hr,ha⟩:=R.at_ hx;rw[oP,hr]at hkv;cases hkv;exact⟨a,rfl,ha⟩
 ·obtain⟨wR,z1,z2,z3,z4⟩:=Ox ws (kvs:=[]) (zs:=[]) rfl XC;have z3':∀z,z∈wR↔z.cps.toList∈ws:=λz=>(z3 z).trans (by simp);have s6:=Zd nl (.dK (To [] (ws.map kvt)));simp only[bG]at z4;refine⟨l,_,wR,rfl,Zc,z1,by lia,λz hz=>?_,.inr ⟨by lia,z2⟩,λx9 l2 H' cm hn e=>?_⟩
  ·have:=h3 _ ((z3' z).mp hz);have:=len_list z;lia
  have e7:=s6.trans e;exact k x9 l2 _ (cm.1.nodup_iff.mpr z2) (λz=>cm.1.mem_iff.trans (z3' z)) (none_of e7 hn) (e7.trans (Zd hn _)) Zc
inductive Zhv(K:W.Frag)(n:Nat)(vs:List V)(H:Hp)(Q:VK):Prop
 |mk(v:V)(W:Wi)(T:List Str)(h1:vs=[v])(h2:WK K H v W)(h3:W.dep<n)(h4:T.length≤15)(h5:(∀z∈W.wds,z∈T))(h6:(∀z∈T,z.length≤3))(h7:∀(q:Addr)(zs:List Str)(H':Hp),H q=none→Zt H H'→H' q=some (.lst (zs.map V.str))→zs.Nodup→(∀z,z∈zs↔z∈W.wds)→Q (.ref q) H'):Zhv K n vs H Q
def F8(K:W.Frag)(n:Nat):Sp:=λvs H Q _=>Zhv K n vs H Q
theorem Zhb:Ya P w K mg base CX0 4 f fd WY (F8 K 0):=by
 have no:∀vs H Q E,¬ F8 K 0 vs H Q E:=λvs H Q E h=>by
  obtain⟨v,W,T,_,_,hd,_⟩:=h;lia
 exact⟨λvs H Q E h=>absurd h (no vs H Q E),λA outer s H args us vs Q E _ _ _ _ h=>absurd h (no vs H Q E)⟩
theorem Zq1{W:Wi}(h:W.wd=none)(hx:x∈W.kd):∃i:Nat,W.its[i]?=some (some x):=by
 cases W with
 |lf b=>cases hx
 |has z=>cases h
 |nt y=>rw[rY.mp hx];exact⟨0,rfl⟩
 |bi b y z=>
  simp only[Wi.kd,oH,iO,or_false]at hx
  rcases hx with e|e
  ·rw[e];exact⟨0,rfl⟩
  ·rw[e];exact⟨1,rfl⟩
theorem Zha(F:Fun K "_law_words_in" "_law_words_in" Wc f fd)(Z:Blt mg)(Yg:Cal P w K mg base "_law_order" 1 VC Sy)(We:Cal P w K mg base "_law_words_in" (n+4) WY (F8 K n)):Ya P w K mg base CX0 (n+5) f fd WY (F8 K (n+1)):=by
 refine F.ok V4 (λvs H Q E h=>?_) (λcdv A outer s H vs Q E hr h=>?_)
 ·obtain⟨v,W,T,rfl,_⟩:=h;rfl
 obtain⟨v,W,T,rfl,hW,hd,hT,jZ,vL,k⟩:=h
 refine⟨_,(Ze (Yd (Zp Xw (Zs (Zo (K:=K)) (pv 0) Zf (λ_ _=>rfl)) Z4 (Zw _)) 
    (Zg (Zl (Yk (Za (Zs (Zo (K:=K)) (pv 0) Zf (λ_ _=>rfl)) Zb)))) Zu) 
   (Ze (Zr (i:=1) V4.nd (by rfl) (Or.inl (by rfl)) (Yk Zb)) 
   (Ze (Xp lI (by rfl) (Nq (K:=K) (Vy (Ks (K:=K)) (pv 0) (Vt Zf) Pf)) (Zn (i:=2) V4.nd (by rfl) (Or.inl (by rfl))) 
    (Zg (Xu (X5 (K:=K) lL PySem.F.slot_list_extend PySem.F.type_list_extend Eo (pv 1) (Za (Z5 We hr (Za (pv 2) Zb)) Zb))))) 
   (Zg (Zl (J9 Yg Lb (by rfl) (hr.mono (by lia)) (by rfl) Z.sorted (by rfl) (Zy (Gi (by rfl)) (by rfl) Z.dict Ze3 (Za (Yo (sc:=Zh Wc) (Nm:=UG) (own:=VC) (fr:=[]) ⟨rfl,by decide +kernel,by decide +kernel,by decide +kernel,by decide +kernel⟩ (by rfl) (Ym (by decide)) (Xg (K:=K) (pv 1)) (λd=>(Zn (i:=0) Ny (by rfl) (Or.inl (by rfl)))) (λd=>Xt) (λd=>(Z2 (Za (pv 0) (Za W0 Zb))))) Zb)))))))),?_⟩
 obtain⟨a,us,rfl,h,hl,hv⟩:=hW.view;have u2:us.length≤2:=by rw[hl];cases W<;>simp[Wi.its]
 refine⟨_,rfl,a,_,_,_,rfl,rfl,h.sq,Zj (j:=0) rfl,rfl,_,rfl,?_⟩
 cases o6:W.wd with
 |some z=>
  obtain rfl:W=.has z:=by
   cases W with
   |has y=>cases o6;rfl
   |_=>cases o6
  obtain⟨u,rfl⟩:=YB.mp (show us.length=1 from hl);obtain⟨v1,_⟩:=hv 0 u none rfl rfl;obtain⟨z',e,rfl⟩:=v1 rfl;cases e;refine ifY (show decide (V.str (Str.ofString "has")=V.str (Str.ofString "has"))=true by decide +kernel) ⟨_,rfl,a,_,_,_,rfl,rfl,h.sq,Zj (j:=1) rfl,(by show 1≤sizeLine;decide),λq nq=>?_⟩;exact k q [z] _ nq (Zd nq _) Zc (by simp) λy=>by simp[Wi.wds,Wi.pre,Wi.wd]
 |none=>
  have f2:decide (V.str W.nm=V.str (Str.ofString "has"))=false:=by
   by_cases gW:∃b,W=.lf b
   ·obtain⟨b,rfl⟩:=gW;cases b<;>decide +kernel
   ·exact(Az o6 λb e=>gW ⟨b,e⟩).2.1
  refine ifN f2 ⟨lB _,λfp fL=>?_⟩;generalize eZ:upd H fp _=H1;have s1:=nS7 eZ fL;have h1:=nU7 eZ;refine⟨_,rfl,_,rfl,a,_,rfl,(h.keep (Tk.same s1)).sq,?_,λsp eM=>?_⟩
  ·rintro⟨z,_⟩;have z:HT.sIx (V.str W.nm :: us).length 0 (some ((1:Nat):Int))=0:=z;rw[HT.Pe,oR]at z;lia
  rw[Zm5];generalize eZ:upd H1 sp _=H2;have s2:=nS7 eZ eM;have h2:=nU7 eZ;have h2f:=s2 _ _ h1;have e2:=s1.trans s2;refine⟨sp,rfl,⟨_,SqT.of h2⟩,?_⟩
  refine Zmx (K:=K) (a:=sp) (xs:=us) (λj σ H3=>∃(ws:WA) (v2:Option V),σ=[some (.ref a),some (.ref fp),v2]∧H3 fp=some (.lst (Wf ws))∧ws.length≤15*j∧(∀z:Str,z.cps.toList∈ws↔∃i x,i<j∧W.its[i]?=some (some x)∧z∈x.wds)∧Zz H H3 fp∧H3 sp=some (.tup us))
   ⟨[],none,rfl,h2f,rX _,λz=>?_,Zz.same e2,h2⟩ (λj σ H3 _ h=>?_) ?_ ?_
  ·exact⟨λz=>(nomatch z),λ⟨i,x,hi,_⟩=>absurd hi (YS _)⟩
  ·obtain⟨_,_,_,_,_,_,_,h3⟩:=h;exact SqT.of h3
  ·rintro j x σ H3 hx ⟨ws,v2,rfl,sH,hlw,mem,d3,h3s⟩;have hi:j<W.its.length:=by rw[←hl];exact(oG.mp hx).1
   have sL:W.its[j]?=some W.its[j]:=rZ hi;obtain⟨v1,v2⟩:=hv j x _ hx sL
   cases hh:W.its[j] with
   |none=>
    obtain⟨z,rfl,_⟩:=v1 hh;cases o6
   |some x'=>
    obtain⟨m1,w1⟩:=v2 x' hh;have e3:=Mr d3 fL;have sub:∀z∈x'.wds,z∈W.wds:=λz hz=>(Wi.Zhc o6 z).mpr ⟨x',m1,hz⟩;refine⟨_,rfl,.inl ⟨rfl,_,SqL.of sH⟩,_,rfl,x,x',T,rfl,w1.keep (Tk.same e3),oS (Wi.Zck m1) (ZW hd),hT,λz hz=>jZ z (sub z hz),vL,λq zs H4 nq e4 h4 nd hz=>?_⟩;have nqf:q≠fp:=(Zi sH nq).symm;have zl:zs.length≤15:=lC (U7 nd λz yW=>jZ z (sub z ((hz z).mp yW))) hT;refine⟨fp,q,_,_,rfl,rfl,e4 _ _ sH,h4,?_,ws++zs.map (λz=>z.cps.toList),some x,rfl,?_,?_,λz=>?_,(d3.trans (Zz.same e4)).trans (Zz.upd _),?_⟩
    ·rw[Vx,rW,sizeLine_eq];have:j<2:=oS hi (by rw[←hl];exact u2);lia
    ·rw[Zc,Jh,Jg]
    ·rw[oB,rW];lia
    ·rw[oJ,mem,La,Gs,hz];constructor
     ·rintro(⟨i,y,h1,h2,h3⟩|h3)
      ·exact⟨i,y,by lia,h2,h3⟩
      ·exact⟨j,x',by lia,by rw[sL,hh],h3⟩
     ·rintro⟨i,y,h1,h2,h3⟩
      rcases XI (ZW h1) with h4|rfl
      ·exact .inl ⟨i,y,h4,h2,h3⟩
      ·rw[sL,hh]at h2;cases h2;exact .inr h3
    ·rw[Zk (Zi h1 eM).symm];exact e4 _ _ h3s
  ·rintro σ H3 ⟨ws,v2,rfl,sH,hlw,mem,d3,h3s⟩
   have Zt6:∀z:Str,z.cps.toList∈ws↔z∈W.wds:=λz=>by
    rw[mem,Wi.Zhc o6];constructor
    ·rintro⟨i,y,hi,hy,hz⟩;obtain⟨_,v2⟩:=hv i us[i] _ (rZ hi) hy;exact⟨y,(v2 y rfl).1,hz⟩
    ·rintro⟨y,hy,hz⟩;obtain⟨i,hi⟩:=Zq1 o6 hy;exact⟨i,y,by rw[hl];exact(oG.mp hi).1,hi,hz⟩
   have e3:=Mr d3 fL;refine⟨_,rfl,fp,rfl,⟨_,SqL.of sH⟩,?_⟩;refine Wl (K:=K) (a:=fp) (xs:=Wf ws) (λj acc H5=>Zt H3 H5∧acc.length≤j∧TR pT H5 acc (ws.take j)) (by rw[Vx,sizeLine_eq];lia) ⟨Zt.refl _,rX _,.nil⟩ (λj acc H3 q=>q.2.1) (λj acc H5 q=>SqL.of (q.1 _ _ sH)) (λj acc H5 x hx q=>?_) (λacc H5 q y hy=>?_)
   ·obtain⟨e5,yH,R⟩:=q;obtain⟨u,hu,rfl⟩:=Kq hx;refine Kj ⟨_,rfl,(by show 2≤sizeLine;decide),λq nq=>?_⟩;have s6:=Zd nq (.tup [V.str (S u),V.bl true]);refine⟨e5.trans s6,?_,?_⟩
    ·rw[oB];show acc.length+1≤j+1;lia
    ·rw[take_snoc hu];exact(R.keep (Tk.same s6)).snoc Zc
   ·obtain⟨e5,yH,R⟩:=q;rw[Vx,lX]at R;have s6:=Zd hy (.lst acc);refine Zam (R.keep (Tk.same s6)) (by lia) (λw hw=>?_) Zc λzs l H' nd hz nl e h'=>?_
    ·have:=vL _ (jZ _ ((Zt6 (S w)).mp (by rw[show (S w).cps.toList=w by simp[S]];exact hw)));rw[Xq]at this;exact this
    ·exact k l zs H' (none_of ((e3.trans e5).trans s6) nl) (((e3.trans e5).trans s6).trans e) h' nd λz=>(hz z).trans (Zt6 z)
theorem Rg{f:Addr}{fd:FuncData}(F:Fun K "_law_words_in" "_law_words_in" Wc f fd)(b:Binds K fd WY [])(m:mg "_law_words_in"=some (.ref f))(Z:Blt mg)(Yg:Cal P w K mg base "_law_order" 1 VC Sy):∀n:Nat,Ya P w K mg base CX0 (n+4) f fd WY (F8 K n)
 | 0=>Zhb
 |n+1=>Zha F Z Yg ⟨f,fd,Rg F b m Z Yg n,m,F.kp,b⟩
theorem Zpn{T':List Nat}{k:Nat}(h:∀x:List Nat,x.length≤k→(x.Sublist T↔x.Sublist T')):spw T k=spw T' k:=by
 refine Zif (Uc _ _) (Uc _ _) λu=>?_;show u∈spw T k↔u∈spw T' k;rw[Wr,Wr];exact and_congr_right λhu=>h u hu
theorem Di(us:WA):(Wf us).all Us=true:=by
 rw[cF];intro x hx;obtain⟨u,_,rfl⟩:=oU.mp hx;rfl
theorem Znp{k:Nat}{L:List Nat}(h:W15 k L)(hu:∀c∈u,c∈L):(spw u k).length≤40:=by
 have:=h.few ((spw u k).map λu=>S u) (Cz (Ml u k)) λy hy=>by
  obtain⟨v,hv,rfl⟩:=oU.mp hy;obtain⟨h1,h2⟩:=Wr.mp hv;exact⟨v,rfl,h1,λc hc=>hu c (h2.subset hc)⟩
 rwa[rW]at this
inductive Znv(vs:List V)(H:Hp)(Q:VK):Prop
 |mk(m1 m2:Addr)(l:Str)(b1 b2:Nat)(es1 es2:List Nat)(st1 st2:WA)(u v:List Nat)(k:Nat)(h1:vs=[.ref m1,.ref m2,.str (S u),.str (S v),nI k])(h2:Yc H m1 l b1 es1 st1)(h3:Yc H m2 l b2 es2 st2)(h4:l.length≤3)(h5:k≤3)(h6:W15 k l.cps.toList)(h7:(∀c∈u,c∈l.cps.toList))(h8:(∀c∈v,c∈l.cps.toList))(h9:way l st1 b1 u∈es1)(yB:way l st2 b2 v∈es2)(vB:(∀x:List Nat,x.length≤k→(x.Sublist u↔x.Sublist v)))(h12:u.length≤200000)(h13:v.length≤200000)(h14:∀H',Zt H H'→Q (.bl true) H'):Znv vs H Q
def Zs1:Sp:=λvs H Q _=>Znv vs H Q
theorem Mv(F:Fun K "_law_texts_due" "_law_texts_due" V5 f fd)(Z:Blt mg)(Xv:Cal P w K mg base "_law_spread_words" 4 ["_law_text","_law_k"] Ea)(Te:Cal P w K mg base "_law_takes" 2 VU Zdo):Ya P w K mg base CX0 5 f fd VF Zs1:=by
 refine F.ok Mq (λvs H Q E h=>?_) (λcdv A outer s H vs Q E hr h=>?_)
 ·obtain⟨m1,m2,l,b1,b2,es1,es2,st1,st2,u,v,k,rfl,_⟩:=h;rfl
 obtain⟨m1,m2,l,b1,b2,es1,es2,st1,st2,u,v,kn,rfl,M1,M2,t6,c5,hW,hu,hv,wu,wv,al,lu,lv,k⟩:=h
 refine⟨_,(Ze (Yd (PW.pt (Si (Um (Yr (K:=K) (Z5 Te (hr.mono (by decide)) (Za (pv 0) (Za (pv 2) Zb))) (λ_=>rfl))) (Tj (Um (Yr (K:=K) (Z5 Te (hr.mono (by decide)) (Za (pv 1) (Za (pv 3) Zb))) (λ_=>rfl)))))) 
    (Zg (Zl W0)) Zu) 
   (Zg (Zl (Wj (Zji (K:=K) (Qt hr)) (Z5 Xv (hr.mono (by decide)) (Za (pv 2) (Za (pv 4) Zb))) (Z5 Xv (hr.mono (by decide)) (Za (pv 3) (Za (pv 4) Zb))) (Zw _))))),?_⟩
 have su:(S u).cps.toList=u:=by simp[S]
 have sv:(S v).cps.toList=v:=by simp[S]
 have ll:=len_list l;refine⟨_,rfl,_,rfl,m1,l,b1,es1,st1,S u,rfl,M1,by rw[su];exact hu,_,rfl,?_⟩;rw[su,Lc,decide_eq_true wu];refine U2 ⟨_,rfl,_,rfl,m2,l,b2,es2,st2,S v,rfl,M2,by rw[sv];exact hv,_,rfl,?_⟩;rw[sv,Lc,decide_eq_true wv];refine U2 ⟨_,rfl,_,rfl,S u,kn,l.cps.toList,rfl,by rw[Xq];exact lu,by lia,by lia,by rw[su];exact hu,by rw[su];exact Znp hW hu,λq1 H1 n1 s1 h1=>?_⟩;refine⟨_,rfl,_,rfl,S v,kn,l.cps.toList,rfl,by rw[Xq];exact lv,by lia,by lia,by rw[sv];exact hv,by rw[sv];exact Znp hW hv,λq2 H2 n2 s2 h2=>?_⟩;rw[su]at h1;rw[sv,←Zpn al]at h2;refine⟨q1,q2,_,_,rfl,rfl,.inl ⟨SqL.of (s2 _ _ h1),SqL.of h2⟩,?_,?_,?_⟩
 ·exact Di _
 ·exact Di _
 ·show Q (.bl (eqL _ _)) H2;rw[Zah];exact k _ (s1.trans s2)
def sbs:List Nat→List WE:=λt=>t.foldl (λws c=>ws++ws.map λu=>u++[c]) [[]]
theorem Zig(t:List Nat)(c:Nat):sbs (t++[c])=sbs t++(sbs t).map λu=>u++[c]:=by
 unfold sbs;rw[ZV];rfl
theorem Zlu{t:List Nat}(h:u∈sbs t):u.length≤t.length:=by
 have:∀(t:List Nat) (ws:WA) (n:Nat),(∀u∈ws,u.length≤n)→∀u∈t.foldl (λws c=>ws++ws.map λu=>u++[c]) ws,u.length≤n+t.length:=by
  intro t
  induction t with
  |nil=>intro ws n hw u hu;exact hw u hu
  |cons c t ih=>
   intro ws n hw u hu;have:=ih _ (n+1) (λv hv=>?_) u hu
   ·rw[oR];lia
   ·rcases oJ.mp hv with e|e
    ·have:=hw v e;lia
    ·obtain⟨w,h1,rfl⟩:=oU.mp e;have:=hw w h1;rw[oB];show w.length+1≤_;lia
 have:=this t [[]] 0 (λu hu=>by rw[rY.mp hu];exact rX _) u h;lia
inductive Zhz(vs:List V)(H:Hp)(Q:VK):Prop
 |mk(a b c:Nat)(h1:vs=[.str ⟨#[a,b,c]⟩])(h2:∀q H',Zt H H'→H' q=some (.lst [.str ⟨#[a]⟩,.str ⟨#[b]⟩,.str ⟨#[a,b]⟩,.str ⟨#[c]⟩,.str ⟨#[a,c]⟩,.str ⟨#[b,c]⟩,.str ⟨#[a,b,c]⟩])→Q (.ref q) H'):Zhz vs H Q
def Znx:Sp:=λvs H Q _=>Zhz vs H Q
theorem Ij(F:Fun K "_law_subsets" "_law_subsets" Vq f fd)(Z:Blt mg):Ya P w K mg base CX0 1 f fd ["_law_letters_here"] Znx:=by
 refine F.ok W9 (λvs H Q E h=>?_) (λcdv A outer s H vs Q E hr h=>?_)
 ·obtain⟨a,b,c,rfl,_⟩:=h;rfl
 obtain⟨a,b,c,rfl,k⟩:=h
 refine⟨_,(Ze (Zr (i:=1) W9.nd (by rfl) (Or.inl (by rfl)) (Yk (Za Z4 Zb))) 
   (Ze (Xp lI (by rfl) (Uo (pv 0)) (Zn (i:=2) W9.nd (by rfl) (Or.inr (by rfl))) 
    (Zg (Zr (i:=1) W9.nd (by rfl) (Or.inl (by rfl)) (Z7 Zb3 (pv 1) (Yo (sc:=Zh Vq) (Nm:=VW) (own:=["_law_some"]) (fr:=[2]) ⟨rfl,by decide +kernel,by decide +kernel,by decide +kernel,by decide +kernel⟩ (by rfl) (Ym (by decide)) (Xg (K:=K) (pv 1)) (λd=>(Zn (i:=0) Mz (by rfl) (Or.inl (by rfl)))) (λd=>Xt) (λd=>(Z7 Vl (pv 0) (pv 1)))))))) 
   (Zg (Zl (Vy (B2 (K:=K)) (pv 1) (Vt Zf) Pf))))),?_⟩
 refine⟨(by show 1≤sizeLine;decide),λq0 n0=>?_⟩;have s0:=Zd n0 (.lst [V.str (Str.ofString "")]);have h0:upd H q0 (.lst [V.str (Str.ofString "")]) q0=some (.lst (Wf [[]])):=Zc;generalize upd H q0 _=H0 at s0 h0;refine⟨_,rfl,_,rfl,?_⟩;refine Td (cs:=[a,b,c]) (λi σ H2=>∃(q:Addr) (v2:Option V),σ=[some (.str ⟨#[a,b,c]⟩),some (.ref q),v2]∧H2 q=some (.lst (Wf (sbs ([a,b,c].take i))))∧Zt H H2) ⟨q0,none,rfl,h0,s0⟩ ?_ ?_
 ·rintro i d σ H2 hd ⟨q,v2,rfl,h2,e2⟩;have hi:i<3:=(oG.mp hd).1
  have hl:(sbs ([a,b,c].take i)).length≤4:=by
   match i,hi with
   | 0,_=>show 1≤4;decide
   | 1,_=>show 2≤4;decide
   | 2,_=>show 4≤4;decide
  have h5:∀u∈sbs ([a,b,c].take i),u.length≤3:=λu hu=>lC (Zlu hu) (by rw[iE];exact Nat.min_le_right _ _);refine⟨_,rfl,_,rfl,q,rfl,⟨_,SqL.of h2⟩,?_⟩;refine Wl (K:=K) (a:=q) (xs:=Wf (sbs ([a,b,c].take i))) (λj acc H5=>Zt H2 H5∧acc=((sbs ([a,b,c].take i)).take j).map λu=>V.str (S (u++[d]))) (by rw[Vx,sizeLine_eq];lia) ⟨Zt.refl _,rfl⟩ (λj acc H3 q=>by rw[q.2,rW,iE];exact ZE _ _) (λj acc H5 z=>SqL.of (z.1 _ _ h2)) (λj acc H5 x hx z=>?_) (λacc H5 z y hy=>?_)
  ·obtain⟨e5,rfl⟩:=z;obtain⟨u,hu,rfl⟩:=Kq hx;refine Kj ⟨_,rfl,_,rfl,_,_,rfl,rfl,?_,e5,?_⟩
   ·have:=h5 u (oM hu);exact Xn (by rw[Xq];show u.length+1≤1000;lia)
   ·rw[take_snoc hu,oK,Li];rfl
  ·obtain⟨e5,rfl⟩:=z;rw[Vx,lX];have s6:=Zd hy (.lst ((sbs ([a,b,c].take i)).map λu=>V.str (S (u++[d]))));refine⟨q,y,_,_,rfl,rfl,s6 _ _ (e5 _ _ h2),Zc,?_,λr nr=>?_⟩
   ·rw[Vx,rW,sizeLine_eq];lia
   ·have s7:=Zd nr (.lst (Wf (sbs ([a,b,c].take i))++(sbs ([a,b,c].take i)).map λu=>V.str (S (u++[d]))));refine⟨r,_,rfl,?_,((e2.trans e5).trans s6).trans s7⟩;rw[Zc,take_snoc hd,Zig,Jh];unfold Wf;rw[lW];rfl
 ·rintro σ H2 ⟨q,v2,rfl,h2,e2⟩;refine⟨_,rfl,_,rfl,q,_,rfl,SqL.of h2,λr nr=>k r _ (e2.trans (Zd nr _)) ?_⟩;rw[Zc];refine congrArg (λz=>some (HO.lst z)) ?_;exact Zm5 (V.str (S [])) _
theorem Zfa{G:Prop}(h:B→G)(b:B):G:=h b
inductive F7(K:W.Frag)(n:Nat)(vs:List V)(H:Hp)(Q:VK):Prop
 |mk(p sc pl:Addr)(ws:List Str)(deep:Int)(h1:vs=[.ref p,.ref pl,.int deep])(h2:H pl=some (.lst (ws.map V.str)))(h3:pl≠p)(h4:0<ws.length)(h5:ws.length≤10)(h6:0≤deep)(h7:deep<n)(h8:Yb H p sc)(h9:∀v W H',WK K H' v W→(W.dep:Int)≤deep→W.ok (λz=>z∈ws)→Zz H H' p→Yb H' p sc→Q v H'):F7 K n vs H Q
def Se(K:W.Frag)(n:Nat):Sp:=λvs H Q _=>F7 K n vs H Q
theorem Bq(F:Fun K "_law_wish_by" "_law_wish_by" Vp f fd)(Z:Blt mg)(Zm:Cal P w K mg base "_law_pick" 1 WI V2)(Y6:Cal P w K mg base "_law_wish_by" (n+1) WL (Se K n)):
  Ya P w K mg base CX0 (n+2) f fd WL (Se K (n+1)):=by
 refine F.ok Rx (λvs H Q E h=>?_) (λcdv A outer s H vs Q E hr h=>?_)
 ·obtain⟨p,sc,pl,ws,deep,rfl,_⟩:=h;rfl
 obtain⟨p,sc,pl,ws,deep,rfl,y3,l7,pI,pJ,xH,hd1,FA,k⟩:=h
 refine⟨_,(Ze (Zr (i:=3) Rx.nd (by rfl) (Or.inl (by rfl)) (Z5 Zm (hr.mono (by lia)) (Za (pv 0) (Za Zf Zb)))) 
   (Ze (Yd (PW.pt (Si (Zp Xw (pv 2) Zf (Zw _)) (Tj (Zp Xw (pv 3) Zf (Zw _))))) 
    (Zg (Zl (Z2 (Za Z4 (Za (Zs (Z3 (K:=K)) (pv 1) (Z5 Zm (hr.mono (by lia)) (Za (pv 0) (Za (Zq (Yh (K:=K)) (by rfl) Z.len Yw (Za (pv 1) Zb)) Zb))) (λ_ _=>rfl)) Zb))))) Zu) 
   (Ze (Yd (Zp Xw (pv 3) Zf (Zw _)) 
    (Zg (Zl (Zs (Z3 (K:=K)) (Yk (Za (Z2 (Za Z4 Zb)) (Za (Z2 (Za Z4 Zb)) Zb))) (Z5 Zm (hr.mono (by lia)) (Za (pv 0) (Za Zf Zb))) (λ_ _=>rfl)))) Zu) 
   (Ze (Yd (Zp Xw (pv 3) Zf (Zw _)) 
    (Zg (Zl (Z2 (Za Z4 (Za (Z5 Y6 hr (Za (pv 0) (Za (pv 1) (Za (Z7 Qg (pv 2) Zf) Zb)))) Zb))))) Zu) 
   (Zg (Zl (Z2 (Za (Zs (Z3 (K:=K)) (Yk (Za Z4 (Za Z4 Zb))) (Z7 Qg (pv 3) Zf) (λ_ _=>rfl)) (Za (Z5 Y6 hr (Za (pv 0) (Za (pv 1) (Za (Z7 Qg (pv 2) Zf) Zb)))) (Za (Z5 Y6 hr (Za (pv 0) (Za (pv 1) (Za (Z7 Qg (pv 2) Zf) Zb)))) Zb)))))))))),?_⟩
 refine⟨_,rfl,p,sc,5,rfl,by decide,by decide,FA,λr0 xW h00 h01 xQ=>?_⟩;have z7:=FA.go xQ;have d0:Zz H (upd H p (.lst xW)) p:=Zz.upd _;have Zmv:=d0 _ _ y3 l7;generalize upd H p _=H0 at z7 d0 Zmv;refine Zfa (λleaf=>⟨_,rfl,rfl,_,rfl,Xx (λ_=>leaf) (λc1=>⟨_,rfl,rfl,_,rfl,Xx (λ_=>leaf) (λc2=>?_)⟩)⟩) ?_
 ·have hdeep:deep≠0:=λe=>by subst e;simp at c1
  have c9:r0≠0:=λe=>by subst e;simp at c2
  refine⟨_,rfl,rfl,_,rfl,Xx (λ_=>?_) (λc3=>?_)⟩
  ·refine⟨(by show 1≤sizeLine;decide),λa1 j9=>⟨(by show 1≤sizeLine;decide),λa2 xG=>⟨(by show 2≤sizeLine;decide),λx hx=>⟨_,rfl,?_⟩⟩⟩⟩;generalize gD:upd (upd (upd H0 a1 _) a2 _) x _=H4;have jC:H4 x=some (.lst [V.ref a1,V.ref a2]):=by rw[←gD];exact Zc
   have h41:H4 a1=some (.tup [V.str "always"]):=by rw[←gD];exact Zd hx _ _ _ (Zd xG _ _ _ Zc)
   have h42:H4 a2=some (.tup [V.str "never"]):=by rw[←gD];exact Zd hx _ _ _ Zc
   have s4:Zt H0 H4:=by rw[←gD];exact((Zd j9 _).trans (Zd xG _)).trans (Zd hx _)
   have n4:x≠p:=by
    obtain⟨ys,h1,_⟩:=z7.here;intro z;have m9:=(Zd xG (.tup [V.str "never"])) _ _ ((Zd j9 (.tup [V.str "always"])) _ _ h1);exact Zi m9 hx z.symm
   clear gD;have y7:=z7.same s4;refine⟨p,sc,2,rfl,by decide,by decide,y7,λr5 sV h50 h51 yU=>?_⟩;have t5:=y7.go yU;have k5:Tk H4 (upd H4 p (.lst sV)):=Tk.drew y7 (Zz.upd _);have d5:=Vv (d0.trans (Zz.same s4)) (.lst sV);have h5x:=(Zk (H:=H4) (o:=.lst sV) n4).trans jC;have sN:r5=0∨r5=1:=by lia
   rcases sN with e|e
   ·subst e;exact⟨x,_,_,_,rfl,rfl,SqL.of h5x,Zj (j:=0) rfl,k (.ref a1) (.lf true) _ (Kp (b:=true) (.inl (k5 _ _ h41))) (by show ((0:Nat):Int)≤deep;lia) trivial d5 t5⟩
   ·subst e;exact⟨x,_,_,_,rfl,rfl,SqL.of h5x,Zj (j:=1) rfl,k (.ref a2) (.lf false) _ (Kp (b:=false) (.inl (k5 _ _ h42))) (by show ((0:Nat):Int)≤deep;lia) trivial d5 t5⟩
  have sN:r0≠1:=λe=>by subst e;simp at c3
  refine⟨_,rfl,rfl,_,rfl,Xx (λ_=>?_) (λc4=>?_)⟩
  ·refine⟨_,rfl,_,rfl,_,rfl,_,_,rfl,rfl,p,sc,pl,ws,deep-1,rfl,Zmv,l7,pI,pJ,by lia,by lia,z7,λv1 W1 H2 jW dp1 fY kR y9=>⟨(by show 2≤sizeLine;decide),λq hq=>?_⟩⟩;have s6:=Zd hq (.tup [V.str "not",v1]);refine k (.ref q) (.nt W1) _ (Zg7 Zc (jW.keep (Tk.same s6))) ?_ fY ((d0.trans kR).trans (Zz.same s6)) (y9.same s6);show ((W1.dep+1:Nat):Int)≤deep;lia
  have nW:r0≠2:=λe=>by subst e;simp at c4
  refine⟨(by show 2≤sizeLine;decide),λx hx=>⟨_,rfl,_,_,rfl,rfl,?_⟩⟩;have s4:=Zd hx (.lst [V.str "and",V.str "or"]);have jC:=Zc (H:=H0) (a:=x) (o:=.lst [V.str "and",V.str "or"]);have y7:=z7.same s4;have d4:=d0.trans (Zz.same (p:=p) s4);have Zuy:=s4 _ _ Zmv
  obtain⟨b,hb⟩:∃b:Bool,atI [V.str "and",V.str "or"] (r0-3)=some (.str (if b then "and" else "or")):=by
   have:r0=3∨r0=4:=by lia
   rcases this with z|z
   ·subst z;exact⟨true,Zj (j:=0) rfl⟩
   ·subst z;exact⟨false,Zj (j:=1) rfl⟩
  refine⟨x,_,_,_,rfl,rfl,SqL.of jC,hb,?_⟩;generalize upd H0 x _=H4 at y7 d4 Zuy;refine⟨_,rfl,_,rfl,_,rfl,_,_,rfl,rfl,p,sc,pl,ws,deep-1,rfl,Zuy,l7,pI,pJ,by lia,by lia,y7,λv1 W1 H5 jW dp1 fY sY t5=>?_⟩;have d5:=d4.trans sY;refine⟨_,rfl,_,rfl,_,rfl,_,_,rfl,rfl,p,sc,pl,ws,deep-1,rfl,d5 _ _ y3 l7,l7,pI,pJ,by lia,by lia,t5,λv2 W2 H6 jY dp2 ok2 dr6 p5=>⟨(by show 3≤sizeLine;decide),λq hq=>?_⟩⟩;have jX:=jW.keep (Tk.drew t5 dr6);have s6:=Zd hq (.tup [V.str (Wi.bi b W1 W2).nm,v1,v2]);refine k (.ref q) (.bi b W1 W2) _ (Zg9 (b:=b) Zc (jX.keep (Tk.same s6)) (jY.keep (Tk.same s6))) ?_ ⟨fY,ok2⟩ ((d5.trans dr6).trans (Zz.same s6)) (p5.same s6);show ((max W1.dep W2.dep+1:Nat):Int)≤deep;lia
 ·have gX:(ws.map V.str).length=ws.length:=rW ..;refine⟨_,rfl,_,rfl,_,rfl,pl,_,rfl,.inl (SqL.of Zmv),p,sc,((ws.map V.str).length:Nat),rfl,by lia,by lia,z7,λr2 kM h20 h21 eK=>?_⟩;have y9:=z7.go eK;have d2:=Vv d0 (.lst kM);have Zu0:=d2 _ _ y3 l7;generalize upd H0 p _=H2 at y9 d2 Zu0;obtain⟨j,rfl⟩:∃j:Nat,r2=(j:Int):=⟨r2.toNat,by lia⟩;have hj:j<ws.length:=by lia
  refine⟨pl,_,_,_,rfl,rfl,SqL.of Zu0,Zj (j:=j) (by rw[oP,rZ hj];rfl),(by show 2≤sizeLine;decide),λg hg=>?_⟩;have s6:=Zd hg (.tup [V.str "has",V.str ws[j]]);exact k (.ref g) (.has ws[j]) _ (Zg8 Zc) (by show ((0:Nat):Int)≤deep;lia) (cU hj) (d2.trans (Zz.same s6)) (y9.same s6)
theorem Br:Ya P w K mg base CX0 1 f fd WL (Se K 0):=by
 have no:∀vs H Q E,¬ Se K 0 vs H Q E:=λvs H Q E h=>by
  obtain⟨p,sc,l,ws,deep,_,_,_,_,_,xH,hd1,_⟩:=h;lia
 exact⟨λvs H Q E h=>absurd h (no vs H Q E),λA outer s H args us vs Q E _ _ _ _ h=>absurd h (no vs H Q E)⟩
theorem Qj{f:Addr}{fd:FuncData}(F:Fun K "_law_wish_by" "_law_wish_by" Vp f fd)(b:Binds K fd WL [])(m:mg "_law_wish_by"=some (.ref f))(Z:Blt mg)(Zm:Cal P w K mg base "_law_pick" 1 WI V2):∀n:Nat,Ya P w K mg base CX0 (n+1) f fd WL (Se K n)
 | 0=>Br
 |n+1=>Bq F Z Zm ⟨f,fd,Qj F b m Z Zm n,m,F.kp,b⟩
inductive Znq(K:W.Frag)(vs:List V)(H:Hp)(Q:VK):Prop
 |mk(m1 m2:Addr)(l:Str)(b1 b2:Nat)(es1 es2:List Nat)(st1 st2:WA)(v:V)(W:Wi)(k:Nat)(h1:vs=[.ref m1,.ref m2,v,nI k])(h2:Yc H m1 l b1 es1 st1)(h3:Yc H m2 l b2 es2 st2)(h4:l.length≤3)(h5:st1.length≤6)(h6:st2.length≤6)(h7:k≤3)(h8:W15 k l.cps.toList)(h9:WK K H v W)(yB:Gq k l st1 st2 b1 b2 es1 es2 W)(vB:∀H',Zt H H'→Q (.bl true) H'):Znq K vs H Q
def Zsy(K:W.Frag):Sp:=λvs H Q _=>Znq K vs H Q
structure Ze7(K:W.Frag)(k:Nat)(l:Str)(st1 st2:WA)(b1 b2:Nat)(es1 es2:List Nat)(H:Hp)(t:Addr):Prop where
 is:(∃u v:List Nat,H t=some (.tup [.str "alike",.str (S u),.str (S v)])∧(∀c∈u,c∈l.cps.toList)∧(∀c∈v,c∈l.cps.toList)∧way l st1 b1 u∈es1∧way l st2 b2 v∈es2∧(∀x:List Nat,x.length≤k→(x.Sublist u↔x.Sublist v))∧u.length≤200000∧v.length≤200000)∨
  ∃v W,H t=some (.tup [.str "wish",v])∧WK K H v W∧Gq k l st1 st2 b1 b2 es1 es2 W
inductive Znu(K:W.Frag)(vs:List V)(H:Hp)(Q:VK):Prop
 |mk(m1 m2:Addr)(l:Str)(b1 b2:Nat)(es1 es2:List Nat)(st1 st2:WA)(t:Addr)(k:Nat)(h1:vs=[.ref m1,.ref m2,nI k,.ref t])(h2:Yc H m1 l b1 es1 st1)(h3:Yc H m2 l b2 es2 st2)(h4:l.length≤3)(h5:st1.length≤6)(h6:st2.length≤6)(h7:k≤3)(h8:W15 k l.cps.toList)(h9:Ze7 K k l st1 st2 b1 b2 es1 es2 H t)(yB:∀H',Zt H H'→Q (.bl true) H'):Znu K vs H Q
def Zs0(K:W.Frag):Sp:=λvs H Q _=>Znu K vs H Q
theorem Nu(F:Fun K "_law_told_right" "_law_told_right" Wh f fd)(Z:Blt mg)(U0:Cal P w K mg base "_law_deep" 35 WY (Mm K 34))(Wo:Cal P w K mg base "_law_is_wish" 35 WJ (Ee K 34))(V7:Cal P w K mg base "_law_texts_due" 5 VF Zs1)(Uz:Cal P w K mg base "_law_wish_due" 39 VZ (Zsy K)):Ya P w K mg base CX0 40 f fd WV (Zs0 K):=by
 refine F.ok Ni (λvs H Q E h=>?_) (λcdv A outer s H vs Q E hr h=>?_)
 ·obtain⟨m1,m2,l,b1,b2,es1,es2,st1,st2,t,k,rfl,_⟩:=h;rfl
 obtain⟨m1,m2,l,b1,b2,es1,es2,st1,st2,t,kn,rfl,M1,M2,t6,i8,eF,c5,hW,R,k⟩:=h
 refine⟨_,(Ze (Yd (PW.pt (Si (Um (Yr (K:=K) (Zq (N6 (K:=K)) (by rfl) Z.isinstance Y4 (Za (pv 3) (Za (S3 (v:=V.ty "tuple") (by rfl) Z.tuple Yu rfl) Zb))) (λ_=>rfl))) (Tj (Zp (Pj (K:=K)) (Zq (Yh (K:=K)) (by rfl) Z.len Yw (Za (pv 3) Zb)) (Z2 (Za Zf (Za Zf Zb))) (by with_unfolding_all rfl))))) 
    (Zg (Zl W0)) Zu) 
   (Ze (Yd (Zp Xw (Zs (Zo (K:=K)) (pv 3) Zf (λ_ _=>rfl)) Z4 (Zw _)) 
    (Ze (Yd (PW.pt (Si (Zp Nr (Zq (Yh (K:=K)) (by rfl) Z.len Yw (Za (pv 3) Zb)) Zf (Zw _)) (Si (Um (Yr (K:=K) (Z5 Wo (hr.mono (by decide)) (Za (Zs (Zo (K:=K)) (pv 3) Zf (λ_ _=>rfl)) (Za (Zs (Zo (K:=K)) (pv 0) Zf (λ_ _=>rfl)) Zb))) (λ_=>rfl))) (Tj (Zp Ao (Z5 U0 (hr.mono (by decide)) (Za (Zs (Zo (K:=K)) (pv 3) Zf (λ_ _=>rfl)) Zb)) Zf (Zw _)))))) 
     (Zg (Zl W0)) Zu) 
    (Zg (Zl (Z5 Uz (hr.mono (by decide)) (Za (pv 0) (Za (pv 1) (Za (Zs (Zo (K:=K)) (pv 3) Zf (λ_ _=>rfl)) (Za (pv 2) Zb)))))))) Zu) 
   (Ze (Yd (PW.pt (Si (Zp Nr (Zs (Zo (K:=K)) (pv 3) Zf (λ_ _=>rfl)) Z4 (Zw _)) (Si (Zp Nr (Zq (Yh (K:=K)) (by rfl) Z.len Yw (Za (pv 3) Zb)) Zf (Zw _)) (Si (Um (Yr (K:=K) (Zq (N6 (K:=K)) (by rfl) Z.isinstance Y4 (Za (Zs (Zo (K:=K)) (pv 3) Zf (λ_ _=>rfl)) (Za (S3 (v:=V.ty "str") (by rfl) Z.str Zc1 rfl) Zb))) (λ_=>rfl))) (Tj (Um (Yr (K:=K) (Zq (N6 (K:=K)) (by rfl) Z.isinstance Y4 (Za (Zs (Zo (K:=K)) (pv 3) Zf (λ_ _=>rfl)) (Za (S3 (v:=V.ty "str") (by rfl) Z.str Zc1 rfl) Zb))) (λ_=>rfl)))))))) 
    (Zg (Zl W0)) Zu) 
   (Ze (Yd (Um (Yr (K:=K) (Zq (Lg (K:=K)) (by rfl) Z.all Zc3 (Za (Yo (sc:=Zh Wh) (Nm:=WV) (own:=UL) (fr:=[0]) ⟨rfl,by decide +kernel,by decide +kernel,by decide +kernel,by decide +kernel⟩ (by rfl) (Ym (by decide)) (Uo (Z7 Vl (Zs (Zo (K:=K)) (pv 3) Zf (λ_ _=>rfl)) (Zs (Zo (K:=K)) (pv 3) Zf (λ_ _=>rfl)))) (λd=>(Zn (i:=0) P6 (by rfl) (Or.inl (by rfl)))) (λd=>Xt) (λd=>(Wj Ek (pv 0) (Zs (Zo (K:=K)) (pv 1) Zf (λ_ _=>rfl)) (by with_unfolding_all rfl)))) Zb)) (λ_=>rfl))) 
    (Zg (Zl W0)) Zu) 
   (Zg (Zl (Z5 V7 (hr.mono (by decide)) (Za (pv 0) (Za (pv 1) (Za (Zs (Zo (K:=K)) (pv 3) Zf (λ_ _=>rfl)) (Za (Zs (Zo (K:=K)) (pv 3) Zf (λ_ _=>rfl)) (Za (pv 2) Zb)))))))))))),?_⟩
 obtain⟨eA,sA,rA,g1,_⟩:=id M1.lay
 rcases R.is with ⟨u,v,ht,hu,hv,wu,wv,al,lu,lv⟩|⟨v,W,ht,gJ,Zkf⟩
 ·refine⟨_,rfl,⟨_,"tuple",_,_,rfl,.tup ht,rfl,_,rfl,U2 ?_⟩⟩;refine⟨_,rfl,t,_,rfl,.inr (SqT.of ht),(by show 2≤sizeLine;decide),λq nq=>?_⟩;generalize eZ:upd H q _=H1;have s1:=nS7 eZ nq;have h1:=nU7 eZ;have ht:=s1 _ _ ht;have g1:=s1 _ _ g1;refine⟨q,_,rfl,.inr (SqT.of h1),rfl,rfl,_,rfl,ifN (show (!inV (V.int 3) [V.int 2,V.int 3])=false by decide +kernel) ?_⟩;refine⟨_,rfl,t,_,_,_,rfl,rfl,SqT.of ht,Zj (j:=0) rfl,rfl,_,rfl,ifN (by decide +kernel) ?_⟩;refine⟨_,rfl,t,_,_,_,rfl,rfl,SqT.of ht,Zj (j:=0) rfl,rfl,_,rfl,ifN (by decide +kernel) ?_⟩;refine⟨_,rfl,t,_,rfl,.inr (SqT.of ht),rfl,_,rfl,ifN (show (!decide (V.int 3=V.int 3))=false by decide +kernel) ?_⟩;refine⟨_,rfl,t,_,_,_,rfl,rfl,SqT.of ht,Zj (j:=1) rfl,⟨_,"str",_,_,rfl,.str _,rfl,_,rfl,U2 ?_⟩⟩;refine⟨_,rfl,t,_,_,_,rfl,rfl,SqT.of ht,Zj (j:=2) rfl,⟨_,"str",_,_,rfl,.str _,rfl,_,rfl,U2 ?_⟩⟩;have ll:(S u++S v).cps.toList=u++v:=(show (S u++S v).cps.toList=(S u).cps.toList++(S v).cps.toList from bU ..).trans (by simp[S]);refine⟨_,rfl,t,_,_,_,rfl,rfl,SqT.of ht,Zj (j:=1) rfl,_,rfl,t,_,_,_,rfl,rfl,SqT.of ht,Zj (j:=2) rfl,_,_,rfl,rfl,by rw[Xq,Xq,sizeLine_eq];lia,_,rfl,?_⟩;refine Hz (cs:=(S u++S v).cps.toList) (λn acc H5=>acc=(List.replicate n true).map V.bl∧Zt H1 H5) (by rw[ll,oB,sizeLine_eq];lia) ⟨rfl,Zt.refl _⟩ (λn acc H5 z=>by rw[z.1,rW,dB];exact rX _) (λn acc H5 y hy z=>?_) (λacc H5 z y hy=>?_)
  ·obtain⟨rfl,e5⟩:=z
   have Zkd:y∈l.cps.toList:=by
    have:=oM hy;rw[ll]at this
    rcases oJ.mp this with e|e
    ·exact hu y e
    ·exact hv y e
   refine Kj ⟨_,rfl,_,rfl,m1,_,_,_,rfl,rfl,SqT.of (e5 _ _ g1),Zj (j:=0) rfl,_,_,rfl,rfl,?_⟩;have hf:(!(Builtin.Str.occurrences l ⟨#[_]⟩ 0 l.length 1).isEmpty)=true:=(StrLaws.found_one l _).trans (decide_eq_true Zkd);exact⟨by rw[Jz];exact congrArg (λb=>_++[V.bl b]) hf,e5⟩
  ·obtain⟨rfl,e5⟩:=z;refine⟨y,_,rfl,SqL.of Zc,?_⟩;rw[Bo];have e6:=e5.trans (Zd hy (.lst ((List.replicate (S u++S v).cps.toList.length true).map V.bl)));generalize upd H5 y _=H6 at e6;have ht:=e6 _ _ ht;have e7:=s1.trans e6;exact⟨_,rfl,U2 ⟨_,rfl,_,rfl,_,rfl,t,_,_,_,rfl,rfl,SqT.of ht,Zj (j:=1) rfl,_,rfl,t,_,_,_,rfl,rfl,SqT.of ht,Zj (j:=2) rfl,_,rfl,m1,m2,l,b1,b2,es1,es2,st1,st2,u,v,kn,rfl,M1.keep (Tk.same e7),M2.keep (Tk.same e7),t6,c5,hW,hu,hv,wu,wv,al,lu,lv,λH7 s7=>k _ (e7.trans s7)⟩⟩
 ·refine⟨_,rfl,⟨_,"tuple",_,_,rfl,.tup ht,rfl,_,rfl,U2 ?_⟩⟩;refine⟨_,rfl,t,_,rfl,.inr (SqT.of ht),(by show 2≤sizeLine;decide),λq nq=>?_⟩;generalize eZ:upd H q _=H1;have s1:=nS7 eZ nq;have h1:=nU7 eZ;have ht:=s1 _ _ ht;have g1:=s1 _ _ g1;have gJ:=gJ.keep (Tk.same s1);refine⟨q,_,rfl,.inr (SqT.of h1),rfl,rfl,_,rfl,ifN (show (!inV (V.int 2) [V.int 2,V.int 3])=false by decide +kernel) ?_⟩;refine⟨_,rfl,t,_,_,_,rfl,rfl,SqT.of ht,Zj (j:=0) rfl,rfl,_,rfl,ifY (by decide +kernel) ?_⟩;refine⟨_,rfl,t,_,rfl,.inr (SqT.of ht),rfl,_,rfl,ifN (show (!decide (V.int 2=V.int 2))=false by decide +kernel) ?_⟩;refine⟨_,rfl,t,_,_,_,rfl,rfl,SqT.of ht,Zj (j:=1) rfl,_,rfl,m1,_,_,_,rfl,rfl,SqT.of g1,Zj (j:=0) rfl,v,l,W,rfl,gJ,aJ Zkf.dep,?_,λH2 s2=>⟨_,rfl,U2 ?_⟩⟩
  ·refine Wi.Io (λz hz=>?_) Zkf.ok;obtain⟨w,rfl,h1,h2⟩:=hz;exact⟨by rw[Xq];lia,λc hc=>h2 c (by simpa[S] using hc)⟩
  have ht:=s2 _ _ ht;refine⟨_,rfl,t,_,_,_,rfl,rfl,SqT.of ht,Zj (j:=1) rfl,v,W,rfl,gJ.keep (Tk.same s2),aJ Zkf.dep,λH3 s3=>⟨_,_,rfl,rfl,_,rfl,ifN ?_ ?_⟩⟩
  ·have:=Zkf.dep;exact decide_eq_false (by show ¬ (99:Int)<((W.dep:Nat):Int);lia)
  have ht:=s3 _ _ ht;have e3:=(s1.trans s2).trans s3;exact⟨_,rfl,_,rfl,_,rfl,t,_,_,_,rfl,rfl,SqT.of ht,Zj (j:=1) rfl,_,rfl,m1,m2,l,b1,b2,es1,es2,st1,st2,v,W,kn,rfl,M1.keep (Tk.same e3),M2.keep (Tk.same e3),t6,i8,eF,c5,hW,(gJ.keep (Tk.same s2)).keep (Tk.same s3),Zkf,λH4 s4=>k _ (e3.trans s4)⟩
structure Zlf(l:Str)(zs:List Str):Prop where
 pos:0<zs.length
 two:zs.length≤2
 nd:zs.Nodup
 Zt9:∀z∈zs,1≤z.length∧z.length≤3∧∀c∈z.cps.toList,c∈l.cps.toList
 six:(zs.map λz=>z.length+1).foldr (· * ·) 1≤6
inductive Zdv(vs:List V)(H:Hp)(Q:VK):Prop
 |mk(p sc:Addr)(l:Str)(h1:vs=[.ref p,.str l])(h2:Yb H p sc)(h3:0<l.length)(h4:l.length≤3)(h5:∀(q:Addr)(zs:List Str)(H':Hp),H q=none→Zz H H' p→Yb H' p sc→H' q=some (.lst (zs.map V.str))→Zlf l zs→Q (.ref q) H'):Zdv vs H Q
def Zh6:Sp:=λvs H Q _=>Zdv vs H Q
def pP(p:Int×Int):List V:=[.int p.1,.int p.2]
theorem Ej{σ:L2.St}:∀(zs:List UP) {H:Hp}{Q:List V→Hp→Prop},(∀vs H',Zt H H'→TR pP H' vs zs→Q vs H')→Zpb zs σ H Q
 |[],H,Q,k=>k [] H (Zt.refl _) .nil
 | (a,b) :: zs,H,Q,k=>⟨(by show 2≤sizeLine;decide),λq nq=>Ej zs λvs H' e t=>k (.ref q :: vs) H' ((Zd nq _).trans e) (.cons (e _ _ Zc) t)⟩
def six:List UP:=[(3,0),(2,1),(1,2),(1,1),(2,0),(1,0)]
theorem Zcg(FA:Yb H p sc)(h:H q=none):q≠p:=by
 obtain⟨ys,h1,_⟩:=FA.here;exact(Zi h1 h).symm
theorem Zfk(pr:Int×Int)(h:pr∈six):∃m n:Nat,pr=((m:Int),(n:Int))∧1≤m∧m≤3∧n≤3∧(m+1)*(n+1)≤6:=by
 simp only[six,oH,iO,or_false]at h
 rcases h with rfl|rfl|rfl|rfl|rfl|rfl
 ·exact⟨3,0,rfl,by decide⟩
 ·exact⟨2,1,rfl,by decide⟩
 ·exact⟨1,2,rfl,by decide⟩
 ·exact⟨1,1,rfl,by decide⟩
 ·exact⟨2,0,rfl,by decide⟩
 ·exact⟨1,0,rfl,by decide⟩
theorem few6{u1 u2:List Nat}(nd:zs.Nodup)(mem:∀z:Str,z∈zs↔z.cps.toList∈[u1,u2].filter λu=>!decide (u=[]))(h1:1≤u1.length)(h13:u1.length≤3)(h23:u2.length≤3)(h6:(u1.length+1)*(u2.length+1)≤6)(c1:∀c∈u1,c∈l.cps.toList)(c2:∀c∈u2,c∈l.cps.toList):Zlf l zs:=by
 have key:∀z∈zs,z=S u1∨(z=S u2∧u2≠[]):=λz hz=>by
  have h:=(mem z).mp hz;simp only[lU,oH,iO,or_false]at h;obtain⟨e|e,h⟩:=h
  ·exact .inl (by rw[←e,Gs])
  ·refine .inr ⟨by rw[←e,Gs],λq=>?_⟩;rw[e,q]at h;simp at h
 have n1:u1≠[]:=λq=>by rw[q]at h1;cases h1
 have in1:S u1∈zs:=(mem _).mpr (by
  show u1∈_
  simp[n1])
 have two:zs.length≤2:=U7 nd (b:=[S u1,S u2]) λz hz=>by
  rcases key z hz with e|⟨e,_⟩<;>simp[e]
 have cs:∀u:List Nat,(S u).cps.toList=u:=λu=>by simp[S]
 refine⟨iC in1,two,nd,λz hz=>?_,?_⟩
 ·rcases key z hz with e|⟨e,h⟩
  ·rw[e,Xq,cs];exact⟨h1,h13,c1⟩
  ·rw[e,Xq,cs];exact⟨List.length_pos_iff.mpr h,h23,c2⟩
 ·have m1:u1.length+1≤6:=lC (Nat.le_mul_of_pos_right _ (Nat.succ_pos _)) h6;have m2:u2.length+1≤6:=lC (Nat.le_mul_of_pos_left _ (Nat.succ_pos _)) h6
  match zs,two,key,nd with
  |[],_,_,_=>exact(by decide:(1:Nat)≤6)
  |[a],_,key,_=>
   show (a.length+1)*1≤6;rw[Nat.mul_one]
   rcases key a oE with e|⟨e,_⟩<;>rw[e,Xq]<;>assumption
  |[a,b],_,key,nd=>
   show (a.length+1)*((b.length+1)*1)≤6;rw[Nat.mul_one];have nab:a≠b:=λq=>by simp[q]at nd
   rcases key a oE with e|⟨e,_⟩<;>rcases key b (oO _ oE) with q|⟨q,_⟩
   ·exact absurd (e.trans q.symm) nab
   ·rw[e,q,Xq,Xq];exact h6
   ·rw[e,q,Xq,Xq,Nat.mul_comm];exact h6
   ·exact absurd (e.trans q.symm) nab
  |_ :: _ :: _ :: _,h,_,_=>simp at h
theorem Em(d:Zz H H' p)(FA:Yb H' p sc)(h:H' q=none):H q=none:=by
 cases z:H q with
 |none=>rfl
 |some o=>
  by_cases e:q=p
  ·obtain⟨xs,h1,_⟩:=FA.here;rw[e,h1]at h;cases h
  ·rw[d _ _ z e]at h;cases h
theorem Zmw(Z:Blt mg)(Yg:Cal P w K mg base "_law_order" 1 VC Sy)(Zm:Cal P w K mg base "_law_pick" 1 WI V2){cdv:Value}{A:Around}{outer:List Env}{s:Shared}{E:XK}(hr:Xi 3 (A.deeper (envOfC "_law_few_words" (Zh Ys) s.heap.objs.size f cdv)))
  (FA:Yb H p sc) (u8:0<l.length) (t6:l.length≤3) (k:∀(q:Addr) (zs:List Str) (H':Hp),H q=none→Zz H H' p→Yb H' p sc→H' q=some (.lst (zs.map V.str))→Zlf l zs→Q (.ref q) H')
  {es:VH}{z6:List UP} (a1:AllP es z6) (e6:z6=six) {q1 q2 q3 q4 q5 q6 q7 q8 q9 q10:Pos} :
  ∃t,PSs (Fm CX0 P w K mg base WG "_law_few_words" (Zh Ys) f cdv A outer s H E).nox (.Assign [.Tuple [.Name "_law_first" q1,.Name "_law_second" q2] 0 q3] (.Subscript (.List es q4) (.Call (.Name "_law_pick" q5) [.Name "_law_flow_here" q6,.Constant (.int 6) 0 q7] [] q8) q9) q10 :: (Wk Ys).drop 1) t∧t { nx:=λ_ H'=>Q .non H',rt:=Q } (L2.start WG [.ref p,.str l]) H:=by
 refine⟨_,(Ze (S2 (Zs (Z3 (K:=K)) (Yk (Zjh a1)) (Z5 Zm (hr.mono (by decide)) (Za (pv 0) (Za Zf Zb))) (λ_ _=>rfl)) (Vf (K:=K) (n:=2) (by rfl) (Ye (Zn (i:=2) Wg.nd (by rfl) (Or.inl (by rfl))) (Ye (Zn (i:=3) Wg.nd (by rfl) (Or.inl (by rfl))) Ve)))) 
   (Ze (Zeb (i:=4) Wg.nd (by rfl) (by rfl) (sc:=Zh Ys) (Nm:=WG) (own:=["_law_size"]) (fr:=[0,1]) ⟨rfl,by decide +kernel,by decide +kernel,by decide +kernel,by decide +kernel⟩ (by rfl) (Ym (by decide)) (Nq (K:=K) (Z2 (Za (pv 2) (Za (pv 3) Zb)))) (λd=>(Zn (i:=0) Ow (by rfl) (Or.inl (by rfl)))) (λd=>Xt) (λd=>(X5 (K:=K) cZ PySem.F.slot_str_join PySem.F.type_str_join (A3 (K:=K)) Z4 (Za (Yo (sc:={ kind:=PySem.ScopeKind.function,names:=[ (PySem.Str.ofString ".0",PySem.NameKind.local),(PySem.Str.ofString "_law_size",PySem.NameKind.local),(PySem.Str.ofString "range",PySem.NameKind.globalImplicit),(PySem.Str.ofString "_law_flow_here",PySem.NameKind.cell),(PySem.Str.ofString "_law_letters_here",PySem.NameKind.cell)],isGenerator:=false,isCoroutine:=false,more:=[]:PySem.Scope }) (Nm:=UX) (own:=["_law_k"]) (fr:=[1,2]) ⟨rfl,by decide +kernel,by decide +kernel,by decide +kernel,by decide +kernel⟩ (by rfl) (Ym (by decide)) (Wz (by rfl) Z.range (Za (pv 0) Zb)) (λd=>(Zn (i:=0) Ov (by rfl) (Or.inl (by rfl)))) (λd=>Xt) (λd=>(Zs Zq0 (pv 2) (Z5 Zm (hr.mono (by decide)) (Za (pv 1) (Za (Zq Y0 (by rfl) Z.len Yw (Za (pv 2) Zb)) Zb))) (λ_ _=>rfl)))) Zb)))) 
   (Zg (Zl (J9 Yg Lb (by rfl) (hr.mono (by decide)) (by rfl) Z.sorted (by rfl) (Zy (Gi (by rfl)) (by rfl) Z.dict Ze3 (Za (Yo (sc:=Zh Ys) (Nm:=WG) (own:=VC) (fr:=[]) ⟨rfl,by decide +kernel,by decide +kernel,by decide +kernel,by decide +kernel⟩ (by rfl) (Ym (by decide)) (Xg (K:=K) (pv 4)) (λd=>(Zn (i:=0) Ou (by rfl) (Or.inl (by rfl)))) (λd=>(Vs (Zp Nr (pv 0) Z4 (Zw _)))) (λd=>(Z2 (Za (pv 0) (Za W0 Zb))))) Zb))))))),?_⟩
 have l6:z6.length=6:=by rw[e6];rfl
 refine Ej z6 λvs H1 e1 R1=>⟨by rw[R1.len,l6,sizeLine_eq];decide,λx nx=>?_⟩;generalize eZ:upd H1 x _=H2;have s2:=nS7 eZ nx;have h2:=nU7 eZ;have R2:=R1.keep (Tk.same s2);have e2:=e1.trans s2;have y9:=FA.same e2;have nxp:x≠p:=Zcg (FA.same e1) nx;refine⟨_,rfl,p,sc,6,rfl,by decide,by decide,y9,λr rM c9 sN hx3=>?_⟩;have m7:=y9.go hx3;have d3:Zz H (upd H2 p (.lst rM)) p:=(Zz.same e2).trans (Zz.upd _);have R3:=R2.keep (Tk.drew y9 (Zz.upd (.lst rM)));have h3:upd H2 p (.lst rM) x=some (.lst vs):=(Zk nxp).trans h2;generalize upd H2 p _=H3 at m7 d3 R3 h3;obtain⟨j,rfl⟩:∃j:Nat,r=(j:Int):=⟨r.toNat,by lia⟩;have hj:j<vs.length:=by rw[R1.len,l6];lia
 have hvj:vs[j]?=some vs[j]:=rZ hj;obtain⟨a,pr,ha,hpr,h3a⟩:=R3.at_ hvj;obtain⟨m,n,rfl,xK,hm3,hn3,hmn⟩:=Zfk pr (by rw[←e6];exact oM hpr);refine⟨x,_,_,_,rfl,rfl,SqL.of h3,Zj hvj,?_⟩;rw[ha];refine⟨a,_,rfl,SqT.of h3a,rfl,_,_,rfl,_,_,rfl,rfl,?_⟩;refine⟨_,rfl,_,rfl,(by show 2≤sizeLine;decide),λtp wH=>?_⟩;have s4:=Zd wH (.tup [V.int ((m:Int),(n:Int)).1,V.int ((m:Int),(n:Int)).2]);have h4:upd H3 tp (.tup [V.int ((m:Int),(n:Int)).1,V.int ((m:Int),(n:Int)).2]) tp=some (.tup ([m,n].map nI)):=Zc;have y7:=m7.same s4;have fQ:tp≠p:=Zcg m7 wH;have d4:=d3.trans (Zz.same (p:=p) s4);refine⟨tp,rfl,⟨_,SqT.of h4⟩,?_⟩;have g4:∀H5,Zz (upd H3 tp (.tup [V.int ((m:Int),(n:Int)).1,V.int ((m:Int),(n:Int)).2])) H5 p→H5 tp=some (.tup ([m,n].map nI)):=λH5 d=>d _ _ h4 fQ;generalize upd H3 tp _=H4 at s4 h4 y7 d4 g4
 refine Q5 (xs:=[m,n].map nI) (λi acc H5=>∃us:List WE,acc=Wf us∧us.length=i∧(∀(j:Nat) u,us[j]?=some u→[m,n][j]?=some u.length)∧(∀u∈us,∀c∈u,c∈l.cps.toList)∧Yb H5 p sc∧Zz H4 H5 p) (by show 2<sizeLine;rw[sizeLine_eq];decide) ⟨[],rfl,rfl,λj u q=>by simp at q,λu hu=>by simp at hu,y7,Zz.refl _ _⟩
  (λi acc H5 ⟨us,q1,q2,_⟩=>by rw[q1,Vx,q2];exact rX _) (λi acc H5 ⟨us,_,_,_,_,_,d⟩=>SqT.of (g4 _ d)) (λi acc H5 v hv z=>?_) (λacc H5 z y hy=>?_)
 ·obtain⟨us,rfl,kH,kJ,xO,t5,d5⟩:=z;rw[oP]at hv
  obtain⟨sz,hsz,rfl⟩:∃sz,[m,n][i]?=some sz∧v=nI sz:=by
   cases hh:[m,n][i]? with
   |none=>rw[hh]at hv;cases hv
   |some sz=>rw[hh]at hv;cases hv;exact⟨sz,rfl,rfl⟩
  have sz3:sz≤3:=by
   have:=oM hsz;simp only[oH,iO,or_false]at this;lia
  refine Kj ⟨rfl,_,rfl,_,rfl,by lia,by lia,?_⟩
  refine Ut (lo:=0) (k:=((sz:Nat):Int).toNat) (Drawn H5 p sc l) (lY (show ((sz:Nat):Int).toNat≤3 by lia) (by decide)) ⟨[],rfl,rfl,λc hc=>absurd hc (by simp),t5,Zz.refl _ _⟩ Zgn
   (λi acc H2 hi hp=>Kj (Zct u8 (by lia) rfl rfl hp)) (λacc H6 hp q hq=>?_)
  obtain⟨ys,rfl,m5,tG,p5,d6⟩:=hp;rw[cO]at m5;refine⟨_,q,ys.map one,rfl,rfl,SqL.of (by rw[Zc,Aq]),Fc ys (by lia),?_⟩
  have hjo:Txt.join (Str.ofString "") (ys.map one)=S ys:=by
   have:=Gs (Txt.join (Str.ofString "") (ys.map one));rw[join_ones]at this;exact this.symm
  refine⟨us++[ys],?_,by rw[oB,kH];rfl,λj' u q=>?_,λu hu=>?_,p5.same (Zd hq _),(d5.trans d6).trans (Zz.same (Zd hq _))⟩
  ·rw[Jh,hjo];rfl
  ·rcases aK j' us.length with h|h
   ·rw[lP h]at q;exact kJ j' u q
   ·rw[lT h]at q
    have hz:j'-us.length=0:=by
     have:=(oG.mp q).1;simpa using this
    rw[hz]at q;cases q;have:j'=i:=by lia
    rw[this,hsz,m5]
  ·rcases oJ.mp hu with e|e
   ·exact xO u e
   ·rw[rY.mp e];exact tG
 ·obtain⟨us,rfl,kH,kJ,xO,t5,d5⟩:=z;have jE:=g4 _ d5;generalize eZ:upd H5 y _=H6;have s6:=nS7 eZ hy;have h6:=nU7 eZ;have p5:=t5.same s6;have d6:=(d4.trans d5).trans (Zz.same s6);have ny:H y=none:=Em (d4.trans d5) t5 hy;have hu2:us.length=2:=kH
  obtain⟨u1,u2,rfl⟩:∃u1 u2,us=[u1,u2]:=by
   match us,hu2 with
   |[u1,u2],_=>exact⟨u1,u2,rfl⟩
  have hm:m=u1.length:=Option.some.inj (kJ 0 u1 rfl);have hn:n=u2.length:=Option.some.inj (kJ 1 u2 rfl);refine⟨_,rfl,y,rfl,⟨_,SqL.of h6⟩,?_⟩;refine Wl (K:=K) (a:=y) (xs:=Wf [u1,u2]) (λj acc H7=>Zt H6 H7∧acc.length≤j∧TR pT H7 acc (([u1,u2].take j).filter λu=>!decide (u=[]))) (by show 2<sizeLine;rw[sizeLine_eq];decide) ⟨Zt.refl _,rX _,.nil⟩ (λj acc H3 q=>q.2.1) (λj acc H7 q=>SqL.of (q.1 _ _ h6)) (λj acc H7 x hx q=>?_) (λacc H7 q y' j3=>?_)
  ·obtain⟨e7,yH,R⟩:=q;obtain⟨u,hu,rfl⟩:=Kq hx;refine⟨_,rfl,rfl,_,rfl,?_⟩
   have eb:decide (V.str (S u)=V.str (Str.ofString ""))=decide (u=[]):=by
    rw[Dy,lH,decide_eq_true_eq,decide_eq_true_eq];exact⟨λz=>Za5 (V.str.inj z),λz=>by rw[z]⟩
   rw[eb,take_snoc hu,iQ];refine Xx (λc1=>?_) (λc1=>?_)
   ·refine⟨_,rfl,(by show 2≤sizeLine;decide),λq nq=>?_⟩;have s8:=Zd nq (.tup [V.str (S u),V.bl true]);refine⟨e7.trans s8,?_,?_⟩
    ·rw[oB];show acc.length+1≤j+1;lia
    ·rw[lM,if_pos c1,dJ];exact(R.keep (Tk.same s8)).snoc Zc
   ·refine⟨e7,by lia,?_⟩;rw[lM,if_neg c1,dJ,lN];exact R
  ·obtain⟨e7,yH,R⟩:=q;have R:TR pT H7 acc ([u1,u2].filter λu=>!decide (u=[])):=R;have s8:=Zd j3 (.lst acc);refine Zam (R.keep (Tk.same s8)) (lC (dG _ _) (by show 2≤60;decide)) (λw hw=>?_) Zc λzs l' H' nd hz nl e h'=>?_
   ·have:=(lU.mp hw).1;simp only[oH,iO,or_false]at this
    rcases this with e|e<;>rw[e]<;>lia
   ·have e9:=(e7.trans s8).trans e;exact k l' zs H' (Em d6 p5 (none_of (e7.trans s8) nl)) (d6.trans (Zz.same e9)) (p5.same e9) h' (few6 nd hz (by lia) (by lia) (by lia) (by rw[←hm,←hn];exact hmn) (xO u1 oE) (xO u2 (oO _ oE)))
theorem Mw(F:Fun K "_law_few_words" "_law_few_words" Ys f fd)(Z:Blt mg)(Yg:Cal P w K mg base "_law_order" 1 VC Sy)(Zm:Cal P w K mg base "_law_pick" 1 WI V2):Ya P w K mg base CX0 4 f fd UH Zh6:=by
 refine F.ok Wg (λvs H Q E h=>?_) (λcdv A outer s H vs Q E hr h=>?_)
 ·obtain⟨p,sc,l,rfl,_⟩:=h;rfl
 obtain⟨p,sc,l,rfl,FA,u8,t6,k⟩:=h;exact Zmw Z Yg Zm hr FA u8 t6 k (.cons (.cons (.cons (.cons (.cons (.cons .nil)))))) rfl
def Aw(z:Str)(n c:Nat):Nat:=if z.cps.toList[n]?=some c then n+1 else n
def gn(z:Str)(u:List Nat):Nat:=u.foldl (Aw z) 0
theorem Bb(z:Str)(u:List Nat)(c:Nat):gn z (u++[c])=Aw z (gn z u) c:=by
 unfold gn;rw[ZV];rfl
theorem Zae(z:Str)(u:List Nat):gn z u≤z.length:=by
 induction u using Jq with
 |nil=>exact lB _
 |snoc u c ih=>
  rw[Bb];unfold Aw
  split
  ·rename_i h
   have h1:=(oG.mp h).1;have:=len_list z;lia
  ·exact ih
theorem Zcp(z:Str)(u:List Nat):∀n,n≤z.length→(n≤gn z u↔(z.cps.toList.take n).Sublist u):=by
 have hl:=len_list z
 induction u using Jq with
 |nil=>
  intro n hn;rw[List.sublist_nil,List.take_eq_nil_iff];show n≤0↔_;constructor
  ·intro h;exact .inl (by lia)
  ·rintro(h|h)
   ·lia
   ·rw[h]at hl;have:(0:Nat)=z.length:=hl;lia
 |snoc u c ih=>
  intro n hn;rw[Bb,sub_snoc,←ih n hn];unfold Aw;constructor
  ·intro h
   split at h
   ·rename_i hc
    rcases XI h with h1|h1
    ·exact .inl (by lia)
    ·refine .inr ⟨z.cps.toList.take (gn z u),?_,(ih _ (Zae z u)).mp (rX _)⟩;rw[h1,iV,hc];rfl
   ·exact .inl h
  ·rintro(h|⟨v,e,hv⟩)
   ·split<;>lia
   ·have hlen:n=v.length+1:=by
     have:=congrArg List.length e;rw[iE,oB]at this;have q:[c].length=1:=rfl;lia
    subst hlen
    have hc:z.cps.toList[v.length]?=some c:=by
     have q:=congrArg (λq:List Nat=>q[v.length]?) e;simp only[List.getElem?_take,iU,if_true,lT (rX _),Nat.sub_self]at q;exact q
    have u6:z.cps.toList.take v.length=v:=by
     have q:=congrArg (List.take v.length) e;rw[List.take_take,List.take_left' rfl,Nat.min_eq_left (dH _)]at q;exact q
    have h1:v.length≤gn z u:=(ih v.length (by lia)).mpr (by rw[u6];exact hv)
    rcases XI h1 with h2|h2
    ·split<;>lia
    ·rw[←h2,if_pos hc];exact rX _
theorem Bc:gn z u=z.length↔z.cps.toList.Sublist u:=by
 have h:=Zcp z u z.length (rX _);rw[cY (by rw[len_list];exact rX _)]at h;rw[←h];have:=Zae z u;lia
theorem Zu3{k:Nat}{v:List Nat}(hz:z.length≤k)(h:∀w:List Nat,w.length≤k→(∀c∈w,c∈z.cps.toList)→(w.Sublist u↔w.Sublist v)):gn z u=gn z v:=by
 have key:∀u v:List Nat,(∀w:List Nat,w.length≤k→(∀c∈w,c∈z.cps.toList)→(w.Sublist u↔w.Sublist v))→gn z u≤gn z v:=λu v h=>by
  have hl:=Zae z u;refine(Zcp z v _ hl).mpr ((h _ ?_ λc hc=>aR hc).mp ((Zcp z u _ hl).mp (rX _)));rw[iE];lia
 exact Nat.le_antisymm (key u v h) (key v u λw hw hc=>(h w hw hc).symm)
def gnS(zs:List Str)(u:List Nat):List Nat:=zs.map λz=>gn z u
def Zlc:List Str→List WE
 |[]=>[[]]
 |z :: zs=>(List.range (z.length+1)).flatMap λa=>(Zlc zs).map (a :: ·)
theorem Ss{α β:Type}{f:α→List β}{n:Nat}(h:∀a,(f a).length=n):∀L:List α,(L.flatMap f).length=L.length*n
 |[]=>by simp
 |a :: L=>by rw[aI,oB,Ss h L,h a,oR,Nat.succ_mul,Nat.add_comm]
theorem Za1:∀zs:List Str,(Zlc zs).length=(zs.map λz=>z.length+1).foldr (· * ·) 1
 |[]=>rfl
 |z :: zs=>by
  show ((List.range (z.length+1)).flatMap λa=>(Zlc zs).map (a :: ·)).length=(z.length+1)*_;rw[Ss λa=>rW ..,dS,Za1 zs]
theorem Zki(u:List Nat):∀zs:List Str,gnS zs u∈Zlc zs
 |[]=>rY.mpr rfl
 |z :: zs=>cW.mpr ⟨gn z u,lZ.mpr (aJ (Zae z u)),oU.mpr ⟨_,Zki u zs,rfl⟩⟩
theorem Zko{α β:Type} [DecidableEq β] (R:α→β→Prop) (inj:∀x y b,R x b→R y b→x=y):∀(ks:List α) (B:List β),ks.Nodup→(∀x∈ks,∃b∈B,R x b)→ks.length≤B.length
 |[],_,_,_=>lB _
 |x :: r,B,nd,h=>by
  rw[iR]at nd;obtain⟨b,hb,hx⟩:=h x oE
  have:=Zko R inj r (B.erase b) nd.2 λy hy=>by
   obtain⟨b',z8,j3⟩:=h y (oO _ hy);refine⟨b',(YZ λe=>nd.1 ?_).mpr z8,j3⟩;rw[inj x y b hx (by rw[←e];exact j3)];exact hy
  rw[ZM hb]at this;have hp:=iC hb;rw[oR];lia
inductive Eb(K:W.Frag)(vs:List V)(H:Hp)(Q:VK):Prop
 |mk(l:Str)(q:Addr)(v:V)(W:Wi)(zs:List Str)(h1:vs=[.str l,.ref q,v])(h2:0<l.length)(h3:l.length≤3)(h4:H q=some (.lst (zs.map V.str)))(h5:Zlf l zs)(h6:WK K H v W)(h7:W.dep<5)(h8:∀m es st H',Zt H H'→Yc H' m l 0 es st→Zdd es st→Q (.ref m) H'):Eb K vs H Q
def By(K:W.Frag):Sp:=λvs H Q _=>Eb K vs H Q
theorem Zer(zs:List Str):gnS zs []=List.replicate zs.length 0:=by
 unfold gnS;exact List.map_const' ..
def kI(g:List Nat):List Key:=g.map λn:Nat=>Sum.inl (n:Int)
theorem Zcl(g:List Nat):(kI g).map kV=g.map nI:=by
 unfold kI;rw[lW];rfl
theorem Zj1{g h:List Nat}(e:kI g=kI h):g=h:=(List.map_inj_right λa b q=>by have:=Sum.inl.inj q;lia).mp e
theorem Bu{k:List Key}(h:W8 kvs k=some v):∃x∈kvs,x.1=k∧x.2=v:=by
 unfold W8 at h;obtain⟨x,hx,e⟩:=ZY.mp h;exact⟨x,List.mem_of_find?_eq_some hx,of_decide_eq_true (List.find?_some (p:=λkv:List Key×V=>decide (kv.1=k)) hx),e⟩
theorem TR.refs{α:Type}{tv:α→List V}{H:Hp}:∀{vs:List V}{rs:List α},TR tv H vs rs→∃ras:List Addr,vs=ras.map V.ref∧ras.length=rs.length∧∀(i:Nat) a r,ras[i]?=some a→rs[i]?=some r→H a=some (.tup (tv r))
 |_,_,.nil=>⟨[],rfl,rfl,λi a r h=>by simp at h⟩
 |_,_,.cons (a:=a0) h t=>by
  obtain⟨ras,e,hl,g⟩:=t.refs;refine⟨a0 :: ras,by rw[e];rfl,by rw[oR,oR,hl],λi a r h1 h2=>?_⟩
  cases i with
  |zero=>cases h1;cases h2;exact h
  |succ i=>exact g i a r (by simpa using h1) (by simpa using h2)
theorem Ef(z:Str)(n c:Nat)(hn:n≤z.length):Txt.slice z (some (n:Int)) (some ((n:Int)+1))=⟨#[c]⟩↔z.cps.toList[n]?=some c:=by
 have hl:=len_list z
 have e:(Txt.slice z (some (n:Int)) (some ((n:Int)+1))).cps.toList=(z.cps.toList.drop n).take 1:=by
  rw[show ((n:Int)+1)=((n+1:Nat):Int) by lia,slice_list,HT.Pe,HT.Pe,Nat.min_eq_left hn]
  by_cases h:n+1≤z.length
  ·rw[Nat.min_eq_left h,show n+1-n=1 by lia]
  ·rw[Nat.min_eq_right (by lia),List.drop_eq_nil_of_le (by lia),List.take_nil,List.take_nil]
 constructor
 ·intro h;rw[h]at e;have e:[c]=(z.cps.toList.drop n).take 1:=e;have q:=congrArg (λq:List Nat=>q[0]?) e;simpa using q.symm
 ·intro h
  have hd:(z.cps.toList.drop n).take 1=[c]:=by
   obtain⟨x5,hv⟩:=oG.mp h;rw[bL x5,hv];rfl
  rw[←Gs (Txt.slice z (some (n:Int)) (some ((n:Int)+1))),e,hd]
theorem Zjk{n:Nat}(hn:n≤z.length):V.int ((n:Int)+if decide (V.str (Txt.slice z (some (n:Int)) (some ((n:Int)+1)))=V.str ⟨#[c]⟩)=true then 1 else 0)=nI (Aw z n c):=by
 unfold Aw
 by_cases h:z.cps.toList[n]?=some c
 ·rw[if_pos h,if_pos (decide_eq_true (congrArg V.str ((Ef z n c hn).mpr h)))];rfl
 ·rw[if_neg h,if_neg λq=>h ((Ef z n c hn).mp (V.str.inj (of_decide_eq_true q))),Int.add_zero];rfl
theorem Gb{t:Addr}(hq:H q=some (.lst (zs.map V.str)))(ht:H t=some (.tup ((gnS zs u).map nI)))(hz:zs.length≤15)
  (pF:∀z∈zs,∀(n:Nat) (H2:Hp) (N:VK),n≤z.length→N (nI (Aw z n c)) H2→te (((Ur 2 fr σ).set 0 (some (.str z))).set 1 (some (nI n))) H2 N)
  (k:∀r H',Zt H H'→H' r=none→Q (.ref r) (upd H' r (.lst ((gnS zs (u++[c])).map nI)))) :
  Za7 (ItZ (λH xs=>SqL K H q xs) (λH xs=>SqT K H t xs)) 2 fr (Zgf K 2 (Lv (So 0) (Lv (So 1) Zkj))) Zlo te σ H Q:=by
 have qO:(gnS zs u).length=zs.length:=rW ..;refine Zan (xs:=zs.map V.str) (ys:=(gnS zs u).map nI) (by rw[rW,rW,qO];exact rX _) (λi acc H2=>acc=((gnS zs (u++[c])).take i).map nI∧Zt H H2) (by rw[rW,sizeLine_eq];lia) ⟨rfl,Zt.refl _⟩ (λi acc H2 h=>by rw[h.1,rW,iE];exact ZE _ _) (λi acc H2 h=>⟨SqL.of (h.2 _ _ hq),SqT.of (h.2 _ _ ht)⟩) (λi acc H2 x y p hx hy hp nO=>?_) (λacc H2 hp r y4=>?_)
 ·obtain⟨rfl,e2⟩:=hp;rw[oP]at hx hy
  cases hc:zs[i]? with
  |none=>rw[hc]at hx;cases hx
  |some z=>
   rw[hc]at hx;cases hx;have hg:(gnS zs u)[i]?=some (gn z u):=by unfold gnS;rw[oP,hc];rfl
   rw[hg]at hy;cases hy;have s3:=Zd nO (.tup [V.str z,nI (gn z u)]);refine Zoy rfl (SqT.of Zc) (pF z (oM hc) _ _ _ (Zae z u) ⟨?_,e2.trans s3⟩);have qN:(gnS zs (u++[c]))[i]?=some (Aw z (gn z u) c):=by unfold gnS;rw[oP,hc,←Bb];rfl
   rw[map_take qN]
 ·obtain⟨rfl,e2⟩:=hp;have:(zs.map V.str).length=(gnS zs (u++[c])).length:=by unfold gnS;rw[rW,rW]
  rw[this,lX];exact k r H2 e2 y4
theorem Ga{t:Addr}{tt:TT}(hq:H q=some (.lst (zs.map V.str)))(ht:H t=some (.tup ((gnS zs u).map nI)))(hz:zs.length≤15)
  (vW:∀z∈zs,∀(n:Nat) (H2:Hp) (N:Bool→Hp→Prop),N (decide (n=z.length)) H2→tt (((Ur 2 fr σ).set 0 (some (.str z))).set 1 (some (nI n))) H2 N)
  (pF:∀(z:Str) (n:Nat) (H2:Hp) (N:VK),N (.str z) H2→te (((Ur 2 fr σ).set 0 (some (.str z))).set 1 (some (nI n))) H2 N)
  (k:∀r H' (ws:List Str),Zt H H'→H' r=none→(∀z∈zs,z∈ws↔z.cps.toList.Sublist u)→Q (.ref r) (upd H' r (.lst (ws.map V.str)))) :
  Za7 (ItZ (λH xs=>SqL K H q xs) (λH xs=>SqT K H t xs)) 2 fr (Zgf K 2 (Lv (So 0) (Lv (So 1) Zkj))) tt te σ H Q:=by
 have qO:(gnS zs u).length=zs.length:=rW ..;refine Zan (xs:=zs.map V.str) (ys:=(gnS zs u).map nI) (by rw[rW,rW,qO];exact rX _) (λi acc H2=>acc=((zs.take i).filter λz=>decide (gn z u=z.length)).map V.str∧Zt H H2) (by rw[rW,sizeLine_eq];lia) ⟨rfl,Zt.refl _⟩ (λi acc H2 h=>by rw[h.1,rW];exact lC (dG _ _) (by rw[iE];exact ZE _ _)) (λi acc H2 h=>⟨SqL.of (h.2 _ _ hq),SqT.of (h.2 _ _ ht)⟩) (λi acc H2 x y p hx hy hp nO=>?_) (λacc H2 hp r y4=>?_)
 ·obtain⟨rfl,e2⟩:=hp;rw[oP]at hx hy
  cases hc:zs[i]? with
  |none=>rw[hc]at hx;cases hx
  |some z=>
   rw[hc]at hx;cases hx;have hg:(gnS zs u)[i]?=some (gn z u):=by unfold gnS;rw[oP,hc];rfl
   rw[hg]at hy;cases hy;have s3:=Zd nO (.tup [V.str z,nI (gn z u)]);refine⟨p,_,rfl,SqT.of Zc,rfl,_,_,rfl,_,_,rfl,rfl,vW z (oM hc) _ _ _ ?_⟩;rw[take_snoc hc,iQ]
   by_cases hd:gn z u=z.length
   ·rw[if_pos (decide_eq_true hd)];refine pF z _ _ _ ⟨?_,e2.trans s3⟩;rw[oK,lM,if_pos (decide_eq_true hd)];rfl
   ·rw[if_neg (λq=>hd (of_decide_eq_true q))];refine⟨?_,e2.trans s3⟩;rw[lM,if_neg (λq=>hd (of_decide_eq_true q)),dJ,lN]
 ·obtain⟨rfl,e2⟩:=hp;rw[rW,lX];refine k r H2 _ e2 y4 λz yW=>?_;rw[lU,decide_eq_true_eq,Bc];exact⟨λq=>q.2,λq=>⟨yW,q⟩⟩
structure Lk(zs:List Str)(rp dp sp:Addr)(H H5:Hp)(vs:List V)(gs:WA)(kvs:TB)(ws:List V)(st:WA):Prop where
 rm:H5 rp=some (.lst vs)
 rr:TR (λg:List Nat=>g.map nI) H5 vs gs
 dc:H5 dp=some (.dT kvs)
 ks:kvs.map (·.1)=gs.map kI
 vl:∀x∈kvs,∃i:Nat,i<gs.length∧x.2=nI i
 ss:H5 sp=some (.lst ws)
 sr:TR (λr:List Nat=>r.map nI) H5 ws st
 e:Zt H H5
 nd:gs.Nodup
 gn:∀g∈gs,∃u,g=gnS zs u
theorem Lk.same{zs:List Str}{rp dp sp:Addr}{H H5 H6:Hp}{vs:List V}{gs:WA}{kvs:TB}{ws:List V}{st:WA}(p:Lk zs rp dp sp H H5 vs gs kvs ws st)(e:Zt H5 H6):Lk zs rp dp sp H H6 vs gs kvs ws st:=⟨e _ _ p.rm,p.rr.keep (Tk.same e),e _ _ p.dc,p.ks,p.vl,e _ _ p.ss,p.sr.keep (Tk.same e),p.e.trans e,p.nd,p.gn⟩
theorem Lk.put{rp dp sp c:Addr}{H5:Hp}{us:List V}{gs:WA}{ws:List V}(p:Lk zs rp dp sp H H5 vs gs kvs ws st)(hc:H5 c=some (.lst us))(n1:rp≠c)(n2:sp≠c)(h0:H c=none)(o:HO):Lk zs rp dp sp H (upd H5 c o) vs gs kvs ws st:=
 ⟨(Zk n1).trans p.rm,p.rr.keep (Tk.lst hc o),(Zk (Yt p.dc hc λz=>nomatch z)).trans p.dc,p.ks,p.vl,(Zk n2).trans p.ss,p.sr.keep (Tk.lst hc o),Xe p.e h0 _,p.nd,p.gn⟩
theorem Lk.six{zs:List Str}{l:Str}{rp dp sp:Addr}{H H5:Hp}{vs:List V}{gs:WA}{kvs:TB}{ws:List V}{st:WA}(p:Lk zs rp dp sp H H5 vs gs kvs ws st)(f:Zlf l zs):gs.length≤6:=by
 have:=U7 p.nd (b:=Zlc zs) λg hg=>by
  obtain⟨u,rfl⟩:=p.gn g hg;exact Zki u zs
 rw[Za1]at this;exact lC this f.six
theorem F1{k:List Key}(h:W8 kvs k=none):W8 (kvs++[(k,v)]) k=some v:=by
 unfold W8 at h ⊢;rw[Option.map_eq_none_iff]at h;rw[List.find?_append,h];simp
theorem Rm(F:Fun K "_law_places_machine" "_law_places_machine" Yl f fd)(Z:Blt mg)(Yp:Cal P w K mg base "_law_by_words" 6 VA (Jp K 5)):Ya P w K mg base CX0 7 f fd UA (By K):=by
 refine F.ok Zx (λvs H Q E h=>?_) (λcdv A outer s H vs Q E hr h=>?_)
 ·obtain⟨l,q,v,W,zs,rfl,_⟩:=h;rfl
 obtain⟨l,q,v,W,zs,rfl,u8,t6,hq,F6,hW,hd,k⟩:=h
 refine⟨_,(Ze (Zr (i:=3) Zx.nd (by rfl) (Or.inl (by rfl)) (Yk (Za (Zy (Yv (K:=K)) (by rfl) Z.tuple Yu (Za (Yo (sc:=Zh Yl) (Nm:=XY) (own:=VC) (fr:=[]) ⟨rfl,by decide +kernel,by decide +kernel,by decide +kernel,by decide +kernel⟩ (by rfl) (Ym (by decide)) (Xg (K:=K) (pv 1)) (λd=>(Zn (i:=0) Sl (by rfl) (Or.inl (by rfl)))) (λd=>Xt) (λd=>Zf)) Zb)) Zb))) 
   (Ze (Zr (i:=4) Zx.nd (by rfl) (Or.inl (by rfl)) (Zjc (Sn hr) (Zs (Z3 (K:=K)) (pv 3) Zf (λ_ _=>rfl)) Zf)) 
   (Ze (Zr (i:=5) Zx.nd (by rfl) (Or.inl (by rfl)) (Yk Zb)) 
   (Ze (J7 lI (Zp An (Zq (Yh (K:=K)) (by rfl) Z.len Yw (Za (pv 5) Zb)) (Zq (Yh (K:=K)) (by rfl) Z.len Yw (Za (pv 3) Zb)) (Zw _)) 
    (Ze (Zr (i:=6) Zx.nd (by rfl) (Or.inl (by rfl)) (Yk Zb)) 
    (Ze (Xp lI (by rfl) (Uo (pv 0)) (Zn (i:=7) Zx.nd (by rfl) (Or.inr (by rfl))) 
     (Ze (Zr (i:=8) Zx.nd (by rfl) (Or.inl (by rfl)) (Zs (Z3 (K:=K)) (pv 3) (Zq (Yh (K:=K)) (by rfl) Z.len Yw (Za (pv 5) Zb)) (λ_ _=>rfl))) 
     (Ze (Zr (i:=9) Zx.nd (by rfl) (Or.inl (by rfl)) (Zy (Yv (K:=K)) (by rfl) Z.tuple Yu (Za (Yo (sc:=Zh Yl) (Nm:=XY) (own:=VJ) (fr:=[7]) ⟨rfl,by decide +kernel,by decide +kernel,by decide +kernel,by decide +kernel⟩ (by rfl) (N1 (X1 (by decide) (X1 (by decide) Qx))) (Kt (K:=K) (by rfl) Z.zip (pv 1) (pv 8)) (λd=>(Vf (K:=K) (n:=2) (by rfl) (Ye (Zn (i:=0) W4 (by rfl) (Or.inl (by rfl))) (Ye (Zn (i:=1) W4 (by rfl) (Or.inl (by rfl))) Ve)))) (λd=>Xt) (λd=>(Z7 Xl (pv 1) (Zy Sw (by rfl) Z.int Gj (Za (Wj Xw (Vy Zie (pv 0) (Vt (pv 1)) (Vt (Z7 Xl (pv 1) Zf))) (pv 2) (Zw _)) Zb))))) Zb))) 
     (Cm (Yd (J6 (Ei (Sn hr) (pv 9) (pv 4))) 
      (Ze (Cn (Sn hr) (pv 4) (pv 9) (Zq (Yh (K:=K)) (by rfl) Z.len Yw (Za (pv 3) Zb)) rfl) 
      (Zg (Xu (X5 (K:=K) lL iH iI X0 (pv 3) (Za (pv 9) Zb))))) Zu) 
     (Zg (Xu (X5 (K:=K) lL iH iI X0 (pv 6) (Za (Ku (Sn hr) (pv 4) (pv 9) (λ_ _=>rfl)) Zb)))))))) 
    (Zg (Xu (X5 (K:=K) lL iH iI X0 (pv 5) (Za (Zy (Yv (K:=K)) (by rfl) Z.tuple Yu (Za (pv 6) Zb)) Zb))))))) 
   (Ze (Zr (i:=10) Zx.nd (by rfl) (Or.inl (by rfl)) (Yk Zb)) 
   (Ze (Xp lI (by rfl) (Zl2 (K:=K) (by rfl) Z.enumerate (pv 3)) (Vf (K:=K) (n:=2) (by rfl) (Ye (Zn (i:=11) Zx.nd (by rfl) (Or.inl (by rfl))) (Ye (Zn (i:=8) Zx.nd (by rfl) (Or.inl (by rfl))) Ve))) 
    (Zg (Yd (Yr (K:=K) (Z5 Yp (hr.mono (by decide)) (Za (pv 2) (Za (Yo (sc:=Zh Yl) (Nm:=XY) (own:=VJ) (fr:=[]) ⟨rfl,by decide +kernel,by decide +kernel,by decide +kernel,by decide +kernel⟩ (by rfl) (N1 (X1 (by decide) (X1 (by decide) Qx))) (Kt (K:=K) (by rfl) Z.zip (pv 1) (pv 8)) (λd=>(Vf (K:=K) (n:=2) (by rfl) (Ye (Zn (i:=0) W3 (by rfl) (Or.inl (by rfl))) (Ye (Zn (i:=1) W3 (by rfl) (Or.inl (by rfl))) Ve)))) (λd=>(Vs (Zp Xw (pv 1) (Zq Y0 (by rfl) Z.len Yw (Za (pv 0) Zb)) (Zw _)))) (λd=>(pv 0))) Zb))) (λ_=>rfl)) 
     (Zg (Xu (X5 (K:=K) lL iH iI X0 (pv 10) (Za (pv 11) Zb)))) Zu))) 
   (Zg (Zl (Z2 (Za (pv 0) (Za Zf (Za (Zy (Yv (K:=K)) (by rfl) Z.tuple Yu (Za (pv 10) Zb)) (Za (Zy (Yv (K:=K)) (by rfl) Z.tuple Yu (Za (pv 5) Zb)) Zb))))))))))))),?_⟩
 have z2:=F6.two;have ll:=len_list l;refine⟨_,rfl,q,rfl,⟨_,SqL.of hq⟩,?_⟩;refine Wl (K:=K) (a:=q) (xs:=zs.map V.str) (λi acc H2=>acc=(List.replicate i 0).map nI∧Zt H H2) (by rw[rW,sizeLine_eq];lia) ⟨rfl,Zt.refl _⟩ (λi acc H2 h=>by rw[h.1,rW,dB];exact rX _) (λi acc H2 h=>SqL.of (h.2 _ _ hq)) (λi acc H2 x hx h=>?_) (λacc H2 h y hy=>?_)
 ·obtain⟨rfl,e2⟩:=h;refine Kj ⟨?_,e2⟩;rw[aT,oK];rfl
 obtain⟨rfl,e2⟩:=h;have e3:=e2.trans (Zd hy (.lst ((List.replicate (zs.map V.str).length 0).map nI)));have h3:upd H2 y (.lst ((List.replicate (zs.map V.str).length 0).map nI)) y=some (.lst ((gnS zs []).map nI)):=by rw[Zc,Zer,rW]
 generalize upd H2 y _=H3 at e3 h3;refine⟨y,_,rfl,.inl ⟨SqL.of h3,λg0 tO=>?_⟩⟩;generalize eZ:upd H3 g0 _=H4;have s4:=nS7 eZ tO;have h4:=nU7 eZ;have e4:=e3.trans s4;refine⟨(by show 1≤sizeLine;decide),λrp fN=>?_⟩;have eG:=none_of e4 fN;generalize eZ:upd H4 rp _=H5;have s5:=nS7 eZ fN;have xE:=nU7 eZ;have jD:=s5 _ _ h4;have e5:=e4.trans s5;refine λdp xR=>?_;have qI:=none_of e5 xR;have s6:=Zd xR (.dT []);refine⟨_,rfl,rp,_,_,_,rfl,rfl,SqL.of (s6 _ _ xE),Zj (j:=0) rfl,_,_,rfl,Zc,g0,kI (gnS zs []),rfl,by rw[Zcl];exact s6 _ _ jD,?_⟩;rw[U3];generalize eZ:upd H5 dp _=H6;have s6:=nS7 eZ xR;have h6d:=nU7 eZ;have xF:=s6 _ _ xE;have h6g:=s6 _ _ jD;have e6:=e5.trans s6;refine⟨lB _,λsp eM=>?_⟩;have m8:=none_of e6 eM;have wG:rp≠sp:=Zi xF eM;have s7:=Zd eM (.lst []);have P7:Lk zs rp dp sp H (upd H6 sp (.lst [])) [V.ref g0] [gnS zs []] [(kI (gnS zs []),V.int 0)] [] []:=⟨s7 _ _ xF,.cons (s7 _ _ h6g) .nil,s7 _ _ h6d,rfl,λx hx=>⟨0,Nat.one_pos,by rw[rY.mp hx];rfl⟩,Zc,.nil,e6.trans s7,(by simp),λg hg=>⟨[],rY.mp hg⟩⟩;generalize upd H6 sp _=H7 at P7;clear s7 eM s6 h6d xF h6g e6 xR s5 xE jD e5 fN s4 h4 e4 tO h3 e3 hy e2
 refine⟨λmm σ H8=>∃(vs:List V) (gs:WA) (kvs:TB) (ws:List V) (st:WA) (v6 v7 v8 v9:Option V),mm=7-st.length∧σ=[some (.str l),some (.ref q),some v,some (.ref rp),some (.ref dp),some (.ref sp),v6,v7,v8,v9,none,none]∧Lk zs rp dp sp H H8 vs gs kvs ws st∧st.length≤gs.length∧0<gs.length∧∀r∈st,r.length=l.length∧∀x∈r,x<gs.length,
  ⟨_,_,_,_,_,_,none,none,none,none,rfl,rfl,P7,lB _,Nat.one_pos,nofun⟩,?_⟩
 rintro mm σ H8 ⟨vs,gs,kvs,ws,st,v6,v7,v8,v9,rfl,rfl,P8,hsg,hg0,Fd⟩;have g6:=P8.six F6;have xP:=P8.rr.len;have tF:=P8.sr.len;refine⟨_,rfl,sp,_,rfl,.inl (SqL.of P8.ss),_,rfl,rp,_,rfl,.inl (SqL.of P8.rm),_,_,rfl,rfl,_,rfl,?_⟩;refine Xx (λc1=>?_) (λc1=>?_)
 ·have c1:st.length<gs.length:=by
   have:=of_decide_eq_true c1;lia
  refine⟨λx4 H'=>∃m',m'<7-st.length∧_,λ_ _ z=>z,?_⟩;refine⟨lB _,λwp sQ=>?_⟩;have vZ:=none_of P8.e sQ;have nrw:rp≠wp:=Zi P8.rm sQ;have nsw:sp≠wp:=Zi P8.ss sQ;generalize eZ:upd H8 wp _=H9;have s9:=nS7 eZ sQ;have P9:=P8.same s9;have h9:=nU7 eZ;refine⟨_,rfl,l,rfl,?_⟩
  refine Td (cs:=l.cps.toList) (λj σ HA=>∃(vs:List V) (j8:WA) (kvs:TB) (rs:List Nat) (v7 v8 v9:Option V),σ=[some (.str l),some (.ref q),some v,some (.ref rp),some (.ref dp),some (.ref sp),some (.ref wp),v7,v8,v9,none,none]∧Lk zs rp dp sp H HA vs j8 kvs ws st∧gs.length≤j8.length∧HA wp=some (.lst (rs.map nI))∧rs.length=j∧∀x∈rs,x<j8.length)
   ⟨_,_,_,[],_,_,_,rfl,P9,rX _,h9,rfl,nofun⟩ ?_ ?_
  ·rintro j c σ HA hc ⟨vs,j8,kvs,rs,v7,v8,v9,rfl,PA,gO,hA,vU,i9⟩;have hj3:j<3:=by have:=(oG.mp hc).1;lia
   have g6':=PA.six F6;have xP:=PA.rr.len;have x5:st.length<vs.length:=by lia
   obtain⟨ga,g,r6,hg,vI⟩:=PA.rr.at_ (rZ x5);obtain⟨u,rfl⟩:=PA.gn g (oM hg);have yI:vs[ws.length]?=some (.ref ga):=by rw[tF,rZ x5,r6]
   refine⟨_,rfl,_,rfl,sp,_,rfl,.inl (SqL.of PA.ss),rp,_,_,_,rfl,rfl,SqL.of PA.rm,Zj yI,?_⟩;refine⟨_,rfl,_,rfl,q,ga,_,_,rfl,SqL.of (PA.e _ _ hq),SqT.of vI,?_⟩;refine Gb (c:=c) (PA.e _ _ hq) vI (by lia) (λz hz n H2 N hn kN=>?_) (λr HB eB nr=>?_)
   ·have z3:=(F6.Zt9 z hz).2.1;refine⟨_,rfl,_,rfl,_,rfl,_,rfl,_,rfl,_,_,rfl,rfl,_,rfl,z,rfl,Xn (by lia),_,rfl,rfl,.inr ⟨_,rfl,_,_,rfl,rfl,?_⟩⟩;have:=kN;rw[←Zjk hn]at this;exact this
   refine⟨r,_,rfl,.inl ⟨SqL.of Zc,λla sP=>?_⟩⟩;have sC:=eB.trans ((Zd nr (.lst ((gnS zs (u++[c])).map nI))).trans (Zd sP (.tup ((gnS zs (u++[c])).map nI))));have hC:upd (upd HB r (.lst ((gnS zs (u++[c])).map nI))) la (.tup ((gnS zs (u++[c])).map nI)) la=some (.tup ((kI (gnS zs (u++[c]))).map kV)):=by rw[Zc,Zcl]
   generalize upd (upd HB r (.lst ((gnS zs (u++[c])).map nI))) la (.tup ((gnS zs (u++[c])).map nI))=HC at sC hC;have PC:=PA.same sC;have hA:=sC _ _ hA
   have qY:kvs.length=j8.length:=by
    have:=congrArg List.length PC.ks;rwa[rW,rW]at this
   refine⟨λx4 H'=>∃(vs:List V) (j8:WA) (kvs:TB) (i:Nat),x4=[some (.str l),some (.ref q),some v,some (.ref rp),some (.ref dp),some (.ref sp),some (.ref wp),some (.str ⟨#[c]⟩),some (.ref ga),some (.ref la),none,none]∧Lk zs rp dp sp H H' vs j8 kvs ws st∧gs.length≤j8.length∧H' wp=some (.lst (rs.map nI))∧(∀x∈rs,x<j8.length)∧i<j8.length∧H' la=some (.tup ((kI (gnS zs (u++[c]))).map kV))∧W8 kvs (kI (gnS zs (u++[c])))=some (nI i),?_,?_⟩
   ·refine⟨_,rfl,_,rfl,dp,_,rfl,Lm.t (k:=kI (gnS zs (u++[c]))) PC.dc hC,_,rfl,?_⟩
    by_cases w5:gnS zs (u++[c])∈j8
    ·obtain⟨vv,pH⟩:=Zdj (kvs:=kvs) (k:=kI (gnS zs (u++[c]))) (by rw[PC.ks];exact dW w5);obtain⟨x,hx,sO,eK⟩:=Bu pH;obtain⟨i,hi,hi2⟩:=PC.vl x hx;rw[pH];exact ifN rfl ⟨_,_,_,i,rfl,PC,gO,hA,i9,hi,hC,by rw[pH,←eK,hi2]⟩
    ·have w8:W8 kvs (kI (gnS zs (u++[c])))=none:=K8 (by
      rw[PC.ks];intro z;obtain⟨g',qN,e⟩:=oU.mp z
      exact w5 (Zj1 e▸qN))
     rw[w8];refine ifY rfl ⟨_,rfl,rp,_,rfl,.inl (SqL.of PC.rm),_,rfl,_,rfl,dp,_,rfl,Fy.t (k:=kI (gnS zs (u++[c]))) PC.dc hC (by rw[sizeLine_eq];lia),?_⟩;rw[J5 _ w8];have jO:=(Zk (H:=HC) (o:=.dT (kvs++[(kI (gnS zs (u++[c])),V.int (vs.length:Int))])) (Yt PC.rm PC.dc λz=>nomatch z)).trans PC.rm;refine⟨_,rfl,.inl ⟨rfl,_,SqL.of jO⟩,_,rfl,rp,_,_,rfl,rfl,jO,by rw[sizeLine_eq];lia,?_⟩;have tk1:Tk HC (upd HC dp (.dT (kvs++[(kI (gnS zs (u++[c])),V.int (vs.length:Int))]))):=Tk.dct PC.dc _;have xU:=tk1.trans (Tk.lst jO (.lst (vs++[V.ref la])));have nwd:wp≠dp:=Yt hA PC.dc λz=>nomatch z;have nsd:sp≠dp:=Yt PC.ss PC.dc λz=>nomatch z;have ndr:dp≠rp:=Yt PC.dc PC.rm λz=>nomatch z;refine⟨vs++[V.ref la],j8++[gnS zs (u++[c])],kvs++[(kI (gnS zs (u++[c])),V.int (vs.length:Int))],vs.length,rfl,⟨Zc,(PC.rr.keep xU).snoc (by rw[←Zcl];exact xU _ _ hC),(Zk ndr).trans Zc,by rw[oK,oK,PC.ks];rfl,λx hx=>?_,(Zk wG.symm).trans ((Zk nsd).trans PC.ss),PC.sr.keep xU,Xe (Xe PC.e qI _) eG _,?_,λg hg=>?_⟩,?_,(Zk nrw.symm).trans ((Zk nwd).trans hA),λx hx=>?_,?_,xU _ _ hC,F1 w8⟩
     ·rw[oB]
      rcases oJ.mp hx with z|z
      ·obtain⟨i,h1,h2⟩:=PC.vl x z;exact⟨i,oS h1 (dO _ _),h2⟩
      ·rw[rY.mp z];exact⟨vs.length,by rw[xP];exact iU _,rfl⟩
     ·rw[cC];refine⟨PC.nd,by simp,λa ha b hb e=>w5 ?_⟩;rw[←rY.mp hb,←e];exact ha
     ·rcases oJ.mp hg with z|z
      ·exact PC.gn g z
      ·exact⟨_,rY.mp z⟩
     ·rw[oB];lia
     ·rw[oB];exact oS (i9 x hx) (dO _ _)
     ·rw[oB,xP];exact iU _
   ·rintro x4 HE ⟨vs,j8,kvs,i,rfl,PE,gO,hE,i9,hi,hla,hv⟩;refine⟨_,rfl,.inl ⟨rfl,_,SqL.of hE⟩,_,rfl,_,rfl,dp,_,rfl,(by rw[←hv];exact Lm.t PE.dc hla),wp,_,_,rfl,rfl,hE,by rw[rW,sizeLine_eq];lia,?_⟩;refine⟨vs,j8,kvs,rs++[i],_,_,_,rfl,PE.put hE nrw nsw vZ _,gO,?_,by rw[oB,vU];rfl,λx hx=>?_⟩
    ·rw[Zc,oK];rfl
    ·rcases oJ.mp hx with z|z
     ·exact i9 x z
     ·rw[rY.mp z];exact hi
  ·rintro σ HA ⟨vs,j8,kvs,rs,v7,v8,v9,rfl,PA,gO,hA,vU,i9⟩;refine⟨_,rfl,.inl ⟨rfl,_,SqL.of PA.ss⟩,_,rfl,wp,_,rfl,.inl ⟨SqL.of hA,λra nra=>?_⟩⟩;generalize eZ:upd HA ra _=HB;have sB:=nS7 eZ nra;have PB:=PA.same sB;have hB:=nU7 eZ;refine⟨sp,_,_,rfl,rfl,PB.ss,by rw[sizeLine_eq];lia,6-st.length,by lia,vs,j8,kvs,ws++[V.ref ra],st++[rs],_,_,_,_,?_,rfl,?_,?_,by lia,λr hr=>?_⟩
   ·rw[oB];show 6-st.length=7-(st.length+1);lia
   ·have tk:=Tk.lst PB.ss (.lst (ws++[V.ref ra]));exact⟨(Zk wG).trans PB.rm,PB.rr.keep tk,(Zk (Yt PB.dc PB.ss λz=>nomatch z)).trans PB.dc,PB.ks,PB.vl,Zc,(PB.sr.keep tk).snoc (tk _ _ hB),Xe PB.e m8 _,PB.nd,PB.gn⟩
   ·rw[oB];show st.length+1≤j8.length;lia
   ·rcases oJ.mp hr with z|z
    ·obtain⟨h1,h2⟩:=Fd r z;exact⟨h1,λx hx=>oS (h2 x hx) gO⟩
    ·rw[rY.mp z];exact⟨by lia,i9⟩
 ·have c1:st.length=gs.length:=by
   have:¬ ws.length<vs.length:=λz=>c1 (decide_eq_true (by lia));lia
  refine⟨lB _,λep eL=>?_⟩;have qJ:=none_of P8.e eL;have nre:rp≠ep:=Zi P8.rm eL;have nse:sp≠ep:=Zi P8.ss eL;generalize eZ:upd H8 ep _=H9;have s9:=nS7 eZ eL;have P9:=P8.same s9;have h9:=nU7 eZ;refine⟨_,rfl,rp,_,rfl,.inl ⟨SqL.of P9.rm,?_⟩⟩;refine Zkl (Sq:=λH xs=>SqL K H rp xs) (xs:=vs) (λi σ HA=>∃(es:List Nat) (v8 v11:Option V),σ=[some (.str l),some (.ref q),some v,some (.ref rp),some (.ref dp),some (.ref sp),v6,v7,v8,v9,some (.ref ep),v11]∧Lk zs rp dp sp H HA vs gs kvs ws st∧HA ep=some (.lst (es.map nI))∧es.length≤i∧∀x∈es,x<i) ⟨[],_,_,rfl,P9,h9,rX _,nofun⟩ (λi σ HA _ ⟨_,_,_,_,PA,_⟩=>SqL.of PA.rm) ?_ ?_
  ·rintro i x σ HA tp hx ⟨es,v8,v11,rfl,PA,hA,j6,c0⟩ wH;obtain⟨ga,g,rfl,hg,vI⟩:=PA.rr.at_ hx;obtain⟨u,rfl⟩:=PA.gn g (oM hg);have hi6:i<6:=by have:=(oG.mp hg).1;lia
   generalize eZ:upd HA tp _=HB;have sB:=nS7 eZ wH;have hB:=nU7 eZ;have PB:=PA.same sB;have hBe:=sB _ _ hA;have hBg:=sB _ _ vI;refine⟨tp,_,rfl,SqT.of hB,rfl,_,_,rfl,_,_,rfl,rfl,?_⟩;refine⟨_,rfl,_,rfl,_,rfl,q,ga,_,_,rfl,SqL.of (PB.e _ _ hq),SqT.of hBg,?_⟩;refine Ga (PB.e _ _ hq) hBg (by lia) (λz hz n H2 N kN=>?_) (λz n H2 N kN=>⟨_,rfl,kN⟩) (λr HC sU eC nr hws=>?_)
   ·have z3:=(F6.Zt9 z hz).2.1;refine⟨_,rfl,_,rfl,z,rfl,Xn (by lia),rfl,_,rfl,?_⟩
    have:decide (nI n=V.int ((z.length:Nat):Int))=decide (n=z.length):=by
     rw[lH,decide_eq_true_eq,decide_eq_true_eq];exact⟨λq=>by have:=V.int.inj q;lia,λq=>by rw[q];rfl⟩
    rw[←this]at kN;exact kN
   have sD:=eC.trans (Zd nr (.lst (sU.map V.str)));have hD:=Zc (H:=HC) (a:=r) (o:=.lst (sU.map V.str));generalize upd HC r _=HD at sD hD;have PD:=PB.same sD;have hDe:=sD _ _ hBe;refine⟨v,r,W,sU,rfl,hW.keep (Tk.same PD.e),hd,hD,λHE sE=>⟨_,rfl,?_⟩⟩;have PE:=PD.same sE;have vG:=sE _ _ hDe;refine Xx (λ_=>?_) (λ_=>?_)
   ·refine⟨_,rfl,.inl ⟨rfl,_,SqL.of vG⟩,_,rfl,ep,_,_,rfl,rfl,vG,by rw[rW,sizeLine_eq];lia,es++[i],_,_,rfl,PE.put vG nre nse qJ _,?_,?_,λx hx=>?_⟩
    ·rw[Zc,oK];rfl
    ·rw[oB];show es.length+1≤i+1;lia
    ·rcases oJ.mp hx with z|z
     ·exact dC (c0 x z)
     ·rw[rY.mp z];exact iU _
   ·exact⟨es,_,_,rfl,PE,vG,by lia,λx hx=>dC (c0 x hx)⟩
  ·rintro σ HA ⟨es,v8,v11,rfl,PA,hA,j6,c0⟩;refine⟨_,rfl,_,rfl,ep,_,rfl,.inl ⟨SqL.of hA,λea nea=>?_⟩⟩;generalize eZ:upd HA ea _=HB;have sB:=nS7 eZ nea;have hB:=nU7 eZ;have PB:=PA.same sB;refine⟨_,rfl,sp,_,rfl,.inl ⟨SqL.of PB.ss,λsa fO=>?_⟩⟩;generalize eZ:upd HB sa _=HC;have sC:=nS7 eZ fO;have hC:=nU7 eZ;have hCe:=sC _ _ hB;have PC:=PB.same sC;refine⟨(by show 4≤sizeLine;decide),λm nm=>?_⟩;have sD:=Zd nm (.tup [V.str l,V.int 0,V.ref ea,V.ref sa]);have PD:=PC.same sD;obtain⟨ras,ew,nX,Zun⟩:=PD.sr.refs;rw[xP]at j6 c0;refine k m es st _ PD.e ⟨⟨ea,sa,ras,Zc,sD _ _ hCe,by rw[←ew];exact sD _ _ hC,nX,Zun⟩,⟨u8,t6,by lia⟩,by lia,λr hr=>?_⟩ ⟨by lia,λx hx=>by have:=c0 x hx;lia,by lia⟩;obtain⟨h1,h2⟩:=Fd r hr;exact⟨h1,λx hx=>by have:=h2 x hx;lia⟩
inductive Zhw(vs:List V)(H:Hp)(Q:VK):Prop
 |mk(p sc:Addr)(l:Str)(most:Int)(h1:vs=[.ref p,.str l,.int most])(h2:0<l.length)(h3:l.length≤3)(h4:0<most)(h5:most≤6)(h6:Yb H p sc)(h7:∀t m1 m2 b1 b2 es1 es2 st1 st2 H',H' t=some (.tup [.ref m1,.ref m2])→Yc H' m1 l b1 es1 st1→Zdd es1 st1→Yc H' m2 l b2 es2 st2→Zdd es2 st2→Zz H H' p→Yb H' p sc→Q (.ref t) H'):Zhw vs H Q
def Zns:Sp:=λvs H Q _=>Zhw vs H Q
theorem Pw(F:Fun K "_law_two_machines" "_law_two_machines" Wt f fd)(Z:Blt mg)(Yz:Cal P w K mg base "_law_drawn_machine" 3 WB Wx)(V8:Cal P w K mg base "_law_few_words" 4 UH Zh6)(Zm:Cal P w K mg base "_law_pick" 1 WI V2)(Xk:Cal P w K mg base "_law_places_machine" 7 UA (By K))(Yn:Cal P w K mg base "_law_rising_machine" 2 WB Wx)(X7:Cal P w K mg base "_law_turned_ends" 1 ["_law_machine_here"] Zhx)(Y6:Cal P w K mg base "_law_wish_by" 4 WL (Se K 3)):Ya P w K mg base CX0 8 f fd WB Zns:=by
 refine F.ok Yq (λvs H Q E h=>?_) (λcdv A outer s H vs Q E hr h=>?_)
 ·obtain⟨p,sc,l,most,rfl,_⟩:=h;rfl
 obtain⟨p,sc,l,most,rfl,u8,t6,j7,vS,FA,k⟩:=h
 refine⟨_,(Ze (Zr (i:=3) Yq.nd (by rfl) (Or.inl (by rfl)) (Z5 Zm (hr.mono (by decide)) (Za (pv 0) (Za Zf Zb)))) 
   (Ze (Yd (Zp An (pv 3) Zf (Zw _)) 
    (Zg (Zl (Z2 (Za (Z5 Yz (hr.mono (by decide)) (Za (pv 0) (Za (pv 1) (Za (pv 2) Zb)))) (Za (Z5 Yz (hr.mono (by decide)) (Za (pv 0) (Za (pv 1) (Za (pv 2) Zb)))) Zb))))) Zu) 
   (Ze (Yd (Zp Xw (pv 3) Zf (Zw _)) 
    (Ze (Zr (i:=4) Yq.nd (by rfl) (Or.inl (by rfl)) (Z5 Yn (hr.mono (by decide)) (Za (pv 0) (Za (pv 1) (Za (pv 2) Zb))))) 
    (Zg (Zl (Z2 (Za (pv 4) (Za (Z5 X7 (hr.mono (by decide)) (Za (pv 4) Zb)) Zb)))))) Zu) 
   (Ze (Zr (i:=5) Yq.nd (by rfl) (Or.inl (by rfl)) (Z5 V8 (hr.mono (by decide)) (Za (pv 0) (Za (pv 1) Zb)))) 
   (Ze (Zr (i:=6) Yq.nd (by rfl) (Or.inl (by rfl)) (Z5 Y6 (hr.mono (by decide)) (Za (pv 0) (Za (pv 5) (Za Zf Zb))))) 
   (Ze (Zr (i:=4) Yq.nd (by rfl) (Or.inl (by rfl)) (Z5 Xk (hr.mono (by decide)) (Za (pv 1) (Za (pv 5) (Za (pv 6) Zb))))) 
   (Ze (Yd (Zp Xw (pv 3) Zf (Zw _)) 
    (Zg (Zl (Z2 (Za (pv 4) (Za (Z5 X7 (hr.mono (by decide)) (Za (pv 4) Zb)) Zb))))) Zu) 
   (Ze (Yd (Zp Xw (pv 3) Zf (Zw _)) 
    (Zg (Zl (Z2 (Za (pv 4) (Za (Z5 Xk (hr.mono (by decide)) (Za (pv 1) (Za (pv 5) (Za (Z2 (Za Z4 (Za (Z2 (Za Z4 (Za (pv 6) Zb))) (Za (Z5 Y6 (hr.mono (by decide)) (Za (pv 0) (Za (pv 5) (Za Zf Zb)))) Zb)))) Zb)))) Zb))))) Zu) 
   (Zg (Zl (Z2 (Za (pv 4) (Za (Z5 Yz (hr.mono (by decide)) (Za (pv 0) (Za (pv 1) (Za (pv 2) Zb)))) Zb))))))))))))),?_⟩
 refine⟨_,rfl,p,sc,6,rfl,by decide,by decide,FA,λr0 xW h00 h01 xQ=>?_⟩;have z7:=FA.go xQ;have d0:Zz H (upd H p (.lst xW)) p:=Zz.upd _;generalize upd H p _=H0 at z7 d0;refine⟨_,rfl,_,_,rfl,rfl,_,rfl,Xx (λ_=>?_) (λ_=>?_)⟩
 ·refine⟨_,rfl,_,rfl,_,rfl,p,sc,l,most,rfl,u8,t6,j7,vS,z7,λm1 b1 es1 st1 H1 M1 E1 d1 mK=>?_⟩;refine⟨_,rfl,_,rfl,_,rfl,p,sc,l,most,rfl,u8,t6,j7,vS,mK,λm2 b2 es2 st2 H2 M2 E2 d2 y9=>⟨(by show 2≤sizeLine;decide),λt nt=>?_⟩⟩;have s3:=Zd nt (.tup [V.ref m1,V.ref m2]);exact k t m1 m2 b1 b2 es1 es2 st1 st2 _ Zc ((M1.keep (Tk.drew mK d2)).same s3) E1 (M2.same s3) E2 (((d0.trans d1).trans d2).trans (Zz.same s3)) (y9.same s3)
 refine⟨_,rfl,rfl,_,rfl,Xx (λ_=>?_) (λ_=>?_)⟩
 ·refine⟨_,rfl,_,rfl,_,rfl,p,sc,l,most,rfl,u8,t6,j7,vS,z7,λm1 b1 es1 st1 H1 M1 E1 d1 mK=>?_⟩;refine⟨_,rfl,_,rfl,m1,l,b1,es1,st1,rfl,M1,E1,λm2 es2 H2 e2 M2 E2=>⟨(by show 2≤sizeLine;decide),λt nt=>?_⟩⟩;have s3:=e2.trans (Zd nt (.tup [V.ref m1,V.ref m2]));exact k t m1 m2 b1 b1 es1 es2 st1 st1 _ Zc (M1.same s3) E1 (M2.same (Zd nt _)) E2 ((d0.trans d1).trans (Zz.same s3)) (mK.same s3)
 refine⟨_,rfl,_,rfl,p,sc,l,rfl,z7,u8,t6,λq zs H1 nq d1 mK hq F6=>?_⟩;have mC:q≠p:=Zcg z7 nq;have z10:zs.length≤10:=lC F6.two (by decide);refine⟨_,rfl,_,rfl,p,sc,q,zs,2,rfl,hq,mC,F6.pos,z10,by decide,by decide,mK,λv W H2 hW hd hok d2 y9=>?_⟩;have hq2:=d2 _ _ hq mC;have hZ:W.dep<5:=by lia
 refine⟨_,rfl,_,rfl,_,rfl,l,q,v,W,zs,rfl,u8,t6,hq2,F6,hW,hZ,λm1 es1 st1 H3 e3 M1 E1=>?_⟩;have d3:=((d0.trans d1).trans d2).trans (Zz.same e3);have m7:=y9.same e3;have hq3:=e3 _ _ hq2;have hW:=hW.keep (Tk.same e3);refine⟨_,rfl,rfl,_,rfl,Xx (λ_=>?_) (λ_=>?_)⟩
 ·refine⟨_,rfl,_,rfl,m1,l,0,es1,st1,rfl,M1,E1,λm2 es2 H4 e4 M2 E2=>⟨(by show 2≤sizeLine;decide),λt nt=>?_⟩⟩;have s5:=e4.trans (Zd nt (.tup [V.ref m1,V.ref m2]));exact k t m1 m2 0 0 es1 es2 st1 st1 _ Zc (M1.same s5) E1 (M2.same (Zd nt _)) E2 (d3.trans (Zz.same s5)) (m7.same s5)
 refine⟨_,rfl,rfl,_,rfl,Xx (λ_=>?_) (λ_=>?_)⟩
 ·refine⟨_,rfl,_,rfl,_,rfl,_,rfl,(by show 2≤sizeLine;decide),λa na=>?_⟩;have s4:=Zd na (.tup [V.str (Str.ofString "not"),v]);have hn:WK K (upd H3 a (.tup [V.str (Str.ofString "not"),v])) (.ref a) (.nt W):=Zg7 Zc (hW.keep (Tk.same s4));have d4:=d3.trans (Zz.same (p:=p) s4);have y7:=m7.same s4;have nR:=s4 _ _ hq3;have M1:=M1.same s4;generalize upd H3 a _=H4 at s4 hn d4 y7 nR M1;refine⟨_,rfl,_,rfl,p,sc,q,zs,2,rfl,nR,mC,F6.pos,z10,by decide,by decide,y7,λv2 W2 H5 jY hd2 _ d5 t5=>⟨(by show 3≤sizeLine;decide),λb nb=>?_⟩⟩;have hn:=hn.keep (Tk.drew y7 d5);have nU:=d5 _ _ nR mC;have M1:=M1.keep (Tk.drew y7 d5);have s6:=Zd nb (.tup [V.str (Str.ofString "and"),.ref a,v2]);have hb:WK K (upd H5 b (.tup [V.str (Str.ofString "and"),.ref a,v2])) (.ref b) (.bi true (.nt W) W2):=Zg9 (b:=true) Zc (hn.keep (Tk.same s6)) (jY.keep (Tk.same s6))
  have u7:(Wi.bi true (.nt W) W2).dep<5:=by
   simp only[Wi.dep];lia
  refine⟨l,q,_,_,zs,rfl,u8,t6,s6 _ _ nU,F6,hb,u7,λm2 es2 st2 H6 e6 M2 E2=>⟨(by show 2≤sizeLine;decide),λt nt=>?_⟩⟩;have s7:=(s6.trans e6).trans (Zd nt (.tup [V.ref m1,V.ref m2]));exact k t m1 m2 0 0 es1 es2 st1 st2 _ Zc (M1.same s7) E1 (M2.same (Zd nt _)) E2 ((d4.trans d5).trans (Zz.same s7)) (t5.same s7)
 ·refine⟨_,rfl,_,rfl,_,rfl,_,rfl,p,sc,l,most,rfl,u8,t6,j7,vS,m7,λm2 b2 es2 st2 H4 M2 E2 d4 y7=>⟨(by show 2≤sizeLine;decide),λt nt=>?_⟩⟩;have s5:=Zd nt (.tup [V.ref m1,V.ref m2]);exact k t m1 m2 0 b2 es1 es2 st1 st2 _ Zc ((M1.keep (Tk.drew m7 d4)).same s5) E1 (M2.same s5) E2 ((d3.trans d4).trans (Zz.same s5)) (y7.same s5)
def kD(zs:List Str)(l:Str)(st1 st2:WA)(b1 b2:Nat)(u:List Nat):NK:=[.inl (.inl (way l st1 b1 u:Int)),.inl (.inl (way l st2 b2 u:Int)),.inr (kI (gnS zs u))]
theorem Zm0{k:Nat}(hW:W15 k l.cps.toList)(h1:∀u:List Nat,(∀c∈u,c∈l.cps.toList)→way l st1 b1 u<6)(h2:∀u:List Nat,(∀c∈u,c∈l.cps.toList)→way l st2 b2 u<6)(hz:∀z∈zs,z.length≤k∧∀c∈z.cps.toList,c∈l.cps.toList)
  {ks:List NK} (nd:ks.Nodup) (hk:∀x∈ks,∃u:List Nat,(∀c∈u,c∈l.cps.toList)∧x=kD zs l st1 st2 b1 b2 u):ks.length≤1179648:=by
 obtain⟨all,ha,Ld⟩:=hW;have h:=Zko (β:=List Str×Nat×Nat) (λx b=>∃u:List Nat,(∀c∈u,c∈l.cps.toList)∧x=kD zs l st1 st2 b1 b2 u∧b=(all.filter (lies u),way l st1 b1 u,way l st2 b2 u)) ?_ ks ((subs all).flatMap λs=>(List.range 6).flatMap λr=>(List.range 6).map λt=>(s,r,t)) nd λx hx=>?_
 ·rw[Ss (n:=36) (λs=>by rw[Ss (n:=6) λr=>by rw[rW,dS]];rfl),Jf]at h;have:2 ^ all.length≤2 ^ 15:=aS (by decide) ha;lia
 ·rintro x y b ⟨u,hu,rfl,e1⟩ ⟨v,hv,rfl,e2⟩;rw[e1]at e2
  injection e2 with e2 e3
  injection e3 with e3 e4
  have hg:gnS zs u=gnS zs v:=by
   unfold gnS;refine ZA λz yW=>?_;obtain⟨q1,q2⟩:=hz z yW;refine Zu3 q1 λw hw hc=>?_;have w5:S w∈all:=Ld w hw λc z9=>q2 c (hc c z9)
   have key:∀u:List Nat,w.Sublist u↔S w∈all.filter (lies u):=λu=>by
    rw[lU];unfold lies;rw[decide_eq_true_eq,show (S w).cps.toList=w by simp[S]];exact⟨λq=>⟨w5,q⟩,λq=>q.2⟩
   rw[key u,key v,e2]
  unfold kD;rw[e3,e4,hg]
 ·obtain⟨u,hu,rfl⟩:=hk x hx;exact⟨_,cW.mpr ⟨_,U4 _ _,cW.mpr ⟨_,lZ.mpr (h1 u hu),oU.mpr ⟨_,lZ.mpr (h2 u hu),rfl⟩⟩⟩,u,hu,rfl,rfl⟩
theorem Zud(h:NAt H (kD zs l st1 st2 b1 b2 u) a):∃b,H a=some (.tup [nI (way l st1 b1 u),nI (way l st2 b2 u),.ref b])∧H b=some (.tup ((gnS zs u).map nI)):=by
 obtain⟨vs,h1,h2⟩:=h
 cases h2 with
 |key t=>
  cases t with
  |key t=>
   cases t with
   | @tup ks b _ _ q t=>
    cases t;rw[←Zcl];exact⟨b,h1,q⟩
theorem Zoq{b:Addr}(h1:H a=some (.tup [nI (way l st1 b1 u),nI (way l st2 b2 u),.ref b]))(h2:H b=some (.tup ((gnS zs u).map nI))):NAt H (kD zs l st1 st2 b1 b2 u) a:=⟨_,h1,.key (.key (.tup (by rw[Zcl];exact h2) .nil))⟩
theorem Wi.D3{p:Str→Prop}:∀{W:Wi},(∀z∈W.wds,p z)→W.ok p
 |.lf _,_=>True.intro
 |.has z,h=>h z (by simp[Wi.wds,Wi.pre,Wi.wd])
 |.nt x,h=>Wi.D3 (W:=x) (by rwa[Wi.Zbd]at h)
 |.bi b x y,h=>by
  rw[Wi.Zbe]at h;exact⟨Wi.D3 (W:=x) λz hz=>h z (lF _ hz),Wi.D3 (W:=y) λz hz=>h z (oX _ hz)⟩
structure Ra(P:Program)(w:World)(zs:List Str)(l:Str)(st1 st2:WA)(b1 b2:Nat)(W:Wi)(wp dp ep:Addr)(H H5:Hp)(vs:List V)(xs:NX)(kvs:TB):Prop where
 wt:H5 wp=some (.lst vs)
 wv:∀v∈vs,∃a u,v=.ref a∧NAt H5 (kD zs l st1 st2 b1 b2 u) a∧∀c∈u,c∈l.cps.toList
 me:H5 dp=some (dN P w [true,true,false] dp xs)
 mx:∀x∈xs,NAt H5 x.1 x.2.1
 mu:∀x∈xs,∃u:List Nat,(∀c∈u,c∈l.cps.toList)∧x.1=kD zs l st1 st2 b1 b2 u
 nd:(xs.map (·.1)).Nodup
 kn:H5 ep=some (.dT kvs)
 ku:∀x∈kvs,∃u:List Nat,x.1=kI (gnS zs u)∧x.2=.bl (ev (lies u) W)
 le:kvs.length+vs.length≤xs.length
 e:Zt H H5
section
variable {zs:List Str}{l:Str}{st1 st2:WA}{b1 b2:Nat}{W:Wi}{wp dp ep:Addr}{H H5 H6:Hp}{vs:List V}{xs:NX}{kvs:TB}
theorem Ra.same(d:Ra P w zs l st1 st2 b1 b2 W wp dp ep H H5 vs xs kvs)(e:Zt H5 H6):Ra P w zs l st1 st2 b1 b2 W wp dp ep H H6 vs xs kvs:=
 ⟨e _ _ d.wt,λv hv=>let ⟨a,u,h1,h2,h3⟩:=d.wv v hv;⟨a,u,h1,h2.keep (Tk.same e),h3⟩,e _ _ d.me,λx hx=>(d.mx x hx).keep (Tk.same e),d.mu,d.nd,e _ _ d.kn,d.ku,d.le,d.e.trans e⟩
theorem Ra.tab(d:Ra P w zs l st1 st2 b1 b2 W wp dp ep H H5 vs xs kvs):Kn P w [true,true,false] H5 dp xs:=⟨.inl d.me,d.mx,λx hx=>by
 obtain⟨u,_,e⟩:=d.mu x hx;rw[e]
 rfl⟩
theorem Ra.wait(d:Ra P w zs l st1 st2 b1 b2 W wp dp ep H H5 vs xs kvs)(h0:H wp=none){vs':List V}(hv:∀v∈vs',∃a u,v=.ref a∧NAt H5 (kD zs l st1 st2 b1 b2 u) a∧∀c∈u,c∈l.cps.toList)(hl:kvs.length+vs'.length≤xs.length):Ra P w zs l st1 st2 b1 b2 W wp dp ep H (upd H5 wp (.lst vs')) vs' xs kvs:=
 have tk:=Tk.lst d.wt (.lst vs')
 ⟨Zc,λv u6=>let ⟨a,u,h1,h2,h3⟩:=hv v u6;⟨a,u,h1,h2.keep tk,h3⟩,(Zk (Yt d.me d.wt λz=>nomatch z)).trans d.me,λx hx=>(d.mx x hx).keep tk,d.mu,d.nd,(Zk (Yt d.kn d.wt λz=>nomatch z)).trans d.kn,d.ku,hl,Xe d.e h0 _⟩
theorem Ra.know(d:Ra P w zs l st1 st2 b1 b2 W wp dp ep H H5 vs xs kvs)(h0:H ep=none)(u:List Nat)(hl:kvs.length+1+vs.length≤xs.length):Ra P w zs l st1 st2 b1 b2 W wp dp ep H (upd H5 ep (.dT (kvs++[(kI (gnS zs u),.bl (ev (lies u) W))]))) vs xs (kvs++[(kI (gnS zs u),.bl (ev (lies u) W))]):=
 have tk:=Tk.dct d.kn (.dT (kvs++[(kI (gnS zs u),.bl (ev (lies u) W))]))
 ⟨(Zk (Yt d.wt d.kn λz=>nomatch z)).trans d.wt,λv u6=>let ⟨a,u,h1,h2,h3⟩:=d.wv v u6;⟨a,u,h1,h2.keep tk,h3⟩,(Zk (Yt d.me d.kn λz=>nomatch z)).trans d.me,λx hx=>(d.mx x hx).keep tk,d.mu,d.nd,Zc,λx hx=>by
  rcases oJ.mp hx with z|z
  ·exact d.ku x z
  ·rw[rY.mp z]
   exact⟨u,rfl,rfl⟩,by rw[oB];exact hl,Xe d.e h0 _⟩
theorem Ra.meet(d:Ra P w zs l st1 st2 b1 b2 W wp dp ep H H5 vs xs kvs)(h0:H dp=none)(hu:∀c∈u,c∈l.cps.toList)(ha:NAt H5 (kD zs l st1 st2 b1 b2 u) a)(hn:valN xs (kD zs l st1 st2 b1 b2 u)=none):Ra P w zs l st1 st2 b1 b2 W wp dp ep H (upd H5 dp (dN P w [true,true,false] dp (xs++[(kD zs l st1 st2 b1 b2 u,a,v)]))) vs (xs++[(kD zs l st1 st2 b1 b2 u,a,v)]) kvs:=by
 have tk:Tk H5 (upd H5 dp (dN P w [true,true,false] dp (xs++[(kD zs l st1 st2 b1 b2 u,a,v)]))):=λq ys hz=>by
  rw[Zk (Yt hz d.me λz=>nomatch z)];exact hz
 refine⟨(Zk (Yt d.wt d.me λz=>nomatch z)).trans d.wt,λv u6=>let ⟨a,u,h1,h2,h3⟩:=d.wv v u6;⟨a,u,h1,h2.keep tk,h3⟩,Zc,λx hx=>?_,λx hx=>?_,?_,(Zk (Yt d.kn d.me λz=>nomatch z)).trans d.kn,d.ku,by rw[oB];exact lC d.le (dO _ _),Xe d.e h0 _⟩
 ·rcases oJ.mp hx with z|z
  ·exact(d.mx x z).keep tk
  ·rw[rY.mp z];exact ha.keep tk
 ·rcases oJ.mp hx with z|z
  ·exact d.mu x z
  ·rw[rY.mp z];exact⟨u,hu,rfl⟩
 ·rw[oK,cC];refine⟨d.nd,by simp,λp hp q hq e=>Mj.mp hn ?_⟩;have:q=kD zs l st1 st2 b1 b2 u:=by simpa using hq
  rw[←this,←e];exact hp
end
theorem Zmp{tA tB tC:TT}{tr rest:TS}{D:Ends}{x:V}{a b s:Bool}(hA:∀N:Bool→Hp→Prop,N a H→tA (σ.set i (some x)) H N)(hB:∀N:Bool→Hp→Prop,N b H→tB (σ.set i (some x)) H N)(hC:∀N:Bool→Hp→Prop,N s H→tC (σ.set i (some x)) H N)(h1:a=true→s=true)(h2:b=true→s=false)(k:rest D (σ.set i (some x)) H):So i x σ H (X8 (Zlq (tOr (Zls tA (Zso tC)) (Zls tB tC)) tr Znn) rest D):=by
 have more:Zls tB tC (σ.set i (some x)) H λb H1=>if b=true then tr { D with nx:=rest D } (σ.set i (some x)) H1 else rest D (σ.set i (some x)) H1:=by
  refine hB _ ?_
  cases b with
  |true=>exact C5 (hC _ (by rw[h2 rfl];exact U2 k))
  |false=>exact U2 (U2 k)
 refine hA _ ?_
 cases a with
 |true=>exact C5 (hC _ (by rw[h1 rfl];exact U2 more))
 |false=>exact U2 (U2 more)
theorem Znb(n:Nat):(List.replicate n false).any id=false:=by
 induction n with
 |zero=>rfl
 |succ n ih=>rw[bT,aU,ih];rfl
theorem Kg(F:Fun K "_law_wish_due" "_law_wish_due" Xa f fd)(Z:Blt mg)(Yp:Cal P w K mg base "_law_by_words" 35 VA (Jp K 34))(Ww:Cal P w K mg base "_law_room" 1 VL Jl)(We:Cal P w K mg base "_law_words_in" 38 WY (F8 K 34)):Ya P w K mg base CX0 39 f fd VZ (Zsy K):=by
 refine F.ok Z8 (λvs H Q E h=>?_) (λcdv A outer s H vs Q E hr h=>?_)
 ·obtain⟨m1,m2,l,b1,b2,es1,es2,st1,st2,v,W,k,rfl,_⟩:=h;rfl
 obtain⟨m1,m2,l,b1,b2,es1,es2,st1,st2,v,W,kn,rfl,M1,M2,t6,i8,eF,c5,Zri,hW,hD,k⟩:=h
 refine⟨_,(Ze (Zr (i:=4) Z8.nd (by rfl) (Or.inl (by rfl)) (Z5 We (hr.mono (by decide)) (Za (pv 2) Zb))) 
   (Ze (Yd (Yr (K:=K) (Zq (Zgx (K:=K)) (by rfl) Z.any Zr1 (Za (Yo (sc:=Zh Xa) (Nm:=XU) (own:=VC) (fr:=[3]) ⟨rfl,by decide +kernel,by decide +kernel,by decide +kernel,by decide +kernel⟩ (by rfl) (Ym (by decide)) (Xg (K:=K) (pv 4)) (λd=>(Zn (i:=0) N0 (by rfl) (Or.inl (by rfl)))) (λd=>Xt) (λd=>(Wj Ao (Zq Y0 (by rfl) Z.len Yw (Za (pv 0) Zb)) (pv 1) (Zw _)))) Zb)) (λ_=>rfl)) 
    (Zg (Zl W0)) Zu) 
   (Ze (Zr (i:=5) Z8.nd (by rfl) (Or.inl (by rfl)) (Yk (Za (Z2 (Za (Zs (Zo (K:=K)) (pv 0) Zf (λ_ _=>rfl)) (Za (Zs (Zo (K:=K)) (pv 1) Zf (λ_ _=>rfl)) (Za (Zy (Yv (K:=K)) (by rfl) Z.tuple Yu (Za (Yo (sc:=Zh Xa) (Nm:=XU) (own:=VC) (fr:=[]) ⟨rfl,by decide +kernel,by decide +kernel,by decide +kernel,by decide +kernel⟩ (by rfl) (Ym (by decide)) (Xg (K:=K) (pv 4)) (λd=>(Zn (i:=0) Nz (by rfl) (Or.inl (by rfl)))) (λd=>Xt) (λd=>Zf)) Zb)) Zb)))) Zb))) 
   (Ze (Zr (i:=6) Z8.nd (by rfl) (Or.inl (by rfl)) (Ai (P:=P) (w:=w) (sh:=[true,true,false]) (hu2 hr) (Zs (Z3 (K:=K)) (pv 5) Zf (λ_ _=>rfl)) W0)) 
   (Ze (Zr (i:=7) Z8.nd (by rfl) (Or.inl (by rfl)) Ah) 
   (Ze (J7 lI (Zp Ao (Zq (Yh (K:=K)) (by rfl) Z.len Yw (Za (pv 5) Zb)) Zf (Zw _)) 
    (Ze (S2 (Zl7 (K:=K) lL PySem.F.slot_list_pop PySem.F.type_list_pop Zqk (pv 5)) (Vf (K:=K) (n:=3) (by rfl) (Ye (Zn (i:=8) Z8.nd (by rfl) (Or.inl (by rfl))) (Ye (Zn (i:=9) Z8.nd (by rfl) (Or.inl (by rfl))) (Ye (Zn (i:=10) Z8.nd (by rfl) (Or.inl (by rfl))) Ve))))) 
    (Cm (Yd (J6 (Ei (Sn hr) (pv 10) (pv 7))) 
     (Zg (Cn (Sn hr) (pv 7) (pv 10) (Z5 Yp (hr.mono (by decide)) (Za (pv 2) (Za (Yo (sc:=Zh Xa) (Nm:=XU) (own:=VJ) (fr:=[]) ⟨rfl,by decide +kernel,by decide +kernel,by decide +kernel,by decide +kernel⟩ (by rfl) (N1 (X1 (by decide) (X1 (by decide) Qx))) (Kt (K:=K) (by rfl) Z.zip (pv 4) (pv 10)) (λd=>(Vf (K:=K) (n:=2) (by rfl) (Ye (Zn (i:=0) U9 (by rfl) (Or.inl (by rfl))) (Ye (Zn (i:=1) U9 (by rfl) (Or.inl (by rfl))) Ve)))) (λd=>(Vs (Zp Xw (pv 1) (Zq Y0 (by rfl) Z.len Yw (Za (pv 0) Zb)) (Zw _)))) (λd=>(pv 0))) Zb))) rfl)) Zu) 
    (Ze (Zr (i:=11) Z8.nd (by rfl) (Or.inl (by rfl)) (Ku (Sn hr) (pv 7) (pv 10) (λ_ _=>rfl))) 
    (Ze (Yd (PW.pt (Si (PW.pt (Zbv (Zp (Qi (K:=K)) (pv 8) (Zs (Zo (K:=K)) (pv 0) Zf (λ_ _=>rfl)) (by with_unfolding_all rfl)) (Ck (Um (Yr (K:=K) (pv 11) (λ_=>rfl)))))) (Tj (PW.pt (Zbv (Zp (Qi (K:=K)) (pv 9) (Zs (Zo (K:=K)) (pv 1) Zf (λ_ _=>rfl)) (by with_unfolding_all rfl)) (Ck (Yr (K:=K) (pv 11) (λ_=>rfl)))))))) 
     (Zg (Zl W0)) Zu) 
    (Zg (Xp lI (by rfl) (Uo (Zs (Zo (K:=K)) (pv 0) Zf (λ_ _=>rfl))) (Zn (i:=12) Z8.nd (by rfl) (Or.inr (by rfl))) 
     (Ze (Zr (i:=13) Z8.nd (by rfl) (Or.inl (by rfl)) (Zy (Yv (K:=K)) (by rfl) Z.tuple Yu (Za (Yo (sc:=Zh Xa) (Nm:=XU) (own:=VJ) (fr:=[12]) ⟨rfl,by decide +kernel,by decide +kernel,by decide +kernel,by decide +kernel⟩ (by rfl) (N1 (X1 (by decide) (X1 (by decide) Qx))) (Kt (K:=K) (by rfl) Z.zip (pv 4) (pv 10)) (λd=>(Vf (K:=K) (n:=2) (by rfl) (Ye (Zn (i:=0) U8 (by rfl) (Or.inl (by rfl))) (Ye (Zn (i:=1) U8 (by rfl) (Or.inl (by rfl))) Ve)))) (λd=>Xt) (λd=>(Z7 Xl (pv 1) (Zy Sw (by rfl) Z.int Gj (Za (Wj Xw (Vy Zie (pv 0) (Vt (pv 1)) (Vt (Z7 Xl (pv 1) Zf))) (pv 2) (Zw _)) Zb))))) Zb))) 
     (Ze (Zr (i:=14) Z8.nd (by rfl) (Or.inl (by rfl)) (Z2 (Za (Z5 Ww (hr.mono (by decide)) (Za (pv 0) (Za (pv 8) (Za (pv 12) Zb)))) (Za (Z5 Ww (hr.mono (by decide)) (Za (pv 1) (Za (pv 9) (Za (pv 12) Zb)))) (Za (pv 13) Zb))))) 
     (Zg (Yd (J6 (Ib (P:=P) (w:=w) (sh:=[true,true,false]) (hu2 hr) (pv 14) (pv 6))) 
      (Ze (Ae (P:=P) (w:=w) (sh:=[true,true,false]) (hu2 hr) (pv 6) (pv 14) W0 rfl) 
      (Zg (Xu (X5 (K:=K) lL iH iI X0 (pv 5) (Za (pv 14) Zb))))) Zu))))))))))) 
   (Zg (Zl W0)))))))),?_⟩
 have hT:∀z∈W.wds,z∈Sx l kn:=λz hz=>by
  obtain⟨v,rfl,h1,h2⟩:=Wi.Zqf hD.ok z hz;exact D1.mpr ⟨h1,h2⟩
 have vL:∀z∈Sx l kn,z.length≤3:=λz hz=>by
  obtain⟨v,rfl,h1,h2⟩:=Bp hz;rw[Xq];lia
 refine⟨_,rfl,v,W,Sx l kn,rfl,hW,aJ hD.dep,Za9 Zri,hT,vL,λq zs H1 nq e1 hq nd pS=>?_⟩;have Zui:zs.length≤15:=lC (U7 nd λz hz=>hT z ((pS z).mp hz)) (Za9 Zri)
 have wB:∀z∈zs,z.length≤kn∧∀c∈z.cps.toList,c∈l.cps.toList:=λz hz=>by
  obtain⟨v,rfl,h1,h2⟩:=Bp (hT z ((pS z).mp hz));rw[Xq];exact⟨h1,λc hc=>h2 c (by simpa[S] using hc)⟩
 have hWz:W.ok λz=>z∈zs:=Wi.D3 λz hz=>(pS z).mpr hz
 have hev:∀u u',gnS zs u=gnS zs u'→ev (lies u) W=ev (lies u') W:=λu u' e=>Hr (λz hz=>by
  have:gn z u=gn z u':=(List.map_inj_left.mp e) z hz;unfold lies
  rw[lH,decide_eq_true_eq,decide_eq_true_eq,←Bc,←Bc,this]) hWz
 refine⟨_,rfl,q,rfl,⟨_,SqL.of hq⟩,?_⟩;refine Wl (K:=K) (a:=q) (xs:=zs.map V.str) (λi acc H2=>acc=(List.replicate i false).map V.bl∧Zt H1 H2) (by rw[rW,sizeLine_eq];lia) ⟨rfl,Zt.refl _⟩ (λi acc H2 h=>by rw[h.1,rW,dB];exact rX _) (λi acc H2 h=>SqL.of (h.2 _ _ hq)) (λi acc H2 x hx h=>?_) (λacc H2 h y hy=>?_)
 ·obtain⟨rfl,e2⟩:=h;rw[oP]at hx
  cases hc:zs[i]? with
  |none=>rw[hc]at hx;cases hx
  |some z=>
   rw[hc]at hx;cases hx;have hzz:=(wB z (oM hc)).1;refine Kj ⟨_,rfl,z,rfl,Xn (by lia),_,rfl,_,_,rfl,rfl,?_,e2⟩;rw[aT,oK];refine congrArg (λb=>_++[V.bl b]) (decide_eq_false ?_);show ¬ (kn:Int)<((z.length:Nat):Int);lia
 obtain⟨rfl,e2⟩:=h;refine⟨y,_,rfl,SqL.of Zc,?_⟩;rw[Znb];have e3:=(e1.trans e2).trans (Zd hy (.lst ((List.replicate (zs.map V.str).length false).map V.bl)));have hq:=(e2.trans (Zd hy (.lst ((List.replicate (zs.map V.str).length false).map V.bl)))) _ _ hq;generalize upd H2 y _=H3 at e3 hq;refine⟨_,rfl,U2 ?_⟩;have M1:=M1.same e3;have M2:=M2.same e3;have hW:=hW.keep (Tk.same e3);obtain⟨eA,sA,rA,g1,g2,g3,g4,g5⟩:=id M1.lay;obtain⟨eB,sB,rB,i1,i2,i3,i4,i5⟩:=id M2.lay;refine⟨_,rfl,m1,_,_,_,rfl,rfl,SqT.of g1,Zj (j:=1) rfl,_,rfl,m2,_,_,_,rfl,rfl,SqT.of i1,Zj (j:=1) rfl,_,rfl,q,rfl,⟨_,SqL.of hq⟩,?_⟩;refine Wl (K:=K) (a:=q) (xs:=zs.map V.str) (λi acc H4=>acc=(List.replicate i 0).map nI∧Zt H3 H4) (by rw[rW,sizeLine_eq];lia) ⟨rfl,Zt.refl _⟩ (λi acc H2 h=>by rw[h.1,rW,dB];exact rX _) (λi acc H2 h=>SqL.of (h.2 _ _ hq)) (λi acc H2 x hx h=>?_) (λacc H4 h y hy=>?_)
 ·obtain⟨rfl,e2⟩:=h;refine Kj ⟨?_,e2⟩;rw[aT,oK];rfl
 obtain⟨rfl,e4⟩:=h;have e5:=e4.trans (Zd hy (.lst ((List.replicate (zs.map V.str).length 0).map nI)));have h5:upd H4 y (.lst ((List.replicate (zs.map V.str).length 0).map nI)) y=some (.lst ((gnS zs []).map nI)):=by rw[Zc,Zer,rW]
 generalize upd H4 y _=H5 at e5 h5;refine⟨y,_,rfl,.inl ⟨SqL.of h5,λg0 tO=>?_⟩⟩;generalize eZ:upd H5 g0 _=H6;have s6:=nS7 eZ tO;have h6:=nU7 eZ;have e6:=e5.trans s6;refine⟨(by show 3≤sizeLine;decide),λa0 na0=>?_⟩;have s7:=Zd na0 (.tup [nI b1,nI b2,V.ref g0]);have N7:NAt (upd H6 a0 (.tup [nI b1,nI b2,V.ref g0])) (kD zs l st1 st2 b1 b2 []) a0:=Zoq Zc (s7 _ _ h6);have e7:=e6.trans s7;generalize upd H6 a0 _=H7 at s7 N7 e7;refine⟨(by show 1≤sizeLine;decide),λwp sQ=>?_⟩;have vZ:=none_of e7 sQ;generalize eZ:upd H7 wp _=H8;have s8:=nS7 eZ sQ;have h8:=nU7 eZ;have N8:=N7.keep (Tk.same s8);have e8:=e7.trans s8;refine λdp xR=>?_;have qI:=none_of e8 xR;have s9:=Zd xR (dN P w [true,true,false] dp []);refine⟨_,rfl,wp,_,_,_,rfl,rfl,SqL.of (s9 _ _ h8),Zj (j:=0) rfl,_,_,rfl,Zc,a0,kD zs l st1 st2 b1 b2 [],rfl,N8.keep (Tk.same s9),rfl,?_⟩;rw[U3];generalize eZ:upd H8 dp _=H9;have s9:=nS7 eZ xR;have h9d:=nU7 eZ;have h9w:=s9 _ _ h8;have N9:=N8.keep (Tk.same s9);have e9:=e8.trans s9;refine λep eL=>?_;have qJ:=none_of e9 eL;have kK:=Zd eL (.dT []);have D10:Ra P w zs l st1 st2 b1 b2 W wp dp ep H3 (upd H9 ep (.dT [])) [V.ref a0] [(kD zs l st1 st2 b1 b2 [],a0,V.bl true)] []:=⟨kK _ _ h9w,λv hv=>⟨a0,[],rY.mp hv,N9.keep (Tk.same kK),nofun⟩,kK _ _ h9d,λx hx=>by rw[rY.mp hx];exact N9.keep (Tk.same kK),λx hx=>by rw[rY.mp hx];exact⟨[],nofun,rfl⟩,by simp,Zc,nofun,rX _,e9.trans kK⟩;generalize upd H9 ep _=wU at D10;clear kK eL e9 N9 h9w h9d s9 xR e8 N8 h8 s8 sQ e7 N7 s7 na0 e6 h6 s6 tO h5 e5 hy e4 e2;have d8:∀u:List Nat,(∀c∈u,c∈l.cps.toList)→way l st1 b1 u<st1.length:=λu hu=>Mh M1 u b1 M1.beg hu;have j5:∀u:List Nat,(∀c∈u,c∈l.cps.toList)→way l st2 b2 u<st2.length:=λu hu=>Mh M2 u b2 M2.beg hu
 have few:∀{H5:Hp}{vs:List V}{xs:NX}{kvs:TB},Ra P w zs l st1 st2 b1 b2 W wp dp ep H3 H5 vs xs kvs→xs.length≤1179648:=λd=>by
  have:=Zm0 (st1:=st1) (st2:=st2) (b1:=b1) (b2:=b2) Zri (λu hu=>oS (d8 u hu) i8) (λu hu=>oS (j5 u hu) eF) wB d.nd λx hx=>by
   obtain⟨y,hy,rfl⟩:=oU.mp hx;exact d.mu y hy
  rwa[rW]at this
 refine⟨λmm σ H8=>∃(vs:List V) (xs:NX) (kvs:TB) (v8 v9 v10 v11 sR sS sT:Option V),mm=vs.length+1179648-xs.length∧σ=[some (.ref m1),some (.ref m2),some v,some (nI kn),some (.ref q),some (.ref wp),some (.ref dp),some (.ref ep),v8,v9,v10,v11,sR,sS,sT]∧Ra P w zs l st1 st2 b1 b2 W wp dp ep H3 H8 vs xs kvs,
  ⟨_,_,_,_,none,none,none,none,none,none,none,rfl,rfl,D10⟩,?_⟩
 rintro mm σ H11 ⟨vs,xs,kvs,v8,v9,v10,v11,sR,sS,sT,rfl,rfl,eS⟩;have f11:=few eS;refine⟨_,rfl,wp,_,rfl,.inl (SqL.of eS.wt),_,_,rfl,rfl,_,rfl,?_⟩;refine Xx (λc1=>?_) (λc1=>?_)
 ·have c1:0<vs.length:=by
   have:=of_decide_eq_true c1;lia
  refine⟨λx4 H'=>∃m',m'<vs.length+1179648-xs.length∧_,λ_ _ z=>z,?_⟩;have Zkc:vs[vs.length-1]?=some vs[vs.length-1]:=rZ (by lia);obtain⟨a,u,hva,hNa,hu⟩:=eS.wv _ (oM Zkc);rw[hva]at Zkc;have hle:=eS.le;have xX:=eS.wait (vs':=vs.dropLast) vZ (λv hv=>eS.wv v ((List.dropLast_sublist vs).subset hv)) (by rw[aP];lia);have N12:=hNa.keep (Tk.lst eS.wt (.lst vs.dropLast));refine⟨_,rfl,.inl ⟨rfl,_,SqL.of eS.wt⟩,wp,vs,_,rfl,rfl,eS.wt,Zkc,?_⟩;generalize upd H11 wp _=H12 at xX N12;have hvd:vs.dropLast.length+1=vs.length:=by rw[aP];lia
  generalize vs.dropLast=us at xX hvd;obtain⟨ga,jR,Zrk⟩:=Zud N12;refine⟨a,_,rfl,SqT.of jR,rfl,_,_,rfl,_,_,rfl,_,_,rfl,rfl,?_⟩;refine⟨λx4 H'=>∃kvs,x4=[some (.ref m1),some (.ref m2),some v,some (nI kn),some (.ref q),some (.ref wp),some (.ref dp),some (.ref ep),some (nI (way l st1 b1 u)),some (nI (way l st2 b2 u)),some (.ref ga),v11,sR,sS,sT]∧Ra P w zs l st1 st2 b1 b2 W wp dp ep H3 H' us xs kvs∧H' ga=some (.tup ((kI (gnS zs u)).map kV))∧W8 kvs (kI (gnS zs u))=some (.bl (ev (lies u) W)),?_,?_⟩
  ·have r6:H12 ga=some (.tup ((kI (gnS zs u)).map kV)):=by rw[Zcl];exact Zrk
   refine⟨_,rfl,_,rfl,ep,_,rfl,Lm.t (k:=kI (gnS zs u)) xX.kn r6,_,rfl,?_⟩
   cases hv:W8 kvs (kI (gnS zs u)) with
   |some x=>
    refine ifN rfl ⟨kvs,rfl,xX,r6,?_⟩;obtain⟨y,hy,hy1,hy2⟩:=Bu hv;obtain⟨u',h1,h2⟩:=xX.ku y hy;rw[hv,←hy2,h2,hev u' u (Zj1 (h1.symm.trans hy1))]
   |none=>
    refine ifY rfl ⟨_,rfl,_,rfl,_,rfl,q,ga,_,_,rfl,SqL.of (xX.e _ _ hq),SqT.of Zrk,?_⟩;refine Ga (xX.e _ _ hq) Zrk Zui (λz hz n H2 N kN=>?_) (λz n H2 N kN=>⟨_,rfl,kN⟩) (λr HC sU eC nr hws=>?_)
    ·have z3:=(wB z hz).1;refine⟨_,rfl,_,rfl,z,rfl,Xn (by lia),rfl,_,rfl,?_⟩
     have:decide (nI n=V.int ((z.length:Nat):Int))=decide (n=z.length):=by
      rw[lH,decide_eq_true_eq,decide_eq_true_eq];exact⟨λq=>by have:=V.int.inj q;lia,λq=>by rw[q];rfl⟩
     rw[←this]at kN;exact kN
    have sD:=eC.trans (Zd nr (.lst (sU.map V.str)));have hD':=Zc (H:=HC) (a:=r) (o:=.lst (sU.map V.str));generalize upd HC r _=HD at sD hD';have DD:=xX.same sD;refine⟨v,r,W,sU,rfl,hW.keep (Tk.same DD.e),aJ hD.dep,hD',λHE sE=>?_⟩;have DE:=DD.same sE;have gM:=sE _ _ (sD _ _ r6)
    have hee:ev (inR sU) W=ev (lies u) W:=Hr (λz hz=>by
     unfold inR lies;rw[lH,decide_eq_true_eq,decide_eq_true_eq]
     exact hws z hz) hWz
    rw[hee];refine⟨_,rfl,_,rfl,ep,_,rfl,Fy.t (k:=kI (gnS zs u)) DE.kn gM (by rw[sizeLine_eq];lia),?_⟩;rw[J5 _ hv];exact⟨_,rfl,DE.know qJ u (by lia),(Tk.dct DE.kn _) _ _ gM,F1 hv⟩
  ·rintro x4 H13 ⟨kvs,rfl,xY,r6,hv⟩;refine⟨_,rfl,_,rfl,ep,_,rfl,(by rw[←hv];exact Lm.t xY.kn r6),?_⟩;have Zkd:(if false=true then !inV (nI (way l st1 b1 u)) (es1.map nI) else inV (nI (way l st1 b1 u)) (es1.map nI))=decide (way l st1 b1 u∈es1):=Lc _ _;have qR:(if false=true then !inV (nI (way l st2 b2 u)) (es2.map nI) else inV (nI (way l st2 b2 u)) (es2.map nI))=decide (way l st2 b2 u∈es2):=Lc _ _;dsimp only;refine Zmp (a:=decide (way l st1 b1 u∈es1)) (b:=decide (way l st2 b2 u∈es2)) (s:=ev (lies u) W) (λN hN=>⟨_,rfl,_,rfl,m1,_,_,_,rfl,rfl,SqT.of (xY.e _ _ g1),Zj (j:=2) rfl,eA,_,rfl,.inr (SqT.of (xY.e _ _ g2)),rfl,N4 es1,_,rfl,by rw[←Zkd]at hN;exact hN⟩) (λN hN=>⟨_,rfl,_,rfl,m2,_,_,_,rfl,rfl,SqT.of (xY.e _ _ i1),Zj (j:=2) rfl,eB,_,rfl,.inr (SqT.of (xY.e _ _ i2)),rfl,N4 es2,_,rfl,by rw[←qR]at hN;exact hN⟩) (λN hN=>⟨_,rfl,_,rfl,hN⟩) (λq=>hD.yes u hu (of_decide_eq_true q)) (λq=>hD.no u hu (of_decide_eq_true q)) ?_;refine⟨_,rfl,m1,_,_,_,rfl,rfl,SqT.of (xY.e _ _ g1),Zj (j:=0) rfl,l,rfl,?_⟩;have hq13:=xY.e _ _ hq
   refine Td (cs:=l.cps.toList) (λj σ kP=>∃(vs':List V) (z5:NX) (sR sS sT:Option V),σ=[some (.ref m1),some (.ref m2),some v,some (nI kn),some (.ref q),some (.ref wp),some (.ref dp),some (.ref ep),some (nI (way l st1 b1 u)),some (nI (way l st2 b2 u)),some (.ref ga),some (.bl (ev (lies u) W)),sR,sS,sT]∧Ra P w zs l st1 st2 b1 b2 W wp dp ep H3 kP vs' z5 kvs∧kP ga=some (.tup ((kI (gnS zs u)).map kV))∧vs'.length+xs.length=us.length+z5.length)
    ⟨us,xs,sR,sS,sT,rfl,xY,r6,rfl⟩ ?_ ?_
   ·rintro j c σ kP hc ⟨vs',z5,sR,sS,sT,rfl,mJ,r6,hlen⟩;have o0:c∈l.cps.toList:=oM hc
    have xO:∀d∈u++[c],d∈l.cps.toList:=λd hd=>by
     rcases oJ.mp hd with z|z
     ·exact hu d z
     ·rw[rY.mp z];exact o0
    have mZ:kP ga=some (.tup ((gnS zs u).map nI)):=by rw[←Zcl];exact r6
    refine⟨_,rfl,_,rfl,q,ga,_,_,rfl,SqL.of (mJ.e _ _ hq),SqT.of mZ,?_⟩;refine Gb (c:=c) (mJ.e _ _ hq) mZ Zui (λz hz n H2 N hn kN=>?_) (λr HB eB' nr=>?_)
    ·have z3:=(wB z hz).1;refine⟨_,rfl,_,rfl,_,rfl,_,rfl,_,rfl,_,_,rfl,rfl,_,rfl,z,rfl,Xn (by lia),_,rfl,rfl,.inr ⟨_,rfl,_,_,rfl,rfl,?_⟩⟩;have:=kN;rw[←Zjk hn]at this;exact this
    refine⟨r,_,rfl,.inl ⟨SqL.of Zc,λla sP=>?_⟩⟩;have sC:=eB'.trans ((Zd nr (.lst ((gnS zs (u++[c])).map nI))).trans (Zd sP (.tup ((gnS zs (u++[c])).map nI))));have hC:upd (upd HB r (.lst ((gnS zs (u++[c])).map nI))) la (.tup ((gnS zs (u++[c])).map nI)) la=some (.tup ((gnS zs (u++[c])).map nI)):=Zc;generalize upd (upd HB r (.lst ((gnS zs (u++[c])).map nI))) la (.tup ((gnS zs (u++[c])).map nI))=HC at sC hC;have DC:=mJ.same sC;have hgC:=sC _ _ r6;have c1:∀d∈(one c).cps.toList,d∈l.cps.toList:=λd hd=>by rw[rY.mp hd];exact o0
    refine⟨_,rfl,_,rfl,_,rfl,m1,l,b1,es1,st1,way l st1 b1 u,one c,rfl,M1.same DC.e,d8 u hu,c1,_,rfl,_,rfl,_,rfl,m2,l,b2,es2,st2,way l st2 b2 u,one c,rfl,M2.same DC.e,j5 u hu,c1,_,rfl,(by show 3≤sizeLine;decide),λsa fO=>?_⟩;have sD:=Zd fO (.tup [nI (way l st1 (way l st1 b1 u) (one c).cps.toList),nI (way l st2 (way l st2 b2 u) (one c).cps.toList),V.ref la]);have ND:NAt (upd HC sa (.tup [nI (way l st1 (way l st1 b1 u) (one c).cps.toList),nI (way l st2 (way l st2 b2 u) (one c).cps.toList),V.ref la])) (kD zs l st1 st2 b1 b2 (u++[c])) sa:=Zoq (b:=la) (by rw[Zc,Rn,Rn];rfl) (sD _ _ hC);generalize upd HC sa _=HD at sD ND;have DD:=DC.same sD;have hgD:=sD _ _ hgC;have fD:=few DD;have lD:=DD.le;refine⟨_,rfl,_,rfl,dp,_,kD zs l st1 st2 b1 b2 (u++[c]),sa,rfl,rfl,DD.tab,ND,rfl,_,rfl,?_⟩
    cases hvn:valN z5 (kD zs l st1 st2 b1 b2 (u++[c])) with
    |some x=>exact ifN rfl ⟨vs',z5,_,_,_,rfl,DD,hgD,hlen⟩
    |none=>
     refine ifY rfl ⟨_,rfl,_,rfl,dp,_,kD zs l st1 st2 b1 b2 (u++[c]),sa,rfl,rfl,DD.me,DD.tab,by rw[sizeLine_eq];lia,ND,rfl,hvn,?_⟩
     have tk:Tk HD (upd HD dp (dN P w [true,true,false] dp (z5++[(kD zs l st1 st2 b1 b2 (u++[c]),sa,V.bl true)]))):=λq ys hz=>by
      rw[Zk (Yt hz DD.me λz=>nomatch z)];exact hz
     have DE:=DD.meet (v:=.bl true) qI xO ND hvn;have NE:=ND.keep tk;have gM:=tk _ _ hgD;generalize upd HD dp _=HE at DE NE gM;refine⟨_,rfl,.inl ⟨rfl,_,SqL.of DE.wt⟩,_,rfl,wp,_,_,rfl,rfl,DE.wt,by rw[sizeLine_eq];lia,?_⟩;refine⟨vs'++[V.ref sa],_,_,_,_,rfl,DE.wait vZ (λv hv=>?_) (by rw[oB,oB];show kvs.length+(vs'.length+1)≤z5.length+1;lia),(Tk.lst DE.wt _) _ _ gM,by rw[oB,oB];show vs'.length+1+xs.length=us.length+(z5.length+1);lia⟩
     rcases oJ.mp hv with z|z
     ·exact DE.wv v z
     ·exact⟨sa,u++[c],rY.mp z,NE,xO⟩
   ·rintro σ kP ⟨vs',z5,sR,sS,sT,rfl,mJ,r6,hlen⟩;have f14:=few mJ;exact⟨vs'.length+1179648-z5.length,by lia,vs',z5,kvs,_,_,_,_,_,_,_,rfl,rfl,mJ⟩
 ·have hv0:vs=[]:=by
   cases vs with
   |nil=>rfl
   |cons x r=>exact absurd (decide_eq_true (by show (0:Int)<((x :: r).length:Nat);rw[oR];lia)) c1
  exact k _ (e3.trans eS.e)
def Lh(L:List Nat):Nat→List WE
 | 0=>[[]]
 |k+1=>[] :: L.flatMap λc=>(Lh L k).map (c :: ·)
theorem Zay{L:List Nat}:∀{k:Nat}{v:List Nat},v.length≤k→(∀c∈v,c∈L)→v∈Lh L k
 | 0,v,h,_=>by rw[oV (Nat.le_zero.mp h)];exact rY.mpr rfl
 |k+1,[],_,_=>oE
 |k+1,c :: v,h,hc=>oO _ (cW.mpr ⟨c,hc c oE,oU.mpr ⟨v,Zay (Nat.le_of_succ_le_succ h) λd hd=>hc d (oO _ hd),rfl⟩⟩)
theorem Gn(L:List Nat)(k:Nat):(Lh L (k+1)).length=L.length*(Lh L k).length+1:=by
 show (L.flatMap λc=>(Lh L k).map (c :: ·)).length+1=_;rw[Ss λa=>rW ..]
theorem Zo5{l:Str}{k:Nat}(h:l.length=1∧k≤3∨l.length=2∧k≤3∨l.length=3∧k≤2):W15 k l.cps.toList:=by
 refine⟨(Lh l.cps.toList k).map S,?_,λv h1 h2=>oU.mpr ⟨v,Zay h1 h2,rfl⟩⟩;rw[rW];have l0:(Lh l.cps.toList 0).length=1:=rfl;have l1:(Lh l.cps.toList 1).length=l.cps.toList.length*(Lh l.cps.toList 0).length+1:=Gn _ 0;have l2:(Lh l.cps.toList 2).length=l.cps.toList.length*(Lh l.cps.toList 1).length+1:=Gn _ 1;have l3:(Lh l.cps.toList 3).length=l.cps.toList.length*(Lh l.cps.toList 2).length+1:=Gn _ 2;rw[len_list]at l1 l2 l3
 rcases h with ⟨e,hk⟩|⟨e,hk⟩|⟨e,hk⟩<;>rw[e]at l1 l2 l3
 ·match k,hk with
  | 0,_=>lia
  | 1,_=>lia
  | 2,_=>lia
  | 3,_=>lia
 ·match k,hk with
  | 0,_=>lia
  | 1,_=>lia
  | 2,_=>lia
  | 3,_=>lia
 ·match k,hk with
  | 0,_=>lia
  | 1,_=>lia
  | 2,_=>lia
def Zlh(k:Nat)(l:Str)(st1 st2:WA)(b1 b2:Nat)(es1 es2:List Nat):Prop:=∃u v:List Nat,(∀c∈u,c∈l.cps.toList)∧(∀c∈v,c∈l.cps.toList)∧way l st1 b1 u∈es1∧way l st2 b2 v∈es2∧∀x:List Nat,x.length≤k→(x.Sublist u↔x.Sublist v)
theorem Zlh.symm{k:Nat}{l:Str}{st1 st2:WA}{b1 b2:Nat}{es1 es2:List Nat}(h:Zlh k l st1 st2 b1 b2 es1 es2):Zlh k l st2 st1 b2 b1 es2 es1:=by
 obtain⟨u,v,h1,h2,h3,h4,h5⟩:=h;exact⟨v,u,h2,h1,h4,h3,λx hx=>(h5 x hx).symm⟩
theorem Ja{cN m1 m2:Addr}{kn:Nat}{E:XK}(M1:Yc H m1 l b1 es1 st1)(M2:Yc H m2 l b2 es2 st2)(TX:Tb Px Nd H)(TY:Tb Py Rj H)(o7:Px≠Py)(n1:st1.length≤6)(n2:st2.length≤6)(hk:kn≤3)(hW:W15 kn l.cps.toList)
  (kq:∀t s rest H',Kp2 Px Py H H'→Tb Px Nd H'→Tb Py Rj H'→Ze7 K kn l st1 st2 b1 b2 es1 es2 H' t→H' t=some (.tup (.str s :: rest))→(s = "alike"∧Zlh kn l st1 st2 b1 b2 es1 es2∨s = "wish"∧¬ Zlh kn l st1 st2 b1 b2 es1 es2)→Q (.ref t) H'):Zhy K Px Py cN [.ref m1,.ref m2,nI kn] H Q E:=by
 refine⟨m1,m2,l,l,b1,b2,es1,es2,st1,st2,kn,rfl,M1,M2,TX,TY,o7,λ_=>⟨n1,n2,hk,hW,⟨λt u v H' kp wX zA ht hu hv wu wv al lu lv=>?_,λt v W H' kp wX zA ht hw hW' w8=>?_⟩⟩,λz=>absurd rfl z⟩
 ·exact kq t _ _ H' kp wX zA ⟨.inl ⟨u,v,ht,hu,hv,wu,wv,al,lu,lv⟩⟩ ht (.inl ⟨rfl,u,v,hu,hv,wu,wv,al⟩)
 ·exact kq t _ _ H' kp wX zA ⟨.inr ⟨v,W,ht,hw,hW'⟩⟩ ht (.inr ⟨rfl,λ⟨u,v,h1,h2,h3,h4,h5⟩=>w8 u v h1 h2 h3 h4 h5⟩)
theorem Znj{b:Addr}(t:Tb Px L H)(h:H b=some o)(n:∀ps,o≠.tbl ps):b≠Px:=λe=>by
 obtain⟨ps,hp,_⟩:=t;rw[e,hp]at h;exact n ps (Option.some.inj h).symm
theorem Kp2.get{b:Addr}(k:Kp2 Px Py H H')(TX:Tb Px Nd H)(TY:Tb Py Rj H)(n:∀ps,o≠.tbl ps)(h:H b=some o):H' b=some o:=k b o (Znj TX h n) (Znj TY h n) h
theorem Kp2.trans{H1:Hp}(k:Kp2 Px Py H H1)(k':Kp2 Px Py H1 H2):Kp2 Px Py H H2:=λb o n1 n2 h=>k' b o n1 n2 (k b o n1 n2 h)
structure C52(Px Py p sc m1 m2:Addr)(l:Str)(b1 b2:Nat)(es1 es2:List Nat)(st1 st2:WA)(H:Hp):Prop where
 FA:Yb H p sc
 M1:Yc H m1 l b1 es1 st1
 M2:Yc H m2 l b2 es2 st2
 TX:Tb Px Nd H
 TY:Tb Py Rj H
section
variable {Px Py p sc m1 m2:Addr}{l:Str}{b1 b2:Nat}{es1 es2:List Nat}{st1 st2:WA}{H H':Hp}
theorem C52.same(c:C52 Px Py p sc m1 m2 l b1 b2 es1 es2 st1 st2 H)(e:Zt H H'):C52 Px Py p sc m1 m2 l b1 b2 es1 es2 st1 st2 H':=⟨c.FA.same e,c.M1.same e,c.M2.same e,c.TX.same e,c.TY.same e⟩
theorem C52.tk(c:C52 Px Py p sc m1 m2 l b1 b2 es1 es2 st1 st2 H)(k:Kp2 Px Py H H'):Tk H H':=λ_ _ h=>k.get c.TX c.TY (λ_ z=>nomatch z) h
theorem C52.kp(c:C52 Px Py p sc m1 m2 l b1 b2 es1 es2 st1 st2 H)(k:Kp2 Px Py H H')(TX:Tb Px Nd H')(TY:Tb Py Rj H'):C52 Px Py p sc m1 m2 l b1 b2 es1 es2 st1 st2 H':=by
 refine⟨?_,c.M1.keep (c.tk k),c.M2.keep (c.tk k),TX,TY⟩;obtain⟨xs,h1,h2⟩:=c.FA.here;obtain⟨ns,h3⟩:=c.FA.cells;exact⟨⟨xs,k.get c.TX c.TY (λ_ z=>nomatch z) h1,h2⟩,ns,k.get c.TX c.TY (λ_ z=>nomatch z) h3⟩
end
theorem Wq(t:Tb Pt L H)(FA:Yb H p sc)(d:Zz H H' p):Tb Pt L H':=by
 obtain⟨ps,h1,h2,h3⟩:=t;obtain⟨xs,hp,_⟩:=FA.here;exact⟨ps,d _ _ h1 (Yt h1 hp λz=>nomatch z),h2,λx hx=>(h3 x hx).imp id λ⟨c,a,b⟩=>⟨c,a,d _ _ b (Yt b hp λz=>nomatch z)⟩⟩
def sb7(x y c:Nat):List Str:=[⟨#[x]⟩,⟨#[y]⟩,⟨#[x,y]⟩,⟨#[c]⟩,⟨#[x,c]⟩,⟨#[y,c]⟩,⟨#[x,y,c]⟩]
theorem Zpt{x y:Nat}(h1:x<y)(h2:y<c):(sb7 x y c).Nodup:=by
 have a:x≠y:=by lia
 have b:y≠c:=by lia
 have d:x≠c:=by lia
 simp[sb7,a,b,d]
theorem Zdy{x y:Nat}(h:z∈sb7 x y c):1≤z.length∧z.length≤3:=by
 simp only[sb7,oH,iO,or_false]at h
 rcases h with rfl|rfl|rfl|rfl|rfl|rfl|rfl<;>simp[Str.length]
theorem three(h:Dz z 3):∃x y c,z=⟨#[x,y,c]⟩∧x<y∧y<c:=by
 obtain⟨h1,h2,_⟩:=h;obtain⟨⟨xs⟩⟩:=z;have h1:xs.length=3:=h1;have h2:xs.Pairwise (·<·):=h2
 match xs,h1 with
 |[x,y,c],_=>
  simp at h2;exact⟨x,y,c,rfl,h2.1.1,h2.2⟩
inductive Zds(K:W.Frag)(tabs:VR)(vs:List V)(H:Hp)(Q:VK):Prop
 |mk(a:Addr)(ns:List Int)(h1:vs=[.ref a])(h2:SqL K H a (ns.map V.int))(h3:ns.length≤63)(h4:(∀q∈tabs,H q.2=some (.tbl #[])))(h5:∀H',Q (.bl true) H'):Zds K tabs vs H Q
def D9(K:W.Frag)(tabs:VR):Sp:=λvs H Q _=>Zds K tabs vs H Q
theorem Zc0{n:Nat}(h1:1≤n)(h3:n≤3)(a b c:Int):atI [V.int a,V.int b,V.int c] ((n:Int)-1)=some (.int (if n=1 then a else if n=2 then b else c)):=by
 have:n=1∨n=2∨n=3:=by lia
 rcases this with rfl|rfl|rfl<;>rfl
theorem Zm4{lo hi:VN}{x:V}(h:x∈Hy xs lo hi):x∈xs:=List.mem_of_mem_drop (aR h)
theorem Zqg{ct ca cN:Addr}(o7:Px≠Py)(F:Fun K "law" "law" Nj f fd)(Z:Blt mg)(Na:Cal P w K mg base "_law_flow" 1 VQ (Zh5 K))(Tx:Cal P w K mg base "_law_letters" 2 WI Ed)(X3:Cal P w K mg base "_law_machine" 2 WB Wx)(Zm:Cal P w K mg base "_law_pick" 1 WI V2)(Tw:Cal P w K mg base "_law_refused" 24 UM (Zh2 K Px Py))(Tv:Cal P w K mg base "_law_subsets" 1 ["_law_letters_here"] Znx)(Vn:Cal P w K mg base "_law_told_right" 40 WV (Zs0 K))(Wv:Cal P w K mg base "_law_two_machines" 8 WB Zns)
  (Xj:Cal P w K mg base "told_apart" 23 UK (λvs H Q _=>Zhy K Px Py cN vs H Q λ_ _ _=>False)):Ya P w K mg base CX0 41 f fd VQ (D9 K [(ct,Px),(ca,Py)]):=by
 refine F.ok Uh (λvs H Q E h=>?_) (λcdv A outer s H vs Q E hr h=>?_)
 ·obtain⟨a,ns,rfl,_⟩:=h;rfl
 obtain⟨a,ns,rfl,hS,h63,hT0,k⟩:=h;have hTx:H Px=some (.tbl #[]):=hT0 (ct,Px) oE;have hTy:H Py=some (.tbl #[]):=hT0 (ca,Py) (oO _ oE)
 refine⟨_,(Ze (Zr (i:=1) Uh.nd (by rfl) (Or.inl (by rfl)) (Z5 Na (hr.mono (by decide)) (Za (pv 0) Zb))) 
   (Ze (Zr (i:=2) Uh.nd (by rfl) (Or.inl (by rfl)) (Z5 Tv (hr.mono (by decide)) (Za (Z5 Tx (hr.mono (by decide)) (Za (pv 1) (Za Zf Zb))) Zb))) 
   (Ze (Zr (i:=3) Uh.nd (by rfl) (Or.inl (by rfl)) (Z5 Zm (hr.mono (by decide)) (Za (pv 1) (Za Zf Zb)))) 
   (Ze (Zp5 (i:=4) (j:=5) (by rfl) Uh.nd (by rfl) (by rfl) (by decide) (by rfl) (by rfl) (Za (Zs (Z3 (K:=K)) (pv 2) (pv 3) (λ_ _=>rfl)) (Za (Zs (Z3 (K:=K)) (pv 2) (Z7 Qh (Z7 Xl (Z7 Xl (pv 3) Zf) (Z5 Zm (hr.mono (by decide)) (Za (pv 1) (Za Zf Zb)))) Zf) (λ_ _=>rfl)) Zb)) (by rfl)) 
   (Ze (Zr (i:=6) Uh.nd (by rfl) (Or.inl (by rfl)) (Zq Y0 (by rfl) Z.len Yw (Za (pv 4) Zb))) 
   (Ze (Zr (i:=7) Uh.nd (by rfl) (Or.inl (by rfl)) (Z5 Zm (hr.mono (by decide)) (Za (pv 1) (Za (Zs (Z3 (K:=K)) (Yk (Za Zf (Za Zf (Za Zf Zb)))) (Z7 Qg (pv 6) Zf) (λ_ _=>rfl)) Zb)))) 
   (Ze (S2 (Z5 Wv (hr.mono (by decide)) (Za (pv 1) (Za (pv 4) (Za (Zs (Z3 (K:=K)) (Yk (Za Zf (Za Zf (Za Zf Zb)))) (Z7 Qg (pv 6) Zf) (λ_ _=>rfl)) Zb)))) (Vf (K:=K) (n:=2) (by rfl) (Ye (Zn (i:=8) Uh.nd (by rfl) (Or.inl (by rfl))) (Ye (Zn (i:=9) Uh.nd (by rfl) (Or.inl (by rfl))) Ve)))) 
   (Ze (Xp lI (by rfl) (Xg (K:=K) (Vy (B2 (K:=K)) (Yk (Za (Z2 (Za (pv 8) (Za (pv 9) Zb))) (Za (Z2 (Za (pv 9) (Za (pv 8) Zb))) (Za (Z2 (Za (pv 8) (Za (pv 8) Zb))) Zb)))) Pf (Vt (Zs (Z3 (K:=K)) (Yk (Za Zf (Za Zf (Za Zf Zb)))) (Z7 Qg (pv 6) Zf) (λ_ _=>rfl))))) (Vf (K:=K) (n:=2) (by rfl) (Ye (Zn (i:=10) Uh.nd (by rfl) (Or.inl (by rfl))) (Ye (Zn (i:=11) Uh.nd (by rfl) (Or.inl (by rfl))) Ve))) 
    (Zg (Yd (Um (Yr (K:=K) (Z5 Vn (hr.mono (by decide)) (Za (pv 10) (Za (pv 11) (Za (pv 7) (Za (Z5 Xj (hr.mono (by decide)) (Za (pv 10) (Za (pv 11) (Za (pv 7) Zb)))) Zb))))) (λ_=>rfl))) 
     (Zg (Zl W0)) Zu))) 
   (Ze (Yd (Zp Nr (Zs (Zo (K:=K)) (Z5 Xj (hr.mono (by decide)) (Za (pv 8) (Za (pv 9) (Za (pv 7) Zb)))) Zf (λ_ _=>rfl)) (Zs (Zo (K:=K)) (Z5 Xj (hr.mono (by decide)) (Za (pv 9) (Za (pv 8) (Za (pv 7) Zb)))) Zf (λ_ _=>rfl)) (Zw _)) 
    (Zg (Zl W0)) Zu) 
   (Zg (Zl (Z5 Tw (hr.mono (by decide)) (Za (pv 8) (Za (Z5 X3 (hr.mono (by decide)) (Za (pv 1) (Za (pv 5) (Za Zf Zb)))) (Za (Zq (Ds (by rfl)) (by rfl) Z.min Zc2 (Za (pv 7) (Za Zf Zb))) Zb))))))))))))))),?_⟩
 refine⟨_,rfl,a,ns,rfl,hS,λp sc H1 hp e1 FA=>?_⟩;have TX:Tb Px Nd H1:=Tb.start (e1 _ _ hTx);have TY:Tb Py Rj H1:=Tb.start (e1 _ _ hTy);refine⟨_,rfl,p,sc,3,rfl,by decide,by decide,FA,λz H2 hz d2 y9=>?_⟩;have TX:=Wq TX FA d2;have TY:=Wq TY FA d2;obtain⟨x,y,c,rfl,hxy,tG⟩:=three hz;refine⟨x,y,c,rfl,λq H3 e3 h3=>?_⟩;have h3:H3 q=some (.lst ((sb7 x y c).map V.str)):=h3;have m7:=y9.same e3;have TX:=TX.same e3;have TY:=TY.same e3
 have mC:q≠p:=λe=>by
  obtain⟨xs,h,a1,a2,a3,a4,e5,_⟩:=m7.here;rw[e,h,e5]at h3;cases h3
 refine⟨_,rfl,p,sc,7,rfl,by decide,by decide,m7,λr4 xs4 h40 h41 hx4=>?_⟩;have y7:=m7.go hx4;have d4:Zz H3 (upd H3 p (.lst xs4)) p:=Zz.upd _;have TX:=Wq TX m7 d4;have TY:=Wq TY m7 d4;have h4:=d4 _ _ h3 mC;generalize upd H3 p _=H4 at y7 d4 TX TY h4;obtain⟨i4,rfl⟩:∃i4:Nat,r4=(i4:Int):=⟨r4.toNat,by lia⟩;have hi4:i4<(sb7 x y c).length:=by show i4<7;lia
 obtain⟨l,zZ⟩:∃l,(sb7 x y c)[i4]?=some l:=⟨_,rZ hi4⟩;obtain⟨j0,t6⟩:=Zdy (oM zZ);refine⟨_,rfl,_,rfl,q,_,_,_,rfl,rfl,SqL.of h4,Zj (j:=i4) (by rw[oP,zZ];rfl),?_⟩;refine⟨_,rfl,_,rfl,_,_,rfl,rfl,_,rfl,p,sc,6,rfl,by decide,by decide,y7,λr5 sV h50 h51 yU=>?_⟩;have t5:=y7.go yU;have d5:Zz H4 (upd H4 p (.lst sV)) p:=Zz.upd _;have TX:=Wq TX y7 d5;have TY:=Wq TY y7 d5;have h5:=d5 _ _ h4 mC;generalize upd H4 p _=H5 at t5 d5 TX TY h5;obtain⟨i5,pK⟩:∃i5:Nat,((i4:Int)+1+r5)%7=(i5:Int):=⟨(((i4:Int)+1+r5)%7).toNat,by lia⟩;have hi5:i5<(sb7 x y c).length:=by show i5<7;lia
 obtain⟨ms,jA⟩:∃ms,(sb7 x y c)[i5]?=some ms:=⟨_,rZ hi5⟩;obtain⟨xK,hm3⟩:=Zdy (oM jA)
 have hlm:l≠ms:=λe=>by
  have:i4=i5:=(List.getElem?_inj hi4 (Zpt hxy tG)).mp (by rw[zZ,jA,e]);lia
 refine⟨_,_,rfl,rfl,_,_,rfl,rfl,by decide,q,_,_,_,rfl,rfl,SqL.of h5,(by rw[pK];exact Zj (j:=i5) (by rw[oP,jA];rfl)),_,_,rfl,?_⟩;refine⟨_,rfl,l,rfl,Xn (by lia),?_⟩;refine⟨_,rfl,(by show 3≤sizeLine;decide),λlp nlp=>?_⟩;generalize eZ:upd H5 lp _=H6;have s6:=nS7 eZ nlp;have h6:=nU7 eZ;have p5:=t5.same s6;have TX:=TX.same s6;have TY:=TY.same s6
 have b4:∀n:Int,n=(if l.length=1 then 4 else if l.length=2 then 4 else 3)→0<n∧n≤4∧(l.length=3→n=3):=λn e=>by
  have:l.length=1∨l.length=2∨l.length=3:=by lia
  rcases this with z|z|z<;>rw[z]at e<;>simp at e<;>lia
 obtain⟨b41,b42,b43⟩:=b4 _ rfl;refine⟨_,rfl,_,_,rfl,rfl,lp,_,_,_,rfl,rfl,SqL.of h6,Zc0 j0 t6 4 4 3,p,sc,_,rfl,b41,by lia,p5,λr7 xs7 h70 h71 hx7=>?_⟩;have kO:=p5.go hx7;have d7:Zz H6 (upd H6 p (.lst xs7)) p:=Zz.upd _;have TX:=Wq TX p5 d7;have TY:=Wq TY p5 d7;generalize upd H6 p _=H7 at kO d7 TX TY;obtain⟨kn,rfl⟩:∃kn:Nat,r7=(kn:Int):=⟨r7.toNat,by lia⟩;have c5:kn≤3:=by lia
 have hW:W15 kn l.cps.toList:=Zo5 (by
  have:l.length=1∨l.length=2∨l.length=3:=by lia
  rcases this with z|z|z
  ·exact .inl ⟨z,c5⟩
  ·exact .inr (.inl ⟨z,c5⟩)
  ·have:=b43 z
   exact .inr (.inr ⟨z,by lia⟩))
 clear b41 b42 b43 b4 h71;refine⟨_,rfl,_,rfl,(by show 3≤sizeLine;decide),λlq nlq=>?_⟩;generalize eZ:upd H7 lq _=H8;have s8:=nS7 eZ nlq;have h8:=nU7 eZ;have wT:=kO.same s8;have TX:=TX.same s8;have TY:=TY.same s8
 have b6:∀n:Int,n=(if l.length=1 then 6 else if l.length=2 then 6 else 4)→0<n∧n≤6:=λn e=>by
  have:l.length=1∨l.length=2∨l.length=3:=by lia
  rcases this with z|z|z<;>rw[z]at e<;>simp at e<;>lia
 obtain⟨b61,b62⟩:=b6 _ rfl;refine⟨_,rfl,_,_,rfl,rfl,lq,_,_,_,rfl,rfl,SqL.of h8,Zc0 j0 t6 6 6 4,p,sc,l,_,rfl,by lia,t6,b61,b62,wT,λt m1 m2 b1 b2 es1 es2 st1 st2 H9 ht M1 E1 M2 E2 d9 FA9=>?_⟩;have n1:=E1.2.2;have n2:=E2.2.2;have C9:C52 Px Py p sc m1 m2 l b1 b2 es1 es2 st1 st2 H9:=⟨FA9,M1,M2,Wq TX wT d9,Wq TY wT d9⟩;clear TX TY b61 b62 b6 M1 M2 FA9 E1 E2;refine⟨t,_,rfl,SqT.of ht,rfl,_,_,rfl,_,_,rfl,rfl,?_⟩;refine⟨_,rfl,_,rfl,(by show 2≤sizeLine;decide),λt1 nt1=>⟨_,rfl,_,rfl,(by show 2≤sizeLine;decide),λt2 nt2=>⟨_,rfl,_,rfl,(by show 2≤sizeLine;decide),λt3 fP=>⟨(by show 3≤sizeLine;decide),λla sP=>⟨(by show 3≤sizeLine;decide),λlb tQ=>?_⟩⟩⟩⟩⟩;generalize hH:upd (upd (upd (upd (upd H9 t1 _) t2 _) t3 _) la _) lb _=HA;have sA:Zt H9 HA:=by rw[←hH];exact(((((Zd nt1 _).trans (Zd nt2 _)).trans (Zd fP _)).trans (Zd sP _)).trans (Zd tQ _))
 have hA1:HA t1=some (.tup [.ref m1,.ref m2]):=by rw[←hH];exact Zd tQ _ _ _ (Zd sP _ _ _ (Zd fP _ _ _ (Zd nt2 _ _ _ Zc)))
 have hA2:HA t2=some (.tup [.ref m2,.ref m1]):=by rw[←hH];exact Zd tQ _ _ _ (Zd sP _ _ _ (Zd fP _ _ _ Zc))
 have hA3:HA t3=some (.tup [.ref m1,.ref m1]):=by rw[←hH];exact Zd tQ _ _ _ (Zd sP _ _ _ Zc)
 have hAa:HA la=some (.lst [.ref t1,.ref t2,.ref t3]):=by rw[←hH];exact Zd tQ _ _ _ Zc
 have hAb:HA lb=some (.lst [V.int 3,V.int 3,V.int 2]):=by rw[←hH];exact Zc
 clear hH;refine⟨_,rfl,_,_,rfl,rfl,lb,_,_,_,rfl,rfl,SqL.of hAb,Zc0 j0 t6 3 3 2,_,rfl,la,_,rfl,SqL.of hAa,λls nls=>?_⟩;generalize yJ:Hy [V.ref t1,V.ref t2,V.ref t3] none (some (if l.length=1 then 3 else if l.length=2 then 3 else 2))=cx
 have sI:∀x∈cx,x=.ref t1∨x=.ref t2∨x=.ref t3:=λx hx=>by
  rw[←yJ]at hx;have:=Zm4 hx;simpa using this
 generalize eZ:upd HA ls _=HB;have sB:=nS7 eZ nls;have hB:=nU7 eZ;have CB:=(C9.same sA).same sB;have hB1:=sB _ _ hA1;have hB2:=sB _ _ hA2;have hB3:=sB _ _ hA3;refine⟨ls,rfl,⟨_,SqL.of hB⟩,?_⟩
 refine Qz (K:=K) (a:=ls) (xs:=cx) (λi σ HC=>∃(v10 v11:Option V),σ=[some (.ref a),some (.ref p),some (.ref q),some (nI i4),some (.str l),some (.str ms),some (nI l.length),some (nI kn),some (.ref m1),some (.ref m2),v10,v11]∧C52 Px Py p sc m1 m2 l b1 b2 es1 es2 st1 st2 HC∧Kp2 Px Py HB HC)
  ⟨none,none,rfl,CB,λ_ _ _ _ h=>h⟩ (λi σ HC _ ⟨_,_,_,_,kc⟩=>SqL.of (kc.get CB.TX CB.TY (λ_ z=>nomatch z) hB)) ?_ ?_
 ·rintro i x σ HC hx ⟨v10,v11,rfl,CC,kc⟩;have get:∀{b:Addr}{ys:List V},HB b=some (.tup ys)→HC b=some (.tup ys):=λh=>kc.get CB.TX CB.TY (λ_ z=>nomatch z) h
  obtain⟨ta,ma,mb,ba,bb,zT,zU,wK,wL,hxe,hta,Ma,Mb,na,nb⟩:∃(ta ma mb:Addr) (ba bb:Nat) (zT zU:List Nat) (wK wL:WA),x=.ref ta∧HB ta=some (.tup [.ref ma,.ref mb])∧Yc HC ma l ba zT wK∧Yc HC mb l bb zU wL∧wK.length≤6∧wL.length≤6:=by
   rcases sI x (oM hx) with e|e|e
   ·exact⟨t1,m1,m2,_,_,_,_,_,_,e,hB1,CC.M1,CC.M2,n1,n2⟩
   ·exact⟨t2,m2,m1,_,_,_,_,_,_,e,hB2,CC.M2,CC.M1,n2,n1⟩
   ·exact⟨t3,m1,m1,_,_,_,_,_,_,e,hB3,CC.M1,CC.M1,n1,n1⟩
  refine⟨ta,_,hxe,SqT.of (get hta),rfl,_,_,rfl,_,_,rfl,rfl,?_⟩;refine⟨_,rfl,_,rfl,_,rfl,_,rfl,_,rfl,_,rfl,Ja Ma Mb CC.TX CC.TY o7 na nb c5 hW λtt ss rest HD kd wZ zC R vW hs=>?_⟩;have CD:=CC.kp kd wZ zC;exact⟨ma,mb,l,ba,bb,zT,zU,wK,wL,tt,kn,rfl,Ma.keep (CC.tk kd),Mb.keep (CC.tk kd),t6,na,nb,c5,hW,R,λHE eE=>⟨_,rfl,U2 ⟨_,_,rfl,CD.same eE,(kc.trans kd).trans λb o _ _ h=>eE b o h⟩⟩⟩
 ·rintro σ HC ⟨v10,v11,rfl,CC,kc⟩;refine⟨_,rfl,_,rfl,_,rfl,Ja CC.M1 CC.M2 CC.TX CC.TY o7 n1 n2 c5 hW λtt ss rest HD kd wZ zC _ vW hs=>?_⟩;have CD:=CC.kp kd wZ zC;refine⟨tt,_,_,_,rfl,rfl,SqT.of vW,Zj (j:=0) rfl,?_⟩;refine⟨_,rfl,_,rfl,_,rfl,Ja CD.M2 CD.M1 CD.TX CD.TY o7 n2 n1 c5 hW λtu su rest2 HE ke TXE TYE _ htu yS=>?_⟩;have CE:=CD.kp ke TXE TYE
  have hss:ss=su:=by
   rcases hs with ⟨e,h⟩|⟨e,h⟩<;>rcases yS with ⟨e2,h2⟩|⟨e2,h2⟩
   ·rw[e,e2]
   ·exact absurd h.symm h2
   ·exact absurd h2.symm h
   ·rw[e,e2]
  subst hss;refine⟨tu,_,_,_,rfl,rfl,SqT.of htu,Zj (j:=0) rfl,rfl,_,rfl,ifN (by simp) ?_⟩;refine⟨_,rfl,_,rfl,_,rfl,p,sc,ms,6,rfl,by lia,hm3,by decide,by decide,CE.FA,λm3 b3 es3 mF HF M3 E3 dF FAF=>?_⟩
  have Zrb:V.int (if (2:Int)<(kn:Int) then 2 else (kn:Int))=nI (min kn 2):=by
   unfold nI
   congr 1
   split<;>lia
  refine⟨_,rfl,_,_,rfl,?_⟩;exact⟨m1,m3,l,ms,b1,b3,es1,es3,st1,mF,min kn 2,by rw[←Zrb];rfl,CE.M1.keep (Tk.drew CE.FA dF),M3,Wq CE.TX CE.FA dF,Wq CE.TY CE.FA dF,o7,hlm,λH'=>k H'⟩
end
structure Dn(K:W.Frag)(x:Str)(st:Stmt)(f:Addr)(fd:FuncData):Prop where
 a:W.nsIn K mainGlobals x=some (some (.ref f))
 F:Fun K x x st f fd
theorem all_mk{l:W.OpenLaw}{w:World}{h:Heap}{mg:WD}{fa:Addr}(X:K.In h)(G:h.Ns mainGlobals mg)(hfa:mg "law"=some (.ref fa)){qp:Program}(TT:Zc9 qp K h)
  {f1:Addr}{g1:FuncData} (a1:Dn K "left_behind" Tg f1 g1)
  {f2:Addr}{g2:FuncData} (a2:Dn K "room_behind" Tf f2 g2)
  {f3:Addr}{g3:FuncData} (a3:Dn K "look_fit" Oj f3 g3)
  {f4:Addr}{g4:FuncData} (a4:Dn K "walked" Jx f4 g4)
  {f5:Addr}{g5:FuncData} (a5:Dn K "words_behind" Va f5 g5)
  {f6:Addr}{od6 an6:WS}{sl6:VI}{oc6 kV6 dc6 pm6 zK ct6:Value}
  (a6:W.nsIn K mainGlobals "taken_words"=some (some (.ref f6))) (l6:K.lookup f6=some ⟨oc6,od6,.func (W.fnOf "taken_words" "taken_words" (Ub Y2) (Wk Y2) (Zh Y2) .none kV6 dc6 pm6 an6 zK ct6),sl6⟩) (c6:W.codeIn K zK "taken_words"=true) (k6:W.keepIn K (.ref f6)=true)
  {f7:Addr}{g7:FuncData} (a7:Dn K "alike_texts" Ti f7 g7)
  {f8:Addr}{g8:FuncData} (a8:Dn K "longer_words" Uj f8 g8)
  {f9:Addr}{g9:FuncData} (a9:Dn K "spread_words" Vc f9 g9)
  {f10:Addr}{g10:FuncData} (tY:Dn K "having" Nk f10 g10)
  {f11:Addr}{g11:FuncData} (tZ:Dn K "lacking" Pd f11 g11)
  {f12:Addr}{g12:FuncData} (uA:Dn K "left_mixed" S0 f12 g12)
  {zV:Addr}{fW zG:WS}{rH:VI}{fU fA zM rC Zrz zL:Value}
  (uB:W.nsIn K mainGlobals "asking_word"=some (some (.ref zV))) (tH:K.lookup zV=some ⟨fU,fW,.func (W.fnOf "asking_word" "asking_word" (Ub Y3) (Wk Y3) (Zh Y3) .none fA zM rC zG Zrz zL),rH⟩) (zI:W.codeIn K Zrz "asking_word"=true) (pY:W.keepIn K (.ref zV)=true)
  {f14:Addr}{g14:FuncData} (uC:Dn K "asked" Cf f14 g14)
  {f15:Addr}{g15:FuncData} (mL:Dn K "wish_between" Vb f15 g15)
  {f16:Addr}{g16:FuncData} (uD:Dn K "parting_wish" Ui f16 g16)
  {f17:Addr}{g17:FuncData} (mM:Dn K "told_apart" Sz f17 g17)
  {f18:Addr}{g18:FuncData} (uE:Dn K "_law_flow" Oo f18 g18)
  {f19:Addr}{g19:FuncData} (uF:Dn K "_law_pick" Om f19 g19)
  {f20:Addr}{g20:FuncData} (uG:Dn K "_law_letters" Vr f20 g20)
  {f21:Addr}{g21:FuncData} (uH:Dn K "_law_order" Qb f21 g21)
  {f22:Addr}{g22:FuncData} (uI:Dn K "_law_spread_words" Wu f22 g22)
  {f23:Addr}{g23:FuncData} (uJ:Dn K "_law_machine" Wn f23 g23)
  {f24:Addr}{g24:FuncData} (uK:Dn K "_law_rising_machine" Xf f24 g24)
  {f25:Addr}{g25:FuncData} (mO:Dn K "_law_words_in" Wc f25 g25)
  {f26:Addr}{g26:FuncData} (uL:Dn K "_law_room" Ol f26 g26)
  {f27:Addr}{g27:FuncData} (uM:Dn K "_law_takes" Qa f27 g27)
  {f28:Addr}{g28:FuncData} (uN:Dn K "_law_places_machine" Yl f28 g28)
  {f29:Addr}{g29:FuncData} (xZ:Dn K "_law_by_words" Vd f29 g29)
  {f30:Addr}{g30:FuncData} (uO:Dn K "_law_few_words" Ys f30 g30)
  {f31:Addr}{g31:FuncData} (mP:Dn K "_law_wish_by" Vp f31 g31)
  {f32:Addr}{g32:FuncData} (uP:Dn K "_law_two_machines" Wt f32 g32)
  {f33:Addr}{g33:FuncData} (uQ:Dn K "_law_turned_ends" X6 f33 g33)
  {f34:Addr}{g34:FuncData} (uR:Dn K "_law_wish_due" Xa f34 g34)
  {f35:Addr}{g35:FuncData} (uS:Dn K "_law_texts_due" V5 f35 g35)
  {f36:Addr}{g36:FuncData} (uT:Dn K "_law_drawn_machine" Wm f36 g36)
  {f37:Addr}{g37:FuncData} (uU:Dn K "_law_subsets" Vq f37 g37)
  {f38:Addr}{g38:FuncData} (uV:Dn K "_law_told_right" Wh f38 g38)
  {f39:Addr}{g39:FuncData} (mQ:Dn K "_law_deep" Uk f39 g39)
  {f40:Addr}{g40:FuncData} (mR:Dn K "_law_is_wish" Xz f40 g40)
  {f41:Addr}{g41:FuncData} (uW:Dn K "_law_refused" Th f41 g41)
  {zW:Addr}{fX Zve:WS}{rJ:VI}{fV Zuc Zu4 Ztp Zry Zu5:Value}
  (uX:W.nsIn K mainGlobals "law"=some (some (.ref zW))) (fE:K.lookup zW=some ⟨fV,fX,.func (W.fnOf "law" "law" (Ub Nj) (Wk Nj) (Zh Nj) .none Zuc Zu4 Ztp Zve Zry Zu5),rJ⟩) (zJ:W.codeIn K Zry "law"=true) (pZ:W.keepIn K (.ref zW)=true)
  (z_ValueError:W.nsIn K mainGlobals "ValueError"=some none)
  (z_all:W.nsIn K mainGlobals "all"=some none)
  (z_any:W.nsIn K mainGlobals "any"=some none)
  (z_dict:W.nsIn K mainGlobals "dict"=some none)
  (z_enumerate:W.nsIn K mainGlobals "enumerate"=some none)
  (z_int:W.nsIn K mainGlobals "int"=some none)
  (z_isinstance:W.nsIn K mainGlobals "isinstance"=some none)
  (z_len:W.nsIn K mainGlobals "len"=some none)
  (z_list:W.nsIn K mainGlobals "list"=some none)
  (z_max:W.nsIn K mainGlobals "max"=some none)
  (z_min:W.nsIn K mainGlobals "min"=some none)
  (z_range:W.nsIn K mainGlobals "range"=some none)
  (z_set:W.nsIn K mainGlobals "set"=some none)
  (z_sorted:W.nsIn K mainGlobals "sorted"=some none)
  (z_str:W.nsIn K mainGlobals "str"=some none)
  (z_tuple:W.nsIn K mainGlobals "tuple"=some none)
  (z_zip:W.nsIn K mainGlobals "zip"=some none)
  (a_SpreadError:W.nsIn K mainGlobals "SpreadError"=some (some (.ref Y1)))
  (a_NoFit:W.nsIn K mainGlobals "NoFit"=some (some (.ref Yj))) (f_NoFit:Zrp K Yj=true) (k_NoFit:W.keepIn K (.ref Yj)=true)
  (e_NoFit:Zgm K Yj none=true)
  (e_kn:W.kitOne K (.ref Yj) (.ref Yj)=some true) (e_kv:W.kitOne K (.ref Yj) (.type "ValueError")=some true) (e_xm:W.exmOne K (.ref Yj) (.ref Y1)=some true)
  (q_ALWAYS:W.nsIn K mainGlobals "ALWAYS"=some (some (.ref aA))) {oA:Obj} (f_ALWAYS:K.lookup aA=some oA) (t_ALWAYS:∃its n,oA.cls=.type "tuple"∧oA.data=.seq its n∧its.size≤sizeLine∧Vals [V.str "always"] its.toList)
  (q_NEVER:W.nsIn K mainGlobals "NEVER"=some (some (.ref aN))) {oN:Obj} (f_NEVER:K.lookup aN=some oN) (t_NEVER:∃its n,oN.cls=.type "tuple"∧oN.data=.seq its n∧its.size≤sizeLine∧Vals [V.str "never"] its.toList)
  (n0:W.noTabs K=true)
  {Tq X2:Addr}{Fj:DefRec}{Iv:Value}{Ir:WS}{Js:VI}{Rp:WN} (y_taken_words:zK=.ref Tq) (v_taken_words:K.lookup Tq=some ⟨Iv,Ir,.fields Rp,Js⟩) (u_taken_words:Rp[11]?=some (.ref X2)) (w_taken_words:(recsOf qp).find? (λe=>e.name==Str.ofString "taken_words")=some Fj)
  {Tr Y5:Addr}{Fl:DefRec}{Iw:Value}{Iu:WS}{Jt:VI}{Rq:WN} (y_asking_word:Zrz=.ref Tr) (v_asking_word:K.lookup Tr=some ⟨Iw,Iu,.fields Rq,Jt⟩) (u_asking_word:Rq[11]?=some (.ref Y5)) (w_asking_word:(recsOf qp).find? (λe=>e.name==Str.ofString "asking_word")=some Fl)
  (x_taken_words_asking_word:X2≠Y5)
  : W.noTabs K=true∧∃(fd:FuncData) (tabs:VR),W.TabsAt tabs h∧(∀(s:Shared) (v:Value),BindsTo s fd ⟨[v],[]⟩ [("_law_script",v)])∧∀base:Heap,K.In base→base.Ns mainGlobals mg→Mf mg base→Ya l.prog w K mg base CX0 41 fa fd VQ (D9 K tabs):=by
 have e:=hfa.symm.trans (cH X G uX);cases e;have Zcd:=cH X G a3.a
 have Zc5:=a3.F.binds (ps:=US) λ_ _ _ _ _ _ us hl=>match us,hl with|[_,_],_=>rfl
 have Ts:=fun_mk (st:=Y2) l6 c6 k6
 have Fs:=Ts.binds (ps:=["machine","k"]) λ_ _ _ _ _ _ us hl=>match us,hl with|[_,_],_=>rfl
 have Oe:=cH X G a6;have Tt:=fun_mk (st:=Y3) tH zI pY
 have Fv:=Tt.binds (ps:=WQ) λ_ _ _ _ _ _ us hl=>match us,hl with|[_,_,_],_=>rfl
 have Of:=cH X G uB;have Hb:=cH X G mL.a
 have Gk:=mL.F.binds (ps:=WQ) λ_ _ _ _ _ _ us hl=>match us,hl with|[_,_,_],_=>rfl
 have C2:=cH X G mM.a
 have Bk:=mM.F.binds (ps:=UK) λ_ _ _ _ _ _ us hl=>match us,hl with|[_,_,_],_=>rfl
 have Hc:=cH X G mO.a
 have Gm:=mO.F.binds (ps:=WY) λ_ _ _ _ _ _ us hl=>match us,hl with|[_],_=>rfl
 have Qp:=cH X G xZ.a
 have Q7:=xZ.F.binds (ps:=VA) λ_ _ _ _ _ _ us hl=>match us,hl with|[_,_],_=>rfl
 have G8:=cH X G mP.a
 have Ft:=mP.F.binds (ps:=WL) λ_ _ _ _ _ _ us hl=>match us,hl with|[_,_,_],_=>rfl
 have Zce:=cH X G mQ.a
 have Zc6:=mQ.F.binds (ps:=WY) λ_ _ _ _ _ _ us hl=>match us,hl with|[_],_=>rfl
 have G9:=cH X G mR.a
 have Fu:=mR.F.binds (ps:=WJ) λ_ _ _ _ _ _ us hl=>match us,hl with|[_,_],_=>rfl
 have Zo2:=fun_mk (st:=Nj) fE zJ pZ
 have b_law:=Zo2.binds (ps:=VQ) λ_ _ _ _ _ _ us hl=>match us,hl with|[_],_=>rfl
 have m_law:=cH X G uX;have Z:Blt mg:=⟨iW X G z_ValueError,iW X G z_all,iW X G z_any,iW X G z_dict,iW X G z_enumerate,iW X G z_int,iW X G z_isinstance,iW X G z_len,iW X G z_list,iW X G z_max,iW X G z_min,iW X G z_range,iW X G z_set,iW X G z_sorted,iW X G z_str,iW X G z_tuple,iW X G z_zip⟩;have Oc:=Bv a6 l6 y_taken_words v_taken_words u_taken_words;have Q8:=TT _ _ _ _ w_taken_words Oc;have Od:=Bv uB tH y_asking_word v_asking_word u_asking_word;have Q9:=TT _ _ _ _ w_asking_word Od;refine⟨n0,W.fnOf "law" "law" (Ub Nj) (Wk Nj) (Zh Nj) .none Zuc Zu4 Ztp Zve Zry Zu5,[(Tq,X2),(Tr,Y5)],?_,λs v=>.of_eq rfl,λbase BX BG BM=>?_⟩
 ·exact List.forall_mem_cons.mpr ⟨Q8,List.forall_mem_cons.mpr ⟨Q9,λ_ h=>nomatch h⟩⟩
 have Gz:=Zeo Q8.1 X BX v_taken_words;have Fe:=W.law_code X G Oc Oe (X _ _ l6) rfl;have G0:=Zeo Q9.1 X BX v_asking_word;have Ff:=W.law_code X G Od Of (X _ _ tH) rfl;have y1:∀(base:Heap) {x:Str}{st:Stmt}{f:Addr}{fd:FuncData}{n:Nat}{ps:List Str}{sp:Sp},Dn K x st f fd→Ya l.prog w K mg base CX0 n f fd ps sp→(∀(kV doc pm:Value) (an:WS) (cdv ct:Value) (us:WC),us.length=ps.length→bindArgs (W.fnOf x x (Ub st) (Wk st) (Zh st) .none kV doc pm an cdv ct) ⟨us,[]⟩=pure (ps.zip us))→Cal l.prog w K mg base x n ps sp:=by intro _ _ _ _ _ _ _ _ D h b;exact⟨_,_,h,cH X G D.a,D.F.kp,D.F.binds b⟩
 have kl:Kl2 K mg Y1 Yj:=⟨cH X G a_SpreadError,cH X G a_NoFit,Zmz f_NoFit,k_NoFit,e_NoFit,e_kn,e_kv,e_xm⟩;have Wd:=cH X G q_ALWAYS;have Vi:=cH X G q_NEVER;have kA:Fw K aA [.str "always"]:=let ⟨its,n,h1,h2,h3,h4⟩:=t_ALWAYS;⟨oA,its,n,f_ALWAYS,h1,h2,h3,h4⟩
 have kN:Fw K aN [.str "never"]:=let ⟨its,n,h1,h2,h3,h4⟩:=t_NEVER;⟨oN,its,n,f_NEVER,h1,h2,h3,h4⟩
 have Zm:=y1 base uF (Au uF.F Z) (λ_ _ _ _ _ _ us hl=>match us,hl with|[_,_],_=>rfl)
 have Na:=y1 base uE (Av uE.F Z) (λ_ _ _ _ _ _ us hl=>match us,hl with|[_],_=>rfl)
 have Tx:=y1 base uG (Im uG.F Z Zm) (λ_ _ _ _ _ _ us hl=>match us,hl with|[_,_],_=>rfl)
 have CR:=λbase=>y1 base a2 (Ih a2.F Z) (λ_ _ _ _ _ _ us hl=>match us,hl with|[_,_,_],_=>rfl)
 have CW:∀base,Cal l.prog w K mg base "walked" 3 _ (Zhu l.prog w K mg base 2 [false,true]):=λbase=>y1 base a4 (Zb4 a4.F Z) (λ_ _ _ _ _ _ us hl=>match us,hl with|[_,_,_],_=>rfl)
 have CB:=λbase=>y1 base a5 (Kc a5.F Z) (λ_ _ _ _ _ _ us hl=>match us,hl with|[_,_,_],_=>rfl);have Vw:Cal l.prog w K mg base "taken_words" 4 _ (Zpo X2):=⟨_,_,Ig Ts Z Fe Gz BM CW CB CR,Oe,Ts.kp,Fs⟩
 have CV:=λbase=>y1 base tY (Zft tY.F Z) (λ_ _ _ _ _ _ us hl=>match us,hl with|[_,_],_=>rfl)
 have CL:=λbase=>y1 base tZ (Zb5 tZ.F Z) (λ_ _ _ _ _ _ us hl=>match us,hl with|[_,_],_=>rfl)
 have CX:=λbase=>y1 base uA (G5 uA.F Z) (λ_ _ _ _ _ _ us hl=>match us,hl with|[_,_],_=>rfl);have X4:Cal l.prog w K mg base "asking_word" 4 _ (Zdx Y5):=⟨_,_,Ip Tt Z Ff G0 BM CV CL CX,Of,Tt.kp,Fv⟩
 have Pu:=y1 base uC (Zjj uC.F Z Wd Vi kA kN) (λ_ _ _ _ _ _ us hl=>match us,hl with|[_,_,_],_=>rfl)
 have Xs:Cal l.prog w K mg base "wish_between" 21 _ (Zbq K Y5 16):=y1 base mL (Rf mL.F Gk Hb Z Wd Vi kA kN X4 (CV base) (CL base) Pu 16) (λ_ _ _ _ _ _ us hl=>match us,hl with|[_,_,_],_=>rfl)
 have Tz:=y1 base a7 (Iq a7.F Z) (λ_ _ _ _ _ _ us hl=>match us,hl with|[_,_],_=>rfl)
 have Tu:=y1 base a1 (Ii a1.F Z) (λ_ _ _ _ _ _ us hl=>match us,hl with|[_,_,_],_=>rfl)
 have Uy:=y1 base a8 (Kf a8.F Z Tu) (λ_ _ _ _ _ _ us hl=>match us,hl with|[_,_,_],_=>rfl)
 have Uw:=y1 base a9 (Kd a9.F Z Uy) (λ_ _ _ _ _ _ us hl=>match us,hl with|[_,_],_=>rfl)
 have Ux:Cal l.prog w K mg base "parting_wish" 22 _ (Zpp K Y5):=y1 base uD (Ke uD.F Z Uw Xs) (λ_ _ _ _ _ _ us hl=>match us,hl with|[_,_,_,_],_=>rfl);have O9:Zdg l.prog w K mg base "look_fit" 1 _ (Zbp Yj):=⟨_,_,Ar a3.F Z kl,Zcd,a3.F.kp,Zc5⟩;have Xj:Zdg l.prog w K mg base "told_apart" 23 _ (Zhy K X2 Y5 Yj):=⟨_,_,G4 mM.F Z kl O9 Vw Tz Ux,C2,mM.F.kp,Bk⟩
 have X3:=y1 base uJ (Il uJ.F Z Zm) (λ_ _ _ _ _ _ us hl=>match us,hl with|[_,_,_],_=>rfl)
 have Yn:=y1 base uK (Rk uK.F Z Zm) (λ_ _ _ _ _ _ us hl=>match us,hl with|[_,_,_],_=>rfl)
 have Yz:=y1 base uT (Ql uT.F Z Zm X3 Yn) (λ_ _ _ _ _ _ us hl=>match us,hl with|[_,_,_],_=>rfl)
 have X7:=y1 base uQ (Ot uQ.F Z) (λ_ _ _ _ _ _ us hl=>match us,hl with|[_],_=>rfl)
 have Ww:=y1 base uL (As uL.F Z) (λ_ _ _ _ _ _ us hl=>match us,hl with|[_,_,_],_=>rfl)
 have Te:=y1 base uM (Cv uM.F Z Ww) (λ_ _ _ _ _ _ us hl=>match us,hl with|[_,_],_=>rfl)
 have Yg:=y1 base uH (Cw uH.F Z) (λ_ _ _ _ _ _ us hl=>match us,hl with|[_],_=>rfl)
 have Tw:Cal l.prog w K mg base "_law_refused" 24 _ (Zh2 K X2 Y5):=y1 base uW (Ik uW.F Z kl Xj) (λ_ _ _ _ _ _ us hl=>match us,hl with|[_,_,_],_=>rfl)
 have Ko:=y1 base xZ (V6 xZ.F Q7 Qp Z 5) (λ_ _ _ _ _ _ us hl=>match us,hl with|[_,_],_=>rfl)
 have Yp:=y1 base xZ (V6 xZ.F Q7 Qp Z 34) (λ_ _ _ _ _ _ us hl=>match us,hl with|[_,_],_=>rfl)
 have U0:=y1 base mQ (Lr mQ.F Zc6 Zce Z 34) (λ_ _ _ _ _ _ us hl=>match us,hl with|[_],_=>rfl)
 have Wo:=y1 base mR (Qk mR.F Fu G9 Z 34) (λ_ _ _ _ _ _ us hl=>match us,hl with|[_,_],_=>rfl)
 have Xv:=y1 base uI (Pz uI.F Z Yg) (λ_ _ _ _ _ _ us hl=>match us,hl with|[_,_],_=>rfl)
 have We:=y1 base mO (Rg mO.F Gm Hc Z Yg 34) (λ_ _ _ _ _ _ us hl=>match us,hl with|[_],_=>rfl)
 have V7:=y1 base uS (Mv uS.F Z Xv Te) (λ_ _ _ _ _ _ us hl=>match us,hl with|[_,_,_,_,_],_=>rfl)
 have Tv:=y1 base uU (Ij uU.F Z) (λ_ _ _ _ _ _ us hl=>match us,hl with|[_],_=>rfl)
 have Y6:=y1 base mP (Qj mP.F Ft G8 Z Zm 3) (λ_ _ _ _ _ _ us hl=>match us,hl with|[_,_,_],_=>rfl)
 have Uz:=y1 base uR (Kg uR.F Z Yp Ww We) (λ_ _ _ _ _ _ us hl=>match us,hl with|[_,_,_,_],_=>rfl)
 have Vn:=y1 base uV (Nu uV.F Z U0 Wo V7 Uz) (λ_ _ _ _ _ _ us hl=>match us,hl with|[_,_,_,_],_=>rfl)
 have V8:=y1 base uO (Mw uO.F Z Yg Zm) (λ_ _ _ _ _ _ us hl=>match us,hl with|[_,_],_=>rfl)
 have Xk:=y1 base uN (Rm uN.F Z Ko) (λ_ _ _ _ _ _ us hl=>match us,hl with|[_,_,_],_=>rfl)
 have Wv:=y1 base uP (Pw uP.F Z Yz V8 Zm Xk Yn X7 Y6) (λ_ _ _ _ _ _ us hl=>match us,hl with|[_,_,_],_=>rfl);exact Zqg x_taken_words_asking_word Zo2 Z Na Tx X3 Zm Tw Tv Vn Wv Xj.calm
theorem walk{l:W.OpenLaw}{q:Program}{loose:List Str}{XP:VT}{YP:UU}{d:DefRec}{K:Params→W.Frag}(hn:l.most=some 63)(eU:d.params.defaults=[])
  (hY:∀(w:World) (h:Heap),YP w h→(K w.params).In h)
  (F:∀(w:World) (mg:WD) (fa:Addr) (h:Heap),(K w.params).In h→h.Ns mainGlobals mg→mg d.name=some (.ref fa)→Zc9 q (K w.params) h→
   W.noTabs (K w.params)=true∧∃(fd:FuncData) (tabs:VR),W.TabsAt tabs h∧(∀(s:Shared) (u:Value),BindsTo s fd ⟨[u],[]⟩ [("_law_script",u)])∧∀base:Heap,(K w.params).In base→base.Ns mainGlobals mg→Mf mg base→Ya l.prog w (K w.params) mg base CX0 41 fa fd VQ (D9 (K w.params) tabs)) :
  W.WalkO q loose XP YP l.row.toRowW d [] (λf vs=>PySem.call f vs):=
 L2.Zhd (n:=63) (k:=41) (x:="_law_script") (CX:=λ_=>CX0) (sp:=λw tabs=>D9 (K w.params) tabs) hn (by decide) eU ⟨rfl,by decide,by decide⟩ hY F (λ_ _ _ a ns hl hT hS=>⟨a,ns,rfl,hS,hl,hT,λ_=>rfl⟩) λ_ _ _ _ _ z=>z
end My
open PySem PySem.W PyProof.Rows
def PySem.W.Fast.tw11318088557870108183:Nat:=0
def PySem.W.Fast.tw445555098158506218:Nat:=0
def PySem.W.Fast.tw15235995481759484919:Nat:=0
def PySem.W.Fast.tw2372146595775788024:Nat:=0
def PySem.W.Fast.tw16027334082795050417:Nat:=0
def PySem.W.Fast.tw2719900571102335182:Nat:=0
def PySem.W.Fast.tw5108757795090228877:Nat:=0
def PySem.W.Fast.tw9322128981226001976:Nat:=0
def PySem.W.Fast.tw14244253094117815778:Nat:=0
def PySem.W.Fast.tw256164686584192364:Nat:=0
def PySem.W.Fast.tw12819560947013964581:Nat:=0
def PySem.W.Fast.tw1968468656680558832:Nat:=0
def PySem.W.Fast.tw17745770745267748780:Nat:=0
def PySem.W.Fast.tw6253022541697302561:Nat:=0
def PySem.W.Fast.tw10389992017334199025:Nat:=0
def PySem.W.Fast.tw14592170556678487519:Nat:=0
def PySem.W.Fast.tw14386700239515192031:Nat:=0
def PySem.W.Fast.tw7448514917285480683:Nat:=0
def PySem.W.Fast.tw14729180715780267645:Nat:=0
def PySem.W.Fast.tw8331699824592351761:Nat:=0
def PySem.W.Fast.tw13651934191902377340:Nat:=0
def PySem.W.Fast.tw15340820141152401304:Nat:=0
def PySem.W.Fast.tw9391827109572322021:Nat:=0
def PySem.W.Fast.tw9551905385799384483:Nat:=0
def PySem.W.Fast.tw368243500396393954:Nat:=0
def PySem.W.Fast.tw8477175186632966473:Nat:=0
def PySem.W.Fast.tw15647282605642806933:Nat:=0
def PySem.W.Fast.tw14107052463647516075:Nat:=0
def PySem.W.Fast.tw12908718024196272989:Nat:=0
def PySem.W.Fast.tw9751560864583059989:Nat:=0
def PySem.W.Fast.tw6540327927217698022:Nat:=0
def PySem.W.Fast.tw6399044097943151026:Nat:=0
def PySem.W.Fast.tw2316826813332317536:Nat:=0
def PySem.W.Fast.tw16102215859788848279:Nat:=0
def PySem.W.Fast.tw13012660125080469959:Nat:=0
def PySem.W.Fast.tw2762156609249908434:Nat:=0
def PySem.W.Fast.tw5148259937107947927:Nat:=0
def PySem.W.Fast.tw89560750635237761:Nat:=0
def PySem.W.Fast.tw16708666674967159168:Nat:=0
def PySem.W.Fast.tw13315823381648713913:Nat:=0
def PySem.W.Fast.tw6971359008495076379:Nat:=0
def PySem.W.Fast.tw9116851460785141683:Nat:=0
def PySem.W.Fast.tw257925605263967153:Nat:=0
def PySem.W.Fast.tw3922961685135087574:Nat:=0
def PySem.W.Fast.tw13143026398701959792:Nat:=0
def PySem.W.Fast.tw5080426806090559568:Nat:=0
def PySem.W.Fast.tw18150306805197210798:Nat:=0
def PySem.W.Fast.tw3625914771227934961:Nat:=0
def PySem.W.Fast.tw15241612260612436407:Nat:=0
def PySem.W.Fast.tw15286104130405375821:Nat:=0
def PySem.W.Fast.tw1556131495854586448:Nat:=0
def PySem.W.Fast.tw6218660733391892524:Nat:=0
set_option maxRecDepth 100000 in
set_option maxHeartbeats 0 in
theorem PySem.Challenge.cw_spreadwords_k52_machines_told_apart_holds : PySem.Challenge.rw_spreadwords_k52_machines_told_apart.Holds := by
 w_on; o_law; k_head; (case hw=>w_witness2)
 k_fill
 refine My.walk (l:=PySem.Challenge.rw_spreadwords_k52_machines_told_apart) rfl rfl (fun w h Y=>PySem.W.km_in_of Y) ?F
 case F=>
  intro w mg fa h KX G xL TT
  refine' My.all_mk KX G xL TT ?a1 ?a2 ?a3 ?a4 ?a5 ?a6 ?l6 ?c6 ?k6 ?a7 ?a8 ?a9 ?tY ?tZ ?uA ?uB ?tH ?zI ?pY ?uC ?mL ?uD ?mM ?uE ?uF ?uG ?uH ?uI ?uJ ?uK ?mO ?uL ?uM ?uN ?xZ ?uO ?mP ?uP ?uQ ?uR ?uS ?uT ?uU ?uV ?mQ ?mR ?uW ?uX ?fE ?zJ ?pZ ?z_ValueError ?z_all ?z_any ?z_dict ?z_enumerate ?z_int ?z_isinstance ?z_len ?z_list ?z_max ?z_min ?z_range ?z_set ?z_sorted ?z_str ?z_tuple ?z_zip ?a_SpreadError ?a_NoFit ?f_NoFit ?k_NoFit ?e_NoFit ?e_kn ?e_kv ?e_xm ?q_ALWAYS ?f_ALWAYS ?t_ALWAYS ?q_NEVER ?f_NEVER ?t_NEVER ?n0 ?y_taken_words ?v_taken_words ?u_taken_words ?w_taken_words ?y_asking_word ?v_asking_word ?u_asking_word ?w_asking_word ?x_taken_words_asking_word
  (case a1 | a2 | a3 | a4 | a5 | a7 | a8 | a9 | tY | tZ | uA | uC | mL | uD | mM | uE | uF | uG | uH | uI | uJ | uK | mO | uL | uM | uN | xZ | uO | mP | uP | uQ | uR | uS | uT | uU | uV | mQ | mR | uW=>refine' My.Dn.mk ?x (L2.fun_mk ?l ?c ?k); (case x=>k_is); (case l=>k_is); (case c=>k_is); (case k=>k_is))
  (case a6 | l6 | c6 | k6 | uB | tH | zI | pY | uX | fE | zJ | pZ | z_ValueError | z_all | z_any | z_dict | z_enumerate | z_int | z_isinstance | z_len | z_list | z_max | z_min | z_range | z_set | z_sorted | z_str | z_tuple | z_zip | q_ALWAYS | q_NEVER=>k_is)
  (case a_SpreadError=>k_is)
  (case a_NoFit=>k_is)
  (case f_NoFit=>with_unfolding_all rfl)
  (case k_NoFit=>k_is)
  (case e_NoFit=>with_unfolding_all rfl)
  (case e_kn=>with_unfolding_all rfl)
  (case e_kv=>with_unfolding_all rfl)
  (case e_xm=>with_unfolding_all rfl)
  (case f_ALWAYS=>with_unfolding_all rfl)
  (case t_ALWAYS=>exact ⟨_,_,rfl,rfl,by decide,.cons ⟨_,rfl⟩ .nil⟩)
  (case f_NEVER=>with_unfolding_all rfl)
  (case t_NEVER=>exact ⟨_,_,rfl,rfl,by decide,.cons ⟨_,rfl⟩ .nil⟩)
  (case n0=>kernel_rfl)
  (case y_taken_words=>exact rfl)
  (case v_taken_words=>k_is)
  (case u_taken_words=>exact rfl)
  (case w_taken_words=>exact rfl)
  (case y_asking_word=>exact rfl)
  (case v_asking_word=>k_is)
  (case u_asking_word=>exact rfl)
  (case w_asking_word=>exact rfl)
  (case x_taken_words_asking_word=>decide)
