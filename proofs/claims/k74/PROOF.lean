import PyProof.Rows.All
import Wide.All
import OpenK.AllK
import Wide.FinOn
import PyProof.ZipIter
import KE.KTryMore
import PyProof.NsDelKeeps
import PyProof.ListRange
import PyProof.Draws
import PyProof.EnumMake
import KE.KUnpack
import KE.KLam
import KE.KRevIter
import KE.KDictOf
import PyProof.AttrMissSeq
import KE.KDictList
import KE.LcSums
import KE.KSortTup
import KE.KIntText
import PyProof.StrLawsTight
import PyProof.StrLawsChain
import PyProof.Rows.StrItems
import PyProof.NeKinds
import PyProof.Rows.SetFrom
import PyProof.DictFindH
import Lean
import PyProof.EqAt
import PyProof.EqKinds
import PyProof.TupleCall
import PyProof.ListStr
import KE.KRevSl
import PyProof.Rows.Range3
import PySem.Challenge.RW_spreadwords_k74_whole_turned_about_and_w
set_option Elab.async false
set_option linter.all false
set_option maxRecDepth 100000
set_option maxHeartbeats 4000000
set_option compiler.extract_closed false
section
open PySem PySem.Spec PyProof.Rows
def oA:=@wpAny_bind
def oB:=@List.length_map
def oC:=@List.getElem?_eq_getElem
def oD:=@wpAny_pure
def oE:=@Heap.get?_push_of_some
def oF:=@List.getElem?_eq_some_iff
def oG:=@Nat.le_refl
def oH:=@List.getElem?_map
def oJ:=@List.getD_eq_getElem?_getD
def oK:=@List.mem_cons_self
def oO:=@List.size_toArray
def oQ:=@List.mem_cons_of_mem
def oR:=@List.mem_of_getElem?
def oS:=@Heap.get?_push_size
def oT:=@Heap.lt_size
def oU:=@List.mem_singleton
def oV:=@List.length_append
def oW:=@List.map_cons
def oX:=@List.mem_cons
def oY:=@PySem.F.plainAttrs_list
def oZ:=@Nat.lt_of_lt_of_le
def lA:=@Bool.false_ne_true
def lB:=@List.getElem?_append_left
def lC:=@List.length_take
def lD:=@Nat.zero_le
def lE:=@Nat.ne_of_lt
def lF:=@List.mem_map
def lG:=@List.length_cons
def lH:=@List.map_append
def lI:=@Nat.le_trans
def lJ:=@Array.length_toList
def lK:=@List.getElem?_append_right
def lL:=@Array.getElem?_toList
def lM:=@List.take_length
def lN:=@List.mem_append_right
def lO:=@List.length_range
def lP:=@wpAny_call_entry
def lQ:=@Bool.and_eq_true
def lR:=@wpAny_callSpecial?_slot
def lS:=@wpAny_newObj_type
def lT:=@Heap.get?_update_self
def lU:=@List.map_map
def lV:=@F.slot_dict_keyiterator_next
def lW:=@PassesOwn.never
def lX:=@PySem.F.slot_list_append
def lY:=@PySem.F.type_list_append
def lZ:=@Heap.get?_update_other
def iA:=@List.Nodup.idxOf_getElem
def iB:=@wpAny_holding
def iC:=@PyProof.Rows.callWith_type1
def iD:=@List.mem_append
def iE:=@List.take_add_one
def iF:=@wpAny_field
def iG:=@List.mem_range
def iH:=@wpAny_loadPart'
def iI:=@wpAny_Call_Name_kw
def iJ:=@List.nodup_cons
def iK:=@PySem.mem_of_lookup
def iL:=@Nat.lt_irrefl
def iM:=@Bool.false_eq_true
def iN:=@Nat.lt_or_ge
def iO:=@List.getElem?_eq_none
def iP:=@Array.getElem?_eq_getElem
def iQ:=@wpAny_of_eq
def iR:=@Nat.min_le_left
def iS:=@Obj.data_mapFields
def iT:=@List.eq_nil_of_length_eq_zero
def iU:=@wpAny_typeNameOfWhole_keyiter
def iV:=@Heap.SameBut.update
def iW:=@List.length_reverse
def iX:=@List.getElem?_eq_none_iff
def iY:=@Ne.symm
def iZ:=@List.lookup_cons
def cY:=@Nat.le_succ
def cZ:=@PySem.F.plainAttrs_str
def bA:=@List.length_drop
def bB:=@Heap.size_push
def bC:=@wpAny_ite_split
def bD:=@wpAny_typeNameOf_keyiter
def bE:=@List.getElem_of_mem
def bF:=@List.length_singleton
def bG:=@Int.toNat_natCast
def bH:=@PyProof.Rows.slot_tuple_getitem
def bI:=@wpAny_attempt
def bJ:=@Nat.ne_of_gt
def bK:=@Nat.lt_of_le_of_lt
def bL:=@wpAny_specialOf
def bM:=@Around.under_plainId
def bN:=@F.args_dict_keyiterator_next_1
def bO:=@List.drop_eq_getElem_cons
def bP:=@F.entry_dict_keyiterator_next
def bQ:=@List.map_nil
def bR:=@wpAny_setField
def bS:=@Obj.isFreed_of_fields
def bT:=@PySem.F.slot_list_pop
def bU:=@PySem.F.type_list_pop
def bV:=@W.mg_none_of
def bW:=@Bool.eq_iff_iff
def bX:=@List.getElem_mem
def bY:=@wpAny_isInstance
def bZ:=@List.map_id
def aA:=@wpAny_mono
def aB:=@List.append_nil
def aC:=@wpAny_rule
def aD:=@codeAny_builtin
def aE:=@List.pairwise_iff_getElem
def aF:=@PySem.F.slot_str_join
def aG:=@Calls.spliced_cons
def aH:=@List.not_mem_nil
def aJ:=@PySem.F.called_set
def aK:=@List.mem_append_left
def aL:=@List.dropLast_concat
def aM:=@wpAny_truthy_bool
def aN:=@List.reverse_cons
def aO:=@wpAny_pyIter_enum
def aP:=@List.mem_filter
def aQ:=@List.idxOf_lt_length_of_mem
def aR:=@List.take_of_length_le
def aS:=@Nat.lt_succ_self
def aU:=@List.all_eq_true
def aV:=@wpAny_fieldsOf
def aW:=@wpAny_isOneOf_keyiter
def aX:=@List.length_filter_le
def aY:=@PySem.F.plain_extend_loop
def aZ:=@wpAny_typeOf
def ZA:=@List.length_nil
def ZC:=@List.reverse_reverse
def ZD:=@Nat.lt_add_of_pos_right
def ZE:=@Nat.add_lt_add_left
def ZF:=@PySem.F.slot_dict_setdefault
def ZG:=@Calls.callWith_builtin
def ZH:=@List.drop_eq_nil_of_le
def ZI:=@Nat.le_of_lt
def ZJ:=@Array.getD_eq_getD_getElem?
def ZK:=@PyProof.Rows.F.plain_set_update_loop
def ZL:=@wpAny_passesOwn
def ZM:=@List.of_mem_zip
def ZN:=@List.length_replicate
def ZO:=@SeqAt.EqAt.same
def ZP:=@StrLaws.glued_eq_join
def ZQ:=@wpAny_updateSeq
def ZR:=@PySem.F.type_str_join
def ZS:=@List.range_succ
def ZT:=@List.nodup_iff_pairwise_ne
def ZU:=@F.slot_tuple_iterator_next
def ZV:=@wpAny_letOwnedTupleGo_enum
def ZW:=@Calls.spliced_nil
def ZX:=@wpAny_setState_of
def ZY:=@wpAny_dictEntries
def ZZ:=@Nat.div_lt_of_lt_mul
def YA:=@List.forall_mem_cons
def YB:=@W.mg_of
def YC:=@List.Perm.refl
def YD:=@List.any_eq_true
def YE:=@Nat.succ_ne_self
def YF:=@Nat.le_add_right
def YG:=@List.drop_length
def YH:=@PySem.F.slot_list_extend
def YI:=@PySem.F.type_list_extend
def YJ:=@List.filterMap_cons
def YK:=@Array.toList_append
def YL:=@List.getElem?_range
def YM:=@List.eraseIdx_cons_succ
def YN:=@wpAny_getItem_str_slice
def YO:=@PySem.F.plain_list_iadd
def YQ:=@Paired.length
def YR:=@List.find?_cons
def YS:=@Option.map_some
def YT:=@List.forIn_cons
def YU:=@wpAny_pyIter_slot
def YV:=@List.ext_getElem?
def YW:=@Obj.cls_mapFields
def YX:=@List.foldl_append
def YY:=@codeAny_mono
def YZ:=@wpAny_seqItems
def XA:=@List.getElem?_set_ne
def XB:=@Calls.evalArgs_plain
def XC:=@List.length_dropLast
def XD:=@Nat.mod_lt
def XE:=@List.mem_of_mem_take
def XF:=@Nat.mul_le_mul_right
def XG:=@wpAny_standAt
def XH:=@wpAny_handled
def XI:=@List.flatMap_append
def XJ:=@Nat.not_lt_zero
def XM:=@wpAny_dictEpoch
def XN:=@List.prefix_rfl
def XO:=@Option.isSome_iff_exists
def XQ:=@List.getElem?_take_of_lt
def XR:=@Nat.add_zero
def XS:=@PyProof.Rows.F.entry_set_update_loop
def XT:=@List.forIn_nil
def XU:=@List.drop_zero
def XW:=@Nat.mul_le_mul
def XX:=@List.getElem?_replicate
def XY:=@wpAny_pyNext_enum_itemD
def XZ:=@F.slot_zip_getattribute
def WD:=@List.nodup_append
def WE:=@List.append_assoc
def WG:=@Nat.lt_succ_of_lt
def WH:=@List.flatMap_cons
def WI:=@wpAny_throw
def WJ:=@Array.getElem?_eq_none
def WK:=@wpAny_mkInt
def WL:=@F.typeCall_enumerate_1
def WM:=@wpAny_pyNext_enum_endD
def WN:=@PySem.F.slot_str_split
def WO:=@PySem.F.type_str_split
def WQ:=@List.any_cons
def WR:=@List.sum_cons
def WS:=@List.ext_getElem
def WT:=@List.filter_cons
def WU:=@codeAny_call_function
def WV:=@List.getElem?_toArray
def WW:=@List.getElem?_reverse
def WX:=@F.newCall_enumerate_1
def WY:=@F.entry_enumerate_new
def WZ:=@wpAny_notOrdered_dict
def VA:=@List.take_append_drop
def VB:=@Iff.rfl
def VC:=@List.eraseIdxIfInBounds_toArray
def VD:=@wpAny_execs_nil
def VE:=@Nat.le_of_eq
def VF:=@Nat.lt_trans
def VG:=@wpAny_newFunctionEnv
def VH:=@Nat.zero_add
def VI:=@codeAny_extend_loopS
def VJ:=@F.args_object_init_2
def VL:=@PySem.F.args_dict_setdefault_3
def VM:=@F.slot_zip_next
def VN:=@List.mem_iff_getElem
def VO:=@Nat.div_add_mod
def VP:=@List.mem_erase_of_ne
def VQ:=@Nat.pow_le_pow_right
def VR:=@List.replicate_succ'
def VS:=@List.toList_toArray
def VT:=@List.reverse_append
def VU:=@List.not_lt
def VW:=@wpAny_pyIter_tuple
def VX:=@List.mem_filterMap
def VY:=@SeqAt.EqAt.int_int
def VZ:=@SeqAt.EqAt.str_str
def UA:=@F.args_str_split_2
def UB:=@List.forIn_toArray
def UC:=@F.called_enumerate
def UD:=@List.getElem?_drop
def UE:=@List.filter_append
def UG:=@List.map_replicate
def UH:=@Bool.or_false
def UI:=@List.all_cons
def UJ:=@wpAny_pyIter_list
def UK:=@F.entry_str_split
def UL:=@wpAny_pyIter_dict
def UM:=@List.pairwise_map
def UN:=@W.law_code
def UO:=@Nat.sub_zero
def UP:=@Nat.sub_self
abbrev UQ:=Value→Shared→Prop
abbrev UR:=List (List Nat)
abbrev US:=List (Addr × Obj)
abbrev UT:=Addr × Obj
abbrev UU:List Str:=["_law_script","_law_flow_here","_law_letters_here","_law_pool_here","_law_wish","_law_other","_law_turned","_law_mine","_law_theirs","_law_back","_law_word","_law_text"]
abbrev UW:=Str→Option Value
abbrev UX:=List Value
abbrev UY:List Str:=["letters","begin","step","is_end","numbers","number","place","ends","steps"]
abbrev UZ:List Str:=["_law_flow_here","_law_pool_here","_law_room","_law_deep"]
abbrev TC:=List Nat→Prop
abbrev TF:List Str:=["_law_flow_here","_law_letters_here","_law_sizes","_law_found","_law_size","_law_word"]
abbrev TH:=Array Value
abbrev TJ:=Option Value→Shared→Prop
abbrev TK:List Str:=["_law_flow_here","_law_many"]
abbrev TM:=List (Addr × List (Pos × Str))
abbrev TN:=Array (Option Value)
abbrev TQ:=Pos × Str
abbrev TU:=Nat→Nat→Nat
abbrev TV:List Str:=["one","other"]
abbrev TX:=Nat→Nat
abbrev TY:List Str:=["machine","steps","likes","count","rows","room","row"]
abbrev TZ:=Option Addr
abbrev SA:=List Expr
abbrev SD:=Nat→Prop
abbrev SE:List Str:=["letters","begin","step","is_end"]
abbrev SF:=Array (Int × Value)
abbrev SG:=Nat→Nat→Bool
abbrev SH:=Option Int
abbrev SI:=Str × Addr
abbrev SJ:=Array Nat
abbrev SK:=Unit→Shared→Prop
abbrev SM:=List Addr
abbrev SN:List Str:=["machine"]
abbrev SO:List Str:=["_law_letters_here","_law_most","_law_found","_law_here","_law_turn"]
abbrev SQ:=Nat→List Nat
abbrev SR:=Bool→Shared→Prop
abbrev SS:List Str:=["letters","begin","step"]
abbrev SU:=List (Str × NameKind)
abbrev SV:List Str:=["one","other","pair","letter"]
abbrev SW:List Str:=["_law_words","_law_letters_here","_law_found","_law_word"]
abbrev SX:List Str:=["text","rows","letters","begin","ends","last","steps"]
abbrev SY:List Str:=["rows","at","name","words"]
abbrev RA:List Str:=["_law_script"]
abbrev RB:=List (Addr × Addr)
abbrev RC:=Nat→Bool
abbrev RD:=(Str→Option Value)→Heap→Prop
abbrev RE:List Str:=["wish"]
abbrev RF:List Str:=["machine","room","text"]
abbrev RG:=Value→Value→Sem Value
abbrev RH:List Str:=["_law_flow_here","_law_many","_law_left"]
abbrev RI:List Str:=["name","numbers"]
abbrev RJ:List Str:=["_law_flow_here","_law_letters_here"]
abbrev RK:List Str:=["letters","one","other"]
abbrev RL:List Str:=["_law_words","_law_letters_here"]
abbrev RM:List Str:=["letters","wish"]
abbrev RN:List Str:=["lefts","letter"]
abbrev RO:List Str:=["_law_letters_here","_law_most"]
abbrev RP:=Str→Option NameKind
abbrev RQ:=Str→Prop
abbrev RS:=Str→Str
abbrev RT:List Str:=["_law_machine","_law_other"]
abbrev RU:List Str:=["rows","at","name"]
abbrev RV:List Str:=["rows","at","name","count"]
abbrev RW:List Str:=["word"]
abbrev RX:=World→Heap→Prop
end
set_option hygiene false

namespace L2
open PySem PySem.Spec PyProof.Rows
variable {A:Around}{CX:CXT}{D:Ends}{E Q:UQ}{H H':Hp}{K:W.Frag}{M:Model}{N ps:List Str}{P:Program}{X:Cx}{a b f it:Addr}{base h:Heap}{body:List Stmt}{ch fp:SM}{ct doc oc pm u:Value}{e l tg:Expr}{es:SA}{fd:FuncData}{g:TG}{i j n t':Nat}{its us:UX}{mg:UW}{name qual x:Str}{o:Obj}{od:TZ}{op:CmpOp}{p pos:Pos}{params:Arguments}{pins:US}{r:R2}{s:Shared}{scope:Scope}{sp:Sp}{tb:TS}{te tl:TE}{w:World}{xs:List V}{y:V}{σ:St}
abbrev Key:=Sum Int Str
def Gg:Key→Value→Bool
 |.inl k,v=>Value.isInt k v
 |.inr x,v=>Value.isStrOf x v
def keyH(w:World):Key→Int
 |.inl k=>hashInt k
 |.inr x=>hashStr w x
theorem Y5:∀{k:Key}{v:Value},Gg k v=true→(∃i t,k=Sum.inl i∧v=Value.int i t)∨(∃x t,k=Sum.inr x∧v=Value.str x t)
 |.inl i,v,h=>by
  obtain⟨t,e⟩:=Value.isInt_shape (k:=i) (v:=v) h;exact .inl ⟨i,t,rfl,e⟩
 |.inr x,v,h=>by
  obtain⟨t,e⟩:=Value.isStrOf_shape (x:=x) (v:=v) h;exact .inr ⟨x,t,rfl,e⟩
theorem Ziv(i:Int)(t:Tok):Gg (.inl i) (.int i t)=true:=by simp[Gg,Value.isInt]
theorem Ziu(x:Str)(t:Tok):Gg (.inr x) (.str x t)=true:=by simp[Gg,Value.isStrOf]
theorem Ztn(a b:Int):decide ((Sum.inl a:Key)=Sum.inl b)=(a==b):=by
 by_cases e:a=b
 ·subst e;simp
 ·have h:¬ (Sum.inl a:Key)=Sum.inl b:=λq=>e (Sum.inl.inj q);rw[decide_eq_false h];exact(beq_eq_false_iff_ne.mpr e).symm
theorem Ztk(a b:Str):decide ((Sum.inr a:Key)=Sum.inr b)=decide (a=b):=by
 by_cases e:a=b
 ·subst e;simp
 ·have h:¬ (Sum.inr a:Key)=Sum.inr b:=λq=>e (Sum.inr.inj q);rw[decide_eq_false h,decide_eq_false e]
theorem Ztm(a:Int)(b:Str):decide ((Sum.inl a:Key)=Sum.inr b)=false:=decide_eq_false (λq=>nomatch q)
theorem Ztl(a:Str)(b:Int):decide ((Sum.inr a:Key)=Sum.inl b)=false:=decide_eq_false (λq=>nomatch q)
def Z8(prog:Program)(w:World):PySem.KeyKind prog w Key where
 is:=Gg
 hash:=keyH w
 inj:=λv a b ha hb=>by
  rcases Y5 ha with ⟨i,t,rfl,rfl⟩|⟨x,t,rfl,rfl⟩
  ·rcases Y5 hb with ⟨j,u,rfl,e⟩|⟨y,u,rfl,e⟩
   ·injection e with e1 _;rw[e1]
   ·exact nomatch e
  ·rcases Y5 hb with ⟨j,u,rfl,e⟩|⟨y,u,rfl,e⟩
   ·exact nomatch e
   ·injection e with e1 _;rw[e1]
 byValue:=λk v h=>by
  rcases Y5 h with ⟨i,t,rfl,rfl⟩|⟨x,t,rfl,rfl⟩<;>rfl
 pyHash:=λhv h=>by
  rcases Y5 hv with ⟨i,t,rfl,rfl⟩|⟨x,t,rfl,rfl⟩
  ·exact wpAny_pyHash_int h
  ·exact wpAny_pyHash_str h
 eqBool:=λhu hv h=>by
  rcases Y5 hu with ⟨i,t,rfl,rfl⟩|⟨x,t,rfl,rfl⟩
  ·rcases Y5 hv with ⟨j,u,rfl,rfl⟩|⟨y,u,rfl,rfl⟩
   ·rw[Ztn]at h;exact wpAny_eqBool_int h
   ·rw[Ztm]at h;exact SeqAt.EqAt.int_str i t y u _ _ _ _ h
  ·rcases Y5 hv with ⟨j,u,rfl,rfl⟩|⟨y,u,rfl,rfl⟩
   ·rw[Ztl]at h;exact SeqAt.EqAt.str_int x t j u _ _ _ _ h
   ·rw[Ztk]at h;exact wpAny_eqBool_str h
 «strs»:=λk x t v h=>by
  rcases Y5 h with ⟨i,u,rfl,e⟩|⟨y,u,rfl,e⟩
  ·exact nomatch e
  ·injection e with e1 _
   subst e1;cases v<;>rfl
theorem Zb0(prog:Program)(w:World)(i:Int)(t:Tok):(Z8 prog w).is (.inl i) (.int i t)=true:=Ziv i t
theorem Zbz(prog:Program)(w:World)(x:Str)(t:Tok):(Z8 prog w).is (.inr x) (.str x t)=true:=Ziu x t
inductive V where
 |non|bl (b:Bool)|int (i:Int)|str (x:Str)|byt (b:Array UInt8)|flt (b:UInt64)|ref (a:Addr)|ty (n:String)
 deriving DecidableEq
def RelV:V→Value→Prop
 |.non,u=>u=Value.none
 |.bl b,u=>u=Value.bool b
 |.int i,u=>∃t,u=Value.int i t
 |.str x,u=>∃t,u=Value.str x t
 |.byt b,u=>∃t,u=Value.bytes b t
 |.flt b,u=>∃t,u=Value.float b t
 |.ref a,u=>u=Value.ref a
 |.ty n,u=>u=Value.type n
abbrev Vals:List V→List Value→Prop:=Paired RelV
theorem Vals.length{xs:List V}{us:UX}(r:Vals xs us):xs.length=us.length:=YQ r
theorem Vals.get:∀{xs:List V}{us:UX}{i:Nat}{x:V},Vals xs us→xs[i]?=some x→∃u,us[i]?=some u∧RelV x u
 |_,_,_,_,.nil,e=>by simp at e
 |_,_,0,_,.cons r _,e=>by simp at e;subst e;exact⟨_,rfl,r⟩
 |_,_,i+1,x,.cons _ t,e=>by
  obtain⟨u,h1,h2⟩:=Vals.get (i:=i) (x:=x) t (by simpa using e);exact⟨u,by simpa using h1,h2⟩
theorem Vals.set{x:V}{u:Value}(r:RelV x u):∀{xs:List V}{us:UX} (i:Nat),Vals xs us→Vals (xs.set i x) (us.set i u)
 |_,_,_,.nil=>.nil
 |_,_,0,.cons _ t=>.cons r t
 |_,_,i+1,.cons q t=>.cons q (Vals.set r i t)
theorem Vals.append:∀{xs ys:List V}{us ws:UX},Vals xs us→Vals ys ws→Vals (xs++ys) (us++ws)
 |_,_,_,_,.nil,s=>s
 |_,_,_,_,.cons r t,s=>.cons r (Vals.append t s)
theorem Vals.take:∀{xs:List V}{us:UX} (n:Nat),Vals xs us→Vals (xs.take n) (us.take n)
 |_,_,0,_=>.nil
 |_,_,_+1,.nil=>.nil
 |_,_,n+1,.cons r t=>.cons r (Vals.take n t)
theorem Vals.drop:∀{xs:List V}{us:UX} (n:Nat),Vals xs us→Vals (xs.drop n) (us.drop n)
 |_,_,0,r=>r
 |_,_,_+1,.nil=>.nil
 |_,_,n+1,.cons _ t=>Vals.drop n t
theorem Vals.none_of:∀{xs:List V}{us:UX}{i:Nat},Vals xs us→xs[i]?=none→us[i]?=none:=λ{xs us i} r e=>by
 have h1:=r.length;have h2:xs.length≤i:=iX.mp e;exact iX.mpr (by lia)
def Kp:Option V→Option Value→Prop
 |some v,some u=>RelV v u
 |none,none=>True
 |_,_=>False
def KV{κ:Type}:List (κ×V)→List (κ×Value)→Prop:=Paired λ(p:κ×V) (q:κ×Value)=>p.1=q.1∧RelV p.2 q.2
def kV:Key→V
 |.inl i=>.int i
 |.inr x=>.str x
inductive HO where
  |lst (xs:List V)
  |tup (xs:List V)
  |dK (kvs:List (Key×V))|dT (kvs:List (List Key×V))
  |set (S:Int→Bool) (n:Nat)
  |ins (C dx:Addr) (fs:List (Str×V))
  |own (x:Addr)
  |xd (fs:List (Str×V))
  |met (f x:Addr)
  |rng (lo hi:Int)
  |frz (o:Obj) (u:HO)
  |tbl (ps:TH)
  |ext (φ:Heap→Prop)
abbrev Hp:=Addr→Option HO
def upd(H:Hp)(a:Addr)(o:HO):Hp:=λb=>if b=a then some o else H b
theorem Zc{o:HO}:upd H a o a=some o:=by unfold upd;rw[if_pos rfl]
theorem Zk{o:HO}(h:b≠a):upd H a o b=H b:=by unfold upd;rw[if_neg h]
theorem N9{o u:HO}:upd (upd H a o) a u=upd H a u:=by
 funext b;unfold upd;split<;>rfl
theorem Wu{o u:HO}(h:H a=some o)(h':H b=some u)(d:o≠u):a≠b:=by
 intro e;subst e;rw[h]at h';exact d (Option.some.inj h')
theorem Zi{o:HO}(h:H a=some o)(h':H b=none):a≠b:=by
 intro e;subst e;rw[h]at h';cases h'
section
variable (P:Program) (w:World)
def Yy(H:Hp)(h:Heap)(a:Addr):HO→Prop
 |.lst xs=>xs.length≤sizeLine∧∃(its:UX) (n:Nat),Vals xs its∧h.get? a=some { cls:=.type "list",data:=.seq its.toArray n }
 |.tup xs=>xs.length≤sizeLine∧∃its:List Value,Vals xs its∧IsTup h a its.toArray
 |.dK kvs=>kvs.length≤sizeLine∧(a==sysModules)=false∧∃vs,KV kvs vs∧h.DictOf (Z8 P w) a vs
 |.dT kvs=>kvs.length≤sizeLine∧(a==sysModules)=false∧∃xs:List (List Key×Addr×Value),
   Paired (λ(p:List Key×V) (q:List Key×Addr×Value)=>p.1=q.1∧H q.2.1=some (.tup (p.1.map kV))∧RelV p.2 q.2.2) kvs xs∧
   ∃o es ep,h.get? a=some o∧o.ExactDict∧o.data=.dict es ep∧es.toList=xs.map (entryOfKey (tupleKind (Z8 P w)))∧(xs.map (·.1)).Nodup
 |.set S n=>h.SetOf (intKind P w) a S n
 |.ins C dx fs=>H dx=some (.own a)∧fs.length≤1000∧dx≠a∧h.get? a=some (W.instObj C dx)∧
   ∃mA,h.Ns1 dx mA∧(∀f,Kp (fs.lookup f) (mA f))∧PySem.Within mA (fs.map (·.1))
 |.own _=>∃o,h.get? a=some o
 |.xd fs=>∃mA,h.Ns1 a mA∧∀f,Kp (fs.lookup f) (mA f)
 |.rng lo hi=>∃t u v,h.get? a=some { cls:=.type "range",data:=.fields #[.int lo t,.int hi u,.int 1 v] }
 |.frz o u=>h.get? a=some o∧Yy H h a u
 |.tbl ps=>h.get? a=some { cls:=.none,data:=.fields ps }
 |.met f x=>h.get? a=some (W.methodObj (.ref f) (.ref x))
 |.ext φ=>φ h∧(∃o,h.get? a=some o)∧∀h1 h2:Heap,φ h1→(∀o,h1.get? a=some o→h2.get? a=some o)→φ h2
def HOk(H:Hp)(h:Heap):Prop:=∀a o,H a=some o→Yy P w H h a o
end
section
variable {P:Program}{w:World}{H H':Hp}{h h':Heap}{a:Addr}{o:HO}
theorem Yy.lt(x:Yy P w H h a o):a<h.objs.size:=by
 cases o with
 |lst xs=>obtain⟨_,_,_,_,e⟩:=x;exact oT e
 |tup xs=>obtain⟨_,_,_,p⟩:=x;exact p.lt
 |dK kvs=>obtain⟨_,_,_,_,o,_,_,e,_⟩:=x;exact oT e
 |dT kvs=>obtain⟨_,_,_,_,o,_,_,e,_⟩:=x;exact oT e
 |set S n=>obtain⟨o,_,_,_,e,_⟩:=x;exact oT e
 |ins C dx fs=>obtain⟨_,_,_,e,_⟩:=x;exact oT e
 |own y=>obtain⟨_,e⟩:=x;exact oT e
 |xd fs=>obtain⟨_,⟨_,_,_,e,_⟩,_⟩:=x;exact oT e
 |rng lo hi=>obtain⟨_,_,_,e⟩:=x;exact oT e
 |frz ob u=>obtain⟨e,_⟩:=x;exact oT e
 |tbl ps=>exact oT (show h.get? a=some _ from x)
 |met f y=>exact oT (show h.get? a=some _ from x)
 |ext φ=>obtain⟨_,⟨_,e⟩,_⟩:=x;exact oT e
theorem Paired.Ztc{α β:Type}{F G:α→β→Prop}:∀{vF:List α}{vG:List β},Paired F vF vG→(∀a b,F a b→G a b)→Paired G vF vG
 |_,_,.nil,_=>.nil
 |_,_,.cons r t,f=>.cons (f _ _ r) (Paired.Ztc t f)
theorem Yy.Ir(x:Yy P w H h a o)(k:∀b u,(b=a∨H b=some (.own a))→h.get? b=some u→h'.get? b=some u)
  (ho:∀b,H b=some (.own a)→H' b=some (.own a)) (ht:∀b xs,H b=some (.tup xs)→H' b=some (.tup xs)):Yy P w H' h' a o:=by
 induction o with
 |lst xs=>obtain⟨z,its,n,r,e⟩:=x;exact⟨z,its,n,r,k _ _ (.inl rfl) e⟩
 |tup xs=>obtain⟨z,its,r,ob,e,c⟩:=x;exact⟨z,its,r,ob,k _ _ (.inl rfl) e,c⟩
 |dK kvs=>obtain⟨z,y,vs,r,ob,es,ep,e,c⟩:=x;exact⟨z,y,vs,r,ob,es,ep,k _ _ (.inl rfl) e,c⟩
 |dT kvs=>
  obtain⟨z,y,xs,r,ob,es,ep,e,c⟩:=x;exact⟨z,y,xs,Paired.Ztc r λp q z=>⟨z.1,ht _ _ z.2.1,z.2.2⟩,ob,es,ep,k _ _ (.inl rfl) e,c⟩
 |set S n=>obtain⟨ob,es,ep,t,e,c⟩:=x;exact⟨ob,es,ep,t,k _ _ (.inl rfl) e,c⟩
 |ins C dx fs=>
  obtain⟨d,z,ne,e,mA,⟨od,es,ep,e2,c⟩,r⟩:=x;exact⟨ho _ d,z,ne,k _ _ (.inl rfl) e,mA,⟨od,es,ep,k _ _ (.inr d) e2,c⟩,r⟩
 |own y=>obtain⟨ob,e⟩:=x;exact⟨ob,k _ _ (.inl rfl) e⟩
 |xd fs=>obtain⟨mA,⟨od,es,ep,e,c⟩,r⟩:=x;exact⟨mA,⟨od,es,ep,k _ _ (.inl rfl) e,c⟩,r⟩
 |rng lo hi=>obtain⟨t,u,v,e⟩:=x;exact⟨t,u,v,k _ _ (.inl rfl) e⟩
 |frz ob u ih=>obtain⟨e,q⟩:=x;exact⟨k _ _ (.inl rfl) e,ih q⟩
 |tbl ps=>
  have e:h.get? a=some { cls:=.none,data:=.fields ps }:=x;show h'.get? a=some { cls:=.none,data:=.fields ps };exact k a _ (.inl rfl) e
 |met f y=>
  have e:h.get? a=some (W.methodObj (.ref f) (.ref y)):=x;show h'.get? a=some (W.methodObj (.ref f) (.ref y));exact k a _ (.inl rfl) e
 |ext φ=>obtain⟨p,⟨o,e⟩,st⟩:=x;exact⟨st _ _ p λo q=>k _ _ (.inl rfl) q,⟨o,k _ _ (.inl rfl) e⟩,st⟩
theorem HOk.lt(x:HOk P w H h)(e:H a=some o):a<h.objs.size:=(x a o e).lt
theorem HOk.fresh(x:HOk P w H h)(e:h.objs.size≤a):H a=none:=by
 cases q:H a with
 |none=>rfl
 |some u=>exact absurd (oZ (x.lt q) e) (iL _)
theorem HOk.kept(x:HOk P w H h)(k:∀b u,h.get? b=some u→h'.get? b=some u):HOk P w H h':=λa o e=>
 (x a o e).Ir (λb u _ q=>k b u q) (λ_ q=>q) λ_ _ q=>q
theorem HOk.laid(x:HOk P w H h)(k:∀b u,h.get? b=some u→h'.get? b=some u)(hp:h.objs.size≤a)(new:Yy P w (upd H a o) h' a o):HOk P w (upd H a o) h':=λb u e=>by
 have hn:=x.fresh hp
 by_cases hb:b=a
 ·subst hb;rw[Zc]at e;cases e;exact new
 ·rw[Zk hb]at e;exact(x b u e).Ir (λc v _ q=>k c v q) (λc q=>by rw[Zk (Zi q hn)];exact q) λc xs q=>by rw[Zk (Zi q hn)];exact q
end
def Rd(H:Hp)(a:Addr)(u:HO):Prop:=H a=some u∨∃o,H a=some (.frz o u)
theorem Rd.ok{u:HO}(r:Rd H a u)(x:HOk P w H h):Yy P w H h a u:=by
 rcases r with r|⟨o,r⟩
 ·exact x a u r
 ·obtain⟨_,q⟩:=x a _ r;exact q
def Mut:Option HO→Prop
 |some (.lst _)=>True
 |some (.dK _)=>True
 |some (.dT _)=>True
 |some (.set _ _)=>True
 |some (.ins _ _ _)=>True
 |some (.ext _)=>True
 |_=>False
section
variable {P:Program}{w:World}{H:Hp}{h h':Heap}{x e:Addr}{o':HO}
theorem HOk.write(ok:HOk P w H h)(mu:Mut (H x))(he:e=x∨H e=some (.own x))(k:∀b u,b≠e→h.get? b=some u→h'.get? b=some u)(i8:∃u,h'.get? e=some u)
  (new:Yy P w (upd H x o') h' x o'):HOk P w (upd H x o') h':=λb u q=>by
 have Zv5:∀c y,H c=some (.own y)→c≠x:=λc y r z=>by subst z;rw[r]at mu;exact mu
 have dG:∀c xs,H c=some (.tup xs)→c≠x:=λc xs r z=>by subst z;rw[r]at mu;exact mu
 by_cases hb:b=x
 ·subst hb;rw[Zc]at q;cases q;exact new
 ·rw[Zk hb]at q
  by_cases mU:b=e
  ·have q':H b=some (.own x):=by
    rcases he with z|z
    ·exact absurd (mU.trans z) hb
    ·rw[mU];exact z
   rw[q]at q';cases q';obtain⟨v,hv⟩:=i8;exact⟨v,by rw[mU];exact hv⟩
  ·refine(ok b u q).Ir (λc v hc r=>k c v ?_ r) (λc r=>by rw[Zk (Zv5 c b r)];exact r) λc xs r=>by rw[Zk (dG c xs r)];exact r
   rcases hc with rfl|hc
   ·exact mU
   ·rintro rfl
    rcases he with z|z
    ·exact Zv5 c b hc z
    ·rw[hc]at z;cases z;exact hb rfl
end
structure Un(fs ex:SM)(H H':Hp)(h h':Heap):Prop where
 keep:∀b o,h.get? b=some o→H b=none→b∉fs→b∉ex→h'.get? b=some o
 slot:∀b o,h.get? b=some o→H b=none→b∈fs→b∉ex→∃sl,h'.get? b=some { o with slots:=sl }
 free:∀b o,h.get? b=some o→H b=none→b∉ex→H' b=none
 there:∀b o,h.get? b=some o→b∉ex→∃o',h'.get? b=some o'
 Ck:∀b xs,H b=some (.tup xs)→H' b=some (.tup xs)
 Gr:∀b o u,H b=some (.frz o u)→H' b=some (.frz o u)
 Fo:∀b ps,H b=some (.tbl ps)→∃more,H' b=some (.tbl (ps++more))
section
variable {fs fs' ex ex':SM}{H H1 H2:Hp}{h h1 h2 h':Heap}{a x e:Addr}{o:HO}
theorem Un.any(u:Un fs ex H H1 h h1){ob:Obj}(q:h.get? b=some ob)(n:H b=none)(hx:b∉ex):∃sl,h1.get? b=some { ob with slots:=sl }:=by
 by_cases hb:b∈fs
 ·exact u.slot b ob q n hb hx
 ·exact⟨ob.slots,u.keep b ob q n hb hx⟩
theorem Un.kept(k:∀b u,h.get? b=some u→h'.get? b=some u):Un fs ex H H h h':=
 ⟨λb ob q _ _ _=>k b ob q,λb ob q _ _ _=>⟨ob.slots,k b ob q⟩,λ_ _ _ n _=>n,λb ob q _=>⟨ob,k b ob q⟩,λ_ _ q=>q,λ_ _ _ q=>q,λ_ ps q=>⟨#[],by rw[q];simp⟩⟩
theorem Un.refl:Un fs ex H H h h:=Un.kept λ_ _ q=>q
theorem Un.laid(k:∀b u,h.get? b=some u→h'.get? b=some u)(hp:h.objs.size≤a)(hn:H a=none):Un fs ex H (upd H a o) h h' where
 keep:=λb u q _ _ _=>k b u q
 slot:=λb u q _ _ _=>⟨u.slots,k b u q⟩
 free:=λb u q n _=>by rw[Zk (lE (oZ (oT q) hp))];exact n
 there:=λb u q _=>⟨u,k b u q⟩
 Ck:=λb xs q=>by rw[Zk (Zi q hn)];exact q
 Gr:=λb u xs q=>by rw[Zk (Zi q hn)];exact q
 Fo:=λb ps q=>⟨#[],by rw[Zk (Zi q hn),q];simp⟩
theorem Un.write(mu:Mut (H x))(he:e=x∨H e=some (.own x))(k:∀b u,b≠e→h.get? b=some u→h'.get? b=some u)(i8:∃u,h'.get? e=some u):Un fs ex H (upd H x o) h h':=by
 have hx:∀b,H b=none→b≠x:=λb n z=>by subst z;rw[n]at mu;exact mu
 have hb:∀b,H b=none→b≠e:=λb n z=>by
  subst z
  rcases he with r|r
  ·exact hx b n r
  ·rw[n]at r;cases r
 have hm:∀b u,H b=some u→¬ Mut (some u)→b≠x:=λb u q nm z=>by subst z;rw[q]at mu;exact nm mu
 refine⟨λb u q n _ _=>k b u (hb b n) q,λb u q n _ _=>⟨u.slots,k b u (hb b n) q⟩,λb u q n _=>by rw[Zk (hx b n)];exact n,λb u q _=>?_,
  λb xs q=>by rw[Zk (hm b _ q λz=>z)];exact q,λb u xs q=>by rw[Zk (hm b _ q λz=>z)];exact q,λb ps q=>⟨#[],by rw[Zk (hm b _ q λz=>z),q];simp⟩⟩
 by_cases mU:b=e
 ·subst mU;exact i8
 ·exact⟨u,k b u mU q⟩
end
def trk(h:Heap)(H:Hp):List Addr:=(List.range h.objs.size).filter λa=>(H a).isSome
def N0(h:Heap)(H:Hp):Heap:=W.hideAll h (trk h H)
theorem Du(h:Heap)(H:Hp):(N0 h H).objs.size=h.objs.size:=W.hideAll_size _ _
theorem Zb9(e:h.get? b=some o)(n:H b=none):(N0 h H).get? b=some o:=
 W.hideAll_get _ e λhm=>by
  have q:(H b).isSome=true:=(aP.mp hm).2;rw[n]at q;simp at q
theorem Zgy(e:(N0 h H).get? b=some o):h.get? b=some o∧H b=none:=by
 have e':h.get? b=some o:=W.of_hideAll (trk h H) e;refine⟨e',?_⟩
 cases q:H b with
 |none=>rfl
 |some x=>
  have hm:b∈trk h H:=aP.mpr ⟨iG.mpr (oT e'),by simp[q]⟩;have z:(N0 h H).get? b=none:=W.hideAll_none (trk h H) hm;rw[z]at e;cases e
def Zqn(g h:Heap)(L:Addr):List UT:=(List.range h.objs.size).filterMap λa=>if a=L∨(g.get? a).isSome=true then none else (h.get? a).map λo=>(a,o)
def rest(g h:Heap)(L d:Addr):List UT:=(Zqn g h L).filter λp=>decide (p.1≠d)
structure Mod(K:W.Frag)(mg:UW)(base:Heap):Prop where
 kin:K.In base
 glob:base.Ns mainGlobals mg
 blt:∃mb,base.Ns builtinsNs mb∧∀x:Str,x≠"__name__"→mb x=bootBuiltins x
 nolimit:base.NoLimit
structure Cx where
 prog:Program
 w:World
 K:W.Frag
 mg:Str→Option Value
 base:Heap
 A:Around
 N:List Str
 s₀:Shared
 H₀:Hp
 env:Env
 outer:List Env
 stack:List Env
 ex:List Addr
 fn:Str→Bool
 calm:Bool
 pn:List UT
 xe:Value→Shared→Prop
def frs(l:List Env):List Addr:=l.filterMap (·.frame)
abbrev Cx.fs(X:Cx):List Addr:=frs X.outer
def Vis(sc:Scope)(x:Str):Prop:=sc.names.lookup x=some .local∨sc.names.lookup x=some .cell∨sc.names.lookup x=some .free
def Loc(sc:Scope)(x:Str):Prop:=sc.names.lookup x=some .local∨sc.names.lookup x=some .cell
def Look(env:Env)(h:Heap)(m:UW)(x:Str)(u:Value):Prop:=
 (env.kindOf x=some .local∧m x=some u)∨((env.kindOf x=some .cell∨env.kindOf x=some .free)∧∃c,env.cells.lookup x=some c∧h.IsCell c (some u))
structure Cx.Ok(X:Cx):Prop where
 mod:Mod X.K X.mg X.base
 kind:X.env.scope.kind=.function
 glob:X.env.globals=mainGlobals
 blt:X.env.builtins=builtinsNs
 above:X.s₀.heap.objs.size≤X.env.locals
 inj:∀x y c,X.env.cells.lookup x=some c→X.env.cells.lookup y=some c→x=y
 has:∀x,(X.env.kindOf x=some .cell∨X.env.kindOf x=some .free)→∃c,X.env.cells.lookup x=some c
 cab:∀x c,X.fn x=true→X.env.cells.lookup x=some c→X.s₀.heap.objs.size≤c
 hd:X.calm=true→X.A.handled=none
 frames:X.A.frames=some X.stack
 stk:X.stack=X.outer∨(X.stack=X.env :: X.outer∧X.env.frame=some X.env.locals)
 exf:∀b∈X.ex,b≠X.env.locals∧∀x c,X.env.cells.lookup x=some c→c≠b
 bs:∀b o,X.base.get? b=some o→X.s₀.heap.get? b=some o∧X.H₀ b=none
 bsz:X.base.objs.size≤X.s₀.heap.objs.size
 Zl2:∀b o,X.base.get? b=some o→b∉X.ex
 Znd:∀b∈X.ex,b∉X.fs
 Kl:X.s₀.heap.FunFrames X.base X.outer
 frf:∀b∈X.fs,X.H₀ b=none
structure Inv(X:Cx)(pins:US)(σ:List (Option V))(H:Hp)(s:Shared):Prop where
 ok:X.Ok
 os:s.os=X.s₀.os
 bare:AllBare s.gens
 base:Un X.fs X.ex X.H₀ H X.s₀.heap s.heap
 loc:∃m,s.heap.Ns X.env.locals m∧∀(i:Nat) (x:Str) (v:V),X.N[i]?=some x→σ[i]?=some (some v)→Vis X.env.scope x→∃u,RelV v u∧Look X.env s.heap m x u
 cell:∀x c,X.env.cells.lookup x=some c→∃v,s.heap.IsCell c v
 free:H X.env.locals=none
 Tw:∀x c,X.env.cells.lookup x=some c→H c=none
 pin:∀p∈X.pn++pins,s.heap.get? p.1=some p.2∧H p.1=none∧p.1≠X.env.locals∧p.1∉X.fs∧∀v,p.2.data≠.cell v
 hok:HOk X.prog X.w H s.heap
 len:σ.length=X.N.length
section
variable {X:Cx}{pins:US}{σ:List (Option V)}{H H':Hp}{s:Shared}{h':Heap}
theorem Cx.Ok.nofr(ok:X.Ok)(e:X.base.get? b=some o):b∉X.fs:=λhb=>by
 have:=(ok.Kl.mem hb).1;rw[e]at this;cases this
theorem Inv.bs(I:Inv X pins σ H s):∀b o,X.base.get? b=some o→s.heap.get? b=some o∧H b=none:=λb o e=>
 ⟨I.base.keep b o (I.ok.bs b o e).1 (I.ok.bs b o e).2 (I.ok.nofr e) (I.ok.Zl2 b o e),I.base.free b o (I.ok.bs b o e).1 (I.ok.bs b o e).2 (I.ok.Zl2 b o e)⟩
theorem Inv.bk(I:Inv X pins σ H s):∀b o,X.base.get? b=some o→s.heap.get? b=some o:=λb o e=>(I.bs b o e).1
theorem Inv.mod(I:Inv X pins σ H s):Mod X.K X.mg X.base:=I.ok.mod
theorem Inv.kIn(I:Inv X pins σ H s):X.K.In s.heap:=I.ok.mod.kin.keeps I.bk
theorem Inv.lt(I:Inv X pins σ H s):X.env.locals<s.heap.objs.size:=let ⟨_,hn,_⟩:=I.loc;hn.lt
theorem Inv.sz(I:Inv X pins σ H s):X.s₀.heap.objs.size≤s.heap.objs.size:=lI I.ok.above (ZI I.lt)
theorem Inv.Zv7(I:Inv X pins σ H s)(h:s.heap.objs.size≤a):a∉X.fs:=λhb=>by
 obtain⟨_,o,ho,_⟩:=I.ok.Kl.mem hb;exact absurd (oZ (oT ho) (lI I.sz h)) (iL _)
theorem Inv.cne(I:Inv X pins σ H s):∀x c,X.env.cells.lookup x=some c→c≠X.env.locals:=λx c e z=>by
 obtain⟨v,o,ho,hd⟩:=I.cell x c e;obtain⟨m,⟨o',es,ep,b0,i6,_⟩,_⟩:=I.loc;rw[z,b0]at ho;cases ho;rw[i6]at hd;cases hd
theorem Inv.Kl(I:Inv X pins σ H s):s.heap.FunFrames X.base X.outer:=by
 have all:∀(l:List Env),(∀b∈frs l,b∈X.fs)→X.s₀.heap.FunFrames X.base l→s.heap.FunFrames X.base l:=by
  intro l
  induction l with
  |nil=>intro _ _;trivial
  |cons env r ih=>
   intro hs hl;obtain⟨hk,⟨L,o,hf,hn,ho,hd⟩,hr⟩:=hl;have hL:L∈X.fs:=hs L (by unfold frs;rw[YJ,hf];exact oK);obtain⟨sl,e⟩:=I.base.slot L o ho (I.ok.frf L hL) hL λz=>I.ok.Znd L z hL;exact⟨hk,⟨L,_,hf,hn,e,hd⟩,ih (λb hb=>hs b (by unfold frs;rw[YJ,hf];exact oQ _ hb)) hr⟩
 exact all X.outer (λ_ hb=>hb) I.ok.Kl
theorem Inv.stack(I:Inv X pins σ H s):s.heap.FunFrames X.base X.stack:=by
 rcases I.ok.stk with e|⟨e,hf⟩
 ·rw[e];exact I.Kl
 ·rw[e];obtain⟨m,hn,_⟩:=I.loc;refine .cons (by rw[I.ok.kind];decide) hf hn ?_ I.Kl;exact Heap.get?_none_of_le (lI I.ok.bsz I.ok.above)
theorem Inv.Ip(I:Inv X pins σ H s):∀b∈frs X.stack,b∈X.env.locals :: X.fs:=λb hb=>by
 rcases I.ok.stk with e|⟨e,hf⟩
 ·rw[e]at hb;exact oQ _ hb
 ·rw[e]at hb;unfold frs at hb;rw[YJ,hf]at hb;exact hb
theorem Inv.Cq(I:Inv X pins σ H s):∀b∈frs X.stack,H b=none:=λb hb=>by
 rcases oX.mp (I.Ip b hb) with e|hb
 ·rw[e];exact I.free
 ·obtain⟨_,o,ho,_⟩:=I.ok.Kl.mem hb;exact I.base.free b o ho (I.ok.frf b hb) λz=>I.ok.Znd b z hb
theorem Inv.step{g':Array GenState}{d':Drawn}(I:Inv X pins σ H s)
  (xU:∀b∈ch,(b∈X.ex∨X.s₀.heap.objs.size≤b)∧b≠X.env.locals∧(∀x c,X.env.cells.lookup x=some c→c≠b)∧∀p∈X.pn++pins,p.1≠b)
  (keep:∀b o,b≠X.env.locals→b∉X.fs→b∉ch→s.heap.get? b=some o→H b=none→h'.get? b=some o)
  (slot:∀b o,b≠X.env.locals→b∈X.fs→b∉ch→s.heap.get? b=some o→H b=none→∃sl,h'.get? b=some { o with slots:=sl }) (free:∀b o,b∉ch→s.heap.get? b=some o→H b=none→H' b=none)
  (there:∀b o,b∉ch→s.heap.get? b=some o→∃o',h'.get? b=some o')
  (Ck:∀b xs,H b=some (.tup xs)→H' b=some (.tup xs)) (Gr:∀b o u,H b=some (.frz o u)→H' b=some (.frz o u)) (Fo:∀b ps,H b=some (.tbl ps)→∃more,H' b=some (.tbl (ps++more)))
  (ns:∀m,s.heap.Ns X.env.locals m→h'.Ns X.env.locals m) (hok:HOk X.prog X.w H' h') (hg:AllBare g') :
  Inv X pins σ H' { s with heap:=h',gens:=g',drawn:=d',toks:=t' }:=by
 have neL:∀b o,X.s₀.heap.get? b=some o→b≠X.env.locals:=λb o e=>lE (oZ (oT e) I.ok.above)
 have jF:∀b o,X.s₀.heap.get? b=some o→b∉X.ex→b∉ch:=λb o e hx hb=>by
  rcases(xU b hb).1 with z|z
  ·exact hx z
  ·exact absurd (oZ (oT e) z) (iL _)
 have cellK:∀x c,X.env.cells.lookup x=some c→∀v,s.heap.IsCell c v→h'.IsCell c v:=λx c e v ⟨o,ho,hd⟩=>by
  have vJ:c∉ch:=λz=>(xU c z).2.2.1 x c e rfl
  by_cases hc:c∈X.fs
  ·obtain⟨sl,q⟩:=slot c o (I.cne x c e) hc vJ ho (I.Tw x c e);exact⟨_,q,hd⟩
  ·exact⟨o,keep c o (I.cne x c e) hc vJ ho (I.Tw x c e),hd⟩
 refine⟨I.ok,I.os,hg,⟨λb o e n hb hx=>?_,λb o e n hb hx=>?_,λb o e n hx=>?_,λb o e hx=>?_,λb xs e=>Ck b xs (I.base.Ck b xs e),λb o xs e=>Gr b o xs (I.base.Gr b o xs e),λb ps e=>?_⟩,?_,λx c e=>?_,?_,λx c e=>?_,λp hp=>?_,hok,I.len⟩
 ·exact keep b o (neL b o e) hb (jF b o e hx) (I.base.keep b o e n hb hx) (I.base.free b o e n hx)
 ·obtain⟨sl,e1⟩:=I.base.slot b o e n hb hx;obtain⟨cL,e2⟩:=slot b _ (neL b o e) hb (jF b o e hx) e1 (I.base.free b o e n hx);exact⟨cL,e2⟩
 ·obtain⟨o',e1⟩:=I.base.there b o e hx;exact free b o' (jF b o e hx) e1 (I.base.free b o e n hx)
 ·obtain⟨o',e1⟩:=I.base.there b o e hx;exact there b o' (jF b o e hx) e1
 ·obtain⟨m1,e1⟩:=I.base.Fo b ps e;obtain⟨m2,e2⟩:=Fo b _ e1;exact⟨m1++m2,by rw[e2,Array.append_assoc]⟩
 ·obtain⟨m,hn,hl⟩:=I.loc;refine⟨m,ns m hn,λi x v e1 e2 e3=>?_⟩;obtain⟨u,r,l⟩:=hl i x v e1 e2 e3;refine⟨u,r,?_⟩
  rcases l with l|⟨k,c,e,z⟩
  ·exact .inl l
  ·exact .inr ⟨k,c,e,cellK x c e _ z⟩
 ·obtain⟨v,z⟩:=I.cell x c e;exact⟨v,cellK x c e v z⟩
 ·obtain⟨m,⟨o,_,_,ho,_⟩,_⟩:=I.loc;exact free _ o (λz=>(xU _ z).2.1 rfl) ho I.free
 ·obtain⟨v,o,ho,hd⟩:=I.cell x c e;exact free c o (λz=>(xU c z).2.2.1 x c e rfl) ho (I.Tw x c e)
 ·obtain⟨e,n,ne,nf,d⟩:=I.pin p hp;have vJ:p.1∉ch:=λz=>(xU p.1 z).2.2.2 p hp rfl;exact⟨keep p.1 p.2 ne nf vJ e n,free p.1 p.2 vJ e n,ne,nf,d⟩
theorem Inv.un(I:Inv X pins σ H s)(u:Un X.fs [] H H' s.heap h')(hok:HOk X.prog X.w H' h'):Inv X pins σ H' { s with heap:=h',toks:=t' }:=by
 obtain⟨m,⟨o,es,ep,ho,r⟩,_⟩:=id I.loc;obtain⟨sl,hL⟩:=u.any ho I.free (by simp)
 exact I.step (g':=s.gens) (d':=s.drawn) (ch:=[]) (λ_ z=>nomatch z) (λb o _ hb _ e n=>u.keep b o e n hb (by simp)) (λb o _ hb _ e n=>u.slot b o e n hb (by simp)) (λb o _ e n=>u.free b o e n (by simp)) (λb o _ e=>u.there b o e (by simp)) u.Ck u.Gr u.Fo (λm' hm=>by
  obtain⟨o',xM,qP,b0,r'⟩:=hm;rw[ho]at b0;cases b0
  exact⟨_,xM,qP,hL,r'⟩) hok I.bare
theorem Inv.call{g':Array GenState}{d':Drawn}(I:Inv X pins σ H s)(u:Un (frs X.stack) ch H H' s.heap h')(hok:HOk X.prog X.w H' h')(hg:AllBare g')
  (xU:∀b∈ch,(b∈X.ex∨X.s₀.heap.objs.size≤b)∧b≠X.env.locals∧(∀x c,X.env.cells.lookup x=some c→c≠b)∧∀p∈X.pn++pins,p.1≠b) :
  Inv X pins σ H' { s with heap:=h',gens:=g',drawn:=d',toks:=t' }:=by
 obtain⟨m,⟨o,es,ep,ho,r⟩,_⟩:=id I.loc;obtain⟨sl,hL⟩:=u.any ho I.free λz=>(xU _ z).2.1 rfl
 exact I.step (ch:=ch) xU (λb o hL hb hc e n=>u.keep b o e n (λz=>(oX.mp (I.Ip b z)).elim hL hb) hc) (λb o _ _ hc e n=>u.any e n hc) (λb o hc e n=>u.free b o e n hc) (λb o hc e=>u.there b o e hc) u.Ck u.Gr u.Fo (λm' hm=>by
  obtain⟨o',xM,qP,b0,r'⟩:=hm;rw[ho]at b0;cases b0
  exact⟨_,xM,qP,hL,r'⟩) hok hg
theorem Inv.turned(I:Inv X pins σ H s)(k:∀b o,b≠it→s.heap.get? b=some o→h'.get? b=some o)(hn:H it=none)(hL:it≠X.env.locals)
  (h1:it∈X.ex∨X.s₀.heap.objs.size≤it) (h2:∀x c,X.env.cells.lookup x=some c→c≠it) (h3:∀p∈X.pn++pins,p.1≠it):Inv X pins σ H { s with heap:=h',toks:=t' }:=by
 have vK:∀b u,H b=some u→b≠it:=λb u e z=>by rw[z,hn]at e;cases e
 refine I.step (g':=s.gens) (d':=s.drawn) (ch:=[it]) (λb hb=>?_) (λb o _ _ hc e _=>k b o (λz=>hc (by simp[z])) e) (λb o _ _ hc e _=>⟨o.slots,k b o (λz=>hc (by simp[z])) e⟩) (λ_ _ _ _ n=>n)
  (λb o hc e=>⟨o,k b o (λz=>hc (by simp[z])) e⟩) (λ_ _ e=>e) (λ_ _ _ e=>e) (λb ps e=>⟨#[],by rw[e];simp⟩) (λm hm=>?_) (λb u e=>?_) I.bare
 ·have e:b=it:=by simpa using hb
  subst e;exact⟨h1,hL,h2,h3⟩
 ·obtain⟨o,es,ep,ho,r⟩:=hm;exact⟨o,es,ep,k _ o (iY hL) ho,r⟩
 ·refine(I.hok b u e).Ir (λc v hc q=>k c v ?_ q) (λ_ q=>q) λ_ _ q=>q
  rcases hc with z|z
  ·rw[z];exact vK b u e
  ·exact vK c _ z
theorem Inv.tok(I:Inv X pins σ H s)(t:Nat):Inv X pins σ H { s with toks:=t }:=I.un (h':=s.heap) (t':=t) Un.refl I.hok
theorem Inv.kept{t':Nat}(I:Inv X pins σ H s)(k:∀b u,s.heap.get? b=some u→h'.get? b=some u):Inv X pins σ H { s with heap:=h',toks:=t' }:=I.un (Un.kept k) (I.hok.kept k)
theorem Inv.laid{a:Addr}{o:HO}{t':Nat}(I:Inv X pins σ H s)(k:∀b u,s.heap.get? b=some u→h'.get? b=some u)(hp:s.heap.objs.size≤a)(new:Yy X.prog X.w (upd H a o) h' a o):
  Inv X pins σ (upd H a o) { s with heap:=h',toks:=t' }:=I.un (Un.laid k hp (I.hok.fresh hp)) (I.hok.laid k hp new)
theorem Inv.write{x e:Addr}{o:HO}{t':Nat}(I:Inv X pins σ H s)(mu:Mut (H x))(he:e=x∨H e=some (.own x))(k:∀b u,b≠e→s.heap.get? b=some u→h'.get? b=some u)(i8:∃u,h'.get? e=some u)
  (new:Yy X.prog X.w (upd H x o) h' x o):Inv X pins σ (upd H x o) { s with heap:=h',toks:=t' }:=I.un (Un.write mu he k i8) (I.hok.write mu he k i8 new)
theorem Inv.weak{x8:List (Option V)}(I:Inv X pins σ H s)(hl:x8.length=σ.length)(w:∀(i:Nat) v,x8[i]?=some (some v)→σ[i]?=some (some v)):Inv X pins x8 H s:=
 ⟨I.ok,I.os,I.bare,I.base,let ⟨m,hn,xB⟩:=I.loc;⟨m,hn,λi x v e1 e2 e3=>xB i x v e1 (w i v e2) e3⟩,I.cell,I.free,I.Tw,I.pin,I.hok,hl.trans I.len⟩
theorem Inv.Mx{pins':US}(I:Inv X pins σ H s)(h:∀p∈pins',s.heap.get? p.1=some p.2∧H p.1=none∧p.1≠X.env.locals∧p.1∉X.fs∧∀v,p.2.data≠.cell v):Inv X pins' σ H s:=
 ⟨I.ok,I.os,I.bare,I.base,I.loc,I.cell,I.free,I.Tw,λp hp=>(iD.mp hp).elim (λz=>I.pin p (aK _ z)) (h p),I.hok,I.len⟩
theorem Zbv(hN:N.Nodup)(a:N[i]?=some x)(b:N[j]?=some x):i=j:=by
 obtain⟨h1,e1⟩:=oF.mp a;obtain⟨h2,e2⟩:=oF.mp b;exact(List.getElem_inj hN).mp (e1.trans e2.symm)
theorem Es{v:V}{Q:SK}(I:Inv X pins σ H s)(hN:X.N.Nodup)(hi:X.N[i]?=some x)(hx:Loc X.env.scope x)(r:RelV v u)
  (h:∀s',Inv X pins (σ.set i (some v)) H s'→(∃a,Heap.SameBut a s.heap s'.heap∧(a=X.env.locals∨X.env.cells.lookup x=some a))→Q () s') (hf:X.fn x=true∨X.env.scope.names.lookup x=some .local:=by first|exact .inl rfl|exact .inr rfl|assumption):wpAny M A (storeName X.env x u) Q E s:=by
 obtain⟨m,hn,hl⟩:=id I.loc;have pQ:(X.env.scope.kind==.class||(X.env.scope.kind==.module&&X.env.locals != X.env.globals))=false:=by rw[I.ok.kind];rfl
 have uH:i<σ.length:=by rw[I.len];exact(oF.mp hi).1
 have cne:=I.cne
 have tracked:∀{a:Addr}{h':Heap},(∃o,s.heap.get? a=some o∧H a=none)→Heap.SameBut a s.heap h'→HOk X.prog X.w H h':=λ{a h'} ha hs b ob e=>by
  obtain⟨_,_,Zca⟩:=ha;refine(I.hok b ob e).Ir (λc w' hc q=>(hs.2 c ?_).trans q) (λ_ q=>q) λ_ _ q=>q;rintro rfl
  rcases hc with rfl|hc
  ·rw[Zca]at e;cases e
  ·rw[Zca]at hc;cases hc
 rcases hx with hk|hk
 ·refine wpAny_storeName_local hk hn (λh' fP hs=>?_) pQ;obtain⟨oL,_,_,uJ,_⟩:=id hn;refine h _ ⟨I.ok,I.os,I.bare,⟨λb o e n hb hx=>?_,λb o e n hb hx=>?_,I.base.free,λb o e hx=>?_,I.base.Ck,I.base.Gr,I.base.Fo⟩,⟨_,fP,λj y v' e1 e2 e3=>?_⟩,λy c e=>?_,I.free,I.Tw,λp hp=>?_,tracked ⟨oL,uJ,I.free⟩ hs,by simpa using I.len⟩ ⟨_,hs,.inl rfl⟩
  ·exact(hs.2 b (lE (oZ (oT e) I.ok.above))).trans (I.base.keep b o e n hb hx)
  ·obtain⟨sl,e1⟩:=I.base.slot b o e n hb hx;exact⟨sl,(hs.2 b (lE (oZ (oT e) I.ok.above))).trans e1⟩
  ·obtain⟨o',e1⟩:=I.base.there b o e hx;exact⟨o',(hs.2 b (lE (oZ (oT e) I.ok.above))).trans e1⟩
  ·by_cases hj:j=i
   ·subst hj;rw[hi]at e1;cases e1;rw[List.getElem?_set_self uH]at e2;cases e2;exact⟨u,r,.inl ⟨hk,by simp⟩⟩
   ·rw[XA (iY hj)]at e2;obtain⟨u',r',q⟩:=hl j y v' e1 e2 e3;refine⟨u',r',?_⟩
    rcases q with ⟨k,e⟩|⟨k,c,e,z⟩
    ·refine .inl ⟨k,?_⟩;have:y≠x:=λe=>hj (Zbv hN e1 (e▸hi));simp[this,e]
    ·exact .inr ⟨k,c,e,z.sameBut hs (cne y c e)⟩
  ·obtain⟨w',z⟩:=I.cell y c e;exact⟨w',z.sameBut hs (cne y c e)⟩
  ·obtain⟨e,n,ne,nf,d⟩:=I.pin p hp;exact⟨(hs.2 p.1 ne).trans e,n,ne,nf,d⟩
 ·have sV:X.fn x=true:=by
   rcases hf with z|z
   ·exact z
   ·rw[z]at hk;cases hk
  obtain⟨c,hc⟩:=I.ok.has x (.inl hk);obtain⟨w',z⟩:=I.cell x c hc;refine wpAny_storeName_cell I.ok.kind hk hc z (λh' uB hs=>?_);obtain⟨oc,hoc,fR⟩:=id z
  refine h { s with heap:=h' } ⟨I.ok,I.os,I.bare,⟨λb o e n hb hx=>?_,λb o e n hb hx=>?_,I.base.free,λb o e hx=>?_,I.base.Ck,I.base.Gr,I.base.Fo⟩,⟨m,hn.sameBut hs (iY (cne x c hc)),λj y v' e1 e2 e3=>?_⟩,λy c' e=>?_,I.free,I.Tw,λp hp=>?_,tracked ⟨oc,hoc,I.Tw x c hc⟩ hs,by simpa using I.len⟩ ⟨c,hs,.inr hc⟩
  ·exact(hs.2 b (lE (oZ (oT e) (I.ok.cab x c sV hc)))).trans (I.base.keep b o e n hb hx)
  ·obtain⟨sl,e1⟩:=I.base.slot b o e n hb hx;exact⟨sl,(hs.2 b (lE (oZ (oT e) (I.ok.cab x c sV hc)))).trans e1⟩
  ·obtain⟨o',e1⟩:=I.base.there b o e hx;exact⟨o',(hs.2 b (lE (oZ (oT e) (I.ok.cab x c sV hc)))).trans e1⟩
  ·by_cases hj:j=i
   ·subst hj;rw[hi]at e1;cases e1;rw[List.getElem?_set_self uH]at e2;cases e2;exact⟨u,r,.inr ⟨.inl hk,c,hc,uB⟩⟩
   ·rw[XA (iY hj)]at e2;obtain⟨u',r',q⟩:=hl j y v' e1 e2 e3;refine⟨u',r',?_⟩
    rcases q with q|⟨k,c',e,z'⟩
    ·exact .inl q
    ·refine .inr ⟨k,c',e,z'.sameBut hs ?_⟩;rintro rfl;exact hj (Zbv hN e1 (I.ok.inj _ _ _ e hc▸hi))
  ·by_cases eY:c'=c
   ·subst eY;exact⟨_,uB⟩
   ·obtain⟨w2,z2⟩:=I.cell y c' e;exact⟨w2,z2.sameBut hs eY⟩
  ·obtain⟨e,n,ne,nf,d⟩:=I.pin p hp;refine⟨(hs.2 p.1 ?_).trans e,n,ne,nf,d⟩;intro q;rw[q,hoc]at e;have q':oc=p.2:=Option.some.inj e;exact d w' (by rw[←q'];exact fR)
theorem Io{v:V}{Q:SK}(I:Inv X pins σ H s)(hN:X.N.Nodup)(hi:X.N[i]?=some x)(hx:Loc X.env.scope x)(r:RelV v u)
  (h:∀s',Inv X pins (σ.set i (some v)) H s'→Q () s') (hf:X.fn x=true∨X.env.scope.names.lookup x=some .local:=by first|exact .inl rfl|exact .inr rfl|assumption):wpAny M A (storeName X.env x u) Q E s:=
 Es I hN hi hx r (λs' I' _=>h s' I') hf
theorem Inv.Zw7{s':Shared}(I:Inv X pins σ H s)(ho:s'.os=s.os)(u:Un (frs X.stack) ch H H' s.heap s'.heap)(hok:HOk X.prog X.w H' s'.heap)(hg:AllBare s'.gens)
  (xU:∀b∈ch,(b∈X.ex∨X.s₀.heap.objs.size≤b)∧b≠X.env.locals∧(∀x c,X.env.cells.lookup x=some c→c≠b)∧∀p∈X.pn++pins,p.1≠b):Inv X pins σ H' s':=by
 obtain⟨h',g',d',t',o'⟩:=s';have e:o'=s.os:=ho;subst e;exact I.call (g':=g') (t':=t') (d':=d') u hok hg xU
end
abbrev XK:=Value→Option Addr→Hp→Prop
abbrev St:=List (Option V)
abbrev VK:=V→Hp→Prop
abbrev TE:=St→Hp→VK→Prop
abbrev TT:=St→Hp→(Bool→Hp→Prop)→Prop
abbrev TA:=St→Hp→(List V→Hp→Prop)→Prop
structure Ends where
 nx:St→Hp→Prop
 rt:VK
 bk:St→Hp→Prop:=λ_ _=>False
 ct:St→Hp→Prop:=λ_ _=>False
abbrev TS:=Ends→St→Hp→Prop
def EP(X:Cx)(pins:US)(σ:St)(Q:VK)(u:Value)(s':Shared):Prop:=∃v H',Inv X pins σ H' s'∧RelV v u∧Q v H'
def TP(X:Cx)(pins:US)(σ:St)(Q:Bool→Hp→Prop)(b:Bool)(s':Shared):Prop:=∃H',Inv X pins σ H' s'∧Q b H'
def AP(X:Cx)(pins:US)(σ:St)(Q:List V→Hp→Prop)(us:UX)(s':Shared):Prop:=∃vs H',Inv X pins σ H' s'∧Vals vs us∧Q vs H'
def SP(X:Cx)(pins:US)(D:Ends)(f:Flow)(s':Shared):Prop:=
 match f with
 |.next=>∃x8 H',Inv X pins x8 H' s'∧D.nx x8 H'
 |.brk=>∃x8 H',Inv X pins x8 H' s'∧D.bk x8 H'
 |.cont=>∃x8 H',Inv X pins x8 H' s'∧D.ct x8 H'
 |.ret u=>∃v x8 H',Inv X pins x8 H' s'∧RelV v u∧D.rt v H'
def PE(X:Cx)(e:Expr)(t:TE):Prop:=
 ∀(pins:US) (s:Shared) (σ:St) (H:Hp) (Q:VK),Inv X pins σ H s→t σ H Q→wpAny (model X.prog X.w) X.A (eval e X.env) (EP X pins σ Q) X.xe s
def PT(X:Cx)(e:Expr)(t:TT):Prop:=
 ∀(pins:US) (s:Shared) (σ:St) (H:Hp) (Q:Bool→Hp→Prop),Inv X pins σ H s→t σ H Q→wpAny (model X.prog X.w) X.A (isTrue e X.env (eval e X.env)) (TP X pins σ Q) X.xe s
def PW(X:Cx)(e:Expr)(t:TT):Prop:=
 ∀(whole:Sem Value) (pins:US) (s:Shared) (σ:St) (H:Hp) (Q:Bool→Hp→Prop),Inv X pins σ H s→t σ H Q→wpAny (model X.prog X.w) X.A (isTrue e X.env whole) (TP X pins σ Q) X.xe s
theorem PW.pt{t:TT}(h:PW X e t):PT X e t:=h _
def PA(X:Cx)(es:SA)(t:TA):Prop:=
 ∀(pos:Pos) (pins:US) (s:Shared) (σ:St) (H:Hp) (Q:List V→Hp→Prop),Inv X pins σ H s→t σ H Q→wpAny (model X.prog X.w) X.A (spliced (backTo pos (starEach es X.env))) (AP X pins σ Q) X.xe s
def PS(X:Cx)(st:Stmt)(t:TS):Prop:=
 ∀(pins:US) (s:Shared) (σ:St) (H:Hp) (D:Ends),Inv X pins σ H s→t D σ H→wpAny (model X.prog X.w) X.A (exec st X.env) (SP X pins D) X.xe s
def PSs(X:Cx)(st:List Stmt)(t:TS):Prop:=
 ∀(pins:US) (s:Shared) (σ:St) (H:Hp) (D:Ends),Inv X pins σ H s→t D σ H→wpAny (model X.prog X.w) X.A (execs st X.env) (SP X pins D) X.xe s
theorem thn{α:Type}{t:Sem α}{Q Q':α→Shared→Prop}(h:wpAny M A t Q E s)(hQ:∀a s,Q a s→Q' a s):wpAny M A t Q' E s:=aA h hQ λ_ _ x=>x
section
variable {X:Cx}
inductive Zqv(i:Nat)(σ:St)(H:Hp)(Q:VK):Prop
 |mk(v:_)(h1:σ[i]?=some (some v))(h2:Q v H):Zqv i σ H Q
def L5(i:Nat):TE:=λσ H Q=>Zqv i σ H Q
def tC(v:V):TE:=λ_ H Q=>Q v H
theorem Zlg(hN:X.N[i]?=some x)(hv:Vis X.env.scope x)(hd:(x==("__debug__" : Str))=false:=by decide)(u7:(x==("__classdict__" : Str))=false:=by decide):PE X (.Name x pos) (L5 i):=by
 intro pins s σ H Q I h;obtain⟨v,e,h⟩:=h;obtain⟨m,hn,hl⟩:=I.loc;obtain⟨u,r,l⟩:=hl i x v hN e hv;have fin:EP X pins σ Q u s:=⟨v,H,I,r,h⟩
 rcases l with ⟨hk,hm⟩|⟨hk,c,hc,Zhd⟩
 ·exact wpAny_Name (wpAny_loadName_local I.ok.kind hk hn hm fin) hd
 ·rcases hk with hk|hk
  ·exact wpAny_Name (wpAny_loadName_cell I.ok.kind hk hc Zhd fin) hd
  ·exact wpAny_Name (wpAny_loadName_free I.ok.kind hk hc Zhd fin u7) hd
theorem Zg{i j pos}:PE X (.Constant (.int i) j pos) (tC (.int i)):=λ_ _ _ H _ I h=>wpAny_Constant_int ⟨.int i,H,I.tok _,⟨_,rfl⟩,h⟩
theorem Di{b j pos}:PE X (.Constant (.bool b) j pos) (tC (.bl b)):=λ_ _ _ H _ I h=>Constant_bool ⟨.bl b,H,I,rfl,h⟩
theorem Zlj{j pos}:PE X (.Constant .none j pos) (tC .non):=λ_ _ _ H _ I h=>Constant_none ⟨.non,H,I,rfl,h⟩
theorem Zv{x j pos}:PE X (.Constant (.str x) j pos) (tC (.str x)):=λ_ _ _ H _ I h=>Calls.Constant_str ⟨.str x,H,I.tok _,⟨_,rfl⟩,h⟩
def Gl(X:Cx)(x:Str):Prop:=X.env.kindOf x=some .globalImplicit
theorem Br(I:Inv X pins σ H s)(hg:Gl X x)(hm:X.mg x=some u)(h:Q u s)
  (hd:(x==("__debug__" : Str))=false:=by decide):wpAny (model X.prog X.w) X.A (eval (.Name x pos) X.env) Q E s:=
 Calls.Name_function_global I.ok.kind hg (Calls.loadGlobal_global (by rw[I.ok.glob];exact I.mod.glob.keeps I.bk) hm h) hd
theorem Vc(I:Inv X pins σ H s)(hg:Gl X x)(hm:X.mg x=none)(hv:bootBuiltins x=some u)(h:Q u s)
  (hn:x≠"__name__":=by decide) (hd:(x==("__debug__" : Str))=false:=by decide):wpAny (model X.prog X.w) X.A (eval (.Name x pos) X.env) Q E s:=by
 obtain⟨mb,h1,h2⟩:=I.mod.blt;exact Calls.Name_function_global I.ok.kind hg (Calls.loadGlobal_builtin (by rw[I.ok.glob];exact I.mod.glob.keeps I.bk) hm (by rw[I.ok.blt];exact h1.keeps I.bk) ((h2 x hn).trans hv) h) hd
theorem Mz{v:V}(hg:Gl X x)(hm:X.mg x=some u)(r:RelV v u)(hd:(x==("__debug__" : Str))=false:=by decide):PE X (.Name x pos) (tC v):=
 λ_ _ _ H _ I h=>Br I hg hm ⟨v,H,I,r,h⟩ hd
variable {a b:Expr}{ta tb:TE}{pos:Pos}
def PC(X:Cx)(op:CmpOp)(a b:Expr)(t:TE):Prop:=
 ∀(pins:US) (s:Shared) (σ:St) (H:Hp) (Q:VK),Inv X pins σ H s→t σ H Q→
  wpAny (model X.prog X.w) X.A (eval a X.env) (λv x6=>wpAny (model X.prog X.w) X.A (eval b X.env) (λu k7=>wpAny (model X.prog X.w) X.A (compareOp op v u) (EP X pins σ Q) X.xe k7) X.xe x6) X.xe s
theorem Zl3(b:Expr)(h:op≠.In)(h2:op≠.NotIn):behindInMarks op b=false:=by
 have e1:(op==CmpOp.In)=false:=by cases op<;>first|rfl|exact absurd rfl h
 have e2:(op==CmpOp.NotIn)=false:=by cases op<;>first|rfl|exact absurd rfl h2
 cases b<;>simp[behindInMarks,e1,e2]
inductive tBI(Q:Bool→Hp→Prop)(x:V)(H1:Hp):Prop
 |mk(c:_)(h1:x=.bl c)(h2:Q c H1):tBI Q x H1
def tB(t:TE):TT:=λσ H Q=>t σ H λx H1=>tBI Q x H1
theorem Zla{t:TE}(h:PC X op a b t)(h1:behindInMarks op b=false:=by first|exact Zl3 _ (by decide) (by decide)|rfl):PT X (.Compare a [op] [b] pos) (tB t):=by
 intro pins s σ H Q I hw;refine wpAny_isTrue_Compare1 (thn (h pins s σ H _ I hw) λv s1 h1=>thn h1 λu s2 h2=>thn h2 λc s3 ⟨x,H1,I1,r1,q1⟩=>?_) h1;obtain⟨d,rfl,q⟩:=q1;cases r1;exact aM ⟨H1,I1,q⟩
variable {tA tB':TT}{rest:SA}
def tAnd(t u:TT):TT:=λσ H Q=>t σ H λc H1=>if c=true then u σ H1 Q else Q false H1
def tOr(t u:TT):TT:=λσ H Q=>t σ H λc H1=>if c=true then Q true H1 else u σ H1 Q
def tNot(t:TT):TT:=λσ H Q=>t σ H λc H1=>Q (!c) H1
theorem Zgr(ha:PT X a tA):PW X (.BoolOp .And [a] pos) tA:=by
 intro wh pins s σ H Q I h;refine isTrue_and (thn (ha pins s σ H Q I h) λc s1 e=>?_)
 cases c with
 |true=>exact isTrue_and_nil e
 |false=>exact e
theorem Nl(ha:PT X a tA):PW X (.BoolOp .Or [a] pos) tA:=by
 intro wh pins s σ H Q I h;refine isTrue_or (thn (ha pins s σ H Q I h) λc s1 e=>?_)
 cases c with
 |false=>exact isTrue_or_nil e
 |true=>exact e
theorem Zk7(ha:PT X a tA)(hb:PW X (.BoolOp .And (b :: rest) pos) tB'):PW X (.BoolOp .And (a :: b :: rest) pos) (tAnd tA tB'):=by
 intro wh pins s σ H Q I h;refine isTrue_and (thn (ha pins s σ H _ I h) λc s1 ⟨H1,I1,q1⟩=>?_)
 cases c with
 |true=>exact hb wh pins s1 σ H1 Q I1 q1
 |false=>exact⟨H1,I1,q1⟩
theorem Mp(ha:PT X a tA)(hb:PW X (.BoolOp .Or (b :: rest) pos) tB'):PW X (.BoolOp .Or (a :: b :: rest) pos) (tOr tA tB'):=by
 intro wh pins s σ H Q I h;refine isTrue_or (thn (ha pins s σ H _ I h) λc s1 ⟨H1,I1,q1⟩=>?_)
 cases c with
 |true=>exact⟨H1,I1,q1⟩
 |false=>exact hb wh pins s1 σ H1 Q I1 q1
theorem Zk9(ha:PT X a tA):PT X (.UnaryOp .Not a pos) (tNot tA):=by
 intro pins s σ H Q I h;exact isTrue_not (ha pins s σ H (λc H1=>Q (!c) H1) I h)
inductive Zkb(tb:TE)(σ:St)(Q:VK)(x:V)(H1:Hp):Prop
 |mk(c:_)(h1:x=.bl c)(h2:if c=true then tb σ H1 Q else Q (.bl false) H1):Zkb tb σ Q x H1
def Zva(ta tb:TE):TE:=λσ H Q=>ta σ H λx H1=>Zkb tb σ Q x H1
inductive Zqw(tb:TE)(σ:St)(Q:VK)(x:V)(H1:Hp):Prop
 |mk(c:_)(h1:x=.bl c)(h2:if c=true then Q (.bl true) H1 else tb σ H1 Q):Zqw tb σ Q x H1
def tOrV(ta tb:TE):TE:=λσ H Q=>ta σ H λx H1=>Zqw tb σ Q x H1
inductive Zj8(Q:VK)(x:V)(H1:Hp):Prop
 |mk(c:_)(h1:x=.bl c)(h2:Q (.bl (!c)) H1):Zj8 Q x H1
def Zu2(ta:TE):TE:=λσ H Q=>ta σ H λx H1=>Zj8 Q x H1
theorem Nq{op}{t:TE}(h:PE X a t):PE X (.BoolOp op [a] pos) t:=λpins s σ H Q I hw=>BoolOp_one (h pins s σ H Q I hw)
theorem Ba(ha:PE X a ta)(hb:PE X (.BoolOp .And (b :: rest) pos) tb):PE X (.BoolOp .And (a :: b :: rest) pos) (Zva ta tb):=by
 intro pins s σ H Q I h;refine BoolOp_and (thn (ha pins s σ H _ I h) λv s1 ⟨x,H1,I1,r1,q1⟩=>?_);obtain⟨c,rfl,q1⟩:=q1;cases r1;refine aM ?_
 cases c with
 |true=>exact hb pins s1 σ H1 Q I1 q1
 |false=>exact⟨.bl false,H1,I1,rfl,q1⟩
theorem Zrn(ha:PE X a ta)(hb:PE X (.BoolOp .Or (b :: rest) pos) tb):PE X (.BoolOp .Or (a :: b :: rest) pos) (tOrV ta tb):=by
 intro pins s σ H Q I h;refine BoolOp_or (thn (ha pins s σ H _ I h) λv s1 ⟨x,H1,I1,r1,q1⟩=>?_);obtain⟨c,rfl,q1⟩:=q1;cases r1;refine aM ?_
 cases c with
 |false=>exact hb pins s1 σ H1 Q I1 q1
 |true=>exact⟨.bl true,H1,I1,rfl,q1⟩
theorem Zs4(ha:PE X a ta):PE X (.UnaryOp .Not a pos) (Zu2 ta):=by
 intro pins s σ H Q I h;refine UnaryOp_ (thn (ha pins s σ H _ I h) λv s1 ⟨x,H1,I1,r1,q1⟩=>?_);obtain⟨c,rfl,q1⟩:=q1;cases r1;exact not_of (aM ⟨.bl (!c),H1,I1,rfl,q1⟩)
def tIf(t:TT)(ta tb:TE):TE:=λσ H Q=>t σ H λc H1=>if c=true then ta σ H1 Q else tb σ H1 Q
theorem Zlk{c:Expr}(hc:PT X c tA)(ha:PE X a ta)(hb:PE X b tb):PE X (.IfExp c a b pos) (tIf tA ta tb):=by
 intro pins s σ H Q I h;refine wpAny_IfExp (thn (hc pins s σ H _ I h) λd s1 ⟨H1,I1,q1⟩=>?_)
 cases d with
 |true=>exact ha pins s1 σ H1 Q I1 q1
 |false=>exact hb pins s1 σ H1 Q I1 q1
end
def SqL(K:W.Frag)(H:Hp)(a:Addr)(xs:List V):Prop:=
 Rd H a (.lst xs)∨
  ∃(o:Obj) (its:TH) (n:Nat),K.lookup a=some o∧o.cls=.type "list"∧o.dict=none∧o.data=.seq its n∧its.size≤sizeLine∧Vals xs its.toList
def SqT(K:W.Frag)(H:Hp)(a:Addr)(xs:List V):Prop:=
 Rd H a (.tup xs)∨
  ∃(o:Obj) (its:TH) (n:Nat),K.lookup a=some o∧o.cls=.type "tuple"∧o.data=.seq its n∧its.size≤sizeLine∧Vals xs its.toList
def absV:Value→Option V
 |.none=>some .non
 |.bool b=>some (.bl b)
 |.int i _=>some (.int i)
 |.str x _=>some (.str x)
 |.bytes b _=>some (.byt b)
 |.float b _=>some (.flt b)
 |.ref a=>some (.ref a)
 |.type n=>some (.ty n)
 |_=>none
theorem RelV.abs{x:V}(r:RelV x u):absV u=some x:=by
 cases x with
 |non=>cases r;rfl
 |bl _=>cases r;rfl
 |int _=>obtain⟨t,rfl⟩:=r;rfl
 |str _=>obtain⟨t,rfl⟩:=r;rfl
 |byt _=>obtain⟨t,rfl⟩:=r;rfl
 |flt _=>obtain⟨t,rfl⟩:=r;rfl
 |ref _=>cases r;rfl
 |ty _=>cases r;rfl
theorem RelV.inj{x y:V}{u:Value}(r:RelV x u)(q:RelV y u):x=y:=Option.some.inj (r.abs.symm.trans q.abs)
theorem Vals.inj:∀{xs ys:List V}{us:UX},Vals xs us→Vals ys us→xs=ys
 |_,_,_,.nil,.nil=>rfl
 |_,_,_,.cons r t,.cons r' t'=>by rw[r.inj r',Vals.inj t t']
section
variable {X:Cx}{pins:US}{σ:St}{H:Hp}{s:Shared}{a:Addr}{xs ys:List V}
theorem SqL.of(h:H a=some (.lst xs)):SqL K H a xs:=.inl (.inl h)
theorem SqT.of(h:H a=some (.tup xs)):SqT K H a xs:=.inl (.inl h)
theorem Inv.list(I:Inv X pins σ H s)(h:SqL X.K H a xs):∃its:List Value,Vals xs its∧PlainL s.heap a its.toArray∧xs.length≤sizeLine:=by
 rcases h with h|⟨o,its,n,hk,hc,hd,hs,hz,r⟩
 ·obtain⟨z,its,n,r,e⟩:=h.ok I.hok;exact⟨its,r,⟨_,n,e,rfl,rfl,rfl⟩,z⟩
 ·refine⟨its.toList,r,⟨o,n,I.kIn a o hk,hc,hd,by simpa using hs⟩,?_⟩;have e:=r.length;simp only[lJ]at e;lia
theorem Inv.tuple(I:Inv X pins σ H s)(h:SqT X.K H a xs):∃its:List Value,Vals xs its∧IsTup s.heap a its.toArray∧xs.length≤sizeLine:=by
 rcases h with h|⟨o,its,n,hk,hc,hs,hz,r⟩
 ·obtain⟨z,its,r,p⟩:=h.ok I.hok;exact⟨its,r,p,z⟩
 ·refine⟨its.toList,r,⟨o,I.kIn a o hk,hc,n,by simpa using hs⟩,?_⟩;have e:=r.length;simp only[lJ]at e;lia
theorem Inv.Ge(I:Inv X pins σ H s)(h:SqL X.K H a xs)(h':SqL X.K H a ys):xs=ys:=by
 obtain⟨its,r,⟨o,n,e,_,_,d⟩,_⟩:=I.list h;obtain⟨its',r',⟨o',n',e',_,_,d'⟩,_⟩:=I.list h';rw[e]at e';cases e';rw[d]at d'
 injection d' with d1 _
 have:its=its':=by simpa using congrArg Array.toList d1
 subst this;exact r.inj r'
theorem Inv.Ep(I:Inv X pins σ H s)(h:SqT X.K H a xs)(h':SqT X.K H a ys):xs=ys:=by
 obtain⟨its,r,⟨o,e,_,n,d⟩,_⟩:=I.tuple h;obtain⟨its',r',⟨o',e',_,n',d'⟩,_⟩:=I.tuple h';rw[e]at e';cases e';rw[d]at d'
 injection d' with d1 _
 have:its=its':=by simpa using congrArg Array.toList d1
 subst this;exact r.inj r'
end
abbrev Cx.Fn(X:Cx)(E:UQ):Cx:={ X with xe:=E }
abbrev Cx.nox(X:Cx):Cx:=X.Fn λ_ _=>False
theorem Cx.Ok.Fn{X:Cx}(ok:X.Ok)(E:UQ):(X.Fn E).Ok:=
 ⟨ok.mod,ok.kind,ok.glob,ok.blt,ok.above,ok.inj,ok.has,ok.cab,ok.hd,ok.frames,ok.stk,ok.exf,ok.bs,ok.bsz,ok.Zl2,ok.Znd,ok.Kl,ok.frf⟩
theorem Cx.Ok.Qh{X:Cx}(ok:(X.Fn E).Ok):X.Ok:=
 ⟨ok.mod,ok.kind,ok.glob,ok.blt,ok.above,ok.inj,ok.has,ok.cab,ok.hd,ok.frames,ok.stk,ok.exf,ok.bs,ok.bsz,ok.Zl2,ok.Znd,ok.Kl,ok.frf⟩
section
variable {X:Cx}{pins:US}{σ:St}{H:Hp}{s:Shared}{E:UQ}
theorem Inv.Fn(I:Inv X pins σ H s)(E:UQ):Inv (X.Fn E) pins σ H s:=⟨I.ok.Fn E,I.os,I.bare,I.base,I.loc,I.cell,I.free,I.Tw,I.pin,I.hok,I.len⟩
theorem Inv.Qh(I:Inv (X.Fn E) pins σ H s):Inv X pins σ H s:=⟨I.ok.Qh,I.os,I.bare,I.base,I.loc,I.cell,I.free,I.Tw,I.pin,I.hok,I.len⟩
theorem SP.Qh{D:Ends}{f:Flow}{s':Shared}(h:SP (X.Fn E) pins D f s'):SP X pins D f s':=by
 cases f with
 |next=>obtain⟨x8,H',I,q⟩:=h;exact⟨x8,H',I.Qh,q⟩
 |brk=>obtain⟨x8,H',I,q⟩:=h;exact⟨x8,H',I.Qh,q⟩
 |cont=>obtain⟨x8,H',I,q⟩:=h;exact⟨x8,H',I.Qh,q⟩
 |ret u=>obtain⟨v,x8,H',I,r,q⟩:=h;exact⟨v,x8,H',I.Qh,r,q⟩
theorem PSs.nox{st:List Stmt}{t:TS}(h:PSs X.nox st t):PSs X st t:=λpins s σ H D I hw=>
 aA (h pins s σ H D (I.Fn _) hw) (λ_ _ q=>q.Qh) λ_ _ z=>False.elim z
end
section
variable {X:Cx}{st:Stmt}{rest:List Stmt}{t u:TS}{e:Expr}{te:TE}{pos:Pos}
def Zu3:TS:=λD σ H=>D.nx σ H
def Zp(t u:TS):TS:=λD σ H=>t { D with nx:=u D } σ H
theorem Yo:PSs X [] Zu3:=λ_ _ σ H _ I h=>VD ⟨σ,H,I,h⟩
theorem Zd(h1:PS X st t)(h2:PSs X rest u):PSs X (st :: rest) (Zp t u):=by
 intro pins s σ H D I h
 refine wpAny_execs_cons (thn (h1 pins s σ H { D with nx:=u D } I h) λf s1 q=>?_)
 cases f with
 |next=>
  obtain⟨x8,H',I',q⟩:=q;exact h2 pins s1 x8 H' D I' q
 |ret v=>exact q
 |brk=>exact q
 |cont=>exact q
theorem Zh(h1:PS X st t):PSs X [st] t:=by
 intro pins s σ H D I h;refine wpAny_execs_cons (thn (h1 pins s σ H D I h) λf s1 q=>?_)
 cases f with
 |next=>exact VD q
 |ret v=>exact q
 |brk=>exact q
 |cont=>exact q
theorem Inv.quiet(I:Inv X pins σ H s):interactive X.env=false:=by simp[interactive,I.ok.kind]
def Zu5(te:TE):TS:=λD σ H=>te σ H λ_ H1=>D.nx σ H1
theorem Ys(he:PE X e te)(hs:swapsWith e none pos.line X.env=pure false:=by rfl):PS X (.Expr e pos) (Zu5 te):=by
 intro pins s σ H D I h;exact wpAny_Expr_any (thn (he pins s σ H _ I h) λv s1 ⟨x,H1,I1,r1,q1⟩=>⟨σ,H1,I1,q1⟩) I.quiet hs
def tRet(te:TE):TS:=λD σ H=>te σ H D.rt
theorem Zq(he:PE X e te):PS X (.Return (some e) pos) (tRet te):=by
 intro pins s σ H D I h;exact wpAny_Return_some (thn (he pins s σ H _ I h) λv s1 ⟨x,H1,I1,r1,q1⟩=>⟨x,σ,H1,I1,r1,q1⟩)
def Co(c:TT)(t u:TS):TS:=λD σ H=>c σ H λb H1=>if b=true then t D σ H1 else u D σ H1
theorem Xp{c:Expr}{a b:List Stmt}{tc:TT}(hc:PT X c tc)(ha:PSs X a t)(hb:PSs X b u):PS X (.If c a b pos) (Co tc t u):=by
 intro pins s σ H D I h;refine wpAny_If (thn (hc pins s σ H _ I h) λd s1 ⟨H1,I1,q1⟩=>?_)
 cases d with
 |true=>exact ha pins s1 σ H1 D I1 q1
 |false=>exact hb pins s1 σ H1 D I1 q1
end
abbrev TG:=V→St→Hp→(St→Hp→Prop)→Prop
abbrev TGs:=List V→St→Hp→(St→Hp→Prop)→Prop
def PG(X:Cx)(target:Expr)(t:TG):Prop:=
 ∀(pins:US) (s:Shared) (σ:St) (H:Hp) (v:V) (u:Value) (Q:St→Hp→Prop),Inv X pins σ H s→RelV v u→t v σ H Q→
  wpAny (model X.prog X.w) X.A (assign target X.env u) (λ_ s'=>∃x8 H',Inv X pins x8 H' s'∧Q x8 H') X.xe s
def PGs(X:Cx)(ts:SA)(t:TGs):Prop:=
 ∀(pins:US) (s:Shared) (σ:St) (H:Hp) (vs:List V) (us:UX) (Q:St→Hp→Prop),Inv X pins σ H s→Vals vs us→t vs σ H Q→
  wpAny (model X.prog X.w) X.A (assignInOrder ((assignEach ts X.env).map (·.2)) us) (λ_ s'=>∃x8 H',Inv X pins x8 H' s'∧Q x8 H') X.xe s
abbrev Zus:=V→V→V→Hp→(Hp→Prop)→Prop
def Zxb(X:Cx)(t:Zus):Prop:=
 ∀(pins:US) (s:Shared) (σ:St) (H:Hp) (o i v:V) (ov iv u:Value) (Q:Hp→Prop),Inv X pins σ H s→RelV o ov→RelV i iv→RelV v u→t o i v H Q→
  wpAny (model X.prog X.w) X.A (setItem ov iv u) (λ_ s'=>∃H',Inv X pins σ H' s'∧Q H') X.xe s
section
variable {X:Cx}{pos:Pos}
def K2(i:Nat):TG:=λv σ H Q=>Q (σ.set i (some v)) H
theorem Zo(hN:X.N.Nodup)(hi:X.N[i]?=some x)(hx:Loc X.env.scope x)(hf:X.fn x=true∨X.env.scope.names.lookup x=some .local:=by first|exact .inl rfl|exact .inr rfl|assumption):PG X (.Name x pos) (K2 i):=by
 intro pins s σ H v u Q I r h;exact wpAny_assign_Name (Io I hN hi hx r (λs' I'=>⟨_,H,I',h⟩) hf)
def Zt0:TGs:=λvs σ H Q=>vs=[]∧Q σ H
inductive Zm6(t:TG)(u:TGs)(vs:List V)(σ:St)(H:Hp)(Q:St→Hp→Prop):Prop
 |mk(v r:_)(h1:vs=v :: r)(h2:t v σ H λx8 H'=>u r x8 H' Q):Zm6 t u vs σ H Q
def Zhf(t:TG)(u:TGs):TGs:=λvs σ H Q=>Zm6 t u vs σ H Q
theorem Rc:PGs X [] Zt0:=by
 intro pins s σ H vs us Q I r h;obtain⟨e,h⟩:=h;subst e;cases r;exact assignInOrder_nil ⟨σ,H,I,h⟩
theorem Xb{t:TG}{u:TGs}(h1:PG X e t)(h2:PGs X es u)
  (hs:(assignEach (e :: es) X.env).map (·.2)=assign e X.env :: (assignEach es X.env).map (·.2):=by rfl):PGs X (e :: es) (Zhf t u):=by
 intro pins s σ H vs us Q I r h;obtain⟨v,vr,e1,h⟩:=h;subst e1
 cases r with
 |cons r rr=>
  rw[hs];refine assignInOrder_cons (thn (h1 pins s σ H _ _ _ I r h) λ_ s1 ⟨tJ,H1,I1,q1⟩=>?_);exact h2 pins s1 tJ H1 _ _ Q I1 rr q1
inductive Zry(K:W.Frag)(n:Nat)(t:TGs)(v:V)(σ:St)(H:Hp)(Q:St→Hp→Prop):Prop
 |mk(a xs:_)(h1:v=.ref a)(h2:SqT K H a xs)(h3:xs.length=n)(h4:t xs σ H Q):Zry K n t v σ H Q
def Zp5(K:W.Frag)(n:Nat)(t:TGs):TG:=λv σ H Q=>Zry K n t v σ H Q
theorem Zs2{k:Nat}{t:TGs}(hc:X.calm=true)(h:PGs X es t)
  (hn:(assignEach es X.env).length=n:=by rfl) (z9:(assignEach es X.env).findIdx? (·.1)=none:=by rfl):PG X (.Tuple es k pos) (Zp5 X.K n t):=by
 intro pins s σ H v u Q I r hw;obtain⟨a,xs,e1,hq,hl,hw⟩:=hw;subst e1;cases r;obtain⟨its,rv,ht,hz⟩:=I.tuple hq;refine assign_Tuple_tuple (I.ok.hd hc) ht (by simp[hn,←hl,rv.length]) z9 λh' hx=>?_
 have I1:Inv X pins σ H { s with heap:=h' }:=I.kept (t':=s.toks) λb o e=>hx b o (lE (oT e)) e;exact h pins _ σ H xs _ Q I1 (by simpa using rv) hw
def gSub(to ti:TE)(t:Zus):TG:=λv σ H Q=>to σ H λo H1=>ti σ H1 λi H2=>t o i v H2 λH3=>Q σ H3
theorem Ka{o i:Expr}{to ti:TE}{t:Zus}(ho:PE X o to)(hi:PE X i ti)(hs:Zxb X t)
  (ha:∀v,assign (.Subscript o i pos) X.env v=(do
   let ov ←holding [v] (eval o X.env)
   let iv ←holding [v,ov] (eval i X.env)
   standAt pos
   holding [v,ov,iv] (setItem ov iv v)
   release [v,ov,iv] []):=by intro _;rfl):PG X (.Subscript o i pos) (gSub to ti t):=by
 intro pins s σ H v u Q I r h;rw[ha];refine oA (iB (thn (ho pins s σ H _ I h) λov s1 ⟨x,H1,I1,r1,q1⟩=>?_));refine oA (iB (thn (hi pins s1 σ H1 _ I1 q1) λiv s2 ⟨y,H2,I2,r2,q2⟩=>?_));refine oA (XG (oA (iB (thn (hs pins s2 σ H2 x y v ov iv u _ I2 r1 r2 r q2) λ_ s3 ⟨H3,I3,q3⟩=>?_))));exact wpAny_release ⟨σ,H3,I3,q3⟩
def Zsm(te:TE)(g:TG):TS:=λD σ H=>te σ H λx H1=>g x σ H1 D.nx
theorem Np(he:PE X e te)(hg:PG X tg g)(hs:swapsWithSole [tg] e pos.line X.env=pure false:=by rfl)(hw:swappedStores [tg] e X.env=pure none:=by rfl)
  (h1:(assignEach [tg] X.env).map (·.2)=[assign tg X.env]:=by rfl):PS X (.Assign [tg] e pos) (Zsm te g):=by
 intro pins s σ H D I h;refine wpAny_Assign_stores (thn (he pins s σ H _ I h) λv s1 ⟨x,H1,I1,r1,q1⟩=>?_) hs hw;rw[h1];exact thn (hg pins s1 σ H1 x v _ I1 r1 q1) λ_ s2 q=>q
theorem Zn{pos':Pos}(hN:X.N.Nodup)(hi:X.N[i]?=some x)(hx:Loc X.env.scope x)(he:PE X e te)(hs:swapsWith e (some (.Name x pos')) pos.line X.env=pure false:=by rfl)(hf:X.fn x=true∨X.env.scope.names.lookup x=some .local:=by first|exact .inl rfl|exact .inr rfl|assumption):
  PS X (.Assign [.Name x pos'] e pos) (Zsm te (K2 i)):=by
 intro pins s σ H D I h;refine wpAny_Assign_Name (thn (he pins s σ H _ I h) λv s1 ⟨y,H1,I1,r1,q1⟩=>?_) hs;exact Io I1 hN hi hx r1 (λs2 I2=>⟨_,H1,I2,q1⟩) hf
end
section
variable {X:Cx}{pos:Pos}
inductive Zfv(c:TT)(tb:TS)(D:Ends)(σ:St)(H:Hp):Prop
 |mk(W:Nat→St→Hp→Prop)(h1:(∃m,W m σ H))(h2:∀m σ H,W m σ H→c σ H λb H1=>if b=true then ∃N:St→Hp→Prop,(∀x8 H',N x8 H'→∃m',m'<m∧W m' x8 H')∧tb { D with nx:=N,ct:=N,bk:=D.nx } σ H1 else D.nx σ H1):Zfv c tb D σ H
def Il(c:TT)(tb:TS):TS:=λD σ H=>Zfv c tb D σ H
theorem Mr{c:Expr}{tc:TT}(hp:PassesOwn (model X.prog X.w) X.A X.env X.xe)(hc:PT X c tc)(hb:PSs X body tb):PS X (.While c body [] pos) (Il tc tb):=by
 intro pins s σ H D I h;obtain⟨W,⟨m0,w0⟩,turn⟩:=h;refine wpAny_While (codeAny_whileLoop (λn s'=>∃x8 H',Inv X pins x8 H' s'∧W n x8 H') ?_ m0 ⟨σ,H,I,w0⟩);rintro n s1 ⟨tJ,H1,I1,w1⟩;refine ZL hp (thn (hc pins s1 tJ H1 _ I1 (turn n tJ H1 w1)) λb s2 ⟨H2,I2,q2⟩=>?_)
 cases b with
 |true=>
  obtain⟨N,hN,q2⟩:=q2;rw[if_pos rfl];refine ZL hp (thn (hb pins s2 tJ H2 _ I2 q2) λf s3 q3=>?_)
  cases f with
  |next=>
   obtain⟨xJ,H3,I3,n3⟩:=q3;obtain⟨m',hm,w3⟩:=hN xJ H3 n3;exact⟨m',hm,xJ,H3,I3,w3⟩
  |cont=>
   obtain⟨xJ,H3,I3,n3⟩:=q3;obtain⟨m',hm,w3⟩:=hN xJ H3 n3;exact⟨m',hm,xJ,H3,I3,w3⟩
  |brk=>exact q3
  |ret v=>exact q3
 |false=>
  rw[if_neg lA];exact VD ⟨tJ,H2,I2,q2⟩
end
structure It where
 go:Nat→Hp→Prop
 yld:Nat→Hp→V→Hp→Prop
 stop:Nat→Hp→Prop
def Eh(X:Cx)(pins:US)(H:Hp)(b:Addr):Prop:=
 H b=none∧b≠X.env.locals∧b∉X.fs∧(b∈X.ex∨X.s₀.heap.objs.size≤b)∧(∀x c,X.env.cells.lookup x=some c→c≠b)∧∀p∈X.pn++pins,p.1≠b
theorem Inv.Lm(I:Inv X pins σ H s)(hb:s.heap.objs.size≤b)(hn:H' b=none):Eh X pins H' b:=by
 refine⟨hn,bJ (oZ I.lt hb),I.Zv7 hb,.inr (lI I.sz hb),λx c e z=>?_,λp hp z=>?_⟩
 ·obtain⟨v,q⟩:=I.cell x c e;exact absurd (oZ q.lt (by rw[z];exact hb)) (iL _)
 ·exact absurd (oZ (oT (I.pin p hp).1) (by rw[z];exact hb)) (iL _)
structure Turn(P:Program)(w:World)(K:W.Frag)(tg:Expr)(J:It)(fp:SM)(it:Addr)(tn:Nat→Heap→Prop):Prop where
 mem:it∈fp
 obj:∀i h,tn i h→∀b∈fp,∃o,h.get? b=some o∧∀v,o.data≠.cell v
 keep:∀i h h',tn i h→(∀b∈fp,∀o,h.get? b=some o→h'.get? b=some o)→tn i h'
 item:∀(X:Cx),X.prog=P→X.w=w→X.K=K→X.calm=true→∀(i:Nat) (pins:US) (s:Shared) (σ:St) (H:Hp) (E:UQ),Inv X pins σ H s→(∀b∈fp,Eh X pins H b)→tn i s.heap→J.go i H→
  wpAny (model P w) X.A (pyNext (.ref it)) (λr s1=>∃u,r=some u∧
   wpAny (model P w) X.A (letOwnedTupleGo tg (.ref it) u) (λ_ s2=>∃x H',Inv X pins σ H' s2∧RelV x u∧J.yld i H x H'∧tn (i+1) s2.heap∧∀b∈fp,H' b=none) E s1) E s
 done:∀(X:Cx),X.prog=P→X.w=w→X.K=K→X.calm=true→∀(i:Nat) (pins:US) (s:Shared) (σ:St) (H:Hp) (E:UQ),Inv X pins σ H s→(∀b∈fp,Eh X pins H b)→tn i s.heap→J.stop i H→
  wpAny (model P w) X.A (pyNext (.ref it)) (λr s1=>r=none∧Inv X pins σ H s1) E s
 self:∀(A:Around) (i:Nat) (s:Shared) (Q:UQ) (E:UQ),tn i s.heap→Q (.ref it) s→wpAny (model P w) A (pyIter (.ref it)) Q E s
abbrev TI:=St→Hp→(It→Hp→Prop)→Prop
def PIE(X:Cx)(pins:US)(σ:St)(tg:Expr)(R:It→Hp→Prop)(rM:Value)(s2:Shared):Prop:=
 ∃(it:Addr) (fp:SM) (tn:Nat→Heap→Prop) (J:It) (H':Hp),rM=.ref it∧Inv X pins σ H' s2∧Turn X.prog X.w X.K tg J fp it tn∧tn 0 s2.heap∧(∀b∈fp,Eh X pins H' b)∧R J H'
def PI(X:Cx)(tg iter:Expr)(wi:TI):Prop:=
 ∀(pins:US) (s:Shared) (σ:St) (H:Hp) (R:It→Hp→Prop),Inv X pins σ H s→wi σ H R→
  wpAny (model X.prog X.w) X.A (eval iter X.env) (λv s1=>wpAny (model X.prog X.w) X.A (pyIter v) (PIE X pins σ tg R) X.xe s1) X.xe s
theorem Gp{n:String}{vs:TH}{Q:SK}(ho:s.heap.get? it=some o)(hc:o.cls=.type n)(hd:o.data=.fields vs)
  (hn:["enumerate","zip","dict_itemiterator","dict_reverseitemiterator","odict_iterator","itertools.zip_longest","itertools.pairwise"].contains n=false) (hQ:Q () s):wpAny M A (letOwnedTupleGo tg (.ref it) u) Q E s:=by
 unfold letOwnedTupleGo
 cases tg<;>first
  |exact oD hQ
  | (cases u<;>first
    |exact oD hQ
    | (refine oA (wpAny_load ho ?_)
       rw[hc,hd];show wpAny M A (if (["enumerate","zip","dict_itemiterator","dict_reverseitemiterator","odict_iterator","itertools.zip_longest","itertools.pairwise"].contains n&&vs[0]? == some (rawInt _))=true then _ else _) Q E s;rw[if_neg (by intro h;rw[hn,Bool.false_and]at h;cases h)]
       exact oD hQ))
def Itl(K:W.Frag)(a:Addr):It:=
 ⟨λi H=>∃xs x,SqL K H a xs∧xs[i]?=some x,λi H x H'=>H'=H∧∀xs,SqL K H a xs→xs[i]?=some x,λi H=>∃xs,SqL K H a xs∧xs.length≤i⟩
def Itt(K:W.Frag)(a:Addr):It:=
 ⟨λi H=>∃xs x,SqT K H a xs∧xs[i]?=some x,λi H x H'=>H'=H∧∀xs,SqT K H a xs→xs[i]?=some x,λi H=>∃xs,SqT K H a xs∧xs.length≤i⟩
def Itr(lo:Int)(n:Nat):It:=⟨λi _=>i<n,λi H x H'=>H'=H∧x=.int (lo+i),λi _=>n≤i⟩
theorem Zhx(a it:Addr):Turn P w K tg (Itl K a) [it] it (λi h=>h.IsListIter it a i) where
 mem:=by simp
 obj:=λi h st b hb=>by
  have e:b=it:=by simpa using hb
  subst e;obtain⟨o,e,c,d⟩:=st;exact⟨o,e,λv z=>by rw[d]at z;cases z⟩
 keep:=λi h h' st k=>st.at λo e=>k it (by simp) o e
 item:=by
  intro X hP hw hK hc i pins s σ H E I hf st hg;subst hP hw hK;obtain⟨xs,x,hq,hx⟩:=hg;obtain⟨its,rv,p,hz⟩:=I.list hq;obtain⟨u,hu,ru⟩:=rv.get hx;obtain⟨f0,f1,f2,f3,f4,f5⟩:=hf it (by simp);refine wpAny_pyNext_list_item st p.isList (x:=u) (by simpa using hu) λh' m8 sb=>?_
  have I1:Inv X pins σ H { s with heap:=h' }:=I.turned (t':=s.toks) (λb o hb e=>(sb.2 b hb).trans e) f0 f1 f3 f4 f5;obtain⟨o,e,c,d⟩:=id m8
  exact⟨u,rfl,Gp (s:={ s with heap:=h' }) e c d (by decide) ⟨x,H,I1,ru,⟨rfl,λys hy=>by rw[I.Ge hy hq];exact hx⟩,m8,λb hb=>(hf b hb).1⟩⟩
 done:=by
  intro X hP hw hK hc i pins s σ H E I hf st hg;subst hP hw hK;obtain⟨xs,hq,hx⟩:=hg;obtain⟨its,rv,p,hz⟩:=I.list hq;obtain⟨f0,f1,f2,f3,f4,f5⟩:=hf it (by simp);have hl:=rv.length;exact wpAny_pyNext_list_end (I.ok.hd hc) st p.isList (by simp;lia) λh' eb=>⟨rfl,I.turned (t':=s.toks) (λb o hb e=>eb b o hb e) f0 f1 f3 f4 f5⟩
 self:=λ_ _ _ _ _ st h=>wpAny_pyIter_listiter st h
theorem Zc3(a it:Addr):Turn P w K tg (Itt K a) [it] it (λi h=>h.IsTupleIter it a i) where
 mem:=by simp
 obj:=λi h st b hb=>by
  have e:b=it:=by simpa using hb
  subst e;obtain⟨o,e,c,d⟩:=st;exact⟨o,e,λv z=>by rw[d]at z;cases z⟩
 keep:=λi h h' st k=>st.at λo e=>k it (by simp) o e
 item:=by
  intro X hP hw hK hc i pins s σ H E I hf st hg;subst hP hw hK;obtain⟨xs,x,hq,hx⟩:=hg;obtain⟨its,rv,p,hz⟩:=I.tuple hq;obtain⟨u,hu,ru⟩:=rv.get hx;obtain⟨f0,f1,f2,f3,f4,f5⟩:=hf it (by simp);refine wpAny_pyNext_tuple_item st (show s.heap.IsTuple a its.toArray from p) (x:=u) (by simpa using hu) λh' m8 sb=>?_
  have I1:Inv X pins σ H { s with heap:=h' }:=I.turned (t':=s.toks) (λb o hb e=>(sb.2 b hb).trans e) f0 f1 f3 f4 f5;obtain⟨o,e,c,d⟩:=id m8
  exact⟨u,rfl,Gp (s:={ s with heap:=h' }) e c d (by decide) ⟨x,H,I1,ru,⟨rfl,λys hy=>by rw[I.Ep hy hq];exact hx⟩,m8,λb hb=>(hf b hb).1⟩⟩
 done:=by
  intro X hP hw hK hc i pins s σ H E I hf st hg;subst hP hw hK;obtain⟨xs,hq,hx⟩:=hg;obtain⟨its,rv,p,hz⟩:=I.tuple hq;obtain⟨f0,f1,f2,f3,f4,f5⟩:=hf it (by simp);have hl:=rv.length;exact wpAny_pyNext_tuple_end (I.ok.hd hc) st (show s.heap.IsTuple a its.toArray from p) (by simp;lia) λh' eb=>⟨rfl,I.turned (t':=s.toks) (λb o hb e=>eb b o hb e) f0 f1 f3 f4 f5⟩
 self:=λ_ _ _ _ _ st h=>wpAny_pyIter_tupleiter st h
theorem Zc4(it:Addr)(lo:Int)(n:Nat):Turn P w K tg (Itr lo n) [it] it (λi h=>IsRangeIter h it (lo+(i:Nat)*1) ((n:Int)-(i:Nat)) 1) where
 mem:=by simp
 obj:=λi h st b hb=>by
  have e:b=it:=by simpa using hb
  subst e
  exact⟨_,st,λv z=>by
   have z':Data.fields _=Data.cell v:=z
   cases z'⟩
 keep:=λi h h' st k=>k it (by simp) _ st
 item:=by
  intro X hP hw hK hc i pins s σ H E I hf st hg;subst hP hw hK;obtain⟨f0,f1,f2,f3,f4,f5⟩:=hf it (by simp);have W:=Walks.range (prog:=X.prog) (w:=X.w) (I.ok.hd hc) it lo 1 n;refine W.item i s _ _ hg st λv h' tk hv m8 kk=>?_;obtain⟨t,rfl⟩:=hv
  have I1:Inv X pins σ H { s with heap:=h',toks:=tk }:=I.turned (λb o hb e=>kk b o (by simpa using hb) e) f0 f1 f3 f4 f5
  refine⟨_,rfl,Gp (s:={ s with heap:=h',toks:=tk }) (n:="range_iterator") m8 rfl rfl (by decide) ⟨.int (lo+i),H,I1,⟨t,?_⟩,⟨rfl,rfl⟩,m8,λb hb=>(hf b hb).1⟩⟩;rw[Int.mul_one]
 done:=by
  intro X hP hw hK hc i pins s σ H E I hf st hg;subst hP hw hK;obtain⟨f0,f1,f2,f3,f4,f5⟩:=hf it (by simp);exact wpAny_pyNext_range_end (I.ok.hd hc) st (by have:n≤i:=hg;lia) λh' eb=>⟨rfl,I.turned (t':=s.toks) (λb o hb e=>eb b o hb e) f0 f1 f3 f4 f5⟩
 self:=λ_ _ _ _ _ st h=>wpAny_pyIter_rangeiter st h
section
variable {X:Cx}{tg:Expr}
inductive Zmr(K:W.Frag)(R:It→Hp→Prop)(x:V)(H1:Hp):Prop
 |mk(a:_)(h1:x=.ref a)(h2:(∃xs,SqL K H1 a xs))(h3:R (Itl K a) H1):Zmr K R x H1
def Zrx(K:W.Frag)(tl:TE):TI:=λσ H R=>tl σ H λx H1=>Zmr K R x H1
inductive Zrw(K:W.Frag)(R:It→Hp→Prop)(x:V)(H1:Hp):Prop
 |mk(a:_)(h1:x=.ref a)(h2:(∃xs,SqT K H1 a xs))(h3:R (Itt K a) H1):Zrw K R x H1
def Zwe(K:W.Frag)(tl:TE):TI:=λσ H R=>tl σ H λx H1=>Zrw K R x H1
theorem Zo3(hl:PE X l tl):PI X tg l (Zrx X.K tl):=by
 intro pins s σ H R I h;refine thn (hl pins s σ H _ I h) λv s1 ⟨x,H1,I1,r1,q1⟩=>?_;obtain⟨a,e,⟨xs,hq⟩,q⟩:=q1;subst e;cases r1;obtain⟨its,rv,p,hz⟩:=I1.list hq;refine UJ p.isList ?_;refine⟨s1.heap.objs.size,[s1.heap.objs.size],_,_,H1,rfl,I1.kept (t':=s1.toks) λb o e=>oE _ e,Zhx a _,⟨_,oS _ rfl,rfl,rfl⟩,λb hb=>?_,q⟩;have e:b=s1.heap.objs.size:=by simpa using hb
 subst e;exact I1.Lm (oG _) (I1.hok.fresh (oG _))
theorem Zs1(hl:PE X l tl):PI X tg l (Zwe X.K tl):=by
 intro pins s σ H R I h;refine thn (hl pins s σ H _ I h) λv s1 ⟨x,H1,I1,r1,q1⟩=>?_;obtain⟨a,e,⟨xs,hq⟩,q⟩:=q1;subst e;cases r1;obtain⟨its,rv,p,hz⟩:=I1.tuple hq;refine VW (show s1.heap.IsTuple a its.toArray from p) ?_;refine⟨s1.heap.objs.size,[s1.heap.objs.size],_,_,H1,rfl,I1.kept (t':=s1.toks) λb o e=>oE _ e,Zc3 a _,⟨_,oS _ rfl,rfl,rfl⟩,λb hb=>?_,q⟩;have e:b=s1.heap.objs.size:=by simpa using hb
 subst e;exact I1.Lm (oG _) (I1.hok.fresh (oG _))
theorem Zbb{R:It→Hp→Prop}{lo hi:Int}{t u v:Tok}{tk:Nat}(I:Inv X pins σ H s)(h1 : -(2 ^ 62)≤lo)(h2:lo<2 ^ 62)(h3 : -(2 ^ 62)≤hi)(h4:hi<2 ^ 62)
  (q:R (Itr lo (hi-lo).toNat) H):wpAny (model X.prog X.w) X.A (pyIter (.ref s.heap.objs.size)) (PIE X pins σ tg R) E { s with heap:=s.heap.push { cls:=.type "range",data:=.fields #[.int lo t,.int hi u,.int 1 v] },toks:=tk }:=by
 refine wpAny_pyIter_range (IsRange.new ..) (small_one h1 h2 h3 h4) ?_
 have I1:Inv X pins σ H { s with heap:=s.heap.push { cls:=.type "range",data:=.fields #[.int lo t,.int hi u,.int 1 v] },toks:=tk }:=I.kept λb o e=>oE _ e
 refine⟨(s.heap.push { cls:=.type "range",data:=.fields #[.int lo t,.int hi u,.int 1 v] }).objs.size,[(s.heap.push { cls:=.type "range",data:=.fields #[.int lo t,.int hi u,.int 1 v] }).objs.size],_,_,H,rfl,
  I1.kept (t':=tk) λb o e=>oE _ e,Zc4 _ lo (hi-lo).toNat,?_,λb hb=>?_,q⟩
 ·have e1:lo+((0:Nat):Int)*1=lo:=by simp
  have e2:(((hi-lo).toNat:Nat):Int)-((0:Nat):Int)=Builtin.Range.rangeSize lo hi 1:=by rw[rangeSize_one];split<;>lia
  show IsRangeIter _ _ (lo+((0:Nat):Int)*1) ((((hi-lo).toNat:Nat):Int)-((0:Nat):Int)) 1;rw[e1,e2];exact oS _ rfl
 ·have e:b=(s.heap.push { cls:=.type "range",data:=.fields #[.int lo t,.int hi u,.int 1 v] }).objs.size:=by simpa using hb
  subst e;exact I1.Lm (oG _) (I1.hok.fresh (oG _))
inductive Zmq(R:It→Hp→Prop)(vs:List V)(H1:Hp):Prop
 |mk(j:Int)(h1:vs=[.int j])(h2 : -(2 ^ 62)≤j)(h3:j<2 ^ 62)(h4:R (Itr 0 j.toNat) H1):Zmq R vs H1
def Zwg(ta:TA):TI:=λσ H R=>ta σ H λvs H1=>Zmq R vs H1
inductive Zmp(R:It→Hp→Prop)(vs:List V)(H1:Hp):Prop
 |mk(i j:Int)(h1:vs=[.int i,.int j])(h2:(-(2 ^ 62)≤i∧i<2 ^ 62∧-(2 ^ 62)≤j∧j<2 ^ 62))(h3:R (Itr i (j-i).toNat) H1):Zmp R vs H1
def Zwf(ta:TA):TI:=λσ H R=>ta σ H λvs H1=>Zmp R vs H1
theorem Vw{a:Expr}{ta:TA}(hg:Gl X "range")(hm:X.mg "range"=none)(ha:PA X [a] ta)(hs:starEach [a] X.env=[(false,eval a X.env)]:=by rfl):PI X tg (.Call (.Name "range" p) [a] [] pos) (Zwg ta):=by
 intro pins s σ H R I h;refine Call_ (Vc I hg hm boot_range (iC (thn (ha pos pins s σ H _ I h) λus s1 ⟨vs,H1,I1,r1,q1⟩=>?_) hs rfl));obtain⟨j,e,q1,q2,q⟩:=q1;subst e
 cases r1 with
 |cons r rr=>
  cases rr;obtain⟨t,rfl⟩:=r;exact call_range_1 (Zbb I1 (by lia) (by lia) q1 q2 (by simpa using q))
theorem Zic{a b:Expr}{ta:TA}(hg:Gl X "range")(hm:X.mg "range"=none)(ha:PA X [a,b] ta)(hs:starEach [a,b] X.env=[(false,eval a X.env),(false,eval b X.env)]:=by rfl)(xY:starEach [b] X.env=[(false,eval b X.env)]:=by rfl):
  PI X tg (.Call (.Name "range" p) [a,b] [] pos) (Zwf ta):=by
 intro pins s σ H R I h;refine Call_ (Vc I hg hm boot_range (iC (thn (ha pos pins s σ H _ I h) λus s1 ⟨vs,H1,I1,r1,q1⟩=>?_) (by rw[hs,xY]) (by rw[xY];rfl)));obtain⟨i,j,e,⟨q1,q2,q3,q4⟩,q⟩:=q1;subst e
 cases r1 with
 |cons r rr=>
  cases rr with
  |cons r' rr=>
   cases rr;obtain⟨t,rfl⟩:=r;obtain⟨t',rfl⟩:=r';exact call_range_2 (Zbb I1 q1 q2 q3 q4 q)
def Zad(wi:TI)(g:TG)(tb:TS):TS:=λD σ H=>wi σ H λJ H1=>∃W:Nat→Nat→St→Hp→Prop,(∃m,W 0 m σ H1)∧∀i m σ H,W i m σ H→
 (J.stop i H∧D.nx σ H)∨(J.go i H∧∃N:St→Hp→Prop,(∀x8 H',N x8 H'→∃m',m'<m∧W (i+1) m' x8 H')∧∀x H',J.yld i H x H'→g x σ H' λy4 H2=>tb { D with nx:=N,ct:=N,bk:=D.nx } y4 H2)
def L9(fp:SM)(h:Heap):List UT:=fp.filterMap λb=>(h.get? b).map λo=>(b,o)
theorem Rh(hb:b∈fp)(e:h.get? b=some o):(b,o)∈L9 fp h:=VX.mpr ⟨b,hb,by rw[e];rfl⟩
theorem Zil{p:Addr×Obj}(hp:p∈L9 fp h):p.1∈fp∧h.get? p.1=some p.2:=by
 obtain⟨b,hb,e⟩:=VX.mp hp
 cases q:h.get? b with
 |none=>rw[q]at e;cases e
 |some o=>
  rw[q]at e;have e':(b,o)=p:=Option.some.inj e;subst e';exact⟨hb,q⟩
theorem Inv.pinned(I:Inv X pins σ H s)(hf:∀b∈fp,Eh X pins H b)(ho:∀b∈fp,∃o,s.heap.get? b=some o∧∀v,o.data≠.cell v):Inv X (pins++L9 fp s.heap) σ H s:=
 I.Mx λp hp=>(iD.mp hp).elim (λz=>I.pin p (lN _ z)) λz=>by
  obtain⟨hb,e⟩:=Zil z;obtain⟨f0,f1,f2,_⟩:=hf p.1 hb;obtain⟨o,e',d⟩:=ho p.1 hb;rw[e]at e';cases e';exact⟨e,f0,f1,f2,d⟩
theorem Inv.So{pl:US}(I:Inv X (pins++pl) σ H s):Inv X pins σ H s:=I.Mx λp hp=>I.pin p (lN _ (aK _ hp))
theorem Xq{iter:Expr}{wi:TI}(hp:PassesOwn (model X.prog X.w) X.A X.env X.xe)(hc:X.calm=true)(hi:PI X tg iter wi)(hg:PG X tg g)(hb:PSs X body tb)
  (hs:∀x,foldedSetIterable iter X.env x=pure x:=by intro _;rfl):PS X (.For tg iter body [] pos) (Zad wi g tb):=by
 intro pins s σ H D I h;refine wpAny_For (thn (hi pins s σ H _ I h) λv s1 h1=>thn h1 λrM s2 h2=>?_) hs;obtain⟨it,fp,tn,J,H2,e,I2,T,st2,f2,W,⟨m0,w0⟩,turn⟩:=h2;subst e;have Zdg:∀{H':Hp},(∀b∈fp,H' b=none)→∀b∈fp,Eh X pins H' b:=λhn b hb=>⟨hn b hb,(f2 b hb).2⟩;refine codeAny_forLoop_any (λn s'=>∃i x8 H',Inv X pins x8 H' s'∧tn i s'.heap∧(∀b∈fp,H' b=none)∧W i n x8 H') ?_ m0 ⟨0,σ,H2,I2,st2,λb hb=>(f2 b hb).1,w0⟩;rintro n s3 ⟨i,xJ,H3,I3,vR,tP,w3⟩
 rcases turn i n xJ H3 w3 with ⟨stop,qn⟩|⟨go,N,hN,step⟩
 ·refine ZL hp (thn (T.done X rfl rfl rfl hc i pins s3 xJ H3 X.xe I3 (Zdg tP) vR stop) λr s4 ⟨hr,I4⟩=>?_);subst hr;exact VD ⟨xJ,H3,I4,qn⟩
 ·refine ZL hp (thn (T.item X rfl rfl rfl hc i pins s3 xJ H3 X.xe I3 (Zdg tP) vR go) λr s4 ⟨u,hr,h4⟩=>?_);subst hr;refine ZL hp (thn h4 λ_ s5 ⟨x,H5,I5,r5,y5,kU,qW⟩=>?_);have jI:=I5.pinned (Zdg qW) (T.obj _ _ kU);refine ZL hp (thn (hg _ s5 xJ H5 x u _ jI r5 (step x H5 y5)) λ_ s6 ⟨vV,H6,I6,q6⟩=>?_);refine ZL hp (thn (hb _ s6 vV H6 _ I6 q6) λf s7 q7=>?_)
  have again:∀{xK:St}{H7:Hp},Inv X (pins++L9 fp s5.heap) xK H7 s7→N xK H7→∃m,m<n∧∃i x8 H',Inv X pins x8 H' s7∧tn i s7.heap∧(∀b∈fp,H' b=none)∧W i m x8 H':=λ{xK H7} I7 n7=>by
   obtain⟨m',hm,w7⟩:=hN xK H7 n7;refine⟨m',hm,i+1,xK,H7,I7.So,T.keep _ _ _ kU λb hb o e=>(I7.pin (b,o) (lN _ (lN _ (Rh hb e)))).1,λb hb=>?_,w7⟩;obtain⟨o,e,d⟩:=T.obj _ _ kU b hb;exact(I7.pin (b,o) (lN _ (lN _ (Rh hb e)))).2.1
  cases f with
  |next=>obtain⟨xK,H7,I7,n7⟩:=q7;exact again I7 n7
  |cont=>obtain⟨xK,H7,I7,n7⟩:=q7;exact again I7 n7
  |brk=>obtain⟨xK,H7,I7,q7⟩:=q7;exact⟨xK,H7,I7.So,q7⟩
  |ret v=>obtain⟨x7,xK,H7,I7,r7,q7⟩:=q7;exact⟨x7,xK,H7,I7.So,r7,q7⟩
end
theorem S2(Pv:Nat→St→Hp→Prop)(h0:Pv 0 σ H)(hl:∀i σ H,i≤xs.length→Pv i σ H→SqL K H a xs)
  (hs:∀i x σ H,xs[i]?=some x→Pv i σ H→g x σ H λy4 H2=>tb { D with nx:=Pv (i+1),ct:=Pv (i+1),bk:=D.nx } y4 H2) (hd:∀σ H,Pv xs.length σ H→D.nx σ H) :
  ∃W:Nat→Nat→St→Hp→Prop,(∃m,W 0 m σ H)∧∀i m σ H,W i m σ H→
   ((Itl K a).stop i H∧D.nx σ H)∨((Itl K a).go i H∧∃N:St→Hp→Prop,(∀x8 H',N x8 H'→∃m',m'<m∧W (i+1) m' x8 H')∧∀x H',(Itl K a).yld i H x H'→g x σ H' λy4 H2=>tb { D with nx:=N,ct:=N,bk:=D.nx } y4 H2):=by
 refine⟨λi m σ H=>m=xs.length-i∧i≤xs.length∧Pv i σ H,⟨xs.length,by simp,lD _,h0⟩,?_⟩;rintro i m σ H ⟨rfl,hi,p⟩;have q:=hl i σ H hi p
 by_cases x9:i<xs.length
 ·refine .inr ⟨⟨xs,xs[i],q,by simp[x9]⟩,Pv (i+1),λx8 H' p'=>⟨xs.length-(i+1),by lia,rfl,x9,p'⟩,λx H' y=>?_⟩;obtain⟨e,y⟩:=y;subst e;exact hs i x σ _ (y xs q) p
 ·have e:i=xs.length:=by lia
  subst e;exact .inl ⟨⟨xs,q,oG _⟩,hd σ H p⟩
theorem Zp6(Pv:Nat→St→Hp→Prop)(h0:Pv 0 σ H)(hl:∀i σ H,i≤xs.length→Pv i σ H→SqT K H a xs)
  (hs:∀i x σ H,xs[i]?=some x→Pv i σ H→g x σ H λy4 H2=>tb { D with nx:=Pv (i+1),ct:=Pv (i+1),bk:=D.nx } y4 H2) (hd:∀σ H,Pv xs.length σ H→D.nx σ H) :
  ∃W:Nat→Nat→St→Hp→Prop,(∃m,W 0 m σ H)∧∀i m σ H,W i m σ H→
   ((Itt K a).stop i H∧D.nx σ H)∨((Itt K a).go i H∧∃N:St→Hp→Prop,(∀x8 H',N x8 H'→∃m',m'<m∧W (i+1) m' x8 H')∧∀x H',(Itt K a).yld i H x H'→g x σ H' λy4 H2=>tb { D with nx:=N,ct:=N,bk:=D.nx } y4 H2):=by
 refine⟨λi m σ H=>m=xs.length-i∧i≤xs.length∧Pv i σ H,⟨xs.length,by simp,lD _,h0⟩,?_⟩;rintro i m σ H ⟨rfl,hi,p⟩;have q:=hl i σ H hi p
 by_cases x9:i<xs.length
 ·refine .inr ⟨⟨xs,xs[i],q,by simp[x9]⟩,Pv (i+1),λx8 H' p'=>⟨xs.length-(i+1),by lia,rfl,x9,p'⟩,λx H' y=>?_⟩;obtain⟨e,y⟩:=y;subst e;exact hs i x σ _ (y xs q) p
 ·have e:i=xs.length:=by lia
  subst e;exact .inl ⟨⟨xs,q,oG _⟩,hd σ H p⟩
theorem Dx{lo:Int}(Pv:Nat→St→Hp→Prop)(h0:Pv 0 σ H)
  (hs:∀i σ H,i<n→Pv i σ H→g (.int (lo+i)) σ H λy4 H2=>tb { D with nx:=Pv (i+1),ct:=Pv (i+1),bk:=D.nx } y4 H2) (hd:∀σ H,Pv n σ H→D.nx σ H) :
  ∃W:Nat→Nat→St→Hp→Prop,(∃m,W 0 m σ H)∧∀i m σ H,W i m σ H→
   ((Itr lo n).stop i H∧D.nx σ H)∨((Itr lo n).go i H∧∃N:St→Hp→Prop,(∀x8 H',N x8 H'→∃m',m'<m∧W (i+1) m' x8 H')∧∀x H',(Itr lo n).yld i H x H'→g x σ H' λy4 H2=>tb { D with nx:=N,ct:=N,bk:=D.nx } y4 H2):=by
 refine⟨λi m σ H=>m=n-i∧i≤n∧Pv i σ H,⟨n,by simp,lD _,h0⟩,?_⟩;rintro i m σ H ⟨rfl,hi,p⟩
 by_cases x9:i<n
 ·refine .inr ⟨x9,Pv (i+1),λx8 H' p'=>⟨n-(i+1),by lia,rfl,x9,p'⟩,λx H' y=>?_⟩;obtain⟨e,y⟩:=y;subst e y;exact hs i σ _ x9 p
 ·have e:i=n:=by lia
  subst e;exact .inl ⟨oG _,hd σ H p⟩
abbrev R2:=V→V→Hp→VK→Prop
def OpR(X:Cx)(f:RG)(r:R2):Prop:=
 ∀(pins:US) (s:Shared) (σ:St) (H:Hp) (x y:V) (v u:Value) (Q:VK),Inv X pins σ H s→RelV x v→RelV y u→r x y H Q→
  wpAny (model X.prog X.w) X.A (f v u) (EP X pins σ Q) X.xe s
def X4(X:Cx)(f:Value)(r:List V→Hp→VK→Prop):Prop:=
 ∀(pins:US) (s:Shared) (σ:St) (H:Hp) (xs:List V) (us:UX) (Q:VK),Inv X pins σ H s→Vals xs us→r xs H Q→
  wpAny (model X.prog X.w) X.A (call f us) (EP X pins σ Q) X.xe s
def TruR(X:Cx)(r:V→Hp→(Bool→Hp→Prop)→Prop):Prop:=
 ∀(pins:US) (s:Shared) (σ:St) (H:Hp) (x:V) (v:Value) (Q:Bool→Hp→Prop),Inv X pins σ H s→RelV x v→r x H Q→
  wpAny (model X.prog X.w) X.A (truthy v) (TP X pins σ Q) X.xe s
def tOp(r:R2)(ta tb:TE):TE:=λσ H Q=>ta σ H λx H1=>tb σ H1 λy H2=>r x y H2 Q
inductive rII(C:Int→Int→Prop)(g:Int→Int→V)(x:V)(y:V)(H:Hp)(Q:VK):Prop
 |mk(i j:_)(h1:x=.int i)(h2:y=.int j)(h3:C i j)(h4:Q (g i j) H):rII C g x y H Q
def rI(C:Int→Int→Prop)(g:Int→Int→V):R2:=λx y H Q=>rII C g x y H Q
inductive Zvu(g:Int→Int→V)(x:V)(y:V)(H:Hp)(Q:VK):Prop
 |mk(i j:_)(h1:x=.int i)(h2:y=.int j)(h3:Q (g i j) H):Zvu g x y H Q
def rI0(g:Int→Int→V):R2:=λx y H Q=>Zvu g x y H Q
section
variable {X:Cx}{a b c:Expr}{ta tb tc:TE}{pos:Pos}
theorem Zuo(ha:PE X a ta)(hb:PE X b tb){R:V→V→Hp→Prop}(I:Inv X pins σ H s)
  (h:ta σ H λx H1=>tb σ H1 λy H2=>R x y H2) {f:RG}
  (hf:∀v u s2 x y H2,Inv X pins σ H2 s2→RelV x v→RelV y u→R x y H2→wpAny (model X.prog X.w) X.A (f v u) Q X.xe s2) :
  wpAny (model X.prog X.w) X.A (eval a X.env) (λv x6=>wpAny (model X.prog X.w) X.A (eval b X.env) (λu k7=>wpAny (model X.prog X.w) X.A (f v u) Q X.xe k7) X.xe x6) X.xe s:=by
 refine thn (ha pins s σ H _ I h) λv s1 ⟨x,H1,I1,r1,q1⟩=>?_;refine thn (hb pins s1 σ H1 _ I1 q1) λu s2 ⟨y,H2,I2,r2,q2⟩=>?_;exact hf v u s2 x y H2 I2 r1 r2 q2
theorem Yd{op:Operator}(ho:OpR X (binaryOp op) r)(ha:PE X a ta)(hb:PE X b tb):PE X (.BinOp a op b pos) (tOp r ta tb):=by
 intro pins s σ H Q I h;exact wpAny_BinOp (Zuo ha hb I h λv u s2 x y H2 I2 rx ry q=>ho pins s2 σ H2 x y v u Q I2 rx ry q)
theorem opI{f:RG}{C:Int→Int→Prop}{g:Int→Int→Int}
  (rule:∀(i j:Int) (t u:Tok) (s:Shared) (Q:UQ) (E:UQ),C i j→Q (.int (g i j) s.toks) { s with toks:=s.toks+1 }→wpAny (model X.prog X.w) X.A (f (.int i t) (.int j u)) Q E s) :
  OpR X f (rI C λi j=>.int (g i j)):=by
 intro pins s σ H x y v u Q I rx ry h;obtain⟨i,j,rfl,rfl,hc,q⟩:=h;obtain⟨t,rfl⟩:=rx;obtain⟨t',rfl⟩:=ry;exact rule i j t t' s _ _ hc ⟨.int (g i j),H,I.tok _,⟨_,rfl⟩,q⟩
theorem Zv4{f:RG}{g:Int→Int→Int}
  (rule:∀(i j:Int) (t u:Tok) (s:Shared) (Q:UQ) (E:UQ),Q (.int (g i j) s.toks) { s with toks:=s.toks+1 }→wpAny (model X.prog X.w) X.A (f (.int i t) (.int j u)) Q E s) :
  OpR X f (rI0 λi j=>.int (g i j)):=by
 intro pins s σ H x y v u Q I rx ry h;obtain⟨i,j,rfl,rfl,q⟩:=h;obtain⟨t,rfl⟩:=rx;obtain⟨t',rfl⟩:=ry;exact rule i j t t' s _ _ ⟨.int (g i j),H,I.tok _,⟨_,rfl⟩,q⟩
theorem Zpa{f:RG}{g:Int→Int→Bool}
  (rule:∀(i j:Int) (t u:Tok) (s:Shared) (Q:UQ) (E:UQ),Q (.bool (g i j)) s→wpAny (model X.prog X.w) X.A (f (.int i t) (.int j u)) Q E s) :
  OpR X f (rI0 λi j=>.bl (g i j)):=by
 intro pins s σ H x y v u Q I rx ry h;obtain⟨i,j,rfl,rfl,q⟩:=h;obtain⟨t,rfl⟩:=rx;obtain⟨t',rfl⟩:=ry;exact rule i j t t' s _ _ ⟨.bl (g i j),H,I,rfl,q⟩
def CDiv(i j:Int):Prop:=0<j∧j<1073741824
def CPow(i j:Int):Prop:=0≤j∧j≤1000000∧i.natAbs<2 ^ 64
def Zux(i j:Int):Prop:=(-(2 ^ 64)<i∧i<2 ^ 64)∨(-(2 ^ 64)<j∧j<2 ^ 64)
theorem Zux.ok{i j:Int}(h:Zux i j):IntMulOk i j:=by
 rcases h with ⟨h1,h2⟩|⟨h1,h2⟩
 ·exact .of_left (intBits_le_64 h1 h2)
 ·exact .of_right (intBits_le_64 h1 h2)
theorem Ud:OpR X (binaryOp .Add) (rI0 λi j=>.int (i+j)):=Zv4 λ_ _ _ _ _ _ _ q=>add_int q
theorem Sg:OpR X (binaryOp .Sub) (rI0 λi j=>.int (i-j)):=Zv4 λ_ _ _ _ _ _ _ q=>sub_int q
theorem Zd0:OpR X (binaryOp .Mult) (rI Zux λi j=>.int (i*j)):=opI λ_ _ _ _ _ _ _ hc q=>mul_int q hc.ok
theorem Bc:OpR X (binaryOp .FloorDiv) (rI CDiv λi j=>.int (i/j)):=opI λi j _ _ _ _ _ hc q=>by
 have h1:(0:Int)<j:=hc.1;have h2:j<1073741824:=hc.2;exact floordiv_int (by lia) (by rw[Int.fdiv_eq_ediv_of_nonneg i (by lia)];exact q) (.inl (PyProof.noPylong_small (by lia)))
theorem Nu:OpR X (binaryOp .Mod) (rI (λ_ j=>0<j) λi j=>.int (i%j)):=opI λi j _ _ _ _ _ hc q=>by
 have h1:(0:Int)<j:=hc;exact mod_int' (by lia) (by rw[Int.fmod_eq_emod_of_nonneg i (by lia)];exact q)
theorem Zs6:OpR X (binaryOp .Pow) (rI CPow λi j=>.int (i ^ j.toNat)):=opI λ_ _ _ _ _ _ _ hc q=>pow_int_small hc.1 hc.2.1 hc.2.2 q
end
def Zdl:V→V→Bool
 |.non,.non=>true|.non,.int _=>true|.int _,.non=>true|.non,.bl _=>true|.bl _,.non=>true|.non,.str _=>true|.str _,.non=>true
 |.int _,.int _=>true|.bl _,.bl _=>true|.str _,.str _=>true|.byt _,.byt _=>true
 |.int _,.str _=>true|.str _,.int _=>true|.bl _,.str _=>true|.str _,.bl _=>true
 |_,_=>false
def rEq:R2:=λx y H Q=>Zdl x y=true∧Q (.bl (decide (x=y))) H
def rNe:R2:=λx y H Q=>Zdl x y=true∧Q (.bl (!decide (x=y))) H
theorem Zhn{i j:Int}:decide (V.int i=V.int j)=(i==j):=by
 rw[bW];simp
theorem Znt{i j:Bool}:decide (V.bl i=V.bl j)=(i==j):=by
 rw[bW];simp
theorem Zhm{i j:Str}:decide (V.str i=V.str j)=(i==j):=by
 rw[bW];simp
theorem Zho{i j:Array UInt8}:decide (V.byt i=V.byt j)=(i.toList==j.toList):=by
 rw[bW];cases i;cases j;simp
section
variable {X:Cx}{a b c:Expr}{ta tb tc:TE}{pos:Pos}
theorem Yc{Q:VK}{k k':Bool}(I:Inv X pins σ H s)(q:Q (.bl k) H)(e:k=k'):EP X pins σ Q (.bool k') s:=by
 subst e;exact⟨.bl k,H,I,rfl,q⟩
theorem Vs:OpR X (compareOp .Eq) rEq:=by
 intro pins s σ H x y v u Q I rx ry h;obtain⟨hs,q⟩:=h
 cases x with
 |non=>
  cases rx
  cases y with
  |non=>cases ry;exact PySem.EqNone.eq_none_none (Yc I q (by simp))
  |bl j=>cases ry;exact PySem.EqNone.eq_none_bool (Yc I q (by simp))
  |int j=>obtain⟨t',rfl⟩:=ry;exact PySem.EqNone.eq_none_int (Yc I q (by simp))
  |str j=>obtain⟨t',rfl⟩:=ry;exact PySem.EqNone.eq_none_str (Yc I q (by simp))
  |_=>exact absurd (show false=true from hs) lA
 |bl i=>
  cases rx
  cases y with
  |non=>cases ry;exact PySem.EqNone.eq_bool_none (Yc I q (by simp))
  |bl j=>cases ry;exact eq_bool (Yc I q Znt)
  |str j=>obtain⟨t',rfl⟩:=ry;exact PySem.EqMixed.eq_bool_str (Yc I q (by simp))
  |_=>exact absurd (show false=true from hs) lA
 |int i=>
  obtain⟨t,rfl⟩:=rx
  cases y with
  |non=>cases ry;exact PySem.EqNone.eq_int_none (Yc I q (by simp))
  |int j=>obtain⟨t',rfl⟩:=ry;exact eq_int (Yc I q Zhn)
  |str j=>obtain⟨t',rfl⟩:=ry;exact PySem.EqMixed.eq_int_str (Yc I q (by simp))
  |_=>exact absurd (show false=true from hs) lA
 |str i=>
  obtain⟨t,rfl⟩:=rx
  cases y with
  |non=>cases ry;exact PySem.EqNone.eq_str_none (Yc I q (by simp))
  |bl j=>cases ry;exact PySem.EqMixed.eq_str_bool (Yc I q (by simp))
  |int j=>obtain⟨t',rfl⟩:=ry;exact PySem.EqMixed.eq_str_int (Yc I q (by simp))
  |str j=>obtain⟨t',rfl⟩:=ry;exact eq_str (Yc I q Zhm)
  |_=>exact absurd (show false=true from hs) lA
 |byt i=>
  obtain⟨t,rfl⟩:=rx
  cases y with
  |byt j=>obtain⟨t',rfl⟩:=ry;exact W.eq_bytes (Yc I q Zho)
  |_=>exact absurd (show false=true from hs) lA
 |_=>cases y<;>exact absurd (show false=true from hs) lA
theorem Qw:OpR X (compareOp .NotEq) rNe:=by
 intro pins s σ H x y v u Q I rx ry h;obtain⟨hs,q⟩:=h
 cases x with
 |non=>
  cases rx
  cases y with
  |non=>cases ry;exact PySem.EqNone.ne_none_none (Yc I q (by simp))
  |bl j=>cases ry;exact PySem.EqNone.ne_none_bool (Yc I q (by simp))
  |int j=>obtain⟨t',rfl⟩:=ry;exact PySem.EqNone.ne_none_int (Yc I q (by simp))
  |str j=>obtain⟨t',rfl⟩:=ry;exact PySem.EqNone.ne_none_str (Yc I q (by simp))
  |_=>exact absurd (show false=true from hs) lA
 |bl i=>
  cases rx
  cases y with
  |non=>cases ry;exact PySem.EqNone.ne_bool_none (Yc I q (by simp))
  |bl j=>cases ry;exact ne_bool (Yc I q (congrArg not Znt))
  |str j=>obtain⟨t',rfl⟩:=ry;exact PySem.EqMixed.ne_bool_str (Yc I q (by simp))
  |_=>exact absurd (show false=true from hs) lA
 |int i=>
  obtain⟨t,rfl⟩:=rx
  cases y with
  |non=>cases ry;exact PySem.EqNone.ne_int_none (Yc I q (by simp))
  |int j=>obtain⟨t',rfl⟩:=ry;exact ne_int (Yc I q (congrArg not Zhn))
  |str j=>obtain⟨t',rfl⟩:=ry;exact PySem.EqMixed.ne_int_str (Yc I q (by simp))
  |_=>exact absurd (show false=true from hs) lA
 |str i=>
  obtain⟨t,rfl⟩:=rx
  cases y with
  |non=>cases ry;exact PySem.EqNone.ne_str_none (Yc I q (by simp))
  |bl j=>cases ry;exact PySem.EqMixed.ne_str_bool (Yc I q (by simp))
  |int j=>obtain⟨t',rfl⟩:=ry;exact PySem.EqMixed.ne_str_int (Yc I q (by simp))
  |str j=>obtain⟨t',rfl⟩:=ry;exact ne_str (Yc I q (congrArg not Zhm))
  |_=>exact absurd (show false=true from hs) lA
 |byt i=>
  obtain⟨t,rfl⟩:=rx
  cases y with
  |byt j=>obtain⟨t',rfl⟩:=ry;exact W.ne_bytes (Yc I q (congrArg not Zho))
  |_=>exact absurd (show false=true from hs) lA
 |_=>cases y<;>exact absurd (show false=true from hs) lA
theorem Zlq:OpR X (compareOp .Lt) (rI0 λi j=>.bl (decide (i<j))):=Zpa λ_ _ _ _ _ _ _ q=>lt_int q
theorem Zrq:OpR X (compareOp .LtE) (rI0 λi j=>.bl (decide (i≤j))):=Zpa λ_ _ _ _ _ _ _ q=>le_int q
theorem Zrr:OpR X (compareOp .Gt) (rI0 λi j=>.bl (decide (j<i))):=Zpa λ_ _ _ _ _ _ _ q=>gt_int q
theorem Zv3:OpR X (compareOp .GtE) (rI0 λi j=>.bl (decide (j≤i))):=Zpa λ_ _ _ _ _ _ _ q=>ge_int q
theorem Zig:OpR X (compareOp .Lt) (λx y H Q=>∃i j,x=.str i∧y=.str j∧Q (.bl (decide (i.cps.toList<j.cps.toList))) H):=by
 intro pins s σ H x y v u Q I rx ry h;obtain⟨i,j,rfl,rfl,q⟩:=h;obtain⟨t,rfl⟩:=rx;obtain⟨t',rfl⟩:=ry;exact lt_str (Yc I q rfl)
theorem Zo8:OpR X (compareOp .IsNot) (λx y H Q=>y=.non∧Q (.bl (!decide (x=.non))) H):=by
 intro pins s σ H x y v u Q I rx ry h;obtain⟨rfl,q⟩:=h;cases ry;refine isnot_none_gen (Yc I q ?_)
 cases x<;>first
  | (cases rx;rfl)
  | (obtain⟨t,rfl⟩:=rx;rfl)
theorem Z5(b:Expr)(h:op≠.In:=by decide)(h2:op≠.NotIn:=by decide):behindInMarks op b=false:=by
 have e1:(op==CmpOp.In)=false:=by cases op<;>first|rfl|exact absurd rfl h
 have e2:(op==CmpOp.NotIn)=false:=by cases op<;>first|rfl|exact absurd rfl h2
 cases b<;>simp[behindInMarks,e1,e2]
theorem Wf(ho:OpR X (compareOp op) r)(ha:PE X a ta)(hb:PE X b tb)(hm:behindInMarks op b=false):PE X (.Compare a [op] [b] pos) (tOp r ta tb):=by
 intro pins s σ H Q I h;exact wpAny_Compare1 (Zuo ha hb I h λv u s2 x y H2 I2 rx ry q=>ho pins s2 σ H2 x y v u Q I2 rx ry q) hm
inductive Zj6(Q:Bool→Hp→Prop)(x:V)(H':Hp):Prop
 |mk(k:_)(h1:x=.bl k)(h2:Q k H'):Zj6 Q x H'
def Zu0(t:TE):TT:=λσ H Q=>t σ H λx H'=>Zj6 Q x H'
theorem Zz(ho:OpR X (compareOp op) r)(ha:PE X a ta)(hb:PE X b tb)(hm:behindInMarks op b=false):PT X (.Compare a [op] [b] pos) (Zu0 (tOp r ta tb)):=by
 intro pins s σ H Q I h
 refine wpAny_isTrue_Compare1 (thn (ha pins s σ H _ I h) λv s1 ⟨x,H1,I1,r1,q1⟩=>thn (hb pins s1 σ H1 _ I1 q1) λu s2 ⟨y,H2,I2,r2,q2⟩=>
  thn (ho pins s2 σ H2 x y v u _ I2 r1 r2 q2) λc s3 ⟨z,H3,I3,r3,k,e,q3⟩=>?_) hm
 subst e;cases r3;exact aM ⟨H3,I3,q3⟩
def Zda(r r':R2)(ta tb tc:TE):TE:=λσ H Q=>ta σ H λx H1=>tb σ H1 λy H2=>r x y H2 λz H3=>∃k,z=.bl k∧
 (if k=true then tc σ H3 λw' H4=>r' y w' H4 Q else Q (.bl false) H3)
theorem Hq{cC:CmpOp}{r':R2}(ho:OpR X (compareOp op) r)(b0:OpR X (compareOp cC) r')(ha:PE X a ta)(hb:PE X b tb)(hc:PE X c tc)
  (hm:lastMarks [op,cC] [b,c]=false:=by with_unfolding_all rfl):PE X (.Compare a [op,cC] [b,c] pos) (Zda r r' ta tb tc):=by
 intro pins s σ H Q I h
 refine Compare_chain (thn (ha pins s σ H _ I h) λv s1 ⟨x,H1,I1,r1,q1⟩=>chain_link (thn (hb pins s1 σ H1 _ I1 q1) λu s2 ⟨y,H2,I2,r2,q2⟩=>
  thn (ho pins s2 σ H2 x y v u _ I2 r1 r2 q2) λd s3 ⟨z,H3,I3,r3,k,e,q3⟩=>?_)) hm
 subst e;cases r3;refine aM ?_
 cases k with
 |false=>exact ite_ff ⟨.bl false,H3,I3,rfl,q3⟩
 |true=>exact ite_tt (chain_last (thn (hc pins s3 σ H3 _ I3 q3) λw' s4 ⟨z',H4,I4,r4,q4⟩=>b0 pins s4 σ H4 y z' u w' Q I4 r2 r4 q4))
def Zob(K:W.Frag)(x:V)(H:Hp)(k:Bool):Prop:=
 match x with
 |.non=>k=false
 |.bl b=>k=b
 |.int i=>k=(i != 0)
 |.str y=>y.length≤sizeLine∧k=((y.length:Int) != 0)
 |.byt y=>y.size≤sizeLine∧k=((y.size:Int) != 0)
 |.ref p=>(∃xs,SqL K H p xs∧k = !xs.isEmpty)∨(∃xs,SqT K H p xs∧k = !xs.isEmpty)∨∃kvs,H p=some (.dK kvs)∧k = !kvs.isEmpty
 |_=>False
theorem Zej{κ:Type}{kvs:List (κ×V)}{vs:List (κ×Value)}(r:KV kvs vs):(!vs.isEmpty) = !kvs.isEmpty:=by
 cases r<;>rfl
theorem Gj(r:Vals xs its):(!its.toArray.isEmpty) = !xs.isEmpty:=by
 cases r<;>simp
theorem Vx:(sizeLine:Nat)<2 ^ 63:=by rw[sizeLine_eq];decide
theorem Zj1:TruR X (λx H Q=>∃k,Zob X.K x H k∧Q k H):=by
 intro pins s σ H x v Q I rx h;obtain⟨k,e,q⟩:=h;have hl:=Vx;have hs:sizeLine=16777216:=sizeLine_eq
 cases x with
 |non=>
  cases rx;have e':k=false:=e;subst e';exact truthy_none ⟨H,I,q⟩
 |bl b=>
  cases rx;have e':k=b:=e;subst e';exact aM ⟨H,I,q⟩
 |int i=>
  obtain⟨t,rfl⟩:=rx;have e':k=(i != 0):=e;subst e';exact PySem.P.truthy_int ⟨H,I,q⟩
 |str y=>
  obtain⟨t,rfl⟩:=rx;obtain⟨hy,e'⟩:y.length≤sizeLine∧k=((y.length:Int) != 0):=e;subst e';exact PySem.P.truthy_str (by lia) ⟨H,I.tok _,q⟩
 |byt y=>
  obtain⟨t,rfl⟩:=rx;obtain⟨hy,e'⟩:y.size≤sizeLine∧k=((y.size:Int) != 0):=e;subst e';exact W.truthy_bytes (by lia) ⟨H,I.tok _,q⟩
 |ref p=>
  cases rx;have e':(∃xs,SqL X.K H p xs∧k = !xs.isEmpty)∨(∃xs,SqT X.K H p xs∧k = !xs.isEmpty)∨∃kvs,H p=some (.dK kvs)∧k = !kvs.isEmpty:=e
  rcases e' with ⟨xs,hx,e'⟩|⟨xs,hx,e'⟩|⟨kvs,hx,e'⟩
  ·subst e';obtain⟨its,r,pl,hz⟩:=I.list hx;have hlen:=r.length;exact wpAny_truthy_list pl.isList (by simp only[oO];lia) ⟨H,I.tok _,by rw[Gj r];exact q⟩
  ·subst e';obtain⟨its,r,pl,hz⟩:=I.tuple hx;have hlen:=r.length;exact truthy_tuple pl (by simp only[oO];lia) ⟨H,I.tok _,by rw[Gj r];exact q⟩
  ·subst e';obtain⟨hz,hS,vs,r,m⟩:kvs.length≤sizeLine∧(p==sysModules)=false∧∃vs,KV kvs vs∧s.heap.DictOf (Z8 X.prog X.w) p vs:=I.hok p _ hx;have hlen:kvs.length=vs.length:=YQ r;exact wpAny_truthy_dict hS m (by lia) ⟨H,I.tok _,by rw[Zej r];exact q⟩
 |_=>exact(show False from e).elim
theorem Zk8(ha:PE X a ta)(he:∀whole,isTrue a X.env whole=(do let v ←whole;standAt a.pos;holding [v] (truthy v))):
  PT X a (λσ H Q=>ta σ H λx H'=>∃k,Zob X.K x H' k∧Q k H'):=by
 intro pins s σ H Q I h;exact isTrue_plain (thn (ha pins s σ H _ I h) λv s1 ⟨x,H1,I1,r1,q1⟩=>Zj1 pins s1 σ H1 x v Q I1 r1 q1) (he _)
theorem Rg:OpR X (binaryOp .Add) (λx y H Q=>∃i j,x=.str i∧y=.str j∧i.length+j.length≤sizeLine∧Q (.str (i++j)) H):=by
 intro pins s σ H x y v u Q I rx ry h;obtain⟨i,j,rfl,rfl,hz,q⟩:=h;obtain⟨t,rfl⟩:=rx;obtain⟨t',rfl⟩:=ry;exact add_str (λt' tk=>⟨.str (i++j),H,I.tok _,⟨_,rfl⟩,q⟩) hz
theorem vals1{x:V}(r:Vals [x] us):∃u,us=[u]∧RelV x u:=by
 cases r with
 |cons r1 r2=>cases r2;exact⟨_,rfl,r1⟩
theorem vals2{x:V}(r:Vals [x,y] us):∃u w',us=[u,w']∧RelV x u∧RelV y w':=by
 cases r with
 |cons r1 r2=>
  cases r2 with
  |cons r3 r4=>cases r4;exact⟨_,_,rfl,r1,r3⟩
theorem Zjc(hc:X.calm=true):X4 X (.builtin "max") (λxs H Q=>∃i j,xs=[.int i,.int j]∧Q (.int (if j>i then j else i)) H):=by
 intro pins s σ H xs us Q I r h;obtain⟨i,j,rfl,q⟩:=h;obtain⟨u,w',rfl,⟨t,rfl⟩,⟨t',rfl⟩⟩:=vals2 r;refine max_two_ints (I.ok.hd hc) λh' tk k=>⟨_,H,I.kept k,?_,q⟩
 by_cases hj:j>i
 ·rw[if_pos hj,if_pos hj];exact⟨_,rfl⟩
 ·rw[if_neg hj,if_neg hj];exact⟨_,rfl⟩
theorem Al:X4 X (.type "str") (λxs H Q=>∃i,xs=[.int i]∧i.natAbs.log2<1920∧Q (.str (toString i)) H):=by
 intro pins s σ H xs us Q I r h;obtain⟨i,rfl,hz,q⟩:=h;obtain⟨u,rfl,t,rfl⟩:=vals1 r;exact PySem.P.str_of_int hz ⟨.str _,H,I.tok _,⟨_,rfl⟩,q⟩
end
section
variable {prog:Program}{w:World}{A:Around}{E:UQ}{s:Shared}{K:W.Frag}{x dx C f:Addr}{mA:UW}{name:Str}{v:Value}
end
theorem Kp.some_of{v:V}{o:Option Value}(r:Kp (some v) o):∃u,o=some u∧RelV v u:=by
 cases o with
 |none=>exact(show False from r).elim
 |some u=>exact⟨u,rfl,r⟩
section
variable {P:Program}{w:World}{H H':Hp}{h h':Heap}{a C dx:Addr}{fs fs':List (Str×V)}
end
section
variable {X:Cx}{pins:US}{σ:St}{H:Hp}{s:Shared}{a C dx:Addr}{fs:List (Str×V)}{f:Str}{v:V}{A:Around}{E:UQ}
end
section
variable {X:Cx}{o e value:Expr}{f:Str}{pos pos' tpos:Pos}{ta tv:TE}
end
section
variable {X:Cx}{pins:US}{σ:St}{H:Hp}{s:Shared}{A:Around}{E:UQ}{Q:UQ}{c:Value}{b:Bool}
end
structure Vn(k:Nat)(A:Around):Prop where
 hd:A.handled=none
 dp:A.depth+3*k+5<recursionLimit
 un:A.units+16*k+200<cLine
theorem Vn.mono{k:Nat}(r:Vn k A)(h:j≤k):Vn j A:=⟨r.hd,by have:=r.dp;lia,by have:=r.un;lia⟩
theorem Vn.deeper{k:Nat}(r:Vn (k+1) A)(env:Env):Vn k (A.deeper env):=
 ⟨r.hd,by have:=r.dp;show A.depth+1+3*k+5<_;lia,by have:=r.un;show A.units+3+16*k+200<_;lia⟩
theorem Vn.depth{k:Nat}(r:Vn k A):A.depth<recursionLimit:=by have:=r.dp;lia
theorem Vn.units{k:Nat}(r:Vn k A):A.units+64<cLine:=by have:=r.un;lia
def Zc9:TA:=λ_ H Q=>Q [] H
def Mc(ta:TE)(tr:TA):TA:=λσ H Q=>ta σ H λx H1=>tr σ H1 λxs H2=>Q (x :: xs) H2
section
variable {X:Cx}{e:Expr}{es:SA}{te:TE}{t:TA}{pos:Pos}
theorem Zb:PA X [] Zc9:=λ_ _ _ _ H Q I h=>ZW ⟨[],H,I,.nil,h⟩
theorem Za(ha:PE X e te)(hr:PA X es t)(hs:starEach (e :: es) X.env=(false,eval e X.env) :: starEach es X.env:=by rfl):PA X (e :: es) (Mc te t):=by
 intro pos pins s σ H Q I h;rw[hs];show wpAny _ _ (spliced ((false,eval e X.env) :: backTo pos (starEach es X.env))) _ _ s;refine aG (thn (ha pins s σ H _ I h) λu s1 ⟨x,H1,I1,r1,q1⟩=>?_);exact thn (hr pos pins s1 σ H1 _ I1 q1) λus s2 ⟨xs,H2,I2,r2,q2⟩=>⟨x :: xs,H2,I2,.cons r1 r2,q2⟩
def Zuz(t:TA):TE:=λσ H Q=>t σ H λxs H1=>xs.length≤sizeLine∧∀p,H1 p=none→Q (.ref p) (upd H1 p (.tup xs))
def tLst(t:TA):TE:=λσ H Q=>t σ H λxs H1=>xs.length≤sizeLine∧∀p,H1 p=none→Q (.ref p) (upd H1 p (.lst xs))
theorem Wa{x1}(h:PA X es t):PE X (.Tuple es x1 pos) (Zuz t):=by
 intro pins s σ H Q I hq;refine wpAny_Tuple_spliced (thn (h pos pins s σ H _ I hq) λus s1 ⟨xs,H1,I1,r,z,q⟩=>⟨by rw[←r.length];exact z,?_⟩);have hf:H1 s1.heap.objs.size=none:=I1.hok.fresh (oG _);refine⟨.ref s1.heap.objs.size,upd H1 s1.heap.objs.size (.tup xs),I1.laid (t':=s1.toks) (λb u e=>oE _ e) (oG _) ?_,rfl,q _ hf⟩;exact⟨z,us,r,⟨_,oS _ rfl,rfl,_,rfl⟩⟩
theorem Yw(h:PA X es t):PE X (.List es pos) (tLst t):=by
 intro pins s σ H Q I hq;refine wpAny_List_spliced (thn (h pos pins s σ H _ I hq) λus s1 ⟨xs,H1,I1,r,z,q⟩=>⟨by rw[←r.length];exact z,?_⟩);have hf:H1 s1.heap.objs.size=none:=I1.hok.fresh (oG _);refine⟨.ref s1.heap.objs.size,upd H1 s1.heap.objs.size (.lst xs),I1.laid (t':=s1.toks) (λb u e=>oE _ e) (oG _) ?_,rfl,q _ hf⟩;exact⟨z,us,0,r,oS _ rfl⟩
end
abbrev Sp:=List V→Hp→VK→XK→Prop
abbrev CXT:=List Env→Hp→Shared→XK→Value→Shared→Prop
structure Zfh(P:Program)(w:World)(K:W.Frag)(mg:UW)(base:Heap)(A:Around)(outer:List Env)(s:Shared)(H:Hp):Prop where
 frames:A.frames=some outer
 mod:Mod K mg base
 bs:∀b o,base.get? b=some o→s.heap.get? b=some o∧H b=none
 bsz:base.objs.size≤s.heap.objs.size
 Kl:s.heap.FunFrames base outer
 frf:∀b∈frs outer,H b=none
 hok:HOk P w H s.heap
 bare:AllBare s.gens
def CE(outer:List Env)(P:Program)(w:World)(H:Hp)(s:Shared)(Q:VK)(u:Value)(s':Shared):Prop:=
 ∃v H',s'.os=s.os∧AllBare s'.gens∧Un (frs outer) [] H H' s.heap s'.heap∧HOk P w H' s'.heap∧RelV v u∧Q v H'
def CR(CX:CXT)(outer:List Env)(P:Program)(w:World)(H:Hp)(s:Shared)(Q:VK)(E:XK)(r:Result)(s':Shared):Prop:=
 match r with
 |.ok (.ret u)=>CE outer P w H s Q u s'
 |.ok _=>False
 |.error e=>CX outer H s E e s'
structure Ya(P:Program)(w:World)(K:W.Frag)(mg:UW)(base:Heap)(CX:CXT)(k:Nat)(f:Addr)(fd:FuncData)(ps:List Str)(sp:Sp):Prop where
 len:∀vs H Q E,sp vs H Q E→vs.length=ps.length
 run:∀(A:Around) (outer:List Env) (s:Shared) (H:Hp) (args:Args) (us:UX) (vs:List V) (Q:VK) (E:XK),Vn k A→Zfh P w K mg base A outer s H→BindsTo s fd args (ps.zip us)→Vals vs us→sp vs H Q E→
  codeAny (model P w) A (.call (.ref f) args) (CR CX outer P w H s Q E) s
theorem Ya.imp{k:Nat}{cS:Sp}(F:Ya P w K mg base CX k f fd ps sp)
  (h:∀vs H Q E,cS vs H Q E→sp vs H Q E):Ya P w K mg base CX k f fd ps cS:=
 ⟨λvs H Q E q=>F.len vs H Q E (h _ _ _ _ q),λA outer s H args us vs Q E hr he hb hv hs=>F.run A outer s H args us vs Q E hr he hb hv (h _ _ _ _ hs)⟩
section
variable {X:Cx}{pins:US}{σ:St}{H:Hp}{s s':Shared}
theorem Inv.env0(I:Inv X pins σ H s):Zfh X.prog X.w X.K X.mg X.base X.A X.stack s H:=
 ⟨I.ok.frames,I.ok.mod,I.bs,lI I.ok.bsz I.sz,I.stack,I.Cq,I.hok,I.bare⟩
theorem Inv.after{Q:VK}(I:Inv X pins σ H s)(h:CE X.stack X.prog X.w H s Q u s'):EP X pins σ Q u s':=by
 obtain⟨v,H',os,bare,un,hok,r,q⟩:=h;obtain⟨hh,g,d,t,cD⟩:=s';obtain rfl:cD=s.os:=os;exact⟨v,H',I.call (h':=hh) (g':=g) (d':=d) (t':=t) (ch:=[]) un hok bare (λb z=>absurd z (by simp)),r,q⟩
end
def Zka(sp:Sp)(dvs:List V)(E:XK)(t:TA):TE:=λσ H Q=>t σ H λvs H1=>sp (vs++dvs) H1 Q E
def Binds(K:W.Frag)(fd:FuncData)(ps:List Str)(ds:UX):Prop:=
 ∀(s:Shared) (us:UX),K.In s.heap→(us++ds).length=ps.length→BindsTo s fd ⟨us,[]⟩ (ps.zip (us++ds))
theorem Binds.all(h:∀us:List Value,us.length=ps.length→bindArgs fd ⟨us,[]⟩=pure (ps.zip us)):Binds K fd ps []:=λs us _ hl=>by
 rw[aB]at hl ⊢;exact .of_eq (h us hl)
def Passes(CX:CXT)(X:Cx)(E:XK):Prop:=∀(pins:US) (σ:St) (H:Hp) (s:Shared) (e:Value) (s':Shared),Inv X pins σ H s→CX X.stack H s E e s'→X.xe e s'
section
variable {X:Cx}{CX:CXT}{k:Nat}{f C:Addr}{fd:FuncData}{ps:List Str}{sp:Sp}{dvs:List V}{ds:UX}{E:XK}{x m:Str}{p pos apos:Pos}{e o:Expr}{es:SA}{ta:TE}{t:TA}
theorem Zku{Q:VK}{vs:List V}(F:Ya X.prog X.w X.K X.mg X.base CX k f fd ps sp)(hr:Vn k X.A)(hb:Binds X.K fd ps ds)(hd:Vals dvs ds)(hx:Passes CX X E)
  (I:Inv X pins σ H s) (r:Vals vs us) (h:sp (vs++dvs) H Q E):wpAny (model X.prog X.w) X.A (call (.ref f) us) (EP X pins σ Q) X.xe s:=by
 have r2:Vals (vs++dvs) (us++ds):=r.append hd;have hl:(us++ds).length=ps.length:=by rw[←r2.length];exact F.len _ _ _ _ h
 refine wpAny_call (YY (F.run X.A X.stack s H ⟨us,[]⟩ (us++ds) (vs++dvs) Q E hr I.env0 (hb s us I.kIn hl) r2 h) λr s' hq=>?_)
 cases r with
 |error e=>exact hx pins σ H s e s' I hq
 |ok fl=>
  cases fl with
  |ret u=>exact I.after hq
  |next=>exact False.elim hq
  |brk=>exact False.elim hq
  |cont=>exact False.elim hq
theorem Zo5(F:Ya X.prog X.w X.K X.mg X.base CX k f fd ps sp)(hr:Vn k X.A)(hg:Gl X x)(hm:X.mg x=some (.ref f))(hk:W.keepIn X.K (.ref f)=true)(hb:Binds X.K fd ps ds)(hd:Vals dvs ds)(hx:Passes CX X E)
  (ha:PA X (e :: es) t) (sS:(x==("__debug__" : Str))=false:=by decide) (he:starEach (e :: es) X.env=(false,eval e X.env) :: starEach es X.env:=by rfl) (y0:(backTo pos (starEach es X.env)).any (·.1)=false:=by rfl) :
  PE X (.Call (.Name x p) (e :: es) [] pos) (Zka sp dvs E t):=by
 intro pins s σ H Q I h;refine iI (Br I hg hm ?_ sS);refine W.callWith_K (h₀:=X.base) I.ok.mod.kin hk (thn (ha pos pins s σ H _ I h) λus s1 ⟨vs,H1,I1,r,q⟩=>⟨I1.kIn,?_⟩) he y0;exact Zku F hr hb hd hx I1 r q
end
section
variable {X:Cx}{CX:CXT}{k:Nat}{f C:Addr}{fd:FuncData}{ps ks:List Str}{sp:Sp}{E:XK}{x m:Str}{p pos apos kpos:Pos}{e o:Expr}{es:SA}{kws:List Keyword}{te ta:TE}{t tk:TA}{nm:Option Str}
variable {g:List Value→List Value→List Value}{gV:List V→List V→List V}
end
structure Zt(N P:List Str)(sc:Scope):Prop where
 kind:sc.kind=.function
 co:sc.isCoroutine=false
 gen:sc.isGenerator=false
 nd:N.Nodup
 pre:N.take P.length=P
 par:∀x∈P,sc.names.lookup x=some .local∨sc.names.lookup x=some .cell
 Zta:∀y∈sc.names,y.2≠.free
theorem Cb{kindOf:RP}{x:Str}:∀{binds:List (Str×Value)}{m:UW},(∀v,(x,v)∉binds)→bindL kindOf binds m x=m x
 |[],_,_=>rfl
 | (n,v) :: r,m,h=>by
  unfold bindL;rw[Cb λw hw=>h w (oQ _ hw)]
  split
  ·have:x≠n:=by rintro rfl;exact h v oK
   simp[this]
  ·rfl
theorem Cd{kindOf:RP}{x:Str}:∀{binds:List (Str×Value)}{m:UW},(∀v,(x,v)∉binds)→bindC kindOf binds m x=m x
 |[],_,_=>rfl
 | (n,v) :: r,m,h=>by
  unfold bindC;rw[Cd λw hw=>h w (oQ _ hw)]
  split
  ·rfl
  ·have:x≠n:=by rintro rfl;exact h v oK
   simp[this]
theorem Cc{kindOf:RP}{x:Str}{v:Value}:∀{P:List Str}{vs:UX}{i:Nat}{m:UW},P.Nodup→P[i]?=some x→vs[i]?=some v→kindOf x=some .local→
  bindL kindOf (P.zip vs) m x=some v
 |[],_,_,_,_,h,_,_=>by simp at h
 |_ :: _,[],_,_,_,_,h,_=>by simp at h
 |p :: P,w :: vs,0,m,nd,h1,h2,hk=>by
  simp at h1 h2;subst h1;subst h2;show bindL kindOf ((p,w) :: P.zip vs) m p=_;unfold bindL;rw[Cb λv hv=>(iJ.mp nd).1 (ZM hv).1,if_pos hk];simp
 |p :: P,w :: vs,i+1,m,nd,h1,h2,hk=>by
  show bindL kindOf ((p,w) :: P.zip vs) m x=_;unfold bindL;exact Cc (i:=i) (iJ.mp nd).2 (by simpa using h1) (by simpa using h2) hk
theorem Ce{kindOf:RP}{x:Str}{v:Value}:∀{P:List Str}{vs:UX}{i:Nat}{m:UW},P.Nodup→P[i]?=some x→vs[i]?=some v→kindOf x≠some .local→
  bindC kindOf (P.zip vs) m x=some v
 |[],_,_,_,_,h,_,_=>by simp at h
 |_ :: _,[],_,_,_,_,h,_=>by simp at h
 |p :: P,w :: vs,0,m,nd,h1,h2,hk=>by
  simp at h1 h2;subst h1;subst h2;show bindC kindOf ((p,w) :: P.zip vs) m p=_;unfold bindC;rw[Cd λv hv=>(iJ.mp nd).1 (ZM hv).1,if_neg hk];simp
 |p :: P,w :: vs,i+1,m,nd,h1,h2,hk=>by
  show bindC kindOf ((p,w) :: P.zip vs) m x=_;unfold bindC;exact Ce (i:=i) (iJ.mp nd).2 (by simpa using h1) (by simpa using h2) hk
def start(N:List Str)(vs:List V):St:=vs.map some++List.replicate (N.length-vs.length) none
def Ee(CX:CXT)(P:Program)(w:World)(K:W.Frag)(mg:UW)(base:Heap)(N:List Str)(qual:Str)(scope:Scope)(f:Addr)(cd:Value)(A:Around)(outer:List Env)(s:Shared)(H:Hp)(E:XK):Cx where
 prog:=P
 w:=w
 K:=K
 mg:=mg
 base:=base
 A:=A.deeper (envOfC qual scope s.heap.objs.size f cd)
 N:=N
 s₀:=s
 H₀:=H
 env:=envOfC qual scope s.heap.objs.size f cd
 outer:=outer
 stack:=envOfC qual scope s.heap.objs.size f cd :: outer
 ex:=[]
 calm:=true
 fn:=λ_=>true
 pn:=[]
 xe:=λe s'=>wpAny (model P w) (A.deeper (envOfC qual scope s.heap.objs.size f cd)) (leaving (envOfC qual scope s.heap.objs.size f cd) e) (λ_ vO=>CX outer H s E e vO) (λe' vO=>CX outer H s E e' vO) s'
theorem Zcp{sc:Scope}(h:sc.names.lookup x=some .cell):∃c,(cellsFrom n sc.names []).lookup x=some c:=by
 have q:=W.cellsFrom_some sc.names n [] (.inl h);exact XO.mp q
theorem Ds{cd:Value}{outer:List Env}{s1:Shared}{E:XK}{vs:List V}
  (S:Zt N ps scope) (hd:A.handled=none) (e0:Zfh P w K mg base A outer s H) (hl:vs.length=ps.length) (r:Vals vs us)
  (x:InCallC s s.heap.objs.size (bindL (envOfC qual scope s.heap.objs.size f cd).kindOf (ps.zip us) λ_=>none) (cellsFrom (s.heap.objs.size+1) scope.names []) (bindC (envOfC qual scope s.heap.objs.size f cd).kindOf (ps.zip us) λ_=>none) s1) :
  Inv (Ee CX P w K mg base N qual scope f cd A outer s H E) [] (start N vs) H s1:=by
 have y0:ps.length≤N.length:=by have:=congrArg List.length S.pre;rw[lC]at this;lia
 obtain⟨h1,tk,rfl,hk⟩:=x.done;have eM:∀b:Addr,b∉(Ee CX P w K mg base N qual scope f cd A outer s H E).ex:=λb z=>absurd (show b∈([]:List Addr) from z) (by simp)
 refine⟨⟨e0.mod,S.kind,rfl,rfl,oG _,λy z c h1 h2=>?_,λy hy=>?_,λy c _ h=>?_,λ_=>hd,Around.frames_deeper e0.frames,.inr ⟨rfl,rfl⟩,λb z=>absurd z (eM b),e0.bs,e0.bsz,λb _ _=>eM b,λb z=>absurd z (eM b),e0.Kl,e0.frf⟩,
  rfl,e0.bare,Un.kept hk,⟨_,x.toInCall.ns,λi y v h1 h2 h3=>?_⟩,λy c h=>⟨_,x.cell y c h⟩,e0.hok.fresh (oG _),λy c h=>?_,λp hp=>absurd (show p∈([]:List UT) from hp) (by simp),e0.hok.kept hk,?_⟩
 ·exact name_of_addr x.apart (iK h1) (iK h2)
 ·have hy:scope.names.lookup y=some .cell∨scope.names.lookup y=some .free:=hy
  rcases hy with hy|hy
  ·exact Zcp hy
  ·exact absurd rfl (S.Zta _ (iK hy))
 ·exact ZI (x.above y c (iK h))
 ·have hi:i<vs.length:=by
   unfold start at h2
   by_cases hi:i<vs.length
   ·exact hi
   ·rw[lK (by simpa using hi)]at h2;rw[XX]at h2
    split at h2<;>cases h2
  have ha:vs[i]?=some v:=by
   unfold start at h2;rw[lB (by simpa using hi),oH]at h2
   cases e:vs[i]? with
   |none=>rw[e]at h2;cases h2
   |some a=>rw[e]at h2;cases h2;rfl
  obtain⟨u,hu,rv⟩:=r.get ha
  have hp:ps[i]?=some y:=by
   rw[←S.pre,XQ (by lia)];exact h1
  have jE:ps.Nodup:=by rw[←S.pre];exact S.nd.sublist (List.take_sublist _ _)
  refine⟨u,rv,?_⟩
  rcases S.par y (oR hp) with k|k
  ·exact .inl ⟨k,Cc jE hp hu k⟩
  ·obtain⟨c,e⟩:=Zcp (n:=s.heap.objs.size+1) k;refine .inr ⟨.inl k,c,e,?_⟩;have q:=x.cell y c e;rw[Ce jE hp hu (by show scope.names.lookup y≠_;rw[k];decide)]at q;exact q
 ·exact e0.hok.fresh (ZI (x.above y c (iK h)))
 ·unfold start;show _=N.length;rw[oV,oB,ZN];lia
theorem Zr1{k:Nat}{dV kV cdv:Value}{an:TZ}
  {osl:TN} (lk:K.lookup f=some ⟨oc,od,.func (W.fnOf name qual params body scope dV kV doc pm an cdv ct),osl⟩) (u7:W.codeIn K cdv qual=true) (S:Zt N ps scope)
  (len:∀vs H Q E,sp vs H Q E→vs.length=ps.length)
  (Q8:∀(A:Around) (outer:List Env) (s:Shared) (H:Hp) (vs:List V) (Q:VK) (E:XK),Vn k (A.deeper (envOfC qual scope s.heap.objs.size f cdv))→sp vs H Q E→
   ∃t,PSs (Ee CX P w K mg base N qual scope f cdv A outer s H E) body t∧t { nx:=λ_ H'=>Q .non H',rt:=Q } (start N vs) H) :
  Ya P w K mg base CX (k+1) f (W.fnOf name qual params body scope dV kV doc pm an cdv ct) ps sp:=by
 refine⟨len,λA outer s H args us vs Q E hr e0 hb r m6=>?_⟩;have hl:=len _ _ _ _ m6;have KX:K.In s.heap:=e0.mod.kin.keeps λb o e=>(e0.bs b o e).1;have lim:s.heap.NoLimit:=e0.mod.nolimit.keeps λb o e=>(e0.bs b o e).1
 have Zmx:∀y∈ps.zip us,scope.names.lookup y.1=some .local∨(scope.names.lookup y.1=some .cell∧((cellsFrom (s.heap.objs.size+1) scope.names []).lookup y.1).isSome=true):=λ⟨n,v⟩ hy=>by
  rcases S.par n (ZM hy).1 with q|q
  ·exact .inl q
  ·exact .inr ⟨q,W.cellsFrom_some _ _ _ (.inl q)⟩
 refine WU hr.depth (KX _ _ lk) rfl S.co S.gen rfl (W.codeRec_of KX u7) (hb _ _ _ _ ?_);refine wpAny_newFunctionEnv_cells S.kind Zmx λenv he s1 x=>?_;subst he;refine⟨lim.keeps x.toInCall.keep,codeAny_func ?_⟩;obtain⟨t,ht,hq⟩:=Q8 A outer s H vs Q E (hr.deeper _) m6;have I:Inv (Ee CX P w K mg base N qual scope f cdv A outer s H E) [] (start N vs) H s1:=Ds S hr.hd e0 hl r x;refine aA (ht [] s1 (start N vs) H _ I hq) (λfl s' hs=>?_) λe s' hs=>hs
 have fin:∀{x8:St}{H':Hp}{v:V}{u:Value},Inv (Ee CX P w K mg base N qual scope f cdv A outer s H E) [] x8 H' s'→RelV v u→Q v H'→CE outer P w H s Q u s':=
  λ{x8 H' v u} J rv q=>⟨v,H',J.os,J.bare,J.base,J.hok,rv,q⟩
 cases fl with
 |ret u=>
  obtain⟨v,x8,H',J,rv,q⟩:=hs;exact fin J rv q
 |next=>
  obtain⟨x8,H',J,q⟩:=hs;exact fin (v:=V.non) (u:=Value.none) J rfl q
 |brk=>
  obtain⟨_,_,_,q⟩:=hs;exact False.elim q
 |cont=>
  obtain⟨_,_,_,q⟩:=hs;exact False.elim q
section
variable {X:Cx}{x:Str}{p pos:Pos}{e:Expr}{es:SA}{t:TA}{id T:String}{r:List V→Hp→VK→Prop}
def tCB(r:List V→Hp→VK→Prop)(t:TA):TE:=λσ H Q=>t σ H λvs H1=>r vs H1 Q
theorem Z6(hc:X4 X (.builtin id) r)(hg:Gl X x)(hm:X.mg x=none)(hv:bootBuiltins x=some (.builtin id))(ha:PA X (e :: es) t)(hn:x≠"__name__":=by decide)(sS:(x==("__debug__" : Str))=false:=by decide)
  (he:starEach (e :: es) X.env=(false,eval e X.env) :: starEach es X.env:=by rfl) (y0:(backTo pos (starEach es X.env)).any (·.1)=false:=by rfl):PE X (.Call (.Name x p) (e :: es) [] pos) (tCB r t):=by
 intro pins s σ H Q I h;refine iI (Vc I hg hm hv ?_ hn sS);exact PyProof.Rows.callWith_builtin1 (thn (ha pos pins s σ H _ I h) λus s1 ⟨vs,H1,I1,r1,q1⟩=>hc pins s1 σ H1 vs us Q I1 r1 q1) he y0
theorem Z9(hc:X4 X (.type T) r)(hg:Gl X x)(hm:X.mg x=none)(hv:bootBuiltins x=some (.type T))(ha:PA X (e :: es) t)(hn:x≠"__name__":=by decide)(sS:(x==("__debug__" : Str))=false:=by decide)
  (he:starEach (e :: es) X.env=(false,eval e X.env) :: starEach es X.env:=by rfl) (y0:(backTo pos (starEach es X.env)).any (·.1)=false:=by rfl):PE X (.Call (.Name x p) (e :: es) [] pos) (tCB r t):=by
 intro pins s σ H Q I h;refine iI (Vc I hg hm hv ?_ hn sS);exact iC (thn (ha pos pins s σ H _ I h) λus s1 ⟨vs,H1,I1,r1,q1⟩=>hc pins s1 σ H1 vs us Q I1 r1 q1) he y0
end
end L2
namespace HT
open PySem PyProof.Rows
section
open PySem.SeqAt
open PySem.AutoSeq1 (wpAny_loadPart')
open PySem.MeetsSeq PySem.MeetsSeq2 PySem.MeetsSeq3
end
section
variable {prog:Program}{w:World}{A:Around}{E:UQ}{s:Shared}
theorem Zqf{t b:Addr}{vs ws:UX}{Q:UQ}(ht:IsTup s.heap t vs.toArray)(hb:IsTup s.heap b ws.toArray)(hv:vs≠[])
  (h1:ws=[]→Q (.ref t) s) (h2:ws≠[]→Q (.ref s.heap.objs.size) { s with heap:=s.heap.push { cls:=.type "tuple",data:=.seq (vs++ws).toArray } })
  (hsz:vs.length+ws.length≤sizeLine):wpAny (model prog w) A (binaryOp .Add (.ref t) (.ref b)) Q E s:=by
 obtain⟨⟨cls,dd,data,sl⟩,ho,hc,n,hd⟩:=id ht;obtain⟨⟨cls2,dd2,data2,sl2⟩,gR,z6,n2,hd2⟩:=id hb;simp only at hc hd z6 hd2;subst hc hd z6 hd2;have e:vs.toArray++ws.toArray=(vs++ws).toArray:=by simp
 by_cases hw:ws=[]
 ·exact concat_meets ⟨_,ho,rfl⟩ ⟨_,gR,rfl⟩ noFill_tuple_add seq_tuple_add PySem.F.slot_tuple_add PySem.F.entry_tuple_add (PySem.F.args_tuple_add_2 _ _)
   (tuple_addW1 t b vs.toArray ws.toArray n n2 dd dd2 sl sl2 (by simpa using hv) (by simp[hw])) ⟨ho,gR,h1 hw⟩
 ·refine concat_meets ⟨_,ho,rfl⟩ ⟨_,gR,rfl⟩ noFill_tuple_add seq_tuple_add PySem.F.slot_tuple_add PySem.F.entry_tuple_add (PySem.F.args_tuple_add_2 _ _)
   (tuple_addW2 t b vs.toArray ws.toArray n n2 dd dd2 sl sl2 (by simpa using hv) (by simpa using hw) (by rw[oO,oO];exact hsz)) ⟨ho,gR,?_⟩
  rw[e];exact h2 hw
def sIx(n d:Nat):Option Int→Nat
 |none=>d
 |some v=>if v<0 then (v+(n:Int)).toNat else min v.toNat n
theorem Za3(n d:Nat):sIx n d none=d:=rfl
theorem Mn(n d k:Nat):sIx n d (some (k:Int))=min k n:=by
 show (if (k:Int)<0 then ((k:Int)+(n:Int)).toNat else min (k:Int).toNat n)=min k n;rw[if_neg (by lia),bG]
theorem Zdp(n d:Nat)(hd:d≤n)(o:SH):sIx n d o≤n:=by
 cases o with
 |none=>exact hd
 |some v=>
  show (if v<0 then (v+(n:Int)).toNat else min v.toNat n)≤n
  by_cases hv:v<0
  ·rw[if_pos hv];lia
  ·rw[if_neg hv];exact Nat.min_le_right _ _
theorem Zhs(v:Int)(n d:Nat):(if v<0 then max (v+(n:Int)) 0 else min v (n:Int))=((sIx n d (some v):Nat):Int):=by
 show (if v<0 then max (v+(n:Int)) 0 else min v (n:Int))=(((if v<0 then (v+(n:Int)).toNat else min v.toNat n):Nat):Int)
 by_cases hv:v<0
 ·simp only[if_pos hv];lia
 ·simp only[if_neg hv];lia
theorem Zfb(lo hi:SH)(n:Nat):Builtin.Slice.sliceAdjust lo hi 1 (n:Int)=(((sIx n 0 lo:Nat):Int),((sIx n n hi:Nat):Int)):=by
 have h1:¬ ((1:Int)<0):=by lia
 unfold Builtin.Slice.sliceAdjust;simp only[h1,if_false];refine Prod.ext ?_ ?_
 ·cases lo with
  |none=>rfl
  |some v=>exact Zhs v n 0
 ·cases hi with
  |none=>rfl
  |some v=>exact Zhs v n n
theorem Zdw(i j:Nat):Builtin.Slice.slicePlaces (i:Int) (j:Int) 1=j-i:=by
 unfold Builtin.Slice.slicePlaces;have h1:(1:Int)>0:=by lia
 simp only[h1,if_true,Int.ediv_one]
 split<;>lia
theorem Hb{v:Value}{o:SH}{Q:Option Int→Shared→Prop}(p:IsPart v o)(h:Q o s):wpAny (model prog w) A (Builtin.Slice.slicePartIndex v) Q E s:=by
 cases p with
 |none=>exact slicePart_none h
 |int i t=>exact slicePart_int h
theorem Su{sl:Addr}{vl vu:Value}{lo hi:SH}{n:Nat}{Q:Int×Int×Nat→Shared→Prop}(hs:s.heap.IsSliceOf sl vl vu .none)(pl:IsPart vl lo)(pu:IsPart vu hi)
  (h:Q (((sIx n 0 lo:Nat):Int),1,sIx n n hi-sIx n 0 lo) s):wpAny (model prog w) A (Builtin.Slice.sliceApplied (.ref sl) (pure (n:Int))) Q E s:=by
 obtain⟨os,kF,i5,yR⟩:=id hs;unfold Builtin.Slice.sliceApplied Builtin.Slice.sliceFields;refine oA (oA (iF kF yR (x:=vl) rfl (oA (iF kF yR (x:=vu) rfl (oA (iF kF yR (x:=.none) rfl (oD ?_)))))));refine oA (slicePart_none ?_);show wpAny _ _ (if ((1:Int)==0)=true then _ else _) _ _ s;rw[if_neg (by decide)];refine oA (Hb pl (oA (Hb pu (oA (oD ?_)))))
 show wpAny _ _ (match Builtin.Slice.sliceAdjust lo hi 1 (n:Int) with|(lo,hi)=>pure (lo,(1:Int),Builtin.Slice.slicePlaces lo hi 1)) _ _ s;rw[Zfb lo hi n];show wpAny _ _ (pure (((sIx n 0 lo:Nat):Int),(1:Int),Builtin.Slice.slicePlaces ((sIx n 0 lo:Nat):Int) ((sIx n n hi:Nat):Int) 1)) _ _ s;rw[Zdw];exact oD h
theorem Zlb(xs:TH)(i k:Nat):((List.range k).filterMap λ(m:Nat)=>xs[((i:Int)+(m:Int)*1).toNat]?).toArray=((xs.toList.drop i).take k).toArray:=by
 have e:(λ(m:Nat)=>xs[((i:Int)+(m:Int)*1).toNat]?)=λm=>xs[i+m]?:=by
  funext m
  have:((i:Int)+(m:Int)*1).toNat=i+m:=by lia
  rw[this]
 rw[e];have:=pick_run xs i k;rw[List.filterMap_map]at this;have e2:((λx=>xs[x]?) ∘ λx=>i+x)=λm=>xs[i+m]?:=rfl;rw[e2]at this;rw[this]
theorem Lj{t sl:Addr}{items:TH}{vl vu:Value}{lo hi:SH}{Q:UQ}(ht:IsTup s.heap t items)(hs:s.heap.IsSliceOf sl vl vu .none)(pl:IsPart vl lo)(pu:IsPart vu hi)
  (hw:¬ (sIx items.size 0 lo=0∧sIx items.size items.size hi=items.size))
  (h:Q (.ref s.heap.objs.size) { s with heap:=s.heap.push { cls:=.type "tuple",data:=.seq ((items.toList.drop (sIx items.size 0 lo)).take (sIx items.size items.size hi-sIx items.size 0 lo)).toArray } })
  (hsz:items.size≤sizeLine):wpAny (model prog w) A (getItem (.ref t) (.ref sl)) Q E s:=by
 have Zhc:sizeOk (.seq ((items.toList.drop (sIx items.size 0 lo)).take (sIx items.size items.size hi-sIx items.size 0 lo)).toArray):=by
  show ((items.toList.drop (sIx items.size 0 lo)).take (sIx items.size items.size hi-sIx items.size 0 lo)).toArray.size≤sizeLine;rw[oO,lC,bA,lJ];lia
 have hj:sIx items.size items.size hi≤items.size:=Zdp _ _ (oG _) hi;obtain⟨os,kF,i5,yR⟩:=id hs;have nZ:s.TypeIs (.ref sl) "slice":=⟨os,kF,i5⟩;unfold getItem
 try with_reducible refine iB ?_
 first|refine oA (oD ?_)|skip
 refine oA (wpAny_sequenceKey ht.typeIs (by decide) ?_)
 refine oA (lR (name:=Str.ofString "__getitem__") ht.typeIs bH
  (lP bH ht.typeIs entry_tuple_getitem ?_ (args_tuple_getitem _ _)))
 show wpAny _ _ (Builtin.Tuple.tupleItemsOf (.ref t) >>= _) _ _ s;refine oA (tupleItemsOf_ ht ?_);refine oA (aZ nZ ?_);rw[if_pos (by decide)];refine oA (Su hs pl pu ?_)
 have eG:¬ ((((sIx items.size 0 lo:Nat):Int)==0&&(1:Int)==1&&(sIx items.size items.size hi-sIx items.size 0 lo)==items.size)=true):=by
  intro q;rw[lQ,lQ]at q;have q1:((sIx items.size 0 lo:Nat):Int)=0:=eq_of_beq q.1.1;have q2:sIx items.size items.size hi-sIx items.size 0 lo=items.size:=eq_of_beq q.2;exact hw ⟨by lia,by lia⟩
 show wpAny _ _ (if (((sIx items.size 0 lo:Nat):Int)==0&&(1:Int)==1&&(sIx items.size items.size hi-sIx items.size 0 lo)==items.size)=true then _ else _) _ _ s;rw[if_neg eG,Zlb]
 first
  |exact oA (m:=Builtin.Tuple.tupleExact _) (lS (oD ⟨_,rfl,oD h⟩) Zhc)
  |exact oA (m:=Builtin.Tuple.tupleExact _) (lS (oA (oD (oD ⟨_,rfl,oD h⟩))) Zhc)
  |exact oA (oA (m:=Builtin.Tuple.tupleExact _) (lS (oD (oD ⟨_,rfl,oD h⟩)) Zhc))
  |exact oA (oA (m:=Builtin.Tuple.tupleExact _) (lS (oD ⟨_,rfl,oD h⟩) Zhc))
end
end HT
namespace L2
open PySem PySem.Spec PyProof.Rows
variable {A:Around}{H:Hp}{T:String}{its us:UX}{j n t':Nat}{pins:US}{r:R2}{s:Shared}{u v:Value}{xs:List V}{y:V}{σ:St}
abbrev TO:=St→Hp→(Option Int→Hp→Prop)→Prop
def PO(X:Cx)(e:Option Expr)(t:TO):Prop:=
 ∀(pins:US) (s:Shared) (σ:St) (H:Hp) (Q:Option Int→Hp→Prop),Inv X pins σ H s→t σ H Q→
  wpAny (model X.prog X.w) X.A (evalPart e X.env) (λu s'=>∃o H',Inv X pins σ H' s'∧IsPart u o∧Q o H') X.xe s
def Zol:TO:=λ_ H Q=>Q none H
inductive Zj7(Q:Option Int→Hp→Prop)(x:V)(H1:Hp):Prop
 |mk(i:_)(h1:x=.int i)(h2:Q (some i) H1):Zj7 Q x H1
def Zu1(t:TE):TO:=λσ H Q=>t σ H λx H1=>Zj7 Q x H1
section
variable {X:Cx}{e:Expr}{te:TE}{lo hi:Option Expr}{tl th:TO}{pos p2:Pos}
theorem Mv:PO X none Zol:=by
 intro pins s σ H Q I h;rw[evalPart_none];exact oD ⟨none,H,I,.none,h⟩
theorem Mu(h:PE X e te):PO X (some e) (Zu1 te):=by
 intro pins s σ H Q I hw;rw[evalPart_some];refine thn (h pins s σ H _ I hw) λu s1 ⟨x,H1,I1,r1,q1⟩=>?_;obtain⟨i,rfl,q⟩:=q1;obtain⟨t,rfl⟩:=r1;exact⟨some i,H1,I1,.int i t,q⟩
def SlR(X:Cx)(r:V→Option Int→Option Int→Hp→VK→Prop):Prop:=
 ∀(pins:US) (s:Shared) (σ:St) (H:Hp) (x:V) (v vl vu:Value) (lo hi:SH) (sl:Addr) (Q:VK),Inv X pins σ H s→RelV x v→s.heap.IsSliceOf sl vl vu .none→IsPart vl lo→IsPart vu hi→r x lo hi H Q→
  ∃T id,typeLookup (.type T) "__getitem__"=pure (some (.builtin id))∧s.TypeIs v T∧wpAny (model X.prog X.w) X.A (getItem v (.ref sl)) (EP X pins σ Q) X.xe s
def tSl(r:V→Option Int→Option Int→Hp→VK→Prop)(te:TE)(tl th:TO):TE:=λσ H Q=>te σ H λx H1=>tl σ H1 λl H2=>th σ H2 λu H3=>r x l u H3 Q
theorem Qu{r:V→Option Int→Option Int→Hp→VK→Prop}(hr:SlR X r)(he:PE X e te)(hl:PO X lo tl)(hu:PO X hi th):PE X (.Subscript e (.Slice lo hi none p2) pos) (tSl r te tl th):=by
 intro pins s σ H Q I h;refine Subscript_ (thn (he pins s σ H _ I h) λv s1 ⟨x,H1,I1,r1,q1⟩=>?_);refine wpAny_Slice (thn (hl pins s1 σ H1 _ I1 q1) λvl s2 ⟨l,H2,I2,pl,q2⟩=>thn (hu pins s2 σ H2 _ I2 q2) λvu s3 ⟨u,H3,I3,pu,q3⟩=>?_);rw[evalPart_none];refine oD ?_
 have I4:Inv X pins σ H3 { s3 with heap:=s3.heap.push { cls:=.type "slice",data:=.fields #[vl,vu,.none] } }:=I3.kept (t':=s3.toks) λb ob q=>oE _ q
 obtain⟨T,id,hT,ht,hg⟩:=hr pins { s3 with heap:=s3.heap.push { cls:=.type "slice",data:=.fields #[vl,vu,.none] } } σ H3 x v vl vu l u s3.heap.objs.size Q I4 r1 (Heap.IsSliceOf.new ..) pl pu q3
 show wpAny (model X.prog X.w) X.A (subscriptTail e (.Slice lo hi none p2) v (.ref s3.heap.objs.size)) (EP X pins σ Q) X.xe { s3 with heap:=s3.heap.push { cls:=.type "slice",data:=.fields #[vl,vu,.none] } };exact tail_any (ops:=[.ref s3.heap.objs.size,v]) ht hT hg (by with_unfolding_all rfl)
def Pc(xs:List V)(lo hi:SH):List V:=(xs.drop (HT.sIx xs.length 0 lo)).take (HT.sIx xs.length xs.length hi-HT.sIx xs.length 0 lo)
theorem K4(xs:List V)(lo hi:SH):(Pc xs lo hi).length≤xs.length:=by
 unfold Pc;rw[lC,bA];lia
inductive Zrc(K:W.Frag)(x:V)(lo:SH)(hi:SH)(H:Hp)(Q:VK):Prop
 |mk(a xs:_)(h1:x=.ref a)(h2:SqT K H a xs)(h3:¬ (HT.sIx xs.length 0 lo=0∧HT.sIx xs.length xs.length hi=xs.length))(h4:∀p,H p=none→Q (.ref p) (upd H p (.tup (Pc xs lo hi)))):Zrc K x lo hi H Q
def Zvm(K:W.Frag):V→Option Int→Option Int→Hp→VK→Prop:=λx lo hi H Q=>Zrc K x lo hi H Q
theorem Zss:SlR X (Zvm X.K):=by
 intro pins s σ H x v vl vu lo hi sl Q I rx hs pl pu h;obtain⟨a,xs,rfl,hx,hw,q⟩:=h;cases rx;obtain⟨its,r,ht,hz⟩:=I.tuple hx;have hlen:its.toArray.size=xs.length:=by rw[oO];exact r.length.symm
 refine⟨"tuple",_,bH.lookup,ht.typeIs,?_⟩;refine HT.Lj ht hs pl pu (by rw[hlen];exact hw) ?_ (by rw[hlen];exact hz);rw[hlen];refine⟨.ref s.heap.objs.size,_,I.laid (t':=s.toks) (o:=.tup (Pc xs lo hi)) (λb ob q=>oE _ q) (oG _) ?_,rfl,q _ (I.hok.fresh (oG _))⟩;exact⟨lI (K4 xs lo hi) hz,_,(r.drop (HT.sIx xs.length 0 lo)).take (HT.sIx xs.length xs.length hi-HT.sIx xs.length 0 lo),IsTup.new _ _⟩
inductive Zk5(K:W.Frag)(x:V)(y:V)(H:Hp)(Q:VK):Prop
 |mk(a b xs ys:_)(h1:x=.ref a)(h2:y=.ref b)(h3:SqT K H a xs)(h4:SqT K H b ys)(h5:xs≠[])(h6:xs.length+ys.length≤sizeLine)(h7:(ys=[]→Q (.ref a) H))(h8:(ys≠[]→∀p,H p=none→Q (.ref p) (upd H p (.tup (xs++ys))))):Zk5 K x y H Q
def Zrl(K:W.Frag):R2:=λx y H Q=>Zk5 K x y H Q
theorem Vals.Bh(r:Vals xs us):us=[]↔xs=[]:=by
 cases r with
 |nil=>simp
 |cons _ _=>simp
theorem Zo9:OpR X (binaryOp .Add) (Zrl X.K):=by
 intro pins s σ H x y v u Q I rx ry h;obtain⟨a,b,xs,ys,rfl,rfl,ha,hb,hx,hz,q1,q2⟩:=h;cases rx;cases ry;obtain⟨its,r1,p1,_⟩:=I.tuple ha;obtain⟨Zb5,r2,p2,_⟩:=I.tuple hb;refine HT.Zqf p1 p2 (λz=>hx (r1.Bh.mp z)) (λz=>⟨.ref a,H,I,rfl,q1 (r2.Bh.mp z)⟩) (λz=>?_) (by rw[←r1.length,←r2.length];exact hz);refine⟨.ref s.heap.objs.size,_,I.laid (t':=s.toks) (o:=.tup (xs++ys)) (λb ob q=>oE _ q) (oG _) ?_,rfl,q2 (λw=>z (r2.Bh.mpr w)) _ (I.hok.fresh (oG _))⟩;exact⟨by rw[oV];exact hz,_,r1.append r2,IsTup.new _ _⟩
end
def ixN(n:Nat)(i:Int):Option Nat:=if 0≤i then (if i<n then some i.toNat else none) else if -(n:Int)≤i then some (i+n).toNat else none
def atI{α:Type}(xs:List α)(i:Int):Option α:=(ixN xs.length i).bind λj=>xs[j]?
theorem Zg8{n:Nat}{i:Int}(h:ixN n i=some j):seqIndex? i n=some j∧j<n∧-(n:Int)≤i∧i<n:=by
 unfold ixN at h
 by_cases h0:0≤i
 ·rw[if_pos h0]at h
  by_cases h1:i<n
  ·rw[if_pos h1]at h;have e:i.toNat=j:=Option.some.inj h;exact⟨by rw[seqIndex_of h0 h1,e],by lia,by lia,h1⟩
  ·rw[if_neg h1]at h;cases h
 ·rw[if_neg h0]at h
  by_cases h1 : -(n:Int)≤i
  ·rw[if_pos h1]at h;have e:(i+n).toNat=j:=Option.some.inj h;exact⟨by rw[seqIndex_neg (by lia) h1,e],by lia,h1,by lia⟩
  ·rw[if_neg h1]at h;cases h
theorem Av{α:Type}{xs:List α}{i:Int}{v:α}(h:atI xs i=some v):∃j,seqIndex? i xs.length=some j∧xs[j]?=some v∧j<xs.length∧-(xs.length:Int)≤i∧i<xs.length:=by
 unfold atI at h
 cases e:ixN xs.length i with
 |none=>rw[e]at h;cases h
 |some j=>
  rw[e]at h;obtain⟨h1,h2,h3,h4⟩:=Zg8 e;exact⟨j,h1,h,h2,h3,h4⟩
theorem Zj{α:Type}{xs:List α}{j:Nat}{v:α}(h:xs[j]?=some v):atI xs (j:Int)=some v:=by
 have hj:j<xs.length:=(oF.mp h).1
 have e:ixN xs.length (j:Int)=some j:=by
  unfold ixN;rw[if_pos (by lia),if_pos (by lia)];simp
 unfold atI;rw[e];exact h
def Zqq(b:Expr):Prop:=∀o i,subscripted b false o i=operate [o,i] (getItem o i)
def IxR(X:Cx)(r:R2):Prop:=
 ∀(value slice:Expr) (pins:US) (s:Shared) (σ:St) (H:Hp) (x y:V) (v u:Value) (Q:VK),Inv X pins σ H s→RelV x v→RelV y u→r x y H Q→
  subscripted slice false v u=operate [v,u] (getItem v u)→wpAny (model X.prog X.w) X.A (subscriptTail value slice v u) (EP X pins σ Q) X.xe s
def MtR(X:Cx)(id:String)(r:V→List V→Hp→VK→Prop):Prop:=
 ∀(pins:US) (s:Shared) (σ:St) (H:Hp) (x:V) (xs:List V) (v:Value) (us:UX) (Q:VK),Inv X pins σ H s→RelV x v→Vals xs us→r x xs H Q→
  wpAny (model X.prog X.w) X.A (call (.builtin id) (v :: us)) (EP X pins σ Q) X.xe s
section
variable {X:Cx}{a b:Expr}{ta tb:TE}{pos:Pos}
theorem Zr(hr:IxR X r)(ha:PE X a ta)(hb:PE X b tb)(hs:Zqq b):PE X (.Subscript a b pos) (tOp r ta tb):=by
 intro pins s σ H Q I h;exact Subscript_ (Zuo ha hb I h λv u s2 x y H2 I2 rx ry q=>hr a b pins s2 σ H2 x y v u Q I2 rx ry q (hs _ _))
inductive Zrj(K:W.Frag)(x:V)(y:V)(H:Hp)(Q:VK):Prop
 |mk(p xs i v:_)(h1:x=.ref p)(h2:y=.int i)(h3:SqL K H p xs)(h4:atI xs i=some v)(h5:Q v H):Zrj K x y H Q
def Zsz(K:W.Frag):R2:=λx y H Q=>Zrj K x y H Q
inductive Zrh(K:W.Frag)(x:V)(y:V)(H:Hp)(Q:VK):Prop
 |mk(p xs i v:_)(h1:x=.ref p)(h2:y=.int i)(h3:SqT K H p xs)(h4:atI xs i=some v)(h5:Q v H):Zrh K x y H Q
def Zvs(K:W.Frag):R2:=λx y H Q=>Zrh K x y H Q
inductive Zri(x:V)(y:V)(H:Hp)(Q:VK):Prop
 |mk(z i c:_)(h1:x=.str z)(h2:y=.int i)(h3:z.length≤sizeLine)(h4:atI z.cps.toList i=some c)(h5:Q (.str ⟨#[c]⟩) H):Zri x y H Q
def Zoz:R2:=λx y H Q=>Zri x y H Q
theorem Zpx:IxR X (Zsz X.K):=by
 intro value slice pins s σ H x y v u Q I rx ry h hs;obtain⟨p,xs,i,z,rfl,rfl,hq,he,q⟩:=h;cases rx;obtain⟨t,rfl⟩:=ry;obtain⟨its,r,pl,hz⟩:=I.list hq;obtain⟨j,h1,h2,h3,h4,h5⟩:=Av he;obtain⟨w,ew,o7⟩:=r.get h2;have hl:=r.length;have hn:=Vx;have fin:EP X pins σ Q w s:=⟨z,H,I,o7,q⟩
 by_cases h0:0≤i
 ·have hj:i.toNat=j:=by
   rw[seqIndex_of h0 h5]at h1;exact Option.some.inj h1
  exact item_listR pl.isList h0 (by lia) (by rw[hj];simpa using ew) fin hs
 ·have hj:(i+(its.toArray.size:Int)).toNat=j:=by
   rw[seqIndex_neg (by lia) h4]at h1;rw[oO,←hl];exact Option.some.inj h1
  exact subscriptTail_builtinR (x:=w) pl.isList.typeIs slot_list_getitem.lookup
   (wpAny_getItem_list_neg (Q:=λr s'=>r=w∧EP X pins σ Q r s') pl.isList (by lia) (by rw[oO]<;>lia) (by lia) (by rw[hj];simpa using ew) ⟨rfl,fin⟩) hs
theorem Ztq:IxR X (Zvs X.K):=by
 intro value slice pins s σ H x y v u Q I rx ry h hs;obtain⟨p,xs,i,z,rfl,rfl,hq,he,q⟩:=h;cases rx;obtain⟨t,rfl⟩:=ry;obtain⟨its,r,pl,hz⟩:=I.tuple hq;obtain⟨j,h1,h2,h3,h4,h5⟩:=Av he;obtain⟨w,ew,o7⟩:=r.get h2;have hl:=r.length;have hn:=Vx;have fin:EP X pins σ Q w s:=⟨z,H,I,o7,q⟩
 exact subscriptTail_builtinR (x:=w) pl.typeIs slot_tuple_getitem.lookup
  (getItem_tuple (j:=j) (Q:=λr s'=>r=w∧EP X pins σ Q r s') pl (by lia) (by lia) (by rw[oO,←hl];exact h1) (by simpa using ew) ⟨rfl,fin⟩) hs
theorem Bx:IxR X Zoz:=by
 intro value slice pins s σ H x y v u Q I rx ry h hs;obtain⟨z,i,c,rfl,rfl,hz,he,q⟩:=h;obtain⟨t,rfl⟩:=rx;obtain⟨t',rfl⟩:=ry;obtain⟨j,h1,h2,h3,h4,h5⟩:=Av he;have hl:z.cps.toList.length=z.length:=by simp[Str.length]
 rw[hl]at h1 h4 h5;have hn:=Vx
 exact tail_any (typeIs_str s z t) slot_str_getitem.lookup (getItem_str (c:=c) (by
  have e1:decide (i < -(2 ^ 63:Int))=false:=decide_eq_false (by lia);have e2:decide (i ≥ 2 ^ 63)=false:=decide_eq_false (by lia)
  rw[e1,e2,UH]) (by rw[h1];simpa using h2) ⟨.str ⟨#[c]⟩,H,I.tok _,⟨_,rfl⟩,q⟩) hs
theorem Zd8(its:UX)(n j:Nat)(u:Value):Obj.mapSeq (·.setIfInBounds j u) { cls:=.type "list",data:=.seq its.toArray n } = { cls:=.type "list",data:=.seq (its.set j u).toArray n }:=by
 simp[Obj.mapSeq]
theorem Inv.lst{pins:US}{σ:St}{H:Hp}{s:Shared}{p:Addr}{xs:List V}(I:Inv X pins σ H s)(h:H p=some (.lst xs)):
  ∃(its:UX) (n:Nat),Vals xs its∧s.heap.get? p=some { cls:=.type "list",data:=.seq its.toArray n }∧xs.length≤sizeLine:=by
 obtain⟨z,its,n,r,e⟩:=I.hok p _ h;exact⟨its,n,r,e,z⟩
theorem Inv.Zte{p:Addr}{ys:List V}{its its':UX}{n':Nat}{f:Obj→Obj}(I:Inv X pins σ H s)(h:H p=some (.lst xs))
  (ho:s.heap.get? p=some { cls:=.type "list",data:=.seq its.toArray n }) (hf:f { cls:=.type "list",data:=.seq its.toArray n } = { cls:=.type "list",data:=.seq its'.toArray n' }) (r:Vals ys its') (hz:ys.length≤sizeLine) (t:Nat) :
  Inv X pins σ (upd H p (.lst ys)) { s with heap:=s.heap.update p f,toks:=t }:=by
 have e:(s.heap.update p f).get? p=some { cls:=.type "list",data:=.seq its'.toArray n' }:=by
  rw[lT f ho (by rw[hf]<;>rfl),hf]
 refine I.write (x:=p) (e:=p) (by rw[h];trivial) (.inl rfl) (λb u hb q=>(lZ _ _ (iY hb)).trans q) ⟨_,e⟩ ?_;exact⟨hz,its',n',r,e⟩
inductive Zk1(o:V)(i:V)(v:V)(H:Hp)(Q:(Hp→Prop)):Prop
 |mk(p xs k j:_)(h1:o=.ref p)(h2:i=.int k)(h3:H p=some (.lst xs))(h4:ixN xs.length k=some j)(h5:Q (upd H p (.lst (xs.set j v)))):Zk1 o i v H Q
def Zvp:V→V→V→Hp→(Hp→Prop)→Prop:=λo i v H Q=>Zk1 o i v H Q
theorem set_list:Zxb X Zvp:=by
 intro pins s σ H o i v ov iv u Q I ro ri rv h;obtain⟨p,xs,k,j,rfl,rfl,hp,hj,q⟩:=h;cases ro;obtain⟨t,rfl⟩:=ri;obtain⟨its,n,r,ho,hz⟩:=I.lst hp;obtain⟨h1,h2,h3,h4⟩:=Zg8 hj;have hl:=r.length;have hn:=Vx
 have I':Inv X pins σ (upd H p (.lst (xs.set j v))) { s with heap:=s.heap.update p (Obj.mapSeq (·.setIfInBounds j u)) }:=
  I.Zte hp ho (Zd8 its n j u) (r.set rv j) (by rw[List.length_set];exact hz) s.toks
 by_cases h0:0≤k
 ·have hk:k.toNat=j:=by
   rw[seqIndex_of h0 h4]at h1;exact Option.some.inj h1
  exact W.ki_setAt ho h0 (by lia) (by rw[oO,←hl];exact h4) (by rw[hk];exact⟨_,I',q⟩)
 ·have hk:(k+(its.toArray.size:Int)).toNat=j:=by
   rw[seqIndex_neg (by lia) h3]at h1;rw[oO,←hl];exact Option.some.inj h1
  exact W.ki_setBack ho (by lia) (by rw[oO,←hl];exact h3) (by lia) (by rw[hk];exact⟨_,I',q⟩)
theorem Mi(lo hi:SH)(n:Nat):(sliceBounds lo hi none n).1=((HT.sIx n 0 lo:Nat):Int)∧(sliceBounds lo hi none n).2.1=((HT.sIx n n hi:Nat):Int)∧(sliceBounds lo hi none n).2.2=1:=by
 refine⟨?_,?_,rfl⟩
 ·cases lo with
  |none=>simp[sliceBounds,HT.sIx]
  |some i=>
   simp only[sliceBounds,HT.sIx,Option.getD_none,show (1:Int)>0 by decide,if_true]
   by_cases h:i<0
   ·simp only[h,if_true]<;>lia
   ·simp only[h,if_false]<;>lia
 ·cases hi with
  |none=>simp[sliceBounds,HT.sIx]
  |some i=>
   simp only[sliceBounds,HT.sIx,Option.getD_none,show (1:Int)>0 by decide,if_true]
   by_cases h:i<0
   ·simp only[h,if_true]<;>lia
   ·simp only[h,if_false]<;>lia
theorem Fp(its:UX)(lo hi:SH):slicePick its.toArray lo hi none=((its.drop (HT.sIx its.length 0 lo)).take (HT.sIx its.length its.length hi-HT.sIx its.length 0 lo)).toArray:=by
 obtain⟨h1,h2,h3⟩:=Mi lo hi its.toArray.size;unfold slicePick;rw[h1,h2,h3];simp only[sliceRange_one,pick_run,oO]<;>rfl
inductive Zre(K:W.Frag)(x:V)(lo:SH)(hi:SH)(H:Hp)(Q:VK):Prop
 |mk(a xs:_)(h1:x=.ref a)(h2:SqL K H a xs)(h3:∀p,H p=none→Q (.ref p) (upd H p (.lst (Pc xs lo hi)))):Zre K x lo hi H Q
def Zvn(K:W.Frag):V→Option Int→Option Int→Hp→VK→Prop:=λx lo hi H Q=>Zre K x lo hi H Q
theorem Zou:SlR X (Zvn X.K):=by
 intro pins s σ H x v vl vu lo hi sl Q I rx hs pl pu h;obtain⟨a,xs,rfl,hx,q⟩:=h;cases rx;obtain⟨its,r,ht,hz⟩:=I.list hx;have hlen:=r.length;refine⟨"list",_,slot_list_getitem.lookup,ht.isList.typeIs,?_⟩;refine wpAny_getItem_list_slice ht.isList hs pl pu .none (by simp) ?_ (by rw[oO]<;>lia);rw[Fp,←hlen];refine⟨.ref s.heap.objs.size,_,I.laid (t':=s.toks) (o:=.lst (Pc xs lo hi)) (λb ob q=>oE _ q) (oG _) ?_,rfl,q _ (I.hok.fresh (oG _))⟩;exact⟨lI (K4 xs lo hi) hz,_,0,(r.drop (HT.sIx xs.length 0 lo)).take (HT.sIx xs.length xs.length hi-HT.sIx xs.length 0 lo),oS _ rfl⟩
def O6:V→Bool
 |.non=>true
 |.bl _=>true
 |.int _=>true
 |.str _=>true
 |_=>false
def eqV:V→V→Bool
 |.non,.non=>true
 |.bl a,.bl b=>a==b
 |.bl a,.int b=>(if a then 1 else 0)==b
 |.int a,.bl b=>a==(if b then 1 else 0)
 |.int a,.int b=>a==b
 |.str a,.str b=>a==b
 |_,_=>false
theorem Zt8{x:V}(ry:RelV y u)(rx:RelV x v)(fy:O6 y=true)(fx:O6 x=true):SeqAt.EqAt A s u v (eqV y x):=by
 cases y with
 |non=>
  cases ry
  cases x with
  |non=>cases rx;exact ZO _
  |bl b=>cases rx;exact SeqAt.EqAt.none_bool b
  |int b=>obtain⟨t,rfl⟩:=rx;exact SeqAt.EqAt.none_int b t
  |str b=>obtain⟨t,rfl⟩:=rx;exact SeqAt.EqAt.none_str b t
  |_=>exact absurd (show false=true from fx) lA
 |bl a=>
  cases ry
  cases x with
  |non=>cases rx;exact SeqAt.EqAt.bool_none a
  |bl b=>cases rx;exact SeqAt.EqAt.bool_bool a b
  |int b=>obtain⟨t,rfl⟩:=rx;exact SeqAt.EqAt.bool_int a b t
  |str b=>obtain⟨t,rfl⟩:=rx;exact SeqAt.EqAt.bool_str a b t
  |_=>exact absurd (show false=true from fx) lA
 |int a=>
  obtain⟨t',rfl⟩:=ry
  cases x with
  |non=>cases rx;exact SeqAt.EqAt.int_none a t'
  |bl b=>cases rx;exact SeqAt.EqAt.int_bool a t' b
  |int b=>obtain⟨t,rfl⟩:=rx;exact VY a t' b t
  |str b=>obtain⟨t,rfl⟩:=rx;exact SeqAt.EqAt.int_str a t' b t
  |_=>exact absurd (show false=true from fx) lA
 |str a=>
  obtain⟨t',rfl⟩:=ry
  cases x with
  |non=>cases rx;exact SeqAt.EqAt.str_none a t'
  |bl b=>cases rx;exact SeqAt.EqAt.str_bool a t' b
  |int b=>obtain⟨t,rfl⟩:=rx;exact SeqAt.EqAt.str_int a t' b t
  |str b=>obtain⟨t,rfl⟩:=rx;exact VZ a t' b t
  |_=>exact absurd (show false=true from fx) lA
 |_=>exact absurd (show false=true from fy) lA
def eqU(x:V)(u:Value):Bool:=match u with
 |.none=>eqV .non x
 |.bool b=>eqV (.bl b) x
 |.int i _=>eqV (.int i) x
 |.str z _=>eqV (.str z) x
 |_=>false
theorem Zne{x:V}(r:RelV y u)(f:O6 y=true):eqU x u=eqV y x:=by
 cases y with
 |non=>cases r;rfl
 |bl b=>cases r;rfl
 |int i=>obtain⟨t,rfl⟩:=r;rfl
 |str z=>obtain⟨t,rfl⟩:=r;rfl
 |_=>exact absurd (show false=true from f) lA
theorem Ls{x:V}:∀{xs:List V}{us:UX},Vals xs us→xs.all O6=true→us.any (eqU x)=xs.any λy=>eqV y x
 |_,_,.nil,_=>rfl
 |y :: xs,u :: us,.cons r t,f=>by
  rw[UI,lQ]at f;rw[WQ,WQ,Zne r f.1,Ls t f.2]
theorem Qz{A:Around}{s:Shared}{x:V}{v:Value}(rx:RelV x v)(fx:O6 x=true):∀{xs:List V}{us:UX},Vals xs us→xs.all O6=true→∀u∈us,SeqAt.EqAt A s u v (eqU x u)
 |_,_,.nil,_=>λu hu=>by cases hu
 |y :: xs,u :: us,.cons r t,f=>λu' hu=>by
  rw[UI,lQ]at f
  rcases oX.mp hu with rfl|hu
  ·rw[Zne r f.1];exact Zt8 r rx f.1 fx
  ·exact Qz rx fx t f.2 u' hu
def inV(x:V)(xs:List V):Bool:=xs.any λy=>eqV y x
inductive Zvt(K:W.Frag)(neg:Bool)(x:V)(y:V)(H:Hp)(Q:VK):Prop
 |mk(p xs:_)(h1:y=.ref p)(h2:(SqL K H p xs∨SqT K H p xs))(h3:O6 x=true)(h4:xs.all O6=true)(h5:Q (.bl (if neg then !inV x xs else inV x xs)) H):Zvt K neg x y H Q
def rIn(K:W.Frag)(neg:Bool):R2:=λx y H Q=>Zvt K neg x y H Q
theorem Zih:OpR X (compareOp .In) (rIn X.K false):=by
 intro pins s σ H x y v u Q I rx ry h;obtain⟨p,xs,rfl,hq,fx,fs,q⟩:=h;cases ry
 rcases hq with hq|hq
 ·obtain⟨its,r,pl,hz⟩:=I.list hq;refine SeqAt.in_listAt (eqU x) pl.isList (λw hw=>Qz rx fx r fs w (by simpa using hw)) ⟨.bl _,H,I,rfl,?_⟩;rw[show its.toArray.any (eqU x)=its.any (eqU x) by simp,Ls r fs];exact q
 ·obtain⟨its,r,pl,hz⟩:=I.tuple hq;refine SeqAt.in_tupleAt (eqU x) pl (λw hw=>Qz rx fx r fs w (by simpa using hw)) ⟨.bl _,H,I,rfl,?_⟩;rw[show its.toArray.any (eqU x)=its.any (eqU x) by simp,Ls r fs];exact q
theorem Bb:OpR X (compareOp .NotIn) (rIn X.K true):=by
 intro pins s σ H x y v u Q I rx ry h;obtain⟨p,xs,rfl,hq,fx,fs,q⟩:=h;cases ry
 rcases hq with hq|hq
 ·obtain⟨its,r,pl,hz⟩:=I.list hq;refine SeqAt.notIn_listAt (eqU x) pl.isList (λw hw=>Qz rx fx r fs w (by simpa using hw)) ⟨.bl _,H,I,rfl,?_⟩;rw[show its.toArray.any (eqU x)=its.any (eqU x) by simp,Ls r fs];exact q
 ·obtain⟨its,r,pl,hz⟩:=I.tuple hq;refine SeqAt.notIn_tupleAt (eqU x) pl (λw hw=>Qz rx fx r fs w (by simpa using hw)) ⟨.bl _,H,I,rfl,?_⟩;rw[show its.toArray.any (eqU x)=its.any (eqU x) by simp,Ls r fs];exact q
theorem Ao:X4 X (.builtin "len") (λxs H Q=>∃p ys,xs=[.ref p]∧(SqL X.K H p ys∨SqT X.K H p ys)∧Q (.int ys.length) H):=by
 intro pins s σ H xs us Q I r h;obtain⟨p,ys,rfl,hq,q⟩:=h;obtain⟨u,rfl,rx⟩:=vals1 r;cases rx;have hn:=Vx
 rcases hq with hq|hq
 ·obtain⟨its,r',pl,hz⟩:=I.list hq;have hlen:=r'.length;exact Calls.call_len_list pl.isList (by simp only[oO]<;>lia) ⟨.int ys.length,H,I.tok _,⟨s.toks+1,by rw[oO,hlen]⟩,q⟩
 ·obtain⟨its,r',pl,hz⟩:=I.tuple hq;have hlen:=r'.length;exact len_tuple pl (by simp only[oO]<;>lia) ⟨.int ys.length,H,I.tok _,⟨s.toks+1,by rw[oO,hlen]⟩,q⟩
theorem Uk:X4 X (.builtin "len") (λxs H Q=>∃z,xs=[.str z]∧z.length≤sizeLine∧Q (.int z.length) H):=by
 intro pins s σ H xs us Q I r h;obtain⟨z,rfl,hz,q⟩:=h;obtain⟨u,rfl,t,rfl⟩:=vals1 r;have hn:=Vx;exact len_str (by lia) ⟨.int z.length,H,I.tok _,⟨_,rfl⟩,q⟩
theorem An:X4 X (.type "list") (λxs H Q=>∃p ys,xs=[.ref p]∧(SqL X.K H p ys∨SqT X.K H p ys)∧∀l,H l=none→Q (.ref l) (upd H l (.lst ys))):=by
 intro pins s σ H xs us Q I r h;obtain⟨p,ys,rfl,hq,q⟩:=h;obtain⟨u,rfl,rx⟩:=vals1 r;cases rx
 have fin:∀(its:UX),Vals ys its→ys.length≤sizeLine→∀(h':Heap) (c':Nat),(∀b o',s.heap.get? b=some o'→h'.get? b=some o')→
   h'.get? s.heap.objs.size=some { cls:=.type "list",dict:=none,data:=.seq its.toArray c',slots:=#[] }→EP X pins σ Q (.ref s.heap.objs.size) { s with heap:=h' }:=λits r' hz h' c' kp e=>
  ⟨.ref s.heap.objs.size,_,I.laid (t':=s.toks) kp (oG _) (show Yy X.prog X.w _ h' _ (.lst ys) from⟨hz,its,c',r',e⟩),rfl,q _ (I.hok.fresh (oG _))⟩
 rcases hq with hq|hq
 ·obtain⟨its,r',pl,hz⟩:=I.list hq;have hlen:=r'.length;obtain⟨o,ho,hc,n,hd⟩:=pl.isList;exact call_list_seq p (.inl rfl) ho hc hd (λh' c' kp e=>fin its r' hz h' c' kp e) (by simp only[oO]<;>lia)
 ·obtain⟨its,r',pl,hz⟩:=I.tuple hq;have hlen:=r'.length;obtain⟨o,ho,hc,n,hd⟩:=pl;exact call_list_seq p (.inr rfl) ho hc hd (λh' c' kp e=>fin its r' hz h' c' kp e) (by simp only[oO]<;>lia)
theorem Ef:X4 X (.type "tuple") (λxs H Q=>∃p ys,xs=[.ref p]∧((SqL X.K H p ys∧∀l,H l=none→Q (.ref l) (upd H l (.tup ys)))∨(SqT X.K H p ys∧Q (.ref p) H))):=by
 intro pins s σ H xs us Q I r h;obtain⟨p,ys,rfl,h⟩:=h;obtain⟨u,rfl,rx⟩:=vals1 r;cases rx
 rcases h with ⟨hq,q⟩|⟨hq,q⟩
 ·obtain⟨its,r',pl,hz⟩:=I.list hq;have hlen:=r'.length;refine call_tuple_list pl.isList (λh' kp=>?_) (by simp only[oO]<;>lia)
  have I1:Inv X pins σ H { s with heap:=h' }:=I.kept (t':=s.toks) kp
  have I2:Inv X pins σ (upd H h'.objs.size (.tup ys)) { s with heap:=h'.push { cls:=.type "tuple",data:=.seq its.toArray } }:=
   I1.laid (t':=s.toks) (λb o e=>oE _ e) (oG _) (show Yy X.prog X.w _ _ _ (.tup ys) from⟨hz,its,r',IsTup.new _ _⟩)
  exact⟨.ref h'.objs.size,_,I2,rfl,q _ (I1.hok.fresh (oG _))⟩
 ·obtain⟨its,r',pl,hz⟩:=I.tuple hq;exact call_tuple_same pl ⟨.ref p,H,I,rfl,q⟩
def tyV(K:W.Frag)(T:String)(x:V)(H:Hp):Prop:=match x with
 |.str _=>T = "str"
 |.int _=>T = "int"
 |.ref p=>(T = "list"∧∃xs,SqL K H p xs)∨(T = "tuple"∧∃o,K.lookup p=some o∧o.cls=.type "tuple"∧o.dict=none)∨
   (T = "dict"∧((∃kvs,H p=some (.dK kvs))∨∃kvs,H p=some (.dT kvs)))∨(T = "set"∧∃S n,H p=some (.set S n))
 |_=>False
theorem Zjx{x:V}(I:Inv X pins σ H s)(r:RelV x v)(ty:tyV X.K T x H):
  s.TypeIs v T∧∀a,v=.ref a→∃ob,s.heap.get? a=some ob∧ob.dict=none:=by
 cases x with
 |str z=>
  obtain⟨t,rfl⟩:=r;cases (show T = "str" from ty);exact⟨typeIs_str s z t,λ_ e=>nomatch e⟩
 |int i=>
  obtain⟨t,rfl⟩:=r;cases (show T = "int" from ty);exact⟨typeIs_int s i t,λ_ e=>nomatch e⟩
 |ref p=>
  cases r
  rcases ty with ⟨rfl,xs,hq⟩|⟨rfl,o,hk,hc,hd⟩|⟨rfl,hk⟩|⟨rfl,S,n,hk⟩
  ·obtain⟨its,_,pl,_⟩:=I.list hq;refine⟨pl.isList.typeIs,λa e=>?_⟩;cases e;obtain⟨o,n,e,c,hd,_⟩:=pl;exact⟨o,e,hd⟩
  ·refine⟨⟨o,I.kIn p o hk,hc⟩,λa e=>?_⟩;cases e;exact⟨o,I.kIn _ o hk,hd⟩
  ·have z:∃o,s.heap.get? p=some o∧o.ExactDict:=by
    rcases hk with ⟨kvs,hk⟩|⟨kvs,hk⟩
    ·obtain⟨_,_,_,_,o,_,_,e,ex,_⟩:=I.hok p _ hk;exact⟨o,e,ex⟩
    ·obtain⟨_,_,_,_,o,_,_,e,ex,_⟩:=I.hok p _ hk;exact⟨o,e,ex⟩
   obtain⟨o,e,ex⟩:=z;refine⟨⟨o,e,ex.1⟩,λa e2=>?_⟩;cases e2;exact⟨o,e,ex.2.1⟩
  ·obtain⟨o,_,_,_,e,ex,_⟩:=I.hok p _ hk;refine⟨⟨o,e,ex.1⟩,λa e2=>?_⟩;cases e2;exact⟨o,e,ex.2.1⟩
 |_=>exact False.elim ty
def Zu9(K:W.Frag)(T:String)(r:V→List V→Hp→VK→Prop)(to:TE):TE:=λσ H Q=>to σ H λx H1=>tyV K T x H1∧r x [] H1 Q
def tBM(K:W.Frag)(T:String)(r:V→List V→Hp→VK→Prop)(to:TE)(t:TA):TE:=λσ H Q=>to σ H λx H1=>tyV K T x H1∧t σ H1 λxs H2=>r x xs H2 Q
variable {o e:Expr}{es:SA}{to:TE}{t:TA}{name:Str}{apos Xc:Pos}{T id:String}{r:V→List V→Hp→VK→Prop}
theorem Zs5(pa:PlainAttrs T)(slot:Slot T name id)(i9:typeOf (.builtin id)=pure (.type "method_descriptor"))(hm:MtR X id r)(ho:PE X o to)
  (Lh:attributeBase o name X.env (eval o X.env)=eval o X.env:=by rfl) (Lf:(apos.endLine==Xc.line)=true:=by rfl):PE X (.Call (.Attribute o name apos) [] [] Xc) (Zu9 X.K T r to):=by
 intro pins s σ H Q I h;refine wpAny_Call_method0_late Lh Lf (thn (ho pins s σ H _ I h) λv s1 ⟨x,H1,I1,r1,ty,q1⟩=>?_);obtain⟨h1,h2⟩:=Zjx I1 r1 ty;exact⟨T,id,pa,slot,i9,h1,h2,ZG rfl (PySem.evalArgs_none (hm pins s1 σ H1 x [] v [] Q I1 r1 .nil q1))⟩
theorem Zv1(pa:PlainAttrs T)(slot:Slot T name id)(i9:typeOf (.builtin id)=pure (.type "method_descriptor"))(hm:MtR X id r)(ho:PE X o to)(ha:PA X (e :: es) t)
  (Lh:attributeBase o name X.env (eval o X.env)=eval o X.env:=by rfl)
  (Zmz:((backTo Xc (starEach (e :: es) X.env)).all (λx=>!x.1)&&(backToKw Xc (keywordEach [] X.env)).all (λx=>x.1.isSome)
   && decide ((e :: es).length+([]:List Keyword).length+(if ([]:List Keyword).isEmpty then 0 else 1)<30))=true:=by rfl)
  (Lf:(apos.endLine==Xc.line)=true:=by rfl) (hs:starEach (e :: es) X.env=(false,eval e X.env) :: starEach es X.env:=by rfl) (Zem:(backTo Xc (starEach es X.env)).any (·.1)=false:=by rfl) :
  PE X (.Call (.Attribute o name apos) (e :: es) [] Xc) (tBM X.K T r to t):=by
 intro pins s σ H Q I h;refine wpAny_Call_method_late Lh Zmz Lf rfl (thn (ho pins s σ H _ I h) λv s1 ⟨x,H1,I1,r1,ty,q1⟩=>?_);obtain⟨h1,h2⟩:=Zjx I1 r1 ty;refine⟨T,id,pa,slot,i9,h1,h2,?_⟩;have hA:=ha Xc pins s1 σ H1 _ I1 q1;rw[hs]at hA ⊢;refine ZG (by show (false||(backTo Xc (starEach es X.env)).any (·.1))=false;rw[Zem]<;>rfl) (XB ?_);exact thn hA λus s2 ⟨vs,H2,I2,r2,q2⟩=>hm pins s2 σ H2 x vs v us Q I2 r1 r2 q2
end
def MtM(X:Cx)(id:String)(r:V→List V→Hp→VK→Prop):Prop:=
 ∀(pins:US) (s:Shared) (σ:St) (H:Hp) (x:V) (xs:List V) (v:Value) (us:UX) (Q:VK),Inv X pins σ H s→RelV x v→Vals xs us→r x xs H Q→
  wpAny (model X.prog X.w) X.A (call (.builtin id) (v :: us)) (EP X pins σ Q) X.xe s
theorem Vals.one:∀{x:V}{us:UX},Vals [x] us→∃u,us=[u]∧RelV x u
 |_,_,.cons r .nil=>⟨_,rfl,r⟩
theorem Vals.two:∀{x y:V}{us:UX},Vals [x,y] us→∃u v,us=[u,v]∧RelV x u∧RelV y v
 |_,_,_,.cons r (.cons q .nil)=>⟨_,_,rfl,r,q⟩
theorem Vals.zero:∀{us:UX},Vals [] us→us=[]
 |_,.nil=>rfl
theorem Vals.dropLast(h:Vals xs us):Vals xs.dropLast us.dropLast:=by
 induction h with
 |nil=>exact .nil
 |cons r t ih=>
  cases t with
  |nil=>exact .nil
  |cons q t'=>exact .cons r ih
theorem Vals.eraseIdx:∀{xs:List V}{us:UX} (i:Nat),Vals xs us→Vals (xs.eraseIdx i) (us.eraseIdx i)
 |_,_,_,.nil=>.nil
 |_,_,0,.cons _ t=>t
 |_,_,i+1,.cons r t=>.cons r (Vals.eraseIdx i t)
theorem Zes{α:Type}(l:List α):l.eraseIdx (l.length-1)=l.dropLast:=by
 induction l with
 |nil=>rfl
 |cons a r ih=>
  cases r with
  |nil=>rfl
  |cons b r=>
   have e:(a :: b :: r).length-1=((b :: r).length-1)+1:=by
    have h1:(a :: b :: r).length=r.length+2:=rfl;have h2:(b :: r).length=r.length+1:=rfl;lia
   rw[e,YM,ih]
   all_goals rfl
theorem Dp{α:Type}:∀(l:List α) (i:Nat),(l.eraseIdx i).length≤l.length
 |[],_=>oG _
 |_ :: _,0=>cY _
 |_ :: r,i+1=>Nat.succ_le_succ (Dp r i)
section
variable {X:Cx}{pins:US}{σ:St}{H:Hp}{s:Shared}{l b:Addr}{xs ys zs:List V}
theorem Inv.Zpp{its its':UX}{f:Array Value→Array Value}(I:Inv X pins σ H s)(hH:H l=some (.lst xs))
  (e:s.heap.get? l=some { cls:=.type "list",data:=.seq its.toArray n }) (hf:f its.toArray=its'.toArray) (hv:Vals ys its') (hz:ys.length≤sizeLine) :
  Inv X pins σ (upd H l (.lst ys)) { s with heap:=s.heap.update l (Obj.mapSeq f),toks:=t' }:=by
 have q:=PySem.IsL.update e f;rw[hf]at q;refine I.write (x:=l) (e:=l) (by rw[hH];exact trivial) (.inl rfl) (λb' u hb hu=>(lZ s.heap (Obj.mapSeq f) (iY hb)).trans hu) ⟨_,q⟩ ?_;exact⟨hz,its',_,hv,q⟩
theorem Inv.Zwc(I:Inv X pins σ H s)(hv:Vals ys its)(hz:ys.length≤sizeLine):
  Inv X pins σ (upd H s.heap.objs.size (.lst ys)) { s with heap:=s.heap.push { cls:=.type "list",data:=.seq its.toArray },toks:=t' }:=
 I.laid (λ_ _ q=>oE _ q) (oG _) ⟨hz,its,0,hv,oS _ rfl⟩
theorem Inv.fresh(I:Inv X pins σ H s):H s.heap.objs.size=none:=I.hok.fresh (oG _)
theorem Inv.Zed(I:Inv X pins σ H s)(hH:H l=some (.lst xs)):xs.length≤sizeLine∧∃(its:UX) (n:Nat),Vals xs its∧xs.length=its.length∧s.heap.get? l=some { cls:=.type "list",data:=.seq its.toArray n }:=by
 obtain⟨z,its,n,r,e⟩:=I.hok l _ hH;exact⟨z,its,n,r,r.length,e⟩
theorem Zl1(h:n≤sizeLine):Builtin.List.listTooLong n=false:=by
 unfold Builtin.List.listTooLong;exact decide_eq_false (by lia)
end
section
variable {X:Cx}
inductive Zbf(x:V)(vs:List V)(H:Hp)(Q:VK):Prop
 |mk(l xs y:_)(h1:x=.ref l)(h2:vs=[y])(h3:H l=some (.lst xs))(h4:xs.length<sizeLine)(h5:Q .non (upd H l (.lst (xs++[y])))):Zbf x vs H Q
def Zo1:V→List V→Hp→VK→Prop:=λx vs H Q=>Zbf x vs H Q
theorem Yp:MtM X "list.append" Zo1:=by
 intro pins s σ H x vs v us Q I rx rv h;obtain⟨l,xs,y,rfl,rfl,hH,hz,q⟩:=h;cases rx;obtain⟨u,rfl,ru⟩:=rv.one;obtain⟨z,its,n,r,hl,e⟩:=I.Zed hH;refine call_meets F.slot_list_append ⟨_,e,rfl⟩ F.entry_list_append (F.args_list_append_2 _ _) (PySem.list_append l its.toArray n u (by rw[oO];lia)) ⟨e,?_⟩;refine⟨.non,_,I.Zpp (its':=its++[u]) hH e (by simp) (r.append (.cons ru .nil)) ?_,rfl,q⟩;rw[oV,bF];lia
inductive Zbe(x:V)(vs:List V)(H:Hp)(Q:VK):Prop
 |mk(l b xs zs:_)(h1:x=.ref l)(h2:vs=[.ref b])(h3:H l=some (.lst xs))(h4:H b=some (.lst zs))(h5:xs.length+zs.length≤sizeLine)(h6:Q .non (upd H l (.lst (xs++zs)))):Zbe x vs H Q
def Zo0:V→List V→Hp→VK→Prop:=λx vs H Q=>Zbe x vs H Q
theorem Oi:MtM X "list.extend" Zo0:=by
 intro pins s σ H x vs v us Q I rx rv h;obtain⟨l,b,xs,zs,rfl,rfl,hH,hB,hz,q⟩:=h;cases rx;obtain⟨u,rfl,ru⟩:=rv.one;cases ru;obtain⟨z,its,n,r,hl,e⟩:=I.Zed hH;obtain⟨z2,Zb5,n2,r2,t0,e2⟩:=I.Zed hB;have hsz:its.toArray.size+Zb5.toArray.size≤sizeLine:=by rw[oO,oO];lia
 have Zwq:¬ (!its.toArray.isEmpty&&Builtin.List.listTooLong (its.toArray.size+Zb5.toArray.size))=true:=by
  rw[Zl1 hsz,Bool.and_false];exact lA
 refine call_meets F.slot_list_extend ⟨_,e,rfl⟩ F.entry_list_extend (F.args_list_extend_2 _ _)
  (AutoSeq1.list_extend_list_list_0 l its.toArray n b Zb5.toArray n2 Zwq (by rw[oO];lia) (by lia)) ⟨e,e2,?_⟩
 refine⟨.non,_,I.Zpp (its':=its++Zb5) hH e (by simp) (r.append r2) ?_,rfl,q⟩;rw[oV];lia
inductive Zrg(x:V)(vs:List V)(H:Hp)(Q:VK):Prop
 |mk(l xs y:_)(h1:x=.ref l)(h2:vs=[])(h3:H l=some (.lst xs))(h4:xs[xs.length-1]?=some y)(h5:Q y (upd H l (.lst xs.dropLast))):Zrg x vs H Q
def rPop:V→List V→Hp→VK→Prop:=λx vs H Q=>Zrg x vs H Q
theorem Nw:MtM X "list.pop" rPop:=by
 intro pins s σ H x vs v us Q I rx rv h;obtain⟨l,xs,y,rfl,rfl,hH,hy,q⟩:=h;cases rx;have hus:=rv.zero;subst hus;obtain⟨z,its,n,r,hl,e⟩:=I.Zed hH;obtain⟨u,hu,ru⟩:=r.get hy
 have hy':its.toArray[its.toArray.size-1]?=some u:=by
  show its.toArray[its.length-1]?=some u;rw[←lL,←hl];exact hu
 refine call_meets F.slot_list_pop ⟨_,e,rfl⟩ F.entry_list_pop (F.args_list_pop_1 _) (MeetsSeq.list_pop_last l its.toArray n u hy' (by rw[oO];lia)) ⟨e,?_⟩;refine⟨y,_,I.Zpp (its':=its.dropLast) hH e ?_ r.dropLast ?_,ru,q⟩
 ·show its.toArray.eraseIdxIfInBounds (its.toArray.size-1)=its.dropLast.toArray;rw[oO,VC,Zes]
 ·rw[XC];lia
inductive Zgo(x:V)(vs:List V)(H:Hp)(Q:VK):Prop
 |mk(l xs i k y:_)(h1:x=.ref l)(h2:vs=[.int i])(h3:H l=some (.lst xs))(h4 : -(2 ^ 63)≤i)(h5:i<2 ^ 63)(h6:seqIndex? i xs.length=some k)(h7:xs[k]?=some y)(h8:Q y (upd H l (.lst (xs.eraseIdx k)))):Zgo x vs H Q
def Zsx:V→List V→Hp→VK→Prop:=λx vs H Q=>Zgo x vs H Q
theorem Zl9:MtM X "list.pop" Zsx:=by
 intro pins s σ H x vs v us Q I rx rv h;obtain⟨l,xs,i,k,y,rfl,rfl,hH,h1,h2,hk,hy,q⟩:=h;cases rx;obtain⟨u,rfl,ru⟩:=rv.one;obtain⟨t,rfl⟩:=ru;obtain⟨z,its,n,r,hl,e⟩:=I.Zed hH;obtain⟨w,hw,o7⟩:=r.get hy
 refine call_meets F.slot_list_pop ⟨_,e,rfl⟩ F.entry_list_pop (F.args_list_pop_2 _ _)
  (MeetsSeq.list_pop_at l its.toArray n i t k w (fitsIndex_both h1 h2) (by rw[oO,←hl];exact hk) (by rw[←lL];exact hw) (by rw[oO];lia)) ⟨e,?_⟩
 refine⟨y,_,I.Zpp (its':=its.eraseIdx k) hH e ?_ (r.eraseIdx k) ?_,o7,q⟩
 ·show its.toArray.eraseIdxIfInBounds k=(its.eraseIdx k).toArray;rw[VC]
 ·have:=Dp xs k;lia
inductive Zrm(x:V)(y:V)(H:Hp)(Q:VK):Prop
 |mk(l b xs zs:_)(h1:x=.ref l)(h2:y=.ref b)(h3:H l=some (.lst xs))(h4:H b=some (.lst zs))(h5:xs.length+zs.length≤sizeLine)(h6:∀p,H p=none→Q (.ref p) (upd H p (.lst (xs++zs)))):Zrm x y H Q
def Zvw:R2:=λx y H Q=>Zrm x y H Q
theorem Zls:OpR X (binaryOp .Add) Zvw:=by
 intro pins s σ H x y v u Q I rx ry h;obtain⟨l,b,xs,zs,rfl,rfl,hH,hB,hz,q⟩:=h;cases rx;cases ry;obtain⟨z,its,n,r,hl,e⟩:=I.Zed hH;obtain⟨z2,Zb5,n2,r2,t0,e2⟩:=I.Zed hB;refine PySem.P.add_list e e2 ?_ (by rw[oO,oO];lia);have ea:its.toArray++Zb5.toArray=(its++Zb5).toArray:=by simp
 rw[ea];exact⟨.ref _,_,I.Zwc (t':=s.toks) (r.append r2) (by rw[oV];lia),rfl,q _ I.fresh⟩
end
section
variable {prog:Program}{w:World}{A:Around}{E:UQ}{s:Shared}
set_option maxRecDepth 100000 in
end
section
variable {X:Cx}
end
end L2
namespace Att
open PySem PySem.W PySem.Calls PyProof.Rows
theorem Jx{P:Params}{h:Heap}:∀(ns:List Int) (vs:UX),WellAll P h vs (ns.map WData.int)→IntsAre vs ns:=by
 intro ns
 induction ns with
 |nil=>
  intro vs w;rw[bQ]at w;cases w;exact .nil
 |cons n ns ih=>
  intro vs w;rw[oW]at w
  cases w with
  |cons a b=>
   cases a;exact .cons _ _ (ih _ b)
theorem Zh5{l:OpenLaw}{n:Nat}(hn:l.most=some n){P:Params}{h:Heap}{args:List WData}{vals:UX}
  (Nz:l.row.toRowW.claim.pre args=true) (jB:WellAll P h vals args) :
  ∃a vs ns,vals=[Value.ref a]∧args=[WData.list (ns.map WData.int)]∧h.get? a=some { cls:=.type "list",data:=.seq vs.toArray }∧IntsAre vs ns∧ns.length≤n:=by
 have hsh:WShape.hasAll [] args [.list .int]=true:=(pre_splitW Nz).1;have hc:l.pre.holds [] { args:=args } = true:=(pre_splitW Nz).2;obtain⟨d,r,rfl,h1,h2⟩:=hasAllW_cons hsh;obtain rfl:=hasAllW_nil h2;obtain⟨xs,rfl,h3⟩:=hasW_list h1;obtain⟨ns,rfl⟩:=items_int h3
 have hlen:ns.length≤n:=by
  unfold OpenLaw.pre at hc
  have h4:(WTm.not (.lt (.lit (.int (n:Int))) (.len (.arg 0)))).holds [] { args:=[.list (ns.map .int)] } = true:=by
   have h4:=(holds_andW hc).1;rw[hn]at h4;exact h4
  have h5:=condW_of h4 (w_not (w_lt w_lit (w_len_list (w_arg rfl))));rw[oB]at h5;refine Nat.le_of_not_lt λq=>?_;have q':(n:Int)<((ns.length:Nat):Int):=by lia
  first
   | (rw[decide_eq_true q']at h5;exact absurd h5 (by decide))
   | (simp at h5;lia)
 cases jB with
 |cons w1 w2=>
  cases w2
  cases w1 with
  |list ho Li=>exact⟨_,_,ns,rfl,rfl,ho,Jx ns _ Li,hlen⟩
theorem Zh9(l:OpenLaw)(args:List WData):l.row.toRowW.claim.post args (.bool true) args=true:=
 postW_of (r:=l.row.toRowW) (X:=(true==true))
  (show WShape.has [] (.bool true) .bool=true by first|rfl|decide|simp[WShape.has,WShape.arms,WShape.armsAll])
  (show (WTm.eq .res (.lit (.bool true))).value [] { args:=args,res:=some (.bool true),after:=args } = some (.bool (true==true)) from w_eq_bool (w_res rfl) w_lit) rfl
theorem Ja{l:OpenLaw}{n:Nat}{q:Program}{loose:List Str}{XP:RD}{YP:RX}{d:DefRec}
  (hn:l.most=some n) (mV:d.params.defaults=[])
  (call:∀(w:World) (s₀ x6:Shared) (mg mb:UW) (fa:Addr) (o:Obj) (pm cd doc:Value) (a:Addr) (vs:UX) (ns:List Int),
   Ground q loose [] XP w s₀ mg mb x6.heap→YP w x6.heap→
   x6.heap.get? fa=some o→o.data=.func (docDef d.name d.params d.body d.scope pm cd doc)→x6.heap.CodeRec cd d.name→mg d.name=some (.ref fa)→
   x6.heap.get? a=some { cls:=.type "list",data:=.seq vs.toArray }→IntsAre vs ns→ns.length≤n→x6.gens = #[]→
   codeAny (model l.prog w) callerA (.call (.ref fa) ⟨[.ref a],[]⟩) (λr s'=>r=.ok (.ret (.bool true))∧OldK x6.heap s'.heap∧s'.os=x6.os∧AllBare s'.gens) x6) :
  WalkO q loose XP YP l.row.toRowW d [] (λf vs=>PySem.call f vs):=by
 intro w s₀ x6 mg mb G Y fa o pm cd doc dV kV ho hd u7 hD sY hg args vals as Nz hlay fV jB hlo;obtain rfl:dV=.none:=Dflts.none hD mV;obtain rfl:kV=.none:=Dflts.noKw hD;obtain⟨a,vs,ns,rfl,rfl,Zmv,hints,hlen⟩:=Zh5 hn Nz jB;refine enter_call (YY (call w s₀ x6 mg mb fa o pm cd doc a vs ns G Y ho (fd_plain hd) u7 sY Zmv hints hlen hg) λr s' hq=>?_);obtain⟨rfl,h2,h3,h4⟩:=hq;exact⟨.inl ⟨.bool true,.bool true,[],rfl,λ_=>rfl,.bool true,Zh9 l _,λ_=>⟨List.Pairwise.nil,λ_ hm=>(nomatch hm)⟩⟩,h2,h3,h4⟩
section
variable {prog:Program}{w:World}{A:Around}{E:UQ}{s:Shared}{K:Frag}
def ledger(h:Heap)(L d:Addr):List UT:=(List.range h.objs.size).filterMap λa=>if a=L∨a=d then none else (h.get? a).map λo=>(a,o)
end
end Att
namespace L2
open PySem PySem.Spec PyProof.Rows
variable {CX:CXT}{K:W.Frag}{P q:Program}{XP:RD}{YP:RX}{a:Addr}{fd:FuncData}{loose:List Str}{mg:UW}{n:Nat}{sp:Sp}{vs:UX}{w:World}{x:Str}
theorem Ly:∀{vs:UX}{ns:List Int},IntsAre vs ns→Vals (ns.map V.int) vs
 |_,_,.nil=>.nil
 |_,_,.cons n t h=>.cons ⟨t,rfl⟩ (Ly h)
def Zuu(H:Hp):Prop:=∀b,H b=none∨∃o xs,H b=some (.frz o (.lst xs))
theorem Zmm{mb:UW}{k:Nat}{fa:Addr}{x:Str}{x6:Shared}{ns:List Int}
  (KX:K.In x6.heap) (u3:x6.heap.Ns mainGlobals mg) (hb:x6.heap.Ns builtinsNs mb) (sQ:∀x:Str,x≠"__name__"→mb x=bootBuiltins x) (Ztw:x6.heap.NoLimit) (hg:x6.gens = #[])
  (ha:x6.heap.get? a=some { cls:=.type "list",data:=.seq vs.toArray }) (hi:IntsAre vs ns) (hl:ns.length≤sizeLine) (hr:Vn k callerA)
  (F:∀base:Heap,K.In base→base.Ns mainGlobals mg→Ya P w K mg base CX k fa fd [x] sp) (Zm2:∀(s:Shared) (u:Value),BindsTo s fd ⟨[u],[]⟩ [(x,u)])
  (m6:∀H:Hp,Zuu H→SqL K H a (ns.map V.int)→sp [.ref a] H (λv _=>v=.bl true) λ_ _ _=>False)
  (mQ:∀H e s',CX [] H x6 (λ_ _ _=>False) e s'→False) :
  codeAny (model P w) callerA (.call (.ref fa) ⟨[.ref a],[]⟩) (λr s'=>r=.ok (.ret (.bool true))∧OldK x6.heap s'.heap∧s'.os=x6.os∧AllBare s'.gens) x6:=by
 have rv:=Ly hi;have Ztg:=hi.length
 have core:∀H:Hp,Zuu H→SqL K H a (ns.map V.int)→HOk P w H x6.heap→(∀b,H b≠none→b=a)→(H a≠none→K.lookup a=none)→
   codeAny (model P w) callerA (.call (.ref fa) ⟨[.ref a],[]⟩) (λr s'=>r=.ok (.ret (.bool true))∧OldK x6.heap s'.heap∧s'.os=x6.os∧AllBare s'.gens) x6:=by
  intro H hO hS hok hA hK;have Ou:∀{b:Addr}{o:Obj},x6.heap.get? b=some o→H b=none→(N0 x6.heap H).get? b=some o:=λe n=>Zb9 e n
  have eM:∀{b:Addr}{o:Obj}{es:Array DictEntry}{ep:Nat},x6.heap.get? b=some o→o.data=.dict es ep→H b=none:=λ{b o es ep} e d=>by
   cases q:H b with
   |none=>rfl
   |some u=>
    have e':b=a:=hA b (by rw[q];simp);subst e';rw[ha]at e;cases e;have d':Data.seq vs.toArray _=Data.dict es ep:=d;cases d'
  have yC:∀{b:Addr}{m:UW},x6.heap.Ns b m→(N0 x6.heap H).Ns b m:=λ{b m} ⟨o,es,ep,e,d,r⟩=>⟨o,es,ep,Ou e (eM e d),d,r⟩
  have tV:K.In (N0 x6.heap H):=λb o e=>Ou (KX b o e) (by
   cases q:H b with
   |none=>rfl
   |some u=>
    have e':b=a:=hA b (by rw[q];simp);subst e'
    rw[hK (by rw[q];simp)]at e;cases e)
  have hM:Mod K mg (N0 x6.heap H):=⟨tV,yC u3,⟨mb,yC hb,sQ⟩,let ⟨mc,h1,h2⟩:=Ztw;⟨mc,yC h1,h2⟩⟩;have e0:Zfh P w K mg (N0 x6.heap H) callerA [] x6 H:=⟨rfl,hM,λb o e=>Zgy e,VE (Du _ _),trivial,λb hb=>absurd (show b∈([]:List Addr) from hb) (by simp),hok,.of_eq hg⟩;refine YY ((F _ tV (yC u3)).run callerA [] x6 H ⟨[.ref a],[]⟩ [.ref a] [.ref a] _ _ hr e0 (Zm2 x6 (.ref a)) (.cons rfl .nil) (m6 H hO hS)) λr s' h=>?_
  cases r with
  |error e=>exact(mQ H e s' h).elim
  |ok fl=>
   cases fl with
   |next=>exact False.elim h
   |brk=>exact False.elim h
   |cont=>exact False.elim h
   |ret u=>
    obtain⟨v,H',os,bare,un,Zpz,r',q⟩:=h;have q':v=.bl true:=q;subst q';obtain rfl:u=Value.bool true:=r';refine⟨rfl,OldK.of_keep λb o e=>?_,os,bare⟩
    cases q:H b with
    |none=>exact un.keep b o e q (by intro z;exact absurd (show b∈([]:List Addr) from z) (by simp)) (by simp)
    |some u=>
     rcases hO b with z|⟨ob,xs,z⟩
     ·rw[q]at z;cases z
     ·have z2:=un.Gr b ob _ z;obtain⟨e1,_⟩:=hok b _ z;obtain⟨e2,_⟩:=Zpz b _ z2;rw[e]at e1;cases e1;exact e2
 cases hk:K.lookup a with
 |some o=>
  have e:=KX a o hk;rw[ha]at e;cases e;refine core (λ_=>none) (λ_=>.inl rfl) (.inr ⟨_,vs.toArray,_,hk,rfl,rfl,rfl,by rw[oO,Ztg];exact hl,by simpa using rv⟩) (λb u z=>by have z':(none:Option HO)=some u:=z;cases z') (λb z=>absurd rfl z) λz=>absurd rfl z
 |none=>
  refine core (λb=>if b=a then some (.frz { cls:=.type "list",data:=.seq vs.toArray } (.lst (ns.map V.int))) else none) (λb=>?_) (.inl (.inr ⟨{ cls:=.type "list",data:=.seq vs.toArray },if_pos rfl⟩)) (λb u z=>?_) (λb z=>?_) λ_=>hk
  ·by_cases hb:b=a
   ·exact .inr ⟨_,_,if_pos hb⟩
   ·exact .inl (if_neg hb)
  ·by_cases hb:b=a
   ·have z':=(if_pos hb).symm.trans z;cases z';subst hb;exact⟨ha,by rw[oB];exact hl,vs,_,rv,ha⟩
   ·have z':=(if_neg hb).symm.trans z;cases z'
  ·by_cases hb:b=a
   ·exact hb
   ·exact absurd (if_neg hb) z
abbrev KOf{K:W.Frag}{h:Heap}(_:K.In h):W.Frag:=K
theorem Zoj{l:W.OpenLaw}{k:Nat}{d:DefRec}{K:Params→W.Frag}{CX:World→CXT}{sp:World→Sp} 
  (hn:l.most=some n) (q9:n≤sizeLine) (mV:d.params.defaults=[]) (hr:Vn k callerA)
  (hY:∀(w:World) (h:Heap),YP w h→(K w.params).In h)
  (F:∀(w:World) (mg:UW) (fa:Addr) (h:Heap),(K w.params).In h→h.Ns mainGlobals mg→mg d.name=some (.ref fa)→
   ∃fd:FuncData,(∀(s:Shared) (u:Value),BindsTo s fd ⟨[u],[]⟩ [(x,u)])∧
    ∀base:Heap,(K w.params).In base→base.Ns mainGlobals mg→Ya l.prog w (K w.params) mg base (CX w) k fa fd [x] (sp w))
  (m6:∀(w:World) (H:Hp) (a:Addr) (ns:List Int),ns.length≤n→Zuu H→SqL (K w.params) H a (ns.map V.int)→sp w [.ref a] H (λv _=>v=.bl true) λ_ _ _=>False)
  (mQ:∀(w:World) (H:Hp) (s:Shared) (e:Value) (s':Shared),CX w [] H s (λ_ _ _=>False) e s'→False) :
  W.WalkO q loose XP YP l.row.toRowW d [] (λf vs=>PySem.call f vs):=by
 refine Att.Ja hn mV λw s₀ x6 mg mb fa o pm cd doc a vs ns G Y ho hd u7 sY Zmv hints hlen hg=>?_;have KX:=hY w _ Y;obtain⟨fd,hb,hF⟩:=F w mg fa _ KX G.T.g sY;exact Zmm KX G.T.g G.T.b G.T.builtins G.T.nolimit hg Zmv hints (lI hlen q9) hr hF hb (λH hO hS=>m6 w H a ns hlen hO hS) λH e s'=>mQ w H x6 e s'
end L2
/- THE LAST THEOREM (shape;LID,My.* are yours):
   My.Adr:a structure of jH addresses that your layer names (classes,Zuy);My.Txt K t:a structure (Prop) of jH equations over K;
   My.Zr9:{K} {implicit addresses ..} (e1:nsIn K mainGlobals "law"=some (some (.ref f))) (e2:K.lookup f=some ⟨oc,od,.func (fnOf "law" "law" params body scope dV kV doc pm an cdv ct),sl⟩) (e3:codeIn K cdv "law"=true) .. : ∃t,My.Txt K t
set_option maxRecDepth 100000 in
set_option maxHeartbeats 0 in
theorem PySem.Challenge.Zqd:PySem.Challenge.Zsu.Holds := by
 w_on;o_law;k_head;(case hw=>w_witness2)
 k_fill
 refine L2.Zoj (l:=PySem.Challenge.Zsu) (n:=63) (k:=40) (x:="script") (CX:=λw=>..) (sp:=λ_=>My.sp_law) rfl (by decide) rfl ⟨rfl,by decide,by decide⟩ (λw h Y=>W.kIn_of Y) ?F ?S ?C
 case F=>
  intro w mg fa h KX G sY
  have T:∃t,My.Txt (L2.KOf KX) t:=by
   dsimp only[L2.KOf]                          -- K must stand as «<heap const> w.params» for k_is;refine' My.Zr9 ?e1 ?e2 ?e3 ..
   (case e1=>W.k_is)                    -- in jH order:a name -> its address -> its object -> its parts
   (case e2=>W.k_is)
   ..
  obtain⟨t,T⟩:=T;have e0:=sY.symm.trans (YB KX G T.law);cases e0                                       -- fa is jH law's own address;exact⟨_,λs u=>.of_eq rfl,λbase kb nb=>My.Ztj T kb nb⟩     -- if «.of_eq rfl» comes too early:refine' ⟨_,?b,λbase kb nb=>My.Ztj T kb nb⟩;exact λs u=>.of_eq rfl
 case S=>exact λw H a ns hl hO hS=>..
 case C=>exact ..
(jH tactic k_is has no namespace:write k_is) -/
namespace L2
open PySem PySem.Spec PyProof.Rows
variable {A:Around}{B:Prop}{CX:CXT}{D:Ends}{E Q:UQ}{H H' H1 H2:Hp}{I T0 a b c d f i1 i2 it l1 l2 z:Addr}{K:W.Frag}{M:Model}{N loose ps zs:List Str}{P q:Program}{R:Result→Shared→Prop}{T:String}{X:Cx}{XP:RD}{YP:RX}{apos Xc p p2 pos Mt:Pos}{base h h':Heap}{body:List Stmt}{ct doc oc pm u v:Value}{ds:List Dt}{e l tg:Expr}{env:Env}{ep i j m n t':Nat}{es:SA}{fd:FuncData}{fp:SM}{fv xs:List V}{g:TG}{items ys:TH}{its ks us vs:UX}{kvs:List (List Key×V)}{mg:UW}{name qual x:Str}{o:Obj}{od:TZ}{params:Arguments}{pins:US}{s:Shared}{sc scope:Scope}{sp:Sp}{st:Stmt}{tb:TS}{td te tl ty:TE}{w:World}{y:V}{σ:St}
def Va(s:Stmt):Arguments:=match s with
 |.FunctionDef _ a _ _ _ _ _ _ _ _=>a
 |_=>{ posonlyargs:=[],args:=[],vararg:=none,kwonlyargs:=[],kw_defaults:=[],kwarg:=none,defaults:=[] }
def Xi(s:Stmt):List Stmt:=match s with
 |.FunctionDef _ _ b _ _ _ _ _ _ _=>b
 |_=>[]
def Ze(s:Stmt):Scope:=match s with
 |.FunctionDef _ _ _ _ _ _ sc _ _ _=>sc
 |_=>{ kind:=.function,names:=[],isGenerator:=false,isCoroutine:=false }
abbrev CX0:CXT:=λ_ _ _ _ _ _=>False
abbrev E0:XK:=λ_ _ _=>False
theorem Zro:Passes CX0 X E0:=λ_ _ _ _ _ _ _ h=>h.elim
structure Fun(K:W.Frag)(x qual:Str)(st:Stmt)(f:Addr)(fd:FuncData):Prop where
 ex:∃(oc:Value) (od:TZ) (kV doc pm:Value) (an:TZ) (cdv ct:Value) (osl:TN),
  fd=W.fnOf x qual (Va st) (Xi st) (Ze st) .none kV doc pm an cdv ct∧K.lookup f=some ⟨oc,od,.func fd,osl⟩∧W.codeIn K cdv qual=true
 kp:W.keepIn K (.ref f)=true
section
variable {P:Program}{w:World}{K:W.Frag}{mg:UW}{base:Heap}
theorem Fun.ok{k:Nat}(F:Fun K x qual st f fd)(S:Zt N ps (Ze st))(len:∀vs H Q E,sp vs H Q E→vs.length=ps.length)
  (Q8:∀(cdv:Value) (A:Around) (outer:List Env) (s:Shared) (H:Hp) (vs:List V) (Q:VK) (E:XK),Vn k (A.deeper (envOfC qual (Ze st) s.heap.objs.size f cdv))→sp vs H Q E→
   ∃t,PSs (Ee CX0 P w K mg base N qual (Ze st) f cdv A outer s H E).nox (Xi st) t∧t { nx:=λ_ H'=>Q .non H',rt:=Q } (start N vs) H):Ya P w K mg base CX0 (k+1) f fd ps sp:=by
 obtain⟨oc,od,kV,doc,pm,an,cdv,ct,osl,rfl,lk,u7⟩:=F.ex;refine Zr1 lk u7 S len λA outer s H vs Q E hr m6=>?_;obtain⟨t,h,q⟩:=Q8 cdv A outer s H vs Q E hr m6;exact⟨t,h.nox,q⟩
theorem Fun.binds(F:Fun K x qual st f fd)
  (h:∀(kV doc pm:Value) (an:TZ) (cdv ct:Value) (us:UX),us.length=ps.length→bindArgs (W.fnOf x qual (Va st) (Xi st) (Ze st) .none kV doc pm an cdv ct) ⟨us,[]⟩=pure (ps.zip us)):Binds K fd ps []:=by
 obtain⟨oc,od,kV,doc,pm,an,cdv,ct,osl,rfl,lk,u7⟩:=F.ex;exact .all (h kV doc pm an cdv ct)
theorem fun_mk{an:TZ}{osl:TN}{kV cdv:Value}(l:K.lookup f=some ⟨oc,od,.func (W.fnOf x qual (Va st) (Xi st) (Ze st) .none kV doc pm an cdv ct),osl⟩)
  (c:W.codeIn K cdv qual=true) (k:W.keepIn K (.ref f)=true):Fun K x qual st f (W.fnOf x qual (Va st) (Xi st) (Ze st) .none kV doc pm an cdv ct):=⟨⟨oc,od,kV,doc,pm,an,cdv,ct,osl,rfl,l,c⟩,k⟩
end
theorem Ug{k:Nat}(hr:Vn k A):A.units+1<cLine:=bK (Nat.add_le_add_left (by decide:1≤64) _) hr.units
theorem Z1(h:n≤1000):n<sizeLine:=bK h (by decide)
section
variable {X:Cx}
theorem pv(i:Nat)(hN:X.N[i]?=some x:=by rfl)(hv:Vis X.env.scope x:=by first|exact Or.inl rfl|exact Or.inr (Or.inl rfl)|exact Or.inr (Or.inr rfl))(hd:(x==("__debug__" : Str))=false:=by decide)
  (u7:(x==("__classdict__" : Str))=false:=by decide):PE X (.Name x pos) (L5 i):=Zlg hN hv hd u7
end
theorem Rj{A:Prop}(h:B):if false=true then A else B:=by
 rw[if_neg lA];exact h
theorem Kj{A:Prop}(h:A):if true=true then A else B:=by
 rw[if_pos rfl];exact h
theorem Rk{c A:Prop} [Decidable c] (h1:c→A) (h2:¬ c→B):if c then A else B:=by
 by_cases h:c
 ·rw[if_pos h];exact h1 h
 ·rw[if_neg h];exact h2 h
theorem Zha{c A:Prop} [Decidable c] (hc:c) (h:B):if (!decide c)=true then A else B:=by
 rw[decide_eq_true hc];exact Rj h
def Zl(H H':Hp):Prop:=∀b o,H b=some o→H' b=some o
theorem Zl.refl(H:Hp):Zl H H:=λ_ _ h=>h
theorem Zl.trans(a:Zl H H1)(b:Zl H1 H2):Zl H H2:=λc o h=>b c o (a c o h)
theorem Zl.free(e:Zl H H'){l:Addr}(h:H' l=Option.none):H l=Option.none:=by
 cases q:H l with
 |none=>rfl
 |some o=>
  rw[e l o q]at h;cases h
section
variable {κ:Type} [DecidableEq κ]
def Yz(kvs:List (κ×V))(k:κ):Option V:=(kvs.find? λkv=>decide (kv.1=k)).map (·.2)
def putK(kvs:List (κ×V))(k:κ)(v:V):List (κ×V):=
 if (kvs.any λkv=>decide (kv.1=k))=true then kvs.map (λkv=>if kv.1=k then (kv.1,v) else kv) else kvs++[(k,v)]
theorem Zjw{k:κ}:Yz ([]:List (κ×V)) k=none:=rfl
theorem Xl{p:κ×V}{r:List (κ×V)}{k:κ}(e:p.1=k):Yz (p :: r) k=some p.2:=by simp[Yz,YR,e]
theorem Xa{p:κ×V}{r:List (κ×V)}{k:κ}(e:¬ p.1=k):Yz (p :: r) k=Yz r k:=by simp[Yz,YR,e]
theorem Qg(k:κ):∀kvs:List (κ×V),(kvs.any λkv=>decide (kv.1=k))=(Yz kvs k).isSome
 |[]=>rfl
 |p :: r=>by
  rw[WQ]
  by_cases e:p.1=k
  ·simp only[Xl e,decide_eq_true e,Bool.true_or,Option.isSome_some]
  ·rw[Xa e,decide_eq_false e,Bool.false_or];exact Qg k r
theorem Zaa(k j:κ)(y:V):∀kvs:List (κ×V),Yz (kvs.map λkv=>if kv.1=k then (kv.1,y) else kv) j=(Yz kvs j).map λx=>if j=k then y else x
 |[]=>rfl
 |p :: r=>by
  have ih:=Zaa k j y r;rw[oW]
  by_cases h:p.1=k
  ·rw[if_pos h]
   by_cases e:p.1=j
   ·rw[Xl (p:=(p.1,y)) e,Xl e,YS,if_pos (e.symm.trans h)]
   ·rw[Xa (p:=(p.1,y)) e,Xa e,ih]
  ·rw[if_neg h]
   by_cases e:p.1=j
   ·rw[Xl (p:=p) e,Xl e,YS,if_neg (λz=>h (e.trans z))]
   ·rw[Xa (p:=p) e,Xa e,ih]
theorem En(k j:κ)(y:V):∀kvs:List (κ×V),Yz kvs k=none→Yz (kvs++[(k,y)]) j=if j=k then some y else Yz kvs j
 |[],_=>by
  by_cases e:k=j
  ·rw[if_pos e.symm];exact Xl (p:=(k,y)) e
  ·rw[if_neg (λz=>e z.symm)];exact Xa (p:=(k,y)) e
 |p :: r,hn=>by
  rw[List.cons_append];have hk:¬ p.1=k:=λz=>by rw[Xl z]at hn;cases hn
  rw[Xa hk]at hn;have ih:=En k j y r hn
  by_cases e:p.1=j
  ·rw[Xl e,Xl e,if_neg (λz=>hk (e.trans z))]
  ·rw[Xa e,Xa e,ih]
theorem Ij(kvs:List (κ×V))(k j:κ)(y:V):Yz (putK kvs k y) j=if j=k then some y else Yz kvs j:=by
 unfold putK
 by_cases a:(kvs.any λkv=>decide (kv.1=k))=true
 ·rw[if_pos a,Zaa];rw[Qg]at a
  by_cases e:j=k
  ·obtain⟨x,hx⟩:=XO.mp a;rw[if_pos e,e,hx,YS,if_pos rfl]
  ·rw[if_neg e]
   cases Yz kvs j with
   |none=>rfl
   |some x=>rw[YS,if_neg e]
 ·rw[if_neg a];refine En k j y kvs ?_;rw[Qg]at a
  cases q:Yz kvs k with
  |none=>rfl
  |some x=>rw[q]at a;exact(a rfl).elim
theorem V9(kvs:List (κ×V))(k:κ)(v:V):(putK kvs k v).length≤kvs.length+1:=by
 unfold putK
 split
 ·rw[oB];lia
 ·rw[oV,lG,ZA];lia
theorem Mq{kvs:List (κ×V)}{k:κ}(v:V)(h:Yz kvs k=none):putK kvs k v=kvs++[(k,v)]:=by
 unfold putK;rw[Qg,h];exact if_neg (by decide)
theorem Kp.Kk{o:Option V}{u:Option Value}(r:Kp o u):o.isSome=u.isSome:=by
 cases o with
 |none=>cases u with
  |none=>rfl
  |some _=>exact(show False from r).elim
 |some _=>cases u with
  |none=>exact(show False from r).elim
  |some _=>rfl
theorem KV.val{kvs:List (κ×V)}{vs:List (κ×Value)}(r:KV kvs vs)(k:κ):Kp (Yz kvs k) (valueAt vs k):=by
 unfold KV at r
 induction r with
 |nil=>exact True.intro
 | @cons p q ps qs h t ih=>
  obtain⟨h1,h2⟩:=h
  by_cases e:p.1=k
  ·have e':q.1=k:=h1.symm.trans e;have b:valueAt (q :: qs) k=some q.2:=by simp[valueAt,YR,e']
   rw[Xl e,b];exact h2
  ·have e':¬ q.1=k:=λz=>e (h1.trans z);have b:valueAt (q :: qs) k=valueAt qs k:=by simp[valueAt,YR,e']
   rw[Xa e,b];exact ih
theorem KV.any{kvs:List (κ×V)}{vs:List (κ×Value)}(r:KV kvs vs)(k:κ):(kvs.any λkv=>decide (kv.1=k))=vs.any λkv=>decide (kv.1=k):=by
 unfold KV at r
 induction r with
 |nil=>rfl
 |cons h t ih=>rw[WQ,WQ,ih,h.1]
theorem KV.Zsv{kvs:List (κ×V)}{vs:List (κ×Value)}(r:KV kvs vs)(k:κ)(ry:RelV y u):
  KV (kvs.map λkv=>if kv.1=k then (kv.1,y) else kv) (vs.map λkv=>if kv.1=k then (kv.1,u) else kv):=by
 unfold KV at r ⊢
 induction r with
 |nil=>exact .nil
 | @cons p q ps qs h t ih=>
  rw[oW,oW];refine .cons ?_ ih;obtain⟨h1,h2⟩:=h
  by_cases e:p.1=k
  ·rw[if_pos e,if_pos (h1.symm.trans e)];exact⟨h1,ry⟩
  ·rw[if_neg e,if_neg (λz=>e (h1.trans z))];exact⟨h1,h2⟩
theorem KV.put{kvs:List (κ×V)}{vs:List (κ×Value)}(r:KV kvs vs)(k:κ)(ry:RelV y u):KV (putK kvs k y) (stored vs k u):=by
 unfold putK stored;rw[r.any k]
 by_cases e:(vs.any λkv=>decide (kv.1=k))=true
 ·rw[if_pos e,if_pos e];exact r.Zsv k ry
 ·rw[if_neg e,if_neg e];exact Paired.snoc r ⟨rfl,ry⟩
theorem KV.length{kvs:List (κ×V)}{vs:List (κ×Value)}(r:KV kvs vs):kvs.length=vs.length:=YQ r
end
theorem Gh{k:Key}(r:RelV (kV k) u):(Z8 P w).is k u=true:=by
 cases k with
 |inl i=>obtain⟨t,e⟩:=(show ∃t,u=Value.int i t from r);subst e;exact Zb0 P w i t
 |inr x=>obtain⟨t,e⟩:=(show ∃t,u=Value.str x t from r);subst e;exact Zbz P w x t
theorem Dr{P:Program}{w:World}:∀{ks:List Key}{us:UX},Vals (ks.map kV) us→ItemsAre (Z8 P w) ks us
 |[],_,r=>by rw[bQ]at r;cases r;exact .nil
 |k :: ks,_,r=>by
  rw[oW]at r
  cases r with
  |cons h t=>exact .cons (Gh h) (Dr t)
abbrev KT(H:Hp):List (List Key×V)→List (List Key×Addr×Value)→Prop:=Paired λp q=>p.1=q.1∧H q.2.1=some (.tup (p.1.map kV))∧RelV p.2 q.2.2
theorem KT.val{xs:List (List Key×Addr×Value)}(r:KT H kvs xs)(k:List Key):Kp (Yz kvs k) ((atKey xs k).map (·.2)):=by
 induction r with
 |nil=>exact True.intro
 | @cons p q ps qs h t ih=>
  obtain⟨h1,_,h2⟩:=h
  by_cases e:p.1=k
  ·have e':q.1=k:=h1.symm.trans e;have b:atKey (q :: qs) k=some q.2:=by simp[atKey,YR,e']
   rw[Xl e,b];exact h2
  ·have e':¬ q.1=k:=λz=>e (h1.trans z);have b:atKey (q :: qs) k=atKey qs k:=by simp[atKey,YR,e']
   rw[Xa e,b];exact ih
theorem KT.Zsv{xs:List (List Key×Addr×Value)}(r:KT H kvs xs)(k:List Key)(ry:RelV y u):
  KT H (kvs.map λkv=>if kv.1=k then (kv.1,y) else kv) (xs.map (putAt k u)):=by
 induction r with
 |nil=>exact .nil
 | @cons p q ps qs h t ih=>
  rw[oW,oW];refine .cons ?_ ih;obtain⟨h1,h2,h3⟩:=h;unfold putAt
  by_cases e:p.1=k
  ·rw[if_pos e,if_pos (h1.symm.trans e)];exact⟨h1,h2,ry⟩
  ·rw[if_neg e,if_neg (λz=>e (h1.trans z))];exact⟨h1,h2,h3⟩
theorem KT.put{xs:List (List Key×Addr×Value)}(r:KT H kvs xs)(k:List Key)(hb:H b=some (.tup (k.map kV)))(ry:RelV y u):
  KT H (putK kvs k y) (storedH xs k b u):=by
 have e:(kvs.any λkv=>decide (kv.1=k))=(atKey xs k).isSome:=by
  rw[Qg,(r.val k).Kk,Option.isSome_map]
 unfold putK storedH;rw[e]
 by_cases q:(atKey xs k).isSome=true
 ·rw[if_pos q,if_pos q];exact r.Zsv k ry
 ·rw[if_neg q,if_neg q];exact Paired.snoc r ⟨rfl,hb,ry⟩
theorem KT.keeps{xs:List (List Key×Addr×Value)}(r:KT H kvs xs)(ht:∀b ys,H b=some (.tup ys)→H' b=some (.tup ys)):KT H' kvs xs:=
 Paired.Ztc r λ_ _ z=>⟨z.1,ht _ _ z.2.1,z.2.2⟩
section
variable {P:Program}{w:World}{H:Hp}{h:Heap}{a:Addr}
theorem Zra{u:HO}(ok:HOk P w H h)(e:Rd H a u):Yy P w H h a u:=e.ok ok
theorem Zcj{kvs:List (Key×V)}(ok:HOk P w H h)(e:Rd H a (.dK kvs)):kvs.length≤sizeLine∧(a==sysModules)=false∧∃vs,KV kvs vs∧h.DictOf (Z8 P w) a vs:=
 show Yy P w H h a (.dK kvs) from Zra ok e
theorem Zr2{kvs:List (Key×V)}(ok:HOk P w H h)(e:H a=some (.dK kvs)):kvs.length≤sizeLine∧(a==sysModules)=false∧∃vs,KV kvs vs∧h.DictOf (Z8 P w) a vs:=Zcj ok (.inl e)
theorem Ki{ks:List Key}(ok:HOk P w H h)(e:H a=some (.tup (ks.map kV))):(tupleKind (Z8 P w)).is h ks a:=by
 obtain⟨_,its,r,o,h1,h2,n,h3⟩:=(show Yy P w H h a (.tup (ks.map kV)) from ok a _ e);exact⟨o,its.toArray,n,h1,h2,h3,by simpa using Dr r⟩
theorem Zcg(ok:HOk P w H h)(e:Rd H a (.dT kvs)):kvs.length≤sizeLine∧(a==sysModules)=false∧
  ∃xs,KT H kvs xs∧h.DictOfH (tupleKind (Z8 P w)) a xs:=by
 obtain⟨z,y,xs,r,o,es,ep,h1,h2,h3,h4,h5⟩:=(show Yy P w H h a (.dT kvs) from Zra ok e);refine⟨z,y,xs,r,o,es,ep,h1,h2,h3,h4,λx hx=>?_,h5⟩
 have all:∀{l:List (List Key×V)}{m:List (List Key×Addr×Value)},KT H l m→∀x∈m,(tupleKind (Z8 P w)).is h x.1 x.2.1:=by
  intro l m q
  induction q with
  |nil=>intro x hx;exact nomatch hx
  | @cons p q ps qs hq t ih=>
   intro x hx
   rcases oX.mp hx with e|hx
   ·subst e;exact Ki ok (by rw[←hq.1];exact hq.2.1)
   ·exact ih x hx
 exact all r x hx
theorem Znm(ok:HOk P w H h)(e:H a=some (.dT kvs)):kvs.length≤sizeLine∧(a==sysModules)=false∧
  ∃xs,KT H kvs xs∧h.DictOfH (tupleKind (Z8 P w)) a xs:=Zcg ok (.inl e)
end
def O0(H:Hp)(a:Addr)(y:V)(r:Option V):Prop:=
 (∃kvs k,Rd H a (.dK kvs)∧y=kV k∧r=Yz kvs k)∨∃kvs k b,Rd H a (.dT kvs)∧y=.ref b∧H b=some (.tup (k.map kV))∧r=Yz kvs k
def Ei(H:Hp)(a:Addr)(y v:V)(H':Hp):Prop:=
 (∃kvs k,H a=some (.dK kvs)∧y=kV k∧kvs.length<sizeLine∧H'=upd H a (.dK (putK kvs k v)))∨
 ∃kvs k b,H a=some (.dT kvs)∧y=.ref b∧H b=some (.tup (k.map kV))∧kvs.length<sizeLine∧H'=upd H a (.dT (putK kvs k v))
theorem O0.k{kvs:List (Key×V)}{k:Key}(e:H a=some (.dK kvs)):O0 H a (kV k) (Yz kvs k):=.inl ⟨kvs,k,.inl e,rfl,rfl⟩
theorem O0.t{k:List Key}(e:H a=some (.dT kvs))(eb:H b=some (.tup (k.map kV))):O0 H a (.ref b) (Yz kvs k):=.inr ⟨kvs,k,b,.inl e,rfl,eb,rfl⟩
theorem Ei.k{kvs:List (Key×V)}{k:Key}{v:V}(e:H a=some (.dK kvs))(hl:kvs.length<sizeLine):Ei H a (kV k) v (upd H a (.dK (putK kvs k v))):=.inl ⟨kvs,k,e,rfl,hl,rfl⟩
theorem Ei.t{k:List Key}{v:V}(e:H a=some (.dT kvs))(eb:H b=some (.tup (k.map kV)))(hl:kvs.length<sizeLine):
  Ei H a (.ref b) v (upd H a (.dT (putK kvs k v))):=.inr ⟨kvs,k,b,e,rfl,eb,hl,rfl⟩
section
variable {X:Cx}{pins:US}{σ:St}{H:Hp}{s:Shared}{a:Addr}{y v:V}{u r:Value}{o:Option V}{A:Around}{E:UQ}
theorem Inv.big(I:Inv X pins σ H s):sysModules<s.heap.objs.size:=by
 have h:mainGlobals<s.heap.objs.size:=(I.mod.glob.keeps I.bk).lt;exact VF (by decide) h
theorem Zi8(hu:A.units+1<cLine)(I:Inv X pins σ H s)(g:O0 H a y (some v))(ry:RelV y u)(h:∀w' s',Inv X pins σ H s'→RelV v w'→Q w' s'):
  wpAny (model X.prog X.w) A (getItem (.ref a) u) Q E s:=by
 rcases g with ⟨kvs,k,e,ey,l⟩|⟨kvs,k,b,e,ey,eb,l⟩
 ·subst ey;obtain⟨z,hd,vs,rel,dd⟩:=Zcj I.hok e;obtain⟨w',hw,o7⟩:=Kp.some_of (v:=v) (o:=valueAt vs k) (by rw[l];exact rel.val k);exact wpAny_getItem_of (Gh ry) dd.mapOf hw (h w' _ (I.tok _) o7)
 ·subst ey;cases (show u=Value.ref b from ry);obtain⟨z,hd,xs,rel,dd⟩:=Zcg I.hok e;obtain⟨w',hw,o7⟩:=Kp.some_of (v:=v) (o:=(atKey xs k).map (·.2)) (by rw[l];exact rel.val k);obtain⟨p,hp,kH⟩:=Option.map_eq_some_iff.mp hw;refine wpAny_getItem_heap (tupleKind_room_in1 hu) (Ki I.hok eb) dd hp ?_;rw[kH];exact h w' _ (I.tok _) o7
theorem Zqb(hu:A.units+1<cLine)(I:Inv X pins σ H s)(g:O0 H a y o)(ry:RelV y u)(h:∀s',Inv X pins σ H s'→Q (.bool (!o.isSome)) s'):
  wpAny (model X.prog X.w) A (compareOp .NotIn u (.ref a)) Q E s:=by
 rcases g with ⟨kvs,k,e,ey,l⟩|⟨kvs,k,b,e,ey,eb,l⟩
 ·subst ey;obtain⟨z,hd,vs,rel,dd⟩:=Zcj I.hok e;refine wpAny_notIn_of (Gh ry) hd dd.mapOf ?_;rw[←(rel.val k).Kk,←l];exact h _ (I.tok _)
 ·subst ey;cases (show u=Value.ref b from ry);obtain⟨z,hd,xs,rel,dd⟩:=Zcg I.hok e;refine wpAny_notIn_heap (tupleKind_room_in1 hu) (Ki I.hok eb) hd dd ?_;have q:=(rel.val k).Kk;rw[Option.isSome_map]at q;rw[←q,←l];exact h _ (I.tok _)
theorem Om{ob:HO}(I:Inv X pins σ H s)(mu:Mut (H a))(hs:Heap.SameBut a s.heap h')(he:∃q,h'.get? a=some q)(new:Yy X.prog X.w (upd H a ob) h' a ob):
  Inv X pins σ (upd H a ob) { s with heap:=h',toks:=t' }:=
 I.write (x:=a) (e:=a) mu (.inl rfl) (λb q hb z=>(hs.2 b hb).trans z) he new
theorem Zex{kvs:List (Key×V)}{vs:List (Key×Value)}(z:kvs.length≤sizeLine)(hd:(a==sysModules)=false)(rel:KV kvs vs)(dd:h'.DictOf (Z8 P w) a vs):
  Yy P w H' h' a (.dK kvs):=⟨z,hd,vs,rel,dd⟩
theorem Zi7{Q:SK}(hu:A.units+1<cLine)(I:Inv X pins σ H s)(g:Ei H a y v H')(ry:RelV y u)(rv:RelV v r)(h:∀s',Inv X pins σ H' s'→Q () s'):
  wpAny (model X.prog X.w) A (setItem (.ref a) u r) Q E s:=by
 rcases g with ⟨kvs,k,e,ey,l,eH⟩|⟨kvs,k,b,e,ey,eb,l,eH⟩
 ·subst ey eH;obtain⟨z,hd,vs,rel,dd⟩:=Zr2 I.hok e;have hz:vs.length≤sizeLine:=by rw[←rel.length];exact z
  have hl:(putK kvs k v).length≤sizeLine:=by have:=V9 kvs k v;lia
  refine wpAny_setItem_pairs (hsz:=hz) (Gh ry) dd λh' b9 hs=>h _ ?_;have he:∃q,h'.get? a=some q:=let ⟨q,_,_,hq,_⟩:=b9;⟨q,hq⟩
  exact Om I (by rw[e];exact True.intro) hs he (Zex hl hd (rel.put k rv) b9)
 ·subst ey eH;cases (show u=Value.ref b from ry);obtain⟨z,hd,xs,rel,dd⟩:=Znm I.hok e;have hz:xs.length≤sizeLine:=by rw[←YQ rel];exact z
  have hl:(putK kvs k v).length≤sizeLine:=by have:=V9 kvs k v;lia
  refine wpAny_setItem_heap (hsz:=hz) (tupleKind_room_in1 hu) (Ki I.hok eb) dd λh' b9 hs=>h _ ?_;obtain⟨q,es,ep,hq,h2,h3,h4,_,h5⟩:=b9;refine Om I (by rw[e];exact True.intro) hs ⟨q,hq⟩ ⟨hl,hd,_,(rel.put k eb rv).keeps λc ys ec=>?_,q,es,ep,hq,h2,h3,h4,h5⟩;rw[Zk (Wu ec e (λz=>nomatch z))];exact ec
end
section
variable {X:Cx}{pins:US}{σ:St}{H:Hp}{s:Shared}{a:Addr}{kvs:List (Key×V)}{k:Key}{u:Value}{A:Around}{E:UQ}
end
def Zuv(i:Expr):Prop:=∀ov iv,subscripted i false ov iv=operate [ov,iv] (getItem ov iv)
theorem Zfw{prog:Program}{value slice:Expr}{id:String} 
  (hl:typeLookup (.type T) "__getitem__"=pure (some (.builtin id))) (hs:Zuv slice)
  (h:wpAny (model prog w) A (eval value env) (λo x6=>wpAny (model prog w) A (eval slice env) (λi k7=>k7.TypeIs o T∧wpAny (model prog w) A (getItem o i) Q E k7) E x6) E s) :
  wpAny (model prog w) A (eval (.Subscript value slice pos) env) Q E s:=by
 refine Subscript_ (aA h (λo x6 kR=>aA kR (λi k7 kT=>?_) λ_ _ x=>x) λ_ _ x=>x);obtain⟨hT,kT⟩:=kT;unfold subscriptTail;refine oA ?_;rw[getitemInPython_of_ne hT.not_modules];refine oA (bL hT hl ?_)
 have fin:wpAny (model prog w) A (subscripted slice false o i) (λr vS=>wpAny (model prog w) A (letTemporaryGo value o r >>= λ_=>pure r) Q E vS) E k7:=by
  rw[hs o i];exact wpAny_operating (aA kT (λr vS rL=>oA (wpAny_letTemporaryGo (oD rL))) λ_ _ x=>x)
 first
  |exact oD (oA fin)
  |exact oA (oD (oA fin))
  |exact oA fin
theorem Zcl{o:Option V}(I:Inv X pins σ H s)(g:O0 H a y o):s.TypeIs (.ref a) "dict":=by
 rcases g with ⟨kvs,k,e,_,_⟩|⟨kvs,k,b,e,_,_,_⟩
 ·obtain⟨_,_,vs,_,dd⟩:=Zcj I.hok e;exact dd.typeIs
 ·obtain⟨_,_,xs,_,dd⟩:=Zcg I.hok e;exact dd.typeIs
def Zu7(td ty:TE):TE:=λσ H Q=>td σ H λx H1=>ty σ H1 λy H2=>∃a v,x=.ref a∧O0 H2 a y (some v)∧Q v H2
def Zoo(ty td:TE):TE:=λσ H Q=>ty σ H λy H1=>td σ H1 λx H2=>∃a o,x=.ref a∧O0 H2 a y o∧Q (.bl (!o.isSome)) H2
def Zvj(td ty tv:TE):TS:=λD σ H=>tv σ H λv H1=>td σ H1 λx H2=>ty σ H2 λy H3=>∃a H4,x=.ref a∧Ei H3 a y v H4∧D.nx σ H4
section
variable {X:Cx}{o i e value:Expr}{pos pos' tpos:Pos}{td ty tv:TE}
theorem Ts(hu:X.A.units+1<cLine)(ho:PE X o td)(hi:PE X i ty)(hs:Zuv i):PE X (.Subscript o i pos) (Zu7 td ty):=by
 intro pins s σ H Q I h;refine Zfw PySem.F.slot_dict_getitem.lookup hs (thn (ho pins s σ H _ I h) λu s1 ⟨x,H1,I1,rx,q1⟩=>thn (hi pins s1 σ H1 _ I1 q1) λiv s2 ⟨y,H2,I2,ry,a,v,ex,g,q2⟩=>?_);subst ex;obtain rfl:u=Value.ref a:=rx;exact⟨Zcl I2 g,Zi8 hu I2 g ry λw' s3 I3 o7=>⟨v,H2,I3,o7,q2⟩⟩
theorem Dj(hu:X.A.units+1<cLine)(hi:PE X i ty)(ho:PE X o td):PC X .NotIn i o (Zoo ty td):=by
 intro pins s σ H Q I h;refine thn (hi pins s σ H _ I h) λiv s1 ⟨y,H1,I1,ry,q1⟩=>thn (ho pins s1 σ H1 _ I1 q1) λu s2 ⟨x,H2,I2,rx,a,ov,ex,g,q2⟩=>?_;subst ex;obtain rfl:u=Value.ref a:=rx;exact Zqb hu I2 g ry λs3 I3=>⟨.bl (!ov.isSome),H2,I3,rfl,q2⟩
theorem Ia(hu:X.A.units+1<cLine)(ho:PE X o td)(hi:PE X i ty)(hv:PE X value tv)(hs:swapsWith value (some (.Subscript o i pos')) pos.line X.env=pure false):
  PS X (.Assign [.Subscript o i pos'] value pos) (Zvj td ty tv):=by
 intro pins s σ H D I h;refine wpAny_Assign_Subscript (thn (hv pins s σ H _ I h) λr s1 ⟨v,H1,I1,rv,q1⟩=>thn (ho pins s1 σ H1 _ I1 q1) λu s2 ⟨x,H2,I2,rx,q2⟩=>thn (hi pins s2 σ H2 _ I2 q2) λiv s3 ⟨y,H3,I3,ry,a,H4,ex,g,q3⟩=>?_) hs;subst ex;obtain rfl:u=Value.ref a:=rx;exact Zi7 hu I3 g ry rv λs4 I4=>⟨σ,H4,I4,q3⟩
end
theorem Zck(h:Heap)(hb:sysModules<h.objs.size):Yy P w H (h.push { cls:=.type "dict",data:=.dict #[] }) h.objs.size (.dK []):=
 ⟨lD _,beq_eq_false_iff_ne.mpr (iY (lE hb)),[],.nil,Heap.DictOf.new h⟩
theorem Zch(h:Heap)(hb:sysModules<h.objs.size):Yy P w H (h.push { cls:=.type "dict",data:=.dict #[] }) h.objs.size (.dT []):=
 ⟨lD _,beq_eq_false_iff_ne.mpr (iY (lE hb)),[],.nil,_,#[],0,oS _ rfl,⟨rfl,rfl,rfl⟩,rfl,rfl,List.nodup_nil⟩
def Zsh:TE:=λ_ H Q=>∀p,H p=none→Q (.ref p) (upd H p (.dK []))
def Zsg:TE:=λ_ H Q=>∀p,H p=none→Q (.ref p) (upd H p (.dT []))
section
variable {X:Cx}{pos:Pos}
theorem Zln:PE X (.Dict [] [] pos) Zsh:=λpins s σ H Q I h=>
 wpAny_Dict_empty ⟨.ref s.heap.objs.size,_,I.laid (a:=s.heap.objs.size) (o:=.dK []) (t':=s.toks) (λ_ _ q=>oE _ q) (oG _) (Zck s.heap I.big),rfl,h _ (I.hok.fresh (oG _))⟩
theorem Zbj:PE X (.Dict [] [] pos) Zsg:=λpins s σ H Q I h=>
 wpAny_Dict_empty ⟨.ref s.heap.objs.size,_,I.laid (a:=s.heap.objs.size) (o:=.dT []) (t':=s.toks) (λ_ _ q=>oE _ q) (oG _) (Zch s.heap I.big),rfl,h _ (I.hok.fresh (oG _))⟩
end
def Cn:List (TE×TE)→St→Hp→(List (V×V)→Hp→Prop)→Prop
 |[],_,H,Q=>Q [] H
 | (tk,tv) :: r,σ,H,Q=>tk σ H λx H1=>tv σ H1 λy H2=>Cn r σ H2 λps H3=>Q ((x,y) :: ps) H3
abbrev VV:List (V×V)→List (Value×Value)→Prop:=Paired λp q=>RelV p.1 q.1∧RelV p.2 q.2
def PPs(X:Cx)(pos:Pos)(keys:List (Option Expr))(values:SA)(yE:List (TE×TE)):Prop:=
 ∀(pins:US) (s:Shared) (σ:St) (H:Hp) (Q:List (V×V)→Hp→Prop),Inv X pins σ H s→Cn yE σ H Q→
  wpAny (model X.prog X.w) X.A (evalPairs (pairTrees keys values X.env pos)) (λvs s'=>∃ps H',Inv X pins σ H' s'∧VV ps vs∧Q ps H') X.xe s
theorem Zgs:PPs X pos [] [] []:=λpins s σ H Q I h=>pairTrees_nil_walk ⟨[],H,I,.nil,h⟩
theorem Zbg{k v:Expr}{ks:List (Option Expr)}{vs:SA}{tk tv:TE}{yE:List (TE×TE)}(hk:PE X k tk)(hv:PE X v tv)(hr:PPs X pos ks vs yE):
  PPs X pos (some k :: ks) (v :: vs) ((tk,tv) :: yE):=λpins s σ H Q I h=>
 pairTrees_cons_walk (thn (hk pins s σ H _ I h) λu s1 ⟨x,H1,I1,rx,q1⟩=>thn (hv pins s1 σ H1 _ I1 q1) λw2 s2 ⟨y,H2,I2,ry,q2⟩=>
  thn (hr pins s2 σ H2 _ I2 q2) λws s3 ⟨ps,H3,I3,rel,q3⟩=>⟨(x,y) :: ps,H3,I3,.cons ⟨rx,ry⟩ rel,q3⟩)
def Wm(kvs more:List (Key×V)):List (Key×V):=more.foldl (λacc kv=>putK acc kv.1 kv.2) kvs
theorem KV.merge:∀{more:List (Key×V)}{rs:List (Key×Value)}{kvs:List (Key×V)}{vs:List (Key×Value)},KV more rs→KV kvs vs→KV (Wm kvs more) (merged vs rs):=by
 intro more rs kvs vs r;unfold KV at r
 induction r generalizing kvs vs with
 |nil=>intro q;exact q
 | @cons p q ps qs h t ih=>
  intro r0
  have e:KV (putK kvs p.1 p.2) (stored vs q.1 q.2):=by
   have:=r0.put p.1 h.2;rw[←h.1];exact this
  exact ih e
theorem Sh:∀(more kvs:List (Key×V)),(Wm kvs more).length≤kvs.length+more.length
 |[],kvs=>by show kvs.length≤kvs.length+0;lia
 |p :: r,kvs=>by
  have h1:=Sh r (putK kvs p.1 p.2);have h2:=V9 kvs p.1 p.2;show (Wm (putK kvs p.1 p.2) r).length≤_;rw[lG];lia
theorem G3{P:Program}{w:World}:∀{kvs:List (Key×V)}{ws:List (Value×Value)},VV (kvs.map λkv=>(kV kv.1,kv.2)) ws→∃rs,Carries (Z8 P w) ws rs∧KV kvs rs
 |[],_,r=>by rw[bQ]at r;cases r;exact⟨[],True.intro,.nil⟩
 |p :: kvs,_,r=>by
  rw[oW]at r
  cases r with
  | @cons a b as bs h t=>
   obtain⟨rs,c,q⟩:=G3 (P:=P) (w:=w) t;obtain⟨b1,b2⟩:=b;exact⟨(p.1,b2) :: rs,⟨Gh h.1,rfl,c⟩,.cons ⟨rfl,h.2⟩ q⟩
def Zu6(yE:List (TE×TE)):TE:=λσ H Q=>∀p,H p=none→Cn yE σ (upd H p (.dK [])) λps H2=>H2 p=some (.dK [])∧∃kvs:List (Key×V),ps=kvs.map (λkv=>(kV kv.1,kv.2))∧kvs.length≤15∧Q (.ref p) (upd H2 p (.dK (Wm [] kvs)))
theorem Zo4{keys:List (Option Expr)}{values:SA}{yE:List (TE×TE)}(h:PPs X pos keys values yE)(Li:keys.all (·.isSome)=true)(hl:keys.length=values.length)(h0:keys≠[])
  (h15:keys.length≤15):PE X (.Dict keys values pos) (Zu6 yE):=by
 intro pins s σ H Q I q;have hn:=I.hok.fresh (oG s.heap.objs.size);have I1:=I.laid (a:=s.heap.objs.size) (o:=.dK []) (h':=s.heap.push { cls:=.type "dict",data:=.dict #[] }) (t':=s.toks) (λ_ _ q=>oE _ q) (oG _) (Zck s.heap I.big);refine wpAny_Dict_walk (knd:=Z8 X.prog X.w) Li hl h0 h15 (thn (h pins _ σ _ _ I1 (q _ hn)) λws s2 ⟨ps,H2,I2,rel,e,kvs,ep,lk,q2⟩=>?_);subst ep;obtain⟨rs,c,rk⟩:=G3 (P:=X.prog) (w:=X.w) rel;obtain⟨z,hd,vs0,r0,dd⟩:=Zr2 I2.hok e;cases r0;refine⟨rs,c,dd,λh' b9 hs=>⟨.ref s.heap.objs.size,_,?_,rfl,q2⟩⟩
 have hz:(Wm [] kvs).length≤sizeLine:=by
  have h1:=Sh kvs [];rw[ZA]at h1;rw[sizeLine_eq];lia
 have he:∃q,h'.get? s.heap.objs.size=some q:=let ⟨q,_,_,hq,_⟩:=b9;⟨q,hq⟩
 exact Om I2 (by rw[e];exact True.intro) hs he (Zex hz hd (rk.merge .nil) b9)
structure M1(X:Cx)(o:Expr)(m:Str)(apos:Pos)(e:Expr)(Xc:Pos):Prop where
 base:attributeBase o m X.env (eval o X.env)=eval o X.env
 few:((backTo Xc (starEach [e] X.env)).all (λx=>!x.1)&&(backToKw Xc (keywordEach [] X.env)).all (λx=>x.1.isSome)
  && decide (([e]:List Expr).length+([]:List Keyword).length+(if ([]:List Keyword).isEmpty then 0 else 1)<30))=true
 line:(apos.endLine==Xc.line)=true
 trees:backTo Xc (starEach [e] X.env)=[(false,eval e X.env)]
structure M2(X:Cx)(o:Expr)(m:Str)(apos:Pos)(e f:Expr)(Xc:Pos):Prop where
 base:attributeBase o m X.env (eval o X.env)=eval o X.env
 few:((backTo Xc (starEach [e,f] X.env)).all (λx=>!x.1)&&(backToKw Xc (keywordEach [] X.env)).all (λx=>x.1.isSome)
  && decide (([e,f]:List Expr).length+([]:List Keyword).length+(if ([]:List Keyword).isEmpty then 0 else 1)<30))=true
 line:(apos.endLine==Xc.line)=true
 trees:backTo Xc (starEach [e,f] X.env)=[(false,eval e X.env),(false,eval f X.env)]
def IsD(H:Hp)(a:Addr):Prop:=(∃kvs,Rd H a (.dK kvs))∨∃kvs,Rd H a (.dT kvs)
theorem Ztr(I:Inv X pins σ H s)(d:IsD H a):
  s.TypeIs (.ref a) "dict"∧(∀b,Value.ref a=.ref b→∃ob,s.heap.get? b=some ob∧ob.dict=none)∧(a==sysModules)=false:=by
 rcases d with ⟨kvs,e⟩|⟨kvs,e⟩
 ·obtain⟨_,hd,vs,_,dd⟩:=Zcj I.hok e;refine⟨dd.typeIs,λb q=>?_,hd⟩;cases q;obtain⟨ob,_,_,h1,h2,_⟩:=dd;exact⟨ob,h1,h2.2.1⟩
 ·obtain⟨_,hd,xs,_,dd⟩:=Zcg I.hok e;refine⟨dd.typeIs,λb q=>?_,hd⟩;cases q;obtain⟨ob,_,_,h1,h2,_⟩:=dd;exact⟨ob,h1,h2.2.1⟩
section
variable {X:Cx}{pins:US}{σ:St}{H:Hp}{s:Shared}{a:Addr}{y d:V}{u r:Value}{o:Option V}{A:Around}{E:UQ}
end
section
variable {X:Cx}{o e f:Expr}{apos Xc:Pos}{td ty tx:TE}
end
def U8(env:Env):List (Str×NameKind)→List SI→List SI
 |[],acc=>acc
 | (n,.free) :: r,acc=>U8 env r ((n,(env.cells.lookup n).getD 0) :: acc)
 |_ :: r,acc=>U8 env r acc
def Zfk(env:Env)(acc:List SI):Prop:=∀y c,acc.lookup y=some c→c=(env.cells.lookup y).getD 0
theorem Oo{n:Str}{k:NameKind}{r:SU}{acc:List SI}(h:k≠.free):U8 env ((n,k) :: r) acc=U8 env r acc:=by
 cases k<;>first|rfl|exact absurd rfl h
theorem Oq{env:Env}:∀(names:SU) (acc:List SI),Zfk env acc→Zfk env (U8 env names acc)
 |[],acc,h=>h
 | (n,k) :: r,acc,h=>by
  by_cases hk:k=.free
  ·subst hk;refine Oq r _ λy c e=>?_;rw[iZ]at e
   by_cases hy:y=n
   ·subst hy;simp only[beq_self_eq_true]at e;exact(Option.some.inj e).symm
   ·have hb:(y==n)=false:=by simpa using hy
    rw[hb]at e;exact h y c e
  ·rw[Oo hk];exact Oq r acc h
theorem Pe{env:Env}{x:Str}:∀(names:SU) (acc:List SI),((∃c,acc.lookup x=some c)∨(x,NameKind.free)∈names)→∃c,(U8 env names acc).lookup x=some c
 |[],acc,h=>by
  rcases h with h|h
  ·exact h
  ·cases h
 | (n,k) :: r,acc,h=>by
  by_cases hk:k=.free
  ·subst hk;refine Pe r _ ?_;rw[iZ]
   by_cases hy:x=n
   ·subst hy;exact .inl ⟨(env.cells.lookup x).getD 0,by simp only[beq_self_eq_true]⟩
   ·have hb:(x==n)=false:=by simpa using hy
    rw[hb]
    rcases h with h|h
    ·exact .inl h
    ·rcases oX.mp h with h|h
     ·exact absurd (congrArg Prod.fst h) hy
     ·exact .inr h
  ·rw[Oo hk];refine Pe r acc ?_
   rcases h with h|h
   ·exact .inl h
   ·rcases oX.mp h with h|h
    ·exact absurd (congrArg Prod.snd h).symm hk
    ·exact .inr h
theorem Lo{env:Env}{x:Str}{c:Addr}:∀(names:SU) (acc:List SI),(U8 env names acc).lookup x=some c→acc.lookup x=some c∨(x,NameKind.free)∈names
 |[],acc,h=>.inl h
 | (n,k) :: r,acc,h=>by
  by_cases hk:k=.free
  ·subst hk
   rcases Lo r _ h with h1|h1
   ·rw[iZ]at h1
    by_cases hy:x=n
    ·subst hy;exact .inr oK
    ·have hb:(x==n)=false:=by simpa using hy
     rw[hb]at h1;exact .inl h1
   ·exact .inr (oQ _ h1)
  ·rw[Oo hk]at h
   rcases Lo r acc h with h1|h1
   ·exact .inl h1
   ·exact .inr (oQ _ h1)
theorem Gu{env:Env}{f:Str×NameKind→List SI→Sem (ForInStep (List SI))}(h1:∀n k r,k≠NameKind.free→f (n,k) r=pure (.yield r))
  (h2:∀n r c,env.cells.lookup n=some c→f (n,.free) r=pure (.yield ((n,c) :: r))) :
  ∀(names:SU) (acc:List SI),(∀y∈names,y.2=NameKind.free→∃c,env.cells.lookup y.1=some c)→forIn names acc f=pure (U8 env names acc)
 |[],acc,_=>rfl
 | (n,k) :: r,acc,hc=>by
  have hr:∀y∈r,y.2=NameKind.free→∃c,env.cells.lookup y.1=some c:=λy hy=>hc y (oQ _ hy);rw[YT]
  by_cases hk:k=.free
  ·subst hk;obtain⟨c,e⟩:=hc (n,.free) oK rfl;rw[h2 n acc c e,pure_bind];show forIn r ((n,c) :: acc) f=_;rw[Gu h1 h2 r _ hr];show _=pure (U8 env r ((n,(env.cells.lookup n).getD 0) :: acc));rw[e];rfl
  ·rw[h1 n k acc hk,pure_bind,Oo hk];exact Gu h1 h2 r acc hr
theorem U7(hc:∀y∈scope.names,y.2=NameKind.free→∃c,env.cells.lookup y.1=some c):closureFor scope env=pure (U8 env scope.names []):=by
 unfold closureFor;dsimp only;rw[Gu (env:=env) ?_ ?_ scope.names [] hc]
 ·rfl
 ·intro n k r hk;have hb:(k==NameKind.free)=false:=by simpa using hk
  simp only[hb,iM,if_false]
 ·intro n r c e;simp only[cellOf,e,beq_self_eq_true,if_true,pure_bind]
structure Zfj(sc:Scope)(Nm own:List Str)(fr:List Nat)(scope:Scope):Prop where
 kind:scope.kind=.function
 Kf:∀y∈scope.names,y.2≠NameKind.cell
 free:∀y∈scope.names,y.2=NameKind.free→sc.names.lookup y.1=some .cell∨sc.names.lookup y.1=some .free
 locs:∀y∈scope.names,y.2=NameKind.local→scope.names.lookup y.1=some .local
 frs:∀j∈fr,j<Nm.length∧scope.names.lookup (Nm.getD j "")=some .free
def Y4(own Nm:List Str)(fr:List Nat):List Str:=own++fr.map λj=>Nm.getD j ""
def To(n:Nat)(fr:List Nat)(σ:St):St:=List.replicate n none++fr.map λj=>σ.getD j none
structure CD where
 cl:List SI
 C:Addr
 s:Shared
 H:Hp
 fp:List Addr
def Xd(X:Cx)(Nm:List Str)(scope:Scope)(d:CD):Cx:=
 {prog:=X.prog,w:=X.w,K:=X.K,mg:=X.mg,base:=X.base,A:=X.A,N:=Nm,s₀:=d.s,H₀:=d.H,env:=compEnvC scope d.cl d.C X.env,outer:=X.stack,stack:=X.stack,
  ex:=d.fp,fn:=λ_=>false,calm:=X.calm,pn:=[],xe:=λ_ _=>False }
def PTs(X:Cx)(ifs:SA)(t:TT):Prop:=
 ∀(pins:US) (s:Shared) (σ:St) (H:Hp) (Q:Bool→Hp→Prop),Inv X pins σ H s→t σ H Q→
  wpAny (model X.prog X.w) X.A (forIn ifs true λc r=>if r=true then do let ok ←isTrue c X.env (eval c X.env);pure (ForInStep.yield ok) else pure (ForInStep.yield r)) (TP X pins σ Q) X.xe s
def Zsb:TT:=λ_ H Q=>Q true H
theorem Yn:PTs X [] Zsb:=by
 intro pins s σ H Q I h;rw[XT];exact oD ⟨H,I,h⟩
theorem J9{c:Expr}{t:TT}(hc:PT X c t):PTs X [c] t:=by
 intro pins s σ H Q I h;rw[YT,if_pos rfl];refine oA (oA (thn (hc pins s σ H Q I h) λb s1 q=>oD ?_));show wpAny _ _ (forIn [] b _) _ _ s1;rw[XT];exact oD q
def GFr(n:Nat)(g:TG):Prop:=∀v σ H Q,g v σ H Q→g v σ H λy4 H2=>Q y4 H2∧y4.length=σ.length∧∀i,n≤i→y4[i]?=σ[i]?
theorem Yb(h:i<n):GFr n (K2 i):=λv σ H Q q=>⟨q,by simp,λj hj=>by
 rw[XA (by lia)]⟩
def Zqs(n:Nat)(g:TGs):Prop:=∀v σ H Q,g v σ H Q→g v σ H λy4 H2=>Q y4 H2∧y4.length=σ.length∧∀i,n≤i→y4[i]?=σ[i]?
theorem Gn:Zqs n Zt0:=λv σ H Q q=>⟨q.1,q.2,rfl,λ_ _=>rfl⟩
theorem Us{u:TGs}(h:i<n)(hu:Zqs n u):Zqs n (Zhf (K2 i) u):=λv σ H Q q=>by
 obtain⟨x,r,e,q⟩:=q;refine⟨x,r,e,?_⟩;have q2:=hu r (σ.set i (some x)) H Q q;have mono:∀Q1 Q2:St→Hp→Prop,(∀a b,Q1 a b→Q2 a b)→True:=λ_ _ _=>True.intro;have e1:(σ.set i (some x)).length=σ.length:=by simp
 have e2:∀j,n≤j→(σ.set i (some x))[j]?=σ[j]?:=λj hj=>by rw[XA (by lia)]
 have:(λy4 H2=>Q y4 H2∧y4.length=(σ.set i (some x)).length∧∀j,n≤j→y4[j]?=(σ.set i (some x))[j]?)=λy4 H2=>Q y4 H2∧y4.length=σ.length∧∀j,n≤j→y4[j]?=σ[j]?:=by
  funext y4 H2
  rw[e1];refine propext ⟨λz=>⟨z.1,z.2.1,λj hj=>(z.2.2 j hj).trans (e2 j hj)⟩,λz=>⟨z.1,z.2.1,λj hj=>(z.2.2 j hj).trans (e2 j hj).symm⟩⟩
 rw[this]at q2;exact q2
theorem B7{k:Nat}{u:TGs}(hu:Zqs n u):GFr n (Zp5 K k u):=λv σ H Q q=>by
 obtain⟨a,xs,e,h1,h2,q⟩:=q;exact⟨a,xs,e,h1,h2,hu xs σ H Q q⟩
def Zr7(J:It)(n:Nat)(fr:List Nat)(g:TG)(tt:TT)(te:TE)(σ:St)(H1:Hp)(Q:VK):Prop:=∃W:Nat→Nat→List V→Hp→Prop,(∃m,W 0 m [] H1)∧∀i m acc H2,W i m acc H2→
 acc.length<sizeLine∧((J.stop i H2∧∀l,H2 l=none→Q (.ref l) (upd H2 l (.lst acc)))∨
  (J.go i H2∧∃Nx:List V→Hp→Prop,(∀Zfc H',Nx Zfc H'→∃m',m'<m∧W (i+1) m' Zfc H')∧
   ∀x H3,J.yld i H2 x H3→g x (To n fr σ) H3 λm9 H4=>tt m9 H4 λb H5=>if b=true then te m9 H5 λv H6=>Nx (acc++[v]) H6 else Nx acc H5))
def Zj9(n:Nat)(fr:List Nat)(wi:TI)(g:TG)(tt:TT)(te:TE):TE:=λσ H Q=>wi σ H λJ H1=>Zr7 J n fr g tt te σ H1 Q
section
variable {X:Cx}{pins:US}{σ:St}{H:Hp}{s:Shared}
theorem Inv.adopt{o:HO}(I:Inv X pins σ H s)(hp:X.s₀.heap.objs.size≤a)(hn:H a=none)(hL:a≠X.env.locals)(hc:∀x c,X.env.cells.lookup x=some c→c≠a)
  (hq:∀p∈X.pn++pins,p.1≠a) (new:Yy X.prog X.w (upd H a o) s.heap a o):Inv X pins σ (upd H a o) s:=by
 refine⟨I.ok,I.os,I.bare,⟨I.base.keep,I.base.slot,λb ob e n hx=>?_,I.base.there,λb xs e=>?_,λb ob u e=>?_,λb ps e=>?_⟩,I.loc,I.cell,?_,λx c e=>?_,λp z7=>?_,λb u e=>?_,I.len⟩
 ·rw[Zk (lE (oZ (oT e) hp))];exact I.base.free b ob e n hx
 ·have q:=I.base.Ck b xs e;rw[Zk (Zi q hn)];exact q
 ·have q:=I.base.Gr b ob u e;rw[Zk (Zi q hn)];exact q
 ·obtain⟨more,q⟩:=I.base.Fo b ps e;exact⟨more,by rw[Zk (Zi q hn)];exact q⟩
 ·rw[Zk (iY hL)];exact I.free
 ·rw[Zk (hc x c e)];exact I.Tw x c e
 ·obtain⟨h1,h2,h3⟩:=I.pin p z7;exact⟨h1,by rw[Zk (hq p z7)];exact h2,h3⟩
 ·by_cases hb:b=a
  ·subst hb;rw[Zc]at e;cases e;exact new
  ·rw[Zk hb]at e;refine(I.hok b u e).Ir (λc v _ q=>q) (λc q=>?_) λc xs q=>?_
   ·rw[Zk (Zi q hn)];exact q
   ·rw[Zk (Zi q hn)];exact q
end
section
variable {prog:Program}{w:World}{A:Around}{R:Result→Shared→Prop}{s:Shared}
theorem Zin{elt target iter:Expr}{ifs:SA}{it acc:Value}(J:Nat→Shared→Prop)
  (turn:∀n s,J n s→wpAny (model prog w) A (pyNext it) (λr s1=>match r with
   |none=>R (.ok .next) s1
   |some v=>wpAny (model prog w) A (letOwnedTupleGo target it v) (λ_ s2=>wpAny (model prog w) A (assign target env v) (λ_ s3=>
     wpAny (model prog w) A (forIn ifs true λc r=>if r=true then do let ok ←isTrue c env (eval c env);pure (ForInStep.yield ok) else pure (ForInStep.yield r)) (λok s4=>
      if ok=true then wpAny (model prog w) A (eval elt env) (λx s5=>wpAny (model prog w) A (call (.builtin "list.append") [acc,x]) (λ_ s6=>∃m,m<n∧J m s6) (λ_ _=>False) s5) (λ_ _=>False) s4
      else ∃m,m<n∧J m s4) (λ_ _=>False) s3) (λ_ _=>False) s2) (λ_ _=>False) s1) (λ_ _=>False) s)
  (n:Nat) (h:J n s):codeAny (model prog w) A (.compLoop (.ListComp elt [⟨target,iter,ifs,0⟩] scope pos) 0 it acc env) R s:=by
 refine codeAny_loop rfl J (λk t hJ=>?_) n h;show wpAny _ A ((compTurn (.ListComp elt [⟨target,iter,ifs,0⟩] scope pos) 0 it acc env).onRaise (λx=>do noteFrame x env;theTreesLotGoes x)) _ _ t;refine wpAny_noted ?_;rw[compTurn_list];have no:∀{α:Type}{m:Sem α}{Q:α→Shared→Prop}{E:UQ}{u:Shared},wpAny (model prog w) A m Q (λ_ _=>False) u→wpAny (model prog w) A m Q E u:=λq=>aA q (λ_ _ z=>z) λ_ _ z=>z.elim;refine oA (XG (oA (no (thn (turn k t hJ) λr s1 h1=>?_))))
 cases r with
 |none=>exact oD h1
 |some v=>
  refine oA (no (thn h1 λ_ s2 h2=>oA (no (thn h2 λ_ s3 h3=>oA (no (thn h3 λok s4 h4=>?_))))))
  cases ok with
  |false=>exact oD ⟨rfl,h4⟩
  |true=>
   exact oA (oA (no (thn h4 λx s5 h5=>oA (no (thn h5 λ_ s6 h6=>oD (oD ⟨rfl,h6⟩))))))
end
section
variable {X:Cx}{sc scope:Scope}{Nm own:List Str}{fr:List Nat}{elt tg iter:Expr}{ifs:SA}{Xc:Pos}{wi:TI}{g:TG}{tt:TT}{te:TE}
theorem Ri{env:Env}{x:Str}{k:NameKind}:∀{names:SU},(names.map λ(n,k)=>if (k==NameKind.free&&env.scope.kind==.function&&env.kindOf n==some .cell) then (n,NameKind.cell) else (n,k)).lookup x=some k→
  names.lookup x=some k∨(k=.cell∧names.lookup x=some .free)
 |[],h=>by simp at h
 | (n,j) :: r,h=>by
  have ih:=@Ri env x k r;have h':List.lookup x ((if (j==NameKind.free&&env.scope.kind==.function&&env.kindOf n==some .cell)=true then (n,NameKind.cell) else (n,j)) :: _)=some k:=h
  cases hx:x==n with
  |true=>
   by_cases hc:(j==NameKind.free&&env.scope.kind==.function&&env.kindOf n==some .cell)=true
   ·rw[if_pos hc]at h';simp only[iZ,hx]at h' ⊢;simp only[lQ,beq_iff_eq]at hc;exact .inr ⟨(Option.some.inj h').symm,congrArg some hc.1.1⟩
   ·rw[if_neg hc]at h';simp only[iZ,hx]at h' ⊢;exact .inl h'
  |false=>
   have h2:List.lookup x (r.map λ(n,k)=>if (k==NameKind.free&&env.scope.kind==.function&&env.kindOf n==some .cell) then (n,NameKind.cell) else (n,k))=some k:=by
    by_cases hc:(j==NameKind.free&&env.scope.kind==.function&&env.kindOf n==some .cell)=true
    ·rw[if_pos hc]at h';simpa only[iZ,hx] using h'
    ·rw[if_neg hc]at h';simpa only[iZ,hx] using h'
   simp only[iZ,hx];exact ih h2
theorem Hk{env:Env}{x:Str}:∀{names:SU},names.lookup x=some .free→
  (names.map λ(n,k)=>if (k==NameKind.free&&env.scope.kind==.function&&env.kindOf n==some .cell) then (n,NameKind.cell) else (n,k)).lookup x=some .cell∨
  (names.map λ(n,k)=>if (k==NameKind.free&&env.scope.kind==.function&&env.kindOf n==some .cell) then (n,NameKind.cell) else (n,k)).lookup x=some .free
 |[],h=>by simp at h
 | (n,j) :: r,h=>by
  have ih:=@Hk env x r;show List.lookup x ((if (j==NameKind.free&&env.scope.kind==.function&&env.kindOf n==some .cell)=true then (n,NameKind.cell) else (n,j)) :: _)=_∨List.lookup x ((if (j==NameKind.free&&env.scope.kind==.function&&env.kindOf n==some .cell)=true then (n,NameKind.cell) else (n,j)) :: _)=_
  cases hx:x==n with
  |true=>
   simp only[iZ,hx]at h
   by_cases hc:(j==NameKind.free&&env.scope.kind==.function&&env.kindOf n==some .cell)=true
   ·rw[if_pos hc];simp only[iZ,hx];first|exact .inl rfl|exact .inl trivial
   ·rw[if_neg hc];simp only[iZ,hx];exact .inr h
  |false=>
   simp only[iZ,hx]at h
   by_cases hc:(j==NameKind.free&&env.scope.kind==.function&&env.kindOf n==some .cell)=true
   ·rw[if_pos hc];simp only[iZ,hx];exact ih h
   ·rw[if_neg hc];simp only[iZ,hx];exact ih h
theorem D8(S:Zfj sc Nm own fr scope)(eK:X.env.scope=sc)(hN:X.N=Nm)(hc:X.calm=true)(uG:GFr own.length g)(hi:PI X tg iter wi)(hg:∀d,PG (Xd X (Y4 own Nm fr) scope d) tg g)
  (ht:∀d,PTs (Xd X (Y4 own Nm fr) scope d) ifs tt) (he:∀d,PE (Xd X (Y4 own Nm fr) scope d) elt te) (hs:∀x,foldedSetIterable iter X.env x=pure x)
  {use:Option (Value→Sem Unit)}{Q0:UQ} (I:Inv X pins σ H s) {Qf:VK} (h:Zj9 own.length fr wi g tt te σ H Qf)
  (fA:∀(D C:Addr) (Hd:Hp) (s':Shared) (m:UW),Inv X pins σ Hd s'→Qf (.ref D) Hd→s'.heap.Ns C m→Hd C=none→X.s₀.heap.objs.size≤C→C≠X.env.locals→(∀x c,X.env.cells.lookup x=some c→c≠C)→
   (∀p∈X.pn++pins,p.1≠C)→compPost (model X.prog X.w) X.A X.xe use Q0 (.ref D) C (.ok .next) s') :
  wpAny (model X.prog X.w) X.A (comprehension (.ListComp elt [⟨tg,iter,ifs,0⟩] scope Xc) scope X.env (firstIterPos [⟨tg,iter,ifs,0⟩] Xc) (newList []) false (eval iter X.env) use) Q0 X.xe s:=by
 have Zca:∀y∈scope.names,y.2=NameKind.free→∃c,X.env.cells.lookup y.1=some c:=λy hy hk=>by
  have q:=S.free y hy hk;rw[←eK]at q;exact I.ok.has y.1 q
 refine wpAny_comprehension_free (g:=⟨tg,iter,ifs,0⟩) (gs:=[]) rfl hs (U7 Zca) S.kind S.locs ?_;refine thn (hi pins s σ H _ I h) λv s1 h1=>thn h1 λrM s2 h2=>?_;obtain⟨it,fp,tn,J,H2,e,I2,T,st2,f2,W,⟨m0,w0⟩,turn⟩:=h2;subst e;refine lS (VG S.Kf (by intro y hy;simp at hy) (λh1 u3 xD=>?_) S.kind);dsimp only at u3 xD ⊢;generalize hG:s2.heap.push { cls:=.type "list",dict:=none,data:=.seq ([]:List Value).toArray } = G at u3 xD ⊢;have hC:G.objs.size=s2.heap.objs.size+1:=by rw[←hG,bB]
 have zQ:s2.heap.objs.size≠G.objs.size:=by lia
 have lo:∀b,b<s2.heap.objs.size→b≠G.objs.size∧b≠s2.heap.objs.size:=λb hb=>⟨by lia,by lia⟩;have old:∀b o,s2.heap.get? b=some o→h1.get? b=some o:=λb o e=>xD.extBut b o (lo b (oT e)).1 (oE _ (hG▸oE _ e));have Rn:h1.PlainList s2.heap.objs.size #[]:=⟨_,xD.extBut _ _ zQ (oE _ (hG▸oS _ rfl))⟩
 have fpl:∀b∈fp,b<s2.heap.objs.size:=λb hb=>by
  obtain⟨o,e,_⟩:=T.obj 0 _ st2 b hb;exact oT e
 have hDf:s2.heap.objs.size∉fp:=λz=>iL _ (fpl _ z);have hCf:G.objs.size∉fp:=λz=>iL _ (VF (fpl _ z) (by rw[hC];exact aS _))
 have G0:∀x c,(U8 X.env scope.names []).lookup x=some c→X.env.cells.lookup x=some c∧(x,NameKind.free)∈scope.names:=λx c e=>by
  have e1:=Oq (env:=X.env) scope.names [] (λy c z=>by simp at z) x c e
  rcases Lo scope.names [] e with z|z
  ·simp at z
  ·obtain⟨c',e'⟩:=Zca _ z rfl;rw[e1,e'];exact⟨rfl,z⟩
 have Zn2:∀x c,X.env.cells.lookup x=some c→c<s2.heap.objs.size:=λx c e=>by
  obtain⟨v,q⟩:=I2.cell x c e;exact q.lt
 let d:CD:=⟨U8 X.env scope.names [],G.objs.size,s2,H2,fp⟩
 have isFree:∀x,((Xd X (Y4 own Nm fr) scope d).env.kindOf x=some .cell∨(Xd X (Y4 own Nm fr) scope d).env.kindOf x=some .free)→scope.names.lookup x=some .free:=λx hx=>by
  have noC:scope.names.lookup x≠some .cell:=λz=>S.Kf _ (iK z) rfl
  rcases hx with hx|hx
  ·rcases Ri (names:=scope.names) hx with z|z
   ·exact absurd z noC
   ·exact z.2
  ·rcases Ri (names:=scope.names) hx with z|z
   ·exact z
   ·exact absurd z.1 (by decide)
 have ok:(Xd X (Y4 own Nm fr) scope d).Ok:=by
  refine⟨I.ok.mod,S.kind,I.ok.glob,I.ok.blt,?_,λx y c e1 e2=>?_,λx hx=>?_,λx c z=>?_,I.ok.hd,I.ok.frames,.inl rfl,λb hb=>⟨?_,λx c e=>?_⟩,I2.bs,lI I2.ok.bsz I2.sz,λb o e hb=>?_,λb hb z=>?_,I2.stack,I2.Cq⟩
  ·show s2.heap.objs.size≤G.objs.size;lia
  ·exact I.ok.inj x y c (G0 x c e1).1 (G0 y c e2).1
  ·exact Pe scope.names [] (.inr (iK (isFree x hx)))
  ·exact absurd (show false=true from z) lA
  ·exact λz=>hCf ((show b=G.objs.size from z)▸hb)
  ·exact(f2 b hb).2.2.2.2.1 x c (G0 x c e).1
  ·rcases(f2 b hb).2.2.2.1 with z|z
   ·exact I.ok.Zl2 b o e z
   ·exact absurd (oZ (oT e) (lI I.ok.bsz z)) (iL _)
  ·rcases oX.mp (I2.Ip b z) with z|z
   ·exact(f2 b hb).2.1 z
   ·exact(f2 b hb).2.2.1 z
 have fB:∀(i:Nat) x v,(Y4 own Nm fr)[i]?=some x→(To own.length fr σ)[i]?=some (some v)→scope.names.lookup x=some .free∧∃j,Nm[j]?=some x∧σ[j]?=some (some v):=λi x v e1 e2=>by
  unfold Y4 at e1;unfold To at e2
  by_cases k8:i<own.length
  ·rw[lB (by simpa using k8),XX,if_pos k8]at e2;cases e2
  ·rw[lK (by lia),oH]at e1;rw[lK (by simpa using k8),oH,ZN]at e2
   cases q:fr[i-own.length]? with
   |none=>rw[q]at e1;cases e1
   |some j=>
    rw[q]at e1 e2;have hj:=S.frs j (oR q);have zH:Nm.getD j ""=x:=Option.some.inj e1;have yK:σ.getD j none=some v:=Option.some.inj e2;rw[zH]at hj;refine⟨hj.2,j,?_,?_⟩
    ·rw[←zH,oJ,oC hj.1];rfl
    ·rw[oJ]at yK
     cases q2:σ[j]? with
     |none=>rw[q2]at yK;cases yK
     |some z=>rw[q2]at yK;exact congrArg some yK
 have Zru:(To own.length fr σ).length=(Y4 own Nm fr).length:=by
  unfold To Y4;simp
 have J0:∀tk,Inv (Xd X (Y4 own Nm fr) scope d) [] (To own.length fr σ) H2 { s2 with heap:=h1,toks:=tk }:=λtk=>by
  obtain⟨m,hn,hl⟩:=I2.loc;refine⟨ok,rfl,I2.bare,Un.kept old,⟨_,u3,λi x v e1 e2 _=>?_⟩,λx c e=>?_,I2.hok.fresh (show s2.heap.objs.size≤G.objs.size by lia),λx c e=>I2.Tw x c (G0 x c e).1,λp hp=>absurd (show p∈([]:List UT) from hp) (by simp),I2.hok.kept old,Zru⟩
  ·obtain⟨hf,j,hj1,hj2⟩:=fB i x v e1 e2
   have kd:X.env.scope.names.lookup x=some .cell∨X.env.scope.names.lookup x=some .free:=by
    rw[eK];exact S.free _ (iK hf) rfl
   obtain⟨u,r,q⟩:=hl j x v (by rw[hN];exact hj1) hj2 (kd.elim (λz=>.inr (.inl z)) λz=>.inr (.inr z));refine⟨u,r,.inr ⟨Hk hf,?_⟩⟩;obtain⟨c,e⟩:=Pe (env:=X.env) scope.names [] (.inr (iK hf));refine⟨c,e,?_⟩
   rcases q with ⟨k,_⟩|⟨_,c',e',z⟩
   ·have k':X.env.scope.names.lookup x=some .local:=k
    rcases kd with y|y<;>rw[y]at k'<;>cases k'
   ·have:c=c':=Option.some.inj ((G0 x c e).1.symm.trans e');subst this;obtain⟨o,ho,hd⟩:=z;exact⟨o,old _ o ho,hd⟩
  ·obtain⟨v,o,ho,hd⟩:=I2.cell x c (G0 x c e).1;exact⟨v,o,old _ o ho,hd⟩
 have Zdg:∀{H':Hp}{pl:US},(∀b∈fp,H' b=none)→(∀p∈pl,p.1∉fp)→∀b∈fp,Eh (Xd X (Y4 own Nm fr) scope d) pl H' b:=λhn hp b hb=>
  ⟨hn b hb,λz=>hCf ((show b=G.objs.size from z)▸hb),ok.Znd b hb,.inl hb,(ok.exf b hb).2,λp z7 z=>hp p (by simpa using (show p∈([]:List UT)++_ from z7)) (z▸hb)⟩
 have loop:∀tk,codeAny (model X.prog X.w) X.A (.compLoop (.ListComp elt [⟨tg,iter,ifs,0⟩] scope Xc) 0 (.ref it) (.ref s2.heap.objs.size) (compEnvC scope (U8 X.env scope.names []) G.objs.size X.env))
   (compPost (model X.prog X.w) X.A X.xe use Q0 (.ref s2.heap.objs.size) G.objs.size) { s2 with heap:=h1,toks:=tk }:=by
  intro tk
  refine Zin (λn s'=>∃i acc its H',Inv (Xd X (Y4 own Nm fr) scope d) [] (To own.length fr σ) H' s'∧tn i s'.heap∧(∀b∈fp,H' b=none)∧H' s2.heap.objs.size=none∧Vals acc its∧s'.heap.PlainList s2.heap.objs.size its.toArray∧W i n acc H') ?_ m0
   ⟨0,[],[],H2,J0 tk,T.keep 0 _ _ st2 λb _ o e=>old b o e,λb hb=>(f2 b hb).1,I2.hok.fresh (oG _),.nil,Rn,w0⟩
  rintro n s3 ⟨i,acc,its,H3,I3,vR,tP,nD,va,⟨na,pa⟩,w3⟩
  have Zvz:Inv (Xd X (Y4 own Nm fr) scope d) [(s2.heap.objs.size,{ cls:=.type "list",data:=.seq its.toArray na })] (To own.length fr σ) H3 s3:=I3.Mx λp hp=>by
   have z7:=oU.mp hp;subst z7;refine⟨pa,nD,zQ,λz=>?_,λv z=>?_⟩
   ·have z':s2.heap.objs.size∈frs X.stack:=z
    rcases oX.mp (I2.Ip _ z') with y|y
    ·exact absurd I2.lt (by rw[←y];exact iL _)
    ·exact I2.Zv7 (oG _) y
   ·have z':Data.seq its.toArray na=Data.cell v:=z;cases z'
  have C8:∀p∈[(s2.heap.objs.size,({ cls:=.type "list",data:=.seq its.toArray na }:Obj))],p.1∉fp:=λp hp=>by
   rw[oU.mp hp];exact hDf
  obtain⟨hz,alt⟩:=turn i n acc H3 w3
  rcases alt with ⟨stop,qn⟩|⟨go,Nx,hNx,step⟩
  ·refine thn (T.done (Xd X (Y4 own Nm fr) scope d) rfl rfl rfl hc i _ s3 _ H3 _ Zvz (Zdg tP C8) vR stop) λr s4 ⟨hr,I4⟩=>?_;subst hr;have pD:=I4.pin (s2.heap.objs.size,{ cls:=.type "list",data:=.seq its.toArray na }) (lN _ (oU.mpr rfl));obtain⟨m4,hn4,_⟩:=I4.loc;have I5:Inv X pins σ H3 s4:=I2.Zw7 (ch:=fp) I4.os I4.base I4.hok I4.bare λb hb=>⟨(f2 b hb).2.2.2.1,(f2 b hb).2.1,(f2 b hb).2.2.2.2.1,(f2 b hb).2.2.2.2.2⟩
   have far:∀a,s2.heap.objs.size≤a→X.s₀.heap.objs.size≤a∧a≠X.env.locals∧(∀x c,X.env.cells.lookup x=some c→c≠a)∧∀p∈X.pn++pins,p.1≠a:=λa ha=>
    ⟨lI I2.sz ha,bJ (oZ I2.lt ha),λx c e=>lE (oZ (Zn2 x c e) ha),λp hp=>lE (oZ (oT (I2.pin p hp).1) ha)⟩
   have fD:=far s2.heap.objs.size (oG _);have fC:=far G.objs.size (by lia);have I6:=I5.adopt (o:=.lst acc) fD.1 pD.2.1 fD.2.1 fD.2.2.1 fD.2.2.2 ⟨ZI hz,its,na,va,pD.1⟩;exact fA s2.heap.objs.size G.objs.size _ s4 m4 I6 (qn _ pD.2.1) hn4 (by rw[Zk (iY zQ)];exact I4.free) fC.1 fC.2.1 fC.2.2.1 fC.2.2.2
  ·refine thn (T.item (Xd X (Y4 own Nm fr) scope d) rfl rfl rfl hc i _ s3 _ H3 _ Zvz (Zdg tP C8) vR go) λr s4 ⟨u,hr,h4⟩=>?_;subst hr;refine thn h4 λ_ s5 ⟨x,H5,I5,r5,y5,kU,qW⟩=>?_;have jI:=I5.pinned (Zdg qW C8) (T.obj _ _ kU);refine thn (hg d _ s5 _ H5 x u _ jI r5 (uG _ _ _ _ (step x H5 y5))) λ_ s6 ⟨vV,H6,I6,q6,l6,k6⟩=>?_
   have wk:∀(j:Nat) v,(To own.length fr σ)[j]?=some (some v)→vV[j]?=some (some v):=λj v e=>by
    by_cases hj:j<own.length
    ·unfold To at e;rw[lB (by simpa using hj),XX,if_pos hj]at e;cases e
    ·rw[k6 j (by lia)];exact e
   refine thn (ht d _ s6 vV H6 _ I6 q6) λb s7 ⟨H7,I7,q7⟩=>?_
   have fpK:∀{x8:St}{H':Hp}{s':Shared},Inv (Xd X (Y4 own Nm fr) scope d) ([(s2.heap.objs.size,({ cls:=.type "list",data:=.seq its.toArray na }:Obj))]++L9 fp s5.heap) x8 H' s'→
     tn (i+1) s'.heap∧(∀b∈fp,H' b=none)∧H' s2.heap.objs.size=none∧s'.heap.get? s2.heap.objs.size=some { cls:=.type "list",data:=.seq its.toArray na }:=λ{x8 H' s'} I'=>by
    have pD:=I'.pin (s2.heap.objs.size,{ cls:=.type "list",data:=.seq its.toArray na }) (lN _ (aK _ (oU.mpr rfl)));refine⟨T.keep _ _ _ kU λb hb o e=>(I'.pin (b,o) (lN _ (lN _ (Rh hb e)))).1,λb hb=>?_,pD.2.1,pD.1⟩;obtain⟨o,e,_⟩:=T.obj _ _ kU b hb;exact(I'.pin (b,o) (lN _ (lN _ (Rh hb e)))).2.1
   have drop:∀{x8:St}{H':Hp}{s':Shared},(∀(j:Nat) v,(To own.length fr σ)[j]?=some (some v)→x8[j]?=some (some v))→Inv (Xd X (Y4 own Nm fr) scope d) ([(s2.heap.objs.size,({ cls:=.type "list",data:=.seq its.toArray na }:Obj))]++L9 fp s5.heap) x8 H' s'→
     Inv (Xd X (Y4 own Nm fr) scope d) [] (To own.length fr σ) H' s':=λ{x8 H' s'} hw I'=>
    (I'.Mx (pins':=[]) (λp hp=>absurd hp (by simp))).weak (Zru.trans I'.len.symm) hw
   cases b with
   |false=>
    rw[if_neg lA];obtain⟨m',hm,w'⟩:=hNx acc H7 (by rw[if_neg lA]at q7;exact q7);obtain⟨k1,k2,k3,k4⟩:=fpK I7;exact⟨m',hm,i+1,acc,its,H7,drop wk I7,k1,k2,k3,va,⟨_,k4⟩,w'⟩
   |true=>
    rw[if_pos rfl];rw[if_pos rfl]at q7;refine thn (he d _ s7 vV H7 _ I7 q7) λy s8 ⟨yv,H8,I8,r8,q8⟩=>?_;obtain⟨m',hm,w'⟩:=hNx _ H8 q8;obtain⟨k1,k2,k3,k4⟩:=fpK I8
    have hsz:its.toArray.size≤sizeLine:=by
     rw[oO,←va.length];exact ZI hz
    refine wpAny_list_append_plain (hsz:=hsz) ⟨_,k4⟩ λh9 zX hs9=>?_
    have I9:Inv (Xd X (Y4 own Nm fr) scope d) [] (To own.length fr σ) H8 { s8 with heap:=h9 }:=by
     refine(drop wk I8).turned (t':=s8.toks) (it:=s2.heap.objs.size) (λb o hb e=>hs9.extBut b o hb e) k3 zQ (.inr (oG _)) (λx c e=>?_) λp hp=>absurd (show p∈([]:List UT) from hp) (by simp);exact lE (Zn2 x c (G0 x c e).1)
    refine⟨m',hm,i+1,acc++[yv],its++[y],H8,I9,T.keep _ _ _ k1 λb hb o e=>hs9.extBut b o (λz=>hDf (z▸hb)) e,k2,k3,va.append (.cons r8 .nil),?_,w'⟩;rw[show (its++[y]).toArray=its.toArray.push y by simp];exact zX
 exact codeAny_compStart_list (loop _) (T.self _ 0 _ _ _ (T.keep 0 _ _ st2 λb _ o e=>old b o e) (loop _))
theorem Yj(S:Zfj sc Nm own fr scope)(hc:X.calm=true)(uG:GFr own.length g)(hi:PI X tg iter wi)(hg:∀d,PG (Xd X (Y4 own Nm fr) scope d) tg g)
  (ht:∀d,PTs (Xd X (Y4 own Nm fr) scope d) ifs tt) (he:∀d,PE (Xd X (Y4 own Nm fr) scope d) elt te) (eK:X.env.scope=sc:=by rfl) (hN:X.N=Nm:=by rfl)
  (hs:∀x,foldedSetIterable iter X.env x=pure x:=by intro _;rfl):PE X (.ListComp elt [⟨tg,iter,ifs,0⟩] scope Xc) (Zj9 own.length fr wi g tt te):=by
 intro pins s σ H Q I h;rw[eval_ListComp];refine D8 (use:=none) S eK hN hc uG hi hg ht he hs I h λD C Hd s' m I' q hn nC c1 c2 c3 c4=>?_;exact⟨m,hn,λh' hb=>⟨.ref D,Hd,I'.turned (t':=s'.toks) (λb o m5 e=>hb.extBut b o m5 e) nC c2 (.inr c1) c3 c4,rfl,q⟩⟩
theorem C7{pos':Pos}(hNd:X.N.Nodup)(mY:X.N[i]?=some x)(hx:X.env.scope.names.lookup x=some .local)(S:Zfj sc Nm own fr scope)(hc:X.calm=true)(uG:GFr own.length g)(hi:PI X tg iter wi)
  (hg:∀d,PG (Xd X (Y4 own Nm fr) scope d) tg g) (ht:∀d,PTs (Xd X (Y4 own Nm fr) scope d) ifs tt) (he:∀d,PE (Xd X (Y4 own Nm fr) scope d) elt te) (eK:X.env.scope=sc:=by rfl) (hN:X.N=Nm:=by rfl)
  (hs:∀x,foldedSetIterable iter X.env x=pure x:=by intro _;rfl)
  (hsw:swapsWith (.ListComp elt [⟨tg,iter,ifs,0⟩] scope Xc) (some (.Name x pos')) pos.line X.env=pure true:=by rfl) :
  PS X (.Assign [.Name x pos'] (.ListComp elt [⟨tg,iter,ifs,0⟩] scope Xc) pos) (Zsm (Zj9 own.length fr wi g tt te) (K2 i)):=by
 intro pins s σ H D0 I h;rw[exec_Assign_Name_used _ _ _ _ hsw];refine oA (XG (oA ?_));refine oA (thn (D8 (use:=some (assign (.Name x pos') X.env)) (Q0:=λ_ s'=>SP X pins D0 .next s') S eK hN hc uG hi hg ht he hs I h λD C Hd s' m I' q hn nC c1 c2 c3 c4=>?_) λ_ s' q=>oD (oD q));show wpAny _ _ (assign (.Name x pos') X.env (.ref D)) _ _ s';refine wpAny_assign_Name (Es I' hNd mY (.inl hx) (v:=.ref D) rfl (λs2 I2 ⟨a,sb,ha⟩=>?_) (.inr hx))
 have hCa:C≠a:=by
  rcases ha with z|z
  ·rw[z];exact c2
  ·exact(c3 x a z).symm
 refine⟨m,hn.sameBut sb hCa,λh' hb=>⟨_,Hd,I2.turned (t':=s2.toks) (λb o m5 e=>hb.extBut b o m5 e) nC c2 (.inr c1) c3 c4,q⟩⟩
end
theorem U6{J:It}{k:Nat}{fr:List Nat}{tt:TT}{Q:VK}(Pv:Nat→List V→Hp→Prop)(hk:k<sizeLine)(h0:Pv 0 [] H)(hlen:∀i acc H,Pv i acc H→acc.length≤i)
  (hgo:∀i acc H,i<k→Pv i acc H→J.go i H) (z9:∀acc H,Pv k acc H→J.stop k H)
  (hs:∀i acc H2 x H3,i<k→Pv i acc H2→J.yld i H2 x H3→g x (To n fr σ) H3 λm9 H4=>tt m9 H4 λb H5=>if b=true then te m9 H5 λv H6=>Pv (i+1) (acc++[v]) H6 else Pv (i+1) acc H5)
  (hd:∀acc H2,Pv k acc H2→∀l,H2 l=none→Q (.ref l) (upd H2 l (.lst acc))) :
  Zr7 J n fr g tt te σ H Q:=by
 refine⟨λi m acc H=>m=k-i∧i≤k∧Pv i acc H,⟨k,by simp,lD _,h0⟩,?_⟩;rintro i m acc H2 ⟨rfl,hi,p⟩;have hl:=hlen i acc H2 p;refine⟨by lia,?_⟩
 by_cases x9:i<k
 ·exact .inr ⟨hgo i acc H2 x9 p,Pv (i+1),λZfc H' p'=>⟨k-(i+1),by lia,rfl,x9,p'⟩,λx H3 y=>hs i acc H2 x H3 x9 p y⟩
 ·have e:i=k:=by lia
  subst e;exact .inl ⟨z9 acc H2 p,hd acc H2 p⟩
def Vy{lo:Int}{n k:Nat}{fr:List Nat}{g:TG}{tt:TT}{te:TE}{σ:St}{H:Hp}{Q:VK}(Pv:Nat→List V→Hp→Prop)(hk:k<sizeLine)(h0:Pv 0 [] H)(hlen:∀i acc H,Pv i acc H→acc.length≤i)
  (hs:∀i acc H2,i<k→Pv i acc H2→g (.int (lo+i)) (To n fr σ) H2 λm9 H4=>tt m9 H4 λb H5=>if b=true then te m9 H5 λv H6=>Pv (i+1) (acc++[v]) H6 else Pv (i+1) acc H5)
  (hd:∀acc H2,Pv k acc H2→∀l,H2 l=none→Q (.ref l) (upd H2 l (.lst acc))):=
 U6 (J:=Itr lo k) (n:=n) (fr:=fr) (g:=g) (tt:=tt) (te:=te) (σ:=σ) (Q:=Q) Pv hk h0 hlen (λ_ _ _ h _=>h) (λ_ _ _=>oG _) (λi acc H2 x H3 hi p y=>by
  obtain⟨e1,e2⟩:=y;subst e1 e2
  exact hs i acc _ hi p) hd
def S4{K:W.Frag}{a:Addr}{xs:List V}{n:Nat}{fr:List Nat}{g:TG}{tt:TT}{te:TE}{σ:St}{H:Hp}{Q:VK}(Pv:Nat→List V→Hp→Prop)(hk:xs.length<sizeLine)(h0:Pv 0 [] H)(hlen:∀i acc H,Pv i acc H→acc.length≤i)
  (hl:∀i acc H,Pv i acc H→SqL K H a xs)
  (hs:∀i acc H2 x,xs[i]?=some x→Pv i acc H2→g x (To n fr σ) H2 λm9 H4=>tt m9 H4 λb H5=>if b=true then te m9 H5 λv H6=>Pv (i+1) (acc++[v]) H6 else Pv (i+1) acc H5)
  (hd:∀acc H2,Pv xs.length acc H2→∀l,H2 l=none→Q (.ref l) (upd H2 l (.lst acc))):=
 U6 (J:=Itl K a) (n:=n) (fr:=fr) (g:=g) (tt:=tt) (te:=te) (σ:=σ) (Q:=Q) Pv hk h0 hlen (λi acc H hi p=>⟨xs,xs[i],hl i acc H p,by simp[hi]⟩) (λacc H p=>⟨xs,hl _ acc H p,oG _⟩) (λi acc H2 x H3 hi p y=>by
  obtain⟨e1,e2⟩:=y;subst e1
  exact hs i acc _ x (e2 xs (hl i acc _ p)) p) hd
def U5{K:W.Frag}{a:Addr}{xs:List V}{n:Nat}{fr:List Nat}{g:TG}{tt:TT}{te:TE}{σ:St}{H:Hp}{Q:VK}(Pv:Nat→List V→Hp→Prop)(hk:xs.length<sizeLine)(h0:Pv 0 [] H)(hlen:∀i acc H,Pv i acc H→acc.length≤i)
  (hl:∀i acc H,Pv i acc H→SqT K H a xs)
  (hs:∀i acc H2 x,xs[i]?=some x→Pv i acc H2→g x (To n fr σ) H2 λm9 H4=>tt m9 H4 λb H5=>if b=true then te m9 H5 λv H6=>Pv (i+1) (acc++[v]) H6 else Pv (i+1) acc H5)
  (hd:∀acc H2,Pv xs.length acc H2→∀l,H2 l=none→Q (.ref l) (upd H2 l (.lst acc))):=
 U6 (J:=Itt K a) (n:=n) (fr:=fr) (g:=g) (tt:=tt) (te:=te) (σ:=σ) (Q:=Q) Pv hk h0 hlen (λi acc H hi p=>⟨xs,xs[i],hl i acc H p,by simp[hi]⟩) (λacc H p=>⟨xs,hl _ acc H p,oG _⟩) (λi acc H2 x H3 hi p y=>by
  obtain⟨e1,e2⟩:=y;subst e1
  exact hs i acc _ x (e2 xs (hl i acc _ p)) p) hd
def Its(cs:List Nat):It:=⟨λi _=>i<cs.length,λi H x H'=>H'=H∧∃c,cs[i]?=some c∧x=.str ⟨#[c]⟩,λi _=>cs.length≤i⟩
theorem Zjz(it:Addr)(ty:String)(i9:ty = "str_ascii_iterator"∨ty = "str_iterator")(x:Str)(t:Tok):
  Turn P w K tg (Its x.cps.toList) [it] it (λi h=>h.IsStrIter it ty x t i) where
 mem:=by simp
 obj:=λi h st b hb=>by
  rw[oU.mp hb];obtain⟨o,e,c,d⟩:=st;exact⟨o,e,λv z=>by rw[d]at z;cases z⟩
 keep:=λi h h' st k=>by
  obtain⟨o,e,r⟩:=st;exact⟨o,k it (by simp) o e,r⟩
 item:=by
  intro X hP hw hK hc i pins s σ H E I hf st hg;subst hP hw hK;have x9:i<x.cps.toList.length:=hg;obtain⟨f0,f1,f2,f3,f4,f5⟩:=hf it (by simp)
  have hx:x.cps[i]?=some (x.cps.toList[i]):=by
   rw[←lL];exact oC x9
  have fin:∀h',h'.IsStrIter it ty x t (i+1)→Heap.SameBut it s.heap h'→∃u,some (Value.str ⟨#[x.cps.toList[i]]⟩ s.toks)=some u∧
    wpAny (model X.prog X.w) X.A (letOwnedTupleGo tg (.ref it) u) (λ_ s2=>∃y H',Inv X pins σ H' s2∧RelV y u∧(Its x.cps.toList).yld i H y H'∧s2.heap.IsStrIter it ty x t (i+1)∧∀b∈[it],H' b=none) E { s with heap:=h',toks:=s.toks+1 }:=λh' m8 sb=>by
   have I1:Inv X pins σ H { s with heap:=h',toks:=s.toks+1 }:=I.turned (λb o hb e=>(sb.2 b hb).trans e) f0 f1 f3 f4 f5;obtain⟨o,e,c,d⟩:=id m8
   refine⟨_,rfl,Gp (s:={ s with heap:=h',toks:=s.toks+1 }) (n:=ty) e c d (by rcases i9 with z|z<;>subst z<;>decide) ⟨.str ⟨#[x.cps.toList[i]]⟩,H,I1,⟨_,rfl⟩,⟨rfl,_,oC x9,rfl⟩,m8,λb hb=>(hf b hb).1⟩⟩
  rcases i9 with z|z
  ·subst z;exact wpAny_pyNext_ascii_item st hx λh' m8 sb=>fin h' m8 sb
  ·subst z;exact wpAny_pyNext_wide_item st hx λh' m8 sb=>fin h' m8 sb
 done:=by
  intro X hP hw hK hc i pins s σ H E I hf st hg;subst hP hw hK;have hle:x.cps.toList.length≤i:=hg;obtain⟨f0,f1,f2,f3,f4,f5⟩:=hf it (by simp)
  have hx:x.cps[i]?=none:=by
   rw[←lL];exact iX.mpr hle
  rcases i9 with z|z
  ·subst z;exact wpAny_pyNext_ascii_end (I.ok.hd hc) st hx λh' eb=>⟨rfl,I.turned (t':=s.toks) (λb o hb e=>eb b o hb e) f0 f1 f3 f4 f5⟩
  ·subst z;exact wpAny_pyNext_wide_end (I.ok.hd hc) st hx λh' eb=>⟨rfl,I.turned (t':=s.toks) (λb o hb e=>eb b o hb e) f0 f1 f3 f4 f5⟩
 self:=λ_ _ _ _ _ st h=>by
  rcases i9 with z|z
  ·subst z;exact wpAny_pyIter_striter_ascii st h
  ·subst z;exact wpAny_pyIter_striter_wide st h
section
variable {X:Cx}{tg e:Expr}{te:TE}
def iStr(te:TE):TI:=λσ H R=>te σ H λv H1=>∃z,v=.str z∧R (Its z.cps.toList) H1
theorem Qt(he:PE X e te):PI X tg e (iStr te):=by
 intro pins s σ H R I h;refine thn (he pins s σ H _ I h) λv s1 ⟨x,H1,I1,r1,q1⟩=>?_;obtain⟨z,e1,q⟩:=q1;subst e1;obtain⟨t,rfl⟩:=r1
 have go:∀(ty:String),(ty = "str_ascii_iterator"∨ty = "str_iterator")→PIE X pins σ tg R (.ref s1.heap.objs.size) { s1 with heap:=s1.heap.push { cls:=.type ty,data:=.fields #[.str z t,.int 0 0] } }:=λty i9=>by
  refine⟨s1.heap.objs.size,[s1.heap.objs.size],_,_,H1,rfl,I1.kept (t':=s1.toks) λb o e=>oE _ e,Zjz _ ty i9 z t,⟨_,oS _ rfl,rfl,rfl⟩,λb hb=>?_,q⟩;rw[oU.mp hb];exact I1.Lm (oG _) (I1.hok.fresh (oG _))
 cases ha:z.cps.all (· < 128) with
 |false=>exact wpAny_pyIter_wide ha (go _ (.inr rfl))
 |true=>exact wpAny_pyIter_ascii ha (go _ (.inl rfl))
end
theorem Aa{cs:List Nat}(Pv:Nat→St→Hp→Prop)(h0:Pv 0 σ H)
  (hs:∀i c σ H,cs[i]?=some c→Pv i σ H→g (.str ⟨#[c]⟩) σ H λy4 H2=>tb { D with nx:=Pv (i+1),ct:=Pv (i+1),bk:=D.nx } y4 H2) (hd:∀σ H,Pv cs.length σ H→D.nx σ H) :
  ∃W:Nat→Nat→St→Hp→Prop,(∃m,W 0 m σ H)∧∀i m σ H,W i m σ H→
   ((Its cs).stop i H∧D.nx σ H)∨((Its cs).go i H∧∃N:St→Hp→Prop,(∀x8 H',N x8 H'→∃m',m'<m∧W (i+1) m' x8 H')∧∀x H',(Its cs).yld i H x H'→g x σ H' λy4 H2=>tb { D with nx:=N,ct:=N,bk:=D.nx } y4 H2):=by
 refine⟨λi m σ H=>m=cs.length-i∧i≤cs.length∧Pv i σ H,⟨cs.length,by simp,lD _,h0⟩,?_⟩;rintro i m σ H ⟨rfl,hi,p⟩
 by_cases x9:i<cs.length
 ·refine .inr ⟨x9,Pv (i+1),λx8 H' p'=>⟨cs.length-(i+1),by lia,rfl,x9,p'⟩,λx H' y=>?_⟩;obtain⟨e,c,hc,hx⟩:=y;subst e hx;exact hs i c σ _ hc p
 ·have e:i=cs.length:=by lia
  subst e;exact .inl ⟨oG _,hd σ H p⟩
def Pd{cs:List Nat}{n:Nat}{fr:List Nat}{g:TG}{tt:TT}{te:TE}{σ:St}{H:Hp}{Q:VK}(Pv:Nat→List V→Hp→Prop)(hk:cs.length<sizeLine)(h0:Pv 0 [] H)(hlen:∀i acc H,Pv i acc H→acc.length≤i)
  (hs:∀i acc H2 c,cs[i]?=some c→Pv i acc H2→g (.str ⟨#[c]⟩) (To n fr σ) H2 λm9 H4=>tt m9 H4 λb H5=>if b=true then te m9 H5 λv H6=>Pv (i+1) (acc++[v]) H6 else Pv (i+1) acc H5)
  (hd:∀acc H2,Pv cs.length acc H2→∀l,H2 l=none→Q (.ref l) (upd H2 l (.lst acc))):=
 U6 (J:=Its cs) (n:=n) (fr:=fr) (g:=g) (tt:=tt) (te:=te) (σ:=σ) (Q:=Q) Pv hk h0 hlen (λ_ _ _ h _=>h) (λ_ _ _=>oG _) (λi acc H2 x H3 hi p y=>by
  obtain⟨e1,c,hc,hx⟩:=y;subst e1 hx
  exact hs i acc _ c hc p) hd
theorem Hl(bs:List Bool):(List.range bs.length).all (λi=>bs.getD i false)=bs.all id:=by
 rw[bW,aU,aU];constructor
 ·intro h b hb;obtain⟨i,hi,rfl⟩:=bE hb;have:=h i (iG.mpr hi);simpa[oJ,hi] using this
 ·intro h i hi;have u6:=iG.mp hi;have:=h bs[i] (bX u6);simpa[oJ,u6] using this
section
variable {X:Cx}
theorem Zc0{p:Addr}{bs:List Bool}{Qv:VK}{f:Nat→(Nat→Bool)→Bool}{b:Bool}(hc:X.calm=true)(I:Inv X pins σ H s)(hq:SqL X.K H p (bs.map V.bl))(hb:f bs.length (λi=>bs.getD i false)=b)(q:Qv (.bl b) H):
  wpAny (model X.prog X.w) X.A.in1 (pyIter (.ref p)) (λit k7=>∃I fp wr n P St tr,it=.ref I∧Walks X.prog X.w X.A.in1 I fp wr n P St∧St 0 k7.heap∧TruthOf X.prog X.w X.A.in1 P tr∧
   ∀h' tk,(∀b o,b∉wr→k7.heap.get? b=some o→h'.get? b=some o)→EP X pins σ Qv (.bool (f n tr)) { k7 with heap:=h',toks:=tk }) X.xe s:=by
 obtain⟨its,r,pl,hz⟩:=I.list hq
 have hlen:its.toArray.size=bs.length:=by
  rw[oO,←r.length,oB]
 have y0:p<s.heap.objs.size:=by
  obtain⟨o,e,_⟩:=pl.isList;exact oT e
 refine UJ pl.isList ?_;refine⟨s.heap.objs.size,[s.heap.objs.size,p],[s.heap.objs.size],its.toArray.size,_,_,λi=>bs.getD i false,rfl,Walks.list (A:=X.A.in1) (show X.A.in1.handled=none from I.ok.hd hc) s.heap.objs.size p (lE y0) its.toArray,?_,?_,λh' tk k=>?_⟩
 ·refine And.intro (show Heap.IsListIter _ _ _ _ from⟨_,oS _ rfl,rfl,rfl⟩) ?_;obtain⟨o,e,z⟩:=pl.isList;exact⟨o,oE _ e,z⟩
 ·intro i v s' Q E hv hQ;have mD:its[i]?=some v:=by simpa using hv
  cases e:(bs.map V.bl)[i]? with
  |none=>
   have z:=r.none_of e;rw[mD]at z;cases z
  |some x=>
   obtain⟨u,hu,ru⟩:=r.get e;rw[mD]at hu;cases hu;rw[oH]at e
   cases e2:bs[i]? with
   |none=>rw[e2]at e;cases e
   |some y=>
    rw[e2]at e;cases e;cases ru;refine aM ?_;have:bs.getD i false=y:=by rw[oJ,e2];rfl
    exact this▸(show Q (bs.getD i false) s' from hQ)
 ·rw[hlen,hb];refine⟨.bl b,H,I.kept λc o e=>k c o ?_ (oE _ e),rfl,q⟩;have:=oT e;intro z;rw[oU.mp z]at this;exact iL _ this
theorem Zcr(hc:X.calm=true):X4 X (.builtin "all") (λxs H Q=>∃(p:Addr) (bs:List Bool),xs=[.ref p]∧SqL X.K H p (bs.map V.bl)∧Q (.bl (bs.all id)) H):=by
 intro pins s σ H xs us Q I r h;obtain⟨p,bs,rfl,hq,q⟩:=h;obtain⟨u,rfl,ru⟩:=vals1 r;cases ru;exact call_all_walk (Zc0 (f:=λn tr=>(List.range n).all tr) hc I hq (Hl bs) q)
theorem Nc:∀{ys:List Str}{us:UX},Vals (ys.map V.str) us→StrsAre us ys
 |[],us,r=>by rw[bQ]at r;cases r;exact .nil
 |y :: ys,us,r=>by
  rw[oW]at r
  cases r with
  |cons r1 r2=>
   obtain⟨t,e⟩:=r1;subst e;exact .cons y t (Nc r2)
theorem Lx:∀{us:UX}{ys:List Str},StrsAre us ys→Vals (ys.map V.str) us
 |_,_,.nil=>.nil
 |_,_,.cons y t h=>.cons ⟨t,rfl⟩ (Lx h)
inductive Zk4(K:W.Frag)(x:V)(xs:List V)(H:Hp)(Q:VK):Prop
 |mk(z p ys:_)(h1:x=.str z)(h2:xs=[.ref p])(h3:SqL K H p (ys.map V.str))(h4:(ys.map (·.length)).sum+ys.length*z.length≤16777216)(h5:Q (.str (Txt.join z ys)) H):Zk4 K x xs H Q
def rJoin(K:W.Frag):V→List V→Hp→VK→Prop:=λx xs H Q=>Zk4 K x xs H Q
theorem Zpm:MtR X "str.join" (rJoin X.K):=by
 intro pins s σ H x xs v us Q I rx rs h;obtain⟨z,p,ys,rfl,rfl,hq,hz,q⟩:=h;obtain⟨t,rfl⟩:=rx;obtain⟨u,rfl,ru⟩:=rs.one;cases ru;obtain⟨its,r,pl,_⟩:=I.list hq;exact join_list pl.isList (by simpa using Nc r) hz λt' k=>⟨.str _,H,I.tok _,⟨_,rfl⟩,q⟩
theorem O5(ys:List Str):(Txt.join (Str.ofString "") ys).cps.toList=(ys.map λy=>y.cps.toList).flatten:=by
  show (Builtin.Str.glued (Str.ofString "") ys).cps.toList=_;rw[ZP]
  induction ys with
  |nil=>rfl
  |cons y r ih=>
   cases r with
   |nil=>simp[Str.join]
   |cons z r=>
    have e:Str.join (Str.ofString "") (y :: z :: r)=y++Str.ofString ""++Str.join (Str.ofString "") (z :: r):=rfl;rw[e];have h0:(Str.ofString "").cps = #[]:=by decide +kernel
    show ((y.cps++(Str.ofString "").cps)++(Str.join (Str.ofString "") (z :: r)).cps).toList=_;rw[h0,Array.append_empty,YK,ih,oW,oW,List.flatten_cons];rfl
inductive Zrd(x:V)(lo:SH)(hi:SH)(H:Hp)(Q:VK):Prop
 |mk(z:_)(h1:x=.str z)(h2:z.length≤sizeLine)(h3:Q (.str (Txt.slice z lo hi)) H):Zrd x lo hi H Q
def rSlS:V→Option Int→Option Int→Hp→VK→Prop:=λx lo hi H Q=>Zrd x lo hi H Q
theorem Zst:SlR X rSlS:=by
 intro pins s σ H x v vl vu lo hi sl Q I rx hs pl pu h;obtain⟨z,rfl,hz,q⟩:=h;obtain⟨t,rfl⟩:=rx;refine⟨"str",_,F.slot_str_getitem.lookup,typeIs_str _ _ _,?_⟩
 have fin:∀t' k,EP X pins σ Q (.str (Txt.slice z lo hi) t') { s with toks:=k }:=λt' k=>⟨.str _,H,I.tok _,⟨_,rfl⟩,q⟩;have hle:(Txt.slice z lo hi).length≤sizeLine:=lI (Txt.slice_le z _ _) hz
 cases pl with
 |none=>
  cases pu with
  |none=>exact YN (l:=none) (u:=none) (st:=none) hs rfl (post_val_or_str ⟨hle,fin⟩)
  |int j uj=>exact YN (l:=none) (u:=some (j,uj)) (st:=none) hs rfl (post_val_or_str ⟨hle,fin⟩)
 |int i ui=>
  cases pu with
  |none=>exact YN (l:=some (i,ui)) (u:=none) (st:=none) hs rfl (post_val_or_str ⟨hle,fin⟩)
  |int j uj=>exact YN (l:=some (i,ui)) (u:=some (j,uj)) (st:=none) hs rfl (post_val_or_str ⟨hle,fin⟩)
inductive Zgm(K:W.Frag)(xs:List V)(H:Hp)(Q:VK):Prop
 |mk(p ys:_)(h1:xs=[.ref p])(h2:SqL K H p (ys.map V.str))(h3:ys.length<64)(h4:∀o8 l,o8.Perm ys→sortedS o8=true→H l=none→Q (.ref l) (upd H l (.lst (o8.map V.str)))):Zgm K xs H Q
def Zky(K:W.Frag):List V→Hp→VK→Prop:=λxs H Q=>Zgm K xs H Q
theorem Jy:X4 X (.builtin "sorted") (Zky X.K):=by
 intro pins s σ H xs us Q I r h;obtain⟨p,ys,rfl,hq,h64,q⟩:=h;obtain⟨u,rfl,ru⟩:=vals1 r;cases ru;obtain⟨its,r',pl,hz⟩:=I.list hq;have hlen:=r'.length;rw[oB]at hlen hz;refine sorted_strs pl.isList (Nc r') (by lia) λout ss' a1 a2 a3=>?_;obtain⟨e,he⟩:=sortedAll_at s.heap its out;have hn:H (s.heap.objs.size+1)=none:=I.hok.fresh (cY _);refine⟨.ref (s.heap.objs.size+1),upd H (s.heap.objs.size+1) (.lst (ss'.map V.str)),I.laid (t':=s.toks) (λ_ _=>sortedAll_old) (cY _) ⟨?_,out.toList,e,Lx a1,?_⟩,rfl,q ss' _ a2 a3 hn⟩
 ·rw[oB,a2.length_eq];exact hz
 ·simpa[seqObj] using he
def Jg(c:Nat):V:=.str ⟨#[c]⟩
theorem Ih{x:Str}:∀(us:UX) (k:Nat),(∀i v,us[i]?=some v→SignAt x (k+i) v)→us.length+k=x.cps.toList.length→Vals ((x.cps.toList.drop k).map Jg) us
 |[],k,_,hl=>by
  rw[ZH (by simpa using VE hl.symm)];exact .nil
 |u :: us,k,h,hl=>by
  have hk:k<x.cps.toList.length:=by
   simp only[lG]at hl;lia
  rw[bO hk,oW];refine .cons ?_ (Ih us (k+1) (λi v e=>?_) (by simp only[lG]at hl;lia))
  ·obtain⟨c,t,hc,rfl⟩:=h 0 u rfl
   have uB:x.cps.toList[k]?=some c:=by
    rw[lL];exact hc
   rw[oC hk]at uB;rw[Option.some.inj uB];exact⟨t,rfl⟩
  ·have:=h (i+1) v e;rw[show k+1+i=k+(i+1) by lia];exact this
theorem G5(hc:X.calm=true):X4 X (.type "list") (λxs H Q=>∃z,xs=[.str z]∧z.length≤sizeLine∧∀l,H l=none→Q (.ref l) (upd H l (.lst (z.cps.toList.map Jg)))):=by
 intro pins s σ H xs us Q I r h;obtain⟨z,rfl,hz,q⟩:=h;obtain⟨u,rfl,t,rfl⟩:=vals1 r;refine call_list_str (hn:=hz) (I.ok.hd hc) z t λh' tk acc c kp e it=>?_;refine⟨.ref s.heap.objs.size,_,I.laid kp (oG _) (show Yy X.prog X.w _ h' _ (.lst (z.cps.toList.map Jg)) from⟨by rw[oB];simpa[Str.length] using hz,acc.toList,c,?_,by simpa using e⟩),rfl,q _ (I.hok.fresh (oG _))⟩;have e1:=Ih (x:=z) acc.toList 0 (λi v e=>by rw[VH];exact it.2 i v (by rw[←lL];exact e)) (by rw[lJ,it.1,XR,lJ]);rw[XU]at e1;exact e1
inductive Zgq(x:V)(xs:List V)(H:Hp)(Q:VK):Prop
 |mk(z y:_)(h1:x=.str z)(h2:xs=[.str y])(h3:0≤Txt.find z y)(h4:Q (.int (Txt.find z y)) H):Zgq x xs H Q
def Zs0:V→List V→Hp→VK→Prop:=λx xs H Q=>Zgq x xs H Q
theorem Zma(hc:X.calm=true):MtR X "str.index" Zs0:=by
 intro pins s σ H x xs v us Q I rx rs h;obtain⟨z,y,rfl,rfl,h0,q⟩:=h;obtain⟨t,rfl⟩:=rx;obtain⟨u1,rfl,⟨t1,rfl⟩⟩:=rs.one;exact index_or (I.ok.hd hc) (λe=>by lia) λ_ _=>⟨.int _,H,I.tok _,⟨_,rfl⟩,q⟩
end
inductive Zqy(t:TS)(u:TS)(D:Ends)(σ:St)(H:Hp):Prop
 |mk(P:St→Hp→Prop)(h1:t { D with nx:=P } σ H)(h2:∀x8 H',P x8 H'→u D x8 H'):Zqy t u D σ H
def Zu8(t u:TS):TS:=λD σ H=>Zqy t u D σ H
theorem Zo2{rest:List Stmt}{t u:TS}(h1:PS X st t)(h2:PSs X rest u):PSs X (st :: rest) (Zu8 t u):=by
 intro pins s σ H D I h;obtain⟨P,q,k⟩:=h;have z:PSs X (st :: rest) (Zp (λD' x8 H'=>D'=D∧x8=σ∧H'=H) (λ_ _ _=>True))→True:=λ_=>True.intro
 exact Zd (t:=λD' x8 H'=>t { D' with nx:=P } x8 H'∧∀y4 H2,P y4 H2→D'.nx y4 H2) (u:=u) (λpins s σ H D I h=>by
  refine thn (h1 pins s σ H _ I h.1) λf s' r=>?_
  cases f with
  |next=>
   obtain⟨x8,H',I',p⟩:=r;exact⟨x8,H',I',h.2 x8 H' p⟩
  |brk=>exact r
  |cont=>exact r
  |ret v=>exact r) h2 pins s σ H D I ⟨q,k⟩
structure Cal(P:Program)(w:World)(K:W.Frag)(mg:UW)(base:Heap)(x:Str)(k:Nat)(ps:List Str)(sp:Sp) where
 f:Addr
 fd:FuncData
 ok:Ya P w K mg base CX0 k f fd ps sp
 at_:mg x=some (.ref f)
 kp:W.keepIn K (.ref f)=true
 b:Binds K fd ps []
theorem Z2{k:Nat}{t:TA}(C:Cal X.prog X.w X.K X.mg X.base x k ps sp)(hr:Vn k X.A)(ha:PA X (e :: es) t)(hg:Gl X x:=by rfl)
  (sS:(x==("__debug__" : Str))=false:=by decide) (he:starEach (e :: es) X.env=(false,eval e X.env) :: starEach es X.env:=by rfl) (y0:(backTo pos (starEach es X.env)).any (·.1)=false:=by rfl) :
  PE X (.Call (.Name x p) (e :: es) [] pos) (Zka sp [] E0 t):=Zo5 C.ok hr hg C.at_ C.kp C.b .nil Zro ha sS he y0
section
variable {X:Cx}
theorem Oh:OpR X (compareOp .LtE) (λx y H Q=>∃i j,x=.str i∧y=.str j∧Q (.bl (!decide (j.cps.toList<i.cps.toList))) H):=by
 intro pins s σ H x y v u Q I rx ry h;obtain⟨i,j,rfl,rfl,q⟩:=h;obtain⟨t,rfl⟩:=rx;obtain⟨t',rfl⟩:=ry;exact PySem.P.le_str (Yc I q rfl)
end
theorem Kh(a b:Nat):decide (([a]:List Nat)<[b])=decide (a<b):=by
 rw[bW,decide_eq_true_eq,decide_eq_true_eq];constructor
 ·intro h
  cases h with
  |rel h=>exact h
  |cons h=>cases h
 ·intro h;exact List.Lex.rel h
section
variable {X:Cx}{K:W.Frag}
inductive Zk3(K:W.Frag)(xs:List V)(H:Hp)(Q:VK):Prop
 |mk(p ys:_)(h1:xs=[V.ref p])(h2:(SqL K H p ys∨SqT K H p ys))(h3:Q (.int ys.length) H):Zk3 K xs H Q
def Zvr(K:W.Frag):List V→Hp→VK→Prop:=λxs H Q=>Zk3 K xs H Q
inductive Zgp(K:W.Frag)(xs:List V)(H:Hp)(Q:VK):Prop
 |mk(p ys:_)(h1:xs=[V.ref p])(h2:(SqL K H p ys∨SqT K H p ys))(h3:∀l,H l=none→Q (.ref l) (upd H l (.lst ys))):Zgp K xs H Q
def Zsy(K:W.Frag):List V→Hp→VK→Prop:=λxs H Q=>Zgp K xs H Q
inductive Zkw(K:W.Frag)(xs:List V)(H:Hp)(Q:VK):Prop
 |mk(p ys:_)(h1:xs=[V.ref p])(h2:((SqL K H p ys∧∀l,H l=none→Q (.ref l) (upd H l (.tup ys)))∨(SqT K H p ys∧Q (.ref p) H))):Zkw K xs H Q
def Zvl(K:W.Frag):List V→Hp→VK→Prop:=λxs H Q=>Zkw K xs H Q
inductive Zk6(K:W.Frag)(xs:List V)(H:Hp)(Q:VK):Prop
 |mk(p:Addr)(bs:List Bool)(h1:xs=[V.ref p])(h2:SqL K H p (bs.map V.bl))(h3:Q (.bl (bs.all id)) H):Zk6 K xs H Q
def Zvx(K:W.Frag):List V→Hp→VK→Prop:=λxs H Q=>Zk6 K xs H Q
theorem X4.imp{f:Value}{r r':List V→Hp→VK→Prop}(h:X4 X f r)(hi:∀xs H Q,r' xs H Q→r xs H Q):X4 X f r':=λpins s σ H xs us Q I rv q=>h pins s σ H xs us Q I rv (hi xs H Q q)
theorem Z0(hK:X.K=K:=by rfl):IxR X (Zsz K):=by subst hK;exact Zpx
theorem Zs(hK:X.K=K:=by rfl):IxR X (Zvs K):=by subst hK;exact Ztq
theorem Xf(hK:X.K=K:=by rfl):X4 X (.builtin "len") (Zvr K):=by subst hK;exact Ao.imp λ_ _ _ ⟨p,ys,e,h,q⟩=>⟨p,ys,e,h,q⟩
theorem Ze4(hK:X.K=K:=by rfl):X4 X (.type "list") (Zsy K):=by subst hK;exact An.imp λ_ _ _ ⟨p,ys,e,h,q⟩=>⟨p,ys,e,h,q⟩
theorem Y6(hK:X.K=K:=by rfl):X4 X (.type "tuple") (Zvl K):=by subst hK;exact Ef.imp λ_ _ _ ⟨p,ys,e,h⟩=>⟨p,ys,e,h⟩
theorem S5(hc:X.calm=true:=by rfl)(hK:X.K=K:=by rfl):X4 X (.builtin "all") (Zvx K):=by subst hK;exact(Zcr hc).imp λ_ _ _ ⟨p,bs,e,h,q⟩=>⟨p,bs,e,h,q⟩
theorem Ze2(hK:X.K=K:=by rfl):X4 X (.builtin "sorted") (Zky K):=by subst hK;exact Jy
theorem Nv(hK:X.K=K:=by rfl):OpR X (compareOp .In) (rIn K false):=by subst hK;exact Zih
theorem Dk(hK:X.K=K:=by rfl):OpR X (compareOp .NotIn) (rIn K true):=by subst hK;exact Bb
theorem Zlr(hK:X.K=K:=by rfl):OpR X (binaryOp .Add) (Zrl K):=by subst hK;exact Zo9
theorem Zay(hK:X.K=K:=by rfl):SlR X (Zvn K):=by subst hK;exact Zou
theorem Zgf(hK:X.K=K:=by rfl):SlR X (Zvm K):=by subst hK;exact Zss
theorem M9(hK:X.K=K:=by rfl):MtR X "str.join" (rJoin K):=by subst hK;exact Zpm
theorem X9(hl:PE X l tl)(hK:X.K=K:=by rfl):PI X tg l (Zrx K tl):=by subst hK;exact Zo3 hl
theorem Tr(hl:PE X l tl)(hK:X.K=K:=by rfl):PI X tg l (Zwe K tl):=by subst hK;exact Zs1 hl
theorem Of{k:Nat}{t:TGs}(hc:X.calm=true)(h:PGs X es t)(hK:X.K=K:=by rfl)
  (hn:(assignEach es X.env).length=n:=by rfl) (z9:(assignEach es X.env).findIdx? (·.1)=none:=by rfl):PG X (.Tuple es k pos) (Zp5 K n t):=by subst hK;exact Zs2 hc h hn z9
theorem Rf{o:Expr}{to:TE}{id:String}{r:V→List V→Hp→VK→Prop}(pa:PlainAttrs T)(slot:Slot T name id)(i9:typeOf (.builtin id)=pure (.type "method_descriptor"))(hm:MtR X id r)(ho:PE X o to)(hK:X.K=K:=by rfl)
  (Lh:attributeBase o name X.env (eval o X.env)=eval o X.env:=by rfl) (Lf:(apos.endLine==Xc.line)=true:=by rfl):PE X (.Call (.Attribute o name apos) [] [] Xc) (Zu9 K T r to):=by subst hK;exact Zs5 pa slot i9 hm ho Lh Lf
theorem Yk{o:Expr}{to:TE}{t:TA}{id:String}{r:V→List V→Hp→VK→Prop}(pa:PlainAttrs T)(slot:Slot T name id)(i9:typeOf (.builtin id)=pure (.type "method_descriptor"))(hm:MtR X id r)(ho:PE X o to)
  (ha:PA X (e :: es) t) (hK:X.K=K:=by rfl) (Lh:attributeBase o name X.env (eval o X.env)=eval o X.env:=by rfl)
  (Zmz:((backTo Xc (starEach (e :: es) X.env)).all (λx=>!x.1)&&(backToKw Xc (keywordEach [] X.env)).all (λx=>x.1.isSome)
   && decide ((e :: es).length+([]:List Keyword).length+(if ([]:List Keyword).isEmpty then 0 else 1)<30))=true:=by rfl)
  (Lf:(apos.endLine==Xc.line)=true:=by rfl) (hs:starEach (e :: es) X.env=(false,eval e X.env) :: starEach es X.env:=by rfl) (Zem:(backTo Xc (starEach es X.env)).any (·.1)=false:=by rfl) :
  PE X (.Call (.Attribute o name apos) (e :: es) [] Xc) (tBM K T r to t):=by subst hK;exact Zv1 pa slot i9 hm ho ha Lh Zmz Lf hs Zem
end
theorem Zkn(lo hi:SH)(n:Nat):Builtin.Str.strSliceIndices lo hi 1 n=(List.range (HT.sIx n n hi-HT.sIx n 0 lo)).map (HT.sIx n 0 lo + ·):=by
 obtain⟨h1,h2,h3⟩:=Mi lo hi n
 have e:Builtin.Str.strSliceIndices lo hi 1 n=sliceRange (sliceBounds lo hi none n).1 (sliceBounds lo hi none n).2.1 (sliceBounds lo hi none n).2.2:=by
  cases lo<;>cases hi<;>rfl
 rw[e,h1,h2,h3,sliceRange_one]
theorem slice_list(z:Str)(lo hi:SH):(Txt.slice z lo hi).cps.toList=(z.cps.toList.drop (HT.sIx z.length 0 lo)).take (HT.sIx z.length z.length hi-HT.sIx z.length 0 lo):=by
 unfold Txt.slice;rw[Zkn]
 by_cases hc:((1:Int)==1&&((List.range (HT.sIx z.length z.length hi-HT.sIx z.length 0 lo)).map (HT.sIx z.length 0 lo + ·)).length==z.length)=true
 ·rw[if_pos hc];simp only[lQ,oB,lO,beq_iff_eq,true_and]at hc;have h1:=HT.Zdp z.length 0 (lD _) lo;have h2:=HT.Zdp z.length z.length (oG _) hi;have hl:z.cps.toList.length=z.length:=by simp[Str.length]
  by_cases h0:z.length=0
  ·have:z.cps.toList=[]:=iT (by lia);rw[this];simp
  ·have e0:HT.sIx z.length 0 lo=0:=by lia
   rw[e0,XU,aR (by lia)]
 ·rw[if_neg hc];rw[pick_run]
theorem Xw:bootBuiltins "len"=some (.builtin "len"):=by decide +kernel
theorem Ko:bootBuiltins "sorted"=some (.builtin "sorted"):=by decide +kernel
theorem G7:bootBuiltins "all"=some (.builtin "all"):=by decide +kernel
theorem Zum:bootBuiltins "max"=some (.builtin "max"):=by decide +kernel
theorem Ar:bootBuiltins "list"=some (.type "list"):=by decide +kernel
theorem Xr:bootBuiltins "tuple"=some (.type "tuple"):=by decide +kernel
theorem Zun:bootBuiltins "int"=some (.type "int"):=by decide +kernel
theorem Zul:bootBuiltins "str"=some (.type "str"):=by decide +kernel
theorem Rr:bootBuiltins "enumerate"=some (.type "enumerate"):=by decide +kernel
theorem Pj:bootBuiltins "reversed"=some (.type "reversed"):=by decide +kernel
theorem Ze9:bootBuiltins "set"=some (.type "set"):=by decide +kernel
theorem Zqi:bootBuiltins "dict"=some (.type "dict"):=by decide +kernel
theorem S3{x:V}{Nt:VK}{Nf:Hp→Prop}(h:te (σ.set i (some x)) H Nt):K2 i x σ H λm9 H4=>Zsb m9 H4 λb H5=>if b=true then te m9 H5 Nt else Nf H5:=by
 show if true=true then te (σ.set i (some x)) H Nt else Nf H
 exact Kj h
theorem Zf{p:Addr}(h:H p=none)(o:HO):Zl H (upd H p o):=λb u q=>by rw[Zk (Zi q h)];exact q
theorem Xv(h:n≤1000):n≤sizeLine:=ZI (Z1 h)
def Fg(sc:Addr)(xs:List V):Prop:=∃a b c d:Int,xs=[.ref sc,.int a,.int b,.int c,.int d]∧0≤a∧0≤b∧0≤c∧c<2147483647∧0≤d
structure Yx(H:Hp)(p sc:Addr):Prop where
 here:∃xs,H p=some (.lst xs)∧Fg sc xs
 cells:∃ns:List Int,H sc=some (.lst (ns.map V.int))
theorem Yx.ne{p sc:Addr}(F:Yx H p sc):sc≠p:=by
 obtain⟨xs,h1,a,b,c,d,e,_⟩:=F.here;obtain⟨ns,h2⟩:=F.cells;refine Wu h2 h1 λz=>?_;have z':ns.map V.int=xs:=by injection z
 rw[e]at z'
 cases ns with
 |nil=>cases z'
 |cons n r=>
  rw[oW]at z'
  injection z' with z1
  cases z1
theorem Yx.go{p sc:Addr}(F:Yx H p sc)(h:Fg sc xs):Yx (upd H p (.lst xs)) p sc:=by
 obtain⟨ns,h2⟩:=F.cells;exact⟨⟨xs,Zc,h⟩,ns,by rw[Zk F.ne];exact h2⟩
def Xs(H H':Hp)(p:Addr):Prop:=∀b o,H b=some o→b≠p→H' b=some o
theorem Yx.same{p sc:Addr}(F:Yx H p sc)(e:Zl H H'):Yx H' p sc:=by
 obtain⟨xs,h1,h2⟩:=F.here;obtain⟨ns,h3⟩:=F.cells;exact⟨⟨xs,e _ _ h1,h2⟩,ns,e _ _ h3⟩
theorem Xs.refl(H:Hp)(p:Addr):Xs H H p:=λ_ _ h _=>h
theorem Xs.trans{p:Addr}(a:Xs H H1 p)(b:Xs H1 H2 p):Xs H H2 p:=λc o h n=>b c o (a c o h n) n
theorem Xs.upd{p:Addr}(o:HO):Xs H (upd H p o) p:=λb u h n=>by rw[Zk n];exact h
theorem Xs.same{p:Addr}(h:Zl H H'):Xs H H' p:=λb o e _=>h b o e
inductive Zgb(K:W.Frag)(vs:List V)(H:Hp)(Q:VK):Prop
 |mk(a:Addr)(ns:List Int)(h1:vs=[.ref a])(h2:SqL K H a (ns.map V.int))(h3:∀p sc H',H p=none→Zl H H'→Yx H' p sc→Q (.ref p) H'):Zgb K vs H Q
def Zki(K:W.Frag):Sp:=λvs H Q _=>Zgb K vs H Q
inductive Zf5(vs:List V)(H:Hp)(Q:VK):Prop
 |mk(p sc:Addr)(m:Int)(h1:vs=[.ref p,.int m])(h2:0<m)(h3:m<1073741824)(h4:Yx H p sc)(h5:∀r xs,0≤r→r<m→Fg sc xs→Q (.int r) (upd H p (.lst xs))):Zf5 vs H Q
def Qm:Sp:=λvs H Q _=>Zf5 vs H Q
def Vf(z:Str)(n:Nat):Prop:=z.cps.toList.length=n∧z.cps.toList.Pairwise (·<·)∧∀c∈z.cps.toList,97≤c∧c≤122
inductive Iz(vs:List V)(H:Hp)(Q:VK):Prop
 |mk(p sc:Addr)(m:Int)(h1:vs=[.ref p,.int m])(h2:0≤m)(h3:m≤26)(h4:Yx H p sc)(h5:∀z H',Vf z m.toNat→Xs H H' p→Yx H' p sc→Q (.str z) H'):Iz vs H Q
def E3:Sp:=λvs H Q _=>Iz vs H Q
inductive Dt where
 |non|bl (b:Bool)|int (i:Int)|str (x:Str)|lst (ds:List Dt)|tup (ds:List Dt)
def Dt.dep:Dt→Nat
 |.lst ds=>(ds.map Dt.dep).foldr max 0+1
 |.tup ds=>(ds.map Dt.dep).foldr max 0+1
 |_=>0
inductive Den(H:Hp):V→Dt→Prop where
 |non:Den H .non .non
 |bl (b:Bool):Den H (.bl b) (.bl b)
 |int (i:Int):Den H (.int i) (.int i)
 |str (x:Str):Den H (.str x) (.str x)
 |lst {a:Addr}{xs:List V}{ds:List Dt} (h:H a=some (.lst xs)) (hz:xs.length≤1000000) (hl:xs.length=ds.length) (hd:∀(i:Nat) x d,xs[i]?=some x→ds[i]?=some d→Den H x d):Den H (.ref a) (.lst ds)
 |tup {a:Addr}{xs:List V}{ds:List Dt} (h:H a=some (.tup xs)) (hz:xs.length≤1000000) (hl:xs.length=ds.length) (hd:∀(i:Nat) x d,xs[i]?=some x→ds[i]?=some d→Den H x d):Den H (.ref a) (.tup ds)
section
variable {X:Cx}{tg:Expr}
end
def tTru(K:W.Frag)(ta:TE):TT:=λσ H Q=>ta σ H λx H'=>∃k,Zob K x H' k∧Q k H'
theorem We{a:Expr}{ta:TE}(ha:PE X a ta)(he:∀whole,isTrue a X.env whole=(do let v ←whole;standAt a.pos;holding [v] (truthy v)))(hK:X.K=K:=by rfl):PT X a (tTru K ta):=by
 subst hK;exact Zk8 ha he
def Zuw(w:World)(e:Int×Value):Prop:=∃y u,e=(hashStr w y,Value.str y u)
def F7(e:Int×Value):Str:=strOf e.2
def Pn(w:World)(o:Obj)(D:List Str)(n:Nat):Prop:=
 ∃(es:SF) (ep:Nat) (t:SetTable),o = { cls:=.type "set",dict:=none,data:=.set es ep t }∧(∀e∈es.toList,Zuw w e)∧
  (es.toList.map F7).Nodup∧(∀y,y∈es.toList.map F7↔y∈D)∧es.size≤n∧t.fits es.size=true∧t.led = !w.params.followText "set-order"∧(es.size=0∨t.plain=false)
theorem Zis(t:SetTable)(es:SF)(h:Int)(x:Value):(layNew t es h x).2.1.led=t.led∧(t.plain=false→(layNew t es h x).2.1.plain=false):=by
 unfold layNew
 split
 ·dsimp only;unfold SetTable.orStandIn
  split
  ·exact⟨rfl,λz=>z⟩
  ·exact⟨rfl,λ_=>rfl⟩
 ·exact⟨rfl,λ_=>rfl⟩
theorem Za8(t:SetTable)(es:SF)(n:Nat):(relayAll t es n).2.1.led=t.led∧(t.plain=false→(relayAll t es n).2.1.plain=false):=by
 unfold relayAll
 split
 ·rename_i t' order hr
  dsimp only
  split
  ·unfold SetTable.relaid SetTable.laid at hr
   cases hl:SetTable.layClean (SetTable.sizeAbove n-1) (es.map (·.1)) with
   |none=>rw[hl]at hr;cases hr
   |some ow=>
    rw[hl]at hr;have e:=Option.some.inj hr;have e1:t'.led=t.led:=by rw[←(Prod.mk.inj e).1]
    have e2:t'.plain=t.plain:=by rw[←(Prod.mk.inj e).1]
    exact⟨e1,λz=>e2.trans z⟩
  ·exact⟨rfl,λ_=>rfl⟩
 ·exact⟨rfl,λ_=>rfl⟩
section
variable {P:Program}{w:World}{A:Around}{E:UQ}{s:Shared}
theorem Znl{es:List (Int×Value)}(h:∀e∈es,Zuw w e):ElemsOf (strKind P w) es:=λe he=>by
 obtain⟨y,u,rfl⟩:=h e he;exact⟨⟨y,by show Value.isStrOf y (.str y u)=true;simp[Value.isStrOf],rfl⟩,rfl⟩
theorem Im{es xM:SF}{t t':SetTable}{Q:SK}(ho:s.heap.get? a=some { cls:=.type "set",dict:=none,data:=.set es ep t })(hz:xM.size≤4096)
  (h:∀h',Heap.SameBut a s.heap h'→h'.get? a=some { cls:=.type "set",dict:=none,data:=.set xM (ep+1) t' }→Q () { s with heap:=h' }):wpAny (model P w) A (storeSet a xM t') Q E s:=by
 refine wpAny_storeSet_of ho rfl (h _ (iV _ _ _) ?_) (lI hz (by rw[sizeLine_eq];lia));have e:=lT (Obj.putSet xM t') ho (by rw[putSet_of xM t' rfl];rfl);rw[putSet_of xM t' rfl]at e;exact e
theorem Er{g:Bool→Sem Unit}(hg:∀(b:Bool) (x6:Shared) (Q':SK),Q' () x6→wpAny (model P w) A (g b) Q' E x6){es es1:SF}{t t2:SetTable}
  (ho:s.heap.get? a=some { cls:=.type "set",dict:=none,data:=.set es ep t }) (hz:es1.size≤4096) (hf:t2.fits es1.size=true) {wd:Bool}{R:Option Bool→Shared→Prop}
  (h:∀h' es2 sG t3,Heap.SameBut a s.heap h'→h'.get? a=some { cls:=.type "set",dict:=none,data:=.set es2 sG t3 }→es2.toList.Perm es1.toList→t3.fits es2.size=true→t3.led=t2.led→(t2.plain=false→t3.plain=false)→
   R (some true) { s with heap:=h' }) :
  wpAny (model P w) A (do
   storeSet a es1 t2
   if (!wd&&t2.tooFull)=true then do
    g (relayAll t2 es1 (SetTable.grown es1.size)).2.2
    storeSet a (relayAll t2 es1 (SetTable.grown es1.size)).1
     (relayAll t2 es1 (SetTable.grown es1.size)).2.1
    pure (some true)
   else pure (some true)) R E s:=by
 refine oA (Im ho hz λh1 xZ e1=>?_)
 split
 ·have hp:=relayAll_perm t2 es1 (SetTable.grown es1.size);have xW:=relayAll_fits t2 es1 (SetTable.grown es1.size);have mB:=Za8 t2 es1 (SetTable.grown es1.size);generalize yQ:relayAll t2 es1 (SetTable.grown es1.size)=Rl at hp xW mB ⊢;obtain⟨es2,t3,gv⟩:=Rl;dsimp only at hp xW mB ⊢;have hsz:es2.size=es1.size:=by rw[←lJ,hp.length_eq,lJ]
  refine oA (hg _ _ _ ?_)
  refine oA (Im (s:={ s with heap:=h1 }) e1 (by rw[hsz];exact hz) λh2 vQ e2=>?_);exact oD (h h2 _ _ _ (xZ.trans vQ) e2 hp xW mB.1 mB.2)
 ·exact oD (h h1 _ _ _ xZ e1 (YC _) hf rfl λz=>z)
theorem key_is{es:List (Int×Value)}(h:∀e∈es,Zuw w e){e:Int×Value}(he:e∈es)(y:Str):(strKind P w).is y e.2=true↔F7 e=y:=by
 obtain⟨z,u,rfl⟩:=h e he;show Value.isStrOf y (.str z u)=true↔z=y;simp only[Value.isStrOf,beq_iff_eq]
theorem Zn7{D:List Str}{Q:SR}(ho:s.heap.get? a=some o)(hS:Pn w o D n)(hb:n+1<4096)(y:Str)(u:Tok)
  (h:∀b h' o',Heap.SameBut a s.heap h'→h'.get? a=some o'→Pn w o' (D++[y]) (n+1)→Q b { s with heap:=h' }):wpAny (model P w) A (setAddHashed a (.str y u) (hashStr w y)) Q E s:=by
 obtain⟨es,ep,t,rfl,sT,n5,Zmw,hsz,hf,B3,y0⟩:=hS;have d8:ElemsOf (strKind P w) es.toList:=Znl sT;have pH:es.size<scanBound:=by show es.size<4096;lia
 have B4:(strKind P w).is y (.str y u)=true:=by show Value.isStrOf y (.str y u)=true;simp[Value.isStrOf]
 unfold setAddHashed setAddHashedIn;refine iB (oA (ZX ho rfl hf ?_));dsimp only;rw[byScan_of (knd:=strKind P w) (x:=.str y u) rfl pH d8];simp only[↓reduceIte];unfold setAddByScan;refine oA (oA (aC (oA ?_)));refine wpAny_setScan_of (knd:=strKind P w) (k:=y) B4 ho rfl hf d8 ?_
 have hfi:∀r,es.toList.findIdx? (λe=>(strKind P w).is y e.2)=r→r.isSome=decide (y∈es.toList.map F7):=λr hr=>by
  subst hr;rw[bW,decide_eq_true_eq,List.findIdx?_isSome,YD,lF];exact⟨λ⟨e,he,z⟩=>⟨e,he,(key_is (P:=P) sT he y).mp z⟩,λ⟨e,he,z⟩=>⟨e,he,(key_is (P:=P) sT he y).mpr z⟩⟩
 cases hr:es.toList.findIdx? (λe=>(strKind P w).is y e.2) with
 |some j=>
  have t6:y∈es.toList.map F7:=of_decide_eq_true (hfi _ hr).symm;dsimp only;refine oD (oD ?_);refine h _ s.heap _ (Heap.SameBut.refl a s.heap) ho ⟨es,ep,t,rfl,sT,n5,λz=>?_,by lia,hf,B3,y0⟩;rw[Zmw z,iD,oU];exact⟨.inl,λz=>z.elim id λe=>e▸(Zmw y).mp t6⟩
 |none=>
  have Zmu:y∉es.toList.map F7:=λz=>by
   have:=hfi _ hr;rw[decide_eq_true z]at this;cases this
  dsimp only;have Q7:=layNew_perm t es (hashStr w y) (.str y u);have Dv:=layNew_fits t es (hashStr w y) (.str y u);have mB:=Zis t es (hashStr w y) (.str y u);show wpAny (model P w) A (_ >>= _) _ _ _;have eh:(strKind P w).hash y=hashStr w y:=rfl;generalize hL:layNew t es (hashStr w y) (.str y u)=L at Q7 Dv mB ⊢;obtain⟨es1,t1,wd,gv⟩:=L;dsimp only at Q7 Dv mB ⊢;rw[Array.toList_push]at Q7;have hsz1:es1.size=es.size+1:=by rw[←lJ,Q7.length_eq,oV,lJ];rfl
  have fE:∀(b:Bool) (x6:Shared) (Q':SK),Q' () x6→wpAny (model P w) A (match b with|true=>rule "set.scan.the-table-gave-way"|false=>pure ()) Q' E x6:=
   λb x6 Q' hq=>by cases b<;>first|exact oD hq|exact aC hq
  have fin:∀t2:SetTable,t2.led=t1.led→t2.plain=false→t2.fits es1.size=true→∀h' es2 sG t3,Heap.SameBut a s.heap h'→h'.get? a=some { cls:=.type "set",dict:=none,data:=.set es2 sG t3 }→es2.toList.Perm es1.toList→
    t3.fits es2.size=true→t3.led=t2.led→(t2.plain=false→t3.plain=false)→Q true { s with heap:=h' }:=λt2 l2 p2 _ h' es2 sG t3 sb e2 hp f3 l3 p3=>by
   have pm:es2.toList.Perm (es.toList++[(hashStr w y,.str y u)]):=hp.trans Q7
   have pk:(es2.toList.map F7).Perm (es.toList.map F7++[y]):=by
    have:=pm.map F7;rw[lH]at this;exact this
   refine h _ h' _ sb e2 ⟨es2,sG,t3,rfl,λe he=>?_,?_,λz=>?_,?_,f3,?_,.inr (p3 p2)⟩
   ·rcases iD.mp (pm.mem_iff.mp he) with z|z
    ·exact sT e z
    ·exact⟨y,u,oU.mp z⟩
   ·refine pk.nodup_iff.mpr (WD.mpr ⟨n5,by simp,λa ha b hb=>?_⟩);rw[oU.mp hb];exact λz=>Zmu (z▸ha)
   ·rw[pk.mem_iff,iD,iD,Zmw z]
   ·have:es2.size=es1.size:=by rw[←lJ,hp.length_eq,lJ]
    lia
   ·rw[l3,l2,mB.1,B3]
  refine oA (fE _ _ _ ?_)
  split
  ·refine oA ?_;rw[hashByValue_scannable 8 (x:=.str y u) rfl];refine oD ?_
   refine Er fE ho (by lia) (t2:={ t1 with plain:=false }) (SetTable.fits_plain_off Dv) λh' es2 sG t3 sb e2 hp f3 l3 p3=>?_;dsimp only
   exact oD (fin { t1 with plain:=false } rfl rfl (SetTable.fits_plain_off Dv) h' es2 sG t3 sb e2 hp f3 l3 p3)
  ·rename_i hnp
   refine oA (oD ?_);simp only[↓reduceIte];refine Er fE ho (by lia) Dv λh' es2 sG t3 sb e2 hp f3 l3 p3=>?_;dsimp only;exact oD (fin t1 rfl (by simpa using hnp) Dv h' es2 sG t3 sb e2 hp f3 l3 p3)
def Xe(w:World):Obj:={ cls:=.type "set",dict:=none,data:=.set #[] 0 (.fresh 0 0 (!w.params.followText "set-order")) }
theorem Zl6(v:Value){Q₁:UQ}(h:Q₁ (.ref s.heap.objs.size) { s with heap:=s.heap.push (Xe w) }):codeAny (model P w) A (.call (.builtin "set.__new__") ⟨[.type "set",v],[]⟩) (wants Q₁ E) s:=by
 refine codeAny_of_tree ?_;show wpAny _ A.in1 (do checkBuiltinCall "set.__new__" ⟨[.type "set",v],[]⟩;again (.builtin "set.__new__" ⟨[.type "set",v],[]⟩)) _ _ s;refine oA (iQ (PySem.F.newCall_set_1 v) (oD ⟨plainId_quiet PySem.F.plain_set_new _,aD PySem.F.entry_set_new ?_⟩));rw[bM PySem.F.plain_set_new _];unfold Builtin.«set.__new__» Builtin.Frozenset.newClass;have Zek:=PySem.sub_set_self;obtain⟨hp,g,d,tk,os⟩:=s;dsimp only
 wp_walk
 refine wpAny_askSetting (oD ?_);dsimp only;simp only[newObj];exact oA (wpAny_alloc (oD (oD h)))
theorem Zv8(w:World):Pn w (Xe w) [] 0:=
 ⟨#[],0,_,rfl,λe he=>by simp at he,by simp,λy=>by simp,oG _,rfl,rfl,.inl rfl⟩
set_option maxHeartbeats 3200000 in
end
theorem Uh:Slot "set_iterator" "__next__" "set_iterator.__next__":=
 .of (owner:="set_iterator") (n:="__next__") (by rw[typeLookup_type,builtinLookup_eq_fast];kernel_rfl) (by decide +kernel) (by decide +kernel) (by decide +kernel) (by first|exact .inl (by decide +kernel)|exact .inr (by decide +kernel)) (by rw[isSubtype_type];kernel_rfl)
theorem Mh:Slot "set_iterator" "__iter__" "set_iterator.__iter__":=
 .of (owner:="set_iterator") (n:="__iter__") (by rw[typeLookup_type,builtinLookup_eq_fast];kernel_rfl) (by decide +kernel) (by decide +kernel) (by decide +kernel) (by first|exact .inl (by decide +kernel)|exact .inr (by decide +kernel)) (by rw[isSubtype_type];kernel_rfl)
theorem Ea:entryFor table "set_iterator.__next__"=some Builtin.«set_iterator.__next__»:=entryFor_of_tree (by kernel_rfl)
theorem Aw(a:Value):argsOk "set_iterator.__next__" ⟨[a],[]⟩:=by unfold argsOk;kernel_rfl
theorem Ax(a:Value):argsOk "set_iterator.__iter__" ⟨[a],[]⟩:=by unfold argsOk;kernel_rfl
theorem Gx:entryFor table "set.__iter__"=some Builtin.«frozenset.__iter__»:=
 entryFor_alias (id':="frozenset.__iter__") (by kernel_rfl) rfl (by decide +kernel) (by kernel_rfl)
theorem Pa{α:Type}:∀(l:List α) (i:Nat) (h:i<l.length),(l[i] :: l.eraseIdx i).Perm l
 |x :: l,0,h=>YC _
 |x :: l,i+1,h=>by
  have:=Pa l i (by simpa using h);exact(List.Perm.swap _ _ _).trans (List.Perm.cons x this)
theorem Zgu{α:Type}(next:TX):∀(fuel k:Nat) (left:List α) (out:Array α),left.length=fuel→(pickOrder.go next fuel k left out).toList.Perm (out.toList++left)
 | 0,k,left,out,h=>by
  rw[iT h,aB];exact YC _
 |fuel+1,k,left,out,h=>by
  have x9:next k%left.length<left.length:=XD _ (by lia)
  unfold pickOrder.go;rw[oC x9];dsimp only;refine(Zgu next fuel (k+1) _ _ (by rw[List.length_eraseIdx,if_pos x9];lia)).trans ?_;rw[Array.toList_push,WE];refine List.Perm.append_left _ ?_;exact(Pa _ _ x9)
theorem Zib{α:Type}(next:TX)(xs:Array α):(pickOrder next xs).toList.Perm xs.toList:=by
 have:=Zgu next xs.size 0 xs.toList #[] (by simp)
 rw[show (#[]:Array α).toList=[] from rfl,List.nil_append]at this;exact this
section
variable {P:Program}{w:World}{A:Around}{E:UQ}{s:Shared}
theorem Zci{α:Type}:∀(n:Nat) (xs:List α) {s:Shared}{Q:List α→Shared→Prop},xs.length=n→(∀ps d',ps.Perm xs→Q ps { s with drawn:=d' })→wpAny (model P w) A (drawOrder n xs) Q E s
 | 0,xs,s,Q,h,hq=>by
  rw[iT h]at hq ⊢;exact oD (hq [] s.drawn (YC _))
 |n+1,[],s,Q,h,hq=>by cases h
 |n+1,x :: xs,s,Q,h,hq=>by
  unfold drawOrder;refine oA ?_;intro Γ p hΓ;show Sem.wp _ _ (Sem.choose .order (x :: xs).length Sem.pure) _ _ _ _;rw[Sem.wp_choose];refine⟨by simp,?_⟩;have x9:=XD ((model P w).w.draws .order (s.drawn.get .order)) (show 0<(x :: xs).length by simp);generalize ((model P w).w.draws .order (s.drawn.get .order))%(x :: xs).length=i at x9;rw[Sem.wp_pure]
  refine(show wpAny (model P w) A (match (x :: xs)[i]? with|some y=>(do return y :: (←drawOrder n ((x :: xs).eraseIdx i)))|none=>unsupported "internal:drawOrder") Q E { s with drawn:=s.drawn.bump .order } from ?_);rw[oC x9];dsimp only;refine oA (Zci n _ (by rw[List.length_eraseIdx,if_pos x9];lia) λps d' hp=>oD ?_);exact hq _ _ ((List.Perm.cons _ hp).trans (Pa _ _ x9))
def Zkp(es:SF)(ep:Nat)(t:SetTable):Obj:={ cls:=.type "set",dict:=none,data:=.set es ep t }
def itO(f:Value)(i:Nat)(S:Addr)(n ep:Nat):Obj:={ cls:=.type "set_iterator",data:=.fields #[f,.int i 0,.ref S,.int n 0,.int ep 0] }
def ItT(w:World)(I S T:Addr)(es:SF)(ep:Nat)(t:SetTable)(vs:UX)(i:Nat)(h:Heap):Prop:=
 h.get? S=some (Zkp es ep t)∧(
  (w.params.followText "set-order"=true∧vs=(pickOrder (w.params.setOrder S ep) es).toList.map (·.2)∧h.get? I=some (itO (.int 0 0) i S es.size ep))∨
  (w.params.followText "set-order"=false∧es.size≤1∧vs=es.toList.map (·.2)∧∃k:Nat,h.get? I=some (itO (.int k 0) i S es.size ep)∧SetTable.below t.place k=i)∨
  (w.params.followText "set-order"=false∧∃ps:List Nat,vs=ps.map (λp=>((es[p]?).map (·.2)).getD .none)∧(∀p∈ps,p<es.size)∧h.get? I=some (itO (.ref T) i S es.size ep)∧
   h.get? T=some { cls:=.type "tuple",data:=.seq (ps.map λ(p:Nat)=>Value.int p 0).toArray }))
theorem Ua{f:Value}{j:Nat}{S:Addr}{n ep:Nat}{Q:SK}(ho:s.heap.get? a=some (itO f j S n ep))(hi:i<5)
  (h:∀h',Heap.SameBut a s.heap h'→h'.get? a=some { cls:=.type "set_iterator",data:=.fields ((#[f,.int j 0,.ref S,.int n 0,.int ep 0]:Array Value).setIfInBounds i v) }→Q () { s with heap:=h' }) :
  wpAny (model P w) A (setField (.ref a) i v) Q E s:=
 wpAny_setField_rec (cls:=.type "set_iterator") (vs:=#[f,.int j 0,.ref S,.int n 0,.int ep 0]) ho hi λh' e sb=>h h' sb e
theorem Zds{Q:TJ}{Q0:Fin→Shared→Prop}(hh:A.handled=none)(hQ:∀h',(∀b o,s.heap.get? b=some o→h'.get? b=some o)→Q none { s with heap:=h' }):
  wpAny (model P w) A (do raiseNew (←newExc (.type "StopIteration") [])) Q0 (λe s'=>wpAny (model P w) A (do if ←isInstance e (.type "StopIteration") then pure none else throw e) Q E s') s:=by
 refine oA ?_;simp only[newExc,newTuple];refine oA (lS ?_ (by size_fits));refine oA (m:=firstArgMember _ _) (iQ (a:=Value.none) (by first|rfl|(simp only[firstArgMember];rfl)) ?_);refine lS ?_ (by size_fits);simp only[raiseNew];refine oA (XH ?_);rw[hh];refine oA (oD (WI ?_));refine oA (bY (T:="StopIteration") (b:=true) ⟨_,oS _ rfl,rfl⟩ isSubtype_stop ?_);exact oD (hQ _ λb o e=>oE _ (oE _ e))
theorem Ic{Q:SR}(h:Q (w.params.followText "set-order") s):wpAny (model P w) A setsByText Q E s:=by
 unfold setsByText;exact oA (wpAny_askSetting (oD h))
theorem Eo{S:Addr}{f:Value}{nx:Nat}{Q:TJ}{E0:UQ}(hI:s.heap.get? I=some (itO f i S n ep))
  (hQ:∀h',(∀b,b≠I→h'.get? b=s.heap.get? b)→h'.get? I=some (itO (.int nx 0) (i+1) S n ep)→Q (some v) { s with heap:=h' }) :
  wpAny (model P w) A.in1 (do setField (.ref I) 0 (rawInt nx);setField (.ref I) 1 (rawInt (i+1));ret v) (λfin s'=>∃v,fin=Fin.done (Flow.ret v)∧wpAny (model P w) A (pure (some v)) Q E s') E0 s:=by
 refine oA (Ua hI (by lia) λh1 xZ e1=>?_)
 refine oA (Ua (s:={ s with heap:=h1 }) (f:=.int nx 0) e1 (by lia) λh2 vQ e2=>?_);exact oD ⟨v,rfl,oD (hQ h2 (λb hb=>(vQ.2 b hb).trans (xZ.2 b hb)) e2)⟩
theorem Zje{pl:SJ}(h:pl.size=1)(e:pl[0]?=some j):SetTable.below pl (j+1)=1:=by
 obtain⟨l⟩:=pl
 match l,h with
 |[z],_=>
  have:z=j:=by simpa using e
  subst this;simp[SetTable.below,SetTable.below.go]
theorem Zfa(pl:SJ):SetTable.below pl 0=0:=by
 have:∀fuel hi,SetTable.below.go pl 0 fuel 0 hi=0:=λfuel=>by
  induction fuel with
  |zero=>intro hi;rfl
  |succ n ih=>
   intro hi;unfold SetTable.below.go
   split
   ·dsimp only;rw[if_neg (XJ _)];exact ih _
   ·rfl
 exact this _ _
theorem Zth{Q:SK}{t:SetTable}{es:SF}(h:t.led=true)(q:Q () s):wpAny (model P w) A (if (!t.led && !es.isEmpty)=true then unsupported "set:maker-not-led" else pure ()) Q E s:=by
 rw[h];exact oD q
theorem Dl{S T:Addr}{es:SF}{t:SetTable}{Q:TJ}(gN:S≠I)(zR:T≠I)(z9:ItT w I S T es ep t vs i s.heap)(hh:A.handled=none)
  (hf:t.fits es.size=true) (B3:t.led = !w.params.followText "set-order") (hi:i≤vs.length)
  (hQ:∀v h',vs[i]?=some v→(∀b,b≠I→h'.get? b=s.heap.get? b)→ItT w I S T es ep t vs (i+1) h'→Q (some v) { s with heap:=h' })
  (hN:vs[i]?=none→∀h',(∀b o,b≠I→s.heap.get? b=some o→h'.get? b=some o)→Q none { s with heap:=h' }):wpAny (model P w) A (pyNext (.ref I)) Q E s:=by
 obtain⟨hS,hm⟩:=z9
 have hI:∃f,s.heap.get? I=some (itO f i S es.size ep):=by
  rcases hm with ⟨_,_,e⟩|⟨_,_,_,k,e,_⟩|⟨_,ps,_,_,e,_⟩<;>exact⟨_,e⟩
 obtain⟨f,hI⟩:=hI;have hT:s.TypeIs (.ref I) "set_iterator":=⟨_,hI,rfl⟩
 have stop:∀(s1:Shared) (Q0:Fin→Shared→Prop) (f1:Value),(∀b o,b≠I→s.heap.get? b=some o→s1.heap.get? b=some o)→s1 = { s with heap:=s1.heap }→s1.heap.get? I=some (itO f1 i S es.size ep)→vs[i]?=none→
   wpAny (model P w) A.in1 (do setField (.ref I) 2 .none;raiseNew (←newExc (.type "StopIteration") [])) Q0 (λe s'=>wpAny (model P w) A (do if ←isInstance e (.type "StopIteration") then pure none else throw e) Q E s') s1:=λs1 Q0 f1 k e1 eI en=>by
  refine oA (Ua eI (by lia) λh2 vQ _=>?_)
  refine Zds (A:=A.in1) hh (s:={ s1 with heap:=h2 }) (Q:=Q) (λh3 k3=>?_) |> λz=>aA z (λ_ _ q=>q) λe s' q=>wpAny_of_in1 q
  have:=hN en h3 λb o hb e=>k3 b o ((vQ.2 b hb).trans (k b o hb e));rw[e1];exact this
 have y0:t.place.size=es.size:=by
  have:=hf;simp only[SetTable.fits,lQ,beq_iff_eq]at this;exact this.1
 unfold pyNext;refine oA (bI (lR (name:=Str.ofString "__next__") hT Uh (lP Uh hT Ea ?_ (Aw _))));unfold Builtin.«set_iterator.__next__»;refine oA (m:=slotArgs "__next__" 0 _) (oD (oA ?_));refine aV hI rfl ?_;show wpAny (model P w) _ (do if ((←setEntries S).size:Int) != (es.size:Int) then _ else _) _ _ _;refine oA (wpAny_setEntries_of hS rfl hf ?_);rw[if_neg (by simp)]
 rcases hm with ⟨hb,rfl,tU⟩|⟨hb,h1,rfl,k,tU,hk⟩|⟨hb,ps,rfl,mC,tU,zS⟩
 ·cases hI.symm.trans tU;show wpAny (model P w) _ (setNext S 0 i ep >>= _) _ _ _;unfold setNext;refine oA (oA (ZX hS rfl hf ?_));refine oA (Ic ?_);rw[hb];simp only[if_true];rw[if_neg (by simp)];refine oA ?_;unfold setWalk;refine oA (ZX hS rfl hf (oA (Ic ?_)));rw[hb];simp only[if_true];refine oA (wpAny_askSetting (oD (oD ?_)))
  show wpAny (model P w) A.in1 (match ((pickOrder (w.params.setOrder S ep) es)[i]?).map (λe=>(e.2,0)) with|some (x,next)=>_|none=>_) _ _ _
  cases hv:(pickOrder (w.params.setOrder S ep) es)[i]? with
  |none=>
   refine stop s _ _ (λb o _ e=>e) rfl hI ?_;rw[oH,lL,hv];rfl
  |some e=>
   have mD:((pickOrder (w.params.setOrder S ep) es).toList.map (·.2))[i]?=some e.2:=by
    rw[oH,lL,hv];rfl
   exact Eo (nx:=0) hI λh' k e1=>hQ _ h' mD k ⟨(k S gN).trans hS,.inl ⟨hb,rfl,e1⟩⟩
 ·cases hI.symm.trans tU;show wpAny (model P w) _ (setNext S k i ep >>= _) _ _ _;unfold setNext;refine oA (oA (ZX hS rfl hf ?_));refine oA (Ic ?_);rw[hb];simp only[iM,if_false];refine bC (λhd=>?_) (λ_=>?_)
  ·have i6:(!t.plain&&decide (es.size>1))=true:=hd;simp only[lQ,decide_eq_true_eq]at i6;lia
  ·refine oA (Zth (by rw[B3,hb];rfl) (oD ?_));rw[hk]
   cases hv:es[i]? with
   |none=>
    refine stop s _ _ (λb o _ e=>e) rfl hI ?_;rw[oH,lL,hv];rfl
   |some e=>
    have x9:i<es.size:=by
     rcases iN i es.size with z|z
     ·exact z
     ·rw[WJ z]at hv;cases hv
    have hi0:i=0:=by lia
    subst hi0
    have mD:(es.toList.map (·.2))[0]?=some e.2:=by
     rw[oH,lL,hv];rfl
    have hj:t.place[0]?=some (t.place[0]'(by lia)):=iP (by lia);rw[hj];obtain⟨eh,ev⟩:=e;exact Eo (nx:=t.place[0]'(by lia)+1) hI λh' k e1=>hQ _ h' mD k ⟨(k S gN).trans hS,.inr (.inl ⟨hb,h1,rfl,_,e1,Zje (by lia) hj⟩)⟩
 ·cases hI.symm.trans tU;show wpAny (model P w) A.in1 (seqItems? (.ref T) >>= _) _ _ _;unfold seqItems?;refine oA (oA (wpAny_load zS (oD ?_)))
  show wpAny (model P w) A.in1 (match ((ps.map λ(p:Nat)=>Value.int p 0).toArray)[i]? with|some (.int place _)=>_|some _=>_|none=>_) _ _ _
  cases hv:ps[i]? with
  |none=>
   have e0:((ps.map λ(p:Nat)=>Value.int p 0).toArray)[i]?=none:=by
    rw[WV,oH,hv];rfl
   rw[e0];refine oA (Ua hI (by lia) λh1 xZ e1=>?_)
   refine stop { s with heap:=h1 } _ (rawInt 0) (λb o hb e=>(xZ.2 b hb).trans e) rfl e1 ?_;rw[oH,hv];rfl
  |some p=>
   have e0:((ps.map λ(p:Nat)=>Value.int p 0).toArray)[i]?=some (Value.int p 0):=by
    rw[WV,oH,hv];rfl
   rw[e0];have hp:=mC p (oR hv);have he:es[p]?=some es[p]:=iP hp;show wpAny (model P w) A.in1 (setNextDrawn S p ep >>= _) _ _ _;unfold setNextDrawn;refine oA (oA (ZX hS rfl hf ?_));dsimp only;rw[if_neg (by simp)];rw[he];generalize o4:es[p]=e2 at he;obtain⟨eh,ev⟩:=e2
   have mD:(ps.map λp=>((es[p]?).map (·.2)).getD .none)[i]?=some ev:=by
    rw[oH,hv];show some (((es[p]?).map (·.2)).getD .none)=_;rw[he];rfl
   refine oD (oA (Ua hI (by lia) λh1 xZ e1=>?_));exact oD ⟨ev,rfl,oD (hQ ev h1 mD (λb hb=>xZ.2 b hb) ⟨(xZ.2 S gN).trans hS,.inr (.inr ⟨hb,ps,rfl,mC,e1,(xZ.2 T zR).trans zS⟩)⟩)⟩
theorem Ziw{S:Addr}{es:SF}{t:SetTable}(hS:s.heap.get? S=some (Zkp es ep t))(hf:t.fits es.size=true)(hp:es.size=0∨t.plain=false)(hz:es.size≤4096)
  (hQ:∀I T vs h' d',(∀b o,s.heap.get? b=some o→h'.get? b=some o)→s.heap.objs.size≤I→s.heap.objs.size≤T→T≠I→vs.Perm (es.toList.map (·.2))→ItT w I S T es ep t vs 0 h'→Q (.ref I) { s with heap:=h',drawn:=d' }) :
  wpAny (model P w) A (pyIter (.ref S)) Q E s:=by
 have hT:s.TypeIs (.ref S) "set":=⟨_,hS,rfl⟩;refine YU hT PySem.F.slot_set_iter (lP PySem.F.slot_set_iter hT Gx ?_ (PySem.F.args_set_iter_1 _));unfold Builtin.«frozenset.__iter__» Builtin.Frozenset.slot0;refine oA (oA (m:=slotArgs "__iter__" 0 _) (oD (oD ?_)));unfold Builtin.Frozenset.sizeOf;refine oA (oA (wpAny_setEntries_of hS rfl hf (oD ?_)));refine oA ?_;unfold setDrawn;refine oA (ZX hS rfl hf (oA (Ic (oD ?_))))
 have fin:∀(s1:Shared) (f:Value),s1.heap.get? S=some (Zkp es ep t)→(∀h',(∀b o,s1.heap.get? b=some o→h'.get? b=some o)→h'.get? s1.heap.objs.size=some (itO f 0 S es.size ep)→Q (.ref s1.heap.objs.size) { s1 with heap:=h' })→
   wpAny (model P w) A.in1 (do ret (←newFields "set_iterator" [f,rawInt 0,.ref S,rawInt es.size,rawInt (←setEpoch S)])) (λfin s'=>∃v,fin=.done (.ret v)∧∃T' r,s'.TypeIs v T'∧typeLookup (.type T') "__next__"=pure (some r)∧Q v s') E s1:=λs1 f e1 q=>by
  refine oA (wpAny_setEpoch_of e1 rfl hf ?_);refine oA (lS ?_ (by size_fits));refine oD ⟨_,rfl,"set_iterator",_,⟨_,oS _ rfl,rfl⟩,Uh.lookup,?_⟩;exact q _ (λb o e=>oE _ e) (oS _ rfl)
 have lt:=oT hS
 cases hb:w.params.followText "set-order" with
 |true=>
  dsimp only;refine bC (λhd=>nomatch (show false=true from hd)) (λ_=>oA (oD ?_));refine fin s (rawInt 0) hS λh' k e=>?_;exact hQ _ (s.heap.objs.size+1) _ h' s.drawn k (oG _) (cY _) (YE _) ((Zib _ es).map _) ⟨k _ _ hS,.inl ⟨hb,rfl,e⟩⟩
 |false=>
  by_cases h1:es.size≤1
  ·dsimp only;refine bC (λhd=>?_) (λ_=>oA (oD ?_))
   ·have i6:(!t.plain&&decide (es.size>1))=true:=hd;simp only[lQ,decide_eq_true_eq]at i6;lia
   ·refine fin s (rawInt 0) hS λh' k e=>?_;exact hQ _ (s.heap.objs.size+1) _ h' s.drawn k (oG _) (cY _) (YE _) (YC _) ⟨k _ _ hS,.inr (.inl ⟨hb,h1,rfl,0,e,Zfa _⟩)⟩
  ·dsimp only;refine bC (λ_=>?_) (λhd=>absurd (show (!t.plain&&decide (es.size>1))=true from ?_) hd)
   ·refine oA (Zci es.size (List.range es.size) lO λps d' mC=>?_);have hl:(ps.map λ(i:Nat)=>rawInt i).length=es.size:=by rw[oB,mC.length_eq,lO]
    refine oA (wpAny_newTuple ?_ (by rw[hl,sizeLine_eq];lia));have e1:(s.heap.push { cls:=.type "tuple",data:=.seq (ps.map λ(i:Nat)=>rawInt i).toArray }).get? S=some (Zkp es ep t):=oE _ hS;refine fin _ (.ref s.heap.objs.size) e1 λh' k e=>?_;have sz:(s.heap.push { cls:=.type "tuple",data:=.seq (ps.map λ(i:Nat)=>rawInt i).toArray }).objs.size=s.heap.objs.size+1:=bB _ _
    refine hQ _ s.heap.objs.size (ps.map λp=>((es[p]?).map (·.2)).getD .none) h' d' (λb o e=>k b o (oE _ e)) (by rw[sz];exact cY _) (oG _) (by rw[sz];exact lE (aS _)) ?_
     ⟨k _ _ e1,.inr (.inr ⟨hb,ps,rfl,λp hp=>iG.mp (mC.mem_iff.mp hp),e,k _ _ (oS _ rfl)⟩)⟩
    refine(mC.map _).trans (List.Perm.of_eq ?_);refine WS (by simp) λi h1 h2=>?_;have x9:i<es.size:=by simpa using h1
    simp[x9]
   ·rcases hp with z|z
    ·lia
    ·rw[z];exact decide_eq_true (by lia)
theorem Eb:entryFor table "set_iterator.__iter__"=some Builtin.«dict_keyiterator.__iter__»:=
 entryFor_alias (id':="dict_keyiterator.__iter__") (by kernel_rfl) rfl (by decide +kernel) (by kernel_rfl)
theorem ItT.at{S T:Addr}{es:SF}{t:SetTable}(x:ItT w I S T es ep t vs i h)(k:∀b,b=I∨b=S∨b=T→∀o,h.get? b=some o→h'.get? b=some o):ItT w I S T es ep t vs i h':=by
 obtain⟨hS,hm⟩:=x;refine⟨k S (.inr (.inl rfl)) _ hS,?_⟩
 rcases hm with ⟨hb,e,hI⟩|⟨hb,h1,e,j,hI,hk⟩|⟨hb,ps,e,mC,hI,hT⟩
 ·exact .inl ⟨hb,e,k I (.inl rfl) _ hI⟩
 ·exact .inr (.inl ⟨hb,h1,e,j,k I (.inl rfl) _ hI,hk⟩)
 ·exact .inr (.inr ⟨hb,ps,e,mC,k I (.inl rfl) _ hI,k T (.inr (.inr rfl)) _ hT⟩)
theorem Zcz{S T:Addr}{es:SF}{t:SetTable}(hh:A.handled=none)(gN:S≠I)(zR:T≠I)(hf:t.fits es.size=true)(B3:t.led = !w.params.followText "set-order"):
  Walks P w A I [I,S,T] [I] vs.length (λi v=>vs[i]?=some v) (λi h=>ItT w I S T es ep t vs i h) where
 sub:=λb hb=>by simp at hb;simp[hb]
 frame:=λi h h' st k=>ItT.at st λb hb o e=>k b (by rcases hb with z|z|z<;>simp[z]) o e
 item:=λi s Q E hi st hQ=>Dl gN zR st hh hf B3 (ZI hi) (λv h' hv k m8=>hQ v h' s.toks hv m8 λb o hb e=>(k b (λz=>hb (by simp[z]))).trans e) λhn=>by
  rw[oC hi]at hn;cases hn
 done:=λs Q E st hQ=>Dl gN zR st hh hf B3 (oG _) (λv h' hv=>by simp at hv) λ_ h' k=>hQ h' s.toks λb o hb e=>k b o (λz=>hb (by simp[z])) e
 self:=λi s Q E st h=>by
  have hI:∃f,s.heap.get? I=some (itO f i S es.size ep):=by
   rcases st.2 with ⟨_,_,e⟩|⟨_,_,_,k,e,_⟩|⟨_,ps,_,_,e,_⟩<;>exact⟨_,e⟩
  obtain⟨f,hI⟩:=hI;have hT:s.TypeIs (.ref I) "set_iterator":=⟨_,hI,rfl⟩;refine YU hT Mh (lP Mh hT Eb ?_ (Ax _));show wpAny _ _ (ret (.ref I)) _ _ s;exact oD ⟨_,rfl,"set_iterator",_,hT,Uh.lookup,h⟩
theorem Ziy{r:Addr}{Q:SR}(hT:s.TypeIs (.ref r) "set")(h:Q false s):wpAny (model P w) A (Builtin.List.listLengthHint (.ref r)) Q E s:=by
 unfold Builtin.List.listLengthHint;refine oA (bL hT PySem.F.slot_set_len.lookup ?_);generalize yS:("set.__len__" : String)=uV
 wp_delta
 rw[show splitId uV=some ("set","__len__") from by subst yS;decide +kernel];subst yS;refine oA (bY (T:="set") (b:=true) hT sub_set_self ?_);refine bC (λz=>absurd z (by decide)) (λ_=>bC (λ_=>?_) (λz=>absurd (by decide +kernel) z));exact oA (aZ hT (oD h))
theorem Aj{S:Addr}{D:List Str}{Q:List Value→Shared→Prop}(hh:A.handled=none)(hS:s.heap.get? S=some o)(hX:Pn w o D n)(hn:n≤4000)
  (hQ:∀(vs:UX) (ys:List Str) (h':Heap) tk d',s.heap.objs.size≤h'.objs.size→StrsAre vs ys→ys.Nodup→(∀y,y∈ys↔y∈D)→ys.length≤n→(∀b o,s.heap.get? b=some o→h'.get? b=some o)→Q vs { s with heap:=h',toks:=tk,drawn:=d' }) :
  wpAny (model P w) A (collect (.ref S)) Q E s:=by
 obtain⟨es,ep,t,rfl,sT,n5,Zmw,hsz,hf,B3,y0⟩:=hX;have lt:=oT hS;unfold collect;refine oA (wpAny_runValue (aD PySem.F.entry_proto_collect ?_));rw[bM PySem.F.plain_proto_collect _];show wpAny _ A.in1 (newList [] >>= λl=>again (.builtin "list.__iadd__" ⟨[l,.ref S],[]⟩)) _ _ s;refine oA (lS ?_);refine oD ⟨plainId_quiet YO _,aD PySem.F.entry_list_iadd ?_⟩;rw[bM YO _];show wpAny _ A.in1 (Builtin.List.listExtendWith (.ref s.heap.objs.size) (.ref S) (.ref s.heap.objs.size)) _ _ _;generalize hH:s.heap.push { cls:=.type "list",data:=.seq ([]:List Value).toArray } = H;have hHs:H.objs.size=s.heap.objs.size+1:=by rw[←hH,bB]
 have hL:H.get? s.heap.objs.size=some { cls:=.type "list",data:=.seq #[] 0 }:=hH▸oS _ rfl;have nW:H.get? S=some (Zkp es ep t):=hH▸oE _ hS;unfold Builtin.List.listExtendWith;refine oA (aZ (T:="set") ⟨_,nW,rfl⟩ ?_);have h1:Builtin.List.listSameRef (.ref s.heap.objs.size) (.ref S)=false:=by simp[Builtin.List.listSameRef,bJ lt]
 have h2:(Value.type "set"==Value.type "list")=false:=by decide
 have h3:(Value.type "set"==Value.type "tuple")=false:=by decide
 simp only[h1,h2,h3,UH,iM,if_false]
 refine oA (Ziw (s:={ s with heap:=H }) nW hf y0 (by lia) λI T vs h2 d2 k2 gI gT j7 hvs st=>?_);have qX:s.heap.objs.size+1≤I:=hHs▸gI;have gT':s.heap.objs.size+1≤T:=hHs▸gT;refine oA (iB (Ziy ⟨_,k2 _ _ nW,rfl⟩ ?_));have hL2:=k2 _ _ hL
 have eV:s.heap.objs.size∉[I,S,T]:=by
  simp only[oX,aH,or_false,not_or];exact⟨lE (oZ (aS _) qX),bJ lt,lE (oZ (aS _) gT')⟩
 have hSI:S≠I:=lE (oZ (WG lt) qX);have hlen:vs.length=es.size:=by rw[hvs.length_eq,oB,lJ]
 have W:Walks P w A.in1 I [I,S,T] [I] vs.length (λi v=>vs[i]?=some v) (λi h=>ItT w I S T es ep t vs i h):=Zcz (A:=A.in1) hh hSI j7 hf B3
 have stx:∀us:List Value,us.Perm (es.toList.map (·.2))→∃ys,StrsAre us ys∧ys.Perm (es.toList.map F7):=λus hp=>by
  refine⟨us.map strOf,strsAre_map us λv hv=>?_,?_⟩
  ·obtain⟨e,he,rfl⟩:=lF.mp (hp.mem_iff.mp hv);obtain⟨y,u,rfl⟩:=sT e he;exact⟨y,u,rfl⟩
  ·have:=hp.map strOf;rw[lU]at this;exact this
 have key:∀(h:Heap) (c tk:Nat),ItT w I S T es ep t vs 0 h→(∀b o,b≠s.heap.objs.size→h2.get? b=some o→h.get? b=some o)→h.get? s.heap.objs.size=some { cls:=.type "list",data:=.seq #[] c }→
   codeAny (model P w) A (.builtin "list.extend.loop" ⟨[.ref s.heap.objs.size,.ref I,.ref s.heap.objs.size],[]⟩)
    (λr s'=>match r with|.ok (.ret v)=>wpAny (model P w) A (match v with|.ref a=>(do match (←load a).data with|.seq xs _=>pure xs.toList|_=>unsupported "internal:collect")|_=>unsupported "internal:collect") Q E s'|.ok _=>False|.error e=>E e s') { s with heap:=h,toks:=tk,drawn:=d2 }:=λh c tk m8 k hL'=>by
  refine VI W.toS (by rw[hlen,sizeLine_eq];lia) _ eV _ vs.length 0 _ #[] c rfl (lD _) m8 hL' (ItemsOf.nil _) λs' acc c' hm Zwv Rn=>?_;refine oA (wpAny_load Zwv ?_)
  have qN:acc.toList=vs:=by
   refine YV λi=>?_;rw[lL]
   cases ev:acc[i]? with
   |some v=>exact(Rn.2 i v ev).symm
   |none=>
    symm
    rw[iX,←Rn.1];exact Array.getElem?_eq_none_iff.mp ev
  obtain⟨ys,sy,py⟩:=stx vs hvs;obtain⟨h3,g3,d3,t3,o3⟩:=s';have eg:g3=s.gens:=hm.gens;have ed:d3=d2:=hm.drawn;have eo:o3=s.os:=hm.os;subst eg;subst ed;subst eo;refine oD ?_;rw[qN];refine hQ vs ys h3 t3 d3 (ZI (oT Zwv)) sy (py.nodup_iff.mpr n5) (λy=>(py.mem_iff).trans (Zmw y)) (by rw[py.length_eq,oB,lJ];exact hsz) λb o e=>?_;have lb:=oT e;refine hm.heap b o (λz=>?_) (k b o (lE lb) (k2 b o (hH▸oE _ e)))
  rcases oX.mp z with z|z
  ·exact iL _ (z▸lb)
  ·have:=oU.mp z;exact iL _ (oZ (WG lb) (this▸qX))
 refine bC (λ_=>?_) (λz=>absurd (by decide +kernel) z);refine oA (aC (oA ?_));show wpAny _ _ (updateSeq s.heap.objs.size (·.push .none) >>= λ_=>updateSeq s.heap.objs.size (·.pop)) _ _ _;refine oA (ZQ hL2 rfl ?_);have hL3:=lT (Obj.mapSeq (·.push Value.none)) hL2 rfl;refine ZQ (hz:=by seq_fits) hL3 rfl ?_;have hL4:=lT (Obj.mapSeq (·.pop)) hL3 rfl
 have tF:∀b o,b≠s.heap.objs.size→h2.get? b=some o→((h2.update s.heap.objs.size (Obj.mapSeq (·.push Value.none))).update s.heap.objs.size (Obj.mapSeq (·.pop))).get? b=some o:=λb o hb e=>
  (lZ _ _ (iY hb)).trans ((lZ _ _ (iY hb)).trans e)
 refine oD ⟨plainId_quiet aY _,key _ _ _ (st.at λb hb o e=>tF b o (λz=>eV (by rw[←z];rcases hb with y|y|y<;>simp[y])) e) tF hL4⟩
end
section
variable {P:Program}{w:World}{A:Around}{E:UQ}{s:Shared}
theorem Zax{S:Addr}{D:List Str}(hh:A.handled=none)(hS:s.heap.get? S=some o)(hX:Pn w o D n)(hn:n<64)
  (hQ:∀(a:Addr) (out:UX) (e:Nat) (ys:List Str) h' tk d',ys.length≤n→StrsAre out ys→ys.Nodup→(∀y,y∈ys↔y∈D)→sortedS ys=true→(∀b o,s.heap.get? b=some o→h'.get? b=some o)→s.heap.objs.size≤a→
   h'.get? a=some (seqObj "list" out.toArray e)→Q (.ref a) { s with heap:=h',toks:=tk,drawn:=d' }):wpAny (model P w) A (call (.builtin "sorted") [.ref S]) Q E s:=by
 refine Calls.call_function_entry kind_sorted plain_sorted entry_sorted (args_sorted1 _) ?_;unfold Builtin.«sorted»;refine oA (m:=checkCount "sorted" 1 1 _) (oD ?_);refine oA (Aj (A:=A.in1) hh hS hX (by lia) λvs ys h' tk d' le sy nd mem len k=>?_);have hlen:vs.length=ys.length:=by rw[←sy.strs,oB]
 refine oA (wpAny_newList ?_ (by rw[hlen,sizeLine_eq];lia));have uJ:(h'.push (seqObj "list" vs.toArray 0)).get? h'.objs.size=some (seqObj "list" vs.toArray 0):=oS _ rfl
 refine oA (iB (lP slot_list_sort ⟨_,uJ,rfl⟩ entry_list_sort (list_sort_treeK (s:={ s with heap:=h'.push (seqObj "list" vs.toArray 0),toks:=tk,drawn:=d' }) strKind_oneLt uJ sy.keysOf (λv₁ v₂ rest e=>keyKind_strs (by rw[←e];exact sy)) (by lia) λm8 a1 a2=>⟨_,rfl,?_⟩) (args_list_sort _)));obtain⟨o8,s1,s2,s3⟩:=sorted_out_str sy a1 a2;obtain⟨e,he⟩:=sortedHeap_at (vs:=vs) (out:=(arrOf m8).map (·.2)) (n:=0) uJ;refine oD ⟨_,rfl,hQ h'.objs.size ((arrOf m8).map (·.2)).toList e o8 _ tk d' (by rw[s2.length_eq];exact len) s1 (s2.nodup_iff.mpr nd) (λy=>s2.mem_iff.trans (mem y)) s3 (λb o' eb=>?_) le ?_⟩
 ·have lb:=oT (k b o' eb);rw[sortedHeap_old (lE lb) (by rw[size_push'];exact WG lb)];exact oE _ (k b o' eb)
 ·rw[Array.toArray_toList];exact he
end
theorem Inv.Zp9(I:Inv X pins σ H s)(d:Drawn):Inv X pins σ H { s with drawn:=d }:=
 ⟨I.ok,I.os,I.bare,I.base,I.loc,I.cell,I.free,I.Tw,I.pin,I.hok,I.len⟩
def signs(z:Str):List Str:=z.cps.toList.map λc=>⟨#[c]⟩
def Zkq(w:World)(a:Addr)(D:List Str)(n:Nat):HO:=.ext λh=>∃o,h.get? a=some o∧Pn w o D n
section
variable {X:Cx}
inductive Dg(w:World)(xs:List V)(H:Hp)(Q:VK):Prop
 |mk(p D n:_)(h1:xs=[.ref p])(h2:H p=some (Zkq w p D n))(h3:n<64)(h4:∀(ys:List Str) l,ys.Nodup→(∀y,y∈ys↔y∈D)→sortedS ys=true→H l=none→Q (.ref l) (upd H l (.lst (ys.map V.str)))):Dg w xs H Q
def Zkx(w:World):List V→Hp→VK→Prop:=λxs H Q=>Dg w xs H Q
theorem Am(hc:X.calm=true):X4 X (.builtin "sorted") (Zkx X.w):=by
 intro pins s σ H xs us Q I r h;obtain⟨p,D,n,rfl,hp,hn,q⟩:=h;obtain⟨u,rfl,ru⟩:=vals1 r;cases ru;obtain⟨⟨o,e,sx⟩,_,_⟩:=(show Yy X.prog X.w H s.heap p (Zkq X.w p D n) from I.hok p _ hp);refine Zax (I.ok.hd hc) e sx hn λa out ee ys h' tk d' len sy nd mem so k le ea=>?_;have Zwm:H a=none:=I.hok.fresh le;have hlen:out.length=ys.length:=by rw[←sy.strs,oB]
 have rY:ys.length≤sizeLine:=by rw[sizeLine_eq];lia
 exact⟨.ref a,_,(I.Zp9 d').laid (s:={ s with drawn:=d' }) k le (show Yy X.prog X.w _ h' a (.lst (ys.map V.str)) from⟨by rw[oB];exact rY,out,ee,Lx sy,ea⟩),rfl,q ys a nd mem so Zwm⟩
end
def Zsc(tk tv:TE):TE:=λσ H Q=>∀p,H p=none→Cn [(tk,tv)] σ (upd H p (.dT [])) λps H2=>∃x y,ps=[(x,y)]∧H2 p=some (.dT [])∧∃b ks,x=.ref b∧H2 b=some (.tup (ks.map kV))∧Q (.ref p) (upd H2 p (.dT [(ks,y)]))
theorem Zlp{k v:Expr}{tk tv:TE}(hu:X.A.units+1<cLine)(hk:PE X k tk)(hv:PE X v tv):PE X (.Dict [some k] [v] pos) (Zsc tk tv):=by
 intro pins s σ H Q I q;have hn:=I.hok.fresh (oG s.heap.objs.size);have I1:=I.laid (a:=s.heap.objs.size) (o:=.dT []) (h':=s.heap.push { cls:=.type "dict",data:=.dict #[] }) (t':=s.toks) (λ_ _ q=>oE _ q) (oG _) (Zch s.heap I.big);have Li:([some k]:List (Option Expr)).all (·.isSome)=true:=rfl;have c7:=pairTrees_length [some k] [v] X.env pos Li rfl;rw[arm_eval_Dict,zip_pairTrees [some k] [v] X.env pos Li rfl,dictDisplay_pairs _ (λhe=>by rw[he]at c7;cases c7) (by rw[c7];show 1<17;decide)];refine oA (XG (oA ?_));unfold subDict;refine oA (wpAny_alloc (oA (iB ?_)));rw[if_pos (by rw[c7];show 1≤15;decide)];refine oA (aA (Zbg hk hv Zgs pins _ σ _ _ I1 (q _ hn)) (λvs s2 h2=>?_) λ_ _ e=>e);obtain⟨ps,H2,I2,rel,x,y,rfl,e,b,ks,rfl,eb,q2⟩:=h2
 cases rel with
 | @cons a c as cs hac tl=>
  cases tl;obtain⟨u,r⟩:=c;cases (show u=Value.ref b from hac.1);refine iB (oA ?_);rw[YT];obtain⟨z,hd,xs,rl,dd⟩:=Znm I2.hok e;cases rl;refine oA (oA (wpAny_dictSet_heap (show X.A.units<cLine by lia) (Ki I2.hok eb) dd λh' b9 hs=>oD ?_));refine oD (oD (oD (oD ?_)));obtain⟨qo,es,ep,hq,h2,h3,h4,_,h5⟩:=b9;refine⟨.ref s.heap.objs.size,_,Om (ob:=.dT [(ks,y)]) I2 (by rw[e];exact True.intro) hs ⟨qo,hq⟩ ⟨by show 1≤sizeLine;decide,hd,_,.cons ⟨rfl,?_,hac.2⟩ .nil,qo,es,ep,hq,h2,h3,h4,h5⟩,rfl,q2⟩;rw[Zk (Wu eb e (λz=>nomatch z))];exact eb
section
variable {X:Cx}{K:W.Frag}
end
theorem Od:PS X st (λ_ _ _=>False):=λ_ _ _ _ _ _ h=>h.elim
theorem Zv0{it:Expr}{w1 w2:TI}(h1:PI X tg it w1)(h2:PI X tg it w2):PI X tg it (λσ H R=>w1 σ H R∨w2 σ H R):=λpins s σ H R I h=>by
 rcases h with h|h
 ·exact h1 pins s σ H R I h
 ·exact h2 pins s σ H R I h
def Zpf(n:Int):Str:=Str.ofString (toString n)
section
variable {X:Cx}
theorem Ak:X4 X (.type "str") (λxs H Q=>∃n:Int,xs=[.int n]∧n.natAbs<1000000∧Q (.str (Zpf n)) H):=by
 intro pins s σ H xs us Q I r h;obtain⟨n,rfl,hn,q⟩:=h;refine Al pins s σ H [.int n] us Q I r ⟨n,rfl,?_,q⟩
 by_cases h0:n.natAbs=0
 ·rw[h0];decide
 ·exact VF ((Nat.log2_lt h0).mpr (show n.natAbs<2 ^ 20 by lia)) (by decide)
theorem Ap:X4 X (.type "int") (λxs H Q=>∃n:Int,xs=[.str (Zpf n)]∧0≤n∧n<10 ^ 10∧Q (.int n) H):=by
 intro pins s σ H xs us Q I r h;obtain⟨n,rfl,h0,h1,q⟩:=h;obtain⟨u,rfl,t,rfl⟩:=vals1 r;exact W.KIN.call_num h0 h1 ⟨.int n,H,I.tok _,⟨_,rfl⟩,q⟩
theorem Em:∀(tk:Nat) (ys:List Str),Vals (ys.map V.str) (strsFrom tk ys)
 |_,[]=>.nil
 |tk,y :: r=>.cons ⟨tk,rfl⟩ (Em (tk+1) r)
inductive Zgl(x:V)(xs:List V)(H:Hp)(Q:VK):Prop
 |mk(z y:_)(h1:x=.str z)(h2:xs=[.str y])(h3:y.length=1)(h4:z.length≤1000000)(h5:∀l,H l=none→Q (.ref l) (upd H l (.lst ((Txt.split z y).map V.str)))):Zgl x xs H Q
def Zsw:V→List V→Hp→VK→Prop:=λx xs H Q=>Zgl x xs H Q
theorem Gb:MtR X "str.split" Zsw:=by
 intro pins s σ H x xs v us Q I rx rs h;obtain⟨z,y,rfl,rfl,hy,hz,q⟩:=h;obtain⟨t,rfl⟩:=rx;obtain⟨w',rfl,u,rfl⟩:=rs.one;have hs:(Txt.split z y).length≤z.length+2:=split_le z y;have hl:sizeLine=16777216:=sizeLine_eq
 have fin:∀(tk:Nat) (its:UX),Vals ((Txt.split z y).map V.str) its→EP X pins σ Q (.ref s.heap.objs.size) { s with heap:=s.heap.push { cls:=.type "list",data:=.seq its.toArray },toks:=tk }:=λtk its hv=>
  ⟨.ref _,_,I.Zwc (t':=tk) hv (by rw[oB];lia),rfl,q _ I.fresh⟩
 have hy0:(y.length==0)=false:=by rw[hy];rfl
 cases h1:(decide (z.length<y.length)||decide (Builtin.Str.strKind z<Builtin.Str.strKind y))
 ·cases hf:(Builtin.Str.occurrences z y 0 z.length (z.length+1)).isEmpty
  ·have e:Txt.split z y=Builtin.Str.partsBetween z (Builtin.Str.occurrences z y 0 z.length (z.length+1)) y.length:=by
    unfold Txt.split;rw[if_neg (by rw[h1];decide),if_neg (by rw[hf];decide)]
   rw[e]at fin hs;exact call_meets F.slot_str_split (typeIs_str _ _ _) UK (UA _ _) (meets_str_split_sep z y t u h1 hy0 hf (by lia) (by lia)) (fin _ _ (Em _ _))
  ·have e:Txt.split z y=[z]:=by
    unfold Txt.split;rw[if_neg (by rw[h1];decide),if_pos hf]
   rw[e]at fin;exact call_meets F.slot_str_split (typeIs_str _ _ _) UK (UA _ _) (meets_str_split_not_found z y t u h1 hy0 hf) (fin _ _ (.cons ⟨_,rfl⟩ .nil))
 ·have e:Txt.split z y=[z]:=by
   unfold Txt.split;rw[if_pos h1]
  rw[e]at fin;exact call_meets F.slot_str_split (typeIs_str _ _ _) UK (UA _ _) (meets_str_split_cannot_occur z y t u h1) (fin _ _ (.cons ⟨_,rfl⟩ .nil))
end
def jl(c:Nat):List (List Nat)→List Nat
 |[]=>[]
 |[x]=>x
 |x :: y :: r=>x++c :: jl c (y :: r)
theorem Ld(c:Nat)(x y:List Nat)(r:UR):jl c (x :: y :: r)=x++c :: jl c (y :: r):=rfl
theorem Zhq{c:Nat}:∀{x y a b:List Nat},c∉x→c∉y→x++c :: a=y++c :: b→x=y∧a=b
 |[],[],a,b,_,_,h=>⟨rfl,by simpa using h⟩
 |[],d :: y,a,b,_,hy,h=>by
  injection h with h1 h2
  exact absurd (by rw[h1];exact oK) hy
 |d :: x,[],a,b,hx,_,h=>by
  injection h with h1 h2
  exact absurd (by rw[h1];exact oK) hx
 |d :: x,e :: y,a,b,hx,hy,h=>by
  injection h with h1 h2
  obtain⟨g1,g2⟩:=Zhq (λz=>hx (oQ _ z)) (λz=>hy (oQ _ z)) h2;exact⟨by rw[h1,g1],g2⟩
theorem Zmn{c:Nat}:∀{p q:UR},p≠[]→q≠[]→(∀x∈p,c∉x)→(∀x∈q,c∉x)→jl c p=jl c q→p=q
 |[],_,h,_,_,_,_=>absurd rfl h
 |_,[],_,h,_,_,_=>absurd rfl h
 |[x],[y],_,_,_,_,h=>by rw[show x=y from h]
 |[x],y :: z :: r,_,_,hp,_,h=>by
  rw[Ld]at h;have:x=y++c :: jl c (z :: r):=h;exact absurd (by rw[this];exact lN _ oK) (hp x oK)
 |x :: z :: r,[y],_,_,_,hq,h=>by
  rw[Ld]at h;have:x++c :: jl c (z :: r)=y:=h;exact absurd (by rw[←this];exact lN _ oK) (hq y oK)
 |x :: x2 :: r,y :: y2 :: r2,_,_,hp,hq,h=>by
  rw[Ld,Ld]at h;obtain⟨g1,g2⟩:=Zhq (hp x oK) (hq y oK) h;rw[g1,Zmn (p:=x2 :: r) (q:=y2 :: r2) (by simp) (by simp) (λz hz=>hp z (oQ _ hz)) (λz hz=>hq z (oQ _ hz)) g2]
theorem Bw(c:Nat):∀ys:List Str,(Str.join ⟨#[c]⟩ ys).cps.toList=jl c (ys.map λy=>y.cps.toList)
 |[]=>rfl
 |[y]=>rfl
 |y :: z :: r=>by
  have e:Str.join ⟨#[c]⟩ (y :: z :: r)=y++⟨#[c]⟩++Str.join ⟨#[c]⟩ (z :: r):=rfl;rw[e];show ((y.cps ++ #[c])++(Str.join ⟨#[c]⟩ (z :: r)).cps).toList=_;rw[YK,YK,Bw c (z :: r)];simp[jl]
theorem Bo{a b:List Str}(h:a.map (λy=>y.cps.toList)=b.map λy=>y.cps.toList):a=b:=by
 have inj:∀x y:Str,x.cps.toList=y.cps.toList→x=y:=λx y e=>by
  cases x;cases y;simpa using e
 revert b
 induction a with
 |nil=>intro b h;cases b with
  |nil=>rfl
  |cons y b=>cases h
 |cons x a ih=>intro b h;cases b with
  |nil=>cases h
  |cons y b=>
   rw[oW,oW]at h
   injection h with h1 h2
   rw[inj x y h1,ih h2]
theorem Ng{c:Nat}{ys:List Str}(m5:ys≠[])(hf:∀y∈ys,c∉y.cps.toList):Txt.split (Txt.join ⟨#[c]⟩ ys) ⟨#[c]⟩=ys:=by
 have h1:Str.join ⟨#[c]⟩ (Txt.split (Txt.join ⟨#[c]⟩ ys) ⟨#[c]⟩)=Txt.join ⟨#[c]⟩ ys:=StrLaws.join_split _ _;have h2:Txt.join ⟨#[c]⟩ ys=Str.join ⟨#[c]⟩ ys:=ZP _ _;have h3:=StrLaws.split_free (Txt.join ⟨#[c]⟩ ys) c
 have h4:Txt.split (Txt.join ⟨#[c]⟩ ys) ⟨#[c]⟩≠[]:=λe=>by
  have:=split_pos (Txt.join ⟨#[c]⟩ ys) ⟨#[c]⟩;rw[e]at this;exact absurd this (by decide)
 generalize Txt.split (Txt.join ⟨#[c]⟩ ys) ⟨#[c]⟩=zs at h1 h3 h4;rw[h2]at h1;have h5:=congrArg (λs:Str=>s.cps.toList) h1;simp only[Bw]at h5;refine Bo (Zmn (c:=c) (by simpa using h4) (by simpa using m5) (λx hx=>?_) (λx hx=>?_) h5)
 ·obtain⟨y,hy,rfl⟩:=lF.mp hx;exact h3 y hy
 ·obtain⟨y,hy,rfl⟩:=lF.mp hx;exact hf y hy
section
variable {X:Cx}{K:W.Frag}
end
section
open PySem.SeqAt
open PySem.AutoSeq1 (wpAny_loadPart')
open PySem.MeetsSeq PySem.MeetsSeq2 PySem.MeetsSeq3
end
section
variable {X:Cx}{K:W.Frag}
end
section
open PySem.W (KasT kas_asc kas_count kas_cmp kas_st kas_item)
def Vq(n:Nat)(lt:SG){α:Type}(P:α→Prop):KasT α→Prop
 |.ret a=>P a
 |.ask i j k=>i<n∧j<n∧Vq n lt P (k (lt i j))
theorem Vq.imp{n:Nat}{lt:SG}{α:Type}{P P':α→Prop}(g:∀a,P a→P' a):∀{t:KasT α},Vq n lt P t→Vq n lt P' t
 |.ret a,h=>g a h
 |.ask _ _ _,⟨h1,h2,h3⟩=>⟨h1,h2,Vq.imp g h3⟩
theorem Vq.bind{n:Nat}{lt:SG}{α β:Type}{P:α→Prop}{R:β→Prop}{f:α→KasT β}(g:∀a,P a→Vq n lt R (f a)):∀{t:KasT α},Vq n lt P t→Vq n lt R (t.bind f)
 |.ret a,h=>g a h
 |.ask _ _ _,⟨h1,h2,h3⟩=>⟨h1,h2,Vq.bind g h3⟩
theorem Vq.wp{n:Nat}{lt:SG}{α:Type}{P:α→Prop}{cmp:Nat→Nat→(Bool→Shared→Prop)→Shared→Prop}{s:Shared}{Q:α→Shared→Prop}
  (hc:∀i j (C:SR),i<n→j<n→C (lt i j) s→cmp i j C s) (q:∀a,P a→Q a s):∀{t:KasT α},Vq n lt P t→t.kasWp cmp Q s
 |.ret a,h=>q a h
 |.ask i j _,⟨h1,h2,h3⟩=>hc i j _ h1 h2 (Vq.wp hc q h3)
end
def Zrp(i j:Int)(a b:Str):Bool:=if i=j then decide (a.cps.toList<b.cps.toList) else decide (i<j)
section
variable {prog:Program}{w:World}{A:Around}{E:UQ}{s:Shared}
theorem K3{M:Model}{α:Type}{body:α→PUnit→Sem (ForInStep PUnit)}(J:Nat→Shared→Prop):∀(l:List α) (i:Nat) (s:Shared),(∀j x t,l[j]?=some x→J (i+j) t→wpAny M A (body x ⟨⟩) (λr t'=>r=.yield ⟨⟩∧J (i+j+1) t') E t)→J i s→
  wpAny M A (forIn l PUnit.unit body) (λ_ t=>J (i+l.length) t) E s
 |[],i,s,_,h=>by
  rw[XT];exact oD h
 |x :: l,i,s,st,h=>by
  rw[YT];refine oA (aA (st 0 x s rfl h) (λr t hr=>?_) λ_ _ z=>z);obtain⟨rfl,hr⟩:=hr
  have q:=K3 J l (i+1) t (λj y t' hy hj=>by
   have z:=st (j+1) y t' (by simpa using hy) (by rw[show i+(j+1)=i+1+j by lia];exact hj);rw[show i+1+j+1=i+(j+1)+1 by lia]
   exact z) hr
  rw[show i+(x :: l).length=i+1+l.length by rw[lG];lia];exact q
end
abbrev lo(ks:UX)(e:Nat):Obj:={ cls:=.type "list",data:=.seq ks.toArray e }
section
variable {X:Cx}{pins:US}{σ:St}{H:Hp}{s:Shared}
structure Far(X:Cx)(pins:US)(a:Addr):Prop where
 loc:a≠X.env.locals
 fs:a∉X.fs
 new:X.s₀.heap.objs.size≤a
 cell:∀x c,X.env.cells.lookup x=some c→c≠a
 pin:∀p∈X.pn++pins,p.1≠a
theorem Inv.far(I:Inv X pins σ H s)(h:s.heap.objs.size≤a):Far X pins a:=by
 obtain⟨_,f1,f2,f3,f4,f5⟩:=I.Lm (H':=λ_=>none) h rfl;exact⟨f1,f2,lI I.sz h,f4,f5⟩
theorem Far.more(f:Far X pins a)(h:b≠a):Far X (pins++[(b,o)]) a:=
 ⟨f.loc,f.fs,f.new,f.cell,λp hp=>by
  rcases iD.mp hp with z|z
  ·exact f.pin p (aK _ z)
  ·rcases iD.mp z with y|y
   ·exact f.pin p (lN _ y)
   ·rw[oU.mp y]
    exact h⟩
theorem Inv.hold{e:Nat}(I:Inv X pins σ H s)(f:Far X pins a)(h:s.heap.get? a=some (lo ks e))(hn:H a=none):Inv X (pins++[(a,lo ks e)]) σ H s:=
 I.Mx λp hp=>(iD.mp hp).elim (λz=>I.pin p (lN _ z)) λz=>by
  rw[oU.mp z];exact⟨h,hn,f.loc,f.fs,λv y=>by cases y⟩
theorem Inv.held(I:Inv X (pins++[(a,o)]) σ H s):s.heap.get? a=some o∧H a=none:=
 let p:=I.pin (a,o) (lN _ (lN _ (oU.mpr rfl)))
 ⟨p.1,p.2.1⟩
theorem Inv.Zdr{ks':UX}{e:Nat}{f:Array Value→Array Value}(I:Inv X (pins++[(a,lo ks e)]) σ H s)(fa:Far X pins a)(hf:f ks.toArray=ks'.toArray):
  ∃e',Inv X (pins++[(a,lo ks' e')]) σ H { s with heap:=s.heap.update a (Obj.mapSeq f) }:=by
 obtain⟨h1,hn⟩:=I.held;have q:=PySem.IsL.update h1 f;rw[hf]at q;have I1:=(I.So).turned (t':=s.toks) (it:=a) (h':=s.heap.update a (Obj.mapSeq f)) (λb o hb hu=>(lZ s.heap (Obj.mapSeq f) (iY hb)).trans hu) hn fa.loc (.inr fa.new) fa.cell fa.pin;exact⟨_,I1.hold fa q hn⟩
end
section
variable {X:Cx}{pins:US}{σ:St}{H:Hp}{s:Shared}{x:Str}{k:Nat}{ps:List Str}{sp:Sp}{ok:V→Prop}{kf:V→List V}
theorem Vm(h:n≤1000000):n≤sizeLine:=by rw[sizeLine_eq];lia
theorem E9{D kS:Addr}{e1 e:Nat}{ws:List V}{st:SortSt}{P:PySem.Fin→Shared→Prop}(I:Inv X (pins++[(D,lo [] e1)]++[(kS,lo ks e)]) σ H s)(fD:Far X pins D)
  (fk:Far X (pins++[(D,lo [] e1)]) kS) (hks:ks.length≤1000000) (Zmu:(arrOf st).map (·.2)=its.toArray) (hf:failedOf st=none) (hv:Vals ws its) (hw:ws.length≤1000000)
  (fin:∀s',Inv X pins σ (upd H D (.lst ws)) s'→P (.done (.ret .none)) s'):wpAny (model X.prog X.w) A (ksk_tail D false e1 (.ref kS) st) P E s:=by
 obtain⟨hk,_⟩:=I.held;obtain⟨e2,I2⟩:=I.Zdr (f:=λ_=>#[]) (ks':=[]) fk rfl;have I3:=I2.So;obtain⟨hD,nD⟩:=I3.held;obtain⟨e3,I4⟩:=I3.Zdr (f:=λ_=>its.toArray) (ks':=its) fD rfl;have hli:its.length≤1000000:=by rw[←hv.length];exact hw
 have I5:=(I4.So).adopt (o:=.lst ws) fD.new nD fD.loc fD.cell fD.pin ⟨Vm hw,its,e3,hv,I4.held.1⟩;unfold ksk_tail;dsimp only;rw[Zmu];refine oA (listUpdate_at hk rfl ?_ (by rw[oO];exact Vm hks) (lD _));refine oA (wpAny_letGo ?_);refine oA (seqEpoch_at hD rfl ?_);refine oA (listUpdate_at hD rfl ?_ (lD _) (Nat.le_succ_of_le (by show its.toArray.size≤_;rw[oO];exact Vm hli)));rw[hf];simp only[bne_self_eq_false,iM,if_false];exact oD (fin _ I5)
def Zv2(a b:Str):Bool:=Zrp (a.length:Int) (b.length:Int) a b
end
theorem range_getD(h:i<n):(List.range n).toArray.getD i 0=i:=by simp[Array.getD,h]
section
open PySem.W (KasT kas_asc kas_desc kas_tail3 kas_descPart kas_count kas_place kas_bin kas_sort kas_rev)
structure Wj(n:Nat)(p:SJ):Prop where
 per:p.toList.Perm (List.range n)
theorem Ll{p:SJ}(h:i<p.size):p[i]?=some (p.getD i 0):=by
 rw[iP h];simp[Array.getD,h]
theorem Gq{p q:SJ}(h:p[i]?=q[j]?):p.getD i 0=q.getD j 0:=by
 rw[ZJ,ZJ,h]
theorem Zbi(n:Nat):Wj n (List.range n).toArray:=⟨by simp⟩
theorem Wj.size{p:SJ}(h:Wj n p):p.size=n:=by
 have:=h.per.length_eq;simpa using this
theorem Wj.lt{p:SJ}(h:Wj n p)(i:Nat)(hi:i<n):p.getD i 0<n:=by
 have q:=Ll (p:=p) (i:=i) (by rw[h.size];exact hi);rw[←lL]at q;exact iG.mp (h.per.mem_iff.mp (oR q))
theorem Wj.inj{n:Nat}{p:SJ}(h:Wj n p)(i j:Nat)(hi:i<n)(hj:j<n)(e:p.getD i 0=p.getD j 0):i=j:=by
 have nd:p.toList.Nodup:=h.per.nodup_iff.mpr List.nodup_range;rw[ZT,aE]at nd;have li:i<p.toList.length:=by rw[lJ,h.size];exact hi
 have lj:j<p.toList.length:=by rw[lJ,h.size];exact hj
 have a:=Ll (p:=p) (i:=i) (by rw[h.size];exact hi);have b:=Ll (p:=p) (i:=j) (by rw[h.size];exact hj);rw[←lL,oC li]at a;rw[←lL,oC lj]at b;have e':p.toList[i]=p.toList[j]:=by rw[Option.some.inj a,Option.some.inj b,e]
 rcases Nat.lt_trichotomy i j with z|z|z
 ·exact absurd e' (nd i j li lj z)
 ·exact z
 ·exact absurd e'.symm (nd j i lj li z)
variable {n:Nat}{lt:SG}{p:SJ}
theorem G6(hp:Wj n p){k l:Nat}(hk:k<n)(hl:l≤k)(t:Nat):(bubble p k (k-l)).getD t 0=if t=l then p.getD k 0 else if l<t∧t≤k then p.getD (t-1) 0 else p.getD t 0:=by
 have h:=getElem?_bubble (xs:=p) (src:=k) (by rw[hp.size];exact hk) (k-l) (by lia) t;rw[show k-(k-l)=l by lia]at h
 split at h
 ·rename_i z;rw[if_pos z];exact Gq h
 ·rename_i z
  rw[if_neg z]
  split at h
  ·rename_i y;rw[if_pos y];exact Gq h
  ·rename_i y;rw[if_neg y];exact Gq h
theorem Wj.bub(hp:Wj n p)(k d:Nat):Wj n (bubble p k d):=⟨(Array.perm_iff_toList_perm.mp (bubble_perm _ _ _)).trans hp.per⟩
end
def Zff(zs:List Str):Prop:=zs.Pairwise λa b=>Zv2 b a=false
section
open PySem.W (kas_count kas_ask kas_item kas_st kas_asc)
end
section
variable {X:Cx}{pins:US}{σ:St}{H:Hp}{s:Shared}{x:Str}{k:Nat}{ps:List Str}{sp:Sp}
theorem Ztd(x y:List Nat)(h:x≠y):x<y∨y<x:=by
 rcases Decidable.em (x<y) with z|z
 ·exact .inl z
 ·rcases Decidable.em (y<x) with z'|z'
  ·exact .inr z'
  ·exact absurd (List.le_antisymm (VU.mp z') (VU.mp z)) h
end
section
variable {P:Program}{w:World}{A:Around}{E:UQ}{s:Shared}
end
section
variable {X:Cx}{pins:US}{σ:St}{H:Hp}{s:Shared}{x:Str}{k:Nat}{ps:List Str}{sp:Sp}
end
section
variable {prog:Program}{w:World}{A:Around}{E:UQ}{s:Shared}{K:W.Frag}{C:Addr}
end
section
variable {prog:Program}{w:World}{A:Around}{E:UQ}{s:Shared}{K:W.Frag}{x C:Addr}{ox:Obj}{od:Option Obj}{name:Str}
end
section
variable {X:Cx}{pins:US}{σ:St}{H:Hp}{s:Shared}{a C:Addr}{fs:List (Str×V)}{A:Around}{E:UQ}
end
theorem Qa:entryFor table "dict.update.loop"=some Builtin.«dict.update.loop»:=entryFor_of_tree (by kernel_rfl)
theorem Wy:plainId "dict.update.loop"=true:=by decide +kernel
section
variable {P:Program}{w:World}{A:Around}{E:UQ}{s:Shared}
theorem Ae{κ:Type} [DecidableEq κ] {knd:PySem.KeyKind P w κ}{h h':Heap}{kvs:List (κ×Value)} (x:h.DictOf knd a kvs) (hk:∀o,h.get? a=some o→h'.get? a=some o):h'.DictOf knd a kvs:=
 let ⟨o,es,ep,e,r⟩:=x;⟨o,es,ep,hk _ e,r⟩
end
section
variable {X:Cx}
end
section
variable {P:Program}{w:World}{A:Around}{E:UQ}{s:Shared}{d:Addr}{vs:UX}{ep:Nat}
end
section
variable {X:Cx}{pins:US}{σ:St}{H:Hp}{s:Shared}{x:Str}{k:Nat}{ps:List Str}{sp:Sp}
end
section
open PySem.W (KasT kas_asc kas_desc kas_tail3 kas_descPart kas_count kas_place kas_bin kas_sort kas_rev)
variable {n:Nat}{key:TX}{p:SJ}
def ltK(key:TX)(i j:Nat):Bool:=decide (key i<key j)
structure Pf(n m:Nat)(p:SJ):Prop where
 per:Wj n p
 rest:∀i,m≤i→i<n→p.getD i 0=i
theorem Pf.low(h:Pf n m p)(hi:i<m)(hn:i<n):p.getD i 0<m:=by
 rcases iN (p.getD i 0) m with z|z
 ·exact z
 ·have l:=h.per.lt i hn;have:=h.per.inj (p.getD i 0) i l hn (h.rest _ z l);lia
theorem Pf.more(h:Pf n m p):Pf n (m+1) p:=⟨h.per,λi a b=>h.rest i (by lia) b⟩
theorem Zlf(n m:Nat):Pf n m (List.range n).toArray:=⟨Zbi n,λi _ h=>range_getD h⟩
def SUp(key:TX)(p:SJ)(m:Nat):Prop:=∀i j,i<j→j<m→key (p.getD i 0)<key (p.getD j 0)∨(key (p.getD i 0)=key (p.getD j 0)∧p.getD i 0<p.getD j 0)
theorem SUp.le(u:SUp key p m)(h:i≤j)(hj:j<m):key (p.getD i 0)≤key (p.getD j 0):=by
 by_cases e:i=j
 ·rw[e];exact oG _
 ·rcases u i j (by lia) hj with z|z<;>lia
theorem SUp.succ(u:SUp key p m)(h:1≤m)(lo:∀i,i<m→p.getD i 0<p.getD m 0)(c:key (p.getD (m-1) 0)≤key (p.getD m 0)):SUp key p (m+1):=λi j xA hj=>by
 by_cases e:j=m
 ·subst e;have a:=u.le (i:=i) (j:=j-1) (by lia) (by lia);have b:=lo i xA
  rcases iN (key (p.getD i 0)) (key (p.getD j 0)) with z|z
  ·exact .inl z
  ·exact .inr ⟨by lia,b⟩
 ·exact u i j xA (by lia)
theorem Pf.lo(h:Pf n m p)(hm:m<n):∀i,i<m→p.getD i 0<p.getD m 0:=λi hi=>by
 rw[h.rest m (oG _) hm];exact h.low hi (by lia)
theorem Iq:∀(f m:Nat),1≤m→m+f≤n→Pf n m p→SUp key p m→Vq n (ltK key) (λr=>m≤r∧r≤m+f∧SUp key p r∧(r<m+f→key (p.getD r 0)<key (p.getD (r-1) 0))) (kas_asc p f m)
 | 0,m,_,_,_,u=>⟨oG _,oG _,u,λz=>absurd z (by lia)⟩
 |f+1,m,h1,h2,hp,u=>by
  refine⟨hp.per.lt m (by lia),hp.per.lt (m-1) (by lia),?_⟩
  by_cases c:key (p.getD m 0)<key (p.getD (m-1) 0)
  ·rw[show ltK key (p.getD m 0) (p.getD (m-1) 0)=true from decide_eq_true c];exact⟨oG _,by lia,u,λ_=>c⟩
  ·rw[show ltK key (p.getD m 0) (p.getD (m-1) 0)=false from decide_eq_false c];exact(Iq f (m+1) (by lia) (by lia) hp.more (u.succ h1 (hp.lo (by lia)) (by lia))).imp λr h=>⟨by lia,by lia,h.2.2.1,λz=>h.2.2.2 (by lia)⟩
structure SDn(key:TX)(p:SJ)(m q:Nat):Prop where
 fit:q+1≤m
 d1:∀i j,i<j→j<m-(q+1)→key (p.getD j 0)<key (p.getD i 0)∨(key (p.getD i 0)=key (p.getD j 0)∧p.getD j 0<p.getD i 0)
 d2:∀i j,i<m-(q+1)→m-(q+1)≤j→j<m→key (p.getD j 0)<key (p.getD i 0)
 d3:∀i j,m-(q+1)≤i→i<j→j<m→key (p.getD i 0)=key (p.getD j 0)∧p.getD i 0<p.getD j 0
def STd(key:TX)(p:SJ)(m:Nat):Prop:=∀i j,i<j→j<m→key (p.getD j 0)<key (p.getD i 0)∨(key (p.getD i 0)=key (p.getD j 0)∧p.getD j 0<p.getD i 0)
theorem Uy(hp:Wj n p){a b:Nat}(xS:a≤b)(hb:b≤n)(k:Nat):(kas_rev p a b).getD k 0=if a≤k∧k<b then p.getD (a+b-1-k) 0 else p.getD k 0:=by
 have h:=getElem?_mirror_all (xs:=p) (i:=a) (j:=b) (by rw[hp.size];exact hb) k;unfold W.kas_rev
 by_cases z:a≤k∧k<b
 ·rw[if_pos z]at h;rw[if_pos z];exact Gq h
 ·rw[if_neg z]at h;rw[if_neg z];exact Gq h
theorem Wj.revA(hp:Wj n p)(a b:Nat):Wj n (kas_rev p a b):=⟨(Array.perm_iff_toList_perm.mp (mirror_perm _ _ _ _)).trans hp.per⟩
theorem Pf.rev(h:Pf n m p){a b:Nat}(xS:a≤b)(hb:b≤m)(hm:m≤n):Pf n m (kas_rev p a b):=⟨h.per.revA a b,λi h1 h2=>by rw[Uy h.per xS (by lia),if_neg (by lia)];exact h.rest i h1 h2⟩
theorem SDn.turn{q:Nat}(h:SDn key p m q)(hp:Wj n p)(hm:m≤n):STd key (kas_rev p (m-(q+1)) m) m:=λi j xA hj=>by
 have fit:=h.fit;rw[Uy hp (by lia) hm,Uy hp (by lia) hm]
 by_cases c1:j<m-(q+1)
 ·rw[if_neg (by lia),if_neg (by lia)];exact h.d1 i j xA c1
 ·by_cases c2:i<m-(q+1)
  ·rw[if_pos ⟨by lia,hj⟩,if_neg (by lia)];exact .inl (h.d2 i _ c2 (by lia) (by lia))
  ·rw[if_pos ⟨by lia,hj⟩,if_pos ⟨by lia,by lia⟩];have:=h.d3 (m-(q+1)+m-1-j) (m-(q+1)+m-1-i) (by lia) (by lia) (by lia);exact .inr ⟨this.1.symm,this.2⟩
theorem SDn.flat(h:SDn key p m 0):STd key p m:=λi j xA hj=>by
 have fit:=h.fit
 by_cases c1:j<m-(0+1)
 ·exact h.d1 i j xA c1
 ·exact .inl (h.d2 i j (by lia) (by lia) hj)
theorem STd.grow(h:STd key p m)(h1:1≤m)(c:key (p.getD m 0)<key (p.getD (m-1) 0)):SDn key p (m+1) 0:=by
 have le:∀i,i<m→key (p.getD (m-1) 0)≤key (p.getD i 0):=λi hi=>by
  by_cases e:i=m-1
  ·rw[e];exact oG _
  ·rcases h i (m-1) (by lia) (by lia) with z|z<;>lia
 refine⟨by lia,λi j a b=>h i j a (by lia),λi j a b d=>?_,λi j a b d=>absurd d (by lia)⟩;obtain rfl:j=m:=by lia
 have:=le i (by lia);lia
theorem SDn.tie{q:Nat}(h:SDn key p m q)(hl:∀i,i<m→p.getD i 0<p.getD m 0)(c:key (p.getD m 0)=key (p.getD (m-1) 0)):SDn key p (m+1) (q+1):=by
 have fit:=h.fit
 have last:∀i,m-(q+1)≤i→i<m→key (p.getD i 0)=key (p.getD m 0):=λi a b=>by
  by_cases e:i=m-1
  ·rw[e];exact c.symm
  ·rw[(h.d3 i (m-1) a (by lia) (by lia)).1];exact c.symm
 refine⟨by lia,λi j a b=>h.d1 i j a (by lia),λi j a b d=>?_,λi j a b d=>?_⟩
 ·by_cases e:j=m
  ·subst e;have:=h.d2 i (j-1) (by lia) (by lia) (by lia);lia
  ·exact h.d2 i j (by lia) (by lia) (by lia)
 ·by_cases e:j=m
  ·subst e;exact⟨last i (by lia) b,hl i b⟩
  ·exact h.d3 i j (by lia) b (by lia)
theorem Pz:∀(f:Nat) (p:SJ) (m q:Nat),1≤m→m+f≤n→Pf n m p→SDn key p m q→Vq n (ltK key) (λr=>m≤r.2.1∧r.2.1≤m+f∧Pf n r.2.1 r.1∧SDn key r.1 r.2.1 r.2.2) (kas_desc f p m q)
 | 0,p,m,q,_,_,hp,u=>⟨oG _,oG _,hp,u⟩
 |f+1,p,m,q,h1,h2,hp,u=>by
  have fit:=u.fit;refine⟨hp.per.lt m (by lia),hp.per.lt (m-1) (by lia),?_⟩
  by_cases c:key (p.getD m 0)<key (p.getD (m-1) 0)
  ·rw[show ltK key (p.getD m 0) (p.getD (m-1) 0)=true from decide_eq_true c];show Vq n (ltK key) _ (if q>0 then kas_desc f (kas_rev p (m-(q+1)) m) (m+1) 0 else kas_desc f p (m+1) 0)
   by_cases z:q>0
   ·rw[if_pos z];have z7:=hp.rev (a:=m-(q+1)) (b:=m) (by lia) (oG _) (by lia);refine(Pz f _ (m+1) 0 (by lia) (by lia) z7.more ((u.turn hp.per (by lia)).grow h1 ?_)).imp λr h=>⟨by lia,by lia,h.2.2.1,h.2.2.2⟩;rw[Uy hp.per (by lia) (by lia),Uy hp.per (by lia) (by lia),if_neg (by lia),if_pos ⟨by lia,by lia⟩];have:=(u.d3 (m-(q+1)+m-1-(m-1)) (m-1) (by lia) (by lia) (by lia)).1;lia
   ·rw[if_neg z];obtain rfl:q=0:=by lia
    exact(Pz f p (m+1) 0 (by lia) (by lia) hp.more (u.flat.grow h1 c)).imp λr h=>⟨by lia,by lia,h.2.2.1,h.2.2.2⟩
  ·rw[show ltK key (p.getD m 0) (p.getD (m-1) 0)=false from decide_eq_false c];refine⟨hp.per.lt (m-1) (by lia),hp.per.lt m (by lia),?_⟩
   by_cases d:key (p.getD (m-1) 0)<key (p.getD m 0)
   ·rw[show ltK key (p.getD (m-1) 0) (p.getD m 0)=true from decide_eq_true d];exact⟨oG _,by show m≤m+(f+1);lia,hp,u⟩
   ·rw[show ltK key (p.getD (m-1) 0) (p.getD m 0)=false from decide_eq_false d];exact(Pz f p (m+1) (q+1) (by lia) (by lia) hp.more (u.tie (hp.lo (by lia)) (by lia))).imp λr h=>⟨by lia,by lia,h.2.2.1,h.2.2.2⟩
theorem STd.turn(h:STd key p m)(hp:Wj n p)(hm:m≤n):SUp key (kas_rev p 0 m) m:=λi j xA hj=>by
 rw[Uy hp (lD _) hm,Uy hp (lD _) hm,if_pos ⟨lD _,by lia⟩,if_pos ⟨lD _,hj⟩]
 rcases h (0+m-1-j) (0+m-1-i) (by lia) (by lia) with z|z
 ·exact .inl z
 ·exact .inr ⟨z.1.symm,z.2⟩
def Cnt(n:Nat)(key:TX)(r:Nat×Array Nat):Prop:=1≤r.1∧r.1≤n∧Pf n r.1 r.2∧SUp key r.2 r.1
theorem Et(h1:1≤m)(hm:m≤n)(hp:Pf n m p)(u:STd key p m):Vq n (ltK key) (Cnt n key) (kas_tail3 m n p):=by
 unfold W.kas_tail3;have z7:=hp.rev (a:=0) (b:=m) (lD _) (oG _) hm;refine Vq.bind (λq hq=>?_) (Iq (n-m) m h1 (by lia) z7 (u.turn hp.per hm));exact⟨by lia,by lia,⟨z7.per,λi a b=>z7.rest i (by lia) b⟩,hq.2.2.1⟩
theorem Eu(h1:1≤m)(hm:m<n)(hp:Pf n m p)(u:SDn key p (m+1) 0):Vq n (ltK key) (Cnt n key) (kas_descPart m n p):=by
 unfold W.kas_descPart;refine Vq.bind (λr hr=>?_) (Pz (n-(m+1)) p (m+1) 0 (by lia) (by lia) hp.more u);obtain⟨r1,r2,r3⟩:=r;obtain⟨e1,e2,e3,e4⟩:=hr;dsimp only at e1 e2 e3 e4 ⊢;have fit:=e4.fit
 by_cases z:r3>0
 ·rw[if_pos z];exact Et (by lia) (by lia) (e3.rev (by lia) (oG _) (by lia)) (e4.turn e3.per (by lia))
 ·rw[if_neg z];obtain rfl:r3=0:=by lia
  exact Et (by lia) (by lia) e3 e4.flat
theorem Zdf(h1:1≤n):Vq n (ltK key) (Cnt n key) (kas_count n (List.range n).toArray):=by
 unfold W.kas_count;have hp:=λm=>Zlf n m;refine Vq.bind (λm hm=>?_) (Iq (p:=(List.range n).toArray) (n-1) 1 (oG _) (by lia) (hp 1) λi j a b=>by lia);obtain⟨m1,m2,u,c⟩:=hm
 by_cases e:m=n
 ·subst e;rw[if_pos (by simp)];exact⟨h1,oG _,hp _,u⟩
 ·rw[if_neg (by simpa using e)];have c':=c (by lia)
  by_cases g:m>1
  ·rw[if_pos g];refine⟨(hp 0).per.lt _ (by lia),(hp 0).per.lt _ (by lia),?_⟩
   by_cases d:key ((List.range n).toArray.getD 0 0)<key ((List.range n).toArray.getD (m-1) 0)
   ·rw[show ltK key _ _=true from decide_eq_true d];exact⟨m1,by lia,hp _,u⟩
   ·rw[show ltK key _ _=false from decide_eq_false d];show Vq n (ltK key) _ (kas_descPart m n (kas_rev (List.range n).toArray 0 m));have z7:=(hp m).rev (a:=0) (b:=m) (lD _) (oG _) (by lia)
    have eqs:∀i,i<m→key ((List.range n).toArray.getD i 0)=key ((List.range n).toArray.getD 0 0):=λi hi=>by
     have a:=u.le (i:=0) (j:=i) (lD _) hi;have b:=u.le (i:=i) (j:=m-1) (by lia) (by lia);lia
    refine Eu m1 (by lia) z7 (STd.grow (λi j a b=>?_) m1 ?_)
    ·rw[Uy (hp 0).per (lD _) (by lia),Uy (hp 0).per (lD _) (by lia),if_pos (show 0≤j∧j<m from⟨lD _,b⟩),if_pos (show 0≤i∧i<m from⟨lD _,by lia⟩)];have x1:=eqs (0+m-1-i) (by lia);have x2:=eqs (0+m-1-j) (by lia);refine .inr ⟨by lia,?_⟩;rw[range_getD (by lia),range_getD (by lia)];lia
    ·rw[Uy (hp 0).per (lD _) (by lia),Uy (hp 0).per (lD _) (by lia),if_neg (by lia),if_pos ⟨lD _,by lia⟩];have x1:=eqs (0+m-1-(m-1)) (by lia);have x2:=eqs (m-1) (by lia);lia
  ·rw[if_neg g];obtain rfl:m=1:=by lia
   refine Eu (oG _) (by lia) (hp 1) (STd.grow (λi j a b=>absurd b (by lia)) (oG _) c')
theorem Nd{k:Nat}(hp:Pf n k p)(hk:k<n)(u:SUp key p k):∀(f l r:Nat),l≤r→r≤k→r-l≤f→(∀t,t<l→key (p.getD t 0)≤key (p.getD k 0))→(∀t,r≤t→t<k→key (p.getD k 0)<key (p.getD t 0))→
  Vq n (ltK key) (λl'=>l'≤k∧(∀t,t<l'→key (p.getD t 0)≤key (p.getD k 0))∧∀t,l'≤t→t<k→key (p.getD k 0)<key (p.getD t 0)) (kas_place p k f l r)
 | 0,l,r,h1,h2,h3,a,b=>⟨by lia,a,λt t1 t2=>b t (by lia) t2⟩
 |f+1,l,r,h1,h2,h3,a,b=>by
  unfold W.kas_place
  by_cases z:l ≥ r
  ·rw[if_pos z];exact⟨by lia,a,λt t1 t2=>b t (by lia) t2⟩
  ·rw[if_neg z];refine⟨hp.per.lt k hk,hp.per.lt _ (by lia),?_⟩
   by_cases c:key (p.getD k 0)<key (p.getD ((l+r)/2) 0)
   ·rw[show ltK key _ _=true from decide_eq_true c];refine Nd hp hk u f l ((l+r)/2) (by lia) (by lia) (by lia) a λt t1 t2=>?_;have:=u.le (i:=(l+r)/2) (j:=t) t1 t2;lia
   ·rw[show ltK key _ _=false from decide_eq_false c];refine Nd hp hk u f ((l+r)/2+1) r (by lia) h2 (by lia) (λt t1=>?_) b;have:=u.le (i:=t) (j:=(l+r)/2) (by lia) (by lia);lia
theorem Zaf:∀(f:Nat) (p:SJ) (k:Nat),Pf n k p→1≤k→k+f=n→SUp key p k→Vq n (ltK key) (λq=>Wj n q∧SUp key q n) (kas_bin f p k)
 | 0,p,k,hp,_,e,u=>⟨hp.per,by rw[←e];exact u⟩
 |f+1,p,k,hp,h1,e,u=>by
  have hk:k<n:=by lia
  unfold W.kas_bin;refine Vq.bind (λl hl=>?_) (Nd hp hk u k 0 k (lD _) (oG _) (by lia) (λt z=>absurd z (XJ _)) λt a b=>absurd a (by lia));obtain⟨l1,l2,l3⟩:=hl;refine Zaf f _ (k+1) ⟨hp.per.bub k (k-l),λi a b=>?_⟩ (by lia) (by lia) λi j a b=>?_
  ·rw[G6 hp.per hk l1,if_neg (by lia),if_neg (by lia)];exact hp.rest i (by lia) b
  rw[G6 hp.per hk l1,G6 hp.per hk l1]
  by_cases c1:i=l
  ·rw[if_pos c1,if_neg (by lia)]
   split
   ·exact .inl (l3 _ (by lia) (by lia))
   ·exact absurd a (by lia)
  ·rw[if_neg c1]
   by_cases c2:j=l
   ·rw[if_pos c2,if_neg (by lia)];have x1:=l2 i (by lia);have x2:=hp.lo hk i (by lia)
    rcases iN (key (p.getD i 0)) (key (p.getD k 0)) with z|z
    ·exact .inl z
    ·exact .inr ⟨by lia,x2⟩
   ·rw[if_neg c2]
    split<;>split<;>exact u _ _ (by lia) (by lia)
theorem Zh0(h1:1≤n):Vq n (ltK key) (λq=>Wj n q∧SUp key q n) (kas_sort n):=by
 unfold W.kas_sort;refine Vq.bind (λr hr=>?_) (Zdf h1);obtain⟨m,q⟩:=r;obtain⟨e1,e2,e3,e4⟩:=hr;dsimp only at e1 e2 e3 e4 ⊢
 by_cases z:m<n
 ·rw[if_pos z,show max m 1=m by lia];exact Zaf (n-m) q m e3 e1 (by lia) e4
 ·rw[if_neg z];obtain rfl:m=n:=by lia
  exact⟨e3.per,e4⟩
end
section
open PySem.W (kas_sort kas_ask kas_item)
variable {X:Cx}{pins:US}{σ:St}{H:Hp}{s:Shared}
def lnS(z:Str):Int:=(z.length:Int)
theorem Bz:∀{vs:UX}{ns:List Int}{i:Nat}{n:Int},IntsAre vs ns→ns[i]?=some n→∃t,vs[i]?=some (.int n t)
 |_,_,i,n,.nil,h=>by simp at h
 |_,_,0,n,.cons n' t r,h=>by cases h;exact⟨t,rfl⟩
 |_,_,i+1,n,.cons n' t r,h=>Bz (i:=i) r (by simpa using h)
def A4(zs j0:List Str):Prop:=∃p:List Nat,p.Perm (List.range zs.length)∧j0=p.map (λi=>zs.getD i ⟨#[]⟩)∧
 p.Pairwise λi j=>(zs.getD i ⟨#[]⟩).length<(zs.getD j ⟨#[]⟩).length∨((zs.getD i ⟨#[]⟩).length=(zs.getD j ⟨#[]⟩).length∧i<j)
theorem Zpt{zs:List Str}{C:SR}(hk:IntsAre ks (zs.map lnS))(hi:i<zs.length)(hj:j<zs.length)
  (h:C (ltK (λi=>(zs.getD i ⟨#[]⟩).length) i j) s):kas_ask X.prog X.w A oneType' ks i j C s:=by
 obtain⟨t,e1⟩:=Bz (i:=i) (n:=lnS zs[i]) hk (by rw[oH,oC hi];rfl);obtain⟨u,e2⟩:=Bz (i:=j) (n:=lnS zs[j]) hk (by rw[oH,oC hj];rfl);unfold W.kas_ask;rw[oJ,e1,oJ,e2];refine W.kat_lt_int ?_
 have:ltK (λi=>(zs.getD i ⟨#[]⟩).length) i j=decide (lnS zs[i]<lnS zs[j]):=by
  have ga:zs.getD i ⟨#[]⟩=zs[i]:=by rw[oJ,oC hi];rfl
  have gb:zs.getD j ⟨#[]⟩=zs[j]:=by rw[oJ,oC hj];rfl
  show decide ((zs.getD i ⟨#[]⟩).length<(zs.getD j ⟨#[]⟩).length)=decide ((zs[i].length:Int)<(zs[j].length:Int));simp only[ga,gb];exact decide_eq_decide.mpr (by lia)
 rw[this]at h;exact h
theorem Zps{D kS:Addr}{e1 e:Nat}{P:PySem.Fin→Shared→Prop}(I:Inv X (pins++[(D,lo [] e1)]++[(kS,lo ks e)]) σ H s)(fD:Far X pins D)
  (fk:Far X (pins++[(D,lo [] e1)]) kS) (hz:Vals (zs.map V.str) its) (hn:zs.length<64) (hk:IntsAre ks (zs.map lnS))
  (fin:∀j0 s',A4 zs j0→Inv X pins σ (upd H D (.lst (j0.map V.str))) s'→P (.done (.ret .none)) s'):wpAny (model X.prog X.w) A (ksk_end D false its.toArray e1 (.ref kS) ks.toArray) P E s:=by
 have hi:its.length=zs.length:=by rw[←hz.length,oB]
 have hl:ks.length=zs.length:=by rw[hk.length,oB]
 have hki:ks.length=its.length:=by lia
 have hw:(zs.map V.str).length≤1000000:=by rw[oB];lia
 unfold ksk_end;dsimp only;simp only[iM,if_false]
 by_cases n2:its.toArray.size<2
 ·rw[if_pos n2,if_pos n2];refine oA (oD (oA (oD ?_)));refine E9 I fD fk (by lia) ?_ rfl hz hw λs' I'=>fin zs s' ⟨List.range zs.length,.refl _,?_,?_⟩ I'
  ·show (ks.toArray.zip its.toArray).map (·.2)=its.toArray;apply Array.toList_inj.mp;simp only[Array.toList_map,Array.toList_zip];rw[show (λx:Value×Value=>x.2)=Prod.snd from rfl,List.map_snd_zip (by lia)]
  ·refine(WS (by simp) λi a b=>?_).symm;simp[b]
  ·rw[oO,hi]at n2;rw[aE];intro i j a b c;rw[lO]at a b;lia
 ·rw[if_neg n2,if_neg n2];have two:2≤its.length:=by rw[oO]at n2;lia
  refine oA (iQ (ksk_kind (keys:=ks.toArray) (kz:=zs.map lnS) (by simpa using hk) (by rw[oO];lia)) (oA ?_))
  refine aA (W.kat_run (E:=E) (Q:=λst t=>∃p:Array Nat,arrOf st=p.map (kas_item (ks.toArray.zip its.toArray))∧failedOf st=none∧(Wj its.length p∧SUp (λi=>(zs.getD i ⟨#[]⟩).length) p its.length)∧t=s)
   (G:=λp t=>(Wj its.length p∧SUp (λi=>(zs.getD i ⟨#[]⟩).length) p its.length)∧t=s) hki two (by lia) (λp st t _ b c d=>⟨p,b,c,d.1,d.2⟩)
   (Vq.wp (n:=its.length) (lt:=ltK λi=>(zs.getD i ⟨#[]⟩).length) (λi j C u6 yT hC=>Zpt hk (by lia) (by lia) hC) (λr hr=>⟨hr,rfl⟩) (Zh0 (by lia)))) (λr t hr=>?_) λ_ _ z=>z
  obtain⟨⟨⟩,st⟩:=r;obtain⟨p,h1,h2,⟨h3,h5⟩,h4⟩:=hr;subst h4;have pl:p.toList.Perm (List.range zs.length):=by rw[←hi];exact h3.per
  have Zmu:Vals ((p.toList.map λi=>zs.getD i ⟨#[]⟩).map V.str) (p.toList.map λi=>its.getD i Value.none):=by
   have:∀l:List Nat,(∀i∈l,i<zs.length)→Vals ((l.map λi=>zs.getD i ⟨#[]⟩).map V.str) (l.map λi=>its.getD i Value.none):=λl=>by
    induction l with
    |nil=>exact λ_=>.nil
    |cons i l ih=>
     intro h;have u6:=h i oK;refine .cons ?_ (ih λj hj=>h j (oQ _ hj));obtain⟨u,hu,ru⟩:=Vals.get (i:=i) (x:=V.str zs[i]) hz (by rw[oH,oC u6];rfl);show RelV (V.str (zs.getD i ⟨#[]⟩)) (its.getD i Value.none);rw[oJ,oC u6,oJ,hu];exact ru
   exact this _ λi u6=>iG.mp (pl.mem_iff.mp u6)
  have kQ:p.toList.length=zs.length:=by rw[pl.length_eq,lO]
  refine E9 I fD fk (by lia) (W.kat_snds hki h1) h2 Zmu (by rw[oB,oB,kQ];lia) λs' I'=>fin _ s' ⟨p.toList,pl,rfl,?_⟩ I';rw[aE];intro i j li lj lij;have a1:=Ll (p:=p) (i:=i) (by simpa using li);have a2:=Ll (p:=p) (i:=j) (by simpa using lj);rw[←lL,oC li]at a1;rw[←lL,oC lj]at a2;have q:=h5 i j lij (by rw[←h3.size];simpa using lj);rw[←Option.some.inj a1,←Option.some.inj a2]at q;exact q
theorem Zmk{P:PySem.Fin→Shared→Prop}(I:Inv X pins σ H s)(hz:Vals (zs.map V.str) its)(hn:zs.length<64)
  (hs:∀z∈zs,z.length≤1000) (fin:∀j0 s',A4 zs j0→H s.heap.objs.size=none→Inv X pins σ (upd H s.heap.objs.size (.lst (j0.map V.str))) s'→P (.done (.ret .none)) s') :
  wpAny (model X.prog X.w) A (ksk_tree s.heap.objs.size (.builtin "len") false) P E { s with heap:=s.heap.push (lo its 0) }:=by
 have hi:its.length=zs.length:=by rw[←hz.length,oB]
 have k8:its.toArray.size≤sizeLine:=by rw[oO];exact Vm (by lia)
 have hH0:H s.heap.objs.size=none:=I.hok.fresh (oG _);generalize mR:s.heap.objs.size=D at fin hH0 ⊢;have hD:(s.heap.push (lo its 0)).get? D=some (lo its 0):=by rw[←mR];exact oS _ rfl
 obtain⟨e1,zP⟩:∃e1,((s.heap.push (lo its 0)).update D (Obj.mapSeq λ_=>#[])).get? D=some (lo [] e1):=⟨_,PySem.IsL.update hD λ_=>#[]⟩;have lt:∀b o,s.heap.get? b=some o→b<D:=λb o q=>by rw[←mR];exact oT q
 have old:∀b o,s.heap.get? b=some o→((s.heap.push (lo its 0)).update D (Obj.mapSeq λ_=>#[])).get? b=some o:=λb o q=>
  (lZ _ _ (bJ (lt b o q))).trans (oE _ q)
 unfold ksk_tree;refine oA (listItems_at hD rfl ?_);refine oA (listUpdate_at hD rfl ?_ k8 (lD _));refine oA (seqEpoch_at zP rfl ?_);refine oA (wpAny_newTuple ?_ (by show its.length≤_;exact Vm (by lia)));refine oA (wpAny_newList ?_ (lD _));refine iB ?_;dsimp only;generalize hG:((s.heap.push (lo its 0)).update D (Obj.mapSeq λ_=>#[])).push { cls:=.type "tuple",data:=.seq its.toArray.toList.toArray } = G;have nR:G.objs.size=D+2:=by rw[←hG,bB,Heap.size_update,bB,mR]
 have cB:∀b o,s.heap.get? b=some o→(G.push (lo [] 0)).get? b=some o:=λb o q=>oE _ (by rw[←hG];exact oE _ (old b o q))
 have I1:Inv X pins σ H { s with heap:=G.push (lo [] 0) }:=I.kept (t':=s.toks) cB;have fD:Far X pins D:=I.far (by rw[mR];exact oG _);have fk:Far X (pins++[(D,lo [] e1)]) G.objs.size:=(I.far (by rw[nR,mR];exact YF _ _)).more (by rw[nR];exact lE (ZD (by decide)));have I2:=I1.hold (ks:=[]) (e:=e1) fD (oE _ (by rw[←hG];exact oE _ zP)) (I.hok.fresh (by rw[mR];exact oG _));have I3:=I2.hold (ks:=[]) (e:=0) fk (oS _ rfl) (I.hok.fresh (by rw[nR,mR];exact YF _ _));unfold ksk_rest;refine oA (aC ?_)
 first
  |rw[UB]
  | (rw[←Array.forIn_toList];simp only[VS])
 refine oA (aA (K3 (λi t=>∃ks e,Inv X (pins++[(D,lo [] e1)]++[(G.objs.size,lo ks e)]) σ H t∧ks.length=i∧IntsAre ks ((zs.take i).map lnS)) its 0 _ (λj y t hy hJ=>?_) ⟨[],0,I3,rfl,.nil⟩) (λ_ t ht=>?_) λ_ _ z=>z)
 ·obtain⟨ks,e,I',fJ,hk⟩:=hJ;rw[VH]at fJ hk ⊢
  have hj:j<its.length:=by
   rcases iN j its.length with z|z
   ·exact z
   ·rw[iX.mpr z]at hy;cases hy
  have yT:j<zs.length:=by lia
  obtain⟨u,hu,tt,rfl⟩:=Vals.get (i:=j) (x:=V.str zs[j]) hz (by rw[oH,oC yT];rfl);rw[hy]at hu;cases hu;have jA:=hs _ (bX yT);refine oA (bI (len_str (by lia) ?_));dsimp only;have I4:=I'.tok (t.toks+1+1);have eF:ks.toArray.size≤1000000:=by rw[oO,fJ];lia
  refine oA (listUpdate_at I4.held.1 rfl ?_ (Vm eF) (by rw[Array.size_push];exact Nat.succ_le_succ (Vm eF)));obtain⟨e',I5⟩:=I4.Zdr (f:=(·.push (.int (zs[j].length:Int) (t.toks+1)))) (ks':=ks++[.int (zs[j].length:Int) (t.toks+1)]) fk (by simp);refine oD ⟨rfl,_,e',I5,by simp[fJ],?_⟩
  have e3:(zs.take (j+1)).map lnS=(zs.take j).map lnS++[lnS zs[j]]:=by
   rw[iE,oC yT,lH];rfl
  rw[e3];exact ksk_snoc hk
 ·rw[VH]at ht;obtain⟨ks,e,I',hl,hk⟩:=ht;rw[hi,lM]at hk
  try dsimp only
  refine oA (listItems_at I'.held.1 rfl ?_);exact Zps I' fD fk hz hn hk λj0 s' cm Is=>fin j0 s' cm hH0 Is
inductive Zgn(K:W.Frag)(xs:List V)(H:Hp)(Q:VK):Prop
 |mk(p zs:_)(h1:xs=[.ref p])(h2:SqL K H p (zs.map V.str))(h3:zs.length<64)(h4:(∀z∈zs,z.length≤1000))(h5:∀j0 l,A4 zs j0→H l=none→Q (.ref l) (upd H l (.lst (j0.map V.str)))):Zgn K xs H Q
def Zkz(K:W.Frag):List V→Hp→VK→Prop:=λxs H Q=>Zgn K xs H Q
theorem Zlh{kp:Pos}(hg:Gl X "sorted")(hm:X.mg "sorted"=none)(hgl:Gl X "len")(kE:X.mg "len"=none)(he:PE X e te)
  (hK:X.K=K:=by rfl) (hse:starEach [e] X.env=(false,eval e X.env) :: starEach [] X.env:=by rfl)
  (y0:(backTo pos (starEach [e] X.env)).any (·.1)=false:=by rfl):PE X (.Call (.Name "sorted" p) [e] [⟨some "key",.Name "len" p2,kp⟩] pos) (tCB (Zkz K) (Mc te Zc9)):=by
 subst hK;intro pins s σ H Q I h;refine iI (Vc I hg hm Ko ?_);refine PyProof.Rows.callWith_kw (thn (Za he Zb hse pos pins s σ H (λvs H1=>Zkz X.K vs H1 Q) I h) λus s1 ⟨vs,H1,I1,r1,hq⟩=>?_) (by rw[hse];rfl) y0 rfl rfl;refine(show wpAny _ _ (evalAll ((do let v ←eval (.Name "len" p2) X.env;standAt pos;pure v) :: [])) _ _ s1 from wpAny_evalAll_cons (oA (Vc I1 hgl kE Xw (oA (XG (oD (wpAny_evalAll_nil ?_)))))));obtain⟨l,zs,e1,hl,hn,hs,q⟩:=hq;subst e1;obtain⟨u,rfl,ru⟩:=Vals.one r1;obtain rfl:u=Value.ref l:=ru;obtain⟨its,r',pl,_⟩:=I1.list hl;have hi:its.length=zs.length:=by rw[←r'.length,oB]
 show wpAny (model X.prog X.w) X.A (call (.builtin "sorted") [.ref l] [(Str.ofString "key",.builtin "len")]) (EP X pins σ Q) X.xe s1;refine call_function_entry_kw kind_sorted plain_sorted entry_sorted (ksk_s1 _ _) ?_;unfold Builtin.«sorted»;refine oA (m:=checkCount "sorted" 1 1 _) (oD ?_);refine oA (collect_list pl.isList ?_ (Vm (by lia)));refine oA (wpAny_newList ?_ (Vm (by lia)));refine oA (iB (wpAny_call_entry_kw slot_list_sort ⟨_,oS _ rfl,rfl⟩ entry_list_sort ?_ (ksk_l1 _ _)));rw[ksk_t4]
 have I2:Inv X pins σ H1 { s1 with heap:=_ }:=I1.kept (t':=s1.toks) (h':=(s1.heap.push { cls:=.type "list",data:=.seq #[] }).update s1.heap.objs.size (Obj.mapSeq (· ++ its.toArray))) λb o e=>(lZ _ _ (bJ (oT e))).trans (oE _ e);refine Zmk I2 r' hn hs λj0 s3 cm fP I3=>⟨_,rfl,?_⟩;exact oD ⟨_,rfl,.ref _,_,I3,rfl,q j0 _ cm fP⟩
end
section
variable {P:Program}{w:World}{A:Around}{E:UQ}{s:Shared}
def Fd(D:List Str)(i:Nat)(v:Value):Prop:=∃z t,D[i]?=some z∧v=.str z t
theorem Zee{wr:SM}{G:Array GenState→Array GenState→Prop}{D:List Str}{St:Nat→Shared→Prop}(W:WalksS P w A.in1 I fp wr G D.length (Fd D) St)(S:Addr)(eV:S∉fp)
  (hb:D.length+1<4096):∀(k i:Nat) (s:Shared) (o:Obj),D.length-i=k→i≤D.length→St i s→s.heap.get? S=some o→Pn w o (D.take i) i→
   (∀s' o',Moved (S :: wr) G s s'→s'.heap.get? S=some o'→Pn w o' D D.length→R (.ok (.ret .none)) s')→
   codeAny (model P w) A (.builtin "set.update.loop" ⟨[.ref S,.ref I],[]⟩) R s:=by
 have hSw:S∉wr:=λh=>eV (W.sub _ h);have Zek:∀b∈wr,b∈S :: wr:=λb hb=>oQ _ hb;intro k
 induction k with
 |zero=>
  intro i s o hk hi z9 ho hS hR;have t6:i=D.length:=by lia
  subst t6;refine aD XS ?_;rw[bM ZK _];show wpAny _ A.in1 (pyNext (.ref I) >>= _) _ _ s;refine oA (W.done s _ _ z9 λs' hm=>oD (hR s' o (hm.mono Zek) (hm.heap S _ hSw ho) ?_));rw[aR (oG _)]at hS;exact hS
 |succ k ih=>
  intro i s o hk hi z9 ho hS hR;have x9:i<D.length:=by lia
  refine aD XS ?_;rw[bM ZK _];show wpAny _ A.in1 (pyNext (.ref I) >>= _) _ _ s;refine oA (W.item i s _ _ x9 z9 λv s' hP fY hm=>?_);obtain⟨z,u,hz,rfl⟩:=hP;show wpAny _ A.in1 (holding [Value.str z u] (setAdd S (.str z u)) >>= _) _ _ s';unfold setAdd;refine oA (iB (iB (oA ?_)));refine(PySem.strKind P w).pyHash (k:=z) (by show Value.isStrOf z (.str z u)=true;simp[Value.isStrOf]) ?_
  refine Zn7 (s:={ s' with toks:=s'.toks+1 }) (hm.heap S _ hSw ho) hS (by lia) z u λ_ h' o' xD e2 nX=>?_
  have hS3:Pn w o' (D.take (i+1)) (i+1):=by
   have e:D.take (i+1)=D.take i++[z]:=by rw[iE,hz];rfl
   rw[e];exact nX
  refine oD ⟨plainId_quiet ZK _,ih (i+1) _ o' (by lia) x9 (W.frame _ s' _ _ fY (cY _) λb hb o e=>?_) e2 hS3 λvO o'' fN e'' nV=>?_⟩
  ·exact(xD.2 b (λz:b=S=>eV (z▸hb))).trans e
  ·exact hR vO o'' (Moved.trans W.gtrans ((hm.mono Zek).then_heap (cY _) λb o hb e=>(xD.2 b (λz:b=S=>hb (by rw[z];exact oK))).trans e) fN) e'' nV
theorem sub_list_set:isSubtype (.type "list") (.type "set")=pure false:=by rw[isSubtype_type];kernel_rfl
theorem sub_list_frozenset:isSubtype (.type "list") (.type "frozenset")=pure false:=by rw[isSubtype_type];kernel_rfl
theorem A7{l:Addr}(hh:A.handled=none)(m5:l≠I){D:List Str}(hn:items.size=D.length)(hD:∀(i:Nat) v,items[i]?=some v→Fd D i v):Walks P w A I [I,l] [I] D.length (Fd D) (λi h=>h.IsListIter I l i∧h.IsList l items):=
 let W:=Walks.list (prog:=P) (w:=w) (A:=A) hh I l m5 items
 {sub:=W.sub,frame:=W.frame,self:=W.self,done:=λs Q E st hQ=>W.done s Q E (by rw[hn];exact st) hQ
  item:=λi s Q E hi st hQ=>W.item i s Q E (by rw[hn];exact hi) st λv h' tk p=>hQ v h' tk (hD i v p) }
set_option maxHeartbeats 3200000 in
theorem G4(hh:A.handled=none){l:Addr}{D:List Str}(hl:s.heap.IsList l items)(hn:items.size=D.length)(hD:∀(i:Nat) v,items[i]?=some v→Fd D i v)(hb:D.length+1<4096)
  (hQ:∀h' tk o,(∀b o,s.heap.get? b=some o→h'.get? b=some o)→h'.get? s.heap.objs.size=some o→Pn w o D D.length→Q (.ref s.heap.objs.size) { s with heap:=h',toks:=tk }) :
  wpAny (model P w) A (call (.type "set") [.ref l]) Q E s:=by
 obtain⟨c,tl,hmro⟩:=aJ.mro;have hmade:=aJ.made;have Zek:=aJ.sub;refine wpAny_call (codeAny_of_tree ?_);show wpAny _ _ (callAny (.type "set") _) _ _ _;refine oD ⟨Code.quiet_builtin _ (by decide +kernel),aD PySem.F.entry_type_call ?_⟩;rw[Around.under_plain (weight_type_call_type "set" [.ref l] []) rfl];have h1:=aJ.notType;have h2:=aJ.canCreate;have hct:=PySem.F.typeCall_set_1 (.ref l)
 repeat (any_goals (first|assumption|wp_step))
 refine YY (Zl6 (.ref l) (E:=E) (Q₁:=λobj x6=>obj=.ref s.heap.objs.size∧x6 = { s with heap:=s.heap.push (Xe w) }) ⟨rfl,rfl⟩) λr x6 hr=>?_
 cases r with
 |error e=>exact hr
 |ok fl=>
  cases fl with
  |ret obj=>
   obtain⟨rfl,rfl⟩:=hr;have hS:(s.heap.push (Xe w)).get? s.heap.objs.size=some (Xe w):=oS _ rfl
   have hT:Shared.TypeIs { s with heap:=s.heap.push (Xe w) } (.ref s.heap.objs.size) "set":=⟨_,hS,rfl⟩;have y9:(s.heap.push (Xe w)).IsList l items:=let ⟨o,e,r⟩:=hl;⟨o,oE _ e,r⟩
   have ll:l<s.heap.objs.size:=let ⟨_,e,_⟩:=hl;oT e
   have hTl:Shared.TypeIs { s with heap:=s.heap.push (Xe w) } (.ref l) "list":=y9.typeIs;have hli:=aJ.init.lookup;have z3:=aJ.init.bind (.ref s.heap.objs.size)
   repeat (any_goals (first|assumption|wp_step))
   refine YY (codeAny_call_builtin (R:=wants (λr k7=>r=.none∧∃h' tk o,k7 = { s with heap:=h',toks:=tk }∧(∀b o,s.heap.get? b=some o→h'.get? b=some o)∧h'.get? s.heap.objs.size=some o∧
    Pn w o D D.length) E) aJ.init.plain PySem.F.entry_set_init (check_set_init_1 hT ?_)) λcK k7 xC=>?_
   ·have hsls:=sub_list_set;have hslf:=sub_list_frozenset;have m5:(Value.type "list"==Value.type "dict")=false:=by decide
    have xQ:(s.heap.push (Xe w)).get? s.heap.objs.size=some { cls:=.type "set",dict:=none,data:=.set #[] 0 (.fresh 0 0 (!w.params.followText "set-order")) }:=hS;unfold Builtin.«set.__init__» noKeywords Builtin.Frozenset.updateFrom;generalize hPI:pyIter=PI
    wp_walk
    subst hPI;refine UJ y9 (oA (wpAny_runValue ?_));have sz:(s.heap.push (Xe w)).objs.size=s.heap.objs.size+1:=bB _ _
    have eV:s.heap.objs.size∉[(s.heap.push (Xe w)).objs.size,l]:=by
     rw[sz];intro z
     rcases oX.mp z with z|z
     ·exact absurd z (lE (aS _))
     ·exact absurd (oU.mp z) (bJ ll)
    refine Zee (A7 (A:=A.in1.in1.in1) (by simp[hh]) (by rw[sz];exact lE (WG ll)) hn hD).toS s.heap.objs.size eV hb (D.length-0) 0 _ (Xe w) (by lia) (lD _) ?_ ?_ (Zv8 w) λs' o' hm e' nX=>?_
    ·obtain⟨o,e,r⟩:=y9;exact⟨⟨_,oS _ rfl,rfl,rfl⟩,⟨o,oE _ e,r⟩⟩
    ·exact oE _ hS
    obtain⟨h',g',d',mG,cD⟩:=s';have eg:g'=s.gens:=hm.gens;have ed:d'=s.drawn:=hm.drawn;have eo:cD=s.os:=hm.os;subst eg;subst ed;subst eo;show wpAny _ _ _ _ _ _;refine oD (oD ⟨rfl,h',mG,o',rfl,λb o e=>?_,e',nX⟩);have lt:=oT e;refine hm.heap b o (λz=>?_) (oE _ (oE _ e))
    rcases oX.mp z with z|z
    ·exact iL _ (z▸lt)
    ·have z2:=oU.mp z;rw[bB]at z2;have:=z2▸lt;exact iL _ (Nat.lt_of_succ_lt this)
   ·cases cK with
    |error e=>exact xC
    |ok tO=>
     cases tO with
     |ret r=>
      obtain⟨rfl,h',tk,o,rfl,mZ,e',xQ⟩:=xC
      repeat (any_goals (first|assumption|wp_step))
      exact hQ h' tk o mZ e' xQ
     |_=>exact xC.elim
  |_=>exact hr.elim
end
section
variable {X:Cx}
inductive Zk0(K:W.Frag)(w:World)(xs:List V)(H:Hp)(Q:VK):Prop
 |mk(p zs:_)(h1:xs=[.ref p])(h2:SqL K H p (zs.map V.str))(h3:zs.length+1<4096)(h4:∀l,H l=none→Q (.ref l) (upd H l (Zkq w l zs zs.length))):Zk0 K w xs H Q
def Zvo(K:W.Frag)(w:World):List V→Hp→VK→Prop:=λxs H Q=>Zk0 K w xs H Q
theorem Zc1(r:Vals (zs.map V.str) its)(i:Nat)(v:Value)(h:its[i]?=some v):Fd zs i v:=by
 have hi:i<its.length:=(oF.mp h).1;have hl:i<zs.length:=by rw[←r.length,oB]at hi;exact hi
 obtain⟨u,hu,t,rfl⟩:=Vals.get (i:=i) (x:=V.str zs[i]) r (by rw[oH,oC hl];rfl);rw[h]at hu;exact⟨zs[i],t,oC hl,Option.some.inj hu⟩
theorem Ze3(hc:X.calm=true)(hK:X.K=K:=by rfl):X4 X (.type "set") (Zvo K X.w):=by
 subst hK;intro pins s σ H xs us Q I r h;obtain⟨p,zs,rfl,hp,hz,q⟩:=h;obtain⟨u,rfl,ru⟩:=vals1 r;obtain rfl:u=Value.ref p:=ru;obtain⟨its,rv,pl,_⟩:=I.list hp;have hl:its.length=zs.length:=by rw[←rv.length,oB]
 refine G4 (I.ok.hd hc) pl.isList (by rw[oO];exact hl) (λi v e=>Zc1 rv i v (by simpa using e)) hz λh' tk o k e sx=>?_;exact⟨.ref s.heap.objs.size,_,I.laid k (oG _) (show Yy X.prog X.w _ h' _ (Zkq X.w s.heap.objs.size zs zs.length) from⟨⟨o,e,sx⟩,⟨o,e⟩,λh1 h2 ⟨o1,e1,x1⟩ k1=>⟨o1,k1 o1 e1,x1⟩⟩),rfl,q _ (I.hok.fresh (oG _))⟩
end
theorem Yq:Slot "reversed" "__next__" "reversed.__next__":=.of (owner:="reversed") (n:="__next__") (by rw[typeLookup_type,builtinLookup_eq_fast];kernel_rfl) (by decide +kernel) (by decide +kernel) (by decide +kernel) (by first|exact .inl (by decide +kernel)|exact .inr (by decide +kernel)) (by rw[isSubtype_type];kernel_rfl)
theorem Ui:Slot "reversed" "__iter__" "reversed.__iter__":=.of (owner:="reversed") (n:="__iter__") (by rw[typeLookup_type,builtinLookup_eq_fast];kernel_rfl) (by decide +kernel) (by decide +kernel) (by decide +kernel) (by first|exact .inl (by decide +kernel)|exact .inr (by decide +kernel)) (by rw[isSubtype_type];kernel_rfl)
theorem Wd:Slot "reversed" "__length_hint__" "reversed.__length_hint__":=.of (owner:="reversed") (n:="__length_hint__") (by rw[typeLookup_type,builtinLookup_eq_fast];kernel_rfl) (by decide +kernel) (by decide +kernel) (by decide +kernel) (by first|exact .inl (by decide +kernel)|exact .inr (by decide +kernel)) (by rw[isSubtype_type];kernel_rfl)
theorem V3:entryFor table "reversed.__next__"=some Builtin.«reversed.__next__»:=entryFor_of_tree (by kernel_rfl)
theorem O9:entryFor table "reversed.__length_hint__"=some Builtin.«reversed.__length_hint__»:=entryFor_of_tree (by kernel_rfl)
theorem O7:entryFor table "reversed.__iter__"=some Builtin.«dict_keyiterator.__iter__»:=entryFor_alias (id':="dict_keyiterator.__iter__") (by kernel_rfl) (by first|rfl|decide +kernel|(unfold String.splitOn;simp +decide [String.splitOnAux])) (by decide +kernel) (by kernel_rfl)
theorem Uo(a:Value):argsOk "reversed.__next__" ⟨[a],[]⟩:=by unfold argsOk;kernel_rfl
theorem Lq(a:Value):argsOk "reversed.__iter__" ⟨[a],[]⟩:=by unfold argsOk;kernel_rfl
theorem Lr(a:Value):argsOk "reversed.__length_hint__" ⟨[a],[]⟩:=by unfold argsOk;kernel_rfl
theorem Dc:typeLookup (.type "reversed") "__len__"=pure none:=by rw[typeLookup_type,builtinLookup_eq_fast];kernel_rfl
theorem Cm:typeLookup (.type "tuple") "__reversed__"=pure none:=by rw[typeLookup_type,builtinLookup_eq_fast];kernel_rfl
theorem sub_tuple_dict:isSubtype (.type "tuple") (.type "dict")=pure false:=by rw[isSubtype_type];kernel_rfl
theorem L6:isSubtype (.type "reversed") (.type "reversed")=pure true:=by rw[isSubtype_type];kernel_rfl
def rvO(t:Addr)(i:Int):Obj:={ cls:=.type "reversed",data:=.fields #[.ref t,rawInt i] }
def Lu(h:Heap)(a t:Addr)(i:Int):Prop:=∃o,h.get? a=some o∧o.cls=.type "reversed"∧o.data=.fields #[.ref t,rawInt i]
theorem Lu.to{t:Addr}{i:Int}(x:Lu h a t i)(e:∀o,h.get? a=some o→h'.get? a=some o):Lu h' a t i:=let ⟨o,q,r⟩:=x;⟨o,e _ q,r⟩
section
variable {P:Program}{w:World}{A:Around}{E:UQ}{s:Shared}{t r:Addr}{items:TH}
theorem Lu.typeIs{i:Int}(x:Lu s.heap r t i):s.TypeIs (.ref r) "reversed":=let ⟨o,q,c,_⟩:=x;⟨o,q,c⟩
theorem Lz(x:IsTup h t items)(e:∀o,h.get? t=some o→h'.get? t=some o):IsTup h' t items:=let ⟨o,q,r⟩:=x;⟨o,e _ q,r⟩
theorem D9:TypeCalled "reversed" "reversed.__new__" "object.__init__":=⟨by decide +kernel,by decide +kernel,⟨_,_,PySem.F.mro_reversed⟩,PySem.F.made_reversed,by decide +kernel,L6,
 .of (owner:="object") (n:="__init__") (by rw[typeLookup_type,builtinLookup_eq_fast];kernel_rfl) (by decide +kernel) (by decide +kernel) (by decide +kernel) (by first|exact .inl (by decide +kernel)|exact .inr (by decide +kernel)) (by rw[isSubtype_type];kernel_rfl)⟩
theorem Zmb(t:Addr)(items:TH)(hz:items.size≤sizeLine):MeetsIn P w (Builtin.«reversed.__new__» ⟨[.type "reversed",.ref t],[]⟩) (λ_ R s=>IsTup s.heap t items∧
  ∀tk,R (.ok (.ret (.ref s.heap.objs.size))) { s with heap:=s.heap.push (rvO t ((items.size:Int)-1)),toks:=tk }):=.of_wp λA R s ⟨ht,h⟩=>by
 have hT:=ht.typeIs;have vE:=Vx;unfold Builtin.«reversed.__new__»;refine oA (iQ (newClass_reversed _) ?_)
 try dsimp only
 refine oA (iQ (a:=()) (by first|rfl|kernel_rfl) (oA (iQ (a:=()) (by first|rfl|kernel_rfl) ?_)))
 try dsimp only
 refine oA (bL hT Cm ?_)
 try dsimp only
 refine oA ?_
 wp_delta
 refine oA (bY (T:="tuple") (b:=false) hT sub_tuple_dict ?_);refine oA (bL hT slot_tuple_getitem.lookup ?_)
 try dsimp only
 rw[if_pos (by decide)];refine oD ?_;refine oA (len_tuple ht (by lia) ?_);refine oA (oD ?_);refine oA (m:=Builtin.SmallTypes.newRecord _ _) ?_;unfold Builtin.SmallTypes.newRecord;exact lS (oD ⟨_,rfl,h _⟩)
theorem Zqg(ht:IsTup s.heap t items)(hz:items.size≤sizeLine)(h:∀tk,Q (.ref s.heap.objs.size) { s with heap:=s.heap.push (rvO t ((items.size:Int)-1)),toks:=tk }):wpAny (model P w) A (call (.type "reversed") [.ref t]) Q E s:=
 callType_newIn D9 (by decide) (PySem.F.typeCall_reversed_1 _) (PySem.F.newCall_reversed_1 _) (λobj=>PySem.F.args_object_init_2 obj _) PySem.F.entry_reversed_new (Zmb t items hz) ⟨ht,λtk=>⟨⟨_,oS _ rfl,rfl⟩,h tk⟩⟩
theorem Zpi{i:Nat}{x:Value}{Q:TJ}(hr:Lu s.heap r t (i:Int))(ht:IsTup s.heap t items)(hz:items.size≤sizeLine)(hx:items[i]?=some x)
  (h:∀h' tk,Lu h' r t ((i:Int)-1)→Heap.SameBut r s.heap h'→Q (some x) { s with heap:=h',toks:=tk }):wpAny (model P w) A (pyNext (.ref r)) Q E s:=by
 obtain⟨o,g,c,d⟩:=id hr;have hT:=hr.typeIs;have vE:=Vx;have hi:i<items.size:=(Array.getElem?_eq_some_iff.mp hx).1;unfold pyNext;refine oA (bI (lR (name:=Str.ofString "__next__") hT Yq (lP Yq hT V3 ?_ (Uo _))));unfold Builtin.«reversed.__next__»;refine oA (iQ (a:=(Value.ref r,[])) rfl ?_)
 try dsimp only
 refine oA (iF g d (x:=.ref t) rfl (oA (iF g d (x:=rawInt (i:Int)) rfl ?_)));show wpAny _ _ (if (i:Int)<0 then _ else _) _ _ s;rw[if_neg (by lia)];refine oA (bL ht.typeIs slot_tuple_getitem.lookup ?_);rw[if_neg (by simp)];refine oA (WK (oA (bI (getItem_tuple (j:=i) (x:=x) (Lz ht λ_ e=>e) (by lia) (by lia) ?_ hx ?_))))
 ·have e:¬ ((i:Int)<0):=by lia
  unfold seqIndex?;simp only[e,if_false];simp[hi]
 try dsimp only
 refine oA (iF g d (x:=rawInt (i:Int)) rfl ?_);dsimp only[rawInt];refine oA (bR g d (by simp) (oD ⟨x,rfl,oD (h _ _ ?_ (iV ..))⟩));exact⟨_,lT _ g (bS (iS d _)),(YW ..).trans c,by rw[iS d];simp[rawInt]⟩
theorem Zt9{Q:TJ}(hh:A.handled=none)(hr:Lu s.heap r t (-1))(h:∀h',Heap.ExtBut r s.heap h'→Q none { s with heap:=h' }):wpAny (model P w) A (pyNext (.ref r)) Q E s:=by
 obtain⟨o,g,c,d⟩:=id hr;have hT:=hr.typeIs;unfold pyNext;refine oA (bI (lR (name:=Str.ofString "__next__") hT Yq (lP Yq hT V3 ?_ (Uo _))));unfold Builtin.«reversed.__next__»;refine oA (iQ (a:=(Value.ref r,[])) rfl ?_)
 try dsimp only
 refine oA (iF g d (x:=.ref t) rfl (oA (iF g d (x:=rawInt (-1)) rfl ?_)));show wpAny _ _ (if (-1:Int)<0 then _ else _) _ _ s;rw[if_pos (by decide)];refine oA (aC (oA ?_))
 wp_delta
 refine oA (bR g d (by simp) ?_);have d1:∀f:Array Value→Array Value,(Obj.mapFields f o).data=.fields (f #[.ref t,rawInt (-1)]):=λf=>iS d f;refine bR (lT _ g (bS (d1 _))) (d1 _) (by simp) ?_;refine oA ?_;unfold Builtin.SmallTypes.stopIteration;refine oA ?_;simp only[newExc,newTuple];refine oA (lS (oA (m:=firstArgMember _ _) (iQ (a:=Value.none) (by first|rfl|(simp only[firstArgMember];rfl)) (lS ?_ (by size_fits)))) (by size_fits));simp only[raiseNew];refine oA (XH ?_);rw[show A.in1.handled=none from hh];refine oA (oD (WI ?_));refine oA (bY (T:="StopIteration") (b:=true) ⟨_,oS _ rfl,rfl⟩ isSubtype_stop (oD (h _ λb o' hb e=>?_)));exact oE _ (oE _ ((lZ _ _ (iY hb)).trans ((lZ _ _ (iY hb)).trans e)))
theorem Zg9{i:Int}(hr:Lu s.heap r t i)(h:Q (.ref r) s):wpAny (model P w) A (pyIter (.ref r)) Q E s:=by
 refine YU hr.typeIs Ui (lP Ui hr.typeIs O7 ?_ (Lq _));exact(show wpAny _ _ (ret (.ref r)) _ _ s from oD ⟨_,rfl,"reversed",_,hr.typeIs,Yq.lookup,h⟩)
theorem Zp0{n:Nat}{Q:SR}(hr:Lu s.heap r t ((n:Int)-1))(ht:IsTup s.heap t items)(hz:items.size≤sizeLine)(hn:items.size=n)(h:∀b tk,Q b { s with toks:=tk }):wpAny (model P w) A (Builtin.List.listLengthHint (.ref r)) Q E s:=by
 obtain⟨o,g,c,d⟩:=id hr;have hT:=hr.typeIs;have vE:=Vx;unfold Builtin.List.listLengthHint;refine oA (bL hT Dc ?_);refine(show wpAny _ _ (specialOf (Value.ref r) (Str.ofString "__length_hint__") >>= _) _ _ _ from oA (bL hT Wd.lookup ?_));generalize yS:("reversed.__length_hint__" : String)=uV
 wp_delta
 rw[show splitId uV=some ("reversed","__length_hint__") from by subst yS;decide +kernel];subst yS;refine oA (bY (T:="reversed") (b:=true) hT L6 ?_);refine bC (λxS=>absurd xS (by decide)) (λ_=>?_);refine bC (λxS=>absurd xS (by decide +kernel)) (λ_=>?_);refine oA (aC ?_);refine oA (iQ (Wd.bind _) ?_)
 try dsimp only
 refine oA (bI (lP Wd hT O9 ?_ (Lr _)));unfold Builtin.«reversed.__length_hint__»;refine oA (iQ (a:=Value.ref r) rfl ?_);refine oA (iF g d (x:=.ref t) rfl ?_);show wpAny _ _ (if (Value.ref t==Value.none)=true then _ else _) _ _ s;rw[if_neg (λz=>nomatch z)];refine oA (len_tuple ht (by lia) ?_);refine oA (oD ?_)
 try dsimp only
 refine oA (iF g d (x:=rawInt ((n:Int)-1)) rfl ?_);dsimp only[rawInt];rw[if_neg (by lia)];refine oA (WK (oD ⟨_,rfl,?_⟩));have e0:(n:Int)-1+1=(n:Int):=by lia
 rw[e0];have ea:∀(i:Int) (u:Tok),asInt? (Value.int i u)=pure (some i):=λ_ _=>rfl;simp only[ea,pure_bind]
 have f1:Builtin.List.listFitsIndex (n:Int)=true:=by
  unfold Builtin.List.listFitsIndex;rw[lQ];exact⟨decide_eq_true (by lia),decide_eq_true (by lia)⟩
 have f2:Builtin.List.listTooLong (n:Int).toNat=false:=decide_eq_false (by rw[bG];lia);rw[f1,if_neg (by decide),if_neg (by lia),f2,if_neg (by decide)];exact oD (h _ _)
theorem Zjs(hh:A.handled=none)(r t:Addr)(m5:t≠r)(items:TH)(hz:items.size≤sizeLine):Walks P w A r [r,t] [r] items.size (λi v=>items[items.size-1-i]?=some v) (λi h=>i≤items.size∧Lu h r t ((items.size:Int)-1-(i:Int))∧IsTup h t items) where
 sub:=λb hb=>by rw[oU.mp hb];exact oK
 frame:=λ_ _ _ x hk=>⟨x.1,x.2.1.to (hk r (by simp)),Lz x.2.2 (hk t (by simp))⟩
 item:=λi s Q E hi x hQ=>by
  have hit:=x.2.1;rw[show (items.size:Int)-1-(i:Int)=((items.size-1-i:Nat):Int) by lia]at hit;have hx:items[items.size-1-i]?=some (items[items.size-1-i]'(by lia)):=iP (by lia);refine Zpi hit x.2.2 hz hx λh' tk Zmy gU=>?_;rw[show ((items.size-1-i:Nat):Int)-1=(items.size:Int)-1-((i+1:Nat):Int) by lia]at Zmy;exact hQ _ h' tk hx ⟨hi,Zmy,Lz x.2.2 λo eo=>(gU.2 t m5).trans eo⟩ λb o hb eo=>gU.extBut b o (λz=>hb (by simp[z])) eo
 done:=λs Q E x hQ=>by
  have hit:=x.2.1;rw[show (items.size:Int)-1-(items.size:Int) = -1 by lia]at hit;exact Zt9 hh hit λh' he=>hQ h' s.toks λb o hb eo=>he b o (λz=>hb (by simp[z])) eo
 self:=λ_ _ _ _ x hQ=>Zg9 x.2.1 hQ
theorem Zt4{S:Addr}{res:Value}{c₀:Nat}(hh:A.handled=none)(hr:Lu s.heap r t ((items.size:Int)-1))(ht:IsTup s.heap t items)(hz:items.size≤sizeLine)(m5:t≠r)(mS:S≠r)(hSt:S≠t)
  (hS:s.heap.get? S=some { cls:=.type "list",data:=.seq #[] c₀ })
  (hR:∀h' tk acc c,(∀b o,b≠S→b≠r→s.heap.get? b=some o→h'.get? b=some o)→h'.get? S=some { cls:=.type "list",dict:=none,data:=.seq acc c,slots:=#[] }→ItemsOf (λi v=>items[items.size-1-i]?=some v) acc items.size→R (.ok (.ret res)) { s with heap:=h',toks:=tk }) :
  wpAny (model P w) A.in1 (Builtin.List.listExtendWith (.ref S) (.ref r) res) (λfin s'=>match fin with|.done f=>R (.ok f) s'|.again c'=>c'.quiet=true∧codeAny (model P w) A c' R s') (λe s'=>R (.error e) s') s:=by
 have W:=Zjs (P:=P) (w:=w) (A:=A.in1) hh r t m5 items hz
 have eV:S∉[r,t]:=λz=>by
  rcases oX.mp z with z|z
  ·exact mS z
  ·exact hSt (oU.mp z)
 have eJ:Lu s.heap r t ((items.size:Int)-1-((0:Nat):Int)):=by simpa using hr
 have key:∀(h:Heap) (c₁ tk:Nat),(∀b o,b≠S→s.heap.get? b=some o→h.get? b=some o)→h.get? S=some { cls:=.type "list",data:=.seq #[] c₁ }→codeAny (model P w) A (.builtin "list.extend.loop" ⟨[.ref S,.ref r,res],[]⟩) R { s with heap:=h,toks:=tk }:=by
  intro h c₁ tk hk eW;refine VI W.toS hz S eV res items.size 0 _ #[] c₁ rfl (lD _) ⟨lD _,(eJ.to λo e=>hk r o mS.symm e),Lz ht λo e=>hk t o hSt.symm e⟩ eW (ItemsOf.nil _) λs' Zfc c' hm xQ Rn=>?_;rw[Moved.eq_with hm];refine hR s'.heap s'.toks Zfc c' (λb o hb d7 e=>hm.heap b o (λz=>?_) (hk b o hb e)) xQ Rn
  rcases oX.mp z with z|z
  ·exact hb z
  ·exact d7 (oU.mp z)
 unfold Builtin.List.listExtendWith;refine oA (aZ (T:="reversed") hr.typeIs ?_);have h1:Builtin.List.listSameRef (.ref S) (.ref r)=false:=by simp[Builtin.List.listSameRef,mS]
 have h2:(Value.type "reversed"==Value.type "list")=false:=by decide
 have h3:(Value.type "reversed"==Value.type "tuple")=false:=by decide
 simp only[h1,h2,h3,UH,iM,if_false];refine oA (Zg9 hr (oA (iB (Zp0 hr ht hz rfl λb tk=>?_))));refine bC (λ_=>oA (aC (oA ?_))) (λ_=>oD ⟨plainId_quiet aY _,key _ c₀ _ (λb o _ e=>e) hS⟩);show wpAny _ _ (updateSeq S (·.push .none) >>= λ_=>updateSeq S (·.pop)) _ _ _;refine oA (ZQ hS rfl ?_);have z0:=lT (Obj.mapSeq (·.push Value.none)) hS rfl;refine ZQ (hz:=by seq_fits) z0 rfl (oD ⟨plainId_quiet aY _,key _ _ _ (λb o hb e=>?_) (lT (Obj.mapSeq (·.pop)) z0 rfl)⟩);exact(lZ _ _ (iY hb)).trans ((lZ _ _ (iY hb)).trans e)
theorem Zpq(hh:A.handled=none)(hr:Lu s.heap r t ((items.size:Int)-1))(ht:IsTup s.heap t items)(hz:items.size≤sizeLine)(m5:t≠r)
  (hQ:∀h' tk acc c,(∀b o,b≠r→s.heap.get? b=some o→h'.get? b=some o)→h'.get? s.heap.objs.size=some { cls:=.type "list",dict:=none,data:=.seq acc c,slots:=#[] }→ItemsOf (λi v=>items[items.size-1-i]?=some v) acc items.size→Q (.ref s.heap.objs.size) { s with heap:=h',toks:=tk }) :
  wpAny (model P w) A (call (.type "list") [.ref r]) Q E s:=by
 have lr:r<s.heap.objs.size:=let ⟨_,e,_⟩:=hr;oT e
 have lt:t<s.heap.objs.size:=let ⟨_,e,_⟩:=ht;oT e
 refine callType_codes (Q₁:=λobj x6=>obj=.ref s.heap.objs.size∧x6 = { s with heap:=s.heap.push { cls:=.type "list",data:=.seq #[] } }) PySem.F.called_list (PySem.F.typeCall_list_1 _) PySem.F.entry_list_init (code_list_new _ ⟨rfl,rfl⟩) λobj x6 kR=>?_;obtain⟨rfl,rfl⟩:=kR;have hS:(s.heap.push { cls:=.type "list",data:=.seq #[] }).get? s.heap.objs.size=some { cls:=.type "list",data:=.seq #[] }:=oS _ rfl;refine⟨⟨_,hS,rfl⟩,PySem.F.args_list_init_2 _ _,?_⟩;show wpAny _ _ (do let old ←Builtin.List.listItems (.ref s.heap.objs.size);Builtin.List.listUpdate (.ref s.heap.objs.size) (λ_=>#[]);letGo old.toList.reverse;Builtin.List.listExtendWith (.ref s.heap.objs.size) (.ref r) .none) _ _ _;refine oA ?_;unfold Builtin.List.listItems;refine oA (YZ hS rfl (oD ?_));show wpAny _ _ (updateSeq s.heap.objs.size (λ_=>#[]) >>= λ_=>letGo (#[]:Array Value).toList.reverse >>= λ_=>Builtin.List.listExtendWith (.ref s.heap.objs.size) (.ref r) .none) _ _ _;refine oA (ZQ hS rfl (oA (wpAny_letGo ?_)));have z0:=lT (Obj.mapSeq (λ_=>(#[]:Array Value))) hS rfl
 have tF:∀b o,b≠s.heap.objs.size→s.heap.get? b=some o→((s.heap.push { cls:=.type "list",data:=.seq #[] }).update s.heap.objs.size (Obj.mapSeq (λ_=>(#[]:Array Value)))).get? b=some o:=
  λb o hb e=>(lZ _ _ (iY hb)).trans (oE _ e)
 refine Zt4 (A:=A.in1) hh (hr.to λo e=>tF r o (lE lr) e) (Lz ht λo e=>tF t o (lE lt) e) hz m5 (bJ lr) (bJ lt) z0 λh' tk acc c hk xQ Rn=>?_;exact⟨rfl,hQ h' tk acc c (λb o hb e=>hk b o (lE (oT e)) hb (tF b o (lE (oT e)) e)) xQ Rn⟩
end
section
variable {X:Cx}
def Zom(K:W.Frag)(te:TE):TE:=λσ H Q=>te σ H λx H1=>∃a xs,x=.ref a∧SqT K H1 a xs∧∀l,H1 l=none→Q (.ref l) (upd H1 l (.lst xs.reverse))
theorem A9:∀{xs:List V}{us:UX},Vals xs us→Vals xs.reverse us.reverse
 |_,_,.nil=>.nil
 |_,_,.cons h r=>by
  rw[aN,aN];exact(A9 r).append (.cons h .nil)
theorem Zid(hc:X.calm=true)(hg:Gl X "list")(hm:X.mg "list"=none)(uE:Gl X "reversed")(yZ:X.mg "reversed"=none)(he:PE X e te)(hK:X.K=K:=by rfl)
  (h1:starEach [.Call (.Name "reversed" p2) [e] [] Mt] X.env=(false,eval (.Call (.Name "reversed" p2) [e] [] Mt) X.env) :: starEach [] X.env:=by rfl)
  (h2:starEach [e] X.env=(false,eval e X.env) :: starEach [] X.env:=by rfl):PE X (.Call (.Name "list" p) [.Call (.Name "reversed" p2) [e] [] Mt] [] pos) (Zom K te):=by
 subst hK;intro pins s σ H Q I h;refine iI (Vc I hg hm Ar ?_);refine iC ?_ h1 rfl;rw[h1];show wpAny _ _ (spliced ((false,eval _ X.env) :: backTo pos (starEach [] X.env))) _ _ s
 refine aG (iI (Vc I uE yZ Pj (iC (thn (Za he Zb h2 Mt pins s σ H (λvs H1=>match vs with|[x]=>∃a xs,x=.ref a∧SqT X.K H1 a xs∧∀l,H1 l=none→Q (.ref l) (upd H1 l (.lst xs.reverse))|_=>False) I h) λus s1 ⟨vs,H1,I1,r1,q1⟩=>?_) h2 rfl)))
 obtain⟨x0,e0,a,xs,e1,hx,q⟩:∃x0,vs=[x0]∧∃a xs,x0=.ref a∧SqT X.K H1 a xs∧∀l,H1 l=none→Q (.ref l) (upd H1 l (.lst xs.reverse)):=by
  match vs,q1 with
  |[x0],q1=>exact⟨x0,rfl,q1⟩
 subst e0 e1;obtain⟨u,rfl,ru⟩:=Vals.one r1;obtain rfl:u=Value.ref a:=ru;obtain⟨its,r,ht,hz⟩:=I1.tuple hx;have hlen:its.toArray.size=xs.length:=by rw[oO];exact r.length.symm
 refine Zqg ht (by rw[hlen];exact hz) λtk=>ZW ?_;have la:a<s1.heap.objs.size:=let ⟨_,e,_⟩:=ht;oT e
 refine Zpq (r:=s1.heap.objs.size) (I1.ok.hd hc) ⟨_,oS _ rfl,rfl,rfl⟩ (Lz ht λo e=>oE _ e) (by rw[hlen];exact hz) (lE la) λh' mG acc c kp hD Rn=>?_;have uX:∀b o,s1.heap.get? b=some o→h'.get? b=some o:=λb o e=>kp b o (lE (oT e)) (oE _ e)
 have hv:acc.toList=its.reverse:=by
  refine WS ?_ λi a1 a2=>?_
  ·rw[lJ,Rn.1,iW,oO]
  ·have:=Rn.2 i acc.toList[i] (by rw[←lL];exact oC a1);rw[oO,WV]at this;rw[List.getElem_reverse];have hl:its.length-1-i<its.length:=by rw[iW]at a2;lia
   rw[oC hl]at this;exact(Option.some.inj this).symm
 have le:s1.heap.objs.size≤(s1.heap.push (rvO a ((its.toArray.size:Int)-1))).objs.size:=by rw[bB];exact cY _
 refine⟨.ref (s1.heap.push (rvO a ((its.toArray.size:Int)-1))).objs.size,_,I1.laid (t':=mG) uX le (show Yy X.prog X.w _ h' _ (.lst xs.reverse) from⟨by rw[iW];exact hz,acc.toList,c,by rw[hv];exact A9 r,by rw[Array.toArray_toList];exact hD⟩),rfl,q _ (I1.hok.fresh le)⟩
inductive Zrb(K:W.Frag)(x:V)(lo:SH)(hi:SH)(H:Hp)(Q:VK):Prop
 |mk(a xs:_)(h1:x=.ref a)(h2:SqT K H a xs)(h3:(HT.sIx xs.length 0 lo=0∧HT.sIx xs.length xs.length hi=xs.length))(h4:Q (.ref a) H):Zrb K x lo hi H Q
def rSlW(K:W.Frag):V→Option Int→Option Int→Hp→VK→Prop:=λx lo hi H Q=>Zrb K x lo hi H Q
theorem Zos(hK:X.K=K:=by rfl):SlR X (rSlW K):=by
 subst hK;intro pins s σ H x v vl vu lo hi sl Q I rx hs pl pu h;obtain⟨a,xs,rfl,hx,hw,q⟩:=h;cases rx;obtain⟨its,r,ht,hz⟩:=I.tuple hx;have hlen:its.toArray.size=xs.length:=by rw[oO];exact r.length.symm
 refine⟨"tuple",_,bH.lookup,ht.typeIs,?_⟩;obtain⟨os,kF,i5,yR⟩:=id hs;have nZ:s.TypeIs (.ref sl) "slice":=⟨os,kF,i5⟩;unfold getItem
 try with_reducible refine iB ?_
 first|refine oA (oD ?_)|skip
 refine oA (wpAny_sequenceKey ht.typeIs (by decide) (oA (lR (name:=Str.ofString "__getitem__") ht.typeIs bH (lP bH ht.typeIs entry_tuple_getitem ?_ (args_tuple_getitem _ _)))));refine(show wpAny _ _ (Builtin.Tuple.tupleItemsOf (.ref a) >>= _) _ _ s from oA (tupleItemsOf_ ht (oA (aZ nZ ?_))));rw[if_pos (by decide)];refine oA (HT.Su hs pl pu ?_)
 have yes:(((HT.sIx its.toArray.size 0 lo:Nat):Int)==0&&(1:Int)==1&&(HT.sIx its.toArray.size its.toArray.size hi-HT.sIx its.toArray.size 0 lo)==its.toArray.size)=true:=by
  rw[hlen,hw.1,hw.2];simp
 show wpAny _ _ (if (((HT.sIx its.toArray.size 0 lo:Nat):Int)==0&&(1:Int)==1&&(HT.sIx its.toArray.size its.toArray.size hi-HT.sIx its.toArray.size 0 lo)==its.toArray.size)=true then _ else _) _ _ s;rw[if_pos yes];unfold Builtin.Tuple.tupleIsExact;refine oA (oA (aZ ht.typeIs (oD ?_)));rw[if_pos (by decide)];exact oA (aC (oD ⟨_,rfl,oD ⟨.ref a,H,I,rfl,q⟩⟩))
inductive Zrf(x:V)(lo:SH)(hi:SH)(H:Hp)(Q:VK):Prop
 |mk(a xs:_)(h1:x=.ref a)(h2:H a=some (.tup xs))(h3:∀g H',Zl H H'→H' g=some (.tup (Pc xs lo hi))→Q (.ref g) H'):Zrf x lo hi H Q
def rSlG(K:W.Frag):V→Option Int→Option Int→Hp→VK→Prop:=λx lo hi H Q=>Zrf x lo hi H Q
theorem Zot(hK:X.K=K:=by rfl):SlR X (rSlG K):=by
 intro pins s σ H x v vl vu lo hi sl Q I rx hs pl pu h;obtain⟨a,xs,e,hx,q⟩:=h
 by_cases z:HT.sIx xs.length 0 lo=0∧HT.sIx xs.length xs.length hi=xs.length
 ·refine Zos hK pins s σ H x v vl vu lo hi sl Q I rx hs pl pu ⟨a,xs,e,SqT.of hx,z,q a H (Zl.refl _) ?_⟩
  have:Pc xs lo hi=xs:=by
   unfold Pc;rw[z.1,z.2,XU,UO,lM]
  rw[this];exact hx
 ·exact Zgf hK pins s σ H x v vl vu lo hi sl Q I rx hs pl pu ⟨a,xs,e,SqT.of hx,z,λp hp=>q p _ (Zf hp _) Zc⟩
def DKn(P:Program)(w:World)(K:W.Frag)(a:Addr)(kvs:List (Key×V)):Prop:=∃o vs,K.lookup a=some o∧o.IsDictOf (Z8 P w) vs∧KV kvs vs
def Zsj(P:Program)(w:World)(K:W.Frag)(td ty:TE):TE:=λσ H Q=>td σ H λx H1=>ty σ H1 λy H2=>∃a kvs k v,x=.ref a∧y=kV k∧DKn P w K a kvs∧Yz kvs k=some v∧Q v H2
theorem Zbk{o i:Expr}(ho:PE X o td)(hi:PE X i ty)(hs:Zuv i)(hK:X.K=K:=by rfl):PE X (.Subscript o i pos) (Zsj X.prog X.w K td ty):=by
 subst hK;intro pins s σ H Q I h;refine Zfw PySem.F.slot_dict_getitem.lookup hs (thn (ho pins s σ H _ I h) λu s1 ⟨x,H1,I1,rx,q1⟩=>thn (hi pins s1 σ H1 _ I1 q1) λiv s2 ⟨y,H2,I2,ry,a,kvs,k,v,ex,ey,⟨ob,vs,hk,hd,rel⟩,l,q2⟩=>?_);subst ex ey;obtain rfl:u=Value.ref a:=rx;have dd:s2.heap.DictOf (Z8 X.prog X.w) a vs:=Heap.dictOf_iff.mpr ⟨ob,I2.kIn a ob hk,hd⟩;obtain⟨w',hw,o7⟩:=Kp.some_of (v:=v) (o:=valueAt vs k) (by rw[←l];exact rel.val k);exact⟨dd.typeIs,wpAny_getItem_of (Gh ry) dd.mapOf hw ⟨v,H2,I2.tok _,o7,q2⟩⟩
end
def Itv(K:W.Frag)(a:Addr)(n:Nat):It:=
 ⟨λi H=>i<n∧∃xs x,SqL K H a xs∧xs.length=n∧xs[n-1-i]?=some x,λi H x H'=>H'=H∧∀xs,SqL K H a xs→xs[n-1-i]?=some x,λi _=>i=n⟩
theorem Zj0(a it:Addr)(n:Nat):Turn P w K tg (Itv K a n) [it] it (λi h=>h.IsRevIter it a ((n:Int)-1-(i:Int))) where
 mem:=by simp
 obj:=λi h st b hb=>by
  have e:b=it:=by simpa using hb
  subst e;obtain⟨o,e,c,d⟩:=st;exact⟨o,e,λv z=>by rw[d]at z;cases z⟩
 keep:=λi h h' st k=>st.at λo e=>k it (by simp) o e
 item:=by
  intro X hP hw hK hc i pins s σ H E I hf st hg;subst hP hw hK;obtain⟨hi,xs,x,hq,hn,hx⟩:=hg;obtain⟨its,rv,p,hz⟩:=I.list hq;obtain⟨u,hu,ru⟩:=rv.get hx;obtain⟨f0,f1,f2,f3,f4,f5⟩:=hf it (by simp);rw[show (n:Int)-1-(i:Int)=((n-1-i:Nat):Int) by lia]at st;refine wpAny_pyNext_rev_item st p.isList (x:=u) (by simpa using hu) λh' m8 sb=>?_;rw[show ((n-1-i:Nat):Int)-1=(n:Int)-1-((i+1:Nat):Int) by lia]at m8
  have I1:Inv X pins σ H { s with heap:=h' }:=I.turned (t':=s.toks) (λb o hb e=>(sb.2 b hb).trans e) f0 f1 f3 f4 f5;obtain⟨o,e,c,d⟩:=id m8
  exact⟨u,rfl,Gp (s:={ s with heap:=h' }) e c d (by decide) ⟨x,H,I1,ru,⟨rfl,λys hy=>by rw[I.Ge hy hq];exact hx⟩,m8,λb hb=>(hf b hb).1⟩⟩
 done:=by
  intro X hP hw hK hc i pins s σ H E I hf st hg;subst hP hw hK;obtain rfl:i=n:=hg;obtain⟨f0,f1,f2,f3,f4,f5⟩:=hf it (by simp);rw[show (i:Int)-1-(i:Int) = -1 by lia]at st;exact wpAny_pyNext_rev_end (I.ok.hd hc) st λh' eb=>⟨rfl,I.turned (t':=s.toks) (λb o hb e=>eb b o hb e) f0 f1 f3 f4 f5⟩
 self:=λ_ _ _ _ _ st h=>wpAny_pyIter_revIter st h
section
variable {X:Cx}{tg:Expr}
def iRev(K:W.Frag)(te:TE):TI:=λσ H R=>te σ H λx H1=>∃a xs,x=.ref a∧SqL K H1 a xs∧R (Itv K a xs.length) H1
theorem Zlc(hg:Gl X "reversed")(hm:X.mg "reversed"=none)(he:PE X e te)(hK:X.K=K:=by rfl)
  (h2:starEach [e] X.env=(false,eval e X.env) :: starEach [] X.env:=by rfl):PI X tg (.Call (.Name "reversed" p) [e] [] pos) (iRev K te):=by
 subst hK;intro pins s σ H R I h
 refine iI (Vc I hg hm Pj (iC (thn (Za he Zb h2 pos pins s σ H (λvs H1=>match vs with|[x]=>∃a xs,x=.ref a∧SqL X.K H1 a xs∧R (Itv X.K a xs.length) H1|_=>False) I h) λus s1 ⟨vs,H1,I1,r1,q1⟩=>?_) h2 rfl))
 obtain⟨x0,e0,a,xs,e1,hx,q⟩:∃x0,vs=[x0]∧∃a xs,x0=.ref a∧SqL X.K H1 a xs∧R (Itv X.K a xs.length) H1:=by
  match vs,q1 with
  |[x0],q1=>exact⟨x0,rfl,q1⟩
 subst e0 e1;obtain⟨u,rfl,ru⟩:=Vals.one r1;obtain rfl:u=Value.ref a:=ru;obtain⟨its,rv,pl,hz⟩:=I1.list hx;have hl:its.toArray.size=xs.length:=by rw[oO];exact rv.length.symm
 refine call_reversed_list pl.isList ?_
 have st:(s1.heap.push (revObj a ((its.toArray.size:Int)-1))).IsRevIter s1.heap.objs.size a ((xs.length:Int)-1-((0:Nat):Int)):=by
  rw[hl];exact⟨_,oS _ rfl,rfl,by simp[revObj]⟩
 refine wpAny_pyIter_revIter (i:=(xs.length:Int)-1-((0:Nat):Int)) st ⟨s1.heap.objs.size,[s1.heap.objs.size],_,_,H1,rfl,I1.kept (t':=s1.toks) λb o e=>oE _ e,Zj0 a _ xs.length,st,λb hb=>?_,q⟩;have e:b=s1.heap.objs.size:=by simpa using hb
 subst e;exact I1.Lm (oG _) (I1.hok.fresh (oG _))
end
theorem Zhg(Pv:Nat→St→Hp→Prop)(h0:Pv 0 σ H)(hl:∀i σ H,i≤xs.length→Pv i σ H→SqL K H a xs)
  (hs:∀i x σ H,i<xs.length→xs[xs.length-1-i]?=some x→Pv i σ H→g x σ H λy4 H2=>tb { D with nx:=Pv (i+1),ct:=Pv (i+1),bk:=D.nx } y4 H2) (hd:∀σ H,Pv xs.length σ H→D.nx σ H) :
  ∃W:Nat→Nat→St→Hp→Prop,(∃m,W 0 m σ H)∧∀i m σ H,W i m σ H→
   ((Itv K a xs.length).stop i H∧D.nx σ H)∨((Itv K a xs.length).go i H∧∃N:St→Hp→Prop,(∀x8 H',N x8 H'→∃m',m'<m∧W (i+1) m' x8 H')∧∀x H',(Itv K a xs.length).yld i H x H'→g x σ H' λy4 H2=>tb { D with nx:=N,ct:=N,bk:=D.nx } y4 H2):=by
 refine⟨λi m σ H=>m=xs.length-i∧i≤xs.length∧Pv i σ H,⟨xs.length,by simp,lD _,h0⟩,?_⟩;rintro i m σ H ⟨rfl,hi,p⟩;have q:=hl i σ H hi p
 by_cases x9:i<xs.length
 ·have hx:xs[xs.length-1-i]?=some (xs[xs.length-1-i]'(by lia)):=oC (by lia);refine .inr ⟨⟨x9,xs,_,q,rfl,hx⟩,Pv (i+1),λx8 H' p'=>⟨xs.length-(i+1),by lia,rfl,x9,p'⟩,λx H' y=>?_⟩;obtain⟨e,y⟩:=y;subst e;exact hs i x σ _ x9 (y xs q) p
 ·have e:i=xs.length:=by lia
  subst e;exact .inl ⟨rfl,hd σ H p⟩
def FnO(f:Addr)(fd:FuncData):HO:=.ext λh=>h.get? f=some { cls:=.type "function",data:=.func fd }
def CdO(c:Addr)(q:Str):HO:=.ext λh=>h.CodeRec (.ref c) q
section
variable {P:Program}{w:World}{H:Hp}{h h':Heap}{f c a:Addr}{fd:FuncData}{q:Str}
theorem Zer(e:h.get? f=some { cls:=.type "function",data:=.func fd }):Yy P w H h f (FnO f fd):=⟨e,⟨_,e⟩,λ_ _ a k=>k _ a⟩
theorem Zud(e:h.CodeRec (.ref c) q):Yy P w H h c (CdO c q):=by
 have e':=e;obtain⟨c2,o,vs,t,e1,e2,e3,e4⟩:=e';cases e1;refine⟨e,⟨o,e2⟩,λh1 h2 a k=>?_⟩;obtain⟨c3,o3,vs3,t3,f1,f2,f3,f4⟩:=a;cases f1;exact⟨_,o3,vs3,t3,rfl,k _ f2,f3,f4⟩
theorem FnO.at_(ok:HOk P w H h)(e:H f=some (FnO f fd)):h.get? f=some { cls:=.type "function",data:=.func fd }:=(ok f _ e).1
theorem CdO.at_(ok:HOk P w H h)(e:H c=some (CdO c q)):h.CodeRec (.ref c) q:=(ok c _ e).1
end
theorem Zjg{r:UX}(l:UX)(h:TriplesOk l):codeAmong p (l++r)=match codeAmong p l with|some c=>some c|none=>codeAmong p r:=by
 fun_induction TriplesOk l with
 |case1=>rfl
 |case2 a t b u x rest ih=>
  simp only[List.cons_append,codeAmong]
  split
  ·rfl
  ·exact ih h
 |case3 l h1 h2=>exact h.elim
def Ve(P:Addr)(H H':Hp):Prop:=∀b o,b≠P→H b=some o→H' b=some o
theorem Ve.trans{P:Addr}(a:Ve P H H1)(b:Ve P H1 H2):Ve P H H2:=λc o n h=>b c o n (a c o n h)
theorem Zl.t{P:Addr}(a:Zl H H1):Ve P H H1:=λc o _ h=>a c o h
def Tb(P:Addr)(L:List TQ)(H:Hp):Prop:=
 ∃ps,H P=some (.tbl ps)∧TriplesOk ps.toList∧∀x∈L,codeAmong x.1 ps.toList=none∨∃c,codeAmong x.1 ps.toList=some (.ref c)∧H c=some (CdO c x.2)
theorem Tb.same{P:Addr}{L:List TQ}(t:Tb P L H)(e:Zl H H'):Tb P L H':=by
 obtain⟨ps,h1,h2,h3⟩:=t;refine⟨ps,e _ _ h1,h2,λx hx=>?_⟩
 rcases h3 x hx with h|⟨c,a,b⟩
 ·exact .inl h
 ·exact .inr ⟨c,a,e _ _ b⟩
theorem Tb.start{P:Addr}{L:List TQ}(h:H P=some (.tbl #[])):Tb P L H:=⟨#[],h,True.intro,λ_ _=>.inl rfl⟩
section
variable {fs ex:SM}{H:Hp}{h h':Heap}{P c f:Addr}{o1 o2:HO}{ps more:TH}
def made(H:Hp)(P c f:Addr)(ps:TH)(o1 o2:HO):Hp:=upd (upd (upd H P (.tbl ps)) c o1) f o2
theorem Uj(h1:b≠P)(h2:b≠c)(h3:b≠f):made H P c f ps o1 o2 b=H b:=by
 unfold made;rw[Zk h3,Zk h2,Zk h1]
theorem Zme:made H P c f ps o1 o2 f=some o2:=Zc
theorem Zd9(n:c≠f):made H P c f ps o1 o2 c=some o1:=by
 unfold made;rw[Zk n,Zc]
theorem Zea(n1:P≠c)(n2:P≠f):made H P c f ps o1 o2 P=some (.tbl ps):=by
 unfold made;rw[Zk n2,Zk n1,Zc]
theorem Un.made(e:H P=some (.tbl ps))(k:∀b u,b≠P→h.get? b=some u→h'.get? b=some u)(hP:∃u,h'.get? P=some u)(hc:h.objs.size≤c)(hf:h.objs.size≤f)(nc:H c=none)(nf:H f=none):
  Un fs ex H (made H P c f (ps++more) o1 o2) h h':=by
 have nP:∀b,H b=none→b≠P:=λb n z=>by rw[z,e]at n;cases n
 have lo:∀{b:Addr}{u:Obj},h.get? b=some u→b≠c∧b≠f:=λ{b u} q=>⟨lE (oZ (oT q) hc),lE (oZ (oT q) hf)⟩;refine⟨λb u q n _ _=>k b u (nP b n) q,λb u q n _ _=>⟨u.slots,k b u (nP b n) q⟩,λb u q n _=>by rw[Uj (nP b n) (lo q).1 (lo q).2];exact n,λb u q _=>?_,λb xs q=>?_,λb u xs q=>?_,λb ps' q=>?_⟩
 ·by_cases hb:b=P
  ·rw[hb];exact hP
  ·exact⟨u,k b u hb q⟩
 ·rw[Uj (λz=>by rw[z,e]at q;cases q) (Zi q nc) (Zi q nf)];exact q
 ·rw[Uj (λz=>by rw[z,e]at q;cases q) (Zi q nc) (Zi q nf)];exact q
 ·by_cases hb:b=P
  ·subst hb;rw[e]at q;cases q;exact⟨more,Zea (Zi e nc) (Zi e nf)⟩
  ·exact⟨#[],by rw[Uj hb (Zi q nc) (Zi q nf),q];simp⟩
theorem HOk.made{Pg:Program}(ok:HOk Pg w H h)(e:H P=some (.tbl ps))(k:∀b u,b≠P→h.get? b=some u→h'.get? b=some u)(hP:h'.get? P=some (W.tabObj (ps++more)))(nc:H c=none)(nf:H f=none)(vI:c≠f)
  (hc:Yy Pg w (made H P c f (ps++more) o1 o2) h' c o1) (hf:Yy Pg w (made H P c f (ps++more) o1 o2) h' f o2):HOk Pg w (made H P c f (ps++more) o1 o2) h':=λb u q=>by
 by_cases b1:b=f
 ·subst b1;rw[Zme]at q;cases q;exact hf
 by_cases b2:b=c
 ·subst b2;rw[Zd9 vI]at q;cases q;exact hc
 by_cases b3:b=P
 ·subst b3;rw[Zea b2 b1]at q;cases q;exact hP
 rw[Uj b3 b2 b1]at q;refine(ok b u q).Ir (λy v hy r=>k y v ?_ r) (λy r=>?_) λy xs r=>?_
 ·rcases hy with z|z
  ·rw[z];exact b3
  ·intro z2;rw[z2,e]at z;cases z
 ·rw[Uj (λz=>by rw[z,e]at r;cases r) (Zi r nc) (Zi r nf)];exact r
 ·rw[Uj (λz=>by rw[z,e]at r;cases r) (Zi r nc) (Zi r nf)];exact r
end
def Qd(mg:UW)(h:Heap):Prop:=∃bm ob,mg "__builtins__"=some (.ref bm)∧bm≠builtinsNs∧h.get? bm=some ob∧ob.cls=.type "module"∧ob.dict=some builtinsNs∧ob.data=.plain
theorem Qd.keeps(b:Qd mg h)(k:∀b o,h.get? b=some o→h'.get? b=some o):Qd mg h':=
 let ⟨bm,ob,h1,h2,h3,r⟩:=b;⟨bm,ob,h1,h2,k _ _ h3,r⟩
theorem Qd.at_{P:Addr}{ps:TH}(b:Qd mg h)(g:h.Ns mainGlobals mg)(e:h.get? P=some (W.tabObj ps)):h.BuiltinsAt mg P:=by
 obtain⟨bm,ob,h1,h2,h3,h4,h5,h6⟩:=b;refine⟨bm,ob,h1,h2,λz=>?_,λz=>?_,h3,h4,h5,h6⟩
 ·obtain⟨o,es,ep,e2,hd,_⟩:=g;rw[z,e2]at h3;cases h3;rw[hd]at h6;cases h6
 ·rw[z,e]at h3;cases h3;cases h4
theorem Zrt{h:Heap}{P:Addr}{ps:TH}(g:h.Ns mainGlobals mg)(e:h.get? P=some (W.tabObj ps)):mainGlobals≠P:=λz=>by
 obtain⟨o,es,ep,e2,hd,_⟩:=g;rw[z,e]at e2;cases e2;cases hd
def tLam(P:Addr)(L:List TQ)(fdOf:Addr→Value→FuncData)(q:Str):TE:=λ_ H Q=>Tb P L H∧
 ∀H' f c ct,Ve P H H'→Tb P L H'→H f=none→H' f=some (FnO f (fdOf c ct))→H' c=some (CdO c q)→Q (.ref f) H'
section
variable {X:Cx}{params:Arguments}{body:Expr}{scope:Scope}{pos:Pos}{c P:Addr}{L:List TQ}
theorem Zg2{q:Str}{fdOf:Addr→Value→FuncData}{Q:VK}{ps:TH}(I:Inv X pins σ H s)(hP:H P=some (.tbl ps))(ht:TriplesOk ps.toList)
  (hT:∀x∈L,codeAmong x.1 ps.toList=none∨∃c,codeAmong x.1 ps.toList=some (.ref c)∧H c=some (CdO c x.2)) (hu:∀x∈L,x.1.line=pos.line→x.1.col=pos.col→x.2=q)
  (hq:∀H' f c ct,Ve P H H'→Tb P L H'→H f=none→H' f=some (FnO f (fdOf c ct))→H' c=some (CdO c q)→Q (.ref f) H') (hn:codeAmong pos ps.toList=none)
  {c':Addr}{eC:Value}{tk:Tok} (hx:Heap.ExtBut P s.heap h') (j3:s.heap.objs.size≤c') (x9:c'<h'.objs.size) (Zmt:h'.CodeRec (.ref c') q)
  (gW:h'.get? P=some (W.tabObj (ps ++ #[rawInt pos.line,rawInt pos.col,.ref c']))) :
  EP X pins σ Q (.ref h'.objs.size) { s with heap:=h'.push { cls:=.type "function",data:=.func (fdOf c' eC) },toks:=tk }:=by
 have hsz:s.heap.objs.size≤h'.objs.size:=ZI (bK j3 x9);have nc:H c'=none:=I.hok.fresh j3;have nf:H h'.objs.size=none:=I.hok.fresh hsz;have vI:c'≠h'.objs.size:=lE x9;have k:∀b u,b≠P→s.heap.get? b=some u→(h'.push { cls:=.type "function",data:=.func (fdOf c' eC) }).get? b=some u:=λb u hb e=>oE _ (hx b u hb e);have hPc:P≠c':=Zi hP nc;have hPf:P≠h'.objs.size:=Zi hP nf
 refine⟨.ref h'.objs.size,L2.made H P c' h'.objs.size (ps ++ #[rawInt pos.line,rawInt pos.col,.ref c']) (CdO c' q) (FnO h'.objs.size (fdOf c' eC)),
  I.un (t':=tk) (Un.made hP k ⟨_,oE _ gW⟩ j3 hsz nc nf) (HOk.made I.hok hP k (oE _ gW) nc nf vI (Zud (Zmt.push _)) (Zer (oS _ rfl))),rfl,?_⟩
 refine hq _ _ c' eC (λb o hb e=>by rw[Uj hb (Zi e nc) (Zi e nf)];exact e) ⟨_,Zea hPc hPf,?_,λx jC=>?_⟩ nf Zme (Zd9 vI)
 ·rw[YK];exact TriplesOk_snoc _ _ _ _ ht
 ·rw[YK,Zjg _ ht]
  rcases hT x jC with hh|⟨c2,e1,e2⟩
  ·rw[hh];show codeAmong x.1 [rawInt pos.line,rawInt pos.col,.ref c']=none∨_
   by_cases hp:x.1.line=pos.line∧x.1.col=pos.col
   ·refine .inr ⟨c',?_,?_⟩
    ·simp[codeAmong,rawInt,hp.1,hp.2]
    ·rw[hu x jC hp.1 hp.2];exact Zd9 vI
   ·left;have:¬ ((pos.line=x.1.line)∧(pos.col=x.1.col)):=λz=>hp ⟨z.1.symm,z.2.symm⟩;simp only[codeAmong,rawInt];rw[if_neg]
    ·rw[lQ,beq_iff_eq,beq_iff_eq];rintro⟨z1,z2⟩;exact this ⟨by lia,by lia⟩
  ·rw[e1];refine .inr ⟨c2,rfl,?_⟩;rw[Uj (λz=>by rw[z,hP]at e2;cases e2) (Zi e2 nc) (Zi e2 nf)];exact e2
theorem Zdx(Vt:X.env.code=.ref c)(C:W.CodeHd X.base c P)(hB:Qd X.mg X.base)(hL:(pos,X.env.qual++"<lambda>")∈L)(hu:∀x∈L,x.1.line=pos.line→x.1.col=pos.col→x.2=X.env.qual++"<lambda>")
  (pS:defaultsOf params X.env=([],[]):=by rfl) {sc:Scope} (eK:X.env.scope=sc:=by rfl) (xW:∀y∈scope.names,y.2=NameKind.free→sc.names.lookup y.1=some .cell∨sc.names.lookup y.1=some .free:=by decide +kernel) :
  PE X (.Lambda params body scope pos) (tLam P L (λc ct=>W.kla_fn "<lambda>" (X.env.qual++"<lambda>") params body scope (U8 X.env scope.names []) ((X.mg "__name__").getD .none) (.ref c) ct) (X.env.qual++"<lambda>")):=by
 intro pins s σ H Q I ⟨⟨ps,hP,ht,hT⟩,hq⟩;have sP:s.heap.get? P=some (W.tabObj ps):=I.hok P _ hP;have hg:=I.mod.glob.keeps I.bk;have hb:=(hB.keeps I.bk).at_ hg sP;have z4:∀y∈scope.names,y.2=NameKind.free→∃c,X.env.cells.lookup y.1=some c:=λy hy e=>I.ok.has y.1 (by subst eK;exact xW y hy e);refine W.kla_eval pS ?_
 rcases hT _ hL with hn|⟨c2,hc,u7⟩
 ·refine W.kla_makeFunction (mg:=X.mg) (U7 z4) I.ok.glob hg Vt (C.keeps I.bk) sP ht hn (Zrt hg sP) hb λc' eC h' tk hx j3 x9 Zmt gW=>?_;exact Zg2 (fdOf:=λc ct=>W.kla_fn "<lambda>" (X.env.qual++"<lambda>") params body scope (U8 X.env scope.names []) ((X.mg "__name__").getD .none) (.ref c) ct) I hP ht hT hu hq hn hx j3 x9 Zmt gW
 ·refine W.kla_makeFunctionHit (mg:=X.mg) (U7 z4) I.ok.glob hg Vt (C.keeps I.bk) sP ht hc hb λeC h' tk hk hsz=>?_;have nf:H h'.objs.size=none:=I.hok.fresh hsz;refine⟨.ref h'.objs.size,_,I.laid (t':=tk) (λb u e=>oE _ (hk b u e)) hsz (Zer (oS _ rfl)),rfl,?_⟩;have e0:Zl H (upd H h'.objs.size (FnO h'.objs.size (W.kla_fn "<lambda>" (X.env.qual++"<lambda>") params body scope (U8 X.env scope.names []) ((X.mg "__name__").getD .none) (.ref c2) eC))):=λb o e=>by rw[Zk (Zi e nf)];exact e
  exact hq _ _ c2 eC e0.t (Tb.same ⟨ps,hP,ht,hT⟩ e0) nf Zc (e0 _ _ u7)
end
def Zsk(i:Nat)(f:Addr)(fd:FuncData)(sp:Sp)(t:TA):TE:=λσ H Q=>σ[i]?=some (some (.ref f))∧H f=some (FnO f fd)∧t σ H λvs H1=>H1 f=some (FnO f fd)∧sp vs H1 Q E0
theorem U0{k:Nat}{t:TA}(F:Ya X.prog X.w X.K X.mg X.base CX0 k f fd ps sp)(hr:Vn k X.A)(hb:Binds X.K fd ps [])
  (ha:PA X (e :: es) t) (hN:X.N[i]?=some x:=by rfl) (hv:Vis X.env.scope x:=by first|exact Or.inl rfl|exact Or.inr (Or.inl rfl)|exact Or.inr (Or.inr rfl)) (hd:(x==("__debug__" : Str))=false:=by decide) (u7:(x==("__classdict__" : Str))=false:=by decide)
  (he:starEach (e :: es) X.env=(false,eval e X.env) :: starEach es X.env:=by rfl) (y0:(backTo pos (starEach es X.env)).any (·.1)=false:=by rfl):PE X (.Call (.Name x p) (e :: es) [] pos) (Zsk i f fd sp t):=by
 intro pins s σ H Q I ⟨hs,hf,h⟩;refine iI (thn (Zlg hN hv hd u7 pins s σ H (λv H1=>v=.ref f∧H1=H) I ⟨_,hs,rfl,rfl⟩) λu s1 ⟨v,H1,I1,r,q⟩=>?_);obtain⟨rfl,rfl⟩:=q;obtain rfl:u=Value.ref f:=r;refine W.callWith_F ⟨_,_,_,_,FnO.at_ I1.hok hf⟩ (thn (ha pos pins s1 σ H1 _ I1 h) λus s2 ⟨vs,H2,I2,r2,q1,q2⟩=>⟨⟨_,_,_,_,FnO.at_ I2.hok q1⟩,?_⟩) he y0;exact Zku F hr hb .nil Zro I2 r2 (by rw[aB];exact q2)
structure Zoe(N ps:List Str)(scope:Scope):Prop where
 kind:scope.kind=.function
 co:scope.isCoroutine=false
 gen:scope.isGenerator=false
 nd:N.Nodup
 pre:N.take ps.length=ps
 par:∀x∈ps,scope.names.lookup x=some .local
 Kf:∀y∈scope.names,y.2≠.cell
structure Fe(base:Heap)(N ps:List Str)(scope:Scope)(cl:List SI)(fv:List V):Prop where
 inj:∀x y c,cl.lookup x=some c→cl.lookup y=some c→x=y
 has:∀x,scope.names.lookup x=some .free→∃c,cl.lookup x=some c
 cell:∀x c,cl.lookup x=some c→∃v,base.IsCell c v
 len:N.length=ps.length+fv.length
 val:∀(j:Nat) x v,N[ps.length+j]?=some x→fv[j]?=some v→scope.names.lookup x=some .free∧∃c u,cl.lookup x=some c∧RelV v u∧base.IsCell c (some u)
theorem Fe.none(h:∀x,scope.names.lookup x≠some .free):Fe base N N scope [] []:=
 ⟨λ_ _ _ h=>by simp at h,λx hx=>absurd hx (h x),λ_ _ h=>by simp at h,by simp,λj x v _ h=>by simp at h⟩
def D6(P:Program)(w:World)(K:W.Frag)(mg:UW)(base:Heap)(N:List Str)(qual:Str)(scope:Scope)(f:Addr)(cd:Value)(cl:List SI)(A:Around)(outer:List Env)(s:Shared)(H:Hp):Cx where
 prog:=P
 w:=w
 K:=K
 mg:=mg
 base:=base
 A:=A.deeper (W.envX qual scope s.heap.objs.size f cd cl)
 N:=N
 s₀:=s
 H₀:=H
 env:=W.envX qual scope s.heap.objs.size f cd cl
 outer:=outer
 stack:=W.envX qual scope s.heap.objs.size f cd cl :: outer
 ex:=[]
 calm:=true
 fn:=λ_=>false
 pn:=[]
 xe:=λ_ _=>False
theorem Hi:∀{ps:List Str}{us:UX}{i:Nat}{y:Str}{u:Value},ps.Nodup→ps[i]?=some y→us[i]?=some u→((ps.zip us).reverse).lookup y=some u
 |[],_,_,_,_,_,h,_=>by simp at h
 |_ :: _,[],_,_,_,_,_,h=>by simp at h
 |p :: ps,u0 :: us,0,y,u,nd,h1,h2=>by
  simp at h1 h2;subst h1;subst h2;rw[List.zip_cons_cons,aN]
  have hn:((ps.zip us).reverse).lookup p=none:=by
   rw[List.lookup_eq_none_iff];rintro⟨a,b⟩ hm;have:=(ZM (List.mem_reverse.mp hm)).1;have ne:a≠p:=λz=>(iJ.mp nd).1 (z▸this);simpa using λz=>ne z.symm
  rw[List.lookup_append,hn];simp[List.lookup]
 |p :: ps,u0 :: us,i+1,y,u,nd,h1,h2=>by
  rw[List.zip_cons_cons,aN,List.lookup_append,Hi (i:=i) (iJ.mp nd).2 (by simpa using h1) (by simpa using h2)];rfl
theorem Zhb{cd:Value}{cl:List SI}{outer:List Env}{vs:List V}{h1:Heap}{tk:Tok}
  (S:Zoe N ps scope) (LC:Fe base N ps scope cl fv) (hd:A.handled=none) (e0:Zfh P w K mg base A outer s H) (hl:vs.length=ps.length) (r:Vals vs us)
  (u3:h1.Ns s.heap.objs.size (λx=>(ps.zip us).reverse.lookup x)) (hk:∀b o,s.heap.get? b=some o→h1.get? b=some o) :
  Inv (D6 P w K mg base N qual scope f cd cl A outer s H) [] (vs.map some++fv.map some) H { s with heap:=h1,toks:=tk }:=by
 have eM:∀b:Addr,b∉(D6 P w K mg base N qual scope f cd cl A outer s H).ex:=λb z=>absurd (show b∈([]:List Addr) from z) (by simp);have bk:∀b o,base.get? b=some o→h1.get? b=some o:=λb o e=>hk b o (e0.bs b o e).1;have jE:ps.Nodup:=by rw[←S.pre];exact S.nd.sublist (List.take_sublist _ _)
 have cellK:∀{c:Addr}{v:Option Value},base.IsCell c v→h1.IsCell c v:=λ⟨o,e,d⟩=>⟨o,bk _ _ e,d⟩
 refine⟨⟨e0.mod,S.kind,rfl,rfl,oG _,λy z c h1 h2=>LC.inj y z c h1 h2,λy hy=>?_,λy c z _=>(by cases z),λ_=>hd,Around.frames_deeper e0.frames,.inr ⟨rfl,rfl⟩,λb z=>absurd z (eM b),e0.bs,e0.bsz,λb _ _=>eM b,λb z=>absurd z (eM b),e0.Kl,e0.frf⟩,
  rfl,e0.bare,Un.kept hk,⟨_,u3,λi y v h1 h2 h3=>?_⟩,λy c h=>?_,e0.hok.fresh (oG _),λy c h=>?_,λp hp=>absurd (show p∈([]:List UT) from hp) (by simp),e0.hok.kept hk,?_⟩
 ·have hy:scope.names.lookup y=some .cell∨scope.names.lookup y=some .free:=hy
  rcases hy with hy|hy
  ·exact absurd rfl (S.Kf _ (iK hy))
  ·exact LC.has y hy
 ·have h1:N[i]?=some y:=h1
  by_cases hi:i<vs.length
  ·have ha:vs[i]?=some v:=by
    rw[lB (by simpa using hi),oH]at h2
    cases e:vs[i]? with
    |none=>rw[e]at h2;cases h2
    |some a=>rw[e]at h2;cases h2;rfl
   obtain⟨u,hu,rv⟩:=r.get ha
   have hp:ps[i]?=some y:=by
    rw[←S.pre,XQ (by lia)];exact h1
   exact⟨u,rv,.inl ⟨S.par y (oR hp),Hi jE hp hu⟩⟩
  ·rw[lK (by simpa using hi),oH]at h2;rw[oB]at h2
   have ha:fv[i-vs.length]?=some v:=by
    cases e:fv[i-vs.length]? with
    |none=>rw[e]at h2;cases h2
    |some a=>rw[e]at h2;cases h2;rfl
   have e:ps.length+(i-vs.length)=i:=by lia
   obtain⟨hf,c,u,hc,rv,Zhd⟩:=LC.val (i-vs.length) y v (by rw[e];exact h1) ha;exact⟨u,rv,.inr ⟨.inr hf,c,hc,cellK Zhd⟩⟩
 ·obtain⟨v,z⟩:=LC.cell y c h;exact⟨v,cellK z⟩
 ·obtain⟨v,o,e,_⟩:=LC.cell y c h;exact(e0.bs c o e).2
 ·show _=N.length;rw[oV,oB,oB,LC.len,hl]
theorem Zeg{k:Nat}{body:Expr}{cl:List SI} 
  (S:Zoe N ps scope) (LC:Fe base N ps scope cl fv) (len:∀vs H Q E,sp vs H Q E→vs.length=ps.length)
  (c6:∀vs H Q E,sp vs H Q E→H f=some (FnO f (W.kla_fn name qual params body scope cl pm (.ref c) ct))∧H c=some (CdO c qual))
  (Q8:∀(A:Around) (outer:List Env) (s:Shared) (H:Hp) (vs:List V) (Q:VK) (E:XK),Vn k (A.deeper (W.envX qual scope s.heap.objs.size f (.ref c) cl))→sp vs H Q E→
   ∃t,PE (D6 P w K mg base N qual scope f (.ref c) cl A outer s H) body t∧t (vs.map some++fv.map some) H Q) :
  Ya P w K mg base CX0 (k+1) f (W.kla_fn name qual params body scope cl pm (.ref c) ct) ps sp:=by
 refine⟨len,λA outer s H args us vs Q E hr e0 hb r m6=>?_⟩;have hl:=len _ _ _ _ m6;obtain⟨hf,hc⟩:=c6 _ _ _ _ m6;have lim:s.heap.NoLimit:=e0.mod.nolimit.keeps λb o e=>(e0.bs b o e).1;refine W.kla_callFunE hr.depth (FnO.at_ e0.hok hf) rfl S.co S.gen rfl (CdO.at_ e0.hok hc) (hb _ _ _ _ ?_);refine VG S.Kf (λy hy=>S.par y.1 (ZM hy).1) (λh1 u3 xD=>?_) S.kind;have hk:∀b o,s.heap.get? b=some o→h1.get? b=some o:=λb o e=>xD.extBut b o (lE (oT e)) (oE _ e);refine⟨lim.keeps hk,W.kla_codeExpr ?_⟩;obtain⟨t,ht,hq⟩:=Q8 A outer s H vs Q E (hr.deeper _) m6
 have I:Inv (D6 P w K mg base N qual scope f (.ref c) cl A outer s H) [] (vs.map some++fv.map some) H { s with heap:=h1,toks:=s.toks+(ps.zip us).length }:=Zhb S LC hr.hd e0 hl r u3 hk;refine aA (ht [] _ _ H _ I hq) (λu s' hs=>?_) λe s' hs=>hs.elim;obtain⟨v,H',J,rv,q⟩:=hs;exact⟨v,H',J.os,J.bare,J.base,J.hok,rv,q⟩
theorem Fun.okC{k:Nat}(F:Fun K x qual st f fd)(S:Zt N ps (Ze st))(len:∀vs H Q E,sp vs H Q E→vs.length=ps.length)
  (Q8:∀(A:Around) (outer:List Env) (s:Shared) (H:Hp) (vs:List V) (Q:VK) (E:XK),Vn k (A.deeper (envOfC qual (Ze st) s.heap.objs.size f fd.code))→sp vs H Q E→
   ∃t,PSs (Ee CX0 P w K mg base N qual (Ze st) f fd.code A outer s H E).nox (Xi st) t∧t { nx:=λ_ H'=>Q .non H',rt:=Q } (start N vs) H):Ya P w K mg base CX0 (k+1) f fd ps sp:=by
 obtain⟨oc,od,kV,doc,pm,an,cdv,ct,osl,rfl,lk,u7⟩:=F.ex;refine Zr1 lk u7 S len λA outer s H vs Q E hr m6=>?_;obtain⟨t,h,q⟩:=Q8 A outer s H vs Q E hr m6;exact⟨t,h.nox,q⟩
theorem Zit{mb:UW}{k:Nat}{fa:Addr}{x:Str}{x6:Shared}{ns:List Int}{tabs:RB}
  (KX:K.In x6.heap) (u3:x6.heap.Ns mainGlobals mg) (hb:x6.heap.Ns builtinsNs mb) (sQ:∀x:Str,x≠"__name__"→mb x=bootBuiltins x) (Ztw:x6.heap.NoLimit) (hg:x6.gens = #[])
  (ha:x6.heap.get? a=some { cls:=.type "list",data:=.seq vs.toArray }) (hi:IntsAre vs ns) (hl:ns.length≤sizeLine) (hr:Vn k callerA) (hT:W.TabsAt tabs x6.heap) (hK0:W.noTabs K=true) (hBM:Qd mg x6.heap)
  (F:∀base:Heap,K.In base→base.Ns mainGlobals mg→Qd mg base→Ya P w K mg base CX k fa fd [x] sp) (Zm2:∀(s:Shared) (u:Value),BindsTo s fd ⟨[u],[]⟩ [(x,u)])
  (m6:∀H:Hp,(∀q∈tabs,H q.2=some (.tbl #[]))→SqL K H a (ns.map V.int)→sp [.ref a] H (λv _=>v=.bl true) λ_ _ _=>False)
  (mQ:∀H e s',CX [] H x6 (λ_ _ _=>False) e s'→False) :
  codeAny (model P w) callerA (.call (.ref fa) ⟨[.ref a],[]⟩) (λr s'=>r=.ok (.ret (.bool true))∧OldK x6.heap s'.heap∧s'.os=x6.os∧AllBare s'.gens) x6:=by
 have rv:=Ly hi;have Ztg:=hi.length
 have core:∀H:Hp,(∀b,H b=none∨(∃o xs,H b=some (.frz o (.lst xs))∧b=a)∨(H b=some (.tbl #[])∧∃q∈tabs,q.2=b))→(∀q∈tabs,H q.2=some (.tbl #[]))→SqL K H a (ns.map V.int)→HOk P w H x6.heap→(∀o xs,H a=some (.frz o (.lst xs))→K.lookup a=none)→
   codeAny (model P w) callerA (.call (.ref fa) ⟨[.ref a],[]⟩) (λr s'=>r=.ok (.ret (.bool true))∧OldK x6.heap s'.heap∧s'.os=x6.os∧AllBare s'.gens) x6:=by
  intro H hO hTb hS hok hK;have Ou:∀{b:Addr}{o:Obj},x6.heap.get? b=some o→H b=none→(N0 x6.heap H).get? b=some o:=λe n=>Zb9 e n
  have eM:∀{b:Addr}{o:Obj},x6.heap.get? b=some o→(∀xs n,o.data≠.seq xs n)→(∀xs,o.data≠.fields xs)→H b=none:=λ{b o} e d1 d2=>by
   rcases hO b with z|⟨ob,xs,z,rfl⟩|⟨z,_⟩
   ·exact z
   ·rw[ha]at e;cases e;exact absurd rfl (d1 _ _)
   ·have:=hok b _ z;rw[show x6.heap.get? b=some (W.tabObj #[]) from this]at e;cases e;exact absurd rfl (d2 _)
  have yC:∀{b:Addr}{m:UW},x6.heap.Ns b m→(N0 x6.heap H).Ns b m:=λ{b m} ⟨o,es,ep,e,d,r⟩=>⟨o,es,ep,Ou e (eM e (λ_ _ z=>by rw[d]at z;cases z) λ_ z=>by rw[d]at z;cases z),d,r⟩
  have tV:K.In (N0 x6.heap H):=λb o e=>Ou (KX b o e) (by
   rcases hO b with z|⟨ob,xs,z,rfl⟩|⟨z,_⟩
   ·exact z
   ·rw[hK _ _ z]at e;cases e
   ·have e2:x6.heap.get? b=some (W.tabObj #[]):=hok b _ z;have e3:=KX b o e;rw[e2]at e3;cases e3;have h2:=aU.mp hK0 _ (W.mem_of_lookupK e)
    exact absurd (show false=true from h2) lA)
  have hBb:Qd mg (N0 x6.heap H):=by
   obtain⟨bm,ob,b1,b2,b3,b4,b5,b6⟩:=hBM;exact⟨bm,ob,b1,b2,Ou b3 (eM b3 (λ_ _ z=>by rw[b6]at z;cases z) λ_ z=>by rw[b6]at z;cases z),b4,b5,b6⟩
  have hM:Mod K mg (N0 x6.heap H):=⟨tV,yC u3,⟨mb,yC hb,sQ⟩,let ⟨mc,h1,h2⟩:=Ztw;⟨mc,yC h1,h2⟩⟩;have e0:Zfh P w K mg (N0 x6.heap H) callerA [] x6 H:=⟨rfl,hM,λb o e=>Zgy e,VE (Du _ _),trivial,λb hb=>absurd (show b∈([]:List Addr) from hb) (by simp),hok,.of_eq hg⟩;refine YY ((F _ tV (yC u3) hBb).run callerA [] x6 H ⟨[.ref a],[]⟩ [.ref a] [.ref a] _ _ hr e0 (Zm2 x6 (.ref a)) (.cons rfl .nil) (m6 H hTb hS)) λr s' h=>?_
  cases r with
  |error e=>exact(mQ H e s' h).elim
  |ok fl=>
   cases fl with
   |next=>exact False.elim h
   |brk=>exact False.elim h
   |cont=>exact False.elim h
   |ret u=>
    obtain⟨v,H',os,bare,un,Zpz,r',q⟩:=h;have q':v=.bl true:=q;subst q';obtain rfl:u=Value.bool true:=r';refine⟨rfl,⟨λb o e=>?_,λb o e=>un.there b o e (by simp)⟩,os,bare⟩
    rcases hO b with z|⟨ob,xs,z,_⟩|⟨z,q,hq,rfl⟩
    ·exact .inl (un.keep b o e z (by intro z;exact absurd (show b∈([]:List Addr) from z) (by simp)) (by simp))
    ·have z2:=un.Gr b ob _ z;obtain⟨e1,_⟩:=hok b _ z;obtain⟨e2,_⟩:=Zpz b _ z2;rw[e]at e1;cases e1;exact .inl e2
    ·obtain⟨more,z2⟩:=un.Fo _ _ z;have e1:x6.heap.get? q.2=some (W.tabObj #[]):=(hT q hq).2;rw[e]at e1;cases e1;exact .inr (.inl ⟨((hT q hq).1.tab (hT q hq).2).isCodeTable,rfl,#[],more,rfl,Zpz _ _ z2⟩)
 have hTa:∀q∈tabs,q.2≠a:=λq hq z=>by
  have e:=(hT q hq).2;rw[z,ha]at e;cases e
 cases hk:K.lookup a with
 |some o=>
  have e:=KX a o hk;rw[ha]at e;cases e;refine core (λb=>if b∈tabs.map (·.2) then some (.tbl #[]) else none) (λb=>?_) (λq hq=>if_pos (List.mem_map_of_mem hq)) (.inr ⟨_,vs.toArray,_,hk,rfl,rfl,rfl,by rw[oO,Ztg];exact hl,by simpa using rv⟩) (λb u z=>?_) (λo xs z=>?_)
  ·by_cases hb:b∈tabs.map (·.2)
   ·obtain⟨q,hq,e⟩:=lF.mp hb;exact .inr (.inr ⟨if_pos hb,q,hq,e⟩)
   ·exact .inl (if_neg hb)
  ·by_cases hb:b∈tabs.map (·.2)
   ·have z':=(if_pos hb).symm.trans z;cases z';obtain⟨q,hq,rfl⟩:=lF.mp hb;exact(hT q hq).2
   ·have z':=(if_neg hb).symm.trans z;cases z'
  ·by_cases hb:a∈tabs.map (·.2)
   ·have z':=(if_pos hb).symm.trans z;cases z'
   ·have z':=(if_neg hb).symm.trans z;cases z'
 |none=>
  refine core (λb=>if b=a then some (.frz { cls:=.type "list",data:=.seq vs.toArray } (.lst (ns.map V.int))) else if b∈tabs.map (·.2) then some (.tbl #[]) else none) (λb=>?_) (λq hq=>(if_neg (hTa q hq)).trans (if_pos (List.mem_map_of_mem hq))) (.inl (.inr ⟨{ cls:=.type "list",data:=.seq vs.toArray },if_pos rfl⟩)) (λb u z=>?_) (λ_ _ _=>hk)
  ·by_cases hb:b=a
   ·exact .inr (.inl ⟨_,_,if_pos hb,hb⟩)
   ·by_cases d7:b∈tabs.map (·.2)
    ·obtain⟨q,hq,e⟩:=lF.mp d7;exact .inr (.inr ⟨(if_neg hb).trans (if_pos d7),q,hq,e⟩)
    ·exact .inl ((if_neg hb).trans (if_neg d7))
  ·by_cases hb:b=a
   ·have z':=(if_pos hb).symm.trans z;cases z';subst hb;exact⟨ha,by rw[oB];exact hl,vs,_,rv,ha⟩
   ·have z:=(if_neg hb).symm.trans z
    by_cases d7:b∈tabs.map (·.2)
    ·have z':=(if_pos d7).symm.trans z;cases z';obtain⟨q,hq,rfl⟩:=lF.mp d7;exact(hT q hq).2
    ·have z':=(if_neg d7).symm.trans z;cases z'
def Zfd(q:Program)(K:W.Frag)(h:Heap):Prop:=∀(x:Str) (d:DefRec) (c P:Addr),(recsOf q).find? (λe=>e.name==x)=some d→W.tabIn K x=some (c,P)→W.CodeHd h c P∧h.get? P=some (W.tabObj #[])
theorem Zju{l:W.OpenLaw}{k:Nat}{d:DefRec}{K:Params→W.Frag}{CX:World→CXT}{sp:World→List (Addr×Addr)→Sp} 
  (hn:l.most=some n) (q9:n≤sizeLine) (mV:d.params.defaults=[]) (hr:Vn k callerA)
  (hY:∀(w:World) (h:Heap),YP w h→(K w.params).In h)
  (F:∀(w:World) (mg:UW) (fa:Addr) (h:Heap),(K w.params).In h→h.Ns mainGlobals mg→mg d.name=some (.ref fa)→Zfd q (K w.params) h→
   W.noTabs (K w.params)=true∧∃(fd:FuncData) (tabs:RB),W.TabsAt tabs h∧(∀(s:Shared) (u:Value),BindsTo s fd ⟨[u],[]⟩ [(x,u)])∧
    ∀base:Heap,(K w.params).In base→base.Ns mainGlobals mg→Qd mg base→Ya l.prog w (K w.params) mg base (CX w) k fa fd [x] (sp w tabs))
  (m6:∀(w:World) (tabs:RB) (H:Hp) (a:Addr) (ns:List Int),ns.length≤n→(∀q∈tabs,H q.2=some (.tbl #[]))→SqL (K w.params) H a (ns.map V.int)→sp w tabs [.ref a] H (λv _=>v=.bl true) λ_ _ _=>False)
  (mQ:∀(w:World) (H:Hp) (s:Shared) (e:Value) (s':Shared),CX w [] H s (λ_ _ _=>False) e s'→False) :
  W.WalkO q loose XP YP l.row.toRowW d [] (λf vs=>PySem.call f vs):=by
 refine Att.Ja hn mV λw s₀ x6 mg mb fa o pm cd doc a vs ns G Y ho hd u7 sY Zmv hints hlen hg=>?_;have KX:=hY w _ Y;obtain⟨h0,fd,tabs,hT,hb,hF⟩:=F w mg fa _ KX G.T.g sY (λx d c P hr ht=>W.tab_of G.T KX hr ht);exact Zit KX G.T.g G.T.b G.T.builtins G.T.nolimit hg Zmv hints (lI hlen q9) hr hT h0 G.T.bmain hF hb (λH hO hS=>m6 w tabs H a ns hlen hO hS) λH e s'=>mQ w H x6 e s'
theorem Qj{P:Addr}{oc':Value}{od':TZ}{sl cL:TN}{vs:TH}(a:W.nsIn K mainGlobals x=some (some (.ref f)))(l:K.lookup f=some ⟨oc,od,.func fd,sl⟩)(y:fd.code=.ref c)
  (v:K.lookup c=some ⟨oc',od',.fields vs,cL⟩) (u:vs[11]?=some (.ref P)):W.tabIn K x=some (c,P):=by
 unfold W.tabIn;rw[a];dsimp only;rw[l];dsimp only;rw[y];dsimp only;rw[v];dsimp only;rw[u]
theorem Lg{K:W.Frag}{P:Addr}(C:W.CodeHd h c P)(X:K.In h)(B:K.In base)(lk:K.lookup c=some o):W.CodeHd base c P:=by
 obtain⟨o',vs,file,tf,flags,tg,inF,text,tt,e,r⟩:=C;have:=X c o lk;rw[this]at e;cases e;exact⟨o,vs,file,tf,flags,tg,inF,text,tt,B c o lk,r⟩
theorem Zdd:typeLookup (.type "str") "__reversed__"=pure none:=by rw[typeLookup_type,builtinLookup_eq_fast];kernel_rfl
theorem sub_str_dict:isSubtype (.type "str") (.type "dict")=pure false:=by rw[isSubtype_type];kernel_rfl
def rsO(x:Str)(t:Tok)(i:Int):Obj:={ cls:=.type "reversed",data:=.fields #[.str x t,rawInt i] }
def N3(h:Heap)(a:Addr)(x:Str)(i:Int):Prop:=∃o t,h.get? a=some o∧o.cls=.type "reversed"∧o.data=.fields #[.str x t,rawInt i]
theorem N3.to{i:Int}(y:N3 h a x i)(e:∀o,h.get? a=some o→h'.get? a=some o):N3 h' a x i:=let ⟨o,t,q,r⟩:=y;⟨o,t,e _ q,r⟩
section
variable {P:Program}{w:World}{A:Around}{E:UQ}{s:Shared}{r:Addr}{x:Str}
theorem N3.typeIs{i:Int}(y:N3 s.heap r x i):s.TypeIs (.ref r) "reversed":=let ⟨o,_,q,c,_⟩:=y;⟨o,q,c⟩
theorem Zmc(x:Str)(t:Tok)(hz:x.length≤sizeLine):MeetsIn P w (Builtin.«reversed.__new__» ⟨[.type "reversed",.str x t],[]⟩) (λ_ R s=>
  ∀tk,R (.ok (.ret (.ref s.heap.objs.size))) { s with heap:=s.heap.push (rsO x t ((x.length:Int)-1)),toks:=tk }):=.of_wp λA R s h=>by
 have hT:s.TypeIs (.str x t) "str":=typeIs_str s x t;have vE:=Vx;unfold Builtin.«reversed.__new__»;refine oA (iQ (newClass_reversed _) ?_)
 try dsimp only
 refine oA (iQ (a:=()) (by first|rfl|kernel_rfl) (oA (iQ (a:=()) (by first|rfl|kernel_rfl) ?_)))
 try dsimp only
 refine oA (bL hT Zdd ?_)
 try dsimp only
 refine oA ?_
 wp_delta
 refine oA (bY (T:="str") (b:=false) hT sub_str_dict ?_);refine oA (bL hT PySem.F.slot_str_getitem.lookup ?_)
 try dsimp only
 rw[if_pos (by decide)];refine oD ?_;refine oA (PySem.P.len_str (by lia) ?_);refine oA (oD ?_);refine oA (m:=Builtin.SmallTypes.newRecord _ _) ?_;unfold Builtin.SmallTypes.newRecord;exact lS (oD ⟨_,rfl,h _⟩)
theorem Zqh{t:Tok}(hz:x.length≤sizeLine)(h:∀tk,Q (.ref s.heap.objs.size) { s with heap:=s.heap.push (rsO x t ((x.length:Int)-1)),toks:=tk }):wpAny (model P w) A (call (.type "reversed") [.str x t]) Q E s:=
 callType_newIn D9 (by decide) (PySem.F.typeCall_reversed_1 _) (PySem.F.newCall_reversed_1 _) (λobj=>PySem.F.args_object_init_2 obj _) PySem.F.entry_reversed_new (Zmc x t hz) (λtk=>⟨⟨_,oS _ rfl,rfl⟩,h tk⟩)
theorem Zpj{i:Nat}{c:Nat}{Q:TJ}(hr:N3 s.heap r x (i:Int))(hz:x.length≤sizeLine)(hx:x.cps[i]?=some c)
  (h:∀h' u tk,N3 h' r x ((i:Int)-1)→Heap.SameBut r s.heap h'→Q (some (.str ⟨#[c]⟩ u)) { s with heap:=h',toks:=tk }):wpAny (model P w) A (pyNext (.ref r)) Q E s:=by
 obtain⟨o,t,g,cl,d⟩:=id hr;have hT:=hr.typeIs;have vE:=Vx;have hi:i<x.length:=(Array.getElem?_eq_some_iff.mp hx).1;unfold pyNext;refine oA (bI (lR (name:=Str.ofString "__next__") hT Yq (lP Yq hT V3 ?_ (Uo _))));unfold Builtin.«reversed.__next__»;refine oA (iQ (a:=(Value.ref r,[])) rfl ?_)
 try dsimp only
 refine oA (iF g d (x:=.str x t) rfl (oA (iF g d (x:=rawInt (i:Int)) rfl ?_)));show wpAny _ _ (if (i:Int)<0 then _ else _) _ _ s;rw[if_neg (by lia)];refine oA (bL (typeIs_str s x t) PySem.F.slot_str_getitem.lookup ?_);rw[if_neg (by simp)];refine oA (WK (oA (bI (PySem.P.getItem_str (c:=c) ?_ ?_ ?_))))
 ·have h1:decide ((i:Int) < -(2 ^ 63:Int))=false:=decide_eq_false (by lia);have h2:decide ((i:Int) ≥ 2 ^ 63)=false:=decide_eq_false (by lia);rw[h1,h2];rfl
 ·have e:¬ ((i:Int)<0):=by lia
  unfold seqIndex?;simp only[e,if_false];simp[hi,hx]
 try dsimp only
 refine oA (iF g d (x:=rawInt (i:Int)) rfl ?_);dsimp only[rawInt];refine oA (bR g d (by simp) (oD ⟨_,rfl,oD (h _ _ _ ?_ (iV ..))⟩));exact⟨_,t,lT _ g (bS (iS d _)),(YW ..).trans cl,by rw[iS d];simp[rawInt]⟩
theorem Zua{Q:TJ}(hh:A.handled=none)(hr:N3 s.heap r x (-1))(h:∀h',Heap.ExtBut r s.heap h'→(∃o,h'.get? r=some o)→Q none { s with heap:=h' }):wpAny (model P w) A (pyNext (.ref r)) Q E s:=by
 obtain⟨o,t,g,c,d⟩:=id hr;have hT:=hr.typeIs;unfold pyNext;refine oA (bI (lR (name:=Str.ofString "__next__") hT Yq (lP Yq hT V3 ?_ (Uo _))));unfold Builtin.«reversed.__next__»;refine oA (iQ (a:=(Value.ref r,[])) rfl ?_)
 try dsimp only
 refine oA (iF g d (x:=.str x t) rfl (oA (iF g d (x:=rawInt (-1)) rfl ?_)));show wpAny _ _ (if (-1:Int)<0 then _ else _) _ _ s;rw[if_pos (by decide)];refine oA (aC (oA ?_))
 wp_delta
 refine oA (bR g d (by simp) ?_);have d1:∀f:Array Value→Array Value,(Obj.mapFields f o).data=.fields (f #[.str x t,rawInt (-1)]):=λf=>iS d f;have g1:=λf=>lT (h:=s.heap) (Obj.mapFields f) g (bS (d1 f));refine bR (g1 _) (d1 _) (by simp) ?_;refine oA ?_;unfold Builtin.SmallTypes.stopIteration;refine oA ?_;simp only[newExc,newTuple];refine oA (lS (oA (m:=firstArgMember _ _) (iQ (a:=Value.none) (by first|rfl|(simp only[firstArgMember];rfl)) (lS ?_ (by size_fits)))) (by size_fits));simp only[raiseNew];refine oA (XH ?_);rw[show A.in1.handled=none from hh];refine oA (oD (WI ?_));refine oA (bY (T:="StopIteration") (b:=true) ⟨_,oS _ rfl,rfl⟩ isSubtype_stop (oD (h _ (λb o' hb e=>?_) ?_)))
 ·exact oE _ (oE _ ((lZ _ _ (iY hb)).trans ((lZ _ _ (iY hb)).trans e)))
 ·exact⟨_,oE _ (oE _ (lT _ (g1 _) (bS (iS (d1 _) _))))⟩
theorem By{i:Int}(hr:N3 s.heap r x i)(h:Q (.ref r) s):wpAny (model P w) A (pyIter (.ref r)) Q E s:=by
 refine YU hr.typeIs Ui (lP Ui hr.typeIs O7 ?_ (Lq _));exact(show wpAny _ _ (ret (.ref r)) _ _ s from oD ⟨_,rfl,"reversed",_,hr.typeIs,Yq.lookup,h⟩)
theorem Zp1{Q:SR}(hr:N3 s.heap r x ((x.length:Int)-1))(hz:x.length≤sizeLine)(h:∀b tk,Q b { s with toks:=tk }):wpAny (model P w) A (Builtin.List.listLengthHint (.ref r)) Q E s:=by
 obtain⟨o,t,g,c,d⟩:=id hr;have hT:=hr.typeIs;have vE:=Vx;unfold Builtin.List.listLengthHint;refine oA (bL hT Dc ?_);refine(show wpAny _ _ (specialOf (Value.ref r) (Str.ofString "__length_hint__") >>= _) _ _ _ from oA (bL hT Wd.lookup ?_));generalize yS:("reversed.__length_hint__" : String)=uV
 wp_delta
 rw[show splitId uV=some ("reversed","__length_hint__") from by subst yS;decide +kernel];subst yS;refine oA (bY (T:="reversed") (b:=true) hT L6 ?_);refine bC (λxS=>absurd xS (by decide)) (λ_=>?_);refine bC (λxS=>absurd xS (by decide +kernel)) (λ_=>?_);refine oA (aC ?_);refine oA (iQ (Wd.bind _) ?_)
 try dsimp only
 refine oA (bI (lP Wd hT O9 ?_ (Lr _)));unfold Builtin.«reversed.__length_hint__»;refine oA (iQ (a:=Value.ref r) rfl ?_);refine oA (iF g d (x:=.str x t) rfl ?_);show wpAny _ _ (if (Value.str x t==Value.none)=true then _ else _) _ _ s;rw[if_neg (λz=>nomatch z)];refine oA (PySem.P.len_str (by lia) ?_);refine oA (oD ?_)
 try dsimp only
 refine oA (iF g d (x:=rawInt ((x.length:Int)-1)) rfl ?_);dsimp only[rawInt];rw[if_neg (by lia)];refine oA (WK (oD ⟨_,rfl,?_⟩));have e0:(x.length:Int)-1+1=(x.length:Int):=by lia
 rw[e0];have ea:∀(i:Int) (u:Tok),asInt? (Value.int i u)=pure (some i):=λ_ _=>rfl;simp only[ea,pure_bind]
 have f1:Builtin.List.listFitsIndex (x.length:Int)=true:=by
  unfold Builtin.List.listFitsIndex;rw[lQ];exact⟨decide_eq_true (by lia),decide_eq_true (by lia)⟩
 have f2:Builtin.List.listTooLong (x.length:Int).toNat=false:=decide_eq_false (by rw[bG];lia);rw[f1,if_neg (by decide),if_neg (by lia),f2,if_neg (by decide)];exact oD (h _ _)
def Zfe(x:Str)(i:Nat)(v:Value):Prop:=∃c u,x.cps[x.length-1-i]?=some c∧v=.str ⟨#[c]⟩ u
theorem Zjt(hh:A.handled=none)(r:Addr)(x:Str)(hz:x.length≤sizeLine):Walks P w A r [r] [r] x.length (Zfe x) (λi h=>i≤x.length∧N3 h r x ((x.length:Int)-1-(i:Int))) where
 sub:=λb hb=>hb
 frame:=λ_ _ _ y hk=>⟨y.1,y.2.to (hk r (by simp))⟩
 item:=λi s Q E hi y hQ=>by
  have hit:=y.2;rw[show (x.length:Int)-1-(i:Int)=((x.length-1-i:Nat):Int) by lia]at hit;have hl:x.length=x.cps.size:=rfl;have hx:x.cps[x.length-1-i]?=some (x.cps[x.length-1-i]'(by lia)):=iP (by lia);refine Zpj hit hz hx λh' u tk Zmy gU=>?_;rw[show ((x.length-1-i:Nat):Int)-1=(x.length:Int)-1-((i+1:Nat):Int) by lia]at Zmy;exact hQ _ h' tk ⟨_,u,hx,rfl⟩ ⟨hi,Zmy⟩ λb o hb eo=>gU.extBut b o (λz=>hb (by simp[z])) eo
 done:=λs Q E y hQ=>by
  have hit:=y.2;rw[show (x.length:Int)-1-(x.length:Int) = -1 by lia]at hit;exact Zua hh hit λh' he _=>hQ h' s.toks λb o hb eo=>he b o (λz=>hb (by simp[z])) eo
 self:=λ_ _ _ _ y hQ=>By y.2 hQ
theorem Zt5{S:Addr}{res:Value}{c₀:Nat}(hh:A.handled=none)(hr:N3 s.heap r x ((x.length:Int)-1))(hz:x.length≤sizeLine)(mS:S≠r)
  (hS:s.heap.get? S=some { cls:=.type "list",data:=.seq #[] c₀ })
  (hR:∀h' tk acc c,(∀b o,b≠S→b≠r→s.heap.get? b=some o→h'.get? b=some o)→h'.get? S=some { cls:=.type "list",dict:=none,data:=.seq acc c,slots:=#[] }→ItemsOf (Zfe x) acc x.length→R (.ok (.ret res)) { s with heap:=h',toks:=tk }) :
  wpAny (model P w) A.in1 (Builtin.List.listExtendWith (.ref S) (.ref r) res) (λfin s'=>match fin with|.done f=>R (.ok f) s'|.again c'=>c'.quiet=true∧codeAny (model P w) A c' R s') (λe s'=>R (.error e) s') s:=by
 have W:=Zjt (P:=P) (w:=w) (A:=A.in1) hh r x hz;have eV:S∉[r]:=λz=>mS (oU.mp z);have eJ:N3 s.heap r x ((x.length:Int)-1-((0:Nat):Int)):=by simpa using hr
 have key:∀(h:Heap) (c₁ tk:Nat),(∀b o,b≠S→s.heap.get? b=some o→h.get? b=some o)→h.get? S=some { cls:=.type "list",data:=.seq #[] c₁ }→codeAny (model P w) A (.builtin "list.extend.loop" ⟨[.ref S,.ref r,res],[]⟩) R { s with heap:=h,toks:=tk }:=by
  intro h c₁ tk hk eW;refine VI W.toS hz S eV res x.length 0 _ #[] c₁ rfl (lD _) ⟨lD _,(eJ.to λo e=>hk r o mS.symm e)⟩ eW (ItemsOf.nil _) λs' Zfc c' hm xQ Rn=>?_;rw[Moved.eq_with hm];refine hR s'.heap s'.toks Zfc c' (λb o hb d7 e=>hm.heap b o (λz=>?_) (hk b o hb e)) xQ Rn
  rcases oX.mp z with z|z
  ·exact hb z
  ·exact d7 (oU.mp z)
 unfold Builtin.List.listExtendWith;refine oA (aZ (T:="reversed") hr.typeIs ?_);have h1:Builtin.List.listSameRef (.ref S) (.ref r)=false:=by simp[Builtin.List.listSameRef,mS]
 have h2:(Value.type "reversed"==Value.type "list")=false:=by decide
 have h3:(Value.type "reversed"==Value.type "tuple")=false:=by decide
 simp only[h1,h2,h3,UH,iM,if_false];refine oA (By hr (oA (iB (Zp1 hr hz λb tk=>?_))));refine bC (λ_=>oA (aC (oA ?_))) (λ_=>oD ⟨plainId_quiet aY _,key _ c₀ _ (λb o _ e=>e) hS⟩);show wpAny _ _ (updateSeq S (·.push .none) >>= λ_=>updateSeq S (·.pop)) _ _ _;refine oA (ZQ hS rfl ?_);have z0:=lT (Obj.mapSeq (·.push Value.none)) hS rfl;refine ZQ (hz:=by seq_fits) z0 rfl (oD ⟨plainId_quiet aY _,key _ _ _ (λb o hb e=>?_) (lT (Obj.mapSeq (·.pop)) z0 rfl)⟩);exact(lZ _ _ (iY hb)).trans ((lZ _ _ (iY hb)).trans e)
theorem Ze0{Q:List Value→Shared→Prop}(hh:A.handled=none)(hr:N3 s.heap r x ((x.length:Int)-1))(hz:x.length≤sizeLine)
  (hQ:∀h' tk acc,(∀b o,b≠r→s.heap.get? b=some o→h'.get? b=some o)→ItemsOf (Zfe x) acc x.length→Q acc.toList { s with heap:=h',toks:=tk }):wpAny (model P w) A (collect (.ref r)) Q E s:=by
 have lr:r<s.heap.objs.size:=let ⟨_,_,e,_⟩:=hr;oT e
 unfold collect;refine oA (wpAny_runValue (aD PySem.F.entry_proto_collect ?_));rw[bM PySem.F.plain_proto_collect _];show wpAny _ A.in1 (newList [] >>= λl=>again (.builtin "list.__iadd__" ⟨[l,.ref r],[]⟩)) _ _ s;refine oA (lS ?_);refine oD ⟨plainId_quiet YO _,aD PySem.F.entry_list_iadd ?_⟩;rw[bM YO _];show wpAny _ A.in1 (Builtin.List.listExtendWith (.ref s.heap.objs.size) (.ref r) (.ref s.heap.objs.size)) _ _ _;have hS:(s.heap.push { cls:=.type "list",data:=.seq ([]:List Value).toArray }).get? s.heap.objs.size=some { cls:=.type "list",data:=.seq #[] }:=oS _ rfl
 refine Zt5 (s:={ s with heap:=s.heap.push { cls:=.type "list",data:=.seq ([]:List Value).toArray } }) (R:=λr s'=>match r with
  |.ok (.ret v)=>wpAny (model P w) A (match v with|.ref a=>(do match (←load a).data with|.seq xs _=>pure xs.toList|_=>unsupported "internal:collect")|_=>unsupported "internal:collect") Q E s'
  |.ok _=>False
  |.error e=>E e s') hh (hr.to λo e=>oE _ e) hz (bJ lr) hS λh' tk acc c hk xQ Rn=>?_
 show wpAny _ A (load s.heap.objs.size >>= _) _ _ _;refine oA (wpAny_load xQ ?_);exact oD (hQ h' tk acc (λb o hb e=>hk b o (lE (oT e)) hb (oE _ e)) Rn)
theorem Zpw{z:Str}{t:Tok}(hh:A.handled=none)(hr:N3 s.heap r x ((x.length:Int)-1))(hz:x.length≤sizeLine)(hj:x.length+x.length*z.length≤16777216)
  (hQ:∀h' tk u (ys:List Str),(∀b o,b≠r→s.heap.get? b=some o→h'.get? b=some o)→ys=x.cps.toList.reverse.map (λc=>⟨#[c]⟩)→Q (.str (Txt.join z ys) u) { s with heap:=h',toks:=tk }) :
  wpAny (model P w) A (call (.builtin "str.join") [.str z t,.ref r]) Q E s:=by
 refine wpAny_call (codeAny_call_builtin aF.plain PySem.F.entry_str_join (aF.check _ _ _ _ _ _ _ _ (typeIs_str _ _ _) (PySem.F.args_str_join_2 _ _) ?_));rw[join_tree_other];refine oA (aZ hr.typeIs ?_);show wpAny _ A.in1 ((pyIter (.ref r)).tryCatch _ >>= λit=>collect it >>= λitems=>joinTail z items) _ _ s;refine oA (wpAny_tryCatch (By hr ?_));refine oA (Ze0 hh hr hz λh' tk acc hk Rn=>?_)
 obtain⟨l,hl⟩:=exists_strValues acc.toList λv hv=>by
  obtain⟨j,hj,rfl⟩:=Array.mem_iff_getElem.mp (Array.mem_toList_iff.mp hv);obtain⟨c,u,_,e⟩:=Rn.2 j _ (iP hj);exact⟨_,u,e⟩
 have uU:l.map (·.1)=x.cps.toList.reverse.map (λc=>(⟨#[c]⟩:Str)):=by
  have hlen:l.length=x.length:=by
   have:=congrArg List.length hl;unfold strValues at this;rw[oB]at this;exact this.trans (lJ.trans Rn.1)
  refine YV λi=>?_;rw[oH,oH]
  by_cases hi:i<l.length
  ·have h1:acc[i]?=some (.str l[i].1 l[i].2):=by
    rw[←lL,←hl];unfold strValues;rw[oH,oC hi];rfl
   obtain⟨c,u,e1,e2⟩:=Rn.2 i _ h1;rw[oC hi,WW (by rw[lJ];show i<x.length;lia),lJ,lL];have zH:x.cps[x.cps.size-1-i]?=some c:=e1;rw[zH]
   injection e2 with e3 _
   show some l[i].1=some _;rw[e3]
  ·rw[iO (by lia),iO (by rw[iW,lJ];show x.length≤i;lia)];rfl
 rw[←hl]
 have hok:PySem.Builtin.Str.tooLong ((l.map (·.1)).toArray.foldl (λa p=>a+p.length+z.length) 0)=false:=by
  have:=StrLaws.joinFits (sep:=z) (texts:=l.map (·.1)) (B:=1) (λy hy=>by
   rw[uU]at hy;obtain⟨c,_,rfl⟩:=lF.mp hy
   exact oG _) (by
   rw[uU,oB,iW,lJ];have:x.cps.size=x.length:=rfl;rw[this]
   lia)
  unfold JoinOk at this;simpa using this
 have g:Gives (joinTail z (strValues l)) (joinMade z l):=by
  have g0:=gives_joinTail z l hok
  cases l with
  |nil=>exact g0
  |cons p r=>cases r with
   |nil=>exact g0
   |cons q r'=>exact g0
 exact g P w A (wants Q E) _ (post_join l ⟨joinFit_length hok,λt' k=>by
  rw[uU]
  exact hQ h' k t' _ hk rfl⟩)
end
section
variable {X:Cx}
def Zon(to te:TE):TE:=λσ H Q=>to σ H λy H1=>∃z,y=.str z∧te σ H1 λx H2=>∃t,x=.str t∧t.length≤sizeLine∧t.length+t.length*z.length≤16777216∧Q (.str (Txt.join z (t.cps.toList.reverse.map λc=>⟨#[c]⟩))) H2
theorem Kb{o:Expr}{to:TE}(hc:X.calm=true)(uE:Gl X "reversed")(yZ:X.mg "reversed"=none)(ho:PE X o to)(he:PE X e te)
  (Lh:attributeBase o "join" X.env (eval o X.env)=eval o X.env:=by rfl)
  (h1:starEach [.Call (.Name "reversed" p2) [e] [] Mt] X.env=(false,eval (.Call (.Name "reversed" p2) [e] [] Mt) X.env) :: starEach [] X.env:=by rfl)
  (h2:starEach [e] X.env=(false,eval e X.env) :: starEach [] X.env:=by rfl)
  (Zmz:((backTo Xc (starEach [.Call (.Name "reversed" p2) [e] [] Mt] X.env)).all (λx=>!x.1)&&(backToKw Xc (keywordEach [] X.env)).all (λx=>x.1.isSome)
   && decide ([Expr.Call (.Name "reversed" p2) [e] [] Mt].length+([]:List Keyword).length+(if ([]:List Keyword).isEmpty then 0 else 1)<30))=true:=by rfl)
  (Lf:(apos.endLine==Xc.line)=true:=by rfl) :
  PE X (.Call (.Attribute o "join" apos) [.Call (.Name "reversed" p2) [e] [] Mt] [] Xc) (Zon to te):=by
 intro pins s σ H Q I h;refine wpAny_Call_method_late Lh Zmz Lf rfl (thn (ho pins s σ H _ I h) λv s1 ⟨x,H1,I1,r1,z,hx,q1⟩=>?_);subst hx;obtain⟨tz,rfl⟩:=r1;refine⟨"str",_,cZ,aF,ZR,typeIs_str _ _ _,(λ_ e=>nomatch e),?_⟩;rw[h1];refine ZG rfl (XB ?_);show wpAny _ _ (spliced ((false,eval _ X.env) :: backTo Xc (starEach [] X.env))) _ _ s1
 refine aG (iI (Vc I1 uE yZ Pj (iC (thn (Za he Zb h2 Mt pins s1 σ H1 (λvs H2=>match vs with|[x]=>∃t,x=.str t∧t.length≤sizeLine∧t.length+t.length*z.length≤16777216∧Q (.str (Txt.join z (t.cps.toList.reverse.map λc=>⟨#[c]⟩))) H2|_=>False) I1 q1) λus s2 ⟨vs,H2,I2,r2,q2⟩=>?_) h2 rfl)))
 obtain⟨x0,e0,t,e1,hz,hj,q⟩:∃x0,vs=[x0]∧∃t,x0=.str t∧t.length≤sizeLine∧t.length+t.length*z.length≤16777216∧Q (.str (Txt.join z (t.cps.toList.reverse.map λc=>⟨#[c]⟩))) H2:=by
  match vs,q2 with
  |[x0],q2=>exact⟨x0,rfl,q2⟩
 subst e0 e1;obtain⟨u,rfl,tt,rfl⟩:=vals1 r2;refine Zqh hz λtk=>ZW ?_;refine Zpw (r:=s2.heap.objs.size) (I2.ok.hd hc) ⟨_,tt,oS _ rfl,rfl,rfl⟩ hz hj λh' mG u' ys kp uU=>?_;have uX:∀b o,s2.heap.get? b=some o→h'.get? b=some o:=λb o e=>kp b o (lE (oT e)) (oE _ e);subst uU;exact⟨.str _,H2,I2.kept (t':=mG) uX,⟨_,rfl⟩,q⟩
end
structure Zhw(X:Cx)(σ:St)(Wh:Heap):Prop where
 sub:∀b o,X.base.get? b=some o→Wh.get? b=some o
 inj:∀x y c,X.env.cells.lookup x=some c→X.env.cells.lookup y=some c→x=y
 has:∀x,(X.env.kindOf x=some .cell∨X.env.kindOf x=some .free)→∃c,X.env.cells.lookup x=some c
 cell:∀x c,X.env.cells.lookup x=some c→∃v,Wh.IsCell c v
 val:∀(i:Nat) (x:Str) (v:V),X.N[i]?=some x→σ[i]?=some (some v)→(X.env.kindOf x=some .cell∨X.env.kindOf x=some .free)→∃u c,RelV v u∧X.env.cells.lookup x=some c∧Wh.IsCell c (some u)
def U4(X:Cx)(b:Addr):Bool:=X.env.cells.any λp=>p.2==b&&X.env.cells.lookup p.1==some b
theorem Rm:U4 X b=true↔∃x,X.env.cells.lookup x=some b:=by
 unfold U4;rw[YD];constructor
 ·rintro⟨p,_,h⟩;rw[lQ]at h;exact⟨p.1,by simpa using h.2⟩
 ·rintro⟨x,h⟩;refine⟨(x,b),iK h,?_⟩;simp[h]
def Zp2(X:Cx)(h:Heap):List Addr:=(List.range h.objs.size).filter λb=>(X.base.get? b).isNone && !U4 X b
def baseOf(X:Cx)(h:Heap):Heap:=W.hideAll h (Zp2 X h)
section
variable {X:Cx}{pins:US}{σ:St}{H:Hp}{s:Shared}
theorem Zg0(h:(X.base.get? b).isSome=true∨U4 X b=true):b∉Zp2 X s.heap:=λz=>by
 have:=(aP.mp z).2;rw[lQ]at this
 rcases h with h|h
 ·cases e:X.base.get? b with
  |none=>rw[e]at h;cases h
  |some o=>rw[e]at this;cases this.1
 ·rw[h]at this;cases this.2
theorem Zgz(h:(baseOf X s.heap).get? b=some o):s.heap.get? b=some o∧((X.base.get? b).isSome=true∨U4 X b=true):=by
 have e:=W.of_hideAll _ h;refine⟨e,?_⟩
 by_cases c:(X.base.get? b).isSome=true∨U4 X b=true
 ·exact c
 ·have hm:b∈Zp2 X s.heap:=by
   refine aP.mpr ⟨iG.mpr (oT e),?_⟩;rw[lQ];refine⟨?_,?_⟩
   ·cases e2:X.base.get? b with
    |none=>rfl
    |some u=>exact absurd (.inl (by rw[e2];rfl)) c
   ·cases e2:U4 X b with
    |false=>rfl
    |true=>exact absurd (.inr e2) c
  rw[show baseOf X s.heap=W.hideAll s.heap (Zp2 X s.heap) from rfl,W.hideAll_none _ hm]at h;cases h
theorem Inv.Zr4(I:Inv X pins σ H s):Zhw X σ (baseOf X s.heap):=by
 have cellK:∀{x:Str}{c:Addr}{v:Option Value},X.env.cells.lookup x=some c→s.heap.IsCell c v→(baseOf X s.heap).IsCell c v:=λ{x c v} e ⟨o,ho,hd⟩=>
  ⟨o,W.hideAll_get _ ho (Zg0 (.inr (Rm.mpr ⟨x,e⟩))),hd⟩
 refine⟨λb o e=>W.hideAll_get _ (I.bk b o e) (Zg0 (.inl (by rw[e];rfl))),I.ok.inj,I.ok.has,λx c e=>?_,λi x v h1 h2 h3=>?_⟩
 ·obtain⟨v,z⟩:=I.cell x c e;exact⟨v,cellK e z⟩
 ·obtain⟨m,_,hl⟩:=I.loc
  have hv:Vis X.env.scope x:=by
   rcases h3 with h3|h3
   ·exact .inr (.inl h3)
   ·exact .inr (.inr h3)
  obtain⟨u,r,l⟩:=hl i x v h1 h2 hv
  rcases l with ⟨hk,_⟩|⟨hk,c,e,z⟩
  ·rcases h3 with h3|h3<;>rw[h3]at hk<;>cases hk
  ·exact⟨u,c,r,e,cellK e z⟩
theorem Inv.Zw3(I:Inv X pins σ H s)(sV:∀x,X.fn x=true):Zfh X.prog X.w X.K X.mg (baseOf X s.heap) X.A X.stack s H:=by
 have B:=I.Zr4
 have bs:∀b o,(baseOf X s.heap).get? b=some o→s.heap.get? b=some o∧H b=none:=λb o e=>by
  obtain⟨e1,h⟩:=Zgz e;refine⟨e1,?_⟩
  rcases h with h|h
  ·obtain⟨u,hu⟩:=XO.mp h;exact(I.bs b u hu).2
  ·obtain⟨x,hx⟩:=Rm.mp h;exact I.Tw x b hx
 refine⟨I.ok.frames,?_,bs,VE (W.hideAll_size _ _),?_,I.Cq,I.hok,I.bare⟩
 ·obtain⟨k,g,⟨mb,h1,h2⟩,nl⟩:=I.ok.mod;exact⟨k.keeps B.sub,g.keeps B.sub,⟨mb,h1.keeps B.sub,h2⟩,nl.keeps B.sub⟩
 ·have all:∀(l:List Env),(∀b∈frs l,b∈X.env.locals :: X.fs)→s.heap.FunFrames X.base l→s.heap.FunFrames (baseOf X s.heap) l:=by
   intro l
   induction l with
   |nil=>intro _ _;trivial
   |cons env r ih=>
    intro hs hl;obtain⟨hk,⟨L,o,hf,hn,ho,hd⟩,hr⟩:=hl;refine⟨hk,⟨L,o,hf,?_,ho,hd⟩,ih (λb hb=>hs b (by unfold frs;rw[YJ,hf];exact oQ _ hb)) hr⟩
    cases q:(baseOf X s.heap).get? L with
    |none=>rfl
    |some u=>
     obtain⟨e1,h⟩:=Zgz q
     rcases h with h|h
     ·rw[hn]at h;cases h
     ·obtain⟨x,hx⟩:=Rm.mp h
      rcases oX.mp (hs L (by unfold frs;rw[YJ,hf];exact oK)) with z|z
      ·exact absurd z (I.cne x L hx)
      ·obtain⟨_,o2,gR,_⟩:=I.ok.Kl.mem z;exact absurd (oZ (oT gR) (I.ok.cab x L (sV x) hx)) (iL _)
  exact all _ I.Ip I.stack
end
def Zsl(X:Cx)(x:Str)(k:Nat)(t:TA):TE:=λσ H Q=>t σ H λvs H1=>∀Wh:Heap,Zhw X σ Wh→
 ∃(ps:List Str) (sp:Sp) (_:Cal X.prog X.w X.K X.mg Wh x k ps sp),sp vs H1 Q E0
theorem Zgw{k:Nat}{t:TA}(C:Cal X.prog X.w X.K X.mg X.base x k ps sp)(hr:Vn k X.A)(ha:PA X (e :: es) t)(hg:Gl X x:=by rfl)(sV:∀x,X.fn x=true:=by intro _;rfl)
  (sS:(x==("__debug__" : Str))=false:=by decide) (he:starEach (e :: es) X.env=(false,eval e X.env) :: starEach es X.env:=by rfl) (y0:(backTo pos (starEach es X.env)).any (·.1)=false:=by rfl) :
  PE X (.Call (.Name x p) (e :: es) [] pos) (Zsl X x k t):=by
 intro pins s σ H Q I h;refine iI (Br I hg C.at_ ?_ sS);refine W.callWith_K (h₀:=X.base) I.ok.mod.kin C.kp (thn (ha pos pins s σ H _ I h) λus s1 ⟨vs,H1,I1,r,q⟩=>⟨I1.kIn,?_⟩) he y0;obtain⟨ps',cS,C',m6⟩:=q _ I1.Zr4
 have ef:C'.f=C.f:=by
  have:=C'.at_.symm.trans C.at_
  injection this with this
  injection this
 have hl:us.length=ps'.length:=by rw[←r.length];exact C'.ok.len _ _ _ _ m6
 have hb:=C'.b s1 us I1.kIn (by rw[aB];exact hl);rw[aB]at hb;have run:=C'.ok.run X.A X.stack s1 H1 ⟨us,[]⟩ us vs Q E0 hr (I1.Zw3 sV) hb r m6;rw[ef]at run;show wpAny _ _ (call (.ref C.f) ([]++us)) _ _ s1;refine wpAny_call (YY run λr s' hq=>?_)
 cases r with
 |error e=>exact hq.elim
 |ok fl=>
  cases fl with
  |ret u=>exact I1.after hq
  |next=>exact False.elim hq
  |brk=>exact False.elim hq
  |cont=>exact False.elim hq
theorem Zhw.cl{Wh:Heap}(B:Zhw X σ Wh)(fr:List Nat)(eK:X.env.scope=sc)(xW:∀y∈scope.names,y.2=NameKind.free→sc.names.lookup y.1=some .cell∨sc.names.lookup y.1=some .free)
  (hlen:N.length=ps.length+fr.length) (sU:fv.length=fr.length) (hN:∀(j:Nat) i x,fr[j]?=some i→N[ps.length+j]?=some x→scope.names.lookup x=some .free∧X.N[i]?=some x)
  (hv:∀(j:Nat) i v,fr[j]?=some i→fv[j]?=some v→σ[i]?=some (some v)):Fe Wh N ps scope (U8 X.env scope.names []) fv:=by
 subst eK;have kind:∀x,scope.names.lookup x=some .free→(X.env.kindOf x=some .cell∨X.env.kindOf x=some .free):=λx hx=>xW _ (iK hx) rfl;have good:Zfk X.env (U8 X.env scope.names []):=Oq _ _ λy c e=>by simp at e
 have look:∀x c,(U8 X.env scope.names []).lookup x=some c→X.env.cells.lookup x=some c:=λx c e=>by
  have h1:=good x c e
  rcases Lo _ _ e with z|z
  ·simp at z
  ·obtain⟨c2,e2⟩:=B.has x (xW _ z rfl);rw[e2]at h1;rw[e2];exact congrArg some h1.symm
 have Zwu:∀x,scope.names.lookup x=some .free→∃c,(U8 X.env scope.names []).lookup x=some c:=λx hx=>Pe _ _ (.inr (iK hx));refine⟨λx y c h1 h2=>B.inj x y c (look x c h1) (look y c h2),Zwu,λx c e=>B.cell x c (look x c e),by rw[hlen,sU],λj x v h1 h2=>?_⟩;have hj:j<fr.length:=by rw[←sU];exact(oF.mp h2).1
 have hfj:fr[j]?=some fr[j]:=oC hj;obtain⟨hf,hX⟩:=hN j _ x hfj h1;obtain⟨u,c,r,e,z⟩:=B.val _ x v hX (hv j _ v hfj h2) (kind x hf);obtain⟨c2,e2⟩:=Zwu x hf;have:=look x c2 e2;rw[e]at this;cases this;exact⟨hf,c,u,e2,r,z⟩
section
variable {X:Cx}
inductive Zbd(x:V)(xs:List V)(H:Hp)(Q:VK):Prop
 |mk(z y:_)(h1:x=.str z)(h2:xs=[.str y])(h3:Q (.bl (Txt.startswith z y)) H):Zbd x xs H Q
def Zoy:V→List V→Hp→VK→Prop:=λx xs H Q=>Zbd x xs H Q
theorem Zim:MtR X "str.startswith" Zoy:=by
 intro pins s σ H x xs v us Q I rx rs h;obtain⟨z,y,rfl,rfl,q⟩:=h;obtain⟨t,rfl⟩:=rx;obtain⟨u,rfl,t2,rfl⟩:=vals1 rs;exact SC.startswith ⟨.bl _,H,I,rfl,q⟩
end
theorem Af{d:Dt}(h:d∈ds):d.dep<(Dt.tup ds).dep:=by
 have:∀(l:List Dt),d∈l→d.dep≤(l.map Dt.dep).foldr max 0:=by
  intro l
  induction l with
  |nil=>intro h;cases h
  |cons a l ih=>
   intro h;rw[oW,List.foldr_cons]
   rcases oX.mp h with e|e
   ·rw[e];exact Nat.le_max_left _ _
   ·exact lI (ih e) (Nat.le_max_right _ _)
 have h2:=this ds h;simp only[Dt.dep];lia
theorem Zns{d:Dt}(h:d∈ds):d.dep<(Dt.lst ds).dep:=by
 have:=Af h;simp only[Dt.dep]at this ⊢;exact this
section
variable {P:Program}{w:World}{H:Hp}{s:Shared}
theorem Ma(ok:HOk P w H s.heap)(h:H a=some (.tup xs)):∃its:List Value,Vals xs its∧s.heap.IsTuple a its.toArray:=by
 obtain⟨_,its,r,t⟩:=ok a _ h;exact⟨its,r,t⟩
theorem Zb1(ok:HOk P w H s.heap)(h:H a=some (.lst xs)):∃its:List Value,Vals xs its∧s.heap.IsList a its.toArray:=by
 obtain⟨_,its,n,r,t⟩:=ok a _ h;exact⟨its,r,⟨_,t,rfl,n,rfl⟩⟩
theorem Ay(n:Nat):((List.range n).all λ_=>true)=true:=by
 rw[aU]
 intros
 rfl
theorem Znf(ok:HOk P w H s.heap):∀(n:Nat) (d:Dt) (A:Around) (x y:V) (u v:Value),d.dep≤n→A.units+n<cLine→Den H x d→Den H y d→RelV x u→RelV y v→SeqAt.EqAt A s u v true:=by
 intro n
 induction n with
 |zero=>
  intro d A x y u v hd hu hx hy rx ry
  cases hx with
  |non=>cases hy;cases rx;cases ry;exact ZO _
  |bl b=>cases hy;cases rx;cases ry;exact ZO _
  |int i=>
   cases hy;obtain⟨t,rfl⟩:=rx;obtain⟨t',rfl⟩:=ry;have:=VY (A:=A) (s:=s) i t i t';rwa[beq_self_eq_true]at this
  |str z=>
   cases hy;obtain⟨t,rfl⟩:=rx;obtain⟨t',rfl⟩:=ry;have:=VZ (A:=A) (s:=s) z t z t';rwa[beq_self_eq_true]at this
  |lst=>simp[Dt.dep]at hd
  |tup=>simp[Dt.dep]at hd
 |succ n ih=>
  intro d A x y u v hd hu hx hy rx ry
  cases hx with
  |non=>cases hy;cases rx;cases ry;exact ZO _
  |bl b=>cases hy;cases rx;cases ry;exact ZO _
  |int i=>
   cases hy;obtain⟨t,rfl⟩:=rx;obtain⟨t',rfl⟩:=ry;have:=VY (A:=A) (s:=s) i t i t';rwa[beq_self_eq_true]at this
  |str z=>
   cases hy;obtain⟨t,rfl⟩:=rx;obtain⟨t',rfl⟩:=ry;have:=VZ (A:=A) (s:=s) z t z t';rwa[beq_self_eq_true]at this
  | @lst a xs ds ha hz hl hk=>
   cases hy with
   | @lst b ys _ hb xG xB mZ=>
    cases rx;cases ry
    by_cases e:a=b
    ·subst e;exact ZO _
    obtain⟨i1,r1,p1⟩:=Zb1 ok ha;obtain⟨i2,r2,p2⟩:=Zb1 ok hb;have kW:i1.toArray.size=ds.length:=by rw[oO,←hl];exact r1.length.symm
    have tH:i2.toArray.size=ds.length:=by rw[oO,←xB];exact r2.length.symm
    have:=SeqAt.RcAt.lists (A:=A) (e:=λ_=>true) p1 p2 (by rw[kW,tH]) (by lia) λj h1 h2=>?_
    ·rw[Ay]at this;exact SeqAt.EqAt.of_refs e this
    have hj:j<ds.length:=by lia
    have yU:ds[j]?=some ds[j]:=oC hj;have yV:xs[j]?=some (xs[j]'(by lia)):=oC (by lia);have yW:ys[j]?=some (ys[j]'(by lia)):=oC (by lia);obtain⟨u1,e1,q1⟩:=r1.get yV;obtain⟨u2,e2,q2⟩:=r2.get yW
    have g1:i1.toArray[j]=u1:=by
     have:i1[j]?=some i1.toArray[j]:=by simp at h1 ⊢
     rw[e1]at this;exact(Option.some.inj this).symm
    have g2:i2.toArray[j]=u2:=by
     have:i2[j]?=some i2.toArray[j]:=by simp at h2 ⊢
     rw[e2]at this;exact(Option.some.inj this).symm
    rw[g1,g2];have hdm:=Zns (bX hj);exact ih ds[j] A.in1 _ _ u1 u2 (by lia) (by show A.units+1+n<cLine;lia) (hk j _ _ yV yU) (mZ j _ _ yW yU) q1 q2
  | @tup a xs ds ha hz hl hk=>
   cases hy with
   | @tup b ys _ hb xG xB mZ=>
    cases rx;cases ry
    by_cases e:a=b
    ·subst e;exact ZO _
    obtain⟨i1,r1,p1⟩:=Ma ok ha;obtain⟨i2,r2,p2⟩:=Ma ok hb;have kW:i1.toArray.size=ds.length:=by rw[oO,←hl];exact r1.length.symm
    have tH:i2.toArray.size=ds.length:=by rw[oO,←xB];exact r2.length.symm
    have:=SeqAt.RcAt.tuples (A:=A) (e:=λ_=>true) p1 p2 (by lia) λj h1 h2=>?_
    ·rw[Ay,kW,tH,beq_self_eq_true,Bool.and_self]at this;exact SeqAt.EqAt.of_refs e this
    have hj:j<ds.length:=by lia
    have yU:ds[j]?=some ds[j]:=oC hj;have yV:xs[j]?=some (xs[j]'(by lia)):=oC (by lia);have yW:ys[j]?=some (ys[j]'(by lia)):=oC (by lia);obtain⟨u1,e1,q1⟩:=r1.get yV;obtain⟨u2,e2,q2⟩:=r2.get yW
    have g1:i1.toArray[j]=u1:=by
     have:i1[j]?=some i1.toArray[j]:=by simp at h1 ⊢
     rw[e1]at this;exact(Option.some.inj this).symm
    have g2:i2.toArray[j]=u2:=by
     have:i2[j]?=some i2.toArray[j]:=by simp at h2 ⊢
     rw[e2]at this;exact(Option.some.inj this).symm
    rw[g1,g2];have hdm:=Af (bX hj);exact ih ds[j] A.in1 _ _ u1 u2 (by lia) (by show A.units+1+n<cLine;lia) (hk j _ _ yV yU) (mZ j _ _ yW yU) q1 q2
end
section
variable {X:Cx}
inductive Zrk(neg:Bool)(x:V)(y:V)(H:Hp)(Q:VK):Prop
 |mk(ds:_)(h1:(Dt.tup ds).dep≤150)(h2:Den H x (.tup ds))(h3:Den H y (.tup ds))(h4:Q (.bl (!neg)) H):Zrk neg x y H Q
def Zvv(neg:Bool):R2:=λx y H Q=>Zrk neg x y H Q
theorem Zie{x:V}(hu:X.A.units+160<cLine)(I:Inv X pins σ H s)(hd:(Dt.tup ds).dep≤150)(hx:Den H x (.tup ds))(hy:Den H y (.tup ds))(rx:RelV x u)(ry:RelV y v):
  ∃(a b:Addr) (i1 i2:UX),u=.ref a∧v=.ref b∧s.heap.IsTuple a i1.toArray∧s.heap.IsTuple b i2.toArray∧i1.toArray.size=ds.length∧i2.toArray.size=ds.length∧∀j (h1:j<i1.toArray.size) (h2:j<i2.toArray.size),SeqAt.EqAt X.A.in1 s i1.toArray[j] i2.toArray[j] true:=by
 cases hx with
 | @tup a xs _ ha hz hl hk=>
  cases hy with
  | @tup b ys _ hb xG xB mZ=>
   obtain⟨i1,r1,p1⟩:=Ma I.hok ha;obtain⟨i2,r2,p2⟩:=Ma I.hok hb;have kW:i1.toArray.size=ds.length:=by rw[oO,←hl];exact r1.length.symm
   have tH:i2.toArray.size=ds.length:=by rw[oO,←xB];exact r2.length.symm
   refine⟨a,b,i1,i2,rx,ry,p1,p2,kW,tH,λj h1 h2=>?_⟩;have hj:j<ds.length:=by lia
   have yU:ds[j]?=some ds[j]:=oC hj;have yV:xs[j]?=some (xs[j]'(by lia)):=oC (by lia);have yW:ys[j]?=some (ys[j]'(by lia)):=oC (by lia);obtain⟨u1,e1,q1⟩:=r1.get yV;obtain⟨u2,e2,q2⟩:=r2.get yW
   have g1:i1.toArray[j]=u1:=by
    have:i1[j]?=some i1.toArray[j]:=by simp at h1 ⊢
    rw[e1]at this;exact(Option.some.inj this).symm
   have g2:i2.toArray[j]=u2:=by
    have:i2[j]?=some i2.toArray[j]:=by simp at h2 ⊢
    rw[e2]at this;exact(Option.some.inj this).symm
   rw[g1,g2];have hdm:=Af (bX hj);exact Znf I.hok 150 ds[j] X.A.in1 _ _ u1 u2 (by lia) (by show X.A.units+1+150<cLine;lia) (hk j _ _ yV yU) (mZ j _ _ yW yU) q1 q2
theorem Zdz(hu:X.A.units+160<cLine):OpR X (compareOp .NotEq) (Zvv true):=by
 intro pins s σ H x y v u Q I rx ry h;obtain⟨ds,hd,hx,hy,q⟩:=h;obtain⟨a,b,i1,i2,rfl,rfl,p1,p2,s1,s2,he⟩:=Zie hu I hd hx hy rx ry;refine SeqAt.RcNeAt.tuples p1 p2 (by lia) (e:=λ_=>true) he _ _ _ _ ⟨.bl false,H,I,?_,q⟩;rw[Ay,s1,s2,beq_self_eq_true];rfl
theorem Zm1{k:Nat}(hr:Vn k A):A.units+160<cLine:=by have:=hr.un;lia
inductive Zrz(K:W.Frag)(n:Nat)(t:TGs)(v:V)(σ:St)(H:Hp)(Q:St→Hp→Prop):Prop
 |mk(a xs:_)(h1:v=.ref a)(h2:SqL K H a xs)(h3:xs.length=n)(h4:t xs σ H Q):Zrz K n t v σ H Q
def gLst(K:W.Frag)(n:Nat)(t:TGs):TG:=λv σ H Q=>Zrz K n t v σ H Q
theorem Zs3{k:Nat}{t:TGs}(hc:X.calm=true)(h:PGs X es t)(hK:X.K=K:=by rfl)
  (hn:(assignEach es X.env).length=n:=by rfl) (z9:(assignEach es X.env).findIdx? (·.1)=none:=by rfl):PG X (.Tuple es k pos) (gLst K n t):=by
 subst hK;intro pins s σ H v u Q I r hw;obtain⟨a,xs,e1,hq,hl,hw⟩:=hw;subst e1;cases r;obtain⟨its,rv,ht,hz⟩:=I.list hq;have hsz:its.toArray.size=n:=by rw[oO,←hl];exact rv.length.symm
 rw[assign_Tuple];refine oA (XG ?_);unfold unpack;rw[hn,z9];refine oA (iB ?_);rw[←hsz];refine W.kun_itemsOf (I.ok.hd hc) ht.isList λh' hx=>?_
 have I1:Inv X pins σ H { s with heap:=h' }:=I.kept (t':=s.toks) λb o e=>hx b o (lE (oT e)) e;exact h pins _ σ H xs _ Q I1 (by simpa using rv) hw
end
def Itk(a:Addr)(o:Obj)(kvs:List (Key×V)):It:=
 ⟨λi H=>i<kvs.length∧H a=some (.frz o (.dK kvs)),λi H x H'=>H'=H∧∃k v,kvs[i]?=some (k,v)∧x=kV k,λi H=>i=kvs.length∧H a=some (.frz o (.dK kvs))⟩
theorem De{k:Key}(h:(Z8 P w).is k u=true):RelV (kV k) u:=by
 rcases Y5 (show Gg k u=true from h) with ⟨i,t,rfl,rfl⟩|⟨x,t,rfl,rfl⟩
 ·exact⟨t,rfl⟩
 ·exact⟨t,rfl⟩
theorem Bs{kvs:List (Key×V)}{vs:List (Key×Value)}(r:KV kvs vs):kvs.length=vs.length:=YQ r
theorem Zeh:∀{kvs:List (Key×V)}{vs:List (Key×Value)}{i:Nat}{k:Key}{x:Value},KV kvs vs→vs[i]?=some (k,x)→∃v,kvs[i]?=some (k,v)
 |_,_,i,_,_,.nil,h=>by simp at h
 |_,_,0,k,x,.cons (a:=p) (b:=q) r _,h=>by
  cases h;obtain⟨e,_⟩:=r;obtain⟨pk,pv⟩:=p;have e':pk=k:=e;subst e';exact⟨pv,rfl⟩
 |_,_,i+1,k,x,.cons _ t,h=>by
  obtain⟨v,e⟩:=Zeh (i:=i) t (by simpa using h);exact⟨v,by simpa using e⟩
theorem Zhy(a it:Addr)(o:Obj)(kvs:List (Key×V))(vs:List (Key×Value))(es:Array DictEntry)(ep:Nat)(rel:KV kvs vs)(ho:∀h:Heap,h.get? a=some o→h.DictAt (Z8 P w) a vs ep):
  Turn P w K tg (Itk a o kvs) [it] it (λi h=>h.IsKeyIter it a i vs.length ep) where
 mem:=by simp
 obj:=λi h st b hb=>by
  have e:b=it:=by simpa using hb
  subst e;obtain⟨o,e,c,d⟩:=st;exact⟨o,e,λv z=>by rw[d]at z;cases z⟩
 keep:=λi h h' st k=>st.at λo e=>k it (by simp) o e
 item:=by
  intro X hP hw hK hc i pins s σ H E I hf st hg;subst hP hw hK;obtain⟨hi,hq⟩:=hg;have hd:=ho s.heap (I.hok a _ hq).1;have hl:=Bs rel;have hx:vs[i]?=some (vs[i]'(by lia)):=oC (by lia);obtain⟨f0,f1,f2,f3,f4,f5⟩:=hf it (by simp);refine wpAny_pyNext_dict_item (k:=(vs[i]'(by lia)).1) (v:=(vs[i]'(by lia)).2) st hd hx λkey h' hk m8 sb=>?_
  have I1:Inv X pins σ H { s with heap:=h' }:=I.turned (t':=s.toks) (λb o hb e=>(sb.2 b hb).trans e) f0 f1 f3 f4 f5;obtain⟨oi,e,c,d⟩:=id m8;obtain⟨v,hv⟩:=Zeh (k:=(vs[i]'(by lia)).1) (x:=(vs[i]'(by lia)).2) rel hx
  exact⟨key,rfl,Gp (s:={ s with heap:=h' }) e c d (by decide) ⟨kV _,H,I1,De hk,⟨rfl,_,v,hv,rfl⟩,m8,λb hb=>(hf b hb).1⟩⟩
 done:=by
  intro X hP hw hK hc i pins s σ H E I hf st hg;subst hP hw hK;obtain⟨hi,hq⟩:=hg;have hd:=ho s.heap (I.hok a _ hq).1;have hl:=Bs rel;obtain⟨f0,f1,f2,f3,f4,f5⟩:=hf it (by simp);exact wpAny_pyNext_dict_end (I.ok.hd hc) st hd (iO (by lia)) λh' eb=>⟨rfl,I.turned (t':=s.toks) (λb o hb e=>eb b o hb e) f0 f1 f3 f4 f5⟩
 self:=λ_ _ _ _ _ st h=>wpAny_pyIter_keyiter st h
section
variable {X:Cx}{tg:Expr}
def Zwi(te:TE):TI:=λσ H R=>te σ H λx H1=>∃a kvs,x=.ref a∧((H1 a=some (.dK kvs)∧∀o,R (Itk a o kvs) (upd H1 a (.frz o (.dK kvs))))∨∃o,H1 a=some (.frz o (.dK kvs))∧R (Itk a o kvs) H1)
theorem Zgv(he:PE X e te):PI X tg e (Zwi te):=by
 intro pins s σ H R I h;refine thn (he pins s σ H _ I h) λv s1 ⟨x,H1,I1,r1,q1⟩=>?_;obtain⟨a,kvs,e,q⟩:=q1;subst e;cases r1
 have key:∀(o:Obj) (H2:Hp),Inv X pins σ H2 s1→H2 a=some (.frz o (.dK kvs))→R (Itk a o kvs) H2→wpAny (model X.prog X.w) X.A (pyIter (.ref a)) (PIE X pins σ tg R) X.xe s1:=by
  intro o H2 I2 h2 q2;obtain⟨ho,_,z8,vs,rel,dd⟩:=I2.hok a _ h2;obtain⟨o',es,ep,b0,hx,Zty,hk,hp,hn⟩:=dd;rw[ho]at b0;cases b0;have at_:∀h:Heap,h.get? a=some o→h.DictAt (Z8 X.prog X.w) a vs ep:=λh e=>⟨o,es,e,hx,Zty,hk,hp,hn⟩;refine UL z8 (at_ s1.heap ho) ?_;refine⟨s1.heap.objs.size,[s1.heap.objs.size],_,_,H2,rfl,I2.kept (t':=s1.toks) λb o e=>oE _ e,Zhy a _ o kvs vs es ep rel at_,⟨_,oS _ rfl,rfl,rfl⟩,λb hb=>?_,q2⟩;have e:b=s1.heap.objs.size:=by simpa using hb
  subst e;exact I2.Lm (oG _) (I2.hok.fresh (oG _))
 rcases q with ⟨hd,q⟩|⟨o,hd,q⟩
 ·obtain⟨hz,z8,vs,rel,dd⟩:=I1.hok a _ hd;obtain⟨o,es,ep,ho,rest⟩:=id dd;have I2:Inv X pins σ (upd H1 a (.frz o (.dK kvs))) s1:=I1.write (x:=a) (e:=a) (t':=s1.toks) (h':=s1.heap) (by rw[hd];exact True.intro) (.inl rfl) (λb u _ e=>e) ⟨o,ho⟩ ⟨ho,hz,z8,vs,rel,dd⟩;exact key o _ I2 Zc (q o)
 ·exact key o H1 I1 hd q
theorem Zm7{kvs:List (Key×V)}(Pv:Nat→St→Hp→Prop)(h0:Pv 0 σ H)(hl:∀i σ H,i≤kvs.length→Pv i σ H→H a=some (.frz o (.dK kvs)))
  (hs:∀i k v σ H,kvs[i]?=some (k,v)→Pv i σ H→g (kV k) σ H λy4 H2=>tb { D with nx:=Pv (i+1),ct:=Pv (i+1),bk:=D.nx } y4 H2) (hd:∀σ H,Pv kvs.length σ H→D.nx σ H) :
  ∃W:Nat→Nat→St→Hp→Prop,(∃m,W 0 m σ H)∧∀i m σ H,W i m σ H→
   ((Itk a o kvs).stop i H∧D.nx σ H)∨((Itk a o kvs).go i H∧∃N:St→Hp→Prop,(∀x8 H',N x8 H'→∃m',m'<m∧W (i+1) m' x8 H')∧∀x H',(Itk a o kvs).yld i H x H'→g x σ H' λy4 H2=>tb { D with nx:=N,ct:=N,bk:=D.nx } y4 H2):=by
 refine⟨λi m σ H=>m=kvs.length-i∧i≤kvs.length∧Pv i σ H,⟨kvs.length,by simp,lD _,h0⟩,?_⟩;rintro i m σ H ⟨rfl,hi,p⟩;have q:=hl i σ H hi p
 by_cases x9:i<kvs.length
 ·refine .inr ⟨⟨x9,q⟩,Pv (i+1),λx8 H' p'=>⟨kvs.length-(i+1),by lia,rfl,x9,p'⟩,λx H' y=>?_⟩;obtain⟨e,k,v,hk,ex⟩:=y;subst e ex;exact hs i k v σ _ hk p
 ·have e:i=kvs.length:=by lia
  subst e;exact .inl ⟨⟨rfl,q⟩,hd σ H p⟩
end
section
variable {P:Program}{w:World}{A:Around}{E:UQ}{s:Shared}
theorem Zev{t:Addr}{us:TH}{x:Value}(hi:s.heap.IsTupleIter it t i)(ht:s.heap.IsTuple t us)(hx:us[i]?=some x)
  (q:∀h',h'.IsTupleIter it t (i+1)→Heap.SameBut it s.heap h'→Q x { s with heap:=h' }):wpAny (model P w) A (Builtin.SmallTypes.nextOf (.ref it)) Q E s:=by
 obtain⟨o,e0,ec,ed⟩:=id hi;obtain⟨ot,e1,_,n,e2⟩:=ht;unfold Builtin.SmallTypes.nextOf;refine oA (lR (name:=Str.ofString "__next__") hi.typeIs ZU (lP ZU hi.typeIs F.entry_tuple_iterator_next ?_ (F.args_tuple_iterator_next_1 _)));refine oA (m:=field (.ref it) 0) (iF e0 ed (x:=.ref t) rfl ?_);show wpAny _ _ (ite ((Value.ref t==Value.none)=true) _ _) _ _ s;refine(if_neg (show ¬ (Value.ref t==Value.none)=true from lA))▸?_;refine oA (m:=field (.ref it) 1) (iF e0 ed (x:=.int i 0) rfl ?_);refine oA (m:=seqItems? (.ref t)) (YZ e1 e2 ?_);simp only[bG,hx];refine oA (bR e0 ed (by simp) (oD ⟨x,rfl,oD (q _ ⟨_,lT _ e0 (bS (iS ed _)),(YW ..).trans ec,?_⟩ (iV ..))⟩));rw[iS ed];simp[rawInt]
theorem Zi5{t:Addr}{us:TH}(hh:A.handled=none)(hi:s.heap.IsTupleIter it t i)(ht:s.heap.IsTuple t us)(hx:us[i]?=none)
  (q:∀h' e,Heap.ExtBut it s.heap h'→(∃o,h'.get? e=some o∧o.cls=.type "StopIteration")→E (.ref e) { s with heap:=h' }):wpAny (model P w) A (Builtin.SmallTypes.nextOf (.ref it)) Q E s:=by
 obtain⟨o,e0,ec,ed⟩:=id hi;obtain⟨ot,e1,_,n,e2⟩:=ht;unfold Builtin.SmallTypes.nextOf;refine oA (lR (name:=Str.ofString "__next__") hi.typeIs ZU (lP ZU hi.typeIs F.entry_tuple_iterator_next ?_ (F.args_tuple_iterator_next_1 _)));refine oA (m:=field (.ref it) 0) (iF e0 ed (x:=.ref t) rfl ?_);show wpAny _ _ (ite ((Value.ref t==Value.none)=true) _ _) _ _ s;refine(if_neg (show ¬ (Value.ref t==Value.none)=true from lA))▸?_;refine oA (m:=field (.ref it) 1) (iF e0 ed (x:=.int i 0) rfl ?_);refine oA (m:=seqItems? (.ref t)) (YZ e1 e2 ?_);simp only[bG,hx];refine oA (aC (oA (bR e0 ed (by simp) (oA (m:=newExc (.type "StopIteration") []) ?_))));simp only[newExc,newTuple,raiseNew];refine oA (lS (oA (m:=firstArgMember _ _) (iQ (a:=Value.none) (by first|rfl|(simp only[firstArgMember];rfl)) (lS ?_ (by size_fits)))) (by size_fits));refine oA (XH ?_)
 first|rw[show A.in1.handled=none from hh]|rw[hh]
 exact oA (oD (WI (q _ _ (((iV ..).extBut.push _).push _) ⟨_,oS _ rfl,rfl⟩)))
theorem Znn(hh:A.handled=none)(it t:Addr)(m5:t≠it)(us:TH):Draws P w A it [it,t] us.size (λi v=>us[i]?=some v) (λi h=>h.IsTupleIter it t i∧h.IsTuple t us) where
 live:=λ_ _ ⟨⟨o,e,_⟩,_⟩=>⟨o,e⟩
 frame:=λ_ _ _ ⟨a,b⟩ k=>⟨a.at λo e=>k it (by simp) o e,b.at λo e=>k t (by simp) o e⟩
 item:=λi s Q E hi st q=>Zev st.1 st.2 (x:=us[i]) (by simp[hi]) λh' a b=>q _ h' s.toks (by simp[hi]) ⟨a,st.2.extBut b.extBut m5⟩ b
 done:=λs Q E st q=>Zi5 hh st.1 st.2 (by simp) q
open AutoSeq1 (wpAny_loadPart') in
theorem Zng(t:Addr)(us:TH)(n:Nat)(dx:TZ)(sl:TN):
  Meets (Builtin.«enumerate.__new__» ⟨[.type "enumerate",.ref t],[]⟩) (λ_ R s=>s.heap.get? t=some { cls:=.type "tuple",dict:=dx,data:=.seq us n,slots:=sl }∧
   R (.ok (.ret (.ref (s.heap.push { cls:=.type "tuple_iterator",data:=.fields #[.ref t,.int 0 0] }).objs.size))) { s with heap:=(s.heap.push { cls:=.type "tuple_iterator",data:=.fields #[.ref t,.int 0 0] }).push { cls:=.type "enumerate",data:=.fields #[.none,.bool false,.ref s.heap.objs.size,rawInt 0,.none,.none] } }):=
 .of_wp λprog w A R s h=>by
  obtain⟨hp,g,d,tk,os⟩:=s;obtain⟨ht,q⟩:=h;have Zek:=sub_enumerate;have hT:Heap.IsTuple (Shared.heap ⟨hp,g,d,tk,os⟩) t us:=⟨_,ht,rfl,n,rfl⟩
  wp_walk using iH ht
  refine wpAny_stack_any λst=>oD ?_
  split
  ·rename_i c _ _ _ _ _
   cases (c==Value.type "enumerate")<;>(wp_walk using iH ht,VW hT;exact⟨_,rfl,q⟩)
  ·wp_walk using iH ht,VW hT
   exact⟨_,rfl,q⟩
theorem Ze5{t:Addr}{us:TH}(hT:s.heap.IsTuple t us)
  (q:∀h',IsEnum h' (s.heap.objs.size+1) s.heap.objs.size 0 .none→h'.IsTupleIter s.heap.objs.size t 0→h'.objs.size=s.heap.objs.size+2→(∀b o,s.heap.get? b=some o→h'.get? b=some o)→Q (.ref (s.heap.objs.size+1)) { s with heap:=h' }) :
  wpAny (model P w) A (call (.type "enumerate") [.ref t]) Q E s:=by
 obtain⟨⟨c,dx,dt,sl⟩,ht,ec,n,ed⟩:=hT;obtain rfl:c=.type "tuple":=ec;obtain rfl:dt=.seq us n:=ed;refine callType_new UC (by decide) (WL _) (WX _) (λobj=>VJ obj _) WY (Zng t us n dx sl) ⟨ht,?_⟩;have z:(s.heap.push { cls:=.type "tuple_iterator",data:=.fields #[.ref t,.int 0 0] }).objs.size=s.heap.objs.size+1:=bB ..;show _∧_;have en:=oS (s.heap.push { cls:=.type "tuple_iterator",data:=.fields #[.ref t,.int 0 0] }) (o:={ cls:=.type "enumerate",data:=.fields #[.none,.bool false,.ref s.heap.objs.size,rawInt 0,.none,.none] }) rfl;rw[z]at en ⊢;exact⟨⟨_,en,rfl⟩,q _ en ⟨_,oE _ (oS _ rfl),rfl,rfl⟩ (by rw[bB,z]) λb o x=>oE _ (oE _ x)⟩
end
theorem Inv.Zok(I:Inv X pins σ H s)(k:∀b o,b∉fp→s.heap.get? b=some o→h'.get? b=some o)(hf:∀b∈fp,Eh X pins H b):
  Inv X pins σ H { s with heap:=h',toks:=t' }:=by
 have vK:∀b u,H b=some u→b∉fp:=λb u e z=>by rw[(hf b z).1]at e;cases e
 refine I.step (g':=s.gens) (d':=s.drawn) (ch:=fp) (λb hb=>?_) (λb o _ _ hc e _=>k b o hc e) (λb o _ _ hc e _=>⟨o.slots,k b o hc e⟩) (λ_ _ _ _ n=>n) (λb o hc e=>⟨o,k b o hc e⟩) (λ_ _ e=>e) (λ_ _ _ e=>e) (λb ps e=>⟨#[],by rw[e];simp⟩) (λm hm=>?_) (λb u e=>?_) I.bare
 ·obtain⟨_,f1,_,f3,f4,f5⟩:=hf b hb;exact⟨f3,f1,f4,f5⟩
 ·obtain⟨o,es,ep,ho,r⟩:=hm;exact⟨o,es,ep,k _ o (λz=>(hf _ z).2.1 rfl) ho,r⟩
 ·refine(I.hok b u e).Ir (λc v hc q=>k c v (λy=>?_) q) (λ_ q=>q) λ_ _ q=>q
  rcases hc with z|z
  ·rw[z]at y;exact vK b u e y
  ·exact vK c _ z y
def ItE(Sq:Hp→List V→Prop):It:=
 ⟨λi H=>∃xs x,Sq H xs∧xs[i]?=some x,λi H x H'=>∃p y,x=.ref p∧H p=none∧H'=upd H p (.tup [.int i,y])∧∀xs,Sq H xs→xs[i]?=some y,λi H=>∃xs,Sq H xs∧xs.length=i⟩
theorem Oj{h1 h2:Heap}{e:Addr}{tk:Nat}(I:Inv X pins σ H s)(hf:∀b∈[e,it],Eh X pins H b)(ru:RelV y u)
  (ht:h1.get? s.heap.objs.size=some { cls:=.type "tuple",data:=.seq #[.int i tk,u] }) (k:∀b o,b≠e→b≠it→s.heap.get? b=some o→h1.get? b=some o) (sb:Heap.SameBut e h1 h2) (d8:e<s.heap.objs.size) (k8:it<s.heap.objs.size) :
  Inv X pins σ (upd H s.heap.objs.size (.tup [.int i,y])) { s with heap:=h2,toks:=t' }∧∀b∈[e,it],upd H s.heap.objs.size (.tup [.int i,y]) b=none:=by
 have hn:∀b∈[e,it],upd H s.heap.objs.size (.tup [.int i,y]) b=none:=λb hb=>by
  have j9:b=e∨b=it:=by simpa using hb
  have x9:b<s.heap.objs.size:=by
   rcases j9 with z|z
   ·rw[z];exact d8
   ·rw[z];exact k8
  rw[Zk (lE x9)];exact(hf b hb).1
 have I1:Inv X pins σ (upd H s.heap.objs.size (.tup [.int i,y])) { s with heap:=s.heap.push { cls:=.type "tuple",data:=.seq #[.int i tk,u] },toks:=s.toks }:=
  I.laid (λb o q=>oE _ q) (oG _) ⟨(by show 2≤sizeLine;decide),[.int i tk,u],.cons ⟨tk,rfl⟩ (.cons ru .nil),⟨_,oS _ rfl,rfl,_,rfl⟩⟩
 have I2:=I1.Zok (fp:=[e,it]) (h':=h2) (t':=t') (λb o hb q=>?_) (λb hb=>⟨hn b hb,(hf b hb).2⟩)
 ·exact⟨I2,hn⟩
 have gO:b≠e:=λz=>hb (by simp[z]);have d7:b≠it:=λz=>hb (by simp[z]);refine(sb.2 b gO).trans ?_
 rcases Heap.get?_push_cases q with ⟨z1,z2⟩|z
 ·rw[z1,z2];exact ht
 ·exact k b o gO d7 z
theorem Zc6(a e it:Addr)(i7:e≠it):
  Turn P w K (.Tuple es n pos) (ItE λH xs=>SqL K H a xs) [e,it] e (λi h=>(∃old,IsEnum h e it i old)∧h.IsListIter it a i) where
 mem:=by simp
 obj:=λi h st b hb=>by
  obtain⟨⟨old,he⟩,oi,e1,c1,d1⟩:=st;have j9:b=e∨b=it:=by simpa using hb
  rcases j9 with z|z
  ·subst z;exact⟨_,he,λv z=>by cases z⟩
  ·subst z;exact⟨oi,e1,λv z=>by rw[d1]at z;cases z⟩
 keep:=λi h h' st k=>⟨let ⟨old,he⟩:=st.1;⟨old,k e (by simp) _ he⟩,st.2.at λo q=>k it (by simp) o q⟩
 item:=by
  intro X hP hw hK hc i pins s σ H E I hf st hg;subst hP hw hK;obtain⟨xs,x,hq,hx⟩:=hg;obtain⟨its,rv,p,hz⟩:=I.list hq;obtain⟨u,hu,ru⟩:=rv.get hx;obtain⟨⟨old,he⟩,hit⟩:=st;have d8:=oT he;have k8:it<s.heap.objs.size:=by obtain⟨o,q,_⟩:=id hit;exact oT q
  refine wpAny_pyNext_enum_item he hit p.isList (x:=u) (by simpa using hu) i7 λh1 i8 Zen kK tE kB=>⟨_,rfl,?_⟩;refine ZV i8 λh2 o4 sb=>?_;obtain⟨I2,hn⟩:=Oj (t':=s.toks+1) I hf ru kK kB sb d8 k8;exact⟨.ref s.heap.objs.size,_,I2,rfl,⟨_,x,rfl,I.hok.fresh (oG _),rfl,λys hy=>by rw[I.Ge hy hq];exact hx⟩,⟨⟨_,by simpa using o4⟩,Zen.at λo q=>(sb.2 it (iY i7)).trans q⟩,hn⟩
 done:=by
  intro X hP hw hK hc i pins s σ H E I hf st hg;subst hP hw hK;obtain⟨xs,hq,hx⟩:=hg;obtain⟨its,rv,p,hz⟩:=I.list hq;have hl:=rv.length;obtain⟨⟨old,he⟩,hit⟩:=st;obtain⟨f0,f1,f2,f3,f4,f5⟩:=hf it (by simp);exact wpAny_pyNext_enum_end (I.ok.hd hc) he hit p.isList (by simp;lia) λh' eb=>⟨rfl,I.turned (t':=s.toks) (λb o hb q=>eb b o hb q) f0 f1 f3 f4 f5⟩
 self:=λ_ _ _ _ _ st h=>let ⟨_,he⟩:=st.1;aO he h
theorem Zc5(a e it:Addr)(i7:e≠it):
  Turn P w K (.Tuple es n pos) (ItE λH xs=>SqT K H a xs) [e,it] e (λi h=>(∃old,IsEnum h e it i old)∧h.IsTupleIter it a i) where
 mem:=by simp
 obj:=λi h st b hb=>by
  obtain⟨⟨old,he⟩,oi,e1,c1,d1⟩:=st;have j9:b=e∨b=it:=by simpa using hb
  rcases j9 with z|z
  ·subst z;exact⟨_,he,λv z=>by cases z⟩
  ·subst z;exact⟨oi,e1,λv z=>by rw[d1]at z;cases z⟩
 keep:=λi h h' st k=>⟨let ⟨old,he⟩:=st.1;⟨old,k e (by simp) _ he⟩,st.2.at λo q=>k it (by simp) o q⟩
 item:=by
  intro X hP hw hK hc i pins s σ H E I hf st hg;subst hP hw hK;obtain⟨xs,x,hq,hx⟩:=hg;obtain⟨its,rv,p,hz⟩:=I.tuple hq;have hl:=rv.length
  have x9:i<its.toArray.size:=by
   have:=(oF.mp hx).1;simp;lia
  obtain⟨⟨old,he⟩,hit⟩:=st;have d8:=oT he;have hT:s.heap.IsTuple a its.toArray:=p;have k8:it<s.heap.objs.size:=by obtain⟨o,q,_⟩:=id hit;exact oT q
  have nat:a≠it:=λz=>by
   obtain⟨o,q,c,_⟩:=id hit;obtain⟨o2,q2,c2,_⟩:=id hT;rw[z,q]at q2;cases q2;rw[c]at c2
   injection c2 with c2
   exact absurd c2 (by decide)
  have vH:a≠e:=λz=>by
   obtain⟨o2,q2,c2,_⟩:=id hT;rw[z,he]at q2;cases q2
   injection c2 with c2
   exact absurd c2 (by decide)
  have uC:e∉[it,a]:=by simp[i7,iY vH]
  refine XY (Znn (A:=X.A.in1) (I.ok.hd hc) it a nat its.toArray) he ⟨hit,hT⟩ x9 i7 uC λu h1 tk hu i8 Zen kK tE kB=>⟨_,rfl,?_⟩;refine ZV i8 λh2 o4 sb=>?_;obtain⟨u',hu',ru⟩:=rv.get hx
  have eu:u=u':=by
   have h3:its[i]?=some u:=by simpa using hu
   rw[hu']at h3;exact(Option.some.inj h3).symm
  subst eu;obtain⟨I2,hn⟩:=Oj (t':=tk+1) I hf ru kK kB sb d8 k8;exact⟨.ref s.heap.objs.size,_,I2,rfl,⟨_,x,rfl,I.hok.fresh (oG _),rfl,λys hy=>by rw[I.Ep hy hq];exact hx⟩,⟨⟨_,by simpa using o4⟩,Zen.1.at λo q=>(sb.2 it (iY i7)).trans q⟩,hn⟩
 done:=by
  intro X hP hw hK hc i pins s σ H E I hf st hg;subst hP hw hK;obtain⟨xs,hq,hx⟩:=hg;obtain⟨its,rv,p,hz⟩:=I.tuple hq;have hl:=rv.length;obtain⟨⟨old,he⟩,hit⟩:=st;have hT:s.heap.IsTuple a its.toArray:=p
  have nat:a≠it:=λz=>by
   obtain⟨o,q,c,_⟩:=id hit;obtain⟨o2,q2,c2,_⟩:=id hT;rw[z,q]at q2;cases q2;rw[c]at c2
   injection c2 with c2
   exact absurd c2 (by decide)
  obtain⟨f0,f1,f2,f3,f4,f5⟩:=hf it (by simp);have ei:i=its.toArray.size:=by simp;lia
  subst ei;exact WM (Znn (A:=X.A.in1) (I.ok.hd hc) it a nat its.toArray) he ⟨hit,hT⟩ λh' eb=>⟨rfl,I.turned (t':=s.toks) (λb o hb q=>eb b o hb q) f0 f1 f3 f4 f5⟩
 self:=λ_ _ _ _ _ st h=>let ⟨_,he⟩:=st.1;aO he h
section
variable {X:Cx}{es:SA}{n:Nat}{tp:Pos}
def Zwh(K:W.Frag)(te:TE):TI:=λσ H R=>te σ H λx H1=>∃a xs,x=.ref a∧((SqL K H1 a xs∧R (ItE λH xs=>SqL K H a xs) H1)∨(SqT K H1 a xs∧R (ItE λH xs=>SqT K H a xs) H1))
theorem C9(hg:Gl X "enumerate")(hm:X.mg "enumerate"=none)(he:PE X e te)(hK:X.K=K:=by rfl)
  (h2:starEach [e] X.env=(false,eval e X.env) :: starEach [] X.env:=by rfl):PI X (.Tuple es n tp) (.Call (.Name "enumerate" p) [e] [] pos) (Zwh K te):=by
 subst hK;intro pins s σ H R I h
 refine iI (Vc I hg hm Rr (iC (thn (Za he Zb h2 pos pins s σ H (λvs H1=>match vs with|[x]=>∃a xs,x=.ref a∧((SqL X.K H1 a xs∧R (ItE λH xs=>SqL X.K H a xs) H1)∨(SqT X.K H1 a xs∧R (ItE λH xs=>SqT X.K H a xs) H1))|_=>False) I h) λus s1 ⟨vs,H1,I1,r1,q1⟩=>?_) h2 rfl))
 obtain⟨x0,e0,a,xs,e1,q⟩:∃x0,vs=[x0]∧∃a xs,x0=.ref a∧((SqL X.K H1 a xs∧R (ItE λH xs=>SqL X.K H a xs) H1)∨(SqT X.K H1 a xs∧R (ItE λH xs=>SqT X.K H a xs) H1)):=by
  match vs,q1 with
  |[x0],q1=>exact⟨x0,rfl,q1⟩
 subst e0 e1;obtain⟨u,rfl,ru⟩:=Vals.one r1;obtain rfl:u=Value.ref a:=ru
 have fp:∀b∈[s1.heap.objs.size+1,s1.heap.objs.size],Eh X pins H1 b:=λb hb=>by
  have j9:b=s1.heap.objs.size+1∨b=s1.heap.objs.size:=by simpa using hb
  rcases j9 with z|z
  ·rw[z];exact I1.Lm (cY _) (I1.hok.fresh (cY _))
  ·rw[z];exact I1.Lm (oG _) (I1.hok.fresh (oG _))
 rcases q with ⟨hx,q⟩|⟨hx,q⟩
 ·obtain⟨its,rv,pl,hz⟩:=I1.list hx;refine call_enumerate_list pl.isList λh' hE hI hsz hk=>aO hE ?_;exact⟨_,[s1.heap.objs.size+1,s1.heap.objs.size],_,_,H1,rfl,I1.kept (t':=s1.toks) hk,Zc6 a _ _ (YE _),⟨⟨_,hE⟩,hI⟩,fp,q⟩
 ·obtain⟨its,rv,pl,hz⟩:=I1.tuple hx;refine Ze5 (show s1.heap.IsTuple a its.toArray from pl) λh' hE hI hsz hk=>aO hE ?_;exact⟨_,[s1.heap.objs.size+1,s1.heap.objs.size],_,_,H1,rfl,I1.kept (t':=s1.toks) hk,Zc5 a _ _ (YE _),⟨⟨_,hE⟩,hI⟩,fp,q⟩
end
theorem Gs{Sq:Hp→List V→Prop}(Pv:Nat→St→Hp→Prop)(h0:Pv 0 σ H)(hl:∀i σ H,i≤xs.length→Pv i σ H→Sq H xs)
  (hs:∀i x σ H p,xs[i]?=some x→Pv i σ H→H p=none→g (.ref p) σ (upd H p (.tup [.int i,x])) λy4 H2=>tb { D with nx:=Pv (i+1),ct:=Pv (i+1),bk:=D.nx } y4 H2) (hd:∀σ H,Pv xs.length σ H→D.nx σ H) :
  ∃W:Nat→Nat→St→Hp→Prop,(∃m,W 0 m σ H)∧∀i m σ H,W i m σ H→
   ((ItE Sq).stop i H∧D.nx σ H)∨((ItE Sq).go i H∧∃N:St→Hp→Prop,(∀x8 H',N x8 H'→∃m',m'<m∧W (i+1) m' x8 H')∧∀x H',(ItE Sq).yld i H x H'→g x σ H' λy4 H2=>tb { D with nx:=N,ct:=N,bk:=D.nx } y4 H2):=by
 refine⟨λi m σ H=>m=xs.length-i∧i≤xs.length∧Pv i σ H,⟨xs.length,by simp,lD _,h0⟩,?_⟩;rintro i m σ H ⟨rfl,hi,p⟩;have q:=hl i σ H hi p
 by_cases x9:i<xs.length
 ·refine .inr ⟨⟨xs,xs[i],q,by simp[x9]⟩,Pv (i+1),λx8 H' p'=>⟨xs.length-(i+1),by lia,rfl,x9,p'⟩,λx H' y=>?_⟩;obtain⟨a,y,e1,hn,e2,hy⟩:=y;subst e1 e2;exact hs i y σ H a (hy xs q) p hn
 ·have e:i=xs.length:=by lia
  subst e;exact .inl ⟨⟨xs,q,rfl⟩,hd σ H p⟩
def D7{Sq:Hp→List V→Prop}{xs:List V}{n:Nat}{fr:List Nat}{g:TG}{tt:TT}{te:TE}{σ:St}{H:Hp}{Q:VK}(Pv:Nat→List V→Hp→Prop)(hk:xs.length<sizeLine)(h0:Pv 0 [] H)(hlen:∀i acc H,Pv i acc H→acc.length≤i)
  (hl:∀i acc H,Pv i acc H→Sq H xs)
  (hs:∀i acc H2 x p,xs[i]?=some x→Pv i acc H2→H2 p=none→g (.ref p) (To n fr σ) (upd H2 p (.tup [.int i,x])) λm9 H4=>tt m9 H4 λb H5=>if b=true then te m9 H5 λv H6=>Pv (i+1) (acc++[v]) H6 else Pv (i+1) acc H5)
  (hd:∀acc H2,Pv xs.length acc H2→∀l,H2 l=none→Q (.ref l) (upd H2 l (.lst acc))):=
 U6 (J:=ItE Sq) (n:=n) (fr:=fr) (g:=g) (tt:=tt) (te:=te) (σ:=σ) (Q:=Q) Pv hk h0 hlen (λi acc H hi p=>⟨xs,xs[i],hl i acc H p,by simp[hi]⟩) (λacc H p=>⟨xs,hl _ acc H p,rfl⟩) (λi acc H2 x H3 hi p y=>by
  obtain⟨a,y,e1,hn,e2,hy⟩:=y;subst e1 e2
  exact hs i acc H2 y a (hy xs (hl i acc H2 p)) p hn) hd
section
variable {P:Program}{w:World}{κ:Type} [DecidableEq κ] {knd:HeapKind P w κ}{A:Around}{E:UQ}{s:Shared}
theorem Zaz{xs:List (κ×Addr×Value)}{k:κ}{dflt:Value}(hu:knd.room A)(B4:knd.is s.heap k a)(hm:s.heap.DictOfH knd d xs)(hsz:xs.length≤sizeLine)
  (h1:∀p,atKey xs k=some p→Q p.2 { s with toks:=s.toks+knd.draws k }) (h2:atKey xs k=none→∀h',h'.DictOfH knd d (storedH xs k a dflt)→Heap.SameBut d s.heap h'→Q dflt { s with heap:=h',toks:=s.toks+knd.draws k }) :
  wpAny (model P w) A (dictSetDefault d (.ref a) dflt) Q E s:=by
 obtain⟨o,es,ep,ho,hc,hd,he,zW,hn⟩:=hm;unfold dictSetDefault
 try with_reducible refine iB ?_
 refine oA (knd.pyHash hu B4 (oA (wpAny_dictFind_heap (s:={ s with toks:=s.toks+knd.draws k }) hu B4 ho hd he zW hn (λno=>?_) λj p hj=>?_)))
 ·have h0:=atKey_none_of_get no;have e:=storedH_new h0 a dflt;have z:=size_of_entries he
  refine oA (aC (oA (wpAny_updateDictKeys (hz:=by lia) (s:={ s with toks:=s.toks+knd.draws k }) ho hd (oD (h2 h0 _ ?_ (iV ..))))));refine⟨_,_,ep+1,lT _ ho (Obj.isFreed_of_dict (Obj.data_mapDictKeys hd _)),hc.mapDictKeys _,Obj.data_mapDictKeys hd _,?_,?_,?_⟩<;>rw[e]
  ·simp[he,entryOfKey]
  ·intro x hx
   rcases iD.mp hx with y|y
   ·exact knd.keeps (zW x y) ho hd (iV ..)
   ·rw[oU.mp y];exact knd.keeps B4 ho hd (iV ..)
  ·rw[lH,WD];refine⟨hn,by simp,λx hx y hy q=>not_mem_keys_of_get no ?_⟩;have:y=k:=by simpa using hy
   rw[←this,←q];exact hx
 ·refine oA (ZY (s:={ s with toks:=s.toks+knd.draws k }) ho hd ?_);rw[entry_at he j,hj];exact oA (aC (oD (h1 p (atKey_of_get hn hj))))
theorem F6{k:κ}(hs:(d==sysModules)=false)(dflt:Value):
  MeetsIn P w (Builtin.«dict.setdefault» ⟨[.ref d,.ref a,dflt],[]⟩) (λA R s=>knd.room A.in1∧knd.is s.heap k a∧∃xs,s.heap.DictOfH knd d xs∧xs.length≤sizeLine∧
   (∀p,atKey xs k=some p→R (.ok (.ret p.2)) { s with toks:=s.toks+knd.draws k })∧(atKey xs k=none→∀h',h'.DictOfH knd d (storedH xs k a dflt)→Heap.SameBut d s.heap h'→R (.ok (.ret dflt)) { s with heap:=h',toks:=s.toks+knd.draws k })):=
 .of_wp λA R s ⟨hu,hk,xs,hm,hz,h1,h2⟩=>by
  unfold Builtin.«dict.setdefault» Builtin.Dict.keyAndDefault;refine oA (oA (WZ hm.typeIs (oD ?_)));show wpAny _ _ (ite ((d==sysModules)=true) _ (dictSetDefault d (.ref a) dflt >>= _)) _ _ s;rw[hs,if_neg lA];exact oA (Zaz hu hk hm hz (λp q=>oD ⟨_,rfl,h1 p q⟩) λn h' a b=>oD ⟨_,rfl,h2 n h' a b⟩)
end
section
variable {X:Cx}
def Zse(td ty tx:TE):TE:=λσ H Q=>td σ H λx H1=>∃a,x=.ref a∧IsD H1 a∧ty σ H1 λy H2=>tx σ H2 λz H3=>∃kvs k b,H3 a=some (.dT kvs)∧y=.ref b∧H3 b=some (.tup (k.map kV))∧kvs.length<sizeLine∧
 (∀v,Yz kvs k=some v→Q v H3)∧(Yz kvs k=none→Q z (upd H3 a (.dT (putK kvs k z))))
theorem Zll{o f:Expr}{tx:TE}(hu:X.A.units+1<cLine)(ho:PE X o td)(he:PE X e ty)(hf:PE X f tx)(m:M2 X o "setdefault" apos e f Xc):PE X (.Call (.Attribute o "setdefault" apos) [e,f] [] Xc) (Zse td ty tx):=by
 intro pins s σ H Q I h;refine wpAny_Call_method m.base m.few m.line PySem.F.plainAttrs_dict ZF PySem.F.type_dict_setdefault (thn (ho pins s σ H _ I h) λu s1 ⟨x,H1,I1,rx,a,ex,d,q1⟩=>?_);subst ex;obtain rfl:u=Value.ref a:=rx;obtain⟨t1,t2,_⟩:=Ztr I1 d;refine⟨t1,t2,?_⟩;rw[m.trees]
 refine ZG rfl (XB (aG (thn (he pins s1 σ H1 _ I1 q1) λiv s2 ⟨y,H2,I2,ry,q2⟩=>
  aG (thn (hf pins s2 σ H2 _ I2 q2) λfv s3 ⟨z,H3,I3,rz,kvs,k,b,hk,ey,hb,x9,q3,q4⟩=>ZW ?_))))
 subst ey;obtain rfl:iv=Value.ref b:=ry;obtain⟨hz,z8,xs,rel,dd⟩:=Znm I3.hok hk;have kO:xs.length≤sizeLine:=by rw[←YQ rel];exact hz
 refine call_meetsIn ZF dd.typeIs PySem.F.entry_dict_setdefault (VL _ _ _) (F6 (knd:=tupleKind (Z8 X.prog X.w)) (k:=k) z8 fv) ⟨tupleKind_room_in1 hu,Ki I3.hok hb,xs,dd,kO,λp hp=>?_,λhn h' b9 hs=>?_⟩
 ·have r:=rel.val k;rw[hp]at r
  cases hv:Yz kvs k with
  |none=>rw[hv]at r;exact r.elim
  |some v=>
   rw[hv]at r;exact⟨v,H3,I3.tok _,r,q3 v hv⟩
 ·have r:=rel.val k;rw[hn]at r
  have hv:Yz kvs k=none:=by
   cases hv:Yz kvs k with
   |none=>rfl
   |some v=>rw[hv]at r;exact r.elim
  have hl:(putK kvs k z).length≤sizeLine:=by have:=V9 kvs k z;lia
  obtain⟨q,es,ep,hq,h2,h3,h4,_,h5⟩:=b9;refine⟨z,upd H3 a (.dT (putK kvs k z)),Om I3 (by rw[hk];exact True.intro) hs ⟨q,hq⟩ ⟨hl,z8,_,(rel.put k hb rz).keeps λc ys ec=>?_,q,es,ep,hq,h2,h3,h4,h5⟩,rz,q4 hv⟩;rw[Zk (Wu ec hk (λz=>nomatch z))];exact ec
end
def isB(b:Bool):Value→Bool
 |.bool c=>b==c
 |_=>false
theorem Gk{b:Bool}(h:isB b v=true):v=.bool b:=by
 cases v<;>simp_all [isB]
def G8(P:Program)(w:World):PySem.KeyKind P w Bool where
 is:=isB
 hash:=λb=>reduceHash (if b then 1 else 0)
 inj:=λv a b ha hb=>by
  rw[Gk ha]at hb;exact(eq_of_beq hb).symm
 byValue:=λk v h=>by rw[Gk h];rfl
 pyHash:=λ{A E s k v Q} hv h=>by
  rw[Gk hv];refine W.pyHash_slot (T:="bool") rfl F.slot_bool_hash entry_int_hash (args_int_hash _) (beq_builtin_none _) (.inl rfl) ?_;cases k
  ·exact(show wpAny _ _ (do ret (←mkInt 0)) _ _ s from oA (WK (oD ⟨_,_,rfl,h⟩)))
  ·exact(show wpAny _ _ (do ret (←mkInt 1)) _ _ s from oA (WK (oD ⟨_,_,rfl,h⟩)))
 eqBool:=λ{A E s a b u v Q} hu hv h=>by
  rw[Gk hu,Gk hv];exact PySem.SeqAt.EqAt.bool_bool a b P w E Q (by cases a<;>cases b<;>exact h)
 «strs»:=λk x t v h=>by cases h
theorem Zc2{κ:Type} [DecidableEq κ] {kvs:List (κ×Value)}{k:κ} (h:valueAt kvs k=none) (v:Value) (x:κ):valueAt (stored kvs k v) x=if x=k then some v else valueAt kvs x:=by
 have hn:kvs.find? (λkv=>decide (kv.1=k))=none:=by
  unfold valueAt at h;exact Option.map_eq_none_iff.mp h
 have ha:kvs.any (λkv=>decide (kv.1=k))=false:=by
  rw[List.find?_eq_none]at hn;rw[List.any_eq_false];exact hn
 unfold stored;rw[ha,if_neg lA];unfold valueAt;rw[List.find?_append]
 by_cases c:x=k
 ·subst c;rw[hn,if_pos rfl];simp
 ·rw[if_neg c];have:([(k,v)]:List (κ×Value)).find? (λkv=>decide (kv.1=x))=none:=by simp[iY c]
  rw[this,Option.or_none]
def Zcn(P:Program)(w:World)(a:Addr)(f:Bool→Option V)(n:Nat):HO:=.ext λh=>(a==sysModules)=false∧∃kvs,h.DictOf (G8 P w) a kvs∧kvs.length≤n∧∀b,Kp (f b) (valueAt kvs b)
theorem Zhk{f:Bool→Option V}{kvs:List (Bool×Value)}(hs:(a==sysModules)=false)(d:h.DictOf (G8 P w) a kvs)(hn:kvs.length≤n)(r:∀b,Kp (f b) (valueAt kvs b)):Yy P w H h a (Zcn P w a f n):=by
 refine⟨⟨hs,kvs,d,hn,r⟩,let ⟨o,_,_,e,_⟩:=d;⟨o,e⟩,λh1 h2 x k=>?_⟩;obtain⟨a1,kvs,⟨o,es,ep,e,r⟩,a3,a4⟩:=x;exact⟨a1,kvs,⟨o,es,ep,k o e,r⟩,a3,a4⟩
section
variable {X:Cx}{pos:Pos}
def Zsi(P:Program)(w:World):TE:=λ_ H Q=>∀p,H p=none→Q (.ref p) (upd H p (Zcn P w p (λ_=>none) 0))
theorem Zlo(hP:X.prog=P:=by rfl)(hw:X.w=w:=by rfl):PE X (.Dict [] [] pos) (Zsi P w):=by
 subst hP hw
 exact λpins s σ H Q I h=>
 wpAny_Dict_empty ⟨.ref s.heap.objs.size,_,I.laid (a:=s.heap.objs.size) (o:=Zcn X.prog X.w s.heap.objs.size (λ_=>none) 0) (t':=s.toks) (λ_ _ q=>oE _ q) (oG _) (Zhk (beq_eq_false_iff_ne.mpr (iY (lE I.big))) (Heap.DictOf.new s.heap) (lD _) λ_=>True.intro),rfl,h _ (I.hok.fresh (oG _))⟩
def Zsf(P:Program)(w:World)(td ty tx:TE):TE:=λσ H Q=>td σ H λx H1=>∃a f n,x=.ref a∧H1 a=some (Zcn P w a f n)∧ty σ H1 λy H2=>tx σ H2 λz H3=>∃b f n,H3 a=some (Zcn P w a f n)∧y=.bl b∧n<sizeLine∧
 (∀v,f b=some v→Q v H3)∧(f b=none→Q z (upd H3 a (Zcn P w a (λx=>if x=b then some z else f x) (n+1))))
theorem Zlm{o g:Expr}{tx:TE}(ho:PE X o td)(he:PE X e ty)(hf:PE X g tx)(m:M2 X o "setdefault" apos e g Xc)(hP:X.prog=P:=by rfl)(hw:X.w=w:=by rfl):PE X (.Call (.Attribute o "setdefault" apos) [e,g] [] Xc) (Zsf P w td ty tx):=by
 subst hP hw;intro pins s σ H Q I h;refine wpAny_Call_method m.base m.few m.line PySem.F.plainAttrs_dict ZF PySem.F.type_dict_setdefault (thn (ho pins s σ H _ I h) λu s1 ⟨x,H1,I1,rx,a,f,n,ex,d,q1⟩=>?_);subst ex;obtain rfl:u=Value.ref a:=rx;obtain⟨⟨_,kvs1,d1,_⟩,_⟩:=I1.hok a _ d;refine⟨d1.typeIs,λb e=>?_,?_⟩
 ·cases e;obtain⟨o,_,_,ho,hc,_⟩:=d1;exact⟨o,ho,hc.2.1⟩
 rw[m.trees]
 refine ZG rfl (XB (aG (thn (he pins s1 σ H1 _ I1 q1) λiv s2 ⟨y,H2,I2,ry,q2⟩=>
  aG (thn (hf pins s2 σ H2 _ I2 q2) λfv s3 ⟨z,H3,I3,rz,b,f,n,hk,ey,x9,q3,q4⟩=>ZW ?_))))
 subst ey;obtain rfl:iv=Value.bool b:=ry;obtain⟨⟨z8,kvs,dd,hl,rel⟩,_⟩:=I3.hok a _ hk;refine call_meetsIn ZF dd.typeIs PySem.F.entry_dict_setdefault (VL _ _ _) (kt_meets_setdefault (G8 X.prog X.w) (k:=b) a (by show (b==b)=true;simp) z8 fv) ⟨kvs,dd,by lia,λw' hw=>?_,λhn h' b9 hs=>?_⟩
 ·have r:=rel b;rw[hw]at r
  cases hv:f b with
  |none=>rw[hv]at r;exact r.elim
  |some v=>
   rw[hv]at r;exact⟨v,H3,I3.tok _,r,q3 v hv⟩
 ·have r:=rel b;rw[hn]at r
  have hv:f b=none:=by
   cases hv:f b with
   |none=>rfl
   |some v=>rw[hv]at r;exact r.elim
  refine⟨z,upd H3 a (Zcn X.prog X.w a (λx=>if x=b then some z else f x) (n+1)),Om I3 (by rw[hk];exact True.intro) hs (let ⟨q,_,_,e,_⟩:=b9;⟨q,e⟩) (Zhk z8 b9 (lI (stored_length_le _ _ _) (by lia)) λx=>?_),rz,q4 hv⟩;rw[Zc2 hn]
  by_cases c:x=b
  ·rw[if_pos c,if_pos c];exact rz
  ·rw[if_neg c,if_neg c];exact rel x
end
def Jv(ns:List Int):List Int:=firstMet (λi=>ns.getD i 0) ns.length
theorem Ii:∀{ns:List Int}{us:UX},Vals (ns.map V.int) us→IntsAre us ns
 |[],_,r=>by cases r;exact .nil
 |n :: ns,_,r=>by
  cases r with
  |cons h t=>
   obtain⟨k,rfl⟩:=h;exact .cons _ _ (Ii t)
section
variable {X:Cx}
inductive Zk2(K:W.Frag)(xs:List V)(H:Hp)(Q:VK):Prop
 |mk(p ns:_)(h1:xs=[.ref p])(h2:SqL K H p (ns.map V.int))(h3:ns.length+1<scanBound)(h4:∀l,H l=none→Q (.ref l) (upd H l (.set (λk=>(Jv ns).any (· == k)) (Jv ns).length))):Zk2 K xs H Q
def Zvq(K:W.Frag):List V→Hp→VK→Prop:=λxs H Q=>Zk2 K xs H Q
theorem Ca(hc:X.calm=true)(hK:X.K=K:=by rfl):X4 X (.type "set") (Zvq K):=by
 subst hK;intro pins s σ H xs us Q I r h;obtain⟨p,ns,rfl,hp,hz,q⟩:=h;obtain⟨u,rfl,ru⟩:=vals1 r;obtain rfl:u=Value.ref p:=ru;obtain⟨its,rv,pl,_⟩:=I.list hp;have hl:its.toArray.size=ns.length:=by rw[oO,←rv.length,oB]
 refine PySem.call_set_list (I.ok.hd hc) pl.isList (ns:=ns) (Ii rv) (by rw[hl];exact hz) λh' tk hS k=>?_;rw[hl]at hS;exact⟨.ref s.heap.objs.size,_,I.laid (λb o e=>k b o (oT e) e) (oG _) (show Yy X.prog X.w _ h' _ (.set (λk=>(Jv ns).any (· == k)) (Jv ns).length) from hS),rfl,q _ (I.hok.fresh (oG _))⟩
theorem K9:X4 X (.builtin "len") (λxs H Q=>∃p S n,xs=[.ref p]∧H p=some (.set S n)∧Q (.int (n:Int)) H):=by
 intro pins s σ H xs us Q I r h;obtain⟨p,S,n,rfl,hp,q⟩:=h;obtain⟨u,rfl,ru⟩:=vals1 r;obtain rfl:u=Value.ref p:=ru;obtain⟨o,es,ep,t,ho,hex,hd,_,_,hb,hf,hn⟩:=(show s.heap.SetOf (intKind X.prog X.w) p S n from I.hok p _ hp);subst hn;exact call_len_set ho hex hd hf (by have h:scanBound≤2 ^ 62:=(by decide);lia) ⟨.int (es.size:Int),H,I.tok _,⟨_,rfl⟩,q⟩
end
def Zu4(P:Addr)(L:List TQ)(fdOf:Value→Addr→Value→FuncData)(q:Str)(i:Nat):TS:=λD σ H=>Tb P L H∧
 ∀H' f c ct doc,Ve P H H'→Tb P L H'→H f=none→H' f=some (FnO f (fdOf doc c ct))→H' c=some (CdO c q)→D.nx (σ.set i (some (.ref f))) H'
section
variable {X:Cx}{name:Str}{params:Arguments}{body:List Stmt}{scope:Scope}{pos:Pos}{c P:Addr}{L:List TQ}{i:Nat}
theorem Ms(hN:X.N.Nodup)(hi:X.N[i]?=some name)(hx:Loc X.env.scope name)(Vt:X.env.code=.ref c)(C:W.CodeHd X.base c P)(hB:Qd X.mg X.base)(hL:(pos,qualnameIn X.env name name)∈L)(hu:∀x∈L,x.1.line=pos.line→x.1.col=pos.col→x.2=qualnameIn X.env name name)
  (sR:params.defaults=[]:=by rfl) (kA:params.kw_defaults=[]:=by rfl) (ha:annTrees params none X.env=[]:=by rfl) {sc:Scope} (eK:X.env.scope=sc:=by rfl) (xW:∀y∈scope.names,y.2=NameKind.free→sc.names.lookup y.1=some .cell∨sc.names.lookup y.1=some .free:=by decide +kernel)
  (hf:X.fn name=true∨X.env.scope.names.lookup name=some .local:=by first|exact .inl rfl|exact .inr rfl|assumption) :
  PS X (.FunctionDef name params body [] none [] scope none name pos) (Zu4 P L (λdoc c ct=>W.fnX name (qualnameIn X.env name name) params body scope (U8 X.env scope.names []) .none .none doc ((X.mg "__name__").getD .none) none (.ref c) ct) (qualnameIn X.env name name) i):=by
 intro pins s σ H D I ⟨⟨ps,hP,ht,hT⟩,hq⟩;have sP:s.heap.get? P=some (W.tabObj ps):=I.hok P _ hP;have hg:=I.mod.glob.keeps I.bk;have hb:=(hB.keeps I.bk).at_ hg sP;have z4:∀y∈scope.names,y.2=NameKind.free→∃c,X.env.cells.lookup y.1=some c:=λy hy e=>I.ok.has y.1 (by subst eK;exact xW y hy e);refine W.nestDef_K sR kA ha (thn (Q:=EP X pins σ λv H'=>D.nx (σ.set i (some v)) H') ?_ λu s1 ⟨v,H1,I1,r1,q1⟩=>Io I1 hN hi hx r1 (λs2 I2=>⟨_,H1,I2,q1⟩) hf)
 rcases hT _ hL with hn|⟨c2,hc,u7⟩
 ·refine W.makeFunction_K (mg:=X.mg) (U7 z4) I.ok.glob hg Vt (C.keeps I.bk) sP ht hn (Zrt hg sP) hb λc' eC doc h' tk yA j3 x9 Zmt gW=>?_;exact Zg2 (fdOf:=λc ct=>W.fnX name (qualnameIn X.env name name) params body scope (U8 X.env scope.names []) .none .none doc ((X.mg "__name__").getD .none) none (.ref c) ct) I hP ht hT hu (λH' f c ct a b d e g=>hq H' f c ct doc a b d e g) hn yA j3 x9 Zmt gW
 ·refine W.makeFunction_hit (mg:=X.mg) (U7 z4) I.ok.glob hg Vt (C.keeps I.bk) sP ht hc hb λeC doc h' tk hk hsz=>?_;have nf:H h'.objs.size=none:=I.hok.fresh hsz;refine⟨.ref h'.objs.size,_,I.laid (t':=tk) (λb u e=>oE _ (hk b u e)) hsz (Zer (oS _ rfl)),rfl,?_⟩;have e0:Zl H (upd H h'.objs.size (FnO h'.objs.size (W.fnX name (qualnameIn X.env name name) params body scope (U8 X.env scope.names []) .none .none doc ((X.mg "__name__").getD .none) none (.ref c2) eC))):=λb o e=>by rw[Zk (Zi e nf)];exact e
  exact hq _ _ c2 eC doc e0.t (Tb.same ⟨ps,hP,ht,hT⟩ e0) nf Zc (e0 _ _ u7)
end
theorem Ag{k:Nat}{cl:List SI} 
  (S:Zoe N ps scope) (LC:Fe base N ps scope cl fv) (len:∀vs H Q E,sp vs H Q E→vs.length=ps.length)
  (c6:∀vs H Q E,sp vs H Q E→H f=some (FnO f (W.fnX name qual params body scope cl .none .none doc pm none (.ref c) ct))∧H c=some (CdO c qual))
  (Q8:∀(A:Around) (outer:List Env) (s:Shared) (H:Hp) (vs:List V) (Q:VK) (E:XK),Vn k (A.deeper (W.envX qual scope s.heap.objs.size f (.ref c) cl))→sp vs H Q E→
   ∃t,PSs (D6 P w K mg base N qual scope f (.ref c) cl A outer s H) body t∧t { nx:=λ_ H'=>Q .non H',rt:=Q } (vs.map some++fv.map some) H) :
  Ya P w K mg base CX0 (k+1) f (W.fnX name qual params body scope cl .none .none doc pm none (.ref c) ct) ps sp:=by
 refine⟨len,λA outer s H args us vs Q E hr e0 hb r m6=>?_⟩;have hl:=len _ _ _ _ m6;obtain⟨hf,hc⟩:=c6 _ _ _ _ m6;have lim:s.heap.NoLimit:=e0.mod.nolimit.keeps λb o e=>(e0.bs b o e).1;refine WU hr.depth (FnO.at_ e0.hok hf) rfl S.co S.gen rfl (CdO.at_ e0.hok hc) (hb _ _ _ _ ?_);refine VG S.Kf (λy hy=>S.par y.1 (ZM hy).1) (λh1 u3 xD=>?_) S.kind;have hk:∀b o,s.heap.get? b=some o→h1.get? b=some o:=λb o e=>xD.extBut b o (lE (oT e)) (oE _ e);refine⟨lim.keeps hk,codeAny_func ?_⟩;obtain⟨t,ht,hq⟩:=Q8 A outer s H vs Q E (hr.deeper _) m6
 have I:Inv (D6 P w K mg base N qual scope f (.ref c) cl A outer s H) [] (vs.map some++fv.map some) H { s with heap:=h1,toks:=s.toks+(ps.zip us).length }:=Zhb S LC hr.hd e0 hl r u3 hk;refine aA (ht [] _ _ H _ I hq) (λfl s' hs=>?_) λe s' hs=>hs.elim
 cases fl with
 |ret u=>
  obtain⟨v,x8,H',J,rv,q⟩:=hs;exact⟨v,H',J.os,J.bare,J.base,J.hok,rv,q⟩
 |next=>
  obtain⟨x8,H',J,q⟩:=hs;exact⟨.non,H',J.os,J.bare,J.base,J.hok,rfl,q⟩
 |brk=>
  obtain⟨_,_,_,q⟩:=hs;exact False.elim q
 |cont=>
  obtain⟨_,_,_,q⟩:=hs;exact False.elim q
section
variable {P:Program}{w:World}{κ:Type} [DecidableEq κ] {knd:PySem.KeyKind P w κ}{A:Around}{E:UQ}{s:Shared}
theorem Zew{kvs:List (κ×Value)}{k:κ}(hi:s.heap.IsKeyIter it d i kvs.length ep)(hm:s.heap.DictAt knd d kvs ep)(hx:kvs[i]?=some (k,v))
  (q:∀key h',knd.is k key=true→h'.IsKeyIter it d (i+1) kvs.length ep→Heap.SameBut it s.heap h'→Q key { s with heap:=h' }):wpAny (model P w) A (Builtin.SmallTypes.nextOf (.ref it)) Q E s:=by
 obtain⟨o,e0,ec,ed⟩:=id hi;obtain⟨od,es,eo,qO,eP,hk,hp,hn⟩:=id hm;have z:es.size=kvs.length:=by rw[←hp.length];simp
 have x9:i<es.size:=by rw[z];exact(oF.mp hx).1
 have B4:knd.is k es[i].key=true:=(hp.get? (e:=es[i]) (by simp[x9]) hx).1;unfold Builtin.SmallTypes.nextOf;refine oA (lR (name:=Str.ofString "__next__") hi.typeIs lV (lP lV hi.typeIs bP ?_ (bN _)));refine oA (oD (oA (oA ?_)))
 first|refine oA (iU hi.typeIs (oD (oA (aV e0 ed ?_))))|refine oA (bD hi.typeIs (oD (oA (aV e0 ed ?_))))
 simp only[show Builtin.Dict_items.ownsTuple "dict_keyiterator"=false by decide,iM,if_false];show wpAny _ _ (ite ((Value.ref d==Value.none)=true) _ _) _ _ s;refine(if_neg (show ¬ (Value.ref d==Value.none)=true from lA))▸?_;refine oA (oD (oA (ZY eo eP ?_)));rw[if_neg (by rw[z];simp)];refine oA (oD (oA (XM eo eP ?_)));rw[if_neg (by simp)];refine oD ?_;simp only[show ¬ ((i:Int)<0) from by lia,if_false,bG,iP x9];refine oA ?_
 first|refine oA (iU hi.typeIs (oD (oA (aW hi.typeIs ?_))))|refine oA (bD hi.typeIs (oD (oA (aW hi.typeIs ?_))))
 have u6:(s.heap.update it (Obj.mapFields (·.setIfInBounds 1 (rawInt ((i:Int)+1))))).IsKeyIter it d (i+1) kvs.length ep:=by
  refine⟨_,lT _ e0 (bS (iS ed _)),(YW ..).trans ec,?_⟩;rw[iS ed];simp[rawInt]
 refine oA (m:=setField (.ref it) 1 (rawInt ((i:Int)+1))) (bR e0 ed (by simp) (oA (iB (oA (aW (s:={ s with heap:=s.heap.update it (Obj.mapFields (·.setIfInBounds 1 (rawInt ((i:Int)+1)))) }) u6.typeIs ?_)))));exact oD (oD ⟨_,rfl,oD (q _ _ B4 u6 (iV ..))⟩)
theorem Zi6{kvs:List (κ×Value)}(hh:A.handled=none)(hi:s.heap.IsKeyIter it d i kvs.length ep)(hm:s.heap.DictAt knd d kvs ep)(hx:kvs[i]?=none)
  (q:∀h' e,Heap.ExtBut it s.heap h'→(∃o,h'.get? e=some o∧o.cls=.type "StopIteration")→E (.ref e) { s with heap:=h' }):wpAny (model P w) A (Builtin.SmallTypes.nextOf (.ref it)) Q E s:=by
 obtain⟨o,e0,ec,ed⟩:=id hi;obtain⟨od,es,eo,qO,eP,hk,hp,hn⟩:=id hm;have z:es.size=kvs.length:=by rw[←hp.length];simp
 have j3:es.size≤i:=by rw[z];simpa using hx
 unfold Builtin.SmallTypes.nextOf;refine oA (lR (name:=Str.ofString "__next__") hi.typeIs lV (lP lV hi.typeIs bP ?_ (bN _)));refine oA (oD (oA (oA ?_)))
 first|refine oA (iU hi.typeIs (oD (oA (aV e0 ed ?_))))|refine oA (bD hi.typeIs (oD (oA (aV e0 ed ?_))))
 simp only[show Builtin.Dict_items.ownsTuple "dict_keyiterator"=false by decide,iM,if_false];show wpAny _ _ (ite ((Value.ref d==Value.none)=true) _ _) _ _ s;refine(if_neg (show ¬ (Value.ref d==Value.none)=true from lA))▸?_;refine oA (oD (oA (ZY eo eP ?_)));rw[if_neg (by rw[z];simp)];refine oA (oD (oA (XM eo eP ?_)));rw[if_neg (by simp)];refine oD ?_;simp only[show ¬ ((i:Int)<0) from by lia,if_false,bG,WJ j3];refine oA ?_
 first|refine oA (iU hi.typeIs (oD ?_))|refine oA (bD hi.typeIs (oD ?_))
 refine oA (m:=setField (.ref it) 0 .none) (bR e0 ed (by simp) (oA (m:=newExc (.type "StopIteration") []) ?_));simp only[newExc,newTuple,raiseNew];refine oA (lS (oA (m:=firstArgMember _ _) (iQ (a:=Value.none) (by first|rfl|(simp only[firstArgMember];rfl)) (lS ?_ (by size_fits)))) (by size_fits));refine oA (XH ?_)
 first|rw[show A.in1.handled=none from hh]|rw[hh]
 exact oA (oD (WI (q _ _ (((iV ..).extBut.push _).push _) ⟨_,oS _ rfl,rfl⟩)))
abbrev Bt(d:Addr)(n ep:Nat):Obj:={ cls:=.type "dict_keyiterator",data:=.fields #[.ref d,.int 0 0,.int n 0,.int ep 0] }
abbrev Zp8(it:Addr):Obj:={ cls:=.type "enumerate",data:=.fields #[.none,.bool false,.ref it,rawInt 0,.none,.none] }
open AutoSeq1 (wpAny_loadPart') in
theorem Zni(d:Addr)(kvs:List (κ×Value))(ep:Nat):MeetsIn P w (Builtin.«enumerate.__new__» ⟨[.type "enumerate",.ref d],[]⟩) (λ_ R s=>(d==sysModules)=false∧s.heap.DictAt knd d kvs ep∧R (.ok (.ret (.ref (s.heap.push (Bt d kvs.length ep)).objs.size))) { s with heap:=(s.heap.push (Bt d kvs.length ep)).push (Zp8 s.heap.objs.size) }):=
 .of_wp λA R s h=>by
  obtain⟨hp,g,dr,tk,os⟩:=s;obtain⟨hs,hm,q⟩:=h;have Zek:=sub_enumerate;obtain⟨⟨c,dx,dt,sl⟩,es,ho,hx,hd,hrest⟩:=id hm;obtain⟨hc,hdx,uO⟩:=hx;obtain rfl:c=.type "dict":=hc;obtain rfl:dt=.dict es ep:=hd
  wp_walk using iH ho
  refine wpAny_stack_any λst=>oD ?_
  split
  ·rename_i c _ _ _ _ _
   cases (c==Value.type "enumerate")<;>(wp_walk using iH ho,UL hs hm;exact⟨_,rfl,q⟩)
  ·wp_walk using iH ho,UL hs hm
   exact⟨_,rfl,q⟩
theorem Ze7{kvs:List (κ×Value)}(hs:(d==sysModules)=false)(hm:s.heap.DictAt knd d kvs ep)
  (q:∀h',IsEnum h' (s.heap.objs.size+1) s.heap.objs.size 0 .none→h'.IsKeyIter s.heap.objs.size d 0 kvs.length ep→h'.objs.size=s.heap.objs.size+2→(∀b o,s.heap.get? b=some o→h'.get? b=some o)→Q (.ref (s.heap.objs.size+1)) { s with heap:=h' }) :
  wpAny (model P w) A (call (.type "enumerate") [.ref d]) Q E s:=by
 refine callType_newIn UC (by decide) (WL _) (WX _) (λobj=>VJ obj _) WY (Zni (knd:=knd) d kvs ep) ⟨hs,hm,?_⟩;have z:(s.heap.push (Bt d kvs.length ep)).objs.size=s.heap.objs.size+1:=bB ..;show _∧_;have en:=oS (s.heap.push (Bt d kvs.length ep)) (o:=Zp8 s.heap.objs.size) rfl;rw[z]at en ⊢;exact⟨⟨_,en,rfl⟩,q _ en ⟨_,oE _ (oS _ rfl),rfl,rfl⟩ (by rw[bB,z]) λb o x=>oE _ (oE _ x)⟩
theorem Znp(hh:A.handled=none)(it d:Addr)(m5:d≠it)(kvs:List (κ×Value))(ep:Nat):Draws P w A it [it,d] kvs.length (λi v=>∃k x,kvs[i]?=some (k,x)∧knd.is k v=true) (λi h=>h.IsKeyIter it d i kvs.length ep∧h.DictAt knd d kvs ep) where
 live:=λ_ _ ⟨⟨o,e,_⟩,_⟩=>⟨o,e⟩
 frame:=λ_ _ _ ⟨a,b⟩ k=>⟨a.at λo e=>k it (by simp) o e,b.at' λo e=>k d (by simp) o e⟩
 item:=λi s Q E hi st q=>Zew st.1 st.2 (k:=kvs[i].1) (v:=kvs[i].2) (by simp[hi]) λkey h' hk a b=>q _ h' s.toks ⟨kvs[i].1,kvs[i].2,by simp[hi],hk⟩ ⟨a,st.2.extBut b.extBut m5⟩ b
 done:=λs Q E st q=>Zi6 hh st.1 st.2 (by simp) q
end
theorem Zc7{ex:SA}(a e it:Addr)(i7:e≠it)(o:Obj)(kvs:List (Key×V))(vs:List (Key×Value))(ep:Nat)(rel:KV kvs vs)(ho:∀h:Heap,h.get? a=some o→h.DictAt (Z8 P w) a vs ep):
  Turn P w K (.Tuple ex n pos) (ItE λH xs=>H a=some (.frz o (.dK kvs))∧xs=kvs.map λp=>kV p.1) [e,it] e (λi h=>(∃old,IsEnum h e it i old)∧h.IsKeyIter it a i vs.length ep) where
 mem:=by simp
 obj:=λi h st b hb=>by
  obtain⟨⟨old,he⟩,oi,e1,c1,d1⟩:=st;have j9:b=e∨b=it:=by simpa using hb
  rcases j9 with z|z
  ·subst z;exact⟨_,he,λv z=>by cases z⟩
  ·subst z;exact⟨oi,e1,λv z=>by rw[d1]at z;cases z⟩
 keep:=λi h h' st k=>⟨let ⟨old,he⟩:=st.1;⟨old,k e (by simp) _ he⟩,st.2.at λo q=>k it (by simp) o q⟩
 item:=by
  intro X hP hw hK hc i pins s σ H E I hf st hg;subst hP hw hK;obtain⟨xs,x,⟨hq,o5⟩,hx⟩:=hg;have hd:=ho s.heap (I.hok a _ hq).1;have hl:=Bs rel
  have x9:i<vs.length:=by
   have:=(oF.mp hx).1;rw[o5,oB]at this;lia
  obtain⟨⟨old,he⟩,hit⟩:=st;have d8:=oT he;have k8:it<s.heap.objs.size:=by obtain⟨o,q,_⟩:=id hit;exact oT q
  have nat:a≠it:=λz=>by
   obtain⟨o,q,c,_⟩:=id hit;obtain⟨o2,_,q2,c2,_⟩:=id hd;rw[z,q]at q2;cases q2;have c3:=c2.1;rw[c]at c3
   injection c3 with c3
   exact absurd c3 (by decide)
  have vH:a≠e:=λz=>by
   obtain⟨o2,_,q2,c2,_⟩:=id hd;rw[z,he]at q2;cases q2;have c3:=c2.1
   injection c3 with c3
   exact absurd c3 (by decide)
  have uC:e∉[it,a]:=by simp[i7,iY vH]
  refine XY (Znp (knd:=Z8 X.prog X.w) (A:=X.A.in1) (I.ok.hd hc) it a nat vs ep) he ⟨hit,hd⟩ x9 i7 uC λu h1 tk hu i8 Zen kK tE kB=>⟨_,rfl,?_⟩;refine ZV i8 λh2 o4 sb=>?_;obtain⟨k,x',hk,zW⟩:=hu;obtain⟨v,hv⟩:=Zeh rel hk
  have ex:x=kV k:=by
   rw[o5,oH,hv]at hx;exact(Option.some.inj hx).symm
  subst ex;obtain⟨I2,hn⟩:=Oj (t':=tk+1) I hf (De zW) kK kB sb d8 k8;exact⟨.ref s.heap.objs.size,_,I2,rfl,⟨_,kV k,rfl,I.hok.fresh (oG _),rfl,λys hy=>by rw[hy.2,←o5];exact hx⟩,⟨⟨_,by simpa using o4⟩,Zen.1.at λo q=>(sb.2 it (iY i7)).trans q⟩,hn⟩
 done:=by
  intro X hP hw hK hc i pins s σ H E I hf st hg;subst hP hw hK;obtain⟨xs,⟨hq,o5⟩,hx⟩:=hg;have hd:=ho s.heap (I.hok a _ hq).1;have hl:=Bs rel;obtain⟨⟨old,he⟩,hit⟩:=st
  have nat:a≠it:=λz=>by
   obtain⟨o,q,c,_⟩:=id hit;obtain⟨o2,_,q2,c2,_⟩:=id hd;rw[z,q]at q2;cases q2;have c3:=c2.1;rw[c]at c3
   injection c3 with c3
   exact absurd c3 (by decide)
  obtain⟨f0,f1,f2,f3,f4,f5⟩:=hf it (by simp);have ei:i=vs.length:=by rw[←hx,o5,oB,hl]
  subst ei;exact WM (Znp (knd:=Z8 X.prog X.w) (A:=X.A.in1) (I.ok.hd hc) it a nat vs ep) he ⟨hit,hd⟩ λh' eb=>⟨rfl,I.turned (t':=s.toks) (λb o hb q=>eb b o hb q) f0 f1 f3 f4 f5⟩
 self:=λ_ _ _ _ _ st h=>let ⟨_,he⟩:=st.1;aO he h
section
variable {X:Cx}{ex:SA}{n:Nat}{tp:Pos}
def Ztt(te:TE):TI:=λσ H R=>te σ H λx H1=>∃a kvs,x=.ref a∧((H1 a=some (.dK kvs)∧∀o,R (ItE λH xs=>H a=some (.frz o (.dK kvs))∧xs=kvs.map λp=>kV p.1) (upd H1 a (.frz o (.dK kvs))))∨
 ∃o,H1 a=some (.frz o (.dK kvs))∧R (ItE λH xs=>H a=some (.frz o (.dK kvs))∧xs=kvs.map λp=>kV p.1) H1)
theorem Zle(hg:Gl X "enumerate")(hm:X.mg "enumerate"=none)(he:PE X e te)(h2:starEach [e] X.env=(false,eval e X.env) :: starEach [] X.env:=by rfl):PI X (.Tuple ex n tp) (.Call (.Name "enumerate" p) [e] [] pos) (Ztt te):=by
 intro pins s σ H R I h
 refine iI (Vc I hg hm Rr (iC (thn (Za he Zb h2 pos pins s σ H (λvs H1=>match vs with|[x]=>∃a kvs,x=.ref a∧((H1 a=some (.dK kvs)∧∀o,R (ItE λH xs=>H a=some (.frz o (.dK kvs))∧xs=kvs.map λp=>kV p.1) (upd H1 a (.frz o (.dK kvs))))∨∃o,H1 a=some (.frz o (.dK kvs))∧R (ItE λH xs=>H a=some (.frz o (.dK kvs))∧xs=kvs.map λp=>kV p.1) H1)|_=>False) I h) λus s1 ⟨vs,H1,I1,r1,q1⟩=>?_) h2 rfl))
 obtain⟨x0,e0,a,kvs,e1,q⟩:∃x0,vs=[x0]∧∃a kvs,x0=.ref a∧((H1 a=some (.dK kvs)∧∀o,R (ItE λH xs=>H a=some (.frz o (.dK kvs))∧xs=kvs.map λp=>kV p.1) (upd H1 a (.frz o (.dK kvs))))∨∃o,H1 a=some (.frz o (.dK kvs))∧R (ItE λH xs=>H a=some (.frz o (.dK kvs))∧xs=kvs.map λp=>kV p.1) H1):=by
  match vs,q1 with
  |[x0],q1=>exact⟨x0,rfl,q1⟩
 subst e0 e1;obtain⟨u,rfl,ru⟩:=Vals.one r1;obtain rfl:u=Value.ref a:=ru
 have key:∀(o:Obj) (H2:Hp),Inv X pins σ H2 s1→H2 a=some (.frz o (.dK kvs))→R (ItE λH xs=>H a=some (.frz o (.dK kvs))∧xs=kvs.map λp=>kV p.1) H2→
   wpAny (model X.prog X.w) X.A (call (.type "enumerate") [.ref a]) (λv s2=>wpAny (model X.prog X.w) X.A (pyIter v) (PIE X pins σ (.Tuple ex n tp) R) X.xe s2) X.xe s1:=by
  intro o H2 I2 h2 q2;obtain⟨ho,_,z8,vs,rel,dd⟩:=I2.hok a _ h2;obtain⟨o',es,ep,b0,hx,Zty,hk,hp,hn⟩:=dd;rw[ho]at b0;cases b0;have at_:∀h:Heap,h.get? a=some o→h.DictAt (Z8 X.prog X.w) a vs ep:=λh e=>⟨o,es,e,hx,Zty,hk,hp,hn⟩;refine Ze7 z8 (at_ s1.heap ho) λh' hE hI hsz hk=>aO hE ?_;refine⟨_,[s1.heap.objs.size+1,s1.heap.objs.size],_,_,H2,rfl,I2.kept (t':=s1.toks) hk,Zc7 a _ _ (YE _) o kvs vs ep rel at_,⟨⟨_,hE⟩,hI⟩,λb hb=>?_,q2⟩;have j9:b=s1.heap.objs.size+1∨b=s1.heap.objs.size:=by simpa using hb
  rcases j9 with z|z
  ·rw[z];exact I2.Lm (cY _) (I2.hok.fresh (cY _))
  ·rw[z];exact I2.Lm (oG _) (I2.hok.fresh (oG _))
 rcases q with ⟨hd,q⟩|⟨o,hd,q⟩
 ·obtain⟨hz,z8,vs,rel,dd⟩:=I1.hok a _ hd;obtain⟨o,es,ep,ho,rest⟩:=id dd;have I2:Inv X pins σ (upd H1 a (.frz o (.dK kvs))) s1:=I1.write (x:=a) (e:=a) (t':=s1.toks) (h':=s1.heap) (by rw[hd];exact True.intro) (.inl rfl) (λb u _ e=>e) ⟨o,ho⟩ ⟨ho,hz,z8,vs,rel,dd⟩;exact key o _ I2 Zc (q o)
 ·exact key o H1 I1 hd q
end
def Zjb{a:Addr}{o:Obj}{kvs:List (Key×V)}{n:Nat}{fr:List Nat}{g:TG}{tt:TT}{te:TE}{σ:St}{H:Hp}{Q:VK}(Pv:Nat→List V→Hp→Prop)(hk:kvs.length<sizeLine)(h0:Pv 0 [] H)(hlen:∀i acc H,Pv i acc H→acc.length≤i)
  (hl:∀i acc H,Pv i acc H→H a=some (.frz o (.dK kvs)))
  (hs:∀i acc H2 k v,kvs[i]?=some (k,v)→Pv i acc H2→g (kV k) (To n fr σ) H2 λm9 H4=>tt m9 H4 λb H5=>if b=true then te m9 H5 λv H6=>Pv (i+1) (acc++[v]) H6 else Pv (i+1) acc H5)
  (hd:∀acc H2,Pv kvs.length acc H2→∀l,H2 l=none→Q (.ref l) (upd H2 l (.lst acc))):=
 U6 (J:=Itk a o kvs) (n:=n) (fr:=fr) (g:=g) (tt:=tt) (te:=te) (σ:=σ) (Q:=Q) Pv hk h0 hlen (λi acc H hi p=>⟨hi,hl i acc H p⟩) (λacc H p=>⟨rfl,hl _ acc H p⟩) (λi acc H2 x H3 hi p y=>by
  obtain⟨e,k,v,hk,ex⟩:=y;subst e ex
  exact hs i acc _ k v hk p) hd
section
variable {P:Program}{w:World}{κ:Type} [DecidableEq κ] {knd:HeapKind P w κ}{A:Around}{E:UQ}{s:Shared}
end
section
variable {X:Cx}
end
section
variable {X:Cx}
end
def Po(h:Heap)(d:Addr)(es:Array DictEntry)(ep:Nat):Prop:=∃o,h.get? d=some o∧o.ExactDict∧o.data=.dict es ep
section
variable {P:Program}{w:World}{A:Around}{E:UQ}{s:Shared}{it d:Addr}{i ep:Nat}{es:Array DictEntry}
theorem Po.typeIs(hm:Po s.heap d es ep):s.TypeIs (.ref d) "dict":=let ⟨o,h1,h2,_⟩:=hm;⟨o,h1,h2.1⟩
theorem C4(hs:(d==sysModules)=false)(hm:Po s.heap d es ep)(q:Q (.ref s.heap.objs.size) { s with heap:=s.heap.push (Bt d es.size ep) }):wpAny (model P w) A (pyIter (.ref d)) Q E s:=by
 have ty:=hm.typeIs;obtain⟨o,e1,e2,e3⟩:=hm;refine YU ty F.slot_dict_iter (lP F.slot_dict_iter ty F.entry_dict_iter ?_ (F.args_dict_iter_1 _));unfold Builtin.«dict.__iter__»;refine oA ?_;unfold Builtin.Dict.dictSlotNone;refine oA (WZ ty (oD ?_));show wpAny _ _ (Builtin.Dict.showsAll d >>= _) _ _ s;unfold Builtin.Dict.showsAll;rw[if_neg (by rw[hs];exact lA)];refine oA (oD (oA (ZY e1 e3 (oA (XM e1 e3 ?_)))));refine oA (lS (oD ⟨_,rfl,"dict_keyiterator",_,⟨_,oS _ rfl,rfl⟩,lV.lookup,?_⟩));simpa[rawInt] using q
theorem Mo(hi:s.heap.IsKeyIter it d i es.size ep)(hm:Po s.heap d es ep)(x9:i<es.size)(q:∀h',h'.IsKeyIter it d (i+1) es.size ep→Heap.SameBut it s.heap h'→Q es[i].key { s with heap:=h' }):
  wpAny (model P w) A (Builtin.«dict_keyiterator.__next__» ⟨[.ref it],[]⟩) (λfin s'=>∃r,fin=.done (.ret r)∧Q r s') E s:=by
 obtain⟨o,e0,ec,ed⟩:=id hi;obtain⟨od,eo,qO,eP⟩:=id hm;refine oA (oD (oA (oA ?_)))
 first|refine oA (iU hi.typeIs (oD (oA (aV e0 ed ?_))))|refine oA (bD hi.typeIs (oD (oA (aV e0 ed ?_))))
 simp only[show Builtin.Dict_items.ownsTuple "dict_keyiterator"=false by decide,iM,if_false];show wpAny _ _ (ite ((Value.ref d==Value.none)=true) _ _) _ _ s;refine(if_neg (show ¬ (Value.ref d==Value.none)=true from lA))▸?_;refine oA (oD (oA (ZY eo eP ?_)));rw[if_neg (by simp)];refine oA (oD (oA (XM eo eP ?_)));rw[if_neg (by simp)];refine oD ?_;simp only[show ¬ ((i:Int)<0) from by lia,if_false,bG,iP x9];refine oA ?_
 first|refine oA (iU hi.typeIs (oD (oA (aW hi.typeIs ?_))))|refine oA (bD hi.typeIs (oD (oA (aW hi.typeIs ?_))))
 have u6:(s.heap.update it (Obj.mapFields (·.setIfInBounds 1 (rawInt ((i:Int)+1))))).IsKeyIter it d (i+1) es.size ep:=by
  refine⟨_,lT _ e0 (bS (iS ed _)),(YW ..).trans ec,?_⟩;rw[iS ed];simp[rawInt]
 refine oA (m:=setField (.ref it) 1 (rawInt ((i:Int)+1))) (bR e0 ed (by simp) (oA (iB (oA (aW (s:={ s with heap:=s.heap.update it (Obj.mapFields (·.setIfInBounds 1 (rawInt ((i:Int)+1)))) }) u6.typeIs ?_)))));exact oD (oD ⟨_,rfl,q _ u6 (iV ..)⟩)
theorem C5(hi:s.heap.IsKeyIter it d i es.size ep)(hm:Po s.heap d es ep)(x9:i<es.size)(q:∀h',h'.IsKeyIter it d (i+1) es.size ep→Heap.SameBut it s.heap h'→Q es[i].key { s with heap:=h' }):
  wpAny (model P w) A (Builtin.SmallTypes.nextOf (.ref it)) Q E s:=by
 unfold Builtin.SmallTypes.nextOf;refine oA (lR (name:=Str.ofString "__next__") hi.typeIs lV (lP lV hi.typeIs bP ?_ (bN _)));exact Mo (Q:=λv s'=>wpAny (model P w) A _ Q E s') hi hm x9 λh' a b=>oD (q h' a b)
theorem C3{Q:TJ}(hi:s.heap.IsKeyIter it d i es.size ep)(hm:Po s.heap d es ep)(x9:i<es.size)(q:∀h',h'.IsKeyIter it d (i+1) es.size ep→Heap.SameBut it s.heap h'→Q (some es[i].key) { s with heap:=h' }):
  wpAny (model P w) A (pyNext (.ref it)) Q E s:=by
 unfold pyNext;refine oA (bI (lR (name:=Str.ofString "__next__") hi.typeIs lV (lP lV hi.typeIs bP ?_ (bN _))));exact Mo hi hm x9 λh' a b=>oD (q h' a b)
theorem K1{Qf:Fin→Shared→Prop}(hh:A.handled=none)(hi:s.heap.IsKeyIter it d i es.size ep)(hm:Po s.heap d es ep)(j3:es.size≤i)(q:∀h' e,Heap.ExtBut it s.heap h'→(∃o,h'.get? e=some o∧o.cls=.type "StopIteration")→E (.ref e) { s with heap:=h' }):
  wpAny (model P w) A (Builtin.«dict_keyiterator.__next__» ⟨[.ref it],[]⟩) Qf E s:=by
 obtain⟨o,e0,ec,ed⟩:=id hi;obtain⟨od,eo,qO,eP⟩:=id hm;refine oA (oD (oA (oA ?_)))
 first|refine oA (iU hi.typeIs (oD (oA (aV e0 ed ?_))))|refine oA (bD hi.typeIs (oD (oA (aV e0 ed ?_))))
 simp only[show Builtin.Dict_items.ownsTuple "dict_keyiterator"=false by decide,iM,if_false];show wpAny _ _ (ite ((Value.ref d==Value.none)=true) _ _) _ _ s;refine(if_neg (show ¬ (Value.ref d==Value.none)=true from lA))▸?_;refine oA (oD (oA (ZY eo eP ?_)));rw[if_neg (by simp)];refine oA (oD (oA (XM eo eP ?_)));rw[if_neg (by simp)];refine oD ?_;simp only[show ¬ ((i:Int)<0) from by lia,if_false,bG,WJ j3];refine oA ?_
 first|refine oA (iU hi.typeIs (oD ?_))|refine oA (bD hi.typeIs (oD ?_))
 refine oA (m:=setField (.ref it) 0 .none) (bR e0 ed (by simp) (oA (m:=newExc (.type "StopIteration") []) ?_));simp only[newExc,newTuple,raiseNew];refine oA (lS (oA (m:=firstArgMember _ _) (iQ (a:=Value.none) (by first|rfl|(simp only[firstArgMember];rfl)) (lS ?_ (by size_fits)))) (by size_fits));refine oA (XH ?_);rw[hh];exact oA (oD (WI (q _ _ (((iV ..).extBut.push _).push _) ⟨_,oS _ rfl,rfl⟩)))
theorem Zba(hh:A.handled=none)(hi:s.heap.IsKeyIter it d i es.size ep)(hm:Po s.heap d es ep)(j3:es.size≤i)(q:∀h' e,Heap.ExtBut it s.heap h'→(∃o,h'.get? e=some o∧o.cls=.type "StopIteration")→E (.ref e) { s with heap:=h' }):
  wpAny (model P w) A (Builtin.SmallTypes.nextOf (.ref it)) Q E s:=by
 unfold Builtin.SmallTypes.nextOf;refine oA (lR (name:=Str.ofString "__next__") hi.typeIs lV (lP lV hi.typeIs bP ?_ (bN _)));exact K1 (A:=A.in1) hh hi hm j3 q
theorem Za9{Q:TJ}(hh:A.handled=none)(hi:s.heap.IsKeyIter it d i es.size ep)(hm:Po s.heap d es ep)(j3:es.size≤i)(q:∀h',Heap.ExtBut it s.heap h'→Q none { s with heap:=h' }):
  wpAny (model P w) A (pyNext (.ref it)) Q E s:=by
 unfold pyNext;refine oA (bI (lR (name:=Str.ofString "__next__") hi.typeIs lV (lP lV hi.typeIs bP ?_ (bN _))));refine K1 (A:=A.in1) hh hi hm j3 λh' e eb ho=>?_;refine oA (bY (T:="StopIteration") (b:=true) ho isSubtype_stop ?_);exact oD (q _ eb)
open AutoSeq1 (wpAny_loadPart') in
theorem Znh(d:Addr)(es:Array DictEntry)(ep:Nat):MeetsIn P w (Builtin.«enumerate.__new__» ⟨[.type "enumerate",.ref d],[]⟩) (λ_ R s=>(d==sysModules)=false∧Po s.heap d es ep∧R (.ok (.ret (.ref (s.heap.push (Bt d es.size ep)).objs.size))) { s with heap:=(s.heap.push (Bt d es.size ep)).push (Zp8 s.heap.objs.size) }):=
 .of_wp λA R s h=>by
  obtain⟨hp,g,dr,tk,os⟩:=s;obtain⟨hs,hm,q⟩:=h;have Zek:=sub_enumerate;obtain⟨⟨c,dx,dt,sl⟩,ho,hx,hd⟩:=id hm;obtain⟨hc,hdx,uO⟩:=hx;obtain rfl:c=.type "dict":=hc;obtain rfl:dt=.dict es ep:=hd
  wp_walk using iH ho
  refine wpAny_stack_any λst=>oD ?_
  split
  ·rename_i c _ _ _ _ _
   cases (c==Value.type "enumerate")<;>(wp_walk using iH ho,C4 hs hm;exact⟨_,rfl,q⟩)
  ·wp_walk using iH ho,C4 hs hm
   exact⟨_,rfl,q⟩
theorem Ze6(hs:(d==sysModules)=false)(hm:Po s.heap d es ep)
  (q:∀h',IsEnum h' (s.heap.objs.size+1) s.heap.objs.size 0 .none→h'.IsKeyIter s.heap.objs.size d 0 es.size ep→h'.objs.size=s.heap.objs.size+2→(∀b o,s.heap.get? b=some o→h'.get? b=some o)→Q (.ref (s.heap.objs.size+1)) { s with heap:=h' }) :
  wpAny (model P w) A (call (.type "enumerate") [.ref d]) Q E s:=by
 refine callType_newIn UC (by decide) (WL _) (WX _) (λobj=>VJ obj _) WY (Znh d es ep) ⟨hs,hm,?_⟩;have z:(s.heap.push (Bt d es.size ep)).objs.size=s.heap.objs.size+1:=bB ..;show _∧_;have en:=oS (s.heap.push (Bt d es.size ep)) (o:=Zp8 s.heap.objs.size) rfl;rw[z]at en ⊢;exact⟨⟨_,en,rfl⟩,q _ en ⟨_,oE _ (oS _ rfl),rfl,rfl⟩ (by rw[bB,z]) λb o x=>oE _ (oE _ x)⟩
theorem Po.at'(x:Po h d es ep)(e:∀o,h.get? d=some o→h'.get? d=some o):Po h' d es ep:=let ⟨o,a,b⟩:=x;⟨o,e o a,b⟩
theorem Zno(hh:A.handled=none)(it d:Addr)(m5:d≠it)(es:Array DictEntry)(ep:Nat):Draws P w A it [it,d] es.size (λi v=>∃hi:i<es.size,v=es[i].key) (λi h=>h.IsKeyIter it d i es.size ep∧Po h d es ep) where
 live:=λ_ _ ⟨⟨o,e,_⟩,_⟩=>⟨o,e⟩
 frame:=λ_ _ _ ⟨a,b⟩ k=>⟨a.at λo e=>k it (by simp) o e,b.at' λo e=>k d (by simp) o e⟩
 item:=λi s Q E hi st q=>C5 st.1 st.2 hi λh' a b=>q _ h' s.toks ⟨hi,rfl⟩ ⟨a,st.2.at' λo e=>(b.2 d m5).trans e⟩ b
 done:=λs Q E st q=>Zba hh st.1 st.2 (oG _) q
end
theorem Zvk(ok:HOk P w H h)(e:H a=some (.frz o (.dT kvs))):
  (a==sysModules)=false∧∃(es:Array DictEntry) (ep:Nat) (bs:SM),h.get? a=some o∧o.ExactDict∧o.data=.dict es ep∧es.toList.map (·.key)=bs.map Value.ref∧bs.length=kvs.length∧∀(i:Nat) b k v,bs[i]?=some b→kvs[i]?=some (k,v)→H b=some (.tup (k.map kV)):=by
 obtain⟨ho,z,y,xs,r,o',es,ep,h1,h2,h3,h4,h5⟩:=ok a _ e;rw[ho]at h1;cases h1;refine⟨y,es,ep,xs.map (·.2.1),ho,h2,h3,?_,by rw[oB];exact(YQ r).symm,?_⟩
 ·rw[h4,lU,lU];rfl
 ·have key:∀{l:List (List Key×V)}{m:List (List Key×Addr×Value)},KT H l m→∀(i:Nat) b k v,(m.map (·.2.1))[i]?=some b→l[i]?=some (k,v)→H b=some (.tup (k.map kV)):=by
   intro l m q
   induction q with
   |nil=>intro i b k v a1 _;simp at a1
   | @cons p q ps qs hq t ih=>
    intro i b k v a1 a2
    cases i with
    |zero=>
     cases a1;cases a2;exact hq.2.1
    |succ i=>exact ih i b k v (by simpa using a1) (by simpa using a2)
  exact key r
theorem Bv{es:Array DictEntry}{bs:SM}(h:es.toList.map (·.key)=bs.map Value.ref):es.size=bs.length∧∀(i:Nat) (hi:i<es.size),∃b,bs[i]?=some b∧es[i].key=.ref b:=by
 have hl:es.size=bs.length:=by
  have:=congrArg List.length h;rwa[oB,oB,lJ]at this
 refine⟨hl,λi hi=>⟨bs[i]'(by lia),oC (by lia),?_⟩⟩;have:=congrArg (λz:List Value=>z[i]?) h;simp only[oH]at this;rw[oC (by rw[lJ];exact hi),oC (by lia)]at this;simpa using this
def Zcu(a:Addr)(o:Obj)(kvs:List (List Key×V))(bs:SM):It:=
 ⟨λi H=>i<kvs.length∧H a=some (.frz o (.dT kvs)),λi H x H'=>H'=H∧∃b,bs[i]?=some b∧x=.ref b,λi H=>i=kvs.length∧H a=some (.frz o (.dT kvs))⟩
theorem Zc8(a it:Addr)(o:Obj)(kvs:List (List Key×V))(bs:SM)(es:Array DictEntry)(ep:Nat)(hx:o.ExactDict)(hd:o.data=.dict es ep)(hk:es.toList.map (·.key)=bs.map Value.ref)(hl:bs.length=kvs.length):
  Turn P w K tg (Zcu a o kvs bs) [it] it (λi h=>h.IsKeyIter it a i es.size ep) where
 mem:=by simp
 obj:=λi h st b hb=>by
  have e:b=it:=by simpa using hb
  subst e;obtain⟨o,e,c,d⟩:=st;exact⟨o,e,λv z=>by rw[d]at z;cases z⟩
 keep:=λi h h' st k=>st.at λo e=>k it (by simp) o e
 item:=by
  intro X hP hw hK hc i pins s σ H E I hf st hg;subst hP hw hK;obtain⟨hi,hq⟩:=hg;obtain⟨k1,k2⟩:=Bv hk;have u6:i<es.size:=by lia
  obtain⟨b,hb,ek⟩:=k2 i u6;obtain⟨f0,f1,f2,f3,f4,f5⟩:=hf it (by simp);refine C3 st ⟨o,(I.hok a _ hq).1,hx,hd⟩ u6 λh' m8 sb=>?_
  have I1:Inv X pins σ H { s with heap:=h' }:=I.turned (t':=s.toks) (λb o hb e=>(sb.2 b hb).trans e) f0 f1 f3 f4 f5;obtain⟨oi,e,c,d⟩:=id m8;rw[ek]
  exact⟨.ref b,rfl,Gp (s:={ s with heap:=h' }) e c d (by decide) ⟨.ref b,H,I1,rfl,⟨rfl,b,hb,rfl⟩,m8,λb hb=>(hf b hb).1⟩⟩
 done:=by
  intro X hP hw hK hc i pins s σ H E I hf st hg;subst hP hw hK;obtain⟨hi,hq⟩:=hg;obtain⟨k1,_⟩:=Bv hk;obtain⟨f0,f1,f2,f3,f4,f5⟩:=hf it (by simp);exact Za9 (I.ok.hd hc) st ⟨o,(I.hok a _ hq).1,hx,hd⟩ (by lia) λh' eb=>⟨rfl,I.turned (t':=s.toks) (λb o hb e=>eb b o hb e) f0 f1 f3 f4 f5⟩
 self:=λ_ _ _ _ _ st h=>wpAny_pyIter_keyiter st h
theorem Zab{ex:SA}(a e it:Addr)(i7:e≠it)(o:Obj)(kvs:List (List Key×V))(bs:SM)(es:Array DictEntry)(ep:Nat)(ho:o.ExactDict)(hd:o.data=.dict es ep)(hk:es.toList.map (·.key)=bs.map Value.ref):
  Turn P w K (.Tuple ex n pos) (ItE λH xs=>H a=some (.frz o (.dT kvs))∧xs=bs.map V.ref) [e,it] e (λi h=>(∃old,IsEnum h e it i old)∧h.IsKeyIter it a i es.size ep) where
 mem:=by simp
 obj:=λi h st b hb=>by
  obtain⟨⟨old,he⟩,oi,e1,c1,d1⟩:=st;have j9:b=e∨b=it:=by simpa using hb
  rcases j9 with z|z
  ·subst z;exact⟨_,he,λv z=>by cases z⟩
  ·subst z;exact⟨oi,e1,λv z=>by rw[d1]at z;cases z⟩
 keep:=λi h h' st k=>⟨let ⟨old,he⟩:=st.1;⟨old,k e (by simp) _ he⟩,st.2.at λo q=>k it (by simp) o q⟩
 item:=by
  intro X hP hw hK hc i pins s σ H E I hf st hg;subst hP hw hK;obtain⟨xs,x,⟨hq,o5⟩,hx⟩:=hg;have i6:Po s.heap a es ep:=⟨o,(I.hok a _ hq).1,ho,hd⟩;obtain⟨k1,k2⟩:=Bv hk
  have x9:i<es.size:=by
   have:=(oF.mp hx).1;rw[o5,oB]at this;lia
  obtain⟨⟨old,he⟩,hit⟩:=st;have d8:=oT he;have k8:it<s.heap.objs.size:=by obtain⟨o,q,_⟩:=id hit;exact oT q
  have nat:a≠it:=λz=>by
   obtain⟨o,q,c,_⟩:=id hit;obtain⟨o2,q2,c2,_⟩:=id i6;rw[z,q]at q2;cases q2;have c3:=c2.1;rw[c]at c3
   injection c3 with c3
   exact absurd c3 (by decide)
  have vH:a≠e:=λz=>by
   obtain⟨o2,q2,c2,_⟩:=id i6;rw[z,he]at q2;cases q2;have c3:=c2.1
   injection c3 with c3
   exact absurd c3 (by decide)
  have uC:e∉[it,a]:=by simp[i7,iY vH]
  refine XY (Zno (A:=X.A.in1) (I.ok.hd hc) it a nat es ep) he ⟨hit,i6⟩ x9 i7 uC λu h1 tk hu i8 Zen kK tE kB=>⟨_,rfl,?_⟩;refine ZV i8 λh2 o4 sb=>?_;obtain⟨hi,eu⟩:=hu;obtain⟨b,hb,ek⟩:=k2 i hi
  have ex:x=.ref b:=by
   rw[o5,oH,hb]at hx;exact(Option.some.inj hx).symm
  subst ex;obtain⟨I2,hn⟩:=Oj (y:=.ref b) (t':=tk+1) I hf (by rw[eu,ek];exact rfl) kK kB sb d8 k8;exact⟨.ref s.heap.objs.size,_,I2,rfl,⟨_,.ref b,rfl,I.hok.fresh (oG _),rfl,λys hy=>by rw[hy.2,←o5];exact hx⟩,⟨⟨_,by simpa using o4⟩,Zen.1.at λo q=>(sb.2 it (iY i7)).trans q⟩,hn⟩
 done:=by
  intro X hP hw hK hc i pins s σ H E I hf st hg;subst hP hw hK;obtain⟨xs,⟨hq,o5⟩,hx⟩:=hg;have i6:Po s.heap a es ep:=⟨o,(I.hok a _ hq).1,ho,hd⟩;obtain⟨k1,k2⟩:=Bv hk;obtain⟨⟨old,he⟩,hit⟩:=st
  have nat:a≠it:=λz=>by
   obtain⟨o,q,c,_⟩:=id hit;obtain⟨o2,q2,c2,_⟩:=id i6;rw[z,q]at q2;cases q2;have c3:=c2.1;rw[c]at c3
   injection c3 with c3
   exact absurd c3 (by decide)
  obtain⟨f0,f1,f2,f3,f4,f5⟩:=hf it (by simp);have ei:i=es.size:=by rw[←hx,o5,oB,k1]
  subst ei;exact WM (Zno (A:=X.A.in1) (I.ok.hd hc) it a nat es ep) he ⟨hit,i6⟩ λh' eb=>⟨rfl,I.turned (t':=s.toks) (λb o hb q=>eb b o hb q) f0 f1 f3 f4 f5⟩
 self:=λ_ _ _ _ _ st h=>let ⟨_,he⟩:=st.1;aO he h
def Ff(H:Hp)(kvs:List (List Key×V))(bs:SM):Prop:=bs.length=kvs.length∧∀(i:Nat) b k v,bs[i]?=some b→kvs[i]?=some (k,v)→H b=some (.tup (k.map kV))
section
variable {X:Cx}{tg:Expr}
theorem Zw2{s1:Shared}(I1:Inv X pins σ H1 s1)(hd:H1 a=some (.dT kvs)):∃o,Inv X pins σ (upd H1 a (.frz o (.dT kvs))) s1:=by
 obtain⟨z,y,xs,r,o,es,ep,h1,h2,h3,h4,h5⟩:=I1.hok a _ hd;refine⟨o,I1.write (x:=a) (e:=a) (t':=s1.toks) (h':=s1.heap) (by rw[hd];exact True.intro) (.inl rfl) (λb u _ e=>e) ⟨o,h1⟩ ⟨h1,z,y,xs,?_,o,es,ep,h1,h2,h3,h4,h5⟩⟩
 have key:∀{l:List (List Key×V)}{m:List (List Key×Addr×Value)},KT H1 l m→KT (upd H1 a (.frz o (.dT kvs))) l m:=by
  intro l m q
  induction q with
  |nil=>exact .nil
  |cons hq t ih=>exact .cons ⟨hq.1,by rw[Zk (Wu hq.2.1 hd λz=>nomatch z)];exact hq.2.1,hq.2.2⟩ ih
 exact key r
def Ztu(te:TE):TI:=λσ H R=>te σ H λx H1=>∃a kvs,x=.ref a∧((H1 a=some (.dT kvs)∧∀o bs,Ff (upd H1 a (.frz o (.dT kvs))) kvs bs→R (Zcu a o kvs bs) (upd H1 a (.frz o (.dT kvs))))∨∃o,H1 a=some (.frz o (.dT kvs))∧∀bs,Ff H1 kvs bs→R (Zcu a o kvs bs) H1)
theorem Ho(he:PE X e te):PI X tg e (Ztu te):=by
 intro pins s σ H R I h;refine thn (he pins s σ H _ I h) λv s1 ⟨x,H1,I1,r1,q1⟩=>?_;obtain⟨a,kvs,e,q⟩:=q1;subst e;obtain rfl:v=Value.ref a:=r1
 have key:∀(o:Obj) (H2:Hp),Inv X pins σ H2 s1→H2 a=some (.frz o (.dT kvs))→(∀bs,Ff H2 kvs bs→R (Zcu a o kvs bs) H2)→wpAny (model X.prog X.w) X.A (pyIter (.ref a)) (PIE X pins σ tg R) X.xe s1:=by
  intro o H2 I2 h2 q2;obtain⟨z8,es,ep,bs,g1,g2,g3,g4,g5,g6⟩:=Zvk I2.hok h2;refine C4 z8 ⟨o,g1,g2,g3⟩ ?_;refine⟨s1.heap.objs.size,[s1.heap.objs.size],_,_,H2,rfl,I2.kept (t':=s1.toks) λb o e=>oE _ e,Zc8 a _ o kvs bs es ep g2 g3 g4 g5,⟨_,oS _ rfl,rfl,rfl⟩,λb hb=>?_,q2 bs ⟨g5,g6⟩⟩;have e:b=s1.heap.objs.size:=by simpa using hb
  subst e;exact I2.Lm (oG _) (I2.hok.fresh (oG _))
 rcases q with ⟨hd,q⟩|⟨o,hd,q⟩
 ·obtain⟨o,I2⟩:=Zw2 I1 hd;exact key o _ I2 Zc (q o)
 ·exact key o H1 I1 hd q
theorem Dy{bs:SM}(Pv:Nat→St→Hp→Prop)(h0:Pv 0 σ H)(hl:∀i σ H,i≤kvs.length→Pv i σ H→H a=some (.frz o (.dT kvs)))
  (hs:∀i b σ H,bs[i]?=some b→Pv i σ H→g (.ref b) σ H λy4 H2=>tb { D with nx:=Pv (i+1),ct:=Pv (i+1),bk:=D.nx } y4 H2) (hd:∀σ H,Pv kvs.length σ H→D.nx σ H) :
  ∃W:Nat→Nat→St→Hp→Prop,(∃m,W 0 m σ H)∧∀i m σ H,W i m σ H→
   ((Zcu a o kvs bs).stop i H∧D.nx σ H)∨((Zcu a o kvs bs).go i H∧∃N:St→Hp→Prop,(∀x8 H',N x8 H'→∃m',m'<m∧W (i+1) m' x8 H')∧∀x H',(Zcu a o kvs bs).yld i H x H'→g x σ H' λy4 H2=>tb { D with nx:=N,ct:=N,bk:=D.nx } y4 H2):=by
 refine⟨λi m σ H=>m=kvs.length-i∧i≤kvs.length∧Pv i σ H,⟨kvs.length,by simp,lD _,h0⟩,?_⟩;rintro i m σ H ⟨rfl,hi,p⟩;have q:=hl i σ H hi p
 by_cases x9:i<kvs.length
 ·refine .inr ⟨⟨x9,q⟩,Pv (i+1),λx8 H' p'=>⟨kvs.length-(i+1),by lia,rfl,x9,p'⟩,λx H' y=>?_⟩;obtain⟨e,b,hb,ex⟩:=y;subst e ex;exact hs i b σ _ hb p
 ·have e:i=kvs.length:=by lia
  subst e;exact .inl ⟨⟨rfl,q⟩,hd σ H p⟩
def Zez{a:Addr}{o:Obj}{kvs:List (List Key×V)}{bs:SM}{n:Nat}{fr:List Nat}{g:TG}{tt:TT}{te:TE}{σ:St}{H:Hp}{Q:VK}(Pv:Nat→List V→Hp→Prop)(hk:kvs.length<sizeLine)(h0:Pv 0 [] H)(hlen:∀i acc H,Pv i acc H→acc.length≤i)
  (hl:∀i acc H,Pv i acc H→H a=some (.frz o (.dT kvs)))
  (hs:∀i acc H2 b,bs[i]?=some b→Pv i acc H2→g (.ref b) (To n fr σ) H2 λm9 H4=>tt m9 H4 λb H5=>if b=true then te m9 H5 λv H6=>Pv (i+1) (acc++[v]) H6 else Pv (i+1) acc H5)
  (hd:∀acc H2,Pv kvs.length acc H2→∀l,H2 l=none→Q (.ref l) (upd H2 l (.lst acc))):=
 U6 (J:=Zcu a o kvs bs) (n:=n) (fr:=fr) (g:=g) (tt:=tt) (te:=te) (σ:=σ) (Q:=Q) Pv hk h0 hlen (λi acc H hi p=>⟨hi,hl i acc H p⟩) (λacc H p=>⟨rfl,hl _ acc H p⟩) (λi acc H2 x H3 hi p y=>by
  obtain⟨e,b,hb,ex⟩:=y;subst e ex
  exact hs i acc _ b hb p) hd
end
section
variable {X:Cx}{ex:SA}{n:Nat}{tp:Pos}
def Zts(te:TE):TI:=λσ H R=>te σ H λx H1=>∃a kvs,x=.ref a∧H1 a=some (.dT kvs)∧∀o bs,Ff (upd H1 a (.frz o (.dT kvs))) kvs bs→R (ItE λH xs=>H a=some (.frz o (.dT kvs))∧xs=bs.map V.ref) (upd H1 a (.frz o (.dT kvs)))
theorem Zld(hg:Gl X "enumerate")(hm:X.mg "enumerate"=none)(he:PE X e te)(h2:starEach [e] X.env=(false,eval e X.env) :: starEach [] X.env:=by rfl):PI X (.Tuple ex n tp) (.Call (.Name "enumerate" p) [e] [] pos) (Zts te):=by
 intro pins s σ H R I h
 refine iI (Vc I hg hm Rr (iC (thn (Za he Zb h2 pos pins s σ H (λvs H1=>match vs with|[x]=>∃a kvs,x=.ref a∧H1 a=some (.dT kvs)∧∀o bs,Ff (upd H1 a (.frz o (.dT kvs))) kvs bs→R (ItE λH xs=>H a=some (.frz o (.dT kvs))∧xs=bs.map V.ref) (upd H1 a (.frz o (.dT kvs)))|_=>False) I h) λus s1 ⟨vs,H1,I1,r1,q1⟩=>?_) h2 rfl))
 obtain⟨x0,e0,a,kvs,e1,hd,q⟩:∃x0,vs=[x0]∧∃a kvs,x0=.ref a∧H1 a=some (.dT kvs)∧∀o bs,Ff (upd H1 a (.frz o (.dT kvs))) kvs bs→R (ItE λH xs=>H a=some (.frz o (.dT kvs))∧xs=bs.map V.ref) (upd H1 a (.frz o (.dT kvs))):=by
  match vs,q1 with
  |[x0],q1=>exact⟨x0,rfl,q1⟩
 subst e0 e1;obtain⟨u,rfl,ru⟩:=Vals.one r1;obtain rfl:u=Value.ref a:=ru;obtain⟨o,I2⟩:=Zw2 I1 hd;obtain⟨z8,es,ep,bs,g1,g2,g3,g4,g5,g6⟩:=Zvk I2.hok Zc;refine Ze6 z8 ⟨o,g1,g2,g3⟩ λh' hE hI hsz hk=>aO hE ?_;refine⟨_,[s1.heap.objs.size+1,s1.heap.objs.size],_,_,_,rfl,I2.kept (t':=s1.toks) hk,Zab a _ _ (YE _) o kvs bs es ep g2 g3 g4,⟨⟨_,hE⟩,hI⟩,λb hb=>?_,q o bs ⟨g5,g6⟩⟩;have j9:b=s1.heap.objs.size+1∨b=s1.heap.objs.size:=by simpa using hb
 rcases j9 with z|z
 ·rw[z];exact I2.Lm (cY _) (I2.hok.fresh (cY _))
 ·rw[z];exact I2.Lm (oG _) (I2.hok.fresh (oG _))
end
open AutoSeq1 (wpAny_loadPart') in
open AutoSeq1 (wpAny_loadPart') in
section
variable {X:Cx}
end
section
variable {M:Model}{A:Around}{E:UQ}{s:Shared}{base:Heap}{env:Env}{outer:List Env}{L e C:Addr}{d:TZ}
end
section
variable {X:Cx}{pins:US}{σ:St}{H:Hp}{s:Shared}{a C:Addr}{d:TZ}{M:Model}{A:Around}{E':UQ}
end
section
variable {X:Cx}{E:St→XK}
end
section
variable {X:Cx}{pins pins':US}{σ:St}{H:Hp}{s:Shared}{A:Around}{c:Bool}{pn:US}{xe:UQ}
end
section
variable {X:Cx}{pins:US}{σ:St}{H:Hp}{s:Shared}{a C:Addr}{fs:List (Str×V)}{A:Around}{E:UQ}
end
section
variable {P:Program}{w:World}{K:W.Frag}{mg:UW}{base:Heap}
end
section
variable {X:Cx}{es:SA}{n:Nat}{tp:Pos}
end
section
variable {P:Program}{w:World}{A:Around}{E:UQ}{s:Shared}{r t:Addr}{items:TH}
open AutoSeq1 (wpAny_loadPart') in
end
section
variable {X:Cx}
end
section
variable {X:Cx}
end
section
open PySem.W (kasC kasC_pure kasC_bind kasC_get kasC_modify kasC_lift kasC_nil kasC_cons kasC_range kas_item kas_cmp kas_st)
variable {prog:Program}{w:World}{A:Around}{s:Shared}{α β:Type}{st:SortSt}
variable {κ:SortKind}{it:Array Keyed}{n:Nat}{lt:SG}
end
section
open PySem.W (kas_item)
variable {lt:SG}{a b o:List Nat}{ia ib x:Nat}
variable {n:Nat}{pa pb:SJ}{it:Array Keyed}
variable {out:Array Keyed}
end
section
open PySem.W (kas_item)
variable {prog:Program}{w:World}{A:Around}{s:Shared}{st:SortSt}{κ:SortKind}{it:Array Keyed}{n:Nat}{lt:SG}{pa pb:SJ}
section
variable {α β:Type}{R:β→SortSt→Prop}
end
end
section
open PySem.W (kas_item)
variable {lt:SG}{a b o:List Nat}{na nb x:Nat}
variable {n:Nat}{pa pb:SJ}{it:Array Keyed}{out:Array Keyed}
end
section
open PySem.W (kas_item)
variable {prog:Program}{w:World}{A:Around}{s:Shared}{st:SortSt}{κ:SortKind}{it:Array Keyed}{n:Nat}{lt:SG}{pa pb:SJ}{na nb:Nat}
end
section
open PySem.W (kas_item kas_rev kas_swaps_map)
variable {prog:Program}{w:World}{A:Around}{s:Shared}{κ:SortKind}{it:Array Keyed}{n:Nat}{lt:SG}{p:SJ}{pd:Array (Nat×Nat×Nat)}{g:Nat}
section
variable {β:Type}{R:β→SortSt→Prop}
end
abbrev A2:Type:=Option (Option Nat)×Nat
end
section
open PySem.W (kas_item)
variable {prog:Program}{w:World}{A:Around}{s:Shared}{κ:SortKind}{it:Array Keyed}{n:Nat}{lt:SG}{p:SJ}{g:Nat}
end
section
open PySem.W (kas_item kas_st kasC)
variable {prog:Program}{w:World}{A:Around}{s:Shared}{κ:SortKind}{it:Array Keyed}{n:Nat}{lt:SG}{p:SJ}
end
section
open PySem.W (kas_ask kas_item kasC)
end
section
variable {X:Cx}{pins:US}{σ:St}{H:Hp}{s:Shared}{x:Str}{k:Nat}{ps:List Str}{sp:Sp}
end
section
variable {P:Program}{w:World}{A:Around}{E:UQ}{s:Shared}
end
section
variable {X:Cx}{es:SA}{n:Nat}{tp:Pos}
theorem Zuk:bootBuiltins "zip"=some (.type "zip"):=by decide +kernel
end
section
variable {P:Program}{w:World}{H:Hp}{s:Shared}
end
section
variable {X:Cx}
end
section
open PySem.SeqAt
open PySem.AutoSeq1 (wpAny_loadPart')
open PySem.MeetsSeq PySem.MeetsSeq2 PySem.MeetsSeq3
end
section
variable {X:Cx}{K:W.Frag}
end
abbrev N5(h:Heap)(z TI TO:Addr)(f0 f1:Value):Prop:=h.get? z=some { cls:=.type "zip",dict:=none,data:=.fields #[f0,f1,.bool false,.ref TI,.ref TO],slots:=#[] }
theorem Kt:typeLookup (.type "zip") "keys"=pure none:=by rw[typeLookup_type,builtinLookup_eq_fast];kernel_rfl
section
variable {P:Program}{w:World}{A:Around}{E:UQ}{s:Shared}
theorem A6{Q:Option Obj→Shared→Prop}(h:Q (s.heap.get? a) s):wpAny M A (loadIfAlive a) Q E s:=λ_ _ _=>h
theorem Zbu{TI TO:Addr}{b:Value}{Q:SR}(hz:N5 s.heap z TI TO (rawInt T0) b)(ha:s.heap.get? T0=some o)(hb:b=.bool false∨b=.bool true)
  (q:∀h',N5 h' z TI TO (rawInt T0) (.bool true)→Heap.SameBut z s.heap h'→Q false { s with heap:=h' }):wpAny (model P w) A (Builtin.SmallTypes.ownedTupleIsFree (.ref z)) Q E s:=by
 unfold Builtin.SmallTypes.ownedTupleIsFree;refine oA (iF hz rfl (x:=rawInt T0) rfl ?_);show wpAny _ _ (loadIfAlive ((T0:Int).toNat) >>= _) _ _ _;rw[bG];refine oA (A6 ?_);rw[ha];rw[if_neg (by simp)];refine oA (iF hz rfl (x:=b) rfl ?_)
 rcases hb with rfl|rfl
 ·rw[if_pos (by decide)];exact oA (wpAny_setField_rec hz (by simp) λh' xG gU=>oD (q h' xG gU))
 ·rw[if_neg (by decide)];exact oD (q s.heap hz (Heap.SameBut.refl ..))
theorem Zjk{TI TO:Addr}{b:Value}{k:Nat}{xs:TH}{x y:Value}(D:ZipApart z TI TO i1 i2 l1 l2)(hz:N5 s.heap z TI TO (rawInt T0) b)(ha:s.heap.get? T0=some o)(hb:b=.bool false∨b=.bool true)
  (j7:IsPair s.heap TI (.ref i1) (.ref i2)) (h1:s.heap.IsListIter i1 l1 k) (h2:s.heap.IsListIter i2 l2 k) (y9:s.heap.IsList l1 xs) (t0:s.heap.IsList l2 ys) (hx:xs[k]?=some x) (hy:ys[k]?=some y)
  (q:∀h',N5 h' z TI TO (rawInt T0) (.bool true)→h'.IsListIter i1 l1 (k+1)→h'.IsListIter i2 l2 (k+1)→IsPair h' s.heap.objs.size x y→(∀c o,c≠z→c≠i1→c≠i2→s.heap.get? c=some o→h'.get? c=some o)→Q (.ref s.heap.objs.size) { s with heap:=h' }) :
  wpAny (model P w) A (Builtin.«zip.__next__» ⟨[.ref z],[]⟩) (λr s'=>∃v,r=.done (.ret v)∧Q v s') E s:=by
 refine oA (m:=field (.ref z) 2) (iF hz rfl (x:=.bool false) rfl (oA (m:=field (.ref z) 3) (iF hz rfl (x:=.ref TI) rfl (oA (YZ j7 rfl ?_)))));refine oA (m:=Builtin.SmallTypes.ownedTupleIsFree (.ref z)) (Zbu hz ha hb λg1 tE e1=>?_);simp only[iM,if_false];refine oA ?_;simp only[UB,YT,XT];refine oA (oA (iB (oA (m:=Builtin.SmallTypes.nextOf (.ref i1)) (wpAny_nextOf_list_item (h1.extBut e1.extBut D.i1z) (y9.extBut e1.extBut D.l1z) hx λg2 it2 e2=>oD (oD ?_)))));refine oA (oA (iB (oA (m:=Builtin.SmallTypes.nextOf (.ref i2)) (wpAny_nextOf_list_item ((h2.extBut e1.extBut D.i2z).extBut e2.extBut D.i12.symm) ((t0.extBut e1.extBut D.l2z).extBut e2.extBut D.l2i1) hy λg3 jt3 e3=>oD (oD (oD ?_))))));refine oA (wpAny_newTuple (oD ⟨_,rfl,?_⟩) (by show 2≤sizeLine;decide));have sz:g3.objs.size=s.heap.objs.size:=by rw[e3.1,e2.1,e1.1]
 have up:∀c o,c≠z→c≠i1→c≠i2→s.heap.get? c=some o→g3.get? c=some o:=λc o c1 c2 c3 h=>e3.extBut _ _ c3 (e2.extBut _ _ c2 (e1.extBut _ _ c1 h));have hz3:N5 g3 z TI TO (rawInt T0) (.bool true):=e3.extBut _ _ D.i2z.symm (e2.extBut _ _ D.i1z.symm tE);have hp:=oS g3 (o:={ cls:=.type "tuple",data:=.seq #[x,y] }) rfl;show Q (.ref g3.objs.size) _;rw[sz]at hp ⊢;exact q _ (oE _ hz3) ((it2.extBut e3.extBut D.i12).at λo e=>oE _ e) (jt3.at λo e=>oE _ e) hp λc o c1 c2 c3 h=>oE _ (up c o c1 c2 c3 h)
theorem Cg{TI TO:Addr}{b:Value}{k:Nat}{xs:TH}{Q:Fin→Shared→Prop}(hh:A.handled=none)(D:ZipApart z TI TO i1 i2 l1 l2)(hz:N5 s.heap z TI TO (rawInt T0) b)(ha:s.heap.get? T0=some o)(hb:b=.bool false∨b=.bool true)
  (j7:IsPair s.heap TI (.ref i1) (.ref i2)) (h1:s.heap.IsListIter i1 l1 k) (y9:s.heap.IsList l1 xs) (hx:xs[k]?=none)
  (q:∀h' e,(∀c o,c≠z→c≠i1→s.heap.get? c=some o→h'.get? c=some o)→(∃o,h'.get? e=some o∧o.cls=.type "StopIteration")→E (.ref e) { s with heap:=h' }) :
  wpAny (model P w) A (Builtin.«zip.__next__» ⟨[.ref z],[]⟩) Q E s:=by
 refine oA (m:=field (.ref z) 2) (iF hz rfl (x:=.bool false) rfl (oA (m:=field (.ref z) 3) (iF hz rfl (x:=.ref TI) rfl (oA (YZ j7 rfl ?_)))));refine oA (m:=Builtin.SmallTypes.ownedTupleIsFree (.ref z)) (Zbu hz ha hb λg1 tE e1=>?_);simp only[iM,if_false];refine oA ?_;simp only[UB,YT,XT];exact oA (oA (iB (oA (m:=Builtin.SmallTypes.nextOf (.ref i1)) (wpAny_nextOf_list_end hh (h1.extBut e1.extBut D.i1z) (y9.extBut e1.extBut D.l1z) hx λg2 e e2 he=>q g2 e (λc o c1 c2 h=>e2 _ _ c2 (e1.extBut _ _ c1 h)) he))))
structure ZSt(z TI TO i1 i2 l1 l2 d:Addr)(xs ys:TH)(i:Nat)(h:Heap):Prop where
 zp:∃f0 f1,N5 h z TI TO f0 f1∧((f0=.none∧f1=.bool false)∨∃(T0:Addr) (o:Obj),f0=rawInt T0∧h.get? T0=some o∧(T0≠z∧T0≠TO∧T0≠i1∧T0≠i2∧T0≠d)∧(f1=.bool false∨f1=.bool true))
 ti:IsPair h TI (.ref i1) (.ref i2)
 to:∃a b,IsPair h TO a b
 a:h.IsListIter i1 l1 i
 b:h.IsListIter i2 l2 i
 l:h.IsList l1 xs
 m:h.IsList l2 ys
theorem Zjo{TI TO:Addr}{k:Nat}{xs:TH}{x y:Value}{Q:TJ}(D:ZipApart z TI TO i1 i2 l1 l2)(hd:d<s.heap.objs.size)(Z:ZSt z TI TO i1 i2 l1 l2 d xs ys k s.heap)(hx:xs[k]?=some x)(hy:ys[k]?=some y)
  (q:∀h',ZSt z TI TO i1 i2 l1 l2 d xs ys (k+1) h'→IsPair h' s.heap.objs.size x y→(∀c o,c≠z→c≠TO→c≠i1→c≠i2→s.heap.get? c=some o→h'.get? c=some o)→Q (some (.ref s.heap.objs.size)) { s with heap:=h' }):wpAny (model P w) A (pyNext (.ref z)) Q E s:=by
 obtain⟨⟨f0,f1,hz,hf⟩,j7,⟨a,b,xR⟩,h1,h2,y9,t0⟩:=Z;have ty:s.TypeIs (.ref z) "zip":=⟨_,hz,rfl⟩;have lt:∀{c o},s.heap.get? c=some o→s.heap.objs.size≠c:=λe=>bJ (oT e);have ni1:s.heap.objs.size≠i1:=by obtain⟨_,e,_⟩:=h1;exact lt e
 have ni2:s.heap.objs.size≠i2:=by obtain⟨_,e,_⟩:=h2;exact lt e
 rcases hf with ⟨rfl,rfl⟩|⟨T0,o,rfl,ha,hn,hb⟩
 ·refine wpAny_pyNext_zip_item D hz j7 xR h1 h2 y9 t0 hx hy λh' a1 a2 a3 a4 a5 a6 kp=>q h' ⟨⟨_,_,a1,.inr ⟨_,_,rfl,a5,⟨lt hz,lt xR,ni1,ni2,bJ hd⟩,.inl rfl⟩⟩,kp _ _ D.TIz D.TITO D.TIi1 D.TIi2 j7,⟨_,_,a2⟩,a3,a4,y9.at λo e=>kp _ o D.l1z D.l1TO D.l1i1 D.l1i2 e,t0.at λo e=>kp _ o D.l2z D.l2TO D.l2i1 D.l2i2 e⟩ a5 kp
 ·unfold pyNext;refine oA (bI (lR (name:=Str.ofString "__next__") ty VM (lP VM ty F.entry_zip_next (Zjk D hz ha hb j7 h1 h2 y9 t0 hx hy λh' b1 b2 b3 b4 kp=>oD ?_) (F.args_zip_next_1 _))));exact q h' ⟨⟨_,_,b1,.inr ⟨T0,o,rfl,kp _ _ hn.1 hn.2.2.1 hn.2.2.2.1 ha,hn,.inr rfl⟩⟩,kp _ _ D.TIz D.TIi1 D.TIi2 j7,⟨_,_,kp _ _ D.TOz D.TOi1 D.TOi2 xR⟩,b2,b3,y9.at λo e=>kp _ o D.l1z D.l1i1 D.l1i2 e,t0.at λo e=>kp _ o D.l2z D.l2i1 D.l2i2 e⟩ b4 λc o c1 _ c3 c4 e=>kp c o c1 c3 c4 e
theorem Zoi{TI TO:Addr}{k:Nat}{xs:TH}{Q:TJ}(hh:A.handled=none)(D:ZipApart z TI TO i1 i2 l1 l2)(Z:ZSt z TI TO i1 i2 l1 l2 d xs ys k s.heap)(hx:xs[k]?=none)
  (q:∀h',(∀c o,c≠z→c≠TO→c≠i1→c≠i2→s.heap.get? c=some o→h'.get? c=some o)→Q none { s with heap:=h' }):wpAny (model P w) A (pyNext (.ref z)) Q E s:=by
 obtain⟨⟨f0,f1,hz,hf⟩,j7,⟨a,b,xR⟩,h1,h2,y9,t0⟩:=Z;have ty:s.TypeIs (.ref z) "zip":=⟨_,hz,rfl⟩
 rcases hf with ⟨rfl,rfl⟩|⟨T0,o,rfl,ha,hn,hb⟩
 ·exact wpAny_pyNext_zip_end hh D hz j7 xR h1 h2 y9 t0 (.inl hx) q
 ·unfold pyNext;refine oA (bI (lR (name:=Str.ofString "__next__") ty VM (lP VM ty F.entry_zip_next (Cg hh D hz ha hb j7 h1 y9 hx λh' e kp he=>?_) (F.args_zip_next_1 _))));obtain⟨o,h1,h2⟩:=he;exact oA (bY (T:="StopIteration") (b:=true) ⟨o,h1,h2⟩ isSubtype_stop (oD (q _ λc o c1 _ c3 _ e=>kp c o c1 c3 e)))
theorem Zjm{κ:Type} [DecidableEq κ] {knd:PySem.KeyKind P w κ}{TI TO:Addr} (hh:A.handled=none) (D:ZipApart z TI TO i1 i2 l1 l2) (hd:d≠z∧d≠TI∧d≠TO∧d≠i1∧d≠i2∧d≠l1∧d≠l2) (xs ys:TH) (rs:List (κ×Value)) (hn:rs.length=xs.size) (hm:ys.size=xs.size) (hz:xs.size≤sizeLine)
  (hk:∀(i:Nat) x y,xs[i]?=some x→ys[i]?=some y→∃kk,rs[i]?=some (kk,y)∧knd.is kk x=true) :
  ∀(k i:Nat) (j:Int) (s:Shared),xs.size-i=k→i≤xs.size→ZSt z TI TO i1 i2 l1 l2 d xs ys i s.heap→s.heap.DictOf knd d (merged [] (rs.take i))→
   (∀h' tk,(∀b o,b≠d→b≠z→b≠TO→b≠i1→b≠i2→s.heap.get? b=some o→h'.get? b=some o)→h'.DictOf knd d (merged [] rs)→R (.ok (.ret .none)) { s with heap:=h',toks:=tk })→
   codeAny (model P w) A (.builtin "dict.update.loop" ⟨[.ref d,.ref z,rawInt j,.none],[]⟩) R s:=by
 intro k
 induction k with
 |zero=>
  intro i j s kA hi z9 hD hR;have t6:i=xs.size:=by lia
  subst t6;refine aD Qa ?_;rw[bM Wy _];show wpAny _ A.in1 (pyNext (.ref z) >>= _) _ _ s;refine oA (Zoi hh D z9 (by simp) λh' kp=>?_);show wpAny _ A.in1 (Builtin.Dict.addKeywords d [] >>= λ_=>ret Value.none) _ _ _;refine oA (oD (oD (hR h' _ (λb o _ b1 b2 b3 b4 e=>kp b o b1 b2 b3 b4 e) ?_)));rw[←hn,lM]at hD;exact Ae hD λo e=>kp d o hd.1 hd.2.2.1 hd.2.2.2.1 hd.2.2.2.2.1 e
 |succ k ih=>
  intro i j s kA hi z9 hD hR;have x9:i<xs.size:=by lia
  have hx:xs[i]?=some xs[i]:=iP x9;have hy:ys[i]?=some (ys[i]'(by lia)):=iP (by lia);obtain⟨kk,gS,B4⟩:=hk i _ _ hx hy;refine aD Qa ?_;rw[bM Wy _];show wpAny _ A.in1 (pyNext (.ref z) >>= _) _ _ s;have dl:d<s.heap.objs.size:=let ⟨_,_,_,e,_⟩:=hD;oT e
  refine oA (Zjo D dl z9 hx hy λh1 fZ hp uY=>?_);have hT:(Shared.mk h1 s.gens s.drawn s.toks s.os).TypeIs (.ref s.heap.objs.size) "tuple":=⟨_,hp,rfl⟩;have zP:h1.DictOf knd d (merged [] (rs.take i)):=Ae hD λo e=>uY d o hd.1 hd.2.2.1 hd.2.2.2.1 hd.2.2.2.2.1 e;refine oA (iB (oA (wpAny_tryCatch ?_)));unfold Builtin.Dict.pairItems;refine oA (aZ hT ?_);rw[if_pos (by decide)];refine oA (YZ hp rfl (oD ?_))
  have hln:(merged [] (rs.take i)).length≤sizeLine:=by
   have:=merged_length_le ([]:List (κ×Value)) (rs.take i);rw[lC]at this;simp only[ZA]at this;lia
  refine iB (wpAny_dictSet_pairs (hsz:=hln) B4 zP λh2 nQ xY=>?_);have hD3:h2.DictOf knd d (merged [] (rs.take (i+1))):=by rw[merged_take_succ _ _ _ _ gS];exact nQ
  have o6:∀b o,b≠d→h1.get? b=some o→h2.get? b=some o:=λb o hb e=>(xY.2 b hb).trans e
  have rC:ZSt z TI TO i1 i2 l1 l2 d xs ys (i+1) h2:=by
   obtain⟨⟨f0,f1,hz,hf⟩,j7,⟨a,b,xR⟩,gF,zL,y9,t0⟩:=fZ;refine⟨⟨f0,f1,o6 _ _ hd.1.symm hz,hf.imp id λ⟨T0,o,e,ha,hn,hb⟩=>⟨T0,o,e,o6 _ _ hn.2.2.2.2 ha,hn,hb⟩⟩,o6 _ _ hd.2.1.symm j7,⟨a,b,o6 _ _ hd.2.2.1.symm xR⟩,gF.at λo e=>o6 _ o hd.2.2.2.1.symm e,zL.at λo e=>o6 _ o hd.2.2.2.2.1.symm e,y9.at λo e=>o6 _ o hd.2.2.2.2.2.1.symm e,t0.at λo e=>o6 _ o hd.2.2.2.2.2.2.symm e⟩
  refine oD ⟨plainId_quiet Wy _,ih (i+1) (j+1) _ (by lia) x9 rC hD3 λh3 tk3 kp3 hD4=>?_⟩;exact hR h3 tk3 (λb o hb b1 b2 b3 b4 e=>kp3 b o hb b1 b2 b3 b4 (o6 b o hb (uY b o b1 b2 b3 b4 e))) hD4
theorem Ig:typeLookup (.type "zip") "__getattr__"=pure none:=by rw[typeLookup_type,builtinLookup_eq_fast];kernel_rfl
theorem Ro:entryFor table "zip.__getattribute__"=some Builtin.«object.__getattribute__»:=
 entryFor_alias (id':="object.__getattribute__") (by kernel_rfl) (by decide +kernel) (by decide +kernel) (by kernel_rfl)
theorem Qc(a:Addr)(fs:TH)(u:Tok):
  Meets (Builtin.«object.__getattribute__» ⟨[.ref a,.str "keys" u],[]⟩) (λA R s=>s.heap.get? a=some { cls:=.type "zip",dict:=none,data:=.fields fs,slots:=#[] }∧raisesAttr (.ref a) "keys" A R s):=
 Meets.of_wp λprog w A R s hs=>by
  obtain⟨hp,g,d,tk,os⟩:=s;obtain⟨hx,hs⟩:=hs;have hT:(⟨hp,g,d,tk,os⟩:Shared).TypeIs (.ref a) "zip":=⟨_,hx,rfl⟩;have Zwp:=Kt;have Zwo:(["__module__","__name__","__qualname__","__doc__","__annotations__"]:List Str).contains "keys"=false:=by decide
  unfold Builtin.«object.__getattribute__»
  repeat (any_goals (first|assumption|wp_step))
  try simp only[Zwo,iM,if_false]
  repeat (any_goals (first|assumption|wp_step))
  exact wpAny_raiseAttrError hs.1 hs.2 (attrMsg_fits (by decide +kernel) (by size_fits))
theorem Zjl{fs:TH}{Q:TJ}(hx:s.heap.get? a=some { cls:=.type "zip",dict:=none,data:=.fields fs,slots:=#[] })(hA:A.handled=none)
  (h:∀h' tk,(∀b u,s.heap.get? b=some u→h'.get? b=some u)→Q none { s with heap:=h',toks:=tk }):wpAny (model P w) A (getAttr? (.ref a) "keys") Q E s:=by
 obtain⟨hp,g,d,tk,os⟩:=s;have hT:∀mG,(⟨hp,g,d,mG,os⟩:Shared).TypeIs (.ref a) "zip":=λ_=>⟨_,hx,rfl⟩;have f1:=sub_AttributeError;have f3:=XZ.lookup;have f4:=XZ.bind (.ref a);have f5:=Ig;have Zwp:=Kt;unfold getAttr? getAttrBy? getAttrBy
 repeat (any_goals (first|assumption|exact hT _|((with_reducible show wpAny _ _ (call (Value.builtin "zip.__getattribute__") _ _) _ _ _);refine call_meets XZ (hT _) Ro (F.args_zip_getattribute_2 _ _) (Qc a fs _) ⟨hx,hA,λh' mG e yA=>?_⟩)|wp_step))
 obtain⟨t',u',he⟩:=yA.there;have kp:=yA.keeps;have hTe:∀cT,(⟨h',g,d,cT,os⟩:Shared).TypeIs (.ref e) "AttributeError":=λ_=>⟨_,he,rfl⟩;show wpAny _ _ (getattributeRaised _ _ _ _ _ _ _) _ _ _;unfold getattributeRaised
 repeat (any_goals (first|assumption|exact hTe _|wp_step))
 all_goals exact h _ _ kp
theorem Zcm{κ:Type} [DecidableEq κ] {knd:PySem.KeyKind P w κ}{TI TO:Addr}{xs:TH}{rs:List (κ×Value)} (hh:A.handled=none) (D:ZipApart z TI TO i1 i2 l1 l2) (hz:IsZip s.heap z TI TO .none) (j7:IsPair s.heap TI (.ref i1) (.ref i2)) (xR:IsPair s.heap TO .none .none)
  (h1:s.heap.IsListIter i1 l1 0) (h2:s.heap.IsListIter i2 l2 0) (y9:s.heap.IsList l1 xs) (t0:s.heap.IsList l2 ys) (hn:rs.length=xs.size) (hm:ys.size=xs.size) (hsz:xs.size≤sizeLine)
  (hk:∀(i:Nat) x y,xs[i]?=some x→ys[i]?=some y→∃kk,rs[i]?=some (kk,y)∧knd.is kk x=true)
  (h:∀h' tk,(∀b u,b≠z→b≠TO→b≠i1→b≠i2→s.heap.get? b=some u→h'.get? b=some u)→h'.DictOf knd s.heap.objs.size (merged [] rs)→Q (.ref s.heap.objs.size) { s with heap:=h',toks:=tk }):wpAny (model P w) A (call (.type "dict") [.ref z]) Q E s:=by
 refine callType_codes (Q₁:=λobj x6=>obj=.ref s.heap.objs.size∧x6 = { s with heap:=s.heap.push { cls:=.type "dict",data:=.dict #[] } }) F.kt_called_dict (F.kt_typeCall_dict_1 _) F.entry_dict_init (kt_code_dict_new _ ⟨rfl,rfl⟩) ?_;rintro obj x6 ⟨rfl,rfl⟩;have Zb8:(s.heap.push { cls:=.type "dict",data:=.dict #[] }).DictOf knd s.heap.objs.size []:=Heap.DictOf.new s.heap;have up:∀b o,s.heap.get? b=some o→(s.heap.push { cls:=.type "dict",data:=.dict #[] }).get? b=some o:=λb o e=>oE _ e;have xG:=up _ _ hz;have hT:(Shared.mk (s.heap.push { cls:=.type "dict",data:=.dict #[] }) s.gens s.drawn s.toks s.os).TypeIs (.ref z) "zip":=⟨_,xG,rfl⟩;refine⟨Zb8.typeIs,F.args_dict_init_2 _ _,?_⟩;unfold Builtin.«dict.__init__»;refine oA ?_;unfold Builtin.Dict.selfAndRest;refine oA (WZ Zb8.typeIs ?_);show wpAny _ _ (pure (s.heap.objs.size,[Value.ref z])) _ _ _;refine oD ?_;show wpAny _ _ (Builtin.Dict.updateFrom "dict.__init__" s.heap.objs.size (.ref z) [] .none) _ _ _;unfold Builtin.Dict.updateFrom;refine oA (aZ hT ?_);rw[if_pos (by decide)];refine oA (Zjl xG hh λg1 tk1 uY=>?_);rw[if_pos (show (none:Option Value).isNone=true from rfl)];refine oA (aC ?_);have u1:∀b o,s.heap.get? b=some o→g1.get? b=some o:=λb o e=>uY _ _ (up _ _ e);have Zwn:g1.DictOf knd s.heap.objs.size []:=Ae Zb8 λo e=>uY _ o e;refine oA (wpAny_pyIter_zip (u1 _ _ hz) ?_);refine oD ⟨plainId_quiet Wy _,?_⟩;have ne:∀{b o},s.heap.get? b=some o→s.heap.objs.size≠b:=λe=>bJ (oT e);have n1:s.heap.objs.size≠i1:=by obtain⟨_,e,_⟩:=h1;exact ne e
 have n2:s.heap.objs.size≠i2:=by obtain⟨_,e,_⟩:=h2;exact ne e
 have n3:s.heap.objs.size≠l1:=by obtain⟨_,e,_⟩:=y9;exact ne e
 have n4:s.heap.objs.size≠l2:=by obtain⟨_,e,_⟩:=t0;exact ne e
 refine Zjm (A:=A.in1) (knd:=knd) hh D ⟨ne hz,ne j7,ne xR,n1,n2,n3,n4⟩ xs ys rs hn hm hsz hk xs.size 0 0 _ rfl (lD _) ⟨⟨_,_,u1 _ _ hz,.inl ⟨rfl,rfl⟩⟩,u1 _ _ j7,⟨_,_,u1 _ _ xR⟩,h1.at λo e=>u1 _ o e,h2.at λo e=>u1 _ o e,y9.at λo e=>u1 _ o e,t0.at λo e=>u1 _ o e⟩ Zwn λg2 tk2 o6 nQ=>⟨rfl,?_⟩;exact h g2 tk2 (λb u b1 b2 b3 b4 e=>o6 b u (ne e).symm b1 b2 b3 b4 (u1 _ _ e)) nQ
theorem Fm{N:Addr}(h1:l1<N)(h2:l2<N):ZipApart (N+4) (N+2) (N+3) N (N+1) l1 l2:=by
 have a:∀{x y:Nat},x<y→x≠y:=λh=>lE h;have b:∀{x y:Nat},y<x→x≠y:=λh=>bJ h;have g:∀(l k:Nat),l<N→l<N+k:=λl k h=>oZ h (YF ..);exact⟨a (ZE (by decide) _),a (ZE (by decide) _),a (ZD (by decide)),a (ZE (by decide) _),a (ZE (by decide) _),b (ZD (by decide)),b (ZE (by decide) _),b (ZD (by decide)),b (ZE (by decide) _),a (ZD (by decide)),a (g _ _ h1),a (g _ _ h1),a h1,a (g _ _ h1),a (g _ _ h2),a (g _ _ h2),a h2,a (g _ _ h2)⟩
end
section
variable {X:Cx}
def Zms(vs:List V)(H2:Hp)(Q:VK):Prop:=∃(p q:Addr) (kvs:List (Key×V)),vs=[.ref p,.ref q]∧H2 p=some (.lst (kvs.map λkv=>kV kv.1))∧H2 q=some (.lst (kvs.map (·.2)))∧∀l,H2 l=none→Q (.ref l) (upd H2 l (.dK (Wm [] kvs)))
def Zsd(t:TA):TE:=λσ H Q=>t σ H λvs H2=>Zms vs H2 Q
theorem Zjn{kvs:List (Key×V)}:∀{us vs:UX},Vals (kvs.map λkv=>kV kv.1) us→Vals (kvs.map (·.2)) vs→∃rs:List (Key×Value),KV kvs rs∧rs.length=us.length∧∀(i:Nat) x y,us[i]?=some x→vs[i]?=some y→∃kk,rs[i]?=some (kk,y)∧(Z8 X.prog X.w).is kk x=true:=by
 induction kvs with
 |nil=>
  intro us vs h1 h2;cases h1;exact⟨[],.nil,rfl,λi x y h=>by simp at h⟩
 |cons kv kvs ih=>
  intro us vs h1 h2
  cases h1 with
  |cons r1 h1=>
   cases h2 with
   |cons r2 h2=>
    rename_i u us v vs
    obtain⟨rs,a,b,c⟩:=ih h1 h2;refine⟨(kv.1,v) :: rs,.cons ⟨rfl,r2⟩ a,by rw[lG,lG,b],λi x y e1 e2=>?_⟩
    cases i with
    |zero=>cases e1;cases e2;exact⟨kv.1,rfl,Gh r1⟩
    |succ i=>
     obtain⟨kk,q⟩:=c i x y (by simpa using e1) (by simpa using e2);exact⟨kk,by simpa using q⟩
theorem Zdy{f:Expr}{tf:TE}(hc:X.calm=true)(hg:Gl X "dict")(hm:X.mg "dict"=none)(uE:Gl X "zip")(yZ:X.mg "zip"=none)(he:PE X e te)(hf:PE X f tf)
  (h1:starEach [.Call (.Name "zip" p2) [e,f] [] Mt] X.env=(false,eval (.Call (.Name "zip" p2) [e,f] [] Mt) X.env) :: starEach [] X.env:=by rfl)
  (h2:starEach [e,f] X.env=(false,eval e X.env) :: starEach [f] X.env:=by rfl) (h3:starEach [f] X.env=(false,eval f X.env) :: starEach [] X.env:=by rfl):PE X (.Call (.Name "dict" p) [.Call (.Name "zip" p2) [e,f] [] Mt] [] pos) (Zsd (Mc te (Mc tf Zc9))):=by
 intro pins s σ H Q I h;refine iI (Vc I hg hm Zqi ?_);refine iC ?_ h1 rfl;rw[h1];show wpAny _ _ (spliced ((false,eval _ X.env) :: backTo pos (starEach [] X.env))) _ _ s;refine aG (iI (Vc I uE yZ Zuk (iC (thn (Za he (Za hf Zb h3) h2 Mt pins s σ H (λvs H1=>Zms vs H1 Q) I h) λus s1 ⟨vs,H1,I1,r1,q1⟩=>?_) h2 (by rw[h3];rfl))));obtain⟨a,b,kvs,rfl,ha,hb,q⟩:=q1;obtain⟨u,v,rfl,ru,rv⟩:=Vals.two r1;obtain rfl:u=Value.ref a:=ru;obtain rfl:v=Value.ref b:=rv;obtain⟨i1,v1,p1,z1⟩:=I1.list (SqL.of ha);obtain⟨i2,v2,p2,z2⟩:=I1.list (SqL.of hb);obtain⟨rs,rk,n6,gS⟩:=Zjn (X:=X) v1 v2;have n1:i1.length=kvs.length:=by rw[←v1.length,oB]
 have n2:i2.length=kvs.length:=by rw[←v2.length,oB]
 rw[oB]at z1;have la:a<s1.heap.objs.size:=by obtain⟨o,e,_⟩:=p1.isList;exact oT e
 have lb:b<s1.heap.objs.size:=by obtain⟨o,e,_⟩:=p2.isList;exact oT e
 refine call_zip_2 p1.isList p2.isList λh' a1 a2 a3 a4 a5 a6 kp=>ZW ?_;refine Zcm (knd:=Z8 X.prog X.w) (rs:=rs) (I1.ok.hd hc) (Fm la lb) a1 a2 a3 a4 a5 (p1.isList.at λo e=>kp _ o e) (p2.isList.at λo e=>kp _ o e) (by rw[oO];exact n6) (by rw[oO,oO];lia) (by rw[oO];lia) (λi x y e1 e2=>gS i x y (by simpa using e1) (by simpa using e2)) λg tk o6 dd=>?_
 have uX:∀b o,s1.heap.get? b=some o→g.get? b=some o:=λb o e=>by
  have l:=oT e;have n:∀k,b≠s1.heap.objs.size+k:=λk=>lE (oZ l (YF ..));exact o6 b o (n 4) (n 3) (n 0) (n 1) (kp _ _ e)
 have le:s1.heap.objs.size≤h'.objs.size:=by rw[a6];exact YF ..
 have fM:(Wm [] kvs).length≤sizeLine:=by
  have:=Sh kvs [];simp only[ZA]at this;lia
 refine⟨.ref h'.objs.size,_,I1.laid (t':=tk) uX le (Zex fM (beq_eq_false_iff_ne.mpr (bJ (oZ I1.big le))) (rk.merge .nil) dd),rfl,q _ (I1.hok.fresh le)⟩
end
theorem Zqa{k:Nat} 
  (S:Zt N ps scope) (len:∀vs H Q E,sp vs H Q E→vs.length=ps.length)
  (c6:∀vs H Q E,sp vs H Q E→H f=some (FnO f (W.fnX name qual params body scope [] .none .none doc pm none (.ref c) ct))∧H c=some (CdO c qual))
  (Q8:∀(A:Around) (outer:List Env) (s:Shared) (H:Hp) (vs:List V) (Q:VK) (E:XK),Vn k (A.deeper (envOfC qual scope s.heap.objs.size f (.ref c)))→sp vs H Q E→
   ∃t,PSs (Ee CX0 P w K mg base N qual scope f (.ref c) A outer s H E).nox body t∧t { nx:=λ_ H'=>Q .non H',rt:=Q } (start N vs) H) :
  Ya P w K mg base CX0 (k+1) f (W.fnX name qual params body scope [] .none .none doc pm none (.ref c) ct) ps sp:=by
 refine⟨len,λA outer s H args us vs Q E hr e0 hb r m6=>?_⟩;have hl:=len _ _ _ _ m6;obtain⟨hf,hc⟩:=c6 _ _ _ _ m6;have lim:s.heap.NoLimit:=e0.mod.nolimit.keeps λb o e=>(e0.bs b o e).1
 have Zmx:∀y∈ps.zip us,scope.names.lookup y.1=some .local∨(scope.names.lookup y.1=some .cell∧((cellsFrom (s.heap.objs.size+1) scope.names []).lookup y.1).isSome=true):=λ⟨n,v⟩ hy=>by
  rcases S.par n (ZM hy).1 with q|q
  ·exact .inl q
  ·exact .inr ⟨q,W.cellsFrom_some _ _ _ (.inl q)⟩
 refine WU hr.depth (FnO.at_ e0.hok hf) rfl S.co S.gen rfl (CdO.at_ e0.hok hc) (hb _ _ _ _ ?_);refine wpAny_newFunctionEnv_cells S.kind Zmx λenv he s1 x=>?_;subst he;refine⟨lim.keeps x.toInCall.keep,codeAny_func ?_⟩;obtain⟨t,ht,hq⟩:=Q8 A outer s H vs Q E (hr.deeper _) m6;have I:Inv (Ee CX0 P w K mg base N qual scope f (.ref c) A outer s H E) [] (start N vs) H s1:=Ds S hr.hd e0 hl r x;refine aA (ht.nox [] s1 (start N vs) H _ I hq) (λfl s' hs=>?_) λe s' hs=>hs
 cases fl with
 |ret u=>
  obtain⟨v,x8,H',J,rv,q⟩:=hs;exact⟨v,H',J.os,J.bare,J.base,J.hok,rv,q⟩
 |next=>
  obtain⟨x8,H',J,q⟩:=hs;exact⟨.non,H',J.os,J.bare,J.base,J.hok,rfl,q⟩
 |brk=>
  obtain⟨_,_,_,q⟩:=hs;exact False.elim q
 |cont=>
  obtain⟨_,_,_,q⟩:=hs;exact False.elim q
section
variable {P:Program}{w:World}{A:Around}{E:UQ}{s:Shared}
end
section
variable {X:Cx}{es:SA}{n:Nat}{tp:Pos}
end
open AutoSeq1 (wpAny_loadPart') in
section
variable {X:Cx}
end
section
variable {M:Model}{A:Around}{E:UQ}{s:Shared}{base:Heap}{env:Env}{outer:List Env}{L e C T:Addr}{d:TZ}
end
section
variable {X:Cx}{pins:US}{σ:St}{H:Hp}{s:Shared}{a C T:Addr}{d:TZ}{M:Model}{A:Around}{E':UQ}
end
section
variable {prog:Program}{w:World}{A:Around}{R:Result→Shared→Prop}{s:Shared}
end
section
variable {X:Cx}{sc scope:Scope}{Nm own:List Str}{fr:List Nat}{elt tg iter:Expr}{ifs:SA}{Xc:Pos}{wi:TI}{g:TG}{tt:TT}{te:TE}{E:XK}
end
end L2
namespace My
open PySem PySem.Spec PyProof.Rows L2
abbrev RY:=Nat→List Key
abbrev RZ:=List (List Key×V)
abbrev QA:=Hp→Prop
abbrev QB:=Key×V
theorem nS7{H H1:Hp}{a:Addr}{o:HO}(e:upd H a o=H1)(h:H a=none):Zl H H1:=e▸Zf h o
theorem nU7{H H1:Hp}{a:Addr}{o:HO}(e:upd H a o=H1):H1 a=some o:=e▸Zc
variable {A B:Prop}{H H' H2:Hp}{K:W.Frag}{L cs es esD ns o u:List Nat}{N b c d i j n r x y:Nat}{P P':TC}{Pb Pl Pt a aI cw f m p sc:Addr}{Q:VK}{T:SQ}{X:Cx}{acc us vs xs:List V}{fd:FuncData}{g:RS}{key:RY}{kvs:RZ}{l name z:Str}{pl:SD}{st stD:UR}{v:V}{ws:List Wi}{ys zs:List Str}{σ:L2.St}
def top(i:Nat):Stmt:=PySem.Challenge.pw_spreadwords_k74_whole_turned_about_and_w.main.body.getD i (.Pass ⟨0,0,0,0⟩)
abbrev Mm:Stmt:=top 1
abbrev Ob:Stmt:=top 2
abbrev Ux:Stmt:=top 5
abbrev Nk:Stmt:=top 6
abbrev Qr:Stmt:=top 7
abbrev C0:Stmt:=top 8
abbrev S8:Stmt:=top 9
abbrev Uc:Stmt:=top 11
abbrev S9:Stmt:=top 12
abbrev Xj:Stmt:=top 13
abbrev Sd:Stmt:=top 19
abbrev C1:Stmt:=top 20
abbrev Nh:Stmt:=top 21
abbrev Se:Stmt:=top 22
abbrev Ml:Stmt:=top 24
abbrev Yv:Stmt:=top 25
abbrev Vl:Stmt:=top 27
abbrev Vk:Stmt:=top 28
abbrev V1:Stmt:=top 29
abbrev Yu:Stmt:=top 30
abbrev Rb:Stmt:=top 32
abbrev Sf:Stmt:=top 33
abbrev Hh:Stmt:=top 34
abbrev Ra:Stmt:=top 38
abbrev Vi:Stmt:=top 39
abbrev Tq:Stmt:=top 40
abbrev Uw:Stmt:=top 41
abbrev X8:Stmt:=top 42
abbrev Uv:Stmt:=top 43
abbrev Vj:Stmt:=top 44
abbrev Yi:Stmt:=top 46
abbrev Vv:Stmt:=top 47
abbrev Nj:Stmt:=top 49
abbrev Ni:Stmt:=top 50
abbrev V2:Stmt:=top 51
abbrev Wx:Stmt:=top 52
abbrev Tp:Stmt:=top 53
abbrev Vb:Stmt:=top 54
abbrev Ww:Stmt:=top 55
abbrev Wl:Stmt:=top 56
abbrev Qs:Stmt:=top 57
theorem Zh6:Zt ["row"] ["row"] (Ze Mm):=⟨rfl,rfl,rfl,by decide +kernel,rfl,by decide +kernel,by decide +kernel⟩
theorem Zdm:Zt ["text"] ["text"] (Ze Ob):=⟨rfl,rfl,rfl,by decide +kernel,rfl,by decide +kernel,by decide +kernel⟩
theorem Jd:Zt RE RE (Ze Ux):=⟨rfl,rfl,rfl,by decide +kernel,rfl,by decide +kernel,by decide +kernel⟩
theorem V8:Zt ["wish","told","waiting","part","inner"] RE (Ze Nk):=⟨rfl,rfl,rfl,by decide +kernel,rfl,by decide +kernel,by decide +kernel⟩
theorem Vh:Zt ["heads","waiting","head","inner","number"] ["heads"] (Ze Qr):=⟨rfl,rfl,rfl,by decide +kernel,rfl,by decide +kernel,by decide +kernel⟩
theorem Sv:Zt ["heads","lying","waiting","head","name","one","other"] ["heads","lying"] (Ze C0):=⟨rfl,rfl,rfl,by decide +kernel,rfl,by decide +kernel,by decide +kernel⟩
theorem Ky:Zt ["wish","words"] RE (Ze S8):=⟨rfl,rfl,rfl,by decide +kernel,rfl,by decide +kernel,by decide +kernel⟩
theorem L8:Zt ["word","letter"] ["word","letter"] (Ze Uc):=⟨rfl,rfl,rfl,by decide +kernel,rfl,by decide +kernel,by decide +kernel⟩
theorem Sa:Zt ["wish","change","heads","head"] ["wish","change"] (Ze S9):=⟨rfl,rfl,rfl,by decide +kernel,rfl,by decide +kernel,by decide +kernel⟩
theorem He:Zt RE RE (Ze Xj):=⟨rfl,rfl,rfl,by decide +kernel,rfl,by decide +kernel,by decide +kernel⟩
theorem Xm:Zt ["machine","room","text","letters","steps","behind","letter"] RF (Ze Sd):=⟨rfl,rfl,rfl,by decide +kernel,rfl,by decide +kernel,by decide +kernel⟩
theorem Zks:Zt ["machine","text"] ["machine","text"] (Ze C1):=⟨rfl,rfl,rfl,by decide +kernel,rfl,by decide +kernel,by decide +kernel⟩
theorem Za1:Zt TV TV (Ze Nh):=⟨rfl,rfl,rfl,by decide +kernel,rfl,by decide +kernel,by decide +kernel⟩
theorem Hf:Zt SV SV (Ze Se):=⟨rfl,rfl,rfl,by decide +kernel,rfl,by decide +kernel,by decide +kernel⟩
theorem Yl:Zt ["letters","begin","step","texts","level","longer","place","letter","ahead"] SS (Ze Ml):=⟨rfl,rfl,rfl,by decide +kernel,rfl,by decide +kernel,by decide +kernel⟩
theorem Zw:Zt UY SE (Ze Yv):=⟨rfl,rfl,rfl,by decide +kernel,rfl,by decide +kernel,by decide +kernel⟩
theorem Sb:Zt ["rows","firsts"] ["rows"] (Ze Vl):=⟨rfl,rfl,rfl,by decide +kernel,rfl,by decide +kernel,by decide +kernel⟩
theorem Yr:Zt TY SN (Ze Vk):=⟨rfl,rfl,rfl,by decide +kernel,rfl,by decide +kernel,by decide +kernel⟩
theorem Hg:Zt ["machine","likes","step"] SN (Ze V1):=⟨rfl,rfl,rfl,by decide +kernel,rfl,by decide +kernel,by decide +kernel⟩
theorem Wv:Zt ["one","other","begins","texts","pair"] TV (Ze Yu):=⟨rfl,rfl,rfl,by decide +kernel,rfl,by decide +kernel,by decide +kernel⟩
theorem Kz:Zt ["machine","ends"] SN (Ze Rb):=⟨rfl,rfl,rfl,by decide +kernel,rfl,by decide +kernel,by decide +kernel⟩
theorem Cy:Zt ["one","other","step","is_end"] TV (Ze Sf):=⟨rfl,rfl,rfl,by decide +kernel,rfl,by decide +kernel,by decide +kernel⟩
theorem Zh7:Zt TV TV (Ze Hh):=⟨rfl,rfl,rfl,by decide +kernel,rfl,by decide +kernel,by decide +kernel⟩
theorem Za0:Zt RI RI (Ze Ra):=⟨rfl,rfl,rfl,by decide +kernel,rfl,by decide +kernel,by decide +kernel⟩
theorem Ry:Zt ["machine","rows"] SN (Ze Vi):=⟨rfl,rfl,rfl,by decide +kernel,rfl,by decide +kernel,by decide +kernel⟩
theorem Mk:Zt ["word","figures"] RW (Ze Tq):=⟨rfl,rfl,rfl,by decide +kernel,rfl,by decide +kernel,by decide +kernel⟩
theorem Ub:Zt ["row","words","letters"] ["row"] (Ze Uw):=⟨rfl,rfl,rfl,by decide +kernel,rfl,by decide +kernel,by decide +kernel⟩
theorem R0:Zt SY RU (Ze X8):=⟨rfl,rfl,rfl,by decide +kernel,rfl,by decide +kernel,by decide +kernel⟩
theorem Rz:Zt ["rows","at","name","count","numbers"] RV (Ze Uv):=⟨rfl,rfl,rfl,by decide +kernel,rfl,by decide +kernel,by decide +kernel⟩
theorem Y0:Zt SX ["text"] (Ze Vj):=⟨rfl,rfl,rfl,by decide +kernel,rfl,by decide +kernel,by decide +kernel⟩
theorem Wn:Zt ["letters","wish","words","heads","step","is_end"] RM (Ze Yi):=⟨rfl,rfl,rfl,by decide +kernel,rfl,by decide +kernel,by decide +kernel⟩
theorem Mj:Zt RK RK (Ze Vv):=⟨rfl,rfl,rfl,by decide +kernel,rfl,by decide +kernel,by decide +kernel⟩
theorem Za2:Zt RA RA (Ze Nj):=⟨rfl,rfl,rfl,by decide +kernel,rfl,by decide +kernel,by decide +kernel⟩
theorem Qp:Zt ["_law_flow_here","_law_many","_law_cell","_law_digit"] TK (Ze Ni):=⟨rfl,rfl,rfl,by decide +kernel,rfl,by decide +kernel,by decide +kernel⟩
theorem Qq:Zt RH TK (Ze V2):=⟨rfl,rfl,rfl,by decide +kernel,rfl,by decide +kernel,by decide +kernel⟩
theorem Xo:Zt SO RO (Ze Wx):=⟨rfl,rfl,rfl,by decide +kernel,rfl,by decide +kernel,by decide +kernel⟩
theorem S7:Zt SW RL (Ze Tp):=⟨rfl,rfl,rfl,by decide +kernel,rfl,by decide +kernel,by decide +kernel⟩
theorem V7:Zt TF RJ (Ze Vb):=⟨rfl,rfl,rfl,by decide +kernel,rfl,by decide +kernel,by decide +kernel⟩
theorem Xn:Zt ["_law_flow_here","_law_pool_here","_law_room","_law_deep","_law_way","_law_first","_law_word","_law_one"] UZ (Ze Ww):=⟨rfl,rfl,rfl,by decide +kernel,rfl,by decide +kernel,by decide +kernel⟩
theorem V6:Zt ["_law_machine","_law_other","_law_again"] RT (Ze Wl):=⟨rfl,rfl,rfl,by decide +kernel,rfl,by decide +kernel,by decide +kernel⟩
theorem Vu:Zt UU RA (Ze Qs):=⟨rfl,rfl,rfl,by decide +kernel,rfl,by decide +kernel,by decide +kernel⟩
abbrev M8:Stmt:=(Xi Yi).getD 2 (.Pass ⟨0,0,0,0⟩)
abbrev Ox:Stmt:=(Xi Yi).getD 3 (.Pass ⟨0,0,0,0⟩)
theorem Kg:(Y4 ["_law_k"] RH [0,2]).Nodup:=by decide +kernel
theorem Zbx:(Y4 ["n"] ["row"] [0]).Nodup:=by decide +kernel
theorem Bi:(Y4 ["sign"] ["text"] []).Nodup:=by decide +kernel
theorem Ju:(Y4 ["room"] TY [0]).Nodup:=by decide +kernel
theorem Jt:(Y4 ["ahead"] TY [2]).Nodup:=by decide +kernel
theorem Tv:(Y4 ["place"] UY [3,4]).Nodup:=by decide +kernel
theorem Tu:(Y4 ["letter"] UY [2,4,6]).Nodup:=by decide +kernel
theorem Fz:(Y4 ["head"] ["wish","words"] []).Nodup:=by decide +kernel
theorem F4:(Y4 ["_law_k"] TF [0,1]).Nodup:=by decide +kernel
theorem F5:(Y4 ["room"] ["machine","ends"] [0]).Nodup:=by decide +kernel
theorem F0:(Y4 ["number"] RI []).Nodup:=by decide +kernel
theorem M4:(Y4 ["row"] ["machine","rows"] []).Nodup:=by decide +kernel
theorem Ga:(Y4 ["sign"] ["word","figures"] []).Nodup:=by decide +kernel
theorem M6:(Y4 RW SY []).Nodup:=by decide +kernel
theorem M5:(Y4 RW SY []).Nodup:=by decide +kernel
theorem M7:(Y4 ["at"] SX [1,2]).Nodup:=by decide +kernel
theorem Hz:(Y4 ["_law_letter"] SW [3]).Nodup:=by decide +kernel
theorem U2:(Y4 ["_law_word","_law_letter"] SO []).Nodup:=by decide +kernel
theorem Zl8:(Y4 ["_law_one"] UU [2]).Nodup:=by decide +kernel
theorem Zl7:(Y4 ["_law_one"] UU [8]).Nodup:=by decide +kernel
theorem Wz:(Y4 ["number","row"] ["rows","firsts"] [1]).Nodup:=by decide +kernel
theorem Js:(Y4 ["left"] RN [1]).Nodup:=by decide +kernel
theorem Jr:(Y4 ["left"] ["lefts","heads","words"] []).Nodup:=by decide +kernel
structure Blt(mg:UW):Prop where
 all:mg "all"=none
 dict:mg "dict"=none
 enumerate:mg "enumerate"=none
 int:mg "int"=none
 len:mg "len"=none
 list:mg "list"=none
 max:mg "max"=none
 range:mg "range"=none
 reversed:mg "reversed"=none
 set:mg "set"=none
 sorted:mg "sorted"=none
 str:mg "str"=none
 tuple:mg "tuple"=none
 zip:mg "zip"=none
theorem iteD{p:Prop} [Decidable p] (hp:p) (h:A):if decide p=true then A else B:=by
 rw[if_pos (decide_eq_true hp)];exact h
section
variable {P:Program}{w:World}{K:W.Frag}{mg:UW}{base:Heap}
theorem Uz{i:Int}(h0:σ[j]?=some (some (.ref p)))(hp:H p=some (.lst xs))(hv:atI xs i=some v)(q:Q v H):tOp (Zsz K) (L5 j) (tC (.int i)) σ H Q:=
 ⟨_,h0,p,xs,i,v,rfl,rfl,SqL.of hp,hv,q⟩
theorem Zbr(F:Fun K "_law_flow" "_law_flow" Nj f fd)(Z:Blt mg):Ya P w K mg base CX0 1 f fd RA (Zki K):=by
 refine F.ok Za2 (λvs H Q E h=>?_) (λcdv A outer s H vs Q E hr h=>?_)
 ·obtain⟨a,ns,rfl,_⟩:=h;rfl
 obtain⟨a,ns,rfl,hS,k⟩:=h;refine⟨_,(Zh (Zq (Yw (Za (Z9 (Ze4 (K:=K)) (by rfl) Z.list Ar (Za (pv 0) Zb)) (Za Zg (Za Zg (Za Zg (Za Zg Zb)))))))),?_⟩;refine⟨_,rfl,a,_,rfl,.inl hS,λl hl=>?_⟩;refine⟨(by show 5≤sizeLine;decide),λp hp=>?_⟩;have e1:Zl H (upd H l (.lst (ns.map V.int))):=Zf hl _;refine k p l _ (e1.free hp) (e1.trans (Zf hp _)) ⟨⟨_,Zc,0,0,1,0,rfl,by decide,by decide,by decide,by decide,by decide⟩,ns,?_⟩;rw[Zk (Zi Zc hp)];exact Zc
theorem Sy(c:Int)(m:Int)(hm:0<m):0≤c%m∧c%m<m:=⟨Int.emod_nonneg _ (by lia),Int.emod_lt_of_pos _ hm⟩
theorem Zn5{ns:List Int}{a:Int}(h0:0≤a)(h1:a<((ns.map V.int).length:Int)):∃z,atI (ns.map V.int) a=some (.int z):=by
 have hk:a.toNat<ns.length:=by
  rw[oB]at h1;lia
 have q:atI (ns.map V.int) ((a.toNat:Nat):Int)=some (.int ns[a.toNat]):=Zj (by rw[oH,oC hk];rfl);rw[show ((a.toNat:Nat):Int)=a by lia]at q;exact⟨_,q⟩
theorem Zbq(F:Fun K "_law_pick" "_law_pick" Ni f fd)(Z:Blt mg):Ya P w K mg base CX0 1 f fd TK Qm:=by
 refine F.ok Qp (λvs H Q E h=>?_) (λcdv A outer s H vs Q E hr h=>?_)
 ·obtain⟨p,sc,m,rfl,_⟩:=h;rfl
 obtain⟨p,sc,m,rfl,kD,yY,FA,k⟩:=h;obtain⟨xs,hp,a,b,c,d,rfl,ha,hb,hc0,o0,hd⟩:=FA.here;obtain⟨ns,hs⟩:=FA.cells
 refine⟨_,(Zo2 (Xp (PW.pt (Zk7 (Zz Vs (Zr (Z0 (K:=K)) (pv 0) Zg (λ_ _=>rfl)) Zg (Z5 _)) (Zgr (Zz Zlq (Zr (Z0 (K:=K)) (pv 0) Zg (λ_ _=>rfl)) (Z6 (Xf (K:=K)) (by rfl) Z.len Xw (Za (Zr (Z0 (K:=K)) (pv 0) Zg (λ_ _=>rfl)) Zb)) (Z5 _))))) 
    (Zd (Zn (i:=2) Qp.nd (by rfl) (Or.inl (by rfl)) (Zr (Z0 (K:=K)) (Zr (Z0 (K:=K)) (pv 0) Zg (λ_ _=>rfl)) (Zr (Z0 (K:=K)) (pv 0) Zg (λ_ _=>rfl)) (λ_ _=>rfl))) 
    (Zd (Np (Yd Ud (Zr (Z0 (K:=K)) (pv 0) Zg (λ_ _=>rfl)) Zg) (Ka (pv 0) Zg set_list)) 
    (Zh (Xp (Zz Zv3 (pv 2) (Yd Zs6 Zg Zg) (Z5 _)) 
     (Zh (Np (pv 2) (Ka (pv 0) Zg set_list))) 
     (Zh (Np (Yd Nu (Yd Ud (Yd Ud (Yd Zd0 (Zr (Z0 (K:=K)) (pv 0) Zg (λ_ _=>rfl)) Zg) (Yd Nu (pv 2) Zg)) Zg) Zg) (Ka (pv 0) Zg set_list))))))) Yo) 
   (Zd (Xp (Zz Zrr (Zr (Z0 (K:=K)) (pv 0) Zg (λ_ _=>rfl)) Zg (Z5 _)) 
    (Zd (Zn (i:=3) Qp.nd (by rfl) (Or.inl (by rfl)) (Yd Nu (Zr (Z0 (K:=K)) (pv 0) Zg (λ_ _=>rfl)) (pv 1))) 
    (Zd (Np (Yd Bc (Zr (Z0 (K:=K)) (pv 0) Zg (λ_ _=>rfl)) (pv 1)) (Ka (pv 0) Zg set_list)) 
    (Zh (Zq (pv 3))))) Yo) 
   (Zd (Np (Yd Ud (Zr (Z0 (K:=K)) (pv 0) Zg (λ_ _=>rfl)) Zg) (Ka (pv 0) Zg set_list)) 
   (Zd (Np (Yd Nu (Yd Ud (Yd Ud (Yd Zd0 (Zr (Z0 (K:=K)) (pv 0) Zg (λ_ _=>rfl)) Zg) Zg) (Zr (Z0 (K:=K)) (pv 0) Zg (λ_ _=>rfl))) Zg) (Ka (pv 0) Zg set_list)) 
   (Zh (Zq (Yd Nu (Yd Bc (Yd Nu (Yd Zd0 (Yd Ud (Yd Nu (Zr (Z0 (K:=K)) (pv 0) Zg (λ_ _=>rfl)) Zg) Zg) (Yd Ud (Yd Bc (Zr (Z0 (K:=K)) (pv 0) Zg (λ_ _=>rfl)) Zg) Zg)) Zg) Zg) (pv 1)))))))),?_⟩
 refine(let y1:TS:=_;let y6:TS:=Zp _ y1;let y7:TS:=Zp _ y6;let m7:TS:=_;let u8:TS:=Zp _ m7;let d9:TS:=Zp _ u8;let b8:TS:=Zp (Co _ d9 _) y7;let o9:TS:=_;let yF:TS:=Zp _ o9;let kZ:TS:=Zp _ yF;(?_:Zu8 (Co _ kZ _) b8 _ _ _));refine⟨λx8 H'=>∃cv mJ,x8=[some (V.ref p),some (V.int m),cv,none]∧H' p=some (.lst mJ)∧(∀o,upd H' p o=upd H p o)∧Fg sc mJ,?_,?_⟩
 ·have Ir:∃cv mJ,[some (V.ref p),some (V.int m),none,none]=[some (V.ref p),some (V.int m),cv,none]∧H p=some (.lst mJ)∧(∀o,upd H p o=upd H p o)∧Fg sc mJ:=⟨_,_,rfl,hp,λ_=>rfl,a,b,c,d,rfl,ha,hb,hc0,o0,hd⟩;refine Uz rfl hp (Zj (j:=2) rfl) ?_;refine⟨rfl,_,rfl,?_⟩;refine Rk (λ_=>?_) (λ_=>Ir);refine Uz rfl hp (Zj (j:=1) rfl) ?_;refine Uz rfl hp (Zj (j:=0) rfl) ?_;refine⟨sc,_,rfl,.inl (SqL.of hs),_,_,rfl,rfl,_,rfl,?_⟩;refine Rk (λlt=>?_) (λ_=>Ir);obtain⟨z,hz⟩:=Zn5 (ns:=ns) ha (of_decide_eq_true lt);refine Uz rfl hp (Zj (j:=0) rfl) ?_;refine Uz rfl hp (Zj (j:=1) rfl) ?_;refine⟨sc,_,_,_,rfl,rfl,SqL.of hs,hz,?_⟩;refine Uz rfl hp (Zj (j:=1) rfl) ?_;refine⟨_,_,rfl,rfl,_,rfl,p,_,_,1,rfl,rfl,hp,rfl,?_⟩;have uL:upd H p (.lst [.ref sc,.int (a+1),.int b,.int c,.int d]) p=_:=Zc;refine⟨_,rfl,_,_,rfl,rfl,⟨by decide,by decide,by decide⟩,_,_,rfl,rfl,_,rfl,?_⟩;refine Rk (λbig=>?_) (λ_=>?_)
  ·have big':(10:Int) ^ 18≤z:=of_decide_eq_true big;refine⟨_,rfl,_,rfl,p,_,_,2,rfl,rfl,uL,rfl,?_⟩;exact⟨_,_,rfl,Zc,λo=>by rw[N9,N9],a+1,z,c,d,rfl,by lia,by lia,hc0,o0,hd⟩
  ·refine Uz rfl uL (Zj (j:=3) rfl) ?_;refine⟨_,_,rfl,rfl,.inl ⟨by lia,by lia⟩,?_⟩;refine⟨_,rfl,_,_,rfl,rfl,(by show (0:Int)<1000003;decide),_,_,rfl,rfl,_,_,rfl,rfl,_,_,rfl,rfl,(by show (0:Int)<2147483647;decide),?_⟩;refine⟨_,rfl,p,_,_,3,rfl,rfl,uL,rfl,?_⟩;have q:=Sy (c*40013+z%1000003+1) 2147483647 (by decide);exact⟨_,_,rfl,Zc,λo=>by rw[N9,N9],a+1,b,_,d,rfl,by lia,hb,q.1,q.2,hd⟩
 ·rintro x8 H' ⟨cv,mJ,rfl,z7,hu,a',b',c',d',rfl,uA,j9,pI,pJ,i6⟩;refine Uz rfl z7 (Zj (j:=2) rfl) ?_;refine⟨_,_,rfl,rfl,_,rfl,?_⟩;refine Rk (λpos=>?_) (λ_=>?_)
  ·have pos':0<b':=of_decide_eq_true pos;refine Uz rfl z7 (Zj (j:=2) rfl) ?_;refine⟨_,rfl,_,_,rfl,rfl,kD,?_⟩;refine Uz rfl z7 (Zj (j:=2) rfl) ?_;refine⟨_,rfl,_,_,rfl,rfl,⟨kD,yY⟩,_,rfl,p,_,_,2,rfl,rfl,z7,rfl,?_⟩;refine⟨_,rfl,?_⟩;have q:=Sy b' m kD;have e:=k (b'%m) [.ref sc,.int a',.int (b'/m),.int c',.int d'] q.1 q.2 ⟨a',b'/m,c',d',rfl,uA,Int.ediv_nonneg j9 (by lia),pI,pJ,i6⟩;rw[←hu]at e;exact e
  ·refine Uz rfl z7 (Zj (j:=4) rfl) ?_;refine⟨_,_,rfl,rfl,_,rfl,p,_,_,4,rfl,rfl,z7,rfl,?_⟩;have kH:upd H' p (.lst [.ref sc,.int a',.int b',.int c',.int (d'+1)]) p=_:=Zc;refine Uz rfl kH (Zj (j:=3) rfl) ?_;refine⟨_,_,rfl,rfl,.inl ⟨by lia,by lia⟩,_,_,rfl,rfl,?_⟩;refine Uz rfl kH (Zj (j:=4) rfl) ?_;refine⟨_,_,rfl,rfl,_,_,rfl,rfl,(by show (0:Int)<2147483647;decide),?_⟩;refine⟨_,rfl,p,_,_,3,rfl,rfl,kH,rfl,?_⟩;have q:=Sy (c'*48271+12820163+(d'+1)) 2147483647 (by decide);have hp3:∀H3:Hp,upd H3 p (.lst [.ref sc,.int a',.int b',.int ((c'*48271+12820163+(d'+1))%2147483647),.int (d'+1)]) p=some (.lst [.ref sc,.int a',.int b',.int ((c'*48271+12820163+(d'+1))%2147483647),.int (d'+1)]):=λ_=>Zc;refine Uz rfl (hp3 _) (Zj (j:=3) rfl) ?_;refine⟨_,_,rfl,rfl,(by show (0:Int)<65521;decide),_,_,rfl,rfl,?_⟩;refine Uz rfl (hp3 _) (Zj (j:=3) rfl) ?_;have q2:=Sy ((c'*48271+12820163+(d'+1))%2147483647) 65521 (by decide);refine⟨_,_,rfl,rfl,⟨by decide,by decide⟩,_,_,rfl,rfl,_,_,rfl,rfl,.inl ⟨by lia,by lia⟩,_,_,rfl,rfl,(by show (0:Int)<1000003;decide),_,_,rfl,rfl,⟨by decide,by decide⟩,_,rfl,_,_,rfl,rfl,kD,?_⟩;have q3:=Sy (((c'*48271+12820163+(d'+1))%2147483647%65521+1)*((c'*48271+12820163+(d'+1))%2147483647/65521+7919)%1000003/7) m kD;have e:=k _ [.ref sc,.int a',.int b',.int ((c'*48271+12820163+(d'+1))%2147483647),.int (d'+1)] q3.1 q3.2 ⟨a',b',_,d'+1,rfl,uA,j9,q.1,q.2,by lia⟩;rw[←hu,←N9 (H:=H') (o:=.lst [.ref sc,.int a',.int b',.int c',.int (d'+1)])]at e;exact e
def one(c:Nat):Str:=⟨#[c]⟩
theorem Zhz{o8:List Str}(h:o8.Perm (cs.map one)):∃cs':List Nat,cs'.Perm cs∧o8=cs'.map one:=by
 have e:∀y∈o8,y=one (y.cps.toList.headD 0):=λy hy=>by
  obtain⟨c,_,rfl⟩:=lF.mp (h.mem_iff.mp hy);rfl
 have e2:o8=(o8.map λy=>y.cps.toList.headD 0).map one:=by
  rw[lU]
  have:∀(l:List Str),(∀y∈l,y=one (y.cps.toList.headD 0))→l=l.map (one ∘ λy=>y.cps.toList.headD 0):=by
   intro l
   induction l with
   |nil=>intro _;rfl
   |cons y r ih=>
    intro hl;rw[oW,←ih λz hz=>hl z (oQ _ hz)];exact congrArg (· :: r) (hl y oK)
  exact this o8 e
 refine⟨_,?_,e2⟩;have p:=h.map λy:Str=>y.cps.toList.headD 0;rw[lU]at p;have:(λy:Str=>y.cps.toList.headD 0) ∘ one=id:=rfl;rw[this,bZ]at p;exact p
theorem Zec(a b:Nat):ltCps (one a).cps.toList (one b).cps.toList=decide (a<b):=by
 rw[ltCps_eq];exact Kh a b
theorem K0:∀(p:Nat) (cs:List Nat),risingS (one p) (cs.map one)=true→∀c∈cs,p≤c
 |_,[],_,c,hc=>by cases hc
 |p,x :: r,h,c,hc=>by
  have h':(!ltCps (one x).cps.toList (one p).cps.toList&&risingS (one x) (r.map one))=true:=h;rw[lQ,Zec]at h'
  have h1:p≤x:=by
   have:=h'.1;simp at this;exact this
  rcases oX.mp hc with e|e
  ·subst e;exact h1
  ·exact lI h1 (K0 x r h'.2 c e)
theorem Kx:∀(cs:List Nat),sortedS (cs.map one)=true→cs.Pairwise (·≤·)
 |[],_=>.nil
 |p :: r,h=>by
  have h':risingS (one p) (r.map one)=true:=h;refine List.Pairwise.cons (K0 p r h') (Kx r ?_)
  cases r with
  |nil=>rfl
  |cons x r=>
   have h2:(!ltCps (one x).cps.toList (one p).cps.toList&&risingS (one x) (r.map one))=true:=h';rw[lQ]at h2;exact h2.2
theorem Q4:∀{cs:List Nat},cs.Pairwise (·≤·)→cs.Nodup→cs.Pairwise (·<·)
 |[],_,_=>.nil
 |p :: r,h,n=>by
  cases h with
  |cons h1 h2=>
   rw[iJ]at n;refine List.Pairwise.cons (λc hc=>?_) (Q4 h2 n.2);have:=h1 c hc;have:p≠c:=λe=>n.1 (e▸hc);lia
theorem Gw{α:Type}:∀{l:List α}{n:Nat}{v:α},l[n]?=some v→(v :: l.eraseIdx n).Perm l
 |[],n,v,h=>by simp at h
 |x :: r,0,v,h=>by
  have e:x=v:=by simpa using h
  subst e;exact YC _
 |x :: r,n+1,v,h=>by
  have ih:=Gw (l:=r) (n:=n) (v:=v) (by simpa using h);rw[YM];exact(List.Perm.swap x v _).trans (List.Perm.cons x ih)
theorem D5{α β:Type}(f:α→β):∀(l:List α) (i:Nat),(l.map f).eraseIdx i=(l.eraseIdx i).map f
 |[],_=>rfl
 |_ :: _,0=>rfl
 |x :: r,i+1=>by
  rw[oW,YM,YM,oW,D5 f r i]
theorem Dz(cs:List Nat):((cs.map one).map λy=>y.cps.toList).flatten=cs:=by
 induction cs with
 |nil=>rfl
 |cons c r ih=>rw[oW,oW,List.flatten_cons,ih];rfl
theorem Zae(cs:List Nat):((cs.map one).map (·.length)).sum=cs.length:=by
 induction cs with
 |nil=>rfl
 |cons c r ih=>rw[oW,oW,WR,ih,lG,Nat.add_comm];rfl
def abc:List Nat:=(List.range 26).map (· + 97)
theorem Zuq:(Str.ofString "abcdefghijklmnopqrstuvwxyz").cps.toList=abc:=by decide +kernel
theorem Zjh:abc.Nodup:=by decide +kernel
theorem Zqp(h:c∈abc):97≤c∧c≤122:=by
 unfold abc at h;obtain⟨i,hi,rfl⟩:=lF.mp h;have:=iG.mp hi;lia
theorem Zbl(cs:List Nat):cs.map Jg=(cs.map one).map V.str:=by
 rw[lU];rfl
theorem Hv(F:Fun K "_law_letters" "_law_letters" V2 f fd)(Z:Blt mg)(Zy:Cal P w K mg base "_law_pick" 1 TK Qm):
  Ya P w K mg base CX0 2 f fd TK E3:=by
 refine F.ok Qq (λvs H Q E h=>?_) (λcdv A outer s H vs Q E hr h=>?_)
 ·obtain⟨p,sc,m,rfl,_⟩:=h;rfl
 obtain⟨p,sc,m,rfl,kD,yY,FA,k⟩:=h
 refine⟨_,(Zd (Zn (i:=2) Qq.nd (by rfl) (Or.inr (by rfl)) (Z9 (G5 (by rfl)) (by rfl) Z.list Ar (Za Zv Zb))) 
   (Zh (Zq (Yk (K:=K) cZ aF ZR (M9 (K:=K)) Zv (Za (Z6 (Ze2 (K:=K)) (by rfl) Z.sorted Ko (Za (Yj (sc:=Ze V2) (Nm:=RH) (own:=["_law_k"]) (fr:=[0,2]) ⟨rfl,by decide +kernel,by decide +kernel,by decide +kernel,by decide +kernel⟩ (by rfl) (Yb (by decide)) (Vw (by rfl) Z.range (Za (pv 1) Zb)) (λd=>(Zo (i:=0) Kg (by rfl) (Or.inl (by rfl)))) (λd=>Yn) (λd=>(Yk (K:=K) oY bT bU Zl9 (pv 2) (Za (Z2 Zy (hr.mono (by decide)) (Za (pv 1) (Za (Z6 (Xf (K:=K)) (by rfl) Z.len Xw (Za (pv 2) Zb)) Zb))) Zb)))) Zb)) Zb))))),?_⟩
 refine(let y1:TS:=_;(?_:Zp _ y1 _ _ _));refine⟨_,rfl,(by decide +kernel),λl hl=>?_⟩;have e1:Zl H (upd H l (.lst ((Str.ofString "abcdefghijklmnopqrstuvwxyz").cps.toList.map Jg))):=Zf hl _
 have eN:p≠l:=by
  obtain⟨xs,hp,_⟩:=FA.here;exact Zi hp hl
 refine⟨rfl,_,rfl,_,rfl,by lia,by lia,?_⟩
 refine Vy (lo:=0) (k:=m.toNat) (λi acc H2=>∃ys rem:List Nat,acc=ys.map Jg∧ys.length=i∧H2 l=some (.lst (rem.map Jg))∧(ys++rem).Perm abc∧Yx H2 p sc∧Xs H H2 p) (bK (show m.toNat≤26 by lia) (by decide))
  ⟨[],abc,rfl,rfl,by rw[Zc,Zuq],YC _,FA.same e1,Xs.same e1⟩ (λi acc H2 ⟨ys,rem,e,xB,_⟩=>by rw[e,oB,xB];exact oG _) (λi acc H2 hi hp=>?_) (λacc H2 hp q hq=>?_)
 ·obtain⟨ys,rem,rfl,l4,Zpy,Q7,c0,dr⟩:=hp
  have hlen:ys.length+rem.length=26:=by
   have:=Q7.length_eq;rw[oV]at this;exact this
  refine S3 ?_;refine⟨_,rfl,.inl ⟨rfl,_,SqL.of Zpy⟩,_,rfl,_,rfl,l,_,rfl,.inl (SqL.of Zpy),p,sc,_,rfl,?_,?_,c0,λr xs eJ uM o5=>?_⟩
  ·rw[oB];lia
  ·rw[oB];lia
  ·have fT:r<(rem.length:Int):=by
    rw[oB]at uM;exact uM
   have hrn:r.toNat<rem.length:=by lia
   have hv:rem[r.toNat]?=some rem[r.toNat]:=oC hrn;have t0:upd H2 p (.lst xs) l=some (.lst (rem.map Jg)):=by rw[Zk (iY eN)];exact Zpy
   refine⟨l,_,r,r.toNat,Jg rem[r.toNat],rfl,rfl,t0,by lia,by lia,?_,?_,?_⟩
   ·rw[oB];exact seqIndex_of eJ fT
   ·rw[oH,hv];rfl
   ·refine⟨ys++[rem[r.toNat]],rem.eraseIdx r.toNat,by rw[lH];rfl,by rw[oV,l4];rfl,?_,?_,?_,?_⟩
    ·rw[Zc,D5]
    ·rw[WE];exact(List.Perm.append_left ys (Gw hv)).trans Q7
    ·have hU:=c0.go o5;obtain⟨mJ,h1,h2⟩:=hU.here;obtain⟨ns,h3⟩:=hU.cells;refine⟨⟨mJ,by rw[Zk eN];exact h1,h2⟩,ns,?_⟩;rw[Zk ?_]
     ·exact h3
     ·obtain⟨ns0,h0⟩:=FA.cells;exact Zi h0 hl
    ·intro b o hb m5;rw[Zk (Zi hb hl),Zk m5];exact dr b o hb m5
 ·obtain⟨ys,rem,rfl,l4,Zpy,Q7,c0,dr⟩:=hp;have hn:ys.Nodup:=(WD.mp (Q7.nodup_iff.mpr Zjh)).1;refine⟨q,ys.map one,rfl,SqL.of (by rw[Zc,Zbl]),by rw[oB];lia,λo8 l2 kH xY t0=>?_⟩;obtain⟨cs,hc,rfl⟩:=Zhz kH;have hclen:=hc.length_eq;refine⟨_,l2,cs.map one,rfl,rfl,SqL.of Zc,?_,?_⟩
  ·rw[Zae,oB];have:(Str.ofString "").length=0:=by decide +kernel
   rw[this];lia
  ·have e3:=O5 (cs.map one);rw[Dz]at e3;refine k _ _ ⟨?_,?_,λc hcm=>?_⟩ ?_ ?_
   ·rw[e3];lia
   ·rw[e3];exact Q4 (Kx cs xY) (hc.nodup_iff.mpr hn)
   ·rw[e3]at hcm;exact Zqp (Q7.mem_iff.mp (aK _ (hc.mem_iff.mp hcm)))
   ·exact dr.trans (Xs.trans (Xs.same (Zf hq _)) (Xs.same (Zf t0 _)))
   ·exact(c0.same (Zf hq _)).same (Zf t0 _)
theorem Rp{H0:Hp}(d:Xs H0 H p)(o:HO):Xs H0 (upd H p o) p:=d.trans (Xs.upd o)
theorem Zn4{l:Str}{r:Int}(h0:0≤r)(h1:r<(l.length:Int)):∃c,c∈l.cps.toList∧atI l.cps.toList r=some c:=by
 have hk:r.toNat<l.cps.toList.length:=by
  have:l.cps.toList.length=l.length:=by simp[Str.length]
  lia
 refine⟨l.cps.toList[r.toNat],bX hk,?_⟩;have q:atI l.cps.toList ((r.toNat:Nat):Int)=some l.cps.toList[r.toNat]:=Zj (oC hk);rw[show ((r.toNat:Nat):Int)=r by lia]at q;exact q
def Drawn(H:Hp)(p sc:Addr)(l:Str)(i:Nat)(acc:List V)(H2:Hp):Prop:=∃ys:List Nat,acc=ys.map Jg∧ys.length=i∧(∀c∈ys,c∈l.cps.toList)∧Yx H2 p sc∧Xs H H2 p
theorem Zeu{jl jf:Nat}(gQ:0<l.length)(y9:l.length≤1000)(hv1:σ[jl]?=some (some (.str l)))(hv2:σ[jf]?=some (some (.ref p)))(h:Drawn H p sc l i acc H2):
  tOp Zoz (L5 jl) (Zka Qm [] E0 (Mc (L5 jf) (Mc (tCB (λxs H Q=>∃z,xs=[V.str z]∧z.length≤sizeLine∧Q (.int z.length) H) (Mc (L5 jl) Zc9)) Zc9))) σ H2 λv H6=>Drawn H p sc l (i+1) (acc++[v]) H6:=by
 obtain⟨ys,rfl,l4,rJ,c0,dr⟩:=h;refine⟨_,hv1,_,hv2,_,hv1,l,rfl,Xv y9,p,sc,_,rfl,by lia,by lia,c0,λr xs h0 h1 hx=>?_⟩;obtain⟨c,hc,ha⟩:=Zn4 h0 h1;exact⟨l,r,c,rfl,rfl,Xv y9,ha,ys++[c],by rw[lH];rfl,by rw[oV,l4];rfl,λc' h'=>(iD.mp h').elim (rJ c') λz=>by rw[oU.mp z];exact hc,c0.go hx,Rp dr _⟩
theorem Zi4:∀i acc H2,Drawn H p sc l i acc H2→acc.length≤i:=λi acc H2 ⟨ys,e,xB,_⟩=>by rw[e,oB,xB];exact oG _
theorem F8(ys:List Nat)(h:ys.length≤1000):((ys.map one).map (·.length)).sum+(ys.map one).length*(Str.ofString "").length≤16777216:=by
 have:(Str.ofString "").length=0:=by decide +kernel
 rw[Zae,this];lia
theorem join_ones(ys:List Nat):(Txt.join (Str.ofString "") (ys.map one)).cps.toList=ys:=by
 rw[O5,Dz]
def emb:List Nat→List Nat→Nat
 |[],_=>1
 |_ :: _,[]=>0
 |c :: w,d :: t=>emb (c :: w) t+if c=d then emb w t else 0
theorem Ol(t:List Nat):emb [] t=1:=by cases t<;>rfl
theorem Gy(c:Nat)(w:List Nat)(d:Nat)(t:List Nat):emb (c :: w) (d :: t)=emb (c :: w) t+if c=d then emb w t else 0:=rfl
theorem Zhj{w:List Nat}(h:w≠[]):emb w []=0:=by
 cases w with
 |nil=>exact absurd rfl h
 |cons c r=>rfl
theorem Znk(w:List Nat)(d:Nat)(t:List Nat):emb w t≤emb w (d :: t):=by
 cases w with
 |nil=>rw[Ol,Ol];exact oG _
 |cons c w=>rw[Gy];lia
theorem Zcf(c:Nat)(w:List Nat):∀t:List Nat,0<emb (c :: w) t→0<emb w t
 |[],h=>absurd h (iL 0)
 |d :: t,h=>by
  rw[Gy]at h;have m:=Znk w d t
  by_cases z:0<emb (c :: w) t
  ·have:=Zcf c w t z;lia
  ·by_cases e:c=d
   ·rw[if_pos e]at h;lia
   ·rw[if_neg e]at h;lia
def adv(w:List Nat)(k c:Nat):Nat:=if k<w.length∧w.getD k 0=c then k+1 else k
def spB(w t:List Nat):Bool:=decide (t.foldl (adv w) 0=w.length)
theorem Ie(w:List Nat):∀(t:List Nat) (k:Nat),k≤w.length→(t.foldl (adv w) k=w.length↔0<emb (w.drop k) t)
 |[],k,hk=>by
  show k=w.length↔_
  by_cases e:k=w.length
  ·subst e;rw[YG,Ol];simp
  ·rw[Zhj (by
    intro z;have:=congrArg List.length z;rw[bA,ZA]at this
    lia)]
   lia
 |d :: t,k,hk=>by
  rw[List.foldl_cons]
  by_cases hl:k<w.length
  ·have hd:w.drop k=w.getD k 0 :: w.drop (k+1):=by
    rw[bO hl,oJ,oC hl];rfl
   by_cases e:w.getD k 0=d
   ·have ea:adv w k d=k+1:=by unfold adv;rw[if_pos ⟨hl,e⟩]
    rw[ea,Ie w t (k+1) hl,hd,Gy,if_pos e];constructor
    ·intro h;lia
    ·intro h
     by_cases z:0<emb (w.getD k 0 :: w.drop (k+1)) t
     ·exact Zcf _ _ t z
     ·lia
   ·have ea:adv w k d=k:=by unfold adv;rw[if_neg λz=>e z.2]
    rw[ea,Ie w t k hk,hd,Gy,if_neg e];simp
  ·have e:k=w.length:=by lia
   have ea:adv w k d=k:=by unfold adv;rw[if_neg λz=>hl z.1]
   rw[ea,Ie w t k hk];subst e;rw[YG,Ol,Ol]
theorem Zsr(w t:List Nat):spB w t=decide (0<emb w t):=by
 unfold spB;rw[bW,decide_eq_true_eq,decide_eq_true_eq,Ie w t 0 (lD _),XU]
def tab(L:Nat)(f:TX):List V:=(List.range (L+1)).map λn=>V.int ((f n:Nat):Int)
theorem Zw8{α:Type}{xs:List α}{i:Nat}{v:α}(h:xs[i]?=some v):atI xs (0+(i:Int))=some v:=by
 rw[Int.zero_add];exact Zj h
def wB(c:Nat):Bool:=decide (97≤c)&&decide (c≤122)
def rB(cs:List Nat)(i:Nat):Bool:=decide (cs.getD i 0<cs.getD (i+1) 0)
def Zow(cs:List Nat):Bool:=((List.range (cs.length-1)).map (rB cs)).all id
def Zjq(cs:List Nat):Bool:=(cs.map wB).all id
inductive Ez(vs:List V)(H:Hp)(Q:VK):Prop
 |mk(z:Str)(h1:vs=[.str z])(h2:z.length≤1000)(h3:∀H',Zl H H'→Q (.bl (Zow z.cps.toList)) H'):Ez vs H Q
def Zaj:Sp:=λvs H Q _=>Ez vs H Q
inductive E5(vs:List V)(H:Hp)(Q:VK):Prop
 |mk(z:Str)(h1:vs=[.str z])(h2:z.length≤1000)(h3:∀H',Zl H H'→Q (.bl (Zjq z.cps.toList)) H'):E5 vs H Q
def Zat:Sp:=λvs H Q _=>E5 vs H Q
theorem len_list(z:Str):z.cps.toList.length=z.length:=by simp[Str.length]
theorem Zur:(Str.ofString "a").cps.toList=[97]:=by decide +kernel
theorem z_list:(Str.ofString "z").cps.toList=[122]:=by decide +kernel
theorem Zn0(hj:σ[j]?=some (some (.str ⟨#[c]⟩)))(q:Q (.bl (wB c)) H):
  Zda (λx y H Q=>∃i j,x=V.str i∧y=V.str j∧Q (.bl (!decide (j.cps.toList<i.cps.toList))) H) (λx y H Q=>∃i j,x=V.str i∧y=V.str j∧Q (.bl (!decide (j.cps.toList<i.cps.toList))) H) (tC (.str (Str.ofString "a"))) (L5 j) (tC (.str (Str.ofString "z"))) σ H Q:=by
 refine⟨_,hj,_,_,rfl,rfl,_,rfl,?_⟩;have e1:decide ((⟨#[c]⟩:Str).cps.toList<(Str.ofString "a").cps.toList)=decide (c<97):=by rw[Zur];exact Kh c 97
 have e2:decide ((Str.ofString "z").cps.toList<(⟨#[c]⟩:Str).cps.toList)=decide (122<c):=by rw[z_list];exact Kh 122 c
 rw[e1]
 by_cases h:c<97
 ·have:wB c=false:=by unfold wB;rw[decide_eq_false (by lia)];rfl
  rw[decide_eq_true h];rw[this]at q;exact Rj q
 ·rw[decide_eq_false h];refine Kj ⟨_,_,rfl,rfl,?_⟩;rw[e2]
  have:wB c = !decide (122<c):=by
   unfold wB;rw[decide_eq_true (show 97≤c by lia),Bool.true_and]
   by_cases h2:122<c
   ·rw[decide_eq_true h2,decide_eq_false (by lia)];rfl
   ·rw[decide_eq_false h2,decide_eq_true (by lia)];rfl
  rw[this]at q;exact q
def Seen(H:Hp)(f:RC)(cs:List Nat)(i:Nat)(acc:List V)(H2:Hp):Prop:=acc=((cs.take i).map f).map V.bl∧i≤cs.length∧Zl H H2
theorem Zkr{f:RC}:∀i acc H2,Seen H f cs i acc H2→acc.length≤i:=λi acc H2 ⟨e,_,_⟩=>by
 rw[e,oB,oB,lC];exact iR _ _
theorem Zh3{f:RC}(hc:cs[i]?=some c)(h:Seen H f cs i acc H2):Seen H f cs (i+1) (acc++[.bl (f c)]) H2:=by
 obtain⟨rfl,hi,e⟩:=h;have x9:i<cs.length:=(oF.mp hc).1;refine⟨?_,x9,e⟩;rw[iE,hc,lH,lH];rfl
theorem Zn6{i:Nat}(h:i<cs.length):atI cs (0+(i:Int))=some (cs.getD i 0):=by
 rw[oJ,oC h];exact Zw8 (oC h)
theorem Zqm{i:Nat}(h:i+1<cs.length):atI cs (0+(i:Int)+1)=some (cs.getD (i+1) 0):=by
 have:=Zn6 h;rw[show (0:Int)+((i+1:Nat):Int)=0+(i:Int)+1 by lia]at this;exact this
theorem Zio{i:Nat}{jr jn:Nat}(hz:z.length≤1000)(hi:i+1<z.cps.toList.length)(hr:σ[jr]?=some (some (.str z)))(hn:σ[jn]?=some (some (.int (0+(i:Int)))))(q:Q (.bl (rB z.cps.toList i)) H):
  tOp (λx y H Q=>∃i j,x=V.str i∧y=V.str j∧Q (.bl (decide (i.cps.toList<j.cps.toList))) H) (tOp Zoz (L5 jr) (L5 jn)) (tOp Zoz (L5 jr) (tOp (rI0 λi j=>.int (i+j)) (L5 jn) (tC (.int 1)))) σ H Q:=by
 refine⟨_,hr,_,hn,z,_,_,rfl,rfl,Xv hz,Zn6 (by lia),_,hr,_,hn,_,_,rfl,rfl,z,_,_,rfl,rfl,Xv hz,Zqm hi,_,_,rfl,rfl,?_⟩;have e:decide ((⟨#[z.cps.toList.getD i 0]⟩:Str).cps.toList<(⟨#[z.cps.toList.getD (i+1) 0]⟩:Str).cps.toList)=rB z.cps.toList i:=Kh _ _;rw[e];exact q
def Zhv(H:Hp)(cs:List Nat)(i:Nat)(acc:List V)(H2:Hp):Prop:=acc=((List.range i).map (rB cs)).map V.bl∧Zl H H2
theorem Zh4:∀i acc H2,Zhv H cs i acc H2→acc.length≤i:=λi acc H2 ⟨e,_⟩=>by
 rw[e,oB,oB,lO];exact oG _
theorem Zdk(h:Zhv H cs i acc H2):Zhv H cs (i+1) (acc++[.bl (rB cs i)]) H2:=by
 obtain⟨rfl,e⟩:=h;refine⟨?_,e⟩;rw[ZS,lH,lH];rfl
theorem Zij(F:Fun K "rising" "rising" Mm f fd)(Z:Blt mg):Ya P w K mg base CX0 1 f fd ["row"] Zaj:=by
 refine F.ok Zh6 (λvs H Q E h=>?_) (λcdv A outer s H vs Q E hr h=>?_)
 ·obtain⟨z,rfl,_⟩:=h;rfl
 obtain⟨z,rfl,hz,k⟩:=h;refine⟨_,(Zh (Zq (Z6 (S5 (K:=K)) (by rfl) Z.all G7 (Za (Yj (sc:=Ze Mm) (Nm:=["row"]) (own:=["n"]) (fr:=[0]) ⟨rfl,by decide +kernel,by decide +kernel,by decide +kernel,by decide +kernel⟩ (by rfl) (Yb (by decide)) (Vw (by rfl) Z.range (Za (Yd Sg (Z6 Uk (by rfl) Z.len Xw (Za (pv 0) Zb)) Zg) Zb)) (λd=>(Zo (i:=0) Zbx (by rfl) (Or.inl (by rfl)))) (λd=>Yn) (λd=>(Wf Zig (Zr Bx (pv 1) (pv 0) (λ_ _=>rfl)) (Zr Bx (pv 1) (Yd Ud (pv 0) Zg) (λ_ _=>rfl)) (Z5 _)))) Zb)))),?_⟩;have hl:=len_list z;refine⟨_,rfl,z,rfl,Xv hz,_,_,rfl,rfl,_,rfl,by lia,by lia,?_⟩
 refine Vy (lo:=0) (k:=((z.length:Int)-1).toNat) (Zhv H z.cps.toList) (bK (show ((z.length:Int)-1).toNat≤1000 by lia) (by decide)) ⟨rfl,Zl.refl _⟩ Zh4
  (λi acc H2 hi hp=>S3 (Zio hz (by lia) rfl rfl (Zdk hp))) (λacc H2 hp l t0=>?_)
 obtain⟨rfl,e⟩:=hp;refine⟨l,_,rfl,SqL.of Zc,?_⟩;have q:=k _ (e.trans (Zf t0 (.lst (((List.range ((z.length:Int)-1).toNat).map (rB z.cps.toList)).map V.bl))));unfold Zow at q;rw[hl,show z.length-1=((z.length:Int)-1).toNat by lia]at q;exact q
theorem Zd2(F:Fun K "is_word" "is_word" Ob f fd)(Z:Blt mg):Ya P w K mg base CX0 1 f fd ["text"] Zat:=by
 refine F.ok Zdm (λvs H Q E h=>?_) (λcdv A outer s H vs Q E hr h=>?_)
 ·obtain⟨z,rfl,_⟩:=h;rfl
 obtain⟨z,rfl,hz,k⟩:=h;refine⟨_,(Zh (Zq (Z6 (S5 (K:=K)) (by rfl) Z.all G7 (Za (Yj (sc:=Ze Ob) (Nm:=["text"]) (own:=["sign"]) (fr:=[]) ⟨rfl,by decide +kernel,by decide +kernel,by decide +kernel,by decide +kernel⟩ (by rfl) (Yb (by decide)) (Qt (pv 0)) (λd=>(Zo (i:=0) Bi (by rfl) (Or.inl (by rfl)))) (λd=>Yn) (λd=>(Hq Oh Oh Zv (pv 0) Zv))) Zb)))),?_⟩;have hl:=len_list z;refine⟨_,rfl,z,rfl,?_⟩
 refine Pd (cs:=z.cps.toList) (Seen H wB z.cps.toList) (by rw[hl];exact Z1 hz) ⟨rfl,lD _,Zl.refl _⟩ Zkr
  (λi acc H2 c hc hp=>S3 (Zn0 rfl (Zh3 hc hp))) (λacc H2 hp l t0=>?_)
 obtain⟨rfl,_,e⟩:=hp;rw[lM];exact⟨l,_,rfl,SqL.of Zc,k _ (e.trans (Zf t0 _))⟩
theorem Tx(es:List Nat):(es.map λn:Nat=>V.int (n:Int)).all O6=true:=by
 induction es with
 |nil=>rfl
 |cons e r ih=>rw[oW,UI,ih];rfl
def nI(n:Nat):V:=.int (n:Int)
structure Z7(H:Hp)(m:Addr)(l:Str)(b:Nat)(es:List Nat)(st:UR):Prop where
 lay:∃(e s:Addr) (ras:SM),H m=some (.tup [.str l,nI b,.ref e,.ref s])∧H e=some (.tup (es.map nI))∧H s=some (.tup (ras.map V.ref))∧ras.length=st.length∧∀(i:Nat) a r,ras[i]?=some a→st[i]?=some r→H a=some (.tup (r.map nI))
 few:0<l.length∧l.length≤3∧st.length≤576
 beg:b<st.length
 rows:∀r∈st,r.length=l.length∧∀x∈r,x<st.length
theorem Z7.same(h:Z7 H m l b es st)(e:Zl H H'):Z7 H' m l b es st:=by
 obtain⟨⟨e1,s1,ras,h1,h2,h3,h4,h5⟩,f,g,r⟩:=h;exact⟨⟨e1,s1,ras,e _ _ h1,e _ _ h2,e _ _ h3,h4,λi a r q1 q2=>e _ _ (h5 i a r q1 q2)⟩,f,g,r⟩
def stp(l:Str)(st:UR)(r c:Nat):Nat:=(st.getD r []).getD (Txt.find l (one c)).toNat 0
def way(l:Str)(st:UR)(r:Nat)(t:List Nat):Nat:=t.foldl (stp l st) r
theorem Ac(h:c∈l.cps.toList):0≤Txt.find l (one c)∧(Txt.find l (one c)).toNat<l.length:=by
 have hl:=len_list l;obtain⟨i,hi,e⟩:=bE h
 have hD:∀v:Nat,v<l.length→l.cps.getD v 0=l.cps.toList.getD v 0:=λv hv=>by
  rw[oJ,lL,ZJ]
 have hf:Txt.find l (one c)=Txt.find3 l (one c) 0:=by
  unfold Txt.find Txt.find3;rfl
 rcases StrLaws.find3_spec l c 0 with ⟨_,hn⟩|⟨k,hk,_,x9,_⟩
 ·refine absurd ?_ (hn i ?_ (by lia))
  ·rw[hD i (by lia),oJ,oC hi];exact e
  ·show _≤i;unfold PySem.fromIndex;simp
 ·rw[hf];have:Txt.find3 l (one c) 0=(k:Int):=hk;rw[this];lia
theorem getD_mem{α:Type}{l:List α}{d:α}(h:i<l.length):l.getD i d∈l∧l[i]?=some (l.getD i d):=by
 rw[oJ,oC h];exact⟨bX h,rfl⟩
theorem Uu(M:Z7 H m l b es st)(hr:r<st.length)(hc:c∈l.cps.toList):stp l st r c<st.length:=by
 obtain⟨h1,h2⟩:=M.rows _ (getD_mem (d:=[]) hr).1;have hf:=Ac hc;exact h2 _ (getD_mem (l:=st.getD r []) (d:=0) (by rw[h1];exact hf.2)).1
theorem Zcy{H:Hp}{m:Addr}{l:Str}{b:Nat}{es:List Nat}{st:UR}(M:Z7 H m l b es st):∀(t:List Nat) (r:Nat),r<st.length→(∀c∈t,c∈l.cps.toList)→way l st r t<st.length
 |[],r,hr,_=>hr
 |c :: t,r,hr,h=>Zcy M t _ (Uu M hr (h c oK)) λx hx=>h x (oQ _ hx)
inductive Zf1(vs:List V)(H:Hp)(Q:VK):Prop
 |mk(m:Addr)(l:Str)(b:Nat)(es:List Nat)(st:UR)(r:Nat)(t:Str)(h1:vs=[.ref m,nI r,.str t])(h2:Z7 H m l b es st)(h3:r<st.length)(h4:(∀c∈t.cps.toList,c∈l.cps.toList))(h5:Q (nI (way l st r t.cps.toList)) H):Zf1 vs H Q
def Cs:Sp:=λvs H Q _=>Zf1 vs H Q
inductive Zah(vs:List V)(H:Hp)(Q:VK):Prop
 |mk(m:Addr)(l:Str)(b:Nat)(es:List Nat)(st:UR)(t:Str)(h1:vs=[.ref m,.str t])(h2:Z7 H m l b es st)(h3:(∀c∈t.cps.toList,c∈l.cps.toList))(h4:Q (.bl (inV (nI (way l st b t.cps.toList)) (es.map nI))) H):Zah vs H Q
def Cr:Sp:=λvs H Q _=>Zah vs H Q
theorem Zox{K:W.Frag}(M:Z7 H m l b es st){r:Nat}(hr:r<st.length)(hc:c∈l.cps.toList)(q:Q (nI (stp l st r c)) H):
  ∃(e s:Addr) (ras:SM) (a:Addr),H m=some (.tup [.str l,nI b,.ref e,.ref s])∧H s=some (.tup (ras.map V.ref))∧atI (ras.map V.ref) (r:Int)=some (.ref a)∧H a=some (.tup ((st.getD r []).map nI))∧0≤Txt.find l ⟨#[c]⟩∧atI ((st.getD r []).map nI) (Txt.find l ⟨#[c]⟩)=some (nI (stp l st r c)):=by
 obtain⟨e,s,ras,h1,h2,h3,h4,h5⟩:=M.lay;have zY:r<ras.length:=by lia
 have hf:=Ac hc;obtain⟨g1,g2⟩:=getD_mem (l:=st) (d:=[]) hr;have hlen:=(M.rows _ g1).1;have g3:=(getD_mem (l:=st.getD r []) (i:=(Txt.find l (one c)).toNat) (d:=0) (by rw[hlen];exact hf.2)).2;refine⟨e,s,ras,ras[r],h1,h3,Zj (by rw[oH,oC zY];rfl),h5 r _ _ (oC zY) g2,hf.1,?_⟩;have z:atI ((st.getD r []).map nI) (((Txt.find l (one c)).toNat:Nat):Int)=some (nI (stp l st r c)):=Zj (by rw[oH,g3];rfl);rw[show (((Txt.find l (one c)).toNat:Nat):Int)=Txt.find l (one c) by lia]at z;exact z
theorem Zjr(l:Str)(st:UR)(r:Nat)(t:List Nat)(i c:Nat)(h:t[i]?=some c):way l st r (t.take (i+1))=stp l st (way l st r (t.take i)) c:=by
 rw[iE,h];unfold way;rw[YX];rfl
theorem take_all{P:SD}{t:List Nat}(h:∀c∈t,P c):∀c∈t.take n,P c:=λc hc=>h c (XE hc)
theorem Ht(F:Fun K "room_behind" "room_behind" Sd f fd)(Z:Blt mg):Ya P w K mg base CX0 1 f fd RF Cs:=by
 refine F.ok Xm (λvs H Q E h=>?_) (λcdv A outer s H vs Q E hr h=>?_)
 ·obtain⟨m,l,b,es,st,r,t,rfl,_⟩:=h;rfl
 obtain⟨m,l,b,es,st,r,t,rfl,M,eJ,ht,k⟩:=h
 refine⟨_,(Zd (Zn (i:=3) Xm.nd (by rfl) (Or.inl (by rfl)) (Zr (Zs (K:=K)) (pv 0) Zg (λ_ _=>rfl))) 
   (Zd (Zn (i:=4) Xm.nd (by rfl) (Or.inl (by rfl)) (Zr (Zs (K:=K)) (pv 0) Zg (λ_ _=>rfl))) 
   (Zd (Zn (i:=5) Xm.nd (by rfl) (Or.inl (by rfl)) (pv 1)) 
   (Zd (Xq lW (by rfl) (Qt (pv 2)) (Zo (i:=6) Xm.nd (by rfl) (Or.inl (by rfl))) 
    (Zh (Zn (i:=5) Xm.nd (by rfl) (Or.inl (by rfl)) (Zr (Zs (K:=K)) (Zr (Zs (K:=K)) (pv 4) (pv 5) (λ_ _=>rfl)) (Yk (K:=K) cZ PySem.F.slot_str_index PySem.F.type_str_index (Zma (by rfl)) (pv 3) (Za (pv 6) Zb)) (λ_ _=>rfl))))) 
   (Zh (Zq (pv 5))))))),?_⟩
 refine(let y1:TS:=_;let y6:TS:=Zp _ y1;let y7:TS:=Zp _ y6;let m7:TS:=Zp _ y7;(?_:Zp _ m7 _ _ _));obtain⟨e,s',ras,h1,h2,h3,h4,h5⟩:=M.lay;refine⟨_,rfl,m,_,_,_,rfl,rfl,SqT.of h1,Zj (j:=0) rfl,_,rfl,m,_,_,_,rfl,rfl,SqT.of h1,Zj (j:=3) rfl,_,rfl,?_⟩;refine⟨_,rfl,t,rfl,?_⟩;refine Aa (cs:=t.cps.toList) (λi σ H2=>∃v,σ=[some (.ref m),some (nI r),some (.str t),some (.str l),some (.ref s'),some (nI (way l st r (t.cps.toList.take i))),v]∧H2=H) ⟨none,rfl,rfl⟩ ?_ ?_
 ·rintro i c σ H2 hc ⟨v,rfl,rfl⟩;have z4:c∈l.cps.toList:=ht c (oR hc);have hw:=Zcy M (t.cps.toList.take i) r eJ (take_all ht);obtain⟨e2,s2,cJ,a,q1,q2,q3,q4,q5,q6⟩:=Zox (K:=K) (Q:=λ_ _=>True) M hw z4 trivial;rw[h1]at q1;cases q1;refine⟨_,rfl,_,rfl,s',_,_,_,rfl,rfl,SqT.of q2,q3,_,rfl,rfl,_,rfl,l,_,rfl,rfl,q5,a,_,_,_,rfl,rfl,SqT.of q4,q6,?_⟩;refine⟨some (.str ⟨#[c]⟩),?_,rfl⟩;rw[Zjr l st r _ i c hc];rfl
 ·rintro σ H2 ⟨v,rfl,rfl⟩;refine⟨_,rfl,?_⟩;rw[lM];exact k
def Tk(H H':Hp):Prop:=∀b ys,H b=some (.tup ys)→H' b=some (.tup ys)
theorem Tk.same(e:Zl H H'):Tk H H':=λb ys h=>e b _ h
theorem Tk.trans{H1:Hp}(a:Tk H H1)(b:Tk H1 H2):Tk H H2:=λc ys h=>b c ys (a c ys h)
theorem Tk.lst{H:Hp}{l:Addr}{xs:List V}(h:H l=some (.lst xs))(o:HO):Tk H (upd H l o):=λb ys e=>by
 rw[Zk (Wu e h λz=>nomatch z)];exact e
theorem Tk.dct{l:Addr}{xs:RZ}(h:H l=some (.dT xs))(o:HO):Tk H (upd H l o):=λb ys e=>by
 rw[Zk (Wu e h λz=>nomatch z)];exact e
theorem map_take{α β:Type}{f:α→β}{l:List α}{x:α}(h:l[i]?=some x):(l.take (i+1)).map f=(l.take i).map f++[f x]:=by
 rw[iE,h,lH];rfl
theorem none_of(e:Zl H H')(h:H' p=none):H p=none:=by
 cases z:H p with
 |none=>rfl
 |some o=>rw[e _ _ z]at h;cases h
theorem Tk.drew(F:Yx H p sc)(d:Xs H H' p):Tk H H':=λb ys h=>by
 obtain⟨xs,hp,_⟩:=F.here;exact d _ _ h (Wu h hp λz=>nomatch z)
inductive TR{α:Type}(tv:α→List V)(H:Hp):List V→List α→Prop where
 |nil:TR tv H [] []
 |cons {a:Addr}{r:α}{vs:List V}{rs:List α} (h:H a=some (.tup (tv r))) (t:TR tv H vs rs):TR tv H (.ref a :: vs) (r :: rs)
section
variable {α:Type}{tv:α→List V}
theorem TR.keep{H H':Hp}(e:Tk H H'):∀{vs:List V}{rs:List α},TR tv H vs rs→TR tv H' vs rs
 |_,_,.nil=>.nil
 |_,_,.cons h t=>.cons (e _ _ h) (t.keep e)
theorem TR.app{H:Hp}{ws:List V}{qs:List α}(h:TR tv H ws qs):∀{vs:List V}{rs:List α},TR tv H vs rs→TR tv H (vs++ws) (rs++qs)
 |_,_,.nil=>h
 |_,_,.cons h' t=>.cons h' (TR.app h t)
theorem TR.snoc{r:α}{rs:List α}(h:H a=some (.tup (tv r)))(t:TR tv H vs rs):TR tv H (vs++[.ref a]) (rs++[r]):=TR.app (.cons h .nil) t
theorem TR.len{H:Hp}:∀{vs:List V}{rs:List α},TR tv H vs rs→vs.length=rs.length
 |_,_,.nil=>rfl
 |_,_,.cons _ t=>by rw[lG,lG,t.len]
theorem TR.at_{H:Hp}:∀{vs:List V}{rs:List α}{i:Nat}{x:V},TR tv H vs rs→vs[i]?=some x→∃a r,x=.ref a∧rs[i]?=some r∧H a=some (.tup (tv r))
 |_,_,i,x,.nil,h=>by simp at h
 |_,_,0,x,.cons (a:=a) (r:=r) h' t,h=>by
  cases h;exact⟨a,r,rfl,rfl,h'⟩
 |_,_,i+1,x,.cons h' t,h=>t.at_ (i:=i) (by simpa using h)
end
theorem Zu{c:Addr}(e:Zl H H')(h:H c=none)(o:HO):Zl H (upd H' c o):=λb u q=>by
 rw[Zk (Zi q h)];exact e b u q
theorem ifN{c:Bool}(h:c=false)(b:B):if c=true then A else B:=by rw[h];exact b
theorem ifY{c:Bool}(h:c=true)(a:A):if c=true then A else B:=by rw[if_pos h];exact a
theorem Znu{x x0 x1:V}{te:TE}{Nt:VK}{Nf:QA}(hx:x=.ref a)(hq:SqT K H a [x0,x1])(h:te ((σ.set 0 (some x0)).set 1 (some x1)) H Nt):
  Zp5 K 2 (Zhf (K2 0) (Zhf (K2 1) Zt0)) x σ H λm9 H4=>Zsb m9 H4 λb H5=>if b=true then te m9 H5 Nt else Nf H5:=by
 refine⟨a,_,hx,hq,rfl,_,_,rfl,_,_,rfl,rfl,?_⟩;show if true=true then te ((σ.set 0 (some x0)).set 1 (some x1)) H Nt else Nf H
 exact Kj h
theorem B0{α:Type} [BEq α] [LawfulBEq α] {rs:List α}{r:α} (h:rs[i]?=some r) (hn:r∉rs.take i):rs.idxOf r=i:=by
 have hi:i<rs.length:=(oF.mp h).1
 have e:rs=rs.take i++r :: rs.drop (i+1):=by
  obtain⟨hm,e⟩:=oF.mp h;rw[←e,←bO hm,VA]
 rw[e,List.idxOf_append,if_neg hn,List.idxOf_cons_self,lC];lia
theorem Yg{α:Type}{rs:List α}{r x:α}(h:rs[i]?=some r):x∈rs.take (i+1)↔x∈rs.take i∨x=r:=by
 rw[iE,h,iD];simp
def kkN(r:List Nat):List Key:=r.map λn:Nat=>Sum.inl (n:Int)
theorem Zpu(r:List Nat):(kkN r).map kV=r.map nI:=by
 unfold kkN;rw[lU];rfl
theorem Zg6:∀{r r':List Nat},kkN r=kkN r'→r=r'
 |[],[],_=>rfl
 |[],_ :: _,h=>by cases h
 |_ :: _,[],h=>by cases h
 |a :: r,b :: r',h=>by
  have h':(Sum.inl ((a:Nat):Int):Key) :: kkN r=Sum.inl ((b:Nat):Int) :: kkN r':=h
  injection h' with h1 h2
  have:((a:Nat):Int)=((b:Nat):Int):=Sum.inl.inj h1;rw[Zg6 h2,show a=b by lia]
def S6(H:Hp)(xs:List V)(rs:UR):Prop:=xs.length=rs.length∧∀(i:Nat) x r,xs[i]?=some x→rs[i]?=some r→∃a,x=.ref a∧H a=some (.tup (r.map nI))
inductive Zq7(vs:List V)(H:Hp)(Q:VK):Prop
 |mk(rp:Addr)(h1:vs=[.ref rp])(h2:((∃bs:List Bool,H rp=some (.lst (bs.map V.bl))∧bs.length≤900∧∀l H',H l=none→Zl H H'→H' l=some (.lst (bs.map λb=>nI (bs.idxOf b)))→Q (.ref l) H')∨(∃xs rs,H rp=some (.lst xs)∧S6 H xs rs∧rs.length≤900∧∀l H',H l=none→Zl H H'→H' l=some (.lst (rs.map λr=>nI (rs.idxOf r)))→Q (.ref l) H'))):Zq7 vs H Q
def Zvf:Sp:=λvs H Q _=>Zq7 vs H Q
theorem Fv(F:Fun K "first_like" "first_like" Vl f fd)(Z:Blt mg):Ya P w K mg base CX0 1 f fd ["rows"] Zvf:=by
 refine F.ok Sb (λvs H Q E h=>?_) (λcdv A outer s H vs Q E hr h=>?_)
 ·obtain⟨rp,rfl,_⟩:=h;rfl
 obtain⟨rp,rfl,⟨bs,hb,pG,k⟩|⟨xs,rs,hx,hR,n6,k⟩⟩:=h
 ·refine⟨_,(Zd (Zn (i:=1) Sb.nd (by rfl) (Or.inr (by rfl)) (Zlo (P:=P) (w:=w))) 
   (Zh (Zq (Yj (sc:=Ze Vl) (Nm:=["rows","firsts"]) (own:=["number","row"]) (fr:=[1]) ⟨rfl,by decide +kernel,by decide +kernel,by decide +kernel,by decide +kernel⟩ (by rfl) (B7 (Us (by decide) (Us (by decide) Gn))) (C9 (K:=K) (by rfl) Z.enumerate (pv 0)) (λd=>(Of (K:=K) (n:=2) (by rfl) (Xb (Zo (i:=0) Wz (by rfl) (Or.inl (by rfl))) (Xb (Zo (i:=1) Wz (by rfl) (Or.inl (by rfl))) Rc)))) (λd=>Yn) (λd=>(Zlm (P:=P) (w:=w) (pv 2) (pv 1) (pv 0) ⟨rfl,rfl,rfl,rfl⟩)))))),?_⟩
  refine(let y1:TS:=_;(?_:Zp _ y1 _ _ _));intro fp mX;have nf:rp≠fp:=Zi hb mX;refine⟨_,rfl,rp,_,rfl,.inl ⟨SqL.of ((Zk nf).trans hb),?_⟩⟩
  refine D7 (Sq:=λH xs=>SqL K H rp xs) (xs:=bs.map V.bl) (λi acc H2=>∃(g:Bool→Option V) (n:Nat),acc=(bs.take i).map (λb=>nI (bs.idxOf b))∧H2 fp=some (Zcn P w fp g n)∧n≤i∧(∀b,g b=if b∈bs.take i then some (nI (bs.idxOf b)) else none)∧Zl H H2)
   (by rw[oB];exact Z1 (by lia)) ⟨λ_=>none,0,rfl,Zc,oG _,λb=>by simp,Zf mX _⟩ (λi acc H2 ⟨g,n,e,_⟩=>by rw[e,oB,lC];exact iR _ _)
   (λi acc H2 ⟨g,n,e,_,_,_,e2⟩=>SqL.of (e2 _ _ hb)) (λi acc H2 x p mE h hp=>?_) (λacc H2 h y hy=>?_)
  ·obtain⟨g,n,rfl,h2,hn,hg,e2⟩:=h;rw[oH]at mE
   cases z3:bs[i]? with
   |none=>rw[z3]at mE;cases mE
   |some b=>
    rw[z3]at mE;cases mE;have k8:i<bs.length:=(oF.mp z3).1;have s3:=Zf hp (.tup [V.int (i:Int),V.bl b]);have h3:=s3 _ _ h2;have Ziz:=e2.trans s3;refine Znu (K:=K) rfl (SqT.of Zc) ?_;refine⟨_,rfl,fp,g,n,rfl,h3,_,rfl,_,rfl,b,g,n,h3,rfl,by rw[sizeLine_eq];lia,λv hv=>?_,λhv=>?_⟩
    ·rw[hg]at hv
     by_cases c:b∈bs.take i
     ·rw[if_pos c]at hv;cases hv;refine⟨g,n,?_,h3,by lia,λx=>?_,Ziz⟩
      ·rw[map_take z3]
      ·rw[hg]
       by_cases c2:x∈bs.take i
       ·rw[if_pos c2,if_pos ((Yg z3).mpr (.inl c2))]
       ·rw[if_neg c2,if_neg λz=>c2 ((Yg z3).mp z |>.elim id λz=>z▸c)]
     ·rw[if_neg c]at hv;cases hv
    ·rw[hg]at hv;have c:b∉bs.take i:=λc=>by rw[if_pos c]at hv;cases hv
     have mY:=B0 z3 c;refine⟨_,n+1,?_,Zc,by lia,λx=>?_,Zu Ziz mX _⟩
     ·rw[map_take z3,mY];rfl
     ·by_cases c2:x=b
      ·subst c2;rw[if_pos rfl,if_pos ((Yg z3).mpr (.inr rfl)),mY];rfl
      ·rw[if_neg c2,hg]
       by_cases c3:x∈bs.take i
       ·rw[if_pos c3,if_pos ((Yg z3).mpr (.inl c3))]
       ·rw[if_neg c3,if_neg λz=>((Yg z3).mp z).elim c3 c2]
  ·obtain⟨g,n,rfl,h2,hn,hg,e2⟩:=h;rw[oB,lM];exact k y _ (none_of e2 hy) (e2.trans (Zf hy _)) Zc
 ·refine⟨_,(Zd (Zn (i:=1) Sb.nd (by rfl) (Or.inr (by rfl)) Zbj) 
   (Zh (Zq (Yj (sc:=Ze Vl) (Nm:=["rows","firsts"]) (own:=["number","row"]) (fr:=[1]) ⟨rfl,by decide +kernel,by decide +kernel,by decide +kernel,by decide +kernel⟩ (by rfl) (B7 (Us (by decide) (Us (by decide) Gn))) (C9 (K:=K) (by rfl) Z.enumerate (pv 0)) (λd=>(Of (K:=K) (n:=2) (by rfl) (Xb (Zo (i:=0) Wz (by rfl) (Or.inl (by rfl))) (Xb (Zo (i:=1) Wz (by rfl) (Or.inl (by rfl))) Rc)))) (λd=>Yn) (λd=>(Zll (Ug hr) (pv 2) (pv 1) (pv 0) ⟨rfl,rfl,rfl,rfl⟩)))))),?_⟩
  refine(let y1:TS:=_;(?_:Zp _ y1 _ _ _));intro fp mX;have nf:rp≠fp:=Zi hx mX;refine⟨_,rfl,rp,_,rfl,.inl ⟨SqL.of ((Zk nf).trans hx),?_⟩⟩
  refine D7 (Sq:=λH xs=>SqL K H rp xs) (xs:=xs) (λi acc H2=>∃kvs:List (List Key×V),acc=(rs.take i).map (λr=>nI (rs.idxOf r))∧H2 fp=some (.dT kvs)∧kvs.length≤i∧(∀r,Yz kvs (kkN r)=if r∈rs.take i then some (nI (rs.idxOf r)) else none)∧Zl H H2)
   (Z1 (by have:=hR.1;lia)) ⟨[],rfl,Zc,oG _,λb=>by simp[Zjw],Zf mX _⟩ (λi acc H2 ⟨kvs,e,_⟩=>by rw[e,oB,lC];exact iR _ _)
   (λi acc H2 ⟨kvs,e,_,_,_,e2⟩=>SqL.of (e2 _ _ hx)) (λi acc H2 x p mE h hp=>?_) (λacc H2 h y hy=>?_)
  ·obtain⟨kvs,rfl,h2,hn,hg,e2⟩:=h;have k8:i<rs.length:=by rw[←hR.1];exact(oF.mp mE).1
   have z3:rs[i]?=some rs[i]:=oC k8;generalize rs[i]=b at z3;obtain⟨a,rfl,ha⟩:=hR.2 i x b mE z3;have s3:=Zf hp (.tup [V.int (i:Int),V.ref a]);have h3:=s3 _ _ h2;have Ziz:=e2.trans s3;refine Znu (K:=K) rfl (SqT.of Zc) ?_;refine⟨_,rfl,fp,rfl,.inr ⟨kvs,.inl h3⟩,_,rfl,_,rfl,kvs,kkN b,a,h3,rfl,by rw[Zpu];exact Ziz _ _ ha,by rw[sizeLine_eq];lia,λv hv=>?_,λhv=>?_⟩
   ·rw[hg]at hv
    by_cases c:b∈rs.take i
    ·rw[if_pos c]at hv;cases hv;refine⟨kvs,?_,h3,by lia,λx=>?_,Ziz⟩
     ·rw[map_take z3]
     ·rw[hg]
      by_cases c2:x∈rs.take i
      ·rw[if_pos c2,if_pos ((Yg z3).mpr (.inl c2))]
      ·rw[if_neg c2,if_neg λz=>c2 ((Yg z3).mp z |>.elim id λz=>z▸c)]
    ·rw[if_neg c]at hv;cases hv
   ·rw[hg]at hv;have c:b∉rs.take i:=λc=>by rw[if_pos c]at hv;cases hv
    have mY:=B0 z3 c;refine⟨_,?_,Zc,lI (V9 _ _ _) (by lia),λx=>?_,Zu Ziz mX _⟩
    ·rw[map_take z3,mY];rfl
    ·rw[Ij]
     by_cases c2:x=b
     ·subst c2;rw[if_pos rfl,if_pos ((Yg z3).mpr (.inr rfl)),mY];rfl
     ·rw[if_neg λz=>c2 (Zg6 z),hg]
      by_cases c3:x∈rs.take i
      ·rw[if_pos c3,if_pos ((Yg z3).mpr (.inl c3))]
      ·rw[if_neg c3,if_neg λz=>((Yg z3).mp z).elim c3 c2]
  ·obtain⟨kvs,rfl,h2,hn,hg,e2⟩:=h;rw[hR.1,lM];exact k y _ (none_of e2 hy) (e2.trans (Zf hy _)) Zc
def lk0(es:List Nat)(n:Nat):List Nat:=let bs:=(List.range n).map λr=>decide (r∈es);bs.map λb=>bs.idxOf b
def lkR(st:UR)(L:List Nat):List (List Nat):=(List.range st.length).map λi=>L.getD i 0 :: (st.getD i []).map λx=>L.getD x 0
def lkS(st:UR)(L:List Nat):List Nat:=(lkR st L).map λr=>(lkR st L).idxOf r
def lkN(st:UR)(es:List Nat):Nat→List Nat
 | 0=>lk0 es st.length
 |k+1=>lkS st (lkN st es k)
def dn(L:List Nat):Nat:=(Jv (L.map λn:Nat=>(n:Int))).length
theorem Q5(i:Nat)(es:List Nat):inV (V.int ((i:Nat):Int)) (es.map nI)=decide (i∈es):=by
 unfold inV;rw[List.any_map,bW,YD,decide_eq_true_eq];constructor
 ·rintro⟨x,hx,e⟩;have:(((x:Nat):Int)==((i:Nat):Int))=true:=e;have:=eq_of_beq this;rw[show i=x by lia];exact hx
 ·intro h;refine⟨i,h,?_⟩;show (((i:Nat):Int)==((i:Nat):Int))=true;simp
theorem S6.keep{rs:UR}(h:S6 H xs rs)(k:Tk H H'):S6 H' xs rs:=⟨h.1,λi x r a b=>let ⟨c,e,q⟩:=h.2 i x r a b;⟨c,e,k _ _ q⟩⟩
theorem S6.snoc{rs:UR}(h:S6 H xs rs){r:List Nat}(ha:H a=some (.tup (r.map nI))):S6 H (xs++[.ref a]) (rs++[r]):=by
 refine⟨by rw[oV,oV,h.1];rfl,λi x r' q1 q2=>?_⟩
 by_cases c:i<xs.length
 ·rw[lB c]at q1;rw[lB (by rw[←h.1];exact c)]at q2;exact h.2 i x r' q1 q2
 ·rw[lK (by lia)]at q1;rw[lK (by rw[←h.1];lia),←h.1]at q2
  cases hi:i-xs.length with
  |zero=>
   rw[hi]at q1 q2;cases q1;cases q2;exact⟨a,rfl,ha⟩
  |succ n=>rw[hi]at q1;simp at q1
inductive Zf8(vs:List V)(H:Hp)(Q:VK):Prop
 |mk(m:Addr)(l:Str)(b:Nat)(es:List Nat)(st:UR)(h1:vs=[.ref m])(h2:Z7 H m l b es st)(h3:es.length≤900)(h4:∀lp k H',Zl H H'→H' lp=some (.lst ((lkN st es (k+1)).map nI))→dn (lkN st es (k+1))≤dn (lkN st es k)→Q (.ref lp) H'):Zf8 vs H Q
def Zkh:Sp:=λvs H Q _=>Zf8 vs H Q
def lrW(m sA:Addr)(st:UR)(es:List Nat)(H:Hp)(mm:Nat)(σ:L2.St)(H5:Hp):Prop:=∃(k cnt:Nat) (lp:Addr) (v4 v5 v6:Option V),mm=st.length+1-cnt∧σ=[some (.ref m),some (.ref sA),some (.ref lp),some (nI cnt),v4,v5,v6]∧H5 lp=some (.lst ((lkN st es k).map nI))∧Zl H H5∧((k=0∧cnt=0)∨∃j,k=j+1∧cnt=dn (lkN st es j))
def lrE(m sA lp rp:Addr)(st:UR)(es:List Nat)(k':Nat)(H:Hp)(i:Nat)(σ:L2.St)(H7:Hp):Prop:=∃(ys:List V) (v5 v6:Option V),σ=[some (.ref m),some (.ref sA),some (.ref lp),some (nI (dn (lkN st es k'))),some (.ref rp),v5,v6]∧H7 rp=some (.lst ys)∧S6 H7 ys ((lkR st (lkN st es k')).take i)∧Zl H H7∧H7 lp=some (.lst ((lkN st es k').map nI))
theorem Fu(F:Fun K "like_rooms" "like_rooms" Vk f fd)(Z:Blt mg)(Uq:Cal P w K mg base "first_like" 1 ["rows"] Zvf):Ya P w K mg base CX0 2 f fd SN Zkh:=by
 refine F.ok Yr (λvs H Q E h=>?_) (λcdv A outer s H vs Q E hr h=>?_)
 ·obtain⟨m,l,b,es,st,rfl,_⟩:=h;rfl
 obtain⟨m,l,b,es,st,rfl,M,mW,k⟩:=h
 refine⟨_,(Zd (Zn (i:=1) Yr.nd (by rfl) (Or.inl (by rfl)) (Zr (Zs (K:=K)) (pv 0) Zg (λ_ _=>rfl))) 
   (Zd (Zn (i:=2) Yr.nd (by rfl) (Or.inr (by rfl)) (Z2 Uq (hr.mono (by decide)) (Za (Yj (sc:=Ze Vk) (Nm:=TY) (own:=["room"]) (fr:=[0]) ⟨rfl,by decide +kernel,by decide +kernel,by decide +kernel,by decide +kernel⟩ (by rfl) (Yb (by decide)) (Vw (by rfl) Z.range (Za (Z6 (Xf (K:=K)) (by rfl) Z.len Xw (Za (pv 1) Zb)) Zb)) (λd=>(Zo (i:=0) Ju (by rfl) (Or.inl (by rfl)))) (λd=>Yn) (λd=>(Wf (Nv (K:=K)) (pv 0) (Zr (Zs (K:=K)) (pv 1) Zg (λ_ _=>rfl)) (by with_unfolding_all rfl)))) Zb))) 
   (Zd (Zn (i:=3) Yr.nd (by rfl) (Or.inl (by rfl)) Zg) 
   (Zd (Mr lW (Zz Zrr (Z6 K9 (by rfl) Z.len Xw (Za (Z9 (Ca (K:=K) (by rfl)) (by rfl) Z.set Ze9 (Za (pv 2) Zb)) Zb)) (pv 3) (Z5 _)) 
    (Zd (Zn (i:=3) Yr.nd (by rfl) (Or.inl (by rfl)) (Z6 K9 (by rfl) Z.len Xw (Za (Z9 (Ca (K:=K) (by rfl)) (by rfl) Z.set Ze9 (Za (pv 2) Zb)) Zb))) 
    (Zd (Zn (i:=4) Yr.nd (by rfl) (Or.inl (by rfl)) (Yw Zb)) 
    (Zd (Xq lW (by rfl) (C9 (K:=K) (by rfl) Z.enumerate (pv 1)) (Of (K:=K) (n:=2) (by rfl) (Xb (Zo (i:=5) Yr.nd (by rfl) (Or.inl (by rfl))) (Xb (Zo (i:=6) Yr.nd (by rfl) (Or.inl (by rfl))) Rc))) 
     (Zh (Ys (Yk (K:=K) oY lX lY Yp (pv 4) (Za (Z9 (Y6 (K:=K)) (by rfl) Z.tuple Xr (Za (Yd Zls (Yw (Za (Zr (Z0 (K:=K)) (pv 2) (pv 5) (λ_ _=>rfl)) Zb)) (Yj (sc:=Ze Vk) (Nm:=TY) (own:=["ahead"]) (fr:=[2]) ⟨rfl,by decide +kernel,by decide +kernel,by decide +kernel,by decide +kernel⟩ (by rfl) (Yb (by decide)) (Tr (K:=K) (pv 6)) (λd=>(Zo (i:=0) Jt (by rfl) (Or.inl (by rfl)))) (λd=>Yn) (λd=>(Zr (Z0 (K:=K)) (pv 1) (pv 0) (λ_ _=>rfl))))) Zb)) Zb))))) 
    (Zh (Zn (i:=2) Yr.nd (by rfl) (Or.inr (by rfl)) (Z2 Uq (hr.mono (by decide)) (Za (pv 4) Zb)))))))) 
   (Zh (Zq (pv 2))))))),?_⟩
 refine(let y1:TS:=_;let y6:TS:=_;let y7:TS:=Zp _ y6;let m7:TS:=Zp _ y7;let u8:TS:=Zp _ m7;let d9:TS:=Zp (Il _ u8) y1;let b8:TS:=Zp _ d9;let o9:TS:=Zp _ b8;(?_:Zp _ o9 _ _ _));obtain⟨eA,sA,ras,h1,h2,h3,h4,h5⟩:=M.lay;have z9:=M.few.2.2;have Zws:=M.beg;have n6:(ras.map V.ref).length=st.length:=by rw[oB,h4]
 refine⟨_,rfl,m,_,_,_,rfl,rfl,SqT.of h1,Zj (j:=3) rfl,?_⟩;refine⟨_,rfl,sA,_,rfl,.inr (SqT.of h3),_,rfl,by lia,by lia,?_⟩
 refine Vy (lo:=0) (k:=((((ras.map V.ref).length:Nat):Int)).toNat) (λi acc H2=>acc=(List.range i).map (λr=>V.bl (decide (r∈es)))∧Zl H H2) (bK (show _≤576 by lia) (by decide)) ⟨rfl,Zl.refl _⟩
  (λi acc H2 p=>by rw[p.1,oB,lO];exact oG _) (λi acc H2 hi p=>S3 ?_) (λacc H2 p y hy=>?_)
 ·obtain⟨rfl,e2⟩:=p;refine⟨_,rfl,_,rfl,m,_,_,_,rfl,rfl,SqT.of (e2 _ _ h1),Zj (j:=2) rfl,eA,_,rfl,.inr (SqT.of (e2 _ _ h2)),rfl,Tx es,?_,e2⟩;rw[ZS,lH]
  have:inV (V.int (0+(i:Int))) (es.map nI)=decide (i∈es):=by
   rw[show (0:Int)+(i:Int)=((i:Nat):Int) by lia];exact Q5 i es
  show _++[V.bl (inV (V.int (0+(i:Int))) (es.map nI))]=_;rw[this];rfl
 obtain⟨rfl,e2⟩:=p;have kA:((((ras.map V.ref).length:Nat):Int)).toNat=st.length:=by lia
 rw[kA];have pH:(List.range st.length).map (λr=>V.bl (decide (r∈es)))=((List.range st.length).map λr=>decide (r∈es)).map V.bl:=by rw[lU];rfl
 have e3:=e2.trans (Zf hy (.lst ((List.range st.length).map λr=>V.bl (decide (r∈es)))));refine⟨y,rfl,.inl ⟨(List.range st.length).map λr=>decide (r∈es),by rw[Zc,pH],by rw[oB,lO];lia,λlp H4 fK e4 h4l=>?_⟩⟩;have sC:=e3.trans e4
 have Zwx:H4 lp=some (.lst ((lkN st es 0).map nI)):=by
  rw[h4l];refine congrArg (λz=>some (HO.lst z)) ?_;show _=List.map nI (List.map (λb=>List.idxOf b (List.map (λr=>decide (r∈es)) (List.range st.length))) (List.map (λr=>decide (r∈es)) (List.range st.length)));rw[lU (g:=nI)];rfl
 have mF:∀k,(lkN st es k).length=st.length:=λk=>by
  cases k with
  |zero=>unfold lkN lk0;rw[oB,oB,lO]
  |succ k=>unfold lkN lkS lkR;rw[oB,oB,lO]
 have dnl:∀k,dn (lkN st es k)≤st.length:=λk=>by
  have:=firstMet_length_le (λi=>((lkN st es k).map λn:Nat=>(n:Int)).getD i 0) ((lkN st es k).map λn:Nat=>(n:Int)).length;rw[oB,mF]at this;unfold dn Jv;rw[oB,mF];exact this
 have dn1:∀k,0<dn (lkN st es k):=λk=>by
  have h:=firstMet_any (λi=>((lkN st es k).map λn:Nat=>(n:Int)).getD i 0) ((lkN st es k).map λn:Nat=>(n:Int)).length (((lkN st es k).map λn:Nat=>(n:Int)).getD 0 0)
  have t6:((List.range ((lkN st es k).map λn:Nat=>(n:Int)).length).map λi=>((lkN st es k).map λn:Nat=>(n:Int)).getD i 0).any (· == ((lkN st es k).map λn:Nat=>(n:Int)).getD 0 0)=true:=by
   rw[YD];exact⟨_,lF.mpr ⟨0,iG.mpr (by rw[oB,mF];lia),rfl⟩,by simp⟩
  rw[t6]at h;unfold dn Jv
  cases hc:firstMet (λi=>((lkN st es k).map λn:Nat=>(n:Int)).getD i 0) ((lkN st es k).map λn:Nat=>(n:Int)).length with
  |nil=>rw[hc]at h;cases h
  |cons=>exact Nat.succ_pos _
 refine⟨lrW m sA st es H,
  ⟨_,0,0,lp,none,none,none,rfl,rfl,Zwx,sC,.inl ⟨rfl,rfl⟩⟩,?_⟩
 clear h4l Zwx fK e4 sC lp;rintro mm σ H5 ⟨k',cnt,lp,v4,v5,v6,rfl,rfl,l7,e5,pR⟩;have u3:(lkN st es k').map nI=((lkN st es k').map λn:Nat=>(n:Int)).map V.int:=by rw[lU];rfl
 have Zwl:((lkN st es k').map λn:Nat=>(n:Int)).length+1<scanBound:=by
  rw[oB,mF];exact bK (show st.length+1≤577 by lia) (by decide)
 refine⟨_,rfl,lp,_,rfl,SqL.of (by rw[←u3];exact l7),Zwl,λq hq=>⟨q,_,_,rfl,Zc,_,rfl,_,_,rfl,rfl,_,rfl,?_⟩⟩;have s6:=Zf hq (.set (λk=>(Jv ((lkN st es k').map λn:Nat=>(n:Int))).any (· == k)) (Jv ((lkN st es k').map λn:Nat=>(n:Int))).length);have zN:=s6 _ _ l7;have e6:=e5.trans s6;refine Rk (λc1=>?_) (λc1=>?_)
 ·have c2:((cnt:Nat):Int)<((dn (lkN st es k'):Nat):Int):=of_decide_eq_true c1;refine⟨λx8 H'=>∃m',m'<st.length+1-cnt∧_,λ_ _ z=>z,?_⟩;refine⟨_,rfl,lp,_,rfl,SqL.of (by rw[←u3];exact zN),Zwl,λq2 hq2=>⟨q2,_,_,rfl,Zc,?_⟩⟩;refine⟨(by show 0≤sizeLine;decide),λrp t5=>?_⟩;have s7:=Zf hq2 (.set (λk=>(Jv ((lkN st es k').map λn:Nat=>(n:Int))).any (· == k)) (Jv ((lkN st es k').map λn:Nat=>(n:Int))).length);have s8:=Zf t5 (.lst []);have sN:=s8 _ _ (s7 _ _ zN);have e8:=(e6.trans s7).trans s8;have B2:=none_of (e6.trans s7) t5;have vL:lp≠rp:=Zi (s7 _ _ zN) t5;refine⟨_,rfl,sA,ras.map V.ref,rfl,.inr ⟨SqT.of (e8 _ _ h3),?_⟩⟩
  refine Gs (Sq:=λH xs=>SqT K H sA xs) (xs:=ras.map V.ref) (lrE m sA lp rp st es k' H)
   ⟨[],v5,v6,rfl,Zc,⟨rfl,λi x r a=>by simp at a⟩,e8,sN⟩ (λi σ H7 _ h=>?_) ?_ ?_
  ·obtain⟨ys,v5,v6,rfl,_,_,e7,_⟩:=h;exact SqT.of (e7 _ _ h3)
  ·rintro i x σ H7 p hx ⟨ys,v5,v6,rfl,l8,R7,e7,yP⟩ hp;rw[oH]at hx
   cases zT:ras[i]? with
   |none=>rw[zT]at hx;cases hx
   |some a=>
    rw[zT]at hx;cases hx;have k8:i<st.length:=by rw[←h4];exact(oF.mp zT).1
    obtain⟨zZ,uN⟩:=getD_mem (l:=st) (i:=i) (d:=[]) k8;have hrr:st.getD i []=st.getD i []:=rfl;generalize eJ:st.getD i []=r at zZ uN hrr;have ha:=h5 i a r zT uN;obtain⟨hrlen,fX⟩:=M.rows r zZ;have yX:=M.few.2.1;have tL:∀j,j<st.length→atI ((lkN st es k').map nI) ((j:Nat):Int)=some (nI ((lkN st es k').getD j 0)):=λj hj=>Zj (by rw[oH,(getD_mem (l:=lkN st es k') (d:=0) (by rw[mF];exact hj)).2];rfl);have s9:=Zf hp (.tup [V.int (i:Int),V.ref a]);refine⟨p,_,rfl,SqT.of Zc,rfl,_,_,rfl,_,_,rfl,rfl,?_⟩;have r9:=s9 _ _ l8;have i4:=s9 _ _ yP;have e9:=e7.trans s9;have R9:=R7.keep (Tk.same s9);generalize upd H7 p _=H9 at s9 r9 i4 e9 R9 ⊢;refine⟨_,rfl,.inl ⟨rfl,_,SqL.of r9⟩,_,rfl,_,rfl,lp,_,_,_,rfl,rfl,SqL.of i4,tL i k8,(by show 1≤sizeLine;decide),λl1 y9=>?_⟩;generalize eZ:upd H9 l1 _=w4;have t1:=nS7 eZ y9;have Zeo:=t1 _ _ i4;have qY:=nU7 eZ;have u9:=e9.trans t1;refine⟨_,rfl,a,rfl,⟨_,SqT.of (u9 _ _ ha)⟩,?_⟩
    refine U5 (K:=K) (a:=a) (xs:=r.map nI) (λj acc z5=>acc=(r.take j).map (λx=>nI ((lkN st es k').getD x 0))∧Zl w4 z5) (by rw[oB];exact Z1 (by lia)) ⟨rfl,Zl.refl _⟩ (λj acc z5 q=>by rw[q.1,oB,lC];exact iR _ _)
     (λj acc z5 q=>SqT.of (q.2 _ _ (u9 _ _ ha))) (λj acc z5 x uQ q=>?_) (λacc z5 q y hy=>?_)
    ·obtain⟨rfl,u5⟩:=q;rw[oH]at uQ
     cases hc:r[j]? with
     |none=>rw[hc]at uQ;cases uQ
     |some c=>
      rw[hc]at uQ;cases uQ;refine S3 ⟨_,rfl,_,rfl,lp,_,_,_,rfl,rfl,SqL.of (u5 _ _ Zeo),tL c (fX c (oR hc)),?_,u5⟩;rw[map_take hc]
    obtain⟨rfl,u5⟩:=q;rw[oB,lM];have t2:=Zf hy (.lst (r.map λx=>nI ((lkN st es k').getD x 0)));refine⟨l1,y,_,_,rfl,rfl,t2 _ _ (u5 _ _ qY),Zc,by rw[oB];exact Xv (by show 1+_≤1000;lia),λc hc=>?_⟩;have t3:=Zf hc (.lst ([nI ((lkN st es k').getD i 0)]++r.map λx=>nI ((lkN st es k').getD x 0)));refine⟨c,_,rfl,.inl ⟨SqL.of Zc,λz hz=>?_⟩⟩;have t4:=Zf hz (.tup ([nI ((lkN st es k').getD i 0)]++r.map λx=>nI ((lkN st es k').getD x 0)));have tI:=(((t1.trans u5).trans t2).trans t3).trans t4
    have l4:ys.length≤576:=by
     rw[R9.1,lC];unfold lkR;rw[oB,lO];lia
    have Le:(lkR st (lkN st es k'))[i]?=some ((lkN st es k').getD i 0 :: r.map λx=>(lkN st es k').getD x 0):=by
     unfold lkR;rw[oH,YL k8,←eJ];rfl
    refine⟨rp,_,_,rfl,rfl,tI _ _ r9,Z1 (by lia),ys++[.ref z],_,_,rfl,Zc,?_,Zu (e9.trans tI) B2 _,(Zk vL).trans (tI _ _ i4)⟩;rw[iE,Le];refine((R9.keep (Tk.same tI)).keep (Tk.lst (tI _ _ r9) _)).snoc ?_;rw[Zk (Wu Zc (tI _ _ r9) λz=>nomatch z)];refine Zc.trans ?_;rw[oW,lU];rfl
  ·rintro σ H7 ⟨ys,v5,v6,rfl,l8,R7,e7,yP⟩;have yQ:(lkR st (lkN st es k')).length=st.length:=by unfold lkR;rw[oB,lO]
   rw[n6,←yQ,lM]at R7;refine⟨_,rfl,rp,rfl,.inr ⟨ys,_,l8,R7,by lia,λlp2 H9 hlp2 e9 h9=>?_⟩⟩;have hdl:=dnl k';refine⟨st.length+1-dn (lkN st es k'),by lia,k'+1,dn (lkN st es k'),lp2,_,_,_,rfl,rfl,?_,e7.trans e9,.inr ⟨k',rfl,rfl⟩⟩;rw[h9];refine congrArg (λz=>some (HO.lst z)) ?_;show _=List.map nI (List.map (λr=>(lkR st (lkN st es k')).idxOf r) (lkR st (lkN st es k')));rw[lU];rfl
 ·have c2:¬ ((cnt:Nat):Int)<((dn (lkN st es k'):Nat):Int):=λz=>c1 (decide_eq_true z)
  rcases pR with ⟨rfl,rfl⟩|⟨j,rfl,rfl⟩
  ·have:=dn1 0;lia
  ·exact⟨_,rfl,k lp j _ e6 zN (by lia)⟩
def Canon{α:Type} [BEq α] (rs:List α) (L:List Nat):Prop:=L=rs.map λr=>rs.idxOf r
theorem Ph{α:Type} [BEq α] [LawfulBEq α] {rs:List α} (h:Canon rs L) {r:α} (hi:rs[i]?=some r):L.getD i 0=rs.idxOf r:=by
 rw[h,oJ,oH,hi];rfl
theorem Ny{α:Type} [BEq α] [LawfulBEq α] {rs:List α}{r:α} (h:r∈rs):rs[rs.idxOf r]?=some r:=by
 rw[oC (aQ h)];exact congrArg some (List.getElem_idxOf _)
theorem Zcq{α:Type} [BEq α] [LawfulBEq α] {rs:List α} (h:Canon rs L) {r r':α} (hi:rs[i]?=some r) (hj:rs[j]?=some r'):L.getD i 0=L.getD j 0↔r=r':=by
 rw[Ph h hi,Ph h hj];refine⟨λe=>?_,λe=>by rw[e]⟩;have a:=Ny (oR hi);have b:=Ny (oR hj);rw[e,b]at a;exact(Option.some.inj a).symm
structure Fh(L:List Nat):Prop where
 le:∀i,i<L.length→L.getD i 0≤i
 own:∀i,i<L.length→L.getD (L.getD i 0) 0=L.getD i 0
 low:∀i j,i<L.length→j<L.length→L.getD i 0=L.getD j 0→L.getD i 0≤j
theorem Canon.Znc{α:Type} [BEq α] [LawfulBEq α] {rs:List α} (h:Canon rs L):Fh L:=by
 have hl:L.length=rs.length:=by rw[h,oB]
 have at_:∀i,i<L.length→∃r,rs[i]?=some r:=λi hi=>⟨rs[i]'(by lia),oC (by lia)⟩
 have le:∀i,i<L.length→L.getD i 0≤i:=λi hi=>by
  obtain⟨r,hr⟩:=at_ i hi;rw[Ph h hr]
  by_cases c:r∈rs.take i
  ·have e:rs.idxOf r=(rs.take i).idxOf r:=by
    conv=>lhs;rw[←VA i rs]
    rw[List.idxOf_append,if_pos c]
   have:=aQ c;rw[lC]at this;lia
  ·exact VE (B0 hr c)
 refine⟨le,λi hi=>?_,λi j hi hj e=>?_⟩
 ·obtain⟨r,hr⟩:=at_ i hi;have:=le i hi;rw[Ph h hr];exact Ph h (Ny (oR hr))
 ·rw[e];exact le j hj
def cnt(L:List Nat):Nat→Nat
 | 0=>0
 |i+1=>cnt L i+if L.getD i 0=i then 1 else 0
theorem Znz{L L':List Nat}:∀n,(∀i,i<n→L.getD i 0=i→L'.getD i 0=i)→cnt L n≤cnt L' n
 | 0,_=>oG _
 |n+1,h=>by
  have ih:=Znz n λi hi=>h i (by lia);unfold cnt
  by_cases c:L.getD n 0=n
  ·rw[if_pos c,if_pos (h n (aS _) c)];lia
  ·rw[if_neg c];lia
theorem Ze1{L L':List Nat}:∀n,(∀i,i<n→L.getD i 0=i→L'.getD i 0=i)→cnt L' n≤cnt L n→∀i,i<n→L'.getD i 0=i→L.getD i 0=i
 | 0,_,_,i,hi,_=>absurd hi (XJ _)
 |n+1,h,e,i,hi,q=>by
  have le:=Znz n λi hi=>h i (by lia);unfold cnt at e
  by_cases c:L.getD n 0=n
  ·rw[if_pos c,if_pos (h n (aS _) c)]at e
   rcases iN i n with z|z
   ·exact Ze1 n (λi hi=>h i (by lia)) (by lia) i z q
   ·rw[show i=n by lia];exact c
  ·rw[if_neg c]at e
   rcases iN i n with z|z
   ·exact Ze1 n (λi hi=>h i (by lia)) (by lia) i z q
   ·have t6:i=n:=by lia
    subst t6;rw[if_pos q]at e;lia
theorem Znq(F:Fh L):dn L=cnt L L.length:=by
 have key:∀n,n≤L.length→(firstMet (λi=>(L.map λn:Nat=>(n:Int)).getD i 0) n).length=cnt L n:=λn=>by
  induction n with
  |zero=>intro _;rfl
  |succ n ih=>
   intro hn
   have hv:∀i,i<L.length→(L.map λn:Nat=>(n:Int)).getD i 0=((L.getD i 0:Nat):Int):=λi hi=>by
    rw[oJ,oH,oC hi,oJ,oC hi];rfl
   rw[firstMet_succ,step_length,ih (by lia),firstMet_any,hv n (by lia)];show _=cnt L n+if L.getD n 0=n then 1 else 0
   by_cases c:L.getD n 0=n
   ·rw[if_pos c,if_neg];intro z;obtain⟨x,hx,e⟩:=YD.mp z;obtain⟨j,hj,rfl⟩:=lF.mp hx;have yT:=iG.mp hj;have e2:=eq_of_beq e;rw[hv j (by lia)]at e2;have:=F.le j (by lia);lia
   ·rw[if_neg c,if_pos,XR];have l1:=F.le n (by lia);refine YD.mpr ⟨_,lF.mpr ⟨L.getD n 0,iG.mpr (by lia),rfl⟩,?_⟩;rw[hv (L.getD n 0) (by lia),F.own n (by lia)];simp
 unfold dn Jv;rw[oB];exact key _ (oG _)
theorem Zdo{L':List Nat}(F:Fh L)(F':Fh L')(hl:L'.length=L.length)(Zt1:∀i j,i<L.length→j<L.length→L'.getD i 0=L'.getD j 0→L.getD i 0=L.getD j 0)(few:dn L'≤dn L):
  ∀i j,i<L.length→j<L.length→L.getD i 0=L.getD j 0→L'.getD i 0=L'.getD j 0:=by
 have up:∀i,i<L.length→L.getD i 0=i→L'.getD i 0=i:=λi hi e=>by
  have h1:=F'.le i (by lia);have h2:=Zt1 (L'.getD i 0) i (by lia) hi (F'.own i (by lia));have h3:=F.low i (L'.getD i 0) hi (by lia) h2.symm;lia
 rw[Znq F,Znq F',hl]at few;have dnw:=Ze1 L.length up few;intro i j hi hj e;have a1:=F'.le i (by lia);have b1:=F'.le j (by lia);have a2:=dnw (L'.getD i 0) (by lia) (F'.own i (by lia));have b2:=dnw (L'.getD j 0) (by lia) (F'.own j (by lia));have a3:=Zt1 (L'.getD i 0) i (by lia) hi (F'.own i (by lia));have b3:=Zt1 (L'.getD j 0) j (by lia) hj (F'.own j (by lia));lia
def stN(st:UR)(i c:Nat):Nat:=(st.getD i []).getD c 0
def V5(st:UR)(i:Nat)(cs:List Nat):Nat:=cs.foldl (stN st) i
def Fut(st:UR)(es:List Nat)(w i j:Nat):Prop:=∀cs:List Nat,(∀c∈cs,c<w)→(V5 st i cs∈es↔V5 st j cs∈es)
def Oz(st:UR)(w:Nat):Prop:=∀r∈st,r.length=w∧∀x∈r,x<st.length
theorem getD_in{α:Type}{l:List α}{d:α}(h:i<l.length):l.getD i d∈l∧l[i]?=some (l.getD i d):=by
 rw[oJ,oC h];exact⟨bX h,rfl⟩
theorem Ql{w:Nat}(R:Oz st w)(hi:i<st.length)(hc:c<w):stN st i c<st.length:=by
 obtain⟨h1,_⟩:=getD_in (l:=st) (d:=[]) hi;obtain⟨h2,h3⟩:=R _ h1;exact h3 _ (getD_in (l:=st.getD i []) (d:=0) (by lia)).1
theorem Lb(st:UR)(es:List Nat):∀k,(lkN st es k).length=st.length
 | 0=>by unfold lkN lk0;rw[oB,oB,lO]
 |k+1=>by unfold lkN lkS lkR;rw[oB,oB,lO]
theorem Zmh(hi:i<st.length):(lkR st L)[i]?=some (L.getD i 0 :: (st.getD i []).map λx=>L.getD x 0):=by
 unfold lkR;rw[oH,YL hi];rfl
theorem Zmi(hi:i<n)(hj:j<n):(lk0 es n).getD i 0=(lk0 es n).getD j 0↔(i∈es↔j∈es):=by
 have c:Canon ((List.range n).map λr=>decide (r∈es)) (lk0 es n):=rfl;have at_:∀i,i<n→((List.range n).map λr=>decide (r∈es))[i]?=some (decide (i∈es)):=λi hi=>by rw[oH,YL hi];rfl
 rw[Zcq c (at_ i hi) (at_ j hj)];constructor
 ·intro e;rw[bW,decide_eq_true_eq,decide_eq_true_eq]at e;exact e
 ·intro e;rw[bW,decide_eq_true_eq,decide_eq_true_eq];exact e
theorem Bm{w:Nat}(R:Oz st w)(hi:i<st.length)(hj:j<st.length):(lkS st L).getD i 0=(lkS st L).getD j 0↔(L.getD i 0=L.getD j 0∧∀c,c<w→L.getD (stN st i c) 0=L.getD (stN st j c) 0):=by
 have cn:Canon (lkR st L) (lkS st L):=rfl;rw[Zcq cn (Zmh hi) (Zmh hj),List.cons.injEq];have li:=(R _ (getD_in (l:=st) (d:=[]) hi).1).1;have lj:=(R _ (getD_in (l:=st) (d:=[]) hj).1).1;refine and_congr_right λ_=>⟨λe c hc=>?_,λh=>?_⟩
 ·have a:=congrArg (λz:List Nat=>z[c]?) e;simp only[oH]at a;rw[(getD_in (l:=st.getD i []) (d:=0) (show c<_ by lia)).2,(getD_in (l:=st.getD j []) (d:=0) (show c<_ by lia)).2]at a;exact Option.some.inj a
 ·refine YV λc=>?_;rw[oH,oH]
  rcases iN c w with z|z
  ·rw[(getD_in (l:=st.getD i []) (d:=0) (show c<_ by lia)).2,(getD_in (l:=st.getD j []) (d:=0) (show c<_ by lia)).2];exact congrArg some (h c z)
  ·rw[iO (by lia),iO (by lia)]
theorem U3(st:UR)(es:List Nat):∀k,Fh (lkN st es k)
 | 0=>Canon.Znc (rs:=(List.range st.length).map λr=>decide (r∈es)) rfl
 |k+1=>Canon.Znc (rs:=lkR st (lkN st es k)) rfl
theorem Zb2{st:UR}{es:List Nat}{w:Nat}(R:Oz st w):∀k i j,i<st.length→j<st.length→(lkN st es k).getD i 0=(lkN st es k).getD j 0→(i∈es↔j∈es)
 | 0,i,j,hi,hj,e=>(Zmi hi hj).mp e
 |k+1,i,j,hi,hj,e=>Zb2 R k i j hi hj ((Bm R hi hj).mp e).1
theorem Bn{st:UR}{es:List Nat}{w:Nat}(R:Oz st w):∀k i j,i<st.length→j<st.length→Fut st es w i j→(lkN st es k).getD i 0=(lkN st es k).getD j 0
 | 0,i,j,hi,hj,f=>(Zmi hi hj).mpr (f [] λc hc=>by cases hc)
 |k+1,i,j,hi,hj,f=>(Bm R hi hj).mpr ⟨Bn R k i j hi hj f,λc hc=>Bn R k _ _ (Ql R hi hc) (Ql R hj hc) λcs i5=>f (c :: cs) λd hd=>by
   rcases oX.mp hd with z|z
   ·rw[z];exact hc
   ·exact i5 d z⟩
theorem Zmg{w k:Nat}(R:Oz st w)(few:dn (lkN st es (k+1))≤dn (lkN st es k))(hi:i<st.length)(hj:j<st.length):
  (lkN st es (k+1)).getD i 0=(lkN st es (k+1)).getD j 0↔Fut st es w i j:=by
 refine⟨λe=>?_,Bn R (k+1) i j hi hj⟩;have l0:=Lb st es k;have l1:=Lb st es (k+1);have sk:=Zdo (U3 st es k) (U3 st es (k+1)) (by rw[l1,l0]) (λi j hi hj e=>((Bm R (by lia) (by lia)).mp e).1) few
 have walk:∀(cs:List Nat) (i j:Nat),i<st.length→j<st.length→(∀c∈cs,c<w)→(lkN st es (k+1)).getD i 0=(lkN st es (k+1)).getD j 0→(V5 st i cs∈es↔V5 st j cs∈es):=by
  intro cs
  induction cs with
  |nil=>exact λi j hi hj _ e=>Zb2 R (k+1) i j hi hj e
  |cons c cs ih=>
   intro i j hi hj hc e;have h1:=((Bm R hi hj).mp e).2 c (hc c oK);have a:=Ql R hi (hc c oK);have b:=Ql R hj (hc c oK);exact ih _ _ a b (λd hd=>hc d (oQ _ hd)) (sk _ _ (by lia) (by lia) h1)
 exact λcs i5=>walk cs i j hi hj i5 e
theorem Qy:∀(n:Nat) (l:List Nat),l.Nodup→(∀x∈l,x<n)→l.length≤n
 | 0,[],_,_=>oG _
 | 0,x :: _,_,h=>absurd (h x oK) (XJ _)
 |n+1,l,nd,h=>by
  have ih:=Qy n (l.filter (· != n)) (nd.filter _) λx hx=>by
   obtain⟨h1,h2⟩:=aP.mp hx;have:=h x h1;have h3:x≠n:=by simpa using h2
   lia
  have key:∀(l:List Nat),l.Nodup→l.length≤(l.filter (· != n)).length+1:=by
   intro l
   induction l with
   |nil=>intro _;exact lD _
   |cons a t iht=>
    intro nd;obtain⟨na,nt⟩:=iJ.mp nd;rw[WT]
    by_cases c:a=n
    ·subst c;rw[if_neg (by simp)]
     have:t.filter (· != a)=t:=List.filter_eq_self.mpr λx hx=>by
      have:x≠a:=λz=>na (z▸hx);simpa using this
     rw[this];exact oG _
    ·rw[if_pos (by simpa using c)];have:=iht nt;simp only[lG];lia
  have:=key l nd;lia
inductive Pw(R:Nat→Nat→Prop):List Nat→List Nat→Prop
 |nil:Pw R [] []
 |cons {a b:Nat}{l m:List Nat}:R a b→Pw R l m→Pw R (a :: l) (b :: m)
variable {R:Nat→Nat→Prop}{k1 k2:TX}
theorem Pw.len{l m:List Nat}(h:Pw R l m):l.length=m.length:=by
 induction h with
 |nil=>rfl
 |cons _ _ ih=>rw[lG,lG,ih]
theorem Pw.snoc{l m:List Nat}(h:Pw R l m){a:Nat}(r:R a b):Pw R (l++[a]) (m++[b]):=by
 induction h with
 |nil=>exact .cons r .nil
 |cons q _ ih=>exact .cons q ih
theorem Pw.get{l m:List Nat}(h:Pw R l m):∀{i:Nat}{x:Nat},l[i]?=some x→∃y,m[i]?=some y∧R x y:=by
 induction h with
 |nil=>intro i x e;simp at e
 |cons q _ ih=>
  intro i x e
  cases i with
  |zero=>cases e;exact⟨_,rfl,q⟩
  |succ i=>exact ih (by simpa using e)
theorem Pw.of:∀{l m:List Nat},l.length=m.length→(∀(i:Nat) x y,l[i]?=some x→m[i]?=some y→R x y)→Pw R l m
 |[],[],_,_=>.nil
 |[],_ :: _,h,_=>nomatch h
 |_ :: _,[],h,_=>nomatch h
 |a :: l,b :: m,h,q=>.cons (q 0 a b rfl rfl) (Pw.of (by simpa using h) λi x y e1 e2=>q (i+1) x y (by simpa using e1) (by simpa using e2))
def KR(R:Nat→Nat→Prop)(k1 k2:TX):Prop:=∀x y x' y',R x y→R x' y'→(k1 x=k1 x'↔k2 y=k2 y')
theorem Pw.mem(kr:KR R k1 k2){l m:List Nat}(h:Pw R l m)(r:R x y):k1 x∈l.map k1↔k2 y∈m.map k2:=by
 induction h with
 |nil=>exact⟨λz=>(aH z).elim,λz=>(aH z).elim⟩
 |cons q _ ih=>rw[oW,oW,oX,oX,ih,kr _ _ _ _ r q]
theorem Pw.idx(kr:KR R k1 k2){l m:List Nat}(h:Pw R l m)(r:R x y):(l.map k1).idxOf (k1 x)=(m.map k2).idxOf (k2 y):=by
 induction h with
 |nil=>rfl
 | @cons a b _ _ q _ ih=>
  rw[oW,oW,List.idxOf_cons,List.idxOf_cons,ih];have e:=kr _ _ _ _ q r
  by_cases c:k1 a=k1 x
  ·rw[beq_iff_eq.mpr c,beq_iff_eq.mpr (e.mp c)]
  ·rw[beq_eq_false_iff_ne.mpr c,beq_eq_false_iff_ne.mpr λz=>c (e.mpr z)]
def Xx(k:TX)(o:List Nat)(x:Nat):List Nat:=if k x∈o.map k then o else o++[x]
def Zm(k:TX)(T:SQ)(b:Nat):Nat→List Nat
 | 0=>[b]
 |i+1=>match (Zm k T b i)[i]? with
  |some x=>(T x).foldl (Xx k) (Zm k T b i)
  |none=>Zm k T b i
theorem Vd{k:TX}(h:(Zm k T b i)[i]?=some x):Zm k T b (i+1)=(T x).foldl (Xx k) (Zm k T b i):=by
 show (match (Zm k T b i)[i]? with|some x=>(T x).foldl (Xx k) (Zm k T b i)|none=>Zm k T b i)=_;rw[h]
theorem Wg{k:TX}{T:SQ}{b i:Nat}(h:(Zm k T b i).length≤i):∀j,i≤j→Zm k T b j=Zm k T b i
 | 0,hj=>by rw[Nat.le_zero.mp hj]
 |j+1,hj=>by
  rcases iN i (j+1) with z|z
  ·have ih:=Wg h j (by lia)
   show (match (Zm k T b j)[j]? with|some x=>(T x).foldl (Xx k) (Zm k T b j)|none=>Zm k T b j)=_;rw[ih,iO (by lia)]
  ·rw[show i=j+1 by lia]
theorem Pw.fold(kr:KR R k1 k2){t:List Nat}(h:Pw R t u):∀{l m:List Nat},Pw R l m→Pw R (t.foldl (Xx k1) l) (u.foldl (Xx k2) m):=by
 induction h with
 |nil=>exact λh=>h
 | @cons a b _ _ q _ ih=>
  intro l m h;refine ih ?_;unfold Xx
  by_cases c:k1 a∈l.map k1
  ·rw[if_pos c,if_pos ((h.mem kr q).mp c)];exact h
  ·rw[if_neg c,if_neg λz=>c ((h.mem kr q).mpr z)];exact h.snoc q
theorem Pw.ord(kr:KR R k1 k2){T1 T2:SQ}(ht:∀x y,R x y→Pw R (T1 x) (T2 y)){b1 b2:Nat}(hb:R b1 b2):∀i,Pw R (Zm k1 T1 b1 i) (Zm k2 T2 b2 i)
 | 0=>.cons hb .nil
 |i+1=>by
  have ih:=Pw.ord kr ht hb i
  cases e:(Zm k1 T1 b1 i)[i]? with
  |none=>
   have l1:=iX.mp e;rw[Wg l1 _ (cY _),Wg (by rw[←ih.len];exact l1) _ (cY _)];exact ih
  |some x=>
   obtain⟨y,hy,r⟩:=ih.get e;rw[Vd e,Vd hy];exact Pw.fold kr (ht x y r) ih
theorem Zoa{k:TX}{P:SD}(h:∀y∈o,P y)(hx:P x):∀y∈Xx k o x,P y:=by
 unfold Xx;intro y hy
 by_cases c:k x∈o.map k
 ·rw[if_pos c]at hy;exact h y hy
 ·rw[if_neg c]at hy
  rcases iD.mp hy with z|z
  ·exact h y z
  ·rw[oU.mp z];exact hx
theorem Zqo{k:TX}(h:(o.map k).Nodup):((Xx k o x).map k).Nodup:=by
 unfold Xx
 by_cases c:k x∈o.map k
 ·rw[if_pos c];exact h
 ·rw[if_neg c,lH,WD];refine⟨h,by simp,?_⟩;intro a ha b hb e;have:b=k x:=by simpa using hb
  rw[e,this]at ha;exact c ha
theorem Zn8{k:TX}:o <+: Xx k o x:=by
 unfold Xx
 by_cases c:k x∈o.map k
 ·rw[if_pos c];exact XN
 ·rw[if_neg c];exact List.prefix_append _ _
theorem Zn9{k:TX}:k x∈(Xx k o x).map k:=by
 unfold Xx
 by_cases c:k x∈o.map k
 ·rw[if_pos c];exact c
 ·rw[if_neg c,lH];simp
theorem Q9{k:TX}:∀(t o:List Nat),o <+: t.foldl (Xx k) o
 |[],_=>XN
 |_ :: t,o=>Zn8.trans (Q9 t _)
theorem fold_all{k:TX}{P:SD}:∀(t o:List Nat),(∀y∈o,P y)→(∀y∈t,P y)→∀y∈t.foldl (Xx k) o,P y
 |[],_,h,_=>h
 |a :: t,o,h,ht=>fold_all t _ (Zoa h (ht a oK)) λy hy=>ht y (oQ _ hy)
theorem Ib{k:TX}:∀(t o:List Nat),(o.map k).Nodup→((t.foldl (Xx k) o).map k).Nodup
 |[],_,h=>h
 |_ :: t,o,h=>Ib t _ (Zqo h)
theorem Zce{k:TX}:∀(t o:List Nat) (x:Nat),x∈t→k x∈(t.foldl (Xx k) o).map k
 |a :: t,o,x,h=>by
  rcases oX.mp h with z|z
  ·subst z;exact(List.IsPrefix.map k (Q9 t (Xx k o x))).subset Zn9
  ·exact Zce t _ x z
theorem Zif{k:TX}(i:Nat):Zm k T b i <+: Zm k T b (i+1):=by
 cases e:(Zm k T b i)[i]? with
 |none=>rw[Wg (iX.mp e) _ (cY _)];exact XN
 |some x=>rw[Vd e];exact Q9 _ _
theorem Wr{k:TX}{T:SQ}{b i:Nat}:∀j,i≤j→Zm k T b i <+: Zm k T b j
 | 0,hj=>by rw[Nat.le_zero.mp hj];exact XN
 |j+1,hj=>by
  rcases iN i (j+1) with z|z
  ·exact(Wr j (by lia)).trans (Zif j)
  ·rw[show i=j+1 by lia];exact XN
theorem Wt{k:TX}{T:SQ}{b:Nat}{P:SD}(hb:P b)(ht:∀x,P x→∀y∈T x,P y):∀i,∀y∈Zm k T b i,P y
 | 0,y,hy=>by rw[oU.mp hy];exact hb
 |i+1,y,hy=>by
  have ih:=Wt hb ht (k:=k) i
  cases e:(Zm k T b i)[i]? with
  |none=>rw[Wg (iX.mp e) _ (cY _)]at hy;exact ih y hy
  |some x=>rw[Vd e]at hy;exact fold_all _ _ ih (ht x (ih x (oR e))) y hy
theorem Tt{k:TX}{T:SQ}{b:Nat}:∀i,((Zm k T b i).map k).Nodup
 | 0=>by show ([b].map k).Nodup;simp
 |i+1=>by
  cases e:(Zm k T b i)[i]? with
  |none=>rw[Wg (iX.mp e) _ (cY _)];exact Tt i
  |some x=>rw[Vd e];exact Ib _ _ (Tt i)
theorem Hr{k:TX}(i:Nat):0<(Zm k T b i).length∧(Zm k T b i)[0]?=some b:=by
 have h:=Wr (k:=k) (T:=T) (b:=b) i (lD i);obtain⟨t,e⟩:=h;rw[←e];exact⟨by show 0<([b]++t).length;simp,rfl⟩
theorem U1{k:TX}{P:SD}(hb:P b)(ht:∀x,P x→∀y∈T x,P y)(hk:∀x,P x→k x<n)(i:Nat):(Zm k T b i).length≤n:=by
 have:=Qy n _ (Tt (k:=k) (T:=T) (b:=b) i) λx hx=>by
  obtain⟨y,hy,e⟩:=lF.mp hx;rw[←e];exact hk y (Wt hb ht i y hy)
 rwa[oB]at this
theorem Sz{k:TX}(hj:(Zm k T b n)[j]?=some x)(hn:j<n)(hy:y∈T x):k y∈(Zm k T b n).map k:=by
 have p1:=Wr (k:=k) (T:=T) (b:=b) (i:=j) n (by lia);have p2:=Wr (k:=k) (T:=T) (b:=b) (i:=j+1) n hn
 rcases iN j (Zm k T b j).length with z|z
 ·have e:(Zm k T b j)[j]?=some x:=by
   obtain⟨t,e⟩:=p1;rw[←e,lB z]at hj;exact hj
  refine(List.IsPrefix.map k p2).subset ?_;rw[Vd e];exact Zce _ _ y hy
 ·have:=Wg z n (by lia);rw[this,iO z]at hj;cases hj
def Yf(k:TX)(T:SQ)(o:List Nat):List (List Nat):=o.map λx=>(T x).map λt=>(o.map k).idxOf (k t)
def Xh(o:List Nat)(e:RC):List Nat:=(List.range o.length).filter λi=>e (o.getD i 0)
theorem Pw.rows(kr:KR R k1 k2){T1 T2:SQ}(ht:∀x y,R x y→Pw R (T1 x) (T2 y)){p:List Nat}(h:Pw R o p):Yf k1 T1 o=Yf k2 T2 p:=by
 have inner:∀{t u:List Nat},Pw R t u→(t.map λx=>(o.map k1).idxOf (k1 x))=u.map λx=>(p.map k2).idxOf (k2 x):=by
  intro t u hu
  induction hu with
  |nil=>rfl
  |cons q _ ih=>rw[oW,oW,ih,h.idx kr q]
 have outer:∀{o' p':List Nat},Pw R o' p'→(o'.map λx=>(T1 x).map λt=>(o.map k1).idxOf (k1 t))=p'.map λx=>(T2 x).map λt=>(p.map k2).idxOf (k2 t):=by
  intro o' p' hu
  induction hu with
  |nil=>rfl
  |cons q _ ih=>rw[oW,oW,ih,inner (ht _ _ q)]
 exact outer h
theorem Pw.ends{p:List Nat}(h:Pw R o p){e1 e2:RC}(he:∀x y,R x y→e1 x=e2 y):Xh o e1=Xh p e2:=by
 unfold Xh;rw[h.len];refine List.filter_congr λi hi=>?_;have u6:=iG.mp hi;have hi2:i<o.length:=by rw[h.len];exact u6
 obtain⟨y,hy,r⟩:=h.get (oC hi2);rw[oJ,oC hi2,oJ,hy];exact he _ _ r
inductive Lw:List Nat→List Nat→Prop where
 |hd {a b:Nat}{x y:List Nat} (h:a<b):Lw (a :: x) (b :: y)
 |tl {a:Nat}{x y:List Nat} (h:Lw x y):Lw (a :: x) (a :: y)
theorem Lw.app{x y:List Nat}(h:Lw x y)(z z':List Nat):Lw (x++z) (y++z'):=by
 induction h with
 |hd h=>exact .hd h
 |tl _ ih=>exact .tl ih
theorem Lw.snoc{c d:Nat}(h:c<d):∀x:List Nat,Lw (x++[c]) (x++[d])
 |[]=>.hd h
 |_ :: x=>.tl (Lw.snoc h x)
theorem Lw.irr:∀x:List Nat,¬ Lw x x
 |[],h=>nomatch h
 |a :: x,h=>by
  cases h with
  |hd z=>exact iL _ z
  |tl z=>exact Lw.irr x z
theorem Lw.trans:∀{x y z:List Nat},Lw x y→Lw y z→Lw x z
 |_,_,_,.hd h,.hd k=>.hd (VF h k)
 |_,_,_,.hd h,.tl _=>.hd h
 |_,_,_,.tl _,.hd k=>.hd k
 |_,_,_,.tl h,.tl k=>.tl (h.trans k)
def Sw(u v:List Nat):Prop:=u.length<v.length∨(u.length=v.length∧Lw u v)
def Sl(u v:List Nat):Prop:=u=v∨Sw u v
theorem Sw.irr{x:List Nat}(h:Sw x x):False:=h.elim (λz=>iL _ z) λz=>Lw.irr _ z.2
theorem Sw.trans{x y z:List Nat}(h:Sw x y)(k:Sw y z):Sw x z:=by
 rcases h with h|⟨h1,h2⟩<;>rcases k with k|⟨k1,k2⟩
 ·exact .inl (VF h k)
 ·exact .inl (by lia)
 ·exact .inl (by lia)
 ·exact .inr ⟨h1.trans k1,h2.trans k2⟩
theorem Sw.snoc{v:List Nat}(h:Sw u v)(c d:Nat):Sw (u++[c]) (v++[d]):=by
 rcases h with h|⟨h1,h2⟩
 ·exact .inl (by simp only[oV,bF];lia)
 ·exact .inr ⟨by simp only[oV,bF];lia,h2.app _ _⟩
theorem Sw.last(h:c<d)(u:List Nat):Sw (u++[c]) (u++[d]):=.inr ⟨by simp only[oV,bF],Lw.snoc h u⟩
theorem Sw.nil(u:List Nat)(c:Nat):Sw [] (u++[c]):=.inl (by simp only[oV,bF,ZA];lia)
theorem Sw.more(u:List Nat)(c:Nat):Sw u (u++[c]):=.inl (by simp only[oV,bF];lia)
theorem Sl.trans{x y z:List Nat}(h:Sl x y)(k:Sl y z):Sl x z:=by
 rcases h with rfl|h
 ·exact k
 ·rcases k with rfl|k
  ·exact .inr h
  ·exact .inr (h.trans k)
theorem Sl.anti{x y:List Nat}(h:Sl x y)(k:Sl y x):x=y:=by
 rcases h with h|h
 ·exact h
 ·rcases k with k|k
  ·exact k.symm
  ·exact(h.trans k).irr.elim
structure BI(L:List Nat)(g:TU)(b i m:Nat)(O:List Nat)(T:UR):Prop where
 len:T.length=O.length
 zero:O[0]?=some b∧T[0]?=some []
 way:∀(j:Nat) x t,O[j]?=some x→T[j]?=some t→t.foldl g b=x∧(∀c∈t,c∈L)∧t.length≤j
 inc:∀(j k:Nat) t u,j<k→T[j]?=some t→T[k]?=some u→Sw t u
 par:∀(j:Nat) t,T[j]?=some t→t=[]∨∃(j':Nat) (t':List Nat) (n c:Nat),T[j']?=some t'∧L[n]?=some c∧t=t'++[c]∧(j'<i∨(j'=i∧n<m))
 done:∀(j:Nat) x t (n:Nat) c,O[j]?=some x→T[j]?=some t→L[n]?=some c→(j<i∨(j=i∧n<m))→∃(k:Nat) (u:List Nat),O[k]?=some (g x c)∧T[k]?=some u∧Sl u (t++[c])
def J1(L:List Nat):Prop:=∀(n n':Nat) c c',n<n'→L[n]?=some c→L[n']?=some c'→c<c'
theorem BI.start{g:TU}:BI L g b 0 0 [b] [[]]:=by
 have one:∀{α:Type}{a x:α}{j:Nat},[a][j]?=some x→j=0∧x=a:=λ{α a x j} h=>by
  cases j with
  |zero=>exact⟨rfl,(Option.some.inj h).symm⟩
  |succ j=>simp at h
 refine⟨rfl,⟨rfl,rfl⟩,λj x t h1 h2=>?_,λj k t u hk h1 h2=>?_,λj t h=>?_,λj x t n c h1 h2 h3 h4=>?_⟩
 ·obtain⟨rfl,rfl⟩:=one h1;obtain⟨_,rfl⟩:=one h2;exact⟨rfl,λc hc=>(aH hc).elim,oG _⟩
 ·obtain⟨rfl,_⟩:=one h1;obtain⟨rfl,_⟩:=one h2;lia
 ·exact .inl (one h).2
 ·lia
section
variable {L:List Nat}{g:TU}{b i m:Nat}{O:List Nat}{T:UR}
theorem BI.at(B:BI L g b i m O T)(h:O[j]?=some x):∃t,T[j]?=some t:=
 ⟨_,oC (by rw[B.len];exact(oF.mp h).1)⟩
theorem BI.ahead(B:BI L g b i m O T)(hL:J1 L){t:List Nat}(ht:T[i]?=some t)(hc:L[m]?=some c):∀(j:Nat) u,T[j]?=some u→Sw u (t++[c]):=λj u h=>by
 rcases B.par j u h with rfl|⟨j',t',n,d,h1,h2,rfl,h3|⟨rfl,h3⟩⟩
 ·exact Sw.nil t c
 ·exact(B.inc j' i t' t h3 h1 ht).snoc d c
 ·rw[ht]at h1;cases h1;exact Sw.last (hL n m d c h3 h2 hc) t
theorem BI.old(B:BI L g b i m O T)(hL:J1 L){t:List Nat}(hy:O[i]?=some y)(ht:T[i]?=some t)(hc:L[m]?=some c)(t6:g y c∈O):BI L g b i (m+1) O T:=by
 refine⟨B.len,B.zero,B.way,B.inc,λj u h=>?_,λj x u n d h1 h2 h3 h4=>?_⟩
 ·rcases B.par j u h with z|⟨j',t',n,d,h1,h2,h3,h4⟩
  ·exact .inl z
  ·exact .inr ⟨j',t',n,d,h1,h2,h3,h4.imp id λz=>⟨z.1,by lia⟩⟩
 ·by_cases z:j<i∨(j=i∧n<m)
  ·exact B.done j x u n d h1 h2 h3 z
  ·obtain⟨rfl,hn⟩:j=i∧n=m:=by lia
   subst hn;rw[hy]at h1;rw[ht]at h2;rw[hc]at h3;cases h1;cases h2;cases h3;obtain⟨k,hk,e⟩:=VN.mp t6;have e':O[k]?=some (g y c):=by rw[oC hk,e]
   obtain⟨u,hu⟩:=B.at e';exact⟨k,u,e',hu,.inr (B.ahead hL ht hc k u hu)⟩
theorem BI.new(B:BI L g b i m O T)(hL:J1 L){t:List Nat}(hy:O[i]?=some y)(ht:T[i]?=some t)(hc:L[m]?=some c):BI L g b i (m+1) (O++[g y c]) (T++[t++[c]]):=by
 have k8:=(oF.mp hy).1
 have back:∀{α:Type}{l:List α}{a x:α}{j:Nat},(l++[a])[j]?=some x→l[j]?=some x∨(j=l.length∧x=a):=λ{α l a x j} h=>by
  rcases iN j l.length with z|z
  ·rw[lB z]at h;exact .inl h
  ·rw[lK z]at h
   have:j-l.length=0:=by
    rcases Nat.eq_zero_or_pos (j-l.length) with q|q
    ·exact q
    ·rw[iO (by simp only[bF];lia)]at h;cases h
   rw[this]at h;exact .inr ⟨by lia,(Option.some.inj h).symm⟩
 have Dw:∀{α:Type}{l:List α}{a x:α}{j:Nat},l[j]?=some x→(l++[a])[j]?=some x:=λ{α l a x j} h=>by
  rw[lB (oF.mp h).1];exact h
 have Zrv:∀{α:Type} (l:List α) (a:α),(l++[a])[l.length]?=some a:=λl a=>by rw[lK (oG _),UP];rfl
 refine⟨by rw[oV,oV,B.len];rfl,⟨Dw B.zero.1,Dw B.zero.2⟩,λj x u h1 h2=>?_,λj k u v hk h1 h2=>?_,λj u h=>?_,λj x u n d h1 h2 h3 h4=>?_⟩
 ·rcases back h1 with z1|⟨z1,rfl⟩
  ·rcases back h2 with z2|⟨z2,_⟩
   ·exact B.way j x u z1 z2
   ·have:=(oF.mp z1).1;rw[B.len]at z2;lia
  ·rcases back h2 with z2|⟨_,rfl⟩
   ·have:=(oF.mp z2).1;rw[B.len]at this;lia
   ·obtain⟨a1,a2,a3⟩:=B.way i y t hy ht;refine⟨by rw[YX,a1];rfl,λd hd=>?_,by simp only[oV,bF];lia⟩
    rcases iD.mp hd with q|q
    ·exact a2 d q
    ·rw[oU.mp q];exact oR hc
 ·rcases back h2 with z2|⟨z2,rfl⟩
  ·rcases back h1 with z1|⟨z1,_⟩
   ·exact B.inc j k u v hk z1 z2
   ·have:=(oF.mp z2).1;lia
  ·rcases back h1 with z1|⟨z1,_⟩
   ·exact B.ahead hL ht hc j u z1
   ·lia
 ·rcases back h with z|⟨_,rfl⟩
  ·rcases B.par j u z with q|⟨j',t',n,d,h1,h2,h3,h4⟩
   ·exact .inl q
   ·exact .inr ⟨j',t',n,d,Dw h1,h2,h3,h4.imp id λz=>⟨z.1,by lia⟩⟩
  ·exact .inr ⟨i,t,m,c,Dw ht,hc,rfl,.inr ⟨rfl,aS _⟩⟩
 ·have hj:j<O.length:=by lia
  rcases back h1 with z1|⟨z1,_⟩
  ·rcases back h2 with z2|⟨z2,_⟩
   ·by_cases z:j<i∨(j=i∧n<m)
    ·obtain⟨k,v,e1,e2,e3⟩:=B.done j x u n d z1 z2 h3 z;exact⟨k,v,Dw e1,Dw e2,e3⟩
    ·obtain⟨rfl,hn⟩:j=i∧n=m:=by lia
     subst hn;rw[hy]at z1;rw[ht]at z2;rw[hc]at h3;cases z1;cases z2;cases h3;exact⟨O.length,t++[c],Zrv _ _,by rw[←B.len];exact Zrv _ _,.inl rfl⟩
   ·rw[B.len]at z2;lia
  ·lia
theorem BI.next(B:BI L g b i m O T)(hm:L.length≤m):BI L g b (i+1) 0 O T:=by
 refine⟨B.len,B.zero,B.way,B.inc,λj u h=>?_,λj x u n d h1 h2 h3 h4=>?_⟩
 ·rcases B.par j u h with z|⟨j',t',n,d,h1,h2,h3,h4⟩
  ·exact .inl z
  ·exact .inr ⟨j',t',n,d,h1,h2,h3,.inl (by lia)⟩
 ·have:=(oF.mp h3).1;exact B.done j x u n d h1 h2 h3 (by lia)
theorem BI.reach(B:BI L g b i 0 O T):∀(n:Nat) (w:List Nat),w.length=n→(∀c∈w,c∈L)→(∃(k:Nat) (u:List Nat),O[k]?=some (w.foldl g b)∧T[k]?=some u∧Sl u w)∨∃t,T[i]?=some t∧Sl t w
 | 0,w,hw,_=>by
  rw[iT hw];exact .inl ⟨0,[],B.zero.1,B.zero.2,.inl rfl⟩
 |n+1,w,hw,hc=>by
  rcases List.eq_nil_or_concat w with rfl|⟨v,c,rfl⟩
  ·simp at hw
  ·rw[List.concat_eq_append]at hw hc ⊢;simp only[oV,bF]at hw
   rcases B.reach n v (by lia) λd hd=>hc d (aK _ hd) with ⟨k,u,h1,h2,h3⟩|⟨t,h1,h2⟩
   ·by_cases hk:k<i
    ·obtain⟨m,hm,e⟩:=VN.mp (hc c (lN _ oK));obtain⟨k',u',e1,e2,e3⟩:=B.done k _ u m c h1 h2 (by rw[oC hm,e]) (.inl hk);refine .inl ⟨k',u',by rw[YX];exact e1,e2,e3.trans ?_⟩
     rcases h3 with rfl|h3
     ·exact .inl rfl
     ·exact .inr (h3.snoc c c)
    ·have eF:=(oF.mp h2).1;have rE:T[i]?=some (T[i]'(by lia)):=oC (by lia);refine .inr ⟨_,rE,?_⟩
     have q:Sl (T[i]'(by lia)) u:=by
      by_cases z:i=k
      ·subst z;rw[rE]at h2;exact .inl (Option.some.inj h2)
      ·exact .inr (B.inc i k _ _ (by lia) rE h2)
     exact(q.trans h3).trans (.inr (Sw.more v c))
   ·exact .inr ⟨t,h1,h2.trans (.inr (Sw.more v c))⟩
theorem BI.first(B:BI L g b i 0 O T){t:List Nat}{p:SD}(hj:j≤i∨O.length≤i)(ht:T[j]?=some t)(hn:∀(k x:Nat),k<j→O[k]?=some x→¬ p x)(w:List Nat)(hw:∀c∈w,c∈L)(hp:p (w.foldl g b)):Sl t w:=by
 have lt:∀(k:Nat) u,T[k]?=some u→j≤k→Sl t u:=λk u hu hk=>by
  by_cases z:j=k
  ·subst z;rw[ht]at hu;exact .inl (Option.some.inj hu)
  ·exact .inr (B.inc j k _ _ (by lia) ht hu)
 rcases B.reach _ w rfl hw with ⟨k,u,h1,h2,h3⟩|⟨u,h1,h2⟩
 ·refine(lt k u h2 ?_).trans h3
  rcases iN k j with z|z
  ·exact absurd hp (hn k _ z h1)
  ·exact z
 ·refine(lt i u h1 ?_).trans h2;have:=(oF.mp h1).1;rw[B.len]at this;lia
theorem BI.never(B:BI L g b i 0 O T){p:SD}(hl:O.length≤i)(hn:∀x∈O,¬ p x)(w:List Nat)(hw:∀c∈w,c∈L):¬ p (w.foldl g b):=by
 rcases B.reach _ w rfl hw with ⟨k,u,h1,_⟩|⟨u,h1,_⟩
 ·exact hn _ (oR h1)
 ·have:=(oF.mp h1).1;rw[B.len]at this;lia
end
inductive Zq4(f:Addr)(fd:FuncData)(l:Str)(g:TU)(pl:SD)(G:QA)(vs:List V)(H:Hp)(Q:VK):Prop
 |mk(x c:_)(h1:vs=[nI x,.str (one c)])(h2:pl x)(h3:c∈l.cps.toList)(h4:H f=some (FnO f fd))(h5:G H)(h6:∀H',Zl H H'→Q (nI (g x c)) H'):Zq4 f fd l g pl G vs H Q
def Zvd(f:Addr)(fd:FuncData)(l:Str)(g:TU)(pl:SD)(G:QA):Sp:=λvs H Q _=>Zq4 f fd l g pl G vs H Q
def TL(l:Str)(g:TU)(x:Nat):List Nat:=l.cps.toList.map (g x)
def kI(x:Nat):Key:=Sum.inl ((x:Nat):Int)
theorem Gi(h:kI x=kI y):x=y:=by
 have:((x:Nat):Int)=y:=Sum.inl.inj h;lia
def TxD(H:Hp)(d:Addr)(o:List Nat)(n:Nat):Prop:=∃kvs:List QB,H d=some (.dK kvs)∧kvs.map (·.1)=o.map kI∧∀p∈kvs,∃z:Str,p.2=.str z∧z.length≤n
theorem Bu:∀{kvs:List QB}{o:List Nat}{x:Nat},kvs.map (·.1)=o.map kI→x∉o→Yz kvs (kI x)=none
 |[],_,_,_,_=>rfl
 |_ :: _,[],_,h,_=>nomatch h
 |p :: kvs,a :: o,x,h,hx=>by
  rw[oW,oW,List.cons.injEq]at h;rw[Xa (λz=>hx (by rw[Gi (h.1.symm.trans z)];exact oK))];exact Bu h.2 λz=>hx (oQ _ z)
theorem Lc:∀{kvs:List QB}{o:List Nat}{x:Nat},kvs.map (·.1)=o.map kI→x∈o→∃p∈kvs,Yz kvs (kI x)=some p.2∧p.1=kI x
 |[],[],_,_,hx=>nomatch hx
 |[],_ :: _,_,h,_=>nomatch h
 |_ :: _,[],_,h,_=>nomatch h
 |p :: kvs,a :: o,x,h,hx=>by
  rw[oW,oW,List.cons.injEq]at h
  by_cases c:a=x
  ·exact⟨p,oK,Xl (by rw[h.1,c]),by rw[h.1,c]⟩
  ·rw[Xa (λz=>c (Gi (h.1.symm.trans z)))];obtain⟨q,hq,e⟩:=Lc h.2 ((oX.mp hx).resolve_left λz=>c z.symm);exact⟨q,oQ _ hq,e⟩
theorem Zoq(z:Str)(c:Nat):(z++(⟨#[c]⟩:Str)).length=z.length+1:=by
 show (z.cps ++ #[c]).size=z.cps.size+1;simp
theorem Zht(o:List Nat)(x:Nat):Xx id o x=if x∈o then o else o++[x]:=by
 unfold Xx;rw[bZ];rfl
theorem TxD.same{d:Addr}(h:TxD H d o n)(e:Zl H H'):TxD H' d o n:=let ⟨kvs,a,b⟩:=h;⟨kvs,e _ _ a,b⟩
inductive Zq0(P:Program)(w:World)(K:W.Frag)(mg:UW)(base:Heap)(n:Nat)(vs:List V)(H:Hp)(Q:VK):Prop
 |mk(f:Addr)(fd:FuncData)(ps:List Str)(l:Str)(b:Nat)(g:TU)(pl:SD)(G:QA)(h1:Ya P w K mg base CX0 n f fd ps (Zvd f fd l g pl G))(h2:Binds K fd ps [])(h3:(∀H1 H2,Zl H1 H2→G H1→G H2))(h4:vs=[.str l,nI b,.ref f])(h5:pl b)(h6:(∀x,pl x→x<576∧∀c∈l.cps.toList,pl (g x c)))(h7:H f=some (FnO f fd))(h8:G H)(h9:∀d H' N,H d=none→Zl H H'→TxD H' d (Zm id (TL l g) b N) 900→(Zm id (TL l g) b N).length≤N→Q (.ref d) H'):Zq0 P w K mg base n vs H Q
def Zso(P:Program)(w:World)(K:W.Frag)(mg:UW)(base:Heap)(n:Nat):Sp:=λvs H Q _=>Zq0 P w K mg base n vs H Q
def woW(l:Str)(fv d:Addr)(g:TU)(b:Nat)(H:Hp)(mm:Nat)(σ:L2.St)(H5:Hp):Prop:=∃(i:Nat) (lv:Addr) (v5 v6 v7 v8:Option V),mm=577-i∧i≤(Zm id (TL l g) b i).length∧σ=[some (.str l),some (nI b),some (.ref fv),some (.ref d),some (.ref lv),v5,v6,v7,v8]∧H lv=none∧H5 lv=some (.lst (((Zm id (TL l g) b i).drop i).map nI))∧TxD H5 d (Zm id (TL l g) b i) (Zm id (TL l g) b i).length∧Zl H H5
def woL(l:Str)(fv d:Addr)(g:TU)(b:Nat)(H:Hp)(lv rp:Addr)(i:Nat)(L:List Nat)(j:Nat)(σ:L2.St)(H7:Hp):Prop:=∃(v6 v7 v8:Option V),σ=[some (.str l),some (nI b),some (.ref fv),some (.ref d),some (.ref lv),some (.ref rp),v6,v7,v8]∧H7 lv=some (.lst ((L.drop i).map nI))∧H7 rp=some (.lst (((Zm id (TL l g) b (i+j)).drop L.length).map nI))∧TxD H7 d (Zm id (TL l g) b (i+j)) (Zm id (TL l g) b (i+j)).length∧Zl H H7
theorem Zii(F:Fun K "walked" "walked" Ml f fd)(Z:Blt mg):Ya P w K mg base CX0 (n+1) f fd SS (Zso P w K mg base n):=by
 refine F.ok Yl (λvs H Q E h=>?_) (λcdv A outer s H vs Q E hr h=>?_)
 ·obtain⟨f,fd,ps,l,b,g,pl,G,_,_,_,rfl,_⟩:=h;rfl
 obtain⟨fv,gE,ps,l,b,g,pl,G,Up,Um,hG,rfl,hb,y0,hf,l9,k⟩:=h
 refine⟨_,(Zd (Zn (i:=3) Yl.nd (by rfl) (Or.inl (by rfl)) (Zo4 (Zbg (pv 1) Zv Zgs) (by rfl) (by rfl) (by intro h;cases h) (by show 1≤15;decide))) 
   (Zd (Zn (i:=4) Yl.nd (by rfl) (Or.inl (by rfl)) (Yw (Za (pv 1) Zb))) 
   (Zd (Mr lW (We (K:=K) (pv 4) (λ_=>rfl)) 
    (Zd (Zn (i:=5) Yl.nd (by rfl) (Or.inl (by rfl)) (Yw Zb)) 
    (Zd (Xq lW (by rfl) (X9 (K:=K) (pv 4)) (Zo (i:=6) Yl.nd (by rfl) (Or.inl (by rfl))) 
     (Zh (Xq lW (by rfl) (Qt (pv 0)) (Zo (i:=7) Yl.nd (by rfl) (Or.inl (by rfl))) 
      (Zd (Zn (i:=8) Yl.nd (by rfl) (Or.inl (by rfl)) (U0 (i:=2) Up (hr.mono (by lia)) Um (Za (pv 6) (Za (pv 7) Zb)))) 
      (Zh (Xp (Zla (Dj (Ug hr) (pv 8) (pv 3))) 
       (Zd (Ia (Ug hr) (pv 3) (pv 8) (Yd Rg (Ts (Ug hr) (pv 3) (pv 6) (λ_ _=>rfl)) (pv 7)) rfl) 
       (Zh (Ys (Yk (K:=K) oY lX lY Yp (pv 5) (Za (pv 8) Zb))))) Yo)))))) 
    (Zh (Zn (i:=4) Yl.nd (by rfl) (Or.inl (by rfl)) (pv 5)))))) 
   (Zh (Zq (pv 3)))))),?_⟩
 refine(let y1:TS:=_;let y6:TS:=_;let y7:TS:=_;let m7:TS:=Zp _ y7;let u8:TS:=(Co _ m7 _);let d9:TS:=Zp _ u8;let b8:TS:=(Zad _ _ d9);let o9:TS:=Zp (Zad _ _ b8) y6;let yF:TS:=Zp _ o9;let kZ:TS:=Zp (Il _ yF) y1;let Zjj:TS:=Zp _ kZ;(?_:Zp _ Zjj _ _ _))
 have hT:∀x,pl x→∀y∈TL l g x,pl y:=λx hx y hy=>by
  obtain⟨c,hc,e⟩:=lF.mp hy;rw[←e];exact(y0 x hx).2 c hc
 have oL:∀i,(Zm id (TL l g) b i).length≤576:=λi=>U1 hb hT (λx hx=>(y0 x hx).1) i;have oP:∀i,∀y∈Zm id (TL l g) b i,pl y:=λi=>Wt hb hT i;refine λd hd=>⟨_,rfl,Zc,[(kI b,.str "")],rfl,by show 1≤15;decide,?_⟩;have mM:upd (upd H d (.dK [])) d (.dK (Wm [] [(kI b,V.str "")])) d=some (.dK [(kI b,V.str "")]):=Zc;have e1:Zl H (upd (upd H d (.dK [])) d (.dK (Wm [] [(kI b,V.str "")]))):=Zu (Zf hd _) hd _;generalize upd (upd H d (.dK [])) d (.dK (Wm [] [(kI b,V.str "")]))=H1 at mM e1;refine⟨_,rfl,(by show 1≤sizeLine;decide),λlv kC=>?_⟩;generalize eZ:upd H1 lv _=H2;have s2:=nS7 eZ kC;have sH:=nU7 eZ
 refine⟨woW l fv d g b H,
  ⟨_,0,lv,none,none,none,none,rfl,lD _,rfl,none_of e1 kC,sH,⟨_,s2 _ _ mM,rfl,λp hp=>?_⟩,e1.trans s2⟩,?_⟩
 ·rw[oU.mp hp];exact⟨_,rfl,lD _⟩
 clear eZ sH s2 kC lv mM e1;rintro mm σ H5 ⟨i,lv,v5,v6,v7,v8,rfl,hi,rfl,fL,l7,T5,e5⟩;have hD:∀{H:Hp}{a:Addr}{xs:List V}{o:List Nat}{n:Nat},H a=some (.lst xs)→TxD H d o n→a≠d:=λha ⟨_,hk,_⟩=>Wu ha hk λz=>nomatch z;generalize hL:Zm id (TL l g) b i=L at hi l7 T5;have nU:=oL i;rw[hL]at nU;refine⟨_,rfl,_,.inl ⟨_,SqL.of l7,rfl⟩,?_⟩;refine Rk (λc1=>?_) (λc1=>?_)
 ·have x9:i<L.length:=by
   rcases iN i L.length with z|z
   ·exact z
   ·rw[ZH z]at c1;cases c1
  refine⟨λx8 H'=>∃m',m'<577-i∧_,λ_ _ z=>z,?_⟩;refine⟨(by show 0≤sizeLine;decide),λrp t5=>?_⟩;generalize eZ:upd H5 rp _=H6;have s6:=nS7 eZ t5;have nK:=nU7 eZ;have B2:=none_of e5 t5;have vL:lv≠rp:=Zi l7 t5;refine⟨_,rfl,lv,rfl,⟨_,SqL.of (s6 _ _ l7)⟩,?_⟩
  refine S2 (K:=K) (a:=lv) (xs:=(L.drop i).map nI) (woL l fv d g b H lv rp i L)
   ⟨v6,v7,v8,rfl,s6 _ _ l7,by rw[nK,XR,hL,YG];rfl,by rw[XR,hL];exact T5.same s6,e5.trans s6⟩ (λj σ H7 _ h=>?_) ?_ ?_
  ·obtain⟨_,_,_,_,h7,_⟩:=h;exact SqL.of h7
  ·rintro j x σ H7 hx ⟨v6,v7,v8,rfl,yP,l8,T7,e7⟩;rw[oH,UD]at hx
   cases j4:L[i+j]? with
   |none=>rw[j4]at hx;cases hx
   |some y=>
    rw[j4]at hx;cases hx
    have xX:(Zm id (TL l g) b (i+j))[i+j]?=some y:=by
     obtain⟨t,e⟩:=Wr (k:=id) (T:=TL l g) (b:=b) (i:=i) (i+j) (by lia);rw[←e,hL,lB (oF.mp j4).1];exact j4
    have B6:L.length≤(Zm id (TL l g) b (i+j)).length:=by
     rw[←hL];exact(Wr (k:=id) (T:=TL l g) (b:=b) (i:=i) (i+j) (by lia)).length_le
    have Zb6:=Vd xX;have Zel:=oP (i+j) y (oR xX);have n5:=Tt (k:=id) (T:=TL l g) (b:=b) (i+j);generalize hO:Zm id (TL l g) b (i+j)=O at xX B6 Zb6 n5 l8 T7;have Li:∀z∈O,pl z:=by rw[←hO];exact oP (i+j)
    refine⟨_,rfl,l,rfl,?_⟩
    refine Aa (cs:=l.cps.toList) (λm σ H8=>∃(v7 v8:Option V),σ=[some (.str l),some (nI b),some (.ref fv),some (.ref d),some (.ref lv),some (.ref rp),some (nI y),v7,v8]∧H8 lv=some (.lst ((L.drop i).map nI))∧H8 rp=some (.lst (((((TL l g y).take m).foldl (Xx id) O).drop L.length).map nI))∧TxD H8 d (((TL l g y).take m).foldl (Xx id) O) (((TL l g y).take m).foldl (Xx id) O).length∧Zl H H8)
     ⟨v7,v8,rfl,yP,l8,T7,e7⟩ ?_ ?_
    ·rintro m c σ H8 hc ⟨v7,v8,rfl,sN,sO,T8,e8⟩;have z4:c∈l.cps.toList:=oR hc;have nY:(TL l g y)[m]?=some (g y c):=by unfold TL;rw[oH,hc];rfl
     have gX:((TL l g y).take (m+1)).foldl (Xx id) O=Xx id (((TL l g y).take m).foldl (Xx id) O) (g y c):=by
      rw[iE,nY,YX];rfl
     have Nz:=Q9 (k:=id) ((TL l g y).take m) O;have Zix:=Ib (k:=id) ((TL l g y).take m) O n5;have Zcc:=fold_all (k:=id) (P:=pl) ((TL l g y).take m) O Li λz hz=>hT y Zel z (XE hz);have xF:y∈((TL l g y).take m).foldl (Xx id) O:=Nz.subset (oR xX);have tW:L.length≤(((TL l g y).take m).foldl (Xx id) O).length:=lI B6 Nz.length_le;rw[gX];generalize ((TL l g y).take m).foldl (Xx id) O=O8 at sO T8 Nz Zix Zcc xF tW
     have hO8:O8.length≤576:=by
      have:=Qy 576 _ Zix λz hz=>by
       rw[bZ]at hz;exact(y0 z (Zcc z hz)).1
      rwa[oB]at this
     refine⟨rfl,e8 _ _ hf,_,rfl,_,rfl,e8 _ _ hf,y,c,rfl,Zel,z4,e8 _ _ hf,hG _ _ e8 l9,λH9 e9=>?_⟩;have T9:=T8.same e9;have i4:=e9 _ _ sN;have r9:=e9 _ _ sO;have tM:=e8.trans e9;obtain⟨kvs,i3,hk,hv⟩:=T9
     have eF:kvs.length=O8.length:=by
      have:=congrArg List.length hk;rwa[oB,oB]at this
     refine⟨_,rfl,_,rfl,d,_,rfl,O0.k (k:=kI (g y c)) i3,_,rfl,?_⟩;rw[Zht]
     by_cases t6:g y c∈O8
     ·obtain⟨p,_,hp,_⟩:=Lc hk t6;rw[hp,if_pos t6];refine ifN rfl ⟨_,_,rfl,i4,r9,⟨kvs,i3,hk,hv⟩,tM⟩
     ·have eG:=Bu hk t6;rw[eG,if_neg t6];obtain⟨p,hpk,hp,_⟩:=Lc hk xF;obtain⟨z,hz,kQ⟩:=hv p hpk;rw[hz]at hp;refine ifY rfl ⟨_,rfl,_,rfl,d,_,rfl,hp▸O0.k (k:=kI y) i3,_,rfl,z,_,rfl,rfl,(by show z.length+1≤sizeLine;rw[sizeLine_eq];lia),_,rfl,_,rfl,d,_,rfl,Ei.k (k:=kI (g y c)) i3 (by rw[sizeLine_eq];lia),?_⟩;rw[Mq _ eG];have vN:=hD r9 ⟨kvs,i3,hk,hv⟩;have dE:=hD i4 ⟨kvs,i3,hk,hv⟩;have Si:=(Zk (H:=H9) (o:=.dK (kvs++[(kI (g y c),V.str (z++⟨#[c]⟩))])) vN).trans r9;have Zeo:=(Zk (H:=H9) (o:=.dK (kvs++[(kI (g y c),V.str (z++⟨#[c]⟩))])) dE).trans i4;have Zm3:upd H9 d (.dK (kvs++[(kI (g y c),V.str (z++⟨#[c]⟩))])) d=_:=Zc;have u9:=Zu tM hd (.dK (kvs++[(kI (g y c),V.str (z++⟨#[c]⟩))]));generalize upd H9 d _=w4 at Si Zeo Zm3 u9;refine⟨_,rfl,.inl ⟨rfl,_,SqL.of Si⟩,_,rfl,rp,_,_,rfl,rfl,Si,(by rw[oB,bA,sizeLine_eq];lia),?_⟩;refine⟨_,_,rfl,(Zk vL).trans Zeo,?_,⟨kvs++[(kI (g y c),V.str (z++⟨#[c]⟩))],(Zk vN.symm).trans Zm3,?_,?_⟩,Zu u9 B2 _⟩
      ·rw[List.drop_append_of_le_length tW,lH];exact Zc
      ·rw[lH,lH,hk];rfl
      ·intro q hq
       rcases iD.mp hq with a|a
       ·obtain⟨z',h1,h2⟩:=hv q a;exact⟨z',h1,by rw[oV];lia⟩
       ·rw[oU.mp a];refine⟨_,rfl,?_⟩;rw[oV];show (z++⟨#[c]⟩).length≤O8.length+1;have:(z++⟨#[c]⟩).length=z.length+1:=Zoq z c;lia
    ·rintro σ H8 ⟨v7,v8,rfl,sN,sO,T8,e8⟩;rw[aR (by unfold TL;rw[oB];exact oG _),←Zb6]at sO T8;exact⟨_,_,_,rfl,sN,sO,T8,e8⟩
  ·rintro σ H7 ⟨v6,v7,v8,rfl,yP,l8,T7,e7⟩;have xA:i+((L.drop i).map nI).length=L.length:=by rw[oB,bA];lia
   rw[xA]at l8 T7
   have B6:L.length≤(Zm id (TL l g) b L.length).length:=by
    rw[←hL];exact(Wr (k:=id) (T:=TL l g) (b:=b) (i:=i) (Zm id (TL l g) b i).length (by rw[hL];lia)).length_le
   exact⟨_,rfl,577-L.length,by lia,L.length,rp,_,_,_,_,rfl,B6,rfl,B2,l8,T7,e7⟩
 ·have j3:L.length≤i:=by
   rcases iN i L.length with z|z
   ·refine absurd ?_ c1
    cases pT:L.drop i with
    |nil=>
     have:=congrArg List.length pT;rw[bA]at this;have h0:([]:List Nat).length=0:=rfl;lia
    |cons=>rfl
   ·exact z
  obtain⟨kvs,h5d,hk,hv⟩:=T5;refine⟨_,rfl,k d H5 i hd e5 ⟨kvs,h5d,by rw[hL];exact hk,λp hp=>let ⟨z,a,b⟩:=hv p hp;⟨z,a,by lia⟩⟩ (by rw[hL];exact j3)⟩
def PlT(key:RY)(H:Hp)(xs:List V)(o:List Nat):Prop:=xs.length=o.length∧∀(i:Nat) x c,xs[i]?=some x→o[i]?=some c→∃a,x=.ref a∧H a=some (.tup ((key c).map kV))
theorem PlT.keep(h:PlT key H xs o)(k:Tk H H'):PlT key H' xs o:=⟨h.1,λi x c a b=>let ⟨d,e,q⟩:=h.2 i x c a b;⟨d,e,k _ _ q⟩⟩
theorem PlT.snoc(h:PlT key H xs o)(ha:H a=some (.tup ((key c).map kV))):PlT key H (xs++[.ref a]) (o++[c]):=by
 refine⟨by rw[oV,oV,h.1];rfl,λi x r' q1 q2=>?_⟩
 by_cases z:i<xs.length
 ·rw[lB z]at q1;rw[lB (by rw[←h.1];exact z)]at q2;exact h.2 i x r' q1 q2
 ·rw[lK (by lia)]at q1;rw[lK (by rw[←h.1];lia),←h.1]at q2
  cases hi:i-xs.length with
  |zero=>
   rw[hi]at q1 q2;cases q1;cases q2;exact⟨a,rfl,ha⟩
  |succ n=>rw[hi]at q1;simp at q1
inductive Zke(f:Addr)(fd:FuncData)(l:Str)(g:TU)(key:RY)(pl:SD)(G:QA)(vs:List V)(H:Hp)(Q:VK):Prop
 |mk(a x c:_)(h1:vs=[.ref a,.str (one c)])(h2:H a=some (.tup ((key x).map kV)))(h3:pl x)(h4:c∈l.cps.toList)(h5:H f=some (FnO f fd))(h6:G H)(h7:∀r H',Zl H H'→H' r=some (.tup ((key (g x c)).map kV))→Q (.ref r) H'):Zke f fd l g key pl G vs H Q
def Zq3(f:Addr)(fd:FuncData)(l:Str)(g:TU)(key:RY)(pl:SD)(G:QA):Sp:=λvs H Q _=>Zke f fd l g key pl G vs H Q
abbrev sOf(t:List Nat):Str:=⟨t.toArray⟩
theorem Zkt(t:List Nat)(c:Nat):sOf t++(⟨#[c]⟩:Str)=sOf (t++[c]):=by
 show (⟨t.toArray ++ #[c]⟩:Str)=⟨(t++[c]).toArray⟩;simp
def TxB(key:RY)(g:TU)(b:Nat)(l:Str)(H:Hp)(d:Addr)(o:List Nat)(i m:Nat):Prop:=∃(kvs:RZ) (T:UR),H d=some (.dT kvs)∧kvs.map (·.1)=o.map key∧kvs.map (·.2)=T.map (λt=>V.str (sOf t))∧BI l.cps.toList g b i m o T
theorem TxB.same{g:TU}{d:Addr}{m:Nat}(h:TxB key g b l H d o i m)(e:Zl H H'):TxB key g b l H' d o i m:=let ⟨kvs,T,a,r⟩:=h;⟨kvs,T,e _ _ a,r⟩
theorem Zgx{α:Type}{kvs:List (α×V)}{T:UR}(h:kvs.map (·.2)=T.map λt=>V.str (sOf t)){k:α}(q:kvs[i]?=some (k,v)):∃t,T[i]?=some t∧v=.str (sOf t):=by
 have e:(kvs.map (·.2))[i]?=some v:=by rw[oH,q];rfl
 rw[h,oH]at e
 cases ht:T[i]? with
 |none=>rw[ht]at e;cases e
 |some t=>rw[ht]at e;exact⟨t,rfl,(Option.some.inj e).symm⟩
theorem Zv9{O:List Nat}(nd:O.Nodup)(h1:O[i]?=some x)(h2:O[j]?=some x):i=j:=by
 obtain⟨a1,e1⟩:=oF.mp h1;obtain⟨a2,e2⟩:=oF.mp h2;have j1:=iA nd i a1;have j2:=iA nd j a2;rw[e1]at j1;rw[e2]at j2;lia
theorem Gf{key:RY}{pl:SD}(inj:∀x y,pl x→pl y→key x=key y→x=y){x:Nat}(px:pl x):∀{kvs:RZ}{o:List Nat},kvs.map (·.1)=o.map key→(∀y∈o,pl y)→x∉o→Yz kvs (key x)=none
 |[],_,_,_,_=>rfl
 |_ :: _,[],h,_,_=>nomatch h
 |p :: kvs,a :: o,h,ho,hx=>by
  rw[oW,oW,List.cons.injEq]at h;rw[Xa (λz=>hx (by rw[inj x a px (ho a oK) (z.symm.trans h.1)];exact oK))];exact Gf inj px h.2 (λy hy=>ho y (oQ _ hy)) λz=>hx (oQ _ z)
theorem S1{key:RY}{pl:SD}(inj:∀x y,pl x→pl y→key x=key y→x=y){x:Nat}(px:pl x):∀{kvs:RZ}{o:List Nat},kvs.map (·.1)=o.map key→(∀y∈o,pl y)→x∈o→∃(i:Nat) (v:V),kvs[i]?=some (key x,v)∧o[i]?=some x∧Yz kvs (key x)=some v
 |[],[],_,_,hx=>nomatch hx
 |[],_ :: _,h,_,_=>nomatch h
 |_ :: _,[],h,_,_=>nomatch h
 |p :: kvs,a :: o,h,ho,hx=>by
  rw[oW,oW,List.cons.injEq]at h
  by_cases c:a=x
  ·subst c;refine⟨0,p.2,?_,rfl,Xl h.1⟩;rw[←h.1];rfl
  ·rw[Xa (λz=>c (inj a x (ho a oK) px (h.1.symm.trans z)))];obtain⟨i,v,e1,e2,e3⟩:=S1 inj px h.2 (λy hy=>ho y (oQ _ hy)) ((oX.mp hx).resolve_left λz=>c z.symm);exact⟨i+1,v,by simpa using e1,by simpa using e2,e3⟩
inductive Zkd(P:Program)(w:World)(K:W.Frag)(mg:UW)(base:Heap)(n:Nat)(vs:List V)(H:Hp)(Q:VK):Prop
 |mk(f:Addr)(fd:FuncData)(ps:List Str)(l:Str)(a0:Addr)(b:Nat)(g:TU)(key:RY)(pl:SD)(G:QA)(h1:Ya P w K mg base CX0 n f fd ps (Zq3 f fd l g key pl G))(h2:Binds K fd ps [])(h3:(∀H1 H2,Zl H1 H2→G H1→G H2))(h4:vs=[.str l,.ref a0,.ref f])(h5:H a0=some (.tup ((key b).map kV)))(h6:pl b)(h7:(∀x,pl x→x<400000∧∀c∈l.cps.toList,pl (g x c)))(h8:(∀x y,pl x→pl y→key x=key y→x=y))(h9:H f=some (FnO f fd))(i0:G H)(yL:J1 l.cps.toList)(xN:∀d H' N,H d=none→Zl H H'→TxB key g b l H' d (Zm id (TL l g) b N) N 0→(Zm id (TL l g) b N).length≤N→Q (.ref d) H'):Zkd P w K mg base n vs H Q
def Zfy(P:Program)(w:World)(K:W.Frag)(mg:UW)(base:Heap)(n:Nat):Sp:=λvs H Q _=>Zkd P w K mg base n vs H Q
def wkW(l:Str)(a0 fv d:Addr)(key:RY)(g:TU)(b:Nat)(H:Hp)(mm:Nat)(σ:L2.St)(H5:Hp):Prop:=∃(i:Nat) (lv:Addr) (xs:List V) (v5 v6 v7 v8:Option V),mm=400001-i∧i≤(Zm id (TL l g) b i).length∧σ=[some (.str l),some (.ref a0),some (.ref fv),some (.ref d),some (.ref lv),v5,v6,v7,v8]∧H lv=none∧H5 lv=some (.lst xs)∧PlT key H5 xs ((Zm id (TL l g) b i).drop i)∧TxB key g b l H5 d (Zm id (TL l g) b i) i 0∧Zl H H5
def wkL(l:Str)(a0 fv d:Addr)(key:RY)(g:TU)(b:Nat)(H:Hp)(lv rp:Addr)(i:Nat)(L:List Nat)(xs:List V)(j:Nat)(σ:L2.St)(H7:Hp):Prop:=∃(ys:List V) (v6 v7 v8:Option V),σ=[some (.str l),some (.ref a0),some (.ref fv),some (.ref d),some (.ref lv),some (.ref rp),v6,v7,v8]∧H7 lv=some (.lst xs)∧PlT key H7 xs (L.drop i)∧H7 rp=some (.lst ys)∧PlT key H7 ys ((Zm id (TL l g) b (i+j)).drop L.length)∧TxB key g b l H7 d (Zm id (TL l g) b (i+j)) (i+j) 0∧Zl H H7
theorem Zd1(F:Fun K "walked" "walked" Ml f fd)(Z:Blt mg):Ya P w K mg base CX0 (n+1) f fd SS (Zfy P w K mg base n):=by
 refine F.ok Yl (λvs H Q E h=>?_) (λcdv A outer s H vs Q E hr h=>?_)
 ·obtain⟨f,fd,ps,l,a0,b,g,key,pl,G,_,_,_,rfl,_⟩:=h;rfl
 obtain⟨fv,gE,ps,l,a0,b,g,key,pl,G,Up,Um,hG,rfl,eE,hb,y0,inj,hf,l9,hR,k⟩:=h
 refine⟨_,(Zd (Zn (i:=3) Yl.nd (by rfl) (Or.inl (by rfl)) (Zlp (Ug hr) (pv 1) Zv)) 
   (Zd (Zn (i:=4) Yl.nd (by rfl) (Or.inl (by rfl)) (Yw (Za (pv 1) Zb))) 
   (Zd (Mr lW (We (K:=K) (pv 4) (λ_=>rfl)) 
    (Zd (Zn (i:=5) Yl.nd (by rfl) (Or.inl (by rfl)) (Yw Zb)) 
    (Zd (Xq lW (by rfl) (X9 (K:=K) (pv 4)) (Zo (i:=6) Yl.nd (by rfl) (Or.inl (by rfl))) 
     (Zh (Xq lW (by rfl) (Qt (pv 0)) (Zo (i:=7) Yl.nd (by rfl) (Or.inl (by rfl))) 
      (Zd (Zn (i:=8) Yl.nd (by rfl) (Or.inl (by rfl)) (U0 (i:=2) Up (hr.mono (by lia)) Um (Za (pv 6) (Za (pv 7) Zb)))) 
      (Zh (Xp (Zla (Dj (Ug hr) (pv 8) (pv 3))) 
       (Zd (Ia (Ug hr) (pv 3) (pv 8) (Yd Rg (Ts (Ug hr) (pv 3) (pv 6) (λ_ _=>rfl)) (pv 7)) rfl) 
       (Zh (Ys (Yk (K:=K) oY lX lY Yp (pv 5) (Za (pv 8) Zb))))) Yo)))))) 
    (Zh (Zn (i:=4) Yl.nd (by rfl) (Or.inl (by rfl)) (pv 5)))))) 
   (Zh (Zq (pv 3)))))),?_⟩
 refine(let y1:TS:=_;let y6:TS:=_;let y7:TS:=_;let m7:TS:=Zp _ y7;let u8:TS:=(Co _ m7 _);let d9:TS:=Zp _ u8;let b8:TS:=(Zad _ _ d9);let o9:TS:=Zp (Zad _ _ b8) y6;let yF:TS:=Zp _ o9;let kZ:TS:=Zp (Il _ yF) y1;let Zjj:TS:=Zp _ kZ;(?_:Zp _ Zjj _ _ _))
 have hT:∀x,pl x→∀y∈TL l g x,pl y:=λx hx y hy=>by
  obtain⟨c,hc,e⟩:=lF.mp hy;rw[←e];exact(y0 x hx).2 c hc
 have oL:∀i,(Zm id (TL l g) b i).length≤400000:=λi=>U1 hb hT (λx hx=>(y0 x hx).1) i;have oP:∀i,∀y∈Zm id (TL l g) b i,pl y:=λi=>Wt hb hT i;refine λd hd=>⟨_,rfl,_,_,rfl,Zc,a0,key b,rfl,(Zf hd _) _ _ eE,?_⟩;have mM:upd (upd H d (.dT [])) d (.dT [(key b,V.str "")]) d=some (.dT [(key b,V.str "")]):=Zc;have e1:Zl H (upd (upd H d (.dT [])) d (.dT [(key b,V.str "")])):=Zu (Zf hd _) hd _;generalize upd (upd H d (.dT [])) d (.dT [(key b,V.str "")])=H1 at mM e1;refine⟨_,rfl,(by show 1≤sizeLine;decide),λlv kC=>?_⟩;generalize eZ:upd H1 lv _=H2;have s2:=nS7 eZ kC;have sH:=nU7 eZ
 refine⟨wkW l a0 fv d key g b H,
  ⟨_,0,lv,_,none,none,none,none,rfl,lD _,rfl,none_of e1 kC,sH,⟨rfl,λi x c q1 q2=>?_⟩,⟨_,[[]],s2 _ _ mM,rfl,by rw[oW,bQ,oW,bQ,show sOf []=("" : Str) from by decide +kernel],BI.start⟩,e1.trans s2⟩,?_⟩
 ·cases i with
  |zero=>cases q1;cases q2;exact⟨a0,rfl,s2 _ _ (e1 _ _ eE)⟩
  |succ i=>simp at q1
 clear eZ sH s2 kC lv mM e1;rintro mm σ H5 ⟨i,lv,xs,v5,v6,v7,v8,rfl,hi,rfl,fL,l7,P5,T5,e5⟩;have hD:∀{H:Hp}{a:Addr}{xs:List V}{o:List Nat}{i m:Nat},H a=some (.lst xs)→TxB key g b l H d o i m→a≠d:=λha ⟨_,_,hk,_⟩=>Wu ha hk λz=>nomatch z;generalize hL:Zm id (TL l g) b i=L at hi P5 T5;have nU:=oL i;rw[hL]at nU;have kO:=P5.1;rw[bA]at kO;refine⟨_,rfl,_,.inl ⟨_,SqL.of l7,rfl⟩,?_⟩;refine Rk (λc1=>?_) (λc1=>?_)
 ·have x9:i<L.length:=by
   rcases iN i L.length with z|z
   ·exact z
   ·rw[iT (show xs.length=0 by lia)]at c1;cases c1
  refine⟨λx8 H'=>∃m',m'<400001-i∧_,λ_ _ z=>z,?_⟩;refine⟨(by show 0≤sizeLine;decide),λrp t5=>?_⟩;generalize eZ:upd H5 rp _=H6;have s6:=nS7 eZ t5;have nK:=nU7 eZ;have B2:=none_of e5 t5;have vL:lv≠rp:=Zi l7 t5;refine⟨_,rfl,lv,rfl,⟨_,SqL.of (s6 _ _ l7)⟩,?_⟩
  refine S2 (K:=K) (a:=lv) (xs:=xs) (wkL l a0 fv d key g b H lv rp i L xs)
   ⟨[],v6,v7,v8,rfl,s6 _ _ l7,P5.keep (Tk.same s6),nK,by rw[XR,hL,YG];exact⟨rfl,λi x c q=>by simp at q⟩,by rw[XR,hL];exact T5.same s6,e5.trans s6⟩ (λj σ H7 _ h=>?_) ?_ ?_
  ·obtain⟨_,_,_,_,_,h7,_⟩:=h;exact SqL.of h7
  ·rintro j x σ H7 hx ⟨ys,v6,v7,v8,rfl,yP,P7,l8,Y7,T7,e7⟩;have hjl:=(oF.mp hx).1;have j4:L[i+j]?=some (L[i+j]'(by lia)):=oC (by lia);generalize L[i+j]'(by lia)=y at j4;obtain⟨ya,rfl,hya⟩:=P7.2 j x y hx (by rw[UD];exact j4)
   have xX:(Zm id (TL l g) b (i+j))[i+j]?=some y:=by
    obtain⟨t,e⟩:=Wr (k:=id) (T:=TL l g) (b:=b) (i:=i) (i+j) (by lia);rw[←e,hL,lB (oF.mp j4).1];exact j4
   have B6:L.length≤(Zm id (TL l g) b (i+j)).length:=by
    rw[←hL];exact(Wr (k:=id) (T:=TL l g) (b:=b) (i:=i) (i+j) (by lia)).length_le
   have Zb6:=Vd xX;have Zel:=oP (i+j) y (oR xX);have n5:=Tt (k:=id) (T:=TL l g) (b:=b) (i+j);generalize hO:Zm id (TL l g) b (i+j)=O at xX B6 Zb6 n5 Y7 T7;have Li:∀z∈O,pl z:=by rw[←hO];exact oP (i+j)
   refine⟨_,rfl,l,rfl,?_⟩
   refine Aa (cs:=l.cps.toList) (λm σ H8=>∃(ys:List V) (v7 v8:Option V),σ=[some (.str l),some (.ref a0),some (.ref fv),some (.ref d),some (.ref lv),some (.ref rp),some (.ref ya),v7,v8]∧H8 lv=some (.lst xs)∧PlT key H8 xs (L.drop i)∧H8 rp=some (.lst ys)∧PlT key H8 ys ((((TL l g y).take m).foldl (Xx id) O).drop L.length)∧TxB key g b l H8 d (((TL l g y).take m).foldl (Xx id) O) (i+j) m∧Zl H H8∧H8 ya=some (.tup ((key y).map kV)))
    ⟨ys,v7,v8,rfl,yP,P7,l8,Y7,T7,e7,hya⟩ ?_ ?_
   ·rintro m c σ H8 hc ⟨ys,v7,v8,rfl,sN,P8,sO,Y8,T8,e8,h8y⟩;have z4:c∈l.cps.toList:=oR hc;have nY:(TL l g y)[m]?=some (g y c):=by unfold TL;rw[oH,hc];rfl
    have gX:((TL l g y).take (m+1)).foldl (Xx id) O=Xx id (((TL l g y).take m).foldl (Xx id) O) (g y c):=by
     rw[iE,nY,YX];rfl
    have Nz:=Q9 (k:=id) ((TL l g y).take m) O;have Zix:=Ib (k:=id) ((TL l g y).take m) O n5;have Zcc:=fold_all (k:=id) (P:=pl) ((TL l g y).take m) O Li λz hz=>hT y Zel z (XE hz)
    have xF:(((TL l g y).take m).foldl (Xx id) O)[i+j]?=some y:=by
     obtain⟨t,e⟩:=Nz;rw[←e,lB (oF.mp xX).1];exact xX
    have tW:L.length≤(((TL l g y).take m).foldl (Xx id) O).length:=lI B6 Nz.length_le;rw[gX];generalize ((TL l g y).take m).foldl (Xx id) O=O8 at Y8 T8 Nz Zix Zcc xF tW
    have hO8:O8.length≤400000:=by
     have:=Qy 400000 _ Zix λz hz=>by
      rw[bZ]at hz;exact(y0 z (Zcc z hz)).1
     rwa[oB]at this
    have pgc:=(y0 y Zel).2 c z4;refine⟨rfl,e8 _ _ hf,_,rfl,_,rfl,e8 _ _ hf,ya,y,c,rfl,h8y,Zel,z4,e8 _ _ hf,hG _ _ e8 l9,λr H9 e9 nN=>?_⟩;have T9:=T8.same e9;have P9:=P8.keep (Tk.same e9);have Y9:=Y8.keep (Tk.same e9);have i4:=e9 _ _ sN;have r9:=e9 _ _ sO;have nO:=e9 _ _ h8y;have tM:=e8.trans e9;obtain⟨kvs,T,i3,hk,hv,B9⟩:=T9
    have eF:kvs.length=O8.length:=by
     have:=congrArg List.length hk;rwa[oB,oB]at this
    have l4:=Y9.1;rw[bA]at l4;refine⟨_,rfl,_,rfl,d,_,rfl,O0.t (k:=key (g y c)) i3 nN,_,rfl,?_⟩;rw[Zht]
    by_cases t6:g y c∈O8
    ·obtain⟨_,v,_,_,hp⟩:=S1 inj pgc hk Zcc t6;obtain⟨t,ht⟩:=B9.at xF;rw[hp,if_pos t6];exact ifN rfl ⟨_,_,_,rfl,i4,P9,r9,Y9,⟨kvs,T,i3,hk,hv,B9.old hR xF ht hc t6⟩,tM,nO⟩
    ·have eG:=Gf inj pgc hk Zcc t6;rw[eG,if_neg t6];obtain⟨iy,v,g1,g2,hp⟩:=S1 inj Zel hk Zcc (oR xF);obtain rfl:=Zv9 (by rwa[bZ]at Zix) g2 xF;obtain⟨t,ht,rfl⟩:=Zgx hv g1
     have kQ:(sOf t).length≤400000:=by
      have h1:=(B9.way _ _ _ xF ht).2.2;have h2:=(oF.mp xF).1;show t.toArray.size≤400000;rw[oO];lia
     refine ifY rfl ⟨_,rfl,_,rfl,d,_,rfl,hp▸O0.t (k:=key y) i3 nO,_,rfl,sOf t,_,rfl,rfl,(by show (sOf t).length+1≤sizeLine;rw[sizeLine_eq];lia),_,rfl,_,rfl,d,_,rfl,Ei.t (k:=key (g y c)) i3 nN (by rw[sizeLine_eq];lia),?_⟩;rw[Mq _ eG,Zkt];have vN:=hD r9 ⟨kvs,T,i3,hk,hv,B9⟩;have dE:=hD i4 ⟨kvs,T,i3,hk,hv,B9⟩;have mH:=Tk.dct i3 (.dT (kvs++[(key (g y c),V.str (sOf (t++[c])))]));have Si:=(Zk (H:=H9) (o:=.dT (kvs++[(key (g y c),V.str (sOf (t++[c])))])) vN).trans r9;have Zeo:=(Zk (H:=H9) (o:=.dT (kvs++[(key (g y c),V.str (sOf (t++[c])))])) dE).trans i4;have Zm3:upd H9 d (.dT (kvs++[(key (g y c),V.str (sOf (t++[c])))])) d=_:=Zc;have u9:=Zu tM hd (.dT (kvs++[(key (g y c),V.str (sOf (t++[c])))]));have Zw0:=mH _ _ nN;have P10:=P9.keep mH;have Y10:=Y9.keep mH;have Zwz:=mH _ _ nO;generalize upd H9 d _=w4 at Si Zeo Zm3 u9 Zw0 P10 Y10 Zwz;have mI:=Tk.lst Si (.lst (ys++[V.ref r]));refine⟨_,rfl,.inl ⟨rfl,_,SqL.of Si⟩,_,rfl,rp,_,_,rfl,rfl,Si,(by rw[sizeLine_eq];lia),?_⟩;refine⟨ys++[V.ref r],_,_,rfl,(Zk vL).trans Zeo,P10.keep mI,Zc,?_,⟨kvs++[(key (g y c),V.str (sOf (t++[c])))],T++[t++[c]],(Zk vN.symm).trans Zm3,?_,?_,B9.new hR xF ht hc⟩,Zu u9 B2 _,mI _ _ Zwz⟩
     ·rw[List.drop_append_of_le_length tW];exact(Y10.keep mI).snoc (mI _ _ Zw0)
     ·rw[lH,lH,hk];rfl
     ·rw[lH,lH,hv];rfl
   ·rintro σ H8 ⟨ys,v7,v8,rfl,sN,P8,sO,Y8,T8,e8,_⟩;rw[aR (by unfold TL;rw[oB];exact oG _),←Zb6]at Y8 T8;obtain⟨kvs,T,a1,a2,a3,B8⟩:=T8;exact⟨_,_,_,_,rfl,sN,P8,sO,Y8,⟨kvs,T,a1,a2,a3,B8.next (oG _)⟩,e8⟩
  ·rintro σ H7 ⟨ys,v6,v7,v8,rfl,yP,P7,l8,Y7,T7,e7⟩;have xA:i+xs.length=L.length:=by lia
   rw[xA]at Y7 T7
   have B6:L.length≤(Zm id (TL l g) b L.length).length:=by
    rw[←hL];exact(Wr (k:=id) (T:=TL l g) (b:=b) (i:=i) (Zm id (TL l g) b i).length (by rw[hL];lia)).length_le
   exact⟨_,rfl,400001-L.length,by lia,L.length,rp,ys,_,_,_,_,rfl,B6,rfl,B2,l8,Y7,T7,e7⟩
 ·have j3:L.length≤i:=by
   rcases iN i L.length with z|z
   ·refine absurd ?_ c1
    cases pT:xs with
    |nil=>
     rw[pT]at kO;have h0:([]:List V).length=0:=rfl;lia
    |cons=>rfl
   ·exact z
  refine⟨_,rfl,k d H5 i hd e5 (by rw[hL];exact T5) (by rw[hL];exact j3)⟩
inductive Zq8(f:Addr)(fd:FuncData)(pl:SD)(e:RC)(G:QA)(vs:List V)(H:Hp)(Q:VK):Prop
 |mk(x:_)(h1:vs=[nI x])(h2:pl x)(h3:H f=some (FnO f fd))(h4:G H)(h5:∀H',Zl H H'→Q (.bl (e x)) H'):Zq8 f fd pl e G vs H Q
def spEd(f:Addr)(fd:FuncData)(pl:SD)(e:RC)(G:QA):Sp:=λvs H Q _=>Zq8 f fd pl e G vs H Q
def Rt(H:Hp)(m:Addr)(l:Str)(b:Nat)(es:List Nat)(st:UR):Prop:=∃(e s:Addr) (ras:SM),H m=some (.tup [.str l,nI b,.ref e,.ref s])∧H e=some (.tup (es.map nI))∧H s=some (.tup (ras.map V.ref))∧ras.length=st.length∧∀(i:Nat) a r,ras[i]?=some a→st[i]?=some r→H a=some (.tup (r.map nI))
theorem S6.ras{H:Hp}:∀{xs:List V}{rs:UR},S6 H xs rs→∃ras:List Addr,xs=ras.map V.ref∧ras.length=rs.length∧∀(i:Nat) a r,ras[i]?=some a→rs[i]?=some r→H a=some (.tup (r.map nI))
 |[],[],_=>⟨[],rfl,rfl,λi a r h=>by simp at h⟩
 |[],_ :: _,h=>nomatch h.1
 |_ :: _,[],h=>nomatch h.1
 |x :: xs,r :: rs,h=>by
  obtain⟨c,e,q⟩:=h.2 0 x r rfl rfl;obtain⟨ras,e1,e2,e3⟩:=S6.ras (H:=H) (xs:=xs) (rs:=rs) ⟨by simpa using h.1,λi y t a b=>h.2 (i+1) y t (by simpa using a) (by simpa using b)⟩;refine⟨c :: ras,by rw[e,e1];rfl,by rw[lG,lG,e2],λi a t p1 p2=>?_⟩
  cases i with
  |zero=>cases p1;cases p2;exact q
  |succ i=>exact e3 i a t (by simpa using p1) (by simpa using p2)
def nbK(o:List Nat)(i:Nat):List QB:=(List.range i).map λj=>(kI (o.getD j 0),nI j)
theorem Zby(o:List Nat):(nbK o o.length).map (·.1)=o.map kI:=by
 unfold nbK;rw[lU];refine YV λj=>?_;rw[oH,oH]
 rcases iN j o.length with z|z
 ·rw[YL z,oC z];show some (kI (o.getD j 0))=some (kI o[j]);rw[oJ,oC z];rfl
 ·rw[iO (by rw[lO];exact z),iO z];rfl
theorem Zpk(nd:o.Nodup)(hx:x∈o):Yz (nbK o o.length) (kI x)=some (nI (o.idxOf x)):=by
 obtain⟨p,hp,e,ek⟩:=Lc (Zby o) hx;rw[e];obtain⟨j,hj,rfl⟩:=lF.mp hp;have yT:=iG.mp hj;have ex:o.getD j 0=x:=Gi ek;rw[oJ,oC yT]at ex;have ex':o[j]=x:=ex;rw[←ex',iA nd j yT]
theorem Zpl(nd:o.Nodup)(hi:i<o.length):Yz (nbK o i) (kI (o.getD i 0))=none:=by
 have hk:(nbK o i).map (·.1)=(o.take i).map kI:=by
  unfold nbK;rw[lU];refine YV λj=>?_;rw[oH,oH]
  rcases iN j i with z|z
  ·rw[YL z,XQ z,oC (by lia)];show some (kI (o.getD j 0))=some (kI o[j]);rw[oJ,oC (by lia)];rfl
  ·rw[iO (by rw[lO];exact z),iO (by rw[lC];lia)];rfl
 refine Bu hk λz=>?_;rw[oJ,oC hi]at z;obtain⟨j,hj,e⟩:=bE z;rw[lC]at hj;rw[List.getElem_take]at e;have e':o[j]'(by lia)=o[i]:=e;have h1:=iA nd j (by lia);have h2:=iA nd i hi;rw[e',h2]at h1;lia
inductive Zq6(P:Program)(w:World)(K:W.Frag)(mg:UW)(base:Heap)(n:Nat)(vs:List V)(H:Hp)(Q:VK):Prop
 |mk(f:Addr)(fd:FuncData)(ps:List Str)(f2:Addr)(eQ:FuncData)(yD:List Str)(l:Str)(b:Nat)(g:TU)(e:RC)(pl:SD)(G:QA)(h1:Ya P w K mg base CX0 n f fd ps (Zvd f fd l g pl G))(h2:Binds K fd ps [])(h3:Ya P w K mg base CX0 n f2 eQ yD (spEd f2 eQ pl e G))(h4:Binds K eQ yD [])(h5:(∀H1 H2,Zl H1 H2→G H1→G H2))(h6:vs=[.str l,nI b,.ref f,.ref f2])(h7:pl b)(h8:(∀x,pl x→x<576∧∀c∈l.cps.toList,pl (g x c)))(h9:l.length≤3)(i0:H f=some (FnO f fd))(yL:H f2=some (FnO f2 eQ))(xN:G H)(h13:∀m H' N,Zl H H'→(Zm id (TL l g) b N).length≤N→Rt H' m l 0 (Xh (Zm id (TL l g) b N) e) (Yf id (TL l g) (Zm id (TL l g) b N))→Q (.ref m) H'):Zq6 P w K mg base n vs H Q
def Zsq(P:Program)(w:World)(K:W.Frag)(mg:UW)(base:Heap)(n:Nat):Sp:=λvs H Q _=>Zq6 P w K mg base n vs H Q
def mfD(l:Str)(b:Nat)(fv fe nd ep rp:Addr)(v5:Option V)(g:TU)(o:List Nat)(e:RC)(H5:Hp)(i:Nat)(σ:L2.St)(w4:Hp):Prop:=∃(v6:Option V) (ys:List V),σ=[some (.str l),some (nI b),some (.ref fv),some (.ref fe),some (.ref nd),v5,v6,some (.ref ep),some (.ref rp)]∧w4 rp=some (.lst ys)∧S6 w4 ys ((Yf id (TL l g) o).take i)∧w4 ep=some (.tup ((Xh o e).map nI))∧Zl H5 w4
theorem Jn(F:Fun K "machine_from" "machine_from" Yv f fd)(Z:Blt mg)(Te:Cal P w K mg base "walked" (n+1) SS (Zso P w K mg base n)):Ya P w K mg base CX0 (n+2) f fd SE (Zsq P w K mg base n):=by
 refine F.ok Zw (λvs H Q E h=>?_) (λcdv A outer s H vs Q E hr h=>?_)
 ·obtain⟨f,fd,ps,f2,eQ,yD,l,b,g,e,pl,G,_,_,_,_,_,rfl,_⟩:=h;rfl
 obtain⟨fv,gE,ps,fe,fde,yD,l,b,g,e,pl,G,Up,Um,Kq,Kn,hG,rfl,hb,y0,hl,hf,c9,l9,k⟩:=h
 refine⟨_,(Zd (Zn (i:=4) Zw.nd (by rfl) (Or.inr (by rfl)) Zln) 
   (Zd (Xq lW (by rfl) (Zle (by rfl) Z.enumerate (Z2 Te (hr.mono (by lia)) (Za (pv 0) (Za (pv 1) (Za (pv 2) Zb))))) (Of (K:=K) (n:=2) (by rfl) (Xb (Zo (i:=5) Zw.nd (by rfl) (Or.inl (by rfl))) (Xb (Zo (i:=6) Zw.nd (by rfl) (Or.inr (by rfl))) Rc))) 
    (Zh (Ia (Ug hr) (pv 4) (pv 6) (pv 5) rfl))) 
   (Zd (Zn (i:=7) Zw.nd (by rfl) (Or.inl (by rfl)) (Z9 (Y6 (K:=K)) (by rfl) Z.tuple Xr (Za (Yj (sc:=Ze Yv) (Nm:=UY) (own:=["place"]) (fr:=[3,4]) ⟨rfl,by decide +kernel,by decide +kernel,by decide +kernel,by decide +kernel⟩ (by rfl) (Yb (by decide)) (Zgv (pv 4)) (λd=>(Zo (i:=0) Tv (by rfl) (Or.inl (by rfl)))) (λd=>(J9 (We (K:=K) (U0 (i:=1) Kq (hr.mono (by lia)) Kn (Za (pv 0) Zb)) (λ_=>rfl)))) (λd=>(Ts (Ug hr) (pv 2) (pv 0) (λ_ _=>rfl)))) Zb))) 
   (Zd (Zn (i:=8) Zw.nd (by rfl) (Or.inl (by rfl)) (Yw Zb)) 
   (Zd (Xq lW (by rfl) (Zgv (pv 4)) (Zo (i:=6) Zw.nd (by rfl) (Or.inr (by rfl))) 
    (Zh (Ys (Yk (K:=K) oY lX lY Yp (pv 8) (Za (Z9 (Y6 (K:=K)) (by rfl) Z.tuple Xr (Za (Yj (sc:=Ze Yv) (Nm:=UY) (own:=["letter"]) (fr:=[2,4,6]) ⟨rfl,by decide +kernel,by decide +kernel,by decide +kernel,by decide +kernel⟩ (by rfl) (Yb (by decide)) (Qt (pv 0)) (λd=>(Zo (i:=0) Tu (by rfl) (Or.inl (by rfl)))) (λd=>Yn) (λd=>(Ts (Ug hr) (pv 2) (U0 (i:=1) Up (hr.mono (by lia)) Um (Za (pv 3) (Za (pv 0) Zb))) (λ_ _=>rfl)))) Zb)) Zb))))) 
   (Zh (Zq (Wa (Za (pv 0) (Za Zg (Za (pv 7) (Za (Z9 (Y6 (K:=K)) (by rfl) Z.tuple Xr (Za (pv 8) Zb)) Zb)))))))))))),?_⟩
 refine(let y1:TS:=_;let y6:TS:=Zp _ y1;let y7:TS:=Zp _ y6;let m7:TS:=Zp _ y7;let u8:TS:=Zp _ m7;(?_:Zp _ u8 _ _ _))
 have hT:∀x,pl x→∀y∈TL l g x,pl y:=λx hx y hy=>by
  obtain⟨c,hc,e⟩:=lF.mp hy;rw[←e];exact(y0 x hx).2 c hc
 refine λnd n5=>?_;generalize eZ:upd H nd _=H1;have s1:=nS7 eZ n5;have tQ:=nU7 eZ;refine⟨_,rfl,_,rfl,_,rfl,fv,gE,ps,l,b,g,pl,G,Up,Um,hG,rfl,hb,y0,s1 _ _ hf,hG _ _ s1 l9,λd H2 N hd e2 T2 hN=>?_⟩;have oL:(Zm id (TL l g) b N).length≤576:=U1 hb hT (λx hx=>(y0 x hx).1) N;have oP:∀y∈Zm id (TL l g) b N,pl y:=Wt hb hT N
 have oN:(Zm id (TL l g) b N).Nodup:=by
  have:=Tt (k:=id) (T:=TL l g) (b:=b) N;rwa[bZ]at this
 have oM:∀x∈Zm id (TL l g) b N,∀c∈l.cps.toList,g x c∈Zm id (TL l g) b N:=λx hx c hc=>by
  obtain⟨j,hj,ej⟩:=bE hx;have:=Sz (k:=id) (T:=TL l g) (b:=b) (n:=N) (j:=j) (x:=x) (y:=g x c) (by rw[oC hj,ej]) (by lia) (lF.mpr ⟨c,hc,rfl⟩);rw[bZ]at this;exact this
 replace k:=λm H'=>k m H' N
 generalize Zm id (TL l g) b N=o at k hN T2 oL oP oN oM;have sR:=none_of s1 hd;obtain⟨kvs,nF,sW,hkv⟩:=T2;have vM:nd≠d:=Zi tQ hd;refine⟨d,kvs,rfl,.inl ⟨nF,λob=>?_⟩⟩;have tR:upd H2 d (.frz ob (.dK kvs)) nd=some (.dK []):=(Zk vM).trans (e2 _ _ tQ);have e3:Zl H (upd H2 d (.frz ob (.dK kvs))):=Zu (s1.trans e2) sR _;have xO:upd H2 d (.frz ob (.dK kvs)) d=_:=Zc;generalize upd H2 d _=H3 at tR e3 xO
 have hkx:(kvs.map λp=>kV p.1)=o.map nI:=by
  have:(kvs.map λp=>kV p.1)=(kvs.map (·.1)).map kV:=by rw[lU];rfl
  rw[this,sW,lU];rfl
 refine Gs (Sq:=λH xs=>H d=some (.frz ob (.dK kvs))∧xs=kvs.map λp=>kV p.1) (xs:=o.map nI) (λi σ H4=>∃(v5 v6:Option V),σ=[some (.str l),some (nI b),some (.ref fv),some (.ref fe),some (.ref nd),v5,v6,none,none]∧H4 nd=some (.dK (nbK o i))∧H4 d=some (.frz ob (.dK kvs))∧Zl H H4)
  ⟨none,none,rfl,tR,xO,e3⟩ (λi σ H4 _ h=>?_) ?_ ?_
 ·obtain⟨_,_,_,_,h4,_⟩:=h;exact⟨h4,hkx.symm⟩
 ·rintro i x σ H4 p hx ⟨v5,v6,rfl,sJ,mN,e4⟩ hp;rw[oH]at hx
  cases j4:o[i]? with
  |none=>rw[j4]at hx;cases hx
  |some y=>
   rw[j4]at hx;cases hx;have k8:=(oF.mp j4).1;have tD:o.getD i 0=y:=by rw[oJ,j4];rfl
   generalize eZ:upd H4 p _=H5;have s5:=nS7 eZ hp;have yO:=nU7 eZ;have Zb8:=Zpl oN k8;rw[tD]at Zb8;refine⟨p,_,rfl,SqT.of yO,rfl,_,_,rfl,_,_,rfl,rfl,?_⟩;refine⟨_,rfl,_,rfl,_,rfl,nd,_,rfl,Ei.k (k:=kI y) (s5 _ _ sJ) (by unfold nbK;rw[oB,lO,sizeLine_eq];lia),?_⟩;rw[Mq _ Zb8];refine⟨_,_,rfl,?_,(Zk vM.symm).trans (s5 _ _ mN),Zu (e4.trans s5) n5 _⟩;refine Zc.trans ?_;unfold nbK;rw[ZS,lH];show _=some (HO.dK (_++[(kI (o.getD i 0),nI i)]));rw[tD];rfl
 rintro σ H4 ⟨v5,v6,rfl,sJ,_,e4⟩;rw[oB]at sJ
 have uW:∀{i:Nat}{q:Key}{v:V},(nbK o o.length)[i]?=some (q,v)→∃y,o[i]?=some y∧q=kI y:=λ{i q v} h=>by
  have h1:((nbK o o.length).map (·.1))[i]?=some q:=by rw[oH,h];rfl
  rw[Zby,oH]at h1
  cases hc:o[i]? with
  |none=>rw[hc]at h1;cases h1
  |some y=>rw[hc]at h1;exact⟨y,rfl,(Option.some.inj h1).symm⟩
 have j5:(nbK o o.length).length=o.length:=by unfold nbK;rw[oB,lO]
 refine⟨_,rfl,nd,_,rfl,.inl ⟨sJ,λon=>?_⟩⟩;have e5:Zl H (upd H4 nd (.frz on (.dK (nbK o o.length)))):=Zu e4 n5 _;have eS:upd H4 nd (.frz on (.dK (nbK o o.length))) nd=_:=Zc;generalize upd H4 nd _=H5 at e5 eS
 have Znr:∀{H6:Hp}{x:Nat},Zl H5 H6→x∈o→O0 H6 nd (nI x) (some (nI (o.idxOf x))):=λ{H6 x} e6 hx=>by
  rw[←Zpk oN hx];exact .inl ⟨_,kI x,.inr ⟨on,e6 _ _ eS⟩,rfl,rfl⟩
 refine Zjb (a:=nd) (o:=on) (kvs:=nbK o o.length) (λi acc H6=>acc=(((List.range i).filter λj=>e (o.getD j 0)).map nI)∧Zl H5 H6) (Z1 (by lia)) ⟨rfl,Zl.refl _⟩
  (λi acc H6 q=>by rw[q.1,oB];exact lI (aX _ _) (by rw[lO];exact oG _)) (λi acc H6 q=>q.2 _ _ eS) (λi acc H6 q v hq p=>?_) (λacc H6 p y hy=>?_)
 ·obtain⟨rfl,e6⟩:=p;obtain⟨y,hy,rfl⟩:=uW hq;have tD:o.getD i 0=y:=by rw[oJ,hy];rfl
  have uT:=oR hy;have sD:=e5.trans e6;refine⟨rfl,sD _ _ c9,_,rfl,sD _ _ c9,y,rfl,oP y uT,sD _ _ c9,hG _ _ sD l9,λH7 e7=>⟨_,rfl,?_⟩⟩
  have sU:((List.range (i+1)).filter λj=>e (o.getD j 0))=((List.range i).filter λj=>e (o.getD j 0))++if e y=true then [i] else []:=by
   rw[ZS,UE,WT,tD];rfl
  rw[sU,lH];refine Rk (λc=>?_) (λc=>?_)
  ·rw[if_pos c];refine⟨_,rfl,_,rfl,nd,_,rfl,Znr (e6.trans e7) uT,?_,e6.trans e7⟩
   have:o.idxOf y=i:=by
    have h1:=iA oN i (oF.mp hy).1;rw[(oF.mp hy).2]at h1;exact h1
   rw[this];rfl
  ·rw[if_neg c];exact⟨by rw[bQ,aB],e6.trans e7⟩
 obtain⟨rfl,e6⟩:=p;rw[j5];generalize eZ:upd H6 y _=H7;have t7:=nS7 eZ hy;have nM:=nU7 eZ;refine⟨y,_,rfl,.inl ⟨SqL.of nM,λep uD=>?_⟩⟩;have t8:=Zf uD (.tup (((List.range o.length).filter λj=>e (o.getD j 0)).map nI));have mP:upd H7 ep (.tup (((List.range o.length).filter λj=>e (o.getD j 0)).map nI)) ep=some (.tup ((Xh o e).map nI)):=Zc;generalize upd H7 ep _=H8 at t8 mP;refine⟨(by show 0≤sizeLine;decide),λrp t5=>?_⟩;generalize eZ:upd H8 rp _=H9;have t9:=nS7 eZ t5;have r9:=nU7 eZ;have tN:=((e6.trans t7).trans t8).trans t9;have Ztv:=none_of ((e6.trans t7).trans t8) t5;have dD:ep≠rp:=Zi mP t5;have yQ:(Yf id (TL l g) o).length=o.length:=by unfold Yf;rw[oB]
 refine⟨_,rfl,nd,_,rfl,.inr ⟨on,tN _ _ eS,?_⟩⟩
 refine Zm7 (a:=nd) (o:=on) (kvs:=nbK o o.length) (mfD l b fv fe nd ep rp v5 g o e H5)
  ⟨v6,[],rfl,r9,⟨rfl,λi x r a=>by simp at a⟩,t9 _ _ mP,tN⟩ (λi σ w4 _ h=>?_) ?_ ?_
 ·obtain⟨_,_,_,_,_,_,u9⟩:=h;exact u9 _ _ eS
 ·rintro i q v σ w4 hq ⟨v6,ys,rfl,Si,eO,Zep,u9⟩;obtain⟨x,hx,rfl⟩:=uW hq;have uR:=oR hx;refine⟨_,rfl,.inl ⟨rfl,_,SqL.of Si⟩,_,rfl,l,rfl,?_⟩
  refine Pd (cs:=l.cps.toList) (λj acc z5=>acc=(l.cps.toList.take j).map (λc=>nI (o.idxOf (g x c)))∧Zl w4 z5) (by rw[len_list];exact Z1 (by lia)) ⟨rfl,Zl.refl _⟩ (λj acc z5 q=>by rw[q.1,oB,lC];exact iR _ _)
   (λj acc z5 c hc q=>?_) (λacc z5 q y hy=>?_)
  ·obtain⟨rfl,u5⟩:=q;have z4:c∈l.cps.toList:=oR hc;have Ad:=e5.trans (u9.trans u5);refine S3 ⟨_,rfl,rfl,Ad _ _ hf,_,rfl,_,rfl,Ad _ _ hf,x,c,rfl,oP x uR,z4,Ad _ _ hf,hG _ _ Ad l9,λtK sE=>⟨nd,_,rfl,Znr ((u9.trans u5).trans sE) (oM x uR c z4),?_,u5.trans sE⟩⟩;rw[map_take hc]
  obtain⟨rfl,u5⟩:=q;rw[lM];have u1:=Zf hy (.lst (l.cps.toList.map λc=>nI (o.idxOf (g x c))));refine⟨y,_,rfl,.inl ⟨SqL.of Zc,λz hz=>?_⟩⟩;have u2:=Zf hz (.tup (l.cps.toList.map λc=>nI (o.idxOf (g x c))));have b7:=(u5.trans u1).trans u2
  have l4:ys.length≤576:=by
   rw[eO.1,lC,yQ];lia
  have Le:(Yf id (TL l g) o)[i]?=some (l.cps.toList.map λc=>o.idxOf (g x c)):=by
   unfold Yf TL;rw[oH,hx,YS,lU,bZ];rfl
  have Zi0:upd (upd z5 y (.lst (l.cps.toList.map λc=>nI (o.idxOf (g x c))))) z (.tup (l.cps.toList.map λc=>nI (o.idxOf (g x c)))) z=some (.tup ((l.cps.toList.map λc=>o.idxOf (g x c)).map nI)):=by
   rw[lU];exact Zc
  generalize upd (upd z5 y (.lst (l.cps.toList.map λc=>nI (o.idxOf (g x c))))) z (.tup (l.cps.toList.map λc=>nI (o.idxOf (g x c))))=tK at u2 b7 Zi0;refine⟨rp,_,_,rfl,rfl,b7 _ _ Si,Z1 (by lia),_,ys++[.ref z],rfl,Zc,?_,(Zk dD).trans (b7 _ _ Zep),Zu (u9.trans b7) Ztv _⟩;rw[iE,Le];refine((eO.keep (Tk.same b7)).keep (Tk.lst (b7 _ _ Si) _)).snoc ?_;rw[Zk (Wu Zi0 (b7 _ _ Si) λz=>nomatch z)];exact Zi0
 ·rintro σ w4 ⟨v6,ys,rfl,Si,eO,Zep,u9⟩;rw[j5,←yQ,lM]at eO;obtain⟨ras,rfl,r1,r2⟩:=eO.ras;refine⟨_,rfl,_,rfl,_,rfl,rp,_,rfl,.inl ⟨SqL.of Si,λsp m6=>⟨(by show 4≤sizeLine;decide),λm hm=>?_⟩⟩⟩;have w1:=Zf m6 (.tup (ras.map V.ref));have w2:=Zf hm (.tup [V.str l,V.int 0,.ref ep,.ref sp]);have kX:=w1.trans w2;refine k m _ (e5.trans (u9.trans kX)) hN ⟨ep,sp,ras,Zc,kX _ _ Zep,w2 _ _ Zc,r1,λi a r q1 q2=>kX _ _ (r2 i a r q1 q2)⟩
abbrev Zx:List TQ:=[(⟨125,4,126,56⟩,"least"++".<locals>."++"step"),(⟨127,61,127,92⟩,"least"++".<locals>."++"<lambda>")]
def gL(l:Str)(st:UR)(L:List Nat)(x c:Nat):Nat:=L.getD (stp l st x c) 0
inductive Zas(Pt:Addr)(vs:List V)(H:Hp)(Q:VK):Prop
 |mk(m:Addr)(l:Str)(b:Nat)(es:List Nat)(st:UR)(h1:vs=[.ref m])(h2:Z7 H m l b es st)(h3:es.length≤900)(h4:Tb Pt Zx H)(h5:∀m' k N H',Ve Pt H H'→Tb Pt Zx H'→dn (lkN st es (k+1))≤dn (lkN st es k)→(Zm id (TL l (gL l st (lkN st es (k+1)))) ((lkN st es (k+1)).getD b 0) N).length≤N→Rt H' m' l 0 (Xh (Zm id (TL l (gL l st (lkN st es (k+1)))) ((lkN st es (k+1)).getD b 0) N) λx=>decide (x∈es)) (Yf id (TL l (gL l st (lkN st es (k+1)))) (Zm id (TL l (gL l st (lkN st es (k+1)))) ((lkN st es (k+1)).getD b 0) N))→Q (.ref m') H'):Zas Pt vs H Q
def J5(Pt:Addr):Sp:=λvs H Q _=>Zas Pt vs H Q
theorem Zlv(F:Fun K "least" "least" V1 f fd)(Z:Blt mg)(Vt:fd.code=.ref cw)(CH:W.CodeHd base cw Pt)(BM:Qd mg base)
  (Rw:Cal P w K mg base "like_rooms" 2 SN Zkh) (CM:∀base,Cal P w K mg base "machine_from" 4 SE (Zsq P w K mg base 2)) (CR:∀base,Cal P w K mg base "room_behind" 1 RF Cs):Ya P w K mg base CX0 5 f fd SN (J5 Pt):=by
 refine F.okC Hg (λvs H Q E h=>?_) (λA outer s H vs Q E hr h=>?_)
 ·obtain⟨m,l,b,es,st,rfl,_⟩:=h;rfl
 obtain⟨m,l,b,es,st,rfl,M,mW,hT,k⟩:=h
 have Zj3:∀x∈Zx,x.1.line=(⟨127,61,127,92⟩:Pos).line→x.1.col=(⟨127,61,127,92⟩:Pos).col→x.2 = "least"++".<locals>."++"<lambda>":=λx hx h1 _=>by
  rcases oX.mp hx with z|z
  ·rw[z]at h1;exact absurd h1 (by decide)
  ·rw[oU.mp z]
 have Sr:∀x∈Zx,x.1.line=(⟨125,4,126,56⟩:Pos).line→x.1.col=(⟨125,4,126,56⟩:Pos).col→x.2 = "least"++".<locals>."++"step":=λx hx h1 _=>by
  rcases oX.mp hx with z|z
  ·rw[z]
  ·rw[oU.mp z]at h1;exact absurd h1 (by decide)
 let Jb:=Zx
 have Wb:=CM base
 refine⟨_,(Zd (Zn (i:=1) Hg.nd (by rfl) (Or.inr (by rfl)) (Z2 Rw (hr.mono (by decide)) (Za (pv 0) Zb))) 
   (Zd (Ms (i:=2) (L:=Jb) (sc:=Ze V1) Hg.nd (by rfl) (Or.inl (by rfl)) Vt CH BM (by first|exact oK|exact oQ _ oK) Sr) 
   (Zh (Zq (Zgw Wb (hr.mono (by decide)) (Za (Zr (Zs (K:=K)) (pv 0) Zg (λ_ _=>rfl)) (Za (Zr (Z0 (K:=K)) (pv 1) (Zr (Zs (K:=K)) (pv 0) Zg (λ_ _=>rfl)) (λ_ _=>rfl)) (Za (pv 2) (Za (Zdx (L:=Jb) (sc:=Ze V1) Vt CH BM (by first|exact oK|exact oQ _ oK) Zj3) Zb))))))))),?_⟩
 refine(let y1:TS:=_;let y6:TS:=Zp _ y1;(?_:Zp _ y6 _ _ _));refine⟨_,rfl,m,l,b,es,st,rfl,M,mW,λlp k0 H1 e1 nA hdn=>?_⟩
 have tZ:∀{H:Hp}{a:Addr}{xs:List V},Tb Pt Zx H→H a=some (.tup xs)→a≠Pt:=λhT h z=>by
  obtain⟨ps,hp,_⟩:=hT;rw[z,hp]at h;cases h
 have hTL:∀{H:Hp}{a:Addr}{xs:List V},Tb Pt Zx H→H a=some (.lst xs)→a≠Pt:=λhT h z=>by
  obtain⟨ps,hp,_⟩:=hT;rw[z,hp]at h;cases h
 have mk:∀{H H':Hp},Tb Pt Zx H→Ve Pt H H'→Z7 H m l b es st→Z7 H' m l b es st:=λhT e M=>by
  obtain⟨⟨e1,s1,ras,h1,h2,h3,h4,h5⟩,f,g,r⟩:=M;exact⟨⟨e1,s1,ras,e _ _ (tZ hT h1) h1,e _ _ (tZ hT h2) h2,e _ _ (tZ hT h3) h3,h4,λi a r q1 q2=>e _ _ (tZ hT (h5 i a r q1 q2)) (h5 i a r q1 q2)⟩,f,g,r⟩
 have M1:=M.same e1;have tX:=hT.same e1;have mF:=Lb st es (k0+1);have dB:=U3 st es (k0+1);have z9:=M.few.2.2;have Zws:=M.beg
 replace k:=λm' N H'=>k m' k0 N H'
 replace k:=λm' N H' a b=>k m' N H' a b hdn
 generalize lkN st es (k0+1)=L at nA mF dB k;clear hdn;have tL:∀j,j<st.length→atI (L.map nI) ((j:Nat):Int)=some (nI (L.getD j 0)):=λj hj=>Zj (by rw[oH,(getD_mem (l:=L) (d:=0) (by rw[mF];exact hj)).2];rfl);refine⟨tX,λH2 f1 c1 ct1 Zw4 e2 tY Zwr xV o0=>?_⟩;have M2:=mk tX e2 M1;have sH:=e2 _ _ (hTL tX nA) nA;obtain⟨eA,sA,ras,g1,g2,g3,g4,g5⟩:=M2.lay;refine⟨_,rfl,m,_,_,_,rfl,rfl,SqT.of g1,Zj (j:=0) rfl,_,rfl,_,rfl,m,_,_,_,rfl,rfl,SqT.of g1,Zj (j:=1) rfl,lp,_,_,_,rfl,rfl,SqL.of sH,tL b Zws,_,rfl,tY,λH3 f2 c2 qD e3 hT3 Ztx c9 z6 Wh B=>?_⟩;have M3:=mk tY e3 M2;have h3l:=e3 _ _ (hTL tY sH) sH;have X5:=CR Wh
 have hf3:=e3 _ _ (λz=>by
  obtain⟨ps,hp,_⟩:=tY;rw[z,hp]at xV
  cases xV) xV
 have hc3:=e3 _ _ (λz=>by
  obtain⟨ps,hp,_⟩:=tY;rw[z,hp]at o0
  cases o0) o0
 refine⟨_,_,CM Wh,f1,_,["room","letter"],f2,_,["room"],l,L.getD b 0,gL l st L,(λx=>decide (x∈es)),(λx=>x<st.length),(λH=>H lp=some (.lst (L.map nI))∧Z7 H m l b es st∧H c1=some (CdO c1 ("least"++".<locals>."++"step"))∧H c2=some (CdO c2 ("least"++".<locals>."++"<lambda>"))),?_,?_,?_,?_,?_,rfl,?_,?_,M.few.2.1,hf3,c9,⟨h3l,M3,hc3,z6⟩,λm' H4 N e4 hN hM=>k m' N H4 ((e1.t.trans e2).trans (e3.trans e4.t)) (hT3.same e4) hN hM⟩
 ·refine Ag (N:=["room","letter","likes","machine"]) (fv:=[.ref lp,.ref m]) ⟨rfl,rfl,rfl,by decide,rfl,by decide +kernel,by decide +kernel⟩ (B.cl (sc:=Ze V1) [1,0] rfl (by decide +kernel) rfl rfl (λj i x a b=>?_) (λj i x a b=>?_)) (λvs H Q E h=>?_) (λvs H Q E h=>?_) (λA outer s H vs Q E hr h=>?_)
  ·match j,a,b with
   | 0,a,b=>cases a;cases b;exact⟨rfl,rfl⟩
   | 1,a,b=>cases a;cases b;exact⟨rfl,rfl⟩
   |j+2,a,_=>simp at a
  ·match j,a,b with
   | 0,a,b=>cases a;cases b;rfl
   | 1,a,b=>cases a;cases b;rfl
   |j+2,a,_=>simp at a
  ·obtain⟨x,c,rfl,_⟩:=h;rfl
  ·obtain⟨x,c,rfl,_,_,h1,h2,_⟩:=h;exact⟨h1,h2.2.2.1⟩
  ·obtain⟨x,c,rfl,hx,hc,h1,⟨y9,yY,_,_⟩,k⟩:=h;refine⟨_,(Zh (Zq (Zr (Z0 (K:=K)) (pv 2) (Z2 X5 (hr.mono (by decide)) (Za (pv 3) (Za (pv 0) (Za (pv 1) Zb)))) (λ_ _=>rfl)))),?_⟩;have x9:=Uu yY hx hc;refine⟨_,rfl,_,rfl,_,rfl,_,rfl,m,l,b,es,st,x,one c,rfl,yY,hx,λd hd=>?_,lp,_,_,_,rfl,rfl,SqL.of y9,tL _ x9,k _ (Zl.refl _)⟩;rw[oU.mp hd];exact hc
 ·exact .all λus hl=>match us,hl with|[_,_],_=>rfl
 ·refine Zeg (N:=["room","machine"]) (fv:=[.ref m]) ⟨rfl,rfl,rfl,by decide,rfl,by decide +kernel,by decide +kernel⟩ (B.cl (sc:=Ze V1) [0] rfl (by decide +kernel) rfl rfl (λj i x a b=>?_) (λj i x a b=>?_)) (λvs H Q E h=>?_) (λvs H Q E h=>?_) (λA outer s H vs Q E hr h=>?_)
  ·match j,a,b with
   | 0,a,b=>cases a;cases b;exact⟨rfl,rfl⟩
   |j+1,a,_=>simp at a
  ·match j,a,b with
   | 0,a,b=>cases a;cases b;rfl
   |j+1,a,_=>simp at a
  ·obtain⟨x,rfl,_⟩:=h;rfl
  ·obtain⟨x,rfl,_,h1,h2,_⟩:=h;exact⟨h1,h2.2.2.2⟩
  ·obtain⟨x,rfl,hx,h1,⟨y9,yY,_,_⟩,k⟩:=h;refine⟨_,(Wf (Nv (K:=K)) (pv 0) (Zr (Zs (K:=K)) (pv 1) Zg (λ_ _=>rfl)) (by with_unfolding_all rfl)),?_⟩;obtain⟨eA,sA,ras,g1,g2,g3,g4,g5⟩:=yY.lay;refine⟨_,rfl,_,rfl,m,_,_,_,rfl,rfl,SqT.of g1,Zj (j:=2) rfl,eA,_,rfl,.inr (SqT.of g2),rfl,Tx es,?_⟩;have e:decide (x∈es)=inV (nI x) (es.map nI):=(Q5 x es).symm;have k2:=k _ (Zl.refl _);have k3:Q (V.bl (decide (x∈es))) H:=k2;rw[e]at k3;exact k3
 ·exact .all λus hl=>match us,hl with|[_],_=>rfl
 ·exact λH1 H2 e ⟨a1,a2,a3,a4⟩=>⟨e _ _ a1,a2.same e,e _ _ a3,e _ _ a4⟩
 ·have:=dB.le b (by lia);show L.getD b 0<st.length;lia
 ·intro x hx;refine⟨oZ hx z9,λc hc=>?_⟩;have h1:=Uu M hx hc;have:=dB.le (stp l st x c) (by lia);show L.getD (stp l st x c) 0<st.length;lia
inductive Zkl(f:Addr)(fd:FuncData)(key:RY)(pl:SD)(e:RC)(G:QA)(vs:List V)(H:Hp)(Q:VK):Prop
 |mk(a x:_)(h1:vs=[.ref a])(h2:H a=some (.tup ((key x).map kV)))(h3:pl x)(h4:H f=some (FnO f fd))(h5:G H)(h6:∀H',Zl H H'→Q (.bl (e x)) H'):Zkl f fd key pl e G vs H Q
def Zvg(f:Addr)(fd:FuncData)(key:RY)(pl:SD)(e:RC)(G:QA):Sp:=λvs H Q _=>Zkl f fd key pl e G vs H Q
def NbT(key:RY)(kvs:RZ)(o:List Nat):Prop:=kvs.map (·.1)=o.map key∧∀(i:Nat) k v,kvs[i]?=some (k,v)→v=nI i
theorem NbT.len(h:NbT key kvs o):kvs.length=o.length:=by
 have:=congrArg List.length h.1;rwa[oB,oB]at this
theorem NbT.snoc(h:NbT key kvs o)(x:Nat):NbT key (kvs++[(key x,nI o.length)]) (o++[x]):=by
 have hl:=h.len;refine⟨by rw[lH,lH,h.1];rfl,λi k v q=>?_⟩
 rcases iN i kvs.length with z|z
 ·rw[lB z]at q;exact h.2 i k v q
 ·rw[lK z]at q
  cases hi:i-kvs.length with
  |zero=>
   rw[hi]at q;cases q;rw[show i=o.length by lia]
  |succ n=>rw[hi]at q;simp at q
theorem NbT.val(inj:∀x y,pl x→pl y→key x=key y→x=y)(h:NbT key kvs o)(ho:∀y∈o,pl y)(nd:o.Nodup)(hx:x∈o):Yz kvs (key x)=some (nI (o.idxOf x)):=by
 obtain⟨i,v,g1,g2,g3⟩:=S1 inj (ho x hx) h.1 ho hx;rw[g3,h.2 i _ _ g1];obtain⟨hi,e⟩:=oF.mp g2;have:=iA nd i hi;rw[e]at this;rw[this]
theorem NbT.at_(h:NbT key kvs o)(hx:o[i]?=some x):kvs[i]?=some (key x,nI i):=by
 have hi:i<kvs.length:=by rw[h.len];exact(oF.mp hx).1
 have e1:kvs[i]?=some kvs[i]:=oC hi;have e2:(kvs.map (·.1))[i]?=some (key x):=by rw[h.1,oH,hx];rfl
 rw[oH,e1]at e2;have e3:kvs[i].1=key x:=Option.some.inj e2;have e4:=h.2 i kvs[i].1 kvs[i].2 e1;rw[e1,←e3,←e4]
inductive Zkg(P:Program)(w:World)(K:W.Frag)(mg:UW)(base:Heap)(n:Nat)(vs:List V)(H:Hp)(Q:VK):Prop
 |mk(f:Addr)(fd:FuncData)(ps:List Str)(f2:Addr)(eQ:FuncData)(yD:List Str)(l:Str)(a0:Addr)(b:Nat)(g:TU)(e:RC)(key:RY)(pl:SD)(G:QA)(h1:Ya P w K mg base CX0 n f fd ps (Zq3 f fd l g key pl G))(h2:Binds K fd ps [])(h3:Ya P w K mg base CX0 n f2 eQ yD (Zvg f2 eQ key pl e G))(h4:Binds K eQ yD [])(h5:(∀H1 H2,Zl H1 H2→G H1→G H2))(h6:vs=[.str l,.ref a0,.ref f,.ref f2])(h7:H a0=some (.tup ((key b).map kV)))(h8:pl b)(h9:(∀x,pl x→x<576∧∀c∈l.cps.toList,pl (g x c)))(i0:(∀x y,pl x→pl y→key x=key y→x=y))(yL:l.length≤3)(xN:H f=some (FnO f fd))(h13:H f2=some (FnO f2 eQ))(h14:G H)(h15:J1 l.cps.toList)(h16:∀m H' N,Zl H H'→(Zm id (TL l g) b N).length≤N→Rt H' m l 0 (Xh (Zm id (TL l g) b N) e) (Yf id (TL l g) (Zm id (TL l g) b N))→Q (.ref m) H'):Zkg P w K mg base n vs H Q
def Zf7(P:Program)(w:World)(K:W.Frag)(mg:UW)(base:Heap)(n:Nat):Sp:=λvs H Q _=>Zkg P w K mg base n vs H Q
def mtD(l:Str)(a0 fv fe nd ep rp:Addr)(v5:Option V)(g:TU)(o:List Nat)(e:RC)(H5 H9:Hp)(i:Nat)(σ:L2.St)(w4:Hp):Prop:=∃(v6:Option V) (ys:List V),σ=[some (.str l),some (.ref a0),some (.ref fv),some (.ref fe),some (.ref nd),v5,v6,some (.ref ep),some (.ref rp)]∧w4 rp=some (.lst ys)∧S6 w4 ys ((Yf id (TL l g) o).take i)∧w4 ep=some (.tup ((Xh o e).map nI))∧Zl H5 w4∧Tk H9 w4
theorem Kd(F:Fun K "machine_from" "machine_from" Yv f fd)(Z:Blt mg)(Te:Cal P w K mg base "walked" (n+1) SS (Zfy P w K mg base n)):Ya P w K mg base CX0 (n+2) f fd SE (Zf7 P w K mg base n):=by
 refine F.ok Zw (λvs H Q E h=>?_) (λcdv A outer s H vs Q E hr h=>?_)
 ·obtain⟨f,fd,ps,f2,eQ,yD,l,a0,b,g,e,key,pl,G,_,_,_,_,_,rfl,_⟩:=h;rfl
 obtain⟨fv,gE,ps,fe,fde,yD,l,a0,b,g,e,key,pl,G,Up,Um,Kq,Kn,hG,rfl,eE,hb,y0,inj,hl,hf,c9,l9,eU,k⟩:=h
 refine⟨_,(Zd (Zn (i:=4) Zw.nd (by rfl) (Or.inr (by rfl)) Zbj) 
   (Zd (Xq lW (by rfl) (Zld (by rfl) Z.enumerate (Z2 Te (hr.mono (by lia)) (Za (pv 0) (Za (pv 1) (Za (pv 2) Zb))))) (Of (K:=K) (n:=2) (by rfl) (Xb (Zo (i:=5) Zw.nd (by rfl) (Or.inl (by rfl))) (Xb (Zo (i:=6) Zw.nd (by rfl) (Or.inr (by rfl))) Rc))) 
    (Zh (Ia (Ug hr) (pv 4) (pv 6) (pv 5) rfl))) 
   (Zd (Zn (i:=7) Zw.nd (by rfl) (Or.inl (by rfl)) (Z9 (Y6 (K:=K)) (by rfl) Z.tuple Xr (Za (Yj (sc:=Ze Yv) (Nm:=UY) (own:=["place"]) (fr:=[3,4]) ⟨rfl,by decide +kernel,by decide +kernel,by decide +kernel,by decide +kernel⟩ (by rfl) (Yb (by decide)) (Ho (pv 4)) (λd=>(Zo (i:=0) Tv (by rfl) (Or.inl (by rfl)))) (λd=>(J9 (We (K:=K) (U0 (i:=1) Kq (hr.mono (by lia)) Kn (Za (pv 0) Zb)) (λ_=>rfl)))) (λd=>(Ts (Ug hr) (pv 2) (pv 0) (λ_ _=>rfl)))) Zb))) 
   (Zd (Zn (i:=8) Zw.nd (by rfl) (Or.inl (by rfl)) (Yw Zb)) 
   (Zd (Xq lW (by rfl) (Ho (pv 4)) (Zo (i:=6) Zw.nd (by rfl) (Or.inr (by rfl))) 
    (Zh (Ys (Yk (K:=K) oY lX lY Yp (pv 8) (Za (Z9 (Y6 (K:=K)) (by rfl) Z.tuple Xr (Za (Yj (sc:=Ze Yv) (Nm:=UY) (own:=["letter"]) (fr:=[2,4,6]) ⟨rfl,by decide +kernel,by decide +kernel,by decide +kernel,by decide +kernel⟩ (by rfl) (Yb (by decide)) (Qt (pv 0)) (λd=>(Zo (i:=0) Tu (by rfl) (Or.inl (by rfl)))) (λd=>Yn) (λd=>(Ts (Ug hr) (pv 2) (U0 (i:=1) Up (hr.mono (by lia)) Um (Za (pv 3) (Za (pv 0) Zb))) (λ_ _=>rfl)))) Zb)) Zb))))) 
   (Zh (Zq (Wa (Za (pv 0) (Za Zg (Za (pv 7) (Za (Z9 (Y6 (K:=K)) (by rfl) Z.tuple Xr (Za (pv 8) Zb)) Zb)))))))))))),?_⟩
 refine(let y1:TS:=_;let y6:TS:=Zp _ y1;let y7:TS:=Zp _ y6;let m7:TS:=Zp _ y7;let u8:TS:=Zp _ m7;(?_:Zp _ u8 _ _ _))
 have hT:∀x,pl x→∀y∈TL l g x,pl y:=λx hx y hy=>by
  obtain⟨c,hc,e⟩:=lF.mp hy;rw[←e];exact(y0 x hx).2 c hc
 refine λnd n5=>?_;generalize eZ:upd H nd _=H1;have s1:=nS7 eZ n5;have tQ:=nU7 eZ;refine⟨_,rfl,_,rfl,_,rfl,fv,gE,ps,l,a0,b,g,key,pl,G,Up,Um,hG,rfl,s1 _ _ eE,hb,λx hx=>⟨oZ (y0 x hx).1 (by decide),(y0 x hx).2⟩,inj,s1 _ _ hf,hG _ _ s1 l9,eU,λd H2 N hd e2 T2 hN=>?_⟩;have oL:(Zm id (TL l g) b N).length≤576:=U1 hb hT (λx hx=>(y0 x hx).1) N;have oP:∀y∈Zm id (TL l g) b N,pl y:=Wt hb hT N
 have oN:(Zm id (TL l g) b N).Nodup:=by
  have:=Tt (k:=id) (T:=TL l g) (b:=b) N;rwa[bZ]at this
 have oM:∀x∈Zm id (TL l g) b N,∀c∈l.cps.toList,g x c∈Zm id (TL l g) b N:=λx hx c hc=>by
  obtain⟨j,hj,ej⟩:=bE hx;have:=Sz (k:=id) (T:=TL l g) (b:=b) (n:=N) (j:=j) (x:=x) (y:=g x c) (by rw[oC hj,ej]) (by lia) (lF.mpr ⟨c,hc,rfl⟩);rw[bZ]at this;exact this
 replace k:=λm H'=>k m H' N
 obtain⟨kvs,_,nF,sW,_,_⟩:=T2;generalize Zm id (TL l g) b N=o at k hN sW oL oP oN oM;have sR:=none_of s1 hd
 have eF:kvs.length=o.length:=by
  have:=congrArg List.length sW;rwa[oB,oB]at this
 have vM:nd≠d:=Zi tQ hd;refine⟨d,kvs,rfl,nF,λob bs KB=>?_⟩;have tR:upd H2 d (.frz ob (.dT kvs)) nd=some (.dT []):=(Zk vM).trans (e2 _ _ tQ);have e3:Zl H (upd H2 d (.frz ob (.dT kvs))):=Zu (s1.trans e2) sR _;have xO:upd H2 d (.frz ob (.dT kvs)) d=_:=Zc;generalize upd H2 d _=H3 at tR e3 xO KB;have pG:=KB.1
 have kb:∀(i:Nat) a x,bs[i]?=some a→o[i]?=some x→H3 a=some (.tup ((key x).map kV)):=λi a x q1 q2=>by
  have hi:i<kvs.length:=by rw[eF];exact(oF.mp q2).1
  have e1:kvs[i]?=some (kvs[i].1,kvs[i].2):=oC hi;have e2:(kvs.map (·.1))[i]?=some (key x):=by rw[sW,oH,q2];rfl
  rw[oH,e1]at e2;have e3:kvs[i].1=key x:=Option.some.inj e2;have:=KB.2 i a _ _ q1 e1;rwa[e3]at this
 refine Gs (Sq:=λH xs=>H d=some (.frz ob (.dT kvs))∧xs=bs.map V.ref) (xs:=bs.map V.ref) (λi σ H4=>∃(v5 v6:Option V) (ns:RZ),σ=[some (.str l),some (.ref a0),some (.ref fv),some (.ref fe),some (.ref nd),v5,v6,none,none]∧H4 nd=some (.dT ns)∧NbT key ns (o.take i)∧H4 d=some (.frz ob (.dT kvs))∧Zl H H4∧Tk H3 H4)
  ⟨none,none,[],rfl,tR,⟨rfl,λi k v q=>by simp at q⟩,xO,e3,Tk.same (Zl.refl _)⟩ (λi σ H4 _ h=>?_) ?_ ?_
 ·obtain⟨_,_,_,_,_,_,h4,_⟩:=h;exact⟨h4,rfl⟩
 ·rintro i x σ H4 p hx ⟨v5,v6,ns,rfl,sJ,N4,mN,e4,t4⟩ hp;rw[oH]at hx
  cases j4:bs[i]? with
  |none=>rw[j4]at hx;cases hx
  |some ba=>
   rw[j4]at hx;cases hx;have k8:i<o.length:=by rw[←eF,←pG];exact(oF.mp j4).1
   have uK:o[i]?=some (o[i]'k8):=oC k8;generalize o[i]'k8=y at uK;have xT:=t4 _ _ (kb i ba y j4 uK);generalize eZ:upd H4 p _=H5;have s5:=nS7 eZ hp;have yO:=nU7 eZ;have uI:=N4.len;rw[lC]at uI
   have Zb8:Yz ns (key y)=none:=Gf inj (oP y (oR uK)) N4.1 (λz hz=>oP z (XE hz)) λz=>by
    obtain⟨j,hj,e⟩:=bE z;rw[lC]at hj;rw[List.getElem_take]at e;have h1:=iA oN j (by lia);have h2:=iA oN i k8;rw[(oF.mp uK).2]at h2;rw[e,h2]at h1;lia
   have mH:=Tk.dct (s5 _ _ sJ) (.dT (ns++[(key y,V.int (i:Int))]));refine⟨p,_,rfl,SqT.of yO,rfl,_,_,rfl,_,_,rfl,rfl,?_⟩;refine⟨_,rfl,_,rfl,_,rfl,nd,_,rfl,Ei.t (k:=key y) (s5 _ _ sJ) (s5 _ _ xT) (by rw[sizeLine_eq];lia),?_⟩;rw[Mq _ Zb8];refine⟨_,_,_,rfl,Zc,?_,(Zk vM.symm).trans (s5 _ _ mN),Zu (e4.trans s5) n5 _,(t4.trans (Tk.same s5)).trans mH⟩;rw[iE,uK];have:=N4.snoc y;rw[lC,Nat.min_eq_left (by lia)]at this;exact this
 rintro σ H4 ⟨v5,v6,ns,rfl,sJ,N4,_,e4,_⟩;rw[oB,pG,eF,lM]at N4;have j5:=N4.len;refine⟨_,rfl,nd,_,rfl,.inl ⟨sJ,λon bs2 KB2=>?_⟩⟩;have e5:Zl H (upd H4 nd (.frz on (.dT ns))):=Zu e4 n5 _;have eS:upd H4 nd (.frz on (.dT ns)) nd=_:=Zc;generalize upd H4 nd _=H5 at e5 eS KB2
 have uW:∀{H6:Hp}{bs:SM},Ff H6 ns bs→∀{i:Nat}{a:Addr},bs[i]?=some a→∃y,o[i]?=some y∧H6 a=some (.tup ((key y).map kV)):=λ{H6 bs} KB {i a} h=>by
  have hi:i<o.length:=by rw[←j5,←KB.1];exact(oF.mp h).1
  exact⟨o[i],oC hi,KB.2 i a _ _ h (N4.at_ (oC hi))⟩
 have Znr:∀{H6:Hp}{x:Nat}{a:Addr},Zl H5 H6→x∈o→H6 a=some (.tup ((key x).map kV))→O0 H6 nd (.ref a) (some (nI (o.idxOf x))):=λ{H6 x a} e6 hx ha=>by
  rw[←N4.val inj oP oN hx];exact .inr ⟨_,key x,a,.inr ⟨on,e6 _ _ eS⟩,rfl,ha,rfl⟩
 refine Zez (a:=nd) (o:=on) (kvs:=ns) (bs:=bs2) (λi acc H6=>acc=(((List.range i).filter λj=>e (o.getD j 0)).map nI)∧Zl H5 H6) (Z1 (by lia)) ⟨rfl,Zl.refl _⟩
  (λi acc H6 q=>by rw[q.1,oB];exact lI (aX _ _) (by rw[lO];exact oG _)) (λi acc H6 q=>q.2 _ _ eS) (λi acc H6 ba hq p=>?_) (λacc H6 p y hy=>?_)
 ·obtain⟨rfl,e6⟩:=p;obtain⟨y,hy,xT⟩:=uW KB2 hq;have tD:o.getD i 0=y:=by rw[oJ,hy];rfl
  have uT:=oR hy;have sD:=e5.trans e6;refine⟨rfl,sD _ _ c9,_,rfl,sD _ _ c9,ba,y,rfl,e6 _ _ xT,oP y uT,sD _ _ c9,hG _ _ sD l9,λH7 e7=>⟨_,rfl,?_⟩⟩
  have sU:((List.range (i+1)).filter λj=>e (o.getD j 0))=((List.range i).filter λj=>e (o.getD j 0))++if e y=true then [i] else []:=by
   rw[ZS,UE,WT,tD];rfl
  rw[sU,lH];refine Rk (λc=>?_) (λc=>?_)
  ·rw[if_pos c];refine⟨_,rfl,_,rfl,nd,_,rfl,Znr (e6.trans e7) uT (e7 _ _ (e6 _ _ xT)),?_,e6.trans e7⟩
   have:o.idxOf y=i:=by
    have h1:=iA oN i (oF.mp hy).1;rw[(oF.mp hy).2]at h1;exact h1
   rw[this];rfl
  ·rw[if_neg c];exact⟨by rw[bQ,aB],e6.trans e7⟩
 obtain⟨rfl,e6⟩:=p;rw[j5];generalize eZ:upd H6 y _=H7;have t7:=nS7 eZ hy;have nM:=nU7 eZ;refine⟨y,_,rfl,.inl ⟨SqL.of nM,λep uD=>?_⟩⟩;have t8:=Zf uD (.tup (((List.range o.length).filter λj=>e (o.getD j 0)).map nI));have mP:upd H7 ep (.tup (((List.range o.length).filter λj=>e (o.getD j 0)).map nI)) ep=some (.tup ((Xh o e).map nI)):=Zc;generalize upd H7 ep _=H8 at t8 mP;refine⟨(by show 0≤sizeLine;decide),λrp t5=>?_⟩;generalize eZ:upd H8 rp _=H9;have t9:=nS7 eZ t5;have r9:=nU7 eZ;have tN:=((e6.trans t7).trans t8).trans t9;have Ztv:=none_of ((e6.trans t7).trans t8) t5;have dD:ep≠rp:=Zi mP t5;have yQ:(Yf id (TL l g) o).length=o.length:=by unfold Yf;rw[oB]
 refine⟨_,rfl,nd,_,rfl,.inr ⟨on,tN _ _ eS,λbs3 KB3=>?_⟩⟩
 refine Dy (a:=nd) (o:=on) (kvs:=ns) (bs:=bs3) (mtD l a0 fv fe nd ep rp v5 g o e H5 H9)
  ⟨v6,[],rfl,r9,⟨rfl,λi x r a=>by simp at a⟩,t9 _ _ mP,tN,Tk.same (Zl.refl _)⟩ (λi σ w4 _ h=>?_) ?_ ?_
 ·obtain⟨_,_,_,_,_,_,u9,_⟩:=h;exact u9 _ _ eS
 ·rintro i ba σ w4 hq ⟨v6,ys,rfl,Si,eO,Zep,u9,xH⟩;obtain⟨x,hx,xT⟩:=uW KB3 hq;have uR:=oR hx;have qZ:=xH _ _ xT;refine⟨_,rfl,.inl ⟨rfl,_,SqL.of Si⟩,_,rfl,l,rfl,?_⟩
  refine Pd (cs:=l.cps.toList) (λj acc z5=>acc=(l.cps.toList.take j).map (λc=>nI (o.idxOf (g x c)))∧Zl w4 z5) (by rw[len_list];exact Z1 (by lia)) ⟨rfl,Zl.refl _⟩ (λj acc z5 q=>by rw[q.1,oB,lC];exact iR _ _)
   (λj acc z5 c hc q=>?_) (λacc z5 q y hy=>?_)
  ·obtain⟨rfl,u5⟩:=q;have z4:c∈l.cps.toList:=oR hc;have Ad:=e5.trans (u9.trans u5);refine S3 ⟨_,rfl,rfl,Ad _ _ hf,_,rfl,_,rfl,Ad _ _ hf,ba,x,c,rfl,u5 _ _ qZ,oP x uR,z4,Ad _ _ hf,hG _ _ Ad l9,λr tK sE xN=>⟨nd,_,rfl,Znr ((u9.trans u5).trans sE) (oM x uR c z4) xN,?_,u5.trans sE⟩⟩;rw[map_take hc]
  obtain⟨rfl,u5⟩:=q;rw[lM];have u1:=Zf hy (.lst (l.cps.toList.map λc=>nI (o.idxOf (g x c))));refine⟨y,_,rfl,.inl ⟨SqL.of Zc,λz hz=>?_⟩⟩;have u2:=Zf hz (.tup (l.cps.toList.map λc=>nI (o.idxOf (g x c))));have b7:=(u5.trans u1).trans u2
  have l4:ys.length≤576:=by
   rw[eO.1,lC,yQ];lia
  have Le:(Yf id (TL l g) o)[i]?=some (l.cps.toList.map λc=>o.idxOf (g x c)):=by
   unfold Yf TL;rw[oH,hx,YS,lU,bZ];rfl
  have Zi0:upd (upd z5 y (.lst (l.cps.toList.map λc=>nI (o.idxOf (g x c))))) z (.tup (l.cps.toList.map λc=>nI (o.idxOf (g x c)))) z=some (.tup ((l.cps.toList.map λc=>o.idxOf (g x c)).map nI)):=by
   rw[lU];exact Zc
  generalize upd (upd z5 y (.lst (l.cps.toList.map λc=>nI (o.idxOf (g x c))))) z (.tup (l.cps.toList.map λc=>nI (o.idxOf (g x c))))=tK at u2 b7 Zi0;have mI:=Tk.lst (b7 _ _ Si) (.lst (ys++[V.ref z]));refine⟨rp,_,_,rfl,rfl,b7 _ _ Si,Z1 (by lia),_,ys++[.ref z],rfl,Zc,?_,(Zk dD).trans (b7 _ _ Zep),Zu (u9.trans b7) Ztv _,(xH.trans (Tk.same b7)).trans mI⟩;rw[iE,Le];refine((eO.keep (Tk.same b7)).keep mI).snoc ?_;exact mI _ _ Zi0
 ·rintro σ w4 ⟨v6,ys,rfl,Si,eO,Zep,u9,_⟩;rw[j5,←yQ,lM]at eO;obtain⟨ras,rfl,r1,r2⟩:=eO.ras;refine⟨_,rfl,_,rfl,_,rfl,rp,_,rfl,.inl ⟨SqL.of Si,λsp m6=>⟨(by show 4≤sizeLine;decide),λm hm=>?_⟩⟩⟩;have w1:=Zf m6 (.tup (ras.map V.ref));have w2:=Zf hm (.tup [V.str l,V.int 0,.ref ep,.ref sp]);have kX:=w1.trans w2;exact k m _ (e5.trans (u9.trans kX)) hN ⟨ep,sp,ras,Zc,kX _ _ Zep,w2 _ _ Zc,r1,λi a r q1 q2=>kX _ _ (r2 i a r q1 q2)⟩
structure Wk(st:UR)(es:List Nat)(w:Nat)(k:TX)(T:SQ)(pl:SD):Prop where
 key:∀x x',pl x→pl x'→(k x=k x'↔Fut st es w x x')
 len:∀x,pl x→(T x).length=w
 tgt:∀x,pl x→∀(j t:Nat),(T x)[j]?=some t→pl t∧Fut st es w t (stN st x j)
def Lk(st1:UR)(es1:List Nat)(st2:UR)(es2:List Nat)(w x y:Nat):Prop:=∀cs:List Nat,(∀c∈cs,c<w)→(V5 st1 x cs∈es1↔V5 st2 y cs∈es2)
def RR(st1:UR)(es1:List Nat)(p1:SD)(st2:UR)(es2:List Nat)(p2:SD)(w x y:Nat):Prop:=p1 x∧p2 y∧Lk st1 es1 st2 es2 w x y
section
variable {st1 st2:UR}{es1 es2:List Nat}{w:Nat}{k1 k2:TX}{T1 T2:SQ}{p1 p2:SD}
theorem Wk.kr(W1:Wk st1 es1 w k1 T1 p1)(W2:Wk st2 es2 w k2 T2 p2):KR (RR st1 es1 p1 st2 es2 p2 w) k1 k2:=by
 rintro x y x' y' ⟨a1,a2,a⟩ ⟨b1,b2,b⟩;rw[W1.key x x' a1 b1,W2.key y y' a2 b2];exact⟨λh cs hc=>(a cs hc).symm.trans ((h cs hc).trans (b cs hc)),λh cs hc=>(a cs hc).trans ((h cs hc).trans (b cs hc).symm)⟩
theorem Wk.pw(W1:Wk st1 es1 w k1 T1 p1)(W2:Wk st2 es2 w k2 T2 p2):∀x y,RR st1 es1 p1 st2 es2 p2 w x y→Pw (RR st1 es1 p1 st2 es2 p2 w) (T1 x) (T2 y):=by
 rintro x y ⟨a1,a2,a⟩;refine Pw.of (by rw[W1.len x a1,W2.len y a2]) λi t u ht hu=>?_;obtain⟨c1,d1⟩:=W1.tgt x a1 i t ht;obtain⟨c2,d2⟩:=W2.tgt y a2 i u hu;have hi:i<w:=by rw[←W1.len x a1];exact(oF.mp ht).1
 refine⟨c1,c2,λcs hc=>(d1 cs hc).trans (Iff.trans ?_ (d2 cs hc).symm)⟩
 exact a (i :: cs) λc eY=>by
  rcases oX.mp eY with z|z
  ·rw[z];exact hi
  ·exact hc c z
theorem Zdn(W1:Wk st1 es1 w k1 T1 p1)(W2:Wk st2 es2 w k2 T2 p2){b1 b2 N1 N2:Nat}(h1:p1 b1)(h2:p2 b2)(hb:Lk st1 es1 st2 es2 w b1 b2)(hN1:(Zm k1 T1 b1 N1).length≤N1)(hN2:(Zm k2 T2 b2 N2).length≤N2):
  Yf k1 T1 (Zm k1 T1 b1 N1)=Yf k2 T2 (Zm k2 T2 b2 N2)∧Xh (Zm k1 T1 b1 N1) (λx=>decide (x∈es1))=Xh (Zm k2 T2 b2 N2) λx=>decide (x∈es2):=by
 have e1:=Wg hN1 (max N1 N2) (Nat.le_max_left _ _);have e2:=Wg hN2 (max N1 N2) (Nat.le_max_right _ _);rw[←e1,←e2];have h:=Pw.ord (W1.kr W2) (W1.pw W2) (show RR st1 es1 p1 st2 es2 p2 w b1 b2 from⟨h1,h2,hb⟩) (max N1 N2);exact⟨h.rows (W1.kr W2) (W1.pw W2),h.ends λx y r=>decide_eq_decide.mpr (r.2.2 [] λc hc=>nomatch hc)⟩
end
section
variable {st:UR}{es:List Nat}{w:Nat}{k:TX}{T:SQ}{pl:SD}{b N:Nat}
theorem Wk.all(W:Wk st es w k T pl)(hb:pl b)(i:Nat):∀y∈Zm k T b i,pl y:=Wt hb (λx hx y hy=>by
 obtain⟨j,hj,e⟩:=bE hy
 exact(W.tgt x hx j y (by rw[oC hj,e])).1) i
theorem Wk.met(W:Wk st es w k T pl)(hb:pl b)(hN:(Zm k T b N).length≤N)(hx:(Zm k T b N)[i]?=some x)(hc:c<w):∃t y,(T x)[c]?=some t∧pl t∧(Yf k T (Zm k T b N))[i]?=some ((T x).map λt=>((Zm k T b N).map k).idxOf (k t))∧stN (Yf k T (Zm k T b N)) i c=((Zm k T b N).map k).idxOf (k t)∧(Zm k T b N)[((Zm k T b N).map k).idxOf (k t)]?=some y∧pl y∧Fut st es w y (stN st x c):=by
 have px:=W.all hb N x (oR hx);have hl:=W.len x px;have ht:(T x)[c]?=some ((T x)[c]'(by lia)):=oC (by lia);generalize (T x)[c]'(by lia)=t at ht;obtain⟨pt,ft⟩:=W.tgt x px c t ht;have hi:=(oF.mp hx).1;have hm:=Sz (k:=k) (T:=T) (b:=b) (n:=N) hx (by lia) (oR ht);have hd:=Ny hm;rw[oH]at hd
 have Le:(Yf k T (Zm k T b N))[i]?=some ((T x).map λt=>((Zm k T b N).map k).idxOf (k t)):=by
  unfold Yf;rw[oH,hx];rfl
 cases hy:(Zm k T b N)[((Zm k T b N).map k).idxOf (k t)]? with
 |none=>rw[hy]at hd;cases hd
 |some y=>
  rw[hy]at hd;have ky:k y=k t:=Option.some.inj hd;have py:=W.all hb N y (oR hy);have fy:=(W.key y t py pt).mp ky;refine⟨t,y,ht,pt,Le,?_,hy,py,λcs i5=>(fy cs i5).trans (ft cs i5)⟩;unfold stN;rw[oJ (l:=Yf k T (Zm k T b N)),Le];show ((T x).map λt=>((Zm k T b N).map k).idxOf (k t)).getD c 0=_;rw[oJ,oH,ht];rfl
theorem Wk.Zsa(W:Wk st es w k T pl)(hb:pl b)(hN:(Zm k T b N).length≤N):∀(cs:List Nat) (i x:Nat),(∀c∈cs,c<w)→(Zm k T b N)[i]?=some x→
  (V5 (Yf k T (Zm k T b N)) i cs∈Xh (Zm k T b N) (λx=>decide (x∈es))↔V5 st x cs∈es):=by
 intro cs
 induction cs with
 |nil=>
  intro i x _ hx;show i∈Xh _ _↔x∈es;unfold Xh;rw[aP,iG,oJ,hx];show _∧decide (x∈es)=true↔_;rw[decide_eq_true_eq];exact⟨λh=>h.2,λh=>⟨(oF.mp hx).1,h⟩⟩
 |cons c cs ih=>
  intro i x hc hx;obtain⟨t,y,ht,pt,Le,hs,hy,py,fy⟩:=W.met hb hN hx (hc c oK);have i5:∀c∈cs,c<w:=λd hd=>hc d (oQ _ hd);show V5 _ (stN _ i c) cs∈_↔_;rw[hs,ih _ y i5 hy];exact fy cs i5
theorem Wk.Jf(W:Wk st es w k T pl)(hb:pl b)(hN:(Zm k T b N).length≤N):Oz (Yf k T (Zm k T b N)) w:=by
 intro r hr;have hlen:(Yf k T (Zm k T b N)).length=(Zm k T b N).length:=by unfold Yf;rw[oB]
 obtain⟨x,hx,rfl⟩:=lF.mp hr;have px:=W.all hb N x hx;refine⟨by rw[oB];exact W.len x px,λy hy=>?_⟩;obtain⟨t,ht,rfl⟩:=lF.mp hy;obtain⟨i,hi,e⟩:=bE hx;have hm:=Sz (k:=k) (T:=T) (b:=b) (n:=N) (j:=i) (x:=x) (by rw[oC hi,e]) (by lia) ht;have:=aQ hm;rw[oB]at this;rw[hlen];exact this
end
theorem Zde(nd:l.cps.toList.Nodup)(hc:l.cps.toList[j]?=some c):stp l st x c=stN st x j:=by
 have hl:=len_list l
 have hD:∀v:Nat,v<l.length→l.cps.getD v 0=l.cps.toList.getD v 0:=λv hv=>by
  rw[oJ,lL,ZJ]
 have hj:=(oF.mp hc).1
 have hf:Txt.find l (one c)=Txt.find3 l (one c) 0:=by
  unfold Txt.find Txt.find3;rfl
 have key:(Txt.find l (one c)).toNat=j:=by
  rcases StrLaws.find3_spec l c 0 with ⟨_,hn⟩|⟨k,hk,_,x9,c6⟩
  ·refine absurd ?_ (hn j ?_ (by lia))
   ·rw[hD j (by lia),oJ,hc];rfl
   ·show _≤j;unfold PySem.fromIndex;simp
  ·rw[hf];have e:Txt.find3 l (one c) 0=(k:Int):=hk;rw[e];have e2:l.cps.getD k 0=c:=c6.1;rw[hD k (by lia),oJ,oC (by lia)]at e2;have e3:l.cps.toList[k]'(by lia)=c:=e2;have i1:=iA nd k (by lia);have i2:=iA nd j hj;rw[(oF.mp hc).2]at i2;rw[e3,i2]at i1;lia
 unfold stp stN;rw[key]
theorem Ci(nd:l.cps.toList.Nodup){k:Nat}(R:Oz st l.length)(few:dn (lkN st es (k+1))≤dn (lkN st es k)):
  Wk st es l.length id (TL l (gL l st (lkN st es (k+1)))) λx=>x<st.length∧(lkN st es (k+1)).getD x 0=x:=by
 have hl:=len_list l;have lf:=U3 st es (k+1);have ll:=Lb st es (k+1);have le:=λ(i j:Nat) hi hj=>Zmg (i:=i) (j:=j) R few hi hj;generalize lkN st es (k+1)=L at lf ll le;refine⟨λx x' hx yA=>?_,λx hx=>?_,λx hx j t ht=>?_⟩
 ·rw[←le x x' hx.1 yA.1,hx.2,yA.2];exact VB
 ·unfold TL;rw[oB,hl]
 ·unfold TL at ht;rw[oH]at ht
  cases hc:l.cps.toList[j]? with
  |none=>rw[hc]at ht;cases ht
  |some c=>
   rw[hc]at ht;have e:gL l st L x c=t:=Option.some.inj ht;have hj:=(oF.mp hc).1;unfold gL at e;rw[Zde nd hc]at e;have hs:=Ql R hx.1 (show j<l.length by lia);have l1:=lf.le (stN st x j) (by lia);have l2:=lf.own (stN st x j) (by lia);rw[e]at l1 l2;exact⟨⟨by lia,l2⟩,(le t (stN st x j) (by lia) hs).mp (by rw[l2,e])⟩
section
variable {α κ:Type} [BEq α] [LawfulBEq α] [DecidableEq κ] {φ:α→κ}
end
structure Zqr(l:Str)(st:UR)(es:List Nat)(b:Nat)(stD:UR)(esD:List Nat)(k N:Nat):Prop where
 Jf:Oz st l.length
 beg:b<st.length
 few:dn (lkN st es (k+1))≤dn (lkN st es k)
 len:(Zm id (TL l (gL l st (lkN st es (k+1)))) ((lkN st es (k+1)).getD b 0) N).length≤N
 rows:Yf id (TL l (gL l st (lkN st es (k+1)))) (Zm id (TL l (gL l st (lkN st es (k+1)))) ((lkN st es (k+1)).getD b 0) N)=stD
 ends:Xh (Zm id (TL l (gL l st (lkN st es (k+1)))) ((lkN st es (k+1)).getD b 0) N) (λx=>decide (x∈es))=esD
theorem Zqr.wk{k:Nat}(h:Zqr l st es b stD esD k N):((lkN st es (k+1)).getD b 0<st.length∧(lkN st es (k+1)).getD ((lkN st es (k+1)).getD b 0) 0=(lkN st es (k+1)).getD b 0)∧Fut st es l.length ((lkN st es (k+1)).getD b 0) b:=by
 have lf:=U3 st es (k+1);have ll:=Lb st es (k+1);have hb:=h.beg;have l1:=lf.le b (by lia);have l2:=lf.own b (by lia);exact⟨⟨by lia,l2⟩,(Zmg (i:=(lkN st es (k+1)).getD b 0) (j:=b) h.Jf h.few (by lia) hb).mp l2⟩
structure LM(l:Str)(P:TC)(stD:UR)(esD:List Nat):Prop where
 Jf:Oz stD l.length
 pos:0<stD.length
 ends:esD.length≤stD.length∧∀e∈esD,e<stD.length
 lg:∀cs,(∀c∈cs,c<l.length)→(V5 stD 0 cs∈esD↔P cs)
 is:∃st es b k N,Zqr l st es b stD esD k N
theorem LM.of(nd:l.cps.toList.Nodup){k:Nat}(h:Zqr l st es b stD esD k N):LM l (λcs=>V5 st b cs∈es) stD esD∧stD.length≤st.length:=by
 have W:=Ci nd h.Jf h.few;obtain⟨w1,w2⟩:=h.wk;have Zb7:=Hr (k:=id) (T:=TL l (gL l st (lkN st es (k+1)))) (b:=(lkN st es (k+1)).getD b 0) N
 have hlen:(Zm id (TL l (gL l st (lkN st es (k+1)))) ((lkN st es (k+1)).getD b 0) N).length≤st.length:=U1 (P:=λx=>x<st.length∧(lkN st es (k+1)).getD x 0=x) w1 (λx hx y hy=>by
  obtain⟨j,hj,e⟩:=bE hy
  exact(W.tgt x hx j y (by rw[oC hj,e])).1) (λx hx=>hx.1) N
 have hr:=W.Jf w1 h.len;have ht:∀cs,(∀c∈cs,c<l.length)→_:=λcs hc=>W.Zsa w1 h.len cs 0 _ hc Zb7.2;have n6:(Yf id (TL l (gL l st (lkN st es (k+1)))) (Zm id (TL l (gL l st (lkN st es (k+1)))) ((lkN st es (k+1)).getD b 0) N)).length=(Zm id (TL l (gL l st (lkN st es (k+1)))) ((lkN st es (k+1)).getD b 0) N).length:=by unfold Yf;rw[oB]
 have d8:∀e∈Xh (Zm id (TL l (gL l st (lkN st es (k+1)))) ((lkN st es (k+1)).getD b 0) N) (λx=>decide (x∈es)),e<(Zm id (TL l (gL l st (lkN st es (k+1)))) ((lkN st es (k+1)).getD b 0) N).length:=λe he=>by
  unfold Xh at he;exact iG.mp (aP.mp he).1
 have sT:(Xh (Zm id (TL l (gL l st (lkN st es (k+1)))) ((lkN st es (k+1)).getD b 0) N) (λx=>decide (x∈es))).length≤(Zm id (TL l (gL l st (lkN st es (k+1)))) ((lkN st es (k+1)).getD b 0) N).length:=by
  unfold Xh;exact lI (aX _ _) (by rw[lO];exact oG _)
 rw[h.rows]at hr n6 ht;rw[h.ends]at d8 sT ht;have hp:=Zb7.1;exact⟨⟨hr,by lia,⟨by lia,λe he=>by have:=d8 e he;lia⟩,λcs hc=>(ht cs hc).trans (w2 cs hc),⟨st,es,b,k,N,h⟩⟩,by lia⟩
theorem LM.Ai{P Q:TC}(h:LM l P stD esD)(q:∀cs,(∀c∈cs,c<l.length)→(P cs↔Q cs)):LM l Q stD esD:=⟨h.Jf,h.pos,h.ends,λcs hc=>(h.lg cs hc).trans (q cs hc),h.is⟩
theorem LM.uniq(nd:l.cps.toList.Nodup){P Q:TC}{st1:UR}{es1:List Nat}{st2:UR}{es2:List Nat}(h1:LM l P st1 es1)(h2:LM l Q st2 es2)(q:∀cs,(∀c∈cs,c<l.length)→(P cs↔Q cs)):st1=st2∧es1=es2:=by
 obtain⟨s1,e1,b1,k1,n1,p1⟩:=h1.is;obtain⟨s2,e2,b2,k2,n2,p2⟩:=h2.is;obtain⟨a1,f1⟩:=p1.wk;obtain⟨a2,f2⟩:=p2.wk;have g1:=(LM.of nd p1).1.lg;have g2:=(LM.of nd p2).1.lg;have:=Zdn (Ci nd p1.Jf p1.few) (Ci nd p2.Jf p2.few) a1 a2 (λcs hc=>(f1 cs hc).trans (((g1 cs hc).symm.trans ((h1.lg cs hc).trans ((q cs hc).trans ((h2.lg cs hc).symm.trans (g2 cs hc))))).trans (f2 cs hc).symm)) p1.len p2.len;rw[p1.rows,p1.ends,p2.rows,p2.ends]at this;exact this
theorem LM.Zeb{P:TC}(D:LM l P stD esD)(hl:0<l.length∧l.length≤3)(hs:stD.length≤576){m':Addr}(h:Rt H' m' l 0 esD stD):Z7 H' m' l 0 esD stD:=⟨h,⟨hl.1,hl.2,hs⟩,D.pos,D.Jf⟩
def fx(l:Str)(c:Nat):Nat:=(Txt.find l (one c)).toNat
theorem Zfn(l:Str)(st:UR):∀(t:List Nat) (r:Nat),way l st r t=V5 st r (t.map (fx l))
 |[],_=>rfl
 |c :: t,r=>Zfn l st t (stp l st r c)
theorem Zeq{t:List Nat}(h:∀c∈t,c∈l.cps.toList):∀c∈t.map (fx l),c<l.length:=λc hc=>by
 obtain⟨d,hd,rfl⟩:=lF.mp hc;exact(Ac (h d hd)).2
theorem Cj{st:UR}{w:Nat}(R:Oz st w):∀(cs:List Nat) (r:Nat),r<st.length→(∀c∈cs,c<w)→V5 st r cs<st.length
 |[],_,hr,_=>hr
 |c :: cs,r,hr,h=>Cj R cs (stN st r c) (Ql R hr (h c oK)) λd hd=>h d (oQ _ hd)
theorem Ku{e:RC}{w:Nat}(hb:pl b)(hlen:∀x,pl x→(T x).length=w)(y0:∀x,pl x→∀y∈T x,pl y)(hN:(Zm id T b N).length≤N):∀(cs:List Nat) (i x:Nat),(∀c∈cs,c<w)→(Zm id T b N)[i]?=some x→
  (V5 (Yf id T (Zm id T b N)) i cs∈Xh (Zm id T b N) e↔e (cs.foldl (λx c=>(T x).getD c 0) x)=true):=by
 have Li:=Wt (k:=id) hb y0 N;intro cs
 induction cs with
 |nil=>
  intro i x _ hx;show i∈Xh _ _↔e x=true;unfold Xh;rw[aP,iG,oJ,hx];exact⟨λh=>h.2,λh=>⟨(oF.mp hx).1,h⟩⟩
 |cons c cs ih=>
  intro i x hc hx;have px:=Li x (oR hx);have hcw:=hc c oK;have hi:=(oF.mp hx).1;have ht:=(getD_in (l:=T x) (i:=c) (d:=0) (by rw[hlen x px];exact hcw));have hm:=Sz (k:=id) (T:=T) (b:=b) (n:=N) hx (by lia) ht.1;rw[bZ]at hm;have fM:(T x).getD c 0∈Zm id T b N:=hm
  have Le:stN (Yf id T (Zm id T b N)) i c=(Zm id T b N).idxOf ((T x).getD c 0):=by
   unfold stN Yf;rw[oJ (l:=List.map _ _),oH,hx];show ((T x).map λt=>((Zm id T b N).map id).idxOf (id t)).getD c 0=_;rw[oJ (l:=List.map _ _),oH,ht.2,bZ];rfl
  show V5 _ (stN _ i c) cs∈_↔_;rw[Le,ih _ _ (λd hd=>hc d (oQ _ hd)) (Ny fM)];exact VB
theorem El{w:Nat}(hb:pl b)(hlen:∀x,pl x→(T x).length=w)(y0:∀x,pl x→∀y∈T x,pl y)(hN:(Zm id T b N).length≤N):Oz (Yf id T (Zm id T b N)) w:=by
 have Li:=Wt (k:=id) hb y0 N;intro r hr;have n6:(Yf id T (Zm id T b N)).length=(Zm id T b N).length:=by unfold Yf;rw[oB]
 obtain⟨x,hx,rfl⟩:=lF.mp hr;refine⟨by rw[oB];exact hlen x (Li x hx),λy hy=>?_⟩;obtain⟨t,ht,rfl⟩:=lF.mp hy;obtain⟨i,hi,e⟩:=bE hx;have hm:=Sz (k:=id) (T:=T) (b:=b) (n:=N) (j:=i) (x:=x) (by rw[oC hi,e]) (by lia) ht;have:=aQ hm;rw[oB]at this;rw[n6];exact this
theorem Wq(hy:y<n):(x*n+y)/n=x∧(x*n+y)%n=y:=by
 have hn:0<n:=by lia
 constructor
 ·rw[Nat.add_comm,Nat.add_mul_div_right _ _ hn,Nat.div_eq_of_lt hy,VH]
 ·rw[Nat.add_comm,Nat.add_mul_mod_self_right,Nat.mod_eq_of_lt hy]
theorem Og{n1 n2:Nat}(hx:x<n1)(hy:y<n2):x*n2+y<n1*n2:=by
 have:(x+1)*n2≤n1*n2:=XF _ hx;rw[Nat.succ_mul]at this;lia
def gP(l:Str)(st1 st2:UR)(x c:Nat):Nat:=stp l st1 (x/st2.length) c*st2.length+stp l st2 (x%st2.length) c
def kP(n2 x:Nat):List Key:=[kI (x/n2),kI (x%n2)]
theorem Zei{n2:Nat}(h:kP n2 x=kP n2 y):x=y:=by
 unfold kP at h;rw[List.cons.injEq,List.cons.injEq]at h;have h1:=Gi h.1;have h2:=Gi h.2.1;have a:=VO x n2;have b:=VO y n2;rw[h1,h2]at a;lia
theorem Zhe{l:Str}(nd:l.cps.toList.Nodup){st1 st2:UR}(R1:Oz st1 l.length)(R2:Oz st2 l.length):∀(cs:List Nat) (x y:Nat),x<st1.length→y<st2.length→(∀c∈cs,c<l.length)→cs.foldl (λx c=>(TL l (gP l st1 st2) x).getD c 0) (x*st2.length+y)=V5 st1 x cs*st2.length+V5 st2 y cs
 |[],_,_,_,_,_=>rfl
 |c :: cs,x,y,hx,hy,hc=>by
  have z4:=hc c oK;have ll:=len_list l;have eY:l.cps.toList[c]?=some (l.cps.toList[c]'(by lia)):=oC (by lia)
  have e:(TL l (gP l st1 st2) (x*st2.length+y)).getD c 0=stN st1 x c*st2.length+stN st2 y c:=by
   unfold TL;rw[oJ,oH,eY];show gP l st1 st2 (x*st2.length+y) _=_;unfold gP;rw[(Wq hy).1,(Wq hy).2,Zde nd eY,Zde nd eY]
  show cs.foldl _ ((TL l (gP l st1 st2) (x*st2.length+y)).getD c 0)=_;rw[e];exact Zhe nd R1 R2 cs _ _ (Ql R1 hx z4) (Ql R2 hy z4) λd hd=>hc d (oQ _ hd)
theorem Tk.t{L:List TQ}(e:Ve Pt H H')(t:Tb Pt L H):Tk H H':=λb ys h=>e b _ (λz=>by
 obtain⟨ps,hp,_⟩:=t;rw[z,hp]at h
 cases h) h
theorem Rt.keep(h:Rt H m l b es st)(k:Tk H H'):Rt H' m l b es st:=by
 obtain⟨e,s,ras,h1,h2,h3,h4,h5⟩:=h;exact⟨e,s,ras,k _ _ h1,k _ _ h2,k _ _ h3,h4,λi a r q1 q2=>k _ _ (h5 i a r q1 q2)⟩
theorem Z7.keep{H H':Hp}{m:Addr}{l:Str}{b:Nat}{es:List Nat}{st:UR}(h:Z7 H m l b es st)(k:Tk H H'):Z7 H' m l b es st:=⟨Rt.keep (b:=b) h.lay k,h.few,h.beg,h.rows⟩
theorem Tb.O3{P2:Addr}{L L2:List TQ}(t:Tb P2 L2 H)(t1:Tb Pt L H)(n:P2≠Pt)(e:Ve Pt H H'):Tb P2 L2 H':=by
 obtain⟨ps,h1,h2,h3⟩:=t;obtain⟨qs,g1,_⟩:=t1;exact⟨ps,e _ _ n h1,h2,λx hx=>(h3 x hx).imp id λ⟨c,a,b⟩=>⟨c,a,e _ _ (Wu b g1 λz=>nomatch z) b⟩⟩
def Ov(Pt:Addr)(l:Str)(P:TC)(n:Nat)(H:Hp)(Q:VK):Prop:=∀m' stD esD H',Ve Pt H H'→Tb Pt Zx H'→LM l P stD esD→stD.length≤n→Rt H' m' l 0 esD stD→Q (.ref m') H'
inductive E4(Pt:Addr)(vs:List V)(H:Hp)(Q:VK):Prop
 |mk(m:Addr)(l:Str)(b:Nat)(es:List Nat)(st:UR)(h1:vs=[.ref m])(h2:Z7 H m l b es st)(h3:es.length≤900)(h4:l.cps.toList.Nodup)(h5:Tb Pt Zx H)(h6:Ov Pt l (λcs=>V5 st b cs∈es) st.length H Q):E4 Pt vs H Q
def Ss(Pt:Addr):Sp:=λvs H Q _=>E4 Pt vs H Q
theorem Zef:∀vs H Q E,Ss Pt vs H Q E→J5 Pt vs H Q E:=by
 rintro vs H Q E ⟨m,l,b,es,st,rfl,M,mW,nd,T,k⟩;refine⟨m,l,b,es,st,rfl,M,mW,T,λm' k' N H' e T' few hN hL=>?_⟩;have h:=LM.of nd (stD:=_) (esD:=_) (k:=k') (N:=N) ⟨M.rows,M.beg,few,hN,rfl,rfl⟩;exact k m' _ _ H' e T' h.1 h.2 hL
inductive Zar(vs:List V)(H:Hp)(Q:VK):Prop
 |mk(m1 m2 a:Addr)(l:Str)(b1 b2:Nat)(es1 es2:List Nat)(st1 st2:UR)(x y c:Nat)(h1:vs=[.ref m1,.ref m2,.ref a,.str (one c)])(h2:Z7 H m1 l b1 es1 st1)(h3:Z7 H m2 l b2 es2 st2)(h4:H a=some (.tup [nI x,nI y]))(h5:x<st1.length)(h6:y<st2.length)(h7:c∈l.cps.toList)(h8:∀r H',Zl H H'→H' r=some (.tup [nI (stp l st1 x c),nI (stp l st2 y c)])→Q (.ref r) H'):Zar vs H Q
def Cu:Sp:=λvs H Q _=>Zar vs H Q
theorem Hu(F:Fun K "pair_behind" "pair_behind" Se f fd)(Z:Blt mg)(X5:Cal P w K mg base "room_behind" 1 RF Cs):Ya P w K mg base CX0 2 f fd SV Cu:=by
 refine F.ok Hf (λvs H Q E h=>?_) (λcdv A outer s H vs Q E hr h=>?_)
 ·obtain⟨m1,m2,a,l,b1,b2,es1,es2,st1,st2,x,y,c,rfl,_⟩:=h;rfl
 obtain⟨m1,m2,a,l,b1,b2,es1,es2,st1,st2,x,y,c,rfl,M1,M2,ha,hx,hy,hc,k⟩:=h;refine⟨_,(Zh (Zq (Wa (Za (Z2 X5 (hr.mono (by decide)) (Za (pv 0) (Za (Zr (Zs (K:=K)) (pv 2) Zg (λ_ _=>rfl)) (Za (pv 3) Zb)))) (Za (Z2 X5 (hr.mono (by decide)) (Za (pv 1) (Za (Zr (Zs (K:=K)) (pv 2) Zg (λ_ _=>rfl)) (Za (pv 3) Zb)))) Zb))))),?_⟩;have eY:∀d∈(one c).cps.toList,d∈l.cps.toList:=λd hd=>by rw[oU.mp hd];exact hc
 refine⟨_,rfl,_,rfl,a,_,_,_,rfl,rfl,SqT.of ha,Zj (j:=0) rfl,_,rfl,m1,l,b1,es1,st1,x,one c,rfl,M1,hx,eY,?_⟩;refine⟨_,rfl,_,rfl,a,_,_,_,rfl,rfl,SqT.of ha,Zj (j:=1) rfl,_,rfl,m2,l,b2,es2,st2,y,one c,rfl,M2,hy,eY,(by show 2≤sizeLine;decide),λr hr=>?_⟩;exact k r _ (Zf hr _) Zc
inductive Zkj(vs:List V)(H:Hp)(Q:VK):Prop
 |mk(m1 m2:Addr)(l:Str)(b1 b2:Nat)(es1 es2:List Nat)(st1 st2:UR)(h1:vs=[.ref m1,.ref m2])(h2:Z7 H m1 l b1 es1 st1)(h3:Z7 H m2 l b2 es2 st2)(h4:Q .non H):Zkj vs H Q
def Zkk:Sp:=λvs H Q _=>Zkj vs H Q
theorem Zbo(F:Fun K "look_fit" "look_fit" Nh f fd)(Z:Blt mg):Ya P w K mg base CX0 1 f fd TV Zkk:=by
 refine F.ok Za1 (λvs H Q E h=>?_) (λcdv A outer s H vs Q E hr h=>?_)
 ·obtain⟨m1,m2,l,b1,b2,es1,es2,st1,st2,rfl,_⟩:=h;rfl
 obtain⟨m1,m2,l,b1,b2,es1,es2,st1,st2,rfl,M1,M2,k⟩:=h
 refine⟨_,(Zh (Xp (Zz Qw (Zr (Zs (K:=K)) (pv 0) Zg (λ_ _=>rfl)) (Zr (Zs (K:=K)) (pv 1) Zg (λ_ _=>rfl)) (Z5 _)) 
    (Zh Od) Yo)),?_⟩
 obtain⟨e1,s1,ras1,h1,_⟩:=M1.lay;obtain⟨e2,s2,cJ,h2,_⟩:=M2.lay;refine⟨_,rfl,m1,_,_,_,rfl,rfl,SqT.of h1,Zj (j:=0) rfl,_,rfl,m2,_,_,_,rfl,rfl,SqT.of h2,Zj (j:=0) rfl,rfl,_,rfl,?_⟩;exact ifN (by simp) k
abbrev Xg:List TQ:=[(⟨143,4,144,52⟩,"both"++".<locals>."++"step"),(⟨146,4,147,56⟩,"both"++".<locals>."++"is_end")]
def Kp2(P1 P2:Addr)(H H':Hp):Prop:=∀b o,b≠P1→b≠P2→H b=some o→H' b=some o
def Zcv(Pb Pl:Addr)(l:Str)(P:TC)(n:Nat)(H:Hp)(Q:VK):Prop:=∀m' stD esD H',Kp2 Pb Pl H H'→Tb Pb Xg H'→Tb Pl Zx H'→LM l P stD esD→stD.length≤n→Rt H' m' l 0 esD stD→Q (.ref m') H'
inductive Zgd(Pb:Addr)(Pl:Addr)(vs:List V)(H:Hp)(Q:VK):Prop
 |mk(m1 m2:Addr)(l:Str)(b1 b2:Nat)(es1 es2:List Nat)(st1 st2:UR)(h1:vs=[.ref m1,.ref m2])(h2:Z7 H m1 l b1 es1 st1)(h3:Z7 H m2 l b2 es2 st2)(h4:st1.length*st2.length≤576)(h5:l.cps.toList.Nodup)(h6:J1 l.cps.toList)(h7:Tb Pb Xg H)(h8:Tb Pl Zx H)(h9:Pb≠Pl)(i0:Zcv Pb Pl l (λcs=>V5 st1 b1 cs∈es1∧V5 st2 b2 cs∈es2) (st1.length*st2.length) H Q):Zgd Pb Pl vs H Q
def Ha(Pb Pl:Addr):Sp:=λvs H Q _=>Zgd Pb Pl vs H Q
theorem Zpb(F:Fun K "both" "both" Sf f fd)(Z:Blt mg)(Vt:fd.code=.ref cw)(CH:W.CodeHd base cw Pb)(BM:Qd mg base)(V0:Cal P w K mg base "look_fit" 1 TV Zkk)
  (CM:∀base,Cal P w K mg base "machine_from" 5 SE (Zf7 P w K mg base 3)) (CB:∀base,Cal P w K mg base "pair_behind" 2 SV Cu) (Vp:Cal P w K mg base "least" 5 SN (Ss Pl)):Ya P w K mg base CX0 6 f fd TV (Ha Pb Pl):=by
 refine F.okC Cy (λvs H Q E h=>?_) (λA outer s H vs Q E hr h=>?_)
 ·obtain⟨m1,m2,l,b1,b2,es1,es2,st1,st2,rfl,_⟩:=h;rfl
 obtain⟨m1,m2,l,b1,b2,es1,es2,st1,st2,rfl,M1,M2,hmul,nd,eU,TB,mL,j5,k⟩:=h
 have Sr:∀x∈Xg,x.1.line=(⟨143,4,144,52⟩:Pos).line→x.1.col=(⟨143,4,144,52⟩:Pos).col→x.2 = "both"++".<locals>."++"step":=λx hx h1 _=>by
  rcases oX.mp hx with z|z
  ·rw[z]
  ·rw[oU.mp z]at h1;exact absurd h1 (by decide)
 have Qi:∀x∈Xg,x.1.line=(⟨146,4,147,56⟩:Pos).line→x.1.col=(⟨146,4,147,56⟩:Pos).col→x.2 = "both"++".<locals>."++"is_end":=λx hx h1 _=>by
  rcases oX.mp hx with z|z
  ·rw[z]at h1;exact absurd h1 (by decide)
  ·rw[oU.mp z]
 let Jb:=Xg
 have Wb:=CM base
 refine⟨_,(Zd (Ys (Z2 V0 (hr.mono (by decide)) (Za (pv 0) (Za (pv 1) Zb)))) 
   (Zd (Ms (i:=2) (L:=Jb) (sc:=Ze Sf) Cy.nd (by rfl) (Or.inl (by rfl)) Vt CH BM (by first|exact oK|exact oQ _ oK) Sr) 
   (Zd (Ms (i:=3) (L:=Jb) (sc:=Ze Sf) Cy.nd (by rfl) (Or.inl (by rfl)) Vt CH BM (by first|exact oK|exact oQ _ oK) Qi) 
   (Zh (Zq (Z2 Vp (hr.mono (by decide)) (Za (Zgw Wb (hr.mono (by decide)) (Za (Zr (Zs (K:=K)) (pv 0) Zg (λ_ _=>rfl)) (Za (Wa (Za (Zr (Zs (K:=K)) (pv 0) Zg (λ_ _=>rfl)) (Za (Zr (Zs (K:=K)) (pv 1) Zg (λ_ _=>rfl)) Zb))) (Za (pv 2) (Za (pv 3) Zb))))) Zb))))))),?_⟩
 refine(let y1:TS:=_;let y6:TS:=Zp _ y1;let y7:TS:=Zp _ y6;(?_:Zp _ y7 _ _ _));have c7:=M1.beg;have q9:=M2.beg;have R1:Oz st1 l.length:=M1.rows;have R2:Oz st2 l.length:=M2.rows
 have tZ:∀{H:Hp}{a:Addr}{xs:List V},Tb Pb Xg H→H a=some (.tup xs)→a≠Pb:=λhT h z=>by
  obtain⟨ps,hp,_⟩:=hT;rw[z,hp]at h;cases h
 refine⟨_,rfl,_,rfl,m1,m2,l,b1,b2,es1,es2,st1,st2,rfl,M1,M2,?_⟩;refine⟨TB,λH1 f1 c1 ct1 Zw4 e1 T1 Zwr xV o0=>?_⟩;refine⟨T1,λH2 f2 c2 qD qM e2 T2 Ztx c9 z6=>?_⟩;have k1:=Tk.t e1 TB;have k2:=k1.trans (Tk.t e2 T1);have vX:=M1.keep k2;have vY:=M2.keep k2;have jK:Tb Pl Zx H2:=Tb.O3 (Tb.O3 mL TB j5.symm e1) T1 j5.symm e2
 have pU:=e2 _ _ (λz=>by
  obtain⟨ps,hp,_⟩:=T1;rw[z,hp]at xV
  cases xV) xV
 have pK:=e2 _ _ (λz=>by
  obtain⟨ps,hp,_⟩:=T1;rw[z,hp]at o0
  cases o0) o0
 obtain⟨eA,sA,rA,g1,g2,g3,g4,g5⟩:=vX.lay;obtain⟨eB,sB,rB,p1,p2,p3,p4,p5⟩:=vY.lay;refine⟨_,rfl,m1,_,_,_,rfl,rfl,SqT.of g1,Zj (j:=0) rfl,_,rfl,m1,_,_,_,rfl,rfl,SqT.of g1,Zj (j:=1) rfl,_,rfl,m2,_,_,_,rfl,rfl,SqT.of p1,Zj (j:=1) rfl,(by show 2≤sizeLine;decide),λa0 eE=>⟨_,rfl,_,rfl,λWh B=>?_⟩⟩;generalize eZ:upd H2 a0 _=H3;have s3:=nS7 eZ eE;have gG:=nU7 eZ;have M13:=vX.same s3;have M23:=vY.same s3;have pV:=s3 _ _ pU;have pY:=s3 _ _ c9;have pL:=s3 _ _ pK;have pO:=s3 _ _ z6;have T3:=T2.same s3;have TL3:=jK.same s3;have Sm:=CB Wh;have y0:∀x,x<st1.length*st2.length→x/st2.length<st1.length∧x%st2.length<st2.length:=λx hx=>⟨ZZ (by rw[Nat.mul_comm];exact hx),XD _ (by lia)⟩;have uF:∀x c,x<st1.length*st2.length→c∈l.cps.toList→gP l st1 st2 x c<st1.length*st2.length:=λx c hx hc=>Og (Uu M1 (y0 x hx).1 hc) (Uu M2 (y0 x hx).2 hc);have kv:∀x,(kP st2.length x).map kV=[nI (x/st2.length),nI (x%st2.length)]:=λx=>rfl;have sQ:(b1*st2.length+b2)/st2.length=b1∧(b1*st2.length+b2)%st2.length=b2:=Wq q9;refine⟨_,_,CM Wh,f1,_,["pair","letter"],f2,_,["pair"],l,a0,b1*st2.length+b2,gP l st1 st2,(λx=>decide (x/st2.length∈es1)&&decide (x%st2.length∈es2)),kP st2.length,(λx=>x<st1.length*st2.length),(λH=>Z7 H m1 l b1 es1 st1∧Z7 H m2 l b2 es2 st2∧H c1=some (CdO c1 ("both"++".<locals>."++"step"))∧H c2=some (CdO c2 ("both"++".<locals>."++"is_end"))),?_,?_,?_,?_,?_,rfl,?_,Og c7 q9,λx hx=>⟨oZ hx hmul,λc hc=>uF x c hx hc⟩,λx y _ _ h=>Zei h,M1.few.2.1,pV,pY,⟨M13,M23,pL,pO⟩,eU,λm3 H4 N e4 hN hM=>?_⟩
 ·refine Ag (N:=["pair","letter","one","other"]) (fv:=[.ref m1,.ref m2]) ⟨rfl,rfl,rfl,by decide,rfl,by decide +kernel,by decide +kernel⟩ (B.cl (sc:=Ze Sf) [0,1] rfl (by decide +kernel) rfl rfl (λj i x a b=>?_) (λj i x a b=>?_)) (λvs H Q E h=>?_) (λvs H Q E h=>?_) (λA outer s H vs Q E hr h=>?_)
  ·match j,a,b with
   | 0,a,b=>cases a;cases b;exact⟨rfl,rfl⟩
   | 1,a,b=>cases a;cases b;exact⟨rfl,rfl⟩
   |j+2,a,_=>simp at a
  ·match j,a,b with
   | 0,a,b=>cases a;cases b;rfl
   | 1,a,b=>cases a;cases b;rfl
   |j+2,a,_=>simp at a
  ·obtain⟨a,x,c,rfl,_⟩:=h;rfl
  ·obtain⟨a,x,c,rfl,_,_,_,h1,h2,_⟩:=h;exact⟨h1,h2.2.2.1⟩
  ·obtain⟨a,x,c,rfl,ha,hx,hc,h1,⟨q1,q2,_,_⟩,k⟩:=h;refine⟨_,(Zh (Zq (Z2 Sm (hr.mono (by decide)) (Za (pv 2) (Za (pv 3) (Za (pv 0) (Za (pv 1) Zb))))))),?_⟩;refine⟨_,rfl,_,rfl,_,rfl,_,rfl,m1,m2,a,l,b1,b2,es1,es2,st1,st2,x/st2.length,x%st2.length,c,rfl,q1,q2,ha,(y0 x hx).1,(y0 x hx).2,hc,λr H' e' v9=>k r H' e' ?_⟩;rw[kv];have hd:=Wq (x:=stp l st1 (x/st2.length) c) (Uu M2 (y0 x hx).2 hc);show H' r=some (.tup [nI (gP l st1 st2 x c/st2.length),nI (gP l st1 st2 x c%st2.length)]);unfold gP;rw[hd.1,hd.2];exact v9
 ·exact .all λus hl=>match us,hl with|[_,_],_=>rfl
 ·refine Ag (N:=["pair","one","other"]) (fv:=[.ref m1,.ref m2]) ⟨rfl,rfl,rfl,by decide,rfl,by decide +kernel,by decide +kernel⟩ (B.cl (sc:=Ze Sf) [0,1] rfl (by decide +kernel) rfl rfl (λj i x a b=>?_) (λj i x a b=>?_)) (λvs H Q E h=>?_) (λvs H Q E h=>?_) (λA outer s H vs Q E hr h=>?_)
  ·match j,a,b with
   | 0,a,b=>cases a;cases b;exact⟨rfl,rfl⟩
   | 1,a,b=>cases a;cases b;exact⟨rfl,rfl⟩
   |j+2,a,_=>simp at a
  ·match j,a,b with
   | 0,a,b=>cases a;cases b;rfl
   | 1,a,b=>cases a;cases b;rfl
   |j+2,a,_=>simp at a
  ·obtain⟨a,x,rfl,_⟩:=h;rfl
  ·obtain⟨a,x,rfl,_,_,h1,h2,_⟩:=h;exact⟨h1,h2.2.2.2⟩
  ·obtain⟨a,x,rfl,ha,hx,h1,⟨q1,q2,_,_⟩,k⟩:=h;refine⟨_,(Zh (Zq (Ba (Wf (Nv (K:=K)) (Zr (Zs (K:=K)) (pv 0) Zg (λ_ _=>rfl)) (Zr (Zs (K:=K)) (pv 1) Zg (λ_ _=>rfl)) (by with_unfolding_all rfl)) (Nq (Wf (Nv (K:=K)) (Zr (Zs (K:=K)) (pv 0) Zg (λ_ _=>rfl)) (Zr (Zs (K:=K)) (pv 2) Zg (λ_ _=>rfl)) (by with_unfolding_all rfl)))))),?_⟩;obtain⟨eA,sA,rA,g1,g2,g3,g4,g5⟩:=q1.lay;obtain⟨eB,sB,rB,p1,p2,p3,p4,p5⟩:=q2.lay;have uA:H a=some (.tup [nI (x/st2.length),nI (x%st2.length)]):=ha;have i1:inV (nI (x/st2.length)) (es1.map nI)=decide (x/st2.length∈es1):=Q5 _ es1;have i2:inV (nI (x%st2.length)) (es2.map nI)=decide (x%st2.length∈es2):=Q5 _ es2;have kk:Q (.bl (decide (x/st2.length∈es1)&&decide (x%st2.length∈es2))) H:=k _ (Zl.refl _);refine⟨_,rfl,a,_,_,_,rfl,rfl,SqT.of uA,Zj (j:=0) rfl,_,rfl,m1,_,_,_,rfl,rfl,SqT.of g1,Zj (j:=2) rfl,eA,_,rfl,.inr (SqT.of g2),rfl,Tx es1,_,rfl,?_⟩;rw[i1];refine Rk (λc=>?_) (λc=>?_)
   ·have c':decide (x/st2.length∈es1)=true:=c;refine⟨_,rfl,a,_,_,_,rfl,rfl,SqT.of uA,Zj (j:=1) rfl,_,rfl,m2,_,_,_,rfl,rfl,SqT.of p1,Zj (j:=2) rfl,eB,_,rfl,.inr (SqT.of p2),rfl,Tx es2,?_⟩;rw[c',←i2]at kk;exact kk
   ·have c':decide (x/st2.length∈es1)=false:=eq_false_of_ne_true c;rw[c']at kk;exact kk
 ·exact .all λus hl=>match us,hl with|[_],_=>rfl
 ·exact λH1 H2 e ⟨a1,a2,a3,a4⟩=>⟨a1.same e,a2.same e,e _ _ a3,e _ _ a4⟩
 ·rw[kv,sQ.1,sQ.2];exact gG
 ·have T4:=T3.same e4;have vZ:=TL3.same e4;have hlen:∀x,x<st1.length*st2.length→(TL l (gP l st1 st2) x).length=l.length:=λx _=>by unfold TL;rw[oB];exact len_list l
  have kJ:∀x,x<st1.length*st2.length→∀y∈TL l (gP l st1 st2) x,y<st1.length*st2.length:=λx hx y hy=>by
   obtain⟨c,hc,rfl⟩:=lF.mp hy;exact uF x c hx hc
  have mT:b1*st2.length+b2<st1.length*st2.length:=Og c7 q9;have hR:=El (T:=TL l (gP l st1 st2)) (pl:=λx=>x<st1.length*st2.length) mT hlen kJ hN;have Zb7:=Hr (k:=id) (T:=TL l (gP l st1 st2)) (b:=b1*st2.length+b2) N;have hol:(Zm id (TL l (gP l st1 st2)) (b1*st2.length+b2) N).length≤st1.length*st2.length:=U1 (P:=λx=>x<st1.length*st2.length) mT kJ (λx hx=>hx) N;have ht:∀cs,(∀c∈cs,c<l.length)→_:=λcs hc=>Ku (e:=λx=>decide (x/st2.length∈es1)&&decide (x%st2.length∈es2)) (T:=TL l (gP l st1 st2)) (pl:=λx=>x<st1.length*st2.length) mT hlen kJ hN cs 0 _ hc Zb7.2;have n6:(Yf id (TL l (gP l st1 st2)) (Zm id (TL l (gP l st1 st2)) (b1*st2.length+b2) N)).length=(Zm id (TL l (gP l st1 st2)) (b1*st2.length+b2) N).length:=by unfold Yf;rw[oB]
  have d8:(Xh (Zm id (TL l (gP l st1 st2)) (b1*st2.length+b2) N) λx=>decide (x/st2.length∈es1)&&decide (x%st2.length∈es2)).length≤(Zm id (TL l (gP l st1 st2)) (b1*st2.length+b2) N).length:=by
   unfold Xh;exact lI (aX _ _) (by rw[lO];exact oG _)
  have uL:=Zb7.1;refine⟨m3,l,0,_,_,rfl,⟨hM,⟨M1.few.1,M1.few.2.1,by lia⟩,by lia,hR⟩,by lia,nd,vZ,λm' stD esD H5 e5 jL D hs hL=>?_⟩;have T5:=Tb.O3 T4 vZ j5 e5;have kp:Kp2 Pb Pl H H5:=λb o n1 n2 h=>e5 _ _ n2 (e4 _ _ (s3 _ _ (e2 _ _ n1 (e1 _ _ n1 h))));refine k m' stD esD H5 kp T5 jL (D.Ai λcs hc=>?_) (by lia) hL;rw[ht cs hc,Zhe nd R1 R2 cs b1 b2 c7 q9 hc,lQ,decide_eq_true_eq,decide_eq_true_eq];have hd:=Wq (x:=V5 st1 b1 cs) (Cj R2 cs b2 q9 hc);rw[hd.1,hd.2]
abbrev X6:List TQ:=[(⟨131,35,131,93⟩,"parting_text"++".<locals>."++"<lambda>")]
theorem Zm4{l:Str}{st1 st2:UR}{H:Hp}{m1 m2:Addr}{b1 b2:Nat}{es1 es2:List Nat}(M1:Z7 H m1 l b1 es1 st1)(M2:Z7 H m2 l b2 es2 st2):∀(t:List Nat) (x y:Nat),x<st1.length→y<st2.length→(∀c∈t,c∈l.cps.toList)→t.foldl (gP l st1 st2) (x*st2.length+y)=way l st1 x t*st2.length+way l st2 y t
 |[],_,_,_,_,_=>rfl
 |c :: t,x,y,hx,hy,h=>by
  have hc:=h c oK;show t.foldl (gP l st1 st2) (gP l st1 st2 (x*st2.length+y) c)=_;unfold gP;rw[(Wq hy).1,(Wq hy).2];exact Zm4 M1 M2 t _ _ (Uu M1 hx hc) (Uu M2 hy hc) λd hd=>h d (oQ _ hd)
def Parts(l:Str)(b1:Nat)(es1:List Nat)(st1:UR)(b2:Nat)(es2:List Nat)(st2:UR)(t:List Nat):Prop:=¬ (way l st1 b1 t∈es1↔way l st2 b2 t∈es2)
def Vz(l:Str)(P:TC)(v:V):Prop:=(v=.non∧∀w:List Nat,(∀c∈w,c∈l.cps.toList)→¬ P w)∨∃t:List Nat,v=.str (sOf t)∧(∀c∈t,c∈l.cps.toList)∧t.length≤400000∧P t∧∀w:List Nat,(∀c∈w,c∈l.cps.toList)→P w→Sl t w
theorem Vz.uniq{P:TC}{v':V}(h:Vz l P v)(h':Vz l P' v')(q:∀w:List Nat,(∀c∈w,c∈l.cps.toList)→(P w↔P' w)):v=v':=by
 rcases h with ⟨rfl,h⟩|⟨t,rfl,h1,_,h2,h3⟩<;>rcases h' with ⟨rfl,h'⟩|⟨t',rfl,gF,_,zL,h3'⟩
 ·rfl
 ·exact absurd ((q t' gF).mpr zL) (h t' gF)
 ·exact absurd ((q t h1).mp h2) (h' t h1)
 ·rw[(h3 t' gF ((q t' gF).mpr zL)).anti (h3' t h1 ((q t h1).mp h2))]
theorem Nr{st1 st2:UR}{m1 m2:Addr}{b1 b2:Nat}{es1 es2:List Nat}(M1:Z7 H m1 l b1 es1 st1)(M2:Z7 H m2 l b2 es2 st2){w:List Nat}(hw:∀c∈w,c∈l.cps.toList):
  (¬ (w.foldl (gP l st1 st2) (b1*st2.length+b2)/st2.length∈es1↔w.foldl (gP l st1 st2) (b1*st2.length+b2)%st2.length∈es2))↔Parts l b1 es1 st1 b2 es2 st2 w:=by
 rw[Zm4 M1 M2 w _ _ M1.beg M2.beg hw];have hd:=Wq (x:=way l st1 b1 w) (Zcy M2 w b2 M2.beg hw);rw[hd.1,hd.2];exact VB
inductive Zap(Pp:Addr)(vs:List V)(H:Hp)(Q:VK):Prop
 |mk(m1 m2:Addr)(l:Str)(b1 b2:Nat)(es1 es2:List Nat)(st1 st2:UR)(h1:vs=[.ref m1,.ref m2])(h2:Z7 H m1 l b1 es1 st1)(h3:Z7 H m2 l b2 es2 st2)(h4:st1.length*st2.length≤400000)(h5:J1 l.cps.toList)(h6:Tb Pp X6 H)(h7:∀v H',Ve Pp H H'→Tb Pp X6 H'→Vz l (Parts l b1 es1 st1 b2 es2 st2) v→Q v H'):Zap Pp vs H Q
def Oa(Pp:Addr):Sp:=λvs H Q _=>Zap Pp vs H Q
theorem Jm(F:Fun K "parting_text" "parting_text" Yu f fd)(Z:Blt mg){Pp:Addr}(Vt:fd.code=.ref cw)(CH:W.CodeHd base cw Pp)(BM:Qd mg base)(V0:Cal P w K mg base "look_fit" 1 TV Zkk)
  (CW:∀base,Cal P w K mg base "walked" 4 SS (Zfy P w K mg base 3)) (CB:∀base,Cal P w K mg base "pair_behind" 2 SV Cu):Ya P w K mg base CX0 5 f fd TV (Oa Pp):=by
 refine F.okC Wv (λvs H Q E h=>?_) (λA outer s H vs Q E hr h=>?_)
 ·obtain⟨m1,m2,l,b1,b2,es1,es2,st1,st2,rfl,_⟩:=h;rfl
 obtain⟨m1,m2,l,b1,b2,es1,es2,st1,st2,rfl,M1,M2,hmul,hR,TP,kt⟩:=h;have Zj3:∀x∈X6,x.1.line=(⟨131,35,131,93⟩:Pos).line→x.1.col=(⟨131,35,131,93⟩:Pos).col→x.2 = "parting_text"++".<locals>."++"<lambda>":=λx hx _ _=>by rw[oU.mp hx]
 let Jb:=X6
 have Te:=CW base
 refine⟨_,(Zd (Ys (Z2 V0 (hr.mono (by decide)) (Za (pv 0) (Za (pv 1) Zb)))) 
   (Zd (Zn (i:=2) Wv.nd (by rfl) (Or.inl (by rfl)) (Wa (Za (Zr (Zs (K:=K)) (pv 0) Zg (λ_ _=>rfl)) (Za (Zr (Zs (K:=K)) (pv 1) Zg (λ_ _=>rfl)) Zb)))) 
   (Zd (Zn (i:=3) Wv.nd (by rfl) (Or.inl (by rfl)) (Zgw Te (hr.mono (by decide)) (Za (Zr (Zs (K:=K)) (pv 0) Zg (λ_ _=>rfl)) (Za (pv 2) (Za (Zdx (L:=Jb) (sc:=Ze Yu) Vt CH BM (by first|exact oK|exact oQ _ oK) Zj3) Zb))))) 
   (Zd (Xq lW (by rfl) (Ho (pv 3)) (Zo (i:=4) Wv.nd (by rfl) (Or.inl (by rfl))) 
    (Zh (Xp (Zz Qw (Wf (Nv (K:=K)) (Zr (Zs (K:=K)) (pv 4) Zg (λ_ _=>rfl)) (Zr (Zs (K:=K)) (pv 0) Zg (λ_ _=>rfl)) (by with_unfolding_all rfl)) (Wf (Nv (K:=K)) (Zr (Zs (K:=K)) (pv 4) Zg (λ_ _=>rfl)) (Zr (Zs (K:=K)) (pv 1) Zg (λ_ _=>rfl)) (by with_unfolding_all rfl)) (Z5 _)) 
     (Zh (Zq (Ts (Ug hr) (pv 3) (pv 4) (λ_ _=>rfl)))) Yo))) 
   (Zh (Zq Zlj)))))),?_⟩
 refine(let y1:TS:=_;let y6:TS:=Zp _ y1;let y7:TS:=Zp _ y6;let m7:TS:=Zp _ y7;(?_:Zp _ m7 _ _ _));have c7:=M1.beg;have q9:=M2.beg;refine⟨_,rfl,_,rfl,m1,m2,l,b1,b2,es1,es2,st1,st2,rfl,M1,M2,?_⟩;obtain⟨eA,sA,rA,g1,g2,g3,g4,g5⟩:=M1.lay;obtain⟨eB,sB,rB,p1,p2,p3,p4,p5⟩:=M2.lay;refine⟨_,rfl,m1,_,_,_,rfl,rfl,SqT.of g1,Zj (j:=1) rfl,_,rfl,m2,_,_,_,rfl,rfl,SqT.of p1,Zj (j:=1) rfl,(by show 2≤sizeLine;decide),λa0 eE=>?_⟩;generalize eZ:upd H a0 _=H1;have s1:=nS7 eZ eE;have h1a:=nU7 eZ;have jM:=TP.same s1;refine⟨_,rfl,m1,_,_,_,rfl,rfl,SqT.of (s1 _ _ g1),Zj (j:=0) rfl,_,rfl,jM,λH2 f2 c2 qD e2 TP2 Ztx c9 z6 Wh B=>?_⟩;have k2:=(Tk.same s1).trans (Tk.t e2 jM);have vX:=M1.keep k2;have vY:=M2.keep k2;have h2a:=Tk.t e2 jM _ _ h1a;have Sm:=CB Wh;have y0:∀x,x<st1.length*st2.length→x/st2.length<st1.length∧x%st2.length<st2.length:=λx hx=>⟨ZZ (by rw[Nat.mul_comm];exact hx),XD _ (by lia)⟩;have uF:∀x c,x<st1.length*st2.length→c∈l.cps.toList→gP l st1 st2 x c<st1.length*st2.length:=λx c hx hc=>Og (Uu M1 (y0 x hx).1 hc) (Uu M2 (y0 x hx).2 hc);have kv:∀x,(kP st2.length x).map kV=[nI (x/st2.length),nI (x%st2.length)]:=λx=>rfl;have sQ:(b1*st2.length+b2)/st2.length=b1∧(b1*st2.length+b2)%st2.length=b2:=Wq q9;refine⟨_,_,CW Wh,f2,_,["pair","letter"],l,a0,b1*st2.length+b2,gP l st1 st2,kP st2.length,(λx=>x<st1.length*st2.length),(λH=>Z7 H m1 l b1 es1 st1∧Z7 H m2 l b2 es2 st2∧H c2=some (CdO c2 ("parting_text"++".<locals>."++"<lambda>"))),?_,?_,?_,rfl,?_,Og c7 q9,λx hx=>⟨oZ hx hmul,λc hc=>uF x c hx hc⟩,λx y _ _ h=>Zei h,c9,⟨vX,vY,z6⟩,hR,λd H3 N hd e3 T3 hN=>?_⟩
 ·refine Zeg (N:=["pair","letter","one","other"]) (fv:=[.ref m1,.ref m2]) ⟨rfl,rfl,rfl,by decide,rfl,by decide +kernel,by decide +kernel⟩ (B.cl (sc:=Ze Yu) [0,1] rfl (by decide +kernel) rfl rfl (λj i x a b=>?_) (λj i x a b=>?_)) (λvs H Q E h=>?_) (λvs H Q E h=>?_) (λA outer s H vs Q E hr h=>?_)
  ·match j,a,b with
   | 0,a,b=>cases a;cases b;exact⟨rfl,rfl⟩
   | 1,a,b=>cases a;cases b;exact⟨rfl,rfl⟩
   |j+2,a,_=>simp at a
  ·match j,a,b with
   | 0,a,b=>cases a;cases b;rfl
   | 1,a,b=>cases a;cases b;rfl
   |j+2,a,_=>simp at a
  ·obtain⟨a,x,c,rfl,_⟩:=h;rfl
  ·obtain⟨a,x,c,rfl,_,_,_,h1,h2,_⟩:=h;exact⟨h1,h2.2.2⟩
  ·obtain⟨a,x,c,rfl,ha,hx,hc,h1,⟨q1,q2,_⟩,k⟩:=h;refine⟨_,(Z2 Sm (hr.mono (by decide)) (Za (pv 2) (Za (pv 3) (Za (pv 0) (Za (pv 1) Zb))))),?_⟩;refine⟨_,rfl,_,rfl,_,rfl,_,rfl,m1,m2,a,l,b1,b2,es1,es2,st1,st2,x/st2.length,x%st2.length,c,rfl,q1,q2,ha,(y0 x hx).1,(y0 x hx).2,hc,λr H' e' v9=>k r H' e' ?_⟩;rw[kv];have hd:=Wq (x:=stp l st1 (x/st2.length) c) (Uu M2 (y0 x hx).2 hc);show H' r=some (.tup [nI (gP l st1 st2 x c/st2.length),nI (gP l st1 st2 x c%st2.length)]);unfold gP;rw[hd.1,hd.2];exact v9
 ·exact .all λus hl=>match us,hl with|[_,_],_=>rfl
 ·exact λH1 H2 e ⟨a1,a2,a3⟩=>⟨a1.same e,a2.same e,e _ _ a3⟩
 ·rw[kv,sQ.1,sQ.2];exact h2a
 have TP3:=TP2.same e3;have zG:Ve Pp H H3:=(s1.t.trans e2).trans e3.t;have k3:=k2.trans (Tk.same e3)
 have oP:∀y∈Zm id (TL l (gP l st1 st2)) (b1*st2.length+b2) N,y<st1.length*st2.length:=Wt (P:=λx=>x<st1.length*st2.length) (Og c7 q9) (λx hx y hy=>by
  obtain⟨c,hc,rfl⟩:=lF.mp hy
  exact uF x c hx hc) N
 have oN:(Zm id (TL l (gP l st1 st2)) (b1*st2.length+b2) N).Nodup:=by
  have:=Tt (k:=id) (T:=TL l (gP l st1 st2)) (b:=b1*st2.length+b2) N;rwa[bZ]at this
 generalize Zm id (TL l (gP l st1 st2)) (b1*st2.length+b2) N=o at T3 hN oP oN;obtain⟨kvs,T,xO,sW,hkv,B⟩:=T3
 have eF:kvs.length=o.length:=by
  have:=congrArg List.length sW;rwa[oB,oB]at this
 refine⟨_,rfl,d,kvs,rfl,.inl ⟨xO,λob bs KB=>?_⟩⟩
 have sR:H d=none:=by
  cases hc:H d with
  |none=>rfl
  |some u=>
   by_cases z:d=Pp
   ·obtain⟨ps,hp,_⟩:=TP2;rw[z,hp]at hd;cases hd
   ·rw[e2 _ _ z (s1 _ _ hc)]at hd;cases hd
 have mH:=Tk.dct xO (.frz ob (.dT kvs))
 have e4:Ve Pp H (upd H3 d (.frz ob (.dT kvs))):=λb u n h=>by
  rw[Zk (Zi h sR)];exact zG _ _ n h
 have jN:Tb Pp X6 (upd H3 d (.frz ob (.dT kvs))):=by
  obtain⟨ps,q1,q2,q3⟩:=TP3;exact⟨ps,(Zk (Wu q1 xO λz=>nomatch z)).trans q1,q2,λx hx=>(q3 x hx).imp id λ⟨c,a,b⟩=>⟨c,a,(Zk (Wu b xO λz=>nomatch z)).trans b⟩⟩
 have mN:upd H3 d (.frz ob (.dT kvs)) d=_:=Zc;have k4:=k3.trans mH;generalize upd H3 d _=H4 at e4 jN mN k4 KB;refine Dy (a:=d) (o:=ob) (kvs:=kvs) (bs:=bs) (λi σ H5=>∃v4,σ=[some (.ref m1),some (.ref m2),some (.ref a0),some (.ref d),v4]∧H5=H4∧∀(k x:Nat),k<i→o[k]?=some x→¬ ¬ (x/st2.length∈es1↔x%st2.length∈es2)) ⟨none,rfl,rfl,λk x h _=>absurd h (XJ _)⟩ (λi σ H5 _ h=>?_) ?_ ?_
 ·obtain⟨_,_,rfl,_⟩:=h;exact mN
 ·rintro i ba σ H5 hq ⟨v4,rfl,rfl,eG⟩;have hi:i<o.length:=by rw[←eF,←KB.1];exact(oF.mp hq).1
  have kG:o[i]?=some o[i]:=oC hi;generalize o[i]=x at kG;have hik:i<kvs.length:=by lia
  have e1:kvs[i]?=some (kvs[i].1,kvs[i].2):=oC hik;have yK:(kvs.map (·.1))[i]?=some (kP st2.length x):=by rw[sW,oH,kG];rfl
  rw[oH,e1]at yK;have e3':kvs[i].1=kP st2.length x:=Option.some.inj yK;have xT:=KB.2 i ba _ _ hq e1;rw[e3']at xT;have Zwt:H5 ba=some (.tup [nI (x/st2.length),nI (x%st2.length)]):=xT;obtain⟨t,ht,hz⟩:=Zgx hkv e1;obtain⟨hzw,hzc,kQ⟩:=B.way i x t kG ht;have hxp:=oP x (oR kG);have i1:inV (nI (x/st2.length)) (es1.map nI)=decide (x/st2.length∈es1):=Q5 _ es1;have i2:inV (nI (x%st2.length)) (es2.map nI)=decide (x%st2.length∈es2):=Q5 _ es2;refine⟨_,rfl,ba,_,_,_,rfl,rfl,SqT.of Zwt,Zj (j:=0) rfl,_,rfl,m1,_,_,_,rfl,rfl,SqT.of (k4 _ _ g1),Zj (j:=2) rfl,eA,_,rfl,.inr (SqT.of (k4 _ _ g2)),rfl,Tx es1,?_⟩;refine⟨_,rfl,ba,_,_,_,rfl,rfl,SqT.of Zwt,Zj (j:=1) rfl,_,rfl,m2,_,_,_,rfl,rfl,SqT.of (k4 _ _ p1),Zj (j:=2) rfl,eB,_,rfl,.inr (SqT.of (k4 _ _ p2)),rfl,Tx es2,rfl,_,rfl,?_⟩;rw[i1,i2];refine Rk (λc=>?_) (λc=>?_)
  ·have hv:Yz kvs (kP st2.length x)=some kvs[i].2:=by
    obtain⟨j,v,q1,q2,q3⟩:=S1 (pl:=λx=>x<st1.length*st2.length) (λx y _ _ h=>Zei h) hxp sW oP (oR kG);obtain⟨hj,ej⟩:=oF.mp q2;obtain⟨u6,ei⟩:=oF.mp kG;have j1:=iA oN j hj;have j2:=iA oN i u6;rw[ej]at j1;rw[ei,j1]at j2;subst j2;rw[e1]at q1;rw[q3];exact congrArg some (congrArg Prod.snd (Option.some.inj q1)).symm
   refine⟨_,rfl,_,rfl,d,kvs[i].2,rfl,?_,?_⟩
   ·rw[←hv];exact .inr ⟨kvs,kP st2.length x,ba,.inr ⟨ob,mN⟩,rfl,xT,rfl⟩
   ·rw[hz]
    have hpx:¬ (x/st2.length∈es1↔x%st2.length∈es2):=λq=>by
     have c':(!decide (V.bl (decide (x/st2.length∈es1))=V.bl (decide (x%st2.length∈es2))))=true:=c;have e:decide (x/st2.length∈es1)=decide (x%st2.length∈es2):=decide_eq_decide.mpr q;rw[e]at c';simp at c'
    have hol:o.length≤400000:=by
     have:=Qy (st1.length*st2.length) o oN λy hy=>oP y hy;lia
    refine kt _ H5 e4 jN (.inr ⟨t,rfl,hzc,by lia,(Nr M1 M2 hzc).mp (by rw[hzw];exact hpx),λw hw hp=>B.first (p:=λx=>¬ (x/st2.length∈es1↔x%st2.length∈es2)) (.inr hN) ht eG w hw ((Nr M1 M2 hw).mpr hp)⟩)
  ·refine⟨_,rfl,rfl,λk y hk hy=>?_⟩
   by_cases z:k=i
   ·subst z;rw[kG]at hy;cases hy;intro q;have c':¬ (!decide (V.bl (decide (x/st2.length∈es1))=V.bl (decide (x%st2.length∈es2))))=true:=c;refine c' ?_;have e:¬ decide (x/st2.length∈es1)=decide (x%st2.length∈es2):=λe=>q (decide_eq_decide.mp e);rw[Bool.not_eq_true',decide_eq_false_iff_not];exact λz=>e (V.bl.inj z)
   ·exact eG k y (by lia) hy
 ·rintro σ H5 ⟨v4,rfl,rfl,eG⟩;refine kt _ _ e4 jN (.inl ⟨rfl,λw hw hp=>?_⟩);refine B.never (p:=λx=>¬ (x/st2.length∈es1↔x%st2.length∈es2)) hN (λx hx=>?_) w hw ((Nr M1 M2 hw).mpr hp);obtain⟨k,hk,e⟩:=VN.mp hx;exact eG k x (by lia) (by rw[oC hk,e])
inductive Wi where
 |lf (b:Bool)
 |has (z:Str)
 |nt (x:Wi)
 |bi (b:Bool) (x y:Wi)
def Wi.nm:Wi→Str
 |.lf b=>if b then "always" else "never"
 |.has _=>"has"
 |.nt _=>"not"
 |.bi b _ _=>if b then "and" else "or"
def Wi.hd:Wi→List V
 |.lf b=>[.str (Wi.lf b).nm]
 |.has z=>[.str "has",.str z]
 |.nt _=>[.str "not"]
 |.bi b x y=>[.str (Wi.bi b x y).nm]
def Wi.kd:Wi→List Wi
 |.lf _=>[]
 |.has _=>[]
 |.nt x=>[x]
 |.bi _ x y=>[x,y]
def Wi.sz:Wi→Nat
 |.lf _=>1
 |.has _=>1
 |.nt x=>x.sz+1
 |.bi _ x y=>x.sz+y.sz+1
def Wi.dep:Wi→Nat
 |.lf _=>0
 |.has _=>0
 |.nt x=>x.dep+1
 |.bi _ x y=>max x.dep y.dep+1
def Wi.ok(p:RQ):Wi→Prop
 |.lf _=>True
 |.has z=>p z
 |.nt x=>x.ok p
 |.bi _ x y=>x.ok p∧y.ok p
def Wi.pre:Wi→List Wi
 |.lf b=>[.lf b]
 |.has z=>[.has z]
 |.nt x=>.nt x :: x.pre
 |.bi b x y=>.bi b x y :: (x.pre++y.pre)
def Wi.wd:Wi→Option Str
 |.has z=>some z
 |_=>none
def Wi.wds(W:Wi):List Str:=W.pre.filterMap Wi.wd
theorem Wi.Zdb(W:Wi):0<W.sz:=by cases W<;>simp[Wi.sz]
theorem Wi.Zdt(W:Wi):W.pre=W :: W.kd.flatMap Wi.pre:=by
 cases W<;>simp[Wi.pre,Wi.kd]
theorem Wi.Oe(W:Wi):W.pre.length=W.sz:=by
 induction W with
 |lf b=>rfl
 |has z=>rfl
 |nt x ih=>simp[Wi.pre,Wi.sz,ih]
 |bi b x y p0 p9=>simp[Wi.pre,Wi.sz,p0,p9]
theorem Wi.Zfm(W:Wi):W.wds.length≤W.sz:=by
 rw[←W.Oe];exact List.length_filterMap_le _ _
theorem Wi.Zcw(x:Wi):(Wi.nt x).wds=x.wds:=by
 show (Wi.nt x :: x.pre).filterMap Wi.wd=_;rw[List.filterMap_cons_none rfl];rfl
theorem Wi.Zcx(b:Bool)(x y:Wi):(Wi.bi b x y).wds=x.wds++y.wds:=by
 show (Wi.bi b x y :: (x.pre++y.pre)).filterMap Wi.wd=_;rw[List.filterMap_cons_none rfl,List.filterMap_append];rfl
theorem Wi.Be{p:RQ}{W:Wi}(h:W.ok p):∀z∈W.wds,p z:=by
 induction W with
 |lf b=>intro z hz;simp[Wi.wds,Wi.pre,Wi.wd]at hz
 |has y=>intro z hz;simp[Wi.wds,Wi.pre,Wi.wd]at hz;rw[hz];exact h
 |nt x ih=>intro z hz;rw[Wi.Zcw]at hz;exact ih h z hz
 |bi b x y p0 p9=>
  intro z hz;rw[Wi.Zcx]at hz
  rcases iD.mp hz with e|e
  ·exact p0 h.1 z e
  ·exact p9 h.2 z e
theorem Wi.Zto(W:Wi):(W.kd.map Wi.sz).sum+1=W.sz:=by
 cases W<;>simp[Wi.kd,Wi.sz]<;>lia
inductive WAt(H:Hp):V→Wi→Prop where
 |mk{a:Addr}{vs:List V}{W:Wi}(h:H a=some (.tup (W.hd++vs)))(hl:vs.length=W.kd.length)(hk:∀(i:Nat) v x,vs[i]?=some v→W.kd[i]?=some x→WAt H v x):WAt H (.ref a) W
theorem WAt.keep(k:Tk H H'){W:Wi}(h:WAt H v W):WAt H' v W:=by
 induction h with
 |mk h hl _ ih=>exact .mk (k _ _ h) hl ih
def Ws(H:Hp)(vs:List V)(ws:List Wi):Prop:=vs.length=ws.length∧∀(i:Nat) v x,vs[i]?=some v→ws[i]?=some x→WAt H v x
theorem Ws.keep{H H':Hp}(k:Tk H H'){vs:List V}{ws:List Wi}(h:Ws H vs ws):Ws H' vs ws:=⟨h.1,λi v x a b=>(h.2 i v x a b).keep k⟩
theorem Ws.nil:Ws H [] []:=⟨rfl,λi v x a=>by simp at a⟩
theorem Ws.app{xs:List Wi}(a:Ws H vs ws)(b:Ws H us xs):Ws H (vs++us) (ws++xs):=by
 refine⟨by rw[oV,oV,a.1,b.1],λi v x h1 h2=>?_⟩
 by_cases c:i<vs.length
 ·rw[lB c]at h1;rw[lB (by rw[←a.1];exact c)]at h2;exact a.2 i v x h1 h2
 ·rw[lK (by lia)]at h1;rw[lK (by rw[←a.1];lia),←a.1]at h2;exact b.2 _ v x h1 h2
theorem Ws.one{x:Wi}(h:WAt H v x):Ws H [v] [x]:=by
 refine⟨rfl,λi u y a b=>?_⟩
 cases i with
 |zero=>cases a;cases b;exact h
 |succ i=>simp at a
theorem Ws.rev(h:Ws H vs ws):Ws H vs.reverse ws.reverse:=by
 refine⟨by rw[iW,iW,h.1],λi v x a b=>?_⟩
 have hi:i<vs.length:=by
  have:=(oF.mp a).1;rwa[iW]at this
 rw[WW hi]at a;rw[WW (by rw[←h.1];exact hi),←h.1]at b;exact h.2 _ v x a b
theorem WAt.see{W:Wi}(h:WAt H v W):∃a vs,v=.ref a∧H a=some (.tup (W.hd++vs))∧Ws H vs W.kd:=by
 cases h with
 |mk h hl hk=>exact⟨_,_,rfl,h,hl,hk⟩
theorem Lv{W:Wi}(h:H a=some (.tup (W.hd++us)))(k:Ws H us W.kd):WAt H (.ref a) W:=.mk h k.1 k.2
theorem Ek{G:Prop}(h:B→G)(b:B):G:=h b
def Q6:List QB:=[(Sum.inr "always",.int 0),(Sum.inr "never",.int 0),(Sum.inr "has",.int 0),(Sum.inr "not",.int 1),(Sum.inr "and",.int 2),(Sum.inr "or",.int 2)]
theorem Zmo(W:Wi):Yz Q6 (Sum.inr W.nm)=some (.int (W.kd.length:Int)):=by
 cases W with
 |lf b=>cases b<;>decide +kernel
 |has z=>exact(by decide +kernel:Yz Q6 (Sum.inr "has")=some (.int 0))
 |nt x=>exact(by decide +kernel:Yz Q6 (Sum.inr "not")=some (.int 1))
 |bi b x y=>
  cases b
  ·exact(by decide +kernel:Yz Q6 (Sum.inr "or")=some (.int 2))
  ·exact(by decide +kernel:Yz Q6 (Sum.inr "and")=some (.int 2))
theorem Zcb(W:Wi):W.hd[0]?=some (.str W.nm):=by cases W<;>rfl
theorem Zl4{W:Wi}(h:W.wd=none):decide (V.str W.nm=V.str "has")=false:=by
 cases W with
 |lf b=>cases b<;>decide +kernel
 |has z=>cases h
 |nt x=>exact(by decide +kernel:decide (V.str "not"=V.str "has")=false)
 |bi b x y=>
  cases b
  ·exact(by decide +kernel:decide (V.str "or"=V.str "has")=false)
  ·exact(by decide +kernel:decide (V.str "and"=V.str "has")=false)
theorem Zm0(W:Wi):0<W.hd.length:=by cases W<;>simp[Wi.hd]
inductive Zau(vs:List V)(H:Hp)(Q:VK):Prop
 |mk(W:Wi)(a:Addr)(us:List V)(h1:vs=[.ref a])(h2:H a=some (.tup (W.hd++us)))(h3:Ws H us W.kd)(h4:∀q,H q=none→Q (.ref q) (upd H q (.tup us))):Zau vs H Q
def Zga:Sp:=λvs H Q _=>Zau vs H Q
theorem Znw{xs:List V}:Pc (xs++us) (some (xs.length:Int)) none=us:=by
 unfold Pc;rw[HT.Mn];show ((xs++us).drop (min xs.length (xs++us).length)).take ((xs++us).length-min xs.length (xs++us).length)=us;rw[oV,show min xs.length (xs.length+us.length)=xs.length by lia,List.drop_left' rfl,aR (by lia)]
theorem Znx{xs:List V}:Pc (xs++us) none (some (xs.length:Int))=xs:=by
 unfold Pc;rw[HT.Mn];show ((xs++us).drop 0).take (min xs.length (xs++us).length-0)=xs;rw[oV,show min xs.length (xs.length+us.length)=xs.length by lia,XU,UO,List.take_left' rfl]
theorem Jo(F:Fun K "inner_wishes" "inner_wishes" Ux f fd)(Z:Blt mg)(Ot:mg "INNER"=some (.ref aI))(dI:DKn P w K aI Q6):Ya P w K mg base CX0 1 f fd RE Zga:=by
 refine F.ok Jd (λvs H Q E h=>?_) (λcdv A outer s H vs Q E hr h=>?_)
 ·obtain⟨W,a,us,rfl,_⟩:=h;rfl
 obtain⟨W,a,us,rfl,ha,hw,k⟩:=h;have C6:RelV (.ref aI) (.ref aI):=rfl;refine⟨_,(Zh (Zq (Qu (Zgf (K:=K)) (pv 0) (Mu (Yd Sg (Z6 (Xf (K:=K)) (by rfl) Z.len Xw (Za (pv 0) Zb)) (Zbk (K:=K) (Mz (by rfl) Ot C6) (Zr (Zs (K:=K)) (pv 0) Zg (λ_ _=>rfl)) (λ_ _=>rfl)))) Mv))),?_⟩;have hl:(W.hd++us).length=W.hd.length+us.length:=oV;have hp:=Zm0 W;have h0:atI (W.hd++us) 0=some (.str W.nm):=Zj (j:=0) (by rw[lB hp];exact Zcb W);refine⟨_,rfl,_,rfl,a,_,rfl,.inr (SqT.of ha),_,rfl,a,_,_,_,rfl,rfl,SqT.of ha,h0,aI,Q6,Sum.inr W.nm,_,rfl,rfl,dI,Zmo W,_,_,rfl,rfl,_,rfl,a,_,rfl,SqT.of ha,?_,λq hq=>?_⟩
 ·have e:(((W.hd++us).length:Int)-(W.kd.length:Int))=(W.hd.length:Int):=by rw[hl,←hw.1];lia
  show ¬ (HT.sIx (W.hd++us).length 0 (some (((W.hd++us).length:Int)-(W.kd.length:Int)))=0∧_);rw[e,HT.Mn];lia
 ·have e:(((W.hd++us).length:Int)-(W.kd.length:Int))=(W.hd.length:Int):=by rw[hl,←hw.1];lia
  show Q (.ref q) (upd H q (.tup (Pc (W.hd++us) (some (((W.hd++us).length:Int)-(W.kd.length:Int))) none)));rw[e,Znw];exact k q hq
def flat(ws:List Wi):List Wi:=ws.reverse.flatMap Wi.pre
theorem Zi2(ws:List Wi)(W:Wi):flat (ws++[W])=W :: flat (ws++W.kd.reverse):=by
 unfold flat;rw[VT,VT,ZC];show ([W]++ws.reverse).flatMap Wi.pre=_;rw[XI,XI,List.flatMap_singleton,Wi.Zdt W];rfl
def tot(ws:List Wi):Nat:=(ws.map Wi.sz).sum
theorem J4(a b:List Wi):tot (a++b)=tot a+tot b:=by unfold tot;rw[lH,List.sum_append]
theorem Zfq(a:List Wi):tot a.reverse=tot a:=by
 induction a with
 |nil=>rfl
 |cons x a ih=>rw[aN,J4,ih];simp[tot];lia
theorem Zfr(a:List Wi):a.length≤tot a:=by
 induction a with
 |nil=>exact oG _
 |cons x a ih=>
  have:=x.Zdb;have e:tot (x :: a)=x.sz+tot a:=by simp[tot]
  rw[e,lG];lia
theorem Zg5{W:Wi}(h:Ws H vs (ws++[W])):∃us u,vs=us++[u]∧Ws H us ws∧WAt H u W:=by
 have hl:=h.1;rw[oV]at hl;have m5:vs≠[]:=λe=>by rw[e]at hl;simp at hl
 have hd:=List.dropLast_concat_getLast m5;refine⟨vs.dropLast,vs.getLast m5,hd.symm,⟨by rw[XC,hl];rfl,λi v x a b=>?_⟩,?_⟩
 ·have hi:i<vs.dropLast.length:=(oF.mp a).1;have hj:i<ws.length:=(oF.mp b).1;refine h.2 i v x ?_ (by rw[lB hj];exact b);rw[←hd,lB hi];exact a
 ·refine h.2 ws.length _ _ ?_ (by rw[lK (oG _),UP];rfl);have e:ws.length=vs.dropLast.length:=by rw[XC,hl];rfl
  have e2:vs=vs.dropLast++[vs.getLast m5]:=hd.symm;generalize vs.getLast m5=g at e2;rw[e];generalize vs.dropLast=d at e2;subst e2;simp
inductive Zav(vs:List V)(H:Hp)(Q:VK):Prop
 |mk(v:V)(W:Wi)(h1:vs=[v])(h2:WAt H v W)(h3:W.sz≤1000)(h4:∀q told H',H q=none→Zl H H'→H' q=some (.lst told)→TR Wi.hd H' told W.pre→Q (.ref q) H'):Zav vs H Q
def J6:Sp:=λvs H Q _=>Zav vs H Q
theorem Zbs(F:Fun K "heads_in" "heads_in" Nk f fd)(Z:Blt mg)(Tn:Cal P w K mg base "inner_wishes" 1 RE Zga):Ya P w K mg base CX0 2 f fd RE J6:=by
 refine F.ok V8 (λvs H Q E h=>?_) (λcdv A outer s H vs Q E hr h=>?_)
 ·obtain⟨v,W,rfl,_⟩:=h;rfl
 obtain⟨v,W,rfl,hW,hz,k⟩:=h
 refine⟨_,(Zd (Zn (i:=1) V8.nd (by rfl) (Or.inl (by rfl)) (Yw Zb)) 
   (Zd (Zn (i:=2) V8.nd (by rfl) (Or.inl (by rfl)) (Yw (Za (pv 0) Zb))) 
   (Zd (Mr lW (We (K:=K) (pv 2) (λ_=>rfl)) 
    (Zd (Zn (i:=3) V8.nd (by rfl) (Or.inl (by rfl)) (Rf (K:=K) oY bT bU Nw (pv 2))) 
    (Zd (Zn (i:=4) V8.nd (by rfl) (Or.inl (by rfl)) (Z2 Tn (hr.mono (by decide)) (Za (pv 3) Zb))) 
    (Zd (Ys (Yk (K:=K) oY lX lY Yp (pv 1) (Za (Qu (Zot (K:=K)) (pv 3) Mv (Mu (Yd Sg (Z6 (Xf (K:=K)) (by rfl) Z.len Xw (Za (pv 3) Zb)) (Z6 (Xf (K:=K)) (by rfl) Z.len Xw (Za (pv 4) Zb))))) Zb))) 
    (Zh (Ys (Yk (K:=K) oY YH YI Oi (pv 2) (Za (Zid (K:=K) (by rfl) (by rfl) Z.list (by rfl) Z.reversed (pv 4)) Zb)))))))) 
   (Zh (Zq (pv 1)))))),?_⟩
 refine(let y1:TS:=_;let y6:TS:=_;let y7:TS:=Zp _ y6;let m7:TS:=Zp _ y7;let u8:TS:=Zp _ m7;let d9:TS:=Zp (Il _ u8) y1;let b8:TS:=Zp _ d9;(?_:Zp _ b8 _ _ _));refine⟨(by show 0≤sizeLine;decide),λtp kL=>?_⟩;generalize eZ:upd H tp _=H1;have e1:=nS7 eZ kL;have h1:=nU7 eZ;refine⟨_,rfl,(by show 1≤sizeLine;decide),λwp n9=>?_⟩;generalize eZ:upd H1 wp _=H2;have s2:=nS7 eZ n9;have j6:=nU7 eZ;have dJ:tp≠wp:=Zi h1 n9;have Zwj:=none_of e1 n9
 refine⟨λm σ H4=>∃(told vs:List V) (rs ws:List Wi) (v3 v4:Option V),m=tot ws∧σ=[some v,some (.ref tp),some (.ref wp),v3,v4]∧H4 tp=some (.lst told)∧TR Wi.hd H4 told rs∧H4 wp=some (.lst vs)∧Ws H4 vs ws∧W.pre=rs++flat ws∧Zl H H4∧rs.length+tot ws≤W.sz,
  ⟨_,[],[v],[],[W],none,none,rfl,rfl,s2 _ _ h1,.nil,j6,Ws.one (hW.keep (Tk.same (e1.trans s2))),by simp[flat],e1.trans s2,by simp[tot]⟩,?_⟩
 rintro m σ H4 ⟨told,vs,rs,ws,v3,v4,rfl,rfl,h4t,R4,r6,W4,Nz,e4,rD⟩;refine⟨_,rfl,_,.inl ⟨_,SqL.of r6,rfl⟩,?_⟩
 rcases List.eq_nil_or_concat ws with xE|⟨kY,W0,xE⟩
 ·subst xE;have:vs=[]:=iT W4.1;subst this;refine Rj ⟨_,rfl,k tp told H4 kL e4 h4t ?_⟩;rw[Nz];simpa[flat] using R4
 rw[List.concat_eq_append]at xE;subst xE;obtain⟨us,u,rfl,W4',hu⟩:=Zg5 W4;obtain⟨a0,xI,rfl,eE,eL⟩:=hu.see;have m5:(!(us++[V.ref a0]).isEmpty)=true:=by simp
 rw[m5];refine Kj ⟨λx8 H'=>∃m',m'<tot (kY++[W0])∧_,λ_ _ z=>z,?_⟩;refine⟨_,rfl,.inl ⟨rfl,_,SqL.of r6⟩,wp,_,.ref a0,rfl,rfl,r6,(by simp),?_⟩;rw[aL];have dH:tp≠wp:=dJ;have K5:=Tk.lst r6 (.lst us);have e5:=Zu e4 Zwj (.lst us);have sL:=Zc (H:=H4) (a:=wp) (o:=.lst us);have gK:=(Zk (H:=H4) (o:=.lst us) dH).trans h4t;have eR:=K5 _ _ eE;have R5:=R4.keep K5;have W5:=W4'.keep K5;have w5:=eL.keep K5;generalize upd H4 wp _=H5 at K5 e5 sL gK eR R5 W5 w5;refine⟨_,rfl,W0,a0,xI,rfl,eR,w5,λq hq=>?_⟩;generalize eZ:upd H5 q _=H6;have s6:=nS7 eZ hq;have sM:=nU7 eZ;have h6w:=s6 _ _ sL;have h6t:=s6 _ _ gK;have mO:=s6 _ _ eR;have R6:=R5.keep (Tk.same s6);have W6:=W5.keep (Tk.same s6);have w6:=w5.keep (Tk.same s6);have e6:=e5.trans s6;have hl:(W0.hd++xI).length=W0.hd.length+xI.length:=oV;have ei:(((W0.hd++xI).length:Int)-(xI.length:Int))=(W0.hd.length:Int):=by rw[hl];lia
 have n6:=R6.len;have Zwk:tot (kY++[W0])=tot kY+W0.sz:=by rw[J4];simp[tot]
 have wsp:=W0.Zdb;refine⟨_,rfl,.inl ⟨rfl,_,SqL.of h6t⟩,_,rfl,_,rfl,a0,_,rfl,.inr (SqT.of mO),_,rfl,q,_,rfl,.inr (SqT.of sM),_,_,rfl,rfl,_,rfl,a0,_,rfl,mO,λg H7 s7 h7g=>?_⟩
 have nL:H7 g=some (.tup W0.hd):=by
  have e:Pc (W0.hd++xI) none (some (((W0.hd++xI).length:Int)-(xI.length:Int)))=W0.hd:=by rw[ei];exact Znx
  rw[←e];exact h7g
 have h7t:=s7 _ _ h6t;have h7w:=s7 _ _ h6w;have h7q:=s7 _ _ sM;have e7:=e6.trans s7;have R7:=R6.keep (Tk.same s7);have W7:=W6.keep (Tk.same s7);have w7:=w6.keep (Tk.same s7);refine⟨tp,_,_,rfl,rfl,h7t,(by rw[n6,sizeLine_eq];lia),?_⟩;have K8:=Tk.lst h7t (.lst (told++[V.ref g]));have e8:=Zu e7 kL (.lst (told++[V.ref g]));have h8t:=Zc (H:=H7) (a:=tp) (o:=.lst (told++[V.ref g]));have zO:=(Zk (H:=H7) (o:=.lst (told++[V.ref g])) dH.symm).trans h7w;have h8q:=K8 _ _ h7q;have R8:=(R7.snoc nL).keep K8;have W8:=W7.keep K8;have w8:=w7.keep K8;generalize upd H7 tp _=H8 at K8 e8 h8t zO h8q R8 W8 w8;refine⟨_,rfl,.inl ⟨rfl,_,SqL.of zO⟩,_,rfl,q,xI,rfl,SqT.of h8q,λl zX=>?_⟩;generalize eZ:upd H8 l _=H9;have s9:=nS7 eZ zX;have i4:=nU7 eZ;have h9w:=s9 _ _ zO;have h9t:=s9 _ _ h8t;have nlw:wp≠l:=Zi zO zX;have e9:=e8.trans s9;have R9:=R8.keep (Tk.same s9);have W9:=W8.keep (Tk.same s9);have w9:=w8.keep (Tk.same s9);have hul:=W9.1;have tl1:=Zfr kY;have tl2:=W0.Zto;have eF:=w9.1;have tl3:=Zfr W0.kd;have tl4:tot W0.kd+1=W0.sz:=tl2;refine⟨wp,l,_,_,rfl,rfl,h9w,i4,(by rw[iW,sizeLine_eq];lia),?_⟩;have K10:=Tk.lst h9w (.lst (us++xI.reverse));refine⟨tot (kY++W0.kd.reverse),(by rw[J4,Zfq,Zwk];lia),told++[V.ref g],us++xI.reverse,rs++[W0],kY++W0.kd.reverse,_,_,rfl,rfl,(Zk dH).trans h9t,R9.keep K10,Zc,(W9.app w9.rev).keep K10,?_,Zu e9 Zwj _,?_⟩
 ·rw[Nz,Zi2,WE];rfl
 ·rw[J4,Zfq,oV];rw[Zwk]at rD;show rs.length+1+(tot kY+tot W0.kd)≤W.sz;lia
theorem Za6:∀(p:Str) (r:List Str),risingS p r=true→∀x∈r,¬ x.cps.toList<p.cps.toList
 |_,[],_,x,hx=>by cases hx
 |p,y :: r,h,x,hx=>by
  have h':(!ltCps y.cps.toList p.cps.toList&&risingS y r)=true:=h;rw[lQ,ltCps_eq]at h';have h1:¬ y.cps.toList<p.cps.toList:=λz=>by rw[decide_eq_true z]at h';exact absurd h'.1 (by decide)
  rcases oX.mp hx with e|e
  ·rw[e];exact h1
  ·exact VU.mpr (List.le_trans (VU.mp h1) (VU.mp (Za6 y r h'.2 x e)))
theorem E8:∀{ys:List Str},sortedS ys=true→ys.Nodup→ys.Pairwise λa b=>a.cps.toList<b.cps.toList
 |[],_,_=>.nil
 |p :: r,so,nd=>by
  have h:risingS p r=true:=so;rw[iJ]at nd;refine .cons (λx hx=>?_) (E8 ?_ nd.2)
  ·rcases Ztd p.cps.toList x.cps.toList (λe=>nd.1 (by
    have:p=x:=by cases p;cases x;simpa using e
    rw[this];exact hx)) with z|z
   ·exact z
   ·exact absurd z (Za6 p r h x hx)
  ·cases r with
   |nil=>rfl
   |cons y r=>
    have h':(!ltCps y.cps.toList p.cps.toList&&risingS y r)=true:=h;rw[lQ]at h';exact h'.2
theorem Ziq{j0:List Str}(h:zs.Pairwise λa b=>a.cps.toList<b.cps.toList)(o:A4 zs j0):j0.Perm zs∧Zff j0:=by
 obtain⟨p,hp,rfl,hs⟩:=o
 have e:(List.range zs.length).map (λi=>zs.getD i ⟨#[]⟩)=zs:=by
  refine WS (by simp) λi a b=>?_;simp[b]
 refine⟨by have q:=hp.map λi=>zs.getD i ⟨#[]⟩;rwa[e]at q,?_⟩;unfold Zff;rw[UM];have t6:∀i∈p,i<zs.length:=λi hi=>iG.mp (hp.mem_iff.mp hi);refine List.Pairwise.imp_of_mem (λ{i j} hi hj z=>?_) hs;unfold Zv2 Zrp
 rcases z with z|⟨z1,z2⟩
 ·rw[if_neg (by lia),decide_eq_false (by lia)]
 ·rw[if_pos (by lia),decide_eq_false];have a:=t6 i hi;have b:=t6 j hj;have q:=aE.mp h i j a b z2;rw[oJ,oC b,oJ,oC a];exact λy=>List.lt_irrefl _ (List.lt_trans q y)
def A0(W:Wi)(zs:List Str):Prop:=zs.Nodup∧(∀z,z∈zs↔z∈W.wds)∧Zff zs
inductive Iv(vs:List V)(H:Hp)(Q:VK):Prop
 |mk(v:V)(W:Wi)(h1:vs=[v])(h2:WAt H v W)(h3:W.sz≤60)(h4:W.ok (λz=>z.length≤100))(h5:∀q zs H',H q=none→Zl H H'→H' q=some (.lst (zs.map V.str))→A0 W zs→Q (.ref q) H'):Iv vs H Q
def Ew:Sp:=λvs H Q _=>Iv vs H Q
theorem Zbw{W:Wi}(nd:ys.Nodup)(h:∀z,z∈ys↔z∈W.wds):ys.length≤W.sz:=lI (by
 have:∀{a b:List Str},a.Nodup→(∀c∈a,c∈b)→a.length≤b.length:=λ{a}=>by
  induction a with
  |nil=>intros;exact lD _
  |cons x a ih=>
   intro b nd h;have hx:x∈b:=h x oK;have q:=ih (b:=b.erase x) (iJ.mp nd).2 λc hc=>(VP λe=>(iJ.mp nd).1 (by rw[←e];exact hc)).mpr (h c (oQ _ hc));rw[List.length_erase_of_mem hx]at q;have:=List.length_pos_of_mem hx;rw[lG];lia
 exact this nd λc hc=>(h c).mp hc) W.Zfm
theorem Zbm(F:Fun K "words_in" "words_in" S8 f fd)(Z:Blt mg)(X0:Cal P w K mg base "heads_in" 2 RE J6):Ya P w K mg base CX0 3 f fd RE Ew:=by
 refine F.ok Ky (λvs H Q E h=>?_) (λcdv A outer s H vs Q E hr h=>?_)
 ·obtain⟨v,W,rfl,_⟩:=h;rfl
 obtain⟨v,W,rfl,hW,hz,hok,k⟩:=h
 refine⟨_,(Zd (C7 (i:=1) Ky.nd (by rfl) (by rfl) (sc:=Ze S8) (Nm:=["wish","words"]) (own:=["head"]) (fr:=[]) ⟨rfl,by decide +kernel,by decide +kernel,by decide +kernel,by decide +kernel⟩ (by rfl) (Yb (by decide)) (X9 (K:=K) (Z2 X0 (hr.mono (by decide)) (Za (pv 0) Zb))) (λd=>(Zo (i:=0) Fz (by rfl) (Or.inl (by rfl)))) (λd=>(J9 (Zz Vs (Zr (Zs (K:=K)) (pv 0) Zg (λ_ _=>rfl)) Zv (Z5 _)))) (λd=>(Zr (Zs (K:=K)) (pv 0) Zg (λ_ _=>rfl)))) 
   (Zh (Zq (Zlh (K:=K) (by rfl) Z.sorted (by rfl) Z.len (Z6 (Am (by rfl)) (by rfl) Z.sorted Ko (Za (Z9 (Ze3 (K:=K) (by rfl)) (by rfl) Z.set Ze9 (Za (pv 1) Zb)) Zb)))))),?_⟩
 refine(let y1:TS:=_;(?_:Zp _ y1 _ _ _));refine⟨_,rfl,v,W,rfl,hW,by lia,λq told H1 hq e1 h1 R1=>⟨q,rfl,⟨_,SqL.of h1⟩,?_⟩⟩;have rl:=R1.len;rw[W.Oe]at rl
 refine S4 (K:=K) (a:=q) (xs:=told) (λj acc H2=>acc=((W.pre.take j).filterMap Wi.wd).map V.str∧Zl H1 H2) (Z1 (by lia)) ⟨rfl,Zl.refl _⟩ (λj acc H2 p=>?_)
  (λj acc H2 p=>SqL.of (p.2 _ _ h1)) (λj acc H2 x hx p=>?_) (λacc H2 p y hy=>?_)
 ·rw[p.1,oB];exact lI (List.length_filterMap_le _ _) (by rw[lC];exact iR _ _)
 ·obtain⟨rfl,e2⟩:=p;obtain⟨a,r,rfl,v9,eX⟩:=(R1.keep (Tk.same e2)).at_ hx
  have et:(W.pre.take (j+1)).filterMap Wi.wd=(W.pre.take j).filterMap Wi.wd++r.wd.toList:=by
   rw[iE,v9,List.filterMap_append];cases rK:r.wd<;>simp[rK]
  have h0:atI r.hd 0=some (.str r.nm):=Zj (j:=0) (Zcb r);refine⟨_,rfl,a,_,_,_,rfl,rfl,SqT.of eX,h0,rfl,_,rfl,?_⟩
  cases uP:r.wd with
  |some z=>
   obtain rfl:r=.has z:=by
    cases r with
    |has y=>cases uP;rfl
    |_=>cases uP
   refine iteD rfl ⟨_,rfl,a,_,_,_,rfl,rfl,SqT.of eX,Zj (j:=1) rfl,?_,e2⟩;rw[et,uP,lH];rfl
  |none=>
   rw[Zl4 uP];refine Rj ⟨?_,e2⟩;rw[et,uP];simp
 ·obtain⟨rfl,e2⟩:=p
  have el:(W.pre.take told.length).filterMap Wi.wd=W.wds:=by
   rw[rl,←W.Oe,lM];rfl
  rw[el];have wl:=W.Zfm;generalize eZ:upd H2 y _=H3;have s3:=nS7 eZ hy;have h3y:=nU7 eZ;refine⟨_,rfl,y,W.wds,rfl,SqL.of h3y,by lia,λsp m6=>⟨sp,_,_,rfl,Zc,by lia,λys l nd mem so hl4=>?_⟩⟩;have s4:=Zf m6 (Zkq w sp W.wds W.wds.length);have s5:=Zf hl4 (.lst (ys.map V.str));refine⟨l,ys,rfl,SqL.of Zc,?_,λz rK=>?_,λj0 l2 lo hl6=>?_⟩
  ·have:=Zbw nd mem;lia
  ·have:=Wi.Be hok z ((mem z).mp rK);lia
  obtain⟨c1,c2⟩:=Ziq (E8 so nd) lo;have e6:=((e1.trans e2).trans s3).trans (s4.trans s5);exact k l2 j0 _ (none_of e6 hl6) (e6.trans (Zf hl6 _)) Zc ⟨c1.nodup_iff.mpr nd,λz=>(c1.mem_iff).trans (mem z),c2⟩
def fo(W:Wi):Nat→List Wi
 | 0=>[W]
 |i+1=>match fo W i with
  |[]=>[]
  |r :: ws=>r.kd++ws
theorem Zhh(W:Wi)(i:Nat):fo W (i+1)=match fo W i with|[]=>[]|r :: ws=>r.kd++ws:=rfl
theorem Ab(W:Wi):∀i,(fo W i).flatMap Wi.pre=W.pre.drop i
 | 0=>by simp[fo]
 |i+1=>by
  have ih:=Ab W i;rw[Zhh];have e:W.pre.drop (i+1)=(W.pre.drop i).drop 1:=by rw[List.drop_drop]
  rw[e,←ih]
  cases h:fo W i with
  |nil=>rfl
  |cons r ws=>
   rw[WH,r.Zdt];simp
theorem Zr0{W r:Wi}(h:W.pre[i]?=some r):∃ws,fo W i=r :: ws∧fo W (i+1)=r.kd++ws:=by
 have hp:=Ab W i;have hi:i<W.pre.length:=(oF.mp h).1;rw[bO hi]at hp;rw[oC hi]at h
 cases hf:fo W i with
 |nil=>rw[hf]at hp;cases hp
 |cons r' ws=>
  rw[hf,WH,r'.Zdt]at hp
  injection hp with h1 _
  obtain rfl:r'=r:=h1.trans (Option.some.inj h);exact⟨ws,rfl,by rw[Zhh,hf]⟩
theorem Zm9(ws:List Wi):ws.length≤(ws.flatMap Wi.pre).length:=by
 induction ws with
 |nil=>exact oG _
 |cons x ws ih=>
  rw[WH,oV,x.Oe,lG];have:=x.Zdb;lia
theorem Zm8(W:Wi)(i:Nat):(fo W i).length≤W.sz:=by
 have:=Zm9 (fo W i);rw[Ab,bA,W.Oe]at this;lia
theorem Zna(W:Wi):fo W W.pre.length=[]:=by
 have:=Zm9 (fo W W.pre.length);rw[Ab,YG]at this;exact iT (Nat.le_zero.mp this)
def ev(ly:Str→Bool):Wi→Bool
 |.lf b=>b
 |.has z=>ly z
 |.nt x=>!(ev ly x)
 |.bi b x y=>if b then ev ly x&&ev ly y else ev ly x||ev ly y
theorem s_ah:decide (V.str "always"=V.str "has")=false:=by decide +kernel
theorem Zvi:decide (V.str "always"=V.str "always")=true:=by decide +kernel
theorem s_vh:decide (V.str "never"=V.str "has")=false:=by decide +kernel
theorem Zvh:decide (V.str "never"=V.str "always")=false:=by decide +kernel
theorem s_vv:decide (V.str "never"=V.str "never")=true:=by decide +kernel
theorem s_hh:decide (V.str "has"=V.str "has")=true:=by decide +kernel
theorem s_nh:decide (V.str "not"=V.str "has")=false:=by decide +kernel
theorem s_na:decide (V.str "not"=V.str "always")=false:=by decide +kernel
theorem s_nv:decide (V.str "not"=V.str "never")=false:=by decide +kernel
theorem s_nn:decide (V.str "not"=V.str "not")=true:=by decide +kernel
theorem s_dh:decide (V.str "and"=V.str "has")=false:=by decide +kernel
theorem s_da:decide (V.str "and"=V.str "always")=false:=by decide +kernel
theorem s_dv:decide (V.str "and"=V.str "never")=false:=by decide +kernel
theorem s_dn:decide (V.str "and"=V.str "not")=false:=by decide +kernel
theorem s_dd:decide (V.str "and"=V.str "and")=true:=by decide +kernel
theorem s_oh:decide (V.str "or"=V.str "has")=false:=by decide +kernel
theorem s_oa:decide (V.str "or"=V.str "always")=false:=by decide +kernel
theorem s_ov:decide (V.str "or"=V.str "never")=false:=by decide +kernel
theorem s_on:decide (V.str "or"=V.str "not")=false:=by decide +kernel
theorem s_od:decide (V.str "or"=V.str "and")=false:=by decide +kernel
def stk(ly:Str→Bool)(ws:List Wi):List V:=(ws.map λx=>V.bl (ev ly x)).reverse
theorem Me(ly:Str→Bool)(x:Wi)(ws:List Wi):stk ly (x :: ws)=stk ly ws++[V.bl (ev ly x)]:=by
 unfold stk;rw[oW,aN]
theorem Zor(ly:Str→Bool)(ws:List Wi):(stk ly ws).length=ws.length:=by unfold stk;rw[iW,oB]
inductive Zag(vs:List V)(H:Hp)(Q:VK):Prop
 |mk(hp lp:Addr)(told:List V)(kvs:List QB)(W:Wi)(ly:Str→Bool)(h1:vs=[.ref hp,.ref lp])(h2:H hp=some (.lst told))(h3:TR Wi.hd H told W.pre)(h4:W.sz≤1000)(h5:H lp=some (.dK kvs))(h6:(∀z∈W.wds,Yz kvs (Sum.inr z)=some (.bl (ly z))))(h7:∀H',Zl H H'→Q (.bl (ev ly W)) H'):Zag vs H Q
def Zfz:Sp:=λvs H Q _=>Zag vs H Q
theorem Zr8{W:Wi}(h:W.pre[i]?=some (.has z)):z∈W.wds:=VX.mpr ⟨_,oR h,rfl⟩
theorem Zlt(F:Fun K "truth" "truth" C0 f fd)(Z:Blt mg):Ya P w K mg base CX0 1 f fd ["heads","lying"] Zfz:=by
 refine F.ok Sv (λvs H Q E h=>?_) (λcdv A outer s H vs Q E hr h=>?_)
 ·obtain⟨hp,lp,told,kvs,W,ly,rfl,_⟩:=h;rfl
 obtain⟨hp,lp,told,kvs,W,ly,rfl,hh,R,hz,fK,hly,k⟩:=h
 refine⟨_,(Zd (Zn (i:=2) Sv.nd (by rfl) (Or.inl (by rfl)) (Yw Zb)) 
   (Zd (Xq lW (by rfl) (Zlc (K:=K) (by rfl) Z.reversed (pv 0)) (Zo (i:=3) Sv.nd (by rfl) (Or.inl (by rfl))) 
    (Zd (Zn (i:=4) Sv.nd (by rfl) (Or.inl (by rfl)) (Zr (Zs (K:=K)) (pv 3) Zg (λ_ _=>rfl))) 
    (Zh (Xp (Zz Vs (pv 4) Zv (Z5 _)) 
     (Zh (Ys (Yk (K:=K) oY lX lY Yp (pv 2) (Za (Ts (Ug hr) (pv 1) (Zr (Zs (K:=K)) (pv 3) Zg (λ_ _=>rfl)) (λ_ _=>rfl)) Zb)))) 
     (Zh (Xp (PW.pt (Mp (Zz Vs (pv 4) Zv (Z5 _)) (Nl (Zz Vs (pv 4) Zv (Z5 _))))) 
      (Zh (Ys (Yk (K:=K) oY lX lY Yp (pv 2) (Za (Wf Vs (pv 4) Zv (Z5 _)) Zb)))) 
      (Zh (Xp (Zz Vs (pv 4) Zv (Z5 _)) 
       (Zh (Ys (Yk (K:=K) oY lX lY Yp (pv 2) (Za (Zs4 (Rf (K:=K) oY bT bU Nw (pv 2))) Zb)))) 
       (Zd (Zn (i:=5) Sv.nd (by rfl) (Or.inl (by rfl)) (Rf (K:=K) oY bT bU Nw (pv 2))) 
       (Zd (Zn (i:=6) Sv.nd (by rfl) (Or.inl (by rfl)) (Rf (K:=K) oY bT bU Nw (pv 2))) 
       (Zh (Ys (Yk (K:=K) oY lX lY Yp (pv 2) (Za (Zlk (Zz Vs (pv 4) Zv (Z5 _)) (Ba (pv 5) (Nq (pv 6))) (Zrn (pv 5) (Nq (pv 6)))) Zb)))))))))))))) 
   (Zh (Zq (Rf (K:=K) oY bT bU Nw (pv 2)))))),?_⟩
 refine(let y1:TS:=_;let y6:TS:=_;let y7:TS:=Zp _ y6;let m7:TS:=Zp _ y7;let u8:TS:=(Co _ _ m7);let d9:TS:=(Co _ _ u8);let b8:TS:=(Co _ _ d9);let o9:TS:=Zp _ b8;let yF:TS:=Zp (Zad _ _ o9) y1;(?_:Zp _ yF _ _ _));refine⟨(by show 0≤sizeLine;decide),λwp n9=>?_⟩;generalize eZ:upd H wp _=H1;have e1:=nS7 eZ n9;have nB:=nU7 eZ;have rl:=R.len;refine⟨_,rfl,hp,told,rfl,SqL.of (e1 _ _ hh),?_⟩
 refine Zhg (K:=K) (a:=hp) (xs:=told) (λj σ H2=>∃v3 v4 v5 v6,σ=[some (.ref hp),some (.ref lp),some (.ref wp),v3,v4,v5,v6]∧Zl H H2∧H2 wp=some (.lst (stk ly (fo W (W.pre.length-j)))))
  ⟨none,none,none,none,rfl,e1,by rw[UO,Zna];exact nB⟩ (λj σ H2 _ h=>?_) ?_ ?_
 ·obtain⟨_,_,_,_,_,e2,_⟩:=h;exact SqL.of (e2 _ _ hh)
 ·rintro j x σ H2 hj hx ⟨v3,v4,v5,v6,rfl,e2,j6⟩;obtain⟨a,r,rfl,v9,eX⟩:=(R.keep (Tk.same e2)).at_ hx;rw[rl]at hj v9;obtain⟨ws,f1,f2⟩:=Zr0 v9;have i1:W.pre.length-1-j+1=W.pre.length-j:=by lia
  have i2:W.pre.length-1-j=W.pre.length-(j+1):=by lia
  rw[i1]at f2;rw[i2]at f1;rw[f1];rw[f2]at j6;have fl:=Zm8 W (W.pre.length-(j+1));rw[f1,lG]at fl;have h0:atI r.hd 0=some (.str r.nm):=Zj (j:=0) (Zcb r);refine⟨_,rfl,a,_,_,_,rfl,rfl,SqT.of eX,h0,?_⟩;have uO:=Zor ly ws;have hb:(stk ly ws).length<sizeLine:=by rw[uO,sizeLine_eq];lia
  have put:∀(H3:Hp) (c:Bool),Zl H H3→c=ev ly r→∃v3 v4 v5 v6,[some (V.ref hp),some (.ref lp),some (.ref wp),v3,v4,v5,v6]=[some (V.ref hp),some (.ref lp),some (.ref wp),v3,v4,v5,v6]∧Zl H (upd H3 wp (.lst (stk ly ws++[V.bl c])))∧upd H3 wp (.lst (stk ly ws++[V.bl c])) wp=some (.lst (stk ly (r :: ws))):=λH3 c e3 hc=>⟨none,none,none,none,rfl,Zu e3 n9 _,by rw[Zc,Me,hc]⟩
  cases r with
  |has z=>
   have Oy:H2 wp=some (.lst (stk ly ws)):=j6;refine⟨_,rfl,rfl,_,rfl,ifY s_hh ⟨_,rfl,.inl ⟨rfl,_,SqL.of Oy⟩,_,rfl,_,rfl,a,_,_,_,rfl,rfl,SqT.of eX,Zj (j:=1) rfl,lp,.bl (ly z),rfl,?_,wp,_,_,rfl,rfl,Oy,hb,?_⟩⟩
   ·rw[←hly z (Zr8 v9)];exact O0.k (k:=Sum.inr z) (e2 _ _ fK)
   ·obtain⟨_,_,_,_,_,p1,p2⟩:=put H2 (ly z) e2 rfl;exact⟨_,_,_,_,rfl,p1,p2⟩
  |lf b=>
   have Oy:H2 wp=some (.lst (stk ly ws)):=j6
   cases b with
   |true=>
    refine⟨_,rfl,rfl,_,rfl,ifN s_ah ⟨_,rfl,rfl,_,rfl,ifY Zvi (Kj ⟨_,rfl,.inl ⟨rfl,_,SqL.of Oy⟩,_,rfl,rfl,wp,_,_,rfl,rfl,Oy,hb,?_⟩)⟩⟩;obtain⟨_,_,_,_,_,p1,p2⟩:=put H2 _ e2 Zvi;exact⟨_,_,_,_,rfl,p1,p2⟩
   |false=>
    refine⟨_,rfl,rfl,_,rfl,ifN s_vh ⟨_,rfl,rfl,_,rfl,ifN Zvh ⟨_,rfl,rfl,_,rfl,ifY s_vv ⟨_,rfl,.inl ⟨rfl,_,SqL.of Oy⟩,_,rfl,rfl,wp,_,_,rfl,rfl,Oy,hb,?_⟩⟩⟩⟩;obtain⟨_,_,_,_,_,p1,p2⟩:=put H2 _ e2 Zvh;exact⟨_,_,_,_,rfl,p1,p2⟩
  |nt x=>
   have Oy:H2 wp=some (.lst (stk ly ws++[V.bl (ev ly x)])):=by rw[←Me];exact j6
   have yN:upd H2 wp (.lst (stk ly ws)) wp=_:=Zc;refine⟨_,rfl,rfl,_,rfl,ifN s_nh ⟨_,rfl,rfl,_,rfl,ifN s_na ⟨_,rfl,rfl,_,rfl,ifN s_nv ⟨_,rfl,rfl,_,rfl,ifY s_nn ⟨_,rfl,.inl ⟨rfl,_,SqL.of Oy⟩,_,rfl,.inl ⟨rfl,_,SqL.of Oy⟩,wp,_,.bl (ev ly x),rfl,rfl,Oy,(by simp),_,rfl,?_⟩⟩⟩⟩⟩;rw[aL];refine⟨wp,_,_,rfl,rfl,yN,hb,?_⟩;obtain⟨_,_,_,_,_,p1,p2⟩:=put (upd H2 wp (.lst (stk ly ws))) (!(ev ly x)) (Zu e2 n9 _) rfl;exact⟨_,_,_,_,rfl,p1,p2⟩
  |bi b x y=>
   have Oy:H2 wp=some (.lst ((stk ly ws++[V.bl (ev ly y)])++[V.bl (ev ly x)])):=by rw[←Me,←Me];exact j6
   have yN:upd H2 wp (.lst (stk ly ws++[V.bl (ev ly y)])) wp=_:=Zc;have e3:=Zu e2 n9 (.lst (stk ly ws++[V.bl (ev ly y)]));have key:∀{A:Prop},(A)→A:=λh=>h;have e4:=Zu e3 n9 (.lst (stk ly ws));have r6:upd (upd H2 wp (.lst (stk ly ws++[V.bl (ev ly y)]))) wp (.lst (stk ly ws)) wp=some (.lst (stk ly ws)):=Zc
   cases b with
   |true=>
    refine⟨_,rfl,rfl,_,rfl,ifN s_dh ⟨_,rfl,rfl,_,rfl,ifN s_da ⟨_,rfl,rfl,_,rfl,ifN s_dv ⟨_,rfl,rfl,_,rfl,ifN s_dn ⟨_,rfl,.inl ⟨rfl,_,SqL.of Oy⟩,wp,_,.bl (ev ly x),rfl,rfl,Oy,(by simp),?_⟩⟩⟩⟩⟩;rw[aL];refine⟨_,rfl,.inl ⟨rfl,_,SqL.of yN⟩,wp,_,.bl (ev ly y),rfl,rfl,yN,(by simp),?_⟩;rw[aL];refine⟨_,rfl,.inl ⟨rfl,_,SqL.of r6⟩,_,rfl,rfl,_,rfl,ifY s_dd ⟨_,rfl,_,rfl,?_⟩⟩
    cases hx:ev ly x with
    |true=>
     refine Kj ⟨_,rfl,wp,_,_,rfl,rfl,r6,hb,?_⟩;obtain⟨_,_,_,_,_,p1,p2⟩:=put _ (ev ly y) e4 (by simp[ev,hx]);exact⟨_,_,_,_,rfl,p1,p2⟩
    |false=>
     refine Rj ⟨wp,_,_,rfl,rfl,r6,hb,?_⟩;obtain⟨_,_,_,_,_,p1,p2⟩:=put _ false e4 (by simp[ev,hx]);exact⟨_,_,_,_,rfl,p1,p2⟩
   |false=>
    refine⟨_,rfl,rfl,_,rfl,ifN s_oh ⟨_,rfl,rfl,_,rfl,ifN s_oa ⟨_,rfl,rfl,_,rfl,ifN s_ov ⟨_,rfl,rfl,_,rfl,ifN s_on ⟨_,rfl,.inl ⟨rfl,_,SqL.of Oy⟩,wp,_,.bl (ev ly x),rfl,rfl,Oy,(by simp),?_⟩⟩⟩⟩⟩;rw[aL];refine⟨_,rfl,.inl ⟨rfl,_,SqL.of yN⟩,wp,_,.bl (ev ly y),rfl,rfl,yN,(by simp),?_⟩;rw[aL];refine⟨_,rfl,.inl ⟨rfl,_,SqL.of r6⟩,_,rfl,rfl,_,rfl,ifN s_od ⟨_,rfl,_,rfl,?_⟩⟩
    cases hx:ev ly x with
    |true=>
     refine Kj ⟨wp,_,_,rfl,rfl,r6,hb,?_⟩;obtain⟨_,_,_,_,_,p1,p2⟩:=put _ true e4 (by simp[ev,hx]);exact⟨_,_,_,_,rfl,p1,p2⟩
    |false=>
     refine Rj ⟨_,rfl,wp,_,_,rfl,rfl,r6,hb,?_⟩;obtain⟨_,_,_,_,_,p1,p2⟩:=put _ (ev ly y) e4 (by simp[ev,hx]);exact⟨_,_,_,_,rfl,p1,p2⟩
 ·rintro σ H2 ⟨v3,v4,v5,v6,rfl,e2,j6⟩;rw[rl,UP]at j6;refine⟨_,rfl,.inl ⟨rfl,_,SqL.of j6⟩,wp,_,.bl (ev ly W),rfl,rfl,j6,rfl,k _ (Zu e2 n9 _)⟩
theorem Ws.cut{xs:List Wi}(h:Ws H vs (ws++xs)):∃A B,vs=A++B∧Ws H A ws∧Ws H B xs:=by
 have hl:=h.1;rw[oV]at hl;refine⟨vs.take ws.length,vs.drop ws.length,(VA _ _).symm,⟨by rw[lC];lia,λi v x a b=>?_⟩,⟨by rw[bA];lia,λi v x a b=>?_⟩⟩
 ·have hi:i<ws.length:=(oF.mp b).1;rw[List.getElem?_take,if_pos hi]at a;exact h.2 i v x a (by rw[lB hi];exact b)
 ·rw[UD]at a;exact h.2 _ v x a (by rw[lK (YF _ _),Nat.add_sub_cancel_left];exact b)
inductive Kv(vs:List V)(H:Hp)(Q:VK):Prop
 |mk(hp:Addr)(told:List V)(W:Wi)(h1:vs=[.ref hp])(h2:H hp=some (.lst told))(h3:TR Wi.hd H told W.pre)(h4:W.sz≤1000)(h5:∀v H',Zl H H'→WAt H' v W→Q v H'):Kv vs H Q
def Iw:Sp:=λvs H Q _=>Kv vs H Q
theorem Bd(F:Fun K "wish_from" "wish_from" Qr f fd)(Z:Blt mg)(Ot:mg "INNER"=some (.ref aI))(dI:DKn P w K aI Q6):Ya P w K mg base CX0 1 f fd ["heads"] Iw:=by
 refine F.ok Vh (λvs H Q E h=>?_) (λcdv A outer s H vs Q E hr h=>?_)
 ·obtain⟨hp,told,W,rfl,_⟩:=h;rfl
 obtain⟨hp,told,W,rfl,hh,R,hz,k⟩:=h;have C6:RelV (.ref aI) (.ref aI):=rfl
 refine⟨_,(Zd (Zn (i:=1) Vh.nd (by rfl) (Or.inl (by rfl)) (Yw Zb)) 
   (Zd (Xq lW (by rfl) (Zlc (K:=K) (by rfl) Z.reversed (pv 0)) (Zo (i:=2) Vh.nd (by rfl) (Or.inl (by rfl))) 
    (Zd (Zn (i:=3) Vh.nd (by rfl) (Or.inl (by rfl)) (Yw Zb)) 
    (Zd (Xq lW (by rfl) (Vw (by rfl) Z.range (Za (Zbk (K:=K) (Mz (by rfl) Ot C6) (Zr (Zs (K:=K)) (pv 2) Zg (λ_ _=>rfl)) (λ_ _=>rfl)) Zb)) (Zo (i:=4) Vh.nd (by rfl) (Or.inl (by rfl))) 
     (Zh (Ys (Yk (K:=K) oY lX lY Yp (pv 3) (Za (Rf (K:=K) oY bT bU Nw (pv 1)) Zb))))) 
    (Zh (Ys (Yk (K:=K) oY lX lY Yp (pv 1) (Za (Yd (Zlr (K:=K)) (pv 2) (Z9 (Y6 (K:=K)) (by rfl) Z.tuple Xr (Za (pv 3) Zb))) Zb))))))) 
   (Zh (Zq (Rf (K:=K) oY bT bU Nw (pv 1)))))),?_⟩
 refine(let y1:TS:=_;let y6:TS:=_;let y7:TS:=Zp _ y6;let m7:TS:=Zp _ y7;let u8:TS:=Zp (Zad _ _ m7) y1;(?_:Zp _ u8 _ _ _));refine⟨(by show 0≤sizeLine;decide),λwp n9=>?_⟩;generalize eZ:upd H wp _=H1;have e1:=nS7 eZ n9;have nB:=nU7 eZ;have rl:=R.len;refine⟨_,rfl,hp,told,rfl,SqL.of (e1 _ _ hh),?_⟩
 refine Zhg (K:=K) (a:=hp) (xs:=told) (λj σ H2=>∃(v2 v3 v4:Option V) (vs:List V),σ=[some (.ref hp),some (.ref wp),v2,v3,v4]∧Zl H H2∧H2 wp=some (.lst vs)∧Ws H2 vs (fo W (W.pre.length-j)).reverse)
  ⟨none,none,none,[],rfl,e1,nB,by rw[UO,Zna];exact Ws.nil⟩ (λj σ H2 _ h=>?_) ?_ ?_
 ·obtain⟨_,_,_,_,_,e2,_⟩:=h;exact SqL.of (e2 _ _ hh)
 ·rintro j x σ H2 hj hx ⟨v2,v3,v4,vs,rfl,e2,j6,W2⟩;obtain⟨a,r,rfl,v9,eX⟩:=(R.keep (Tk.same e2)).at_ hx;rw[rl]at hj v9;obtain⟨ws,f1,f2⟩:=Zr0 v9;have i1:W.pre.length-1-j+1=W.pre.length-j:=by lia
  have i2:W.pre.length-1-j=W.pre.length-(j+1):=by lia
  rw[i1]at f2;rw[i2]at f1;rw[f1];rw[f2,VT]at W2;obtain⟨A1,B1,rfl,WA,WB⟩:=W2.cut;have WC:=WB.rev;rw[ZC]at WC;obtain⟨C,rfl⟩:∃C:List V,B1=C.reverse:=⟨B1.reverse,by simp⟩;rw[ZC]at WC;have fl:=Zm8 W (W.pre.length-(j+1));rw[f1,lG]at fl;have pF:=WA.1;rw[iW]at pF;have z4:=WC.1;have hk2:r.kd.length≤2:=by cases r<;>simp[Wi.kd]
  have h0:atI r.hd 0=some (.str r.nm):=Zj (j:=0) (Zcb r);refine⟨(by show 0≤sizeLine;decide),λip fF=>?_⟩;have nwi:wp≠ip:=Zi j6 fF;generalize eZ:upd H2 ip _=H3;have s3:=nS7 eZ fF;have h3i:=nU7 eZ;have yN:=s3 _ _ j6;have gG:=s3 _ _ eX;have WA3:=WA.keep (Tk.same s3);have WC3:=WC.keep (Tk.same s3);have e3:=e2.trans s3;have fG:=none_of e2 fF;refine⟨_,rfl,a,_,_,_,rfl,rfl,SqT.of gG,h0,aI,Q6,Sum.inr r.nm,_,rfl,rfl,dI,Zmo r,_,rfl,by lia,by lia,?_⟩;have hn:((r.kd.length:Nat):Int).toNat=C.length:=by rw[bG,z4]
  rw[hn]
  refine Dx (lo:=0) (n:=C.length) (λi σ H4=>∃v4:Option V,σ=[some (.ref hp),some (.ref wp),some (.ref a),some (.ref ip),v4]∧Zl H H4∧H4 wp=some (.lst (A1++(C.drop i).reverse))∧H4 ip=some (.lst (C.take i))∧H4 a=some (.tup r.hd)∧Ws H4 A1 ws.reverse∧Ws H4 C r.kd)
   ⟨v4,rfl,e3,yN,h3i,gG,WA3,WC3⟩ ?_ ?_
  ·rintro i σ H4 hi ⟨v4,rfl,e4,r6,tS,gJ,jO,jP⟩;have hd:C.drop i=C[i] :: C.drop (i+1):=bO hi;have rG:H4 wp=some (.lst ((A1++(C.drop (i+1)).reverse)++[C[i]])):=by rw[r6,hd,aN,WE]
   refine⟨_,rfl,.inl ⟨rfl,_,SqL.of tS⟩,_,rfl,.inl ⟨rfl,_,SqL.of rG⟩,wp,_,C[i],rfl,rfl,rG,(by simp),?_⟩;rw[aL];have K5:=Tk.lst rG (.lst (A1++(C.drop (i+1)).reverse));have e5:=Zu e4 n9 (.lst (A1++(C.drop (i+1)).reverse));have sL:=Zc (H:=H4) (a:=wp) (o:=.lst (A1++(C.drop (i+1)).reverse));have nH:=(Zk (H:=H4) (o:=.lst (A1++(C.drop (i+1)).reverse)) nwi.symm).trans tS;have eR:=K5 _ _ gJ;have wA:=jO.keep K5;have wC:=jP.keep K5;generalize upd H4 wp _=H5 at K5 e5 sL nH eR wA wC;have K6:=Tk.lst nH (.lst (C.take i++[C[i]]));have et:C.take (i+1)=C.take i++[C[i]]:=by rw[iE,oC hi];rfl
   have htl:(C.take i).length≤2:=by rw[lC];lia
   refine⟨ip,_,_,rfl,rfl,nH,(by rw[sizeLine_eq];lia),_,rfl,Zu e5 fG _,(Zk nwi).trans sL,by rw[Zc,et],K6 _ _ eR,wA.keep K6,wC.keep K6⟩
  ·rintro σ H4 ⟨v4,rfl,e4,r6,tS,gJ,jO,jP⟩;rw[YG,List.reverse_nil,aB]at r6;rw[lM]at tS;refine⟨_,rfl,.inl ⟨rfl,_,SqL.of r6⟩,_,rfl,_,rfl,ip,C,rfl,.inl ⟨SqL.of tS,λtp kL=>?_⟩⟩;generalize eZ:upd H4 tp _=H5;have s5:=nS7 eZ kL;have gK:=nU7 eZ;have sL:=s5 _ _ r6;have eR:=s5 _ _ gJ;have e5:=e4.trans s5;have wA:=jO.keep (Tk.same s5);have wC:=jP.keep (Tk.same s5);have hhd:=Zm0 r;have hrl2:r.hd.length≤2:=by cases r<;>simp[Wi.hd]
   have m5:r.hd≠[]:=λe=>by rw[e]at hhd;cases hhd
   have fin:∀(g:Addr) (H6:Hp),Zl H5 H6→H6 g=some (.tup (r.hd++C))→Zl H (upd H6 wp (.lst (A1++[V.ref g])))∧upd H6 wp (.lst (A1++[V.ref g])) wp=some (.lst (A1++[V.ref g]))∧Ws (upd H6 wp (.lst (A1++[V.ref g]))) (A1++[V.ref g]) (r :: ws).reverse:=λg H6 s6 h6=>by
    have K7:=Tk.lst (s6 _ _ sL) (.lst (A1++[V.ref g]));refine⟨Zu (e5.trans s6) n9 _,Zc,?_⟩;rw[aN];exact((wA.keep (Tk.same s6)).app (Ws.one (Lv h6 (wC.keep (Tk.same s6))))).keep K7
   refine⟨a,tp,_,_,rfl,rfl,SqT.of eR,SqT.of gK,m5,(by rw[sizeLine_eq];lia),λhC=>?_,λhC g hg=>?_⟩
   ·obtain⟨g1,g2,g3⟩:=fin a H5 (Zl.refl _) (by rw[hC,aB];exact eR);exact⟨wp,_,_,rfl,rfl,sL,(by rw[sizeLine_eq];lia),_,_,_,_,rfl,g1,g2,g3⟩
   ·obtain⟨g1,g2,g3⟩:=fin g _ (Zf hg _) Zc;exact⟨wp,_,_,rfl,rfl,Zf hg _ _ _ sL,(by rw[sizeLine_eq];lia),_,_,_,_,rfl,g1,g2,g3⟩
 ·rintro σ H2 ⟨v2,v3,v4,vs,rfl,e2,j6,W2⟩;rw[rl,UP]at W2;obtain⟨us,u,rfl,W3,hu⟩:=Zg5 (ws:=[]) W2;refine⟨_,rfl,.inl ⟨rfl,_,SqL.of j6⟩,wp,_,u,rfl,rfl,j6,(by simp),k u _ (Zu e2 n9 _) (hu.keep (Tk.lst j6 _))⟩
def Vr(z:Str):Str:=Txt.join (Str.ofString "") (z.cps.toList.reverse.map λc=>⟨#[c]⟩)
theorem Ur(z:Str):(Vr z).cps.toList=z.cps.toList.reverse:=join_ones _
theorem Cp{x y:Str}(h:x.cps.toList=y.cps.toList):x=y:=by
 cases x with
 |mk a=>
  cases y with
  |mk b=>exact congrArg Str.mk (Array.toList_inj.mp h)
theorem Zh8(z:Str):Vr (Vr z)=z:=Cp (by rw[Ur,Ur,ZC])
theorem Za7(z:Str):(Vr z).length=z.length:=by
 show (Vr z).cps.size=z.cps.size;rw[←lJ,Ur,iW,lJ]
def Wi.map(g:RS):Wi→Wi
 |.lf b=>.lf b
 |.has z=>.has (g z)
 |.nt x=>.nt (x.map g)
 |.bi b x y=>.bi b (x.map g) (y.map g)
theorem Wi.Bk(g:RS)(W:Wi):(W.map g).pre=W.pre.map (Wi.map g):=by
 induction W with
 |lf b=>rfl
 |has z=>rfl
 |nt x ih=>simp[Wi.map,Wi.pre,ih]
 |bi b x y p0 p9=>simp[Wi.map,Wi.pre,p0,p9]
theorem Wi.Zmd(g:RS)(W:Wi):(W.map g).sz=W.sz:=by
 induction W with
 |lf b=>rfl
 |has z=>rfl
 |nt x ih=>simp[Wi.map,Wi.sz,ih]
 |bi b x y p0 p9=>simp[Wi.map,Wi.sz,p0,p9]
theorem Wi.Ztb{W:Wi}(h:W.wd=none):(W.map g).hd=W.hd:=by
 cases W with
 |has z=>cases h
 |lf b=>rfl
 |nt x=>rfl
 |bi b x y=>rfl
theorem Wi.Bl{p q:RQ}{g:RS}(h:∀z,p z→q (g z)):∀{W:Wi},W.ok p→(W.map g).ok q
 |.lf _,_=>trivial
 |.has z,hz=>h z hz
 |.nt x,hx=>Wi.Bl (W:=x) h hx
 |.bi _ x y,uS=>⟨Wi.Bl (W:=x) h uS.1,Wi.Bl (W:=y) h uS.2⟩
theorem Wi.map_map{g':RS}(W:Wi):(W.map g).map g'=W.map (λz=>g' (g z)):=by
 induction W with
 |lf b=>rfl
 |has z=>rfl
 |nt x ih=>simp[Wi.map,ih]
 |bi b x y p0 p9=>simp[Wi.map,p0,p9]
theorem Wi.map_id(W:Wi):W.map (λz=>z)=W:=by
 induction W with
 |lf b=>rfl
 |has z=>rfl
 |nt x ih=>simp[Wi.map,ih]
 |bi b x y p0 p9=>simp[Wi.map,p0,p9]
theorem Wi.Zs8{p:RQ}{W:Wi}(h:W.ok p):∀{r:Wi},r∈W.pre→r.ok p:=by
 induction W with
 |lf b=>intro r hr;simp[Wi.pre]at hr;rw[hr];exact h
 |has z=>intro r hr;simp[Wi.pre]at hr;rw[hr];exact h
 |nt x ih=>
  intro r hr
  rcases oX.mp hr with e|e
  ·rw[e];exact h
  ·exact ih h e
 |bi b x y p0 p9=>
  intro r hr
  rcases oX.mp hr with e|e
  ·rw[e];exact h
  ·rcases iD.mp e with e|e
   ·exact p0 h.1 e
   ·exact p9 h.2 e
inductive Zq9(f:Addr)(fd:FuncData)(p:RQ)(g:RS)(G:QA)(vs:List V)(H:Hp)(Q:VK):Prop
 |mk(z:_)(h1:vs=[.str z])(h2:p z)(h3:H f=some (FnO f fd))(h4:G H)(h5:∀H',Zl H H'→Q (.str (g z)) H'):Zq9 f fd p g G vs H Q
def spCh(f:Addr)(fd:FuncData)(p:RQ)(g:RS)(G:QA):Sp:=λvs H Q _=>Zq9 f fd p g G vs H Q
inductive Zq2(P:Program)(w:World)(K:W.Frag)(mg:UW)(base:Heap)(n:Nat)(vs:List V)(H:Hp)(Q:VK):Prop
 |mk(f:Addr)(fd:FuncData)(p:RQ)(g:RS)(G:QA)(v:V)(W:Wi)(h1:Ya P w K mg base CX0 n f fd RW (spCh f fd p g G))(h2:Binds K fd RW [])(h3:(∀H1 H2,Zl H1 H2→G H1→G H2))(h4:vs=[v,.ref f])(h5:WAt H v W)(h6:W.sz≤1000)(h7:W.ok p)(h8:H f=some (FnO f fd))(h9:G H)(i0:∀u H',Zl H H'→WAt H' u (W.map g)→Q u H'):Zq2 P w K mg base n vs H Q
def Zsp(P:Program)(w:World)(K:W.Frag)(mg:UW)(base:Heap)(n:Nat):Sp:=λvs H Q _=>Zq2 P w K mg base n vs H Q
theorem Fs(F:Fun K "with_words" "with_words" S9 f fd)(Z:Blt mg)(X0:Cal P w K mg base "heads_in" 2 RE J6)(Pq:Cal P w K mg base "wish_from" 1 ["heads"] Iw):Ya P w K mg base CX0 (n+3) f fd ["wish","change"] (Zsp P w K mg base n):=by
 refine F.ok Sa (λvs H Q E h=>?_) (λcdv A outer s H vs Q E hr h=>?_)
 ·obtain⟨f,fd,p,g,G,v,W,_,_,_,rfl,_⟩:=h;rfl
 obtain⟨fv,gE,pw,g,G,v,W,Zji,Zjd,hG,rfl,hW,hz,hok,hf,l9,k⟩:=h
 refine⟨_,(Zd (Zn (i:=2) Sa.nd (by rfl) (Or.inl (by rfl)) (Yw Zb)) 
   (Zd (Xq lW (by rfl) (X9 (K:=K) (Z2 X0 (hr.mono (by lia)) (Za (pv 0) Zb))) (Zo (i:=3) Sa.nd (by rfl) (Or.inl (by rfl))) 
    (Zh (Xp (Zz Vs (Zr (Zs (K:=K)) (pv 3) Zg (λ_ _=>rfl)) Zv (Z5 _)) 
     (Zh (Ys (Yk (K:=K) oY lX lY Yp (pv 2) (Za (Wa (Za Zv (Za (U0 (i:=1) Zji (hr.mono (by lia)) Zjd (Za (Zr (Zs (K:=K)) (pv 3) Zg (λ_ _=>rfl)) Zb)) Zb))) Zb)))) 
     (Zh (Ys (Yk (K:=K) oY lX lY Yp (pv 2) (Za (pv 3) Zb))))))) 
   (Zh (Zq (Z2 Pq (hr.mono (by lia)) (Za (pv 2) Zb)))))),?_⟩
 refine(let y1:TS:=_;let y6:TS:=Zp _ y1;(?_:Zp _ y6 _ _ _));refine⟨(by show 0≤sizeLine;decide),λhp zV=>?_⟩;generalize eZ:upd H hp _=H1;have e1:=nS7 eZ zV;have h1p:=nU7 eZ;refine⟨_,rfl,v,W,rfl,hW.keep (Tk.same e1),hz,λq told H2 hq e2 yM R2=>⟨q,rfl,⟨_,SqL.of yM⟩,?_⟩⟩;have yB:q≠hp:=(Zi h1p hq).symm;have rl:=R2.len;have y0:=W.Oe
 refine S2 (K:=K) (a:=q) (xs:=told) (λi σ H3=>∃(v3:Option V) (hs:List V),σ=[some v,some (.ref fv),some (.ref hp),v3]∧Zl H H3∧H3 q=some (.lst told)∧H3 hp=some (.lst hs)∧TR Wi.hd H3 hs ((W.map g).pre.take i)∧TR Wi.hd H3 told W.pre)
  ⟨none,[],rfl,e1.trans e2,yM,e2 _ _ h1p,by rw[List.take_zero];exact .nil,R2⟩ (λi σ H3 _ h=>?_) ?_ ?_
 ·obtain⟨_,_,_,_,h3,_⟩:=h;exact SqL.of h3
 ·rintro i x σ H3 hx ⟨v3,hs,rfl,e3,gH,xP,R3,T3⟩;obtain⟨a,r,rfl,v9,eX⟩:=T3.at_ hx;have hi:i<W.pre.length:=(oF.mp v9).1;have zZ:r∈W.pre:=oR v9;have uO:=R3.len;rw[lC]at uO;have kE:(W.map g).pre.length=W.pre.length:=by rw[Wi.Bk,oB]
  have gX:(W.map g).pre.take (i+1)=(W.map g).pre.take i++[r.map g]:=by
   rw[iE,Wi.Bk,oH,v9];rfl
  have h0:atI r.hd 0=some (.str r.nm):=Zj (j:=0) (Zcb r);refine⟨_,rfl,a,_,_,_,rfl,rfl,SqT.of eX,h0,rfl,_,rfl,?_⟩
  cases hw:r.wd with
  |some z=>
   obtain rfl:r=.has z:=by
    cases r with
    |has y=>exact congrArg Wi.has (Option.some.inj hw)
    |lf b=>cases hw
    |nt x=>cases hw
    |bi b x y=>cases hw
   refine ifY (show decide (V.str "has"=V.str "has")=true by decide +kernel) ⟨_,rfl,.inl ⟨rfl,_,SqL.of xP⟩,rfl,e3 _ _ hf,_,rfl,a,_,_,_,rfl,rfl,SqT.of eX,Zj (j:=1) rfl,e3 _ _ hf,z,rfl,Wi.Zs8 hok zZ,e3 _ _ hf,hG _ _ e3 l9,λH4 e4=>⟨(by show 2≤sizeLine;decide),λtp kL=>?_⟩⟩;generalize eZ:upd H4 tp _=H5;have s5:=nS7 eZ kL;have gK:=nU7 eZ;have e5:=e4.trans s5;have yO:=e5 _ _ xP;have nJ:=e5 _ _ gH;have R5:=R3.keep (Tk.same e5);have T5:=T3.keep (Tk.same e5);have K6:=Tk.lst yO (.lst (hs++[V.ref tp]));refine⟨hp,_,_,rfl,rfl,yO,(by rw[sizeLine_eq];lia),_,_,rfl,Zu (e3.trans e5) zV _,(Zk yB).trans nJ,Zc,?_,T5.keep K6⟩;rw[gX];exact(R5.snoc (r:=(Wi.has z).map g) gK).keep K6
  |none=>
   refine ifN (Zl4 hw) ⟨_,rfl,.inl ⟨rfl,_,SqL.of xP⟩,_,rfl,hp,_,_,rfl,rfl,xP,(by rw[sizeLine_eq];lia),?_⟩;have K6:=Tk.lst xP (.lst (hs++[V.ref a]));refine⟨_,_,rfl,Zu e3 zV _,(Zk yB).trans gH,Zc,?_,T3.keep K6⟩;rw[gX];exact(R3.snoc (r:=r.map g) (by rw[Wi.Ztb hw];exact eX)).keep K6
 ·rintro σ H3 ⟨v3,hs,rfl,e3,gH,xP,R3,T3⟩;have kE:(W.map g).pre.length=told.length:=by rw[Wi.Bk,oB,rl]
  rw[←kE,lM]at R3;exact⟨_,rfl,hp,hs,W.map g,rfl,xP,R3,by rw[Wi.Zmd];exact hz,λu H4 e4 hu=>k u H4 (e3.trans e4) hu⟩
theorem Zkc{w t:List Nat}:(c :: w).Sublist (d :: t)↔(c :: w).Sublist t∨(c=d∧w.Sublist t):=by
 constructor
 ·intro h
  cases h with
  |cons _ h=>exact .inl h
  |cons_cons _ h=>exact .inr ⟨rfl,h⟩
 ·rintro(h|⟨rfl,h⟩)
  ·exact h.cons _
  ·exact h.cons_cons _
theorem Zdi:∀(w t:List Nat),0<emb w t↔w.Sublist t
 |[],t=>by rw[Ol];exact⟨λ_=>List.nil_sublist _,λ_=>Nat.one_pos⟩
 |c :: w,[]=>by
  rw[Zhj (by simp)];exact⟨λh=>absurd h (iL _),λh=>by cases h⟩
 |c :: w,d :: t=>by
  rw[Gy,Zkc,←Zdi (c :: w) t,←Zdi w t]
  by_cases e:c=d
  ·rw[if_pos e];constructor
   ·intro h
    by_cases z:0<emb (c :: w) t
    ·exact .inl z
    ·exact .inr ⟨e,by lia⟩
   ·rintro(z|⟨_,z⟩)<;>lia
  ·rw[if_neg e];constructor
   ·intro h;exact .inl (by lia)
   ·rintro(z|⟨z,_⟩)
    ·lia
    ·exact absurd z e
theorem Cw(w t:List Nat):spB w t=true↔w.Sublist t:=by
 rw[Zsr,decide_eq_true_eq];exact Zdi w t
theorem Zdj(z:Str)(n:Nat):(Txt.slice z (some ((n:Nat):Int)) none).cps.toList=z.cps.toList.drop n:=by
 have hl:=len_list z;rw[slice_list,HT.Za3,HT.Mn]
 by_cases h:n≤z.length
 ·rw[Nat.min_eq_left h,aR (by rw[bA];lia)]
 ·rw[Nat.min_eq_right (by lia),ZH (by lia),ZH (by lia),List.take_nil]
def wf(l z:Str):Str:=if Txt.startswith z l=true then Txt.slice z (some 1) none else z
def wl(l z:Str):Str:=if Txt.endswith z l=true then Txt.slice z none (some (-1)) else z
theorem Iu(z:Str)(c:Nat):Txt.startswith z ⟨#[c]⟩=true↔z.cps.toList[0]?=some c:=by
 rw[←StrLaws.subAt_one z c 0];unfold Txt.startswith;rw[lQ,decide_eq_true_iff]
def wfL(d:Nat):List Nat→List Nat
 |[]=>[]
 |c :: r=>if c=d then r else c :: r
theorem Zsn{w t:List Nat}:w.Sublist (d :: t)↔(wfL d w).Sublist t:=by
 cases w with
 |nil=>simp[wfL]
 |cons c r=>
  rw[Zkc];show _↔(if c=d then r else c :: r).Sublist t
  by_cases h:c=d
  ·rw[if_pos h];constructor
   ·rintro(a|a)
    ·exact(List.sublist_cons_self c r).trans a
    ·exact a.2
   ·exact λa=>.inr ⟨h,a⟩
  ·rw[if_neg h];constructor
   ·rintro(a|a)
    ·exact a
    ·exact absurd a.1 h
   ·exact λa=>.inl a
theorem Zfl(d:Nat)(z:Str):(wf ⟨#[d]⟩ z).cps.toList=wfL d z.cps.toList:=by
 unfold wf;have e1:(Txt.slice z (some 1) none).cps.toList=z.cps.toList.drop 1:=Zdj z 1
 by_cases h:z.cps.toList[0]?=some d
 ·rw[if_pos ((Iu z d).mpr h),e1]
  cases hz:z.cps.toList with
  |nil=>rfl
  |cons c r=>
   rw[hz]at h;cases h;show r=if d=d then r else _
   rw[if_pos rfl]
 ·rw[if_neg (λe=>h ((Iu z d).mp e))]
  cases hz:z.cps.toList with
  |nil=>rfl
  |cons c r=>
   rw[hz]at h;show _=if c=d then r else c :: r
   rw[if_neg (λe=>h (by rw[e];rfl))]
theorem Zt7{ly:Str→Bool}(W:Wi):ev ly (W.map g)=ev (λz=>ly (g z)) W:=by
 induction W with
 |lf b=>rfl
 |has z=>rfl
 |nt x ih=>simp[Wi.map,ev,ih]
 |bi b x y p0 p9=>simp[Wi.map,ev,p0,p9]
def lyL(t:List Nat)(z:Str):Bool:=spB z.cps.toList t
theorem Lp{a b:Bool}(h:a=true↔b=true):a=b:=by cases a<;>cases b<;>simp_all
theorem Zt6(t:List Nat)(W:Wi):ev (lyL t.reverse) (W.map Vr)=ev (lyL t) W:=by
 rw[Zt7];refine congrArg (λl=>ev l W) (funext λz=>Lp ?_);unfold lyL;rw[Cw,Cw,Ur,List.reverse_sublist]
inductive Zq1(vs:List V)(H:Hp)(Q:VK):Prop
 |mk(z l:Str)(h1:vs=[.str z,.str l])(h2:z.length≤100)(h3:Q (.str (wf l z)) H):Zq1 vs H Q
def Zvc:Sp:=λvs H Q _=>Zq1 vs H Q
theorem Kc(F:Fun K "without_first" "without_first" Uc f fd)(Z:Blt mg):Ya P w K mg base CX0 1 f fd ["word","letter"] Zvc:=by
 refine F.ok L8 (λvs H Q E h=>?_) (λcdv A outer s H vs Q E hr h=>?_)
 ·obtain⟨z,l,rfl,_⟩:=h;rfl
 obtain⟨z,l,rfl,hz,k⟩:=h;have kQ:z.length≤sizeLine:=by rw[sizeLine_eq];lia
 refine⟨_,(Zd (Xp (We (K:=K) (Yk (K:=K) cZ PySem.F.slot_str_startswith PySem.F.type_str_startswith Zim (pv 0) (Za (pv 1) Zb)) (λ_=>rfl)) 
    (Zh (Zq (Qu Zst (pv 0) (Mu Zg) Mv))) Yo) 
   (Zh (Zq (pv 0)))),?_⟩
 refine(let y1:TS:=_;(?_:Zp _ y1 _ _ _));refine⟨_,rfl,rfl,_,rfl,z,l,rfl,rfl,_,rfl,?_⟩;unfold wf at k
 by_cases h:Txt.startswith z l=true
 ·rw[if_pos h]at k;exact ifY h ⟨_,rfl,_,rfl,z,rfl,kQ,k⟩
 ·rw[if_neg h]at k;exact ifN (by simpa using h) ⟨_,rfl,k⟩
abbrev L0:List TQ:=[(⟨59,28,59,64⟩,"wish_turned"++".<locals>."++"<lambda>")]
inductive Ex(Pt:Addr)(vs:List V)(H:Hp)(Q:VK):Prop
 |mk(v:V)(W:Wi)(h1:vs=[v])(h2:WAt H v W)(h3:W.sz≤1000)(h4:W.ok (λz=>z.length≤100))(h5:Tb Pt L0 H)(h6:∀u H',Ve Pt H H'→Tb Pt L0 H'→WAt H' u (W.map Vr)→Q u H'):Ex Pt vs H Q
def Mf(Pt:Addr):Sp:=λvs H Q _=>Ex Pt vs H Q
theorem Hs(F:Fun K "wish_turned" "wish_turned" Xj f fd)(Z:Blt mg)(Vt:fd.code=.ref cw)(CH:W.CodeHd base cw Pt)(BM:Qd mg base)
  (Rv:Cal P w K mg base "with_words" 4 ["wish","change"] (Zsp P w K mg base 1)):Ya P w K mg base CX0 5 f fd RE (Mf Pt):=by
 refine F.okC He (λvs H Q E h=>?_) (λA outer s H vs Q E hr h=>?_)
 ·obtain⟨v,W,rfl,_⟩:=h;rfl
 obtain⟨v,W,rfl,hW,hz,hok,hT,k⟩:=h;have Zj3:∀x∈L0,x.1.line=(⟨59,28,59,64⟩:Pos).line→x.1.col=(⟨59,28,59,64⟩:Pos).col→x.2 = "wish_turned"++".<locals>."++"<lambda>":=λx hx _ _=>by rw[oU.mp hx]
 let Jb:=L0
 refine⟨_,(Zh (Zq (Z2 Rv (hr.mono (by decide)) (Za (pv 0) (Za (Zdx (L:=Jb) (sc:=Ze Xj) Vt CH BM (by first|exact oK|exact oQ _ oK) Zj3) Zb))))),?_⟩;refine⟨_,rfl,hT,λH1 fl c ct e1 tX hf0 hf hc=>?_⟩
 have tk1:Tk H H1:=λb ys h=>e1 b _ (λz=>by
  obtain⟨ps,hp,_⟩:=hT;rw[z,hp]at h
  cases h) h
 refine⟨fl,_,(λz=>z.length≤100),Vr,(λH=>H c=some (CdO c ("wish_turned"++".<locals>."++"<lambda>"))),v,W,?_,?_,λ_ _ e h=>e _ _ h,rfl,hW.keep tk1,hz,hok,hf,hc,λu H2 e2 hu=>k u H2 (e1.trans e2.t) (tX.same e2) hu⟩
 ·refine Zeg (N:=RW) (fv:=[]) ⟨rfl,rfl,rfl,by decide,rfl,by decide +kernel,by decide +kernel⟩ (Fe.none (λx hx=>?_)) (λvs H Q E h=>?_) (λvs H Q E h=>?_) (λA outer s H vs Q E hr h=>?_)
  ·have:=iK hx;revert this;simp
  ·obtain⟨z,rfl,_⟩:=h;rfl
  ·obtain⟨z,rfl,_,h1,h2,_⟩:=h;exact⟨h1,h2⟩
  ·obtain⟨z,rfl,hz,h1,h2,k⟩:=h;refine⟨_,(Kb (by rfl) (by rfl) Z.reversed Zv (pv 0)),?_⟩;exact⟨_,rfl,_,rfl,z,rfl,(by rw[sizeLine_eq];lia),(by show z.length+z.length*0≤_;lia),k _ (Zl.refl _)⟩
 ·exact .all λus hl=>match us,hl with|[_],_=>rfl
def rad:List Str→Nat
 |[]=>1
 |z :: zs=>(z.length+1)*rad zs
def plc:List Str→Nat→List Str
 |[],_=>[]
 |z :: zs,x=>(⟨(z.cps.toList.drop (x%(z.length+1))).toArray⟩:Str) :: plc zs (x/(z.length+1))
def nxt(z:Str)(n c:Nat):Nat:=if z.cps.toList[n]?=some c then n+1 else n
def gM:List Str→Nat→Nat→Nat
 |[],_,_=>0
 |z :: zs,x,c=>nxt z (x%(z.length+1)) c+(z.length+1)*gM zs (x/(z.length+1)) c
theorem Zly(h:n≤z.length):nxt z n c≤z.length:=by
 unfold nxt;have hl:=len_list z
 by_cases q:z.cps.toList[n]?=some c
 ·rw[if_pos q];have:=(oF.mp q).1;lia
 ·rw[if_neg q];exact h
theorem Zpn{L g:Nat}(h:n≤L):(n+(L+1)*g)%(L+1)=n∧(n+(L+1)*g)/(L+1)=g:=by
 constructor
 ·rw[Nat.add_mul_mod_self_left,Nat.mod_eq_of_lt (by lia)]
 ·rw[Nat.add_mul_div_left _ _ (by lia),Nat.div_eq_of_lt (by lia),VH]
theorem Zml(z:Str)(n c:Nat):(⟨(z.cps.toList.drop (nxt z n c)).toArray⟩:Str)=wf ⟨#[c]⟩ ⟨(z.cps.toList.drop n).toArray⟩:=by
 refine Cp ?_;rw[Zfl];show z.cps.toList.drop (nxt z n c)=wfL c (z.cps.toList.drop n);unfold nxt
 by_cases q:z.cps.toList[n]?=some c
 ·rw[if_pos q];obtain⟨h,e⟩:=oF.mp q;rw[bO h,e];show _=if c=c then _ else _
  rw[if_pos rfl]
 ·rw[if_neg q]
  rcases iN n z.cps.toList.length with h|h
  ·rw[bO h];show _=if _=c then _ else _
   rw[if_neg λe=>q (by rw[oC h,e])]
  ·rw[ZH h];rfl
theorem Hn(c:Nat):∀(zs:List Str) (x:Nat),plc zs (gM zs x c)=(plc zs x).map (wf ⟨#[c]⟩)
 |[],_=>rfl
 |z :: zs,x=>by
  have h:=Zpn (L:=z.length) (n:=nxt z (x%(z.length+1)) c) (g:=gM zs (x/(z.length+1)) c) (Zly (by have:=XD x (show 0<z.length+1 by lia);lia));show (⟨(z.cps.toList.drop ((nxt z (x%(z.length+1)) c+(z.length+1)*gM zs (x/(z.length+1)) c)%(z.length+1))).toArray⟩:Str) :: plc zs ((nxt z (x%(z.length+1)) c+(z.length+1)*gM zs (x/(z.length+1)) c)/(z.length+1))=_;rw[h.1,h.2,Zml,Hn c zs];rfl
theorem J8:∀zs:List Str,0<rad zs
 |[]=>by decide
 |z :: zs=>Nat.mul_pos (by lia) (J8 zs)
theorem Zm5(c:Nat):∀{zs:List Str}{x:Nat},x<rad zs→gM zs x c<rad zs
 |[],_,_=>by show 0<1;decide
 |z :: zs,x,h=>by
  have h1:=Zly (z:=z) (n:=x%(z.length+1)) (c:=c) (by have:=XD x (show 0<z.length+1 by lia);lia);have h2:=Zm5 c (zs:=zs) (x:=x/(z.length+1)) (ZZ h);show nxt z (x%(z.length+1)) c+(z.length+1)*gM zs (x/(z.length+1)) c<(z.length+1)*rad zs;have h3:(z.length+1)*(gM zs (x/(z.length+1)) c+1)≤(z.length+1)*rad zs:=Nat.mul_le_mul_left _ h2;rw[Nat.mul_succ]at h3;lia
theorem Zgt:∀{zs:List Str}{x y:Nat},x<rad zs→y<rad zs→plc zs x=plc zs y→x=y
 |[],x,y,hx,hy,_=>by
  have hx:x<1:=hx;have hy:y<1:=hy;lia
 |z :: zs,x,y,hx,hy,h=>by
  have e:=List.cons.inj h;have l1:=congrArg (λs:Str=>s.cps.toList.length) e.1;simp only[bA]at l1;have hl:=len_list z;have m1:=XD x (show 0<z.length+1 by lia);have m2:=XD y (show 0<z.length+1 by lia);have e2:=Zgt (ZZ hx) (ZZ hy) e.2;have d1:=VO x (z.length+1);have d2:=VO y (z.length+1);have e3:x%(z.length+1)=y%(z.length+1):=by lia
  rw[e2,e3]at d1;lia
theorem Hm:∀zs:List Str,plc zs 0=zs
 |[]=>rfl
 |z :: zs=>by
  show (⟨(z.cps.toList.drop (0%(z.length+1))).toArray⟩:Str) :: plc zs (0/(z.length+1))=_;rw[Nat.zero_mod,Nat.zero_div,Hm zs];cases z;rfl
theorem Mw:∀(zs:List Str) (x:Nat),(plc zs x).length=zs.length
 |[],_=>rfl
 |z :: zs,x=>by show (plc zs _).length+1=_;rw[Mw zs];rfl
theorem Dh{m:Nat}:∀{zs:List Str}{x:Nat},(∀z∈zs,z.length≤m)→∀y∈plc zs x,y.length≤m
 |[],_,_,y,hy=>by cases hy
 |z :: zs,x,h,y,hy=>by
  rcases oX.mp hy with q|q
  ·have h1:=h z oK;have hl:=len_list z;rw[q,←len_list];show (z.cps.toList.drop _).length≤m;rw[bA];lia
  ·exact Dh (λz hz=>h z (oQ _ hz)) y q
theorem Zbh(zs:List Str):∀(t:List Nat) (x:Nat),plc zs (t.foldl (gM zs) x)=(plc zs x).map λz=>t.foldl (λu c=>wf ⟨#[c]⟩ u) z
 |[],x=>by show plc zs x=_;exact(List.map_id' _).symm
 |c :: t,x=>by
  show plc zs (t.foldl (gM zs) (gM zs x c))=_;rw[Zbh zs t,Hn,lU];rfl
theorem Zb4:∀(t:List Nat) (z:Str),(t.foldl (λu c=>wf ⟨#[c]⟩ u) z).cps.toList=[]↔z.cps.toList.Sublist t
 |[],z=>by
  show z.cps.toList=[]↔_;rw[List.sublist_nil]
 |c :: t,z=>by
  show (t.foldl (λu c=>wf ⟨#[c]⟩ u) (wf ⟨#[c]⟩ z)).cps.toList=[]↔_;rw[Zb4 t,Zfl,Zsn]
theorem Ln{ly dC:Str→Bool}:∀{W:Wi},(∀z∈W.wds,ly z=dC z)→ev ly W=ev dC W
 |.lf b,_=>rfl
 |.has z,h=>h z (by simp[Wi.wds,Wi.pre,Wi.wd])
 |.nt x,h=>by
  rw[Wi.Zcw]at h;show (!ev ly x) = !ev dC x;rw[Ln h]
 |.bi b x y,h=>by
  rw[Wi.Zcx]at h;show (if b then ev ly x&&ev ly y else ev ly x||ev ly y)=_;rw[Ln λz hz=>h z (aK _ hz),Ln λz hz=>h z (lN _ hz)];rfl
def gone(zs:List Str)(x:Nat)(z:Str):Bool:=decide ((plc zs x)[zs.idxOf z]?=some (Str.ofString ""))
theorem Zop:z=Str.ofString ""↔z.cps.toList=[]:=by
 have e:(Str.ofString "").cps.toList=[]:=by decide +kernel
 exact⟨λh=>by rw[h];exact e,λh=>Cp (h.trans e.symm)⟩
theorem Zcd(h:z∈zs)(t:List Nat):gone zs (t.foldl (gM zs) 0) z=lyL t z:=by
 unfold gone lyL;refine Lp ?_;rw[decide_eq_true_eq,Cw,Zbh,Hm,oH,Ny h,←Zb4];show some _=some _↔_;rw[Option.some.injEq];exact Zop
theorem Zft{l:Str}{g:TU}:∀(cs:List Nat) (x:Nat),(∀c∈cs,c<l.length)→cs.foldl (λx c=>(TL l g x).getD c 0) x=(cs.map λi=>l.cps.toList.getD i 0).foldl g x
 |[],_,_=>rfl
 |c :: cs,x,h=>by
  have hc:=h c oK;have hl:=len_list l
  have e:(TL l g x).getD c 0=g x (l.cps.toList.getD c 0):=by
   unfold TL;rw[oJ,oH,oJ,oC (by lia)];rfl
  show cs.foldl _ ((TL l g x).getD c 0)=((cs.map _).foldl g (g x _));rw[e];exact Zft cs _ λd hd=>h d (oQ _ hd)
abbrev Nb:List TQ:=[(⟨196,4,197,69⟩,"machine_of"++".<locals>."++"step"),(⟨199,4,200,77⟩,"machine_of"++".<locals>."++"is_end")]
def kM(zs:List Str)(x:Nat):List Key:=(plc zs x).map Sum.inr
theorem Zpv(zs:List Str)(x:Nat):(kM zs x).map kV=(plc zs x).map V.str:=by
 unfold kM;rw[lU];rfl
theorem Ztp(hx:x<rad zs)(hy:y<rad zs)(h:kM zs x=kM zs y):x=y:=Zgt hx hy (List.map_inj_right (λa b q=>Sum.inr.inj q) |>.mp h)
def Ut(l:Str)(W:Wi)(cs:List Nat):Prop:=ev (lyL (cs.map λi=>l.cps.toList.getD i 0)) W=true
theorem Zfp{k:Key}:∀{kvs acc:List QB},k∉kvs.map (·.1)→Yz (Wm acc kvs) k=Yz acc k
 |[],_,_=>rfl
 | (k0,v0) :: r,acc,h=>by
  show Yz (Wm (putK acc k0 v0) r) k=_;rw[Zfp λz=>h (oQ _ z),Ij,if_neg λe=>h (by rw[e];exact oK)]
theorem Zjv{k:Key}{v:V}:∀{kvs acc:List QB},(kvs.map (·.1)).Nodup→(k,v)∈kvs→Yz (Wm acc kvs) k=some v
 |[],_,_,h=>by cases h
 | (k0,v0) :: r,acc,nd,h=>by
  show Yz (Wm (putK acc k0 v0) r) k=_;have nd:=iJ.mp nd
  rcases oX.mp h with e|e
  ·cases e;rw[Zfp nd.1,Ij,if_pos rfl]
  ·exact Zjv nd.2 e
def Ec(zs ys:List Str):List QB:=List.zipWith (λz y=>((Sum.inr z:Key),V.bl (decide (V.str y=V.str (Str.ofString ""))))) zs ys
theorem Km:∀{zs ys:List Str},zs.length=ys.length→(Ec zs ys).map (·.1)=zs.map Sum.inr∧(Ec zs ys).map (·.2)=ys.map λy=>V.bl (decide (V.str y=V.str (Str.ofString "")))
 |[],[],_=>⟨rfl,rfl⟩
 |z :: zs,y :: ys,h=>by
  obtain⟨a,b⟩:=Km (zs:=zs) (ys:=ys) (by simpa using h);exact⟨by show _ :: (Ec zs ys).map _=_;rw[a];rfl,by show _ :: (Ec zs ys).map _=_;rw[b];rfl⟩
theorem Znj(nd:zs.Nodup)(hz:z∈zs):Yz (Wm [] (Ec zs (plc zs x))) (Sum.inr z)=some (.bl (gone zs x z)):=by
 have hl:zs.length=(plc zs x).length:=(Mw zs x).symm;refine Zjv ?_ ?_
 ·rw[(Km hl).1];rw[ZT,UM];exact(ZT.mp nd).imp λh e=>h (Sum.inr.inj e)
 ·have hi:=aQ hz;have h1:=Ny hz;have h2:(plc zs x)[zs.idxOf z]?=some ((plc zs x)[zs.idxOf z]'(by lia)):=oC (by lia);refine oR (i:=zs.idxOf z) ?_;unfold Ec gone;rw[List.getElem?_zipWith,h1,h2];show some (_,V.bl (decide (V.str _=V.str _)))=some (_,V.bl (decide (some _=some _)))
  congr 4
  exact propext ⟨λe=>by rw[V.str.inj e],λe=>by rw[Option.some.inj e]⟩
inductive E2(Pm:Addr)(Pl:Addr)(vs:List V)(H:Hp)(Q:VK):Prop
 |mk(l:Str)(v:V)(W:Wi)(n:Nat)(h1:vs=[.str l,v])(h2:WAt H v W)(h3:W.sz≤60)(h4:W.ok (λz=>z.length≤100))(h5:0<l.length)(h6:l.length≤3)(h7:l.cps.toList.Nodup)(h8:J1 l.cps.toList)(h9:(∀zs,A0 W zs→rad zs≤n))(i0:n≤576)(yL:Tb Pm Nb H)(xN:Tb Pl Zx H)(h13:Pm≠Pl)(h14:∀m' stD esD H',Kp2 Pm Pl H H'→Tb Pm Nb H'→Tb Pl Zx H'→LM l (Ut l W) stD esD→stD.length≤n→Rt H' m' l 0 esD stD→Q (.ref m') H'):E2 Pm Pl vs H Q
def Qn(Pm Pl:Addr):Sp:=λvs H Q _=>E2 Pm Pl vs H Q
theorem Ft(F:Fun K "machine_of" "machine_of" Yi f fd)(Z:Blt mg){Pm:Addr}(Vt:fd.code=.ref cw)(CH:W.CodeHd base cw Pm)(BM:Qd mg base)(N6:Cal P w K mg base "words_in" 3 RE Ew)(X0:Cal P w K mg base "heads_in" 2 RE J6)
  (CM:∀base,Cal P w K mg base "machine_from" 5 SE (Zf7 P w K mg base 3)) (CF:∀base,Cal P w K mg base "without_first" 1 ["word","letter"] Zvc) (CT:∀base,Cal P w K mg base "truth" 1 ["heads","lying"] Zfz) (Vp:Cal P w K mg base "least" 5 SN (Ss Pl)):Ya P w K mg base CX0 6 f fd RM (Qn Pm Pl):=by
 refine F.okC Wn (λvs H Q E h=>?_) (λA outer s H vs Q E hr h=>?_)
 ·obtain⟨l,v,W,n,rfl,_⟩:=h;rfl
 obtain⟨l,v,W,n,rfl,hW,hz,hok,gQ,sX,nd,eU,fU,hn,TB,mL,j5,k⟩:=h
 have Sr:∀x∈Nb,x.1.line=(⟨196,4,197,69⟩:Pos).line→x.1.col=(⟨196,4,197,69⟩:Pos).col→x.2 = "machine_of"++".<locals>."++"step":=λx hx h1 _=>by
  rcases oX.mp hx with z|z
  ·rw[z]
  ·rw[oU.mp z]at h1;exact absurd h1 (by decide)
 have Qi:∀x∈Nb,x.1.line=(⟨199,4,200,77⟩:Pos).line→x.1.col=(⟨199,4,200,77⟩:Pos).col→x.2 = "machine_of"++".<locals>."++"is_end":=λx hx h1 _=>by
  rcases oX.mp hx with z|z
  ·rw[z]at h1;exact absurd h1 (by decide)
  ·rw[oU.mp z]
 let Jb:=Nb
 have Wb:=CM base
 refine⟨_,(Zd (Zn (i:=2) Wn.nd (by rfl) (Or.inr (by rfl)) (Z2 N6 (hr.mono (by decide)) (Za (pv 1) Zb))) 
   (Zd (Zn (i:=3) Wn.nd (by rfl) (Or.inr (by rfl)) (Z2 X0 (hr.mono (by decide)) (Za (pv 1) Zb))) 
   (Zd (Ms (i:=4) (L:=Jb) (sc:=Ze Yi) Wn.nd (by rfl) (Or.inl (by rfl)) Vt CH BM (by first|exact oK|exact oQ _ oK) Sr) 
   (Zd (Ms (i:=5) (L:=Jb) (sc:=Ze Yi) Wn.nd (by rfl) (Or.inl (by rfl)) Vt CH BM (by first|exact oK|exact oQ _ oK) Qi) 
   (Zh (Zq (Z2 Vp (hr.mono (by decide)) (Za (Zgw Wb (hr.mono (by decide)) (Za (pv 0) (Za (Z9 (Y6 (K:=K)) (by rfl) Z.tuple Xr (Za (pv 2) Zb)) (Za (pv 4) (Za (pv 5) Zb))))) Zb)))))))),?_⟩
 refine(let y1:TS:=_;let y6:TS:=Zp _ y1;let y7:TS:=Zp _ y6;let m7:TS:=Zp _ y7;(?_:Zp _ m7 _ _ _));refine⟨_,rfl,v,W,rfl,hW,hz,hok,λq zs H1 hq e1 h1q kN=>?_⟩;refine⟨_,rfl,v,W,rfl,hW.keep (Tk.same e1),by lia,λhp told H2 zV e2 sI R2=>?_⟩;have yM:=e2 _ _ h1q;have eD:=e1.trans e2;have mK:=TB.same eD;have jK:=mL.same eD;refine⟨mK,λH3 f1 c1 ct1 Zw4 e3 T3 Zwr xV o0=>?_⟩;refine⟨T3,λH4 f2 c2 qD qM e4 T4 Ztx c9 z6=>?_⟩;have vZ:Tb Pl Zx H4:=Tb.O3 (Tb.O3 jK mK j5.symm e3) T3 j5.symm e4
 have nT:∀{H:Hp}{b:Addr}{o:HO},Tb Pm Nb H→H b=some o→(∀ps,o≠.tbl ps)→b≠Pm:=λt h ho z=>by
  obtain⟨ps,hp,_⟩:=t;rw[z,hp]at h;cases h;exact ho _ rfl
 have pW:=e4 _ _ (nT T3 xV λps z=>nomatch z) xV;have pM:=e4 _ _ (nT T3 o0 λps z=>nomatch z) o0;have gH:=e3 _ _ (nT mK yM λps z=>nomatch z) yM;have l5:=e4 _ _ (nT T3 gH λps z=>nomatch z) gH;have xP:=e3 _ _ (nT mK sI λps z=>nomatch z) sI;have sK:=e4 _ _ (nT T3 xP λps z=>nomatch z) xP;have R4:=(R2.keep (Tk.t e3 mK)).keep (Tk.t e4 T3);refine⟨_,rfl,⟨_,rfl,q,_,rfl,.inl ⟨SqL.of l5,λa0 eE=>⟨_,rfl,_,rfl,λWh B=>?_⟩⟩⟩⟩;generalize eZ:upd H4 a0 _=H5;have s5:=nS7 eZ eE;have eR:=nU7 eZ;have nJ:=s5 _ _ l5;have yO:=s5 _ _ sK;have R5:=R4.keep (Tk.same s5);have pX:=s5 _ _ pW;have pZ:=s5 _ _ c9;have pN:=s5 _ _ pM;have pP:=s5 _ _ z6;have T5:=T4.same s5;have jL:=vZ.same s5;have J2:=CF Wh;have Zqt:=CT Wh;have hzs:∀z∈zs,z.length≤100:=λz h=>Wi.Be hok z ((kN.2.1 z).mp h);have eJ:=fU zs kN;have kQ:zs.length≤60:=lI (Zbw kN.1 kN.2.1) hz;refine⟨_,_,CM Wh,f1,_,RN,f2,_,["lefts"],l,a0,0,gM zs,(λx=>ev (gone zs x) W),kM zs,(λx=>x<rad zs),(λH=>H q=some (.lst (zs.map V.str))∧H hp=some (.lst told)∧TR Wi.hd H told W.pre∧H c1=some (CdO c1 ("machine_of"++".<locals>."++"step"))∧H c2=some (CdO c2 ("machine_of"++".<locals>."++"is_end"))),?_,?_,?_,?_,?_,rfl,?_,J8 zs,λx hx=>⟨oZ hx (lI eJ hn),λc _=>Zm5 c hx⟩,λx y hx hy h=>Ztp hx hy h,sX,pX,pZ,⟨nJ,yO,R5,pN,pP⟩,eU,λm3 H6 N e6 hN hM=>?_⟩
 ·refine Zqa (N:=RN) (ps:=RN) ⟨rfl,rfl,rfl,by decide,rfl,by decide +kernel,by decide +kernel⟩ (λvs H Q E h=>?_) (λvs H Q E h=>?_) (λA outer s H vs Q E hr h=>?_)
  ·obtain⟨a,x,c,rfl,_⟩:=h;rfl
  ·obtain⟨a,x,c,rfl,_,_,_,h1,h2,_⟩:=h;exact⟨h1,h2.2.2.2.1⟩
  ·obtain⟨a,x,c,rfl,ha,hx,hc,h1,_,k⟩:=h;rw[Zpv]at ha;refine⟨_,(Zh (Zq (Z9 (Y6 (K:=K)) (by rfl) Z.tuple Xr (Za (Yj (sc:=Ze M8) (Nm:=RN) (own:=["left"]) (fr:=[1]) ⟨rfl,by decide +kernel,by decide +kernel,by decide +kernel,by decide +kernel⟩ (by rfl) (Yb (by decide)) (Tr (K:=K) (pv 0)) (λd=>(Zo (i:=0) Js (by rfl) (Or.inl (by rfl)))) (λd=>Yn) (λd=>(Z2 J2 (hr.mono (by decide)) (Za (pv 0) (Za (pv 1) Zb))))) Zb)))),?_⟩;have y0:((plc zs x).map V.str).length=zs.length:=by rw[oB,Mw]
   refine⟨_,rfl,a,rfl,⟨_,SqT.of ha⟩,?_⟩
   refine U5 (K:=K) (a:=a) (xs:=(plc zs x).map V.str) (λi acc H2=>acc=((plc zs x).take i).map (λz=>V.str (wf ⟨#[c]⟩ z))∧Zl H H2) (by rw[y0];exact Z1 (by lia)) ⟨rfl,Zl.refl _⟩ (λi acc H2 q=>by rw[q.1,oB,lC];exact iR _ _)
    (λi acc H2 q=>SqT.of (q.2 _ _ ha)) (λi acc H2 y hy q=>?_) (λacc H2 q y hy=>?_)
   ·obtain⟨rfl,e⟩:=q;rw[oH]at hy
    cases z6:(plc zs x)[i]? with
    |none=>rw[z6]at hy;cases hy
    |some z=>
     rw[z6]at hy;cases hy;refine S3 ⟨_,rfl,_,rfl,z,_,rfl,Dh hzs z (oR z6),?_,e⟩;rw[map_take z6];rfl
   ·obtain⟨rfl,e⟩:=q;rw[oB,lM];refine⟨y,_,rfl,.inl ⟨SqL.of Zc,λr v9=>k r _ ((e.trans (Zf hy _)).trans (Zf v9 _)) ?_⟩⟩;rw[Zc,Zpv,Hn,lU];rfl
 ·exact .all λus hl=>match us,hl with|[_,_],_=>rfl
 ·refine Ag (N:=["lefts","heads","words"]) (fv:=[.ref hp,.ref q]) ⟨rfl,rfl,rfl,by decide,rfl,by decide +kernel,by decide +kernel⟩ (B.cl (sc:=Ze Yi) [3,2] rfl (by decide +kernel) rfl rfl (λj i x a b=>?_) (λj i x a b=>?_)) (λvs H Q E h=>?_) (λvs H Q E h=>?_) (λA outer s H vs Q E hr h=>?_)
  ·match j,a,b with
   | 0,a,b=>cases a;cases b;exact⟨rfl,rfl⟩
   | 1,a,b=>cases a;cases b;exact⟨rfl,rfl⟩
   |j+2,a,_=>simp at a
  ·match j,a,b with
   | 0,a,b=>cases a;cases b;rfl
   | 1,a,b=>cases a;cases b;rfl
   |j+2,a,_=>simp at a
  ·obtain⟨a,x,rfl,_⟩:=h;rfl
  ·obtain⟨a,x,rfl,_,_,h1,h2,_⟩:=h;exact⟨h1,h2.2.2.2.2⟩
  ·obtain⟨a,x,rfl,ha,hx,h1,⟨g1,g2,g3,_,_⟩,k⟩:=h;rw[Zpv]at ha;refine⟨_,(Zh (Zq (Z2 Zqt (hr.mono (by decide)) (Za (pv 1) (Za (Zdy (by rfl) (by rfl) Z.dict (by rfl) Z.zip (pv 2) (Yj (sc:=Ze Ox) (Nm:=["lefts","heads","words"]) (own:=["left"]) (fr:=[]) ⟨rfl,by decide +kernel,by decide +kernel,by decide +kernel,by decide +kernel⟩ (by rfl) (Yb (by decide)) (Tr (K:=K) (pv 0)) (λd=>(Zo (i:=0) Jr (by rfl) (Or.inl (by rfl)))) (λd=>Yn) (λd=>(Wf Vs (pv 0) Zv (Z5 _))))) Zb))))),?_⟩;have y0:((plc zs x).map V.str).length=zs.length:=by rw[oB,Mw]
   refine⟨_,rfl,_,rfl,_,rfl,a,rfl,⟨_,SqT.of ha⟩,?_⟩
   refine U5 (K:=K) (a:=a) (xs:=(plc zs x).map V.str) (λi acc H2=>acc=((plc zs x).take i).map (λy=>V.bl (decide (V.str y=V.str (Str.ofString ""))))∧Zl H H2) (by rw[y0];exact Z1 (by lia)) ⟨rfl,Zl.refl _⟩ (λi acc H2 q=>by rw[q.1,oB,lC];exact iR _ _)
    (λi acc H2 q=>SqT.of (q.2 _ _ ha)) (λi acc H2 y hy q=>?_) (λacc H2 q y hy=>?_)
   ·obtain⟨rfl,e⟩:=q;rw[oH]at hy
    cases z6:(plc zs x)[i]? with
    |none=>rw[z6]at hy;cases hy
    |some z=>
     rw[z6]at hy;cases hy;refine S3 ⟨_,rfl,rfl,?_,e⟩;rw[map_take z6]
   ·obtain⟨rfl,e⟩:=q;rw[oB,lM];have hk:=Km (zs:=zs) (ys:=plc zs x) (Mw zs x).symm;have s2:=Zf hy (.lst ((plc zs x).map λy=>V.bl (decide (V.str y=V.str (Str.ofString "")))));refine⟨q,y,Ec zs (plc zs x),rfl,?_,?_,λd hd=>?_⟩
    ·rw[show (Ec zs (plc zs x)).map (λkv=>kV kv.1)=((Ec zs (plc zs x)).map (·.1)).map kV by rw[lU];rfl,hk.1,lU];exact s2 _ _ (e _ _ g1)
    ·rw[hk.2];exact Zc
    ·have e3:=(e.trans s2).trans (Zf hd (.dK (Wm [] (Ec zs (plc zs x)))));exact⟨hp,d,told,_,W,gone zs x,rfl,e3 _ _ g2,g3.keep (Tk.same e3),by lia,Zc,λz xG=>Znj kN.1 ((kN.2.1 z).mpr xG),λH' e'=>k H' (e3.trans e')⟩
 ·exact .all λus hl=>match us,hl with|[_],_=>rfl
 ·exact λH1 H2 e ⟨a1,a2,a3,a4,a5⟩=>⟨e _ _ a1,e _ _ a2,a3.keep (Tk.same e),e _ _ a4,e _ _ a5⟩
 ·rw[Zpv,Hm];exact eR
 ·have T6:=T5.same e6;have TL6:=jL.same e6;have hlen:∀x,x<rad zs→(TL l (gM zs) x).length=l.length:=λx _=>by unfold TL;rw[oB];exact len_list l
  have kJ:∀x,x<rad zs→∀y∈TL l (gM zs) x,y<rad zs:=λx hx y hy=>by
   obtain⟨c,hc,rfl⟩:=lF.mp hy;exact Zm5 c hx
  have mT:=J8 zs;have hR:=El (T:=TL l (gM zs)) (pl:=λx=>x<rad zs) mT hlen kJ hN;have Zb7:=Hr (k:=id) (T:=TL l (gM zs)) (b:=0) N;have hol:(Zm id (TL l (gM zs)) 0 N).length≤rad zs:=U1 (P:=λx=>x<rad zs) mT kJ (λx hx=>hx) N;have ht:∀cs,(∀c∈cs,c<l.length)→_:=λcs hc=>Ku (e:=λx=>ev (gone zs x) W) (T:=TL l (gM zs)) (pl:=λx=>x<rad zs) mT hlen kJ hN cs 0 _ hc Zb7.2;have n6:(Yf id (TL l (gM zs)) (Zm id (TL l (gM zs)) 0 N)).length=(Zm id (TL l (gM zs)) 0 N).length:=by unfold Yf;rw[oB]
  have d8:(Xh (Zm id (TL l (gM zs)) 0 N) λx=>ev (gone zs x) W).length≤(Zm id (TL l (gM zs)) 0 N).length:=by
   unfold Xh;exact lI (aX _ _) (by rw[lO];exact oG _)
  have uL:=Zb7.1;refine⟨m3,l,0,_,_,rfl,⟨hM,⟨gQ,sX,by lia⟩,by lia,hR⟩,by lia,nd,TL6,λm' stD esD H7 e7 TL7 D hs hL=>?_⟩;have T7:=Tb.O3 T6 TL6 j5 e7;have kp:Kp2 Pm Pl H H7:=λb o n1 n2 h=>e7 _ _ n2 (e6 _ _ (s5 _ _ (e4 _ _ n1 (e3 _ _ n1 (eD _ _ h)))));refine k m' stD esD H7 kp T7 TL7 (D.Ai λcs hc=>?_) (by lia) hL;rw[ht cs hc,Zft cs 0 hc];unfold Ut;rw[Ln λz xG=>Zcd ((kN.2.1 z).mpr xG) _]
inductive Zf4(vs:List V)(H:Hp)(Q:VK):Prop
 |mk(p sc:Addr)(l:Str)(h1:vs=[.ref p,.str l])(h2:0<l.length)(h3:l.length≤3)(h4:Yx H p sc)(h5:∀q (ws:List Str) H',H q=none→0<ws.length→ws.length≤10→(∀z∈ws,z.length≤3∧∀c∈z.cps.toList,c∈l.cps.toList)→rad ws≤36→H' q=some (.lst (ws.map V.str))→Xs H H' p→Yx H' p sc→Q (.ref q) H'):Zf4 vs H Q
def Zkf:Sp:=λvs H Q _=>Zf4 vs H Q
inductive Zao(n:Nat)(vs:List V)(H:Hp)(Q:VK):Prop
 |mk(p sc pl:Addr)(ws:List Str)(room deep:Int)(h1:vs=[.ref p,.ref pl,.int room,.int deep])(h2:H pl=some (.lst (ws.map V.str)))(h3:pl≠p)(h4:0<ws.length)(h5:ws.length≤10)(h6:1≤room)(h7:room≤100)(h8:0≤deep)(h9:deep<n)(i0:Yx H p sc)(yL:∀v W H',WAt H' v W→(W.sz:Int)≤room→(W.dep:Int)≤deep→W.ok (λz=>z∈ws)→Xs H H' p→Yx H' p sc→Q v H'):Zao n vs H Q
def P6(n:Nat):Sp:=λvs H Q _=>Zao n vs H Q
theorem Zdu(F:Fun K "_law_pool_wish" "_law_pool_wish" Ww f fd)(Z:Blt mg)(Zy:Cal P w K mg base "_law_pick" 1 TK Qm)(Ym:Cal P w K mg base "_law_pool_wish" (n+1) UZ (P6 n)):
  Ya P w K mg base CX0 (n+2) f fd UZ (P6 (n+1)):=by
 refine F.ok Xn (λvs H Q E h=>?_) (λcdv A outer s H vs Q E hr h=>?_)
 ·obtain⟨p,sc,pl,ws,room,deep,rfl,_⟩:=h;rfl
 obtain⟨p,sc,pl,ws,room,deep,rfl,y0,eN,eL,gY,kD,yY,sR,hd1,FA,k⟩:=h
 refine⟨_,(Zd (Zn (i:=4) Xn.nd (by rfl) (Or.inl (by rfl)) (Z2 Zy (hr.mono (by lia)) (Za (pv 0) (Za Zg Zb)))) 
   (Zd (Xp (PW.pt (Mp (Zz Zlq (pv 2) Zg (Z5 _)) (Mp (Zz Vs (pv 3) Zg (Z5 _)) (Nl (Zz Vs (pv 4) Zg (Z5 _)))))) 
    (Zd (Xp (Zz Vs (Z2 Zy (hr.mono (by lia)) (Za (pv 0) (Za Zg Zb))) Zg (Z5 _)) 
     (Zh (Zq (Zr (Z0 (K:=K)) (Yw (Za (Wa (Za Zv Zb)) (Za (Wa (Za Zv Zb)) Zb))) (Z2 Zy (hr.mono (by lia)) (Za (pv 0) (Za Zg Zb))) (λ_ _=>rfl)))) Yo) 
    (Zh (Zq (Wa (Za Zv (Za (Zr (Z0 (K:=K)) (pv 1) (Z2 Zy (hr.mono (by lia)) (Za (pv 0) (Za (Z6 (Xf (K:=K)) (by rfl) Z.len Xw (Za (pv 1) Zb)) Zb))) (λ_ _=>rfl)) Zb)))))) Yo) 
   (Zd (Xp (PW.pt (Mp (Zz Vs (pv 4) Zg (Z5 _)) (Nl (Zz Zlq (pv 2) Zg (Z5 _))))) 
    (Zh (Zq (Wa (Za Zv (Za (Z2 Ym hr (Za (pv 0) (Za (pv 1) (Za (Yd Sg (pv 2) Zg) (Za (Yd Sg (pv 3) Zg) Zb))))) Zb))))) Yo) 
   (Zd (Zn (i:=5) Xn.nd (by rfl) (Or.inl (by rfl)) (Yd Ud Zg (Z2 Zy (hr.mono (by lia)) (Za (pv 0) (Za (Yd Sg (pv 2) Zg) Zb))))) 
   (Zd (Zn (i:=6) Xn.nd (by rfl) (Or.inl (by rfl)) (Zr (Z0 (K:=K)) (Yw (Za Zv (Za Zv Zb))) (Z2 Zy (hr.mono (by lia)) (Za (pv 0) (Za Zg Zb))) (λ_ _=>rfl))) 
   (Zd (Zn (i:=7) Xn.nd (by rfl) (Or.inl (by rfl)) (Z2 Ym hr (Za (pv 0) (Za (pv 1) (Za (pv 5) (Za (Yd Sg (pv 3) Zg) Zb)))))) 
   (Zh (Zq (Wa (Za (pv 6) (Za (pv 7) (Za (Z2 Ym hr (Za (pv 0) (Za (pv 1) (Za (Yd Sg (Yd Sg (pv 2) Zg) (pv 5)) (Za (Yd Sg (pv 3) Zg) Zb))))) Zb)))))))))))),?_⟩
 refine(let y1:TS:=_;let y6:TS:=Zp _ y1;let y7:TS:=Zp _ y6;let m7:TS:=Zp _ y7;let u8:TS:=Zp _ m7;let d9:TS:=_;let b8:TS:=Zp _ d9;let o9:TS:=Zp (Co _ b8 _) u8;(?_:Zp _ o9 _ _ _));refine⟨_,rfl,p,sc,7,rfl,by decide,by decide,FA,λr0 vT h00 h01 rH=>?_⟩;have gA:=FA.go rH;have d0:Xs H (upd H p (.lst vT)) p:=Xs.upd _;have Zw1:=d0 _ _ y0 eN;generalize upd H p _=H0 at gA d0 Zw1;refine Ek (λleaf=>⟨_,rfl,_,_,rfl,rfl,_,rfl,Rk (λ_=>leaf) (λc1=>⟨_,rfl,rfl,_,rfl,Rk (λ_=>leaf) (λc2=>⟨_,rfl,rfl,_,rfl,Rk (λ_=>leaf) (λ_=>?_)⟩)⟩)⟩) ?_
 ·have hdeep:deep≠0:=λe=>by subst e;simp at c2
  have hroom:¬ room<2:=of_decide_eq_false (by simpa using c1);refine Ek (λZv6=>⟨_,rfl,rfl,_,rfl,Rk (λ_=>Zv6) (λ_=>⟨_,rfl,_,_,rfl,rfl,_,rfl,Rk (λ_=>Zv6) (λc5=>?_)⟩)⟩) ?_
  ·have hroom3:¬ room<3:=of_decide_eq_false (by simpa using c5);refine⟨_,rfl,_,rfl,_,_,rfl,rfl,p,sc,room-2,rfl,by lia,by lia,gA,λr1 vU i0 yL gZ=>⟨_,_,rfl,rfl,?_⟩⟩;have xL:=gA.go gZ;have d1:=Rp d0 (.lst vU);have Zp4:=d1 _ _ y0 eN;generalize upd H0 p _=H1 at xL d1 Zp4;refine⟨(by show 2≤sizeLine;decide),λx hx=>⟨_,rfl,p,sc,2,rfl,by decide,by decide,xL.same (Zf hx _),λr4 cU h40 h41 hx4=>?_⟩⟩
   have dL:x≠p:=by
    obtain⟨ys,h1,_⟩:=xL.here;exact(Zi h1 hx).symm
   have s4:=Zf hx (.lst [V.str "and",V.str "or"]);have nG:=Zc (H:=H1) (a:=x) (o:=.lst [V.str "and",V.str "or"]);have hV:=(xL.same s4).go hx4;have d4:=Rp (d1.trans (Xs.same s4)) (.lst cU);have zM:=(Zk (H:=upd H1 x (.lst [V.str "and",V.str "or"])) (o:=.lst cU) dL).trans nG;have Zww:=d4 _ _ y0 eN
   obtain⟨b,hb⟩:∃b:Bool,atI [V.str "and",V.str "or"] r4=some (.str (if b then "and" else "or")):=by
    have:r4=0∨r4=1:=by lia
    rcases this with z|z
    ·subst z;exact⟨true,Zj (j:=0) rfl⟩
    ·subst z;exact⟨false,Zj (j:=1) rfl⟩
   refine⟨x,_,_,_,rfl,rfl,SqL.of zM,hb,?_⟩;generalize upd (upd H1 x (.lst [V.str "and",V.str "or"])) p (.lst cU)=H4 at hV d4 Zww;refine⟨_,rfl,_,rfl,_,rfl,_,rfl,_,_,rfl,rfl,p,sc,pl,ws,1+r1,deep-1,rfl,Zww,eN,eL,gY,by lia,by lia,by lia,by lia,hV,λv1 W1 H5 u4 kW dp1 cA dr5 hZ=>?_⟩;have d5:=d4.trans dr5;refine⟨_,rfl,_,rfl,_,rfl,_,rfl,_,rfl,_,_,rfl,rfl,_,rfl,_,_,rfl,rfl,_,rfl,_,_,rfl,rfl,p,sc,pl,ws,room-1-(1+r1),deep-1,rfl,d5 _ _ y0 eN,eN,eL,gY,by lia,by lia,by lia,by lia,hZ,λv2 W2 H6 j8 tH dp2 ok2 dr6 yG=>⟨(by show 3≤sizeLine;decide),λq hq=>?_⟩⟩;have pA:=u4.keep (Tk.drew hZ dr6);have s6:=Zf hq (.tup [V.str (Wi.bi b W1 W2).nm,v1,v2]);refine k (.ref q) (.bi b W1 W2) _ (Lv (us:=[v1,v2]) Zc ((Ws.one (pA.keep (Tk.same s6))).app (Ws.one (j8.keep (Tk.same s6))))) ?_ ?_ ⟨cA,ok2⟩ ((d5.trans dr6).trans (Xs.same s6)) (yG.same s6)
   ·show ((W1.sz+W2.sz+1:Nat):Int)≤room;lia
   ·show ((max W1.dep W2.dep+1:Nat):Int)≤deep;lia
  ·refine⟨_,rfl,_,rfl,_,rfl,_,_,rfl,rfl,_,rfl,_,_,rfl,rfl,p,sc,pl,ws,room-1,deep-1,rfl,Zw1,eN,eL,gY,by lia,by lia,by lia,by lia,gA,λv1 W1 H2 u4 kW dp1 cA dr2 c0=>⟨(by show 2≤sizeLine;decide),λq hq=>?_⟩⟩;have s6:=Zf hq (.tup [V.str "not",v1]);refine k (.ref q) (.nt W1) _ (Lv (us:=[v1]) Zc (Ws.one (u4.keep (Tk.same s6)))) ?_ ?_ cA ((d0.trans dr2).trans (Xs.same s6)) (c0.same s6)
   ·show ((W1.sz+1:Nat):Int)≤room;lia
   ·show ((W1.dep+1:Nat):Int)≤deep;lia
 ·refine⟨_,rfl,p,sc,8,rfl,by decide,by decide,gA,λr1 vU i0 yL gZ=>?_⟩;have xL:=gA.go gZ;have d1:=Rp d0 (.lst vU);have Zp4:=d1 _ _ y0 eN;generalize upd H0 p _=H1 at xL d1 Zp4;refine⟨rfl,_,rfl,Rk (λc=>?_) (λ_=>?_)⟩
  ·refine⟨(by show 1≤sizeLine;decide),λa1 ha1=>⟨(by show 1≤sizeLine;decide),λa2 pC=>⟨(by show 2≤sizeLine;decide),λx hx=>⟨_,rfl,?_⟩⟩⟩⟩;generalize tT:upd (upd (upd H1 a1 _) a2 _) x _=H4;have nG:H4 x=some (.lst [V.ref a1,V.ref a2]):=by rw[←tT];exact Zc
   have h41:H4 a1=some (.tup [V.str "always"]):=by rw[←tT];exact Zf hx _ _ _ (Zf pC _ _ _ Zc)
   have h42:H4 a2=some (.tup [V.str "never"]):=by rw[←tT];exact Zf hx _ _ _ Zc
   have s4:Zl H1 H4:=by rw[←tT];exact((Zf ha1 _).trans (Zf pC _)).trans (Zf hx _)
   have n4:x≠p:=by
    obtain⟨ys,h1,_⟩:=xL.here;intro z;have yA:=(Zf pC (.tup [V.str "never"])) _ _ ((Zf ha1 (.tup [V.str "always"])) _ _ h1);exact Zi yA hx z.symm
   clear tT;have hV:=xL.same s4;refine⟨p,sc,2,rfl,by decide,by decide,hV,λr5 cV h50 h51 hx5=>?_⟩;have hZ:=hV.go hx5;have k5:Tk H4 (upd H4 p (.lst cV)):=Tk.drew hV (Xs.upd _);have d5:=Rp (d1.trans (Xs.same s4)) (.lst cV);have zM:=(Zk (H:=H4) (o:=.lst cV) n4).trans nG;have uM:r5=0∨r5=1:=by lia
   rcases uM with e|e
   ·subst e;exact⟨x,_,_,_,rfl,rfl,SqL.of zM,Zj (j:=0) rfl,k (.ref a1) (.lf true) _ (Lv (us:=[]) (k5 _ _ h41) Ws.nil) (by show ((1:Nat):Int)≤room;lia) (by show ((0:Nat):Int)≤deep;lia) trivial d5 hZ⟩
   ·subst e;exact⟨x,_,_,_,rfl,rfl,SqL.of zM,Zj (j:=1) rfl,k (.ref a2) (.lf false) _ (Lv (us:=[]) (k5 _ _ h42) Ws.nil) (by show ((1:Nat):Int)≤room;lia) (by show ((0:Nat):Int)≤deep;lia) trivial d5 hZ⟩
  ·have kE:(ws.map V.str).length=ws.length:=oB ..;refine⟨_,rfl,_,rfl,_,rfl,pl,_,rfl,.inl (SqL.of Zp4),p,sc,((ws.map V.str).length:Nat),rfl,by lia,by lia,xL,λr2 xs2 h20 h21 jC=>?_⟩;have c0:=xL.go jC;have d2:=Rp d1 (.lst xs2);have Zwy:=d2 _ _ y0 eN;generalize upd H1 p _=H2 at c0 d2 Zwy;obtain⟨j,rfl⟩:∃j:Nat,r2=(j:Int):=⟨r2.toNat,by lia⟩;have hj:j<ws.length:=by lia
   refine⟨pl,_,_,_,rfl,rfl,SqL.of Zwy,Zj (j:=j) (by rw[oH,oC hj];rfl),(by show 2≤sizeLine;decide),λg hg=>?_⟩;have s6:=Zf hg (.tup [V.str "has",V.str ws[j]]);exact k (.ref g) (.has ws[j]) _ (Lv (us:=[]) Zc Ws.nil) (by show ((1:Nat):Int)≤room;lia) (by show ((0:Nat):Int)≤deep;lia) (bX hj) (d2.trans (Xs.same s6)) (c0.same s6)
theorem Zdv:Ya P w K mg base CX0 1 f fd UZ (P6 0):=by
 have no:∀vs H Q E,¬ P6 0 vs H Q E:=λvs H Q E h=>by
  obtain⟨p,sc,l,ws,room,deep,_,_,_,_,_,_,_,sR,hd1,_⟩:=h;lia
 exact⟨λvs H Q E h=>absurd h (no vs H Q E),λA outer s H args us vs Q E _ _ _ _ h=>absurd h (no vs H Q E)⟩
theorem S0{f:Addr}{fd:FuncData}(F:Fun K "_law_pool_wish" "_law_pool_wish" Ww f fd)(b:Binds K fd UZ [])(m:mg "_law_pool_wish"=some (.ref f))(Z:Blt mg)(Zy:Cal P w K mg base "_law_pick" 1 TK Qm):∀n:Nat,Ya P w K mg base CX0 (n+1) f fd UZ (P6 n)
 | 0=>Zdv
 |n+1=>Zdu F Z Zy ⟨f,fd,S0 F b m Z Zy n,m,F.kp,b⟩
inductive Zoh:List Expr→List Int→Prop where
 |nil:Zoh [] []
 |cons {i:Int} {j}{pos:Pos}{es:SA}{ns:List Int} (h:Zoh es ns):Zoh (.Constant (.int i) j pos :: es) (i :: ns)
inductive Zog:List Expr→List (List Int)→Prop where
 |nil:Zog [] []
 |cons {es:SA}{ns:List Int} {x1}{pos:Pos}{r:SA}{rs:List (List Int)} (h:Zoh es ns) (t:Zog r rs):Zog (.Tuple es x1 pos :: r) (ns :: rs)
def Zqx(ns:List Int):TA:=λ_ H Q=>Q (ns.map V.int) H
def Zj5:List (List Int)→TA
 |[]=>Zc9
 |ns :: rs=>Mc (Zuz (Zqx ns)) (Zj5 rs)
theorem Zo7{es:SA}{ns:List Int}(h:Zoh es ns):PA X es (Zqx ns):=by
 induction h with
 |nil=>exact Zb
 |cons _ ih=>exact Za Zg ih rfl
theorem Zo6{es:SA}{rs:List (List Int)}(h:Zog es rs):PA X es (Zj5 rs):=by
 induction h with
 |nil=>exact Zb
 |cons h _ ih=>exact Za (Wa (Zo7 h)) ih rfl
theorem Zac{σ:L2.St}:∀{rs:List (List Int)}{H:Hp}{Q:List V→Hp→Prop},(∀r∈rs,r.length≤1000)→(∀(as:SM) H',Zl H H'→as.length=rs.length→(∀(i:Nat) a r,as[i]?=some a→rs[i]?=some r→H' a=some (.tup (r.map V.int)))→Q (as.map V.ref) H')→Zj5 rs σ H Q
 |[],H,Q,_,k=>k [] H (Zl.refl _) rfl λi a r h=>by simp at h
 |ns :: rs,H,Q,hz,k=>by
  refine⟨by rw[oB];exact Xv (hz ns oK),λa ha=>?_⟩;refine Zac (λr hr=>hz r (oQ _ hr)) λas H' e hl hk=>?_;have s1:=Zf ha (.tup (ns.map V.int));refine k (a :: as) H' (s1.trans e) (by rw[lG,lG,hl]) λi b r h1 h2=>?_
  cases i with
  |zero=>cases h1;cases h2;exact e _ _ Zc
  |succ i=>exact hk i b r (by simpa using h1) (by simpa using h2)
theorem Znb(ws:List Str):(ws.map V.str).all O6=true:=by
 induction ws with
 |nil=>rfl
 |cons e r ih=>rw[oW,UI,ih];rfl
def rdI:List Int→Nat
 |[]=>1
 |n :: ns=>(n.toNat+1)*rdI ns
theorem Zgh:∀a b:List Int,rdI (a++b)=rdI a*rdI b
 |[],b=>(Nat.one_mul _).symm
 |n :: a,b=>by
  show (n.toNat+1)*rdI (a++b)=(n.toNat+1)*rdI a*rdI b;rw[Zgh a b,Nat.mul_assoc]
theorem Zgk:∀a b:List Str,rad (a++b)=rad a*rad b
 |[],b=>(Nat.one_mul _).symm
 |z :: a,b=>by
  show (z.length+1)*rad (a++b)=(z.length+1)*rad a*rad b;rw[Zgk a b,Nat.mul_assoc]
theorem Zia(Z:Blt mg)(Zy:Cal P w K mg base "_law_pick" 1 TK Qm){cdv:Value}{A:Around}{outer:List Env}{s:Shared}{E:XK}(hr:Vn 1 (A.deeper (envOfC "_law_pool" (Ze Vb) s.heap.objs.size f cdv)))(gQ:0<l.length)(y9:l.length≤3)(FA:Yx H p sc)
  (k:∀q (ws:List Str) H',H q=none→0<ws.length→ws.length≤10→(∀z∈ws,z.length≤3∧∀c∈z.cps.toList,c∈l.cps.toList)→rad ws≤36→H' q=some (.lst (ws.map V.str))→Xs H H' p→Yx H' p sc→Q (.ref q) H')
  {es:SA}{rs:List (List Int)} (aT:Zog es rs) (n6:rs.length=7) (gS:∀r∈rs,0<r.length∧r.length≤10∧rdI r≤36∧∀n∈r,0≤n∧n≤3) {p1 p2 p3 p4 p5 p6 p7 p8:Pos} :
  ∃t,PSs (Ee CX0 P w K mg base TF "_law_pool" (Ze Vb) f cdv A outer s H E).nox (.Assign [.Name "_law_sizes" p1] (.Subscript (.List es p2) (.Call (.Name "_law_pick" p3) [.Name "_law_flow_here" p4,.Constant (.int 7) 0 p5] [] p6) p7) p8 :: (Xi Vb).drop 1) t∧t { nx:=λ_ H'=>Q .non H',rt:=Q } (L2.start TF [.ref p,.str l]) H:=by
 refine⟨_,(Zd (Zn (i:=2) V7.nd (by rfl) (Or.inl (by rfl)) (Zr (Z0 (K:=K)) (Yw (Zo6 aT)) (Z2 Zy (hr.mono (by decide)) (Za (pv 0) (Za Zg Zb))) (λ_ _=>rfl))) 
   (Zd (Zn (i:=3) V7.nd (by rfl) (Or.inl (by rfl)) (Yw Zb)) 
   (Zd (Xq lW (by rfl) (Tr (K:=K) (pv 2)) (Zo (i:=4) V7.nd (by rfl) (Or.inl (by rfl))) 
    (Zd (Zn (i:=5) V7.nd (by rfl) (Or.inl (by rfl)) (Yk (K:=K) cZ aF ZR (M9 (K:=K)) Zv (Za (Yj (sc:=Ze Vb) (Nm:=TF) (own:=["_law_k"]) (fr:=[0,1]) ⟨rfl,by decide +kernel,by decide +kernel,by decide +kernel,by decide +kernel⟩ (by rfl) (Yb (by decide)) (Vw (by rfl) Z.range (Za (pv 4) Zb)) (λd=>(Zo (i:=0) F4 (by rfl) (Or.inl (by rfl)))) (λd=>Yn) (λd=>(Zr Bx (pv 2) (Z2 Zy (hr.mono (by decide)) (Za (pv 1) (Za (Z6 Uk (by rfl) Z.len Xw (Za (pv 2) Zb)) Zb))) (λ_ _=>rfl)))) Zb))) 
    (Zh (Xp (Zz (Dk (K:=K)) (pv 5) (pv 3) (by with_unfolding_all rfl)) 
     (Zh (Ys (Yk (K:=K) oY lX lY Yp (pv 3) (Za (pv 5) Zb)))) Yo)))) 
   (Zh (Zq (pv 3)))))),?_⟩
 refine Zac (λr h=>by have:=gS r h;lia) λas H1 e1 pF c6=>?_;refine⟨by rw[oB,pF,n6];decide,λx hx=>?_⟩;generalize eZ:upd H1 x _=H2;have s2:=nS7 eZ hx;have h2x:=nU7 eZ;have e2:=e1.trans s2;have c0:=FA.same e2;refine⟨_,rfl,p,sc,7,rfl,by decide,by decide,c0,λr vT eJ uM rH=>?_⟩
 have dL:x≠p:=by
  obtain⟨ys,h1,_⟩:=FA.here;exact(Zi (e1 _ _ h1) hx).symm
 have hU:=c0.go rH;have d3:=Rp (Xs.same e2) (.lst vT) (p:=p);have k3:Tk H2 (upd H2 p (.lst vT)):=Tk.drew c0 (Xs.upd _);have h3x:=(Zk (H:=H2) (o:=.lst vT) dL).trans h2x;generalize upd H2 p _=H3 at hU d3 k3 h3x;obtain⟨j,rfl⟩:∃j:Nat,r=(j:Int):=⟨r.toNat,by lia⟩;have hj:j<as.length:=by lia
 have hjr:j<rs.length:=by lia
 have pE:as[j]?=some as[j]:=oC hj;have fW:rs[j]?=some rs[j]:=oC hjr;generalize as[j]=a at pE;generalize rs[j]=ns at fW;obtain⟨hn0,c7,hnr,q9⟩:=gS ns (oR fW);have gG:H3 a=some (.tup (ns.map V.int)):=k3 _ _ (s2 _ _ (c6 j a ns pE fW));refine⟨x,_,_,_,rfl,rfl,SqL.of h3x,Zj (j:=j) (by rw[oH,pE];rfl),?_⟩;refine⟨(by show 0≤sizeLine;decide),λq hq=>?_⟩
 have fS:H q=none:=by
  cases z:H q with
  |none=>rfl
  |some o=>
   by_cases c:q=p
   ·obtain⟨ys,h1,_⟩:=hU.here;rw[c,h1]at hq;cases hq
   ·rw[d3 _ _ z c]at hq;cases hq
 have yB:q≠p:=by
  obtain⟨ys,h1,_⟩:=hU.here;exact(Zi h1 hq).symm
 generalize eZ:upd H3 q _=H4;have s4:=nS7 eZ hq;have l5:=nU7 eZ;have hV:=hU.same s4;have d4:=d3.trans (Xs.same (p:=p) s4);have gJ:=s4 _ _ gG;have kE:(ns.map V.int).length=ns.length:=oB ..;refine⟨_,rfl,a,rfl,⟨_,SqT.of gJ⟩,?_⟩
 refine Zp6 (K:=K) (a:=a) (xs:=ns.map V.int) (λi σ Hj=>∃(ws:List Str) (v4 v5:Option V),σ=[some (.ref p),some (.str l),some (.ref a),some (.ref q),v4,v5]∧Hj q=some (.lst (ws.map V.str))∧ws.length≤i∧(0<i→0<ws.length)∧(∀z∈ws,z.length≤3∧∀c∈z.cps.toList,c∈l.cps.toList)∧rad ws≤rdI (ns.take i)∧Hj a=some (.tup (ns.map V.int))∧Xs H Hj p∧Yx Hj p sc)
  ⟨[],none,none,rfl,l5,oG _,λh=>absurd h (iL _),λz hz=>(by cases hz),oG _,gJ,d4,hV⟩ (λi σ Hj _ h=>?_) ?_ ?_
 ·obtain⟨_,_,_,_,_,_,_,_,_,h,_⟩:=h;exact SqT.of h
 ·rintro i y σ Hj hy ⟨ws,v4,v5,rfl,fI,hwi,eL,xE,sZ,fH,dj,vW⟩;rw[oH]at hy
  cases hc:ns[i]? with
  |none=>rw[hc]at hy;cases hy
  |some n=>
   rw[hc]at hy;cases hy;have hnn:=q9 n (oR hc);have t6:=(oF.mp hc).1;refine⟨rfl,_,rfl,_,rfl,by lia,by lia,?_⟩
   refine Vy (lo:=0) (k:=n.toNat) (Drawn Hj p sc l) (bK (show n.toNat≤100 by lia) (by decide)) ⟨[],rfl,rfl,λc hc=>absurd hc (by simp),vW,Xs.refl _ _⟩ Zi4
    (λi acc H2 hi hp=>S3 (Zeu gQ (by lia) rfl rfl hp)) (λacc H5 hp y hy=>?_)
   obtain⟨ys,rfl,l4,rJ,hZ,dr⟩:=hp;refine⟨_,y,ys.map one,rfl,rfl,SqL.of (by rw[Zc,Zbl]),F8 ys (by lia),?_⟩
   have zl:(Txt.join (Str.ofString "") (ys.map one)).length=n.toNat∧∀c∈(Txt.join (Str.ofString "") (ys.map one)).cps.toList,c∈l.cps.toList:=by
    rw[←len_list,join_ones];exact⟨l4,rJ⟩
   have fV:rdI (ns.take (i+1))=rdI (ns.take i)*(n.toNat+1):=by
    rw[iE,hc,Zgh];show _*((n.toNat+1)*1)=_;rw[Nat.mul_one]
   generalize Txt.join (Str.ofString "") (ys.map one)=z at zl;have s6:=Zf hy (.lst (ys.map Jg));have nq:∀{b:Addr}{o:HO},Hj b=some o→b≠p→upd H5 y (.lst (ys.map Jg)) b=some o:=λh n=>s6 _ _ (dr _ _ h n);have sM:=nq fI yB
   have nap:a≠p:=by
    obtain⟨us,h1,_⟩:=vW.here;exact Wu fH h1 λz=>nomatch z
   have mO:=nq fH nap;have yG:=hZ.same s6;have d6:=(dj.trans dr).trans (Xs.same (p:=p) s6);generalize upd H5 y _=H6 at s6 sM mO yG d6;have jB:(ws.map V.str).length=ws.length:=oB ..;refine⟨_,rfl,_,rfl,q,_,rfl,.inl (SqL.of sM),rfl,Znb ws,_,rfl,Rk (λ_=>?_) (λcc=>?_)⟩
   ·refine⟨_,rfl,.inl ⟨rfl,_,SqL.of sM⟩,_,rfl,q,_,_,rfl,rfl,sM,Z1 (by lia),?_⟩;have nqa:a≠q:=Wu mO sM λz=>nomatch z;refine⟨ws++[z],_,_,rfl,?_,by rw[oV];show ws.length+1≤i+1;lia,λ_=>by rw[oV];show 0<ws.length+1;lia,λu hu=>?_,?_,(Zk nqa).trans mO,?_,?_⟩
    ·rw[Zc,lH];rfl
    ·rcases iD.mp hu with c|c
     ·exact xE u c
     ·rw[oU.mp c];exact⟨by lia,zl.2⟩
    ·rw[Zgk,fV];show _*((z.length+1)*1)≤_;rw[Nat.mul_one,zl.1];exact XF _ sZ
    ·exact λb o hb nb=>by rw[Zk (Zi hb fS)];exact d6 _ _ hb nb
    ·obtain⟨us,h1,h2⟩:=yG.here;obtain⟨ms,h3⟩:=yG.cells
     have n1:sc≠q:=λe=>by
      obtain⟨ms0,h0⟩:=FA.cells;rw[e,fS]at h0;cases h0
     exact⟨⟨us,(Zk yB.symm).trans h1,h2⟩,ms,(Zk n1).trans h3⟩
   ·refine⟨ws,_,_,rfl,sM,by lia,λ_=>?_,xE,lI sZ (by rw[fV];exact Nat.le_mul_of_pos_right _ (Nat.succ_pos _)),mO,d6,yG⟩
    cases ws with
    |nil=>exact absurd rfl cc
    |cons=>simp
 ·rintro σ Hj ⟨ws,v4,v5,rfl,fI,hwi,eL,xE,sZ,fH,dj,vW⟩;rw[kE]at hwi eL sZ;rw[lM]at sZ;exact⟨_,rfl,k q ws Hj fS (eL hn0) (by lia) xE (lI sZ hnr) fI dj vW⟩
theorem Zbp(F:Fun K "_law_pool" "_law_pool" Vb f fd)(Z:Blt mg)(Zy:Cal P w K mg base "_law_pick" 1 TK Qm):Ya P w K mg base CX0 2 f fd RJ Zkf:=by
 refine F.ok V7 (λvs H Q E h=>?_) (λcdv A outer s H vs Q E hr h=>?_)
 ·obtain⟨p,sc,l,rfl,_⟩:=h;rfl
 obtain⟨p,sc,l,rfl,gQ,y9,FA,k⟩:=h;have c2:∀{a b:Int},True:=trivial;exact Zia Z Zy hr gQ y9 FA k (.cons (.cons (.cons .nil)) (.cons (.cons (.cons (.cons .nil))) (.cons (.cons (.cons (.cons .nil))) (.cons (.cons (.cons (.cons (.cons .nil)))) (.cons (.cons (.cons (.cons .nil))) (.cons (.cons (.cons (.cons (.cons .nil)))) (.cons (.cons (.cons .nil)) .nil))))))) rfl (by decide)
theorem e_nI(i:Nat):V.int (0+(i:Int))=nI i:=by
 rw[Int.zero_add];rfl
def cpl(n:Nat)(es:List Nat):List Nat:=(List.range n).filter λr=>!decide (r∈es)
theorem Zqe:r∈cpl n es↔r<n∧r∉es:=by
 unfold cpl;rw[aP,iG];simp
theorem Zhr(n:Nat)(es:List Nat):(cpl n es).length≤n:=by
 unfold cpl;exact lI (aX _ _) (by rw[lO];exact oG _)
theorem Zny:cpl (i+1) es=cpl i es++if decide (i∈es)=true then [] else [i]:=by
 unfold cpl;rw[ZS,UE,WT]
 by_cases c:decide (i∈es)=true
 ·rw[if_pos c,c];rfl
 ·rw[if_neg c,eq_false_of_ne_true c];rfl
inductive Zaw(Pt:Addr)(vs:List V)(H:Hp)(Q:VK):Prop
 |mk(m:Addr)(l:Str)(b:Nat)(es:List Nat)(st:UR)(h1:vs=[.ref m])(h2:Z7 H m l b es st)(h3:es.length≤900)(h4:Tb Pt Zx H)(h5:∀m' k N H',Ve Pt H H'→Tb Pt Zx H'→dn (lkN st (cpl st.length es) (k+1))≤dn (lkN st (cpl st.length es) k)→(Zm id (TL l (gL l st (lkN st (cpl st.length es) (k+1)))) ((lkN st (cpl st.length es) (k+1)).getD b 0) N).length≤N→Rt H' m' l 0 (Xh (Zm id (TL l (gL l st (lkN st (cpl st.length es) (k+1)))) ((lkN st (cpl st.length es) (k+1)).getD b 0) N) λx=>decide (x∈cpl st.length es)) (Yf id (TL l (gL l st (lkN st (cpl st.length es) (k+1)))) (Zm id (TL l (gL l st (lkN st (cpl st.length es) (k+1)))) ((lkN st (cpl st.length es) (k+1)).getD b 0) N))→Q (.ref m') H'):Zaw Pt vs H Q
def Zgc(Pt:Addr):Sp:=λvs H Q _=>Zaw Pt vs H Q
theorem Zbt(F:Fun K "contrary" "contrary" Rb f fd)(Z:Blt mg)(Vp:Cal P w K mg base "least" 5 SN (J5 Pt)):Ya P w K mg base CX0 6 f fd SN (Zgc Pt):=by
 refine F.ok Kz (λvs H Q E h=>?_) (λcdv A outer s H vs Q E hr h=>?_)
 ·obtain⟨m,l,b,es,st,rfl,_⟩:=h;rfl
 obtain⟨m,l,b,es,st,rfl,M,mW,hT,k⟩:=h
 refine⟨_,(Zd (Zn (i:=1) Kz.nd (by rfl) (Or.inl (by rfl)) (Z9 (Y6 (K:=K)) (by rfl) Z.tuple Xr (Za (Yj (sc:=Ze Rb) (Nm:=["machine","ends"]) (own:=["room"]) (fr:=[0]) ⟨rfl,by decide +kernel,by decide +kernel,by decide +kernel,by decide +kernel⟩ (by rfl) (Yb (by decide)) (Vw (by rfl) Z.range (Za (Z6 (Xf (K:=K)) (by rfl) Z.len Xw (Za (Zr (Zs (K:=K)) (pv 0) Zg (λ_ _=>rfl)) Zb)) Zb)) (λd=>(Zo (i:=0) F5 (by rfl) (Or.inl (by rfl)))) (λd=>(J9 (Zz (Dk (K:=K)) (pv 0) (Zr (Zs (K:=K)) (pv 1) Zg (λ_ _=>rfl)) (by with_unfolding_all rfl)))) (λd=>(pv 0))) Zb))) 
   (Zh (Zq (Z2 Vp (hr.mono (by decide)) (Za (Wa (Za (Zr (Zs (K:=K)) (pv 0) Zg (λ_ _=>rfl)) (Za (Zr (Zs (K:=K)) (pv 0) Zg (λ_ _=>rfl)) (Za (pv 1) (Za (Zr (Zs (K:=K)) (pv 0) Zg (λ_ _=>rfl)) Zb))))) Zb))))),?_⟩
 refine(let y1:TS:=_;(?_:Zp _ y1 _ _ _));obtain⟨eA,sA,ras,h1,h2,h3,h4,h5⟩:=M.lay;have z9:=M.few.2.2;have n6:(ras.map V.ref).length=st.length:=by rw[oB,h4]
 refine⟨_,rfl,m,_,_,_,rfl,rfl,SqT.of h1,Zj (j:=3) rfl,sA,_,rfl,.inr (SqT.of h3),_,rfl,by lia,by lia,?_⟩
 refine Vy (lo:=0) (k:=((((ras.map V.ref).length:Nat):Int)).toNat) (λi acc H2=>acc=(cpl i es).map nI∧Zl H H2) (bK (show _≤576 by lia) (by decide)) ⟨rfl,Zl.refl _⟩
  (λi acc H2 p=>by rw[p.1,oB];exact Zhr i es) (λi acc H2 hi p=>?_) (λacc H2 p y hy=>?_)
 ·obtain⟨rfl,e2⟩:=p
  have t6:inV (V.int (0+(i:Int))) (es.map nI)=decide (i∈es):=by
   rw[show (0:Int)+(i:Int)=((i:Nat):Int) by lia];exact Q5 i es
  refine⟨_,rfl,_,rfl,m,_,_,_,rfl,rfl,SqT.of (e2 _ _ h1),Zj (j:=2) rfl,eA,_,rfl,.inr (SqT.of (e2 _ _ h2)),rfl,Tx es,_,rfl,?_⟩;rw[t6,Zny,lH];refine Rk (λc=>?_) (λc=>?_)
  ·have c':¬ decide (i∈es)=true:=λz=>by
    have c2:(!decide (i∈es))=true:=c;rw[z]at c2;cases c2
   rw[if_neg c'];exact⟨_,rfl,by rw[e_nI];rfl,e2⟩
  ·have c':decide (i∈es)=true:=Classical.byContradiction λz=>c (by
    show (!decide (i∈es))=true;rw[eq_false_of_ne_true z]
    rfl)
   rw[if_pos c'];exact⟨by rw[bQ,aB],e2⟩
 obtain⟨rfl,e2⟩:=p;have kA:((((ras.map V.ref).length:Nat):Int)).toNat=st.length:=by lia
 rw[kA];have s3:=Zf hy (.lst ((cpl st.length es).map nI));refine⟨y,_,rfl,.inl ⟨SqL.of Zc,λep uD=>?_⟩⟩;have s4:=Zf uD (.tup ((cpl st.length es).map nI));have h4e:upd (upd H2 y (.lst ((cpl st.length es).map nI))) ep (.tup ((cpl st.length es).map nI)) ep=some (.tup ((cpl st.length es).map nI)):=Zc;have e4:=(e2.trans s3).trans s4;generalize upd (upd H2 y (.lst ((cpl st.length es).map nI))) ep (.tup ((cpl st.length es).map nI))=H4 at h4e e4;refine⟨_,rfl,m,_,_,_,rfl,rfl,SqT.of (e4 _ _ h1),Zj (j:=0) rfl,_,rfl,m,_,_,_,rfl,rfl,SqT.of (e4 _ _ h1),Zj (j:=1) rfl,_,rfl,_,rfl,m,_,_,_,rfl,rfl,SqT.of (e4 _ _ h1),Zj (j:=3) rfl,(by show 4≤sizeLine;decide),λm2 yZ=>?_⟩;have s5:=Zf yZ (.tup [V.str l,nI b,.ref ep,.ref sA]);have e5:=e4.trans s5;refine⟨m2,l,b,cpl st.length es,st,rfl,⟨⟨ep,sA,ras,Zc,s5 _ _ h4e,e5 _ _ h3,h4,λi a r q1 q2=>e5 _ _ (h5 i a r q1 q2)⟩,M.few,M.beg,M.rows⟩,by have:=Zhr st.length es;lia,hT.same e5,λm' k' N H' e6 zS a1 a2 a3=>k m' k' N H' (e5.t.trans e6) zS a1 a2 a3⟩
def tx(l t:Str):List Nat:=t.cps.toList.map (fx l)
def Zod(Pt:Addr)(l:Str)(b:Nat)(es:List Nat)(st:UR)(H:Hp)(Q:VK):Prop:=
 ∀m' k N H',Ve Pt H H'→Tb Pt Zx H'→dn (lkN st es (k+1))≤dn (lkN st es k)→(Zm id (TL l (gL l st (lkN st es (k+1)))) ((lkN st es (k+1)).getD b 0) N).length≤N→
  Rt H' m' l 0 (Xh (Zm id (TL l (gL l st (lkN st es (k+1)))) ((lkN st es (k+1)).getD b 0) N) λx=>decide (x∈es)) (Yf id (TL l (gL l st (lkN st es (k+1)))) (Zm id (TL l (gL l st (lkN st es (k+1)))) ((lkN st es (k+1)).getD b 0) N))→Q (.ref m') H'
theorem Bq{P:TC}(nd:l.cps.toList.Nodup)(R:Oz st l.length)(hb:b<st.length)(k:Ov Pt l P st.length H Q)(q:∀cs,(∀c∈cs,c<l.length)→(V5 st b cs∈es↔P cs)):Zod Pt l b es st H Q:=λm' k' N H' e T' few hN hL=>by
 have h:=LM.of nd (stD:=_) (esD:=_) (k:=k') (N:=N) ⟨R,hb,few,hN,rfl,rfl⟩;exact k m' _ _ H' e T' (h.1.Ai q) h.2 hL
inductive E7(Pt:Addr)(vs:List V)(H:Hp)(Q:VK):Prop
 |mk(m:Addr)(l:Str)(b:Nat)(es:List Nat)(st:UR)(h1:vs=[.ref m])(h2:Z7 H m l b es st)(h3:es.length≤900)(h4:l.cps.toList.Nodup)(h5:Tb Pt Zx H)(h6:Ov Pt l (λcs=>¬ V5 st b cs∈es) st.length H Q):E7 Pt vs H Q
def Qo(Pt:Addr):Sp:=λvs H Q _=>E7 Pt vs H Q
theorem Zey:∀vs H Q E,Qo Pt vs H Q E→Zgc Pt vs H Q E:=by
 rintro vs H Q E ⟨m,l,b,es,st,rfl,M,mW,nd,T,k⟩;refine⟨m,l,b,es,st,rfl,M,mW,T,Bq nd M.rows M.beg k λcs hc=>?_⟩;rw[Zqe];exact⟨λh=>h.2,λh=>⟨Cj M.rows cs b M.beg hc,h⟩⟩
inductive E6(Pb:Addr)(Pl:Addr)(vs:List V)(H:Hp)(Q:VK):Prop
 |mk(m1 m2:Addr)(l:Str)(b1 b2:Nat)(es1 es2:List Nat)(st1 st2:UR)(h1:vs=[.ref m1,.ref m2])(h2:Z7 H m1 l b1 es1 st1)(h3:Z7 H m2 l b2 es2 st2)(h4:es1.length≤900)(h5:es2.length≤900)(h6:st1.length*st2.length≤576)(h7:l.cps.toList.Nodup)(h8:J1 l.cps.toList)(h9:Tb Pb Xg H)(i0:Tb Pl Zx H)(yL:Pb≠Pl)(xN:Zcv Pb Pl l (λcs=>V5 st1 b1 cs∈es1∨V5 st2 b2 cs∈es2) (st1.length*st2.length) H Q):E6 Pb Pl vs H Q
def Mg(Pb Pl:Addr):Sp:=λvs H Q _=>E6 Pb Pl vs H Q
theorem Zik(F:Fun K "either" "either" Hh f fd)(Z:Blt mg)(Wc:Cal P w K mg base "contrary" 6 SN (Qo Pl))(Ks:Cal P w K mg base "both" 6 TV (Ha Pb Pl)):Ya P w K mg base CX0 7 f fd TV (Mg Pb Pl):=by
 refine F.ok Zh7 (λvs H Q E h=>?_) (λcdv A outer s H vs Q E hr h=>?_)
 ·obtain⟨m1,m2,l,b1,b2,es1,es2,st1,st2,rfl,_⟩:=h;rfl
 obtain⟨m1,m2,l,b1,b2,es1,es2,st1,st2,rfl,M1,M2,zU,o4,hmul,nd,eU,TB,mL,j5,k⟩:=h;refine⟨_,(Zh (Zq (Z2 Wc (hr.mono (by decide)) (Za (Z2 Ks (hr.mono (by decide)) (Za (Z2 Wc (hr.mono (by decide)) (Za (pv 0) Zb)) (Za (Z2 Wc (hr.mono (by decide)) (Za (pv 1) Zb)) Zb))) Zb)))),?_⟩;have sX:0<l.length∧l.length≤3:=⟨M1.few.1,M1.few.2.1⟩;have c1:=M1.few.2.2;have c2:=M2.few.2.2;refine⟨_,rfl,m1,l,b1,es1,st1,rfl,M1,zU,nd,mL,λx1 s1 f1 H1 e1 T1 D1 n1 L1=>?_⟩;have TB1:=Tb.O3 TB mL j5 e1;have k1:=Tk.t e1 mL;refine⟨_,rfl,m2,l,b2,es2,st2,rfl,M2.keep k1,o4,nd,T1,λx2 s2 f2 H2 e2 T2 D2 n2 L2=>?_⟩;have mK:=Tb.O3 TB1 T1 j5 e2;have k2:=Tk.t e2 T1;have yZ:s1.length*s2.length≤st1.length*st2.length:=XW n1 n2;refine⟨x1,x2,l,0,0,f1,f2,s1,s2,rfl,D1.Zeb sX (by lia) (L1.keep k2),D2.Zeb sX (by lia) L2,by lia,nd,eU,mK,T2,j5,λx3 s3 f3 H3 e3 TB3 T3 D3 n3 L3=>?_⟩;have hf3:=D3.ends.1;refine⟨x3,l,0,f3,s3,rfl,D3.Zeb sX (by lia) L3,by lia,nd,T3,λx4 s4 f4 H4 e4 T4 D4 n4 L4=>?_⟩;refine k x4 s4 f4 H4 (λb o q1 q2 h=>e4 _ _ q2 (e3 _ _ q1 q2 (e2 _ _ q2 (e1 _ _ q2 h)))) (Tb.O3 TB3 T3 j5 e4) T4 (D4.Ai λcs hc=>?_) (by lia) L4;rw[D3.lg cs hc,D1.lg cs hc,D2.lg cs hc];exact⟨λh=>Classical.byContradiction λz=>h ⟨λq=>z (.inl q),λq=>z (.inr q)⟩,λh z=>h.elim z.1 z.2⟩
theorem Zlu(F:Fun K "takes" "takes" C1 f fd)(Z:Blt mg)(X5:Cal P w K mg base "room_behind" 1 RF Cs):Ya P w K mg base CX0 2 f fd ["machine","text"] Cr:=by
 refine F.ok Zks (λvs H Q E h=>?_) (λcdv A outer s H vs Q E hr h=>?_)
 ·obtain⟨m,l,b,es,st,t,rfl,_⟩:=h;rfl
 obtain⟨m,l,b,es,st,t,rfl,M,ht,k⟩:=h;refine⟨_,(Zh (Zq (Wf (Nv (K:=K)) (Z2 X5 (hr.mono (by decide)) (Za (pv 0) (Za (Zr (Zs (K:=K)) (pv 0) Zg (λ_ _=>rfl)) (Za (pv 1) Zb)))) (Zr (Zs (K:=K)) (pv 0) Zg (λ_ _=>rfl)) (by with_unfolding_all rfl)))),?_⟩;obtain⟨e,s',ras,h1,h2,h3,h4,h5⟩:=M.lay;refine⟨_,rfl,_,rfl,m,_,_,_,rfl,rfl,SqT.of h1,Zj (j:=1) rfl,_,rfl,m,l,b,es,st,b,t,rfl,M,M.beg,ht,?_⟩;exact⟨_,rfl,m,_,_,_,rfl,rfl,SqT.of h1,Zj (j:=2) rfl,e,_,rfl,.inr (SqT.of h2),rfl,Tx es,k⟩
def dNs(r:List Nat):Dt:=.tup (r.map λn:Nat=>Dt.int ((n:Nat):Int))
def Zco(l:Str)(b:Nat)(es:List Nat)(st:UR):Dt:=.tup [.str l,.int (b:Int),dNs es,.tup (st.map dNs)]
theorem Zhl{α:Type}(f:α→Dt)(n:Nat)(h:∀x,(f x).dep≤n)(xs:List α):((xs.map f).map Dt.dep).foldr max 0≤n:=by
 induction xs with
 |nil=>exact lD _
 |cons x r ih=>
  rw[oW,oW,List.foldr_cons];have:=h x;lia
theorem Zhp(r:List Nat):(dNs r).dep≤1:=by
 unfold dNs;rw[Dt.dep];have:=Zhl (λn:Nat=>Dt.int (n:Int)) 0 (λx=>by simp[Dt.dep]) r;lia
theorem Zi9(l:Str)(b:Nat)(es:List Nat)(st:UR):(Zco l b es st).dep<4:=by
 unfold Zco;have h1:=Zhp es
 have h2:(Dt.tup (st.map dNs)).dep≤2:=by
  rw[Dt.dep];have:=Zhl dNs 1 Zhp st;lia
 rw[Dt.dep];simp only[oW,bQ,List.foldr_cons,List.foldr_nil];simp only[Dt.dep] at *;lia
theorem Zl0{r:List Nat}(h:H a=some (.tup (r.map nI)))(hr:r.length≤1000):Den H (.ref a) (dNs r):=by
 refine Den.tup h (by rw[oB];lia) (by rw[oB,oB]) λi x d q1 q2=>?_;rw[oH]at q1 q2
 cases y:r[i]? with
 |none=>rw[y]at q1;cases q1
 |some k=>
  rw[y]at q1 q2;cases q1;cases q2;exact .int _
def GV(H:Hp)(m:Addr)(l:Str)(P:TC)(n:Nat):Prop:=∃b es st,Z7 H m l b es st∧(∀cs,(∀c∈cs,c<l.length)→(V5 st b cs∈es↔P cs))∧es.length≤900∧st.length≤n
def LV(H:Hp)(m:Addr)(l:Str)(P:TC)(n:Nat):Prop:=∃st es,LM l P st es∧Rt H m l 0 es st∧st.length≤n
theorem GV.keep{H H':Hp}{m:Addr}{l:Str}{P:TC}{n:Nat}(h:GV H m l P n)(k:Tk H H'):GV H' m l P n:=let ⟨b,es,st,M,r⟩:=h;⟨b,es,st,M.keep k,r⟩
theorem LV.keep{H H':Hp}{m:Addr}{l:Str}{P:TC}{n:Nat}(h:LV H m l P n)(k:Tk H H'):LV H' m l P n:=let ⟨st,es,D,M,r⟩:=h;⟨st,es,D,M.keep k,r⟩
theorem LV.gv{P:TC}(h:LV H m l P n)(hn:n≤576)(hl:0<l.length∧l.length≤3):GV H m l P n:=by
 obtain⟨st,es,D,M,r⟩:=h;exact⟨0,es,st,D.Zeb hl (by lia) M,D.lg,by have:=D.ends.1;lia,r⟩
theorem Rt.den(h:Rt H m l b es st)(he:es.length≤1000)(hs:st.length≤1000)(hr:∀r∈st,r.length≤1000):Den H (.ref m) (Zco l b es st):=by
 obtain⟨e,s,ras,h1,h2,h3,h4,h5⟩:=h;refine Den.tup h1 (by show 4≤1000000;decide) rfl λi x d q1 q2=>?_
 match i,q1,q2 with
 | 0,q1,q2=>cases q1;cases q2;exact .str _
 | 1,q1,q2=>cases q1;cases q2;exact .int _
 | 2,q1,q2=>cases q1;cases q2;exact Zl0 h2 he
 | 3,q1,q2=>
  cases q1;cases q2;refine Den.tup h3 (by rw[oB];lia) (by rw[oB,oB];exact h4) λj x d q1 q2=>?_;rw[oH]at q1 q2
  cases c1:ras[j]? with
  |none=>rw[c1]at q1;cases q1
  |some a=>
   cases c2:st[j]? with
   |none=>rw[c2]at q2;cases q2
   |some r=>
    rw[c1]at q1;rw[c2]at q2;cases q1;cases q2;exact Zl0 (h5 j a r c1 c2) (hr r (oR c2))
 |i+4,q1,q2=>cases q1
theorem LM.den{l:Str}{P:TC}{st:UR}{es:List Nat}(D:LM l P st es)(hl:l.length≤3)(hs:st.length≤576){H:Hp}{m:Addr}(h:Rt H m l 0 es st):Den H (.ref m) (Zco l 0 es st):=h.den (by have:=D.ends.1;lia) (by lia) λr hr=>by have:=(D.Jf r hr).1;lia
theorem Zhi{neg:Bool}{x y:Addr}{P:TC}{n':Nat}(nd:l.cps.toList.Nodup)(hl:l.length≤3)(hx:LV H x l P n)(hy:LV H y l P' n')(hn:n≤576)(q:∀cs,(∀c∈cs,c<l.length)→(P cs↔P' cs))(k:Q (.bl (!neg)) H):Zvv neg (.ref x) (.ref y) H Q:=by
 obtain⟨s1,e1,D1,M1,r1⟩:=hx;obtain⟨s2,e2,D2,M2,r2⟩:=hy;obtain⟨rfl,rfl⟩:=D1.uniq nd D2 q;exact⟨_,by have:=Zi9 l 0 e1 s1;unfold Zco at this;lia,D1.den hl (by lia) M1,D2.den hl (by lia) M2,k⟩
structure Zfi(Pb Pl:Addr)(H:Hp):Prop where
 b:Tb Pb Xg H
 l:Tb Pl Zx H
 n:Pb≠Pl
def Cf(Pb Pl:Addr)(l:Str)(P:TC)(n:Nat)(H:Hp)(Q:VK):Prop:=∀m' H',Kp2 Pb Pl H H'→Zfi Pb Pl H'→LV H' m' l P n→Q (.ref m') H'
section
variable {Pb Pl:Addr}{H:Hp}{l:Str}{P P1 P2:TC}{n n1 n2:Nat}{Q:VK}{m m1 m2:Addr}
theorem Ik(T:Zfi Pb Pl H)(hn:∀st:List (List Nat),st.length≤n1→st.length≤n)(k:Cf Pb Pl l P n H Q){P0:TC}(q:∀cs,(∀c∈cs,c<l.length)→(P0 cs↔P cs)):Ov Pl l P0 n1 H Q:=λm' stD esD H' e T' D hs hL=>
 k m' H' (λb o _ n2 h=>e b o n2 h) ⟨Tb.O3 T.b T.l T.n e,T',T.n⟩ ⟨stD,esD,D.Ai q,hL,hn stD hs⟩
theorem Zir(G:GV H m l P n)(nd:l.cps.toList.Nodup)(T:Zfi Pb Pl H)(k:Cf Pb Pl l P n H Q):Ss Pl [.ref m] H Q E0:=by
 obtain⟨b,es,st,M,lg,he,hs⟩:=G;exact⟨m,l,b,es,st,rfl,M,he,nd,T.l,Ik T (λs h=>by lia) k lg⟩
theorem Zja(G:GV H m l P n)(nd:l.cps.toList.Nodup)(T:Zfi Pb Pl H)(k:Cf Pb Pl l (λcs=>¬ P cs) n H Q):Qo Pl [.ref m] H Q E0:=by
 obtain⟨b,es,st,M,lg,he,hs⟩:=G;exact⟨m,l,b,es,st,rfl,M,he,nd,T.l,Ik T (λs h=>by lia) k λcs hc=>not_congr (lg cs hc)⟩
theorem Zn3(G1:GV H m1 l P1 n1)(G2:GV H m2 l P2 n2)(hm:n1*n2≤576)(nd:l.cps.toList.Nodup)(eU:J1 l.cps.toList)(T:Zfi Pb Pl H)(k:Cf Pb Pl l (λcs=>P1 cs∧P2 cs) (n1*n2) H Q):Ha Pb Pl [.ref m1,.ref m2] H Q E0:=by
 obtain⟨b1,es1,st1,M1,rZ,zU,jA⟩:=G1;obtain⟨b2,es2,st2,M2,dA,o4,xY⟩:=G2;have hmul:st1.length*st2.length≤n1*n2:=XW jA xY;exact⟨m1,m2,l,b1,b2,es1,es2,st1,st2,rfl,M1,M2,by lia,nd,eU,T.b,T.l,T.n,λm' stD esD H' e tb tl D hs hL=>k m' H' e ⟨tb,tl,T.n⟩ ⟨stD,esD,D.Ai λcs hc=>and_congr (rZ cs hc) (dA cs hc),hL,by lia⟩⟩
theorem Zet(G1:GV H m1 l P1 n1)(G2:GV H m2 l P2 n2)(hm:n1*n2≤576)(nd:l.cps.toList.Nodup)(eU:J1 l.cps.toList)(T:Zfi Pb Pl H)(k:Cf Pb Pl l (λcs=>P1 cs∨P2 cs) (n1*n2) H Q):Mg Pb Pl [.ref m1,.ref m2] H Q E0:=by
 obtain⟨b1,es1,st1,M1,rZ,zU,jA⟩:=G1;obtain⟨b2,es2,st2,M2,dA,o4,xY⟩:=G2;have hmul:st1.length*st2.length≤n1*n2:=XW jA xY;exact⟨m1,m2,l,b1,b2,es1,es2,st1,st2,rfl,M1,M2,zU,o4,by lia,nd,eU,T.b,T.l,T.n,λm' stD esD H' e tb tl D hs hL=>k m' H' e ⟨tb,tl,T.n⟩ ⟨stD,esD,D.Ai λcs hc=>or_congr (rZ cs hc) (dA cs hc),hL,by lia⟩⟩
end
theorem Tb.drew{L:List TQ}(t:Tb Pt L H)(F:Yx H p sc)(d:Xs H H' p):Tb Pt L H':=by
 obtain⟨ps,h1,h2,h3⟩:=t;obtain⟨xs,hp,_⟩:=F.here;refine⟨ps,d _ _ h1 (Wu h1 hp λz=>nomatch z),h2,λx hx=>(h3 x hx).imp id λ⟨c,a,b⟩=>⟨c,a,d _ _ b (Wu b hp λz=>nomatch z)⟩⟩
theorem Py{t:Str}{P:TC}(L:LV H m l P n)(hn:n≤576)(hl:0<l.length∧l.length≤3)(ht:∀c∈t.cps.toList,c∈l.cps.toList)(k:∀b:Bool,(b=true↔P (tx l t))→Q (.bl b) H):Cr [.ref m,.str t] H Q E0:=by
 obtain⟨st,es,D,M,r⟩:=L;refine⟨m,l,0,es,st,t,rfl,D.Zeb hl (by lia) M,ht,k _ ?_⟩;have e:inV (nI (way l st 0 t.cps.toList)) (es.map nI)=decide (way l st 0 t.cps.toList∈es):=Q5 _ es;rw[e,decide_eq_true_eq,Zfn];exact D.lg _ (Zeq ht)
theorem Wi.Hw{p q:RQ}(h:∀z,p z→q z):∀{W:Wi},W.ok p→W.ok q
 |.lf _,_=>trivial
 |.has z,hz=>h z hz
 |.nt x,hx=>Wi.Hw (W:=x) h hx
 |.bi _ x y,uS=>⟨Wi.Hw (W:=x) h uS.1,Wi.Hw (W:=y) h uS.2⟩
structure Kept(H H':Hp):Prop where
 t:Tk H H'
 f:∀{p sc:Addr},Yx H p sc→Yx H' p sc
theorem Kept.trans{H H1 H2:Hp}(a:Kept H H1)(b:Kept H1 H2):Kept H H2:=⟨a.t.trans b.t,λF=>b.f (a.f F)⟩
theorem Zl.kept(e:Zl H H'):Kept H H':=⟨Tk.same e,λF=>F.same e⟩
structure Cz(ts:TM)(H:Hp):Prop where
 a:∀q∈ts,Tb q.1 q.2 H
 n:(ts.map (·.1)).Nodup
theorem Znv{ts:TM}(nd:(ts.map (·.1)).Nodup){q r:Addr×List TQ}(hq:q∈ts)(hr:r∈ts)(e:q.1=r.1):q=r:=by
 induction ts with
 |nil=>cases hq
 |cons t ts ih=>
  rw[oW,iJ]at nd
  rcases oX.mp hq with a|a<;>rcases oX.mp hr with b|b
  ·rw[a,b]
  ·exact absurd (lF.mpr ⟨r,b,by rw[←e,a]⟩) nd.1
  ·exact absurd (lF.mpr ⟨q,a,by rw[e,b]⟩) nd.1
  ·exact ih nd.2 a b
structure A3(ts:TM)(Pm Pl Pb Pt Pp:Addr):Prop where
 m:(Pm,Nb)∈ts
 l:(Pl,Zx)∈ts
 b:(Pb,Xg)∈ts
 t:(Pt,L0)∈ts
 p:(Pp,X6)∈ts
 ml:Pm≠Pl
 bl:Pb≠Pl
structure Lts(l:Str):Prop where
 pos:0<l.length
 le:l.length≤3
 is:Vf l l.length
theorem Lts.nd(h:Lts l):l.cps.toList.Nodup:=h.is.2.1.imp λh=>lE h
theorem Lts.rise(h:Lts l):J1 l.cps.toList:=λn n' c c' hn e1 e2=>by
 obtain⟨h1,rfl⟩:=oF.mp e1;obtain⟨h2,rfl⟩:=oF.mp e2;exact aE.mp h.is.2.1 n n' h1 h2 hn
theorem Lts.two(h:Lts l):0<l.length∧l.length≤3:=⟨h.pos,h.le⟩
structure Fw(W:Wi)(n:Nat):Prop where
 sz:W.sz≤60
 ok:W.ok (λz=>z.length≤3)
 rad:∀zs,A0 W zs→My.rad zs≤n
theorem Fw.Zrs{W:Wi}(h:Fw W n):W.ok (λz=>z.length≤100):=Wi.Hw (λz hz=>by lia) h.ok
theorem Zbc{x:Str}:∀{b:List Str},x∈b→rad b=(x.length+1)*rad (b.erase x)
 |y :: b,h=>by
  by_cases c:y=x
  ·rw[c,List.erase_cons_head];rfl
  ·rw[List.erase_cons_tail (by simpa using c)];show (y.length+1)*rad b=(x.length+1)*((y.length+1)*rad (b.erase x));rw[Zbc ((oX.mp h).resolve_left λe=>c e.symm),Nat.mul_left_comm]
theorem Zgi:∀{a b:List Str},a.Nodup→(∀c∈a,c∈b)→rad a≤rad b
 |[],b,_,_=>J8 b
 |x :: a,b,nd,h=>by
  rw[Zbc (h x oK)];exact Nat.mul_le_mul_left _ (Zgi (iJ.mp nd).2 λc hc=>(VP λe=>(iJ.mp nd).1 (by rw[←e];exact hc)).mpr (h c (oQ _ hc)))
theorem Zgj:∀a:List Str,rad (a.map Vr)=rad a
 |[]=>rfl
 |z :: a=>by
  show ((Vr z).length+1)*rad (a.map Vr)=(z.length+1)*rad a;rw[Za7,Zgj a]
theorem Zkv:∀{zs:List Str},(∀z∈zs,z.length≤3)→rad zs≤4 ^ zs.length
 |[],_=>oG _
 |z :: zs,h=>by
  show (z.length+1)*rad zs≤4 ^ (zs.length+1);have h1:=h z oK;have h2:=Zkv λy hy=>h y (oQ _ hy);rw[Nat.pow_succ,Nat.mul_comm];exact XW h2 (by lia)
theorem sub_len:∀{a b:List Str},a.Nodup→(∀c∈a,c∈b)→a.length≤b.length
 |[],_,_,_=>lD _
 |x :: a,b,nd,h=>by
  have hx:x∈b:=h x oK;have q:=sub_len (b:=b.erase x) (iJ.mp nd).2 λc hc=>(VP λe=>(iJ.mp nd).1 (by rw[←e];exact hc)).mpr (h c (oQ _ hc));rw[List.length_erase_of_mem hx]at q;have:=List.length_pos_of_mem hx;rw[lG];lia
theorem Zti(W:Wi):2*W.wds.length≤W.sz+1:=by
 induction W with
 |lf b=>show 2*0≤_;lia
 |has z=>simp[Wi.wds,Wi.pre,Wi.wd,Wi.sz]
 |nt x ih=>rw[Wi.Zcw];simp only[Wi.sz];lia
 |bi b x y p0 p9=>rw[Wi.Zcx,oV];simp only[Wi.sz];lia
theorem Fw.of{W:Wi}{ws:List Str}(hz:W.sz≤60)(hok:W.ok (λz=>z∈ws))(h3:∀z∈ws,z.length≤3):Fw W (My.rad ws):=⟨hz,Wi.Hw h3 hok,λzs w=>Zgi w.1 λz hz=>Wi.Be hok z ((w.2.1 z).mp hz)⟩
theorem Fw.rev{W:Wi}{ws:List Str}(hz:W.sz≤60)(hok:W.ok (λz=>z∈ws))(h3:∀z∈ws,z.length≤3):Fw (W.map Vr) (My.rad ws):=by
 rw[←Zgj ws];refine .of (by rw[Wi.Zmd];exact hz) (Wi.Bl (λz hz=>lF.mpr ⟨z,hz,rfl⟩) hok) λz hz=>?_;obtain⟨y,hy,rfl⟩:=lF.mp hz;rw[Za7];exact h3 y hy
theorem Fw.up{W:Wi}{m:Nat}(h:Fw W n)(q:n≤m):Fw W m:=⟨h.sz,h.ok,λzs w=>lI (h.rad zs w) q⟩
theorem Fw.two{W:Wi}(h:Fw W n)(hz:W.sz≤4):Fw W 16:=⟨h.sz,h.ok,λzs w=>by
 have h1:=Zkv λz hz=>Wi.Be h.ok z ((w.2.1 z).mp hz);have h2:=Zti W;have h3:=sub_len w.1 λz hz=>(w.2.1 z).mp hz
 exact lI h1 (VQ (n:=4) (j:=2) (by decide) (by lia))⟩
section
variable {ts:TM}{Pm Pl Pb Pt Pp:Addr}{H H':Hp}{l:Str}{P P1 P2:TC}{n n1 n2:Nat}{Q:VK}{m m1 m2:Addr}{v:V}{W:Wi}
theorem Cz.same(T:Cz ts H)(e:Zl H H'):Cz ts H':=⟨λq h=>(T.a q h).same e,T.n⟩
theorem Cz.drew{p sc:Addr}(T:Cz ts H)(F:Yx H p sc)(d:Xs H H' p):Cz ts H':=⟨λq h=>Tb.drew (T.a q h) F d,T.n⟩
theorem Cz.go(T:Cz ts H){A B:Addr}{L M:List TQ}(ha:(A,L)∈ts)(hb:(B,M)∈ts)(e:Kp2 A B H H')(ta:Tb A L H')(tb:Tb B M H'):Kept H H'∧Cz ts H':=by
 obtain⟨ps,pa,_⟩:=T.a _ ha;obtain⟨qs,pb,_⟩:=T.a _ hb;have at_:∀{b:Addr}{o:HO},H b=some o→(∀t,o≠.tbl t)→H' b=some o:=λh ho=>e _ _ (Wu h pa (ho _)) (Wu h pb (ho _)) h;refine⟨⟨λb ys h=>at_ h λ_=>nofun,λF=>?_⟩,λq hq=>?_,T.n⟩
 ·obtain⟨xs,hp,hx⟩:=F.here;obtain⟨ns,hc⟩:=F.cells;exact⟨⟨xs,at_ hp (λ_=>nofun),hx⟩,ns,at_ hc (λ_=>nofun)⟩
 ·by_cases c:q.1=A
  ·rw[Znv T.n hq ha c];exact ta
  ·by_cases d:q.1=B
   ·rw[Znv T.n hq hb d];exact tb
   ·obtain⟨rs,h1,h2,h3⟩:=T.a q hq;exact⟨rs,e _ _ c d h1,h2,λx hx=>(h3 x hx).imp id λ⟨c,a,b⟩=>⟨c,a,at_ b λ_=>nofun⟩⟩
theorem Cz.go1(T:Cz ts H){A:Addr}{L:List TQ}(ha:(A,L)∈ts)(e:Ve A H H')(ta:Tb A L H'):Kept H H'∧Cz ts H':=T.go ha ha (λb o n _ h=>e b o n h) ta ta
def Told(ts:TM)(l:Str)(P:TC)(n:Nat)(H:Hp)(Q:VK):Prop:=∀m' H',Kept H H'→Cz ts H'→LV H' m' l P n→Q (.ref m') H'
theorem Zfs(U:A3 ts Pm Pl Pb Pt Pp)(T:Cz ts H)(k:Told ts l P n H Q):Cf Pb Pl l P n H Q:=λm' H' e T' L=>let ⟨a,b⟩:=T.go U.b U.l e T'.b T'.l;k m' H' a b L
theorem Cz.two(T:Cz ts H)(U:A3 ts Pm Pl Pb Pt Pp):Zfi Pb Pl H:=⟨T.a _ U.b,T.a _ U.l,U.bl⟩
theorem Zd7(U:A3 ts Pm Pl Pb Pt Pp)(T:Cz ts H)(hW:WAt H v W)(hF:Fw W n)(hn:n≤576)(L:Lts l)(k:Told ts l (Ut l W) n H Q):Qn Pm Pl [.str l,v] H Q E0:=
 ⟨l,v,W,n,rfl,hW,hF.sz,hF.Zrs,L.pos,L.le,L.nd,L.rise,hF.rad,hn,T.a _ U.m,T.a _ U.l,U.ml,λm' stD esD H' e Tm Tl D hs hL=>let ⟨a,b⟩:=T.go U.m U.l e Tm Tl;k m' H' a b ⟨stD,esD,D,hL,hs⟩⟩
theorem Zj2(U:A3 ts Pm Pl Pb Pt Pp)(T:Cz ts H)(hW:WAt H v W)(hF:Fw W n)(k:∀u H',Kept H H'→Cz ts H'→WAt H' u (W.map Vr)→Q u H'):Mf Pt [v] H Q E0:=
 ⟨v,W,rfl,hW,by have:=hF.sz;lia,hF.Zrs,T.a _ U.t,λu H' e T' hu=>let ⟨a,b⟩:=T.go1 U.t e T';k u H' a b hu⟩
def Df(l:Str)(P1 P2:TC)(w:List Nat):Prop:=¬ (P1 (w.map (fx l))↔P2 (w.map (fx l)))
theorem Vz.Ai(h:Vz l P v)(q:∀w:List Nat,(∀c∈w,c∈l.cps.toList)→(P w↔P' w)):Vz l P' v:=by
 rcases h with ⟨e,h⟩|⟨t,e,h1,h2,h3,h4⟩
 ·exact .inl ⟨e,λw hw hp=>h w hw ((q w hw).mpr hp)⟩
 ·exact .inr ⟨t,e,h1,h2,(q t h1).mp h3,λw hw hp=>h4 w hw ((q w hw).mpr hp)⟩
theorem Vz.Zdl(h:Vz l P v):L2.Zdl v v=true:=by
 rcases h with ⟨rfl,_⟩|⟨t,rfl,_⟩<;>rfl
theorem Nn(U:A3 ts Pm Pl Pb Pt Pp)(T:Cz ts H)(L:Lts l)(X1:LV H m1 l P1 n1)(X2:LV H m2 l P2 n2)(h1:n1≤576)(h2:n2≤576)(k:∀v H',Kept H H'→Cz ts H'→Vz l (Df l P1 P2) v→Q v H'):Oa Pp [.ref m1,.ref m2] H Q E0:=by
 obtain⟨st1,es1,D1,M1,r1⟩:=X1;obtain⟨st2,es2,D2,M2,r2⟩:=X2;refine⟨m1,m2,l,0,0,es1,es2,st1,st2,rfl,D1.Zeb L.two (by lia) M1,D2.Zeb L.two (by lia) M2,lI (XW (lI r1 h1) (lI r2 h2)) (by decide),L.rise,T.a _ U.p,λv H3 e3 Tp3 hF=>?_⟩;obtain⟨a,b⟩:=T.go1 U.p e3 Tp3;refine k v H3 a b (hF.Ai λw hw=>?_);unfold Parts Df;rw[Zfn,Zfn,D1.lg _ (Zeq hw),D2.lg _ (Zeq hw)]
end
def tns(r:List Nat):List V:=r.map nI
def MT(H:Hp)(m:Addr)(l:Str)(b:Nat)(es:List Nat)(st:UR):Prop:=∃(e s:Addr) (xs:List V),H m=some (.tup [.str l,nI b,.ref e,.ref s])∧H e=some (.tup (es.map nI))∧H s=some (.tup xs)∧TR tns H xs st
structure OkM(l:Str)(b:Nat)(es:List Nat)(st:UR):Prop where
 Ztf:∃n,Vf l n∧1≤n∧n≤26
 beg:b<1000
 ends:es.length≤900∧∀x∈es,x<1000
 room:1≤st.length∧st.length≤900
 rows:∀r∈st,r.length=l.length∧∀x∈r,x<1000
def nS(n:Nat):Str:=Zpf (n:Int)
def Zlz(cs:List Nat):Bool:=cs.all (λc=>decide (48≤c)&&decide (c≤57))&&(decide (1≤cs.length)&&decide (cs.length≤3))&&(decide (cs=[48])||decide (cs.getD 0 0≠48))
theorem Zpe:∀n,n<1000→Zlz ((Nat.toDigits 10 n).map Char.toNat)=true:=by decide +kernel
theorem Zwa(h:n<1000):Zlz (nS n).cps.toList=true:=by
 have:=Zpe n h;rw[←W.KIN.signs_num]at this;exact this
theorem Zd6(h:n<1000):(∀c∈(nS n).cps.toList,48≤c∧c≤57)∧1≤(nS n).length∧(nS n).length≤3∧((nS n).cps.toList=[48]∨(nS n).cps.toList.getD 0 0≠48):=by
 have:=Zwa h;unfold Zlz at this;rw[lQ,lQ,lQ,Bool.or_eq_true,aU]at this;obtain⟨⟨h1,h2,h3⟩,h4⟩:=this;rw[len_list]at h2 h3;refine⟨λc hc=>?_,of_decide_eq_true h2,of_decide_eq_true h3,?_⟩
 ·have:=h1 c hc;rw[lQ]at this;exact⟨of_decide_eq_true this.1,of_decide_eq_true this.2⟩
 ·rcases h4 with z|z
  ·exact .inl (of_decide_eq_true z)
  ·exact .inr (of_decide_eq_true z)
theorem Oc:Str.ofString " "=⟨#[32]⟩:=by decide +kernel
theorem C2:Str.ofString "\n"=⟨#[10]⟩:=by decide +kernel
def Je(name:Str)(ns:List Nat):List Str:=name :: ns.map nS
def Sx(name:Str)(ns:List Nat):Str:=Txt.join ⟨#[32]⟩ (Je name ns)
def Bp(l:Str):Str:=Txt.join ⟨#[32]⟩ [Str.ofString "letters",l]
def Wo(l:Str)(b:Nat)(es:List Nat)(st:UR):List Str:=[Bp l,Sx (Str.ofString "begin") [b],Sx (Str.ofString "ends") es]++st.map (Sx (Str.ofString "room"))
def Zg3(l:Str)(b:Nat)(es:List Nat)(st:UR):Str:=Txt.join ⟨#[10]⟩ (Wo l b es st)
theorem join_le(c:Nat)(ys:List Str):(Txt.join ⟨#[c]⟩ ys).length≤(ys.map (·.length)).sum+ys.length:=by
 have h:Txt.join ⟨#[c]⟩ ys=Str.join ⟨#[c]⟩ ys:=ZP _ _;rw[h];have:=StrLaws.join_length_le ⟨#[c]⟩ ys;have e:(⟨#[c]⟩:Str).length=1:=rfl;rw[e,Nat.mul_one]at this;exact this
theorem Zdc{k:Nat}(h:∀y∈ys,y.length≤k):(ys.map (·.length)).sum≤ys.length*k:=by
 induction ys with
 |nil=>simp
 |cons y r ih=>
  rw[oW,WR,lG,Nat.succ_mul];have:=h y oK;have:=ih λz hz=>h z (oQ _ hz);lia
theorem Dd(hn:name.length≤10)(h:∀x∈ns,x<1000):∀y∈Je name ns,y.length≤10:=λy hy=>by
 rcases oX.mp hy with e|e
 ·rw[e];exact hn
 ·obtain⟨x,hx,rfl⟩:=lF.mp e;have:=(Zd6 (h x hx)).2.2.1;lia
theorem J7(hn:name.length≤10)(h:∀x∈ns,x<1000):(Sx name ns).length≤11*(ns.length+1):=by
 have h1:=join_le 32 (Je name ns);have h2:=Zdc (Dd hn h)
 have h3:(Je name ns).length=ns.length+1:=by
  unfold Je;rw[lG,oB]
 unfold Sx;rw[h3]at h1 h2;lia
inductive Iy(vs:List V)(H:Hp)(Q:VK):Prop
 |mk(name:Str)(q:Addr)(ns:List Nat)(h1:vs=[.str name,.ref q])(h2:name.length≤10)(h3:ns.length≤900)(h4:(∀x∈ns,x<1000))(h5:(H q=some (.lst (ns.map nI))∨H q=some (.tup (ns.map nI))))(h6:∀H',Zl H H'→Q (.str (Sx name ns)) H'):Iy vs H Q
def Ey:Sp:=λvs H Q _=>Iy vs H Q
theorem Zbn(F:Fun K "show_row" "show_row" Ra f fd)(Z:Blt mg):Ya P w K mg base CX0 1 f fd RI Ey:=by
 refine F.ok Za0 (λvs H Q E h=>?_) (λcdv A outer s H vs Q E hr h=>?_)
 ·obtain⟨name,q,ns,rfl,_⟩:=h;rfl
 obtain⟨name,q,ns,rfl,hn,uI,u3,hq,k⟩:=h;refine⟨_,(Zh (Zq (Yk (K:=K) cZ aF ZR (M9 (K:=K)) Zv (Za (Yd Zls (Yw (Za (pv 0) Zb)) (Yj (sc:=Ze Ra) (Nm:=RI) (own:=["number"]) (fr:=[]) ⟨rfl,by decide +kernel,by decide +kernel,by decide +kernel,by decide +kernel⟩ (by rfl) (Yb (by decide)) (Zv0 (X9 (K:=K) (pv 1)) (Tr (K:=K) (pv 1))) (λd=>(Zo (i:=0) F0 (by rfl) (Or.inl (by rfl)))) (λd=>Yn) (λd=>(Z9 Ak (by rfl) Z.str Zul (Za (pv 0) Zb))))) Zb)))),?_⟩;refine⟨rfl,_,rfl,(by show 1≤sizeLine;decide),λl1 y9=>?_⟩;generalize eZ:upd H l1 _=H1;have e1:=nS7 eZ y9;have h1:=nU7 eZ
 have turn:∀(i:Nat) (acc:List V) (H2:Hp) (n:Nat),ns[i]?=some n→(acc=(ns.take i).map (λn=>V.str (nS n))∧Zl H1 H2)→∀σ:L2.St,tCB (λxs H Q=>∃n:Int,xs=[.int n]∧n.natAbs<1000000∧Q (.str (Zpf n)) H) (Mc (L5 0) Zc9) ((To 1 [] σ).set 0 (some (nI n))) H2 λv H6=>(acc++[v]=(ns.take (i+1)).map (λn=>V.str (nS n))∧Zl H1 H6):=λi acc H2 n hi p σ=>by
  have c7:=u3 n (oR hi);refine⟨_,rfl,_,rfl,by show ((n:Nat):Int).natAbs<1000000;lia,?_,p.2⟩;rw[p.1,map_take hi];rfl
 have done:∀(acc:List V) (H2:Hp),(acc=(ns.take ns.length).map (λn=>V.str (nS n))∧Zl H1 H2)→∀l2,H2 l2=none→Zvw (.ref l1) (.ref l2) (upd H2 l2 (.lst acc)) λv H3=>rJoin K (V.str (Str.ofString " ")) [v] H3 Q:=λacc H2 p l2 t0=>by
  obtain⟨rfl,e2⟩:=p;rw[lM];have s3:=Zf t0 (.lst (ns.map λn=>V.str (nS n)));refine⟨l1,l2,[.str name],_,rfl,rfl,s3 _ _ (e2 _ _ h1),Zc,(by rw[oB];exact Xv (by show 1+ns.length≤1000;lia)),λl3 sX=>?_⟩;refine⟨_,l3,Je name ns,rfl,rfl,SqL.of (Zc.trans ?_),?_,?_⟩
  ·unfold Je;rw[oW,lU];rfl
  ·have h2:=Zdc (Dd hn u3)
   have h3:(Je name ns).length=ns.length+1:=by
    unfold Je;rw[lG,oB]
   rw[Oc];show _+_*1≤_;rw[h3]at h2 ⊢;lia
  ·rw[Oc];exact k _ (((e1.trans e2).trans s3).trans (Zf sX _))
 rcases hq with hq|hq
 ·refine .inl ⟨_,rfl,q,rfl,⟨_,SqL.of (e1 _ _ hq)⟩,?_⟩
  refine S4 (K:=K) (a:=q) (xs:=ns.map nI) (λi acc H2=>acc=(ns.take i).map (λn=>V.str (nS n))∧Zl H1 H2) (by rw[oB];exact Z1 (by lia)) ⟨rfl,Zl.refl _⟩ (λi acc H2 p=>by rw[p.1,oB,lC];exact iR _ _)
   (λi acc H2 p=>SqL.of (p.2 _ _ (e1 _ _ hq))) (λi acc H2 x hx p=>?_) (λacc H2 p l2 t0=>done acc H2 (by rw[oB]at p;exact p) l2 t0)
  rw[oH]at hx
  cases hi:ns[i]? with
  |none=>rw[hi]at hx;cases hx
  |some n=>
   rw[hi]at hx;cases hx;exact S3 (turn i acc H2 n hi p _)
 ·refine .inr ⟨_,rfl,q,rfl,⟨_,SqT.of (e1 _ _ hq)⟩,?_⟩
  refine U5 (K:=K) (a:=q) (xs:=ns.map nI) (λi acc H2=>acc=(ns.take i).map (λn=>V.str (nS n))∧Zl H1 H2) (by rw[oB];exact Z1 (by lia)) ⟨rfl,Zl.refl _⟩ (λi acc H2 p=>by rw[p.1,oB,lC];exact iR _ _)
   (λi acc H2 p=>SqT.of (p.2 _ _ (e1 _ _ hq))) (λi acc H2 x hx p=>?_) (λacc H2 p l2 t0=>done acc H2 (by rw[oB]at p;exact p) l2 t0)
  rw[oH]at hx
  cases hi:ns[i]? with
  |none=>rw[hi]at hx;cases hx
  |some n=>
   rw[hi]at hx;cases hx;exact S3 (turn i acc H2 n hi p _)
theorem Zpr(l:Str):Str.ofString "letters "++l=Bp l:=by
 have e:Str.ofString "letters "=Str.ofString "letters"++(⟨#[32]⟩:Str):=by decide +kernel
 have h:Bp l=Str.join ⟨#[32]⟩ [Str.ofString "letters",l]:=ZP _ _;rw[h,e];rfl
theorem Dm:(Str.ofString "letters").length=7:=by decide +kernel
theorem Bj:(Str.ofString "begin").length=5:=by decide +kernel
theorem Zd5:(Str.ofString "ends").length=4:=by decide +kernel
theorem Zd4:(Str.ofString "room").length=4:=by decide +kernel
theorem OkM.len(h:OkM l b es st):1≤l.length∧l.length≤26:=by
 obtain⟨n,hl,h1,h2⟩:=h.Ztf;have:=len_list l;have:=hl.1;lia
theorem Zdq(h:OkM l b es st):∀y∈st.map (Sx (Str.ofString "room")),y.length≤400:=λy hy=>by
 have hl:=h.len;obtain⟨r,hr,rfl⟩:=lF.mp hy;have:=J7 (name:=Str.ofString "room") (ns:=r) (by rw[Zd4];decide) (h.rows r hr).2;have:=(h.rows r hr).1;lia
theorem Za5(l:Str)(b:Nat)(es:List Nat)(st:UR):(Wo l b es st).length=3+st.length:=by
 unfold Wo;rw[oV,oB];rfl
theorem Za4(h:OkM l b es st):((Wo l b es st).map (·.length)).sum+(Wo l b es st).length≤1000000:=by
 have hl:=h.len;have h1:=Zdc (Zdq h);have h2:=Za5 l b es st;have h3:=h.room.2;rw[oB]at h1;have a:=join_le 32 [Str.ofString "letters",l];have c:=J7 (name:=Str.ofString "begin") (ns:=[b]) (by rw[Bj];decide) (λx hx=>by rw[oU.mp hx];exact h.beg);have d:=J7 (name:=Str.ofString "ends") (ns:=es) (by rw[Zd5];decide) h.ends.2;have e:=h.ends.1;simp only[oW,bQ,WR,List.sum_nil,lG,ZA,Dm]at a c;have a:(Bp l).length≤_:=a;rw[h2];unfold Wo;rw[lH,List.sum_append_nat];simp only[oW,bQ,WR,List.sum_nil];lia
inductive Zai(vs:List V)(H:Hp)(Q:VK):Prop
 |mk(m:Addr)(l:Str)(b:Nat)(es:List Nat)(st:UR)(h1:vs=[.ref m])(h2:MT H m l b es st)(h3:OkM l b es st)(h4:∀H',Zl H H'→Q (.str (Zg3 l b es st)) H'):Zai vs H Q
def Zf0:Sp:=λvs H Q _=>Zai vs H Q
theorem Jh(F:Fun K "show_machine" "show_machine" Vi f fd)(Z:Blt mg)(Tf:Cal P w K mg base "show_row" 1 RI Ey):Ya P w K mg base CX0 2 f fd SN Zf0:=by
 refine F.ok Ry (λvs H Q E h=>?_) (λcdv A outer s H vs Q E hr h=>?_)
 ·obtain⟨m,l,b,es,st,rfl,_⟩:=h;rfl
 obtain⟨m,l,b,es,st,rfl,hM,ok,k⟩:=h
 refine⟨_,(Zd (Zn (i:=1) Ry.nd (by rfl) (Or.inl (by rfl)) (Yw (Za (Yd Rg Zv (Zr (Zs (K:=K)) (pv 0) Zg (λ_ _=>rfl))) (Za (Z2 Tf (hr.mono (by decide)) (Za Zv (Za (Yw (Za (Zr (Zs (K:=K)) (pv 0) Zg (λ_ _=>rfl)) Zb)) Zb))) (Za (Z2 Tf (hr.mono (by decide)) (Za Zv (Za (Zr (Zs (K:=K)) (pv 0) Zg (λ_ _=>rfl)) Zb))) Zb))))) 
   (Zd (Ys (Yk (K:=K) oY YH YI Oi (pv 1) (Za (Yj (sc:=Ze Vi) (Nm:=["machine","rows"]) (own:=["row"]) (fr:=[]) ⟨rfl,by decide +kernel,by decide +kernel,by decide +kernel,by decide +kernel⟩ (by rfl) (Yb (by decide)) (Tr (K:=K) (Zr (Zs (K:=K)) (pv 0) Zg (λ_ _=>rfl))) (λd=>(Zo (i:=0) M4 (by rfl) (Or.inl (by rfl)))) (λd=>Yn) (λd=>(Z2 Tf (hr.mono (by decide)) (Za Zv (Za (pv 0) Zb))))) Zb))) 
   (Zh (Zq (Yk (K:=K) cZ aF ZR (M9 (K:=K)) Zv (Za (pv 1) Zb)))))),?_⟩
 refine(let y1:TS:=_;let y6:TS:=Zp _ y1;(?_:Zp _ y6 _ _ _));obtain⟨e,s',xs,h1,h2,h3,R⟩:=hM;have hl:=ok.len;have kO:=R.len;have n8:(Str.ofString "letters ").length=8:=by decide +kernel
 refine⟨_,rfl,m,_,0,_,rfl,rfl,SqT.of h1,Zj (j:=0) rfl,_,_,rfl,rfl,Xv (by rw[n8];lia),?_⟩;rw[Zpr];refine⟨_,rfl,m,_,1,_,rfl,rfl,SqT.of h1,Zj (j:=1) rfl,(by show 1≤sizeLine;decide),λl1 y9=>?_⟩;generalize eZ:upd H l1 _=H1;have e1:=nS7 eZ y9;have g1:=nU7 eZ;refine⟨_,l1,[b],rfl,by rw[Bj];decide,(by show 1≤900;decide),λx hx=>by rw[oU.mp hx];exact ok.beg,.inl g1,λH2 e2=>?_⟩;have eD:=e1.trans e2;refine⟨_,rfl,m,_,2,_,rfl,rfl,SqT.of (eD _ _ h1),Zj (j:=2) rfl,_,e,es,rfl,by rw[Zd5];decide,ok.ends.1,ok.ends.2,.inr (eD _ _ h2),λH3 e3=>⟨(by show 3≤sizeLine;decide),λrp t5=>?_⟩⟩;have zG:=eD.trans e3;have sC:=zG.trans (Zf t5 (.lst [.str (Bp l),.str (Sx (Str.ofString "begin") [b]),.str (Sx (Str.ofString "ends") es)]));have B2:=none_of zG t5;have g4:upd H3 rp (.lst [.str (Bp l),.str (Sx (Str.ofString "begin") [b]),.str (Sx (Str.ofString "ends") es)]) rp=_:=Zc;generalize upd H3 rp _=H4 at sC g4;refine⟨_,rfl,.inl ⟨rfl,_,SqL.of g4⟩,_,rfl,m,_,3,_,rfl,rfl,SqT.of (sC _ _ h1),Zj (j:=3) rfl,s',rfl,⟨_,SqT.of (sC _ _ h3)⟩,?_⟩
 refine U5 (K:=K) (a:=s') (xs:=xs) (λi acc H5=>acc=(st.take i).map (λr=>V.str (Sx (Str.ofString "room") r))∧Zl H4 H5) (by rw[kO];exact Z1 (by have:=ok.room.2;lia)) ⟨rfl,Zl.refl _⟩ (λi acc H5 p=>by rw[p.1,oB,lC];exact iR _ _)
  (λi acc H5 p=>SqT.of (p.2 _ _ (sC _ _ h3))) (λi acc H5 x hx p=>?_) (λacc H5 p y hy=>?_)
 ·obtain⟨rfl,e5⟩:=p;obtain⟨a,r,rfl,v9,ha⟩:=(R.keep (Tk.same (sC.trans e5))).at_ hx;have hro:=ok.rows r (oR v9);refine S3 ⟨_,rfl,_,a,r,rfl,by rw[Zd4];decide,by lia,hro.2,.inr ha,λH6 e6=>⟨?_,e5.trans e6⟩⟩;rw[map_take v9]
 ·obtain⟨rfl,e5⟩:=p;rw[kO,lM];have s6:=Zf hy (.lst (st.map λr=>V.str (Sx (Str.ofString "room") r)));have g6:=s6 _ _ (e5 _ _ g4);refine⟨rp,y,_,_,rfl,rfl,g6,Zc,(by rw[oB];exact Xv (by have:=ok.room.2;show 3+st.length≤1000;lia)),?_⟩;refine⟨rfl,_,rfl,_,rp,Wo l b es st,rfl,rfl,SqL.of (Zc.trans ?_),?_,?_⟩
  ·unfold Wo;rw[lH,lU];rfl
  ·have:=Za4 ok;rw[C2];show _+_*1≤_;lia
  ·rw[C2];exact k _ (Zu ((sC.trans e5).trans s6) B2 _)
theorem l_0:(Str.ofString "0").cps.toList=[48]:=by decide +kernel
theorem l_9:(Str.ofString "9").cps.toList=[57]:=by decide +kernel
theorem Zn1(hj:σ[j]?=some (some (.str ⟨#[c]⟩)))(hc:48≤c∧c≤57)(q:Q (.bl true) H):
  Zda (λx y H Q=>∃i j,x=V.str i∧y=V.str j∧Q (.bl (!decide (j.cps.toList<i.cps.toList))) H) (λx y H Q=>∃i j,x=V.str i∧y=V.str j∧Q (.bl (!decide (j.cps.toList<i.cps.toList))) H) (tC (.str (Str.ofString "0"))) (L5 j) (tC (.str (Str.ofString "9"))) σ H Q:=by
 refine⟨_,hj,_,_,rfl,rfl,_,rfl,?_⟩;have e1:decide ((⟨#[c]⟩:Str).cps.toList<(Str.ofString "0").cps.toList)=decide (c<48):=by rw[l_0];exact Kh c 48
 have e2:decide ((Str.ofString "9").cps.toList<(⟨#[c]⟩:Str).cps.toList)=decide (57<c):=by rw[l_9];exact Kh 57 c
 rw[e1,decide_eq_false (by lia)];refine Kj ⟨_,_,rfl,rfl,?_⟩;rw[e2,decide_eq_false (by lia)];exact q
theorem str_inj{x y:Str}(h:x.cps.toList=y.cps.toList):x=y:=by
 cases x;cases y;simpa using h
theorem Zjf(h:0<u.length):atI u (0:Int)=some (u.getD 0 0):=Zj (j:=0) (by rw[oJ,oC h];rfl)
inductive Kw(vs:List V)(H:Hp)(Q:VK):Prop
 |mk(n:Nat)(h1:vs=[.str (nS n)])(h2:n<1000)(h3:∀H',Zl H H'→Q (.bl true) H'):Kw vs H Q
def I0:Sp:=λvs H Q _=>Kw vs H Q
theorem Az(n:Nat):(List.replicate n true).all id=true:=by
 rw[aU];intro x hx;rw[(List.mem_replicate.mp hx).2];rfl
theorem Bg{X7:Value}(F:Fun K "is_number" "is_number" Tq f fd)(Z:Blt mg)(Ta:mg "MOST_FIGURES"=some X7)(r_MOST_FIGURES:RelV (V.int 3) X7):Ya P w K mg base CX0 1 f fd RW I0:=by
 refine F.ok Mk (λvs H Q E h=>?_) (λcdv A outer s H vs Q E hr h=>?_)
 ·obtain⟨n,rfl,_⟩:=h;rfl
 obtain⟨n,rfl,hn,k⟩:=h
 refine⟨_,(Zd (Zn (i:=1) Mk.nd (by rfl) (Or.inl (by rfl)) (Z6 (S5 (K:=K)) (by rfl) Z.all G7 (Za (Yj (sc:=Ze Tq) (Nm:=["word","figures"]) (own:=["sign"]) (fr:=[]) ⟨rfl,by decide +kernel,by decide +kernel,by decide +kernel,by decide +kernel⟩ (by rfl) (Yb (by decide)) (Qt (pv 0)) (λd=>(Zo (i:=0) Ga (by rfl) (Or.inl (by rfl)))) (λd=>Yn) (λd=>(Hq Oh Oh Zv (pv 0) Zv))) Zb))) 
   (Zh (Zq (Ba (pv 1) (Ba (Hq Zrq Zrq Zg (Z6 Uk (by rfl) Z.len Xw (Za (pv 0) Zb)) (Mz (by rfl) Ta r_MOST_FIGURES)) (Nq (Zrn (Wf Vs (pv 0) Zv (Z5 _)) (Nq (Wf Qw (Zr Bx (pv 0) Zg (λ_ _=>rfl)) Zv (Z5 _)))))))))),?_⟩
 refine(let y1:TS:=_;(?_:Zp _ y1 _ _ _));obtain⟨hd,y9,sX,hz⟩:=Zd6 hn;have yX:=len_list (nS n);refine⟨_,rfl,nS n,rfl,?_⟩
 refine Pd (cs:=(nS n).cps.toList) (λi acc H2=>acc=List.replicate i (V.bl true)∧Zl H H2) (Z1 (by lia)) ⟨rfl,Zl.refl _⟩ (λi acc H2 p=>by rw[p.1,ZN];exact oG _)
  (λi acc H2 c hc p=>S3 (Zn1 rfl (hd c (oR hc)) ⟨by rw[p.1,←VR],p.2⟩)) (λacc H2 p y hy=>?_)
 obtain⟨rfl,e2⟩:=p;refine⟨y,List.replicate (nS n).cps.toList.length true,rfl,SqL.of (by rw[Zc,UG]),?_⟩;rw[Az];have e3:=e2.trans (Zf hy (.lst (List.replicate (nS n).cps.toList.length (V.bl true))));generalize upd H2 y _=H3 at e3;refine⟨_,rfl,_,rfl,Kj ?_⟩;refine⟨_,rfl,nS n,rfl,Xv (by lia),_,_,rfl,rfl,_,rfl,?_⟩;rw[decide_eq_true (show (1:Int)≤((nS n).length:Int) by lia)];refine Kj ⟨_,_,rfl,rfl,_,rfl,?_⟩;rw[decide_eq_true (show ((nS n).length:Int)≤3 by lia)];refine Kj ⟨_,rfl,rfl,_,rfl,?_⟩
 rcases hz with z|z
 ·have e:nS n=Str.ofString "0":=str_inj (by rw[z,l_0]);rw[decide_eq_true (by rw[e])];exact Kj (k H3 e3)
 ·have ne:¬ V.str (nS n)=V.str (Str.ofString "0"):=λe=>by
   injection e with e
   rw[e,l_0]at z;exact z rfl
  rw[decide_eq_false ne];have h0:0<(nS n).cps.toList.length:=by lia
  refine Rj ⟨_,rfl,nS n,0,_,rfl,rfl,Xv (by lia),Zjf h0,rfl,?_⟩
  have ne2:¬ V.str ⟨#[(nS n).cps.toList.getD 0 0]⟩=V.str (Str.ofString "0"):=λe=>by
   injection e with e
   have:=congrArg (λs:Str=>s.cps.toList) e;simp only[l_0]at this
   injection this with this
   exact z this
  rw[decide_eq_false ne2];exact k H3 e3
theorem Zmj(h:Vf l n):Zjq l.cps.toList=true∧Zow l.cps.toList=true:=by
 obtain⟨_,h2,h3⟩:=h;constructor
 ·unfold Zjq;rw[List.all_map,aU];intro c hc;have:=h3 c hc;show wB c=true;unfold wB;rw[decide_eq_true this.1,decide_eq_true this.2];rfl
 ·unfold Zow;rw[List.all_map,aU];intro i hi;have u6:=iG.mp hi;show rB l.cps.toList i=true;unfold rB;rw[decide_eq_true_eq,oJ,oC (by lia),oJ,oC (by lia)];exact aE.mp h2 i (i+1) (by lia) (by lia) (by lia)
theorem Zb3(h:Vf l n)(c:Nat)(hc:c<97):c∉l.cps.toList:=λz=>by
 have:=(h.2.2 c z).1;lia
theorem Zi3:32∉(Str.ofString "letters").cps.toList:=by decide +kernel
theorem Zp7:32∉(Str.ofString "begin").cps.toList:=by decide +kernel
theorem Zt3:32∉(Str.ofString "ends").cps.toList:=by decide +kernel
theorem Zt2:32∉(Str.ofString "room").cps.toList:=by decide +kernel
theorem Zd3:10∉(Str.ofString "letters").cps.toList:=by decide +kernel
theorem Zl5:10∉(Str.ofString "begin").cps.toList:=by decide +kernel
theorem Zph:10∉(Str.ofString "ends").cps.toList:=by decide +kernel
theorem Zpg:10∉(Str.ofString "room").cps.toList:=by decide +kernel
theorem Zg1(h:n<1000)(hc:c<48):c∉(nS n).cps.toList:=λz=>by
 have:=((Zd6 h).1 c z).1;lia
theorem Zh2(h:Vf l n):Txt.split (Bp l) ⟨#[32]⟩=[Str.ofString "letters",l]:=Ng (by simp) λy hy=>by
 simp only[oX,aH,or_false]at hy
 rcases hy with e|e
 ·rw[e];exact Zi3
 ·rw[e];exact Zb3 h 32 (by decide)
theorem Zh1(hn:32∉name.cps.toList)(h:∀x∈ns,x<1000):Txt.split (Sx name ns) ⟨#[32]⟩=Je name ns:=Ng (by simp[Je]) λy hy=>by
 rcases oX.mp hy with e|e
 ·rw[e];exact hn
 ·obtain⟨x,hx,rfl⟩:=lF.mp e;exact Zg1 (h x hx) (by decide)
theorem Zg7{c d:Nat}(u7:c≠d):∀{ys:UR},(∀y∈ys,c∉y)→c∉jl d ys
 |[],_,h=>by cases h
 |[x],h,z=>h x oK z
 |x :: y :: r,h,z=>by
  rw[Ld]at z
  rcases iD.mp z with z|z
  ·exact h x oK z
  ·rcases oX.mp z with z|z
   ·exact u7 z
   ·exact Zg7 u7 (λw hw=>h w (oQ _ hw)) z
theorem Dq(u7:c≠d)(h:∀y∈ys,c∉y.cps.toList):c∉(Txt.join ⟨#[d]⟩ ys).cps.toList:=by
 have e:Txt.join ⟨#[d]⟩ ys=Str.join ⟨#[d]⟩ ys:=ZP _ _;rw[e,Bw];refine Zg7 u7 λy hy=>?_;obtain⟨z,hz,rfl⟩:=lF.mp hy;exact h z hz
theorem row_free(hn:10∉name.cps.toList)(h:∀x∈ns,x<1000):10∉(Sx name ns).cps.toList:=Dq (by decide) λy hy=>by
 rcases oX.mp hy with e|e
 ·rw[e];exact hn
 ·obtain⟨x,hx,rfl⟩:=lF.mp e;exact Zg1 (h x hx) (by decide)
theorem Zdh(ok:OkM l b es st):Txt.split (Zg3 l b es st) ⟨#[10]⟩=Wo l b es st:=Ng (by simp[Wo]) λy hy=>by
 unfold Wo at hy
 rcases iD.mp hy with z|z
 ·simp only[oX,aH,or_false]at z
  rcases z with z|z|z
  ·rw[z];obtain⟨n,hl,_,_⟩:=ok.Ztf;refine Dq (by decide) λy hy=>?_;simp only[oX,aH,or_false]at hy
   rcases hy with e|e
   ·rw[e];exact Zd3
   ·rw[e];exact Zb3 hl 10 (by decide)
  ·rw[z];exact row_free Zl5 λx hx=>by rw[oU.mp hx];exact ok.beg
  ·rw[z];exact row_free Zph ok.ends.2
 ·obtain⟨r,hr,rfl⟩:=lF.mp z;exact row_free Zpg (ok.rows r hr).2
inductive Zan(vs:List V)(H:Hp)(Q:VK):Prop
 |mk(l:Str)(n:Nat)(h1:vs=[.str (Bp l)])(h2:Vf l n)(h3:1≤n)(h4:n≤26)(h5:∀H',Zl H H'→Q (.str l) H'):Zan vs H Q
def Zf3:Sp:=λvs H Q _=>Zan vs H Q
theorem Jl(F:Fun K "read_letters" "read_letters" Uw f fd)(Z:Blt mg)(Kr:Cal P w K mg base "is_word" 1 ["text"] Zat)(Fi:Cal P w K mg base "rising" 1 ["row"] Zaj):Ya P w K mg base CX0 2 f fd ["row"] Zf3:=by
 refine F.ok Ub (λvs H Q E h=>?_) (λcdv A outer s H vs Q E hr h=>?_)
 ·obtain⟨l,n,rfl,_⟩:=h;rfl
 obtain⟨l,n,rfl,hl,c7,q9,k⟩:=h
 refine⟨_,(Zd (Zn (i:=1) Ub.nd (by rfl) (Or.inl (by rfl)) (Yk (K:=K) cZ WN WO Gb (pv 0) (Za Zv Zb))) 
   (Zd (Xp (PW.pt (Mp (Zz Qw (Z6 (Xf (K:=K)) (by rfl) Z.len Xw (Za (pv 1) Zb)) Zg (Z5 _)) (Nl (Zz Qw (Zr (Z0 (K:=K)) (pv 1) Zg (λ_ _=>rfl)) Zv (Z5 _))))) 
    (Zh Od) Yo) 
   (Zd (Zn (i:=2) Ub.nd (by rfl) (Or.inl (by rfl)) (Zr (Z0 (K:=K)) (pv 1) Zg (λ_ _=>rfl))) 
   (Zd (Xp (PW.pt (Mp (Zz Vs (pv 2) Zv (Z5 _)) (Nl (Zk9 (PW.pt (Zk7 (We (K:=K) (Z2 Kr (hr.mono (by decide)) (Za (pv 2) Zb)) (λ_=>rfl)) (Zgr (We (K:=K) (Z2 Fi (hr.mono (by decide)) (Za (pv 2) Zb)) (λ_=>rfl))))))))) 
    (Zh Od) Yo) 
   (Zh (Zq (pv 2))))))),?_⟩
 refine(let y1:TS:=_;let y6:TS:=Zp _ y1;let y7:TS:=Zp _ y6;let m7:TS:=Zp _ y7;(?_:Zp _ m7 _ _ _));have yX:=len_list l;have hlen:l.length=n:=by rw[←yX];exact hl.1
 have z8:(Bp l).length≤1000000:=by
  have:=join_le 32 [Str.ofString "letters",l];simp only[oW,bQ,WR,List.sum_nil,lG,ZA,Dm]at this;show (Txt.join ⟨#[32]⟩ [Str.ofString "letters",l]).length≤_;lia
 refine⟨_,rfl,rfl,_,_,rfl,rfl,by rw[Oc];rfl,z8,λq hq=>?_⟩;rw[Oc,Zh2 hl];have e1:=Zf hq (.lst [.str (Str.ofString "letters"),.str l]);have h1:upd H q (.lst [.str (Str.ofString "letters"),.str l]) q=_:=Zc;show _;generalize eT:upd H q _=H1;have e1:Zl H H1:=by rw[←eT];exact Zf hq _
 have h1:H1 q=some (.lst [.str (Str.ofString "letters"),.str l]):=by rw[←eT];exact Zc
 clear eT;refine⟨_,rfl,q,_,rfl,.inl (SqL.of h1),rfl,_,rfl,Zha rfl ?_⟩;refine⟨_,rfl,q,_,0,_,rfl,rfl,SqL.of h1,Zj (j:=0) rfl,rfl,_,rfl,Zha rfl ?_⟩;refine⟨_,rfl,q,_,1,_,rfl,rfl,SqL.of h1,Zj (j:=1) rfl,?_⟩;have e0:(Str.ofString "").length=0:=by decide +kernel
 have ne:¬ V.str l=V.str (Str.ofString ""):=λe=>by
  injection e with e
  rw[e,e0]at hlen;lia
 refine⟨_,rfl,rfl,_,rfl,?_⟩;rw[decide_eq_false ne];obtain⟨w1,w2⟩:=Zmj hl;refine Rj ⟨_,rfl,l,rfl,by lia,λH2 e2=>⟨_,rfl,?_⟩⟩;rw[w1];refine Kj ⟨_,rfl,l,rfl,by lia,λH3 e3=>⟨_,rfl,?_⟩⟩;rw[w2];exact Rj ⟨_,rfl,k H3 ((e1.trans e2).trans e3)⟩
theorem Zr3(x:V)(xs:List V):Pc (x :: xs) (some 1) none=xs:=by
 unfold Pc;rw[HT.Za3,show (1:Int)=((1:Nat):Int) from rfl,HT.Mn,lG,Nat.min_eq_left (by lia)];simp
inductive Zal(vs:List V)(H:Hp)(Q:VK):Prop
 |mk(rp:Addr)(ys:List Str)(at_:Nat)(name:Str)(ns:List Nat)(h1:vs=[.ref rp,nI at_,.str name])(h2:H rp=some (.lst (ys.map V.str)))(h3:ys[at_]?=some (Sx name ns))(h4:name.length≤10)(h5:32∉name.cps.toList)(h6:ns.length≤900)(h7:(∀x∈ns,x<1000))(h8:∀q H',H q=none→Zl H H'→H' q=some (.tup (ns.map nI))→Q (.ref q) H'):Zal vs H Q
def Ct:Sp:=λvs H Q _=>Zal vs H Q
theorem Jj(F:Fun K "read_numbers" "read_numbers" X8 f fd)(Z:Blt mg)(Px:Cal P w K mg base "is_number" 1 RW I0):Ya P w K mg base CX0 2 f fd RU Ct:=by
 refine F.ok R0 (λvs H Q E h=>?_) (λcdv A outer s H vs Q E hr h=>?_)
 ·obtain⟨rp,ys,at_,name,ns,rfl,_⟩:=h;rfl
 obtain⟨rp,ys,at_,name,ns,rfl,t5,c6,hn,fQ,uI,u3,k⟩:=h
 refine⟨_,(Zd (Xp (Zz Vs (pv 1) (Z6 (Xf (K:=K)) (by rfl) Z.len Xw (Za (pv 0) Zb)) (Z5 _)) 
    (Zh Od) Yo) 
   (Zd (Zn (i:=3) R0.nd (by rfl) (Or.inl (by rfl)) (Yk (K:=K) cZ WN WO Gb (Zr (Z0 (K:=K)) (pv 0) (pv 1) (λ_ _=>rfl)) (Za Zv Zb))) 
   (Zd (Xp (PW.pt (Mp (Zz Qw (Zr (Z0 (K:=K)) (pv 3) Zg (λ_ _=>rfl)) (pv 2) (Z5 _)) (Nl (Zk9 (We (K:=K) (Z6 (S5 (K:=K)) (by rfl) Z.all G7 (Za (Yj (sc:=Ze X8) (Nm:=SY) (own:=RW) (fr:=[]) ⟨rfl,by decide +kernel,by decide +kernel,by decide +kernel,by decide +kernel⟩ (by rfl) (Yb (by decide)) (X9 (K:=K) (Qu (Zay (K:=K)) (pv 3) (Mu Zg) Mv)) (λd=>(Zo (i:=0) M6 (by rfl) (Or.inl (by rfl)))) (λd=>Yn) (λd=>(Z2 Px (hr.mono (by decide)) (Za (pv 0) Zb)))) Zb)) (λ_=>rfl)))))) 
    (Zh Od) Yo) 
   (Zh (Zq (Z9 (Y6 (K:=K)) (by rfl) Z.tuple Xr (Za (Yj (sc:=Ze X8) (Nm:=SY) (own:=RW) (fr:=[]) ⟨rfl,by decide +kernel,by decide +kernel,by decide +kernel,by decide +kernel⟩ (by rfl) (Yb (by decide)) (X9 (K:=K) (Qu (Zay (K:=K)) (pv 3) (Mu Zg) Mv)) (λd=>(Zo (i:=0) M5 (by rfl) (Or.inl (by rfl)))) (λd=>Yn) (λd=>(Z9 Ap (by rfl) Z.int Zun (Za (pv 0) Zb)))) Zb))))))),?_⟩
 refine(let y1:TS:=_;let y6:TS:=Zp _ y1;let y7:TS:=Zp _ y6;(?_:Zp _ y7 _ _ _));have x9:at_<ys.length:=(oF.mp c6).1;refine⟨_,rfl,_,rfl,rp,_,rfl,.inl (SqL.of t5),rfl,_,rfl,?_⟩
 have ne:¬ nI at_=V.int (((ys.map V.str).length:Nat):Int):=λe=>by
  rw[oB]at e
  injection e with e
  lia
 rw[decide_eq_false ne];have n6:=J7 hn u3;refine Rj ⟨_,rfl,_,rfl,rp,_,_,_,rfl,rfl,SqL.of t5,Zj (v:=V.str (Sx name ns)) (by rw[oH,c6];rfl),rfl,_,_,rfl,rfl,by rw[Oc];rfl,by lia,λq hq=>?_⟩;rw[Oc,Zh1 fQ u3];generalize eT:upd H q _=H1;have e1:Zl H H1:=by rw[←eT];exact Zf hq _
 have h1:H1 q=some (.lst (V.str name :: ns.map λn=>V.str (nS n))):=by
  rw[←eT,Zc];unfold Je;rw[oW,lU];rfl
 clear eT;refine⟨_,rfl,q,_,0,_,rfl,rfl,SqL.of h1,Zj (j:=0) rfl,_,rfl,rfl,_,rfl,Zha rfl ?_⟩;refine⟨_,rfl,_,rfl,q,_,rfl,SqL.of h1,λc hc=>?_⟩;rw[Zr3];have e2:=e1.trans (Zf hc (.lst (ns.map λn=>V.str (nS n))));have h2:upd H1 c (.lst (ns.map λn=>V.str (nS n))) c=_:=Zc;have yM:=Zf hc (.lst (ns.map λn=>V.str (nS n))) _ _ h1;generalize upd H1 c _=H2 at e2 h2 yM;refine⟨c,rfl,⟨_,SqL.of h2⟩,?_⟩
 refine S4 (K:=K) (a:=c) (xs:=ns.map λn=>V.str (nS n)) (λi acc H3=>acc=List.replicate i (V.bl true)∧Zl H2 H3) (by rw[oB];exact Z1 (by lia)) ⟨rfl,Zl.refl _⟩ (λi acc H3 p=>by rw[p.1,ZN];exact oG _)
  (λi acc H3 p=>SqL.of (p.2 _ _ h2)) (λi acc H3 x hx p=>?_) (λacc H3 p y hy=>?_)
 ·obtain⟨rfl,e3⟩:=p;rw[oH]at hx
  cases hi:ns[i]? with
  |none=>rw[hi]at hx;cases hx
  |some n=>
   rw[hi]at hx;cases hx;exact S3 ⟨_,rfl,n,rfl,u3 n (oR hi),λH4 e4=>⟨by rw[←VR],e3.trans e4⟩⟩
 obtain⟨rfl,e3⟩:=p;refine⟨y,List.replicate _ true,rfl,SqL.of (by rw[Zc,UG]),_,rfl,?_⟩;rw[Az];have e4:=e3.trans (Zf hy (.lst (List.replicate (ns.map λn=>V.str (nS n)).length (V.bl true))));generalize upd H3 y _=H4 at e4;have l5:=e4 _ _ yM;refine Rj ⟨_,rfl,_,rfl,q,_,rfl,SqL.of l5,λc2 z6=>?_⟩;rw[Zr3];have e5:=(e2.trans e4).trans (Zf z6 (.lst (ns.map λn=>V.str (nS n))));have h5:upd H4 c2 (.lst (ns.map λn=>V.str (nS n))) c2=_:=Zc;generalize upd H4 c2 _=H5 at e5 h5;refine⟨c2,rfl,⟨_,SqL.of h5⟩,?_⟩
 refine S4 (K:=K) (a:=c2) (xs:=ns.map λn=>V.str (nS n)) (λi acc H6=>acc=(ns.take i).map nI∧Zl H5 H6) (by rw[oB];exact Z1 (by lia)) ⟨rfl,Zl.refl _⟩ (λi acc H6 p=>by rw[p.1,oB,lC];exact iR _ _)
  (λi acc H6 p=>SqL.of (p.2 _ _ h5)) (λi acc H6 x hx p=>?_) (λacc H6 p y2 jD=>?_)
 ·obtain⟨rfl,e6⟩:=p;rw[oH]at hx
  cases hi:ns[i]? with
  |none=>rw[hi]at hx;cases hx
  |some n=>
   rw[hi]at hx;cases hx;have:=u3 n (oR hi);refine S3 ⟨_,rfl,(n:Int),rfl,by lia,by lia,?_,e6⟩;rw[map_take hi];rfl
 obtain⟨rfl,e6⟩:=p;rw[oB,lM];have e7:=(e5.trans e6).trans (Zf jD (.lst (ns.map nI)));refine⟨y2,_,rfl,.inl ⟨SqL.of Zc,λz hz=>?_⟩⟩;exact k z _ (none_of e7 hz) (e7.trans (Zf hz _)) Zc
inductive E1(vs:List V)(H:Hp)(Q:VK):Prop
 |mk(rp:Addr)(ys:List Str)(at_:Nat)(name:Str)(ns:List Nat)(h1:vs=[.ref rp,nI at_,.str name,nI ns.length])(h2:H rp=some (.lst (ys.map V.str)))(h3:ys[at_]?=some (Sx name ns))(h4:name.length≤10)(h5:32∉name.cps.toList)(h6:ns.length≤900)(h7:(∀x∈ns,x<1000))(h8:∀q H',H q=none→Zl H H'→H' q=some (.tup (ns.map nI))→Q (.ref q) H'):E1 vs H Q
def Zak:Sp:=λvs H Q _=>E1 vs H Q
theorem Ji(F:Fun K "read_so_many" "read_so_many" Uv f fd)(Z:Blt mg)(Xt:Cal P w K mg base "read_numbers" 2 RU Ct):Ya P w K mg base CX0 3 f fd RV Zak:=by
 refine F.ok Rz (λvs H Q E h=>?_) (λcdv A outer s H vs Q E hr h=>?_)
 ·obtain⟨rp,ys,at_,name,ns,rfl,_⟩:=h;rfl
 obtain⟨rp,ys,at_,name,ns,rfl,t5,c6,hn,fQ,uI,u3,k⟩:=h
 refine⟨_,(Zd (Zn (i:=4) Rz.nd (by rfl) (Or.inl (by rfl)) (Z2 Xt (hr.mono (by decide)) (Za (pv 0) (Za (pv 1) (Za (pv 2) Zb))))) 
   (Zd (Xp (Zz Qw (Z6 (Xf (K:=K)) (by rfl) Z.len Xw (Za (pv 4) Zb)) (pv 3) (Z5 _)) 
    (Zh Od) Yo) 
   (Zh (Zq (pv 4))))),?_⟩
 refine(let y1:TS:=_;let y6:TS:=Zp _ y1;(?_:Zp _ y6 _ _ _));refine⟨_,rfl,_,rfl,_,rfl,rp,ys,at_,name,ns,rfl,t5,c6,hn,fQ,uI,u3,λq H1 hq e1 h1=>?_⟩;refine⟨_,rfl,q,_,rfl,.inr (SqT.of h1),_,rfl,rfl,_,rfl,Zha (by rw[oB];rfl) ⟨_,rfl,k q H1 hq e1 h1⟩⟩
inductive Zam(vs:List V)(H:Hp)(Q:VK):Prop
 |mk(l:Str)(b:Nat)(es:List Nat)(st:UR)(h1:vs=[.str (Zg3 l b es st)])(h2:OkM l b es st)(h3:∀m H',Zl H H'→MT H' m l b es st→Q (.ref m) H'):Zam vs H Q
def Zf2:Sp:=λvs H Q _=>Zam vs H Q
theorem Jk{Vg:Value}(F:Fun K "read_machine" "read_machine" Vj f fd)(Z:Blt mg)(Ul:mg "ROWS_AHEAD"=some Vg)(r_ROWS_AHEAD:RelV (V.int 3) Vg)
  (Ti:Cal P w K mg base "read_letters" 2 ["row"] Zf3) (Vo:Cal P w K mg base "read_so_many" 3 RV Zak) (Xt:Cal P w K mg base "read_numbers" 2 RU Ct):Ya P w K mg base CX0 4 f fd ["text"] Zf2:=by
 refine F.ok Y0 (λvs H Q E h=>?_) (λcdv A outer s H vs Q E hr h=>?_)
 ·obtain⟨l,b,es,st,rfl,_⟩:=h;rfl
 obtain⟨l,b,es,st,rfl,ok,k⟩:=h
 refine⟨_,(Zd (Zn (i:=1) Y0.nd (by rfl) (Or.inr (by rfl)) (Yk (K:=K) cZ WN WO Gb (pv 0) (Za Zv Zb))) 
   (Zd (Zn (i:=2) Y0.nd (by rfl) (Or.inr (by rfl)) (Z2 Ti (hr.mono (by decide)) (Za (Zr (Z0 (K:=K)) (pv 1) Zg (λ_ _=>rfl)) Zb))) 
   (Zd (Zn (i:=3) Y0.nd (by rfl) (Or.inl (by rfl)) (Zr (Zs (K:=K)) (Z2 Vo (hr.mono (by decide)) (Za (pv 1) (Za Zg (Za Zv (Za Zg Zb))))) Zg (λ_ _=>rfl))) 
   (Zd (Zn (i:=4) Y0.nd (by rfl) (Or.inl (by rfl)) (Z2 Xt (hr.mono (by decide)) (Za (pv 1) (Za Zg (Za Zv Zb))))) 
   (Zd (Zn (i:=5) Y0.nd (by rfl) (Or.inl (by rfl)) (Z6 (Zjc (by rfl)) (by rfl) Z.max Zum (Za (Z6 (Xf (K:=K)) (by rfl) Z.len Xw (Za (pv 1) Zb)) (Za (Yd Ud (Mz (by rfl) Ul r_ROWS_AHEAD) Zg) Zb)))) 
   (Zd (C7 (i:=6) Y0.nd (by rfl) (by rfl) (sc:=Ze Vj) (Nm:=SX) (own:=["at"]) (fr:=[1,2]) ⟨rfl,by decide +kernel,by decide +kernel,by decide +kernel,by decide +kernel⟩ (by rfl) (Yb (by decide)) (Zic (by rfl) Z.range (Za (Mz (by rfl) Ul r_ROWS_AHEAD) (Za (pv 5) Zb))) (λd=>(Zo (i:=0) M7 (by rfl) (Or.inl (by rfl)))) (λd=>Yn) (λd=>(Z2 Vo (hr.mono (by decide)) (Za (pv 1) (Za (pv 0) (Za Zv (Za (Z6 Uk (by rfl) Z.len Xw (Za (pv 2) Zb)) Zb))))))) 
   (Zh (Zq (Wa (Za (pv 2) (Za (pv 3) (Za (pv 4) (Za (Z9 (Y6 (K:=K)) (by rfl) Z.tuple Xr (Za (pv 6) Zb)) Zb))))))))))))),?_⟩
 refine(let y1:TS:=_;let y6:TS:=Zp _ y1;let y7:TS:=Zp _ y6;let m7:TS:=Zp _ y7;let u8:TS:=Zp _ m7;let d9:TS:=Zp _ u8;(?_:Zp _ d9 _ _ _));have hl:=ok.len;obtain⟨n,hL,c7,q9⟩:=ok.Ztf
 have z8:(Zg3 l b es st).length≤1000000:=by
  have h1:=join_le 10 (Wo l b es st);have h2:=Za4 ok;show (Txt.join ⟨#[10]⟩ (Wo l b es st)).length≤_;lia
 refine⟨_,rfl,rfl,_,_,rfl,rfl,by rw[C2];rfl,z8,λrp t5=>?_⟩;rw[C2,Zdh ok];generalize eT:upd H rp _=H1;have e1:Zl H H1:=by rw[←eT];exact Zf t5 _
 have h1:H1 rp=some (.lst ((Wo l b es st).map V.str)):=by rw[←eT];exact Zc
 clear eT;have n6:=Za5 l b es st;refine⟨_,rfl,rp,_,0,_,rfl,rfl,SqL.of h1,Zj (j:=0) rfl,l,n,rfl,hL,c7,q9,λH2 e2=>?_⟩;refine⟨_,rfl,rp,Wo l b es st,1,_,[b],rfl,e2 _ _ h1,rfl,by rw[Bj];decide,Zp7,(by show 1≤900;decide),λx hx=>by rw[oU.mp hx];exact ok.beg,λq3 H3 hq3 e3 h3=>?_⟩;refine⟨q3,_,0,_,rfl,rfl,SqT.of h3,Zj (j:=0) rfl,?_⟩;have e13:=e2.trans e3;refine⟨_,rfl,rp,Wo l b es st,2,_,es,rfl,e13 _ _ h1,rfl,by rw[Zd5];decide,Zt3,ok.ends.1,ok.ends.2,λq4 H4 hq4 e4 h4=>?_⟩;have yI:=e13.trans e4;refine⟨_,rfl,rp,_,rfl,.inl (SqL.of (yI _ _ h1)),_,_,rfl,rfl,_,_,rfl,?_⟩
 have fO:(if (3:Int)+1>((((Wo l b es st).map V.str).length:Nat):Int) then (3:Int)+1 else ((((Wo l b es st).map V.str).length:Nat):Int))=((3+st.length:Nat):Int):=by
  rw[oB,n6];exact if_neg (by have:=ok.room.1;lia)
 rw[fO];have hro:=ok.room;refine⟨_,rfl,_,_,rfl,⟨by decide,by decide,by lia,by lia⟩,?_⟩
 refine Vy (lo:=3) (k:=(((3+st.length:Nat):Int)-3).toNat) (λi acc H5=>TR tns H5 acc (st.take i)∧Zl H4 H5) (bK (show (((3+st.length:Nat):Int)-3).toNat≤900 by lia) (by decide)) ⟨.nil,Zl.refl _⟩ (λi acc H5 p=>by rw[p.1.len,lC];exact iR _ _)
  (λi acc H5 hi p=>?_) (λacc H5 p y hy=>?_)
 ·obtain⟨R5,e5⟩:=p;have u6:i<st.length:=by lia
  have uN:st[i]?=some st[i]:=oC u6;have Le:=ok.rows st[i] (bX u6)
  have c6:(Wo l b es st)[3+i]?=some (Sx (Str.ofString "room") st[i]):=by
   unfold Wo;rw[lK (by show 3≤3+i;lia)];show (st.map (Sx (Str.ofString "room")))[3+i-3]?=_;rw[Nat.add_sub_cancel_left,oH,uN];rfl
  refine S3 ⟨_,rfl,_,rfl,_,rfl,l,rfl,Xv (by lia),rp,Wo l b es st,3+i,_,st[i],?_,(yI.trans e5) _ _ h1,c6,by rw[Zd4];decide,Zt2,by lia,Le.2,λq6 H6 hq6 e6 h6=>⟨?_,e5.trans e6⟩⟩
  ·rw[Le.1];show [V.ref rp,V.int (3+(i:Int)),_,V.int (l.length:Int)]=[V.ref rp,V.int ((3+i:Nat):Int),_,V.int (l.length:Int)];rw[show ((3+i:Nat):Int)=3+(i:Int) by lia]
  ·rw[iE,uN];exact(R5.keep (Tk.same e6)).snoc h6
 obtain⟨R5,e5⟩:=p;rw[show (((3+st.length:Nat):Int)-3).toNat=st.length by lia,lM]at R5;have s6:=Zf hy (.lst acc);refine⟨_,rfl,_,rfl,_,rfl,_,rfl,y,_,rfl,.inl ⟨SqL.of Zc,λz hz=>⟨(by show 4≤sizeLine;decide),λm hm=>?_⟩⟩⟩;have s7:=Zf hz (.tup acc);have s8:=Zf hm (.tup [.str l,nI b,.ref q4,.ref z]);have e48:=((e5.trans s6).trans s7).trans s8;refine k m _ (((e1.trans yI).trans e48)) ⟨q4,z,acc,Zc,e48 _ _ h4,s8 _ _ Zc,((R5.keep (Tk.same s6)).keep (Tk.same s7)).keep (Tk.same s8)⟩
theorem Zwb(h:Rt H m l b es st):MT H m l b es st:=by
 obtain⟨e,s,ras,h1,h2,h3,h4,h5⟩:=h;refine⟨e,s,_,h1,h2,h3,?_⟩;clear h1 h3
 induction ras generalizing st with
 |nil=>
  cases st with
  |nil=>exact .nil
  |cons=>simp at h4
 |cons a ras ih=>
  cases st with
  |nil=>simp at h4
  |cons r st=>exact .cons (h5 0 a r rfl rfl) (ih (by simpa using h4) λi a r q1 q2=>h5 (i+1) a r (by simpa using q1) (by simpa using q2))
theorem Zpo(h:MT H m l b es st):Rt H m l b es st:=by
 obtain⟨e,s,xs,h1,h2,h3,h4⟩:=h
 have:∃ras:List Addr,xs=ras.map V.ref∧ras.length=st.length∧∀(i:Nat) a r,ras[i]?=some a→st[i]?=some r→H a=some (.tup (r.map nI)):=by
  clear h1 h3
  induction h4 with
  |nil=>exact⟨[],rfl,rfl,λi a r q=>by simp at q⟩
  |cons h t ih=>
   obtain⟨ras,rfl,e2,e3⟩:=ih;refine⟨_ :: ras,rfl,by rw[lG,lG,e2],λi a r q1 q2=>?_⟩
   cases i with
   |zero=>cases q1;cases q2;exact h
   |succ i=>exact e3 i a r (by simpa using q1) (by simpa using q2)
 obtain⟨ras,rfl,e2,e3⟩:=this;exact⟨e,s,ras,h1,h2,h3,e2,e3⟩
theorem Zs7{P:TC}(D:LM l P st es)(hL:Vf l l.length)(hl:0<l.length∧l.length≤3)(hs:st.length≤900):OkM l 0 es st:=by
 have h1:=D.ends.1;have hp:=D.pos;exact⟨⟨l.length,hL,by lia,by lia⟩,by lia,⟨by lia,λx hx=>by have:=D.ends.2 x hx;lia⟩,by lia,λr hr=>⟨(D.Jf r hr).1,λx hx=>by have:=(D.Jf r hr).2 x hx;lia⟩⟩
abbrev S(w:List Nat):Str:=⟨w.toArray⟩
theorem Zxa:Str.ofString ""=S []:=by decide +kernel
theorem Zr5(w:List Nat):(S w).length=w.length:=by simp[Str.length]
theorem Zut(w:List Nat)(c:Nat):S w++(⟨#[c]⟩:Str)=S (w++[c]):=by
 show (⟨(S w).cps ++ #[c]⟩:Str)=_;simp[S]
theorem Zi1{α β:Type}{f:α→List β}{l:List α}{x:α}(h:l[i]?=some x):(l.take (i+1)).flatMap f=(l.take i).flatMap f++f x:=by
 rw[iE,h,XI];simp
theorem Gv{α β:Type}{f:α→List β}{n:Nat}(h:∀x,(f x).length≤n):∀l:List α,(l.flatMap f).length≤l.length*n
 |[]=>by simp
 |x :: l=>by
  rw[WH,oV,lG,Nat.succ_mul];have:=h x;have:=Gv h l;lia
def L7(ws:UR):List V:=ws.map λu=>.str (S u)
theorem Md(us:UR):(L7 us).length=us.length:=by unfold L7;rw[oB]
theorem Zfx{us:UR}{x:V}(h:(L7 us)[i]?=some x):∃u,us[i]?=some u∧x=.str (S u):=by
 unfold L7 at h;rw[oH]at h
 cases e:us[i]? with
 |none=>rw[e]at h;cases h
 |some u=>rw[e]at h;exact⟨u,rfl,(Option.some.inj h).symm⟩
def aw(L:List Nat):Nat→List (List Nat)
 | 0=>[[]]
 |i+1=>(aw L i).flatMap λu=>L.map λc=>u++[c]
theorem Fc{L:List Nat}:∀(i:Nat) (u:List Nat),u∈aw L i↔u.length=i∧∀c∈u,c∈L
 | 0,u=>by
  show u∈[[]]↔_;rw[oU];constructor
  ·rintro rfl;exact⟨rfl,λc hc=>by cases hc⟩
  ·exact λh=>iT h.1
 |i+1,u=>by
  show u∈(aw L i).flatMap _↔_;rw[List.mem_flatMap];constructor
  ·rintro⟨v,hv,h⟩;obtain⟨c,hc,rfl⟩:=lF.mp h;obtain⟨h1,h2⟩:=(Fc i v).mp hv;refine⟨by rw[oV,h1];rfl,λd hd=>?_⟩
   rcases iD.mp hd with z|z
   ·exact h2 d z
   ·rw[oU.mp z];exact hc
  ·rintro⟨h1,h2⟩;have m5:u≠[]:=λe=>by rw[e]at h1;cases h1
   have hd:=List.dropLast_concat_getLast m5;refine⟨u.dropLast,(Fc i _).mpr ⟨by rw[XC,h1];rfl,λc hc=>h2 c (List.dropLast_subset _ hc)⟩,lF.mpr ⟨u.getLast m5,h2 _ (List.getLast_mem m5),hd⟩⟩
def awl(L:List Nat)(n:Nat):List (List Nat):=(List.range (n+1)).flatMap (aw L)
theorem Zcs(L:List Nat)(n:Nat):awl L (n+1)=awl L n++aw L (n+1):=by
 unfold awl;rw[ZS,XI];simp
theorem Zqk:u∈awl L n↔u.length≤n∧∀c∈u,c∈L:=by
 unfold awl;rw[List.mem_flatMap];constructor
 ·rintro⟨i,hi,h⟩;obtain⟨h1,h2⟩:=(Fc i u).mp h;exact⟨by have:=iG.mp hi;lia,h2⟩
 ·exact λh=>⟨u.length,iG.mpr (by lia),(Fc _ _).mpr ⟨rfl,h.2⟩⟩
theorem Au{L:List Nat}{m:Nat}(hm:L.length≤m):∀i,(aw L i).length≤m ^ i
 | 0=>oG _
 |i+1=>by
  have h:=Gv (f:=λu:List Nat=>L.map λc=>u++[c]) (n:=m) (λu=>by rw[oB];exact hm) (aw L i);show ((aw L i).flatMap _).length≤_;rw[Nat.pow_succ];exact lI h (XF _ (Au hm i))
theorem Zql(hm:L.length≤3):∀n,n≤4→(awl L n).length≤400:=λn hn=>by
 have h:=Au hm;have h0:=h 0;have h1:=h 1;have h2:=h 2;have h3:=h 3;have h4:=h 4;have e0:(awl L 0).length=(aw L 0).length:=by simp[awl]
 have st:∀j,(awl L (j+1)).length=(awl L j).length+(aw L (j+1)).length:=λj=>by rw[Zcs,oV]
 have s0:=st 0;have s1:=st 1;have s2:=st 2;have s3:=st 3;simp only[Nat.reduceAdd,Nat.reducePow] at *
 match n,hn with
 | 0,_=>lia
 | 1,_=>lia
 | 2,_=>lia
 | 3,_=>lia
 | 4,_=>lia
def pw(r:List Nat×Nat):List V:=[.str (S r.1),.str ⟨#[r.2]⟩]
inductive Zaq(vs:List V)(H:Hp)(Q:VK):Prop
 |mk(wp:Addr)(us:UR)(l:Str)(h1:vs=[.ref wp,.str l])(h2:H wp=some (.lst (L7 us)))(h3:us.length≤900)(h4:l.length≤3)(h5:∀p ys H',H p=none→Zl H H'→H' p=some (.lst ys)→TR pw H' ys (us.flatMap λu=>l.cps.toList.map λc=>(u,c))→Q (.ref p) H'):Zaq vs H Q
def Zf6:Sp:=λvs H Q _=>Zaq vs H Q
theorem Bf(F:Fun K "_law_pairs" "_law_pairs" Tp f fd)(Z:Blt mg):Ya P w K mg base CX0 1 f fd RL Zf6:=by
 refine F.ok S7 (λvs H Q E h=>?_) (λcdv A outer s H vs Q E hr h=>?_)
 ·obtain⟨wp,us,l,rfl,_⟩:=h;rfl
 obtain⟨wp,us,l,rfl,n9,hus,hl,k⟩:=h
 refine⟨_,(Zd (Zn (i:=2) S7.nd (by rfl) (Or.inl (by rfl)) (Yw Zb)) 
   (Zd (Xq lW (by rfl) (X9 (K:=K) (pv 0)) (Zo (i:=3) S7.nd (by rfl) (Or.inr (by rfl))) 
    (Zh (Ys (Yk (K:=K) oY YH YI Oi (pv 2) (Za (Yj (sc:=Ze Tp) (Nm:=SW) (own:=["_law_letter"]) (fr:=[3]) ⟨rfl,by decide +kernel,by decide +kernel,by decide +kernel,by decide +kernel⟩ (by rfl) (Yb (by decide)) (Qt (pv 1)) (λd=>(Zo (i:=0) Hz (by rfl) (Or.inl (by rfl)))) (λd=>Yn) (λd=>(Wa (Za (pv 1) (Za (pv 0) Zb))))) Zb))))) 
   (Zh (Zq (pv 2))))),?_⟩
 refine(let y1:TS:=_;let y6:TS:=Zp _ y1;(?_:Zp _ y6 _ _ _));have yX:=len_list l;refine⟨(by show 0≤sizeLine;decide),λp hp=>?_⟩;refine⟨_,rfl,wp,rfl,⟨_,SqL.of (Zf hp _ _ _ n9)⟩,?_⟩
 refine S2 (K:=K) (a:=wp) (xs:=L7 us) (λi σ H2=>∃(ys:List V) (v3:Option V),σ=[some (.ref wp),some (.str l),some (.ref p),v3]∧H2 p=some (.lst ys)∧Zl H H2∧TR pw H2 ys ((us.take i).flatMap λu=>l.cps.toList.map λc=>(u,c)))
  ⟨[],none,rfl,Zc,Zf hp _,.nil⟩ (λi σ H2 _ h=>?_) ?_ ?_
 ·obtain⟨ys,v3,rfl,h1,h2,h3⟩:=h;exact SqL.of (h2 _ _ n9)
 ·rintro i x σ H2 hx ⟨ys,v3,rfl,sI,e2,R2⟩;obtain⟨u,hu,rfl⟩:=Zfx hx;refine⟨_,rfl,.inl ⟨rfl,_,SqL.of sI⟩,_,rfl,l,rfl,?_⟩
  refine Pd (cs:=l.cps.toList) (λj acc H3=>Zl H2 H3∧TR pw H3 acc ((l.cps.toList.take j).map λc=>(u,c))) (Z1 (by lia)) ⟨Zl.refl _,.nil⟩ (λj acc H3 q=>by rw[q.2.len,oB,lC];exact iR _ _)
   (λj acc H3 c hc q=>?_) (λacc H3 q y hy=>?_)
  ·obtain⟨e3,R3⟩:=q;refine S3 ⟨_,rfl,_,rfl,(by show 2≤sizeLine;decide),λt ht=>⟨e3.trans (Zf ht _),?_⟩⟩;rw[map_take hc];exact(R3.keep (Tk.same (Zf ht _))).snoc Zc
  ·obtain⟨e3,R3⟩:=q;rw[lM]at R3;have s4:=Zf hy (.lst acc);have sF:=e3.trans s4;have sK:=sF _ _ sI;have ln:=Gv (f:=λu:List Nat=>l.cps.toList.map λc=>(u,c)) (n:=3) (λu=>by rw[oB];lia) (us.take i);have lt:(us.take i).length*3≤900*3:=XF _ (by rw[lC];lia);have l1:=R2.len;have l2:=R3.len;rw[oB]at l2;refine⟨p,y,_,_,rfl,rfl,sK,Zc,(by rw[sizeLine_eq];lia),?_⟩;refine⟨_,_,rfl,Zc,Zu (e2.trans sF) hp _,?_⟩;rw[Zi1 hu];have K6:=Tk.lst sK (.lst (ys++acc));exact((R3.keep (Tk.same s4)).keep K6).app ((R2.keep (Tk.same sF)).keep K6)
 ·rintro σ H2 ⟨ys,v3,rfl,sI,e2,R2⟩;refine⟨_,rfl,k p ys H2 hp e2 sI ?_⟩;rw[Md,lM]at R2;exact R2
inductive Zge(vs:List V)(H:Hp)(Q:VK):Prop
 |mk(l:Str)(k:Nat)(h1:vs=[.str l,nI k])(h2:l.length≤3)(h3:k≤4)(h4:∀p H',H p=none→Zl H H'→H' p=some (.lst (L7 (awl l.cps.toList k)))→Q (.ref p) H'):Zge vs H Q
def Zkm:Sp:=λvs H Q _=>Zge vs H Q
theorem Ke(F:Fun K "_law_all_words" "_law_all_words" Wx f fd)(Z:Blt mg)(Pu:Cal P w K mg base "_law_pairs" 1 RL Zf6):Ya P w K mg base CX0 2 f fd RO Zkm:=by
 refine F.ok Xo (λvs H Q E h=>?_) (λcdv A outer s H vs Q E hr h=>?_)
 ·obtain⟨l,k,rfl,_⟩:=h;rfl
 obtain⟨l,kn,rfl,hl,hk,k⟩:=h
 refine⟨_,(Zd (Zn (i:=2) Xo.nd (by rfl) (Or.inl (by rfl)) (Yw (Za Zv Zb))) 
   (Zd (Zn (i:=3) Xo.nd (by rfl) (Or.inl (by rfl)) (Yw (Za Zv Zb))) 
   (Zd (Xq lW (by rfl) (Vw (by rfl) Z.range (Za (pv 1) Zb)) (Zo (i:=4) Xo.nd (by rfl) (Or.inl (by rfl))) 
    (Zd (C7 (i:=3) Xo.nd (by rfl) (by rfl) (sc:=Ze Wx) (Nm:=SO) (own:=["_law_word","_law_letter"]) (fr:=[]) ⟨rfl,by decide +kernel,by decide +kernel,by decide +kernel,by decide +kernel⟩ (by rfl) (B7 (Us (by decide) (Us (by decide) Gn))) (X9 (K:=K) (Z2 Pu (hr.mono (by decide)) (Za (pv 3) (Za (pv 0) Zb)))) (λd=>(Of (K:=K) (n:=2) (by rfl) (Xb (Zo (i:=0) U2 (by rfl) (Or.inl (by rfl))) (Xb (Zo (i:=1) U2 (by rfl) (Or.inl (by rfl))) Rc)))) (λd=>Yn) (λd=>(Yd Rg (pv 0) (pv 1)))) 
    (Zh (Ys (Yk (K:=K) oY YH YI Oi (pv 2) (Za (pv 3) Zb)))))) 
   (Zh (Zq (pv 2)))))),?_⟩
 refine(let y1:TS:=_;let y6:TS:=_;let y7:TS:=Zp _ y6;let m7:TS:=Zp (Zad _ _ y7) y1;let u8:TS:=Zp _ m7;(?_:Zp _ u8 _ _ _));have yX:=len_list l;refine⟨(by show 1≤sizeLine;decide),λp hp=>⟨(by show 1≤sizeLine;decide),λq hq=>?_⟩⟩;rw[Zxa];have e2:=(Zf hp (.lst [.str (S [])])).trans (Zf hq (.lst [.str (S [])]));have sI:=Zf hq (.lst [.str (S [])]) _ _ (Zc (H:=H) (a:=p) (o:=.lst [.str (S [])]));have dF:p≠q:=Zi Zc hq;refine⟨_,rfl,_,rfl,by lia,by lia,?_⟩
 refine Dx (lo:=0) (n:=((kn:Nat):Int).toNat) (λi σ H4=>∃(q:Addr) (v4:Option V),σ=[some (.str l),some (nI kn),some (.ref p),some (.ref q),v4]∧H4 p=some (.lst (L7 (awl l.cps.toList i)))∧H4 q=some (.lst (L7 (aw l.cps.toList i)))∧p≠q∧Zl H H4)
  ⟨q,none,rfl,sI,Zc,dF,e2⟩ ?_ ?_
 ·rintro i σ H4 hi ⟨q,v4,rfl,sK,l5,dF,e4⟩;have u6:i<kn:=by lia
  have la:=Au (m:=3) (L:=l.cps.toList) (by lia) i;have lb:=Au (m:=3) (L:=l.cps.toList) (by lia) (i+1);have pa:3 ^ i≤3 ^ 4:=VQ (by decide) (by lia);have pb:3 ^ (i+1)≤3 ^ 4:=VQ (by decide) (by lia);refine⟨_,rfl,_,rfl,q,aw l.cps.toList i,l,rfl,l5,by lia,hl,λr ys H5 hr5 e5 h5 R5=>?_⟩;have l4:=R5.len
  have sU:((aw l.cps.toList i).flatMap λu=>l.cps.toList.map λc=>(u,c)).map (λr=>V.str (S (r.1++[r.2])))=L7 (aw l.cps.toList (i+1)):=by
   show _=((aw l.cps.toList i).flatMap λu=>l.cps.toList.map λc=>u++[c]).map λu=>V.str (S u);rw[List.map_flatMap,List.map_flatMap]
   congr 1
   funext u
   rw[lU,lU];rfl
  have sV:((aw l.cps.toList i).flatMap λu=>l.cps.toList.map λc=>(u,c)).length=(aw l.cps.toList (i+1)).length:=by
   have:=congrArg List.length sU;rw[oB,Md]at this;exact this
  refine⟨r,rfl,⟨_,SqL.of h5⟩,?_⟩
  refine S4 (K:=K) (a:=r) (xs:=ys) (λj acc H6=>acc=(((aw l.cps.toList i).flatMap λu=>l.cps.toList.map λc=>(u,c)).take j).map (λr=>V.str (S (r.1++[r.2])))∧Zl H5 H6) (by rw[l4,sV];exact Z1 (by lia)) ⟨rfl,Zl.refl _⟩ (λj acc H6 z=>by rw[z.1,oB,lC];exact iR _ _)
   (λj acc H6 z=>SqL.of (z.2 _ _ h5)) (λj acc H6 x hx z=>?_) (λacc H6 z y hy=>?_)
  ·obtain⟨rfl,e6⟩:=z;obtain⟨ra,r',rfl,v9,zY⟩:=(R5.keep (Tk.same e6)).at_ hx
   have hb:r'.1.length≤100:=by
    obtain⟨u,hu,hm⟩:=List.mem_flatMap.mp (oR v9);obtain⟨c,_,rfl⟩:=lF.mp hm;have:=((Fc _ _).mp hu).1;show u.length≤100;lia
   refine Znu rfl (SqT.of zY) ⟨_,rfl,_,rfl,_,_,rfl,rfl,Xv (by rw[Zr5];show r'.1.length+1≤1000;lia),?_,e6⟩;rw[map_take v9,Zut]
  ·obtain⟨rfl,e6⟩:=z;rw[l4,lM,sU];have s7:=Zf hy (.lst (L7 (aw l.cps.toList (i+1))));have e47:=(e5.trans e6).trans s7;have h7p:=e47 _ _ sK;have wl:=Zql (L:=l.cps.toList) (by lia) i (by lia);have npy:p≠y:=Zi (e6 _ _ (e5 _ _ sK)) hy;refine⟨_,rfl,.inl ⟨rfl,_,SqL.of h7p⟩,_,rfl,p,y,_,_,rfl,rfl,h7p,Zc,(by rw[Md,Md];exact Xv (by lia)),?_⟩;refine⟨y,_,rfl,?_,(Zk npy.symm).trans Zc,npy,Zu (e4.trans e47) hp _⟩;rw[Zc,Zcs];unfold L7;rw[lH]
 ·rintro σ H4 ⟨q,v4,rfl,sK,l5,dF,e4⟩;exact⟨_,rfl,k p H4 hp e4 sK⟩
def Wi.dt:Wi→Dt
 |.lf b=>.tup [.str (Wi.lf b).nm]
 |.has z=>.tup [.str "has",.str z]
 |.nt x=>.tup [.str "not",x.dt]
 |.bi b x y=>.tup [.str (Wi.bi b x y).nm,x.dt,y.dt]
theorem Wi.Zub(W:Wi):W.dt.dep=W.dep+1:=by
 induction W with
 |lf b=>simp[Wi.dt,Dt.dep,Wi.dep]
 |has z=>simp[Wi.dt,Dt.dep,Wi.dep]
 |nt x ih=>simp[Wi.dt,Dt.dep,Wi.dep,ih]
 |bi b x y p0 p9=>simp[Wi.dt,Dt.dep,Wi.dep,p0,p9]
theorem Tz{ds:List Dt}{x:V}{d:Dt}(h0:Den H x d)(h:∀(i:Nat) x d,xs[i]?=some x→ds[i]?=some d→Den H x d):∀(i:Nat) y e,(x :: xs)[i]?=some y→(d :: ds)[i]?=some e→Den H y e:=λi y e a b=>by
 cases i with
 |zero=>cases a;cases b;exact h0
 |succ i=>exact h i y e (by simpa using a) (by simpa using b)
theorem WAt.den{W:Wi}(h:WAt H v W):Den H v W.dt:=by
 induction h with
 | @mk a vs W h hl _ ih=>
  cases W with
  |lf b=>
   cases vs with
   |nil=>exact .tup h (by simp[Wi.hd]) (by simp[Wi.hd]) (Tz (.str _) λi x d e=>by simp at e)
   |cons _ _=>cases hl
  |has z=>
   cases vs with
   |nil=>exact .tup h (by simp[Wi.hd]) (by simp[Wi.hd]) (Tz (.str _) (Tz (.str _) λi x d e=>by simp at e))
   |cons _ _=>cases hl
  |nt x=>
   match vs,hl,h,ih with
   |[v1],_,h,ih=>exact .tup h (by simp[Wi.hd]) (by simp[Wi.hd]) (Tz (.str _) (Tz (ih 0 v1 x rfl rfl) λi x d e=>by simp at e))
  |bi b x y=>
   match vs,hl,h,ih with
   |[v1,v2],_,h,ih=>exact .tup h (by simp[Wi.hd]) (by simp[Wi.hd]) (Tz (.str _) (Tz (ih 0 v1 x rfl rfl) (Tz (ih 1 v2 y rfl rfl) λi x d e=>by simp at e)))
def tOrG(K:W.Frag)(ta tb:TE):TE:=λσ H Q=>ta σ H λx H1=>∃k,Zob K x H1 k∧if k=false then tb σ H1 Q else Q x H1
theorem Zli{a b:Expr}{rest:SA}{ta tb:TE}{pos:Pos}(ha:PE X a ta)(hb:PE X (.BoolOp .Or (b :: rest) pos) tb)(hK:X.K=K:=by rfl):PE X (.BoolOp .Or (a :: b :: rest) pos) (tOrG K ta tb):=by
 subst hK;intro pins s σ H Q I h;refine BoolOp_or (thn (ha pins s σ H _ I h) λv s1 ⟨x,H1,I1,r1,q1⟩=>?_);obtain⟨k,hk,q1⟩:=q1;refine Zj1 pins s1 σ H1 x _ (λb H2=>H2=H1∧b=k) I1 r1 ⟨_,hk,rfl,rfl⟩ |> λhh=>thn hh λb s2 ⟨H2,I2,e1,e2⟩=>?_
 subst e1 e2
 cases b with
 |false=>
  rw[if_pos rfl]at q1;exact hb pins s2 σ H2 Q I2 q1
 |true=>
  rw[if_neg (by decide)]at q1;exact⟨x,H2,I2,r1,q1⟩
inductive Zq5(ts:TM)(vs:List V)(H:Hp)(Q:VK):Prop
 |mk(l:Str)(v1 v2:V)(W1 W2:Wi)(n1 n2:Nat)(h1:vs=[.str l,v1,v2])(h2:WAt H v1 W1)(h3:Fw W1 n1)(h4:n1≤576)(h5:WAt H v2 W2)(h6:Fw W2 n2)(h7:n2≤576)(h8:Lts l)(h9:Cz ts H)(i0:∀v H',Kept H H'→Cz ts H'→Vz l (Df l (Ut l W1) (Ut l W2)) v→Q v H'):Zq5 ts vs H Q
def Zve(ts:TM):Sp:=λvs H Q _=>Zq5 ts vs H Q
section
variable {ts:TM}{Pm Pl Pb Pt Pp:Addr}
theorem M0(U:A3 ts Pm Pl Pb Pt Pp)(F:Fun K "parting_wishes" "parting_wishes" Vv f fd)(Xz:Cal P w K mg base "machine_of" 6 RM (Qn Pm Pl))(Z4:Cal P w K mg base "parting_text" 5 TV (Oa Pp)):Ya P w K mg base CX0 7 f fd RK (Zve ts):=by
 refine F.ok Mj (λvs H Q E h=>?_) (λcdv A outer s H vs Q E hr h=>?_)
 ·obtain⟨l,v1,v2,W1,W2,n1,n2,rfl,_⟩:=h;rfl
 obtain⟨l,v1,v2,W1,W2,n1,n2,rfl,u4,F1,b1,j8,F2,b2,L,T,k⟩:=h;refine⟨_,(Zh (Zq (Z2 Z4 (hr.mono (by decide)) (Za (Z2 Xz (hr.mono (by decide)) (Za (pv 0) (Za (pv 1) Zb))) (Za (Z2 Xz (hr.mono (by decide)) (Za (pv 0) (Za (pv 2) Zb))) Zb))))),?_⟩;refine⟨_,rfl,_,rfl,Zd7 U T u4 F1 b1 L λm1 H1 e1 T1 L1=>?_⟩;refine⟨_,rfl,_,rfl,Zd7 U T1 (j8.keep e1.t) F2 b2 L λm2 H2 e2 T2 L2=>?_⟩;exact Nn U T2 L (L1.keep e2.t) L2 b1 b2 λv H3 e3 T3 hF=>k v H3 ((e1.trans e2).trans e3) T3 hF
inductive Zqz(ts:TM)(vs:List V)(H:Hp)(Q:VK):Prop
 |mk(m o:Addr)(l:Str)(P1 P2:TC)(h1:vs=[.ref m,.ref o])(h2:LV H m l P1 576)(h3:LV H o l P2 576)(h4:Lts l)(h5:Cz ts H)(h6:∀H',Kept H H'→Cz ts H'→Q (.bl true) H'):Zqz ts vs H Q
def Zvb(ts:TM):Sp:=λvs H Q _=>Zqz ts vs H Q
theorem Qx(U:A3 ts Pm Pl Pb Pt Pp)(F:Fun K "_law_written_right" "_law_written_right" Wl f fd)(Tg:Cal P w K mg base "show_machine" 2 SN Zf0)(Th:Cal P w K mg base "read_machine" 4 ["text"] Zf2)(Vp:Cal P w K mg base "least" 5 SN (Ss Pl))
  (Z4:Cal P w K mg base "parting_text" 5 TV (Oa Pp)):Ya P w K mg base CX0 6 f fd RT (Zvb ts):=by
 refine F.ok V6 (λvs H Q E h=>?_) (λcdv A outer s H vs Q E hr h=>?_)
 ·obtain⟨m,o,l,P1,P2,rfl,_⟩:=h;rfl
 obtain⟨m,o,l,P1,P2,rfl,X,Y,L,T,k⟩:=h
 refine⟨_,(Zd (Zn (i:=2) V6.nd (by rfl) (Or.inl (by rfl)) (Z2 Th (hr.mono (by decide)) (Za (Z2 Tg (hr.mono (by decide)) (Za (pv 0) Zb)) Zb))) 
   (Zd (Xp (PW.pt (Mp (Zz (Zdz (Zm1 hr)) (pv 2) (pv 0) (Z5 _)) (Mp (Zz (Zdz (Zm1 hr)) (Z2 Vp (hr.mono (by decide)) (Za (pv 2) Zb)) (pv 0) (Z5 _)) (Nl (Zz Zo8 (Z2 Z4 (hr.mono (by decide)) (Za (pv 0) (Za (pv 2) Zb))) Zlj (Z5 _)))))) 
    (Zh (Zq Di)) Yo) 
   (Zh (Zq (Wf Vs (Z2 Z4 (hr.mono (by decide)) (Za (pv 2) (Za (pv 1) Zb))) (Z2 Z4 (hr.mono (by decide)) (Za (pv 0) (Za (pv 1) Zb))) (Z5 _)))))),?_⟩
 refine(let y1:TS:=_;let y6:TS:=Zp _ y1;(?_:Zp _ y6 _ _ _));obtain⟨st,es,D,M,r⟩:=X;have ok:OkM l 0 es st:=Zs7 D L.is L.two (by lia);refine⟨_,rfl,m,l,0,es,st,rfl,Zwb M,ok,λH1 e1=>?_⟩;refine⟨l,0,es,st,rfl,ok,λy H2 e2 hy=>?_⟩;have eD:=e1.trans e2;have X2:LV H2 m l P1 576:=LV.keep ⟨st,es,D,M,r⟩ (Tk.same eD);have A2:LV H2 y l P1 576:=⟨st,es,D,Zpo hy,r⟩;have T2:=T.same eD;have Y2:=Y.keep (Tk.same eD);clear M hy T Y;refine⟨_,rfl,_,rfl,Zhi L.nd L.le A2 X2 (oG _) (λ_ _=>VB) ⟨_,rfl,Rj ?_⟩⟩;refine⟨_,rfl,Zir (A2.gv (oG _) L.two) L.nd (T2.two U) (Zfs U T2 λx H3 e3 T3 Z3=>⟨_,rfl,Zhi L.nd L.le Z3 (X2.keep e3.t) (oG _) (λ_ _=>VB) ⟨_,rfl,Rj ?_⟩⟩)⟩;refine⟨_,rfl,_,rfl,Nn U T3 L (X2.keep e3.t) (A2.keep e3.t) (oG _) (oG _) λv H4 e4 T4 h4=>?_⟩
 obtain rfl:v=.non:=by
  rcases h4 with ⟨rfl,_⟩|⟨t,_,_,_,h,_⟩
  ·rfl
  ·exact absurd VB h
 have sF:=e3.trans e4;refine⟨rfl,_,rfl,Rj ?_⟩;refine⟨_,rfl,_,rfl,Nn U T4 L (A2.keep sF.t) (Y2.keep sF.t) (oG _) (oG _) λv1 H5 e5 T5 h5=>?_⟩;refine⟨_,rfl,_,rfl,Nn U T5 L ((X2.keep sF.t).keep e5.t) ((Y2.keep sF.t).keep e5.t) (oG _) (oG _) λv2 H6 e6 T6 h6=>?_⟩;obtain rfl:=h5.uniq h6 λ_ _=>VB;refine⟨h5.Zdl,?_⟩;rw[decide_eq_true rfl];exact k _ (((Zl.kept eD).trans sF).trans (e5.trans e6)) T6
end
theorem dict_const(P:Program)(w:World)(ep:Nat)(rows:List (Str×Tok×Int×Tok))(nd:(rows.map (·.1)).Nodup):
  ∃vs,Obj.IsDictOf (Z8 P w) { cls:=.type "dict",data:=.dict (rows.map λr=>(⟨PyData.keyHash w.params r.1,.str r.1 r.2.1,.int r.2.2.1 r.2.2.2⟩:DictEntry)).toArray ep } vs∧KV (rows.map λr=>(Sum.inr r.1,V.int r.2.2.1)) vs:=by
 refine⟨rows.map λr=>(Sum.inr r.1,Value.int r.2.2.1 r.2.2.2),⟨_,ep,⟨rfl,rfl,rfl⟩,rfl,λe he=>?_,?_,?_⟩,?_⟩
 ·rw[List.mem_toArray]at he;obtain⟨r,_,rfl⟩:=lF.mp he;exact⟨Sum.inr r.1,by show Value.isStrOf r.1 (.str r.1 r.2.1)=true;simp[Value.isStrOf],rfl⟩
 ·rw[VS];clear nd
  induction rows with
  |nil=>exact .nil
  |cons r rows ih=>exact .cons (by show Value.isStrOf r.1 (.str r.1 r.2.1)=true;simp[Value.isStrOf]) rfl ih
 ·rw[lU];rw[ZT,UM]at nd ⊢;exact nd.imp λh e=>h (by injection e)
 ·clear nd
  induction rows with
  |nil=>exact .nil
  |cons r rows ih=>exact .cons ⟨rfl,⟨_,rfl⟩⟩ ih
theorem Zoc(u:List Nat):(S u).cps.toList=u:=by simp[S]
theorem Zjp{W:Wi}(cs:List Nat):Ut l (W.map Vr) cs↔Ut l W cs.reverse:=by
 unfold Ut;have h:=Zt6 (cs.map λi=>l.cps.toList.getD i 0).reverse W;rw[ZC]at h;rw[h,List.map_reverse]
theorem Zjy(l t:Str):tx l (Vr t)=(tx l t).reverse:=by
 unfold tx;rw[Ur,List.map_reverse]
theorem Zgg{l t:Str}(h:∀c∈t.cps.toList,c∈l.cps.toList):∀c∈(Vr t).cps.toList,c∈l.cps.toList:=λc hc=>h c (by rw[Ur]at hc;exact List.mem_reverse.mp hc)
theorem LV.up{P:TC}{n':Nat}(h:LV H m l P n)(q:n≤n'):LV H m l P n':=let ⟨st,es,D,M,r⟩:=h;⟨st,es,D,M,lI r q⟩
theorem Vz.txt{P:TC}(h:Vz l P v)(K:W.Frag)(k:∀z:Str,z.length≤400000→(∀c∈z.cps.toList,c∈l.cps.toList)→Q (.str z) H):∃b,Zob K v H b∧if b=false then tC (.str (Str.ofString "")) σ H Q else Q v H:=by
 have q0:=k (Str.ofString "") (by decide +kernel) (λc hc=>by rw[show (Str.ofString "").cps.toList=[] from by decide +kernel]at hc;cases hc)
 rcases h with ⟨rfl,_⟩|⟨t,rfl,h1,h2,_⟩
 ·exact⟨false,rfl,q0⟩
 ·have e:(sOf t).cps.toList=t:=VS;have hl:(sOf t).length=t.length:=by rw[←len_list,e]
  refine⟨_,⟨by rw[sizeLine_eq,hl];lia,rfl⟩,?_⟩
  split
  ·exact q0
  ·exact k _ (by lia) (by rw[e];exact h1)
inductive Zf9(K:W.Frag)(tabs:RB)(vs:List V)(H:Hp)(Q:VK):Prop
 |mk(a:Addr)(ns:List Int)(h1:vs=[.ref a])(h2:SqL K H a (ns.map V.int))(h3:ns.length≤63)(h4:(∀q∈tabs,H q.2=some (.tbl #[])))(h5:∀H',Q (.bl true) H'):Zf9 K tabs vs H Q
def Cv(K:W.Frag)(tabs:RB):Sp:=λvs H Q _=>Zf9 K tabs vs H Q
theorem Zs9{cl ct cm cb cp Pm Pp:Addr}(nn:([(Pm,Nb),(Pl,Zx),(Pb,Xg),(Pt,L0),(Pp,X6)].map (·.1)).Nodup)(U:A3 [(Pm,Nb),(Pl,Zx),(Pb,Xg),(Pt,L0),(Pp,X6)] Pm Pl Pb Pt Pp)(F:Fun K "law" "law" Qs f fd)(Z:Blt mg)(N8:Cal P w K mg base "_law_flow" 1 RA (Zki K))(Zy:Cal P w K mg base "_law_pick" 1 TK Qm)(Sn:Cal P w K mg base "_law_letters" 2 TK E3)(N7:Cal P w K mg base "_law_pool" 2 RJ Zkf)(Ym:Cal P w K mg base "_law_pool_wish" 6 UZ (P6 5))
  (V4:Cal P w K mg base "wish_turned" 5 RE (Mf Pt)) (Xz:Cal P w K mg base "machine_of" 6 RM (Qn Pm Pl)) (Wc:Cal P w K mg base "contrary" 6 SN (Qo Pl)) (Ks:Cal P w K mg base "both" 6 TV (Ha Pb Pl)) (Fj:Cal P w K mg base "either" 7 TV (Mg Pb Pl)) (Ow:Cal P w K mg base "takes" 2 ["machine","text"] Cr) (Ue:Cal P w K mg base "_law_all_words" 2 RO Zkm)
  (Z4:Cal P w K mg base "parting_text" 5 TV (Oa Pp)) (Xu:Cal P w K mg base "parting_wishes" 7 RK (Zve [(Pm,Nb),(Pl,Zx),(Pb,Xg),(Pt,L0),(Pp,X6)])) (Xk:Cal P w K mg base "_law_written_right" 6 RT (Zvb [(Pm,Nb),(Pl,Zx),(Pb,Xg),(Pt,L0),(Pp,X6)])):Ya P w K mg base CX0 8 f fd RA (Cv K [(cl,Pl),(ct,Pt),(cm,Pm),(cb,Pb),(cp,Pp)]):=by
 refine F.ok Vu (λvs H Q E h=>?_) (λcdv A outer s H vs Q E hr h=>?_)
 ·obtain⟨a,ns,rfl,_⟩:=h;rfl
 obtain⟨a,ns,rfl,hS,h63,hT0,k⟩:=h;have tb:∀{c Pt0:Addr},(c,Pt0)∈[(cl,Pl),(ct,Pt),(cm,Pm),(cb,Pb),(cp,Pp)]→H Pt0=some (.tbl #[]):=λh=>hT0 _ h
 have T0:∀H1,Zl H H1→Cz [(Pm,Nb),(Pl,Zx),(Pb,Xg),(Pt,L0),(Pp,X6)] H1:=λH1 e=>⟨λq hq=>by
  simp only[oX,aH,or_false]at hq
  rcases hq with rfl|rfl|rfl|rfl|rfl
  ·exact Tb.start (e _ _ (tb (c:=cm) (by simp)))
  ·exact Tb.start (e _ _ (tb (c:=cl) (by simp)))
  ·exact Tb.start (e _ _ (tb (c:=cb) (by simp)))
  ·exact Tb.start (e _ _ (tb (c:=ct) (by simp)))
  ·exact Tb.start (e _ _ (tb (c:=cp) (by simp))),nn⟩
 generalize [(Pm,Nb),(Pl,Zx),(Pb,Xg),(Pt,L0),(Pp,X6)]=ts at nn U Xu Xk T0
 refine⟨_,(Zd (Zn (i:=1) Vu.nd (by rfl) (Or.inl (by rfl)) (Z2 N8 (hr.mono (by decide)) (Za (pv 0) Zb))) 
   (Zd (Zn (i:=2) Vu.nd (by rfl) (Or.inr (by rfl)) (Z2 Sn (hr.mono (by decide)) (Za (pv 1) (Za (Yd Ud Zg (Z2 Zy (hr.mono (by decide)) (Za (pv 1) (Za Zg Zb)))) Zb)))) 
   (Zd (Zn (i:=3) Vu.nd (by rfl) (Or.inl (by rfl)) (Z2 N7 (hr.mono (by decide)) (Za (pv 1) (Za (pv 2) Zb)))) 
   (Zd (Zn (i:=4) Vu.nd (by rfl) (Or.inl (by rfl)) (Z2 Ym (hr.mono (by decide)) (Za (pv 1) (Za (pv 3) (Za Zg (Za Zg Zb)))))) 
   (Zd (Zn (i:=5) Vu.nd (by rfl) (Or.inl (by rfl)) (Z2 Ym (hr.mono (by decide)) (Za (pv 1) (Za (pv 3) (Za Zg (Za Zg Zb)))))) 
   (Zd (Zn (i:=6) Vu.nd (by rfl) (Or.inl (by rfl)) (Z2 V4 (hr.mono (by decide)) (Za (pv 4) Zb))) 
   (Zd (Np (Yj (sc:=Ze Qs) (Nm:=UU) (own:=["_law_one"]) (fr:=[2]) ⟨rfl,by decide +kernel,by decide +kernel,by decide +kernel,by decide +kernel⟩ (by rfl) (Yb (by decide)) (Tr (K:=K) (Wa (Za (pv 4) (Za (pv 5) (Za (pv 6) Zb))))) (λd=>(Zo (i:=0) Zl8 (by rfl) (Or.inl (by rfl)))) (λd=>Yn) (λd=>(Z2 Xz (hr.mono (by decide)) (Za (pv 1) (Za (pv 0) Zb))))) (Zs3 (K:=K) (n:=3) (by rfl) (Xb (Zo (i:=7) Vu.nd (by rfl) (Or.inl (by rfl))) (Xb (Zo (i:=8) Vu.nd (by rfl) (Or.inr (by rfl))) (Xb (Zo (i:=9) Vu.nd (by rfl) (Or.inl (by rfl))) Rc))))) 
   (Zd (Xp (Zz (Zdz (Zm1 hr)) (Z2 V4 (hr.mono (by decide)) (Za (pv 6) Zb)) (pv 4) (Z5 _)) 
    (Zh (Zq Di)) Yo) 
   (Zd (Xq lW (by rfl) (X9 (K:=K) (Z2 Ue (hr.mono (by decide)) (Za (pv 2) (Za Zg Zb)))) (Zo (i:=10) Vu.nd (by rfl) (Or.inl (by rfl))) 
    (Zh (Xp (Zz Qw (Z2 Ow (hr.mono (by decide)) (Za (pv 9) (Za (pv 10) Zb))) (Z2 Ow (hr.mono (by decide)) (Za (pv 7) (Za (Kb (by rfl) (by rfl) Z.reversed Zv (pv 10)) Zb))) (Z5 _)) 
     (Zh (Zq Di)) Yo))) 
   (Zd (Xp (Zz Qw (Z2 Z4 (hr.mono (by decide)) (Za (pv 7) (Za (pv 8) Zb))) (Z2 Xu (hr.mono (by decide)) (Za (pv 2) (Za (pv 4) (Za (pv 5) Zb)))) (Z5 _)) 
    (Zh (Zq Di)) Yo) 
   (Zd (Zn (i:=11) Vu.nd (by rfl) (Or.inl (by rfl)) (Z2 Z4 (hr.mono (by decide)) (Za (pv 7) (Za (pv 9) Zb)))) 
   (Zd (Xp (Zz Qw (pv 11) (Z2 Xu (hr.mono (by decide)) (Za (pv 2) (Za (pv 4) (Za (pv 6) Zb)))) (Z5 _)) 
    (Zh (Zq Di)) Yo) 
   (Zd (Xq lW (by rfl) (X9 (K:=K) (Yw (Za (Zli (K:=K) (pv 11) (Nq Zv)) (Za (Zli (K:=K) (Z2 Z4 (hr.mono (by decide)) (Za (pv 7) (Za (pv 8) Zb))) (Nq Zv)) Zb)))) (Zo (i:=10) Vu.nd (by rfl) (Or.inl (by rfl))) 
    (Zh (Xp (Zz Qw (Z2 Ow (hr.mono (by decide)) (Za (pv 9) (Za (Kb (by rfl) (by rfl) Z.reversed Zv (pv 10)) Zb))) (Z2 Ow (hr.mono (by decide)) (Za (pv 7) (Za (pv 10) Zb))) (Z5 _)) 
     (Zh (Zq Di)) Yo))) 
   (Zh (Zq (Z6 (S5 (K:=K)) (by rfl) Z.all G7 (Za (Yj (sc:=Ze Qs) (Nm:=UU) (own:=["_law_one"]) (fr:=[8]) ⟨rfl,by decide +kernel,by decide +kernel,by decide +kernel,by decide +kernel⟩ (by rfl) (Yb (by decide)) (Tr (K:=K) (Wa (Za (Z2 Ks (hr.mono (by decide)) (Za (pv 7) (Za (pv 8) Zb))) (Za (Z2 Fj (hr.mono (by decide)) (Za (pv 8) (Za (pv 7) Zb))) (Za (Z2 Wc (hr.mono (by decide)) (Za (pv 9) Zb)) Zb))))) (λd=>(Zo (i:=0) Zl7 (by rfl) (Or.inl (by rfl)))) (λd=>Yn) (λd=>(Z2 Xk (hr.mono (by decide)) (Za (pv 0) (Za (pv 1) Zb))))) Zb))))))))))))))))),?_⟩
 refine(let y1:TS:=_;let y6:TS:=Zp _ y1;let y7:TS:=Zp _ y6;let m7:TS:=Zp _ y7;let u8:TS:=Zp _ m7;let d9:TS:=Zp _ u8;let b8:TS:=Zp _ d9;let o9:TS:=Zp _ b8;let yF:TS:=Zp _ o9;let kZ:TS:=Zp _ yF;let Zjj:TS:=Zp _ kZ;let cW:TS:=Zp _ Zjj;let cX:TS:=Zp _ cW;(?_:Zp _ cX _ _ _));refine⟨_,rfl,a,ns,rfl,hS,λp sc H1 hp e1 FA=>?_⟩;have T1:=T0 H1 e1;refine⟨_,rfl,_,rfl,p,sc,3,rfl,by decide,by decide,FA,λr1 vU i0 yL gZ=>⟨_,_,rfl,rfl,p,sc,1+r1,rfl,by lia,by lia,FA.go gZ,λl H3 hL dr3 hU=>?_⟩⟩;have T2:=T1.drew FA (Xs.upd (.lst vU));have T3:=T2.drew (FA.go gZ) dr3;have yX:=len_list l;have hl:0<l.length∧l.length≤3:=by rw[←yX,hL.1];lia
 have L:Lts l:=⟨hl.1,hl.2,⟨yX,hL.2⟩⟩;refine⟨_,rfl,_,rfl,p,sc,l,rfl,hl.1,hl.2,hU,λq ws H4 hq eL gY xE sZ l5 d4 hV=>?_⟩;have T4:=T3.drew hU d4
 have yB:q≠p:=by
  obtain⟨ys,h1,_⟩:=hU.here;exact(Zi h1 hq).symm
 refine⟨_,rfl,_,rfl,p,sc,q,ws,8,4,rfl,l5,yB,eL,gY,by decide,by decide,by decide,by decide,hV,λv1 W1 H5 u4 z1 p1 o1 d5 hZ=>?_⟩;have T5:=T4.drew hV d5;refine⟨_,rfl,_,rfl,p,sc,q,ws,4,3,rfl,d5 _ _ l5 yB,yB,eL,gY,by decide,by decide,by decide,by decide,hZ,λv2 W2 H6 j8 z2 p2 o2 d6 yG=>?_⟩;have T6:=T5.drew hZ d6;have u4:=u4.keep (Tk.drew hZ d6);have h3:∀z∈ws,z.length≤3:=λz hz=>(xE z hz).1;have F1:=(Fw.of (W:=W1) (by lia) o1 h3).up sZ;have F3:=(Fw.rev (W:=W1) (by lia) o1 h3).up sZ;have F2:=(Fw.of (W:=W2) (by lia) o2 h3).two (by lia);refine⟨_,rfl,Zj2 U T6 u4 F1 λv3 H7 e7 T7 c8=>?_⟩;have u4:=u4.keep e7.t;have j8:=j8.keep e7.t;clear T6 T5 T4 T3 T2 T1 FA hU hV hZ yG l5 d4 d5 d6 e7;refine⟨_,rfl,_,rfl,_,rfl,(by show 3≤sizeLine;decide),λt ht=>?_⟩;generalize eZ:upd H7 t _=H8;have s8:=nS7 eZ ht;have h8:=nU7 eZ;have T8:=T7.same s8;have u4:=u4.keep (Tk.same s8);have j8:=j8.keep (Tk.same s8);have c8:=c8.keep (Tk.same s8);refine⟨t,rfl,⟨_,SqT.of h8⟩,?_⟩
 refine U5 (K:=K) (a:=t) (xs:=[v1,v2,v3]) (λi acc Hj=>∃ms:List Addr,acc=ms.map V.ref∧ms.length=i∧Tk H8 Hj∧Cz ts Hj∧∀(j:Nat) m q,ms[j]?=some m→[(W1,36),(W2,16),(W1.map Vr,36)][j]?=some q→LV Hj m l (Ut l q.1) q.2) (by show 3<sizeLine;decide) ⟨[],rfl,rfl,λ_ _ h=>h,T8,λj m q h=>by simp at h⟩ (λi acc Hj ⟨ms,h1,h2,_⟩=>by rw[h1,oB,h2];exact oG _)
  (λi acc Hj ⟨_,_,_,h,_⟩=>SqT.of (h _ _ h8)) (λi acc Hj x hx hp=>?_) (λacc H9 hp y hy=>?_)
 ·obtain⟨ms,rfl,hlen,kj,Tj,hX⟩:=hp
  obtain⟨W,n,hq,hW,hF,hn⟩:∃W n,[(W1,36),(W2,16),(W1.map Vr,36)][i]?=some (W,n)∧WAt H8 x W∧Fw W n∧n≤576:=by
   match i,hx with
   | 0,hx=>cases hx;exact⟨_,_,rfl,u4,F1,by decide⟩
   | 1,hx=>cases hx;exact⟨_,_,rfl,j8,F2,by decide⟩
   | 2,hx=>cases hx;exact⟨_,_,rfl,c8,F3,by decide⟩
   |i+3,hx=>simp at hx
  refine S3 ⟨_,rfl,_,rfl,Zd7 U Tj (hW.keep kj) hF hn L λm H' e' T' X'=>⟨ms++[m],by rw[lH];rfl,by rw[oV,hlen];rfl,kj.trans e'.t,T',λj m' q' h1 h2=>?_⟩⟩
  by_cases z:j<ms.length
  ·rw[lB z]at h1;exact(hX j m' q' h1 h2).keep e'.t
  ·rw[lK (by lia)]at h1
   cases hi:j-ms.length with
   |zero=>
    rw[hi]at h1;cases h1;obtain rfl:j=i:=by lia
    rw[hq]at h2;cases h2;exact X'
   |succ n=>rw[hi]at h1;simp at h1
 obtain⟨ms,rfl,hlen,k9,T9,hX⟩:=hp
 obtain⟨m1,m2,m3,rfl⟩:∃m1 m2 m3,ms=[m1,m2,m3]:=by
  match ms,hlen with
  |[m1,m2,m3],_=>exact⟨m1,m2,m3,rfl⟩
 have tG:=Zf hy (.lst ([m1,m2,m3].map V.ref));have i0:upd H9 y (.lst ([m1,m2,m3].map V.ref)) y=_:=Zc;have X1:LV _ m1 l (Ut l W1) 36:=(hX 0 m1 _ rfl rfl).keep (Tk.same tG);have X2:LV _ m2 l (Ut l W2) 16:=(hX 1 m2 _ rfl rfl).keep (Tk.same tG);have X3:LV _ m3 l (Ut l (W1.map Vr)) 36:=(hX 2 m3 _ rfl rfl).keep (Tk.same tG);have jJ:=T9.same tG;have xH:=k9.trans (Tk.same tG);have u4:=u4.keep xH;have j8:=j8.keep xH;have c8:=c8.keep xH;refine⟨y,_,rfl,SqL.of i0,rfl,?_⟩;clear i0 tG xH;generalize upd H9 y _=w4 at X1 X2 X3 jJ u4 j8 c8;clear hy hX T9 k9 T8 h8 s8;refine⟨_,_,rfl,_,_,rfl,_,_,rfl,rfl,?_⟩;refine⟨_,rfl,Zj2 U jJ c8 F3 λu z5 u5 T11 hu=>?_⟩
 have back:(W1.map Vr).map Vr=W1:=by
  rw[Wi.map_map,show (λz=>Vr (Vr z))=λz=>z from funext Zh8,Wi.map_id]
 rw[back]at hu;have u4:=u4.keep u5.t;have j8:=j8.keep u5.t;have c8:=c8.keep u5.t;have X1:=X1.keep u5.t;have X2:=X2.keep u5.t;have X3:=X3.keep u5.t;have dd:=Wi.Zub W1;have rF:=hu.den;have pB:=u4.den;obtain⟨ds,yR⟩:∃ds,W1.dt=.tup ds:=by cases W1<;>exact⟨_,rfl⟩
 rw[yR]at dd rF pB;refine⟨_,rfl,ds,by lia,rF,pB,⟨_,rfl,Rj ?_⟩⟩;clear dd rF pB yR;clear hu u5 jJ back;refine⟨_,rfl,l,4,rfl,L.le,by decide,λp5 tK hp5 sE xN=>⟨p5,rfl,⟨_,SqL.of xN⟩,?_⟩⟩;refine S2 (K:=K) (a:=p5) (xs:=L7 (awl l.cps.toList 4)) (λi σ Hj=>∃v10,σ=[some (.ref a),some (.ref p),some (.str l),some (.ref q),some v1,some v2,some v3,some (.ref m1),some (.ref m2),some (.ref m3),v10,none]∧Zl tK Hj) ⟨none,rfl,Zl.refl _⟩ (λi σ Hj _ h=>?_) ?_ ?_
 ·obtain⟨_,_,e⟩:=h;exact SqL.of (e _ _ xN)
 ·rintro i x σ Hj hx ⟨v10,rfl,ej⟩;obtain⟨u,hu,rfl⟩:=Zfx hx;have hum:=Zqk.mp (oR hu);have ke:Tk z5 Hj:=Tk.same (sE.trans ej);have huc:∀c∈(S u).cps.toList,c∈l.cps.toList:=by rw[Zoc];exact hum.2
  have hul:=Zr5 u;refine⟨_,rfl,_,rfl,Py (X3.keep ke) (by decide) hl huc λb1 gO=>?_⟩;refine⟨_,rfl,_,rfl,_,rfl,S u,rfl,(by rw[sizeLine_eq];lia),(by show (S u).length+(S u).length*0≤_;lia),Py (X1.keep ke) (by decide) hl (Zgg huc) λb2 d7=>?_⟩;have:b1=b2:=Lp (gO.trans (by rw[d7];show Ut l (W1.map Vr) _↔Ut l W1 (tx l (Vr (S u)));rw[Zjy];exact Zjp _));refine⟨rfl,_,rfl,?_⟩;rw[this,decide_eq_true rfl];exact Rj ⟨_,rfl,ej⟩
 rintro σ Hj ⟨v10,rfl,ej⟩;have ej:=sE.trans ej;have T13:=T11.same ej;have u4:=u4.keep (Tk.same ej);have j8:=j8.keep (Tk.same ej);have c8:=c8.keep (Tk.same ej);have X1:=X1.keep (Tk.same ej);have X2:=X2.keep (Tk.same ej);have X3:=X3.keep (Tk.same ej);clear xN sE hp5 T11 ej;refine⟨_,rfl,_,rfl,Nn U T13 L X1 X2 (by decide) (by decide) λx1 H14 yI T14 P1=>?_⟩;refine⟨_,rfl,_,rfl,_,rfl,l,v1,v2,W1,W2,36,16,rfl,u4.keep yI.t,F1,by decide,j8.keep yI.t,F2,by decide,L,T14,λx2 H15 yJ T15 P2=>?_⟩;obtain rfl:=P1.uniq P2 λ_ _=>VB;refine⟨P1.Zdl,_,rfl,?_⟩;rw[decide_eq_true rfl];have yJ:=yI.trans yJ;have u4:=u4.keep yJ.t;have c8:=c8.keep yJ.t;have X1:=X1.keep yJ.t;have X2:=X2.keep yJ.t;have X3:=X3.keep yJ.t;refine Rj ?_;refine⟨_,rfl,_,rfl,Nn U T15 L X1 X3 (by decide) (by decide) λx3 H16 zI T16 P3=>?_⟩;refine⟨_,rfl,_,rfl,_,rfl,_,rfl,l,v1,v3,W1,W1.map Vr,36,36,rfl,u4.keep zI.t,F1,by decide,c8.keep zI.t,F3,by decide,L,T16,λx4 H17 gD T17 P4=>?_⟩;obtain rfl:=P3.uniq P4 λ_ _=>VB;refine⟨P3.Zdl,_,rfl,?_⟩;rw[decide_eq_true rfl];have gD:=zI.trans gD;have X1:=X1.keep gD.t;have X2:=X2.keep gD.t;have X3:=X3.keep gD.t;clear u4 j8 c8;refine Rj ?_;refine⟨_,rfl,P3.txt K λz1 n1 c1=>?_⟩;refine⟨_,rfl,_,rfl,Nn U T17 L X1 X2 (by decide) (by decide) λx5 H18 zJ T18 P5=>P5.txt K λz2 n2 c2=>?_⟩;have X1:=X1.keep zJ.t;have X2:=X2.keep zJ.t;have X3:=X3.keep zJ.t;refine⟨(by show 2≤sizeLine;decide),λy2 jD=>⟨y2,rfl,⟨_,SqL.of Zc⟩,?_⟩⟩;generalize eZ:upd H18 y2 _=H19;have vP:=nS7 eZ jD;have h19:=nU7 eZ;have T19:=T18.same vP;have X1:=X1.keep (Tk.same vP);have X2:=X2.keep (Tk.same vP);have X3:=X3.keep (Tk.same vP);clear vP jD T18 T17 T16 T15 T14 T13 P1 P2 P3 P4 P5 yI yJ zI gD zJ;refine S2 (K:=K) (a:=y2) (xs:=[V.str z1,V.str z2]) (λi σ Hj=>∃v10,σ=[some (.ref a),some (.ref p),some (.str l),some (.ref q),some v1,some v2,some v3,some (.ref m1),some (.ref m2),some (.ref m3),v10,some x3]∧Hj=H19) ⟨_,rfl,rfl⟩ (λi σ Hj _ h=>?_) ?_ ?_
 ·obtain⟨_,_,rfl⟩:=h;exact SqL.of h19
 ·rintro i x σ Hj hx ⟨v10,rfl,rfl⟩
  obtain⟨z,rfl,zn,zc⟩:∃z:Str,x=.str z∧z.length≤400000∧∀c∈z.cps.toList,c∈l.cps.toList:=by
   match i,hx with
   | 0,hx=>cases hx;exact⟨_,rfl,n1,c1⟩
   | 1,hx=>cases hx;exact⟨_,rfl,n2,c2⟩
   |i+2,hx=>simp at hx
  refine⟨_,rfl,_,rfl,_,rfl,z,rfl,(by rw[sizeLine_eq];lia),(by show z.length+z.length*0≤_;lia),Py X3 (by decide) hl (Zgg zc) λb1 gO=>?_⟩;refine⟨_,rfl,_,rfl,Py X1 (by decide) hl zc λb2 d7=>?_⟩;have:b1=b2:=Lp (gO.trans (by rw[d7];show Ut l (W1.map Vr) (tx l (Vr z))↔_;rw[Zjy,Zjp,ZC]));refine⟨rfl,_,rfl,?_⟩;rw[this,decide_eq_true rfl];exact Rj ⟨_,rfl,rfl⟩
 rintro σ Hj ⟨v10,rfl,rfl⟩;have g1:=X1.gv (by decide) hl;have g2:=X2.gv (by decide) hl;refine⟨_,rfl,_,rfl,Zn3 g1 g2 (by decide) L.nd L.rise (T19.two U) (Zfs U T19 λb1 H20 zK T20 Y1=>?_)⟩;refine⟨_,rfl,_,rfl,Zet (g2.keep zK.t) (g1.keep zK.t) (by decide) L.nd L.rise (T20.two U) (Zfs U T20 λb2 H21 e21 T21 Y2=>?_)⟩;refine⟨_,rfl,Zja (((X3.keep zK.t).keep e21.t).gv (by decide) hl) L.nd (T21.two U) (Zfs U T21 λb3 H22 e22 T22 Y3=>?_)⟩;refine⟨(by show 3≤sizeLine;decide),λt2 ht2=>?_⟩;have jG:=Zf ht2 (.tup [V.ref b1,V.ref b2,V.ref b3]);have nE:upd H22 t2 (.tup [V.ref b1,V.ref b2,V.ref b3]) t2=_:=Zc;have T23:=T22.same jG;have e1:=e21.t.trans (e22.t.trans (Tk.same jG));have Y1:=Y1.keep e1;have X2:=X2.keep (zK.t.trans e1);have Y2:=Y2.keep (e22.t.trans (Tk.same jG));have Y3:=Y3.keep (Tk.same jG);clear e1;generalize upd H22 t2 _=H23 at nE T23 X2 Y1 Y2 Y3;refine⟨t2,rfl,⟨_,SqT.of nE⟩,?_⟩
 refine U5 (K:=K) (a:=t2) (xs:=[V.ref b1,V.ref b2,V.ref b3]) (λi acc Hj=>acc=List.replicate i (V.bl true)∧Tk H23 Hj∧Cz ts Hj) (by show 3<sizeLine;decide) ⟨rfl,λ_ _ h=>h,T23⟩ (λi acc Hj h=>by rw[h.1,ZN];exact oG _)
  (λi acc Hj h=>SqT.of (h.2.1 _ _ nE)) (λi acc Hj x hx hp=>?_) (λacc H24 hp y3 hy3=>?_)
 ·obtain⟨rfl,kj,Tj⟩:=hp
  obtain⟨b,P0,rfl,Y⟩:∃b P0,x=.ref b∧LV H23 b l P0 576:=by
   match i,hx with
   | 0,hx=>cases hx;exact⟨_,_,rfl,Y1⟩
   | 1,hx=>cases hx;exact⟨_,_,rfl,Y2⟩
   | 2,hx=>cases hx;exact⟨_,_,rfl,Y3.up (by decide)⟩
   |i+3,hx=>simp at hx
  exact S3 ⟨_,rfl,_,rfl,b,m2,l,P0,_,rfl,Y.keep kj,(X2.keep kj).up (by decide),L,Tj,λH' e' T'=>⟨by rw[←VR],kj.trans e'.t,T'⟩⟩
 obtain⟨rfl,_,_⟩:=hp;refine⟨y3,List.replicate _ true,rfl,SqL.of (by rw[Zc,UG]),?_⟩;rw[Az];exact k _
end
structure Dn(K:W.Frag)(x:Str)(st:Stmt)(f:Addr)(fd:FuncData):Prop where
 a:W.nsIn K mainGlobals x=some (some (.ref f))
 F:Fun K x x st f fd
theorem all_mk{l:W.OpenLaw}{w:World}{h:Heap}{mg:UW}{fa:Addr}(X:K.In h)(G:h.Ns mainGlobals mg)(hfa:mg "law"=some (.ref fa)){qp:Program}(TT:Zfd qp K h)
  {f1:Addr}{g1:FuncData} (a1:Dn K "rising" Mm f1 g1)
  {f2:Addr}{g2:FuncData} (a2:Dn K "is_word" Ob f2 g2)
  {f3:Addr}{g3:FuncData} (a3:Dn K "inner_wishes" Ux f3 g3)
  {f4:Addr}{g4:FuncData} (a4:Dn K "heads_in" Nk f4 g4)
  {f5:Addr}{g5:FuncData} (a5:Dn K "wish_from" Qr f5 g5)
  {f6:Addr}{g6:FuncData} (a6:Dn K "truth" C0 f6 g6)
  {f7:Addr}{g7:FuncData} (a7:Dn K "words_in" S8 f7 g7)
  {f8:Addr}{g8:FuncData} (a8:Dn K "without_first" Uc f8 g8)
  {f9:Addr}{g9:FuncData} (a9:Dn K "with_words" S9 f9 g9)
  {qQ:Addr}{dS jQ:TZ}{cM:TN}{dM rS qH cE Zuj qB:Value}
  (wD:W.nsIn K mainGlobals "wish_turned"=some (some (.ref qQ))) (uZ:K.lookup qQ=some ⟨dM,dS,.func (W.fnOf "wish_turned" "wish_turned" (Va Xj) (Xi Xj) (Ze Xj) .none rS qH cE jQ Zuj qB),cM⟩) (jV:W.codeIn K Zuj "wish_turned"=true) (xH:W.keepIn K (.ref qQ)=true)
  {f11:Addr}{g11:FuncData} (wE:Dn K "room_behind" Sd f11 g11)
  {f12:Addr}{g12:FuncData} (wF:Dn K "takes" C1 f12 g12)
  {f13:Addr}{g13:FuncData} (wG:Dn K "look_fit" Nh f13 g13)
  {f14:Addr}{g14:FuncData} (wH:Dn K "pair_behind" Se f14 g14)
  {f15:Addr}{g15:FuncData} (gB:Dn K "walked" Ml f15 g15)
  {f16:Addr}{g16:FuncData} (yH:Dn K "machine_from" Yv f16 g16)
  {f17:Addr}{g17:FuncData} (wI:Dn K "first_like" Vl f17 g17)
  {f18:Addr}{g18:FuncData} (wJ:Dn K "like_rooms" Vk f18 g18)
  {qR:Addr}{dU jR:TZ}{cN:TN}{dN rT qI cF Zui qC:Value}
  (wK:W.nsIn K mainGlobals "least"=some (some (.ref qR))) (vA:K.lookup qR=some ⟨dN,dU,.func (W.fnOf "least" "least" (Va V1) (Xi V1) (Ze V1) .none rT qI cF jR Zui qC),cN⟩) (jW:W.codeIn K Zui "least"=true) (rN:W.keepIn K (.ref qR)=true)
  {qS:Addr}{dW jS:TZ}{cO:TN}{dO rU qJ cG Zuh qE:Value}
  (wL:W.nsIn K mainGlobals "parting_text"=some (some (.ref qS))) (vB:K.lookup qS=some ⟨dO,dW,.func (W.fnOf "parting_text" "parting_text" (Va Yu) (Xi Yu) (Ze Yu) .none rU qJ cG jS Zuh qE),cO⟩) (jX:W.codeIn K Zuh "parting_text"=true) (rO:W.keepIn K (.ref qS)=true)
  {f21:Addr}{g21:FuncData} (wM:Dn K "contrary" Rb f21 g21)
  {qT:Addr}{dX jT:TZ}{cP:TN}{dP rV qK cH Zug qF:Value}
  (wN:W.nsIn K mainGlobals "both"=some (some (.ref qT))) (vC:K.lookup qT=some ⟨dP,dX,.func (W.fnOf "both" "both" (Va Sf) (Xi Sf) (Ze Sf) .none rV qK cH jT Zug qF),cP⟩) (jY:W.codeIn K Zug "both"=true) (rP:W.keepIn K (.ref qT)=true)
  {f23:Addr}{g23:FuncData} (wO:Dn K "either" Hh f23 g23)
  {f24:Addr}{g24:FuncData} (wP:Dn K "show_row" Ra f24 g24)
  {f25:Addr}{g25:FuncData} (wQ:Dn K "show_machine" Vi f25 g25)
  {f26:Addr}{g26:FuncData} (wR:Dn K "is_number" Tq f26 g26)
  {f27:Addr}{g27:FuncData} (wS:Dn K "read_letters" Uw f27 g27)
  {f28:Addr}{g28:FuncData} (wT:Dn K "read_numbers" X8 f28 g28)
  {f29:Addr}{g29:FuncData} (wU:Dn K "read_so_many" Uv f29 g29)
  {f30:Addr}{g30:FuncData} (wV:Dn K "read_machine" Vj f30 g30)
  {qU:Addr}{dY jU:TZ}{cQ:TN}{dQ rW qL cI Zuf qG:Value}
  (wW:W.nsIn K mainGlobals "machine_of"=some (some (.ref qU))) (vD:K.lookup qU=some ⟨dQ,dY,.func (W.fnOf "machine_of" "machine_of" (Va Yi) (Xi Yi) (Ze Yi) .none rW qL cI jU Zuf qG),cQ⟩) (jZ:W.codeIn K Zuf "machine_of"=true) (rQ:W.keepIn K (.ref qU)=true)
  {f32:Addr}{g32:FuncData} (wX:Dn K "parting_wishes" Vv f32 g32)
  {f33:Addr}{g33:FuncData} (wY:Dn K "_law_flow" Nj f33 g33)
  {f34:Addr}{g34:FuncData} (wZ:Dn K "_law_pick" Ni f34 g34)
  {f35:Addr}{g35:FuncData} (zA:Dn K "_law_letters" V2 f35 g35)
  {f36:Addr}{g36:FuncData} (zB:Dn K "_law_all_words" Wx f36 g36)
  {f37:Addr}{g37:FuncData} (zC:Dn K "_law_pairs" Tp f37 g37)
  {f38:Addr}{g38:FuncData} (zD:Dn K "_law_pool" Vb f38 g38)
  {f39:Addr}{g39:FuncData} (gC:Dn K "_law_pool_wish" Ww f39 g39)
  {f40:Addr}{g40:FuncData} (zE:Dn K "_law_written_right" Wl f40 g40)
  {qV:Addr}{dZ Zw9:TZ}{cR:TN}{dR Zwd Zw5 Zvy Zue Zw6:Value}
  (zF:W.nsIn K mainGlobals "law"=some (some (.ref qV))) (rX:K.lookup qV=some ⟨dR,dZ,.func (W.fnOf "law" "law" (Va Qs) (Xi Qs) (Ze Qs) .none Zwd Zw5 Zvy Zw9 Zue Zw6),cR⟩) (qA:W.codeIn K Zue "law"=true) (rR:W.keepIn K (.ref qV)=true)
  (z_all:W.nsIn K mainGlobals "all"=some none)
  (z_dict:W.nsIn K mainGlobals "dict"=some none)
  (z_enumerate:W.nsIn K mainGlobals "enumerate"=some none)
  (z_int:W.nsIn K mainGlobals "int"=some none)
  (z_len:W.nsIn K mainGlobals "len"=some none)
  (z_list:W.nsIn K mainGlobals "list"=some none)
  (z_max:W.nsIn K mainGlobals "max"=some none)
  (z_range:W.nsIn K mainGlobals "range"=some none)
  (z_reversed:W.nsIn K mainGlobals "reversed"=some none)
  (z_set:W.nsIn K mainGlobals "set"=some none)
  (z_sorted:W.nsIn K mainGlobals "sorted"=some none)
  (z_str:W.nsIn K mainGlobals "str"=some none)
  (z_tuple:W.nsIn K mainGlobals "tuple"=some none)
  (z_zip:W.nsIn K mainGlobals "zip"=some none)
  {X7:Value} (q_MOST_FIGURES:W.nsIn K mainGlobals "MOST_FIGURES"=some (some X7)) (r_MOST_FIGURES:RelV (V.int 3) X7)
  {Vg:Value} (q_ROWS_AHEAD:W.nsIn K mainGlobals "ROWS_AHEAD"=some (some Vg)) (r_ROWS_AHEAD:RelV (V.int 3) Vg)
  (q_INNER:W.nsIn K mainGlobals "INNER"=some (some (.ref aI)))
  {oI:Obj} (f_INNER:K.lookup aI=some oI)
  (d_INNER:∃vs,oI.IsDictOf (Z8 l.prog w) vs∧KV Q6 vs)
  (n0:W.noTabs K=true)
  {Aq Xy:Addr}{Zqc:DefRec}{Zlx:Value}{Zlw:TZ}{Zko:TN}{A8:TH} (y_least:Zui=.ref Aq) (v_least:K.lookup Aq=some ⟨Zlx,Zlw,.fields A8,Zko⟩) (u_least:A8[11]?=some (.ref Xy)) (w_least:(recsOf qp).find? (λe=>e.name==Str.ofString "least")=some Zqc)
  {Sj Yh:Addr}{Ed:DefRec}{Hy:Value}{Hx:TZ}{Hc:TN}{Qe:TH} (y_wish_turned:Zuj=.ref Sj) (v_wish_turned:K.lookup Sj=some ⟨Hy,Hx,.fields Qe,Hc⟩) (u_wish_turned:Qe[11]?=some (.ref Yh)) (w_wish_turned:(recsOf qp).find? (λe=>e.name==Str.ofString "wish_turned")=some Ed)
  {Rq Yt:Addr}{Ah:DefRec}{Fy:Value}{Fx:TZ}{Fq:TN}{O1:TH} (y_machine_of:Zuf=.ref Rq) (v_machine_of:K.lookup Rq=some ⟨Fy,Fx,.fields O1,Fq⟩) (u_machine_of:O1[11]?=some (.ref Yt)) (w_machine_of:(recsOf qp).find? (λe=>e.name==Str.ofString "machine_of")=some Ah)
  {Ze8 Tc:Addr}{Zuc:DefRec}{Zpd:Value}{Zpc:TZ}{Zov:TN}{Zfo:TH} (y_both:Zug=.ref Ze8) (v_both:K.lookup Ze8=some ⟨Zpd,Zpc,.fields Zfo,Zov⟩) (u_both:Zfo[11]?=some (.ref Tc)) (w_both:(recsOf qp).find? (λe=>e.name==Str.ofString "both")=some Zuc)
  {U9 Ye:Addr}{Gz:DefRec}{Jq:Value}{Jp:TZ}{Jc:TN}{Rx:TH} (y_parting_text:Zuh=.ref U9) (v_parting_text:K.lookup U9=some ⟨Jq,Jp,.fields Rx,Jc⟩) (u_parting_text:Rx[11]?=some (.ref Ye)) (w_parting_text:(recsOf qp).find? (λe=>e.name==Str.ofString "parting_text")=some Gz)
  (x_least_wish_turned:Xy≠Yh)
  (x_least_machine_of:Xy≠Yt)
  (x_least_both:Xy≠Tc)
  (x_least_parting_text:Xy≠Ye)
  (x_wish_turned_machine_of:Yh≠Yt)
  (x_wish_turned_both:Yh≠Tc)
  (x_wish_turned_parting_text:Yh≠Ye)
  (x_machine_of_both:Yt≠Tc)
  (x_machine_of_parting_text:Yt≠Ye)
  (x_both_parting_text:Tc≠Ye)
  : W.noTabs K=true∧∃(fd:FuncData) (tabs:RB),W.TabsAt tabs h∧(∀(s:Shared) (v:Value),BindsTo s fd ⟨[v],[]⟩ [("_law_script",v)])∧∀base:Heap,K.In base→base.Ns mainGlobals mg→Qd mg base→Ya l.prog w K mg base CX0 8 fa fd RA (Cv K tabs):=by
 have e:=hfa.symm.trans (YB X G zF);cases e;have Sk:=fun_mk (st:=Xj) uZ jV xH
 have Eg:=Sk.binds (ps:=RE) λ_ _ _ _ _ _ us hl=>match us,hl with|[_],_=>rfl
 have O4:=YB X G wD;have Gd:=YB X G yH.a
 have Fb:=yH.F.binds (ps:=SE) λ_ _ _ _ _ _ us hl=>match us,hl with|[_,_,_,_],_=>rfl
 have A5:=fun_mk (st:=V1) vA jW rN
 have Zqj:=A5.binds (ps:=SN) λ_ _ _ _ _ _ us hl=>match us,hl with|[_],_=>rfl
 have Zg4:=YB X G wK;have Td:=fun_mk (st:=Yu) vB jX rO
 have G9:=Td.binds (ps:=TV) λ_ _ _ _ _ _ us hl=>match us,hl with|[_,_],_=>rfl
 have Q3:=YB X G wL;have Zfg:=fun_mk (st:=Sf) vC jY rP
 have Zup:=Zfg.binds (ps:=TV) λ_ _ _ _ _ _ us hl=>match us,hl with|[_,_],_=>rfl
 have Zmf:=YB X G wN;have Ru:=fun_mk (st:=Yi) vD jZ rQ
 have As:=Ru.binds (ps:=RM) λ_ _ _ _ _ _ us hl=>match us,hl with|[_,_],_=>rfl
 have La:=YB X G wW;have Jw:=YB X G gC.a
 have Jz:=gC.F.binds (ps:=UZ) λ_ _ _ _ _ _ us hl=>match us,hl with|[_,_,_,_],_=>rfl
 have Zr6:=fun_mk (st:=Qs) rX qA rR
 have b_law:=Zr6.binds (ps:=RA) λ_ _ _ _ _ _ us hl=>match us,hl with|[_],_=>rfl
 have m_law:=YB X G zF;have Ta:=YB X G q_MOST_FIGURES;have Ul:=YB X G q_ROWS_AHEAD;have Z:Blt mg:=⟨bV X G z_all,bV X G z_dict,bV X G z_enumerate,bV X G z_int,bV X G z_len,bV X G z_list,bV X G z_max,bV X G z_range,bV X G z_reversed,bV X G z_set,bV X G z_sorted,bV X G z_str,bV X G z_tuple,bV X G z_zip⟩;have Zfu:=Qj wK vA y_least v_least u_least;have Zct:=TT _ _ _ _ w_least Zfu;have O2:=Qj wD uZ y_wish_turned v_wish_turned u_wish_turned;have Pk:=TT _ _ _ _ w_wish_turned O2;have Mb:=Qj wW vD y_machine_of v_machine_of u_machine_of;have Na:=TT _ _ _ _ w_machine_of Mb;have Zj4:=Qj wN vC y_both v_both u_both;have Zhu:=TT _ _ _ _ w_both Zj4;have Qk:=Qj wL vB y_parting_text v_parting_text u_parting_text;have Qb:=TT _ _ _ _ w_parting_text Qk;refine⟨n0,W.fnOf "law" "law" (Va Qs) (Xi Qs) (Ze Qs) .none Zwd Zw5 Zvy Zw9 Zue Zw6,[(Aq,Xy),(Sj,Yh),(Rq,Yt),(Ze8,Tc),(U9,Ye)],?_,λs v=>.of_eq rfl,λbase BX BG BM=>?_⟩
 ·exact YA.mpr ⟨Zct,YA.mpr ⟨Pk,YA.mpr ⟨Na,YA.mpr ⟨Zhu,YA.mpr ⟨Qb,λ_ h=>nomatch h⟩⟩⟩⟩⟩
 have Zof:=Lg Zct.1 X BX v_least;have Zp3:=UN X G Zfu Zg4 (X _ _ vA) rfl;have Fl:=Lg Pk.1 X BX v_wish_turned;have F9:=UN X G O2 O4 (X _ _ uZ) rfl;have Ej:=Lg Na.1 X BX v_machine_of;have B5:=UN X G Mb La (X _ _ vD) rfl;have Zqu:=Lg Zhu.1 X BX v_both;have Ztz:=UN X G Zj4 Zmf (X _ _ vC) rfl;have J3:=Lg Qb.1 X BX v_parting_text;have Gm:=UN X G Qk Q3 (X _ _ vB) rfl;have y8:∀(base:Heap) {x:Str}{st:Stmt}{f:Addr}{fd:FuncData}{n:Nat}{ps:List Str}{sp:Sp},Dn K x st f fd→Ya l.prog w K mg base CX0 n f fd ps sp→(∀(kV doc pm:Value) (an:TZ) (cdv ct:Value) (us:UX),us.length=ps.length→bindArgs (W.fnOf x x (Va st) (Xi st) (Ze st) .none kV doc pm an cdv ct) ⟨us,[]⟩=pure (ps.zip us))→Cal l.prog w K mg base x n ps sp:=by intro _ _ _ _ _ _ _ _ D h b;exact⟨_,_,h,YB X G D.a,D.F.kp,D.F.binds b⟩
 have Ot:=YB X G q_INNER;have dI:DKn l.prog w K aI Q6:=let ⟨vs,a,b⟩:=d_INNER;⟨oI,vs,f_INNER,a,b⟩
 have Zy:=y8 base wZ (Zbq wZ.F Z) (λ_ _ _ _ _ _ us hl=>match us,hl with|[_,_],_=>rfl)
 have N8:=y8 base wY (Zbr wY.F Z) (λ_ _ _ _ _ _ us hl=>match us,hl with|[_],_=>rfl)
 have Sn:=y8 base zA (Hv zA.F Z Zy) (λ_ _ _ _ _ _ us hl=>match us,hl with|[_,_],_=>rfl)
 have Tn:=y8 base a3 (Jo a3.F Z Ot dI) (λ_ _ _ _ _ _ us hl=>match us,hl with|[_],_=>rfl)
 have X0:=y8 base a4 (Zbs a4.F Z Tn) (λ_ _ _ _ _ _ us hl=>match us,hl with|[_],_=>rfl)
 have Pq:=y8 base a5 (Bd a5.F Z Ot dI) (λ_ _ _ _ _ _ us hl=>match us,hl with|[_],_=>rfl)
 have Rv:Cal l.prog w K mg base "with_words" 4 _ (Zsp l.prog w K mg base 1):=y8 base a9 (Fs a9.F Z X0 Pq) (λ_ _ _ _ _ _ us hl=>match us,hl with|[_,_],_=>rfl);have V4:Cal l.prog w K mg base "wish_turned" 5 _ (Mf Yh):=⟨_,_,Hs Sk Z F9 Fl BM Rv,O4,Sk.kp,Eg⟩
 have CF:=λbase=>y8 base a8 (Kc a8.F Z) (λ_ _ _ _ _ _ us hl=>match us,hl with|[_,_],_=>rfl)
 have N6:=y8 base a7 (Zbm a7.F Z X0) (λ_ _ _ _ _ _ us hl=>match us,hl with|[_],_=>rfl)
 have CT:=λbase=>y8 base a6 (Zlt a6.F Z) (λ_ _ _ _ _ _ us hl=>match us,hl with|[_,_],_=>rfl)
 have CR:=λbase=>y8 base wE (Ht wE.F Z) (λ_ _ _ _ _ _ us hl=>match us,hl with|[_,_,_],_=>rfl)
 have CB:=λbase=>y8 base wH (Hu wH.F Z (CR base)) (λ_ _ _ _ _ _ us hl=>match us,hl with|[_,_,_,_],_=>rfl)
 have Uq:=y8 base wI (Fv wI.F Z) (λ_ _ _ _ _ _ us hl=>match us,hl with|[_],_=>rfl)
 have Rw:=y8 base wJ (Fu wJ.F Z Uq) (λ_ _ _ _ _ _ us hl=>match us,hl with|[_],_=>rfl)
 have CM:∀base,Cal l.prog w K mg base "machine_from" 4 _ (Zsq l.prog w K mg base 2):=λbase=>
  have Te:Cal l.prog w K mg base "walked" 3 _ (Zso l.prog w K mg base 2):=y8 base gB (Zii gB.F Z) (λ_ _ _ _ _ _ us hl=>match us,hl with|[_,_,_],_=>rfl)
  ⟨_,_,Jn yH.F Z Te,Gd,yH.F.kp,Fb⟩
 have CW:∀base,Cal l.prog w K mg base "walked" 4 _ (Zfy l.prog w K mg base 3):=λbase=>y8 base gB (Zd1 gB.F Z) (λ_ _ _ _ _ _ us hl=>match us,hl with|[_,_,_],_=>rfl)
 have CMT:∀base,Cal l.prog w K mg base "machine_from" 5 _ (Zf7 l.prog w K mg base 3):=λbase=>y8 base yH (Kd yH.F Z (CW base)) (λ_ _ _ _ _ _ us hl=>match us,hl with|[_,_,_,_],_=>rfl);have Pr:Cal l.prog w K mg base "least" 5 _ (J5 Xy):=⟨_,_,Zlv A5 Z Zp3 Zof BM Rw CM CR,Zg4,A5.kp,Zqj⟩;have Vp:Cal l.prog w K mg base "least" 5 _ (Ss Xy):=⟨_,_,Pr.ok.imp Zef,Pr.at_,Pr.kp,Pr.b⟩
 have V0:=y8 base wG (Zbo wG.F Z) (λ_ _ _ _ _ _ us hl=>match us,hl with|[_,_],_=>rfl);have Ks:Cal l.prog w K mg base "both" 6 _ (Ha Tc Xy):=⟨_,_,Zpb Zfg Z Ztz Zqu BM V0 CMT CB Vp,Zmf,Zfg.kp,Zup⟩
 have Wc:Cal l.prog w K mg base "contrary" 6 _ (Qo Xy):=y8 base wM ((Zbt wM.F Z Pr).imp Zey) (λ_ _ _ _ _ _ us hl=>match us,hl with|[_],_=>rfl)
 have Fj:Cal l.prog w K mg base "either" 7 _ (Mg Tc Xy):=y8 base wO (Zik wO.F Z Wc Ks) (λ_ _ _ _ _ _ us hl=>match us,hl with|[_,_],_=>rfl)
 have Ow:=y8 base wF (Zlu wF.F Z (CR base)) (λ_ _ _ _ _ _ us hl=>match us,hl with|[_,_],_=>rfl);have Z4:Cal l.prog w K mg base "parting_text" 5 _ (Oa Ye):=⟨_,_,Jm Td Z Gm J3 BM V0 CW CB,Q3,Td.kp,G9⟩;have Xz:Cal l.prog w K mg base "machine_of" 6 _ (Qn Yt Xy):=⟨_,_,Ft Ru Z B5 Ej BM N6 X0 CMT CF CT Vp,La,Ru.kp,As⟩
 have Fi:=y8 base a1 (Zij a1.F Z) (λ_ _ _ _ _ _ us hl=>match us,hl with|[_],_=>rfl)
 have Kr:=y8 base a2 (Zd2 a2.F Z) (λ_ _ _ _ _ _ us hl=>match us,hl with|[_],_=>rfl)
 have Tf:=y8 base wP (Zbn wP.F Z) (λ_ _ _ _ _ _ us hl=>match us,hl with|[_,_],_=>rfl)
 have Tg:=y8 base wQ (Jh wQ.F Z Tf) (λ_ _ _ _ _ _ us hl=>match us,hl with|[_],_=>rfl)
 have Px:=y8 base wR (Bg wR.F Z Ta r_MOST_FIGURES) (λ_ _ _ _ _ _ us hl=>match us,hl with|[_],_=>rfl)
 have Ti:=y8 base wS (Jl wS.F Z Kr Fi) (λ_ _ _ _ _ _ us hl=>match us,hl with|[_],_=>rfl)
 have Xt:=y8 base wT (Jj wT.F Z Px) (λ_ _ _ _ _ _ us hl=>match us,hl with|[_,_,_],_=>rfl)
 have Vo:=y8 base wU (Ji wU.F Z Xt) (λ_ _ _ _ _ _ us hl=>match us,hl with|[_,_,_,_],_=>rfl)
 have Th:=y8 base wV (Jk wV.F Z Ul r_ROWS_AHEAD Ti Vo Xt) (λ_ _ _ _ _ _ us hl=>match us,hl with|[_],_=>rfl)
 have Pu:=y8 base zC (Bf zC.F Z ) (λ_ _ _ _ _ _ us hl=>match us,hl with|[_,_],_=>rfl)
 have Ue:=y8 base zB (Ke zB.F Z Pu) (λ_ _ _ _ _ _ us hl=>match us,hl with|[_,_],_=>rfl)
 have N7:=y8 base zD (Zbp zD.F Z Zy) (λ_ _ _ _ _ _ us hl=>match us,hl with|[_,_],_=>rfl)
 have Ym:=y8 base gC (S0 gC.F Jz Jw Z Zy 5) (λ_ _ _ _ _ _ us hl=>match us,hl with|[_,_,_,_],_=>rfl)
 have nn:([(Yt,Nb),(Xy,Zx),(Tc,Xg),(Yh,L0),(Ye,X6)].map (·.1)).Nodup:=by
  simp only[oW,bQ,iJ,oX,aH,or_false,not_or,not_false_eq_true,List.nodup_nil,and_true];exact⟨⟨x_least_machine_of.symm,x_machine_of_both,x_wish_turned_machine_of.symm,x_machine_of_parting_text⟩,⟨x_least_both,x_least_wish_turned,x_least_parting_text⟩,⟨x_wish_turned_both.symm,x_both_parting_text⟩,x_wish_turned_parting_text⟩
 have U:A3 [(Yt,Nb),(Xy,Zx),(Tc,Xg),(Yh,L0),(Ye,X6)] Yt Xy Tc Yh Ye:=⟨.head _,.tail _ (.head _),.tail _ (.tail _ (.head _)),.tail _ (.tail _ (.tail _ (.head _))),.tail _ (.tail _ (.tail _ (.tail _ (.head _)))),x_least_machine_of.symm,x_least_both.symm⟩
 have Xu:=y8 base wX (M0 U wX.F Xz Z4) (λ_ _ _ _ _ _ us hl=>match us,hl with|[_,_,_],_=>rfl)
 have Xk:=y8 base zE (Qx U zE.F Tg Th Vp Z4) (λ_ _ _ _ _ _ us hl=>match us,hl with|[_,_],_=>rfl);exact Zs9 nn U Zr6 Z N8 Zy Sn N7 Ym V4 Xz Wc Ks Fj Ow Ue Z4 Xu Xk
theorem walk{l:W.OpenLaw}{q:Program}{loose:List Str}{XP:RD}{YP:RX}{d:DefRec}{K:Params→W.Frag}(hn:l.most=some 63)(mV:d.params.defaults=[])
  (hY:∀(w:World) (h:Heap),YP w h→(K w.params).In h)
  (F:∀(w:World) (mg:UW) (fa:Addr) (h:Heap),(K w.params).In h→h.Ns mainGlobals mg→mg d.name=some (.ref fa)→Zfd q (K w.params) h→
   W.noTabs (K w.params)=true∧∃(fd:FuncData) (tabs:RB),W.TabsAt tabs h∧(∀(s:Shared) (u:Value),BindsTo s fd ⟨[u],[]⟩ [("_law_script",u)])∧∀base:Heap,(K w.params).In base→base.Ns mainGlobals mg→Qd mg base→Ya l.prog w (K w.params) mg base CX0 8 fa fd RA (Cv (K w.params) tabs)) :
  W.WalkO q loose XP YP l.row.toRowW d [] (λf vs=>PySem.call f vs):=
 L2.Zju (n:=63) (k:=8) (x:="_law_script") (CX:=λ_=>CX0) (sp:=λw tabs=>Cv (K w.params) tabs) hn (by decide) mV ⟨rfl,by decide,by decide⟩ hY F (λ_ _ _ a ns hl hT hS=>⟨a,ns,rfl,hS,hl,hT,λ_=>rfl⟩) λ_ _ _ _ _ z=>z
end My
open PySem PySem.W PyProof.Rows
def PySem.W.Fast.tw2158363569155562997:Nat:=0
def PySem.W.Fast.tw1814126776087465398:Nat:=0
def PySem.W.Fast.tw12600764733300436656:Nat:=0
def PySem.W.Fast.tw3638109839624696284:Nat:=0
def PySem.W.Fast.tw9207844828729214316:Nat:=0
def PySem.W.Fast.tw2721765490157939187:Nat:=0
def PySem.W.Fast.tw13866125235531973022:Nat:=0
def PySem.W.Fast.tw16538807665462476181:Nat:=0
def PySem.W.Fast.tw6228738401734302270:Nat:=0
def PySem.W.Fast.tw12641900574326723382:Nat:=0
def PySem.W.Fast.tw9018513829886692159:Nat:=0
def PySem.W.Fast.tw599501387661715952:Nat:=0
def PySem.W.Fast.tw1211350241735891552:Nat:=0
def PySem.W.Fast.tw7340030271818006424:Nat:=0
def PySem.W.Fast.tw7752013799970356283:Nat:=0
def PySem.W.Fast.tw18226078793410112267:Nat:=0
def PySem.W.Fast.tw7895410530559623619:Nat:=0
def PySem.W.Fast.tw16985495241303461253:Nat:=0
def PySem.W.Fast.tw12038375191360195564:Nat:=0
def PySem.W.Fast.tw1826771237258173195:Nat:=0
def PySem.W.Fast.tw807694855879238073:Nat:=0
def PySem.W.Fast.tw1502856991904215344:Nat:=0
def PySem.W.Fast.tw3609227756292817479:Nat:=0
def PySem.W.Fast.tw17549618567047425391:Nat:=0
def PySem.W.Fast.tw17044885206597091032:Nat:=0
def PySem.W.Fast.tw12922267705012316904:Nat:=0
def PySem.W.Fast.tw8244492063359098987:Nat:=0
def PySem.W.Fast.tw18096686313005537972:Nat:=0
def PySem.W.Fast.tw10142229833627305825:Nat:=0
def PySem.W.Fast.tw8606964116561059065:Nat:=0
def PySem.W.Fast.tw6547017333238493868:Nat:=0
def PySem.W.Fast.tw15899574426349109514:Nat:=0
def PySem.W.Fast.tw16115790851256011100:Nat:=0
def PySem.W.Fast.tw9441215025382745540:Nat:=0
def PySem.W.Fast.tw2612877351457548829:Nat:=0
def PySem.W.Fast.tw3124094221870357518:Nat:=0
def PySem.W.Fast.tw5206510535194594295:Nat:=0
def PySem.W.Fast.tw9941461991937892921:Nat:=0
def PySem.W.Fast.tw18248345577321240149:Nat:=0
def PySem.W.Fast.tw5225174342733596470:Nat:=0
def PySem.W.Fast.tw1010016375997087680:Nat:=0
def PySem.W.Fast.tw6421301243674834622:Nat:=0
def PySem.W.Fast.tw6328097519709155855:Nat:=0
def PySem.W.Fast.tw8206255237191623023:Nat:=0
def PySem.W.Fast.tw17889842365405096847:Nat:=0
def PySem.W.Fast.tw2254720199005431011:Nat:=0
def PySem.W.Fast.tw12936762767445556051:Nat:=0
set_option maxRecDepth 100000 in
set_option maxHeartbeats 0 in
theorem PySem.Challenge.cw_spreadwords_k74_whole_turned_about_and_w_holds : PySem.Challenge.rw_spreadwords_k74_whole_turned_about_and_w.Holds := by
 w_on; o_law; k_head; (case hw=>w_witness2)
 k_fill
 refine My.walk (l:=PySem.Challenge.rw_spreadwords_k74_whole_turned_about_and_w) rfl rfl (fun w h Y=>PySem.W.km_in_of Y) ?F
 case F=>
  intro w mg fa h KX G sY TT
  refine' My.all_mk KX G sY TT ?a1 ?a2 ?a3 ?a4 ?a5 ?a6 ?a7 ?a8 ?a9 ?wD ?uZ ?jV ?xH ?wE ?wF ?wG ?wH ?gB ?yH ?wI ?wJ ?wK ?vA ?jW ?rN ?wL ?vB ?jX ?rO ?wM ?wN ?vC ?jY ?rP ?wO ?wP ?wQ ?wR ?wS ?wT ?wU ?wV ?wW ?vD ?jZ ?rQ ?wX ?wY ?wZ ?zA ?zB ?zC ?zD ?gC ?zE ?zF ?rX ?qA ?rR ?z_all ?z_dict ?z_enumerate ?z_int ?z_len ?z_list ?z_max ?z_range ?z_reversed ?z_set ?z_sorted ?z_str ?z_tuple ?z_zip ?q_MOST_FIGURES ?r_MOST_FIGURES ?q_ROWS_AHEAD ?r_ROWS_AHEAD ?q_INNER ?f_INNER ?d_INNER ?n0 ?y_least ?v_least ?u_least ?w_least ?y_wish_turned ?v_wish_turned ?u_wish_turned ?w_wish_turned ?y_machine_of ?v_machine_of ?u_machine_of ?w_machine_of ?y_both ?v_both ?u_both ?w_both ?y_parting_text ?v_parting_text ?u_parting_text ?w_parting_text ?x_least_wish_turned ?x_least_machine_of ?x_least_both ?x_least_parting_text ?x_wish_turned_machine_of ?x_wish_turned_both ?x_wish_turned_parting_text ?x_machine_of_both ?x_machine_of_parting_text ?x_both_parting_text
  (case a1 | a2 | a3 | a4 | a5 | a6 | a7 | a8 | a9 | wE | wF | wG | wH | gB | yH | wI | wJ | wM | wO | wP | wQ | wR | wS | wT | wU | wV | wX | wY | wZ | zA | zB | zC | zD | gC | zE=>refine' My.Dn.mk ?x (L2.fun_mk ?l ?c ?k); (case x=>k_is); (case l=>k_is); (case c=>k_is); (case k=>k_is))
  (case wD | uZ | jV | xH | wK | vA | jW | rN | wL | vB | jX | rO | wN | vC | jY | rP | wW | vD | jZ | rQ | zF | rX | qA | rR | z_all | z_dict | z_enumerate | z_int | z_len | z_list | z_max | z_range | z_reversed | z_set | z_sorted | z_str | z_tuple | z_zip | q_MOST_FIGURES | q_ROWS_AHEAD | q_INNER=>k_is)
  (case r_MOST_FIGURES=>exact ⟨_,rfl⟩)
  (case r_ROWS_AHEAD=>exact ⟨_,rfl⟩)
  (case f_INNER=>with_unfolding_all rfl)
  (case d_INNER=>exact My.dict_const _ _ _ [("always",_,0,_),("never",_,0,_),("has",_,0,_),("not",_,1,_),("and",_,2,_),("or",_,2,_)] (by decide +kernel))
  (case n0=>kernel_rfl)
  (case y_least=>exact rfl)
  (case v_least=>k_is)
  (case u_least=>exact rfl)
  (case w_least=>exact rfl)
  (case y_wish_turned=>exact rfl)
  (case v_wish_turned=>k_is)
  (case u_wish_turned=>exact rfl)
  (case w_wish_turned=>exact rfl)
  (case y_machine_of=>exact rfl)
  (case v_machine_of=>k_is)
  (case u_machine_of=>exact rfl)
  (case w_machine_of=>exact rfl)
  (case y_both=>exact rfl)
  (case v_both=>k_is)
  (case u_both=>exact rfl)
  (case w_both=>exact rfl)
  (case y_parting_text=>exact rfl)
  (case v_parting_text=>k_is)
  (case u_parting_text=>exact rfl)
  (case w_parting_text=>exact rfl)
  (case x_least_wish_turned=>decide)
  (case x_least_machine_of=>decide)
  (case x_least_both=>decide)
  (case x_least_parting_text=>decide)
  (case x_wish_turned_machine_of=>decide)
  (case x_wish_turned_both=>decide)
  (case x_wish_turned_parting_text=>decide)
  (case x_machine_of_both=>decide)
  (case x_machine_of_parting_text=>decide)
  (case x_both_parting_text=>decide)
