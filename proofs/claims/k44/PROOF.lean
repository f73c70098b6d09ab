import PyProof.Rows.All
import Wide.All
import OpenK.AllK
import Wide.FinOn
import PyProof.ZipIter
import KE.KTryMore
import PyProof.NsDelKeeps
import PyProof.ListRange
import PyProof.Draws
import PyProof.EnumMake
import KE.KUnpack
import KE.KLam
import KE.KRevIter
import KE.KDictOf
import PyProof.AttrMissSeq
import KE.KDictList
import KE.LcSums
import KE.KSortTup
import KE.KIntText
import PyProof.StrLawsTight
import PyProof.StrLawsChain
import PyProof.Rows.StrItems
import PyProof.NeKinds
import PyProof.Rows.SetFrom
import PyProof.DictFindH
import Lean
import PyProof.EqAt
import PyProof.EqKinds
import PyProof.TupleCall
import PyProof.ListStr
import KE.KRevSl
import PyProof.Rows.Range3
import PySem.Challenge.RW_spreadwords_k44_whole_known_machines
set_option Elab.async false
set_option linter.all false
set_option maxRecDepth 100000
set_option maxHeartbeats 4000000
set_option compiler.extract_closed false
section
open PySem PySem.Spec PyProof.Rows
def rB:=@wpAny_bind
def rC:=@List.length_map
def rD:=@List.getElem?_eq_getElem
def rE:=@Heap.get?_push_of_some
def rF:=@wpAny_pure
def rG:=@Nat.le_refl
def rH:=@List.getElem?_eq_some_iff
def rJ:=@List.getElem?_map
def rK:=@List.getD_eq_getElem?_getD
def rL:=@List.mem_singleton
def rM:=@List.mem_cons_self
def rN:=@List.mem_of_getElem?
def rO:=@Heap.lt_size
def rP:=@List.mem_cons_of_mem
def rQ:=@List.size_toArray
def rR:=@Heap.get?_push_size
def rS:=@List.length_append
def rT:=@List.mem_cons
def rU:=@Bool.false_ne_true
def rV:=@Nat.ne_of_lt
def rW:=@List.map_cons
def rX:=@List.length_range
def rY:=@List.mem_map
def rZ:=@Nat.lt_of_lt_of_le
def pL:=@List.mem_iff_getElem
def pM:=@List.getElem?_append_left
def pN:=@List.Nodup.idxOf_getElem
def pO:=@List.map_map
def pP:=@PassesOwn.never
def pQ:=@Nat.le_trans
def pR:=@List.length_take
def pS:=@List.map_append
def pT:=@List.getElem?_append_right
def pU:=@List.mem_range
def pV:=@List.mem_append_right
def pW:=@Array.getElem?_toList
def pX:=@wpAny_newObj_type
def pY:=@List.length_cons
def pZ:=@List.take_length
def oA:=@wpAny_loadPart'
def oB:=@List.mem_append
def oC:=@Nat.zero_le
def oD:=@Bool.and_eq_true
def oE:=@Nat.lt_or_ge
def oF:=@PySem.F.plainAttrs_list
def oG:=@List.getElem_mem
def oH:=@Array.length_toList
def oJ:=@wpAny_holding
def oK:=@List.take_add_one
def oO:=@List.getElem?_eq_none
def oQ:=@F.slot_dict_keyiterator_next
def oR:=@PySem.mem_of_lookup
def oS:=@PyProof.Rows.callWith_type1
def oT:=@Nat.lt_irrefl
def oU:=@wpAny_typeNameOfWhole_keyiter
def oV:=@List.length_replicate
def oW:=@List.length_singleton
def oX:=@Nat.le_of_lt
def oY:=@List.length_drop
def oZ:=@List.lookup_cons
def lA:=@Around.under_plainId
def lB:=@wpAny_Call_Name_kw
def lC:=@Nat.le_succ
def lD:=@wpAny_call_entry
def lE:=@wpAny_callSpecial?_slot
def lF:=@List.eq_nil_of_length_eq_zero
def lG:=@List.getElem?_eq_none_iff
def lH:=@List.map_id
def lI:=@List.nodup_cons
def lJ:=@wpAny_typeNameOf_keyiter
def lK:=@PySem.F.slot_list_append
def lL:=@PySem.F.type_list_append
def lM:=@Heap.SameBut.update
def lN:=@PyProof.Rows.slot_tuple_getitem
def lO:=@codeAny_builtin
def lP:=@List.replicate_succ
def lQ:=@Heap.get?_update_self
def lR:=@W.mg_none_of
def lS:=@Bool.eq_iff_iff
def lT:=@Nat.min_le_left
def lU:=@Calls.spliced_cons
def lV:=@List.mem_append_left
def lW:=@Ne.symm
def lX:=@Int.toNat_natCast
def lY:=@List.getElem?_range
def lZ:=@List.append_nil
def iA:=@List.foldl_cons
def iB:=@Nat.lt_of_le_of_lt
def iC:=@Bool.false_eq_true
def iD:=@Nat.lt_succ_self
def iE:=@List.all_eq_true
def iF:=@PySem.F.called_set
def iG:=@Heap.size_push
def iH:=@List.append_assoc
def iI:=@wpAny_pyIter_enum
def iJ:=@List.mem_filter
def iK:=@List.idxOf_lt_length_of_mem
def iL:=@List.getElem_of_mem
def iM:=@List.take_of_length_le
def iN:=@List.any_eq_true
def iO:=@wpAny_fieldsOf
def iP:=@wpAny_isOneOf_keyiter
def iQ:=@List.getElem?_set_ne
def iR:=@wpAny_mono
def iS:=@wpAny_typeOf
def iT:=@Nat.not_lt_zero
def iU:=@F.args_dict_keyiterator_next_1
def iV:=@wpAny_truthy_bool
def iW:=@List.flatten_cons
def iX:=@List.foldl_append
def iY:=@Paired.length
def iZ:=@F.entry_dict_keyiterator_next
def fA:=@PySem.F.slot_dict_setdefault
def fB:=@List.not_mem_nil
def fE:=@Nat.ne_of_gt
def fF:=@List.map_nil
def fG:=@Obj.data_mapFields
def fH:=@Nat.eq_zero_or_pos
def fI:=@PyProof.Rows.F.plain_set_update_loop
def fJ:=@wpAny_passesOwn
def fK:=@List.length_nil
def fL:=@List.range_succ
def fM:=@F.slot_tuple_iterator_next
def fN:=@wpAny_letOwnedTupleGo_enum
def fO:=@Calls.spliced_nil
def fP:=@wpAny_dictEntries
def fQ:=@Array.getElem?_eq_getElem
def fR:=@List.mem_of_mem_take
def fS:=@List.pairwise_iff_getElem
def fT:=@W.kia_one
def fU:=@W.kia_tup
def fV:=@codeAny_mono
def fW:=@List.filterMap_cons
def fX:=@Array.toList_append
def fY:=@List.getElem?_replicate
def fZ:=@wpAny_getItem_str_slice
def dA:=@wpAny_rule
def dB:=@List.of_mem_zip
def dC:=@List.find?_cons
def dD:=@wpAny_ite_split
def dE:=@List.getElem?_set_self
def dF:=@Heap.get?_update_other
def dG:=@Calls.callWith_builtin
def dH:=@wpAny_pyIter_list
def dI:=@wpAny_setState_of
def dJ:=@Nat.lt_succ_of_lt
def dM:=@Nat.lt_trans
def dN:=@List.Perm.refl
def dO:=@wpAny_notOrdered_dict
def dP:=@wpAny_setField
def dQ:=@List.length_filter_le
def dR:=@Calls.evalArgs_plain
def dS:=@Array.toArray_toList
def dU:=@Nat.div_lt_of_lt_mul
def dW:=@List.getElem_map
def dX:=@wpAny_standAt
def dY:=@wpAny_field
def dZ:=@List.mem_map_of_mem
def cA:=@Option.map_some
def cB:=@wpAny_dictEpoch
def cC:=@List.prefix_rfl
def cD:=@wpAny_pyIter_tuple
def cE:=@Option.isSome_iff_exists
def cF:=@List.getElem?_take_of_lt
def cG:=@Nat.le_of_eq
def cH:=@Nat.add_zero
def cI:=@F.slot_list_getattribute
def cJ:=@PyProof.Rows.F.entry_set_update_loop
def cK:=@PySem.F.plainAttrs_dict
def cL:=@wpAny_pyNext_enum_itemD
def cM:=@List.eraseIdx_cons_succ
def cN:=@List.ext_getElem?
def cO:=@List.drop_eq_nil_of_le
def cP:=@wpAny_pyNext_enum_endD
def cQ:=@Array.getElem?_eq_none
def cR:=@PySem.F.plainAttrs_str
def cS:=@List.all_cons
def cT:=@List.any_cons
def cU:=@Nat.succ_ne_self
def cV:=@F.slot_tuple_mul
def cW:=@PySem.F.slot_dict_get
def cX:=@List.Perm.append_left
def cY:=@Obj.isFreed_of_fields
def cZ:=@wpAny_execs_nil
def bA:=@F.slot_int_rmul
def bB:=@wpAny_newFunctionEnv
def bC:=@Nat.not_lt
def bD:=@F.args_object_init_2
def bE:=@PySem.F.args_dict_setdefault_3
def bF:=@Int.zero_add
def bG:=@Nat.mul_le_mul_right
def bH:=@List.forall_mem_cons
def bI:=@List.length_zipWith
def bJ:=@List.map_congr_left
def bK:=@W.mg_of
def bL:=@wpAny_seqItems
def bM:=@wpAny_of_eq
def bN:=@IsTup.new
def bO:=@List.map_replicate
def bP:=@List.getElem_range
def bQ:=@wpAny_handled
def bR:=@Option.isSome_map
def bS:=@wpAny_Call_method
def bT:=@wpAny_pyIter_dict
def bU:=@Obj.cls_mapFields
def bV:=@List.nodup_append
def bW:=@wpAny_pyIter_slot
def bX:=@List.flatMap_cons
def bY:=@Nat.mod_lt
def bZ:=@Nat.add_comm
def aA:=@Nat.mul_comm
abbrev aB:=List (List Nat)
abbrev aC:=Value→Shared→Prop
abbrev aD:=List (Addr × Obj)
abbrev aE:=List Nat
abbrev aF:=Addr × Obj
abbrev aG:=Str→Option Value
abbrev aH:=List (Addr × List (Pos × Str))
abbrev aI:List Str:=["_law_flow_here","_law_machine","_law_left","_law_order","_law_steps","_law_room","_law_row_here"]
abbrev aJ:=List Value
abbrev aK:=Pos × Str
abbrev aL:List Str:=["_law_letters_here","_law_here","_law_leads"]
abbrev aM:List Str:=["letters","begin","step","is_end","numbers","number","place","ends","steps"]
abbrev aN:List Str:=["_law_flow_here","_law_letters_here","_law_way","_law_x","_law_y","_law_many","_law_word","_law_one","_law_steps","_law_letters_met"]
abbrev aO:=Array Value
abbrev aP:=Array (Option Value)
abbrev aQ:=Nat→Nat→Nat
abbrev aR:List Str:=["_law_found","_law_due"]
abbrev aS:List Str:=["_law_flow_here","_law_many"]
abbrev aT:=Nat × Nat × Nat
abbrev aU:List Str:=["machine","room","one","other","word"]
abbrev aV:=List Expr
abbrev aW:List Str:=["machine","steps","likes","count","rows","room","row"]
abbrev aX:List Str:=["machine"]
abbrev aY:List Str:=["machine","room","text"]
abbrev aZ:=Nat × Nat × Nat
abbrev ZA:=Option Addr
abbrev ZC:List Str:=["machine","room"]
abbrev ZD:=Nat→Nat
abbrev ZE:List Str:=["machine","ranks","meets","met"]
abbrev ZF:=Nat→Prop
abbrev ZG:=Option Int
abbrev ZH:=Str × Addr
abbrev ZI:List Str:=["_law_letters_here","_law_some","_law_many","_law_steps","_law_at"]
abbrev ZJ:=Nat→List Nat
abbrev ZK:=Option Value→Shared→Prop
abbrev ZL:List Str:=["letters","text"]
abbrev ZM:List Str:=["letters","begin","step"]
abbrev ZN:=List (Str × NameKind)
abbrev ZO:List Str:=["machine","room","one","other","word","here","there","stay"]
abbrev ZP:List Str:=["one","other","pair","letter"]
abbrev ZQ:=List Addr
abbrev ZR:=Nat→Nat→Bool
abbrev ZS:=Unit→Shared→Prop
abbrev ZT:=Array (Int × Value)
abbrev ZU:=List (Nat × Nat)
abbrev ZV:List Str:=["_law_script"]
abbrev ZW:=List (Addr × Addr)
abbrev ZX:List Str:=["machine","letters","told","room","place","letter"]
abbrev ZY:List Str:=["machine","ranks","level","length","ahead","room"]
abbrev ZZ:=(Str→Option Value)→Heap→Prop
abbrev YA:=Value→Value→Sem Value
abbrev YB:=List Nat→Prop
abbrev YC:List Str:=["_law_letters_here","_law_text","_law_lies"]
abbrev YD:List Str:=["_law_letters_here","_law_some","_law_many"]
abbrev YE:List Str:=["_law_flow_here","_law_many","_law_left"]
abbrev YF:List Str:=["_law_flow_here","_law_letters_here"]
abbrev YG:List Str:=["letters","begin","step","is_end"]
abbrev YH:List Str:=["machine","fork","words","pair"]
abbrev YI:List Str:=["_law_flow_here","_law_machine"]
abbrev YJ:=Array Nat
abbrev YK:List Str:=["machine","room","text","back"]
abbrev YL:List Str:=["machine","ranks","room","row"]
abbrev YM:=Option Value
abbrev YN:=Str→Option NameKind
abbrev YO:List Str:=["machine","paper"]
abbrev YQ:=World→Heap→Prop
abbrev YR:List Str:=["machine","ranks","meets"]
abbrev YS:List Str:=["machine","fork","words"]
end
set_option hygiene false

namespace L2
open PySem PySem.Spec PyProof.Rows
variable {A:Around}{CX:CXT}{D:Ends}{E Q:aC}{H H':Hp}{K:W.Frag}{M:Model}{N ps:List Str}{P:Program}{X:Cx}{b f it:Addr}{base h:Heap}{body:List Stmt}{ch fp:ZQ}{ct doc oc pm u:Value}{e tg:Expr}{fd:FuncData}{g:TG}{i j n t':Nat}{its us:aJ}{mg:aG}{name qual x:Str}{o:Obj}{od:ZA}{op:CmpOp}{p pos:Pos}{params:Arguments}{pins:aD}{r:R2}{s:Shared}{scope:Scope}{sp:Sp}{tb:TS}{te tl:TE}{w:World}{xs:List V}{y:V}{σ:St}
abbrev Key:=Sum Int Str
def L8:Key→Value→Bool
 |.inl k,v=>Value.isInt k v
 |.inr x,v=>Value.isStrOf x v
def keyH(w:World):Key→Int
 |.inl k=>hashInt k
 |.inr x=>hashStr w x
theorem Yy:∀{k:Key}{v:Value},L8 k v=true→(∃i t,k=Sum.inl i∧v=Value.int i t)∨(∃x t,k=Sum.inr x∧v=Value.str x t)
 |.inl i,v,h=>by
  obtain⟨t,e⟩:=Value.isInt_shape (k:=i) (v:=v) h;exact .inl ⟨i,t,rfl,e⟩
 |.inr x,v,h=>by
  obtain⟨t,e⟩:=Value.isStrOf_shape (x:=x) (v:=v) h;exact .inr ⟨x,t,rfl,e⟩
theorem Zbl(i:Int)(t:Tok):L8 (.inl i) (.int i t)=true:=by simp[L8,Value.isInt]
theorem Zbk(x:Str)(t:Tok):L8 (.inr x) (.str x t)=true:=by simp[L8,Value.isStrOf]
theorem Zls(a b:Int):decide ((Sum.inl a:Key)=Sum.inl b)=(a==b):=by
 by_cases e:a=b
 ·subst e;simp
 ·have h:¬ (Sum.inl a:Key)=Sum.inl b:=λq=>e (Sum.inl.inj q);rw[decide_eq_false h];exact(beq_eq_false_iff_ne.mpr e).symm
theorem Zlp(a b:Str):decide ((Sum.inr a:Key)=Sum.inr b)=decide (a=b):=by
 by_cases e:a=b
 ·subst e;simp
 ·have h:¬ (Sum.inr a:Key)=Sum.inr b:=λq=>e (Sum.inr.inj q);rw[decide_eq_false h,decide_eq_false e]
theorem Zlr(a:Int)(b:Str):decide ((Sum.inl a:Key)=Sum.inr b)=false:=decide_eq_false (λq=>nomatch q)
theorem Zlq(a:Str)(b:Int):decide ((Sum.inr a:Key)=Sum.inl b)=false:=decide_eq_false (λq=>nomatch q)
def Z7(prog:Program)(w:World):PySem.KeyKind prog w Key where
 is:=L8
 hash:=keyH w
 inj:=λv a b ha hb=>by
  rcases Yy ha with ⟨i,t,rfl,rfl⟩|⟨x,t,rfl,rfl⟩
  ·rcases Yy hb with ⟨j,u,rfl,e⟩|⟨y,u,rfl,e⟩
   ·injection e with e1 _;rw[e1]
   ·exact nomatch e
  ·rcases Yy hb with ⟨j,u,rfl,e⟩|⟨y,u,rfl,e⟩
   ·exact nomatch e
   ·injection e with e1 _;rw[e1]
 byValue:=λk v h=>by
  rcases Yy h with ⟨i,t,rfl,rfl⟩|⟨x,t,rfl,rfl⟩<;>rfl
 pyHash:=λhv h=>by
  rcases Yy hv with ⟨i,t,rfl,rfl⟩|⟨x,t,rfl,rfl⟩
  ·exact wpAny_pyHash_int h
  ·exact wpAny_pyHash_str h
 eqBool:=λhu hv h=>by
  rcases Yy hu with ⟨i,t,rfl,rfl⟩|⟨x,t,rfl,rfl⟩
  ·rcases Yy hv with ⟨j,u,rfl,rfl⟩|⟨y,u,rfl,rfl⟩
   ·rw[Zls]at h;exact wpAny_eqBool_int h
   ·rw[Zlr]at h;exact SeqAt.EqAt.int_str i t y u _ _ _ _ h
  ·rcases Yy hv with ⟨j,u,rfl,rfl⟩|⟨y,u,rfl,rfl⟩
   ·rw[Zlq]at h;exact SeqAt.EqAt.str_int x t j u _ _ _ _ h
   ·rw[Zlp]at h;exact wpAny_eqBool_str h
 «strs»:=λk x t v h=>by
  rcases Yy h with ⟨i,u,rfl,e⟩|⟨y,u,rfl,e⟩
  ·exact nomatch e
  ·injection e with e1 _
   subst e1;cases v<;>rfl
theorem Es(prog:Program)(w:World)(i:Int)(t:Tok):(Z7 prog w).is (.inl i) (.int i t)=true:=Zbl i t
theorem Er(prog:Program)(w:World)(x:Str)(t:Tok):(Z7 prog w).is (.inr x) (.str x t)=true:=Zbk x t
inductive V where
 |non|bl (b:Bool)|int (i:Int)|str (x:Str)|byt (b:Array UInt8)|flt (b:UInt64)|ref (a:Addr)|ty (n:String)
 deriving DecidableEq
def RelV:V→Value→Prop
 |.non,u=>u=Value.none
 |.bl b,u=>u=Value.bool b
 |.int i,u=>∃t,u=Value.int i t
 |.str x,u=>∃t,u=Value.str x t
 |.byt b,u=>∃t,u=Value.bytes b t
 |.flt b,u=>∃t,u=Value.float b t
 |.ref a,u=>u=Value.ref a
 |.ty n,u=>u=Value.type n
abbrev Vals:List V→List Value→Prop:=Paired RelV
theorem Vals.length{xs:List V}{us:aJ}(r:Vals xs us):xs.length=us.length:=iY r
theorem Vals.get:∀{xs:List V}{us:aJ}{i:Nat}{x:V},Vals xs us→xs[i]?=some x→∃u,us[i]?=some u∧RelV x u
 |_,_,_,_,.nil,e=>by simp at e
 |_,_,0,_,.cons r _,e=>by simp at e;subst e;exact⟨_,rfl,r⟩
 |_,_,i+1,x,.cons _ t,e=>by
  obtain⟨u,h1,h2⟩:=Vals.get (i:=i) (x:=x) t (by simpa using e);exact⟨u,by simpa using h1,h2⟩
theorem Vals.set{x:V}{u:Value}(r:RelV x u):∀{xs:List V}{us:aJ} (i:Nat),Vals xs us→Vals (xs.set i x) (us.set i u)
 |_,_,_,.nil=>.nil
 |_,_,0,.cons _ t=>.cons r t
 |_,_,i+1,.cons q t=>.cons q (Vals.set r i t)
theorem Vals.append:∀{xs ys:List V}{us ws:aJ},Vals xs us→Vals ys ws→Vals (xs++ys) (us++ws)
 |_,_,_,_,.nil,s=>s
 |_,_,_,_,.cons r t,s=>.cons r (Vals.append t s)
theorem Vals.take:∀{xs:List V}{us:aJ} (n:Nat),Vals xs us→Vals (xs.take n) (us.take n)
 |_,_,0,_=>.nil
 |_,_,_+1,.nil=>.nil
 |_,_,n+1,.cons r t=>.cons r (Vals.take n t)
theorem Vals.drop:∀{xs:List V}{us:aJ} (n:Nat),Vals xs us→Vals (xs.drop n) (us.drop n)
 |_,_,0,r=>r
 |_,_,_+1,.nil=>.nil
 |_,_,n+1,.cons _ t=>Vals.drop n t
theorem Vals.none_of:∀{xs:List V}{us:aJ}{i:Nat},Vals xs us→xs[i]?=none→us[i]?=none:=λ{xs us i} r e=>by
 have h1:=r.length;have h2:xs.length≤i:=lG.mp e;exact lG.mpr (by lia)
def Pj:Option V→Option Value→Prop
 |some v,some u=>RelV v u
 |none,none=>True
 |_,_=>False
def KV{κ:Type}:List (κ×V)→List (κ×Value)→Prop:=Paired λ(p:κ×V) (q:κ×Value)=>p.1=q.1∧RelV p.2 q.2
def kV:Key→V
 |.inl i=>.int i
 |.inr x=>.str x
inductive HO where
  |lst (xs:List V)
  |tup (xs:List V)
  |dK (kvs:List (Key×V))|dT (kvs:List (List Key×V))
  |set (S:Int→Bool) (n:Nat)
  |ins (C dx:Addr) (fs:List (Str×V))
  |own (x:Addr)
  |xd (fs:List (Str×V))
  |met (f x:Addr)
  |rng (lo hi:Int)
  |frz (o:Obj) (u:HO)
  |tbl (ps:aO)
  |ext (φ:Heap→Prop)
abbrev Hp:=Addr→Option HO
def upd(H:Hp)(a:Addr)(o:HO):Hp:=λb=>if b=a then some o else H b
theorem Zc{a:Addr}{o:HO}:upd H a o a=some o:=by unfold upd;rw[if_pos rfl]
theorem Zk{a:Addr}{o:HO}(h:b≠a):upd H a o b=H b:=by unfold upd;rw[if_neg h]
theorem Po{a:Addr}{o u:HO}:upd (upd H a o) a u=upd H a u:=by
 funext b;unfold upd;split<;>rfl
theorem Xr{a:Addr}{o u:HO}(h:H a=some o)(h':H b=some u)(d:o≠u):a≠b:=by
 intro e;subst e;rw[h]at h';exact d (Option.some.inj h')
theorem Zi{a:Addr}{o:HO}(h:H a=some o)(h':H b=none):a≠b:=by
 intro e;subst e;rw[h]at h';cases h'
section
variable (P:Program) (w:World)
def Z8(H:Hp)(h:Heap)(a:Addr):HO→Prop
 |.lst xs=>xs.length≤sizeLine∧∃(its:aJ) (n:Nat),Vals xs its∧h.get? a=some { cls:=.type "list",data:=.seq its.toArray n }
 |.tup xs=>xs.length≤sizeLine∧∃its:List Value,Vals xs its∧IsTup h a its.toArray
 |.dK kvs=>kvs.length≤sizeLine∧(a==sysModules)=false∧∃vs,KV kvs vs∧h.DictOf (Z7 P w) a vs
 |.dT kvs=>kvs.length≤sizeLine∧(a==sysModules)=false∧∃xs:List (List Key×Addr×Value),
   Paired (λ(p:List Key×V) (q:List Key×Addr×Value)=>p.1=q.1∧H q.2.1=some (.tup (p.1.map kV))∧RelV p.2 q.2.2) kvs xs∧
   ∃o es ep,h.get? a=some o∧o.ExactDict∧o.data=.dict es ep∧es.toList=xs.map (entryOfKey (tupleKind (Z7 P w)))∧(xs.map (·.1)).Nodup
 |.set S n=>h.SetOf (intKind P w) a S n
 |.ins C dx fs=>H dx=some (.own a)∧fs.length≤1000∧dx≠a∧h.get? a=some (W.instObj C dx)∧
   ∃mA,h.Ns1 dx mA∧(∀f,Pj (fs.lookup f) (mA f))∧PySem.Within mA (fs.map (·.1))
 |.own _=>∃o,h.get? a=some o
 |.xd fs=>∃mA,h.Ns1 a mA∧∀f,Pj (fs.lookup f) (mA f)
 |.rng lo hi=>∃t u v,h.get? a=some { cls:=.type "range",data:=.fields #[.int lo t,.int hi u,.int 1 v] }
 |.frz o u=>h.get? a=some o∧Z8 H h a u
 |.tbl ps=>h.get? a=some { cls:=.none,data:=.fields ps }
 |.met f x=>h.get? a=some (W.methodObj (.ref f) (.ref x))
 |.ext φ=>φ h∧(∃o,h.get? a=some o)∧∀h1 h2:Heap,φ h1→(∀o,h1.get? a=some o→h2.get? a=some o)→φ h2
def HOk(H:Hp)(h:Heap):Prop:=∀a o,H a=some o→Z8 P w H h a o
end
section
variable {P:Program}{w:World}{H H':Hp}{h h':Heap}{a:Addr}{o:HO}
theorem Z8.lt(x:Z8 P w H h a o):a<h.objs.size:=by
 cases o with
 |lst xs=>obtain⟨_,_,_,_,e⟩:=x;exact rO e
 |tup xs=>obtain⟨_,_,_,p⟩:=x;exact p.lt
 |dK kvs=>obtain⟨_,_,_,_,o,_,_,e,_⟩:=x;exact rO e
 |dT kvs=>obtain⟨_,_,_,_,o,_,_,e,_⟩:=x;exact rO e
 |set S n=>obtain⟨o,_,_,_,e,_⟩:=x;exact rO e
 |ins C dx fs=>obtain⟨_,_,_,e,_⟩:=x;exact rO e
 |own y=>obtain⟨_,e⟩:=x;exact rO e
 |xd fs=>obtain⟨_,⟨_,_,_,e,_⟩,_⟩:=x;exact rO e
 |rng lo hi=>obtain⟨_,_,_,e⟩:=x;exact rO e
 |frz ob u=>obtain⟨e,_⟩:=x;exact rO e
 |tbl ps=>exact rO (show h.get? a=some _ from x)
 |met f y=>exact rO (show h.get? a=some _ from x)
 |ext φ=>obtain⟨_,⟨_,e⟩,_⟩:=x;exact rO e
theorem Paired.Zli{α β:Type}{F G:α→β→Prop}:∀{gK:List α}{gM:List β},Paired F gK gM→(∀a b,F a b→G a b)→Paired G gK gM
 |_,_,.nil,_=>.nil
 |_,_,.cons r t,f=>.cons (f _ _ r) (Paired.Zli t f)
theorem Z8.Pr(x:Z8 P w H h a o)(k:∀b u,(b=a∨H b=some (.own a))→h.get? b=some u→h'.get? b=some u)
  (ho:∀b,H b=some (.own a)→H' b=some (.own a)) (ht:∀b xs,H b=some (.tup xs)→H' b=some (.tup xs)):Z8 P w H' h' a o:=by
 induction o with
 |lst xs=>obtain⟨z,its,n,r,e⟩:=x;exact⟨z,its,n,r,k _ _ (.inl rfl) e⟩
 |tup xs=>obtain⟨z,its,r,ob,e,c⟩:=x;exact⟨z,its,r,ob,k _ _ (.inl rfl) e,c⟩
 |dK kvs=>obtain⟨z,y,vs,r,ob,es,ep,e,c⟩:=x;exact⟨z,y,vs,r,ob,es,ep,k _ _ (.inl rfl) e,c⟩
 |dT kvs=>
  obtain⟨z,y,xs,r,ob,es,ep,e,c⟩:=x;exact⟨z,y,xs,Paired.Zli r λp q z=>⟨z.1,ht _ _ z.2.1,z.2.2⟩,ob,es,ep,k _ _ (.inl rfl) e,c⟩
 |set S n=>obtain⟨ob,es,ep,t,e,c⟩:=x;exact⟨ob,es,ep,t,k _ _ (.inl rfl) e,c⟩
 |ins C dx fs=>
  obtain⟨d,z,ne,e,mA,⟨od,es,ep,e2,c⟩,r⟩:=x;exact⟨ho _ d,z,ne,k _ _ (.inl rfl) e,mA,⟨od,es,ep,k _ _ (.inr d) e2,c⟩,r⟩
 |own y=>obtain⟨ob,e⟩:=x;exact⟨ob,k _ _ (.inl rfl) e⟩
 |xd fs=>obtain⟨mA,⟨od,es,ep,e,c⟩,r⟩:=x;exact⟨mA,⟨od,es,ep,k _ _ (.inl rfl) e,c⟩,r⟩
 |rng lo hi=>obtain⟨t,u,v,e⟩:=x;exact⟨t,u,v,k _ _ (.inl rfl) e⟩
 |frz ob u ih=>obtain⟨e,q⟩:=x;exact⟨k _ _ (.inl rfl) e,ih q⟩
 |tbl ps=>
  have e:h.get? a=some { cls:=.none,data:=.fields ps }:=x;show h'.get? a=some { cls:=.none,data:=.fields ps };exact k a _ (.inl rfl) e
 |met f y=>
  have e:h.get? a=some (W.methodObj (.ref f) (.ref y)):=x;show h'.get? a=some (W.methodObj (.ref f) (.ref y));exact k a _ (.inl rfl) e
 |ext φ=>obtain⟨p,⟨o,e⟩,st⟩:=x;exact⟨st _ _ p λo q=>k _ _ (.inl rfl) q,⟨o,k _ _ (.inl rfl) e⟩,st⟩
theorem HOk.lt(x:HOk P w H h)(e:H a=some o):a<h.objs.size:=(x a o e).lt
theorem HOk.fresh(x:HOk P w H h)(e:h.objs.size≤a):H a=none:=by
 cases q:H a with
 |none=>rfl
 |some u=>exact absurd (rZ (x.lt q) e) (oT _)
theorem HOk.kept(x:HOk P w H h)(k:∀b u,h.get? b=some u→h'.get? b=some u):HOk P w H h':=λa o e=>
 (x a o e).Pr (λb u _ q=>k b u q) (λ_ q=>q) λ_ _ q=>q
theorem HOk.laid(x:HOk P w H h)(k:∀b u,h.get? b=some u→h'.get? b=some u)(hp:h.objs.size≤a)(new:Z8 P w (upd H a o) h' a o):HOk P w (upd H a o) h':=λb u e=>by
 have hn:=x.fresh hp
 by_cases hb:b=a
 ·subst hb;rw[Zc]at e;cases e;exact new
 ·rw[Zk hb]at e;exact(x b u e).Pr (λc v _ q=>k c v q) (λc q=>by rw[Zk (Zi q hn)];exact q) λc xs q=>by rw[Zk (Zi q hn)];exact q
end
def Rd(H:Hp)(a:Addr)(u:HO):Prop:=H a=some u∨∃o,H a=some (.frz o u)
theorem Rd.ok{a:Addr}{u:HO}(r:Rd H a u)(x:HOk P w H h):Z8 P w H h a u:=by
 rcases r with r|⟨o,r⟩
 ·exact x a u r
 ·obtain⟨_,q⟩:=x a _ r;exact q
def Mut:Option HO→Prop
 |some (.lst _)=>True
 |some (.dK _)=>True
 |some (.dT _)=>True
 |some (.set _ _)=>True
 |some (.ins _ _ _)=>True
 |some (.ext _)=>True
 |_=>False
section
variable {P:Program}{w:World}{H:Hp}{h h':Heap}{x e:Addr}{o':HO}
theorem HOk.write(ok:HOk P w H h)(mu:Mut (H x))(he:e=x∨H e=some (.own x))(k:∀b u,b≠e→h.get? b=some u→h'.get? b=some u)(i0:∃u,h'.get? e=some u)
  (new:Z8 P w (upd H x o') h' x o'):HOk P w (upd H x o') h':=λb u q=>by
 have Zn0:∀c y,H c=some (.own y)→c≠x:=λc y r z=>by subst z;rw[r]at mu;exact mu
 have nA:∀c xs,H c=some (.tup xs)→c≠x:=λc xs r z=>by subst z;rw[r]at mu;exact mu
 by_cases hb:b=x
 ·subst hb;rw[Zc]at q;cases q;exact new
 ·rw[Zk hb]at q
  by_cases sZ:b=e
  ·have q':H b=some (.own x):=by
    rcases he with z|z
    ·exact absurd (sZ.trans z) hb
    ·rw[sZ];exact z
   rw[q]at q';cases q';obtain⟨v,hv⟩:=i0;exact⟨v,by rw[sZ];exact hv⟩
  ·refine(ok b u q).Pr (λc v hc r=>k c v ?_ r) (λc r=>by rw[Zk (Zn0 c b r)];exact r) λc xs r=>by rw[Zk (nA c xs r)];exact r
   rcases hc with rfl|hc
   ·exact sZ
   ·rintro rfl
    rcases he with z|z
    ·exact Zn0 c b hc z
    ·rw[hc]at z;cases z;exact hb rfl
end
structure Un(fs ex:ZQ)(H H':Hp)(h h':Heap):Prop where
 keep:∀b o,h.get? b=some o→H b=none→b∉fs→b∉ex→h'.get? b=some o
 slot:∀b o,h.get? b=some o→H b=none→b∈fs→b∉ex→∃sl,h'.get? b=some { o with slots:=sl }
 free:∀b o,h.get? b=some o→H b=none→b∉ex→H' b=none
 there:∀b o,h.get? b=some o→b∉ex→∃o',h'.get? b=some o'
 Hc:∀b xs,H b=some (.tup xs)→H' b=some (.tup xs)
 Kg:∀b o u,H b=some (.frz o u)→H' b=some (.frz o u)
 K0:∀b ps,H b=some (.tbl ps)→∃more,H' b=some (.tbl (ps++more))
section
variable {fs fs' ex ex':ZQ}{H H1 H2:Hp}{h h1 h2 h':Heap}{a x e:Addr}{o:HO}
theorem Un.any(u:Un fs ex H H1 h h1){ob:Obj}(q:h.get? b=some ob)(n:H b=none)(hx:b∉ex):∃sl,h1.get? b=some { ob with slots:=sl }:=by
 by_cases hb:b∈fs
 ·exact u.slot b ob q n hb hx
 ·exact⟨ob.slots,u.keep b ob q n hb hx⟩
theorem Un.kept(k:∀b u,h.get? b=some u→h'.get? b=some u):Un fs ex H H h h':=
 ⟨λb ob q _ _ _=>k b ob q,λb ob q _ _ _=>⟨ob.slots,k b ob q⟩,λ_ _ _ n _=>n,λb ob q _=>⟨ob,k b ob q⟩,λ_ _ q=>q,λ_ _ _ q=>q,λ_ ps q=>⟨#[],by rw[q];simp⟩⟩
theorem Un.refl:Un fs ex H H h h:=Un.kept λ_ _ q=>q
theorem Un.laid(k:∀b u,h.get? b=some u→h'.get? b=some u)(hp:h.objs.size≤a)(hn:H a=none):Un fs ex H (upd H a o) h h' where
 keep:=λb u q _ _ _=>k b u q
 slot:=λb u q _ _ _=>⟨u.slots,k b u q⟩
 free:=λb u q n _=>by rw[Zk (rV (rZ (rO q) hp))];exact n
 there:=λb u q _=>⟨u,k b u q⟩
 Hc:=λb xs q=>by rw[Zk (Zi q hn)];exact q
 Kg:=λb u xs q=>by rw[Zk (Zi q hn)];exact q
 K0:=λb ps q=>⟨#[],by rw[Zk (Zi q hn),q];simp⟩
theorem Un.write(mu:Mut (H x))(he:e=x∨H e=some (.own x))(k:∀b u,b≠e→h.get? b=some u→h'.get? b=some u)(i0:∃u,h'.get? e=some u):Un fs ex H (upd H x o) h h':=by
 have hx:∀b,H b=none→b≠x:=λb n z=>by subst z;rw[n]at mu;exact mu
 have hb:∀b,H b=none→b≠e:=λb n z=>by
  subst z
  rcases he with r|r
  ·exact hx b n r
  ·rw[n]at r;cases r
 have hm:∀b u,H b=some u→¬ Mut (some u)→b≠x:=λb u q nm z=>by subst z;rw[q]at mu;exact nm mu
 refine⟨λb u q n _ _=>k b u (hb b n) q,λb u q n _ _=>⟨u.slots,k b u (hb b n) q⟩,λb u q n _=>by rw[Zk (hx b n)];exact n,λb u q _=>?_,
  λb xs q=>by rw[Zk (hm b _ q λz=>z)];exact q,λb u xs q=>by rw[Zk (hm b _ q λz=>z)];exact q,λb ps q=>⟨#[],by rw[Zk (hm b _ q λz=>z),q];simp⟩⟩
 by_cases sZ:b=e
 ·subst sZ;exact i0
 ·exact⟨u,k b u sZ q⟩
end
def trk(h:Heap)(H:Hp):List Addr:=(List.range h.objs.size).filter λa=>(H a).isSome
def Pe(h:Heap)(H:Hp):Heap:=W.hideAll h (trk h H)
theorem Ic(h:Heap)(H:Hp):(Pe h H).objs.size=h.objs.size:=W.hideAll_size _ _
theorem E2(e:h.get? b=some o)(n:H b=none):(Pe h H).get? b=some o:=
 W.hideAll_get _ e λhm=>by
  have q:(H b).isSome=true:=(iJ.mp hm).2;rw[n]at q;simp at q
theorem Aw(e:(Pe h H).get? b=some o):h.get? b=some o∧H b=none:=by
 have e':h.get? b=some o:=W.of_hideAll (trk h H) e;refine⟨e',?_⟩
 cases q:H b with
 |none=>rfl
 |some x=>
  have hm:b∈trk h H:=iJ.mpr ⟨pU.mpr (rO e'),by simp[q]⟩;have z:(Pe h H).get? b=none:=W.hideAll_none (trk h H) hm;rw[z]at e;cases e
def Zih(g h:Heap)(L:Addr):List aF:=(List.range h.objs.size).filterMap λa=>if a=L∨(g.get? a).isSome=true then none else (h.get? a).map λo=>(a,o)
def rest(g h:Heap)(L d:Addr):List aF:=(Zih g h L).filter λp=>decide (p.1≠d)
structure Mod(K:W.Frag)(mg:aG)(base:Heap):Prop where
 kin:K.In base
 glob:base.Ns mainGlobals mg
 blt:∃mb,base.Ns builtinsNs mb∧∀x:Str,x≠"__name__"→mb x=bootBuiltins x
 nolimit:base.NoLimit
structure Cx where
 prog:Program
 w:World
 K:W.Frag
 mg:Str→Option Value
 base:Heap
 A:Around
 N:List Str
 s₀:Shared
 H₀:Hp
 env:Env
 outer:List Env
 stack:List Env
 ex:List Addr
 fn:Str→Bool
 calm:Bool
 pn:List aF
 xe:Value→Shared→Prop
def frs(l:List Env):List Addr:=l.filterMap (·.frame)
abbrev Cx.fs(X:Cx):List Addr:=frs X.outer
def Vis(sc:Scope)(x:Str):Prop:=sc.names.lookup x=some .local∨sc.names.lookup x=some .cell∨sc.names.lookup x=some .free
def Loc(sc:Scope)(x:Str):Prop:=sc.names.lookup x=some .local∨sc.names.lookup x=some .cell
def Look(env:Env)(h:Heap)(m:aG)(x:Str)(u:Value):Prop:=
 (env.kindOf x=some .local∧m x=some u)∨((env.kindOf x=some .cell∨env.kindOf x=some .free)∧∃c,env.cells.lookup x=some c∧h.IsCell c (some u))
structure Cx.Ok(X:Cx):Prop where
 mod:Mod X.K X.mg X.base
 kind:X.env.scope.kind=.function
 glob:X.env.globals=mainGlobals
 blt:X.env.builtins=builtinsNs
 above:X.s₀.heap.objs.size≤X.env.locals
 inj:∀x y c,X.env.cells.lookup x=some c→X.env.cells.lookup y=some c→x=y
 has:∀x,(X.env.kindOf x=some .cell∨X.env.kindOf x=some .free)→∃c,X.env.cells.lookup x=some c
 cab:∀x c,X.fn x=true→X.env.cells.lookup x=some c→X.s₀.heap.objs.size≤c
 hd:X.calm=true→X.A.handled=none
 frames:X.A.frames=some X.stack
 stk:X.stack=X.outer∨(X.stack=X.env :: X.outer∧X.env.frame=some X.env.locals)
 exf:∀b∈X.ex,b≠X.env.locals∧∀x c,X.env.cells.lookup x=some c→c≠b
 bs:∀b o,X.base.get? b=some o→X.s₀.heap.get? b=some o∧X.H₀ b=none
 bsz:X.base.objs.size≤X.s₀.heap.objs.size
 Zen:∀b o,X.base.get? b=some o→b∉X.ex
 Zfs:∀b∈X.ex,b∉X.fs
 Nq:X.s₀.heap.FunFrames X.base X.outer
 frf:∀b∈X.fs,X.H₀ b=none
structure Inv(X:Cx)(pins:aD)(σ:List (Option V))(H:Hp)(s:Shared):Prop where
 ok:X.Ok
 os:s.os=X.s₀.os
 bare:AllBare s.gens
 base:Un X.fs X.ex X.H₀ H X.s₀.heap s.heap
 loc:∃m,s.heap.Ns X.env.locals m∧∀(i:Nat) (x:Str) (v:V),X.N[i]?=some x→σ[i]?=some (some v)→Vis X.env.scope x→∃u,RelV v u∧Look X.env s.heap m x u
 cell:∀x c,X.env.cells.lookup x=some c→∃v,s.heap.IsCell c v
 free:H X.env.locals=none
 U7:∀x c,X.env.cells.lookup x=some c→H c=none
 pin:∀p∈X.pn++pins,s.heap.get? p.1=some p.2∧H p.1=none∧p.1≠X.env.locals∧p.1∉X.fs∧∀v,p.2.data≠.cell v
 hok:HOk X.prog X.w H s.heap
 len:σ.length=X.N.length
section
variable {X:Cx}{pins:aD}{σ:List (Option V)}{H H':Hp}{s:Shared}{h':Heap}
theorem Cx.Ok.nofr(ok:X.Ok)(e:X.base.get? b=some o):b∉X.fs:=λhb=>by
 have:=(ok.Nq.mem hb).1;rw[e]at this;cases this
theorem Inv.bs(I:Inv X pins σ H s):∀b o,X.base.get? b=some o→s.heap.get? b=some o∧H b=none:=λb o e=>
 ⟨I.base.keep b o (I.ok.bs b o e).1 (I.ok.bs b o e).2 (I.ok.nofr e) (I.ok.Zen b o e),I.base.free b o (I.ok.bs b o e).1 (I.ok.bs b o e).2 (I.ok.Zen b o e)⟩
theorem Inv.bk(I:Inv X pins σ H s):∀b o,X.base.get? b=some o→s.heap.get? b=some o:=λb o e=>(I.bs b o e).1
theorem Inv.mod(I:Inv X pins σ H s):Mod X.K X.mg X.base:=I.ok.mod
theorem Inv.kIn(I:Inv X pins σ H s):X.K.In s.heap:=I.ok.mod.kin.keeps I.bk
theorem Inv.lt(I:Inv X pins σ H s):X.env.locals<s.heap.objs.size:=let ⟨_,hn,_⟩:=I.loc;hn.lt
theorem Inv.sz(I:Inv X pins σ H s):X.s₀.heap.objs.size≤s.heap.objs.size:=pQ I.ok.above (oX I.lt)
theorem Inv.Zn1(I:Inv X pins σ H s){a:Addr}(h:s.heap.objs.size≤a):a∉X.fs:=λhb=>by
 obtain⟨_,o,ho,_⟩:=I.ok.Nq.mem hb;exact absurd (rZ (rO ho) (pQ I.sz h)) (oT _)
theorem Inv.cne(I:Inv X pins σ H s):∀x c,X.env.cells.lookup x=some c→c≠X.env.locals:=λx c e z=>by
 obtain⟨v,o,ho,hd⟩:=I.cell x c e;obtain⟨m,⟨o',es,ep,m9,i6,_⟩,_⟩:=I.loc;rw[z,m9]at ho;cases ho;rw[i6]at hd;cases hd
theorem Inv.Nq(I:Inv X pins σ H s):s.heap.FunFrames X.base X.outer:=by
 have all:∀(l:List Env),(∀b∈frs l,b∈X.fs)→X.s₀.heap.FunFrames X.base l→s.heap.FunFrames X.base l:=by
  intro l
  induction l with
  |nil=>intro _ _;trivial
  |cons env r ih=>
   intro hs hl;obtain⟨hk,⟨L,o,hf,hn,ho,hd⟩,hr⟩:=hl;have hL:L∈X.fs:=hs L (by unfold frs;rw[fW,hf];exact rM);obtain⟨sl,e⟩:=I.base.slot L o ho (I.ok.frf L hL) hL λz=>I.ok.Zfs L z hL;exact⟨hk,⟨L,_,hf,hn,e,hd⟩,ih (λb hb=>hs b (by unfold frs;rw[fW,hf];exact rP _ hb)) hr⟩
 exact all X.outer (λ_ hb=>hb) I.ok.Nq
theorem Inv.stack(I:Inv X pins σ H s):s.heap.FunFrames X.base X.stack:=by
 rcases I.ok.stk with e|⟨e,hf⟩
 ·rw[e];exact I.Nq
 ·rw[e];obtain⟨m,hn,_⟩:=I.loc;refine .cons (by rw[I.ok.kind];decide) hf hn ?_ I.Nq;exact Heap.get?_none_of_le (pQ I.ok.bsz I.ok.above)
theorem Inv.Lf(I:Inv X pins σ H s):∀b∈frs X.stack,b∈X.env.locals :: X.fs:=λb hb=>by
 rcases I.ok.stk with e|⟨e,hf⟩
 ·rw[e]at hb;exact rP _ hb
 ·rw[e]at hb;unfold frs at hb;rw[fW,hf]at hb;exact hb
theorem Inv.Hf(I:Inv X pins σ H s):∀b∈frs X.stack,H b=none:=λb hb=>by
 rcases rT.mp (I.Lf b hb) with e|hb
 ·rw[e];exact I.free
 ·obtain⟨_,o,ho,_⟩:=I.ok.Nq.mem hb;exact I.base.free b o ho (I.ok.frf b hb) λz=>I.ok.Zfs b z hb
theorem Inv.step{g':Array GenState}{d':Drawn}(I:Inv X pins σ H s)
  (o8:∀b∈ch,(b∈X.ex∨X.s₀.heap.objs.size≤b)∧b≠X.env.locals∧(∀x c,X.env.cells.lookup x=some c→c≠b)∧∀p∈X.pn++pins,p.1≠b)
  (keep:∀b o,b≠X.env.locals→b∉X.fs→b∉ch→s.heap.get? b=some o→H b=none→h'.get? b=some o)
  (slot:∀b o,b≠X.env.locals→b∈X.fs→b∉ch→s.heap.get? b=some o→H b=none→∃sl,h'.get? b=some { o with slots:=sl }) (free:∀b o,b∉ch→s.heap.get? b=some o→H b=none→H' b=none)
  (there:∀b o,b∉ch→s.heap.get? b=some o→∃o',h'.get? b=some o')
  (Hc:∀b xs,H b=some (.tup xs)→H' b=some (.tup xs)) (Kg:∀b o u,H b=some (.frz o u)→H' b=some (.frz o u)) (K0:∀b ps,H b=some (.tbl ps)→∃more,H' b=some (.tbl (ps++more)))
  (ns:∀m,s.heap.Ns X.env.locals m→h'.Ns X.env.locals m) (hok:HOk X.prog X.w H' h') (hg:AllBare g') :
  Inv X pins σ H' { s with heap:=h',gens:=g',drawn:=d',toks:=t' }:=by
 have neL:∀b o,X.s₀.heap.get? b=some o→b≠X.env.locals:=λb o e=>rV (rZ (rO e) I.ok.above)
 have vL:∀b o,X.s₀.heap.get? b=some o→b∉X.ex→b∉ch:=λb o e hx hb=>by
  rcases(o8 b hb).1 with z|z
  ·exact hx z
  ·exact absurd (rZ (rO e) z) (oT _)
 have cellK:∀x c,X.env.cells.lookup x=some c→∀v,s.heap.IsCell c v→h'.IsCell c v:=λx c e v ⟨o,ho,hd⟩=>by
  have gO:c∉ch:=λz=>(o8 c z).2.2.1 x c e rfl
  by_cases hc:c∈X.fs
  ·obtain⟨sl,q⟩:=slot c o (I.cne x c e) hc gO ho (I.U7 x c e);exact⟨_,q,hd⟩
  ·exact⟨o,keep c o (I.cne x c e) hc gO ho (I.U7 x c e),hd⟩
 refine⟨I.ok,I.os,hg,⟨λb o e n hb hx=>?_,λb o e n hb hx=>?_,λb o e n hx=>?_,λb o e hx=>?_,λb xs e=>Hc b xs (I.base.Hc b xs e),λb o xs e=>Kg b o xs (I.base.Kg b o xs e),λb ps e=>?_⟩,?_,λx c e=>?_,?_,λx c e=>?_,λp hp=>?_,hok,I.len⟩
 ·exact keep b o (neL b o e) hb (vL b o e hx) (I.base.keep b o e n hb hx) (I.base.free b o e n hx)
 ·obtain⟨sl,e1⟩:=I.base.slot b o e n hb hx;obtain⟨nO,e2⟩:=slot b _ (neL b o e) hb (vL b o e hx) e1 (I.base.free b o e n hx);exact⟨nO,e2⟩
 ·obtain⟨o',e1⟩:=I.base.there b o e hx;exact free b o' (vL b o e hx) e1 (I.base.free b o e n hx)
 ·obtain⟨o',e1⟩:=I.base.there b o e hx;exact there b o' (vL b o e hx) e1
 ·obtain⟨m1,e1⟩:=I.base.K0 b ps e;obtain⟨m2,e2⟩:=K0 b _ e1;exact⟨m1++m2,by rw[e2,Array.append_assoc]⟩
 ·obtain⟨m,hn,hl⟩:=I.loc;refine⟨m,ns m hn,λi x v e1 e2 e3=>?_⟩;obtain⟨u,r,l⟩:=hl i x v e1 e2 e3;refine⟨u,r,?_⟩
  rcases l with l|⟨k,c,e,z⟩
  ·exact .inl l
  ·exact .inr ⟨k,c,e,cellK x c e _ z⟩
 ·obtain⟨v,z⟩:=I.cell x c e;exact⟨v,cellK x c e v z⟩
 ·obtain⟨m,⟨o,_,_,ho,_⟩,_⟩:=I.loc;exact free _ o (λz=>(o8 _ z).2.1 rfl) ho I.free
 ·obtain⟨v,o,ho,hd⟩:=I.cell x c e;exact free c o (λz=>(o8 c z).2.2.1 x c e rfl) ho (I.U7 x c e)
 ·obtain⟨e,n,ne,nf,d⟩:=I.pin p hp;have gO:p.1∉ch:=λz=>(o8 p.1 z).2.2.2 p hp rfl;exact⟨keep p.1 p.2 ne nf gO e n,free p.1 p.2 gO e n,ne,nf,d⟩
theorem Inv.un(I:Inv X pins σ H s)(u:Un X.fs [] H H' s.heap h')(hok:HOk X.prog X.w H' h'):Inv X pins σ H' { s with heap:=h',toks:=t' }:=by
 obtain⟨m,⟨o,es,ep,ho,r⟩,_⟩:=id I.loc;obtain⟨sl,hL⟩:=u.any ho I.free (by simp)
 exact I.step (g':=s.gens) (d':=s.drawn) (ch:=[]) (λ_ z=>nomatch z) (λb o _ hb _ e n=>u.keep b o e n hb (by simp)) (λb o _ hb _ e n=>u.slot b o e n hb (by simp)) (λb o _ e n=>u.free b o e n (by simp)) (λb o _ e=>u.there b o e (by simp)) u.Hc u.Kg u.K0 (λm' hm=>by
  obtain⟨o',es',wG,m9,r'⟩:=hm;rw[ho]at m9;cases m9
  exact⟨_,es',wG,hL,r'⟩) hok I.bare
theorem Inv.call{g':Array GenState}{d':Drawn}(I:Inv X pins σ H s)(u:Un (frs X.stack) ch H H' s.heap h')(hok:HOk X.prog X.w H' h')(hg:AllBare g')
  (o8:∀b∈ch,(b∈X.ex∨X.s₀.heap.objs.size≤b)∧b≠X.env.locals∧(∀x c,X.env.cells.lookup x=some c→c≠b)∧∀p∈X.pn++pins,p.1≠b) :
  Inv X pins σ H' { s with heap:=h',gens:=g',drawn:=d',toks:=t' }:=by
 obtain⟨m,⟨o,es,ep,ho,r⟩,_⟩:=id I.loc;obtain⟨sl,hL⟩:=u.any ho I.free λz=>(o8 _ z).2.1 rfl
 exact I.step (ch:=ch) o8 (λb o hL hb hc e n=>u.keep b o e n (λz=>(rT.mp (I.Lf b z)).elim hL hb) hc) (λb o _ _ hc e n=>u.any e n hc) (λb o hc e n=>u.free b o e n hc) (λb o hc e=>u.there b o e hc) u.Hc u.Kg u.K0 (λm' hm=>by
  obtain⟨o',es',wG,m9,r'⟩:=hm;rw[ho]at m9;cases m9
  exact⟨_,es',wG,hL,r'⟩) hok hg
theorem Inv.turned(I:Inv X pins σ H s)(k:∀b o,b≠it→s.heap.get? b=some o→h'.get? b=some o)(hn:H it=none)(hL:it≠X.env.locals)
  (h1:it∈X.ex∨X.s₀.heap.objs.size≤it) (h2:∀x c,X.env.cells.lookup x=some c→c≠it) (h3:∀p∈X.pn++pins,p.1≠it):Inv X pins σ H { s with heap:=h',toks:=t' }:=by
 have gQ:∀b u,H b=some u→b≠it:=λb u e z=>by rw[z,hn]at e;cases e
 refine I.step (g':=s.gens) (d':=s.drawn) (ch:=[it]) (λb hb=>?_) (λb o _ _ hc e _=>k b o (λz=>hc (by simp[z])) e) (λb o _ _ hc e _=>⟨o.slots,k b o (λz=>hc (by simp[z])) e⟩) (λ_ _ _ _ n=>n)
  (λb o hc e=>⟨o,k b o (λz=>hc (by simp[z])) e⟩) (λ_ _ e=>e) (λ_ _ _ e=>e) (λb ps e=>⟨#[],by rw[e];simp⟩) (λm hm=>?_) (λb u e=>?_) I.bare
 ·have e:b=it:=by simpa using hb
  subst e;exact⟨h1,hL,h2,h3⟩
 ·obtain⟨o,es,ep,ho,r⟩:=hm;exact⟨o,es,ep,k _ o (lW hL) ho,r⟩
 ·refine(I.hok b u e).Pr (λc v hc q=>k c v ?_ q) (λ_ q=>q) λ_ _ q=>q
  rcases hc with z|z
  ·rw[z];exact gQ b u e
  ·exact gQ c _ z
theorem Inv.tok(I:Inv X pins σ H s)(t:Nat):Inv X pins σ H { s with toks:=t }:=I.un (h':=s.heap) (t':=t) Un.refl I.hok
theorem Inv.kept{t':Nat}(I:Inv X pins σ H s)(k:∀b u,s.heap.get? b=some u→h'.get? b=some u):Inv X pins σ H { s with heap:=h',toks:=t' }:=I.un (Un.kept k) (I.hok.kept k)
theorem Inv.laid{a:Addr}{o:HO}{t':Nat}(I:Inv X pins σ H s)(k:∀b u,s.heap.get? b=some u→h'.get? b=some u)(hp:s.heap.objs.size≤a)(new:Z8 X.prog X.w (upd H a o) h' a o):
  Inv X pins σ (upd H a o) { s with heap:=h',toks:=t' }:=I.un (Un.laid k hp (I.hok.fresh hp)) (I.hok.laid k hp new)
theorem Inv.write{x e:Addr}{o:HO}{t':Nat}(I:Inv X pins σ H s)(mu:Mut (H x))(he:e=x∨H e=some (.own x))(k:∀b u,b≠e→s.heap.get? b=some u→h'.get? b=some u)(i0:∃u,h'.get? e=some u)
  (new:Z8 X.prog X.w (upd H x o) h' x o):Inv X pins σ (upd H x o) { s with heap:=h',toks:=t' }:=I.un (Un.write mu he k i0) (I.hok.write mu he k i0 new)
theorem Inv.weak{x4:List (Option V)}(I:Inv X pins σ H s)(hl:x4.length=σ.length)(w:∀(i:Nat) v,x4[i]?=some (some v)→σ[i]?=some (some v)):Inv X pins x4 H s:=
 ⟨I.ok,I.os,I.bare,I.base,let ⟨m,hn,eD⟩:=I.loc;⟨m,hn,λi x v e1 e2 e3=>eD i x v e1 (w i v e2) e3⟩,I.cell,I.free,I.U7,I.pin,I.hok,hl.trans I.len⟩
theorem Inv.Mq{pins':aD}(I:Inv X pins σ H s)(h:∀p∈pins',s.heap.get? p.1=some p.2∧H p.1=none∧p.1≠X.env.locals∧p.1∉X.fs∧∀v,p.2.data≠.cell v):Inv X pins' σ H s:=
 ⟨I.ok,I.os,I.bare,I.base,I.loc,I.cell,I.free,I.U7,λp hp=>(oB.mp hp).elim (λz=>I.pin p (lV _ z)) (h p),I.hok,I.len⟩
theorem Ek(hN:N.Nodup)(a:N[i]?=some x)(b:N[j]?=some x):i=j:=by
 obtain⟨h1,e1⟩:=rH.mp a;obtain⟨h2,e2⟩:=rH.mp b;exact(List.getElem_inj hN).mp (e1.trans e2.symm)
theorem J1{v:V}{Q:ZS}(I:Inv X pins σ H s)(hN:X.N.Nodup)(hi:X.N[i]?=some x)(hx:Loc X.env.scope x)(r:RelV v u)
  (h:∀s',Inv X pins (σ.set i (some v)) H s'→(∃a,Heap.SameBut a s.heap s'.heap∧(a=X.env.locals∨X.env.cells.lookup x=some a))→Q () s') (hf:X.fn x=true∨X.env.scope.names.lookup x=some .local:=by first|exact .inl rfl|exact .inr rfl|assumption):wpAny M A (storeName X.env x u) Q E s:=by
 obtain⟨m,hn,hl⟩:=id I.loc;have zT:(X.env.scope.kind==.class||(X.env.scope.kind==.module&&X.env.locals != X.env.globals))=false:=by rw[I.ok.kind];rfl
 have gB:i<σ.length:=by rw[I.len];exact(rH.mp hi).1
 have cne:=I.cne
 have tracked:∀{a:Addr}{h':Heap},(∃o,s.heap.get? a=some o∧H a=none)→Heap.SameBut a s.heap h'→HOk X.prog X.w H h':=λ{a h'} ha hs b ob e=>by
  obtain⟨_,_,Sv⟩:=ha;refine(I.hok b ob e).Pr (λc w' hc q=>(hs.2 c ?_).trans q) (λ_ q=>q) λ_ _ q=>q;rintro rfl
  rcases hc with rfl|hc
  ·rw[Sv]at e;cases e
  ·rw[Sv]at hc;cases hc
 rcases hx with hk|hk
 ·refine wpAny_storeName_local hk hn (λh' hn' hs=>?_) zT;obtain⟨oL,_,_,gE,_⟩:=id hn;refine h _ ⟨I.ok,I.os,I.bare,⟨λb o e n hb hx=>?_,λb o e n hb hx=>?_,I.base.free,λb o e hx=>?_,I.base.Hc,I.base.Kg,I.base.K0⟩,⟨_,hn',λj y v' e1 e2 e3=>?_⟩,λy c e=>?_,I.free,I.U7,λp hp=>?_,tracked ⟨oL,gE,I.free⟩ hs,by simpa using I.len⟩ ⟨_,hs,.inl rfl⟩
  ·exact(hs.2 b (rV (rZ (rO e) I.ok.above))).trans (I.base.keep b o e n hb hx)
  ·obtain⟨sl,e1⟩:=I.base.slot b o e n hb hx;exact⟨sl,(hs.2 b (rV (rZ (rO e) I.ok.above))).trans e1⟩
  ·obtain⟨o',e1⟩:=I.base.there b o e hx;exact⟨o',(hs.2 b (rV (rZ (rO e) I.ok.above))).trans e1⟩
  ·by_cases hj:j=i
   ·subst hj;rw[hi]at e1;cases e1;rw[dE gB]at e2;cases e2;exact⟨u,r,.inl ⟨hk,by simp⟩⟩
   ·rw[iQ (lW hj)]at e2;obtain⟨u',r',q⟩:=hl j y v' e1 e2 e3;refine⟨u',r',?_⟩
    rcases q with ⟨k,e⟩|⟨k,c,e,z⟩
    ·refine .inl ⟨k,?_⟩;have:y≠x:=λe=>hj (Ek hN e1 (e▸hi));simp[this,e]
    ·exact .inr ⟨k,c,e,z.sameBut hs (cne y c e)⟩
  ·obtain⟨w',z⟩:=I.cell y c e;exact⟨w',z.sameBut hs (cne y c e)⟩
  ·obtain⟨e,n,ne,nf,d⟩:=I.pin p hp;exact⟨(hs.2 p.1 ne).trans e,n,ne,nf,d⟩
 ·have yD:X.fn x=true:=by
   rcases hf with z|z
   ·exact z
   ·rw[z]at hk;cases hk
  obtain⟨c,hc⟩:=I.ok.has x (.inl hk);obtain⟨w',z⟩:=I.cell x c hc;refine wpAny_storeName_cell I.ok.kind hk hc z (λh' kU hs=>?_);obtain⟨oc,eQ,jP⟩:=id z
  refine h { s with heap:=h' } ⟨I.ok,I.os,I.bare,⟨λb o e n hb hx=>?_,λb o e n hb hx=>?_,I.base.free,λb o e hx=>?_,I.base.Hc,I.base.Kg,I.base.K0⟩,⟨m,hn.sameBut hs (lW (cne x c hc)),λj y v' e1 e2 e3=>?_⟩,λy c' e=>?_,I.free,I.U7,λp hp=>?_,tracked ⟨oc,eQ,I.U7 x c hc⟩ hs,by simpa using I.len⟩ ⟨c,hs,.inr hc⟩
  ·exact(hs.2 b (rV (rZ (rO e) (I.ok.cab x c yD hc)))).trans (I.base.keep b o e n hb hx)
  ·obtain⟨sl,e1⟩:=I.base.slot b o e n hb hx;exact⟨sl,(hs.2 b (rV (rZ (rO e) (I.ok.cab x c yD hc)))).trans e1⟩
  ·obtain⟨o',e1⟩:=I.base.there b o e hx;exact⟨o',(hs.2 b (rV (rZ (rO e) (I.ok.cab x c yD hc)))).trans e1⟩
  ·by_cases hj:j=i
   ·subst hj;rw[hi]at e1;cases e1;rw[dE gB]at e2;cases e2;exact⟨u,r,.inr ⟨.inl hk,c,hc,kU⟩⟩
   ·rw[iQ (lW hj)]at e2;obtain⟨u',r',q⟩:=hl j y v' e1 e2 e3;refine⟨u',r',?_⟩
    rcases q with q|⟨k,c',e,z'⟩
    ·exact .inl q
    ·refine .inr ⟨k,c',e,z'.sameBut hs ?_⟩;rintro rfl;exact hj (Ek hN e1 (I.ok.inj _ _ _ e hc▸hi))
  ·by_cases yA:c'=c
   ·subst yA;exact⟨_,kU⟩
   ·obtain⟨w2,z2⟩:=I.cell y c' e;exact⟨w2,z2.sameBut hs yA⟩
  ·obtain⟨e,n,ne,nf,d⟩:=I.pin p hp;refine⟨(hs.2 p.1 ?_).trans e,n,ne,nf,d⟩;intro q;rw[q,eQ]at e;have q':oc=p.2:=Option.some.inj e;exact d w' (by rw[←q'];exact jP)
theorem S1{v:V}{Q:ZS}(I:Inv X pins σ H s)(hN:X.N.Nodup)(hi:X.N[i]?=some x)(hx:Loc X.env.scope x)(r:RelV v u)
  (h:∀s',Inv X pins (σ.set i (some v)) H s'→Q () s') (hf:X.fn x=true∨X.env.scope.names.lookup x=some .local:=by first|exact .inl rfl|exact .inr rfl|assumption):wpAny M A (storeName X.env x u) Q E s:=
 J1 I hN hi hx r (λs' I' _=>h s' I') hf
theorem Inv.Zo4{s':Shared}(I:Inv X pins σ H s)(ho:s'.os=s.os)(u:Un (frs X.stack) ch H H' s.heap s'.heap)(hok:HOk X.prog X.w H' s'.heap)(hg:AllBare s'.gens)
  (o8:∀b∈ch,(b∈X.ex∨X.s₀.heap.objs.size≤b)∧b≠X.env.locals∧(∀x c,X.env.cells.lookup x=some c→c≠b)∧∀p∈X.pn++pins,p.1≠b):Inv X pins σ H' s':=by
 obtain⟨h',g',d',t',o'⟩:=s';have e:o'=s.os:=ho;subst e;exact I.call (g':=g') (t':=t') (d':=d') u hok hg o8
end
abbrev XK:=Value→Option Addr→Hp→Prop
abbrev St:=List (Option V)
abbrev VK:=V→Hp→Prop
abbrev TE:=St→Hp→VK→Prop
abbrev TT:=St→Hp→(Bool→Hp→Prop)→Prop
abbrev TA:=St→Hp→(List V→Hp→Prop)→Prop
structure Ends where
 nx:St→Hp→Prop
 rt:VK
 bk:St→Hp→Prop:=λ_ _=>False
 ct:St→Hp→Prop:=λ_ _=>False
abbrev TS:=Ends→St→Hp→Prop
def EP(X:Cx)(pins:aD)(σ:St)(Q:VK)(u:Value)(s':Shared):Prop:=∃v H',Inv X pins σ H' s'∧RelV v u∧Q v H'
def TP(X:Cx)(pins:aD)(σ:St)(Q:Bool→Hp→Prop)(b:Bool)(s':Shared):Prop:=∃H',Inv X pins σ H' s'∧Q b H'
def AP(X:Cx)(pins:aD)(σ:St)(Q:List V→Hp→Prop)(us:aJ)(s':Shared):Prop:=∃vs H',Inv X pins σ H' s'∧Vals vs us∧Q vs H'
def SP(X:Cx)(pins:aD)(D:Ends)(f:Flow)(s':Shared):Prop:=
 match f with
 |.next=>∃x4 H',Inv X pins x4 H' s'∧D.nx x4 H'
 |.brk=>∃x4 H',Inv X pins x4 H' s'∧D.bk x4 H'
 |.cont=>∃x4 H',Inv X pins x4 H' s'∧D.ct x4 H'
 |.ret u=>∃v x4 H',Inv X pins x4 H' s'∧RelV v u∧D.rt v H'
def PE(X:Cx)(e:Expr)(t:TE):Prop:=
 ∀(pins:aD) (s:Shared) (σ:St) (H:Hp) (Q:VK),Inv X pins σ H s→t σ H Q→wpAny (model X.prog X.w) X.A (eval e X.env) (EP X pins σ Q) X.xe s
def PT(X:Cx)(e:Expr)(t:TT):Prop:=
 ∀(pins:aD) (s:Shared) (σ:St) (H:Hp) (Q:Bool→Hp→Prop),Inv X pins σ H s→t σ H Q→wpAny (model X.prog X.w) X.A (isTrue e X.env (eval e X.env)) (TP X pins σ Q) X.xe s
def PW(X:Cx)(e:Expr)(t:TT):Prop:=
 ∀(whole:Sem Value) (pins:aD) (s:Shared) (σ:St) (H:Hp) (Q:Bool→Hp→Prop),Inv X pins σ H s→t σ H Q→wpAny (model X.prog X.w) X.A (isTrue e X.env whole) (TP X pins σ Q) X.xe s
theorem PW.pt{t:TT}(h:PW X e t):PT X e t:=h _
def PA(X:Cx)(es:aV)(t:TA):Prop:=
 ∀(pos:Pos) (pins:aD) (s:Shared) (σ:St) (H:Hp) (Q:List V→Hp→Prop),Inv X pins σ H s→t σ H Q→wpAny (model X.prog X.w) X.A (spliced (backTo pos (starEach es X.env))) (AP X pins σ Q) X.xe s
def PS(X:Cx)(st:Stmt)(t:TS):Prop:=
 ∀(pins:aD) (s:Shared) (σ:St) (H:Hp) (D:Ends),Inv X pins σ H s→t D σ H→wpAny (model X.prog X.w) X.A (exec st X.env) (SP X pins D) X.xe s
def PSs(X:Cx)(st:List Stmt)(t:TS):Prop:=
 ∀(pins:aD) (s:Shared) (σ:St) (H:Hp) (D:Ends),Inv X pins σ H s→t D σ H→wpAny (model X.prog X.w) X.A (execs st X.env) (SP X pins D) X.xe s
theorem thn{α:Type}{t:Sem α}{Q Q':α→Shared→Prop}(h:wpAny M A t Q E s)(hQ:∀a s,Q a s→Q' a s):wpAny M A t Q' E s:=iR h hQ λ_ _ x=>x
section
variable {X:Cx}
inductive Ziq(i:Nat)(σ:St)(H:Hp)(Q:VK):Prop
 |mk(v:_)(h1:σ[i]?=some (some v))(h2:Q v H):Ziq i σ H Q
def K1(i:Nat):TE:=λσ H Q=>Ziq i σ H Q
def tC(v:V):TE:=λ_ H Q=>Q v H
theorem Zd6(hN:X.N[i]?=some x)(hv:Vis X.env.scope x)(hd:(x==("__debug__" : Str))=false:=by decide)(w9:(x==("__classdict__" : Str))=false:=by decide):PE X (.Name x pos) (K1 i):=by
 intro pins s σ H Q I h;obtain⟨v,e,h⟩:=h;obtain⟨m,hn,hl⟩:=I.loc;obtain⟨u,r,l⟩:=hl i x v hN e hv;have fin:EP X pins σ Q u s:=⟨v,H,I,r,h⟩
 rcases l with ⟨hk,hm⟩|⟨hk,c,hc,Zaf⟩
 ·exact wpAny_Name (wpAny_loadName_local I.ok.kind hk hn hm fin) hd
 ·rcases hk with hk|hk
  ·exact wpAny_Name (wpAny_loadName_cell I.ok.kind hk hc Zaf fin) hd
  ·exact wpAny_Name (wpAny_loadName_free I.ok.kind hk hc Zaf fin w9) hd
theorem Zf{i j pos}:PE X (.Constant (.int i) j pos) (tC (.int i)):=λ_ _ _ H _ I h=>wpAny_Constant_int ⟨.int i,H,I.tok _,⟨_,rfl⟩,h⟩
theorem Xw{b j pos}:PE X (.Constant (.bool b) j pos) (tC (.bl b)):=λ_ _ _ H _ I h=>Constant_bool ⟨.bl b,H,I,rfl,h⟩
theorem V0{j pos}:PE X (.Constant .none j pos) (tC .non):=λ_ _ _ H _ I h=>Constant_none ⟨.non,H,I,rfl,h⟩
theorem Wr{x j pos}:PE X (.Constant (.str x) j pos) (tC (.str x)):=λ_ _ _ H _ I h=>Calls.Constant_str ⟨.str x,H,I.tok _,⟨_,rfl⟩,h⟩
def Gl(X:Cx)(x:Str):Prop:=X.env.kindOf x=some .globalImplicit
theorem A1(I:Inv X pins σ H s)(hg:Gl X x)(hm:X.mg x=some u)(h:Q u s)
  (hd:(x==("__debug__" : Str))=false:=by decide):wpAny (model X.prog X.w) X.A (eval (.Name x pos) X.env) Q E s:=
 Calls.Name_function_global I.ok.kind hg (Calls.loadGlobal_global (by rw[I.ok.glob];exact I.mod.glob.keeps I.bk) hm h) hd
theorem V3(I:Inv X pins σ H s)(hg:Gl X x)(hm:X.mg x=none)(hv:bootBuiltins x=some u)(h:Q u s)
  (hn:x≠"__name__":=by decide) (hd:(x==("__debug__" : Str))=false:=by decide):wpAny (model X.prog X.w) X.A (eval (.Name x pos) X.env) Q E s:=by
 obtain⟨mb,h1,h2⟩:=I.mod.blt;exact Calls.Name_function_global I.ok.kind hg (Calls.loadGlobal_builtin (by rw[I.ok.glob];exact I.mod.glob.keeps I.bk) hm (by rw[I.ok.blt];exact h1.keeps I.bk) ((h2 x hn).trans hv) h) hd
theorem Ud{v:V}(hg:Gl X x)(hm:X.mg x=none)(hv:bootBuiltins x=some u)(r:RelV v u)(hn:x≠"__name__":=by decide)(hd:(x==("__debug__" : Str))=false:=by decide):PE X (.Name x pos) (tC v):=
 λ_ _ _ H _ I h=>V3 I hg hm hv ⟨v,H,I,r,h⟩ hn hd
variable {a b:Expr}{ta tb:TE}{pos:Pos}
def PC(X:Cx)(op:CmpOp)(a b:Expr)(t:TE):Prop:=
 ∀(pins:aD) (s:Shared) (σ:St) (H:Hp) (Q:VK),Inv X pins σ H s→t σ H Q→
  wpAny (model X.prog X.w) X.A (eval a X.env) (λv x3=>wpAny (model X.prog X.w) X.A (eval b X.env) (λu m5=>wpAny (model X.prog X.w) X.A (compareOp op v u) (EP X pins σ Q) X.xe m5) X.xe x3) X.xe s
theorem El(b:Expr)(h:op≠.In)(h2:op≠.NotIn):behindInMarks op b=false:=by
 have e1:(op==CmpOp.In)=false:=by cases op<;>first|rfl|exact absurd rfl h
 have e2:(op==CmpOp.NotIn)=false:=by cases op<;>first|rfl|exact absurd rfl h2
 cases b<;>simp[behindInMarks,e1,e2]
inductive tBI(Q:Bool→Hp→Prop)(x:V)(H1:Hp):Prop
 |mk(c:_)(h1:x=.bl c)(h2:Q c H1):tBI Q x H1
def tB(t:TE):TT:=λσ H Q=>t σ H λx H1=>tBI Q x H1
theorem Zlb{t:TE}(h:PC X op a b t)(h1:behindInMarks op b=false:=by first|exact El _ (by decide) (by decide)|rfl):PE X (.Compare a [op] [b] pos) t:=λpins s σ H Q I hw=>wpAny_Compare1 (h pins s σ H Q I hw) h1
theorem Zd2{t:TE}(h:PC X op a b t)(h1:behindInMarks op b=false:=by first|exact El _ (by decide) (by decide)|rfl):PT X (.Compare a [op] [b] pos) (tB t):=by
 intro pins s σ H Q I hw;refine wpAny_isTrue_Compare1 (thn (h pins s σ H _ I hw) λv s1 h1=>thn h1 λu s2 h2=>thn h2 λc s3 ⟨x,H1,I1,r1,q1⟩=>?_) h1;obtain⟨d,rfl,q⟩:=q1;cases r1;exact iV ⟨H1,I1,q⟩
variable {tA tB':TT}{rest:aV}
def tAnd(t u:TT):TT:=λσ H Q=>t σ H λc H1=>if c=true then u σ H1 Q else Q false H1
def tOr(t u:TT):TT:=λσ H Q=>t σ H λc H1=>if c=true then Q true H1 else u σ H1 Q
def tNot(t:TT):TT:=λσ H Q=>t σ H λc H1=>Q (!c) H1
theorem Zg9(ha:PT X a tA):PW X (.BoolOp .And [a] pos) tA:=by
 intro wh pins s σ H Q I h;refine isTrue_and (thn (ha pins s σ H Q I h) λc s1 e=>?_)
 cases c with
 |true=>exact isTrue_and_nil e
 |false=>exact e
theorem Lq(ha:PT X a tA):PW X (.BoolOp .Or [a] pos) tA:=by
 intro wh pins s σ H Q I h;refine isTrue_or (thn (ha pins s σ H Q I h) λc s1 e=>?_)
 cases c with
 |false=>exact isTrue_or_nil e
 |true=>exact e
theorem Zk6(ha:PT X a tA)(hb:PW X (.BoolOp .And (b :: rest) pos) tB'):PW X (.BoolOp .And (a :: b :: rest) pos) (tAnd tA tB'):=by
 intro wh pins s σ H Q I h;refine isTrue_and (thn (ha pins s σ H _ I h) λc s1 ⟨H1,I1,q1⟩=>?_)
 cases c with
 |true=>exact hb wh pins s1 σ H1 Q I1 q1
 |false=>exact⟨H1,I1,q1⟩
theorem F0(ha:PT X a tA)(hb:PW X (.BoolOp .Or (b :: rest) pos) tB'):PW X (.BoolOp .Or (a :: b :: rest) pos) (tOr tA tB'):=by
 intro wh pins s σ H Q I h;refine isTrue_or (thn (ha pins s σ H _ I h) λc s1 ⟨H1,I1,q1⟩=>?_)
 cases c with
 |true=>exact⟨H1,I1,q1⟩
 |false=>exact hb wh pins s1 σ H1 Q I1 q1
theorem S8(ha:PT X a tA):PT X (.UnaryOp .Not a pos) (tNot tA):=by
 intro pins s σ H Q I h;exact isTrue_not (ha pins s σ H (λc H1=>Q (!c) H1) I h)
inductive Zcr(tb:TE)(σ:St)(Q:VK)(x:V)(H1:Hp):Prop
 |mk(c:_)(h1:x=.bl c)(h2:if c=true then tb σ H1 Q else Q (.bl false) H1):Zcr tb σ Q x H1
def Zm3(ta tb:TE):TE:=λσ H Q=>ta σ H λx H1=>Zcr tb σ Q x H1
inductive Zis(tb:TE)(σ:St)(Q:VK)(x:V)(H1:Hp):Prop
 |mk(c:_)(h1:x=.bl c)(h2:if c=true then Q (.bl true) H1 else tb σ H1 Q):Zis tb σ Q x H1
def tOrV(ta tb:TE):TE:=λσ H Q=>ta σ H λx H1=>Zis tb σ Q x H1
theorem Ra{op}{t:TE}(h:PE X a t):PE X (.BoolOp op [a] pos) t:=λpins s σ H Q I hw=>BoolOp_one (h pins s σ H Q I hw)
theorem Rb(ha:PE X a ta)(hb:PE X (.BoolOp .And (b :: rest) pos) tb):PE X (.BoolOp .And (a :: b :: rest) pos) (Zm3 ta tb):=by
 intro pins s σ H Q I h;refine BoolOp_and (thn (ha pins s σ H _ I h) λv s1 ⟨x,H1,I1,r1,q1⟩=>?_);obtain⟨c,rfl,q1⟩:=q1;cases r1;refine iV ?_
 cases c with
 |true=>exact hb pins s1 σ H1 Q I1 q1
 |false=>exact⟨.bl false,H1,I1,rfl,q1⟩
theorem Zjq(ha:PE X a ta)(hb:PE X (.BoolOp .Or (b :: rest) pos) tb):PE X (.BoolOp .Or (a :: b :: rest) pos) (tOrV ta tb):=by
 intro pins s σ H Q I h;refine BoolOp_or (thn (ha pins s σ H _ I h) λv s1 ⟨x,H1,I1,r1,q1⟩=>?_);obtain⟨c,rfl,q1⟩:=q1;cases r1;refine iV ?_
 cases c with
 |false=>exact hb pins s1 σ H1 Q I1 q1
 |true=>exact⟨.bl true,H1,I1,rfl,q1⟩
end
def SqL(K:W.Frag)(H:Hp)(a:Addr)(xs:List V):Prop:=
 Rd H a (.lst xs)∨
  ∃(o:Obj) (its:aO) (n:Nat),K.lookup a=some o∧o.cls=.type "list"∧o.dict=none∧o.data=.seq its n∧its.size≤sizeLine∧Vals xs its.toList
def SqT(K:W.Frag)(H:Hp)(a:Addr)(xs:List V):Prop:=
 Rd H a (.tup xs)∨
  ∃(o:Obj) (its:aO) (n:Nat),K.lookup a=some o∧o.cls=.type "tuple"∧o.data=.seq its n∧its.size≤sizeLine∧Vals xs its.toList
def absV:Value→Option V
 |.none=>some .non
 |.bool b=>some (.bl b)
 |.int i _=>some (.int i)
 |.str x _=>some (.str x)
 |.bytes b _=>some (.byt b)
 |.float b _=>some (.flt b)
 |.ref a=>some (.ref a)
 |.type n=>some (.ty n)
 |_=>none
theorem RelV.abs{x:V}(r:RelV x u):absV u=some x:=by
 cases x with
 |non=>cases r;rfl
 |bl _=>cases r;rfl
 |int _=>obtain⟨t,rfl⟩:=r;rfl
 |str _=>obtain⟨t,rfl⟩:=r;rfl
 |byt _=>obtain⟨t,rfl⟩:=r;rfl
 |flt _=>obtain⟨t,rfl⟩:=r;rfl
 |ref _=>cases r;rfl
 |ty _=>cases r;rfl
theorem RelV.inj{x y:V}{u:Value}(r:RelV x u)(q:RelV y u):x=y:=Option.some.inj (r.abs.symm.trans q.abs)
theorem Vals.inj:∀{xs ys:List V}{us:aJ},Vals xs us→Vals ys us→xs=ys
 |_,_,_,.nil,.nil=>rfl
 |_,_,_,.cons r t,.cons r' t'=>by rw[r.inj r',Vals.inj t t']
section
variable {X:Cx}{pins:aD}{σ:St}{H:Hp}{s:Shared}{a:Addr}{xs ys:List V}
theorem SqL.of(h:H a=some (.lst xs)):SqL K H a xs:=.inl (.inl h)
theorem SqT.of(h:H a=some (.tup xs)):SqT K H a xs:=.inl (.inl h)
theorem Inv.list(I:Inv X pins σ H s)(h:SqL X.K H a xs):∃its:List Value,Vals xs its∧PlainL s.heap a its.toArray∧xs.length≤sizeLine:=by
 rcases h with h|⟨o,its,n,hk,hc,hd,hs,hz,r⟩
 ·obtain⟨z,its,n,r,e⟩:=h.ok I.hok;exact⟨its,r,⟨_,n,e,rfl,rfl,rfl⟩,z⟩
 ·refine⟨its.toList,r,⟨o,n,I.kIn a o hk,hc,hd,by simpa using hs⟩,?_⟩;have e:=r.length;simp only[oH]at e;lia
theorem Inv.tuple(I:Inv X pins σ H s)(h:SqT X.K H a xs):∃its:List Value,Vals xs its∧IsTup s.heap a its.toArray∧xs.length≤sizeLine:=by
 rcases h with h|⟨o,its,n,hk,hc,hs,hz,r⟩
 ·obtain⟨z,its,r,p⟩:=h.ok I.hok;exact⟨its,r,p,z⟩
 ·refine⟨its.toList,r,⟨o,I.kIn a o hk,hc,n,by simpa using hs⟩,?_⟩;have e:=r.length;simp only[oH]at e;lia
theorem Inv.Ew(I:Inv X pins σ H s)(h:SqL X.K H a xs)(h':SqL X.K H a ys):xs=ys:=by
 obtain⟨its,r,⟨o,n,e,_,_,d⟩,_⟩:=I.list h;obtain⟨its',r',⟨o',n',e',_,_,d'⟩,_⟩:=I.list h';rw[e]at e';cases e';rw[d]at d'
 injection d' with d1 _
 have:its=its':=by simpa using congrArg Array.toList d1
 subst this;exact r.inj r'
theorem Inv.Jy(I:Inv X pins σ H s)(h:SqT X.K H a xs)(h':SqT X.K H a ys):xs=ys:=by
 obtain⟨its,r,⟨o,e,_,n,d⟩,_⟩:=I.tuple h;obtain⟨its',r',⟨o',e',_,n',d'⟩,_⟩:=I.tuple h';rw[e]at e';cases e';rw[d]at d'
 injection d' with d1 _
 have:its=its':=by simpa using congrArg Array.toList d1
 subst this;exact r.inj r'
end
abbrev Cx.Kz(X:Cx)(E:aC):Cx:={ X with xe:=E }
abbrev Cx.nox(X:Cx):Cx:=X.Kz λ_ _=>False
theorem Cx.Ok.Kz{X:Cx}(ok:X.Ok)(E:aC):(X.Kz E).Ok:=
 ⟨ok.mod,ok.kind,ok.glob,ok.blt,ok.above,ok.inj,ok.has,ok.cab,ok.hd,ok.frames,ok.stk,ok.exf,ok.bs,ok.bsz,ok.Zen,ok.Zfs,ok.Nq,ok.frf⟩
theorem Cx.Ok.Sz{X:Cx}(ok:(X.Kz E).Ok):X.Ok:=
 ⟨ok.mod,ok.kind,ok.glob,ok.blt,ok.above,ok.inj,ok.has,ok.cab,ok.hd,ok.frames,ok.stk,ok.exf,ok.bs,ok.bsz,ok.Zen,ok.Zfs,ok.Nq,ok.frf⟩
section
variable {X:Cx}{pins:aD}{σ:St}{H:Hp}{s:Shared}{E:aC}
theorem Inv.Kz(I:Inv X pins σ H s)(E:aC):Inv (X.Kz E) pins σ H s:=⟨I.ok.Kz E,I.os,I.bare,I.base,I.loc,I.cell,I.free,I.U7,I.pin,I.hok,I.len⟩
theorem Inv.Sz(I:Inv (X.Kz E) pins σ H s):Inv X pins σ H s:=⟨I.ok.Sz,I.os,I.bare,I.base,I.loc,I.cell,I.free,I.U7,I.pin,I.hok,I.len⟩
theorem SP.Sz{D:Ends}{f:Flow}{s':Shared}(h:SP (X.Kz E) pins D f s'):SP X pins D f s':=by
 cases f with
 |next=>obtain⟨x4,H',I,q⟩:=h;exact⟨x4,H',I.Sz,q⟩
 |brk=>obtain⟨x4,H',I,q⟩:=h;exact⟨x4,H',I.Sz,q⟩
 |cont=>obtain⟨x4,H',I,q⟩:=h;exact⟨x4,H',I.Sz,q⟩
 |ret u=>obtain⟨v,x4,H',I,r,q⟩:=h;exact⟨v,x4,H',I.Sz,r,q⟩
theorem PSs.nox{st:List Stmt}{t:TS}(h:PSs X.nox st t):PSs X st t:=λpins s σ H D I hw=>
 iR (h pins s σ H D (I.Kz _) hw) (λ_ _ q=>q.Sz) λ_ _ z=>False.elim z
end
section
variable {X:Cx}{st:Stmt}{rest:List Stmt}{t u:TS}{e:Expr}{te:TE}{pos:Pos}
def Zmx:TS:=λD σ H=>D.nx σ H
def Zs(t u:TS):TS:=λD σ H=>t { D with nx:=u D } σ H
theorem Z1:PSs X [] Zmx:=λ_ _ σ H _ I h=>cZ ⟨σ,H,I,h⟩
theorem Ze(h1:PS X st t)(h2:PSs X rest u):PSs X (st :: rest) (Zs t u):=by
 intro pins s σ H D I h
 refine wpAny_execs_cons (thn (h1 pins s σ H { D with nx:=u D } I h) λf s1 q=>?_)
 cases f with
 |next=>
  obtain⟨x4,H',I',q⟩:=q;exact h2 pins s1 x4 H' D I' q
 |ret v=>exact q
 |brk=>exact q
 |cont=>exact q
theorem Zg(h1:PS X st t):PSs X [st] t:=by
 intro pins s σ H D I h;refine wpAny_execs_cons (thn (h1 pins s σ H D I h) λf s1 q=>?_)
 cases f with
 |next=>exact cZ q
 |ret v=>exact q
 |brk=>exact q
 |cont=>exact q
theorem Inv.quiet(I:Inv X pins σ H s):interactive X.env=false:=by simp[interactive,I.ok.kind]
def Zmz(te:TE):TS:=λD σ H=>te σ H λ_ H1=>D.nx σ H1
theorem W8(he:PE X e te)(hs:swapsWith e none pos.line X.env=pure false:=by rfl):PS X (.Expr e pos) (Zmz te):=by
 intro pins s σ H D I h;exact wpAny_Expr_any (thn (he pins s σ H _ I h) λv s1 ⟨x,H1,I1,r1,q1⟩=>⟨σ,H1,I1,q1⟩) I.quiet hs
def tRet(te:TE):TS:=λD σ H=>te σ H D.rt
theorem Zq(he:PE X e te):PS X (.Return (some e) pos) (tRet te):=by
 intro pins s σ H D I h;exact wpAny_Return_some (thn (he pins s σ H _ I h) λv s1 ⟨x,H1,I1,r1,q1⟩=>⟨x,σ,H1,I1,r1,q1⟩)
def K2(c:TT)(t u:TS):TS:=λD σ H=>c σ H λb H1=>if b=true then t D σ H1 else u D σ H1
theorem Ys{c:Expr}{a b:List Stmt}{tc:TT}(hc:PT X c tc)(ha:PSs X a t)(hb:PSs X b u):PS X (.If c a b pos) (K2 tc t u):=by
 intro pins s σ H D I h;refine wpAny_If (thn (hc pins s σ H _ I h) λd s1 ⟨H1,I1,q1⟩=>?_)
 cases d with
 |true=>exact ha pins s1 σ H1 D I1 q1
 |false=>exact hb pins s1 σ H1 D I1 q1
end
abbrev TG:=V→St→Hp→(St→Hp→Prop)→Prop
abbrev TGs:=List V→St→Hp→(St→Hp→Prop)→Prop
def PG(X:Cx)(target:Expr)(t:TG):Prop:=
 ∀(pins:aD) (s:Shared) (σ:St) (H:Hp) (v:V) (u:Value) (Q:St→Hp→Prop),Inv X pins σ H s→RelV v u→t v σ H Q→
  wpAny (model X.prog X.w) X.A (assign target X.env u) (λ_ s'=>∃x4 H',Inv X pins x4 H' s'∧Q x4 H') X.xe s
def PGs(X:Cx)(ts:aV)(t:TGs):Prop:=
 ∀(pins:aD) (s:Shared) (σ:St) (H:Hp) (vs:List V) (us:aJ) (Q:St→Hp→Prop),Inv X pins σ H s→Vals vs us→t vs σ H Q→
  wpAny (model X.prog X.w) X.A (assignInOrder ((assignEach ts X.env).map (·.2)) us) (λ_ s'=>∃x4 H',Inv X pins x4 H' s'∧Q x4 H') X.xe s
abbrev Zmm:=V→V→V→Hp→(Hp→Prop)→Prop
def Zo6(X:Cx)(t:Zmm):Prop:=
 ∀(pins:aD) (s:Shared) (σ:St) (H:Hp) (o i v:V) (ov iv u:Value) (Q:Hp→Prop),Inv X pins σ H s→RelV o ov→RelV i iv→RelV v u→t o i v H Q→
  wpAny (model X.prog X.w) X.A (setItem ov iv u) (λ_ s'=>∃H',Inv X pins σ H' s'∧Q H') X.xe s
section
variable {X:Cx}{pos:Pos}
def N6(i:Nat):TG:=λv σ H Q=>Q (σ.set i (some v)) H
theorem Zo(hN:X.N.Nodup)(hi:X.N[i]?=some x)(hx:Loc X.env.scope x)(hf:X.fn x=true∨X.env.scope.names.lookup x=some .local:=by first|exact .inl rfl|exact .inr rfl|assumption):PG X (.Name x pos) (N6 i):=by
 intro pins s σ H v u Q I r h;exact wpAny_assign_Name (S1 I hN hi hx r (λs' I'=>⟨_,H,I',h⟩) hf)
def Zl5:TGs:=λvs σ H Q=>vs=[]∧Q σ H
inductive Zfn(t:TG)(u:TGs)(vs:List V)(σ:St)(H:Hp)(Q:St→Hp→Prop):Prop
 |mk(v r:_)(h1:vs=v :: r)(h2:t v σ H λx4 H'=>u r x4 H' Q):Zfn t u vs σ H Q
def Zai(t:TG)(u:TGs):TGs:=λvs σ H Q=>Zfn t u vs σ H Q
theorem Vb:PGs X [] Zl5:=by
 intro pins s σ H vs us Q I r h;obtain⟨e,h⟩:=h;subst e;cases r;exact assignInOrder_nil ⟨σ,H,I,h⟩
theorem Yb{es:aV}{t:TG}{u:TGs}(h1:PG X e t)(h2:PGs X es u)
  (hs:(assignEach (e :: es) X.env).map (·.2)=assign e X.env :: (assignEach es X.env).map (·.2):=by rfl):PGs X (e :: es) (Zai t u):=by
 intro pins s σ H vs us Q I r h;obtain⟨v,vr,e1,h⟩:=h;subst e1
 cases r with
 |cons r rr=>
  rw[hs];refine assignInOrder_cons (thn (h1 pins s σ H _ _ _ I r h) λ_ s1 ⟨mV,H1,I1,q1⟩=>?_);exact h2 pins s1 mV H1 _ _ Q I1 rr q1
inductive Zj0(K:W.Frag)(n:Nat)(t:TGs)(v:V)(σ:St)(H:Hp)(Q:St→Hp→Prop):Prop
 |mk(a xs:_)(h1:v=.ref a)(h2:SqT K H a xs)(h3:xs.length=n)(h4:t xs σ H Q):Zj0 K n t v σ H Q
def Zh5(K:W.Frag)(n:Nat)(t:TGs):TG:=λv σ H Q=>Zj0 K n t v σ H Q
theorem Zk9{es:aV}{k:Nat}{t:TGs}(hc:X.calm=true)(h:PGs X es t)
  (hn:(assignEach es X.env).length=n:=by rfl) (k5:(assignEach es X.env).findIdx? (·.1)=none:=by rfl):PG X (.Tuple es k pos) (Zh5 X.K n t):=by
 intro pins s σ H v u Q I r hw;obtain⟨a,xs,e1,hq,hl,hw⟩:=hw;subst e1;cases r;obtain⟨its,rv,ht,hz⟩:=I.tuple hq;refine assign_Tuple_tuple (I.ok.hd hc) ht (by simp[hn,←hl,rv.length]) k5 λh' hx=>?_
 have I1:Inv X pins σ H { s with heap:=h' }:=I.kept (t':=s.toks) λb o e=>hx b o (rV (rO e)) e;exact h pins _ σ H xs _ Q I1 (by simpa using rv) hw
def gSub(to ti:TE)(t:Zmm):TG:=λv σ H Q=>to σ H λo H1=>ti σ H1 λi H2=>t o i v H2 λH3=>Q σ H3
theorem S9{o i:Expr}{to ti:TE}{t:Zmm}(ho:PE X o to)(hi:PE X i ti)(hs:Zo6 X t)
  (ha:∀v,assign (.Subscript o i pos) X.env v=(do
   let ov ←holding [v] (eval o X.env)
   let iv ←holding [v,ov] (eval i X.env)
   standAt pos
   holding [v,ov,iv] (setItem ov iv v)
   release [v,ov,iv] []):=by intro _;rfl):PG X (.Subscript o i pos) (gSub to ti t):=by
 intro pins s σ H v u Q I r h;rw[ha];refine rB (oJ (thn (ho pins s σ H _ I h) λov s1 ⟨x,H1,I1,r1,q1⟩=>?_));refine rB (oJ (thn (hi pins s1 σ H1 _ I1 q1) λiv s2 ⟨y,H2,I2,r2,q2⟩=>?_));refine rB (dX (rB (oJ (thn (hs pins s2 σ H2 x y v ov iv u _ I2 r1 r2 r q2) λ_ s3 ⟨H3,I3,q3⟩=>?_))));exact wpAny_release ⟨σ,H3,I3,q3⟩
def Zkp(te:TE)(g:TG):TS:=λD σ H=>te σ H λx H1=>g x σ H1 D.nx
theorem Tn(he:PE X e te)(hg:PG X tg g)(hs:swapsWithSole [tg] e pos.line X.env=pure false:=by rfl)(hw:swappedStores [tg] e X.env=pure none:=by rfl)
  (h1:(assignEach [tg] X.env).map (·.2)=[assign tg X.env]:=by rfl):PS X (.Assign [tg] e pos) (Zkp te g):=by
 intro pins s σ H D I h;refine wpAny_Assign_stores (thn (he pins s σ H _ I h) λv s1 ⟨x,H1,I1,r1,q1⟩=>?_) hs hw;rw[h1];exact thn (hg pins s1 σ H1 x v _ I1 r1 q1) λ_ s2 q=>q
theorem Zn{pos':Pos}(hN:X.N.Nodup)(hi:X.N[i]?=some x)(hx:Loc X.env.scope x)(he:PE X e te)(hs:swapsWith e (some (.Name x pos')) pos.line X.env=pure false:=by rfl)(hf:X.fn x=true∨X.env.scope.names.lookup x=some .local:=by first|exact .inl rfl|exact .inr rfl|assumption):
  PS X (.Assign [.Name x pos'] e pos) (Zkp te (N6 i)):=by
 intro pins s σ H D I h;refine wpAny_Assign_Name (thn (he pins s σ H _ I h) λv s1 ⟨y,H1,I1,r1,q1⟩=>?_) hs;exact S1 I1 hN hi hx r1 (λs2 I2=>⟨_,H1,I2,q1⟩) hf
inductive Zir(i:Nat)(j:Nat)(D:Ends)(σ:St)(vs:List V)(H1:Hp):Prop
 |mk(v w:_)(h1:vs=[v,w])(h2:D.nx ((σ.set i (some v)).set j (some w)) H1):Zir i j D σ vs H1
def tPar(i j:Nat)(ta:TA):TS:=λD σ H=>ta σ H λvs H1=>Zir i j D σ vs H1
theorem Zk7{y:Str}{a b:Expr}{ta:TA}{px py pt:Pos}{kt k2 nL}(hc:X.calm=true)(hN:X.N.Nodup)(hi:X.N[i]?=some x)(hj:X.N[j]?=some y)(mG:i≠j)
  (hx:X.env.scope.names.lookup x=some .local) (hy:X.env.scope.names.lookup y=some .local) (ha:PA X [a,b] ta)
  (hw:swappedStores [.Tuple [.Name x px,.Name y py] kt pt] (.Tuple [a,b] k2 nL) X.env=pure (some [x,y]))
  (hs:swapsWithSole [.Tuple [.Name x px,.Name y py] kt pt] (.Tuple [a,b] k2 nL) pos.line X.env=pure false:=by rfl) :
  PS X (.Assign [.Tuple [.Name x px,.Name y py] kt pt] (.Tuple [a,b] k2 nL) pos) (tPar i j ta):=by
 intro pins s σ H D I h;rw[exec_Assign_arm];refine rB (dX ?_);rw[hs];refine rB (rF ?_);rw[if_neg (by decide)];refine rB (Tuple_ (thn (ha _ pins s σ H _ I h) λus s1 ⟨vs,H1,I1,r1,q1⟩=>?_));obtain⟨v,w,e1,q1⟩:=q1;subst e1
 obtain⟨u1,u2,rfl,rv,p8⟩:∃u1 u2,us=[u1,u2]∧RelV v u1∧RelV w u2:=by
  cases r1 with
  |cons p q=>
   cases q with
   |cons p' q'=>
    cases q';exact⟨_,_,rfl,p,p'⟩
 refine pX ?_ (by show 2≤sizeLine;decide)
 have I2:Inv X pins σ H1 { s1 with heap:=s1.heap.push { cls:=.type "tuple",data:=.seq [u1,u2].toArray } }:=I1.kept (t':=s1.toks) λb o e=>rE _ e;rw[hw];refine rB (rF ?_);show wpAny (model X.prog X.w) X.A (do rule "assign.swapped-stores";let items ←unpackItems (.ref s1.heap.objs.size) 2 none;assignInOrder [λv=>bindName X.env y v,λv=>bindName X.env x v] items.reverse;pure Flow.next) _ _ _;refine rB (dA (rB (unpackItems_tuple (items:=#[u1,u2]) (I.ok.hd hc) (bN s1.heap _) λh' l4=>?_)));have I3:=I2.kept (h':=h') (t':=s1.toks) λb o e=>l4 b o (rV (rO e)) e;show wpAny _ _ (assignInOrder [λv=>bindName X.env y v,λv=>bindName X.env x v] [u2,u1] >>= λ_=>pure Flow.next) _ _ _;refine rB (assignInOrder_cons (wpAny_bindName (S1 I3 hN hj (.inl hy) p8 (λs2 I4=>?_) (.inr hy))));refine assignInOrder_cons (wpAny_bindName (S1 I4 hN hi (.inl hx) rv (λs3 I5=>assignInOrder_nil (rF ?_)) (.inr hx)));rw[List.set_comm _ _ (lW mG)]at I5;exact⟨_,H1,I5,q1⟩
end
section
variable {X:Cx}{pos:Pos}
inductive B0(c:TT)(tb:TS)(D:Ends)(σ:St)(H:Hp):Prop
 |mk(W:Nat→St→Hp→Prop)(h1:(∃m,W m σ H))(h2:∀m σ H,W m σ H→c σ H λb H1=>if b=true then ∃N:St→Hp→Prop,(∀x4 H',N x4 H'→∃m',m'<m∧W m' x4 H')∧tb { D with nx:=N,ct:=N,bk:=D.nx } σ H1 else D.nx σ H1):B0 c tb D σ H
def Le(c:TT)(tb:TS):TS:=λD σ H=>B0 c tb D σ H
theorem Oa{c:Expr}{tc:TT}(hp:PassesOwn (model X.prog X.w) X.A X.env X.xe)(hc:PT X c tc)(hb:PSs X body tb):PS X (.While c body [] pos) (Le tc tb):=by
 intro pins s σ H D I h;obtain⟨W,⟨m0,w0⟩,turn⟩:=h;refine wpAny_While (codeAny_whileLoop (λn s'=>∃x4 H',Inv X pins x4 H' s'∧W n x4 H') ?_ m0 ⟨σ,H,I,w0⟩);rintro n s1 ⟨mV,H1,I1,w1⟩;refine fJ hp (thn (hc pins s1 mV H1 _ I1 (turn n mV H1 w1)) λb s2 ⟨H2,I2,q2⟩=>?_)
 cases b with
 |true=>
  obtain⟨N,hN,q2⟩:=q2;rw[if_pos rfl];refine fJ hp (thn (hb pins s2 mV H2 _ I2 q2) λf s3 q3=>?_)
  cases f with
  |next=>
   obtain⟨eO,H3,I3,n3⟩:=q3;obtain⟨m',hm,w3⟩:=hN eO H3 n3;exact⟨m',hm,eO,H3,I3,w3⟩
  |cont=>
   obtain⟨eO,H3,I3,n3⟩:=q3;obtain⟨m',hm,w3⟩:=hN eO H3 n3;exact⟨m',hm,eO,H3,I3,w3⟩
  |brk=>exact q3
  |ret v=>exact q3
 |false=>
  rw[if_neg rU];exact cZ ⟨mV,H2,I2,q2⟩
end
structure It where
 go:Nat→Hp→Prop
 yld:Nat→Hp→V→Hp→Prop
 stop:Nat→Hp→Prop
def Ku(X:Cx)(pins:aD)(H:Hp)(b:Addr):Prop:=
 H b=none∧b≠X.env.locals∧b∉X.fs∧(b∈X.ex∨X.s₀.heap.objs.size≤b)∧(∀x c,X.env.cells.lookup x=some c→c≠b)∧∀p∈X.pn++pins,p.1≠b
theorem Inv.Mm(I:Inv X pins σ H s)(hb:s.heap.objs.size≤b)(hn:H' b=none):Ku X pins H' b:=by
 refine⟨hn,fE (rZ I.lt hb),I.Zn1 hb,.inr (pQ I.sz hb),λx c e z=>?_,λp hp z=>?_⟩
 ·obtain⟨v,q⟩:=I.cell x c e;exact absurd (rZ q.lt (by rw[z];exact hb)) (oT _)
 ·exact absurd (rZ (rO (I.pin p hp).1) (by rw[z];exact hb)) (oT _)
structure Turn(P:Program)(w:World)(K:W.Frag)(tg:Expr)(J:It)(fp:ZQ)(it:Addr)(tn:Nat→Heap→Prop):Prop where
 mem:it∈fp
 obj:∀i h,tn i h→∀b∈fp,∃o,h.get? b=some o∧∀v,o.data≠.cell v
 keep:∀i h h',tn i h→(∀b∈fp,∀o,h.get? b=some o→h'.get? b=some o)→tn i h'
 item:∀(X:Cx),X.prog=P→X.w=w→X.K=K→X.calm=true→∀(i:Nat) (pins:aD) (s:Shared) (σ:St) (H:Hp) (E:aC),Inv X pins σ H s→(∀b∈fp,Ku X pins H b)→tn i s.heap→J.go i H→
  wpAny (model P w) X.A (pyNext (.ref it)) (λr s1=>∃u,r=some u∧
   wpAny (model P w) X.A (letOwnedTupleGo tg (.ref it) u) (λ_ s2=>∃x H',Inv X pins σ H' s2∧RelV x u∧J.yld i H x H'∧tn (i+1) s2.heap∧∀b∈fp,H' b=none) E s1) E s
 done:∀(X:Cx),X.prog=P→X.w=w→X.K=K→X.calm=true→∀(i:Nat) (pins:aD) (s:Shared) (σ:St) (H:Hp) (E:aC),Inv X pins σ H s→(∀b∈fp,Ku X pins H b)→tn i s.heap→J.stop i H→
  wpAny (model P w) X.A (pyNext (.ref it)) (λr s1=>r=none∧Inv X pins σ H s1) E s
 self:∀(A:Around) (i:Nat) (s:Shared) (Q:aC) (E:aC),tn i s.heap→Q (.ref it) s→wpAny (model P w) A (pyIter (.ref it)) Q E s
abbrev TI:=St→Hp→(It→Hp→Prop)→Prop
def PIE(X:Cx)(pins:aD)(σ:St)(tg:Expr)(R:It→Hp→Prop)(qL:Value)(s2:Shared):Prop:=
 ∃(it:Addr) (fp:ZQ) (tn:Nat→Heap→Prop) (J:It) (H':Hp),qL=.ref it∧Inv X pins σ H' s2∧Turn X.prog X.w X.K tg J fp it tn∧tn 0 s2.heap∧(∀b∈fp,Ku X pins H' b)∧R J H'
def PI(X:Cx)(tg iter:Expr)(wi:TI):Prop:=
 ∀(pins:aD) (s:Shared) (σ:St) (H:Hp) (R:It→Hp→Prop),Inv X pins σ H s→wi σ H R→
  wpAny (model X.prog X.w) X.A (eval iter X.env) (λv s1=>wpAny (model X.prog X.w) X.A (pyIter v) (PIE X pins σ tg R) X.xe s1) X.xe s
theorem Ie{n:String}{vs:aO}{Q:ZS}(ho:s.heap.get? it=some o)(hc:o.cls=.type n)(hd:o.data=.fields vs)
  (hn:["enumerate","zip","dict_itemiterator","dict_reverseitemiterator","odict_iterator","itertools.zip_longest","itertools.pairwise"].contains n=false) (hQ:Q () s):wpAny M A (letOwnedTupleGo tg (.ref it) u) Q E s:=by
 unfold letOwnedTupleGo
 cases tg<;>first
  |exact rF hQ
  | (cases u<;>first
    |exact rF hQ
    | (refine rB (wpAny_load ho ?_)
       rw[hc,hd];show wpAny M A (if (["enumerate","zip","dict_itemiterator","dict_reverseitemiterator","odict_iterator","itertools.zip_longest","itertools.pairwise"].contains n&&vs[0]? == some (rawInt _))=true then _ else _) Q E s;rw[if_neg (by intro h;rw[hn,Bool.false_and]at h;cases h)]
       exact rF hQ))
def Itl(K:W.Frag)(a:Addr):It:=
 ⟨λi H=>∃xs x,SqL K H a xs∧xs[i]?=some x,λi H x H'=>H'=H∧∀xs,SqL K H a xs→xs[i]?=some x,λi H=>∃xs,SqL K H a xs∧xs.length≤i⟩
def Itt(K:W.Frag)(a:Addr):It:=
 ⟨λi H=>∃xs x,SqT K H a xs∧xs[i]?=some x,λi H x H'=>H'=H∧∀xs,SqT K H a xs→xs[i]?=some x,λi H=>∃xs,SqT K H a xs∧xs.length≤i⟩
def Itr(lo:Int)(n:Nat):It:=⟨λi _=>i<n,λi H x H'=>H'=H∧x=.int (lo+i),λi _=>n≤i⟩
theorem Zax(a it:Addr):Turn P w K tg (Itl K a) [it] it (λi h=>h.IsListIter it a i) where
 mem:=by simp
 obj:=λi h st b hb=>by
  have e:b=it:=by simpa using hb
  subst e;obtain⟨o,e,c,d⟩:=st;exact⟨o,e,λv z=>by rw[d]at z;cases z⟩
 keep:=λi h h' st k=>st.at λo e=>k it (by simp) o e
 item:=by
  intro X hP hw hK hc i pins s σ H E I hf st hg;subst hP hw hK;obtain⟨xs,x,hq,hx⟩:=hg;obtain⟨its,rv,p,hz⟩:=I.list hq;obtain⟨u,hu,ru⟩:=rv.get hx;obtain⟨f0,f1,f2,f3,f4,f5⟩:=hf it (by simp);refine wpAny_pyNext_list_item st p.isList (x:=u) (by simpa using hu) λh' u9 sb=>?_
  have I1:Inv X pins σ H { s with heap:=h' }:=I.turned (t':=s.toks) (λb o hb e=>(sb.2 b hb).trans e) f0 f1 f3 f4 f5;obtain⟨o,e,c,d⟩:=id u9
  exact⟨u,rfl,Ie (s:={ s with heap:=h' }) e c d (by decide) ⟨x,H,I1,ru,⟨rfl,λys hy=>by rw[I.Ew hy hq];exact hx⟩,u9,λb hb=>(hf b hb).1⟩⟩
 done:=by
  intro X hP hw hK hc i pins s σ H E I hf st hg;subst hP hw hK;obtain⟨xs,hq,hx⟩:=hg;obtain⟨its,rv,p,hz⟩:=I.list hq;obtain⟨f0,f1,f2,f3,f4,f5⟩:=hf it (by simp);have hl:=rv.length;exact wpAny_pyNext_list_end (I.ok.hd hc) st p.isList (by simp;lia) λh' eb=>⟨rfl,I.turned (t':=s.toks) (λb o hb e=>eb b o hb e) f0 f1 f3 f4 f5⟩
 self:=λ_ _ _ _ _ st h=>wpAny_pyIter_listiter st h
theorem Ds(a it:Addr):Turn P w K tg (Itt K a) [it] it (λi h=>h.IsTupleIter it a i) where
 mem:=by simp
 obj:=λi h st b hb=>by
  have e:b=it:=by simpa using hb
  subst e;obtain⟨o,e,c,d⟩:=st;exact⟨o,e,λv z=>by rw[d]at z;cases z⟩
 keep:=λi h h' st k=>st.at λo e=>k it (by simp) o e
 item:=by
  intro X hP hw hK hc i pins s σ H E I hf st hg;subst hP hw hK;obtain⟨xs,x,hq,hx⟩:=hg;obtain⟨its,rv,p,hz⟩:=I.tuple hq;obtain⟨u,hu,ru⟩:=rv.get hx;obtain⟨f0,f1,f2,f3,f4,f5⟩:=hf it (by simp);refine wpAny_pyNext_tuple_item st (show s.heap.IsTuple a its.toArray from p) (x:=u) (by simpa using hu) λh' u9 sb=>?_
  have I1:Inv X pins σ H { s with heap:=h' }:=I.turned (t':=s.toks) (λb o hb e=>(sb.2 b hb).trans e) f0 f1 f3 f4 f5;obtain⟨o,e,c,d⟩:=id u9
  exact⟨u,rfl,Ie (s:={ s with heap:=h' }) e c d (by decide) ⟨x,H,I1,ru,⟨rfl,λys hy=>by rw[I.Jy hy hq];exact hx⟩,u9,λb hb=>(hf b hb).1⟩⟩
 done:=by
  intro X hP hw hK hc i pins s σ H E I hf st hg;subst hP hw hK;obtain⟨xs,hq,hx⟩:=hg;obtain⟨its,rv,p,hz⟩:=I.tuple hq;obtain⟨f0,f1,f2,f3,f4,f5⟩:=hf it (by simp);have hl:=rv.length;exact wpAny_pyNext_tuple_end (I.ok.hd hc) st (show s.heap.IsTuple a its.toArray from p) (by simp;lia) λh' eb=>⟨rfl,I.turned (t':=s.toks) (λb o hb e=>eb b o hb e) f0 f1 f3 f4 f5⟩
 self:=λ_ _ _ _ _ st h=>wpAny_pyIter_tupleiter st h
theorem Du(it:Addr)(lo:Int)(n:Nat):Turn P w K tg (Itr lo n) [it] it (λi h=>IsRangeIter h it (lo+(i:Nat)*1) ((n:Int)-(i:Nat)) 1) where
 mem:=by simp
 obj:=λi h st b hb=>by
  have e:b=it:=by simpa using hb
  subst e
  exact⟨_,st,λv z=>by
   have z':Data.fields _=Data.cell v:=z
   cases z'⟩
 keep:=λi h h' st k=>k it (by simp) _ st
 item:=by
  intro X hP hw hK hc i pins s σ H E I hf st hg;subst hP hw hK;obtain⟨f0,f1,f2,f3,f4,f5⟩:=hf it (by simp);have W:=Walks.range (prog:=X.prog) (w:=X.w) (I.ok.hd hc) it lo 1 n;refine W.item i s _ _ hg st λv h' tk hv u9 kk=>?_;obtain⟨t,rfl⟩:=hv
  have I1:Inv X pins σ H { s with heap:=h',toks:=tk }:=I.turned (λb o hb e=>kk b o (by simpa using hb) e) f0 f1 f3 f4 f5
  refine⟨_,rfl,Ie (s:={ s with heap:=h',toks:=tk }) (n:="range_iterator") u9 rfl rfl (by decide) ⟨.int (lo+i),H,I1,⟨t,?_⟩,⟨rfl,rfl⟩,u9,λb hb=>(hf b hb).1⟩⟩;rw[Int.mul_one]
 done:=by
  intro X hP hw hK hc i pins s σ H E I hf st hg;subst hP hw hK;obtain⟨f0,f1,f2,f3,f4,f5⟩:=hf it (by simp);exact wpAny_pyNext_range_end (I.ok.hd hc) st (by have:n≤i:=hg;lia) λh' eb=>⟨rfl,I.turned (t':=s.toks) (λb o hb e=>eb b o hb e) f0 f1 f3 f4 f5⟩
 self:=λ_ _ _ _ _ st h=>wpAny_pyIter_rangeiter st h
section
variable {X:Cx}{tg:Expr}
inductive Zfa(K:W.Frag)(R:It→Hp→Prop)(x:V)(H1:Hp):Prop
 |mk(a:_)(h1:x=.ref a)(h2:(∃xs,SqL K H1 a xs))(h3:R (Itl K a) H1):Zfa K R x H1
def Zjy(K:W.Frag)(tl:TE):TI:=λσ H R=>tl σ H λx H1=>Zfa K R x H1
inductive Zjx(K:W.Frag)(R:It→Hp→Prop)(x:V)(H1:Hp):Prop
 |mk(a:_)(h1:x=.ref a)(h2:(∃xs,SqT K H1 a xs))(h3:R (Itt K a) H1):Zjx K R x H1
def Zn6(K:W.Frag)(tl:TE):TI:=λσ H R=>tl σ H λx H1=>Zjx K R x H1
theorem Zhd{l:Expr}(hl:PE X l tl):PI X tg l (Zjy X.K tl):=by
 intro pins s σ H R I h;refine thn (hl pins s σ H _ I h) λv s1 ⟨x,H1,I1,r1,q1⟩=>?_;obtain⟨a,e,⟨xs,hq⟩,q⟩:=q1;subst e;cases r1;obtain⟨its,rv,p,hz⟩:=I1.list hq;refine dH p.isList ?_;refine⟨s1.heap.objs.size,[s1.heap.objs.size],_,_,H1,rfl,I1.kept (t':=s1.toks) λb o e=>rE _ e,Zax a _,⟨_,rR _ rfl,rfl,rfl⟩,λb hb=>?_,q⟩;have e:b=s1.heap.objs.size:=by simpa using hb
 subst e;exact I1.Mm (rG _) (I1.hok.fresh (rG _))
theorem Zk8{l:Expr}(hl:PE X l tl):PI X tg l (Zn6 X.K tl):=by
 intro pins s σ H R I h;refine thn (hl pins s σ H _ I h) λv s1 ⟨x,H1,I1,r1,q1⟩=>?_;obtain⟨a,e,⟨xs,hq⟩,q⟩:=q1;subst e;cases r1;obtain⟨its,rv,p,hz⟩:=I1.tuple hq;refine cD (show s1.heap.IsTuple a its.toArray from p) ?_;refine⟨s1.heap.objs.size,[s1.heap.objs.size],_,_,H1,rfl,I1.kept (t':=s1.toks) λb o e=>rE _ e,Ds a _,⟨_,rR _ rfl,rfl,rfl⟩,λb hb=>?_,q⟩;have e:b=s1.heap.objs.size:=by simpa using hb
 subst e;exact I1.Mm (rG _) (I1.hok.fresh (rG _))
theorem Zdm{R:It→Hp→Prop}{lo hi:Int}{t u v:Tok}{tk:Nat}(I:Inv X pins σ H s)(h1 : -(2 ^ 62)≤lo)(h2:lo<2 ^ 62)(h3 : -(2 ^ 62)≤hi)(h4:hi<2 ^ 62)
  (q:R (Itr lo (hi-lo).toNat) H):wpAny (model X.prog X.w) X.A (pyIter (.ref s.heap.objs.size)) (PIE X pins σ tg R) E { s with heap:=s.heap.push { cls:=.type "range",data:=.fields #[.int lo t,.int hi u,.int 1 v] },toks:=tk }:=by
 refine wpAny_pyIter_range (IsRange.new ..) (small_one h1 h2 h3 h4) ?_
 have I1:Inv X pins σ H { s with heap:=s.heap.push { cls:=.type "range",data:=.fields #[.int lo t,.int hi u,.int 1 v] },toks:=tk }:=I.kept λb o e=>rE _ e
 refine⟨(s.heap.push { cls:=.type "range",data:=.fields #[.int lo t,.int hi u,.int 1 v] }).objs.size,[(s.heap.push { cls:=.type "range",data:=.fields #[.int lo t,.int hi u,.int 1 v] }).objs.size],_,_,H,rfl,
  I1.kept (t':=tk) λb o e=>rE _ e,Du _ lo (hi-lo).toNat,?_,λb hb=>?_,q⟩
 ·have e1:lo+((0:Nat):Int)*1=lo:=by simp
  have e2:(((hi-lo).toNat:Nat):Int)-((0:Nat):Int)=Builtin.Range.rangeSize lo hi 1:=by rw[rangeSize_one];split<;>lia
  show IsRangeIter _ _ (lo+((0:Nat):Int)*1) ((((hi-lo).toNat:Nat):Int)-((0:Nat):Int)) 1;rw[e1,e2];exact rR _ rfl
 ·have e:b=(s.heap.push { cls:=.type "range",data:=.fields #[.int lo t,.int hi u,.int 1 v] }).objs.size:=by simpa using hb
  subst e;exact I1.Mm (rG _) (I1.hok.fresh (rG _))
inductive Ze9(R:It→Hp→Prop)(vs:List V)(H1:Hp):Prop
 |mk(j:Int)(h1:vs=[.int j])(h2 : -(2 ^ 62)≤j)(h3:j<2 ^ 62)(h4:R (Itr 0 j.toNat) H1):Ze9 R vs H1
def Zn7(ta:TA):TI:=λσ H R=>ta σ H λvs H1=>Ze9 R vs H1
theorem Xz{a:Expr}{ta:TA}(hg:Gl X "range")(hm:X.mg "range"=none)(ha:PA X [a] ta)(hs:starEach [a] X.env=[(false,eval a X.env)]:=by rfl):PI X tg (.Call (.Name "range" p) [a] [] pos) (Zn7 ta):=by
 intro pins s σ H R I h;refine Call_ (V3 I hg hm boot_range (oS (thn (ha pos pins s σ H _ I h) λus s1 ⟨vs,H1,I1,r1,q1⟩=>?_) hs rfl));obtain⟨j,e,q1,q2,q⟩:=q1;subst e
 cases r1 with
 |cons r rr=>
  cases rr;obtain⟨t,rfl⟩:=r;exact call_range_1 (Zdm I1 (by lia) (by lia) q1 q2 (by simpa using q))
def O7(wi:TI)(g:TG)(tb:TS):TS:=λD σ H=>wi σ H λJ H1=>∃W:Nat→Nat→St→Hp→Prop,(∃m,W 0 m σ H1)∧∀i m σ H,W i m σ H→
 (J.stop i H∧D.nx σ H)∨(J.go i H∧∃N:St→Hp→Prop,(∀x4 H',N x4 H'→∃m',m'<m∧W (i+1) m' x4 H')∧∀x H',J.yld i H x H'→g x σ H' λy0 H2=>tb { D with nx:=N,ct:=N,bk:=D.nx } y0 H2)
def Ng(fp:ZQ)(h:Heap):List aF:=fp.filterMap λb=>(h.get? b).map λo=>(b,o)
theorem Tp(hb:b∈fp)(e:h.get? b=some o):(b,o)∈Ng fp h:=List.mem_filterMap.mpr ⟨b,hb,by rw[e];rfl⟩
theorem Zbc{p:Addr×Obj}(hp:p∈Ng fp h):p.1∈fp∧h.get? p.1=some p.2:=by
 obtain⟨b,hb,e⟩:=List.mem_filterMap.mp hp
 cases q:h.get? b with
 |none=>rw[q]at e;cases e
 |some o=>
  rw[q]at e;have e':(b,o)=p:=Option.some.inj e;subst e';exact⟨hb,q⟩
theorem Inv.pinned(I:Inv X pins σ H s)(hf:∀b∈fp,Ku X pins H b)(ho:∀b∈fp,∃o,s.heap.get? b=some o∧∀v,o.data≠.cell v):Inv X (pins++Ng fp s.heap) σ H s:=
 I.Mq λp hp=>(oB.mp hp).elim (λz=>I.pin p (pV _ z)) λz=>by
  obtain⟨hb,e⟩:=Zbc z;obtain⟨f0,f1,f2,_⟩:=hf p.1 hb;obtain⟨o,e',d⟩:=ho p.1 hb;rw[e]at e';cases e';exact⟨e,f0,f1,f2,d⟩
theorem Inv.Lc{pl:aD}(I:Inv X (pins++pl) σ H s):Inv X pins σ H s:=I.Mq λp hp=>I.pin p (pV _ (lV _ hp))
theorem Y5{iter:Expr}{wi:TI}(hp:PassesOwn (model X.prog X.w) X.A X.env X.xe)(hc:X.calm=true)(hi:PI X tg iter wi)(hg:PG X tg g)(hb:PSs X body tb)
  (hs:∀x,foldedSetIterable iter X.env x=pure x:=by intro _;rfl):PS X (.For tg iter body [] pos) (O7 wi g tb):=by
 intro pins s σ H D I h;refine wpAny_For (thn (hi pins s σ H _ I h) λv s1 h1=>thn h1 λqL s2 h2=>?_) hs;obtain⟨it,fp,tn,J,H2,e,I2,T,st2,f2,W,⟨m0,w0⟩,turn⟩:=h2;subst e;have D3:∀{H':Hp},(∀b∈fp,H' b=none)→∀b∈fp,Ku X pins H' b:=λhn b hb=>⟨hn b hb,(f2 b hb).2⟩;refine codeAny_forLoop_any (λn s'=>∃i x4 H',Inv X pins x4 H' s'∧tn i s'.heap∧(∀b∈fp,H' b=none)∧W i n x4 H') ?_ m0 ⟨0,σ,H2,I2,st2,λb hb=>(f2 b hb).1,w0⟩;rintro n s3 ⟨i,eO,H3,I3,gY,kG,w3⟩
 rcases turn i n eO H3 w3 with ⟨stop,qn⟩|⟨go,N,hN,step⟩
 ·refine fJ hp (thn (T.done X rfl rfl rfl hc i pins s3 eO H3 X.xe I3 (D3 kG) gY stop) λr s4 ⟨hr,I4⟩=>?_);subst hr;exact cZ ⟨eO,H3,I4,qn⟩
 ·refine fJ hp (thn (T.item X rfl rfl rfl hc i pins s3 eO H3 X.xe I3 (D3 kG) gY go) λr s4 ⟨u,hr,h4⟩=>?_);subst hr;refine fJ hp (thn h4 λ_ s5 ⟨x,H5,I5,r5,y5,yV,wM⟩=>?_);have vS:=I5.pinned (D3 wM) (T.obj _ _ yV);refine fJ hp (thn (hg _ s5 eO H5 x u _ vS r5 (step x H5 y5)) λ_ s6 ⟨tF,H6,I6,q6⟩=>?_);refine fJ hp (thn (hb _ s6 tF H6 _ I6 q6) λf s7 q7=>?_)
  have again:∀{eP:St}{H7:Hp},Inv X (pins++Ng fp s5.heap) eP H7 s7→N eP H7→∃m,m<n∧∃i x4 H',Inv X pins x4 H' s7∧tn i s7.heap∧(∀b∈fp,H' b=none)∧W i m x4 H':=λ{eP H7} I7 n7=>by
   obtain⟨m',hm,w7⟩:=hN eP H7 n7;refine⟨m',hm,i+1,eP,H7,I7.Lc,T.keep _ _ _ yV λb hb o e=>(I7.pin (b,o) (pV _ (pV _ (Tp hb e)))).1,λb hb=>?_,w7⟩;obtain⟨o,e,d⟩:=T.obj _ _ yV b hb;exact(I7.pin (b,o) (pV _ (pV _ (Tp hb e)))).2.1
  cases f with
  |next=>obtain⟨eP,H7,I7,n7⟩:=q7;exact again I7 n7
  |cont=>obtain⟨eP,H7,I7,n7⟩:=q7;exact again I7 n7
  |brk=>obtain⟨eP,H7,I7,q7⟩:=q7;exact⟨eP,H7,I7.Lc,q7⟩
  |ret v=>obtain⟨x7,eP,H7,I7,r7,q7⟩:=q7;exact⟨x7,eP,H7,I7.Lc,r7,q7⟩
end
theorem Rl{a:Addr}(Pv:Nat→St→Hp→Prop)(h0:Pv 0 σ H)(hl:∀i σ H,i≤xs.length→Pv i σ H→SqL K H a xs)
  (hs:∀i x σ H,xs[i]?=some x→Pv i σ H→g x σ H λy0 H2=>tb { D with nx:=Pv (i+1),ct:=Pv (i+1),bk:=D.nx } y0 H2) (hd:∀σ H,Pv xs.length σ H→D.nx σ H) :
  ∃W:Nat→Nat→St→Hp→Prop,(∃m,W 0 m σ H)∧∀i m σ H,W i m σ H→
   ((Itl K a).stop i H∧D.nx σ H)∨((Itl K a).go i H∧∃N:St→Hp→Prop,(∀x4 H',N x4 H'→∃m',m'<m∧W (i+1) m' x4 H')∧∀x H',(Itl K a).yld i H x H'→g x σ H' λy0 H2=>tb { D with nx:=N,ct:=N,bk:=D.nx } y0 H2):=by
 refine⟨λi m σ H=>m=xs.length-i∧i≤xs.length∧Pv i σ H,⟨xs.length,by simp,oC _,h0⟩,?_⟩;rintro i m σ H ⟨rfl,hi,p⟩;have q:=hl i σ H hi p
 by_cases x5:i<xs.length
 ·refine .inr ⟨⟨xs,xs[i],q,by simp[x5]⟩,Pv (i+1),λx4 H' p'=>⟨xs.length-(i+1),by lia,rfl,x5,p'⟩,λx H' y=>?_⟩;obtain⟨e,y⟩:=y;subst e;exact hs i x σ _ (y xs q) p
 ·have e:i=xs.length:=by lia
  subst e;exact .inl ⟨⟨xs,q,rG _⟩,hd σ H p⟩
theorem U8{lo:Int}(Pv:Nat→St→Hp→Prop)(h0:Pv 0 σ H)
  (hs:∀i σ H,i<n→Pv i σ H→g (.int (lo+i)) σ H λy0 H2=>tb { D with nx:=Pv (i+1),ct:=Pv (i+1),bk:=D.nx } y0 H2) (hd:∀σ H,Pv n σ H→D.nx σ H) :
  ∃W:Nat→Nat→St→Hp→Prop,(∃m,W 0 m σ H)∧∀i m σ H,W i m σ H→
   ((Itr lo n).stop i H∧D.nx σ H)∨((Itr lo n).go i H∧∃N:St→Hp→Prop,(∀x4 H',N x4 H'→∃m',m'<m∧W (i+1) m' x4 H')∧∀x H',(Itr lo n).yld i H x H'→g x σ H' λy0 H2=>tb { D with nx:=N,ct:=N,bk:=D.nx } y0 H2):=by
 refine⟨λi m σ H=>m=n-i∧i≤n∧Pv i σ H,⟨n,by simp,oC _,h0⟩,?_⟩;rintro i m σ H ⟨rfl,hi,p⟩
 by_cases x5:i<n
 ·refine .inr ⟨x5,Pv (i+1),λx4 H' p'=>⟨n-(i+1),by lia,rfl,x5,p'⟩,λx H' y=>?_⟩;obtain⟨e,y⟩:=y;subst e y;exact hs i σ _ x5 p
 ·have e:i=n:=by lia
  subst e;exact .inl ⟨rG _,hd σ H p⟩
abbrev R2:=V→V→Hp→VK→Prop
def OpR(X:Cx)(f:YA)(r:R2):Prop:=
 ∀(pins:aD) (s:Shared) (σ:St) (H:Hp) (x y:V) (v u:Value) (Q:VK),Inv X pins σ H s→RelV x v→RelV y u→r x y H Q→
  wpAny (model X.prog X.w) X.A (f v u) (EP X pins σ Q) X.xe s
def Y4(X:Cx)(f:Value)(r:List V→Hp→VK→Prop):Prop:=
 ∀(pins:aD) (s:Shared) (σ:St) (H:Hp) (xs:List V) (us:aJ) (Q:VK),Inv X pins σ H s→Vals xs us→r xs H Q→
  wpAny (model X.prog X.w) X.A (call f us) (EP X pins σ Q) X.xe s
def TruR(X:Cx)(r:V→Hp→(Bool→Hp→Prop)→Prop):Prop:=
 ∀(pins:aD) (s:Shared) (σ:St) (H:Hp) (x:V) (v:Value) (Q:Bool→Hp→Prop),Inv X pins σ H s→RelV x v→r x H Q→
  wpAny (model X.prog X.w) X.A (truthy v) (TP X pins σ Q) X.xe s
def tOp(r:R2)(ta tb:TE):TE:=λσ H Q=>ta σ H λx H1=>tb σ H1 λy H2=>r x y H2 Q
inductive rII(C:Int→Int→Prop)(g:Int→Int→V)(x:V)(y:V)(H:Hp)(Q:VK):Prop
 |mk(i j:_)(h1:x=.int i)(h2:y=.int j)(h3:C i j)(h4:Q (g i j) H):rII C g x y H Q
def rI(C:Int→Int→Prop)(g:Int→Int→V):R2:=λx y H Q=>rII C g x y H Q
inductive Zns(g:Int→Int→V)(x:V)(y:V)(H:Hp)(Q:VK):Prop
 |mk(i j:_)(h1:x=.int i)(h2:y=.int j)(h3:Q (g i j) H):Zns g x y H Q
def rI0(g:Int→Int→V):R2:=λx y H Q=>Zns g x y H Q
section
variable {X:Cx}{a b c:Expr}{ta tb tc:TE}{pos:Pos}
theorem Zmj(ha:PE X a ta)(hb:PE X b tb){R:V→V→Hp→Prop}(I:Inv X pins σ H s)
  (h:ta σ H λx H1=>tb σ H1 λy H2=>R x y H2) {f:YA}
  (hf:∀v u s2 x y H2,Inv X pins σ H2 s2→RelV x v→RelV y u→R x y H2→wpAny (model X.prog X.w) X.A (f v u) Q X.xe s2) :
  wpAny (model X.prog X.w) X.A (eval a X.env) (λv x3=>wpAny (model X.prog X.w) X.A (eval b X.env) (λu m5=>wpAny (model X.prog X.w) X.A (f v u) Q X.xe m5) X.xe x3) X.xe s:=by
 refine thn (ha pins s σ H _ I h) λv s1 ⟨x,H1,I1,r1,q1⟩=>?_;refine thn (hb pins s1 σ H1 _ I1 q1) λu s2 ⟨y,H2,I2,r2,q2⟩=>?_;exact hf v u s2 x y H2 I2 r1 r2 q2
theorem Z3{op:Operator}(ho:OpR X (binaryOp op) r)(ha:PE X a ta)(hb:PE X b tb):PE X (.BinOp a op b pos) (tOp r ta tb):=by
 intro pins s σ H Q I h;exact wpAny_BinOp (Zmj ha hb I h λv u s2 x y H2 I2 rx ry q=>ho pins s2 σ H2 x y v u Q I2 rx ry q)
theorem opI{f:YA}{C:Int→Int→Prop}{g:Int→Int→Int}
  (rule:∀(i j:Int) (t u:Tok) (s:Shared) (Q:aC) (E:aC),C i j→Q (.int (g i j) s.toks) { s with toks:=s.toks+1 }→wpAny (model X.prog X.w) X.A (f (.int i t) (.int j u)) Q E s) :
  OpR X f (rI C λi j=>.int (g i j)):=by
 intro pins s σ H x y v u Q I rx ry h;obtain⟨i,j,rfl,rfl,hc,q⟩:=h;obtain⟨t,rfl⟩:=rx;obtain⟨t',rfl⟩:=ry;exact rule i j t t' s _ _ hc ⟨.int (g i j),H,I.tok _,⟨_,rfl⟩,q⟩
theorem opI0{f:YA}{g:Int→Int→Int}
  (rule:∀(i j:Int) (t u:Tok) (s:Shared) (Q:aC) (E:aC),Q (.int (g i j) s.toks) { s with toks:=s.toks+1 }→wpAny (model X.prog X.w) X.A (f (.int i t) (.int j u)) Q E s) :
  OpR X f (rI0 λi j=>.int (g i j)):=by
 intro pins s σ H x y v u Q I rx ry h;obtain⟨i,j,rfl,rfl,q⟩:=h;obtain⟨t,rfl⟩:=rx;obtain⟨t',rfl⟩:=ry;exact rule i j t t' s _ _ ⟨.int (g i j),H,I.tok _,⟨_,rfl⟩,q⟩
theorem Zhj{f:YA}{g:Int→Int→Bool}
  (rule:∀(i j:Int) (t u:Tok) (s:Shared) (Q:aC) (E:aC),Q (.bool (g i j)) s→wpAny (model X.prog X.w) X.A (f (.int i t) (.int j u)) Q E s) :
  OpR X f (rI0 λi j=>.bl (g i j)):=by
 intro pins s σ H x y v u Q I rx ry h;obtain⟨i,j,rfl,rfl,q⟩:=h;obtain⟨t,rfl⟩:=rx;obtain⟨t',rfl⟩:=ry;exact rule i j t t' s _ _ ⟨.bl (g i j),H,I,rfl,q⟩
def CDiv(i j:Int):Prop:=0<j∧j<1073741824
def CPow(i j:Int):Prop:=0≤j∧j≤1000000∧i.natAbs<2 ^ 64
def Zmr(i j:Int):Prop:=(-(2 ^ 64)<i∧i<2 ^ 64)∨(-(2 ^ 64)<j∧j<2 ^ 64)
theorem Zmr.ok{i j:Int}(h:Zmr i j):IntMulOk i j:=by
 rcases h with ⟨h1,h2⟩|⟨h1,h2⟩
 ·exact .of_left (intBits_le_64 h1 h2)
 ·exact .of_right (intBits_le_64 h1 h2)
theorem Xn:OpR X (binaryOp .Add) (rI0 λi j=>.int (i+j)):=opI0 λ_ _ _ _ _ _ _ q=>add_int q
theorem Ci:OpR X (binaryOp .Mult) (rI Zmr λi j=>.int (i*j)):=opI λ_ _ _ _ _ _ _ hc q=>mul_int q hc.ok
theorem Hw:OpR X (binaryOp .FloorDiv) (rI CDiv λi j=>.int (i/j)):=opI λi j _ _ _ _ _ hc q=>by
 have h1:(0:Int)<j:=hc.1;have h2:j<1073741824:=hc.2;exact floordiv_int (by lia) (by rw[Int.fdiv_eq_ediv_of_nonneg i (by lia)];exact q) (.inl (PyProof.noPylong_small (by lia)))
theorem Rf:OpR X (binaryOp .Mod) (rI (λ_ j=>0<j) λi j=>.int (i%j)):=opI λi j _ _ _ _ _ hc q=>by
 have h1:(0:Int)<j:=hc;exact mod_int' (by lia) (by rw[Int.fmod_eq_emod_of_nonneg i (by lia)];exact q)
theorem Zld:OpR X (binaryOp .Pow) (rI CPow λi j=>.int (i ^ j.toNat)):=opI λ_ _ _ _ _ _ _ hc q=>pow_int_small hc.1 hc.2.1 hc.2.2 q
end
def Znd:V→V→Bool
 |.non,.non=>true|.non,.int _=>true|.int _,.non=>true|.non,.bl _=>true|.bl _,.non=>true|.non,.str _=>true|.str _,.non=>true
 |.int _,.int _=>true|.bl _,.bl _=>true|.str _,.str _=>true|.byt _,.byt _=>true
 |.int _,.str _=>true|.str _,.int _=>true|.bl _,.str _=>true|.str _,.bl _=>true
 |_,_=>false
def rEq:R2:=λx y H Q=>Znd x y=true∧Q (.bl (decide (x=y))) H
def rNe:R2:=λx y H Q=>Znd x y=true∧Q (.bl (!decide (x=y))) H
theorem Zan{i j:Int}:decide (V.int i=V.int j)=(i==j):=by
 rw[lS];simp
theorem Zf3{i j:Bool}:decide (V.bl i=V.bl j)=(i==j):=by
 rw[lS];simp
theorem Zam{i j:Str}:decide (V.str i=V.str j)=(i==j):=by
 rw[lS];simp
theorem Zao{i j:Array UInt8}:decide (V.byt i=V.byt j)=(i.toList==j.toList):=by
 rw[lS];cases i;cases j;simp
section
variable {X:Cx}{a b c:Expr}{ta tb tc:TE}{pos:Pos}
theorem Ya{Q:VK}{k k':Bool}(I:Inv X pins σ H s)(q:Q (.bl k) H)(e:k=k'):EP X pins σ Q (.bool k') s:=by
 subst e;exact⟨.bl k,H,I,rfl,q⟩
theorem X2:OpR X (compareOp .Eq) rEq:=by
 intro pins s σ H x y v u Q I rx ry h;obtain⟨hs,q⟩:=h
 cases x with
 |non=>
  cases rx
  cases y with
  |non=>cases ry;exact PySem.EqNone.eq_none_none (Ya I q (by simp))
  |bl j=>cases ry;exact PySem.EqNone.eq_none_bool (Ya I q (by simp))
  |int j=>obtain⟨t',rfl⟩:=ry;exact PySem.EqNone.eq_none_int (Ya I q (by simp))
  |str j=>obtain⟨t',rfl⟩:=ry;exact PySem.EqNone.eq_none_str (Ya I q (by simp))
  |_=>exact absurd (show false=true from hs) rU
 |bl i=>
  cases rx
  cases y with
  |non=>cases ry;exact PySem.EqNone.eq_bool_none (Ya I q (by simp))
  |bl j=>cases ry;exact eq_bool (Ya I q Zf3)
  |str j=>obtain⟨t',rfl⟩:=ry;exact PySem.EqMixed.eq_bool_str (Ya I q (by simp))
  |_=>exact absurd (show false=true from hs) rU
 |int i=>
  obtain⟨t,rfl⟩:=rx
  cases y with
  |non=>cases ry;exact PySem.EqNone.eq_int_none (Ya I q (by simp))
  |int j=>obtain⟨t',rfl⟩:=ry;exact eq_int (Ya I q Zan)
  |str j=>obtain⟨t',rfl⟩:=ry;exact PySem.EqMixed.eq_int_str (Ya I q (by simp))
  |_=>exact absurd (show false=true from hs) rU
 |str i=>
  obtain⟨t,rfl⟩:=rx
  cases y with
  |non=>cases ry;exact PySem.EqNone.eq_str_none (Ya I q (by simp))
  |bl j=>cases ry;exact PySem.EqMixed.eq_str_bool (Ya I q (by simp))
  |int j=>obtain⟨t',rfl⟩:=ry;exact PySem.EqMixed.eq_str_int (Ya I q (by simp))
  |str j=>obtain⟨t',rfl⟩:=ry;exact eq_str (Ya I q Zam)
  |_=>exact absurd (show false=true from hs) rU
 |byt i=>
  obtain⟨t,rfl⟩:=rx
  cases y with
  |byt j=>obtain⟨t',rfl⟩:=ry;exact W.eq_bytes (Ya I q Zao)
  |_=>exact absurd (show false=true from hs) rU
 |_=>cases y<;>exact absurd (show false=true from hs) rU
theorem Ss:OpR X (compareOp .NotEq) rNe:=by
 intro pins s σ H x y v u Q I rx ry h;obtain⟨hs,q⟩:=h
 cases x with
 |non=>
  cases rx
  cases y with
  |non=>cases ry;exact PySem.EqNone.ne_none_none (Ya I q (by simp))
  |bl j=>cases ry;exact PySem.EqNone.ne_none_bool (Ya I q (by simp))
  |int j=>obtain⟨t',rfl⟩:=ry;exact PySem.EqNone.ne_none_int (Ya I q (by simp))
  |str j=>obtain⟨t',rfl⟩:=ry;exact PySem.EqNone.ne_none_str (Ya I q (by simp))
  |_=>exact absurd (show false=true from hs) rU
 |bl i=>
  cases rx
  cases y with
  |non=>cases ry;exact PySem.EqNone.ne_bool_none (Ya I q (by simp))
  |bl j=>cases ry;exact ne_bool (Ya I q (congrArg not Zf3))
  |str j=>obtain⟨t',rfl⟩:=ry;exact PySem.EqMixed.ne_bool_str (Ya I q (by simp))
  |_=>exact absurd (show false=true from hs) rU
 |int i=>
  obtain⟨t,rfl⟩:=rx
  cases y with
  |non=>cases ry;exact PySem.EqNone.ne_int_none (Ya I q (by simp))
  |int j=>obtain⟨t',rfl⟩:=ry;exact ne_int (Ya I q (congrArg not Zan))
  |str j=>obtain⟨t',rfl⟩:=ry;exact PySem.EqMixed.ne_int_str (Ya I q (by simp))
  |_=>exact absurd (show false=true from hs) rU
 |str i=>
  obtain⟨t,rfl⟩:=rx
  cases y with
  |non=>cases ry;exact PySem.EqNone.ne_str_none (Ya I q (by simp))
  |bl j=>cases ry;exact PySem.EqMixed.ne_str_bool (Ya I q (by simp))
  |int j=>obtain⟨t',rfl⟩:=ry;exact PySem.EqMixed.ne_str_int (Ya I q (by simp))
  |str j=>obtain⟨t',rfl⟩:=ry;exact ne_str (Ya I q (congrArg not Zam))
  |_=>exact absurd (show false=true from hs) rU
 |byt i=>
  obtain⟨t,rfl⟩:=rx
  cases y with
  |byt j=>obtain⟨t',rfl⟩:=ry;exact W.ne_bytes (Ya I q (congrArg not Zao))
  |_=>exact absurd (show false=true from hs) rU
 |_=>cases y<;>exact absurd (show false=true from hs) rU
theorem Zjs:OpR X (compareOp .Lt) (rI0 λi j=>.bl (decide (i<j))):=Zhj λ_ _ _ _ _ _ _ q=>lt_int q
theorem Zny:OpR X (compareOp .LtE) (rI0 λi j=>.bl (decide (i≤j))):=Zhj λ_ _ _ _ _ _ _ q=>le_int q
theorem Zeh:OpR X (compareOp .Gt) (rI0 λi j=>.bl (decide (j<i))):=Zhj λ_ _ _ _ _ _ _ q=>gt_int q
theorem Znz:OpR X (compareOp .GtE) (rI0 λi j=>.bl (decide (j≤i))):=Zhj λ_ _ _ _ _ _ _ q=>ge_int q
theorem Za8:OpR X (compareOp .In) (λx y H Q=>∃i j,x=.str i∧y=.str j∧Q (.bl (!(Builtin.Str.occurrences j i 0 j.length 1).isEmpty)) H):=by
 intro pins s σ H x y v u Q I rx ry h;obtain⟨i,j,rfl,rfl,q⟩:=h;obtain⟨t,rfl⟩:=rx;obtain⟨t',rfl⟩:=ry;exact in_str (Ya I q rfl)
theorem Zle:OpR X (compareOp .Is) (λx y H Q=>y=.non∧Q (.bl (decide (x=.non))) H):=by
 intro pins s σ H x y v u Q I rx ry h;obtain⟨rfl,q⟩:=h;cases ry;refine is_none_gen (Ya I q ?_)
 cases x<;>first
  | (cases rx;rfl)
  | (obtain⟨t,rfl⟩:=rx;rfl)
theorem Av:OpR X (compareOp .IsNot) (λx y H Q=>y=.non∧Q (.bl (!decide (x=.non))) H):=by
 intro pins s σ H x y v u Q I rx ry h;obtain⟨rfl,q⟩:=h;cases ry;refine isnot_none_gen (Ya I q ?_)
 cases x<;>first
  | (cases rx;rfl)
  | (obtain⟨t,rfl⟩:=rx;rfl)
theorem Zy(b:Expr)(h:op≠.In:=by decide)(h2:op≠.NotIn:=by decide):behindInMarks op b=false:=by
 have e1:(op==CmpOp.In)=false:=by cases op<;>first|rfl|exact absurd rfl h
 have e2:(op==CmpOp.NotIn)=false:=by cases op<;>first|rfl|exact absurd rfl h2
 cases b<;>simp[behindInMarks,e1,e2]
theorem Yr(ho:OpR X (compareOp op) r)(ha:PE X a ta)(hb:PE X b tb)(hm:behindInMarks op b=false):PE X (.Compare a [op] [b] pos) (tOp r ta tb):=by
 intro pins s σ H Q I h;exact wpAny_Compare1 (Zmj ha hb I h λv u s2 x y H2 I2 rx ry q=>ho pins s2 σ H2 x y v u Q I2 rx ry q) hm
inductive Zco(Q:Bool→Hp→Prop)(x:V)(H':Hp):Prop
 |mk(k:_)(h1:x=.bl k)(h2:Q k H'):Zco Q x H'
def Zmv(t:TE):TT:=λσ H Q=>t σ H λx H'=>Zco Q x H'
theorem Z6(ho:OpR X (compareOp op) r)(ha:PE X a ta)(hb:PE X b tb)(hm:behindInMarks op b=false):PT X (.Compare a [op] [b] pos) (Zmv (tOp r ta tb)):=by
 intro pins s σ H Q I h
 refine wpAny_isTrue_Compare1 (thn (ha pins s σ H _ I h) λv s1 ⟨x,H1,I1,r1,q1⟩=>thn (hb pins s1 σ H1 _ I1 q1) λu s2 ⟨y,H2,I2,r2,q2⟩=>
  thn (ho pins s2 σ H2 x y v u _ I2 r1 r2 q2) λc s3 ⟨z,H3,I3,r3,k,e,q3⟩=>?_) hm
 subst e;cases r3;exact iV ⟨H3,I3,q3⟩
def Zkm(r r':R2)(ta tb tc:TE):TE:=λσ H Q=>ta σ H λx H1=>tb σ H1 λy H2=>r x y H2 λz H3=>∃k,z=.bl k∧
 (if k=true then tc σ H3 λw' H4=>r' y w' H4 Q else Q (.bl false) H3)
theorem Zee{nH:CmpOp}{r':R2}(ho:OpR X (compareOp op) r)(m9:OpR X (compareOp nH) r')(ha:PE X a ta)(hb:PE X b tb)(hc:PE X c tc)
  (hm:lastMarks [op,nH] [b,c]=false:=by with_unfolding_all rfl):PE X (.Compare a [op,nH] [b,c] pos) (Zkm r r' ta tb tc):=by
 intro pins s σ H Q I h
 refine Compare_chain (thn (ha pins s σ H _ I h) λv s1 ⟨x,H1,I1,r1,q1⟩=>chain_link (thn (hb pins s1 σ H1 _ I1 q1) λu s2 ⟨y,H2,I2,r2,q2⟩=>
  thn (ho pins s2 σ H2 x y v u _ I2 r1 r2 q2) λd s3 ⟨z,H3,I3,r3,k,e,q3⟩=>?_)) hm
 subst e;cases r3;refine iV ?_
 cases k with
 |false=>exact ite_ff ⟨.bl false,H3,I3,rfl,q3⟩
 |true=>exact ite_tt (chain_last (thn (hc pins s3 σ H3 _ I3 q3) λw' s4 ⟨z',H4,I4,r4,q4⟩=>m9 pins s4 σ H4 y z' u w' Q I4 r2 r4 q4))
def Zml(K:W.Frag)(x:V)(H:Hp)(k:Bool):Prop:=
 match x with
 |.non=>k=false
 |.bl b=>k=b
 |.int i=>k=(i != 0)
 |.str y=>y.length≤sizeLine∧k=((y.length:Int) != 0)
 |.byt y=>y.size≤sizeLine∧k=((y.size:Int) != 0)
 |.ref p=>(∃xs,SqL K H p xs∧k = !xs.isEmpty)∨(∃xs,SqT K H p xs∧k = !xs.isEmpty)∨∃kvs,H p=some (.dK kvs)∧k = !kvs.isEmpty
 |_=>False
theorem C3{κ:Type}{kvs:List (κ×V)}{vs:List (κ×Value)}(r:KV kvs vs):(!vs.isEmpty) = !kvs.isEmpty:=by
 cases r<;>rfl
theorem Ka(r:Vals xs its):(!its.toArray.isEmpty) = !xs.isEmpty:=by
 cases r<;>simp
theorem Pa:(sizeLine:Nat)<2 ^ 63:=by rw[sizeLine_eq];decide
theorem Zkb:TruR X (λx H Q=>∃k,Zml X.K x H k∧Q k H):=by
 intro pins s σ H x v Q I rx h;obtain⟨k,e,q⟩:=h;have hl:=Pa;have hs:sizeLine=16777216:=sizeLine_eq
 cases x with
 |non=>
  cases rx;have e':k=false:=e;subst e';exact truthy_none ⟨H,I,q⟩
 |bl b=>
  cases rx;have e':k=b:=e;subst e';exact iV ⟨H,I,q⟩
 |int i=>
  obtain⟨t,rfl⟩:=rx;have e':k=(i != 0):=e;subst e';exact PySem.P.truthy_int ⟨H,I,q⟩
 |str y=>
  obtain⟨t,rfl⟩:=rx;obtain⟨hy,e'⟩:y.length≤sizeLine∧k=((y.length:Int) != 0):=e;subst e';exact PySem.P.truthy_str (by lia) ⟨H,I.tok _,q⟩
 |byt y=>
  obtain⟨t,rfl⟩:=rx;obtain⟨hy,e'⟩:y.size≤sizeLine∧k=((y.size:Int) != 0):=e;subst e';exact W.truthy_bytes (by lia) ⟨H,I.tok _,q⟩
 |ref p=>
  cases rx;have e':(∃xs,SqL X.K H p xs∧k = !xs.isEmpty)∨(∃xs,SqT X.K H p xs∧k = !xs.isEmpty)∨∃kvs,H p=some (.dK kvs)∧k = !kvs.isEmpty:=e
  rcases e' with ⟨xs,hx,e'⟩|⟨xs,hx,e'⟩|⟨kvs,hx,e'⟩
  ·subst e';obtain⟨its,r,pl,hz⟩:=I.list hx;have hlen:=r.length;exact wpAny_truthy_list pl.isList (by simp only[rQ];lia) ⟨H,I.tok _,by rw[Ka r];exact q⟩
  ·subst e';obtain⟨its,r,pl,hz⟩:=I.tuple hx;have hlen:=r.length;exact truthy_tuple pl (by simp only[rQ];lia) ⟨H,I.tok _,by rw[Ka r];exact q⟩
  ·subst e';obtain⟨hz,hS,vs,r,m⟩:kvs.length≤sizeLine∧(p==sysModules)=false∧∃vs,KV kvs vs∧s.heap.DictOf (Z7 X.prog X.w) p vs:=I.hok p _ hx;have hlen:kvs.length=vs.length:=iY r;exact wpAny_truthy_dict hS m (by lia) ⟨H,I.tok _,by rw[C3 r];exact q⟩
 |_=>exact(show False from e).elim
theorem Zd1(ha:PE X a ta)(he:∀whole,isTrue a X.env whole=(do let v ←whole;standAt a.pos;holding [v] (truthy v))):
  PT X a (λσ H Q=>ta σ H λx H'=>∃k,Zml X.K x H' k∧Q k H'):=by
 intro pins s σ H Q I h;exact isTrue_plain (thn (ha pins s σ H _ I h) λv s1 ⟨x,H1,I1,r1,q1⟩=>Zkb pins s1 σ H1 x v Q I1 r1 q1) (he _)
theorem Xx:OpR X (binaryOp .Add) (λx y H Q=>∃i j,x=.str i∧y=.str j∧i.length+j.length≤sizeLine∧Q (.str (i++j)) H):=by
 intro pins s σ H x y v u Q I rx ry h;obtain⟨i,j,rfl,rfl,hz,q⟩:=h;obtain⟨t,rfl⟩:=rx;obtain⟨t',rfl⟩:=ry;exact add_str (λt' tk=>⟨.str (i++j),H,I.tok _,⟨_,rfl⟩,q⟩) hz
theorem vals1{x:V}(r:Vals [x] us):∃u,us=[u]∧RelV x u:=by
 cases r with
 |cons r1 r2=>cases r2;exact⟨_,rfl,r1⟩
theorem vals2{x:V}(r:Vals [x,y] us):∃u w',us=[u,w']∧RelV x u∧RelV y w':=by
 cases r with
 |cons r1 r2=>
  cases r2 with
  |cons r3 r4=>cases r4;exact⟨_,_,rfl,r1,r3⟩
theorem Zb4(hc:X.calm=true):Y4 X (.builtin "min") (λxs H Q=>∃i j,xs=[.int i,.int j]∧Q (.int (if j<i then j else i)) H):=by
 intro pins s σ H xs us Q I r h;obtain⟨i,j,rfl,q⟩:=h;obtain⟨u,w',rfl,⟨t,rfl⟩,⟨t',rfl⟩⟩:=vals2 r;refine min_two_ints (I.ok.hd hc) λh' tk k=>⟨_,H,I.kept k,?_,q⟩
 by_cases hj:j<i
 ·rw[if_pos hj,if_pos hj];exact⟨_,rfl⟩
 ·rw[if_neg hj,if_neg hj];exact⟨_,rfl⟩
theorem Iq:Y4 X (.type "int") (λxs H Q=>(∃i,xs=[.int i]∧Q (.int i) H)∨∃k,xs=[.bl k]∧Q (.int (if k then 1 else 0)) H):=by
 intro pins s σ H xs us Q I r h
 rcases h with ⟨i,rfl,q⟩|⟨k,rfl,q⟩
 ·obtain⟨u,rfl,t,rfl⟩:=vals1 r;exact call_int_int ⟨.int i,H,I,⟨_,rfl⟩,q⟩
 ·obtain⟨u,rfl,r1⟩:=vals1 r;cases r1;exact call_int_bool ⟨.int (if k then 1 else 0),H,I.tok _,⟨_,rfl⟩,q⟩
end
structure Zmp(h:Heap)(x dx C:Addr)(mA:aG):Prop where
 obj:h.get? x=some (W.instObj C dx)
 ns:h.Ns1 dx mA
 ne:dx≠x
theorem Zbi{h:Heap}{dx:Addr}{mA:aG}(n:h.Ns1 dx mA):∃od,h.get? dx=some od∧∀name,W.lookIn name od=some (mA name):=by
 obtain⟨o,es,ep,ho,hd,hk,_,hm⟩:=n;refine⟨o,ho,λname=>?_⟩;have e:=hm name;unfold nsFind findBy at e;rw[←Array.find?_toList]at e;unfold W.lookIn;rw[hd];dsimp only
 split
 ·rename_i y q
  rw[q]at e;exact congrArg some e
 ·rename_i q
  rw[q]at e
  have a:es.toList.any (·.refKey)=false:=by
   rw[List.any_eq_false];intro y hy;obtain⟨z,t,Nn⟩:=hk y (Array.mem_toList_iff.mp hy);simp[DictEntry.refKey,Nn]
  have a':¬ es.toList.any (·.refKey)=true:=by rw[a];exact rU
  rw[if_neg a'];exact congrArg some e
theorem Zmp.look{x dx C:Addr}{mA:aG}(I:Zmp h x dx C mA):∃od,W.InstAt h x (W.instObj C dx) C (some od)∧∀name,W.lookIn name od=some (mA name):=
 let ⟨od,ho,hl⟩:=Zbi I.ns
 ⟨od,⟨I.obj,rfl,rfl,ho⟩,hl⟩
section
variable {prog:Program}{w:World}{A:Around}{E:aC}{s:Shared}{K:W.Frag}{x dx C f:Addr}{mA:aG}{name:Str}{v:Value}
end
theorem Pj.some_of{v:V}{o:YM}(r:Pj (some v) o):∃u,o=some u∧RelV v u:=by
 cases o with
 |none=>exact(show False from r).elim
 |some u=>exact⟨u,rfl,r⟩
section
variable {P:Program}{w:World}{H H':Hp}{h h':Heap}{a C dx:Addr}{fs fs':List (Str×V)}
theorem Zad(hok:HOk P w H h)(e:H a=some (.ins C dx fs)):∃mA,Zmp h a dx C mA∧(∀f,Pj (fs.lookup f) (mA f))∧PySem.Within mA (fs.map (·.1))∧fs.length≤1000∧H dx=some (.own a):=by
 obtain⟨d,z,ne,ob,mA,n,r,q⟩:=(show Z8 P w H h a (.ins C dx fs) from hok a _ e);exact⟨mA,⟨ob,n,ne⟩,r,q,z,d⟩
end
structure Cls(K:W.Frag)(C:Addr):Prop where
 pg:W.plainGet K C Str.empty=true
 hd:W.hasDictIn K C=true
 po:W.plainOver K C=true
 sa:W.findIn K (.ref C) "__setattr__"=some (some (.builtin "object.__setattr__"))
theorem Cls.get{C:Addr}(c:Cls K C)(f:Str):W.plainGet K C f=true:=c.pg
section
variable {X:Cx}{pins:aD}{σ:St}{H:Hp}{s:Shared}{a C dx:Addr}{fs:List (Str×V)}{f:Str}{v:V}{A:Around}{E:aC}
end
section
variable {X:Cx}{o e value:Expr}{f:Str}{pos pos' tpos:Pos}{ta tv:TE}
end
section
variable {X:Cx}{pins:aD}{σ:St}{H:Hp}{s:Shared}{A:Around}{E:aC}{Q:aC}{c:Value}{b:Bool}
inductive O2(K:W.Frag)(H:Hp):V→Value→Prop where
 |non:O2 K H .non (.type "NoneType")
 |bl (x:Bool):O2 K H (.bl x) (.type "bool")
 |int (i:Int):O2 K H (.int i) (.type "int")
 |str (x:Str):O2 K H (.str x) (.type "str")
 |flt (x:UInt64):O2 K H (.flt x) (.type "float")
 |lst {a:Addr}{xs:List V} (e:H a=some (.lst xs)):O2 K H (.ref a) (.type "list")
 |frz {a:Addr}{o:Obj}{xs:List V} (e:H a=some (.frz o (.lst xs))):O2 K H (.ref a) (.type "list")
 |tup {a:Addr}{xs:List V} (e:H a=some (.tup xs)):O2 K H (.ref a) (.type "tuple")
 |dK {a:Addr}{kvs:List (Key×V)} (e:H a=some (.dK kvs)):O2 K H (.ref a) (.type "dict")
 |dT {a:Addr}{kvs:List (List Key×V)} (e:H a=some (.dT kvs)):O2 K H (.ref a) (.type "dict")
 |ins {a C dx:Addr}{fs:List (Str×V)} (e:H a=some (.ins C dx fs)) (cl:Cls K C) (ha:W.findIn K (.ref C) "__class__"=some (some (.builtin "object.__class__")))
   (hn:W.specialIn K (.builtin "object.__class__") "__get__"=some (some (.builtin "getset_descriptor.__get__"))) (sG:W.takesIn K (.builtin "object.__class__")=some true)
   (hm:W.mroIn K C (.type "object")=some true):O2 K H (.ref a) (.ref C)
theorem Zbm{x:V}{t:Value}(I:Inv X pins σ H s)(rx:RelV x u)(ty:O2 X.K H x t)(e:W.kitOne X.K t c=some b)(h:∀tk,Q (.bool b) { s with toks:=tk }):
  wpAny (model X.prog X.w) A (call (.builtin "isinstance") [u,c]) Q E s:=by
 cases ty with
 |non=>cases (show u=Value.none from rx);exact fT W.kitx_none I.kIn True.intro e (λz=>nomatch z) h
 |bl y=>cases (show u=Value.bool y from rx);exact fT W.kitx_bool I.kIn True.intro e (λz=>nomatch z) h
 |int i=>obtain⟨t,q⟩:=(show ∃t,u=Value.int i t from rx);cases q;exact fT W.kitx_int I.kIn True.intro e (λz=>nomatch z) h
 |str y=>obtain⟨t,q⟩:=(show ∃t,u=Value.str y t from rx);cases q;exact fT W.kitx_str I.kIn True.intro e (λz=>nomatch z) h
 |flt y=>obtain⟨t,q⟩:=(show ∃t,u=Value.float y t from rx);cases q;exact fT W.kitx_float I.kIn True.intro e (λz=>nomatch z) h
 | @lst a xs ea=>
  cases (show u=Value.ref a from rx);obtain⟨_,_,n,_,h1⟩:=(show Z8 X.prog X.w H s.heap a (.lst xs) from I.hok a _ ea);exact fT W.kitx_list I.kIn ⟨_,h1,rfl⟩ e (λz=>nomatch z) h
 | @frz a ob xs ea=>
  cases (show u=Value.ref a from rx);obtain⟨_,_,_,n,_,h1⟩:=(show Z8 X.prog X.w H s.heap a (.frz ob (.lst xs)) from I.hok a _ ea);exact fT W.kitx_list I.kIn ⟨_,h1,rfl⟩ e (λz=>nomatch z) h
 | @tup a xs ea=>
  cases (show u=Value.ref a from rx);obtain⟨_,_,_,p⟩:=(show Z8 X.prog X.w H s.heap a (.tup xs) from I.hok a _ ea);obtain⟨o,h1,h2,_⟩:=p;exact fT W.kitx_tuple I.kIn ⟨o,h1,h2⟩ e (λz=>nomatch z) h
 | @dK a kvs ea=>
  cases (show u=Value.ref a from rx);obtain⟨_,_,vs,_,p⟩:=(show Z8 X.prog X.w H s.heap a (.dK kvs) from I.hok a _ ea);obtain⟨o,es,ep,h1,h2,_⟩:=p;exact fT W.kitx_dict I.kIn ⟨o,h1,h2.1⟩ e (λz=>nomatch z) h
 | @dT a kvs ea=>
  cases (show u=Value.ref a from rx);obtain⟨_,_,xs,_,o,es,ep,h1,h2,_⟩:=(show Z8 X.prog X.w H s.heap a (.dT kvs) from I.hok a _ ea);exact fT W.kitx_dict I.kIn ⟨o,h1,h2.1⟩ e (λz=>nomatch z) h
 | @ins a C dx fs ea cl ha hn sG hm=>
  cases (show u=Value.ref a from rx);obtain⟨mA,O,_⟩:=Zad I.hok ea;obtain⟨od,J,_⟩:=O.look;exact fT (W.kitx_own (cl.get _) cl.hd ha hn sG hm) I.kIn J e (λz=>nomatch z) h
end
structure Wu(k:Nat)(A:Around):Prop where
 hd:A.handled=none
 dp:A.depth+3*k+5<recursionLimit
 un:A.units+16*k+200<cLine
theorem Wu.mono{k:Nat}(r:Wu k A)(h:j≤k):Wu j A:=⟨r.hd,by have:=r.dp;lia,by have:=r.un;lia⟩
theorem Wu.deeper{k:Nat}(r:Wu (k+1) A)(env:Env):Wu k (A.deeper env):=
 ⟨r.hd,by have:=r.dp;show A.depth+1+3*k+5<_;lia,by have:=r.un;show A.units+3+16*k+200<_;lia⟩
theorem Wu.depth{k:Nat}(r:Wu k A):A.depth<recursionLimit:=by have:=r.dp;lia
theorem Wu.units{k:Nat}(r:Wu k A):A.units+64<cLine:=by have:=r.un;lia
def Zgq:TA:=λ_ H Q=>Q [] H
def Jz(ta:TE)(tr:TA):TA:=λσ H Q=>ta σ H λx H1=>tr σ H1 λxs H2=>Q (x :: xs) H2
section
variable {X:Cx}{e:Expr}{es:aV}{te:TE}{t:TA}{pos:Pos}
theorem Zb:PA X [] Zgq:=λ_ _ _ _ H Q I h=>fO ⟨[],H,I,.nil,h⟩
theorem Za(ha:PE X e te)(hr:PA X es t)(hs:starEach (e :: es) X.env=(false,eval e X.env) :: starEach es X.env:=by rfl):PA X (e :: es) (Jz te t):=by
 intro pos pins s σ H Q I h;rw[hs];show wpAny _ _ (spliced ((false,eval e X.env) :: backTo pos (starEach es X.env))) _ _ s;refine lU (thn (ha pins s σ H _ I h) λu s1 ⟨x,H1,I1,r1,q1⟩=>?_);exact thn (hr pos pins s1 σ H1 _ I1 q1) λus s2 ⟨xs,H2,I2,r2,q2⟩=>⟨x :: xs,H2,I2,.cons r1 r2,q2⟩
def tTup(t:TA):TE:=λσ H Q=>t σ H λxs H1=>xs.length≤sizeLine∧∀p,H1 p=none→Q (.ref p) (upd H1 p (.tup xs))
def tLst(t:TA):TE:=λσ H Q=>t σ H λxs H1=>xs.length≤sizeLine∧∀p,H1 p=none→Q (.ref p) (upd H1 p (.lst xs))
theorem Zw{x1}(h:PA X es t):PE X (.Tuple es x1 pos) (tTup t):=by
 intro pins s σ H Q I hq;refine wpAny_Tuple_spliced (thn (h pos pins s σ H _ I hq) λus s1 ⟨xs,H1,I1,r,z,q⟩=>⟨by rw[←r.length];exact z,?_⟩);have hf:H1 s1.heap.objs.size=none:=I1.hok.fresh (rG _);refine⟨.ref s1.heap.objs.size,upd H1 s1.heap.objs.size (.tup xs),I1.laid (t':=s1.toks) (λb u e=>rE _ e) (rG _) ?_,rfl,q _ hf⟩;exact⟨z,us,r,⟨_,rR _ rfl,rfl,_,rfl⟩⟩
theorem Zx(h:PA X es t):PE X (.List es pos) (tLst t):=by
 intro pins s σ H Q I hq;refine wpAny_List_spliced (thn (h pos pins s σ H _ I hq) λus s1 ⟨xs,H1,I1,r,z,q⟩=>⟨by rw[←r.length];exact z,?_⟩);have hf:H1 s1.heap.objs.size=none:=I1.hok.fresh (rG _);refine⟨.ref s1.heap.objs.size,upd H1 s1.heap.objs.size (.lst xs),I1.laid (t':=s1.toks) (λb u e=>rE _ e) (rG _) ?_,rfl,q _ hf⟩;exact⟨z,us,0,r,rR _ rfl⟩
end
abbrev Sp:=List V→Hp→VK→XK→Prop
abbrev CXT:=List Env→Hp→Shared→XK→Value→Shared→Prop
structure Bv(P:Program)(w:World)(K:W.Frag)(mg:aG)(base:Heap)(A:Around)(outer:List Env)(s:Shared)(H:Hp):Prop where
 frames:A.frames=some outer
 mod:Mod K mg base
 bs:∀b o,base.get? b=some o→s.heap.get? b=some o∧H b=none
 bsz:base.objs.size≤s.heap.objs.size
 Nq:s.heap.FunFrames base outer
 frf:∀b∈frs outer,H b=none
 hok:HOk P w H s.heap
 bare:AllBare s.gens
def CE(outer:List Env)(P:Program)(w:World)(H:Hp)(s:Shared)(Q:VK)(u:Value)(s':Shared):Prop:=
 ∃v H',s'.os=s.os∧AllBare s'.gens∧Un (frs outer) [] H H' s.heap s'.heap∧HOk P w H' s'.heap∧RelV v u∧Q v H'
def CR(CX:CXT)(outer:List Env)(P:Program)(w:World)(H:Hp)(s:Shared)(Q:VK)(E:XK)(r:Result)(s':Shared):Prop:=
 match r with
 |.ok (.ret u)=>CE outer P w H s Q u s'
 |.ok _=>False
 |.error e=>CX outer H s E e s'
structure Yc(P:Program)(w:World)(K:W.Frag)(mg:aG)(base:Heap)(CX:CXT)(k:Nat)(f:Addr)(fd:FuncData)(ps:List Str)(sp:Sp):Prop where
 len:∀vs H Q E,sp vs H Q E→vs.length=ps.length
 run:∀(A:Around) (outer:List Env) (s:Shared) (H:Hp) (args:Args) (us:aJ) (vs:List V) (Q:VK) (E:XK),Wu k A→Bv P w K mg base A outer s H→BindsTo s fd args (ps.zip us)→Vals vs us→sp vs H Q E→
  codeAny (model P w) A (.call (.ref f) args) (CR CX outer P w H s Q E) s
theorem Yc.imp{k:Nat}{mS:Sp}(F:Yc P w K mg base CX k f fd ps sp)
  (h:∀vs H Q E,mS vs H Q E→sp vs H Q E):Yc P w K mg base CX k f fd ps mS:=
 ⟨λvs H Q E q=>F.len vs H Q E (h _ _ _ _ q),λA outer s H args us vs Q E hr he hb hv hs=>F.run A outer s H args us vs Q E hr he hb hv (h _ _ _ _ hs)⟩
section
variable {X:Cx}{pins:aD}{σ:St}{H:Hp}{s s':Shared}
theorem Inv.env0(I:Inv X pins σ H s):Bv X.prog X.w X.K X.mg X.base X.A X.stack s H:=
 ⟨I.ok.frames,I.ok.mod,I.bs,pQ I.ok.bsz I.sz,I.stack,I.Hf,I.hok,I.bare⟩
theorem Inv.after{Q:VK}(I:Inv X pins σ H s)(h:CE X.stack X.prog X.w H s Q u s'):EP X pins σ Q u s':=by
 obtain⟨v,H',os,bare,un,hok,r,q⟩:=h;obtain⟨hh,g,d,t,nJ⟩:=s';obtain rfl:nJ=s.os:=os;exact⟨v,H',I.call (h':=hh) (g':=g) (d':=d) (t':=t) (ch:=[]) un hok bare (λb z=>absurd z (by simp)),r,q⟩
end
def B1(sp:Sp)(dvs:List V)(E:XK)(t:TA):TE:=λσ H Q=>t σ H λvs H1=>sp (vs++dvs) H1 Q E
def Binds(K:W.Frag)(fd:FuncData)(ps:List Str)(ds:aJ):Prop:=
 ∀(s:Shared) (us:aJ),K.In s.heap→(us++ds).length=ps.length→BindsTo s fd ⟨us,[]⟩ (ps.zip (us++ds))
theorem Binds.all(h:∀us:List Value,us.length=ps.length→bindArgs fd ⟨us,[]⟩=pure (ps.zip us)):Binds K fd ps []:=λs us _ hl=>by
 rw[lZ]at hl ⊢;exact .of_eq (h us hl)
def Passes(CX:CXT)(X:Cx)(E:XK):Prop:=∀(pins:aD) (σ:St) (H:Hp) (s:Shared) (e:Value) (s':Shared),Inv X pins σ H s→CX X.stack H s E e s'→X.xe e s'
section
variable {X:Cx}{CX:CXT}{k:Nat}{f C:Addr}{fd:FuncData}{ps:List Str}{sp:Sp}{dvs:List V}{ds:aJ}{E:XK}{x m:Str}{p pos apos:Pos}{e o:Expr}{es:aV}{ta:TE}{t:TA}
theorem Zdj{Q:VK}{vs:List V}(F:Yc X.prog X.w X.K X.mg X.base CX k f fd ps sp)(hr:Wu k X.A)(hb:Binds X.K fd ps ds)(hd:Vals dvs ds)(hx:Passes CX X E)
  (I:Inv X pins σ H s) (r:Vals vs us) (h:sp (vs++dvs) H Q E):wpAny (model X.prog X.w) X.A (call (.ref f) us) (EP X pins σ Q) X.xe s:=by
 have r2:Vals (vs++dvs) (us++ds):=r.append hd;have hl:(us++ds).length=ps.length:=by rw[←r2.length];exact F.len _ _ _ _ h
 refine wpAny_call (fV (F.run X.A X.stack s H ⟨us,[]⟩ (us++ds) (vs++dvs) Q E hr I.env0 (hb s us I.kIn hl) r2 h) λr s' hq=>?_)
 cases r with
 |error e=>exact hx pins σ H s e s' I hq
 |ok fl=>
  cases fl with
  |ret u=>exact I.after hq
  |next=>exact False.elim hq
  |brk=>exact False.elim hq
  |cont=>exact False.elim hq
theorem Zhf(F:Yc X.prog X.w X.K X.mg X.base CX k f fd ps sp)(hr:Wu k X.A)(hg:Gl X x)(hm:X.mg x=some (.ref f))(hk:W.keepIn X.K (.ref f)=true)(hb:Binds X.K fd ps ds)(hd:Vals dvs ds)(hx:Passes CX X E)
  (ha:PA X (e :: es) t) (xI:(x==("__debug__" : Str))=false:=by decide) (he:starEach (e :: es) X.env=(false,eval e X.env) :: starEach es X.env:=by rfl) (y1:(backTo pos (starEach es X.env)).any (·.1)=false:=by rfl) :
  PE X (.Call (.Name x p) (e :: es) [] pos) (B1 sp dvs E t):=by
 intro pins s σ H Q I h;refine lB (A1 I hg hm ?_ xI);refine W.callWith_K (h₀:=X.base) I.ok.mod.kin hk (thn (ha pos pins s σ H _ I h) λus s1 ⟨vs,H1,I1,r,q⟩=>⟨I1.kIn,?_⟩) he y1;exact Zdj F hr hb hd hx I1 r q
end
section
variable {X:Cx}{CX:CXT}{k:Nat}{f C:Addr}{fd:FuncData}{ps ks:List Str}{sp:Sp}{E:XK}{x m:Str}{p pos apos kpos:Pos}{e o:Expr}{es:aV}{kws:List Keyword}{te ta:TE}{t tk:TA}{nm:Option Str}
variable {g:List Value→List Value→List Value}{gV:List V→List V→List V}
end
structure Zv(N P:List Str)(sc:Scope):Prop where
 kind:sc.kind=.function
 co:sc.isCoroutine=false
 gen:sc.isGenerator=false
 nd:N.Nodup
 pre:N.take P.length=P
 par:∀x∈P,sc.names.lookup x=some .local∨sc.names.lookup x=some .cell
 Zlh:∀y∈sc.names,y.2≠.free
theorem Ir{kindOf:YN}{x:Str}:∀{binds:List (Str×Value)}{m:aG},(∀v,(x,v)∉binds)→bindL kindOf binds m x=m x
 |[],_,_=>rfl
 | (n,v) :: r,m,h=>by
  unfold bindL;rw[Ir λw hw=>h w (rP _ hw)]
  split
  ·have:x≠n:=by rintro rfl;exact h v rM
   simp[this]
  ·rfl
theorem Iv{kindOf:YN}{x:Str}:∀{binds:List (Str×Value)}{m:aG},(∀v,(x,v)∉binds)→bindC kindOf binds m x=m x
 |[],_,_=>rfl
 | (n,v) :: r,m,h=>by
  unfold bindC;rw[Iv λw hw=>h w (rP _ hw)]
  split
  ·rfl
  ·have:x≠n:=by rintro rfl;exact h v rM
   simp[this]
theorem Iu{kindOf:YN}{x:Str}{v:Value}:∀{P:List Str}{vs:aJ}{i:Nat}{m:aG},P.Nodup→P[i]?=some x→vs[i]?=some v→kindOf x=some .local→
  bindL kindOf (P.zip vs) m x=some v
 |[],_,_,_,_,h,_,_=>by simp at h
 |_ :: _,[],_,_,_,_,h,_=>by simp at h
 |p :: P,w :: vs,0,m,nd,h1,h2,hk=>by
  simp at h1 h2;subst h1;subst h2;show bindL kindOf ((p,w) :: P.zip vs) m p=_;unfold bindL;rw[Ir λv hv=>(lI.mp nd).1 (dB hv).1,if_pos hk];simp
 |p :: P,w :: vs,i+1,m,nd,h1,h2,hk=>by
  show bindL kindOf ((p,w) :: P.zip vs) m x=_;unfold bindL;exact Iu (i:=i) (lI.mp nd).2 (by simpa using h1) (by simpa using h2) hk
theorem Iw{kindOf:YN}{x:Str}{v:Value}:∀{P:List Str}{vs:aJ}{i:Nat}{m:aG},P.Nodup→P[i]?=some x→vs[i]?=some v→kindOf x≠some .local→
  bindC kindOf (P.zip vs) m x=some v
 |[],_,_,_,_,h,_,_=>by simp at h
 |_ :: _,[],_,_,_,_,h,_=>by simp at h
 |p :: P,w :: vs,0,m,nd,h1,h2,hk=>by
  simp at h1 h2;subst h1;subst h2;show bindC kindOf ((p,w) :: P.zip vs) m p=_;unfold bindC;rw[Iv λv hv=>(lI.mp nd).1 (dB hv).1,if_neg hk];simp
 |p :: P,w :: vs,i+1,m,nd,h1,h2,hk=>by
  show bindC kindOf ((p,w) :: P.zip vs) m x=_;unfold bindC;exact Iw (i:=i) (lI.mp nd).2 (by simpa using h1) (by simpa using h2) hk
def start(N:List Str)(vs:List V):St:=vs.map some++List.replicate (N.length-vs.length) none
def Bf(CX:CXT)(P:Program)(w:World)(K:W.Frag)(mg:aG)(base:Heap)(N:List Str)(qual:Str)(scope:Scope)(f:Addr)(cd:Value)(A:Around)(outer:List Env)(s:Shared)(H:Hp)(E:XK):Cx where
 prog:=P
 w:=w
 K:=K
 mg:=mg
 base:=base
 A:=A.deeper (envOfC qual scope s.heap.objs.size f cd)
 N:=N
 s₀:=s
 H₀:=H
 env:=envOfC qual scope s.heap.objs.size f cd
 outer:=outer
 stack:=envOfC qual scope s.heap.objs.size f cd :: outer
 ex:=[]
 calm:=true
 fn:=λ_=>true
 pn:=[]
 xe:=λe s'=>wpAny (model P w) (A.deeper (envOfC qual scope s.heap.objs.size f cd)) (leaving (envOfC qual scope s.heap.objs.size f cd) e) (λ_ mQ=>CX outer H s E e mQ) (λe' mQ=>CX outer H s E e' mQ) s'
theorem Dd{sc:Scope}(h:sc.names.lookup x=some .cell):∃c,(cellsFrom n sc.names []).lookup x=some c:=by
 have q:=W.cellsFrom_some sc.names n [] (.inl h);exact cE.mp q
theorem Zbn{cd:Value}{outer:List Env}{s1:Shared}{E:XK}{vs:List V}
  (S:Zv N ps scope) (hd:A.handled=none) (e0:Bv P w K mg base A outer s H) (hl:vs.length=ps.length) (r:Vals vs us)
  (x:InCallC s s.heap.objs.size (bindL (envOfC qual scope s.heap.objs.size f cd).kindOf (ps.zip us) λ_=>none) (cellsFrom (s.heap.objs.size+1) scope.names []) (bindC (envOfC qual scope s.heap.objs.size f cd).kindOf (ps.zip us) λ_=>none) s1) :
  Inv (Bf CX P w K mg base N qual scope f cd A outer s H E) [] (start N vs) H s1:=by
 have y1:ps.length≤N.length:=by have:=congrArg List.length S.pre;rw[pR]at this;lia
 obtain⟨h1,tk,rfl,hk⟩:=x.done;have hV:∀b:Addr,b∉(Bf CX P w K mg base N qual scope f cd A outer s H E).ex:=λb z=>absurd (show b∈([]:List Addr) from z) (by simp)
 refine⟨⟨e0.mod,S.kind,rfl,rfl,rG _,λy z c h1 h2=>?_,λy hy=>?_,λy c _ h=>?_,λ_=>hd,Around.frames_deeper e0.frames,.inr ⟨rfl,rfl⟩,λb z=>absurd z (hV b),e0.bs,e0.bsz,λb _ _=>hV b,λb z=>absurd z (hV b),e0.Nq,e0.frf⟩,
  rfl,e0.bare,Un.kept hk,⟨_,x.toInCall.ns,λi y v h1 h2 h3=>?_⟩,λy c h=>⟨_,x.cell y c h⟩,e0.hok.fresh (rG _),λy c h=>?_,λp hp=>absurd (show p∈([]:List aF) from hp) (by simp),e0.hok.kept hk,?_⟩
 ·exact name_of_addr x.apart (oR h1) (oR h2)
 ·have hy:scope.names.lookup y=some .cell∨scope.names.lookup y=some .free:=hy
  rcases hy with hy|hy
  ·exact Dd hy
  ·exact absurd rfl (S.Zlh _ (oR hy))
 ·exact oX (x.above y c (oR h))
 ·have hi:i<vs.length:=by
   unfold start at h2
   by_cases hi:i<vs.length
   ·exact hi
   ·rw[pT (by simpa using hi)]at h2;rw[fY]at h2
    split at h2<;>cases h2
  have ha:vs[i]?=some v:=by
   unfold start at h2;rw[pM (by simpa using hi),rJ]at h2
   cases e:vs[i]? with
   |none=>rw[e]at h2;cases h2
   |some a=>rw[e]at h2;cases h2;rfl
  obtain⟨u,hu,rv⟩:=r.get ha
  have hp:ps[i]?=some y:=by
   rw[←S.pre,cF (by lia)];exact h1
  have vK:ps.Nodup:=by rw[←S.pre];exact S.nd.sublist (List.take_sublist _ _)
  refine⟨u,rv,?_⟩
  rcases S.par y (rN hp) with k|k
  ·exact .inl ⟨k,Iu vK hp hu k⟩
  ·obtain⟨c,e⟩:=Dd (n:=s.heap.objs.size+1) k;refine .inr ⟨.inl k,c,e,?_⟩;have q:=x.cell y c e;rw[Iw vK hp hu (by show scope.names.lookup y≠_;rw[k];decide)]at q;exact q
 ·exact e0.hok.fresh (oX (x.above y c (oR h)))
 ·unfold start;show _=N.length;rw[rS,rC,oV];lia
theorem Zj2{k:Nat}{dV kV cdv:Value}{an:ZA}
  {osl:aP} (lk:K.lookup f=some ⟨oc,od,.func (W.fnOf name qual params body scope dV kV doc pm an cdv ct),osl⟩) (w9:W.codeIn K cdv qual=true) (S:Zv N ps scope)
  (len:∀vs H Q E,sp vs H Q E→vs.length=ps.length)
  (Ow:∀(A:Around) (outer:List Env) (s:Shared) (H:Hp) (vs:List V) (Q:VK) (E:XK),Wu k (A.deeper (envOfC qual scope s.heap.objs.size f cdv))→sp vs H Q E→
   ∃t,PSs (Bf CX P w K mg base N qual scope f cdv A outer s H E) body t∧t { nx:=λ_ H'=>Q .non H',rt:=Q } (start N vs) H) :
  Yc P w K mg base CX (k+1) f (W.fnOf name qual params body scope dV kV doc pm an cdv ct) ps sp:=by
 refine⟨len,λA outer s H args us vs Q E hr e0 hb r y4=>?_⟩;have hl:=len _ _ _ _ y4;have KX:K.In s.heap:=e0.mod.kin.keeps λb o e=>(e0.bs b o e).1;have lim:s.heap.NoLimit:=e0.mod.nolimit.keeps λb o e=>(e0.bs b o e).1
 have Zof:∀y∈ps.zip us,scope.names.lookup y.1=some .local∨(scope.names.lookup y.1=some .cell∧((cellsFrom (s.heap.objs.size+1) scope.names []).lookup y.1).isSome=true):=λ⟨n,v⟩ hy=>by
  rcases S.par n (dB hy).1 with q|q
  ·exact .inl q
  ·exact .inr ⟨q,W.cellsFrom_some _ _ _ (.inl q)⟩
 refine codeAny_call_function hr.depth (KX _ _ lk) rfl S.co S.gen rfl (W.codeRec_of KX w9) (hb _ _ _ _ ?_);refine wpAny_newFunctionEnv_cells S.kind Zof λenv he s1 x=>?_;subst he;refine⟨lim.keeps x.toInCall.keep,codeAny_func ?_⟩;obtain⟨t,ht,hq⟩:=Ow A outer s H vs Q E (hr.deeper _) y4;have I:Inv (Bf CX P w K mg base N qual scope f cdv A outer s H E) [] (start N vs) H s1:=Zbn S hr.hd e0 hl r x;refine iR (ht [] s1 (start N vs) H _ I hq) (λfl s' hs=>?_) λe s' hs=>hs
 have fin:∀{x4:St}{H':Hp}{v:V}{u:Value},Inv (Bf CX P w K mg base N qual scope f cdv A outer s H E) [] x4 H' s'→RelV v u→Q v H'→CE outer P w H s Q u s':=
  λ{x4 H' v u} J rv q=>⟨v,H',J.os,J.bare,J.base,J.hok,rv,q⟩
 cases fl with
 |ret u=>
  obtain⟨v,x4,H',J,rv,q⟩:=hs;exact fin J rv q
 |next=>
  obtain⟨x4,H',J,q⟩:=hs;exact fin (v:=V.non) (u:=Value.none) J rfl q
 |brk=>
  obtain⟨_,_,_,q⟩:=hs;exact False.elim q
 |cont=>
  obtain⟨_,_,_,q⟩:=hs;exact False.elim q
section
variable {X:Cx}{x:Str}{p pos:Pos}{e:Expr}{es:aV}{t:TA}{id T:String}{r:List V→Hp→VK→Prop}
def tCB(r:List V→Hp→VK→Prop)(t:TA):TE:=λσ H Q=>t σ H λvs H1=>r vs H1 Q
theorem Zt(hc:Y4 X (.builtin id) r)(hg:Gl X x)(hm:X.mg x=none)(hv:bootBuiltins x=some (.builtin id))(ha:PA X (e :: es) t)(hn:x≠"__name__":=by decide)(xI:(x==("__debug__" : Str))=false:=by decide)
  (he:starEach (e :: es) X.env=(false,eval e X.env) :: starEach es X.env:=by rfl) (y1:(backTo pos (starEach es X.env)).any (·.1)=false:=by rfl):PE X (.Call (.Name x p) (e :: es) [] pos) (tCB r t):=by
 intro pins s σ H Q I h;refine lB (V3 I hg hm hv ?_ hn xI);exact PyProof.Rows.callWith_builtin1 (thn (ha pos pins s σ H _ I h) λus s1 ⟨vs,H1,I1,r1,q1⟩=>hc pins s1 σ H1 vs us Q I1 r1 q1) he y1
theorem Z4(hc:Y4 X (.type T) r)(hg:Gl X x)(hm:X.mg x=none)(hv:bootBuiltins x=some (.type T))(ha:PA X (e :: es) t)(hn:x≠"__name__":=by decide)(xI:(x==("__debug__" : Str))=false:=by decide)
  (he:starEach (e :: es) X.env=(false,eval e X.env) :: starEach es X.env:=by rfl) (y1:(backTo pos (starEach es X.env)).any (·.1)=false:=by rfl):PE X (.Call (.Name x p) (e :: es) [] pos) (tCB r t):=by
 intro pins s σ H Q I h;refine lB (V3 I hg hm hv ?_ hn xI);exact oS (thn (ha pos pins s σ H _ I h) λus s1 ⟨vs,H1,I1,r1,q1⟩=>hc pins s1 σ H1 vs us Q I1 r1 q1) he y1
end
end L2
namespace HT
open PySem PyProof.Rows
section
open PySem.SeqAt
open PySem.AutoSeq1 (wpAny_loadPart')
open PySem.MeetsSeq PySem.MeetsSeq2 PySem.MeetsSeq3
end
section
variable {prog:Program}{w:World}{A:Around}{E:aC}{s:Shared}
theorem Zie{t b:Addr}{vs ws:aJ}{Q:aC}(ht:IsTup s.heap t vs.toArray)(hb:IsTup s.heap b ws.toArray)(hv:vs≠[])
  (h1:ws=[]→Q (.ref t) s) (h2:ws≠[]→Q (.ref s.heap.objs.size) { s with heap:=s.heap.push { cls:=.type "tuple",data:=.seq (vs++ws).toArray } })
  (hsz:vs.length+ws.length≤sizeLine):wpAny (model prog w) A (binaryOp .Add (.ref t) (.ref b)) Q E s:=by
 obtain⟨⟨cls,dd,data,sl⟩,ho,hc,n,hd⟩:=id ht;obtain⟨⟨cls2,dd2,data2,sl2⟩,o9,z0,n2,hd2⟩:=id hb;simp only at hc hd z0 hd2;subst hc hd z0 hd2;have e:vs.toArray++ws.toArray=(vs++ws).toArray:=by simp
 by_cases hw:ws=[]
 ·exact concat_meets ⟨_,ho,rfl⟩ ⟨_,o9,rfl⟩ noFill_tuple_add seq_tuple_add PySem.F.slot_tuple_add PySem.F.entry_tuple_add (PySem.F.args_tuple_add_2 _ _)
   (tuple_addW1 t b vs.toArray ws.toArray n n2 dd dd2 sl sl2 (by simpa using hv) (by simp[hw])) ⟨ho,o9,h1 hw⟩
 ·refine concat_meets ⟨_,ho,rfl⟩ ⟨_,o9,rfl⟩ noFill_tuple_add seq_tuple_add PySem.F.slot_tuple_add PySem.F.entry_tuple_add (PySem.F.args_tuple_add_2 _ _)
   (tuple_addW2 t b vs.toArray ws.toArray n n2 dd dd2 sl sl2 (by simpa using hv) (by simpa using hw) (by rw[rQ,rQ];exact hsz)) ⟨ho,o9,?_⟩
  rw[e];exact h2 hw
def sIx(n d:Nat):Option Int→Nat
 |none=>d
 |some v=>if v<0 then (v+(n:Int)).toNat else min v.toNat n
theorem Zdi(n d:Nat):sIx n d none=d:=rfl
theorem Zgy(n d k:Nat):sIx n d (some (k:Int))=min k n:=by
 show (if (k:Int)<0 then ((k:Int)+(n:Int)).toNat else min (k:Int).toNat n)=min k n;rw[if_neg (by lia),lX]
theorem Cb(n d:Nat)(hd:d≤n)(o:ZG):sIx n d o≤n:=by
 cases o with
 |none=>exact hd
 |some v=>
  show (if v<0 then (v+(n:Int)).toNat else min v.toNat n)≤n
  by_cases hv:v<0
  ·rw[if_pos hv];lia
  ·rw[if_neg hv];exact Nat.min_le_right _ _
theorem Zap(v:Int)(n d:Nat):(if v<0 then max (v+(n:Int)) 0 else min v (n:Int))=((sIx n d (some v):Nat):Int):=by
 show (if v<0 then max (v+(n:Int)) 0 else min v (n:Int))=(((if v<0 then (v+(n:Int)).toNat else min v.toNat n):Nat):Int)
 by_cases hv:v<0
 ·simp only[if_pos hv];lia
 ·simp only[if_neg hv];lia
theorem Br(lo hi:ZG)(n:Nat):Builtin.Slice.sliceAdjust lo hi 1 (n:Int)=(((sIx n 0 lo:Nat):Int),((sIx n n hi:Nat):Int)):=by
 have h1:¬ ((1:Int)<0):=by lia
 unfold Builtin.Slice.sliceAdjust;simp only[h1,if_false];refine Prod.ext ?_ ?_
 ·cases lo with
  |none=>rfl
  |some v=>exact Zap v n 0
 ·cases hi with
  |none=>rfl
  |some v=>exact Zap v n n
theorem Ce(i j:Nat):Builtin.Slice.slicePlaces (i:Int) (j:Int) 1=j-i:=by
 unfold Builtin.Slice.slicePlaces;have h1:(1:Int)>0:=by lia
 simp only[h1,if_true,Int.ediv_one]
 split<;>lia
theorem Li{v:Value}{o:ZG}{Q:Option Int→Shared→Prop}(p:IsPart v o)(h:Q o s):wpAny (model prog w) A (Builtin.Slice.slicePartIndex v) Q E s:=by
 cases p with
 |none=>exact slicePart_none h
 |int i t=>exact slicePart_int h
theorem Uy{sl:Addr}{vl vu:Value}{lo hi:ZG}{n:Nat}{Q:Int×Int×Nat→Shared→Prop}(hs:s.heap.IsSliceOf sl vl vu .none)(pl:IsPart vl lo)(pu:IsPart vu hi)
  (h:Q (((sIx n 0 lo:Nat):Int),1,sIx n n hi-sIx n 0 lo) s):wpAny (model prog w) A (Builtin.Slice.sliceApplied (.ref sl) (pure (n:Int))) Q E s:=by
 obtain⟨os,eE,b8,kW⟩:=id hs;unfold Builtin.Slice.sliceApplied Builtin.Slice.sliceFields;refine rB (rB (dY eE kW (x:=vl) rfl (rB (dY eE kW (x:=vu) rfl (rB (dY eE kW (x:=.none) rfl (rF ?_)))))));refine rB (slicePart_none ?_);show wpAny _ _ (if ((1:Int)==0)=true then _ else _) _ _ s;rw[if_neg (by decide)];refine rB (Li pl (rB (Li pu (rB (rF ?_)))))
 show wpAny _ _ (match Builtin.Slice.sliceAdjust lo hi 1 (n:Int) with|(lo,hi)=>pure (lo,(1:Int),Builtin.Slice.slicePlaces lo hi 1)) _ _ s;rw[Br lo hi n];show wpAny _ _ (pure (((sIx n 0 lo:Nat):Int),(1:Int),Builtin.Slice.slicePlaces ((sIx n 0 lo:Nat):Int) ((sIx n n hi:Nat):Int) 1)) _ _ s;rw[Ce];exact rF h
theorem Zd3(xs:aO)(i k:Nat):((List.range k).filterMap λ(m:Nat)=>xs[((i:Int)+(m:Int)*1).toNat]?).toArray=((xs.toList.drop i).take k).toArray:=by
 have e:(λ(m:Nat)=>xs[((i:Int)+(m:Int)*1).toNat]?)=λm=>xs[i+m]?:=by
  funext m
  have:((i:Int)+(m:Int)*1).toNat=i+m:=by lia
  rw[this]
 rw[e];have:=pick_run xs i k;rw[List.filterMap_map]at this;have e2:((λx=>xs[x]?) ∘ λx=>i+x)=λm=>xs[i+m]?:=rfl;rw[e2]at this;rw[this]
theorem Ox{t sl:Addr}{items:aO}{vl vu:Value}{lo hi:ZG}{Q:aC}(ht:IsTup s.heap t items)(hs:s.heap.IsSliceOf sl vl vu .none)(pl:IsPart vl lo)(pu:IsPart vu hi)
  (hw:¬ (sIx items.size 0 lo=0∧sIx items.size items.size hi=items.size))
  (h:Q (.ref s.heap.objs.size) { s with heap:=s.heap.push { cls:=.type "tuple",data:=.seq ((items.toList.drop (sIx items.size 0 lo)).take (sIx items.size items.size hi-sIx items.size 0 lo)).toArray } })
  (hsz:items.size≤sizeLine):wpAny (model prog w) A (getItem (.ref t) (.ref sl)) Q E s:=by
 have Zae:sizeOk (.seq ((items.toList.drop (sIx items.size 0 lo)).take (sIx items.size items.size hi-sIx items.size 0 lo)).toArray):=by
  show ((items.toList.drop (sIx items.size 0 lo)).take (sIx items.size items.size hi-sIx items.size 0 lo)).toArray.size≤sizeLine;rw[rQ,pR,oY,oH];lia
 have hj:sIx items.size items.size hi≤items.size:=Cb _ _ (rG _) hi;obtain⟨os,eE,b8,kW⟩:=id hs;have zN:s.TypeIs (.ref sl) "slice":=⟨os,eE,b8⟩;unfold getItem
 try with_reducible refine oJ ?_
 first|refine rB (rF ?_)|skip
 refine rB (wpAny_sequenceKey ht.typeIs (by decide) ?_)
 refine rB (lE (name:=Str.ofString "__getitem__") ht.typeIs lN
  (lD lN ht.typeIs entry_tuple_getitem ?_ (args_tuple_getitem _ _)))
 show wpAny _ _ (Builtin.Tuple.tupleItemsOf (.ref t) >>= _) _ _ s;refine rB (tupleItemsOf_ ht ?_);refine rB (iS zN ?_);rw[if_pos (by decide)];refine rB (Uy hs pl pu ?_)
 have g9:¬ ((((sIx items.size 0 lo:Nat):Int)==0&&(1:Int)==1&&(sIx items.size items.size hi-sIx items.size 0 lo)==items.size)=true):=by
  intro q;rw[oD,oD]at q;have q1:((sIx items.size 0 lo:Nat):Int)=0:=eq_of_beq q.1.1;have q2:sIx items.size items.size hi-sIx items.size 0 lo=items.size:=eq_of_beq q.2;exact hw ⟨by lia,by lia⟩
 show wpAny _ _ (if (((sIx items.size 0 lo:Nat):Int)==0&&(1:Int)==1&&(sIx items.size items.size hi-sIx items.size 0 lo)==items.size)=true then _ else _) _ _ s;rw[if_neg g9,Zd3]
 first
  |exact rB (m:=Builtin.Tuple.tupleExact _) (pX (rF ⟨_,rfl,rF h⟩) Zae)
  |exact rB (m:=Builtin.Tuple.tupleExact _) (pX (rB (rF (rF ⟨_,rfl,rF h⟩))) Zae)
  |exact rB (rB (m:=Builtin.Tuple.tupleExact _) (pX (rF (rF ⟨_,rfl,rF h⟩)) Zae))
  |exact rB (rB (m:=Builtin.Tuple.tupleExact _) (pX (rF ⟨_,rfl,rF h⟩) Zae))
end
end HT
namespace L2
open PySem PySem.Spec PyProof.Rows
variable {A:Around}{H:Hp}{T:String}{its us:aJ}{j n t':Nat}{ns:List Int}{pins:aD}{r:R2}{s:Shared}{u v:Value}{xs ys:List V}{y:V}{σ:St}
abbrev TO:=St→Hp→(Option Int→Hp→Prop)→Prop
def PO(X:Cx)(e:Option Expr)(t:TO):Prop:=
 ∀(pins:aD) (s:Shared) (σ:St) (H:Hp) (Q:Option Int→Hp→Prop),Inv X pins σ H s→t σ H Q→
  wpAny (model X.prog X.w) X.A (evalPart e X.env) (λu s'=>∃o H',Inv X pins σ H' s'∧IsPart u o∧Q o H') X.xe s
def Zgp:TO:=λ_ H Q=>Q none H
inductive Zcp(Q:Option Int→Hp→Prop)(x:V)(H1:Hp):Prop
 |mk(i:_)(h1:x=.int i)(h2:Q (some i) H1):Zcp Q x H1
def Zmw(t:TE):TO:=λσ H Q=>t σ H λx H1=>Zcp Q x H1
theorem intsAre_of:∀{us:aJ},Vals (ns.map V.int) us→IntsAre us ns:=by
 induction ns with
 |nil=>intro us r;rw[fF]at r;cases r;exact .nil
 |cons n ns ih=>
  intro us r;rw[rW]at r
  cases r with
  |cons r1 r2=>
   obtain⟨t,e⟩:=r1;subst e;exact .cons n t (ih r2)
section
variable {X:Cx}{e:Expr}{te:TE}{lo hi:Option Expr}{tl th:TO}{pos p2:Pos}
theorem R0:PO X none Zgp:=by
 intro pins s σ H Q I h;rw[evalPart_none];exact rF ⟨none,H,I,.none,h⟩
theorem Rz(h:PE X e te):PO X (some e) (Zmw te):=by
 intro pins s σ H Q I hw;rw[evalPart_some];refine thn (h pins s σ H _ I hw) λu s1 ⟨x,H1,I1,r1,q1⟩=>?_;obtain⟨i,rfl,q⟩:=q1;obtain⟨t,rfl⟩:=r1;exact⟨some i,H1,I1,.int i t,q⟩
def SlR(X:Cx)(r:V→Option Int→Option Int→Hp→VK→Prop):Prop:=
 ∀(pins:aD) (s:Shared) (σ:St) (H:Hp) (x:V) (v vl vu:Value) (lo hi:ZG) (sl:Addr) (Q:VK),Inv X pins σ H s→RelV x v→s.heap.IsSliceOf sl vl vu .none→IsPart vl lo→IsPart vu hi→r x lo hi H Q→
  ∃T id,typeLookup (.type T) "__getitem__"=pure (some (.builtin id))∧s.TypeIs v T∧wpAny (model X.prog X.w) X.A (getItem v (.ref sl)) (EP X pins σ Q) X.xe s
def tSl(r:V→Option Int→Option Int→Hp→VK→Prop)(te:TE)(tl th:TO):TE:=λσ H Q=>te σ H λx H1=>tl σ H1 λl H2=>th σ H2 λu H3=>r x l u H3 Q
theorem U2{r:V→Option Int→Option Int→Hp→VK→Prop}(hr:SlR X r)(he:PE X e te)(hl:PO X lo tl)(hu:PO X hi th):PE X (.Subscript e (.Slice lo hi none p2) pos) (tSl r te tl th):=by
 intro pins s σ H Q I h;refine Subscript_ (thn (he pins s σ H _ I h) λv s1 ⟨x,H1,I1,r1,q1⟩=>?_);refine wpAny_Slice (thn (hl pins s1 σ H1 _ I1 q1) λvl s2 ⟨l,H2,I2,pl,q2⟩=>thn (hu pins s2 σ H2 _ I2 q2) λvu s3 ⟨u,H3,I3,pu,q3⟩=>?_);rw[evalPart_none];refine rF ?_
 have I4:Inv X pins σ H3 { s3 with heap:=s3.heap.push { cls:=.type "slice",data:=.fields #[vl,vu,.none] } }:=I3.kept (t':=s3.toks) λb ob q=>rE _ q
 obtain⟨T,id,hT,ht,hg⟩:=hr pins { s3 with heap:=s3.heap.push { cls:=.type "slice",data:=.fields #[vl,vu,.none] } } σ H3 x v vl vu l u s3.heap.objs.size Q I4 r1 (Heap.IsSliceOf.new ..) pl pu q3
 show wpAny (model X.prog X.w) X.A (subscriptTail e (.Slice lo hi none p2) v (.ref s3.heap.objs.size)) (EP X pins σ Q) X.xe { s3 with heap:=s3.heap.push { cls:=.type "slice",data:=.fields #[vl,vu,.none] } };exact tail_any (ops:=[.ref s3.heap.objs.size,v]) ht hT hg (by with_unfolding_all rfl)
def Tx(xs:List V)(lo hi:ZG):List V:=(xs.drop (HT.sIx xs.length 0 lo)).take (HT.sIx xs.length xs.length hi-HT.sIx xs.length 0 lo)
theorem Rp(xs:List V)(lo hi:ZG):(Tx xs lo hi).length≤xs.length:=by
 unfold Tx;rw[pR,oY];lia
inductive Zje(K:W.Frag)(x:V)(lo:ZG)(hi:ZG)(H:Hp)(Q:VK):Prop
 |mk(a xs:_)(h1:x=.ref a)(h2:SqT K H a xs)(h3:¬ (HT.sIx xs.length 0 lo=0∧HT.sIx xs.length xs.length hi=xs.length))(h4:∀p,H p=none→Q (.ref p) (upd H p (.tup (Tx xs lo hi)))):Zje K x lo hi H Q
def Znh(K:W.Frag):V→Option Int→Option Int→Hp→VK→Prop:=λx lo hi H Q=>Zje K x lo hi H Q
theorem Zkt:SlR X (Znh X.K):=by
 intro pins s σ H x v vl vu lo hi sl Q I rx hs pl pu h;obtain⟨a,xs,rfl,hx,hw,q⟩:=h;cases rx;obtain⟨its,r,ht,hz⟩:=I.tuple hx;have hlen:its.toArray.size=xs.length:=by rw[rQ];exact r.length.symm
 refine⟨"tuple",_,lN.lookup,ht.typeIs,?_⟩;refine HT.Ox ht hs pl pu (by rw[hlen];exact hw) ?_ (by rw[hlen];exact hz);rw[hlen];refine⟨.ref s.heap.objs.size,_,I.laid (t':=s.toks) (o:=.tup (Tx xs lo hi)) (λb ob q=>rE _ q) (rG _) ?_,rfl,q _ (I.hok.fresh (rG _))⟩;exact⟨pQ (Rp xs lo hi) hz,_,(r.drop (HT.sIx xs.length 0 lo)).take (HT.sIx xs.length xs.length hi-HT.sIx xs.length 0 lo),bN _ _⟩
inductive Zdw(K:W.Frag)(x:V)(y:V)(H:Hp)(Q:VK):Prop
 |mk(a b xs ys:_)(h1:x=.ref a)(h2:y=.ref b)(h3:SqT K H a xs)(h4:SqT K H b ys)(h5:xs≠[])(h6:xs.length+ys.length≤sizeLine)(h7:(ys=[]→Q (.ref a) H))(h8:(ys≠[]→∀p,H p=none→Q (.ref p) (upd H p (.tup (xs++ys))))):Zdw K x y H Q
def Zjo(K:W.Frag):R2:=λx y H Q=>Zdw K x y H Q
theorem Vals.Mr(r:Vals xs us):us=[]↔xs=[]:=by
 cases r with
 |nil=>simp
 |cons _ _=>simp
theorem Zhi:OpR X (binaryOp .Add) (Zjo X.K):=by
 intro pins s σ H x y v u Q I rx ry h;obtain⟨a,b,xs,ys,rfl,rfl,ha,hb,hx,hz,q1,q2⟩:=h;cases rx;cases ry;obtain⟨its,r1,p1,_⟩:=I.tuple ha;obtain⟨Ey,r2,p2,_⟩:=I.tuple hb;refine HT.Zie p1 p2 (λz=>hx (r1.Mr.mp z)) (λz=>⟨.ref a,H,I,rfl,q1 (r2.Mr.mp z)⟩) (λz=>?_) (by rw[←r1.length,←r2.length];exact hz);refine⟨.ref s.heap.objs.size,_,I.laid (t':=s.toks) (o:=.tup (xs++ys)) (λb ob q=>rE _ q) (rG _) ?_,rfl,q2 (λw=>z (r2.Mr.mpr w)) _ (I.hok.fresh (rG _))⟩;exact⟨by rw[rS];exact hz,_,r1.append r2,bN _ _⟩
end
def ixN(n:Nat)(i:Int):Option Nat:=if 0≤i then (if i<n then some i.toNat else none) else if -(n:Int)≤i then some (i+n).toNat else none
def atI{α:Type}(xs:List α)(i:Int):Option α:=(ixN xs.length i).bind λj=>xs[j]?
theorem Zab{n:Nat}{i:Int}(h:ixN n i=some j):seqIndex? i n=some j∧j<n∧-(n:Int)≤i∧i<n:=by
 unfold ixN at h
 by_cases h0:0≤i
 ·rw[if_pos h0]at h
  by_cases h1:i<n
  ·rw[if_pos h1]at h;have e:i.toNat=j:=Option.some.inj h;exact⟨by rw[seqIndex_of h0 h1,e],by lia,by lia,h1⟩
  ·rw[if_neg h1]at h;cases h
 ·rw[if_neg h0]at h
  by_cases h1 : -(n:Int)≤i
  ·rw[if_pos h1]at h;have e:(i+n).toNat=j:=Option.some.inj h;exact⟨by rw[seqIndex_neg (by lia) h1,e],by lia,h1,by lia⟩
  ·rw[if_neg h1]at h;cases h
theorem G3{α:Type}{xs:List α}{i:Int}{v:α}(h:atI xs i=some v):∃j,seqIndex? i xs.length=some j∧xs[j]?=some v∧j<xs.length∧-(xs.length:Int)≤i∧i<xs.length:=by
 unfold atI at h
 cases e:ixN xs.length i with
 |none=>rw[e]at h;cases h
 |some j=>
  rw[e]at h;obtain⟨h1,h2,h3,h4⟩:=Zab e;exact⟨j,h1,h,h2,h3,h4⟩
theorem Zj{α:Type}{xs:List α}{j:Nat}{v:α}(h:xs[j]?=some v):atI xs (j:Int)=some v:=by
 have hj:j<xs.length:=(rH.mp h).1
 have e:ixN xs.length (j:Int)=some j:=by
  unfold ixN;rw[if_pos (by lia),if_pos (by lia)];simp
 unfold atI;rw[e];exact h
def Zim(b:Expr):Prop:=∀o i,subscripted b false o i=operate [o,i] (getItem o i)
def IxR(X:Cx)(r:R2):Prop:=
 ∀(value slice:Expr) (pins:aD) (s:Shared) (σ:St) (H:Hp) (x y:V) (v u:Value) (Q:VK),Inv X pins σ H s→RelV x v→RelV y u→r x y H Q→
  subscripted slice false v u=operate [v,u] (getItem v u)→wpAny (model X.prog X.w) X.A (subscriptTail value slice v u) (EP X pins σ Q) X.xe s
def MtR(X:Cx)(id:String)(r:V→List V→Hp→VK→Prop):Prop:=
 ∀(pins:aD) (s:Shared) (σ:St) (H:Hp) (x:V) (xs:List V) (v:Value) (us:aJ) (Q:VK),Inv X pins σ H s→RelV x v→Vals xs us→r x xs H Q→
  wpAny (model X.prog X.w) X.A (call (.builtin id) (v :: us)) (EP X pins σ Q) X.xe s
section
variable {X:Cx}{a b:Expr}{ta tb:TE}{pos:Pos}
theorem IxR.or{r':R2}(h:IxR X r)(h':IxR X r'):IxR X (λx y H Q=>r x y H Q∨r' x y H Q):=by
 intro value slice pins s σ H x y v u Q I rx ry q hs
 rcases q with q|q
 ·exact h value slice pins s σ H x y v u Q I rx ry q hs
 ·exact h' value slice pins s σ H x y v u Q I rx ry q hs
theorem Zr(hr:IxR X r)(ha:PE X a ta)(hb:PE X b tb)(hs:Zim b):PE X (.Subscript a b pos) (tOp r ta tb):=by
 intro pins s σ H Q I h;exact Subscript_ (Zmj ha hb I h λv u s2 x y H2 I2 rx ry q=>hr a b pins s2 σ H2 x y v u Q I2 rx ry q (hs _ _))
inductive Zjl(K:W.Frag)(x:V)(y:V)(H:Hp)(Q:VK):Prop
 |mk(p xs i v:_)(h1:x=.ref p)(h2:y=.int i)(h3:SqL K H p xs)(h4:atI xs i=some v)(h5:Q v H):Zjl K x y H Q
def Zg5(K:W.Frag):R2:=λx y H Q=>Zjl K x y H Q
inductive Zjj(K:W.Frag)(x:V)(y:V)(H:Hp)(Q:VK):Prop
 |mk(p xs i v:_)(h1:x=.ref p)(h2:y=.int i)(h3:SqT K H p xs)(h4:atI xs i=some v)(h5:Q v H):Zjj K x y H Q
def Zk2(K:W.Frag):R2:=λx y H Q=>Zjj K x y H Q
inductive Zjk(x:V)(y:V)(H:Hp)(Q:VK):Prop
 |mk(z i c:_)(h1:x=.str z)(h2:y=.int i)(h3:z.length≤sizeLine)(h4:atI z.cps.toList i=some c)(h5:Q (.str ⟨#[c]⟩) H):Zjk x y H Q
def Zk3:R2:=λx y H Q=>Zjk x y H Q
theorem Zaa:IxR X (Zg5 X.K):=by
 intro value slice pins s σ H x y v u Q I rx ry h hs;obtain⟨p,xs,i,z,rfl,rfl,hq,he,q⟩:=h;cases rx;obtain⟨t,rfl⟩:=ry;obtain⟨its,r,pl,hz⟩:=I.list hq;obtain⟨j,h1,h2,h3,h4,h5⟩:=G3 he;obtain⟨w,ew,p8⟩:=r.get h2;have hl:=r.length;have hn:=Pa;have fin:EP X pins σ Q w s:=⟨z,H,I,p8,q⟩
 by_cases h0:0≤i
 ·have hj:i.toNat=j:=by
   rw[seqIndex_of h0 h5]at h1;exact Option.some.inj h1
  exact item_listR pl.isList h0 (by lia) (by rw[hj];simpa using ew) fin hs
 ·have hj:(i+(its.toArray.size:Int)).toNat=j:=by
   rw[seqIndex_neg (by lia) h4]at h1;rw[rQ,←hl];exact Option.some.inj h1
  exact subscriptTail_builtinR (x:=w) pl.isList.typeIs slot_list_getitem.lookup
   (wpAny_getItem_list_neg (Q:=λr s'=>r=w∧EP X pins σ Q r s') pl.isList (by lia) (by rw[rQ]<;>lia) (by lia) (by rw[hj];simpa using ew) ⟨rfl,fin⟩) hs
theorem Ze3:IxR X (Zk2 X.K):=by
 intro value slice pins s σ H x y v u Q I rx ry h hs;obtain⟨p,xs,i,z,rfl,rfl,hq,he,q⟩:=h;cases rx;obtain⟨t,rfl⟩:=ry;obtain⟨its,r,pl,hz⟩:=I.tuple hq;obtain⟨j,h1,h2,h3,h4,h5⟩:=G3 he;obtain⟨w,ew,p8⟩:=r.get h2;have hl:=r.length;have hn:=Pa;have fin:EP X pins σ Q w s:=⟨z,H,I,p8,q⟩
 exact subscriptTail_builtinR (x:=w) pl.typeIs slot_tuple_getitem.lookup
  (getItem_tuple (j:=j) (Q:=λr s'=>r=w∧EP X pins σ Q r s') pl (by lia) (by lia) (by rw[rQ,←hl];exact h1) (by simpa using ew) ⟨rfl,fin⟩) hs
theorem L9:IxR X Zk3:=by
 intro value slice pins s σ H x y v u Q I rx ry h hs;obtain⟨z,i,c,rfl,rfl,hz,he,q⟩:=h;obtain⟨t,rfl⟩:=rx;obtain⟨t',rfl⟩:=ry;obtain⟨j,h1,h2,h3,h4,h5⟩:=G3 he;have hl:z.cps.toList.length=z.length:=by simp[Str.length]
 rw[hl]at h1 h4 h5;have hn:=Pa
 exact tail_any (typeIs_str s z t) slot_str_getitem.lookup (getItem_str (c:=c) (by
  have e1:decide (i < -(2 ^ 63:Int))=false:=decide_eq_false (by lia);have e2:decide (i ≥ 2 ^ 63)=false:=decide_eq_false (by lia)
  rw[e1,e2,Bool.or_false]) (by rw[h1];simpa using h2) ⟨.str ⟨#[c]⟩,H,I.tok _,⟨_,rfl⟩,q⟩) hs
def rIx(K:W.Frag):R2:=λx y H Q=>Zg5 K x y H Q∨Zk2 K x y H Q∨Zk3 x y H Q
theorem Zlu:IxR X (rIx X.K):=Zaa.or (Ze3.or L9)
theorem Cs(its:aJ)(n j:Nat)(u:Value):Obj.mapSeq (·.setIfInBounds j u) { cls:=.type "list",data:=.seq its.toArray n } = { cls:=.type "list",data:=.seq (its.set j u).toArray n }:=by
 simp[Obj.mapSeq]
theorem Inv.lst{pins:aD}{σ:St}{H:Hp}{s:Shared}{p:Addr}{xs:List V}(I:Inv X pins σ H s)(h:H p=some (.lst xs)):
  ∃(its:aJ) (n:Nat),Vals xs its∧s.heap.get? p=some { cls:=.type "list",data:=.seq its.toArray n }∧xs.length≤sizeLine:=by
 obtain⟨z,its,n,r,e⟩:=I.hok p _ h;exact⟨its,n,r,e,z⟩
theorem Inv.Zlk{p:Addr}{its its':aJ}{n':Nat}{f:Obj→Obj}(I:Inv X pins σ H s)(h:H p=some (.lst xs))
  (ho:s.heap.get? p=some { cls:=.type "list",data:=.seq its.toArray n }) (hf:f { cls:=.type "list",data:=.seq its.toArray n } = { cls:=.type "list",data:=.seq its'.toArray n' }) (r:Vals ys its') (hz:ys.length≤sizeLine) (t:Nat) :
  Inv X pins σ (upd H p (.lst ys)) { s with heap:=s.heap.update p f,toks:=t }:=by
 have e:(s.heap.update p f).get? p=some { cls:=.type "list",data:=.seq its'.toArray n' }:=by
  rw[lQ f ho (by rw[hf]<;>rfl),hf]
 refine I.write (x:=p) (e:=p) (by rw[h];trivial) (.inl rfl) (λb u hb q=>(dF _ _ (lW hb)).trans q) ⟨_,e⟩ ?_;exact⟨hz,its',n',r,e⟩
inductive Zdq(o:V)(i:V)(v:V)(H:Hp)(Q:(Hp→Prop)):Prop
 |mk(p xs k j:_)(h1:o=.ref p)(h2:i=.int k)(h3:H p=some (.lst xs))(h4:ixN xs.length k=some j)(h5:Q (upd H p (.lst (xs.set j v)))):Zdq o i v H Q
def Znk:V→V→V→Hp→(Hp→Prop)→Prop:=λo i v H Q=>Zdq o i v H Q
theorem set_list:Zo6 X Znk:=by
 intro pins s σ H o i v ov iv u Q I ro ri rv h;obtain⟨p,xs,k,j,rfl,rfl,hp,hj,q⟩:=h;cases ro;obtain⟨t,rfl⟩:=ri;obtain⟨its,n,r,ho,hz⟩:=I.lst hp;obtain⟨h1,h2,h3,h4⟩:=Zab hj;have hl:=r.length;have hn:=Pa
 have I':Inv X pins σ (upd H p (.lst (xs.set j v))) { s with heap:=s.heap.update p (Obj.mapSeq (·.setIfInBounds j u)) }:=
  I.Zlk hp ho (Cs its n j u) (r.set rv j) (by rw[List.length_set];exact hz) s.toks
 by_cases h0:0≤k
 ·have hk:k.toNat=j:=by
   rw[seqIndex_of h0 h4]at h1;exact Option.some.inj h1
  exact W.ki_setAt ho h0 (by lia) (by rw[rQ,←hl];exact h4) (by rw[hk];exact⟨_,I',q⟩)
 ·have hk:(k+(its.toArray.size:Int)).toNat=j:=by
   rw[seqIndex_neg (by lia) h3]at h1;rw[rQ,←hl];exact Option.some.inj h1
  exact W.ki_setBack ho (by lia) (by rw[rQ,←hl];exact h3) (by lia) (by rw[hk];exact⟨_,I',q⟩)
theorem Pz(lo hi:ZG)(n:Nat):(sliceBounds lo hi none n).1=((HT.sIx n 0 lo:Nat):Int)∧(sliceBounds lo hi none n).2.1=((HT.sIx n n hi:Nat):Int)∧(sliceBounds lo hi none n).2.2=1:=by
 refine⟨?_,?_,rfl⟩
 ·cases lo with
  |none=>simp[sliceBounds,HT.sIx]
  |some i=>
   simp only[sliceBounds,HT.sIx,Option.getD_none,show (1:Int)>0 by decide,if_true]
   by_cases h:i<0
   ·simp only[h,if_true]<;>lia
   ·simp only[h,if_false]<;>lia
 ·cases hi with
  |none=>simp[sliceBounds,HT.sIx]
  |some i=>
   simp only[sliceBounds,HT.sIx,Option.getD_none,show (1:Int)>0 by decide,if_true]
   by_cases h:i<0
   ·simp only[h,if_true]<;>lia
   ·simp only[h,if_false]<;>lia
theorem K3(its:aJ)(lo hi:ZG):slicePick its.toArray lo hi none=((its.drop (HT.sIx its.length 0 lo)).take (HT.sIx its.length its.length hi-HT.sIx its.length 0 lo)).toArray:=by
 obtain⟨h1,h2,h3⟩:=Pz lo hi its.toArray.size;unfold slicePick;rw[h1,h2,h3];simp only[sliceRange_one,pick_run,rQ]<;>rfl
inductive Zjg(K:W.Frag)(x:V)(lo:ZG)(hi:ZG)(H:Hp)(Q:VK):Prop
 |mk(a xs:_)(h1:x=.ref a)(h2:SqL K H a xs)(h3:∀p,H p=none→Q (.ref p) (upd H p (.lst (Tx xs lo hi)))):Zjg K x lo hi H Q
def Zni(K:W.Frag):V→Option Int→Option Int→Hp→VK→Prop:=λx lo hi H Q=>Zjg K x lo hi H Q
theorem Zgx:SlR X (Zni X.K):=by
 intro pins s σ H x v vl vu lo hi sl Q I rx hs pl pu h;obtain⟨a,xs,rfl,hx,q⟩:=h;cases rx;obtain⟨its,r,ht,hz⟩:=I.list hx;have hlen:=r.length;refine⟨"list",_,slot_list_getitem.lookup,ht.isList.typeIs,?_⟩;refine wpAny_getItem_list_slice ht.isList hs pl pu .none (by simp) ?_ (by rw[rQ]<;>lia);rw[K3,←hlen];refine⟨.ref s.heap.objs.size,_,I.laid (t':=s.toks) (o:=.lst (Tx xs lo hi)) (λb ob q=>rE _ q) (rG _) ?_,rfl,q _ (I.hok.fresh (rG _))⟩;exact⟨pQ (Rp xs lo hi) hz,_,0,(r.drop (HT.sIx xs.length 0 lo)).take (HT.sIx xs.length xs.length hi-HT.sIx xs.length 0 lo),rR _ rfl⟩
def Ug:V→Bool
 |.non=>true
 |.bl _=>true
 |.int _=>true
 |.str _=>true
 |_=>false
def eqV:V→V→Bool
 |.non,.non=>true
 |.bl a,.bl b=>a==b
 |.bl a,.int b=>(if a then 1 else 0)==b
 |.int a,.bl b=>a==(if b then 1 else 0)
 |.int a,.int b=>a==b
 |.str a,.str b=>a==b
 |_,_=>false
theorem Zfu{x:V}(ry:RelV y u)(rx:RelV x v)(fy:Ug y=true)(fx:Ug x=true):SeqAt.EqAt A s u v (eqV y x):=by
 cases y with
 |non=>
  cases ry
  cases x with
  |non=>cases rx;exact SeqAt.EqAt.same _
  |bl b=>cases rx;exact SeqAt.EqAt.none_bool b
  |int b=>obtain⟨t,rfl⟩:=rx;exact SeqAt.EqAt.none_int b t
  |str b=>obtain⟨t,rfl⟩:=rx;exact SeqAt.EqAt.none_str b t
  |_=>exact absurd (show false=true from fx) rU
 |bl a=>
  cases ry
  cases x with
  |non=>cases rx;exact SeqAt.EqAt.bool_none a
  |bl b=>cases rx;exact SeqAt.EqAt.bool_bool a b
  |int b=>obtain⟨t,rfl⟩:=rx;exact SeqAt.EqAt.bool_int a b t
  |str b=>obtain⟨t,rfl⟩:=rx;exact SeqAt.EqAt.bool_str a b t
  |_=>exact absurd (show false=true from fx) rU
 |int a=>
  obtain⟨t',rfl⟩:=ry
  cases x with
  |non=>cases rx;exact SeqAt.EqAt.int_none a t'
  |bl b=>cases rx;exact SeqAt.EqAt.int_bool a t' b
  |int b=>obtain⟨t,rfl⟩:=rx;exact SeqAt.EqAt.int_int a t' b t
  |str b=>obtain⟨t,rfl⟩:=rx;exact SeqAt.EqAt.int_str a t' b t
  |_=>exact absurd (show false=true from fx) rU
 |str a=>
  obtain⟨t',rfl⟩:=ry
  cases x with
  |non=>cases rx;exact SeqAt.EqAt.str_none a t'
  |bl b=>cases rx;exact SeqAt.EqAt.str_bool a t' b
  |int b=>obtain⟨t,rfl⟩:=rx;exact SeqAt.EqAt.str_int a t' b t
  |str b=>obtain⟨t,rfl⟩:=rx;exact SeqAt.EqAt.str_str a t' b t
  |_=>exact absurd (show false=true from fx) rU
 |_=>exact absurd (show false=true from fy) rU
def eqU(x:V)(u:Value):Bool:=match u with
 |.none=>eqV .non x
 |.bool b=>eqV (.bl b) x
 |.int i _=>eqV (.int i) x
 |.str z _=>eqV (.str z) x
 |_=>false
theorem Zft{x:V}(r:RelV y u)(f:Ug y=true):eqU x u=eqV y x:=by
 cases y with
 |non=>cases r;rfl
 |bl b=>cases r;rfl
 |int i=>obtain⟨t,rfl⟩:=r;rfl
 |str z=>obtain⟨t,rfl⟩:=r;rfl
 |_=>exact absurd (show false=true from f) rU
theorem G6{x:V}:∀{xs:List V}{us:aJ},Vals xs us→xs.all Ug=true→us.any (eqU x)=xs.any λy=>eqV y x
 |_,_,.nil,_=>rfl
 |y :: xs,u :: us,.cons r t,f=>by
  rw[cS,oD]at f;rw[cT,cT,Zft r f.1,G6 t f.2]
theorem L7{A:Around}{s:Shared}{x:V}{v:Value}(rx:RelV x v)(fx:Ug x=true):∀{xs:List V}{us:aJ},Vals xs us→xs.all Ug=true→∀u∈us,SeqAt.EqAt A s u v (eqU x u)
 |_,_,.nil,_=>λu hu=>by cases hu
 |y :: xs,u :: us,.cons r t,f=>λu' hu=>by
  rw[cS,oD]at f
  rcases rT.mp hu with rfl|hu
  ·rw[Zft r f.1];exact Zfu r rx f.1 fx
  ·exact L7 rx fx t f.2 u' hu
def inV(x:V)(xs:List V):Bool:=xs.any λy=>eqV y x
inductive Znr(K:W.Frag)(neg:Bool)(x:V)(y:V)(H:Hp)(Q:VK):Prop
 |mk(p xs:_)(h1:y=.ref p)(h2:(SqL K H p xs∨SqT K H p xs))(h3:Ug x=true)(h4:xs.all Ug=true)(h5:Q (.bl (if neg then !inV x xs else inV x xs)) H):Znr K neg x y H Q
def rIn(K:W.Frag)(neg:Bool):R2:=λx y H Q=>Znr K neg x y H Q
theorem Za9:OpR X (compareOp .In) (rIn X.K false):=by
 intro pins s σ H x y v u Q I rx ry h;obtain⟨p,xs,rfl,hq,fx,fs,q⟩:=h;cases ry
 rcases hq with hq|hq
 ·obtain⟨its,r,pl,hz⟩:=I.list hq;refine SeqAt.in_listAt (eqU x) pl.isList (λw hw=>L7 rx fx r fs w (by simpa using hw)) ⟨.bl _,H,I,rfl,?_⟩;rw[show its.toArray.any (eqU x)=its.any (eqU x) by simp,G6 r fs];exact q
 ·obtain⟨its,r,pl,hz⟩:=I.tuple hq;refine SeqAt.in_tupleAt (eqU x) pl (λw hw=>L7 rx fx r fs w (by simpa using hw)) ⟨.bl _,H,I,rfl,?_⟩;rw[show its.toArray.any (eqU x)=its.any (eqU x) by simp,G6 r fs];exact q
theorem Gz:Y4 X (.builtin "len") (λxs H Q=>∃p ys,xs=[.ref p]∧(SqL X.K H p ys∨SqT X.K H p ys)∧Q (.int ys.length) H):=by
 intro pins s σ H xs us Q I r h;obtain⟨p,ys,rfl,hq,q⟩:=h;obtain⟨u,rfl,rx⟩:=vals1 r;cases rx;have hn:=Pa
 rcases hq with hq|hq
 ·obtain⟨its,r',pl,hz⟩:=I.list hq;have hlen:=r'.length;exact Calls.call_len_list pl.isList (by simp only[rQ]<;>lia) ⟨.int ys.length,H,I.tok _,⟨s.toks+1,by rw[rQ,hlen]⟩,q⟩
 ·obtain⟨its,r',pl,hz⟩:=I.tuple hq;have hlen:=r'.length;exact len_tuple pl (by simp only[rQ]<;>lia) ⟨.int ys.length,H,I.tok _,⟨s.toks+1,by rw[rQ,hlen]⟩,q⟩
theorem X0:Y4 X (.builtin "len") (λxs H Q=>∃z,xs=[.str z]∧z.length≤sizeLine∧Q (.int z.length) H):=by
 intro pins s σ H xs us Q I r h;obtain⟨z,rfl,hz,q⟩:=h;obtain⟨u,rfl,t,rfl⟩:=vals1 r;have hn:=Pa;exact len_str (by lia) ⟨.int z.length,H,I.tok _,⟨_,rfl⟩,q⟩
theorem Gy:Y4 X (.type "list") (λxs H Q=>∃p ys,xs=[.ref p]∧(SqL X.K H p ys∨SqT X.K H p ys)∧∀l,H l=none→Q (.ref l) (upd H l (.lst ys))):=by
 intro pins s σ H xs us Q I r h;obtain⟨p,ys,rfl,hq,q⟩:=h;obtain⟨u,rfl,rx⟩:=vals1 r;cases rx
 have fin:∀(its:aJ),Vals ys its→ys.length≤sizeLine→∀(h':Heap) (c':Nat),(∀b o',s.heap.get? b=some o'→h'.get? b=some o')→
   h'.get? s.heap.objs.size=some { cls:=.type "list",dict:=none,data:=.seq its.toArray c',slots:=#[] }→EP X pins σ Q (.ref s.heap.objs.size) { s with heap:=h' }:=λits r' hz h' c' kp e=>
  ⟨.ref s.heap.objs.size,_,I.laid (t':=s.toks) kp (rG _) (show Z8 X.prog X.w _ h' _ (.lst ys) from⟨hz,its,c',r',e⟩),rfl,q _ (I.hok.fresh (rG _))⟩
 rcases hq with hq|hq
 ·obtain⟨its,r',pl,hz⟩:=I.list hq;have hlen:=r'.length;obtain⟨o,ho,hc,n,hd⟩:=pl.isList;exact call_list_seq p (.inl rfl) ho hc hd (λh' c' kp e=>fin its r' hz h' c' kp e) (by simp only[rQ]<;>lia)
 ·obtain⟨its,r',pl,hz⟩:=I.tuple hq;have hlen:=r'.length;obtain⟨o,ho,hc,n,hd⟩:=pl;exact call_list_seq p (.inr rfl) ho hc hd (λh' c' kp e=>fin its r' hz h' c' kp e) (by simp only[rQ]<;>lia)
theorem Jq:Y4 X (.type "tuple") (λxs H Q=>∃p ys,xs=[.ref p]∧((SqL X.K H p ys∧∀l,H l=none→Q (.ref l) (upd H l (.tup ys)))∨(SqT X.K H p ys∧Q (.ref p) H))):=by
 intro pins s σ H xs us Q I r h;obtain⟨p,ys,rfl,h⟩:=h;obtain⟨u,rfl,rx⟩:=vals1 r;cases rx
 rcases h with ⟨hq,q⟩|⟨hq,q⟩
 ·obtain⟨its,r',pl,hz⟩:=I.list hq;have hlen:=r'.length;refine call_tuple_list pl.isList (λh' kp=>?_) (by simp only[rQ]<;>lia)
  have I1:Inv X pins σ H { s with heap:=h' }:=I.kept (t':=s.toks) kp
  have I2:Inv X pins σ (upd H h'.objs.size (.tup ys)) { s with heap:=h'.push { cls:=.type "tuple",data:=.seq its.toArray } }:=
   I1.laid (t':=s.toks) (λb o e=>rE _ e) (rG _) (show Z8 X.prog X.w _ _ _ (.tup ys) from⟨hz,its,r',bN _ _⟩)
  exact⟨.ref h'.objs.size,_,I2,rfl,q _ (I1.hok.fresh (rG _))⟩
 ·obtain⟨its,r',pl,hz⟩:=I.tuple hq;exact call_tuple_same pl ⟨.ref p,H,I,rfl,q⟩
def tyV(K:W.Frag)(T:String)(x:V)(H:Hp):Prop:=match x with
 |.str _=>T = "str"
 |.int _=>T = "int"
 |.ref p=>(T = "list"∧∃xs,SqL K H p xs)∨(T = "tuple"∧∃o,K.lookup p=some o∧o.cls=.type "tuple"∧o.dict=none)∨
   (T = "dict"∧((∃kvs,H p=some (.dK kvs))∨∃kvs,H p=some (.dT kvs)))∨(T = "set"∧∃S n,H p=some (.set S n))
 |_=>False
theorem Zj9{x:V}(I:Inv X pins σ H s)(r:RelV x v)(ty:tyV X.K T x H):
  s.TypeIs v T∧∀a,v=.ref a→∃ob,s.heap.get? a=some ob∧ob.dict=none:=by
 cases x with
 |str z=>
  obtain⟨t,rfl⟩:=r;cases (show T = "str" from ty);exact⟨typeIs_str s z t,λ_ e=>nomatch e⟩
 |int i=>
  obtain⟨t,rfl⟩:=r;cases (show T = "int" from ty);exact⟨typeIs_int s i t,λ_ e=>nomatch e⟩
 |ref p=>
  cases r
  rcases ty with ⟨rfl,xs,hq⟩|⟨rfl,o,hk,hc,hd⟩|⟨rfl,hk⟩|⟨rfl,S,n,hk⟩
  ·obtain⟨its,_,pl,_⟩:=I.list hq;refine⟨pl.isList.typeIs,λa e=>?_⟩;cases e;obtain⟨o,n,e,c,hd,_⟩:=pl;exact⟨o,e,hd⟩
  ·refine⟨⟨o,I.kIn p o hk,hc⟩,λa e=>?_⟩;cases e;exact⟨o,I.kIn _ o hk,hd⟩
  ·have z:∃o,s.heap.get? p=some o∧o.ExactDict:=by
    rcases hk with ⟨kvs,hk⟩|⟨kvs,hk⟩
    ·obtain⟨_,_,_,_,o,_,_,e,ex,_⟩:=I.hok p _ hk;exact⟨o,e,ex⟩
    ·obtain⟨_,_,_,_,o,_,_,e,ex,_⟩:=I.hok p _ hk;exact⟨o,e,ex⟩
   obtain⟨o,e,ex⟩:=z;refine⟨⟨o,e,ex.1⟩,λa e2=>?_⟩;cases e2;exact⟨o,e,ex.2.1⟩
  ·obtain⟨o,_,_,_,e,ex,_⟩:=I.hok p _ hk;refine⟨⟨o,e,ex.1⟩,λa e2=>?_⟩;cases e2;exact⟨o,e,ex.2.1⟩
 |_=>exact False.elim ty
def tBM(K:W.Frag)(T:String)(r:V→List V→Hp→VK→Prop)(to:TE)(t:TA):TE:=λσ H Q=>to σ H λx H1=>tyV K T x H1∧t σ H1 λxs H2=>r x xs H2 Q
variable {o e:Expr}{es:aV}{to:TE}{t:TA}{name:Str}{apos Xs:Pos}{T id:String}{r:V→List V→Hp→VK→Prop}
theorem Znw(pa:PlainAttrs T)(slot:Slot T name id)(eU:typeOf (.builtin id)=pure (.type "method_descriptor"))(hm:MtR X id r)(ho:PE X o to)(ha:PA X (e :: es) t)
  (Zfk:attributeBase o name X.env (eval o X.env)=eval o X.env:=by rfl)
  (Zl0:((backTo Xs (starEach (e :: es) X.env)).all (λx=>!x.1)&&(backToKw Xs (keywordEach [] X.env)).all (λx=>x.1.isSome)
   && decide ((e :: es).length+([]:List Keyword).length+(if ([]:List Keyword).isEmpty then 0 else 1)<30))=true:=by rfl)
  (Zfi:(apos.endLine==Xs.line)=true:=by rfl) (hs:starEach (e :: es) X.env=(false,eval e X.env) :: starEach es X.env:=by rfl) (C6:(backTo Xs (starEach es X.env)).any (·.1)=false:=by rfl) :
  PE X (.Call (.Attribute o name apos) (e :: es) [] Xs) (tBM X.K T r to t):=by
 intro pins s σ H Q I h;refine wpAny_Call_method_late Zfk Zl0 Zfi rfl (thn (ho pins s σ H _ I h) λv s1 ⟨x,H1,I1,r1,ty,q1⟩=>?_);obtain⟨h1,h2⟩:=Zj9 I1 r1 ty;refine⟨T,id,pa,slot,eU,h1,h2,?_⟩;have hA:=ha Xs pins s1 σ H1 _ I1 q1;rw[hs]at hA ⊢;refine dG (by show (false||(backTo Xs (starEach es X.env)).any (·.1))=false;rw[C6]<;>rfl) (dR ?_);exact thn hA λus s2 ⟨vs,H2,I2,r2,q2⟩=>hm pins s2 σ H2 x vs v us Q I2 r1 r2 q2
end
def MtM(X:Cx)(id:String)(r:V→List V→Hp→VK→Prop):Prop:=
 ∀(pins:aD) (s:Shared) (σ:St) (H:Hp) (x:V) (xs:List V) (v:Value) (us:aJ) (Q:VK),Inv X pins σ H s→RelV x v→Vals xs us→r x xs H Q→
  wpAny (model X.prog X.w) X.A (call (.builtin id) (v :: us)) (EP X pins σ Q) X.xe s
theorem Vals.one:∀{x:V}{us:aJ},Vals [x] us→∃u,us=[u]∧RelV x u
 |_,_,.cons r .nil=>⟨_,rfl,r⟩
theorem Vals.two:∀{x y:V}{us:aJ},Vals [x,y] us→∃u v,us=[u,v]∧RelV x u∧RelV y v
 |_,_,_,.cons r (.cons q .nil)=>⟨_,_,rfl,r,q⟩
theorem Vals.eraseIdx:∀{xs:List V}{us:aJ} (i:Nat),Vals xs us→Vals (xs.eraseIdx i) (us.eraseIdx i)
 |_,_,_,.nil=>.nil
 |_,_,0,.cons _ t=>t
 |_,_,i+1,.cons r t=>.cons r (Vals.eraseIdx i t)
theorem Vals.rep{xs:List V}{us:aJ}(h:Vals xs us):∀k:Nat,Vals (List.replicate k xs).flatten (List.replicate k us).flatten
 | 0=>.nil
 |k+1=>by
  rw[lP,lP,iW,iW];exact Vals.append h (Vals.rep h k)
theorem J7{α:Type}:∀(l:List α) (i:Nat),(l.eraseIdx i).length≤l.length
 |[],_=>rG _
 |_ :: _,0=>lC _
 |_ :: r,i+1=>Nat.succ_le_succ (J7 r i)
theorem foldl_rep(its:aJ):∀(k:Nat) (acc:aJ),
  List.foldl (λx1 x2=>x1++x2) acc.toArray (List.replicate k its.toArray)=(acc++(List.replicate k its).flatten).toArray
 | 0,acc=>by simp
 |k+1,acc=>by
  have e:acc.toArray++its.toArray=(acc++its).toArray:=by simp
  have e2:(acc++its)++(List.replicate k its).flatten=acc++(List.replicate (k+1) its).flatten:=by
   rw[lP,iW,iH]
  rw[←e2,←foldl_rep its k (acc++its),←e,lP,iA]
section
variable {X:Cx}{pins:aD}{σ:St}{H:Hp}{s:Shared}{l b:Addr}{xs ys zs:List V}
theorem Inv.Zll{its its':aJ}{f:Array Value→Array Value}(I:Inv X pins σ H s)(hH:H l=some (.lst xs))
  (e:s.heap.get? l=some { cls:=.type "list",data:=.seq its.toArray n }) (hf:f its.toArray=its'.toArray) (hv:Vals ys its') (hz:ys.length≤sizeLine) :
  Inv X pins σ (upd H l (.lst ys)) { s with heap:=s.heap.update l (Obj.mapSeq f),toks:=t' }:=by
 have q:=PySem.IsL.update e f;rw[hf]at q;refine I.write (x:=l) (e:=l) (by rw[hH];exact trivial) (.inl rfl) (λb' u hb hu=>(dF s.heap (Obj.mapSeq f) (lW hb)).trans hu) ⟨_,q⟩ ?_;exact⟨hz,its',_,hv,q⟩
theorem Inv.Zn3(I:Inv X pins σ H s)(hv:Vals ys its)(hz:ys.length≤sizeLine):
  Inv X pins σ (upd H s.heap.objs.size (.lst ys)) { s with heap:=s.heap.push { cls:=.type "list",data:=.seq its.toArray },toks:=t' }:=
 I.laid (λ_ _ q=>rE _ q) (rG _) ⟨hz,its,0,hv,rR _ rfl⟩
theorem Inv.fresh(I:Inv X pins σ H s):H s.heap.objs.size=none:=I.hok.fresh (rG _)
theorem Inv.Cw(I:Inv X pins σ H s)(hH:H l=some (.lst xs)):xs.length≤sizeLine∧∃(its:aJ) (n:Nat),Vals xs its∧xs.length=its.length∧s.heap.get? l=some { cls:=.type "list",data:=.seq its.toArray n }:=by
 obtain⟨z,its,n,r,e⟩:=I.hok l _ hH;exact⟨z,its,n,r,r.length,e⟩
theorem Ej(h:n≤sizeLine):Builtin.List.listTooLong n=false:=by
 unfold Builtin.List.listTooLong;exact decide_eq_false (by lia)
end
section
variable {X:Cx}
inductive Fz(x:V)(vs:List V)(H:Hp)(Q:VK):Prop
 |mk(l xs y:_)(h1:x=.ref l)(h2:vs=[y])(h3:H l=some (.lst xs))(h4:xs.length<sizeLine)(h5:Q .non (upd H l (.lst (xs++[y])))):Fz x vs H Q
def Zg8:V→List V→Hp→VK→Prop:=λx vs H Q=>Fz x vs H Q
theorem Wg:MtM X "list.append" Zg8:=by
 intro pins s σ H x vs v us Q I rx rv h;obtain⟨l,xs,y,rfl,rfl,hH,hz,q⟩:=h;cases rx;obtain⟨u,rfl,ru⟩:=rv.one;obtain⟨z,its,n,r,hl,e⟩:=I.Cw hH;refine call_meets F.slot_list_append ⟨_,e,rfl⟩ F.entry_list_append (F.args_list_append_2 _ _) (PySem.list_append l its.toArray n u (by rw[rQ];lia)) ⟨e,?_⟩;refine⟨.non,_,I.Zll (its':=its++[u]) hH e (by simp) (r.append (.cons ru .nil)) ?_,rfl,q⟩;rw[rS,oW];lia
inductive Fx(x:V)(vs:List V)(H:Hp)(Q:VK):Prop
 |mk(l b xs zs:_)(h1:x=.ref l)(h2:vs=[.ref b])(h3:H l=some (.lst xs))(h4:H b=some (.lst zs))(h5:xs.length+zs.length≤sizeLine)(h6:Q .non (upd H l (.lst (xs++zs)))):Fx x vs H Q
def Zg6:V→List V→Hp→VK→Prop:=λx vs H Q=>Fx x vs H Q
theorem J6:MtM X "list.extend" Zg6:=by
 intro pins s σ H x vs v us Q I rx rv h;obtain⟨l,b,xs,zs,rfl,rfl,hH,hB,hz,q⟩:=h;cases rx;obtain⟨u,rfl,ru⟩:=rv.one;cases ru;obtain⟨z,its,n,r,hl,e⟩:=I.Cw hH;obtain⟨z2,Ey,n2,r2,i3,e2⟩:=I.Cw hB;have hsz:its.toArray.size+Ey.toArray.size≤sizeLine:=by rw[rQ,rQ];lia
 have Zfh:¬ (!its.toArray.isEmpty&&Builtin.List.listTooLong (its.toArray.size+Ey.toArray.size))=true:=by
  rw[Ej hsz,Bool.and_false];exact rU
 refine call_meets F.slot_list_extend ⟨_,e,rfl⟩ F.entry_list_extend (F.args_list_extend_2 _ _)
  (AutoSeq1.list_extend_list_list_0 l its.toArray n b Ey.toArray n2 Zfh (by rw[rQ];lia) (by lia)) ⟨e,e2,?_⟩
 refine⟨.non,_,I.Zll (its':=its++Ey) hH e (by simp) (r.append r2) ?_,rfl,q⟩;rw[rS];lia
inductive Ak(x:V)(vs:List V)(H:Hp)(Q:VK):Prop
 |mk(l xs i k y:_)(h1:x=.ref l)(h2:vs=[.int i])(h3:H l=some (.lst xs))(h4 : -(2 ^ 63)≤i)(h5:i<2 ^ 63)(h6:seqIndex? i xs.length=some k)(h7:xs[k]?=some y)(h8:Q y (upd H l (.lst (xs.eraseIdx k)))):Ak x vs H Q
def Zk0:V→List V→Hp→VK→Prop:=λx vs H Q=>Ak x vs H Q
theorem Eo:MtM X "list.pop" Zk0:=by
 intro pins s σ H x vs v us Q I rx rv h;obtain⟨l,xs,i,k,y,rfl,rfl,hH,h1,h2,hk,hy,q⟩:=h;cases rx;obtain⟨u,rfl,ru⟩:=rv.one;obtain⟨t,rfl⟩:=ru;obtain⟨z,its,n,r,hl,e⟩:=I.Cw hH;obtain⟨w,hw,p8⟩:=r.get hy
 refine call_meets F.slot_list_pop ⟨_,e,rfl⟩ F.entry_list_pop (F.args_list_pop_2 _ _)
  (MeetsSeq.list_pop_at l its.toArray n i t k w (fitsIndex_both h1 h2) (by rw[rQ,←hl];exact hk) (by rw[←pW];exact hw) (by rw[rQ];lia)) ⟨e,?_⟩
 refine⟨y,_,I.Zll (its':=its.eraseIdx k) hH e ?_ (r.eraseIdx k) ?_,p8,q⟩
 ·show its.toArray.eraseIdxIfInBounds k=(its.eraseIdx k).toArray;rw[List.eraseIdxIfInBounds_toArray]
 ·have:=J7 xs k;lia
inductive Zjp(x:V)(y:V)(H:Hp)(Q:VK):Prop
 |mk(l b xs zs:_)(h1:x=.ref l)(h2:y=.ref b)(h3:H l=some (.lst xs))(h4:H b=some (.lst zs))(h5:xs.length+zs.length≤sizeLine)(h6:∀p,H p=none→Q (.ref p) (upd H p (.lst (xs++zs)))):Zjp x y H Q
def rCat:R2:=λx y H Q=>Zjp x y H Q
theorem Hx:OpR X (binaryOp .Add) rCat:=by
 intro pins s σ H x y v u Q I rx ry h;obtain⟨l,b,xs,zs,rfl,rfl,hH,hB,hz,q⟩:=h;cases rx;cases ry;obtain⟨z,its,n,r,hl,e⟩:=I.Cw hH;obtain⟨z2,Ey,n2,r2,i3,e2⟩:=I.Cw hB;refine PySem.P.add_list e e2 ?_ (by rw[rQ,rQ];lia);have ea:its.toArray++Ey.toArray=(its++Ey).toArray:=by simp
 rw[ea];exact⟨.ref _,_,I.Zn3 (t':=s.toks) (r.append r2) (by rw[rS];lia),rfl,q _ I.fresh⟩
inductive Zji(x:V)(y:V)(H:Hp)(Q:VK):Prop
 |mk(l k xs:_)(h1:x=.ref l)(h2:y=.int k)(h3:H l=some (.lst xs))(h4 : -(2 ^ 63)≤k)(h5:k<2 ^ 63)(h6:xs.length*k.toNat≤sizeLine)(h7:∀p,H p=none→Q (.ref p) (upd H p (.lst (List.replicate k.toNat xs).flatten))):Zji x y H Q
def rRep:R2:=λx y H Q=>Zji x y H Q
theorem len_rep{α:Type}(xs:List α)(k:Nat):(List.replicate k xs).flatten.length=k*xs.length:=by
 induction k with
 |zero=>simp
 |succ k ih=>rw[lP,iW,rS,ih,Nat.succ_mul,bZ]
theorem Cg:OpR X (binaryOp .Mult) rRep:=by
 intro pins s σ H x y v u Q I rx ry h;obtain⟨l,k,xs,rfl,rfl,hH,h1,h2,hz,q⟩:=h;cases rx;obtain⟨t,rfl⟩:=ry;obtain⟨z,its,n,r,hl,e⟩:=I.Cw hH;have hlen:its.toArray.size*k.toNat≤sizeLine:=by rw[rQ,←hl];exact hz
 have zS:¬ its.toArray.size*k.toNat>(2 ^ 63-1)/8:=by
  have:(sizeLine:Nat)≤(2 ^ 63-1)/8:=by decide
  lia
 have jD:¬ (!Builtin.List.listFitsIndex k)=true:=by
  rw[fitsIndex_both h1 h2];exact rU
 have Zfh:¬ Builtin.List.listTooLong (its.toArray.size*k.toNat)=true:=by
  rw[Ej hlen];exact rU
 have Pd:List.foldl (λx1 x2=>x1++x2) #[] (List.replicate (if its.toArray.isEmpty=true then 0 else k.toNat) its.toArray)=(List.replicate k.toNat its).flatten.toArray:=by
  have f0:∀m:Nat,List.foldl (λx1 x2=>x1++x2) #[] (List.replicate m its.toArray)=(List.replicate m its).flatten.toArray:=λm=>by
   have:=foldl_rep its m [];rw[List.nil_append]at this;exact this
  rw[f0]
  cases its with
  |nil=>simp
  |cons a r'=>rw[if_neg (by simp)]
 refine wpAny_binaryOp_repeat_ref (T:="list") (U:="int") (by decide) ⟨_,e,rfl⟩ (λs'=>typeIs_int s' k t) noFill_list_mul F.fills_int_mul bA repeat_list F.slot_int_index.lookup
  (call_meets bA (typeIs_int s k t) F.entry_int_rmul (F.args_int_rmul_2 _ _) (int___rmul___int_list k t l its.toArray n)
   ⟨e,rfl,⟨_,e,rfl⟩,call_meets F.slot_list_mul ⟨_,e,rfl⟩ F.entry_list_mul (F.args_list_mul_2 _ _) (AutoListH.list___mul___list_int_3 l its.toArray n k t jD zS Zfh) ⟨e,?_⟩⟩)
 rw[Pd];exact⟨.ref _,_,I.Zn3 (t':=s.toks) (r.rep k.toNat) (by rw[len_rep,aA];exact hz),rfl,q _ I.fresh⟩
end
section
variable {prog:Program}{w:World}{A:Around}{E:aC}{s:Shared}
set_option maxRecDepth 100000 in
end
section
variable {X:Cx}
end
end L2
namespace Att
open PySem PySem.W PySem.Calls PyProof.Rows
theorem Ml{P:Params}{h:Heap}:∀(ns:List Int) (vs:aJ),WellAll P h vs (ns.map WData.int)→IntsAre vs ns:=by
 intro ns
 induction ns with
 |nil=>
  intro vs w;rw[fF]at w;cases w;exact .nil
 |cons n ns ih=>
  intro vs w;rw[rW]at w
  cases w with
  |cons a b=>
   cases a;exact .cons _ _ (ih _ b)
theorem Za3{l:OpenLaw}{n:Nat}(hn:l.most=some n){P:Params}{h:Heap}{args:List WData}{vals:aJ}
  (Nl:l.row.toRowW.claim.pre args=true) (yM:WellAll P h vals args) :
  ∃a vs ns,vals=[Value.ref a]∧args=[WData.list (ns.map WData.int)]∧h.get? a=some { cls:=.type "list",data:=.seq vs.toArray }∧IntsAre vs ns∧ns.length≤n:=by
 have hsh:WShape.hasAll [] args [.list .int]=true:=(pre_splitW Nl).1;have hc:l.pre.holds [] { args:=args } = true:=(pre_splitW Nl).2;obtain⟨d,r,rfl,h1,h2⟩:=hasAllW_cons hsh;obtain rfl:=hasAllW_nil h2;obtain⟨xs,rfl,h3⟩:=hasW_list h1;obtain⟨ns,rfl⟩:=items_int h3
 have hlen:ns.length≤n:=by
  unfold OpenLaw.pre at hc
  have h4:(WTm.not (.lt (.lit (.int (n:Int))) (.len (.arg 0)))).holds [] { args:=[.list (ns.map .int)] } = true:=by
   have h4:=(holds_andW hc).1;rw[hn]at h4;exact h4
  have h5:=condW_of h4 (w_not (w_lt w_lit (w_len_list (w_arg rfl))));rw[rC]at h5;refine Nat.le_of_not_lt λq=>?_;have q':(n:Int)<((ns.length:Nat):Int):=by lia
  first
   | (rw[decide_eq_true q']at h5;exact absurd h5 (by decide))
   | (simp at h5;lia)
 cases yM with
 |cons w1 w2=>
  cases w2
  cases w1 with
  |list ho Np=>exact⟨_,_,ns,rfl,rfl,ho,Ml ns _ Np,hlen⟩
theorem Za4(l:OpenLaw)(args:List WData):l.row.toRowW.claim.post args (.bool true) args=true:=
 postW_of (r:=l.row.toRowW) (X:=(true==true))
  (show WShape.has [] (.bool true) .bool=true by first|rfl|decide|simp[WShape.has,WShape.arms,WShape.armsAll])
  (show (WTm.eq .res (.lit (.bool true))).value [] { args:=args,res:=some (.bool true),after:=args } = some (.bool (true==true)) from w_eq_bool (w_res rfl) w_lit) rfl
theorem Ma{l:OpenLaw}{n:Nat}{q:Program}{loose:List Str}{XP:ZZ}{YP:YQ}{d:DefRec}
  (hn:l.most=some n) (i7:d.params.defaults=[])
  (call:∀(w:World) (s₀ x3:Shared) (mg mb:aG) (fa:Addr) (o:Obj) (pm cd doc:Value) (a:Addr) (vs:aJ) (ns:List Int),
   Ground q loose [] XP w s₀ mg mb x3.heap→YP w x3.heap→
   x3.heap.get? fa=some o→o.data=.func (docDef d.name d.params d.body d.scope pm cd doc)→x3.heap.CodeRec cd d.name→mg d.name=some (.ref fa)→
   x3.heap.get? a=some { cls:=.type "list",data:=.seq vs.toArray }→IntsAre vs ns→ns.length≤n→x3.gens = #[]→
   codeAny (model l.prog w) callerA (.call (.ref fa) ⟨[.ref a],[]⟩) (λr s'=>r=.ok (.ret (.bool true))∧OldK x3.heap s'.heap∧s'.os=x3.os∧AllBare s'.gens) x3) :
  WalkO q loose XP YP l.row.toRowW d [] (λf vs=>PySem.call f vs):=by
 intro w s₀ x3 mg mb G Y fa o pm cd doc dV kV ho hd w9 hD xR hg args vals as Nl Zoe hrd yM hlo;obtain rfl:dV=.none:=Dflts.none hD i7;obtain rfl:kV=.none:=Dflts.noKw hD;obtain⟨a,vs,ns,rfl,rfl,Zff,hints,hlen⟩:=Za3 hn Nl yM;refine enter_call (fV (call w s₀ x3 mg mb fa o pm cd doc a vs ns G Y ho (fd_plain hd) w9 xR Zff hints hlen hg) λr s' hq=>?_);obtain⟨rfl,h2,h3,h4⟩:=hq;exact⟨.inl ⟨.bool true,.bool true,[],rfl,λ_=>rfl,.bool true,Za4 l _,λ_=>⟨List.Pairwise.nil,λ_ hm=>(nomatch hm)⟩⟩,h2,h3,h4⟩
section
variable {prog:Program}{w:World}{A:Around}{E:aC}{s:Shared}{K:Frag}
def ledger(h:Heap)(L d:Addr):List aF:=(List.range h.objs.size).filterMap λa=>if a=L∨a=d then none else (h.get? a).map λo=>(a,o)
end
end Att
namespace L2
open PySem PySem.Spec PyProof.Rows
variable {CX:CXT}{K:W.Frag}{P q:Program}{XP:ZZ}{YP:YQ}{fd:FuncData}{loose:List Str}{mg:aG}{n:Nat}{ns:List Int}{sp:Sp}{w:World}{x:Str}
theorem Uv:∀{vs:aJ}{ns:List Int},IntsAre vs ns→Vals (ns.map V.int) vs
 |_,_,.nil=>.nil
 |_,_,.cons n t h=>.cons ⟨t,rfl⟩ (Uv h)
def Zmo(H:Hp):Prop:=∀b,H b=none∨∃o xs,H b=some (.frz o (.lst xs))
theorem Zey{mb:aG}{k:Nat}{fa a:Addr}{x:Str}{x3:Shared}{vs:aJ} 
  (KX:K.In x3.heap) (z3:x3.heap.Ns mainGlobals mg) (hb:x3.heap.Ns builtinsNs mb) (mD:∀x:Str,x≠"__name__"→mb x=bootBuiltins x) (Zly:x3.heap.NoLimit) (hg:x3.gens = #[])
  (ha:x3.heap.get? a=some { cls:=.type "list",data:=.seq vs.toArray }) (hi:IntsAre vs ns) (hl:ns.length≤sizeLine) (hr:Wu k callerA)
  (F:∀base:Heap,K.In base→base.Ns mainGlobals mg→Yc P w K mg base CX k fa fd [x] sp) (Zfj:∀(s:Shared) (u:Value),BindsTo s fd ⟨[u],[]⟩ [(x,u)])
  (y4:∀H:Hp,Zmo H→SqL K H a (ns.map V.int)→sp [.ref a] H (λv _=>v=.bl true) λ_ _ _=>False)
  (sU:∀H e s',CX [] H x3 (λ_ _ _=>False) e s'→False) :
  codeAny (model P w) callerA (.call (.ref fa) ⟨[.ref a],[]⟩) (λr s'=>r=.ok (.ret (.bool true))∧OldK x3.heap s'.heap∧s'.os=x3.os∧AllBare s'.gens) x3:=by
 have rv:=Uv hi;have Zlm:=hi.length
 have core:∀H:Hp,Zmo H→SqL K H a (ns.map V.int)→HOk P w H x3.heap→(∀b,H b≠none→b=a)→(H a≠none→K.lookup a=none)→
   codeAny (model P w) callerA (.call (.ref fa) ⟨[.ref a],[]⟩) (λr s'=>r=.ok (.ret (.bool true))∧OldK x3.heap s'.heap∧s'.os=x3.os∧AllBare s'.gens) x3:=by
  intro H hO hS hok hA hK;have Qe:∀{b:Addr}{o:Obj},x3.heap.get? b=some o→H b=none→(Pe x3.heap H).get? b=some o:=λe n=>E2 e n
  have hV:∀{b:Addr}{o:Obj}{es:Array DictEntry}{ep:Nat},x3.heap.get? b=some o→o.data=.dict es ep→H b=none:=λ{b o es ep} e d=>by
   cases q:H b with
   |none=>rfl
   |some u=>
    have e':b=a:=hA b (by rw[q];simp);subst e';rw[ha]at e;cases e;have d':Data.seq vs.toArray _=Data.dict es ep:=d;cases d'
  have xV:∀{b:Addr}{m:aG},x3.heap.Ns b m→(Pe x3.heap H).Ns b m:=λ{b m} ⟨o,es,ep,e,d,r⟩=>⟨o,es,ep,Qe e (hV e d),d,r⟩
  have kO:K.In (Pe x3.heap H):=λb o e=>Qe (KX b o e) (by
   cases q:H b with
   |none=>rfl
   |some u=>
    have e':b=a:=hA b (by rw[q];simp);subst e'
    rw[hK (by rw[q];simp)]at e;cases e)
  have hM:Mod K mg (Pe x3.heap H):=⟨kO,xV z3,⟨mb,xV hb,mD⟩,let ⟨mc,h1,h2⟩:=Zly;⟨mc,xV h1,h2⟩⟩;have e0:Bv P w K mg (Pe x3.heap H) callerA [] x3 H:=⟨rfl,hM,λb o e=>Aw e,cG (Ic _ _),trivial,λb hb=>absurd (show b∈([]:List Addr) from hb) (by simp),hok,.of_eq hg⟩;refine fV ((F _ kO (xV z3)).run callerA [] x3 H ⟨[.ref a],[]⟩ [.ref a] [.ref a] _ _ hr e0 (Zfj x3 (.ref a)) (.cons rfl .nil) (y4 H hO hS)) λr s' h=>?_
  cases r with
  |error e=>exact(sU H e s' h).elim
  |ok fl=>
   cases fl with
   |next=>exact False.elim h
   |brk=>exact False.elim h
   |cont=>exact False.elim h
   |ret u=>
    obtain⟨v,H',os,bare,un,Zh1,r',q⟩:=h;have q':v=.bl true:=q;subst q';obtain rfl:u=Value.bool true:=r';refine⟨rfl,OldK.of_keep λb o e=>?_,os,bare⟩
    cases q:H b with
    |none=>exact un.keep b o e q (by intro z;exact absurd (show b∈([]:List Addr) from z) (by simp)) (by simp)
    |some u=>
     rcases hO b with z|⟨ob,xs,z⟩
     ·rw[q]at z;cases z
     ·have z2:=un.Kg b ob _ z;obtain⟨e1,_⟩:=hok b _ z;obtain⟨e2,_⟩:=Zh1 b _ z2;rw[e]at e1;cases e1;exact e2
 cases hk:K.lookup a with
 |some o=>
  have e:=KX a o hk;rw[ha]at e;cases e;refine core (λ_=>none) (λ_=>.inl rfl) (.inr ⟨_,vs.toArray,_,hk,rfl,rfl,rfl,by rw[rQ,Zlm];exact hl,by simpa using rv⟩) (λb u z=>by have z':(none:Option HO)=some u:=z;cases z') (λb z=>absurd rfl z) λz=>absurd rfl z
 |none=>
  refine core (λb=>if b=a then some (.frz { cls:=.type "list",data:=.seq vs.toArray } (.lst (ns.map V.int))) else none) (λb=>?_) (.inl (.inr ⟨{ cls:=.type "list",data:=.seq vs.toArray },if_pos rfl⟩)) (λb u z=>?_) (λb z=>?_) λ_=>hk
  ·by_cases hb:b=a
   ·exact .inr ⟨_,_,if_pos hb⟩
   ·exact .inl (if_neg hb)
  ·by_cases hb:b=a
   ·have z':=(if_pos hb).symm.trans z;cases z';subst hb;exact⟨ha,by rw[rC];exact hl,vs,_,rv,ha⟩
   ·have z':=(if_neg hb).symm.trans z;cases z'
  ·by_cases hb:b=a
   ·exact hb
   ·exact absurd (if_neg hb) z
abbrev KOf{K:W.Frag}{h:Heap}(_:K.In h):W.Frag:=K
theorem Zgm{l:W.OpenLaw}{k:Nat}{d:DefRec}{K:Params→W.Frag}{CX:World→CXT}{sp:World→Sp} 
  (hn:l.most=some n) (mK:n≤sizeLine) (i7:d.params.defaults=[]) (hr:Wu k callerA)
  (hY:∀(w:World) (h:Heap),YP w h→(K w.params).In h)
  (F:∀(w:World) (mg:aG) (fa:Addr) (h:Heap),(K w.params).In h→h.Ns mainGlobals mg→mg d.name=some (.ref fa)→
   ∃fd:FuncData,(∀(s:Shared) (u:Value),BindsTo s fd ⟨[u],[]⟩ [(x,u)])∧
    ∀base:Heap,(K w.params).In base→base.Ns mainGlobals mg→Yc l.prog w (K w.params) mg base (CX w) k fa fd [x] (sp w))
  (y4:∀(w:World) (H:Hp) (a:Addr) (ns:List Int),ns.length≤n→Zmo H→SqL (K w.params) H a (ns.map V.int)→sp w [.ref a] H (λv _=>v=.bl true) λ_ _ _=>False)
  (sU:∀(w:World) (H:Hp) (s:Shared) (e:Value) (s':Shared),CX w [] H s (λ_ _ _=>False) e s'→False) :
  W.WalkO q loose XP YP l.row.toRowW d [] (λf vs=>PySem.call f vs):=by
 refine Att.Ma hn i7 λw s₀ x3 mg mb fa o pm cd doc a vs ns G Y ho hd w9 xR Zff hints hlen hg=>?_;have KX:=hY w _ Y;obtain⟨fd,hb,hF⟩:=F w mg fa _ KX G.T.g xR;exact Zey KX G.T.g G.T.b G.T.builtins G.T.nolimit hg Zff hints (pQ hlen mK) hr hF hb (λH hO hS=>y4 w H a ns hlen hO hS) λH e s'=>sU w H x3 e s'
end L2
/- THE LAST THEOREM (shape;LID,My.* are yours):
   My.Adr:a structure of vN addresses that your layer names (classes,Zms);My.Txt K t:a structure (Prop) of vN equations over K;
   My.Zka:{K} {implicit addresses ..} (e1:nsIn K mainGlobals "law"=some (some (.ref f))) (e2:K.lookup f=some ⟨oc,od,.func (fnOf "law" "law" params body scope dV kV doc pm an cdv ct),sl⟩) (e3:codeIn K cdv "law"=true) .. : ∃t,My.Txt K t
set_option maxRecDepth 100000 in
set_option maxHeartbeats 0 in
theorem PySem.Challenge.Zid:PySem.Challenge.Zkv.Holds := by
 w_on;o_law;k_head;(case hw=>w_witness2)
 k_fill
 refine L2.Zgm (l:=PySem.Challenge.Zkv) (n:=63) (k:=40) (x:="script") (CX:=λw=>..) (sp:=λ_=>My.sp_law) rfl (by decide) rfl ⟨rfl,by decide,by decide⟩ (λw h Y=>W.kIn_of Y) ?F ?S ?C
 case F=>
  intro w mg fa h KX G xR
  have T:∃t,My.Txt (L2.KOf KX) t:=by
   dsimp only[L2.KOf]                          -- K must stand as «<heap const> w.params» for k_is;refine' My.Zka ?e1 ?e2 ?e3 ..
   (case e1=>W.k_is)                    -- in vN order:a name -> its address -> its object -> its parts
   (case e2=>W.k_is)
   ..
  obtain⟨t,T⟩:=T;have e0:=xR.symm.trans (bK KX G T.law);cases e0                                       -- fa is vN law's own address;exact⟨_,λs u=>.of_eq rfl,λbase kb nb=>My.Zlo T kb nb⟩     -- if «.of_eq rfl» comes too early:refine' ⟨_,?b,λbase kb nb=>My.Zlo T kb nb⟩;exact λs u=>.of_eq rfl
 case S=>exact λw H a ns hl hO hS=>..
 case C=>exact ..
(vN tactic k_is has no namespace:write k_is) -/
namespace L2
open PySem PySem.Spec PyProof.Rows
variable {A:Around}{B:Prop}{CX:CXT}{D:Ends}{E Q:aC}{H H' H1 H2:Hp}{I S b c d f it:Addr}{K:W.Frag}{N loose ps:List Str}{P q:Program}{R:Result→Shared→Prop}{T:String}{X:Cx}{XP:ZZ}{YP:YQ}{apos Xs p pos:Pos}{base h h':Heap}{body:List Stmt}{ct doc oc pm u v:Value}{e tg:Expr}{env:Env}{ep i n t':Nat}{es:ZT}{fd:FuncData}{fp wr:ZQ}{fv xs ys:List V}{g:TG}{items:aO}{its us:aJ}{kvs:List (List Key×V)}{mg:aG}{name qual x:Str}{ns:List Int}{o:Obj}{od:ZA}{params:Arguments}{pins:aD}{s:Shared}{sc scope:Scope}{sp:Sp}{st:Stmt}{tb:TS}{te tl:TE}{vs:List Nat}{w:World}{y:V}{σ:St}
def Vc(s:Stmt):Arguments:=match s with
 |.FunctionDef _ a _ _ _ _ _ _ _ _=>a
 |_=>{ posonlyargs:=[],args:=[],vararg:=none,kwonlyargs:=[],kw_defaults:=[],kwarg:=none,defaults:=[] }
def X9(s:Stmt):List Stmt:=match s with
 |.FunctionDef _ _ b _ _ _ _ _ _ _=>b
 |_=>[]
def Zh(s:Stmt):Scope:=match s with
 |.FunctionDef _ _ _ _ _ _ sc _ _ _=>sc
 |_=>{ kind:=.function,names:=[],isGenerator:=false,isCoroutine:=false }
abbrev CX0:CXT:=λ_ _ _ _ _ _=>False
abbrev E0:XK:=λ_ _ _=>False
theorem Zjr:Passes CX0 X E0:=λ_ _ _ _ _ _ _ h=>h.elim
structure Fun(K:W.Frag)(x qual:Str)(st:Stmt)(f:Addr)(fd:FuncData):Prop where
 ex:∃(oc:Value) (od:ZA) (kV doc pm:Value) (an:ZA) (cdv ct:Value) (osl:aP),
  fd=W.fnOf x qual (Vc st) (X9 st) (Zh st) .none kV doc pm an cdv ct∧K.lookup f=some ⟨oc,od,.func fd,osl⟩∧W.codeIn K cdv qual=true
 kp:W.keepIn K (.ref f)=true
section
variable {P:Program}{w:World}{K:W.Frag}{mg:aG}{base:Heap}
theorem Fun.ok{k:Nat}(F:Fun K x qual st f fd)(S:Zv N ps (Zh st))(len:∀vs H Q E,sp vs H Q E→vs.length=ps.length)
  (Ow:∀(cdv:Value) (A:Around) (outer:List Env) (s:Shared) (H:Hp) (vs:List V) (Q:VK) (E:XK),Wu k (A.deeper (envOfC qual (Zh st) s.heap.objs.size f cdv))→sp vs H Q E→
   ∃t,PSs (Bf CX0 P w K mg base N qual (Zh st) f cdv A outer s H E).nox (X9 st) t∧t { nx:=λ_ H'=>Q .non H',rt:=Q } (start N vs) H):Yc P w K mg base CX0 (k+1) f fd ps sp:=by
 obtain⟨oc,od,kV,doc,pm,an,cdv,ct,osl,rfl,lk,w9⟩:=F.ex;refine Zj2 lk w9 S len λA outer s H vs Q E hr y4=>?_;obtain⟨t,h,q⟩:=Ow cdv A outer s H vs Q E hr y4;exact⟨t,h.nox,q⟩
theorem Fun.binds(F:Fun K x qual st f fd)
  (h:∀(kV doc pm:Value) (an:ZA) (cdv ct:Value) (us:aJ),us.length=ps.length→bindArgs (W.fnOf x qual (Vc st) (X9 st) (Zh st) .none kV doc pm an cdv ct) ⟨us,[]⟩=pure (ps.zip us)):Binds K fd ps []:=by
 obtain⟨oc,od,kV,doc,pm,an,cdv,ct,osl,rfl,lk,w9⟩:=F.ex;exact .all (h kV doc pm an cdv ct)
theorem fun_mk{an:ZA}{osl:aP}{kV cdv:Value}(l:K.lookup f=some ⟨oc,od,.func (W.fnOf x qual (Vc st) (X9 st) (Zh st) .none kV doc pm an cdv ct),osl⟩)
  (c:W.codeIn K cdv qual=true) (k:W.keepIn K (.ref f)=true):Fun K x qual st f (W.fnOf x qual (Vc st) (X9 st) (Zh st) .none kV doc pm an cdv ct):=⟨⟨oc,od,kV,doc,pm,an,cdv,ct,osl,rfl,l,c⟩,k⟩
end
theorem Wv{k:Nat}(hr:Wu k A):A.units+1<cLine:=iB (Nat.add_le_add_left (by decide:1≤64) _) hr.units
theorem Z0(h:n≤1000):n<sizeLine:=iB h (by decide)
section
variable {X:Cx}
theorem pv(i:Nat)(hN:X.N[i]?=some x:=by rfl)(hv:Vis X.env.scope x:=by first|exact Or.inl rfl|exact Or.inr (Or.inl rfl)|exact Or.inr (Or.inr rfl))(hd:(x==("__debug__" : Str))=false:=by decide)
  (w9:(x==("__classdict__" : Str))=false:=by decide):PE X (.Name x pos) (K1 i):=Zd6 hN hv hd w9
end
theorem Ze6{A:Prop}(h:B):if false=true then A else B:=by
 rw[if_neg rU];exact h
theorem Zhy{A:Prop}(h:A):if true=true then A else B:=by
 rw[if_pos rfl];exact h
theorem Ur{c A:Prop} [Decidable c] (h1:c→A) (h2:¬ c→B):if c then A else B:=by
 by_cases h:c
 ·rw[if_pos h];exact h1 h
 ·rw[if_neg h];exact h2 h
theorem Ia{c A:Prop} [Decidable c] (hc:c) (h:B):if (!decide c)=true then A else B:=by
 rw[decide_eq_true hc];exact Ze6 h
def Zm(H H':Hp):Prop:=∀b o,H b=some o→H' b=some o
theorem Zm.refl(H:Hp):Zm H H:=λ_ _ h=>h
theorem Zm.trans(a:Zm H H1)(b:Zm H1 H2):Zm H H2:=λc o h=>b c o (a c o h)
theorem Zm.free(e:Zm H H'){l:Addr}(h:H' l=Option.none):H l=Option.none:=by
 cases q:H l with
 |none=>rfl
 |some o=>
  rw[e l o q]at h;cases h
section
variable {κ:Type} [DecidableEq κ]
def Xj(kvs:List (κ×V))(k:κ):Option V:=(kvs.find? λkv=>decide (kv.1=k)).map (·.2)
def putK(kvs:List (κ×V))(k:κ)(v:V):List (κ×V):=
 if (kvs.any λkv=>decide (kv.1=k))=true then kvs.map (λkv=>if kv.1=k then (kv.1,v) else kv) else kvs++[(k,v)]
theorem Zcj{k:κ}:Xj ([]:List (κ×V)) k=none:=rfl
theorem Xi{p:κ×V}{r:List (κ×V)}{k:κ}(e:p.1=k):Xj (p :: r) k=some p.2:=by simp[Xj,dC,e]
theorem Y2{p:κ×V}{r:List (κ×V)}{k:κ}(e:¬ p.1=k):Xj (p :: r) k=Xj r k:=by simp[Xj,dC,e]
theorem Sy(k:κ):∀kvs:List (κ×V),(kvs.any λkv=>decide (kv.1=k))=(Xj kvs k).isSome
 |[]=>rfl
 |p :: r=>by
  rw[cT]
  by_cases e:p.1=k
  ·simp only[Xi e,decide_eq_true e,Bool.true_or,Option.isSome_some]
  ·rw[Y2 e,decide_eq_false e,Bool.false_or];exact Sy k r
theorem Fd(k j:κ)(y:V):∀kvs:List (κ×V),Xj (kvs.map λkv=>if kv.1=k then (kv.1,y) else kv) j=(Xj kvs j).map λx=>if j=k then y else x
 |[]=>rfl
 |p :: r=>by
  have ih:=Fd k j y r;rw[rW]
  by_cases h:p.1=k
  ·rw[if_pos h]
   by_cases e:p.1=j
   ·rw[Xi (p:=(p.1,y)) e,Xi e,cA,if_pos (e.symm.trans h)]
   ·rw[Y2 (p:=(p.1,y)) e,Y2 e,ih]
  ·rw[if_neg h]
   by_cases e:p.1=j
   ·rw[Xi (p:=p) e,Xi e,cA,if_neg (λz=>h (e.trans z))]
   ·rw[Y2 (p:=p) e,Y2 e,ih]
theorem Jw(k j:κ)(y:V):∀kvs:List (κ×V),Xj kvs k=none→Xj (kvs++[(k,y)]) j=if j=k then some y else Xj kvs j
 |[],_=>by
  by_cases e:k=j
  ·rw[if_pos e.symm];exact Xi (p:=(k,y)) e
  ·rw[if_neg (λz=>e z.symm)];exact Y2 (p:=(k,y)) e
 |p :: r,hn=>by
  rw[List.cons_append];have hk:¬ p.1=k:=λz=>by rw[Xi z]at hn;cases hn
  rw[Y2 hk]at hn;have ih:=Jw k j y r hn
  by_cases e:p.1=j
  ·rw[Xi e,Xi e,if_neg (λz=>hk (e.trans z))]
  ·rw[Y2 e,Y2 e,ih]
theorem Pn(kvs:List (κ×V))(k j:κ)(y:V):Xj (putK kvs k y) j=if j=k then some y else Xj kvs j:=by
 unfold putK
 by_cases a:(kvs.any λkv=>decide (kv.1=k))=true
 ·rw[if_pos a,Fd];rw[Sy]at a
  by_cases e:j=k
  ·obtain⟨x,hx⟩:=cE.mp a;rw[if_pos e,e,hx,cA,if_pos rfl]
  ·rw[if_neg e]
   cases Xj kvs j with
   |none=>rfl
   |some x=>rw[cA,if_neg e]
 ·rw[if_neg a];refine Jw k j y kvs ?_;rw[Sy]at a
  cases q:Xj kvs k with
  |none=>rfl
  |some x=>rw[q]at a;exact(a rfl).elim
theorem Wh(kvs:List (κ×V))(k:κ)(v:V):(putK kvs k v).length≤kvs.length+1:=by
 unfold putK
 split
 ·rw[rC];lia
 ·rw[rS,pY,fK];lia
theorem Lr{kvs:List (κ×V)}{k:κ}(v:V)(h:Xj kvs k=none):putK kvs k v=kvs++[(k,v)]:=by
 unfold putK;rw[Sy,h];exact if_neg (by decide)
theorem Pj.U5{o:Option V}{u:YM}(r:Pj o u):o.isSome=u.isSome:=by
 cases o with
 |none=>cases u with
  |none=>rfl
  |some _=>exact(show False from r).elim
 |some _=>cases u with
  |none=>exact(show False from r).elim
  |some _=>rfl
theorem Pj.getD{o:Option V}{u:YM}{d:V}{d':Value}(r:Pj o u)(rd:RelV d d'):RelV (o.getD d) (u.getD d'):=by
 cases o with
 |none=>cases u with
  |none=>exact rd
  |some _=>exact(show False from r).elim
 |some _=>cases u with
  |none=>exact(show False from r).elim
  |some _=>exact r
theorem KV.val{kvs:List (κ×V)}{vs:List (κ×Value)}(r:KV kvs vs)(k:κ):Pj (Xj kvs k) (valueAt vs k):=by
 unfold KV at r
 induction r with
 |nil=>exact True.intro
 | @cons p q ps qs h t ih=>
  obtain⟨h1,h2⟩:=h
  by_cases e:p.1=k
  ·have e':q.1=k:=h1.symm.trans e;have b:valueAt (q :: qs) k=some q.2:=by simp[valueAt,dC,e']
   rw[Xi e,b];exact h2
  ·have e':¬ q.1=k:=λz=>e (h1.trans z);have b:valueAt (q :: qs) k=valueAt qs k:=by simp[valueAt,dC,e']
   rw[Y2 e,b];exact ih
theorem KV.any{kvs:List (κ×V)}{vs:List (κ×Value)}(r:KV kvs vs)(k:κ):(kvs.any λkv=>decide (kv.1=k))=vs.any λkv=>decide (kv.1=k):=by
 unfold KV at r
 induction r with
 |nil=>rfl
 |cons h t ih=>rw[cT,cT,ih,h.1]
theorem KV.Zkx{kvs:List (κ×V)}{vs:List (κ×Value)}(r:KV kvs vs)(k:κ)(ry:RelV y u):
  KV (kvs.map λkv=>if kv.1=k then (kv.1,y) else kv) (vs.map λkv=>if kv.1=k then (kv.1,u) else kv):=by
 unfold KV at r ⊢
 induction r with
 |nil=>exact .nil
 | @cons p q ps qs h t ih=>
  rw[rW,rW];refine .cons ?_ ih;obtain⟨h1,h2⟩:=h
  by_cases e:p.1=k
  ·rw[if_pos e,if_pos (h1.symm.trans e)];exact⟨h1,ry⟩
  ·rw[if_neg e,if_neg (λz=>e (h1.trans z))];exact⟨h1,h2⟩
theorem KV.put{kvs:List (κ×V)}{vs:List (κ×Value)}(r:KV kvs vs)(k:κ)(ry:RelV y u):KV (putK kvs k y) (stored vs k u):=by
 unfold putK stored;rw[r.any k]
 by_cases e:(vs.any λkv=>decide (kv.1=k))=true
 ·rw[if_pos e,if_pos e];exact r.Zkx k ry
 ·rw[if_neg e,if_neg e];exact Paired.snoc r ⟨rfl,ry⟩
theorem KV.length{kvs:List (κ×V)}{vs:List (κ×Value)}(r:KV kvs vs):kvs.length=vs.length:=iY r
end
theorem N5{k:Key}(r:RelV (kV k) u):(Z7 P w).is k u=true:=by
 cases k with
 |inl i=>obtain⟨t,e⟩:=(show ∃t,u=Value.int i t from r);subst e;exact Es P w i t
 |inr x=>obtain⟨t,e⟩:=(show ∃t,u=Value.str x t from r);subst e;exact Er P w x t
theorem J9{P:Program}{w:World}:∀{ks:List Key}{us:aJ},Vals (ks.map kV) us→ItemsAre (Z7 P w) ks us
 |[],_,r=>by rw[fF]at r;cases r;exact .nil
 |k :: ks,_,r=>by
  rw[rW]at r
  cases r with
  |cons h t=>exact .cons (N5 h) (J9 t)
abbrev KT(H:Hp):List (List Key×V)→List (List Key×Addr×Value)→Prop:=Paired λp q=>p.1=q.1∧H q.2.1=some (.tup (p.1.map kV))∧RelV p.2 q.2.2
theorem KT.val{xs:List (List Key×Addr×Value)}(r:KT H kvs xs)(k:List Key):Pj (Xj kvs k) ((atKey xs k).map (·.2)):=by
 induction r with
 |nil=>exact True.intro
 | @cons p q ps qs h t ih=>
  obtain⟨h1,_,h2⟩:=h
  by_cases e:p.1=k
  ·have e':q.1=k:=h1.symm.trans e;have b:atKey (q :: qs) k=some q.2:=by simp[atKey,dC,e']
   rw[Xi e,b];exact h2
  ·have e':¬ q.1=k:=λz=>e (h1.trans z);have b:atKey (q :: qs) k=atKey qs k:=by simp[atKey,dC,e']
   rw[Y2 e,b];exact ih
theorem KT.Zkx{xs:List (List Key×Addr×Value)}(r:KT H kvs xs)(k:List Key)(ry:RelV y u):
  KT H (kvs.map λkv=>if kv.1=k then (kv.1,y) else kv) (xs.map (putAt k u)):=by
 induction r with
 |nil=>exact .nil
 | @cons p q ps qs h t ih=>
  rw[rW,rW];refine .cons ?_ ih;obtain⟨h1,h2,h3⟩:=h;unfold putAt
  by_cases e:p.1=k
  ·rw[if_pos e,if_pos (h1.symm.trans e)];exact⟨h1,h2,ry⟩
  ·rw[if_neg e,if_neg (λz=>e (h1.trans z))];exact⟨h1,h2,h3⟩
theorem KT.put{xs:List (List Key×Addr×Value)}(r:KT H kvs xs)(k:List Key)(hb:H b=some (.tup (k.map kV)))(ry:RelV y u):
  KT H (putK kvs k y) (storedH xs k b u):=by
 have e:(kvs.any λkv=>decide (kv.1=k))=(atKey xs k).isSome:=by
  rw[Sy,(r.val k).U5,bR]
 unfold putK storedH;rw[e]
 by_cases q:(atKey xs k).isSome=true
 ·rw[if_pos q,if_pos q];exact r.Zkx k ry
 ·rw[if_neg q,if_neg q];exact Paired.snoc r ⟨rfl,hb,ry⟩
theorem KT.keeps{xs:List (List Key×Addr×Value)}(r:KT H kvs xs)(ht:∀b ys,H b=some (.tup ys)→H' b=some (.tup ys)):KT H' kvs xs:=
 Paired.Zli r λ_ _ z=>⟨z.1,ht _ _ z.2.1,z.2.2⟩
section
variable {P:Program}{w:World}{H:Hp}{h:Heap}{a:Addr}
theorem Zjc{u:HO}(ok:HOk P w H h)(e:Rd H a u):Z8 P w H h a u:=e.ok ok
theorem Km{kvs:List (Key×V)}(ok:HOk P w H h)(e:Rd H a (.dK kvs)):kvs.length≤sizeLine∧(a==sysModules)=false∧∃vs,KV kvs vs∧h.DictOf (Z7 P w) a vs:=
 show Z8 P w H h a (.dK kvs) from Zjc ok e
theorem Zj3{kvs:List (Key×V)}(ok:HOk P w H h)(e:H a=some (.dK kvs)):kvs.length≤sizeLine∧(a==sysModules)=false∧∃vs,KV kvs vs∧h.DictOf (Z7 P w) a vs:=Km ok (.inl e)
theorem Tr{ks:List Key}(ok:HOk P w H h)(e:H a=some (.tup (ks.map kV))):(tupleKind (Z7 P w)).is h ks a:=by
 obtain⟨_,its,r,o,h1,h2,n,h3⟩:=(show Z8 P w H h a (.tup (ks.map kV)) from ok a _ e);exact⟨o,its.toArray,n,h1,h2,h3,by simpa using J9 r⟩
theorem Kl(ok:HOk P w H h)(e:Rd H a (.dT kvs)):kvs.length≤sizeLine∧(a==sysModules)=false∧
  ∃xs,KT H kvs xs∧h.DictOfH (tupleKind (Z7 P w)) a xs:=by
 obtain⟨z,y,xs,r,o,es,ep,h1,h2,h3,h4,h5⟩:=(show Z8 P w H h a (.dT kvs) from Zjc ok e);refine⟨z,y,xs,r,o,es,ep,h1,h2,h3,h4,λx hx=>?_,h5⟩
 have all:∀{l:List (List Key×V)}{m:List (List Key×Addr×Value)},KT H l m→∀x∈m,(tupleKind (Z7 P w)).is h x.1 x.2.1:=by
  intro l m q
  induction q with
  |nil=>intro x hx;exact nomatch hx
  | @cons p q ps qs hq t ih=>
   intro x hx
   rcases rT.mp hx with e|hx
   ·subst e;exact Tr ok (by rw[←hq.1];exact hq.2.1)
   ·exact ih x hx
 exact all r x hx
theorem Zfx(ok:HOk P w H h)(e:H a=some (.dT kvs)):kvs.length≤sizeLine∧(a==sysModules)=false∧
  ∃xs,KT H kvs xs∧h.DictOfH (tupleKind (Z7 P w)) a xs:=Kl ok (.inl e)
end
def V9(H:Hp)(a:Addr)(y:V)(r:Option V):Prop:=
 (∃kvs k,Rd H a (.dK kvs)∧y=kV k∧r=Xj kvs k)∨∃kvs k b,Rd H a (.dT kvs)∧y=.ref b∧H b=some (.tup (k.map kV))∧r=Xj kvs k
def Fb(H:Hp)(a:Addr)(y v:V)(H':Hp):Prop:=
 (∃kvs k,H a=some (.dK kvs)∧y=kV k∧kvs.length<sizeLine∧H'=upd H a (.dK (putK kvs k v)))∨
 ∃kvs k b,H a=some (.dT kvs)∧y=.ref b∧H b=some (.tup (k.map kV))∧kvs.length<sizeLine∧H'=upd H a (.dT (putK kvs k v))
theorem V9.k{a:Addr}{kvs:List (Key×V)}{k:Key}(e:H a=some (.dK kvs)):V9 H a (kV k) (Xj kvs k):=.inl ⟨kvs,k,.inl e,rfl,rfl⟩
theorem V9.t{a:Addr}{k:List Key}(e:H a=some (.dT kvs))(eb:H b=some (.tup (k.map kV))):V9 H a (.ref b) (Xj kvs k):=.inr ⟨kvs,k,b,.inl e,rfl,eb,rfl⟩
theorem Fb.k{a:Addr}{kvs:List (Key×V)}{k:Key}{v:V}(e:H a=some (.dK kvs))(hl:kvs.length<sizeLine):Fb H a (kV k) v (upd H a (.dK (putK kvs k v))):=.inl ⟨kvs,k,e,rfl,hl,rfl⟩
theorem Fb.t{a:Addr}{k:List Key}{v:V}(e:H a=some (.dT kvs))(eb:H b=some (.tup (k.map kV)))(hl:kvs.length<sizeLine):
  Fb H a (.ref b) v (upd H a (.dT (putK kvs k v))):=.inr ⟨kvs,k,b,e,rfl,eb,hl,rfl⟩
section
variable {X:Cx}{pins:aD}{σ:St}{H:Hp}{s:Shared}{a:Addr}{y v:V}{u r:Value}{o:Option V}{A:Around}{E:aC}
theorem Inv.big(I:Inv X pins σ H s):sysModules<s.heap.objs.size:=by
 have h:mainGlobals<s.heap.objs.size:=(I.mod.glob.keeps I.bk).lt;exact dM (by decide) h
theorem Zbz(hu:A.units+1<cLine)(I:Inv X pins σ H s)(g:V9 H a y (some v))(ry:RelV y u)(h:∀w' s',Inv X pins σ H s'→RelV v w'→Q w' s'):
  wpAny (model X.prog X.w) A (getItem (.ref a) u) Q E s:=by
 rcases g with ⟨kvs,k,e,ey,l⟩|⟨kvs,k,b,e,ey,eb,l⟩
 ·subst ey;obtain⟨z,hd,vs,rel,dd⟩:=Km I.hok e;obtain⟨w',hw,p8⟩:=Pj.some_of (v:=v) (o:=valueAt vs k) (by rw[l];exact rel.val k);exact wpAny_getItem_of (N5 ry) dd.mapOf hw (h w' _ (I.tok _) p8)
 ·subst ey;cases (show u=Value.ref b from ry);obtain⟨z,hd,xs,rel,dd⟩:=Kl I.hok e;obtain⟨w',hw,p8⟩:=Pj.some_of (v:=v) (o:=(atKey xs k).map (·.2)) (by rw[l];exact rel.val k);obtain⟨p,hp,i9⟩:=Option.map_eq_some_iff.mp hw;refine wpAny_getItem_heap (tupleKind_room_in1 hu) (Tr I.hok eb) dd hp ?_;rw[i9];exact h w' _ (I.tok _) p8
theorem d_in(hu:A.units+1<cLine)(I:Inv X pins σ H s)(g:V9 H a y o)(ry:RelV y u)(h:∀s',Inv X pins σ H s'→Q (.bool o.isSome) s'):
  wpAny (model X.prog X.w) A (compareOp .In u (.ref a)) Q E s:=by
 rcases g with ⟨kvs,k,e,ey,l⟩|⟨kvs,k,b,e,ey,eb,l⟩
 ·subst ey;obtain⟨z,hd,vs,rel,dd⟩:=Km I.hok e;refine wpAny_in_of (N5 ry) hd dd.mapOf ?_;rw[←(rel.val k).U5,←l];exact h _ (I.tok _)
 ·subst ey;cases (show u=Value.ref b from ry);obtain⟨z,hd,xs,rel,dd⟩:=Kl I.hok e;refine wpAny_in_heap (tupleKind_room_in1 hu) (Tr I.hok eb) hd dd ?_;have q:=(rel.val k).U5;rw[bR]at q;rw[←q,←l];exact h _ (I.tok _)
theorem Zib(hu:A.units+1<cLine)(I:Inv X pins σ H s)(g:V9 H a y o)(ry:RelV y u)(h:∀s',Inv X pins σ H s'→Q (.bool (!o.isSome)) s'):
  wpAny (model X.prog X.w) A (compareOp .NotIn u (.ref a)) Q E s:=by
 rcases g with ⟨kvs,k,e,ey,l⟩|⟨kvs,k,b,e,ey,eb,l⟩
 ·subst ey;obtain⟨z,hd,vs,rel,dd⟩:=Km I.hok e;refine wpAny_notIn_of (N5 ry) hd dd.mapOf ?_;rw[←(rel.val k).U5,←l];exact h _ (I.tok _)
 ·subst ey;cases (show u=Value.ref b from ry);obtain⟨z,hd,xs,rel,dd⟩:=Kl I.hok e;refine wpAny_notIn_heap (tupleKind_room_in1 hu) (Tr I.hok eb) hd dd ?_;have q:=(rel.val k).U5;rw[bR]at q;rw[←q,←l];exact h _ (I.tok _)
theorem Qa{ob:HO}(I:Inv X pins σ H s)(mu:Mut (H a))(hs:Heap.SameBut a s.heap h')(he:∃q,h'.get? a=some q)(new:Z8 X.prog X.w (upd H a ob) h' a ob):
  Inv X pins σ (upd H a ob) { s with heap:=h',toks:=t' }:=
 I.write (x:=a) (e:=a) mu (.inl rfl) (λb q hb z=>(hs.2 b hb).trans z) he new
theorem Bd{kvs:List (Key×V)}{vs:List (Key×Value)}(z:kvs.length≤sizeLine)(hd:(a==sysModules)=false)(rel:KV kvs vs)(dd:h'.DictOf (Z7 P w) a vs):
  Z8 P w H' h' a (.dK kvs):=⟨z,hd,vs,rel,dd⟩
theorem Zby{Q:ZS}(hu:A.units+1<cLine)(I:Inv X pins σ H s)(g:Fb H a y v H')(ry:RelV y u)(rv:RelV v r)(h:∀s',Inv X pins σ H' s'→Q () s'):
  wpAny (model X.prog X.w) A (setItem (.ref a) u r) Q E s:=by
 rcases g with ⟨kvs,k,e,ey,l,eH⟩|⟨kvs,k,b,e,ey,eb,l,eH⟩
 ·subst ey eH;obtain⟨z,hd,vs,rel,dd⟩:=Zj3 I.hok e;have hz:vs.length≤sizeLine:=by rw[←rel.length];exact z
  have hl:(putK kvs k v).length≤sizeLine:=by have:=Wh kvs k v;lia
  refine wpAny_setItem_pairs (hsz:=hz) (N5 ry) dd λh' c6 hs=>h _ ?_;have he:∃q,h'.get? a=some q:=let ⟨q,_,_,hq,_⟩:=c6;⟨q,hq⟩
  exact Qa I (by rw[e];exact True.intro) hs he (Bd hl hd (rel.put k rv) c6)
 ·subst ey eH;cases (show u=Value.ref b from ry);obtain⟨z,hd,xs,rel,dd⟩:=Zfx I.hok e;have hz:xs.length≤sizeLine:=by rw[←iY rel];exact z
  have hl:(putK kvs k v).length≤sizeLine:=by have:=Wh kvs k v;lia
  refine wpAny_setItem_heap (hsz:=hz) (tupleKind_room_in1 hu) (Tr I.hok eb) dd λh' c6 hs=>h _ ?_;obtain⟨q,es,ep,hq,h2,h3,h4,_,h5⟩:=c6;refine Qa I (by rw[e];exact True.intro) hs ⟨q,hq⟩ ⟨hl,hd,_,(rel.put k eb rv).keeps λc ys ec=>?_,q,es,ep,hq,h2,h3,h4,h5⟩;rw[Zk (Xr ec e (λz=>nomatch z))];exact ec
end
section
variable {X:Cx}{pins:aD}{σ:St}{H:Hp}{s:Shared}{a:Addr}{kvs:List (Key×V)}{k:Key}{u:Value}{A:Around}{E:aC}
end
def Zo7(i:Expr):Prop:=∀ov iv,subscripted i false ov iv=operate [ov,iv] (getItem ov iv)
theorem Zgt{prog:Program}{value slice:Expr}{id:String} 
  (hl:typeLookup (.type T) "__getitem__"=pure (some (.builtin id))) (hs:Zo7 slice)
  (h:wpAny (model prog w) A (eval value env) (λo x3=>wpAny (model prog w) A (eval slice env) (λi m5=>m5.TypeIs o T∧wpAny (model prog w) A (getItem o i) Q E m5) E x3) E s) :
  wpAny (model prog w) A (eval (.Subscript value slice pos) env) Q E s:=by
 refine Subscript_ (iR h (λo x3 qI=>iR qI (λi m5 yS=>?_) λ_ _ x=>x) λ_ _ x=>x);obtain⟨hT,yS⟩:=yS;unfold subscriptTail;refine rB ?_;rw[getitemInPython_of_ne hT.not_modules];refine rB (wpAny_specialOf hT hl ?_)
 have fin:wpAny (model prog w) A (subscripted slice false o i) (λr tD=>wpAny (model prog w) A (letTemporaryGo value o r >>= λ_=>pure r) Q E tD) E m5:=by
  rw[hs o i];exact wpAny_operating (iR yS (λr tD qJ=>rB (wpAny_letTemporaryGo (rF qJ))) λ_ _ x=>x)
 first
  |exact rF (rB fin)
  |exact rB (rF (rB fin))
  |exact rB fin
theorem E8{a:Addr}{o:Option V}(I:Inv X pins σ H s)(g:V9 H a y o):s.TypeIs (.ref a) "dict":=by
 rcases g with ⟨kvs,k,e,_,_⟩|⟨kvs,k,b,e,_,_,_⟩
 ·obtain⟨_,_,vs,_,dd⟩:=Km I.hok e;exact dd.typeIs
 ·obtain⟨_,_,xs,_,dd⟩:=Kl I.hok e;exact dd.typeIs
def Zm1(td ty:TE):TE:=λσ H Q=>td σ H λx H1=>ty σ H1 λy H2=>∃a v,x=.ref a∧V9 H2 a y (some v)∧Q v H2
def tDIn(ty td:TE):TE:=λσ H Q=>ty σ H λy H1=>td σ H1 λx H2=>∃a o,x=.ref a∧V9 H2 a y o∧Q (.bl o.isSome) H2
def Zgs(ty td:TE):TE:=λσ H Q=>ty σ H λy H1=>td σ H1 λx H2=>∃a o,x=.ref a∧V9 H2 a y o∧Q (.bl (!o.isSome)) H2
def Zne(td ty tv:TE):TS:=λD σ H=>tv σ H λv H1=>td σ H1 λx H2=>ty σ H2 λy H3=>∃a H4,x=.ref a∧Fb H3 a y v H4∧D.nx σ H4
section
variable {X:Cx}{o i e value:Expr}{pos pos' tpos:Pos}{td ty tv:TE}
theorem To(hu:X.A.units+1<cLine)(ho:PE X o td)(hi:PE X i ty)(hs:Zo7 i):PE X (.Subscript o i pos) (Zm1 td ty):=by
 intro pins s σ H Q I h;refine Zgt PySem.F.slot_dict_getitem.lookup hs (thn (ho pins s σ H _ I h) λu s1 ⟨x,H1,I1,rx,q1⟩=>thn (hi pins s1 σ H1 _ I1 q1) λiv s2 ⟨y,H2,I2,ry,a,v,ex,g,q2⟩=>?_);subst ex;obtain rfl:u=Value.ref a:=rx;exact⟨E8 I2 g,Zbz hu I2 g ry λw' s3 I3 p8=>⟨v,H2,I3,p8,q2⟩⟩
theorem Zlc(hu:X.A.units+1<cLine)(hi:PE X i ty)(ho:PE X o td):PC X .In i o (tDIn ty td):=by
 intro pins s σ H Q I h;refine thn (hi pins s σ H _ I h) λiv s1 ⟨y,H1,I1,ry,q1⟩=>thn (ho pins s1 σ H1 _ I1 q1) λu s2 ⟨x,H2,I2,rx,a,ov,ex,g,q2⟩=>?_;subst ex;obtain rfl:u=Value.ref a:=rx;exact d_in hu I2 g ry λs3 I3=>⟨.bl ov.isSome,H2,I3,rfl,q2⟩
theorem J5(hu:X.A.units+1<cLine)(hi:PE X i ty)(ho:PE X o td):PC X .NotIn i o (Zgs ty td):=by
 intro pins s σ H Q I h;refine thn (hi pins s σ H _ I h) λiv s1 ⟨y,H1,I1,ry,q1⟩=>thn (ho pins s1 σ H1 _ I1 q1) λu s2 ⟨x,H2,I2,rx,a,ov,ex,g,q2⟩=>?_;subst ex;obtain rfl:u=Value.ref a:=rx;exact Zib hu I2 g ry λs3 I3=>⟨.bl (!ov.isSome),H2,I3,rfl,q2⟩
theorem Hs(hu:X.A.units+1<cLine)(ho:PE X o td)(hi:PE X i ty)(hv:PE X value tv)(hs:swapsWith value (some (.Subscript o i pos')) pos.line X.env=pure false):
  PS X (.Assign [.Subscript o i pos'] value pos) (Zne td ty tv):=by
 intro pins s σ H D I h;refine wpAny_Assign_Subscript (thn (hv pins s σ H _ I h) λr s1 ⟨v,H1,I1,rv,q1⟩=>thn (ho pins s1 σ H1 _ I1 q1) λu s2 ⟨x,H2,I2,rx,q2⟩=>thn (hi pins s2 σ H2 _ I2 q2) λiv s3 ⟨y,H3,I3,ry,a,H4,ex,g,q3⟩=>?_) hs;subst ex;obtain rfl:u=Value.ref a:=rx;exact Zby hu I3 g ry rv λs4 I4=>⟨σ,H4,I4,q3⟩
end
theorem E7(h:Heap)(hb:sysModules<h.objs.size):Z8 P w H (h.push { cls:=.type "dict",data:=.dict #[] }) h.objs.size (.dK []):=
 ⟨oC _,beq_eq_false_iff_ne.mpr (lW (rV hb)),[],.nil,Heap.DictOf.new h⟩
theorem E6(h:Heap)(hb:sysModules<h.objs.size):Z8 P w H (h.push { cls:=.type "dict",data:=.dict #[] }) h.objs.size (.dT []):=
 ⟨oC _,beq_eq_false_iff_ne.mpr (lW (rV hb)),[],.nil,_,#[],0,rR _ rfl,⟨rfl,rfl,rfl⟩,rfl,rfl,List.nodup_nil⟩
def Zkj:TE:=λ_ H Q=>∀p,H p=none→Q (.ref p) (upd H p (.dK []))
def Zki:TE:=λ_ H Q=>∀p,H p=none→Q (.ref p) (upd H p (.dT []))
section
variable {X:Cx}{pos:Pos}
theorem Zeb:PE X (.Dict [] [] pos) Zkj:=λpins s σ H Q I h=>
 wpAny_Dict_empty ⟨.ref s.heap.objs.size,_,I.laid (a:=s.heap.objs.size) (o:=.dK []) (t':=s.toks) (λ_ _ q=>rE _ q) (rG _) (E7 s.heap I.big),rfl,h _ (I.hok.fresh (rG _))⟩
theorem Zea:PE X (.Dict [] [] pos) Zki:=λpins s σ H Q I h=>
 wpAny_Dict_empty ⟨.ref s.heap.objs.size,_,I.laid (a:=s.heap.objs.size) (o:=.dT []) (t':=s.toks) (λ_ _ q=>rE _ q) (rG _) (E6 s.heap I.big),rfl,h _ (I.hok.fresh (rG _))⟩
end
def He:List (TE×TE)→St→Hp→(List (V×V)→Hp→Prop)→Prop
 |[],_,H,Q=>Q [] H
 | (tk,tv) :: r,σ,H,Q=>tk σ H λx H1=>tv σ H1 λy H2=>He r σ H2 λps H3=>Q ((x,y) :: ps) H3
abbrev VV:List (V×V)→List (Value×Value)→Prop:=Paired λp q=>RelV p.1 q.1∧RelV p.2 q.2
def PPs(X:Cx)(pos:Pos)(keys:List (Option Expr))(values:aV)(xX:List (TE×TE)):Prop:=
 ∀(pins:aD) (s:Shared) (σ:St) (H:Hp) (Q:List (V×V)→Hp→Prop),Inv X pins σ H s→He xX σ H Q→
  wpAny (model X.prog X.w) X.A (evalPairs (pairTrees keys values X.env pos)) (λvs s'=>∃ps H',Inv X pins σ H' s'∧VV ps vs∧Q ps H') X.xe s
theorem Ap:PPs X pos [] [] []:=λpins s σ H Q I h=>pairTrees_nil_walk ⟨[],H,I,.nil,h⟩
theorem Ea{k v:Expr}{ks:List (Option Expr)}{vs:aV}{tk tv:TE}{xX:List (TE×TE)}(hk:PE X k tk)(hv:PE X v tv)(hr:PPs X pos ks vs xX):
  PPs X pos (some k :: ks) (v :: vs) ((tk,tv) :: xX):=λpins s σ H Q I h=>
 pairTrees_cons_walk (thn (hk pins s σ H _ I h) λu s1 ⟨x,H1,I1,rx,q1⟩=>thn (hv pins s1 σ H1 _ I1 q1) λw2 s2 ⟨y,H2,I2,ry,q2⟩=>
  thn (hr pins s2 σ H2 _ I2 q2) λws s3 ⟨ps,H3,I3,rel,q3⟩=>⟨(x,y) :: ps,H3,I3,.cons ⟨rx,ry⟩ rel,q3⟩)
def Vk(kvs more:List (Key×V)):List (Key×V):=more.foldl (λacc kv=>putK acc kv.1 kv.2) kvs
theorem KV.merge:∀{more:List (Key×V)}{rs:List (Key×Value)}{kvs:List (Key×V)}{vs:List (Key×Value)},KV more rs→KV kvs vs→KV (Vk kvs more) (merged vs rs):=by
 intro more rs kvs vs r;unfold KV at r
 induction r generalizing kvs vs with
 |nil=>intro q;exact q
 | @cons p q ps qs h t ih=>
  intro r0
  have e:KV (putK kvs p.1 p.2) (stored vs q.1 q.2):=by
   have:=r0.put p.1 h.2;rw[←h.1];exact this
  exact ih e
theorem Uq:∀(more kvs:List (Key×V)),(Vk kvs more).length≤kvs.length+more.length
 |[],kvs=>by show kvs.length≤kvs.length+0;lia
 |p :: r,kvs=>by
  have h1:=Uq r (putK kvs p.1 p.2);have h2:=Wh kvs p.1 p.2;show (Vk (putK kvs p.1 p.2) r).length≤_;rw[pY];lia
theorem Ko{P:Program}{w:World}:∀{kvs:List (Key×V)}{ws:List (Value×Value)},VV (kvs.map λkv=>(kV kv.1,kv.2)) ws→∃rs,Carries (Z7 P w) ws rs∧KV kvs rs
 |[],_,r=>by rw[fF]at r;cases r;exact⟨[],True.intro,.nil⟩
 |p :: kvs,_,r=>by
  rw[rW]at r
  cases r with
  | @cons a b as bs h t=>
   obtain⟨rs,c,q⟩:=Ko (P:=P) (w:=w) t;obtain⟨b1,b2⟩:=b;exact⟨(p.1,b2) :: rs,⟨N5 h.1,rfl,c⟩,.cons ⟨rfl,h.2⟩ q⟩
def Zm0(xX:List (TE×TE)):TE:=λσ H Q=>∀p,H p=none→He xX σ (upd H p (.dK [])) λps H2=>H2 p=some (.dK [])∧∃kvs:List (Key×V),ps=kvs.map (λkv=>(kV kv.1,kv.2))∧kvs.length≤15∧Q (.ref p) (upd H2 p (.dK (Vk [] kvs)))
theorem Zhe{keys:List (Option Expr)}{values:aV}{xX:List (TE×TE)}(h:PPs X pos keys values xX)(Np:keys.all (·.isSome)=true)(hl:keys.length=values.length)(h0:keys≠[])
  (kH:keys.length≤15):PE X (.Dict keys values pos) (Zm0 xX):=by
 intro pins s σ H Q I q;have hn:=I.hok.fresh (rG s.heap.objs.size);have I1:=I.laid (a:=s.heap.objs.size) (o:=.dK []) (h':=s.heap.push { cls:=.type "dict",data:=.dict #[] }) (t':=s.toks) (λ_ _ q=>rE _ q) (rG _) (E7 s.heap I.big);refine wpAny_Dict_walk (knd:=Z7 X.prog X.w) Np hl h0 kH (thn (h pins _ σ _ _ I1 (q _ hn)) λws s2 ⟨ps,H2,I2,rel,e,kvs,ep,lk,q2⟩=>?_);subst ep;obtain⟨rs,c,rk⟩:=Ko (P:=X.prog) (w:=X.w) rel;obtain⟨z,hd,vs0,r0,dd⟩:=Zj3 I2.hok e;cases r0;refine⟨rs,c,dd,λh' c6 hs=>⟨.ref s.heap.objs.size,_,?_,rfl,q2⟩⟩
 have hz:(Vk [] kvs).length≤sizeLine:=by
  have h1:=Uq kvs [];rw[fK]at h1;rw[sizeLine_eq];lia
 have he:∃q,h'.get? s.heap.objs.size=some q:=let ⟨q,_,_,hq,_⟩:=c6;⟨q,hq⟩
 exact Qa I2 (by rw[e];exact True.intro) hs he (Bd hz hd (rk.merge .nil) c6)
structure M1(X:Cx)(o:Expr)(m:Str)(apos:Pos)(e:Expr)(Xs:Pos):Prop where
 base:attributeBase o m X.env (eval o X.env)=eval o X.env
 few:((backTo Xs (starEach [e] X.env)).all (λx=>!x.1)&&(backToKw Xs (keywordEach [] X.env)).all (λx=>x.1.isSome)
  && decide (([e]:List Expr).length+([]:List Keyword).length+(if ([]:List Keyword).isEmpty then 0 else 1)<30))=true
 line:(apos.endLine==Xs.line)=true
 trees:backTo Xs (starEach [e] X.env)=[(false,eval e X.env)]
structure M2(X:Cx)(o:Expr)(m:Str)(apos:Pos)(e f:Expr)(Xs:Pos):Prop where
 base:attributeBase o m X.env (eval o X.env)=eval o X.env
 few:((backTo Xs (starEach [e,f] X.env)).all (λx=>!x.1)&&(backToKw Xs (keywordEach [] X.env)).all (λx=>x.1.isSome)
  && decide (([e,f]:List Expr).length+([]:List Keyword).length+(if ([]:List Keyword).isEmpty then 0 else 1)<30))=true
 line:(apos.endLine==Xs.line)=true
 trees:backTo Xs (starEach [e,f] X.env)=[(false,eval e X.env),(false,eval f X.env)]
def IsD(H:Hp)(a:Addr):Prop:=(∃kvs,Rd H a (.dK kvs))∨∃kvs,Rd H a (.dT kvs)
theorem Ze7{a:Addr}(I:Inv X pins σ H s)(d:IsD H a):
  s.TypeIs (.ref a) "dict"∧(∀b,Value.ref a=.ref b→∃ob,s.heap.get? b=some ob∧ob.dict=none)∧(a==sysModules)=false:=by
 rcases d with ⟨kvs,e⟩|⟨kvs,e⟩
 ·obtain⟨_,hd,vs,_,dd⟩:=Km I.hok e;refine⟨dd.typeIs,λb q=>?_,hd⟩;cases q;obtain⟨ob,_,_,h1,h2,_⟩:=dd;exact⟨ob,h1,h2.2.1⟩
 ·obtain⟨_,hd,xs,_,dd⟩:=Kl I.hok e;refine⟨dd.typeIs,λb q=>?_,hd⟩;cases q;obtain⟨ob,_,_,h1,h2,_⟩:=dd;exact⟨ob,h1,h2.2.1⟩
section
variable {X:Cx}{pins:aD}{σ:St}{H:Hp}{s:Shared}{a:Addr}{y d:V}{u r:Value}{o:Option V}{A:Around}{E:aC}
theorem Zmd(hu:A.units+1<cLine)(I:Inv X pins σ H s)(g:V9 H a y o)(ry:RelV y u)(rd:RelV d r)(h:∀w' s',Inv X pins σ H s'→RelV (o.getD d) w'→Q w' s'):
  wpAny (model X.prog X.w) A (call (.builtin "dict.get") [.ref a,u,r]) Q E s:=by
 rcases g with ⟨kvs,k,e,ey,l⟩|⟨kvs,k,b,e,ey,eb,l⟩
 ·subst ey;obtain⟨z,hd,vs,rel,dd⟩:=Km I.hok e;refine call_meetsIn cW dd.typeIs PySem.F.entry_dict_get (PySem.F.args_dict_get_3 _ _ _) (meets_dict_get_default (Z7 X.prog X.w) a (N5 ry) hd r) ⟨_,dd.mapOf,h _ _ (I.tok _) ?_⟩;rw[l];exact(rel.val k).getD rd
 ·subst ey;cases (show u=Value.ref b from ry);obtain⟨z,hd,xs,rel,dd⟩:=Kl I.hok e;refine call_meetsIn cW dd.typeIs PySem.F.entry_dict_get (PySem.F.args_dict_get_3 _ _ _) (meetsH_dict_get_default (tupleKind (Z7 X.prog X.w)) a b hd r) ⟨tupleKind_room_in1 hu,k,xs,Tr I.hok eb,dd,h _ _ (I.tok _) ?_⟩;rw[l];exact(rel.val k).getD rd
end
def Zkl(td ty tx:TE):TE:=λσ H Q=>td σ H λx H1=>∃a,x=.ref a∧IsD H1 a∧ty σ H1 λy H2=>tx σ H2 λz H3=>∃o,V9 H3 a y o∧Q (o.getD z) H3
section
variable {X:Cx}{o e f:Expr}{apos Xs:Pos}{td ty tx:TE}
theorem Ec(hu:X.A.units+1<cLine)(ho:PE X o td)(he:PE X e ty)(hf:PE X f tx)(m:M2 X o "get" apos e f Xs):PE X (.Call (.Attribute o "get" apos) [e,f] [] Xs) (Zkl td ty tx):=by
 intro pins s σ H Q I h;refine bS m.base m.few m.line cK cW PySem.F.type_dict_get (thn (ho pins s σ H _ I h) λu s1 ⟨x,H1,I1,rx,a,ex,d,q1⟩=>?_);subst ex;obtain rfl:u=Value.ref a:=rx;obtain⟨t1,t2,_⟩:=Ze7 I1 d;refine⟨t1,t2,?_⟩;rw[m.trees]
 refine dG rfl (dR (lU (thn (he pins s1 σ H1 _ I1 q1) λiv s2 ⟨y,H2,I2,ry,q2⟩=>
  lU (thn (hf pins s2 σ H2 _ I2 q2) λfv s3 ⟨z,H3,I3,rz,ov,g,q3⟩=>fO ?_))))
 exact Zmd hu I3 g ry rz λw' s4 I4 p8=>⟨_,H3,I4,p8,q3⟩
end
def V7(env:Env):List (Str×NameKind)→List ZH→List ZH
 |[],acc=>acc
 | (n,.free) :: r,acc=>V7 env r ((n,(env.cells.lookup n).getD 0) :: acc)
 |_ :: r,acc=>V7 env r acc
def Bx(env:Env)(acc:List ZH):Prop:=∀y c,acc.lookup y=some c→c=(env.cells.lookup y).getD 0
theorem Qb{n:Str}{k:NameKind}{r:ZN}{acc:List ZH}(h:k≠.free):V7 env ((n,k) :: r) acc=V7 env r acc:=by
 cases k<;>first|rfl|exact absurd rfl h
theorem Qc{env:Env}:∀(names:ZN) (acc:List ZH),Bx env acc→Bx env (V7 env names acc)
 |[],acc,h=>h
 | (n,k) :: r,acc,h=>by
  by_cases hk:k=.free
  ·subst hk;refine Qc r _ λy c e=>?_;rw[oZ]at e
   by_cases hy:y=n
   ·subst hy;simp only[beq_self_eq_true]at e;exact(Option.some.inj e).symm
   ·have hb:(y==n)=false:=by simpa using hy
    rw[hb]at e;exact h y c e
  ·rw[Qb hk];exact Qc r acc h
theorem Rq{env:Env}{x:Str}:∀(names:ZN) (acc:List ZH),((∃c,acc.lookup x=some c)∨(x,NameKind.free)∈names)→∃c,(V7 env names acc).lookup x=some c
 |[],acc,h=>by
  rcases h with h|h
  ·exact h
  ·cases h
 | (n,k) :: r,acc,h=>by
  by_cases hk:k=.free
  ·subst hk;refine Rq r _ ?_;rw[oZ]
   by_cases hy:x=n
   ·subst hy;exact .inl ⟨(env.cells.lookup x).getD 0,by simp only[beq_self_eq_true]⟩
   ·have hb:(x==n)=false:=by simpa using hy
    rw[hb]
    rcases h with h|h
    ·exact .inl h
    ·rcases rT.mp h with h|h
     ·exact absurd (congrArg Prod.fst h) hy
     ·exact .inr h
  ·rw[Qb hk];refine Rq r acc ?_
   rcases h with h|h
   ·exact .inl h
   ·rcases rT.mp h with h|h
    ·exact absurd (congrArg Prod.snd h).symm hk
    ·exact .inr h
theorem O0{env:Env}{x:Str}{c:Addr}:∀(names:ZN) (acc:List ZH),(V7 env names acc).lookup x=some c→acc.lookup x=some c∨(x,NameKind.free)∈names
 |[],acc,h=>.inl h
 | (n,k) :: r,acc,h=>by
  by_cases hk:k=.free
  ·subst hk
   rcases O0 r _ h with h1|h1
   ·rw[oZ]at h1
    by_cases hy:x=n
    ·subst hy;exact .inr rM
    ·have hb:(x==n)=false:=by simpa using hy
     rw[hb]at h1;exact .inl h1
   ·exact .inr (rP _ h1)
  ·rw[Qb hk]at h
   rcases O0 r acc h with h1|h1
   ·exact .inl h1
   ·exact .inr (rP _ h1)
theorem Kh{env:Env}{f:Str×NameKind→List ZH→Sem (ForInStep (List ZH))}(h1:∀n k r,k≠NameKind.free→f (n,k) r=pure (.yield r))
  (h2:∀n r c,env.cells.lookup n=some c→f (n,.free) r=pure (.yield ((n,c) :: r))) :
  ∀(names:ZN) (acc:List ZH),(∀y∈names,y.2=NameKind.free→∃c,env.cells.lookup y.1=some c)→forIn names acc f=pure (V7 env names acc)
 |[],acc,_=>rfl
 | (n,k) :: r,acc,hc=>by
  have hr:∀y∈r,y.2=NameKind.free→∃c,env.cells.lookup y.1=some c:=λy hy=>hc y (rP _ hy);rw[List.forIn_cons]
  by_cases hk:k=.free
  ·subst hk;obtain⟨c,e⟩:=hc (n,.free) rM rfl;rw[h2 n acc c e,pure_bind];show forIn r ((n,c) :: acc) f=_;rw[Kh h1 h2 r _ hr];show _=pure (V7 env r ((n,(env.cells.lookup n).getD 0) :: acc));rw[e];rfl
  ·rw[h1 n k acc hk,pure_bind,Qb hk];exact Kh h1 h2 r acc hr
theorem V6(hc:∀y∈scope.names,y.2=NameKind.free→∃c,env.cells.lookup y.1=some c):closureFor scope env=pure (V7 env scope.names []):=by
 unfold closureFor;dsimp only;rw[Kh (env:=env) ?_ ?_ scope.names [] hc]
 ·rfl
 ·intro n k r hk;have hb:(k==NameKind.free)=false:=by simpa using hk
  simp only[hb,iC,if_false]
 ·intro n r c e;simp only[cellOf,e,beq_self_eq_true,if_true,pure_bind]
structure Bw(sc:Scope)(Nm own:List Str)(fr:List Nat)(scope:Scope):Prop where
 kind:scope.kind=.function
 Nh:∀y∈scope.names,y.2≠NameKind.cell
 free:∀y∈scope.names,y.2=NameKind.free→sc.names.lookup y.1=some .cell∨sc.names.lookup y.1=some .free
 locs:∀y∈scope.names,y.2=NameKind.local→scope.names.lookup y.1=some .local
 frs:∀j∈fr,j<Nm.length∧scope.names.lookup (Nm.getD j "")=some .free
def Y0(own Nm:List Str)(fr:List Nat):List Str:=own++fr.map λj=>Nm.getD j ""
def U6(n:Nat)(fr:List Nat)(σ:St):St:=List.replicate n none++fr.map λj=>σ.getD j none
structure CD where
 cl:List ZH
 C:Addr
 s:Shared
 H:Hp
 fp:List Addr
def Y6(X:Cx)(Nm:List Str)(scope:Scope)(d:CD):Cx:=
 {prog:=X.prog,w:=X.w,K:=X.K,mg:=X.mg,base:=X.base,A:=X.A,N:=Nm,s₀:=d.s,H₀:=d.H,env:=compEnvC scope d.cl d.C X.env,outer:=X.stack,stack:=X.stack,
  ex:=d.fp,fn:=λ_=>false,calm:=X.calm,pn:=[],xe:=λ_ _=>False }
def PTs(X:Cx)(ifs:aV)(t:TT):Prop:=
 ∀(pins:aD) (s:Shared) (σ:St) (H:Hp) (Q:Bool→Hp→Prop),Inv X pins σ H s→t σ H Q→
  wpAny (model X.prog X.w) X.A (forIn ifs true λc r=>if r=true then do let ok ←isTrue c X.env (eval c X.env);pure (ForInStep.yield ok) else pure (ForInStep.yield r)) (TP X pins σ Q) X.xe s
def Zkd:TT:=λ_ H Q=>Q true H
theorem Ym:PTs X [] Zkd:=by
 intro pins s σ H Q I h;rw[List.forIn_nil];exact rF ⟨H,I,h⟩
theorem Ao{c:Expr}{t:TT}(hc:PT X c t):PTs X [c] t:=by
 intro pins s σ H Q I h;rw[List.forIn_cons,if_pos rfl];refine rB (rB (thn (hc pins s σ H Q I h) λb s1 q=>rF ?_));show wpAny _ _ (forIn [] b _) _ _ s1;rw[List.forIn_nil];exact rF q
def GFr(n:Nat)(g:TG):Prop:=∀v σ H Q,g v σ H Q→g v σ H λy0 H2=>Q y0 H2∧y0.length=σ.length∧∀i,n≤i→y0[i]?=σ[i]?
theorem Ye(h:i<n):GFr n (N6 i):=λv σ H Q q=>⟨q,by simp,λj hj=>by
 rw[iQ (by lia)]⟩
def Zio(n:Nat)(g:TGs):Prop:=∀v σ H Q,g v σ H Q→g v σ H λy0 H2=>Q y0 H2∧y0.length=σ.length∧∀i,n≤i→y0[i]?=σ[i]?
theorem Kf:Zio n Zl5:=λv σ H Q q=>⟨q.1,q.2,rfl,λ_ _=>rfl⟩
theorem Vt{u:TGs}(h:i<n)(hu:Zio n u):Zio n (Zai (N6 i) u):=λv σ H Q q=>by
 obtain⟨x,r,e,q⟩:=q;refine⟨x,r,e,?_⟩;have q2:=hu r (σ.set i (some x)) H Q q;have mono:∀Q1 Q2:St→Hp→Prop,(∀a b,Q1 a b→Q2 a b)→True:=λ_ _ _=>True.intro;have e1:(σ.set i (some x)).length=σ.length:=by simp
 have e2:∀j,n≤j→(σ.set i (some x))[j]?=σ[j]?:=λj hj=>by rw[iQ (by lia)]
 have:(λy0 H2=>Q y0 H2∧y0.length=(σ.set i (some x)).length∧∀j,n≤j→y0[j]?=(σ.set i (some x))[j]?)=λy0 H2=>Q y0 H2∧y0.length=σ.length∧∀j,n≤j→y0[j]?=σ[j]?:=by
  funext y0 H2
  rw[e1];refine propext ⟨λz=>⟨z.1,z.2.1,λj hj=>(z.2.2 j hj).trans (e2 j hj)⟩,λz=>⟨z.1,z.2.1,λj hj=>(z.2.2 j hj).trans (e2 j hj).symm⟩⟩
 rw[this]at q2;exact q2
theorem Gs{k:Nat}{u:TGs}(hu:Zio n u):GFr n (Zh5 K k u):=λv σ H Q q=>by
 obtain⟨a,xs,e,h1,h2,q⟩:=q;exact⟨a,xs,e,h1,h2,hu xs σ H Q q⟩
def Zj8(J:It)(n:Nat)(fr:List Nat)(g:TG)(tt:TT)(te:TE)(σ:St)(H1:Hp)(Q:VK):Prop:=∃W:Nat→Nat→List V→Hp→Prop,(∃m,W 0 m [] H1)∧∀i m acc H2,W i m acc H2→
 acc.length<sizeLine∧((J.stop i H2∧∀l,H2 l=none→Q (.ref l) (upd H2 l (.lst acc)))∨
  (J.go i H2∧∃Nx:List V→Hp→Prop,(∀Nw H',Nx Nw H'→∃m',m'<m∧W (i+1) m' Nw H')∧
   ∀x H3,J.yld i H2 x H3→g x (U6 n fr σ) H3 λg8 H4=>tt g8 H4 λb H5=>if b=true then te g8 H5 λv H6=>Nx (acc++[v]) H6 else Nx acc H5))
def Zcq(n:Nat)(fr:List Nat)(wi:TI)(g:TG)(tt:TT)(te:TE):TE:=λσ H Q=>wi σ H λJ H1=>Zj8 J n fr g tt te σ H1 Q
section
variable {X:Cx}{pins:aD}{σ:St}{H:Hp}{s:Shared}
theorem Inv.adopt{a:Addr}{o:HO}(I:Inv X pins σ H s)(hp:X.s₀.heap.objs.size≤a)(hn:H a=none)(hL:a≠X.env.locals)(hc:∀x c,X.env.cells.lookup x=some c→c≠a)
  (hq:∀p∈X.pn++pins,p.1≠a) (new:Z8 X.prog X.w (upd H a o) s.heap a o):Inv X pins σ (upd H a o) s:=by
 refine⟨I.ok,I.os,I.bare,⟨I.base.keep,I.base.slot,λb ob e n hx=>?_,I.base.there,λb xs e=>?_,λb ob u e=>?_,λb ps e=>?_⟩,I.loc,I.cell,?_,λx c e=>?_,λp i8=>?_,λb u e=>?_,I.len⟩
 ·rw[Zk (rV (rZ (rO e) hp))];exact I.base.free b ob e n hx
 ·have q:=I.base.Hc b xs e;rw[Zk (Zi q hn)];exact q
 ·have q:=I.base.Kg b ob u e;rw[Zk (Zi q hn)];exact q
 ·obtain⟨more,q⟩:=I.base.K0 b ps e;exact⟨more,by rw[Zk (Zi q hn)];exact q⟩
 ·rw[Zk (lW hL)];exact I.free
 ·rw[Zk (hc x c e)];exact I.U7 x c e
 ·obtain⟨h1,h2,h3⟩:=I.pin p i8;exact⟨h1,by rw[Zk (hq p i8)];exact h2,h3⟩
 ·by_cases hb:b=a
  ·subst hb;rw[Zc]at e;cases e;exact new
  ·rw[Zk hb]at e;refine(I.hok b u e).Pr (λc v _ q=>q) (λc q=>?_) λc xs q=>?_
   ·rw[Zk (Zi q hn)];exact q
   ·rw[Zk (Zi q hn)];exact q
end
section
variable {prog:Program}{w:World}{A:Around}{R:Result→Shared→Prop}{s:Shared}
theorem Zbh{elt target iter:Expr}{ifs:aV}{it acc:Value}(J:Nat→Shared→Prop)
  (turn:∀n s,J n s→wpAny (model prog w) A (pyNext it) (λr s1=>match r with
   |none=>R (.ok .next) s1
   |some v=>wpAny (model prog w) A (letOwnedTupleGo target it v) (λ_ s2=>wpAny (model prog w) A (assign target env v) (λ_ s3=>
     wpAny (model prog w) A (forIn ifs true λc r=>if r=true then do let ok ←isTrue c env (eval c env);pure (ForInStep.yield ok) else pure (ForInStep.yield r)) (λok s4=>
      if ok=true then wpAny (model prog w) A (eval elt env) (λx s5=>wpAny (model prog w) A (call (.builtin "list.append") [acc,x]) (λ_ s6=>∃m,m<n∧J m s6) (λ_ _=>False) s5) (λ_ _=>False) s4
      else ∃m,m<n∧J m s4) (λ_ _=>False) s3) (λ_ _=>False) s2) (λ_ _=>False) s1) (λ_ _=>False) s)
  (n:Nat) (h:J n s):codeAny (model prog w) A (.compLoop (.ListComp elt [⟨target,iter,ifs,0⟩] scope pos) 0 it acc env) R s:=by
 refine codeAny_loop rfl J (λk t hJ=>?_) n h;show wpAny _ A ((compTurn (.ListComp elt [⟨target,iter,ifs,0⟩] scope pos) 0 it acc env).onRaise (λx=>do noteFrame x env;theTreesLotGoes x)) _ _ t;refine wpAny_noted ?_;rw[compTurn_list];have no:∀{α:Type}{m:Sem α}{Q:α→Shared→Prop}{E:aC}{u:Shared},wpAny (model prog w) A m Q (λ_ _=>False) u→wpAny (model prog w) A m Q E u:=λq=>iR q (λ_ _ z=>z) λ_ _ z=>z.elim;refine rB (dX (rB (no (thn (turn k t hJ) λr s1 h1=>?_))))
 cases r with
 |none=>exact rF h1
 |some v=>
  refine rB (no (thn h1 λ_ s2 h2=>rB (no (thn h2 λ_ s3 h3=>rB (no (thn h3 λok s4 h4=>?_))))))
  cases ok with
  |false=>exact rF ⟨rfl,h4⟩
  |true=>
   exact rB (rB (no (thn h4 λx s5 h5=>rB (no (thn h5 λ_ s6 h6=>rF (rF ⟨rfl,h6⟩))))))
end
section
variable {X:Cx}{sc scope:Scope}{Nm own:List Str}{fr:List Nat}{elt tg iter:Expr}{ifs:aV}{Xs:Pos}{wi:TI}{g:TG}{tt:TT}{te:TE}
theorem Tq{env:Env}{x:Str}{k:NameKind}:∀{names:ZN},(names.map λ(n,k)=>if (k==NameKind.free&&env.scope.kind==.function&&env.kindOf n==some .cell) then (n,NameKind.cell) else (n,k)).lookup x=some k→
  names.lookup x=some k∨(k=.cell∧names.lookup x=some .free)
 |[],h=>by simp at h
 | (n,j) :: r,h=>by
  have ih:=@Tq env x k r;have h':List.lookup x ((if (j==NameKind.free&&env.scope.kind==.function&&env.kindOf n==some .cell)=true then (n,NameKind.cell) else (n,j)) :: _)=some k:=h
  cases hx:x==n with
  |true=>
   by_cases hc:(j==NameKind.free&&env.scope.kind==.function&&env.kindOf n==some .cell)=true
   ·rw[if_pos hc]at h';simp only[oZ,hx]at h' ⊢;simp only[oD,beq_iff_eq]at hc;exact .inr ⟨(Option.some.inj h').symm,congrArg some hc.1.1⟩
   ·rw[if_neg hc]at h';simp only[oZ,hx]at h' ⊢;exact .inl h'
  |false=>
   have h2:List.lookup x (r.map λ(n,k)=>if (k==NameKind.free&&env.scope.kind==.function&&env.kindOf n==some .cell) then (n,NameKind.cell) else (n,k))=some k:=by
    by_cases hc:(j==NameKind.free&&env.scope.kind==.function&&env.kindOf n==some .cell)=true
    ·rw[if_pos hc]at h';simpa only[oZ,hx] using h'
    ·rw[if_neg hc]at h';simpa only[oZ,hx] using h'
   simp only[oZ,hx];exact ih h2
theorem Ln{env:Env}{x:Str}:∀{names:ZN},names.lookup x=some .free→
  (names.map λ(n,k)=>if (k==NameKind.free&&env.scope.kind==.function&&env.kindOf n==some .cell) then (n,NameKind.cell) else (n,k)).lookup x=some .cell∨
  (names.map λ(n,k)=>if (k==NameKind.free&&env.scope.kind==.function&&env.kindOf n==some .cell) then (n,NameKind.cell) else (n,k)).lookup x=some .free
 |[],h=>by simp at h
 | (n,j) :: r,h=>by
  have ih:=@Ln env x r;show List.lookup x ((if (j==NameKind.free&&env.scope.kind==.function&&env.kindOf n==some .cell)=true then (n,NameKind.cell) else (n,j)) :: _)=_∨List.lookup x ((if (j==NameKind.free&&env.scope.kind==.function&&env.kindOf n==some .cell)=true then (n,NameKind.cell) else (n,j)) :: _)=_
  cases hx:x==n with
  |true=>
   simp only[oZ,hx]at h
   by_cases hc:(j==NameKind.free&&env.scope.kind==.function&&env.kindOf n==some .cell)=true
   ·rw[if_pos hc];simp only[oZ,hx];first|exact .inl rfl|exact .inl trivial
   ·rw[if_neg hc];simp only[oZ,hx];exact .inr h
  |false=>
   simp only[oZ,hx]at h
   by_cases hc:(j==NameKind.free&&env.scope.kind==.function&&env.kindOf n==some .cell)=true
   ·rw[if_pos hc];simp only[oZ,hx];exact ih h
   ·rw[if_neg hc];simp only[oZ,hx];exact ih h
theorem Io(S:Bw sc Nm own fr scope)(hU:X.env.scope=sc)(hN:X.N=Nm)(hc:X.calm=true)(gA:GFr own.length g)(hi:PI X tg iter wi)(hg:∀d,PG (Y6 X (Y0 own Nm fr) scope d) tg g)
  (ht:∀d,PTs (Y6 X (Y0 own Nm fr) scope d) ifs tt) (he:∀d,PE (Y6 X (Y0 own Nm fr) scope d) elt te) (hs:∀x,foldedSetIterable iter X.env x=pure x)
  {use:Option (Value→Sem Unit)}{Q0:aC} (I:Inv X pins σ H s) {Qf:VK} (h:Zcq own.length fr wi g tt te σ H Qf)
  (jC:∀(D C:Addr) (Hd:Hp) (s':Shared) (m:aG),Inv X pins σ Hd s'→Qf (.ref D) Hd→s'.heap.Ns C m→Hd C=none→X.s₀.heap.objs.size≤C→C≠X.env.locals→(∀x c,X.env.cells.lookup x=some c→c≠C)→
   (∀p∈X.pn++pins,p.1≠C)→compPost (model X.prog X.w) X.A X.xe use Q0 (.ref D) C (.ok .next) s') :
  wpAny (model X.prog X.w) X.A (comprehension (.ListComp elt [⟨tg,iter,ifs,0⟩] scope Xs) scope X.env (firstIterPos [⟨tg,iter,ifs,0⟩] Xs) (newList []) false (eval iter X.env) use) Q0 X.xe s:=by
 have Sv:∀y∈scope.names,y.2=NameKind.free→∃c,X.env.cells.lookup y.1=some c:=λy hy hk=>by
  have q:=S.free y hy hk;rw[←hU]at q;exact I.ok.has y.1 q
 refine wpAny_comprehension_free (g:=⟨tg,iter,ifs,0⟩) (gs:=[]) rfl hs (V6 Sv) S.kind S.locs ?_;refine thn (hi pins s σ H _ I h) λv s1 h1=>thn h1 λqL s2 h2=>?_;obtain⟨it,fp,tn,J,H2,e,I2,T,st2,f2,W,⟨m0,w0⟩,turn⟩:=h2;subst e;refine pX (bB S.Nh (by intro y hy;simp at hy) (λh1 z3 eK=>?_) S.kind);dsimp only at z3 eK ⊢;generalize hG:s2.heap.push { cls:=.type "list",dict:=none,data:=.seq ([]:List Value).toArray } = G at z3 eK ⊢;have hC:G.objs.size=s2.heap.objs.size+1:=by rw[←hG,iG]
 have uO:s2.heap.objs.size≠G.objs.size:=by lia
 have lo:∀b,b<s2.heap.objs.size→b≠G.objs.size∧b≠s2.heap.objs.size:=λb hb=>⟨by lia,by lia⟩;have old:∀b o,s2.heap.get? b=some o→h1.get? b=some o:=λb o e=>eK.extBut b o (lo b (rO e)).1 (rE _ (hG▸rE _ e));have Tv:h1.PlainList s2.heap.objs.size #[]:=⟨_,eK.extBut _ _ uO (rE _ (hG▸rR _ rfl))⟩
 have fpl:∀b∈fp,b<s2.heap.objs.size:=λb hb=>by
  obtain⟨o,e,_⟩:=T.obj 0 _ st2 b hb;exact rO e
 have hDf:s2.heap.objs.size∉fp:=λz=>oT _ (fpl _ z);have hCf:G.objs.size∉fp:=λz=>oT _ (dM (fpl _ z) (by rw[hC];exact iD _))
 have Kn:∀x c,(V7 X.env scope.names []).lookup x=some c→X.env.cells.lookup x=some c∧(x,NameKind.free)∈scope.names:=λx c e=>by
  have e1:=Qc (env:=X.env) scope.names [] (λy c z=>by simp at z) x c e
  rcases O0 scope.names [] e with z|z
  ·simp at z
  ·obtain⟨c',e'⟩:=Sv _ z rfl;rw[e1,e'];exact⟨rfl,z⟩
 have Zga:∀x c,X.env.cells.lookup x=some c→c<s2.heap.objs.size:=λx c e=>by
  obtain⟨v,q⟩:=I2.cell x c e;exact q.lt
 let d:CD:=⟨V7 X.env scope.names [],G.objs.size,s2,H2,fp⟩
 have isFree:∀x,((Y6 X (Y0 own Nm fr) scope d).env.kindOf x=some .cell∨(Y6 X (Y0 own Nm fr) scope d).env.kindOf x=some .free)→scope.names.lookup x=some .free:=λx hx=>by
  have noC:scope.names.lookup x≠some .cell:=λz=>S.Nh _ (oR z) rfl
  rcases hx with hx|hx
  ·rcases Tq (names:=scope.names) hx with z|z
   ·exact absurd z noC
   ·exact z.2
  ·rcases Tq (names:=scope.names) hx with z|z
   ·exact z
   ·exact absurd z.1 (by decide)
 have ok:(Y6 X (Y0 own Nm fr) scope d).Ok:=by
  refine⟨I.ok.mod,S.kind,I.ok.glob,I.ok.blt,?_,λx y c e1 e2=>?_,λx hx=>?_,λx c z=>?_,I.ok.hd,I.ok.frames,.inl rfl,λb hb=>⟨?_,λx c e=>?_⟩,I2.bs,pQ I2.ok.bsz I2.sz,λb o e hb=>?_,λb hb z=>?_,I2.stack,I2.Hf⟩
  ·show s2.heap.objs.size≤G.objs.size;lia
  ·exact I.ok.inj x y c (Kn x c e1).1 (Kn y c e2).1
  ·exact Rq scope.names [] (.inr (oR (isFree x hx)))
  ·exact absurd (show false=true from z) rU
  ·exact λz=>hCf ((show b=G.objs.size from z)▸hb)
  ·exact(f2 b hb).2.2.2.2.1 x c (Kn x c e).1
  ·rcases(f2 b hb).2.2.2.1 with z|z
   ·exact I.ok.Zen b o e z
   ·exact absurd (rZ (rO e) (pQ I.ok.bsz z)) (oT _)
  ·rcases rT.mp (I2.Lf b z) with z|z
   ·exact(f2 b hb).2.1 z
   ·exact(f2 b hb).2.2.1 z
 have jE:∀(i:Nat) x v,(Y0 own Nm fr)[i]?=some x→(U6 own.length fr σ)[i]?=some (some v)→scope.names.lookup x=some .free∧∃j,Nm[j]?=some x∧σ[j]?=some (some v):=λi x v e1 e2=>by
  unfold Y0 at e1;unfold U6 at e2
  by_cases t5:i<own.length
  ·rw[pM (by simpa using t5),fY,if_pos t5]at e2;cases e2
  ·rw[pT (by lia),rJ]at e1;rw[pT (by simpa using t5),rJ,oV]at e2
   cases q:fr[i-own.length]? with
   |none=>rw[q]at e1;cases e1
   |some j=>
    rw[q]at e1 e2;have hj:=S.frs j (rN q);have e1':Nm.getD j ""=x:=Option.some.inj e1;have kD:σ.getD j none=some v:=Option.some.inj e2;rw[e1']at hj;refine⟨hj.2,j,?_,?_⟩
    ·rw[←e1',rK,rD hj.1];rfl
    ·rw[rK]at kD
     cases q2:σ[j]? with
     |none=>rw[q2]at kD;cases kD
     |some z=>rw[q2]at kD;exact congrArg some kD
 have Zjv:(U6 own.length fr σ).length=(Y0 own Nm fr).length:=by
  unfold U6 Y0;simp
 have J0:∀tk,Inv (Y6 X (Y0 own Nm fr) scope d) [] (U6 own.length fr σ) H2 { s2 with heap:=h1,toks:=tk }:=λtk=>by
  obtain⟨m,hn,hl⟩:=I2.loc;refine⟨ok,rfl,I2.bare,Un.kept old,⟨_,z3,λi x v e1 e2 _=>?_⟩,λx c e=>?_,I2.hok.fresh (show s2.heap.objs.size≤G.objs.size by lia),λx c e=>I2.U7 x c (Kn x c e).1,λp hp=>absurd (show p∈([]:List aF) from hp) (by simp),I2.hok.kept old,Zjv⟩
  ·obtain⟨hf,j,hj1,hj2⟩:=jE i x v e1 e2
   have kd:X.env.scope.names.lookup x=some .cell∨X.env.scope.names.lookup x=some .free:=by
    rw[hU];exact S.free _ (oR hf) rfl
   obtain⟨u,r,q⟩:=hl j x v (by rw[hN];exact hj1) hj2 (kd.elim (λz=>.inr (.inl z)) λz=>.inr (.inr z));refine⟨u,r,.inr ⟨Ln hf,?_⟩⟩;obtain⟨c,e⟩:=Rq (env:=X.env) scope.names [] (.inr (oR hf));refine⟨c,e,?_⟩
   rcases q with ⟨k,_⟩|⟨_,c',e',z⟩
   ·have k':X.env.scope.names.lookup x=some .local:=k
    rcases kd with y|y<;>rw[y]at k'<;>cases k'
   ·have:c=c':=Option.some.inj ((Kn x c e).1.symm.trans e');subst this;obtain⟨o,ho,hd⟩:=z;exact⟨o,old _ o ho,hd⟩
  ·obtain⟨v,o,ho,hd⟩:=I2.cell x c (Kn x c e).1;exact⟨v,o,old _ o ho,hd⟩
 have D3:∀{H':Hp}{pl:aD},(∀b∈fp,H' b=none)→(∀p∈pl,p.1∉fp)→∀b∈fp,Ku (Y6 X (Y0 own Nm fr) scope d) pl H' b:=λhn hp b hb=>
  ⟨hn b hb,λz=>hCf ((show b=G.objs.size from z)▸hb),ok.Zfs b hb,.inl hb,(ok.exf b hb).2,λp i8 z=>hp p (by simpa using (show p∈([]:List aF)++_ from i8)) (z▸hb)⟩
 have loop:∀tk,codeAny (model X.prog X.w) X.A (.compLoop (.ListComp elt [⟨tg,iter,ifs,0⟩] scope Xs) 0 (.ref it) (.ref s2.heap.objs.size) (compEnvC scope (V7 X.env scope.names []) G.objs.size X.env))
   (compPost (model X.prog X.w) X.A X.xe use Q0 (.ref s2.heap.objs.size) G.objs.size) { s2 with heap:=h1,toks:=tk }:=by
  intro tk
  refine Zbh (λn s'=>∃i acc its H',Inv (Y6 X (Y0 own Nm fr) scope d) [] (U6 own.length fr σ) H' s'∧tn i s'.heap∧(∀b∈fp,H' b=none)∧H' s2.heap.objs.size=none∧Vals acc its∧s'.heap.PlainList s2.heap.objs.size its.toArray∧W i n acc H') ?_ m0
   ⟨0,[],[],H2,J0 tk,T.keep 0 _ _ st2 λb _ o e=>old b o e,λb hb=>(f2 b hb).1,I2.hok.fresh (rG _),.nil,Tv,w0⟩
  rintro n s3 ⟨i,acc,its,H3,I3,gY,kG,nD,va,⟨na,pa⟩,w3⟩
  have Znv:Inv (Y6 X (Y0 own Nm fr) scope d) [(s2.heap.objs.size,{ cls:=.type "list",data:=.seq its.toArray na })] (U6 own.length fr σ) H3 s3:=I3.Mq λp hp=>by
   have i8:=rL.mp hp;subst i8;refine⟨pa,nD,uO,λz=>?_,λv z=>?_⟩
   ·have z':s2.heap.objs.size∈frs X.stack:=z
    rcases rT.mp (I2.Lf _ z') with y|y
    ·exact absurd I2.lt (by rw[←y];exact oT _)
    ·exact I2.Zn1 (rG _) y
   ·have z':Data.seq its.toArray na=Data.cell v:=z;cases z'
  have Hv:∀p∈[(s2.heap.objs.size,({ cls:=.type "list",data:=.seq its.toArray na }:Obj))],p.1∉fp:=λp hp=>by
   rw[rL.mp hp];exact hDf
  obtain⟨hz,alt⟩:=turn i n acc H3 w3
  rcases alt with ⟨stop,qn⟩|⟨go,Nx,hNx,step⟩
  ·refine thn (T.done (Y6 X (Y0 own Nm fr) scope d) rfl rfl rfl hc i _ s3 _ H3 _ Znv (D3 kG Hv) gY stop) λr s4 ⟨hr,I4⟩=>?_;subst hr;have pD:=I4.pin (s2.heap.objs.size,{ cls:=.type "list",data:=.seq its.toArray na }) (pV _ (rL.mpr rfl));obtain⟨m4,mL,_⟩:=I4.loc;have I5:Inv X pins σ H3 s4:=I2.Zo4 (ch:=fp) I4.os I4.base I4.hok I4.bare λb hb=>⟨(f2 b hb).2.2.2.1,(f2 b hb).2.1,(f2 b hb).2.2.2.2.1,(f2 b hb).2.2.2.2.2⟩
   have far:∀a,s2.heap.objs.size≤a→X.s₀.heap.objs.size≤a∧a≠X.env.locals∧(∀x c,X.env.cells.lookup x=some c→c≠a)∧∀p∈X.pn++pins,p.1≠a:=λa ha=>
    ⟨pQ I2.sz ha,fE (rZ I2.lt ha),λx c e=>rV (rZ (Zga x c e) ha),λp hp=>rV (rZ (rO (I2.pin p hp).1) ha)⟩
   have fD:=far s2.heap.objs.size (rG _);have fC:=far G.objs.size (by lia);have I6:=I5.adopt (o:=.lst acc) fD.1 pD.2.1 fD.2.1 fD.2.2.1 fD.2.2.2 ⟨oX hz,its,na,va,pD.1⟩;exact jC s2.heap.objs.size G.objs.size _ s4 m4 I6 (qn _ pD.2.1) mL (by rw[Zk (lW uO)];exact I4.free) fC.1 fC.2.1 fC.2.2.1 fC.2.2.2
  ·refine thn (T.item (Y6 X (Y0 own Nm fr) scope d) rfl rfl rfl hc i _ s3 _ H3 _ Znv (D3 kG Hv) gY go) λr s4 ⟨u,hr,h4⟩=>?_;subst hr;refine thn h4 λ_ s5 ⟨x,H5,I5,r5,y5,yV,wM⟩=>?_;have vS:=I5.pinned (D3 wM Hv) (T.obj _ _ yV);refine thn (hg d _ s5 _ H5 x u _ vS r5 (gA _ _ _ _ (step x H5 y5))) λ_ s6 ⟨tF,H6,I6,q6,l6,k6⟩=>?_
   have wk:∀(j:Nat) v,(U6 own.length fr σ)[j]?=some (some v)→tF[j]?=some (some v):=λj v e=>by
    by_cases hj:j<own.length
    ·unfold U6 at e;rw[pM (by simpa using hj),fY,if_pos hj]at e;cases e
    ·rw[k6 j (by lia)];exact e
   refine thn (ht d _ s6 tF H6 _ I6 q6) λb s7 ⟨H7,I7,q7⟩=>?_
   have fpK:∀{x4:St}{H':Hp}{s':Shared},Inv (Y6 X (Y0 own Nm fr) scope d) ([(s2.heap.objs.size,({ cls:=.type "list",data:=.seq its.toArray na }:Obj))]++Ng fp s5.heap) x4 H' s'→
     tn (i+1) s'.heap∧(∀b∈fp,H' b=none)∧H' s2.heap.objs.size=none∧s'.heap.get? s2.heap.objs.size=some { cls:=.type "list",data:=.seq its.toArray na }:=λ{x4 H' s'} I'=>by
    have pD:=I'.pin (s2.heap.objs.size,{ cls:=.type "list",data:=.seq its.toArray na }) (pV _ (lV _ (rL.mpr rfl)));refine⟨T.keep _ _ _ yV λb hb o e=>(I'.pin (b,o) (pV _ (pV _ (Tp hb e)))).1,λb hb=>?_,pD.2.1,pD.1⟩;obtain⟨o,e,_⟩:=T.obj _ _ yV b hb;exact(I'.pin (b,o) (pV _ (pV _ (Tp hb e)))).2.1
   have drop:∀{x4:St}{H':Hp}{s':Shared},(∀(j:Nat) v,(U6 own.length fr σ)[j]?=some (some v)→x4[j]?=some (some v))→Inv (Y6 X (Y0 own Nm fr) scope d) ([(s2.heap.objs.size,({ cls:=.type "list",data:=.seq its.toArray na }:Obj))]++Ng fp s5.heap) x4 H' s'→
     Inv (Y6 X (Y0 own Nm fr) scope d) [] (U6 own.length fr σ) H' s':=λ{x4 H' s'} hw I'=>
    (I'.Mq (pins':=[]) (λp hp=>absurd hp (by simp))).weak (Zjv.trans I'.len.symm) hw
   cases b with
   |false=>
    rw[if_neg rU];obtain⟨m',hm,w'⟩:=hNx acc H7 (by rw[if_neg rU]at q7;exact q7);obtain⟨k1,k2,k3,k4⟩:=fpK I7;exact⟨m',hm,i+1,acc,its,H7,drop wk I7,k1,k2,k3,va,⟨_,k4⟩,w'⟩
   |true=>
    rw[if_pos rfl];rw[if_pos rfl]at q7;refine thn (he d _ s7 tF H7 _ I7 q7) λy s8 ⟨yv,H8,I8,r8,q8⟩=>?_;obtain⟨m',hm,w'⟩:=hNx _ H8 q8;obtain⟨k1,k2,k3,k4⟩:=fpK I8
    have hsz:its.toArray.size≤sizeLine:=by
     rw[rQ,←va.length];exact oX hz
    refine wpAny_list_append_plain (hsz:=hsz) ⟨_,k4⟩ λh9 hl9 hs9=>?_
    have I9:Inv (Y6 X (Y0 own Nm fr) scope d) [] (U6 own.length fr σ) H8 { s8 with heap:=h9 }:=by
     refine(drop wk I8).turned (t':=s8.toks) (it:=s2.heap.objs.size) (λb o hb e=>hs9.extBut b o hb e) k3 uO (.inr (rG _)) (λx c e=>?_) λp hp=>absurd (show p∈([]:List aF) from hp) (by simp);exact rV (Zga x c (Kn x c e).1)
    refine⟨m',hm,i+1,acc++[yv],its++[y],H8,I9,T.keep _ _ _ k1 λb hb o e=>hs9.extBut b o (λz=>hDf (z▸hb)) e,k2,k3,va.append (.cons r8 .nil),?_,w'⟩;rw[show (its++[y]).toArray=its.toArray.push y by simp];exact hl9
 exact codeAny_compStart_list (loop _) (T.self _ 0 _ _ _ (T.keep 0 _ _ st2 λb _ o e=>old b o e) (loop _))
theorem Yj(S:Bw sc Nm own fr scope)(hc:X.calm=true)(gA:GFr own.length g)(hi:PI X tg iter wi)(hg:∀d,PG (Y6 X (Y0 own Nm fr) scope d) tg g)
  (ht:∀d,PTs (Y6 X (Y0 own Nm fr) scope d) ifs tt) (he:∀d,PE (Y6 X (Y0 own Nm fr) scope d) elt te) (hU:X.env.scope=sc:=by rfl) (hN:X.N=Nm:=by rfl)
  (hs:∀x,foldedSetIterable iter X.env x=pure x:=by intro _;rfl):PE X (.ListComp elt [⟨tg,iter,ifs,0⟩] scope Xs) (Zcq own.length fr wi g tt te):=by
 intro pins s σ H Q I h;rw[eval_ListComp];refine Io (use:=none) S hU hN hc gA hi hg ht he hs I h λD C Hd s' m I' q hn nC c1 c2 c3 c4=>?_;exact⟨m,hn,λh' hb=>⟨.ref D,Hd,I'.turned (t':=s'.toks) (λb o y8 e=>hb.extBut b o y8 e) nC c2 (.inr c1) c3 c4,rfl,q⟩⟩
theorem Zhb{pos':Pos}(hNd:X.N.Nodup)(j9:X.N[i]?=some x)(hx:X.env.scope.names.lookup x=some .local)(S:Bw sc Nm own fr scope)(hc:X.calm=true)(gA:GFr own.length g)(hi:PI X tg iter wi)
  (hg:∀d,PG (Y6 X (Y0 own Nm fr) scope d) tg g) (ht:∀d,PTs (Y6 X (Y0 own Nm fr) scope d) ifs tt) (he:∀d,PE (Y6 X (Y0 own Nm fr) scope d) elt te) (hU:X.env.scope=sc:=by rfl) (hN:X.N=Nm:=by rfl)
  (hs:∀x,foldedSetIterable iter X.env x=pure x:=by intro _;rfl)
  (hsw:swapsWith (.ListComp elt [⟨tg,iter,ifs,0⟩] scope Xs) (some (.Name x pos')) pos.line X.env=pure true:=by rfl) :
  PS X (.Assign [.Name x pos'] (.ListComp elt [⟨tg,iter,ifs,0⟩] scope Xs) pos) (Zkp (Zcq own.length fr wi g tt te) (N6 i)):=by
 intro pins s σ H D0 I h;rw[exec_Assign_Name_used _ _ _ _ hsw];refine rB (dX (rB ?_));refine rB (thn (Io (use:=some (assign (.Name x pos') X.env)) (Q0:=λ_ s'=>SP X pins D0 .next s') S hU hN hc gA hi hg ht he hs I h λD C Hd s' m I' q hn nC c1 c2 c3 c4=>?_) λ_ s' q=>rF (rF q));show wpAny _ _ (assign (.Name x pos') X.env (.ref D)) _ _ s';refine wpAny_assign_Name (J1 I' hNd j9 (.inl hx) (v:=.ref D) rfl (λs2 I2 ⟨a,sb,ha⟩=>?_) (.inr hx))
 have hCa:C≠a:=by
  rcases ha with z|z
  ·rw[z];exact c2
  ·exact(c3 x a z).symm
 refine⟨m,hn.sameBut sb hCa,λh' hb=>⟨_,Hd,I2.turned (t':=s2.toks) (λb o y8 e=>hb.extBut b o y8 e) nC c2 (.inr c1) c3 c4,q⟩⟩
end
theorem Tc{J:It}{k:Nat}{fr:List Nat}{tt:TT}{Q:VK}(Pv:Nat→List V→Hp→Prop)(hk:k<sizeLine)(h0:Pv 0 [] H)(hlen:∀i acc H,Pv i acc H→acc.length≤i)
  (hgo:∀i acc H,i<k→Pv i acc H→J.go i H) (k5:∀acc H,Pv k acc H→J.stop k H)
  (hs:∀i acc H2 x H3,i<k→Pv i acc H2→J.yld i H2 x H3→g x (U6 n fr σ) H3 λg8 H4=>tt g8 H4 λb H5=>if b=true then te g8 H5 λv H6=>Pv (i+1) (acc++[v]) H6 else Pv (i+1) acc H5)
  (hd:∀acc H2,Pv k acc H2→∀l,H2 l=none→Q (.ref l) (upd H2 l (.lst acc))) :
  Zj8 J n fr g tt te σ H Q:=by
 refine⟨λi m acc H=>m=k-i∧i≤k∧Pv i acc H,⟨k,by simp,oC _,h0⟩,?_⟩;rintro i m acc H2 ⟨rfl,hi,p⟩;have hl:=hlen i acc H2 p;refine⟨by lia,?_⟩
 by_cases x5:i<k
 ·exact .inr ⟨hgo i acc H2 x5 p,Pv (i+1),λNw H' p'=>⟨k-(i+1),by lia,rfl,x5,p'⟩,λx H3 y=>hs i acc H2 x H3 x5 p y⟩
 ·have e:i=k:=by lia
  subst e;exact .inl ⟨k5 acc H2 p,hd acc H2 p⟩
def V5{lo:Int}{n k:Nat}{fr:List Nat}{g:TG}{tt:TT}{te:TE}{σ:St}{H:Hp}{Q:VK}(Pv:Nat→List V→Hp→Prop)(hk:k<sizeLine)(h0:Pv 0 [] H)(hlen:∀i acc H,Pv i acc H→acc.length≤i)
  (hs:∀i acc H2,i<k→Pv i acc H2→g (.int (lo+i)) (U6 n fr σ) H2 λg8 H4=>tt g8 H4 λb H5=>if b=true then te g8 H5 λv H6=>Pv (i+1) (acc++[v]) H6 else Pv (i+1) acc H5)
  (hd:∀acc H2,Pv k acc H2→∀l,H2 l=none→Q (.ref l) (upd H2 l (.lst acc))):=
 Tc (J:=Itr lo k) (n:=n) (fr:=fr) (g:=g) (tt:=tt) (te:=te) (σ:=σ) (Q:=Q) Pv hk h0 hlen (λ_ _ _ h _=>h) (λ_ _ _=>rG _) (λi acc H2 x H3 hi p y=>by
  obtain⟨e1,e2⟩:=y;subst e1 e2
  exact hs i acc _ hi p) hd
def Zb0{K:W.Frag}{a:Addr}{xs:List V}{n:Nat}{fr:List Nat}{g:TG}{tt:TT}{te:TE}{σ:St}{H:Hp}{Q:VK}(Pv:Nat→List V→Hp→Prop)(hk:xs.length<sizeLine)(h0:Pv 0 [] H)(hlen:∀i acc H,Pv i acc H→acc.length≤i)
  (hl:∀i acc H,Pv i acc H→SqL K H a xs)
  (hs:∀i acc H2 x,xs[i]?=some x→Pv i acc H2→g x (U6 n fr σ) H2 λg8 H4=>tt g8 H4 λb H5=>if b=true then te g8 H5 λv H6=>Pv (i+1) (acc++[v]) H6 else Pv (i+1) acc H5)
  (hd:∀acc H2,Pv xs.length acc H2→∀l,H2 l=none→Q (.ref l) (upd H2 l (.lst acc))):=
 Tc (J:=Itl K a) (n:=n) (fr:=fr) (g:=g) (tt:=tt) (te:=te) (σ:=σ) (Q:=Q) Pv hk h0 hlen (λi acc H hi p=>⟨xs,xs[i],hl i acc H p,by simp[hi]⟩) (λacc H p=>⟨xs,hl _ acc H p,rG _⟩) (λi acc H2 x H3 hi p y=>by
  obtain⟨e1,e2⟩:=y;subst e1
  exact hs i acc _ x (e2 xs (hl i acc _ p)) p) hd
def X5{K:W.Frag}{a:Addr}{xs:List V}{n:Nat}{fr:List Nat}{g:TG}{tt:TT}{te:TE}{σ:St}{H:Hp}{Q:VK}(Pv:Nat→List V→Hp→Prop)(hk:xs.length<sizeLine)(h0:Pv 0 [] H)(hlen:∀i acc H,Pv i acc H→acc.length≤i)
  (hl:∀i acc H,Pv i acc H→SqT K H a xs)
  (hs:∀i acc H2 x,xs[i]?=some x→Pv i acc H2→g x (U6 n fr σ) H2 λg8 H4=>tt g8 H4 λb H5=>if b=true then te g8 H5 λv H6=>Pv (i+1) (acc++[v]) H6 else Pv (i+1) acc H5)
  (hd:∀acc H2,Pv xs.length acc H2→∀l,H2 l=none→Q (.ref l) (upd H2 l (.lst acc))):=
 Tc (J:=Itt K a) (n:=n) (fr:=fr) (g:=g) (tt:=tt) (te:=te) (σ:=σ) (Q:=Q) Pv hk h0 hlen (λi acc H hi p=>⟨xs,xs[i],hl i acc H p,by simp[hi]⟩) (λacc H p=>⟨xs,hl _ acc H p,rG _⟩) (λi acc H2 x H3 hi p y=>by
  obtain⟨e1,e2⟩:=y;subst e1
  exact hs i acc _ x (e2 xs (hl i acc _ p)) p) hd
def Its(cs:List Nat):It:=⟨λi _=>i<cs.length,λi H x H'=>H'=H∧∃c,cs[i]?=some c∧x=.str ⟨#[c]⟩,λi _=>cs.length≤i⟩
theorem Zck(it:Addr)(ty:String)(eU:ty = "str_ascii_iterator"∨ty = "str_iterator")(x:Str)(t:Tok):
  Turn P w K tg (Its x.cps.toList) [it] it (λi h=>h.IsStrIter it ty x t i) where
 mem:=by simp
 obj:=λi h st b hb=>by
  rw[rL.mp hb];obtain⟨o,e,c,d⟩:=st;exact⟨o,e,λv z=>by rw[d]at z;cases z⟩
 keep:=λi h h' st k=>by
  obtain⟨o,e,r⟩:=st;exact⟨o,k it (by simp) o e,r⟩
 item:=by
  intro X hP hw hK hc i pins s σ H E I hf st hg;subst hP hw hK;have x5:i<x.cps.toList.length:=hg;obtain⟨f0,f1,f2,f3,f4,f5⟩:=hf it (by simp)
  have hx:x.cps[i]?=some (x.cps.toList[i]):=by
   rw[←pW];exact rD x5
  have fin:∀h',h'.IsStrIter it ty x t (i+1)→Heap.SameBut it s.heap h'→∃u,some (Value.str ⟨#[x.cps.toList[i]]⟩ s.toks)=some u∧
    wpAny (model X.prog X.w) X.A (letOwnedTupleGo tg (.ref it) u) (λ_ s2=>∃y H',Inv X pins σ H' s2∧RelV y u∧(Its x.cps.toList).yld i H y H'∧s2.heap.IsStrIter it ty x t (i+1)∧∀b∈[it],H' b=none) E { s with heap:=h',toks:=s.toks+1 }:=λh' u9 sb=>by
   have I1:Inv X pins σ H { s with heap:=h',toks:=s.toks+1 }:=I.turned (λb o hb e=>(sb.2 b hb).trans e) f0 f1 f3 f4 f5;obtain⟨o,e,c,d⟩:=id u9
   refine⟨_,rfl,Ie (s:={ s with heap:=h',toks:=s.toks+1 }) (n:=ty) e c d (by rcases eU with z|z<;>subst z<;>decide) ⟨.str ⟨#[x.cps.toList[i]]⟩,H,I1,⟨_,rfl⟩,⟨rfl,_,rD x5,rfl⟩,u9,λb hb=>(hf b hb).1⟩⟩
  rcases eU with z|z
  ·subst z;exact wpAny_pyNext_ascii_item st hx λh' u9 sb=>fin h' u9 sb
  ·subst z;exact wpAny_pyNext_wide_item st hx λh' u9 sb=>fin h' u9 sb
 done:=by
  intro X hP hw hK hc i pins s σ H E I hf st hg;subst hP hw hK;have hle:x.cps.toList.length≤i:=hg;obtain⟨f0,f1,f2,f3,f4,f5⟩:=hf it (by simp)
  have hx:x.cps[i]?=none:=by
   rw[←pW];exact lG.mpr hle
  rcases eU with z|z
  ·subst z;exact wpAny_pyNext_ascii_end (I.ok.hd hc) st hx λh' eb=>⟨rfl,I.turned (t':=s.toks) (λb o hb e=>eb b o hb e) f0 f1 f3 f4 f5⟩
  ·subst z;exact wpAny_pyNext_wide_end (I.ok.hd hc) st hx λh' eb=>⟨rfl,I.turned (t':=s.toks) (λb o hb e=>eb b o hb e) f0 f1 f3 f4 f5⟩
 self:=λ_ _ _ _ _ st h=>by
  rcases eU with z|z
  ·subst z;exact wpAny_pyIter_striter_ascii st h
  ·subst z;exact wpAny_pyIter_striter_wide st h
section
variable {X:Cx}{tg e:Expr}{te:TE}
def iStr(te:TE):TI:=λσ H R=>te σ H λv H1=>∃z,v=.str z∧R (Its z.cps.toList) H1
theorem Up(he:PE X e te):PI X tg e (iStr te):=by
 intro pins s σ H R I h;refine thn (he pins s σ H _ I h) λv s1 ⟨x,H1,I1,r1,q1⟩=>?_;obtain⟨z,e1,q⟩:=q1;subst e1;obtain⟨t,rfl⟩:=r1
 have go:∀(ty:String),(ty = "str_ascii_iterator"∨ty = "str_iterator")→PIE X pins σ tg R (.ref s1.heap.objs.size) { s1 with heap:=s1.heap.push { cls:=.type ty,data:=.fields #[.str z t,.int 0 0] } }:=λty eU=>by
  refine⟨s1.heap.objs.size,[s1.heap.objs.size],_,_,H1,rfl,I1.kept (t':=s1.toks) λb o e=>rE _ e,Zck _ ty eU z t,⟨_,rR _ rfl,rfl,rfl⟩,λb hb=>?_,q⟩;rw[rL.mp hb];exact I1.Mm (rG _) (I1.hok.fresh (rG _))
 cases ha:z.cps.all (· < 128) with
 |false=>exact wpAny_pyIter_wide ha (go _ (.inr rfl))
 |true=>exact wpAny_pyIter_ascii ha (go _ (.inl rfl))
end
theorem Mu{cs:List Nat}(Pv:Nat→St→Hp→Prop)(h0:Pv 0 σ H)
  (hs:∀i c σ H,cs[i]?=some c→Pv i σ H→g (.str ⟨#[c]⟩) σ H λy0 H2=>tb { D with nx:=Pv (i+1),ct:=Pv (i+1),bk:=D.nx } y0 H2) (hd:∀σ H,Pv cs.length σ H→D.nx σ H) :
  ∃W:Nat→Nat→St→Hp→Prop,(∃m,W 0 m σ H)∧∀i m σ H,W i m σ H→
   ((Its cs).stop i H∧D.nx σ H)∨((Its cs).go i H∧∃N:St→Hp→Prop,(∀x4 H',N x4 H'→∃m',m'<m∧W (i+1) m' x4 H')∧∀x H',(Its cs).yld i H x H'→g x σ H' λy0 H2=>tb { D with nx:=N,ct:=N,bk:=D.nx } y0 H2):=by
 refine⟨λi m σ H=>m=cs.length-i∧i≤cs.length∧Pv i σ H,⟨cs.length,by simp,oC _,h0⟩,?_⟩;rintro i m σ H ⟨rfl,hi,p⟩
 by_cases x5:i<cs.length
 ·refine .inr ⟨x5,Pv (i+1),λx4 H' p'=>⟨cs.length-(i+1),by lia,rfl,x5,p'⟩,λx H' y=>?_⟩;obtain⟨e,c,hc,hx⟩:=y;subst e hx;exact hs i c σ _ hc p
 ·have e:i=cs.length:=by lia
  subst e;exact .inl ⟨rG _,hd σ H p⟩
def Ta{cs:List Nat}{n:Nat}{fr:List Nat}{g:TG}{tt:TT}{te:TE}{σ:St}{H:Hp}{Q:VK}(Pv:Nat→List V→Hp→Prop)(hk:cs.length<sizeLine)(h0:Pv 0 [] H)(hlen:∀i acc H,Pv i acc H→acc.length≤i)
  (hs:∀i acc H2 c,cs[i]?=some c→Pv i acc H2→g (.str ⟨#[c]⟩) (U6 n fr σ) H2 λg8 H4=>tt g8 H4 λb H5=>if b=true then te g8 H5 λv H6=>Pv (i+1) (acc++[v]) H6 else Pv (i+1) acc H5)
  (hd:∀acc H2,Pv cs.length acc H2→∀l,H2 l=none→Q (.ref l) (upd H2 l (.lst acc))):=
 Tc (J:=Its cs) (n:=n) (fr:=fr) (g:=g) (tt:=tt) (te:=te) (σ:=σ) (Q:=Q) Pv hk h0 hlen (λ_ _ _ h _=>h) (λ_ _ _=>rG _) (λi acc H2 x H3 hi p y=>by
  obtain⟨e1,c,hc,hx⟩:=y;subst e1 hx
  exact hs i acc _ c hc p) hd
theorem Lp(bs:List Bool):(List.range bs.length).all (λi=>bs.getD i false)=bs.all id:=by
 rw[lS,iE,iE];constructor
 ·intro h b hb;obtain⟨i,hi,rfl⟩:=iL hb;have:=h i (pU.mpr hi);simpa[rK,hi] using this
 ·intro h i hi;have n8:=pU.mp hi;have:=h bs[i] (oG n8);simpa[rK,n8] using this
section
variable {X:Cx}
theorem Dq{p:Addr}{bs:List Bool}{Qv:VK}{f:Nat→(Nat→Bool)→Bool}{b:Bool}(hc:X.calm=true)(I:Inv X pins σ H s)(hq:SqL X.K H p (bs.map V.bl))(hb:f bs.length (λi=>bs.getD i false)=b)(q:Qv (.bl b) H):
  wpAny (model X.prog X.w) X.A.in1 (pyIter (.ref p)) (λit m5=>∃I fp wr n P St tr,it=.ref I∧Walks X.prog X.w X.A.in1 I fp wr n P St∧St 0 m5.heap∧TruthOf X.prog X.w X.A.in1 P tr∧
   ∀h' tk,(∀b o,b∉wr→m5.heap.get? b=some o→h'.get? b=some o)→EP X pins σ Qv (.bool (f n tr)) { m5 with heap:=h',toks:=tk }) X.xe s:=by
 obtain⟨its,r,pl,hz⟩:=I.list hq
 have hlen:its.toArray.size=bs.length:=by
  rw[rQ,←r.length,rC]
 have y1:p<s.heap.objs.size:=by
  obtain⟨o,e,_⟩:=pl.isList;exact rO e
 refine dH pl.isList ?_;refine⟨s.heap.objs.size,[s.heap.objs.size,p],[s.heap.objs.size],its.toArray.size,_,_,λi=>bs.getD i false,rfl,Walks.list (A:=X.A.in1) (show X.A.in1.handled=none from I.ok.hd hc) s.heap.objs.size p (rV y1) its.toArray,?_,?_,λh' tk k=>?_⟩
 ·refine And.intro (show Heap.IsListIter _ _ _ _ from⟨_,rR _ rfl,rfl,rfl⟩) ?_;obtain⟨o,e,z⟩:=pl.isList;exact⟨o,rE _ e,z⟩
 ·intro i v s' Q E hv hQ;have sH:its[i]?=some v:=by simpa using hv
  cases e:(bs.map V.bl)[i]? with
  |none=>
   have z:=r.none_of e;rw[sH]at z;cases z
  |some x=>
   obtain⟨u,hu,ru⟩:=r.get e;rw[sH]at hu;cases hu;rw[rJ]at e
   cases e2:bs[i]? with
   |none=>rw[e2]at e;cases e
   |some y=>
    rw[e2]at e;cases e;cases ru;refine iV ?_;have:bs.getD i false=y:=by rw[rK,e2];rfl
    exact this▸(show Q (bs.getD i false) s' from hQ)
 ·rw[hlen,hb];refine⟨.bl b,H,I.kept λc o e=>k c o ?_ (rE _ e),rfl,q⟩;have:=rO e;intro z;rw[rL.mp z]at this;exact oT _ this
theorem Dh(hc:X.calm=true):Y4 X (.builtin "all") (λxs H Q=>∃(p:Addr) (bs:List Bool),xs=[.ref p]∧SqL X.K H p (bs.map V.bl)∧Q (.bl (bs.all id)) H):=by
 intro pins s σ H xs us Q I r h;obtain⟨p,bs,rfl,hq,q⟩:=h;obtain⟨u,rfl,ru⟩:=vals1 r;cases ru;exact call_all_walk (Dq (f:=λn tr=>(List.range n).all tr) hc I hq (Lp bs) q)
theorem Qy:∀{ys:List Str}{us:aJ},Vals (ys.map V.str) us→StrsAre us ys
 |[],us,r=>by rw[fF]at r;cases r;exact .nil
 |y :: ys,us,r=>by
  rw[rW]at r
  cases r with
  |cons r1 r2=>
   obtain⟨t,e⟩:=r1;subst e;exact .cons y t (Qy r2)
theorem Ju:∀{us:aJ}{ys:List Str},StrsAre us ys→Vals (ys.map V.str) us
 |_,_,.nil=>.nil
 |_,_,.cons y t h=>.cons ⟨t,rfl⟩ (Ju h)
inductive Zdv(K:W.Frag)(x:V)(xs:List V)(H:Hp)(Q:VK):Prop
 |mk(z p ys:_)(h1:x=.str z)(h2:xs=[.ref p])(h3:SqL K H p (ys.map V.str))(h4:(ys.map (·.length)).sum+ys.length*z.length≤16777216)(h5:Q (.str (Txt.join z ys)) H):Zdv K x xs H Q
def rJoin(K:W.Frag):V→List V→Hp→VK→Prop:=λx xs H Q=>Zdv K x xs H Q
theorem Zhm:MtR X "str.join" (rJoin X.K):=by
 intro pins s σ H x xs v us Q I rx rs h;obtain⟨z,p,ys,rfl,rfl,hq,hz,q⟩:=h;obtain⟨t,rfl⟩:=rx;obtain⟨u,rfl,ru⟩:=rs.one;cases ru;obtain⟨its,r,pl,_⟩:=I.list hq;exact join_list pl.isList (by simpa using Qy r) hz λt' k=>⟨.str _,H,I.tok _,⟨_,rfl⟩,q⟩
theorem Qt(ys:List Str):(Txt.join (Str.ofString "") ys).cps.toList=(ys.map λy=>y.cps.toList).flatten:=by
  show (Builtin.Str.glued (Str.ofString "") ys).cps.toList=_;rw[StrLaws.glued_eq_join]
  induction ys with
  |nil=>rfl
  |cons y r ih=>
   cases r with
   |nil=>simp[Str.join]
   |cons z r=>
    have e:Str.join (Str.ofString "") (y :: z :: r)=y++Str.ofString ""++Str.join (Str.ofString "") (z :: r):=rfl;rw[e];have h0:(Str.ofString "").cps = #[]:=by decide +kernel
    show ((y.cps++(Str.ofString "").cps)++(Str.join (Str.ofString "") (z :: r)).cps).toList=_;rw[h0,Array.append_empty,fX,ih,rW,rW,iW];rfl
inductive Zjf(x:V)(lo:ZG)(hi:ZG)(H:Hp)(Q:VK):Prop
 |mk(z:_)(h1:x=.str z)(h2:z.length≤sizeLine)(h3:Q (.str (Txt.slice z lo hi)) H):Zjf x lo hi H Q
def rSlS:V→Option Int→Option Int→Hp→VK→Prop:=λx lo hi H Q=>Zjf x lo hi H Q
theorem Zku:SlR X rSlS:=by
 intro pins s σ H x v vl vu lo hi sl Q I rx hs pl pu h;obtain⟨z,rfl,hz,q⟩:=h;obtain⟨t,rfl⟩:=rx;refine⟨"str",_,F.slot_str_getitem.lookup,typeIs_str _ _ _,?_⟩
 have fin:∀t' k,EP X pins σ Q (.str (Txt.slice z lo hi) t') { s with toks:=k }:=λt' k=>⟨.str _,H,I.tok _,⟨_,rfl⟩,q⟩;have hle:(Txt.slice z lo hi).length≤sizeLine:=pQ (Txt.slice_le z _ _) hz
 cases pl with
 |none=>
  cases pu with
  |none=>exact fZ (l:=none) (u:=none) (st:=none) hs rfl (post_val_or_str ⟨hle,fin⟩)
  |int j uj=>exact fZ (l:=none) (u:=some (j,uj)) (st:=none) hs rfl (post_val_or_str ⟨hle,fin⟩)
 |int i ui=>
  cases pu with
  |none=>exact fZ (l:=some (i,ui)) (u:=none) (st:=none) hs rfl (post_val_or_str ⟨hle,fin⟩)
  |int j uj=>exact fZ (l:=some (i,ui)) (u:=some (j,uj)) (st:=none) hs rfl (post_val_or_str ⟨hle,fin⟩)
inductive Ai(K:W.Frag)(xs:List V)(H:Hp)(Q:VK):Prop
 |mk(p ys:_)(h1:xs=[.ref p])(h2:SqL K H p (ys.map V.str))(h3:ys.length<64)(h4:∀eN l,eN.Perm ys→sortedS eN=true→H l=none→Q (.ref l) (upd H l (.lst (eN.map V.str)))):Ai K xs H Q
def Zdo(K:W.Frag):List V→Hp→VK→Prop:=λxs H Q=>Ai K xs H Q
theorem Mn:Y4 X (.builtin "sorted") (Zdo X.K):=by
 intro pins s σ H xs us Q I r h;obtain⟨p,ys,rfl,hq,h64,q⟩:=h;obtain⟨u,rfl,ru⟩:=vals1 r;cases ru;obtain⟨its,r',pl,hz⟩:=I.list hq;have hlen:=r'.length;rw[rC]at hlen hz;refine sorted_strs pl.isList (Qy r') (by lia) λout gX a1 a2 a3=>?_;obtain⟨e,he⟩:=sortedAll_at s.heap its out;have hn:H (s.heap.objs.size+1)=none:=I.hok.fresh (lC _);refine⟨.ref (s.heap.objs.size+1),upd H (s.heap.objs.size+1) (.lst (gX.map V.str)),I.laid (t':=s.toks) (λ_ _=>sortedAll_old) (lC _) ⟨?_,out.toList,e,Ju a1,?_⟩,rfl,q gX _ a2 a3 hn⟩
 ·rw[rC,a2.length_eq];exact hz
 ·simpa[seqObj] using he
def Oe(c:Nat):V:=.str ⟨#[c]⟩
theorem M9{x:Str}:∀(us:aJ) (k:Nat),(∀i v,us[i]?=some v→SignAt x (k+i) v)→us.length+k=x.cps.toList.length→Vals ((x.cps.toList.drop k).map Oe) us
 |[],k,_,hl=>by
  rw[cO (by simpa using cG hl.symm)];exact .nil
 |u :: us,k,h,hl=>by
  have hk:k<x.cps.toList.length:=by
   simp only[pY]at hl;lia
  rw[List.drop_eq_getElem_cons hk,rW];refine .cons ?_ (M9 us (k+1) (λi v e=>?_) (by simp only[pY]at hl;lia))
  ·obtain⟨c,t,hc,rfl⟩:=h 0 u rfl
   have kU:x.cps.toList[k]?=some c:=by
    rw[pW];exact hc
   rw[rD hk]at kU;rw[Option.some.inj kU];exact⟨t,rfl⟩
  ·have:=h (i+1) v e;rw[show k+1+i=k+(i+1) by lia];exact this
theorem Rt(hc:X.calm=true):Y4 X (.type "list") (λxs H Q=>∃z,xs=[.str z]∧z.length≤sizeLine∧∀l,H l=none→Q (.ref l) (upd H l (.lst (z.cps.toList.map Oe)))):=by
 intro pins s σ H xs us Q I r h;obtain⟨z,rfl,hz,q⟩:=h;obtain⟨u,rfl,t,rfl⟩:=vals1 r;refine call_list_str (hn:=hz) (I.ok.hd hc) z t λh' tk acc c kp e it=>?_;refine⟨.ref s.heap.objs.size,_,I.laid kp (rG _) (show Z8 X.prog X.w _ h' _ (.lst (z.cps.toList.map Oe)) from⟨by rw[rC];simpa[Str.length] using hz,acc.toList,c,?_,by simpa using e⟩),rfl,q _ (I.hok.fresh (rG _))⟩;have e1:=M9 (x:=z) acc.toList 0 (λi v e=>by rw[Nat.zero_add];exact it.2 i v (by rw[←pW];exact e)) (by rw[oH,it.1,cH,oH]);rw[List.drop_zero]at e1;exact e1
inductive Am(x:V)(xs:List V)(H:Hp)(Q:VK):Prop
 |mk(z y:_)(h1:x=.str z)(h2:xs=[.str y])(h3:0≤Txt.find z y)(h4:Q (.int (Txt.find z y)) H):Am x xs H Q
def Zk4:V→List V→Hp→VK→Prop:=λx xs H Q=>Am x xs H Q
theorem Zes(hc:X.calm=true):MtR X "str.index" Zk4:=by
 intro pins s σ H x xs v us Q I rx rs h;obtain⟨z,y,rfl,rfl,h0,q⟩:=h;obtain⟨t,rfl⟩:=rx;obtain⟨u1,rfl,⟨t1,rfl⟩⟩:=rs.one;exact index_or (I.ok.hd hc) (λe=>by lia) λ_ _=>⟨.int _,H,I.tok _,⟨_,rfl⟩,q⟩
inductive Znp(K:W.Frag)(xs:List V)(H:Hp)(Q:VK):Prop
 |mk(x n t b:_)(h1:xs=[x,.ty n])(h2:O2 K H x t)(h3:W.kitOne K t (.type n)=some b)(h4:Q (.bl b) H):Znp K xs H Q
def rIs(K:W.Frag):List V→Hp→VK→Prop:=λxs H Q=>Znp K xs H Q
theorem Zif:Y4 X (.builtin "isinstance") (rIs X.K):=by
 intro pins s σ H xs us Q I r h;obtain⟨x,n,t,b,rfl,ty,e,q⟩:=h;obtain⟨u,w',rfl,rx,rc⟩:=vals2 r;cases (show w'=Value.type n from rc);exact Zbm I rx ty e λtk=>⟨.bl b,H,I.tok _,rfl,q⟩
inductive Zjm(K:W.Frag)(xs:List V)(H:Hp)(Q:VK):Prop
 |mk(x tp n m t b:_)(h1:xs=[x,.ref tp])(h2:H tp=some (.tup [.ty n,.ty m]))(h3:O2 K H x t)(h4:W.kitAny K t [.type n,.type m]=some b)(h5:Q (.bl b) H):Zjm K xs H Q
def Znq(K:W.Frag):List V→Hp→VK→Prop:=λxs H Q=>Zjm K xs H Q
theorem Zgb:Y4 X (.builtin "isinstance") (Znq X.K):=by
 intro pins s σ H xs us Q I r h;obtain⟨x,tp,n,m,t,b,rfl,u7,ty,e,q⟩:=h;obtain⟨u,w',rfl,rx,rc⟩:=vals2 r;cases (show w'=Value.ref tp from rc);obtain⟨_,its,rv,p⟩:=(show Z8 X.prog X.w H s.heap tp (.tup [.ty n,.ty m]) from I.hok tp _ u7);obtain⟨a1,a2,rfl,ra1,ra2⟩:=rv.two;cases (show a1=Value.type n from ra1);cases (show a2=Value.type m from ra2);obtain⟨⟨oc,od,odt,osl⟩,g1,g2,k,g3⟩:=p;cases (show oc=Value.type "tuple" from g2);cases (show odt=Data.seq _ k from g3)
 have fin:∀tk,EP X pins σ Q (.bool b) { s with toks:=tk }:=λtk=>⟨.bl b,H,I.tok _,rfl,q⟩;have no:∀v:Value,(∀z:String,v≠.builtin z)→v≠.builtin "__main__.__loader__#opaque":=λv h=>h _
 cases ty with
 |non=>cases (show u=Value.none from rx);exact fU W.kitx_none I.kIn True.intro g1 e (no _ λ_ z=>nomatch z) fin
 |bl y=>cases (show u=Value.bool y from rx);exact fU W.kitx_bool I.kIn True.intro g1 e (no _ λ_ z=>nomatch z) fin
 |int i=>obtain⟨t,z⟩:=(show ∃t,u=Value.int i t from rx);cases z;exact fU W.kitx_int I.kIn True.intro g1 e (no _ λ_ z=>nomatch z) fin
 |str y=>obtain⟨t,z⟩:=(show ∃t,u=Value.str y t from rx);cases z;exact fU W.kitx_str I.kIn True.intro g1 e (no _ λ_ z=>nomatch z) fin
 |flt y=>obtain⟨t,z⟩:=(show ∃t,u=Value.float y t from rx);cases z;exact fU W.kitx_float I.kIn True.intro g1 e (no _ λ_ z=>nomatch z) fin
 | @lst a xs ea=>
  cases (show u=Value.ref a from rx);obtain⟨_,_,k2,_,h1⟩:=(show Z8 X.prog X.w H s.heap a (.lst xs) from I.hok a _ ea);exact fU W.kitx_list I.kIn ⟨_,h1,rfl⟩ g1 e (no _ λ_ z=>nomatch z) fin
 | @frz a ob xs ea=>
  cases (show u=Value.ref a from rx);obtain⟨_,_,_,k2,_,h1⟩:=(show Z8 X.prog X.w H s.heap a (.frz ob (.lst xs)) from I.hok a _ ea);exact fU W.kitx_list I.kIn ⟨_,h1,rfl⟩ g1 e (no _ λ_ z=>nomatch z) fin
 | @tup a xs ea=>
  cases (show u=Value.ref a from rx);obtain⟨_,_,_,o2,h1,h2,_⟩:=(show Z8 X.prog X.w H s.heap a (.tup xs) from I.hok a _ ea);exact fU W.kitx_tuple I.kIn ⟨o2,h1,h2⟩ g1 e (no _ λ_ z=>nomatch z) fin
 | @dK a kvs ea=>
  cases (show u=Value.ref a from rx);obtain⟨_,_,vs,_,o2,es,ep,h1,h2,_⟩:=(show Z8 X.prog X.w H s.heap a (.dK kvs) from I.hok a _ ea);exact fU W.kitx_dict I.kIn ⟨o2,h1,h2.1⟩ g1 e (no _ λ_ z=>nomatch z) fin
 | @dT a kvs ea=>
  cases (show u=Value.ref a from rx);obtain⟨_,_,xs,_,o2,es,ep,h1,h2,_⟩:=(show Z8 X.prog X.w H s.heap a (.dT kvs) from I.hok a _ ea);exact fU W.kitx_dict I.kIn ⟨o2,h1,h2.1⟩ g1 e (no _ λ_ z=>nomatch z) fin
 | @ins a C dx fs ea cl ha hn sG hm=>
  cases (show u=Value.ref a from rx);obtain⟨mA,O,_⟩:=Zad I.hok ea;obtain⟨od2,J,_⟩:=O.look;exact fU (W.kitx_own (cl.get _) cl.hd ha hn sG hm) I.kIn J g1 e (no _ λ_ z=>nomatch z) fin
end
inductive Zit(t:TS)(u:TS)(D:Ends)(σ:St)(H:Hp):Prop
 |mk(P:St→Hp→Prop)(h1:t { D with nx:=P } σ H)(h2:∀x4 H',P x4 H'→u D x4 H'):Zit t u D σ H
def Zm2(t u:TS):TS:=λD σ H=>Zit t u D σ H
theorem Zha{rest:List Stmt}{t u:TS}(h1:PS X st t)(h2:PSs X rest u):PSs X (st :: rest) (Zm2 t u):=by
 intro pins s σ H D I h;obtain⟨P,q,k⟩:=h;have z:PSs X (st :: rest) (Zs (λD' x4 H'=>D'=D∧x4=σ∧H'=H) (λ_ _ _=>True))→True:=λ_=>True.intro
 exact Ze (t:=λD' x4 H'=>t { D' with nx:=P } x4 H'∧∀y0 H2,P y0 H2→D'.nx y0 H2) (u:=u) (λpins s σ H D I h=>by
  refine thn (h1 pins s σ H _ I h.1) λf s' r=>?_
  cases f with
  |next=>
   obtain⟨x4,H',I',p⟩:=r;exact⟨x4,H',I',h.2 x4 H' p⟩
  |brk=>exact r
  |cont=>exact r
  |ret v=>exact r) h2 pins s σ H D I ⟨q,k⟩
structure Cal(P:Program)(w:World)(K:W.Frag)(mg:aG)(base:Heap)(x:Str)(k:Nat)(ps:List Str)(sp:Sp) where
 f:Addr
 fd:FuncData
 ok:Yc P w K mg base CX0 k f fd ps sp
 at_:mg x=some (.ref f)
 kp:W.keepIn K (.ref f)=true
 b:Binds K fd ps []
theorem Z5{k:Nat}{es:aV}{t:TA}(C:Cal X.prog X.w X.K X.mg X.base x k ps sp)(hr:Wu k X.A)(ha:PA X (e :: es) t)(hg:Gl X x:=by rfl)
  (xI:(x==("__debug__" : Str))=false:=by decide) (he:starEach (e :: es) X.env=(false,eval e X.env) :: starEach es X.env:=by rfl) (y1:(backTo pos (starEach es X.env)).any (·.1)=false:=by rfl) :
  PE X (.Call (.Name x p) (e :: es) [] pos) (B1 sp [] E0 t):=Zhf C.ok hr hg C.at_ C.kp C.b .nil Zjr ha xI he y1
section
variable {X:Cx}
theorem Zhh:OpR X (compareOp .IsNot) (λx y H Q=>∃a b,x=.bl a∧y=.bl b∧Q (.bl (!(a==b))) H):=by
 intro pins s σ H x y v u Q I rx ry h;obtain⟨a,b,rfl,rfl,q⟩:=h;cases rx;cases ry;refine wpAny_isNot_plain (by cases a<;>cases b<;>rfl) ⟨.bl (!(a==b)),H,I,?_,q⟩;cases a<;>cases b<;>rfl
end
theorem Zlj(a b:Nat):decide (([a]:List Nat)<[b])=decide (a<b):=by
 rw[lS,decide_eq_true_eq,decide_eq_true_eq];constructor
 ·intro h
  cases h with
  |rel h=>exact h
  |cons h=>cases h
 ·intro h;exact List.Lex.rel h
section
variable {X:Cx}{K:W.Frag}
inductive Zdu(K:W.Frag)(xs:List V)(H:Hp)(Q:VK):Prop
 |mk(p ys:_)(h1:xs=[V.ref p])(h2:(SqL K H p ys∨SqT K H p ys))(h3:Q (.int ys.length) H):Zdu K xs H Q
def Zno(K:W.Frag):List V→Hp→VK→Prop:=λxs H Q=>Zdu K xs H Q
inductive Al(K:W.Frag)(xs:List V)(H:Hp)(Q:VK):Prop
 |mk(p ys:_)(h1:xs=[V.ref p])(h2:(SqL K H p ys∨SqT K H p ys))(h3:∀l,H l=none→Q (.ref l) (upd H l (.lst ys))):Al K xs H Q
def Zk1(K:W.Frag):List V→Hp→VK→Prop:=λxs H Q=>Al K xs H Q
inductive Zdn(K:W.Frag)(xs:List V)(H:Hp)(Q:VK):Prop
 |mk(p ys:_)(h1:xs=[V.ref p])(h2:((SqL K H p ys∧∀l,H l=none→Q (.ref l) (upd H l (.tup ys)))∨(SqT K H p ys∧Q (.ref p) H))):Zdn K xs H Q
def Zng(K:W.Frag):List V→Hp→VK→Prop:=λxs H Q=>Zdn K xs H Q
inductive Zdx(K:W.Frag)(xs:List V)(H:Hp)(Q:VK):Prop
 |mk(p:Addr)(bs:List Bool)(h1:xs=[V.ref p])(h2:SqL K H p (bs.map V.bl))(h3:Q (.bl (bs.all id)) H):Zdx K xs H Q
def Znt(K:W.Frag):List V→Hp→VK→Prop:=λxs H Q=>Zdx K xs H Q
theorem Y4.imp{f:Value}{r r':List V→Hp→VK→Prop}(h:Y4 X f r)(hi:∀xs H Q,r' xs H Q→r xs H Q):Y4 X f r':=λpins s σ H xs us Q I rv q=>h pins s σ H xs us Q I rv (hi xs H Q q)
theorem Z2(hK:X.K=K:=by rfl):IxR X (Zg5 K):=by subst hK;exact Zaa
theorem Zp(hK:X.K=K:=by rfl):IxR X (Zk2 K):=by subst hK;exact Ze3
theorem A9(hK:X.K=K:=by rfl):IxR X (rIx K):=by subst hK;exact Zlu
theorem Yo(hK:X.K=K:=by rfl):Y4 X (.builtin "len") (Zno K):=by subst hK;exact Gz.imp λ_ _ _ ⟨p,ys,e,h,q⟩=>⟨p,ys,e,h,q⟩
theorem Bj(hK:X.K=K:=by rfl):Y4 X (.type "list") (Zk1 K):=by subst hK;exact Gy.imp λ_ _ _ ⟨p,ys,e,h,q⟩=>⟨p,ys,e,h,q⟩
theorem Y1(hK:X.K=K:=by rfl):Y4 X (.type "tuple") (Zng K):=by subst hK;exact Jq.imp λ_ _ _ ⟨p,ys,e,h⟩=>⟨p,ys,e,h⟩
theorem Wi(hc:X.calm=true:=by rfl)(hK:X.K=K:=by rfl):Y4 X (.builtin "all") (Znt K):=by subst hK;exact(Dh hc).imp λ_ _ _ ⟨p,bs,e,h,q⟩=>⟨p,bs,e,h,q⟩
theorem Bh(hK:X.K=K:=by rfl):Y4 X (.builtin "sorted") (Zdo K):=by subst hK;exact Mn
theorem Td(hK:X.K=K:=by rfl):Y4 X (.builtin "isinstance") (rIs K):=by subst hK;exact Zif
theorem Zb6(hK:X.K=K:=by rfl):Y4 X (.builtin "isinstance") (Znq K):=by subst hK;exact Zgb
theorem Lu(hK:X.K=K:=by rfl):OpR X (compareOp .In) (rIn K false):=by subst hK;exact Za9
theorem Rg(hK:X.K=K:=by rfl):OpR X (binaryOp .Add) (Zjo K):=by subst hK;exact Zhi
theorem Zdb(hK:X.K=K:=by rfl):SlR X (Zni K):=by subst hK;exact Zgx
theorem Hn(hK:X.K=K:=by rfl):SlR X (Znh K):=by subst hK;exact Zkt
theorem Ep(hK:X.K=K:=by rfl):MtR X "str.join" (rJoin K):=by subst hK;exact Zhm
theorem U1{l:Expr}(hl:PE X l tl)(hK:X.K=K:=by rfl):PI X tg l (Zjy K tl):=by subst hK;exact Zhd hl
theorem Va{l:Expr}(hl:PE X l tl)(hK:X.K=K:=by rfl):PI X tg l (Zn6 K tl):=by subst hK;exact Zk8 hl
theorem Vo{es:aV}{k:Nat}{t:TGs}(hc:X.calm=true)(h:PGs X es t)(hK:X.K=K:=by rfl)
  (hn:(assignEach es X.env).length=n:=by rfl) (k5:(assignEach es X.env).findIdx? (·.1)=none:=by rfl):PG X (.Tuple es k pos) (Zh5 K n t):=by subst hK;exact Zk9 hc h hn k5
theorem Wd{o:Expr}{es:aV}{to:TE}{t:TA}{id:String}{r:V→List V→Hp→VK→Prop}(pa:PlainAttrs T)(slot:Slot T name id)(eU:typeOf (.builtin id)=pure (.type "method_descriptor"))(hm:MtR X id r)(ho:PE X o to)
  (ha:PA X (e :: es) t) (hK:X.K=K:=by rfl) (Zfk:attributeBase o name X.env (eval o X.env)=eval o X.env:=by rfl)
  (Zl0:((backTo Xs (starEach (e :: es) X.env)).all (λx=>!x.1)&&(backToKw Xs (keywordEach [] X.env)).all (λx=>x.1.isSome)
   && decide ((e :: es).length+([]:List Keyword).length+(if ([]:List Keyword).isEmpty then 0 else 1)<30))=true:=by rfl)
  (Zfi:(apos.endLine==Xs.line)=true:=by rfl) (hs:starEach (e :: es) X.env=(false,eval e X.env) :: starEach es X.env:=by rfl) (C6:(backTo Xs (starEach es X.env)).any (·.1)=false:=by rfl) :
  PE X (.Call (.Attribute o name apos) (e :: es) [] Xs) (tBM K T r to t):=by subst hK;exact Znw pa slot eU hm ho ha Zfk Zl0 Zfi hs C6
end
theorem Zda(lo hi:ZG)(n:Nat):Builtin.Str.strSliceIndices lo hi 1 n=(List.range (HT.sIx n n hi-HT.sIx n 0 lo)).map (HT.sIx n 0 lo + ·):=by
 obtain⟨h1,h2,h3⟩:=Pz lo hi n
 have e:Builtin.Str.strSliceIndices lo hi 1 n=sliceRange (sliceBounds lo hi none n).1 (sliceBounds lo hi none n).2.1 (sliceBounds lo hi none n).2.2:=by
  cases lo<;>cases hi<;>rfl
 rw[e,h1,h2,h3,sliceRange_one]
theorem slice_list(z:Str)(lo hi:ZG):(Txt.slice z lo hi).cps.toList=(z.cps.toList.drop (HT.sIx z.length 0 lo)).take (HT.sIx z.length z.length hi-HT.sIx z.length 0 lo):=by
 unfold Txt.slice;rw[Zda]
 by_cases hc:((1:Int)==1&&((List.range (HT.sIx z.length z.length hi-HT.sIx z.length 0 lo)).map (HT.sIx z.length 0 lo + ·)).length==z.length)=true
 ·rw[if_pos hc];simp only[oD,rC,rX,beq_iff_eq,true_and]at hc;have h1:=HT.Cb z.length 0 (oC _) lo;have h2:=HT.Cb z.length z.length (rG _) hi;have hl:z.cps.toList.length=z.length:=by simp[Str.length]
  by_cases h0:z.length=0
  ·have:z.cps.toList=[]:=lF (by lia);rw[this];simp
  ·have e0:HT.sIx z.length 0 lo=0:=by lia
   rw[e0,List.drop_zero,iM (by lia)]
 ·rw[if_neg hc];rw[pick_run]
theorem Y3:bootBuiltins "len"=some (.builtin "len"):=by decide +kernel
theorem Nv:bootBuiltins "sorted"=some (.builtin "sorted"):=by decide +kernel
theorem Ru:bootBuiltins "all"=some (.builtin "all"):=by decide +kernel
theorem Xh:bootBuiltins "isinstance"=some (.builtin "isinstance"):=by decide +kernel
theorem Zmi:bootBuiltins "max"=some (.builtin "max"):=by decide +kernel
theorem Zmh:bootBuiltins "min"=some (.builtin "min"):=by decide +kernel
theorem Sb:bootBuiltins "list"=some (.type "list"):=by decide +kernel
theorem Yt:bootBuiltins "tuple"=some (.type "tuple"):=by decide +kernel
theorem Zgc:bootBuiltins "int"=some (.type "int"):=by decide +kernel
theorem Zar:bootBuiltins "bool"=some (.type "bool"):=by decide +kernel
theorem Sd:bootBuiltins "enumerate"=some (.type "enumerate"):=by decide +kernel
theorem Bn:bootBuiltins "set"=some (.type "set"):=by decide +kernel
theorem Zaq:bootBuiltins "dict"=some (.type "dict"):=by decide +kernel
theorem U9{x:V}{Nt:VK}{Nf:Hp→Prop}(h:te (σ.set i (some x)) H Nt):N6 i x σ H λg8 H4=>Zkd g8 H4 λb H5=>if b=true then te g8 H5 Nt else Nf H5:=by
 show if true=true then te (σ.set i (some x)) H Nt else Nf H
 exact Zhy h
theorem Zd{p:Addr}(h:H p=none)(o:HO):Zm H (upd H p o):=λb u q=>by rw[Zk (Zi q h)];exact q
theorem Xe(h:n≤1000):n≤sizeLine:=oX (Z0 h)
def Kv(sc:Addr)(xs:List V):Prop:=∃a b c d:Int,xs=[.ref sc,.int a,.int b,.int c,.int d]∧0≤a∧0≤b∧0≤c∧c<2147483647∧0≤d
structure Yw(H:Hp)(p sc:Addr):Prop where
 here:∃xs,H p=some (.lst xs)∧Kv sc xs
 cells:∃ns:List Int,H sc=some (.lst (ns.map V.int))
theorem Yw.ne{p sc:Addr}(F:Yw H p sc):sc≠p:=by
 obtain⟨xs,h1,a,b,c,d,e,_⟩:=F.here;obtain⟨ns,h2⟩:=F.cells;refine Xr h2 h1 λz=>?_;have z':ns.map V.int=xs:=by injection z
 rw[e]at z'
 cases ns with
 |nil=>cases z'
 |cons n r=>
  rw[rW]at z'
  injection z' with z1
  cases z1
theorem Yw.go{p sc:Addr}(F:Yw H p sc)(h:Kv sc xs):Yw (upd H p (.lst xs)) p sc:=by
 obtain⟨ns,h2⟩:=F.cells;exact⟨⟨xs,Zc,h⟩,ns,by rw[Zk F.ne];exact h2⟩
def Xt(H H':Hp)(p:Addr):Prop:=∀b o,H b=some o→b≠p→H' b=some o
theorem Yw.same{p sc:Addr}(F:Yw H p sc)(e:Zm H H'):Yw H' p sc:=by
 obtain⟨xs,h1,h2⟩:=F.here;obtain⟨ns,h3⟩:=F.cells;exact⟨⟨xs,e _ _ h1,h2⟩,ns,e _ _ h3⟩
theorem Xt.trans{p:Addr}(a:Xt H H1 p)(b:Xt H1 H2 p):Xt H H2 p:=λc o h n=>b c o (a c o h n) n
theorem Xt.upd{p:Addr}(o:HO):Xt H (upd H p o) p:=λb u h n=>by rw[Zk n];exact h
theorem Xt.same{p:Addr}(h:Zm H H'):Xt H H' p:=λb o e _=>h b o e
inductive Ae(K:W.Frag)(vs:List V)(H:Hp)(Q:VK):Prop
 |mk(a:Addr)(ns:List Int)(h1:vs=[.ref a])(h2:SqL K H a (ns.map V.int))(h3:∀p sc H',H p=none→Zm H H'→Yw H' p sc→Q (.ref p) H'):Ae K vs H Q
def Zc7(K:W.Frag):Sp:=λvs H Q _=>Ae K vs H Q
inductive B6(vs:List V)(H:Hp)(Q:VK):Prop
 |mk(p sc:Addr)(m:Int)(h1:vs=[.ref p,.int m])(h2:0<m)(h3:m<1073741824)(h4:Yw H p sc)(h5:∀r xs,0≤r→r<m→Kv sc xs→Q (.int r) (upd H p (.lst xs))):B6 vs H Q
def O9:Sp:=λvs H Q _=>B6 vs H Q
def Zcc(z:Str)(n:Nat):Prop:=z.cps.toList.length=n∧z.cps.toList.Pairwise (·<·)∧∀c∈z.cps.toList,97≤c∧c≤122
inductive Lh(vs:List V)(H:Hp)(Q:VK):Prop
 |mk(p sc:Addr)(m:Int)(h1:vs=[.ref p,.int m])(h2:0≤m)(h3:m≤26)(h4:Yw H p sc)(h5:∀z H',Zcc z m.toNat→Xt H H' p→Yw H' p sc→Q (.str z) H'):Lh vs H Q
def J2:Sp:=λvs H Q _=>Lh vs H Q
inductive Dt where
 |non|bl (b:Bool)|int (i:Int)|str (x:Str)|lst (ds:List Dt)|tup (ds:List Dt)
def Dt.dep:Dt→Nat
 |.lst ds=>(ds.map Dt.dep).foldr max 0+1
 |.tup ds=>(ds.map Dt.dep).foldr max 0+1
 |_=>0
inductive Den(H:Hp):V→Dt→Prop where
 |non:Den H .non .non
 |bl (b:Bool):Den H (.bl b) (.bl b)
 |int (i:Int):Den H (.int i) (.int i)
 |str (x:Str):Den H (.str x) (.str x)
 |lst {a:Addr}{xs:List V}{ds:List Dt} (h:H a=some (.lst xs)) (hz:xs.length≤1000000) (hl:xs.length=ds.length) (hd:∀(i:Nat) x d,xs[i]?=some x→ds[i]?=some d→Den H x d):Den H (.ref a) (.lst ds)
 |tup {a:Addr}{xs:List V}{ds:List Dt} (h:H a=some (.tup xs)) (hz:xs.length≤1000000) (hl:xs.length=ds.length) (hd:∀(i:Nat) x d,xs[i]?=some x→ds[i]?=some d→Den H x d):Den H (.ref a) (.tup ds)
theorem Den.same(e:Zm H H'){v:V}{d:Dt}(h:Den H v d):Den H' v d:=by
 induction h with
 |non=>exact .non
 |bl b=>exact .bl b
 |int i=>exact .int i
 |str x=>exact .str x
 |lst h hz hl hd ih=>exact .lst (e _ _ h) hz hl ih
 |tup h hz hl hd ih=>exact .tup (e _ _ h) hz hl ih
theorem Ij{l:List Nat}{x:Nat}(h:x∈l):x≤l.foldr max 0:=by
 induction l with
 |nil=>cases h
 |cons y r ih=>
  rw[List.foldr_cons]
  rcases rT.mp h with e|e
  ·subst e;lia
  ·have:=ih e;lia
theorem Dt.Zia{ds:List Dt}{d:Dt}(h:d∈ds):d.dep<(Dt.lst ds).dep:=by
 have:=Ij (dZ (f:=Dt.dep) h);rw[Dt.dep];lia
theorem Dt.Zh9{ds:List Dt}{d:Dt}(h:d∈ds):d.dep<(Dt.tup ds).dep:=by
 have:=Ij (dZ (f:=Dt.dep) h);rw[Dt.dep];lia
inductive Fo(n:Nat)(vs:List V)(H:Hp)(Q:VK):Prop
 |mk(u v:V)(d:Dt)(h1:vs=[u,v])(h2:d.dep<n)(h3:Den H u d)(h4:Den H v d)(h5:∀H',Zm H H'→Q (.bl true) H'):Fo n vs H Q
def Tf(n:Nat):Sp:=λvs H Q _=>Fo n vs H Q
theorem Nk(K:W.Frag)(t:String)(b1 b2 b:Bool)(h1:W.kitOne K (.type t) (.type "list")=some b1)(h2:W.kitOne K (.type t) (.type "tuple")=some b2)(hb:(b1||b2)=b):W.kitAny K (.type t) [.type "list",.type "tuple"]=some b:=by
 unfold W.kitAny;rw[h1]
 cases b1 with
 |true=>subst hb;rfl
 |false=>
  show W.kitAny K (.type t) [.type "tuple"]=_;unfold W.kitAny;rw[h2];cases b2<;>subst hb<;>rfl
theorem Zht(K:W.Frag):W.kitOne K (.type "NoneType") (.type "list")=some false:=by kernel_rfl
theorem Zhs(K:W.Frag):W.kitOne K (.type "NoneType") (.type "tuple")=some false:=by kernel_rfl
theorem A6(K:W.Frag):W.kitOne K (.type "NoneType") (.type "bool")=some false:=by kernel_rfl
theorem Zhx(K:W.Frag):W.kitOne K (.type "bool") (.type "list")=some false:=by kernel_rfl
theorem Zhw(K:W.Frag):W.kitOne K (.type "bool") (.type "tuple")=some false:=by kernel_rfl
theorem A8(K:W.Frag):W.kitOne K (.type "bool") (.type "bool")=some true:=by kernel_rfl
theorem Zhv(K:W.Frag):W.kitOne K (.type "int") (.type "list")=some false:=by kernel_rfl
theorem Zhu(K:W.Frag):W.kitOne K (.type "int") (.type "tuple")=some false:=by kernel_rfl
theorem A7(K:W.Frag):W.kitOne K (.type "int") (.type "bool")=some false:=by kernel_rfl
theorem Zhr(K:W.Frag):W.kitOne K (.type "str") (.type "list")=some false:=by kernel_rfl
theorem Zhq(K:W.Frag):W.kitOne K (.type "str") (.type "tuple")=some false:=by kernel_rfl
theorem A5(K:W.Frag):W.kitOne K (.type "str") (.type "bool")=some false:=by kernel_rfl
theorem Gi(K:W.Frag):W.kitOne K (.type "list") (.type "list")=some true:=by kernel_rfl
theorem Gh(K:W.Frag):W.kitOne K (.type "list") (.type "tuple")=some false:=by kernel_rfl
theorem Gg(K:W.Frag):W.kitOne K (.type "tuple") (.type "list")=some false:=by kernel_rfl
theorem Gf(K:W.Frag):W.kitOne K (.type "tuple") (.type "tuple")=some true:=by kernel_rfl
section
variable {X:Cx}{tg:Expr}
end
def tTru(K:W.Frag)(ta:TE):TT:=λσ H Q=>ta σ H λx H'=>∃k,Zml K x H' k∧Q k H'
theorem Yn{a:Expr}{ta:TE}(ha:PE X a ta)(he:∀whole,isTrue a X.env whole=(do let v ←whole;standAt a.pos;holding [v] (truthy v)))(hK:X.K=K:=by rfl):PT X a (tTru K ta):=by
 subst hK;exact Zd1 ha he
section
variable {P:Program}{w:World}{A:Around}{E:aC}{s:Shared}
theorem Qz{a:Addr}{es':ZT}{t t':SetTable}{Q:ZS}(ho:s.heap.get? a=some { cls:=.type "set",dict:=none,data:=.set es ep t })(hz:es'.size≤4096)
  (h:∀h',Heap.SameBut a s.heap h'→h'.get? a=some { cls:=.type "set",dict:=none,data:=.set es' (ep+1) t' }→Q () { s with heap:=h' }):wpAny (model P w) A (storeSet a es' t') Q E s:=by
 refine wpAny_storeSet_of ho rfl (h _ (lM _ _ _) ?_) (pQ hz (by rw[sizeLine_eq];lia));have e:=lQ (Obj.putSet es' t') ho (by rw[putSet_of es' t' rfl];rfl);rw[putSet_of es' t' rfl]at e;exact e
def Xa(w:World):Obj:={ cls:=.type "set",dict:=none,data:=.set #[] 0 (.fresh 0 0 (!w.params.followText "set-order")) }
theorem Zeo(v:Value){Q₁:aC}(h:Q₁ (.ref s.heap.objs.size) { s with heap:=s.heap.push (Xa w) }):codeAny (model P w) A (.call (.builtin "set.__new__") ⟨[.type "set",v],[]⟩) (wants Q₁ E) s:=by
 refine codeAny_of_tree ?_;show wpAny _ A.in1 (do checkBuiltinCall "set.__new__" ⟨[.type "set",v],[]⟩;again (.builtin "set.__new__" ⟨[.type "set",v],[]⟩)) _ _ s;refine rB (bM (PySem.F.newCall_set_1 v) (rF ⟨plainId_quiet PySem.F.plain_set_new _,lO PySem.F.entry_set_new ?_⟩));rw[lA PySem.F.plain_set_new _];unfold Builtin.«set.__new__» Builtin.Frozenset.newClass;have Rk:=PySem.sub_set_self;obtain⟨hp,g,d,tk,os⟩:=s;dsimp only
 wp_walk
 refine wpAny_askSetting (rF ?_);dsimp only;simp only[newObj];exact rB (wpAny_alloc (rF (rF h)))
set_option maxHeartbeats 3200000 in
end
theorem Vl:Slot "set_iterator" "__next__" "set_iterator.__next__":=
 .of (owner:="set_iterator") (n:="__next__") (by rw[typeLookup_type,builtinLookup_eq_fast];kernel_rfl) (by decide +kernel) (by decide +kernel) (by decide +kernel) (by first|exact .inl (by decide +kernel)|exact .inr (by decide +kernel)) (by rw[isSubtype_type];kernel_rfl)
theorem Py:Slot "set_iterator" "__iter__" "set_iterator.__iter__":=
 .of (owner:="set_iterator") (n:="__iter__") (by rw[typeLookup_type,builtinLookup_eq_fast];kernel_rfl) (by decide +kernel) (by decide +kernel) (by decide +kernel) (by first|exact .inl (by decide +kernel)|exact .inr (by decide +kernel)) (by rw[isSubtype_type];kernel_rfl)
theorem Jo:entryFor table "set_iterator.__next__"=some Builtin.«set_iterator.__next__»:=entryFor_of_tree (by kernel_rfl)
theorem G4(a:Value):argsOk "set_iterator.__next__" ⟨[a],[]⟩:=by unfold argsOk;kernel_rfl
theorem G5(a:Value):argsOk "set_iterator.__iter__" ⟨[a],[]⟩:=by unfold argsOk;kernel_rfl
theorem Kk:entryFor table "set.__iter__"=some Builtin.«frozenset.__iter__»:=
 entryFor_alias (id':="frozenset.__iter__") (by kernel_rfl) rfl (by decide +kernel) (by kernel_rfl)
theorem N8{α:Type}:∀(l:List α) (i:Nat) (h:i<l.length),(l[i] :: l.eraseIdx i).Perm l
 |x :: l,0,h=>dN _
 |x :: l,i+1,h=>by
  have:=N8 l i (by simpa using h);exact(List.Perm.swap _ _ _).trans (List.Perm.cons x this)
theorem Aq{α:Type}(next:ZD):∀(fuel k:Nat) (left:List α) (out:Array α),left.length=fuel→(pickOrder.go next fuel k left out).toList.Perm (out.toList++left)
 | 0,k,left,out,h=>by
  rw[lF h,lZ];exact dN _
 |fuel+1,k,left,out,h=>by
  have x5:next k%left.length<left.length:=bY _ (by lia)
  unfold pickOrder.go;rw[rD x5];dsimp only;refine(Aq next fuel (k+1) _ _ (by rw[List.length_eraseIdx,if_pos x5];lia)).trans ?_;rw[Array.toList_push,iH];refine cX _ ?_;exact(N8 _ _ x5)
theorem Za5{α:Type}(next:ZD)(xs:Array α):(pickOrder next xs).toList.Perm xs.toList:=by
 have:=Aq next xs.size 0 xs.toList #[] (by simp)
 rw[show (#[]:Array α).toList=[] from rfl,List.nil_append]at this;exact this
section
variable {P:Program}{w:World}{A:Around}{E:aC}{s:Shared}
def Zde(es:ZT)(ep:Nat)(t:SetTable):Obj:={ cls:=.type "set",dict:=none,data:=.set es ep t }
def itO(f:Value)(i:Nat)(S:Addr)(n ep:Nat):Obj:={ cls:=.type "set_iterator",data:=.fields #[f,.int i 0,.ref S,.int n 0,.int ep 0] }
theorem Ro{a:Addr}{f:Value}{j:Nat}{S:Addr}{n ep:Nat}{Q:ZS}(ho:s.heap.get? a=some (itO f j S n ep))(hi:i<5)
  (h:∀h',Heap.SameBut a s.heap h'→h'.get? a=some { cls:=.type "set_iterator",data:=.fields ((#[f,.int j 0,.ref S,.int n 0,.int ep 0]:Array Value).setIfInBounds i v) }→Q () { s with heap:=h' }) :
  wpAny (model P w) A (setField (.ref a) i v) Q E s:=
 wpAny_setField_rec (cls:=.type "set_iterator") (vs:=#[f,.int j 0,.ref S,.int n 0,.int ep 0]) ho hi λh' e sb=>h h' sb e
theorem Cd{Q:ZK}{Q0:Fin→Shared→Prop}(hh:A.handled=none)(hQ:∀h',(∀b o,s.heap.get? b=some o→h'.get? b=some o)→Q none { s with heap:=h' }):
  wpAny (model P w) A (do raiseNew (←newExc (.type "StopIteration") [])) Q0 (λe s'=>wpAny (model P w) A (do if ←isInstance e (.type "StopIteration") then pure none else throw e) Q E s') s:=by
 refine rB ?_;simp only[newExc,newTuple];refine rB (pX ?_ (by size_fits));refine rB (m:=firstArgMember _ _) (bM (a:=Value.none) (by first|rfl|(simp only[firstArgMember];rfl)) ?_);refine pX ?_ (by size_fits);simp only[raiseNew];refine rB (bQ ?_);rw[hh];refine rB (rF (wpAny_throw ?_));refine rB (wpAny_isInstance (T:="StopIteration") (b:=true) ⟨_,rR _ rfl,rfl⟩ isSubtype_stop ?_);exact rF (hQ _ λb o e=>rE _ (rE _ e))
theorem Mx{Q:Bool→Shared→Prop}(h:Q (w.params.followText "set-order") s):wpAny (model P w) A setsByText Q E s:=by
 unfold setsByText;exact rB (wpAny_askSetting (rF h))
theorem Jx{f:Value}{nx:Nat}{Q:ZK}{E0:aC}(hI:s.heap.get? I=some (itO f i S n ep))
  (hQ:∀h',(∀b,b≠I→h'.get? b=s.heap.get? b)→h'.get? I=some (itO (.int nx 0) (i+1) S n ep)→Q (some v) { s with heap:=h' }) :
  wpAny (model P w) A.in1 (do setField (.ref I) 0 (rawInt nx);setField (.ref I) 1 (rawInt (i+1));ret v) (λfin s'=>∃v,fin=Fin.done (Flow.ret v)∧wpAny (model P w) A (pure (some v)) Q E s') E0 s:=by
 refine rB (Ro hI (by lia) λh1 gU e1=>?_)
 refine rB (Ro (s:={ s with heap:=h1 }) (f:=.int nx 0) e1 (by lia) λh2 gW e2=>?_);exact rF ⟨v,rfl,rF (hQ h2 (λb hb=>(gW.2 b hb).trans (gU.2 b hb)) e2)⟩
theorem Bo(pl:YJ):SetTable.below pl 0=0:=by
 have:∀fuel hi,SetTable.below.go pl 0 fuel 0 hi=0:=λfuel=>by
  induction fuel with
  |zero=>intro hi;rfl
  |succ n ih=>
   intro hi;unfold SetTable.below.go
   split
   ·dsimp only;rw[if_neg (iT _)];exact ih _
   ·rfl
 exact this _ _
theorem Zln{Q:ZS}{t:SetTable}{es:ZT}(h:t.led=true)(q:Q () s):wpAny (model P w) A (if (!t.led && !es.isEmpty)=true then unsupported "set:maker-not-led" else pure ()) Q E s:=by
 rw[h];exact rF q
theorem Jp:entryFor table "set_iterator.__iter__"=some Builtin.«dict_keyiterator.__iter__»:=
 entryFor_alias (id':="dict_keyiterator.__iter__") (by kernel_rfl) rfl (by decide +kernel) (by kernel_rfl)
theorem Zbq{r:Addr}{Q:Bool→Shared→Prop}(hT:s.TypeIs (.ref r) "set")(h:Q false s):wpAny (model P w) A (Builtin.List.listLengthHint (.ref r)) Q E s:=by
 unfold Builtin.List.listLengthHint;refine rB (wpAny_specialOf hT PySem.F.slot_set_len.lookup ?_);generalize mF:("set.__len__" : String)=id0
 wp_delta
 rw[show splitId id0=some ("set","__len__") from by subst mF;decide +kernel];subst mF;refine rB (wpAny_isInstance (T:="set") (b:=true) hT sub_set_self ?_);refine dD (λz=>absurd z (by decide)) (λ_=>dD (λ_=>?_) (λz=>absurd (by decide +kernel) z));exact rB (iS hT (rF h))
end
section
variable {P:Program}{w:World}{A:Around}{E:aC}{s:Shared}
end
def signs(z:Str):List Str:=z.cps.toList.map λc=>⟨#[c]⟩
section
variable {X:Cx}
end
def Zkf(tk tv:TE):TE:=λσ H Q=>∀p,H p=none→He [(tk,tv)] σ (upd H p (.dT [])) λps H2=>∃x y,ps=[(x,y)]∧H2 p=some (.dT [])∧∃b ks,x=.ref b∧H2 b=some (.tup (ks.map kV))∧Q (.ref p) (upd H2 p (.dT [(ks,y)]))
theorem Zed{k v:Expr}{tk tv:TE}(hu:X.A.units+1<cLine)(hk:PE X k tk)(hv:PE X v tv):PE X (.Dict [some k] [v] pos) (Zkf tk tv):=by
 intro pins s σ H Q I q;have hn:=I.hok.fresh (rG s.heap.objs.size);have I1:=I.laid (a:=s.heap.objs.size) (o:=.dT []) (h':=s.heap.push { cls:=.type "dict",data:=.dict #[] }) (t':=s.toks) (λ_ _ q=>rE _ q) (rG _) (E6 s.heap I.big);have Np:([some k]:List (Option Expr)).all (·.isSome)=true:=rfl;have mJ:=pairTrees_length [some k] [v] X.env pos Np rfl;rw[arm_eval_Dict,zip_pairTrees [some k] [v] X.env pos Np rfl,dictDisplay_pairs _ (λhe=>by rw[he]at mJ;cases mJ) (by rw[mJ];show 1<17;decide)];refine rB (dX (rB ?_));unfold subDict;refine rB (wpAny_alloc (rB (oJ ?_)));rw[if_pos (by rw[mJ];show 1≤15;decide)];refine rB (iR (Ea hk hv Ap pins _ σ _ _ I1 (q _ hn)) (λvs s2 h2=>?_) λ_ _ e=>e);obtain⟨ps,H2,I2,rel,x,y,rfl,e,b,ks,rfl,eb,q2⟩:=h2
 cases rel with
 | @cons a c as cs hac tl=>
  cases tl;obtain⟨u,r⟩:=c;cases (show u=Value.ref b from hac.1);refine oJ (rB ?_);rw[List.forIn_cons];obtain⟨z,hd,xs,rl,dd⟩:=Zfx I2.hok e;cases rl;refine rB (rB (wpAny_dictSet_heap (show X.A.units<cLine by lia) (Tr I2.hok eb) dd λh' c6 hs=>rF ?_));refine rF (rF (rF (rF ?_)));obtain⟨qo,es,ep,hq,h2,h3,h4,_,h5⟩:=c6;refine⟨.ref s.heap.objs.size,_,Qa (ob:=.dT [(ks,y)]) I2 (by rw[e];exact True.intro) hs ⟨qo,hq⟩ ⟨by show 1≤sizeLine;decide,hd,_,.cons ⟨rfl,?_,hac.2⟩ .nil,qo,es,ep,hq,h2,h3,h4,h5⟩,rfl,q2⟩;rw[Zk (Xr eb e (λz=>nomatch z))];exact eb
def eqL:List V→List V→Bool
 |[],[]=>true
 |x :: xs,y :: ys=>eqV x y&&eqL xs ys
 |_,_=>false
theorem M0:∀(xs ys:List V),(((List.range (min xs.length ys.length)).all λj=>eqV (xs.getD j .non) (ys.getD j .non))&&xs.length==ys.length)=eqL xs ys
 |[],[]=>rfl
 |[],y :: ys=>by simp[eqL]
 |x :: xs,[]=>by simp[eqL]
 |x :: xs,y :: ys=>by
  have ih:=M0 xs ys;show _=(eqV x y&&eqL xs ys);rw[←ih,pY,pY,Nat.succ_min_succ,List.range_succ_eq_map,cS,List.all_map]
  have e1:((λj=>eqV ((x :: xs).getD j .non) ((y :: ys).getD j .non)) ∘ Nat.succ)=λj=>eqV (xs.getD j .non) (ys.getD j .non):=by
   funext j
   rfl
  rw[e1,Bool.and_assoc]
  have e2:(xs.length+1==ys.length+1)=(xs.length==ys.length):=by
   rw[lS,beq_iff_eq,beq_iff_eq];lia
  rw[e2];rfl
theorem Vals.at_:∀{xs:List V}{us:aJ}{j:Nat}{u:Value},Vals xs us→us[j]?=some u→∃x,xs[j]?=some x∧RelV x u
 |_,_,j,u,.nil,h=>by simp at h
 |_,_,0,u,.cons r t,h=>by
  cases h;exact⟨_,rfl,r⟩
 |_,_,j+1,u,.cons r t,h=>by
  obtain⟨x,e,r'⟩:=Vals.at_ (j:=j) t (by simpa using h);exact⟨x,by simpa using e,r'⟩
theorem Ls{ws:aJ}(r1:Vals xs us)(r2:Vals ys ws)(f1:xs.all Ug=true)(f2:ys.all Ug=true)(j:Nat)(h1:j<us.toArray.size)(h2:j<ws.toArray.size):
  SeqAt.EqAt A s us.toArray[j] ws.toArray[j] (eqV (xs.getD j .non) (ys.getD j .non)):=by
 have g1:us[j]?=some us.toArray[j]:=by simp at h1 ⊢
 have g2:ws[j]?=some ws.toArray[j]:=by simp at h2 ⊢
 obtain⟨x,e1,q1⟩:=r1.at_ g1;obtain⟨y,e2,q2⟩:=r2.at_ g2;rw[rK,e1,rK,e2];exact Zfu q1 q2 (iE.mp f1 x (rN e1)) (iE.mp f2 y (rN e2))
inductive Zjn(K:W.Frag)(neg:Bool)(x:V)(y:V)(H:Hp)(Q:VK):Prop
 |mk(a b xs ys:_)(h1:x=.ref a)(h2:y=.ref b)(h3:((SqL K H a xs∧SqL K H b ys)∨(SqT K H a xs∧SqT K H b ys)))(h4:xs.all Ug=true)(h5:ys.all Ug=true)(h6:Q (.bl (if neg then !eqL xs ys else eqL xs ys)) H):Zjn K neg x y H Q
def rEqS(K:W.Frag)(neg:Bool):R2:=λx y H Q=>Zjn K neg x y H Q
section
variable {X:Cx}{K:W.Frag}
theorem size_of(r:Vals xs us):us.toArray.size=xs.length:=by
 rw[rQ];exact r.length.symm
theorem Gv(h:xs.length≠ys.length):eqL xs ys=false:=by
 rw[←M0,(beq_eq_false_iff_ne).mpr h,Bool.and_false]
theorem E5(h:xs.length=ys.length):((List.range xs.length).all λj=>eqV (xs.getD j .non) (ys.getD j .non))=eqL xs ys:=by
 rw[←M0,h,Nat.min_self,beq_self_eq_true,Bool.and_true]
theorem Zlf(hu:X.A.units<cLine)(hK:X.K=K:=by rfl):OpR X (compareOp .Eq) (rEqS K false):=by
 subst hK;intro pins s σ H x y v u Q I rx ry h;obtain⟨a,b,xs,ys,rfl,rfl,hq,f1,f2,q⟩:=h;cases rx;cases ry
 rcases hq with ⟨ha,hb⟩|⟨ha,hb⟩
 ·obtain⟨i1,r1,p1,_⟩:=I.list ha;obtain⟨i2,r2,p2,_⟩:=I.list hb
  by_cases hl:xs.length=ys.length
  ·refine SeqAt.eq_listAt p1.isList p2.isList (by rw[size_of r1,size_of r2,hl]) hu (λj h1 h2=>Ls r1 r2 f1 f2 j h1 h2) ⟨.bl _,H,I,rfl,?_⟩;rw[size_of r1,E5 hl];exact q
  ·refine SeqAt.eq_list_lengthsAt p1.isList p2.isList (by rw[size_of r1,size_of r2];exact bne_iff_ne.mpr hl) hu ⟨.bl false,H,I,rfl,?_⟩;rw[←Gv hl];exact q
 ·obtain⟨i1,r1,p1,_⟩:=I.tuple ha;obtain⟨i2,r2,p2,_⟩:=I.tuple hb;refine SeqAt.eq_tupleAt p1 p2 hu (λj h1 h2=>Ls r1 r2 f1 f2 j h1 h2) ⟨.bl _,H,I,rfl,?_⟩;rw[size_of r1,size_of r2,M0];exact q
theorem Zoa{k:Nat}(hr:Wu k A):A.units<cLine:=Nat.lt_of_succ_lt (Wv hr)
end
section
variable {X:Cx}
end
def jl(c:Nat):List aE→List Nat
 |[]=>[]
 |[x]=>x
 |x :: y :: r=>x++c :: jl c (y :: r)
section
variable {X:Cx}{K:W.Frag}
end
section
open PySem.SeqAt
open PySem.AutoSeq1 (wpAny_loadPart')
open PySem.MeetsSeq PySem.MeetsSeq2 PySem.MeetsSeq3
end
section
variable {X:Cx}{K:W.Frag}
end
section
open PySem.W (KasT kas_asc kas_count kas_cmp kas_st kas_item)
end
section
variable {prog:Program}{w:World}{A:Around}{E:aC}{s:Shared}
end
abbrev lo(ks:aJ)(e:Nat):Obj:={ cls:=.type "list",data:=.seq ks.toArray e }
section
variable {X:Cx}{pins:aD}{σ:St}{H:Hp}{s:Shared}
end
section
variable {X:Cx}{pins:aD}{σ:St}{H:Hp}{s:Shared}{x:Str}{k:Nat}{ps:List Str}{sp:Sp}{ok:V→Prop}{kf:V→List V}
end
section
open PySem.W (KasT kas_asc kas_desc kas_tail3 kas_descPart kas_count kas_place kas_bin kas_sort kas_rev)
variable {n:Nat}{lt:ZR}{p:YJ}
end
section
open PySem.W (kas_count kas_ask kas_item kas_st kas_asc)
end
section
variable {X:Cx}{pins:aD}{σ:St}{H:Hp}{s:Shared}{x:Str}{k:Nat}{ps:List Str}{sp:Sp}
end
section
variable {P:Program}{w:World}{A:Around}{E:aC}{s:Shared}
end
section
variable {X:Cx}{pins:aD}{σ:St}{H:Hp}{s:Shared}{x:Str}{k:Nat}{ps:List Str}{sp:Sp}
end
section
variable {prog:Program}{w:World}{A:Around}{E:aC}{s:Shared}{K:W.Frag}{C:Addr}
end
section
variable {prog:Program}{w:World}{A:Around}{E:aC}{s:Shared}{K:W.Frag}{x C:Addr}{ox:Obj}{od:Option Obj}{name:Str}
end
section
variable {X:Cx}{pins:aD}{σ:St}{H:Hp}{s:Shared}{a C:Addr}{fs:List (Str×V)}{A:Around}{E:aC}
end
theorem X8:entryFor table "dict.update.loop"=some Builtin.«dict.update.loop»:=entryFor_of_tree (by kernel_rfl)
theorem Yl:plainId "dict.update.loop"=true:=by decide +kernel
theorem Gd:typeLookup (.type "list") "keys"=pure none:=by rw[typeLookup_type,builtinLookup_eq_fast];kernel_rfl
section
variable {P:Program}{w:World}{A:Around}{E:aC}{s:Shared}
theorem J8{a:Addr}{xs:aO}{k:Nat}{Q:ZK}(hx:s.heap.get? a=some o)(hc:o.cls=.type "list")(Zbt:o.data=.seq xs k)(hd:o.dict=none)(hA:A.handled=none)
  (h:∀h' tk,(∀b u,s.heap.get? b=some u→h'.get? b=some u)→Q none { s with heap:=h',toks:=tk }):wpAny (model P w) A (getAttr? (.ref a) "keys") Q E s:=by
 obtain⟨c,dct,dat,sl⟩:=o;simp only at hc Zbt hd;subst hc Zbt hd;obtain⟨hp,g,d,tk,os⟩:=s;have hT:∀sL,(⟨hp,g,d,sL,os⟩:Shared).TypeIs (.ref a) "list":=λ_=>⟨_,hx,rfl⟩;have f1:=sub_AttributeError;have f3:=cI.lookup;have f4:=cI.bind (.ref a);have f5:=am_list_getattr_none;have Zod:=Gd;unfold getAttr? getAttrBy? getAttrBy
 repeat (any_goals (first|assumption|exact hT _|((with_reducible show wpAny _ _ (call (Value.builtin "list.__getattribute__") _ _) _ _ _);refine call_meets cI (hT _) am_entry_list_getattribute (F.args_list_getattribute_2 _ _) (meets_getattribute_miss_list a xs k sl "keys" _ Zod (by decide) (by size_fits)) ⟨hx,hA,λh' sL e l4=>?_⟩)|wp_step))
 obtain⟨t',u',he⟩:=l4.there;have kp:=l4.keeps;have hTe:∀nS,(⟨h',g,d,nS,os⟩:Shared).TypeIs (.ref e) "AttributeError":=λ_=>⟨_,he,rfl⟩;show wpAny _ _ (getattributeRaised _ _ _ _ _ _ _) _ _ _;unfold getattributeRaised
 repeat (any_goals (first|assumption|exact hTe _|wp_step))
 all_goals exact h _ _ kp
theorem Mw{κ:Type} [DecidableEq κ] {knd:PySem.KeyKind P w κ}{h h':Heap}{a:Addr}{kvs:List (κ×Value)} (x:h.DictOf knd a kvs) (hk:∀o,h.get? a=some o→h'.get? a=some o):h'.DictOf knd a kvs:=
 let ⟨o,es,ep,e,r⟩:=x;⟨o,es,ep,hk _ e,r⟩
def Bu{κ:Type} [DecidableEq κ] (knd:PySem.KeyKind P w κ) (h:Heap) (away:Addr→Prop) (rs:List (κ×Value)) (i:Nat) (v:Value):Prop:=
 ∃(a:Addr) (o:Obj) (key y:Value) (kk:κ) (c:Nat),v=.ref a∧away a∧h.get? a=some o∧o.cls=.type "tuple"∧o.data=.seq #[key,y] c∧rs[i]?=some (kk,y)∧knd.is kk key=true
theorem Zbx{κ:Type} [DecidableEq κ] {knd:PySem.KeyKind P w κ}{Pv:Nat→Value→Prop}{St:Nat→Heap→Prop}
  (W:Walks P w A.in1 I fp wr n Pv St) (i7:d∉fp) (rs:List (κ×Value)) (hn:rs.length=n) (hz:n≤sizeLine) :
  ∀(k i:Nat) (j:Int) (s:Shared),n-i=k→i≤n→St i s.heap→s.heap.DictOf knd d (merged [] (rs.take i))→
   (∀i v,Pv i v→Bu knd s.heap (λa=>a∉wr∧a≠d) rs i v)→
   (∀h' tk,(∀b o,b≠d→b∉wr→s.heap.get? b=some o→h'.get? b=some o)→h'.DictOf knd d (merged [] rs)→R (.ok (.ret .none)) { s with heap:=h',toks:=tk })→
   codeAny (model P w) A (.builtin "dict.update.loop" ⟨[.ref d,.ref I,rawInt j,.none],[]⟩) R s:=by
 have kX:d∉wr:=λh=>i7 (W.sub _ h);intro k
 induction k with
 |zero=>
  intro i j s hk hi k5 hD hP hR;have x9:i=n:=by lia
  subst x9;refine lO X8 ?_;rw[lA Yl _];show wpAny _ A.in1 (pyNext (.ref I) >>= _) _ _ s;refine rB (W.done s _ _ k5 λh' tk kp=>?_);show wpAny _ A.in1 (Builtin.Dict.addKeywords d [] >>= λ_=>ret Value.none) _ _ _;refine rB (rF (rF (hR h' tk (λb o _ hb e=>kp b o hb e) ?_)));rw[←hn,pZ]at hD;exact Mw hD λo e=>kp d o kX e
 |succ k ih=>
  intro i j s hk hi k5 hD hP hR;have x5:i<n:=by lia
  refine lO X8 ?_;rw[lA Yl _];show wpAny _ A.in1 (pyNext (.ref I) >>= _) _ _ s;refine rB (W.item i s _ _ x5 k5 λv h1 tk zG Zlx u8=>?_);obtain⟨a,o,key,y,kk,c,rfl,aw,ho,eQ,yJ,j0,Nn⟩:=hP i v zG;have gD:=u8 a o aw.1 ho;have hT:(Shared.mk h1 s.gens s.drawn tk s.os).TypeIs (.ref a) "tuple":=⟨_,gD,eQ⟩;have zA:h1.DictOf knd d (merged [] (rs.take i)):=Mw hD λo e=>u8 d o kX e;refine rB (oJ (rB (wpAny_tryCatch ?_)));unfold Builtin.Dict.pairItems;refine rB (iS hT ?_);rw[if_pos (by decide)];refine rB (bL gD yJ (rF ?_))
  have jI:(merged [] (rs.take i)).length≤sizeLine:=by
   have:=merged_length_le ([]:List (κ×Value)) (rs.take i);rw[pR]at this;simp only[fK]at this;lia
  refine oJ (wpAny_dictSet_pairs (hsz:=jI) Nn zA λh2 sV eT=>?_);have zB:h2.DictOf knd d (merged [] (rs.take (i+1))):=by rw[merged_take_succ _ _ _ _ j0];exact sV
  refine rF ⟨plainId_quiet Yl _,ih (i+1) (j+1) _ (by lia) x5 (W.frame _ _ _ Zlx λb hb o e=>?_) zB (λi' v' zF=>?_) λh3 nU qT zC=>?_⟩
  ·exact(eT.2 b (λz:b=d=>i7 (z▸hb))).trans e
  ·obtain⟨a',o',Zlt,y',yT,c',e1,sO,m9,r'⟩:=hP i' v' zF;exact⟨a',o',Zlt,y',yT,c',e1,sO,(eT.2 a' sO.2).trans (u8 a' o' sO.1 m9),r'⟩
  ·exact hR h3 nU (λb o hb hw e=>qT b o hb hw ((eT.2 b hb).trans (u8 b o hw e))) zC
theorem Mo{κ:Type} [DecidableEq κ] {knd:PySem.KeyKind P w κ}{l:Addr}{c:Nat}{rs:List (κ×Value)} (hh:A.handled=none) (ho:s.heap.get? l=some o) (hc:o.cls=.type "list") (yB:o.dict=none) (hd:o.data=.seq items c)
  (hn:rs.length=items.size) (hz:items.size≤sizeLine) (hP:∀i v,items[i]?=some v→Bu knd s.heap (λ_=>True) rs i v)
  (h:∀h' tk,(∀b u,s.heap.get? b=some u→h'.get? b=some u)→h'.DictOf knd s.heap.objs.size (merged [] rs)→Q (.ref s.heap.objs.size) { s with heap:=h',toks:=tk }):wpAny (model P w) A (call (.type "dict") [.ref l]) Q E s:=by
 refine callType_codes (Q₁:=λobj x3=>obj=.ref s.heap.objs.size∧x3 = { s with heap:=s.heap.push { cls:=.type "dict",data:=.dict #[] } }) F.kt_called_dict (F.kt_typeCall_dict_1 _) F.entry_dict_init (kt_code_dict_new _ ⟨rfl,rfl⟩) ?_;rintro obj x3 ⟨rfl,rfl⟩;have Pd:(s.heap.push { cls:=.type "dict",data:=.dict #[] }).DictOf knd s.heap.objs.size []:=Heap.DictOf.new s.heap;have m9:=rE { cls:=.type "dict",data:=.dict #[] } ho;have hT:(Shared.mk (s.heap.push { cls:=.type "dict",data:=.dict #[] }) s.gens s.drawn s.toks s.os).TypeIs (.ref l) "list":=⟨_,m9,hc⟩;refine⟨Pd.typeIs,F.args_dict_init_2 _ _,?_⟩;unfold Builtin.«dict.__init__»;refine rB ?_;unfold Builtin.Dict.selfAndRest;refine rB (dO Pd.typeIs ?_);show wpAny _ _ (pure (s.heap.objs.size,[Value.ref l])) _ _ _;refine rF ?_;show wpAny _ _ (Builtin.Dict.updateFrom "dict.__init__" s.heap.objs.size (.ref l) [] .none) _ _ _;unfold Builtin.Dict.updateFrom;refine rB (iS hT ?_);rw[if_pos (by decide)];refine rB (J8 m9 hc hd yB hh λh1 vO u8=>?_);rw[if_pos (show (none:YM).isNone=true from rfl)];refine rB (dA ?_);have ll:=rO ho;have z8:h1.IsList l items:=⟨o,u8 _ _ m9,hc,c,hd⟩;have E1:h1.DictOf knd s.heap.objs.size []:=Mw Pd λo e=>u8 _ o e;have o5:s.heap.objs.size<h1.objs.size:=let ⟨_,_,_,e,_⟩:=E1;rO e
 refine rB (dH z8 ?_);refine rF ⟨plainId_quiet Yl _,?_⟩;have W:=Walks.list (prog:=P) (w:=w) (A:=A.in1.in1) hh h1.objs.size l (rV (dM ll o5)) items;refine Zbx (A:=A.in1) (knd:=knd) W (d:=s.heap.objs.size) ?_ rs hn hz items.size 0 0 _ rfl (oC _) ⟨?_,?_⟩ ?_ (λi v hv=>?_) λh2 nT qS sV=>⟨rfl,?_⟩
 ·intro hm
  rcases rT.mp hm with e|hm
  ·exact absurd e (rV o5)
  ·rcases rT.mp hm with e|hm
   ·exact absurd e (fE ll)
   ·cases hm
 ·exact⟨_,rR _ rfl,rfl,rfl⟩
 ·exact⟨o,rE _ (u8 _ _ m9),hc,c,hd⟩
 ·exact Mw E1 λo e=>rE _ e
 ·obtain⟨a,o2,key,y,kk,c2,e1,_,o9,r⟩:=hP i v hv;have l2:=rO o9;refine⟨a,o2,key,y,kk,c2,e1,⟨λhm=>?_,rV l2⟩,rE _ (u8 _ _ (rE _ o9)),r⟩;rw[rL.mp hm]at l2;exact absurd l2 (bC.mpr (oX o5))
 ·refine h h2 nT (λb u e=>?_) sV;have lb:=rO e;exact qS b u (rV lb) (λhm=>by rw[rL.mp hm]at lb;exact absurd lb (bC.mpr (oX o5))) (rE _ (u8 _ _ (rE _ e)))
end
section
variable {X:Cx}
inductive An(xs:List V)(H:Hp)(Q:VK):Prop
 |mk(p:Addr)(its:List V)(kvs:List (Key×V))(h1:xs=[.ref p])(h2:H p=some (.lst its))(h3:its.length=kvs.length)(h4:(∀(i:Nat) x kv,its[i]?=some x→kvs[i]?=some kv→∃a,x=.ref a∧H a=some (.tup [kV kv.1,kv.2])))(h5:∀l,H l=none→Q (.ref l) (upd H l (.dK (Vk [] kvs)))):An xs H Q
def Zk5:List V→Hp→VK→Prop:=λxs H Q=>An xs H Q
theorem Zho(I:Inv X pins σ H s):∀{its:List V}{us:aJ}{kvs:List (Key×V)},Vals its us→its.length=kvs.length→(∀(i:Nat) x kv,its[i]?=some x→kvs[i]?=some kv→∃a,x=.ref a∧H a=some (.tup [kV kv.1,kv.2]))→
  ∃rs:List (Key×Value),KV kvs rs∧∀i v,us[i]?=some v→Bu (Z7 X.prog X.w) s.heap (λ_=>True) rs i v:=by
 intro its us kvs r
 induction r generalizing kvs with
 |nil=>
  intro hl _;obtain rfl:kvs=[]:=lF hl.symm;exact⟨[],.nil,λi v e=>by simp at e⟩
 | @cons x u its us rx r ih=>
  intro hl hP
  cases kvs with
  |nil=>cases hl
  |cons kv kvs=>
   obtain⟨rs,rk,j0⟩:=ih (Nat.succ.inj hl) λi x qU e1 e2=>hP (i+1) x qU (by simpa using e1) (by simpa using e2);obtain⟨a,rfl,ha⟩:=hP 0 x kv rfl rfl;obtain rfl:u=Value.ref a:=rx;obtain⟨vs,rv,⟨o,e,oc,n,od⟩,_⟩:=I.tuple (SqT.of ha)
   cases rv with
   |cons r1 rv=>
    cases rv with
    |cons r2 rv=>
     cases rv
     rename_i u1 u2
     refine⟨(kv.1,u2) :: rs,.cons ⟨rfl,r2⟩ rk,λi v hv=>?_⟩
     cases i with
     |zero=>
      cases hv;exact⟨a,_,u1,u2,kv.1,n,rfl,trivial,e,oc,od,rfl,N5 r1⟩
     |succ i=>
      obtain⟨a',o',Zlt,y',yT,c',q⟩:=j0 i v (by simpa using hv);exact⟨a',o',Zlt,y',yT,c',by simpa using q⟩
theorem Bm(hc:X.calm=true):Y4 X (.type "dict") Zk5:=by
 intro pins s σ H xs us Q I r h;obtain⟨p,its,kvs,rfl,e,hl,hP,q⟩:=h;obtain⟨u,rfl,ru⟩:=Vals.one r;obtain rfl:u=Value.ref p:=ru;obtain⟨vs,rv,pl,hz⟩:=I.list (SqL.of e);obtain⟨rs,rk,j0⟩:=Zho I rv hl hP;obtain⟨o,n,ho,eQ,yJ,eE⟩:=pl;have hvl:=rv.length;have t6:kvs.length=rs.length:=iY rk;refine Mo (knd:=Z7 X.prog X.w) (rs:=rs) (I.ok.hd hc) ho eQ yJ eE (by rw[rQ];lia) (by rw[rQ];lia) (λi v hv=>j0 i v (by simpa using hv)) λh' tk kp dd=>?_
 have hm:(Vk [] kvs).length≤sizeLine:=by
  have:=Uq kvs [];simp only[fK]at this;lia
 exact⟨.ref s.heap.objs.size,_,I.laid (t':=tk) kp (rG _) (Bd hm (beq_eq_false_iff_ne.mpr (fE I.big)) (rk.merge .nil) dd),rfl,q _ I.fresh⟩
end
section
variable {P:Program}{w:World}{A:Around}{E:aC}{s:Shared}{d:Addr}{vs:aJ}{ep:Nat}
end
section
variable {X:Cx}{pins:aD}{σ:St}{H:Hp}{s:Shared}{x:Str}{k:Nat}{ps:List Str}{sp:Sp}
end
section
open PySem.W (KasT kas_asc kas_desc kas_tail3 kas_descPart kas_count kas_place kas_bin kas_sort kas_rev)
variable {n:Nat}{key:ZD}{p:YJ}
end
section
open PySem.W (kas_sort kas_ask kas_item)
variable {X:Cx}{pins:aD}{σ:St}{H:Hp}{s:Shared}
end
section
variable {P:Program}{w:World}{A:Around}{E:aC}{s:Shared}
theorem sub_list_set:isSubtype (.type "list") (.type "set")=pure false:=by rw[isSubtype_type];kernel_rfl
theorem sub_list_frozenset:isSubtype (.type "list") (.type "frozenset")=pure false:=by rw[isSubtype_type];kernel_rfl
set_option maxHeartbeats 3200000 in
end
section
variable {X:Cx}
end
section
variable {P:Program}{w:World}{A:Around}{E:aC}{s:Shared}{t r:Addr}{items:aO}
end
section
variable {X:Cx}
inductive Zjd(K:W.Frag)(x:V)(lo:ZG)(hi:ZG)(H:Hp)(Q:VK):Prop
 |mk(a xs:_)(h1:x=.ref a)(h2:SqT K H a xs)(h3:(HT.sIx xs.length 0 lo=0∧HT.sIx xs.length xs.length hi=xs.length))(h4:Q (.ref a) H):Zjd K x lo hi H Q
def rSlW(K:W.Frag):V→Option Int→Option Int→Hp→VK→Prop:=λx lo hi H Q=>Zjd K x lo hi H Q
theorem Zgw(hK:X.K=K:=by rfl):SlR X (rSlW K):=by
 subst hK;intro pins s σ H x v vl vu lo hi sl Q I rx hs pl pu h;obtain⟨a,xs,rfl,hx,hw,q⟩:=h;cases rx;obtain⟨its,r,ht,hz⟩:=I.tuple hx;have hlen:its.toArray.size=xs.length:=by rw[rQ];exact r.length.symm
 refine⟨"tuple",_,lN.lookup,ht.typeIs,?_⟩;obtain⟨os,eE,b8,kW⟩:=id hs;have zN:s.TypeIs (.ref sl) "slice":=⟨os,eE,b8⟩;unfold getItem
 try with_reducible refine oJ ?_
 first|refine rB (rF ?_)|skip
 refine rB (wpAny_sequenceKey ht.typeIs (by decide) (rB (lE (name:=Str.ofString "__getitem__") ht.typeIs lN (lD lN ht.typeIs entry_tuple_getitem ?_ (args_tuple_getitem _ _)))));refine(show wpAny _ _ (Builtin.Tuple.tupleItemsOf (.ref a) >>= _) _ _ s from rB (tupleItemsOf_ ht (rB (iS zN ?_))));rw[if_pos (by decide)];refine rB (HT.Uy hs pl pu ?_)
 have yes:(((HT.sIx its.toArray.size 0 lo:Nat):Int)==0&&(1:Int)==1&&(HT.sIx its.toArray.size its.toArray.size hi-HT.sIx its.toArray.size 0 lo)==its.toArray.size)=true:=by
  rw[hlen,hw.1,hw.2];simp
 show wpAny _ _ (if (((HT.sIx its.toArray.size 0 lo:Nat):Int)==0&&(1:Int)==1&&(HT.sIx its.toArray.size its.toArray.size hi-HT.sIx its.toArray.size 0 lo)==its.toArray.size)=true then _ else _) _ _ s;rw[if_pos yes];unfold Builtin.Tuple.tupleIsExact;refine rB (rB (iS ht.typeIs (rF ?_)));rw[if_pos (by decide)];exact rB (dA (rF ⟨_,rfl,rF ⟨.ref a,H,I,rfl,q⟩⟩))
inductive Zjh(x:V)(lo:ZG)(hi:ZG)(H:Hp)(Q:VK):Prop
 |mk(a xs:_)(h1:x=.ref a)(h2:H a=some (.tup xs))(h3:∀g H',Zm H H'→H' g=some (.tup (Tx xs lo hi))→Q (.ref g) H'):Zjh x lo hi H Q
def rSlG(K:W.Frag):V→Option Int→Option Int→Hp→VK→Prop:=λx lo hi H Q=>Zjh x lo hi H Q
theorem Ag(hK:X.K=K:=by rfl):SlR X (rSlG K):=by
 intro pins s σ H x v vl vu lo hi sl Q I rx hs pl pu h;obtain⟨a,xs,e,hx,q⟩:=h
 by_cases z:HT.sIx xs.length 0 lo=0∧HT.sIx xs.length xs.length hi=xs.length
 ·refine Zgw hK pins s σ H x v vl vu lo hi sl Q I rx hs pl pu ⟨a,xs,e,SqT.of hx,z,q a H (Zm.refl _) ?_⟩
  have:Tx xs lo hi=xs:=by
   unfold Tx;rw[z.1,z.2,List.drop_zero,Nat.sub_zero,pZ]
  rw[this];exact hx
 ·exact Hn hK pins s σ H x v vl vu lo hi sl Q I rx hs pl pu ⟨a,xs,e,SqT.of hx,z,λp hp=>q p _ (Zd hp _) Zc⟩
end
section
variable {X:Cx}{tg:Expr}
end
def FnO(f:Addr)(fd:FuncData):HO:=.ext λh=>h.get? f=some { cls:=.type "function",data:=.func fd }
def CdO(c:Addr)(q:Str):HO:=.ext λh=>h.CodeRec (.ref c) q
section
variable {P:Program}{w:World}{H:Hp}{h h':Heap}{f c a:Addr}{fd:FuncData}{q:Str}
theorem C9(e:h.get? f=some { cls:=.type "function",data:=.func fd }):Z8 P w H h f (FnO f fd):=⟨e,⟨_,e⟩,λ_ _ a k=>k _ a⟩
theorem Zme(e:h.CodeRec (.ref c) q):Z8 P w H h c (CdO c q):=by
 have e':=e;obtain⟨c2,o,vs,t,e1,e2,e3,e4⟩:=e';cases e1;refine⟨e,⟨o,e2⟩,λh1 h2 a k=>?_⟩;obtain⟨c3,o3,vs3,t3,f1,f2,f3,f4⟩:=a;cases f1;exact⟨_,o3,vs3,t3,rfl,k _ f2,f3,f4⟩
theorem FnO.at_(ok:HOk P w H h)(e:H f=some (FnO f fd)):h.get? f=some { cls:=.type "function",data:=.func fd }:=(ok f _ e).1
theorem CdO.at_(ok:HOk P w H h)(e:H c=some (CdO c q)):h.CodeRec (.ref c) q:=(ok c _ e).1
end
theorem Zb8{r:aJ}(l:aJ)(h:TriplesOk l):codeAmong p (l++r)=match codeAmong p l with|some c=>some c|none=>codeAmong p r:=by
 fun_induction TriplesOk l with
 |case1=>rfl
 |case2 a t b u x rest ih=>
  simp only[List.cons_append,codeAmong]
  split
  ·rfl
  ·exact ih h
 |case3 l h1 h2=>exact h.elim
def V8(P:Addr)(H H':Hp):Prop:=∀b o,b≠P→H b=some o→H' b=some o
theorem V8.trans{P:Addr}(a:V8 P H H1)(b:V8 P H1 H2):V8 P H H2:=λc o n h=>b c o n (a c o n h)
theorem Zm.t{P:Addr}(a:Zm H H1):V8 P H H1:=λc o _ h=>a c o h
def Tb(P:Addr)(L:List aK)(H:Hp):Prop:=
 ∃ps,H P=some (.tbl ps)∧TriplesOk ps.toList∧∀x∈L,codeAmong x.1 ps.toList=none∨∃c,codeAmong x.1 ps.toList=some (.ref c)∧H c=some (CdO c x.2)
theorem Tb.same{P:Addr}{L:List aK}(t:Tb P L H)(e:Zm H H'):Tb P L H':=by
 obtain⟨ps,h1,h2,h3⟩:=t;refine⟨ps,e _ _ h1,h2,λx hx=>?_⟩
 rcases h3 x hx with h|⟨c,a,b⟩
 ·exact .inl h
 ·exact .inr ⟨c,a,e _ _ b⟩
theorem Tb.start{P:Addr}{L:List aK}(h:H P=some (.tbl #[])):Tb P L H:=⟨#[],h,True.intro,λ_ _=>.inl rfl⟩
section
variable {fs ex:ZQ}{H:Hp}{h h':Heap}{P c f:Addr}{o1 o2:HO}{ps more:aO}
def made(H:Hp)(P c f:Addr)(ps:aO)(o1 o2:HO):Hp:=upd (upd (upd H P (.tbl ps)) c o1) f o2
theorem Vq(h1:b≠P)(h2:b≠c)(h3:b≠f):made H P c f ps o1 o2 b=H b:=by
 unfold made;rw[Zk h3,Zk h2,Zk h1]
theorem Zeu:made H P c f ps o1 o2 f=some o2:=Zc
theorem Ct(n:c≠f):made H P c f ps o1 o2 c=some o1:=by
 unfold made;rw[Zk n,Zc]
theorem Cu(n1:P≠c)(n2:P≠f):made H P c f ps o1 o2 P=some (.tbl ps):=by
 unfold made;rw[Zk n2,Zk n1,Zc]
theorem Un.made(e:H P=some (.tbl ps))(k:∀b u,b≠P→h.get? b=some u→h'.get? b=some u)(hP:∃u,h'.get? P=some u)(hc:h.objs.size≤c)(hf:h.objs.size≤f)(nc:H c=none)(nf:H f=none):
  Un fs ex H (made H P c f (ps++more) o1 o2) h h':=by
 have nP:∀b,H b=none→b≠P:=λb n z=>by rw[z,e]at n;cases n
 have lo:∀{b:Addr}{u:Obj},h.get? b=some u→b≠c∧b≠f:=λ{b u} q=>⟨rV (rZ (rO q) hc),rV (rZ (rO q) hf)⟩;refine⟨λb u q n _ _=>k b u (nP b n) q,λb u q n _ _=>⟨u.slots,k b u (nP b n) q⟩,λb u q n _=>by rw[Vq (nP b n) (lo q).1 (lo q).2];exact n,λb u q _=>?_,λb xs q=>?_,λb u xs q=>?_,λb ps' q=>?_⟩
 ·by_cases hb:b=P
  ·rw[hb];exact hP
  ·exact⟨u,k b u hb q⟩
 ·rw[Vq (λz=>by rw[z,e]at q;cases q) (Zi q nc) (Zi q nf)];exact q
 ·rw[Vq (λz=>by rw[z,e]at q;cases q) (Zi q nc) (Zi q nf)];exact q
 ·by_cases hb:b=P
  ·subst hb;rw[e]at q;cases q;exact⟨more,Cu (Zi e nc) (Zi e nf)⟩
  ·exact⟨#[],by rw[Vq hb (Zi q nc) (Zi q nf),q];simp⟩
theorem HOk.made{Pg:Program}(ok:HOk Pg w H h)(e:H P=some (.tbl ps))(k:∀b u,b≠P→h.get? b=some u→h'.get? b=some u)(hP:h'.get? P=some (W.tabObj (ps++more)))(nc:H c=none)(nf:H f=none)(gN:c≠f)
  (hc:Z8 Pg w (made H P c f (ps++more) o1 o2) h' c o1) (hf:Z8 Pg w (made H P c f (ps++more) o1 o2) h' f o2):HOk Pg w (made H P c f (ps++more) o1 o2) h':=λb u q=>by
 by_cases b1:b=f
 ·subst b1;rw[Zeu]at q;cases q;exact hf
 by_cases b2:b=c
 ·subst b2;rw[Ct gN]at q;cases q;exact hc
 by_cases b3:b=P
 ·subst b3;rw[Cu b2 b1]at q;cases q;exact hP
 rw[Vq b3 b2 b1]at q;refine(ok b u q).Pr (λy v hy r=>k y v ?_ r) (λy r=>?_) λy xs r=>?_
 ·rcases hy with z|z
  ·rw[z];exact b3
  ·intro z2;rw[z2,e]at z;cases z
 ·rw[Vq (λz=>by rw[z,e]at r;cases r) (Zi r nc) (Zi r nf)];exact r
 ·rw[Vq (λz=>by rw[z,e]at r;cases r) (Zi r nc) (Zi r nf)];exact r
end
def Qn(mg:aG)(h:Heap):Prop:=∃bm ob,mg "__builtins__"=some (.ref bm)∧bm≠builtinsNs∧h.get? bm=some ob∧ob.cls=.type "module"∧ob.dict=some builtinsNs∧ob.data=.plain
theorem Qn.keeps(b:Qn mg h)(k:∀b o,h.get? b=some o→h'.get? b=some o):Qn mg h':=
 let ⟨bm,ob,h1,h2,h3,r⟩:=b;⟨bm,ob,h1,h2,k _ _ h3,r⟩
theorem Qn.at_{P:Addr}{ps:aO}(b:Qn mg h)(g:h.Ns mainGlobals mg)(e:h.get? P=some (W.tabObj ps)):h.BuiltinsAt mg P:=by
 obtain⟨bm,ob,h1,h2,h3,h4,h5,h6⟩:=b;refine⟨bm,ob,h1,h2,λz=>?_,λz=>?_,h3,h4,h5,h6⟩
 ·obtain⟨o,es,ep,e2,hd,_⟩:=g;rw[z,e2]at h3;cases h3;rw[hd]at h6;cases h6
 ·rw[z,e]at h3;cases h3;cases h4
theorem Zjt{h:Heap}{P:Addr}{ps:aO}(g:h.Ns mainGlobals mg)(e:h.get? P=some (W.tabObj ps)):mainGlobals≠P:=λz=>by
 obtain⟨o,es,ep,e2,hd,_⟩:=g;rw[z,e]at e2;cases e2;cases hd
def tLam(P:Addr)(L:List aK)(fdOf:Addr→Value→FuncData)(q:Str):TE:=λ_ H Q=>Tb P L H∧
 ∀H' f c ct,V8 P H H'→Tb P L H'→H f=none→H' f=some (FnO f (fdOf c ct))→H' c=some (CdO c q)→Q (.ref f) H'
section
variable {X:Cx}{params:Arguments}{body:Expr}{scope:Scope}{pos:Pos}{c P:Addr}{L:List aK}
theorem Az{q:Str}{fdOf:Addr→Value→FuncData}{Q:VK}{ps:aO}(I:Inv X pins σ H s)(hP:H P=some (.tbl ps))(ht:TriplesOk ps.toList)
  (hT:∀x∈L,codeAmong x.1 ps.toList=none∨∃c,codeAmong x.1 ps.toList=some (.ref c)∧H c=some (CdO c x.2)) (hu:∀x∈L,x.1.line=pos.line→x.1.col=pos.col→x.2=q)
  (hq:∀H' f c ct,V8 P H H'→Tb P L H'→H f=none→H' f=some (FnO f (fdOf c ct))→H' c=some (CdO c q)→Q (.ref f) H') (hn:codeAmong pos ps.toList=none)
  {c':Addr}{o4:Value}{tk:Tok} (hx:Heap.ExtBut P s.heap h') (j8:s.heap.objs.size≤c') (x5:c'<h'.objs.size) (Zfe:h'.CodeRec (.ref c') q)
  (mN:h'.get? P=some (W.tabObj (ps ++ #[rawInt pos.line,rawInt pos.col,.ref c']))) :
  EP X pins σ Q (.ref h'.objs.size) { s with heap:=h'.push { cls:=.type "function",data:=.func (fdOf c' o4) },toks:=tk }:=by
 have hsz:s.heap.objs.size≤h'.objs.size:=oX (iB j8 x5);have nc:H c'=none:=I.hok.fresh j8;have nf:H h'.objs.size=none:=I.hok.fresh hsz;have gN:c'≠h'.objs.size:=rV x5;have k:∀b u,b≠P→s.heap.get? b=some u→(h'.push { cls:=.type "function",data:=.func (fdOf c' o4) }).get? b=some u:=λb u hb e=>rE _ (hx b u hb e);have hPc:P≠c':=Zi hP nc;have hPf:P≠h'.objs.size:=Zi hP nf
 refine⟨.ref h'.objs.size,L2.made H P c' h'.objs.size (ps ++ #[rawInt pos.line,rawInt pos.col,.ref c']) (CdO c' q) (FnO h'.objs.size (fdOf c' o4)),
  I.un (t':=tk) (Un.made hP k ⟨_,rE _ mN⟩ j8 hsz nc nf) (HOk.made I.hok hP k (rE _ mN) nc nf gN (Zme (Zfe.push _)) (C9 (rR _ rfl))),rfl,?_⟩
 refine hq _ _ c' o4 (λb o hb e=>by rw[Vq hb (Zi e nc) (Zi e nf)];exact e) ⟨_,Cu hPc hPf,?_,λx vF=>?_⟩ nf Zeu (Ct gN)
 ·rw[fX];exact TriplesOk_snoc _ _ _ _ ht
 ·rw[fX,Zb8 _ ht]
  rcases hT x vF with hh|⟨c2,e1,e2⟩
  ·rw[hh];show codeAmong x.1 [rawInt pos.line,rawInt pos.col,.ref c']=none∨_
   by_cases hp:x.1.line=pos.line∧x.1.col=pos.col
   ·refine .inr ⟨c',?_,?_⟩
    ·simp[codeAmong,rawInt,hp.1,hp.2]
    ·rw[hu x vF hp.1 hp.2];exact Ct gN
   ·left;have:¬ ((pos.line=x.1.line)∧(pos.col=x.1.col)):=λz=>hp ⟨z.1.symm,z.2.symm⟩;simp only[codeAmong,rawInt];rw[if_neg]
    ·rw[oD,beq_iff_eq,beq_iff_eq];rintro⟨z1,z2⟩;exact this ⟨by lia,by lia⟩
  ·rw[e1];refine .inr ⟨c2,rfl,?_⟩;rw[Vq (λz=>by rw[z,hP]at e2;cases e2) (Zi e2 nc) (Zi e2 nf)];exact e2
theorem Cf(Sx:X.env.code=.ref c)(C:W.CodeHd X.base c P)(hB:Qn X.mg X.base)(hL:(pos,X.env.qual++"<lambda>")∈L)(hu:∀x∈L,x.1.line=pos.line→x.1.col=pos.col→x.2=X.env.qual++"<lambda>")
  (zY:defaultsOf params X.env=([],[]):=by rfl) {sc:Scope} (hU:X.env.scope=sc:=by rfl) (mE:∀y∈scope.names,y.2=NameKind.free→sc.names.lookup y.1=some .cell∨sc.names.lookup y.1=some .free:=by decide +kernel) :
  PE X (.Lambda params body scope pos) (tLam P L (λc ct=>W.kla_fn "<lambda>" (X.env.qual++"<lambda>") params body scope (V7 X.env scope.names []) ((X.mg "__name__").getD .none) (.ref c) ct) (X.env.qual++"<lambda>")):=by
 intro pins s σ H Q I ⟨⟨ps,hP,ht,hT⟩,hq⟩;have xE:s.heap.get? P=some (W.tabObj ps):=I.hok P _ hP;have hg:=I.mod.glob.keeps I.bk;have hb:=(hB.keeps I.bk).at_ hg xE;have m6:∀y∈scope.names,y.2=NameKind.free→∃c,X.env.cells.lookup y.1=some c:=λy hy e=>I.ok.has y.1 (by subst hU;exact mE y hy e);refine W.kla_eval zY ?_
 rcases hT _ hL with hn|⟨c2,hc,w9⟩
 ·refine W.kla_makeFunction (mg:=X.mg) (V6 m6) I.ok.glob hg Sx (C.keeps I.bk) xE ht hn (Zjt hg xE) hb λc' o4 h' tk hx j8 x5 Zfe mN=>?_;exact Az (fdOf:=λc ct=>W.kla_fn "<lambda>" (X.env.qual++"<lambda>") params body scope (V7 X.env scope.names []) ((X.mg "__name__").getD .none) (.ref c) ct) I hP ht hT hu hq hn hx j8 x5 Zfe mN
 ·refine W.kla_makeFunctionHit (mg:=X.mg) (V6 m6) I.ok.glob hg Sx (C.keeps I.bk) xE ht hc hb λo4 h' tk hk hsz=>?_;have nf:H h'.objs.size=none:=I.hok.fresh hsz;refine⟨.ref h'.objs.size,_,I.laid (t':=tk) (λb u e=>rE _ (hk b u e)) hsz (C9 (rR _ rfl)),rfl,?_⟩;have e0:Zm H (upd H h'.objs.size (FnO h'.objs.size (W.kla_fn "<lambda>" (X.env.qual++"<lambda>") params body scope (V7 X.env scope.names []) ((X.mg "__name__").getD .none) (.ref c2) o4))):=λb o e=>by rw[Zk (Zi e nf)];exact e
  exact hq _ _ c2 o4 e0.t (Tb.same ⟨ps,hP,ht,hT⟩ e0) nf Zc (e0 _ _ w9)
end
def Zkn(i:Nat)(f:Addr)(fd:FuncData)(sp:Sp)(t:TA):TE:=λσ H Q=>σ[i]?=some (some (.ref f))∧H f=some (FnO f fd)∧t σ H λvs H1=>H1 f=some (FnO f fd)∧sp vs H1 Q E0
theorem Oc{k:Nat}{es:aV}{t:TA}(F:Yc X.prog X.w X.K X.mg X.base CX0 k f fd ps sp)(hr:Wu k X.A)(hb:Binds X.K fd ps [])
  (ha:PA X (e :: es) t) (hN:X.N[i]?=some x:=by rfl) (hv:Vis X.env.scope x:=by first|exact Or.inl rfl|exact Or.inr (Or.inl rfl)|exact Or.inr (Or.inr rfl)) (hd:(x==("__debug__" : Str))=false:=by decide) (w9:(x==("__classdict__" : Str))=false:=by decide)
  (he:starEach (e :: es) X.env=(false,eval e X.env) :: starEach es X.env:=by rfl) (y1:(backTo pos (starEach es X.env)).any (·.1)=false:=by rfl):PE X (.Call (.Name x p) (e :: es) [] pos) (Zkn i f fd sp t):=by
 intro pins s σ H Q I ⟨hs,hf,h⟩;refine lB (thn (Zd6 hN hv hd w9 pins s σ H (λv H1=>v=.ref f∧H1=H) I ⟨_,hs,rfl,rfl⟩) λu s1 ⟨v,H1,I1,r,q⟩=>?_);obtain⟨rfl,rfl⟩:=q;obtain rfl:u=Value.ref f:=r;refine W.callWith_F ⟨_,_,_,_,FnO.at_ I1.hok hf⟩ (thn (ha pos pins s1 σ H1 _ I1 h) λus s2 ⟨vs,H2,I2,r2,q1,q2⟩=>⟨⟨_,_,_,_,FnO.at_ I2.hok q1⟩,?_⟩) he y1;exact Zdj F hr hb .nil Zjr I2 r2 (by rw[lZ];exact q2)
structure Zgi(N ps:List Str)(scope:Scope):Prop where
 kind:scope.kind=.function
 co:scope.isCoroutine=false
 gen:scope.isGenerator=false
 nd:N.Nodup
 pre:N.take ps.length=ps
 par:∀x∈ps,scope.names.lookup x=some .local
 Nh:∀y∈scope.names,y.2≠.cell
structure Zat(base:Heap)(N ps:List Str)(scope:Scope)(cl:List ZH)(fv:List V):Prop where
 inj:∀x y c,cl.lookup x=some c→cl.lookup y=some c→x=y
 has:∀x,scope.names.lookup x=some .free→∃c,cl.lookup x=some c
 cell:∀x c,cl.lookup x=some c→∃v,base.IsCell c v
 len:N.length=ps.length+fv.length
 val:∀(j:Nat) x v,N[ps.length+j]?=some x→fv[j]?=some v→scope.names.lookup x=some .free∧∃c u,cl.lookup x=some c∧RelV v u∧base.IsCell c (some u)
def Il(P:Program)(w:World)(K:W.Frag)(mg:aG)(base:Heap)(N:List Str)(qual:Str)(scope:Scope)(f:Addr)(cd:Value)(cl:List ZH)(A:Around)(outer:List Env)(s:Shared)(H:Hp):Cx where
 prog:=P
 w:=w
 K:=K
 mg:=mg
 base:=base
 A:=A.deeper (W.envX qual scope s.heap.objs.size f cd cl)
 N:=N
 s₀:=s
 H₀:=H
 env:=W.envX qual scope s.heap.objs.size f cd cl
 outer:=outer
 stack:=W.envX qual scope s.heap.objs.size f cd cl :: outer
 ex:=[]
 calm:=true
 fn:=λ_=>false
 pn:=[]
 xe:=λ_ _=>False
theorem Lm:∀{ps:List Str}{us:aJ}{i:Nat}{y:Str}{u:Value},ps.Nodup→ps[i]?=some y→us[i]?=some u→((ps.zip us).reverse).lookup y=some u
 |[],_,_,_,_,_,h,_=>by simp at h
 |_ :: _,[],_,_,_,_,_,h=>by simp at h
 |p :: ps,u0 :: us,0,y,u,nd,h1,h2=>by
  simp at h1 h2;subst h1;subst h2;rw[List.zip_cons_cons,List.reverse_cons]
  have hn:((ps.zip us).reverse).lookup p=none:=by
   rw[List.lookup_eq_none_iff];rintro⟨a,b⟩ hm;have:=(dB (List.mem_reverse.mp hm)).1;have ne:a≠p:=λz=>(lI.mp nd).1 (z▸this);simpa using λz=>ne z.symm
  rw[List.lookup_append,hn];simp[List.lookup]
 |p :: ps,u0 :: us,i+1,y,u,nd,h1,h2=>by
  rw[List.zip_cons_cons,List.reverse_cons,List.lookup_append,Lm (i:=i) (lI.mp nd).2 (by simpa using h1) (by simpa using h2)];rfl
theorem Zac{cd:Value}{cl:List ZH}{outer:List Env}{vs:List V}{h1:Heap}{tk:Tok}
  (S:Zgi N ps scope) (LC:Zat base N ps scope cl fv) (hd:A.handled=none) (e0:Bv P w K mg base A outer s H) (hl:vs.length=ps.length) (r:Vals vs us)
  (z3:h1.Ns s.heap.objs.size (λx=>(ps.zip us).reverse.lookup x)) (hk:∀b o,s.heap.get? b=some o→h1.get? b=some o) :
  Inv (Il P w K mg base N qual scope f cd cl A outer s H) [] (vs.map some++fv.map some) H { s with heap:=h1,toks:=tk }:=by
 have hV:∀b:Addr,b∉(Il P w K mg base N qual scope f cd cl A outer s H).ex:=λb z=>absurd (show b∈([]:List Addr) from z) (by simp);have bk:∀b o,base.get? b=some o→h1.get? b=some o:=λb o e=>hk b o (e0.bs b o e).1;have vK:ps.Nodup:=by rw[←S.pre];exact S.nd.sublist (List.take_sublist _ _)
 have cellK:∀{c:Addr}{v:YM},base.IsCell c v→h1.IsCell c v:=λ⟨o,e,d⟩=>⟨o,bk _ _ e,d⟩
 refine⟨⟨e0.mod,S.kind,rfl,rfl,rG _,λy z c h1 h2=>LC.inj y z c h1 h2,λy hy=>?_,λy c z _=>(by cases z),λ_=>hd,Around.frames_deeper e0.frames,.inr ⟨rfl,rfl⟩,λb z=>absurd z (hV b),e0.bs,e0.bsz,λb _ _=>hV b,λb z=>absurd z (hV b),e0.Nq,e0.frf⟩,
  rfl,e0.bare,Un.kept hk,⟨_,z3,λi y v h1 h2 h3=>?_⟩,λy c h=>?_,e0.hok.fresh (rG _),λy c h=>?_,λp hp=>absurd (show p∈([]:List aF) from hp) (by simp),e0.hok.kept hk,?_⟩
 ·have hy:scope.names.lookup y=some .cell∨scope.names.lookup y=some .free:=hy
  rcases hy with hy|hy
  ·exact absurd rfl (S.Nh _ (oR hy))
  ·exact LC.has y hy
 ·have h1:N[i]?=some y:=h1
  by_cases hi:i<vs.length
  ·have ha:vs[i]?=some v:=by
    rw[pM (by simpa using hi),rJ]at h2
    cases e:vs[i]? with
    |none=>rw[e]at h2;cases h2
    |some a=>rw[e]at h2;cases h2;rfl
   obtain⟨u,hu,rv⟩:=r.get ha
   have hp:ps[i]?=some y:=by
    rw[←S.pre,cF (by lia)];exact h1
   exact⟨u,rv,.inl ⟨S.par y (rN hp),Lm vK hp hu⟩⟩
  ·rw[pT (by simpa using hi),rJ]at h2;rw[rC]at h2
   have ha:fv[i-vs.length]?=some v:=by
    cases e:fv[i-vs.length]? with
    |none=>rw[e]at h2;cases h2
    |some a=>rw[e]at h2;cases h2;rfl
   have e:ps.length+(i-vs.length)=i:=by lia
   obtain⟨hf,c,u,hc,rv,Zaf⟩:=LC.val (i-vs.length) y v (by rw[e];exact h1) ha;exact⟨u,rv,.inr ⟨.inr hf,c,hc,cellK Zaf⟩⟩
 ·obtain⟨v,z⟩:=LC.cell y c h;exact⟨v,cellK z⟩
 ·obtain⟨v,o,e,_⟩:=LC.cell y c h;exact(e0.bs c o e).2
 ·show _=N.length;rw[rS,rC,rC,LC.len,hl]
theorem C1{k:Nat}{body:Expr}{cl:List ZH} 
  (S:Zgi N ps scope) (LC:Zat base N ps scope cl fv) (len:∀vs H Q E,sp vs H Q E→vs.length=ps.length)
  (n6:∀vs H Q E,sp vs H Q E→H f=some (FnO f (W.kla_fn name qual params body scope cl pm (.ref c) ct))∧H c=some (CdO c qual))
  (Ow:∀(A:Around) (outer:List Env) (s:Shared) (H:Hp) (vs:List V) (Q:VK) (E:XK),Wu k (A.deeper (W.envX qual scope s.heap.objs.size f (.ref c) cl))→sp vs H Q E→
   ∃t,PE (Il P w K mg base N qual scope f (.ref c) cl A outer s H) body t∧t (vs.map some++fv.map some) H Q) :
  Yc P w K mg base CX0 (k+1) f (W.kla_fn name qual params body scope cl pm (.ref c) ct) ps sp:=by
 refine⟨len,λA outer s H args us vs Q E hr e0 hb r y4=>?_⟩;have hl:=len _ _ _ _ y4;obtain⟨hf,hc⟩:=n6 _ _ _ _ y4;have lim:s.heap.NoLimit:=e0.mod.nolimit.keeps λb o e=>(e0.bs b o e).1;refine W.kla_callFunE hr.depth (FnO.at_ e0.hok hf) rfl S.co S.gen rfl (CdO.at_ e0.hok hc) (hb _ _ _ _ ?_);refine bB S.Nh (λy hy=>S.par y.1 (dB hy).1) (λh1 z3 eK=>?_) S.kind;have hk:∀b o,s.heap.get? b=some o→h1.get? b=some o:=λb o e=>eK.extBut b o (rV (rO e)) (rE _ e);refine⟨lim.keeps hk,W.kla_codeExpr ?_⟩;obtain⟨t,ht,hq⟩:=Ow A outer s H vs Q E (hr.deeper _) y4
 have I:Inv (Il P w K mg base N qual scope f (.ref c) cl A outer s H) [] (vs.map some++fv.map some) H { s with heap:=h1,toks:=s.toks+(ps.zip us).length }:=Zac S LC hr.hd e0 hl r z3 hk;refine iR (ht [] _ _ H _ I hq) (λu s' hs=>?_) λe s' hs=>hs.elim;obtain⟨v,H',J,rv,q⟩:=hs;exact⟨v,H',J.os,J.bare,J.base,J.hok,rv,q⟩
theorem Fun.okC{k:Nat}(F:Fun K x qual st f fd)(S:Zv N ps (Zh st))(len:∀vs H Q E,sp vs H Q E→vs.length=ps.length)
  (Ow:∀(A:Around) (outer:List Env) (s:Shared) (H:Hp) (vs:List V) (Q:VK) (E:XK),Wu k (A.deeper (envOfC qual (Zh st) s.heap.objs.size f fd.code))→sp vs H Q E→
   ∃t,PSs (Bf CX0 P w K mg base N qual (Zh st) f fd.code A outer s H E).nox (X9 st) t∧t { nx:=λ_ H'=>Q .non H',rt:=Q } (start N vs) H):Yc P w K mg base CX0 (k+1) f fd ps sp:=by
 obtain⟨oc,od,kV,doc,pm,an,cdv,ct,osl,rfl,lk,w9⟩:=F.ex;refine Zj2 lk w9 S len λA outer s H vs Q E hr y4=>?_;obtain⟨t,h,q⟩:=Ow A outer s H vs Q E hr y4;exact⟨t,h.nox,q⟩
theorem Zbj{mb:aG}{k:Nat}{fa a:Addr}{x:Str}{x3:Shared}{vs:aJ}{tabs:ZW}
  (KX:K.In x3.heap) (z3:x3.heap.Ns mainGlobals mg) (hb:x3.heap.Ns builtinsNs mb) (mD:∀x:Str,x≠"__name__"→mb x=bootBuiltins x) (Zly:x3.heap.NoLimit) (hg:x3.gens = #[])
  (ha:x3.heap.get? a=some { cls:=.type "list",data:=.seq vs.toArray }) (hi:IntsAre vs ns) (hl:ns.length≤sizeLine) (hr:Wu k callerA) (hT:W.TabsAt tabs x3.heap) (hK0:W.noTabs K=true) (hBM:Qn mg x3.heap)
  (F:∀base:Heap,K.In base→base.Ns mainGlobals mg→Qn mg base→Yc P w K mg base CX k fa fd [x] sp) (Zfj:∀(s:Shared) (u:Value),BindsTo s fd ⟨[u],[]⟩ [(x,u)])
  (y4:∀H:Hp,(∀q∈tabs,H q.2=some (.tbl #[]))→SqL K H a (ns.map V.int)→sp [.ref a] H (λv _=>v=.bl true) λ_ _ _=>False)
  (sU:∀H e s',CX [] H x3 (λ_ _ _=>False) e s'→False) :
  codeAny (model P w) callerA (.call (.ref fa) ⟨[.ref a],[]⟩) (λr s'=>r=.ok (.ret (.bool true))∧OldK x3.heap s'.heap∧s'.os=x3.os∧AllBare s'.gens) x3:=by
 have rv:=Uv hi;have Zlm:=hi.length
 have core:∀H:Hp,(∀b,H b=none∨(∃o xs,H b=some (.frz o (.lst xs))∧b=a)∨(H b=some (.tbl #[])∧∃q∈tabs,q.2=b))→(∀q∈tabs,H q.2=some (.tbl #[]))→SqL K H a (ns.map V.int)→HOk P w H x3.heap→(∀o xs,H a=some (.frz o (.lst xs))→K.lookup a=none)→
   codeAny (model P w) callerA (.call (.ref fa) ⟨[.ref a],[]⟩) (λr s'=>r=.ok (.ret (.bool true))∧OldK x3.heap s'.heap∧s'.os=x3.os∧AllBare s'.gens) x3:=by
  intro H hO hTb hS hok hK;have Qe:∀{b:Addr}{o:Obj},x3.heap.get? b=some o→H b=none→(Pe x3.heap H).get? b=some o:=λe n=>E2 e n
  have hV:∀{b:Addr}{o:Obj},x3.heap.get? b=some o→(∀xs n,o.data≠.seq xs n)→(∀xs,o.data≠.fields xs)→H b=none:=λ{b o} e d1 d2=>by
   rcases hO b with z|⟨ob,xs,z,rfl⟩|⟨z,_⟩
   ·exact z
   ·rw[ha]at e;cases e;exact absurd rfl (d1 _ _)
   ·have:=hok b _ z;rw[show x3.heap.get? b=some (W.tabObj #[]) from this]at e;cases e;exact absurd rfl (d2 _)
  have xV:∀{b:Addr}{m:aG},x3.heap.Ns b m→(Pe x3.heap H).Ns b m:=λ{b m} ⟨o,es,ep,e,d,r⟩=>⟨o,es,ep,Qe e (hV e (λ_ _ z=>by rw[d]at z;cases z) λ_ z=>by rw[d]at z;cases z),d,r⟩
  have kO:K.In (Pe x3.heap H):=λb o e=>Qe (KX b o e) (by
   rcases hO b with z|⟨ob,xs,z,rfl⟩|⟨z,_⟩
   ·exact z
   ·rw[hK _ _ z]at e;cases e
   ·have e2:x3.heap.get? b=some (W.tabObj #[]):=hok b _ z;have e3:=KX b o e;rw[e2]at e3;cases e3;have h2:=iE.mp hK0 _ (W.mem_of_lookupK e)
    exact absurd (show false=true from h2) rU)
  have hBb:Qn mg (Pe x3.heap H):=by
   obtain⟨bm,ob,b1,b2,b3,b4,b5,b6⟩:=hBM;exact⟨bm,ob,b1,b2,Qe b3 (hV b3 (λ_ _ z=>by rw[b6]at z;cases z) λ_ z=>by rw[b6]at z;cases z),b4,b5,b6⟩
  have hM:Mod K mg (Pe x3.heap H):=⟨kO,xV z3,⟨mb,xV hb,mD⟩,let ⟨mc,h1,h2⟩:=Zly;⟨mc,xV h1,h2⟩⟩;have e0:Bv P w K mg (Pe x3.heap H) callerA [] x3 H:=⟨rfl,hM,λb o e=>Aw e,cG (Ic _ _),trivial,λb hb=>absurd (show b∈([]:List Addr) from hb) (by simp),hok,.of_eq hg⟩;refine fV ((F _ kO (xV z3) hBb).run callerA [] x3 H ⟨[.ref a],[]⟩ [.ref a] [.ref a] _ _ hr e0 (Zfj x3 (.ref a)) (.cons rfl .nil) (y4 H hTb hS)) λr s' h=>?_
  cases r with
  |error e=>exact(sU H e s' h).elim
  |ok fl=>
   cases fl with
   |next=>exact False.elim h
   |brk=>exact False.elim h
   |cont=>exact False.elim h
   |ret u=>
    obtain⟨v,H',os,bare,un,Zh1,r',q⟩:=h;have q':v=.bl true:=q;subst q';obtain rfl:u=Value.bool true:=r';refine⟨rfl,⟨λb o e=>?_,λb o e=>un.there b o e (by simp)⟩,os,bare⟩
    rcases hO b with z|⟨ob,xs,z,_⟩|⟨z,q,hq,rfl⟩
    ·exact .inl (un.keep b o e z (by intro z;exact absurd (show b∈([]:List Addr) from z) (by simp)) (by simp))
    ·have z2:=un.Kg b ob _ z;obtain⟨e1,_⟩:=hok b _ z;obtain⟨e2,_⟩:=Zh1 b _ z2;rw[e]at e1;cases e1;exact .inl e2
    ·obtain⟨more,z2⟩:=un.K0 _ _ z;have e1:x3.heap.get? q.2=some (W.tabObj #[]):=(hT q hq).2;rw[e]at e1;cases e1;exact .inr (.inl ⟨((hT q hq).1.tab (hT q hq).2).isCodeTable,rfl,#[],more,rfl,Zh1 _ _ z2⟩)
 have hTa:∀q∈tabs,q.2≠a:=λq hq z=>by
  have e:=(hT q hq).2;rw[z,ha]at e;cases e
 cases hk:K.lookup a with
 |some o=>
  have e:=KX a o hk;rw[ha]at e;cases e;refine core (λb=>if b∈tabs.map (·.2) then some (.tbl #[]) else none) (λb=>?_) (λq hq=>if_pos (dZ hq)) (.inr ⟨_,vs.toArray,_,hk,rfl,rfl,rfl,by rw[rQ,Zlm];exact hl,by simpa using rv⟩) (λb u z=>?_) (λo xs z=>?_)
  ·by_cases hb:b∈tabs.map (·.2)
   ·obtain⟨q,hq,e⟩:=rY.mp hb;exact .inr (.inr ⟨if_pos hb,q,hq,e⟩)
   ·exact .inl (if_neg hb)
  ·by_cases hb:b∈tabs.map (·.2)
   ·have z':=(if_pos hb).symm.trans z;cases z';obtain⟨q,hq,rfl⟩:=rY.mp hb;exact(hT q hq).2
   ·have z':=(if_neg hb).symm.trans z;cases z'
  ·by_cases hb:a∈tabs.map (·.2)
   ·have z':=(if_pos hb).symm.trans z;cases z'
   ·have z':=(if_neg hb).symm.trans z;cases z'
 |none=>
  refine core (λb=>if b=a then some (.frz { cls:=.type "list",data:=.seq vs.toArray } (.lst (ns.map V.int))) else if b∈tabs.map (·.2) then some (.tbl #[]) else none) (λb=>?_) (λq hq=>(if_neg (hTa q hq)).trans (if_pos (dZ hq))) (.inl (.inr ⟨{ cls:=.type "list",data:=.seq vs.toArray },if_pos rfl⟩)) (λb u z=>?_) (λ_ _ _=>hk)
  ·by_cases hb:b=a
   ·exact .inr (.inl ⟨_,_,if_pos hb,hb⟩)
   ·by_cases xG:b∈tabs.map (·.2)
    ·obtain⟨q,hq,e⟩:=rY.mp xG;exact .inr (.inr ⟨(if_neg hb).trans (if_pos xG),q,hq,e⟩)
    ·exact .inl ((if_neg hb).trans (if_neg xG))
  ·by_cases hb:b=a
   ·have z':=(if_pos hb).symm.trans z;cases z';subst hb;exact⟨ha,by rw[rC];exact hl,vs,_,rv,ha⟩
   ·have z:=(if_neg hb).symm.trans z
    by_cases xG:b∈tabs.map (·.2)
    ·have z':=(if_pos xG).symm.trans z;cases z';obtain⟨q,hq,rfl⟩:=rY.mp xG;exact(hT q hq).2
    ·have z':=(if_neg xG).symm.trans z;cases z'
def Bs(q:Program)(K:W.Frag)(h:Heap):Prop:=∀(x:Str) (d:DefRec) (c P:Addr),(recsOf q).find? (λe=>e.name==x)=some d→W.tabIn K x=some (c,P)→W.CodeHd h c P∧h.get? P=some (W.tabObj #[])
theorem Zci{l:W.OpenLaw}{k:Nat}{d:DefRec}{K:Params→W.Frag}{CX:World→CXT}{sp:World→List (Addr×Addr)→Sp} 
  (hn:l.most=some n) (mK:n≤sizeLine) (i7:d.params.defaults=[]) (hr:Wu k callerA)
  (hY:∀(w:World) (h:Heap),YP w h→(K w.params).In h)
  (F:∀(w:World) (mg:aG) (fa:Addr) (h:Heap),(K w.params).In h→h.Ns mainGlobals mg→mg d.name=some (.ref fa)→Bs q (K w.params) h→
   W.noTabs (K w.params)=true∧∃(fd:FuncData) (tabs:ZW),W.TabsAt tabs h∧(∀(s:Shared) (u:Value),BindsTo s fd ⟨[u],[]⟩ [(x,u)])∧
    ∀base:Heap,(K w.params).In base→base.Ns mainGlobals mg→Qn mg base→Yc l.prog w (K w.params) mg base (CX w) k fa fd [x] (sp w tabs))
  (y4:∀(w:World) (tabs:ZW) (H:Hp) (a:Addr) (ns:List Int),ns.length≤n→(∀q∈tabs,H q.2=some (.tbl #[]))→SqL (K w.params) H a (ns.map V.int)→sp w tabs [.ref a] H (λv _=>v=.bl true) λ_ _ _=>False)
  (sU:∀(w:World) (H:Hp) (s:Shared) (e:Value) (s':Shared),CX w [] H s (λ_ _ _=>False) e s'→False) :
  W.WalkO q loose XP YP l.row.toRowW d [] (λf vs=>PySem.call f vs):=by
 refine Att.Ma hn i7 λw s₀ x3 mg mb fa o pm cd doc a vs ns G Y ho hd w9 xR Zff hints hlen hg=>?_;have KX:=hY w _ Y;obtain⟨h0,fd,tabs,hT,hb,hF⟩:=F w mg fa _ KX G.T.g xR (λx d c P hr ht=>W.tab_of G.T KX hr ht);exact Zbj KX G.T.g G.T.b G.T.builtins G.T.nolimit hg Zff hints (pQ hlen mK) hr hT h0 G.T.bmain hF hb (λH hO hS=>y4 w tabs H a ns hlen hO hS) λH e s'=>sU w H x3 e s'
theorem Ld{P:Addr}{oc':Value}{od':ZA}{sl nO:aP}{vs:aO}(a:W.nsIn K mainGlobals x=some (some (.ref f)))(l:K.lookup f=some ⟨oc,od,.func fd,sl⟩)(y:fd.code=.ref c)
  (v:K.lookup c=some ⟨oc',od',.fields vs,nO⟩) (u:vs[11]?=some (.ref P)):W.tabIn K x=some (c,P):=by
 unfold W.tabIn;rw[a];dsimp only;rw[l];dsimp only;rw[y];dsimp only;rw[v];dsimp only;rw[u]
theorem Gn{K:W.Frag}{P:Addr}(C:W.CodeHd h c P)(X:K.In h)(B:K.In base)(lk:K.lookup c=some o):W.CodeHd base c P:=by
 obtain⟨o',vs,file,tf,flags,tg,inF,text,tt,e,r⟩:=C;have:=X c o lk;rw[this]at e;cases e;exact⟨o,vs,file,tf,flags,tg,inF,text,tt,B c o lk,r⟩
section
variable {P:Program}{w:World}{A:Around}{E:aC}{s:Shared}{r:Addr}{x:Str}
end
section
variable {X:Cx}
end
structure Zau(X:Cx)(σ:St)(Ww:Heap):Prop where
 sub:∀b o,X.base.get? b=some o→Ww.get? b=some o
 inj:∀x y c,X.env.cells.lookup x=some c→X.env.cells.lookup y=some c→x=y
 has:∀x,(X.env.kindOf x=some .cell∨X.env.kindOf x=some .free)→∃c,X.env.cells.lookup x=some c
 cell:∀x c,X.env.cells.lookup x=some c→∃v,Ww.IsCell c v
 val:∀(i:Nat) (x:Str) (v:V),X.N[i]?=some x→σ[i]?=some (some v)→(X.env.kindOf x=some .cell∨X.env.kindOf x=some .free)→∃u c,RelV v u∧X.env.cells.lookup x=some c∧Ww.IsCell c (some u)
def V4(X:Cx)(b:Addr):Bool:=X.env.cells.any λp=>p.2==b&&X.env.cells.lookup p.1==some b
theorem Tu:V4 X b=true↔∃x,X.env.cells.lookup x=some b:=by
 unfold V4;rw[iN];constructor
 ·rintro⟨p,_,h⟩;rw[oD]at h;exact⟨p.1,by simpa using h.2⟩
 ·rintro⟨x,h⟩;refine⟨(x,b),oR h,?_⟩;simp[h]
def Zh2(X:Cx)(h:Heap):List Addr:=(List.range h.objs.size).filter λb=>(X.base.get? b).isNone && !V4 X b
def baseOf(X:Cx)(h:Heap):Heap:=W.hideAll h (Zh2 X h)
section
variable {X:Cx}{pins:aD}{σ:St}{H:Hp}{s:Shared}
theorem Ay(h:(X.base.get? b).isSome=true∨V4 X b=true):b∉Zh2 X s.heap:=λz=>by
 have:=(iJ.mp z).2;rw[oD]at this
 rcases h with h|h
 ·cases e:X.base.get? b with
  |none=>rw[e]at h;cases h
  |some o=>rw[e]at this;cases this.1
 ·rw[h]at this;cases this.2
theorem Ax(h:(baseOf X s.heap).get? b=some o):s.heap.get? b=some o∧((X.base.get? b).isSome=true∨V4 X b=true):=by
 have e:=W.of_hideAll _ h;refine⟨e,?_⟩
 by_cases c:(X.base.get? b).isSome=true∨V4 X b=true
 ·exact c
 ·have hm:b∈Zh2 X s.heap:=by
   refine iJ.mpr ⟨pU.mpr (rO e),?_⟩;rw[oD];refine⟨?_,?_⟩
   ·cases e2:X.base.get? b with
    |none=>rfl
    |some u=>exact absurd (.inl (by rw[e2];rfl)) c
   ·cases e2:V4 X b with
    |false=>rfl
    |true=>exact absurd (.inr e2) c
  rw[show baseOf X s.heap=W.hideAll s.heap (Zh2 X s.heap) from rfl,W.hideAll_none _ hm]at h;cases h
theorem Inv.Zj4(I:Inv X pins σ H s):Zau X σ (baseOf X s.heap):=by
 have cellK:∀{x:Str}{c:Addr}{v:YM},X.env.cells.lookup x=some c→s.heap.IsCell c v→(baseOf X s.heap).IsCell c v:=λ{x c v} e ⟨o,ho,hd⟩=>
  ⟨o,W.hideAll_get _ ho (Ay (.inr (Tu.mpr ⟨x,e⟩))),hd⟩
 refine⟨λb o e=>W.hideAll_get _ (I.bk b o e) (Ay (.inl (by rw[e];rfl))),I.ok.inj,I.ok.has,λx c e=>?_,λi x v h1 h2 h3=>?_⟩
 ·obtain⟨v,z⟩:=I.cell x c e;exact⟨v,cellK e z⟩
 ·obtain⟨m,_,hl⟩:=I.loc
  have hv:Vis X.env.scope x:=by
   rcases h3 with h3|h3
   ·exact .inr (.inl h3)
   ·exact .inr (.inr h3)
  obtain⟨u,r,l⟩:=hl i x v h1 h2 hv
  rcases l with ⟨hk,_⟩|⟨hk,c,e,z⟩
  ·rcases h3 with h3|h3<;>rw[h3]at hk<;>cases hk
  ·exact⟨u,c,r,e,cellK e z⟩
theorem Inv.Zot(I:Inv X pins σ H s)(yD:∀x,X.fn x=true):Bv X.prog X.w X.K X.mg (baseOf X s.heap) X.A X.stack s H:=by
 have B:=I.Zj4
 have bs:∀b o,(baseOf X s.heap).get? b=some o→s.heap.get? b=some o∧H b=none:=λb o e=>by
  obtain⟨e1,h⟩:=Ax e;refine⟨e1,?_⟩
  rcases h with h|h
  ·obtain⟨u,hu⟩:=cE.mp h;exact(I.bs b u hu).2
  ·obtain⟨x,hx⟩:=Tu.mp h;exact I.U7 x b hx
 refine⟨I.ok.frames,?_,bs,cG (W.hideAll_size _ _),?_,I.Hf,I.hok,I.bare⟩
 ·obtain⟨k,g,⟨mb,h1,h2⟩,nl⟩:=I.ok.mod;exact⟨k.keeps B.sub,g.keeps B.sub,⟨mb,h1.keeps B.sub,h2⟩,nl.keeps B.sub⟩
 ·have all:∀(l:List Env),(∀b∈frs l,b∈X.env.locals :: X.fs)→s.heap.FunFrames X.base l→s.heap.FunFrames (baseOf X s.heap) l:=by
   intro l
   induction l with
   |nil=>intro _ _;trivial
   |cons env r ih=>
    intro hs hl;obtain⟨hk,⟨L,o,hf,hn,ho,hd⟩,hr⟩:=hl;refine⟨hk,⟨L,o,hf,?_,ho,hd⟩,ih (λb hb=>hs b (by unfold frs;rw[fW,hf];exact rP _ hb)) hr⟩
    cases q:(baseOf X s.heap).get? L with
    |none=>rfl
    |some u=>
     obtain⟨e1,h⟩:=Ax q
     rcases h with h|h
     ·rw[hn]at h;cases h
     ·obtain⟨x,hx⟩:=Tu.mp h
      rcases rT.mp (hs L (by unfold frs;rw[fW,hf];exact rM)) with z|z
      ·exact absurd z (I.cne x L hx)
      ·obtain⟨_,o2,o9,_⟩:=I.ok.Nq.mem z;exact absurd (rZ (rO o9) (I.ok.cab x L (yD x) hx)) (oT _)
  exact all _ I.Lf I.stack
end
def Zko(X:Cx)(x:Str)(k:Nat)(t:TA):TE:=λσ H Q=>t σ H λvs H1=>∀Ww:Heap,Zau X σ Ww→
 ∃(ps:List Str) (sp:Sp) (_:Cal X.prog X.w X.K X.mg Ww x k ps sp),sp vs H1 Q E0
theorem Zef{k:Nat}{es:aV}{t:TA}(C:Cal X.prog X.w X.K X.mg X.base x k ps sp)(hr:Wu k X.A)(ha:PA X (e :: es) t)(hg:Gl X x:=by rfl)(yD:∀x,X.fn x=true:=by intro _;rfl)
  (xI:(x==("__debug__" : Str))=false:=by decide) (he:starEach (e :: es) X.env=(false,eval e X.env) :: starEach es X.env:=by rfl) (y1:(backTo pos (starEach es X.env)).any (·.1)=false:=by rfl) :
  PE X (.Call (.Name x p) (e :: es) [] pos) (Zko X x k t):=by
 intro pins s σ H Q I h;refine lB (A1 I hg C.at_ ?_ xI);refine W.callWith_K (h₀:=X.base) I.ok.mod.kin C.kp (thn (ha pos pins s σ H _ I h) λus s1 ⟨vs,H1,I1,r,q⟩=>⟨I1.kIn,?_⟩) he y1;obtain⟨ps',mS,C',y4⟩:=q _ I1.Zj4
 have ef:C'.f=C.f:=by
  have:=C'.at_.symm.trans C.at_
  injection this with this
  injection this
 have hl:us.length=ps'.length:=by rw[←r.length];exact C'.ok.len _ _ _ _ y4
 have hb:=C'.b s1 us I1.kIn (by rw[lZ];exact hl);rw[lZ]at hb;have run:=C'.ok.run X.A X.stack s1 H1 ⟨us,[]⟩ us vs Q E0 hr (I1.Zot yD) hb r y4;rw[ef]at run;show wpAny _ _ (call (.ref C.f) ([]++us)) _ _ s1;refine wpAny_call (fV run λr s' hq=>?_)
 cases r with
 |error e=>exact hq.elim
 |ok fl=>
  cases fl with
  |ret u=>exact I1.after hq
  |next=>exact False.elim hq
  |brk=>exact False.elim hq
  |cont=>exact False.elim hq
theorem Zau.cl{Ww:Heap}(B:Zau X σ Ww)(fr:List Nat)(hU:X.env.scope=sc)(mE:∀y∈scope.names,y.2=NameKind.free→sc.names.lookup y.1=some .cell∨sc.names.lookup y.1=some .free)
  (hlen:N.length=ps.length+fr.length) (xK:fv.length=fr.length) (hN:∀(j:Nat) i x,fr[j]?=some i→N[ps.length+j]?=some x→scope.names.lookup x=some .free∧X.N[i]?=some x)
  (hv:∀(j:Nat) i v,fr[j]?=some i→fv[j]?=some v→σ[i]?=some (some v)):Zat Ww N ps scope (V7 X.env scope.names []) fv:=by
 subst hU;have kind:∀x,scope.names.lookup x=some .free→(X.env.kindOf x=some .cell∨X.env.kindOf x=some .free):=λx hx=>mE _ (oR hx) rfl;have good:Bx X.env (V7 X.env scope.names []):=Qc _ _ λy c e=>by simp at e
 have look:∀x c,(V7 X.env scope.names []).lookup x=some c→X.env.cells.lookup x=some c:=λx c e=>by
  have h1:=good x c e
  rcases O0 _ _ e with z|z
  ·simp at z
  ·obtain⟨c2,e2⟩:=B.has x (mE _ z rfl);rw[e2]at h1;rw[e2];exact congrArg some h1.symm
 have Zol:∀x,scope.names.lookup x=some .free→∃c,(V7 X.env scope.names []).lookup x=some c:=λx hx=>Rq _ _ (.inr (oR hx));refine⟨λx y c h1 h2=>B.inj x y c (look x c h1) (look y c h2),Zol,λx c e=>B.cell x c (look x c e),by rw[hlen,xK],λj x v h1 h2=>?_⟩;have hj:j<fr.length:=by rw[←xK];exact(rH.mp h2).1
 have hfj:fr[j]?=some fr[j]:=rD hj;obtain⟨hf,hX⟩:=hN j _ x hfj h1;obtain⟨u,c,r,e,z⟩:=B.val _ x v hX (hv j _ v hfj h2) (kind x hf);obtain⟨c2,e2⟩:=Zol x hf;have:=look x c2 e2;rw[e]at this;cases this;exact⟨hf,c,u,e2,r,z⟩
section
variable {X:Cx}
end
section
variable {P:Program}{w:World}{H:Hp}{s:Shared}
end
section
variable {X:Cx}
inductive Zj1(K:W.Frag)(n:Nat)(t:TGs)(v:V)(σ:St)(H:Hp)(Q:St→Hp→Prop):Prop
 |mk(a xs:_)(h1:v=.ref a)(h2:SqL K H a xs)(h3:xs.length=n)(h4:t xs σ H Q):Zj1 K n t v σ H Q
def gLst(K:W.Frag)(n:Nat)(t:TGs):TG:=λv σ H Q=>Zj1 K n t v σ H Q
theorem Zla{es:aV}{k:Nat}{t:TGs}(hc:X.calm=true)(h:PGs X es t)(hK:X.K=K:=by rfl)
  (hn:(assignEach es X.env).length=n:=by rfl) (k5:(assignEach es X.env).findIdx? (·.1)=none:=by rfl):PG X (.Tuple es k pos) (gLst K n t):=by
 subst hK;intro pins s σ H v u Q I r hw;obtain⟨a,xs,e1,hq,hl,hw⟩:=hw;subst e1;cases r;obtain⟨its,rv,ht,hz⟩:=I.list hq;have hsz:its.toArray.size=n:=by rw[rQ,←hl];exact rv.length.symm
 rw[assign_Tuple];refine rB (dX ?_);unfold unpack;rw[hn,k5];refine rB (oJ ?_);rw[←hsz];refine W.kun_itemsOf (I.ok.hd hc) ht.isList λh' hx=>?_
 have I1:Inv X pins σ H { s with heap:=h' }:=I.kept (t':=s.toks) λb o e=>hx b o (rV (rO e)) e;exact h pins _ σ H xs _ Q I1 (by simpa using rv) hw
end
def Itk(a:Addr)(o:Obj)(kvs:List (Key×V)):It:=
 ⟨λi H=>i<kvs.length∧H a=some (.frz o (.dK kvs)),λi H x H'=>H'=H∧∃k v,kvs[i]?=some (k,v)∧x=kV k,λi H=>i=kvs.length∧H a=some (.frz o (.dK kvs))⟩
theorem J4{k:Key}(h:(Z7 P w).is k u=true):RelV (kV k) u:=by
 rcases Yy (show L8 k u=true from h) with ⟨i,t,rfl,rfl⟩|⟨x,t,rfl,rfl⟩
 ·exact⟨t,rfl⟩
 ·exact⟨t,rfl⟩
theorem Ge{kvs:List (Key×V)}{vs:List (Key×Value)}(r:KV kvs vs):kvs.length=vs.length:=iY r
theorem C2:∀{kvs:List (Key×V)}{vs:List (Key×Value)}{i:Nat}{k:Key}{x:Value},KV kvs vs→vs[i]?=some (k,x)→∃v,kvs[i]?=some (k,v)
 |_,_,i,_,_,.nil,h=>by simp at h
 |_,_,0,k,x,.cons (a:=p) (b:=q) r _,h=>by
  cases h;obtain⟨e,_⟩:=r;obtain⟨pk,pv⟩:=p;have e':pk=k:=e;subst e';exact⟨pv,rfl⟩
 |_,_,i+1,k,x,.cons _ t,h=>by
  obtain⟨v,e⟩:=C2 (i:=i) t (by simpa using h);exact⟨v,by simpa using e⟩
theorem Zay(a it:Addr)(o:Obj)(kvs:List (Key×V))(vs:List (Key×Value))(es:Array DictEntry)(ep:Nat)(rel:KV kvs vs)(ho:∀h:Heap,h.get? a=some o→h.DictAt (Z7 P w) a vs ep):
  Turn P w K tg (Itk a o kvs) [it] it (λi h=>h.IsKeyIter it a i vs.length ep) where
 mem:=by simp
 obj:=λi h st b hb=>by
  have e:b=it:=by simpa using hb
  subst e;obtain⟨o,e,c,d⟩:=st;exact⟨o,e,λv z=>by rw[d]at z;cases z⟩
 keep:=λi h h' st k=>st.at λo e=>k it (by simp) o e
 item:=by
  intro X hP hw hK hc i pins s σ H E I hf st hg;subst hP hw hK;obtain⟨hi,hq⟩:=hg;have hd:=ho s.heap (I.hok a _ hq).1;have hl:=Ge rel;have hx:vs[i]?=some (vs[i]'(by lia)):=rD (by lia);obtain⟨f0,f1,f2,f3,f4,f5⟩:=hf it (by simp);refine wpAny_pyNext_dict_item (k:=(vs[i]'(by lia)).1) (v:=(vs[i]'(by lia)).2) st hd hx λkey h' hk u9 sb=>?_
  have I1:Inv X pins σ H { s with heap:=h' }:=I.turned (t':=s.toks) (λb o hb e=>(sb.2 b hb).trans e) f0 f1 f3 f4 f5;obtain⟨oi,e,c,d⟩:=id u9;obtain⟨v,hv⟩:=C2 (k:=(vs[i]'(by lia)).1) (x:=(vs[i]'(by lia)).2) rel hx
  exact⟨key,rfl,Ie (s:={ s with heap:=h' }) e c d (by decide) ⟨kV _,H,I1,J4 hk,⟨rfl,_,v,hv,rfl⟩,u9,λb hb=>(hf b hb).1⟩⟩
 done:=by
  intro X hP hw hK hc i pins s σ H E I hf st hg;subst hP hw hK;obtain⟨hi,hq⟩:=hg;have hd:=ho s.heap (I.hok a _ hq).1;have hl:=Ge rel;obtain⟨f0,f1,f2,f3,f4,f5⟩:=hf it (by simp);exact wpAny_pyNext_dict_end (I.ok.hd hc) st hd (oO (by lia)) λh' eb=>⟨rfl,I.turned (t':=s.toks) (λb o hb e=>eb b o hb e) f0 f1 f3 f4 f5⟩
 self:=λ_ _ _ _ _ st h=>wpAny_pyIter_keyiter st h
section
variable {X:Cx}{tg:Expr}
def Zn9(te:TE):TI:=λσ H R=>te σ H λx H1=>∃a kvs,x=.ref a∧((H1 a=some (.dK kvs)∧∀o,R (Itk a o kvs) (upd H1 a (.frz o (.dK kvs))))∨∃o,H1 a=some (.frz o (.dK kvs))∧R (Itk a o kvs) H1)
theorem Ar(he:PE X e te):PI X tg e (Zn9 te):=by
 intro pins s σ H R I h;refine thn (he pins s σ H _ I h) λv s1 ⟨x,H1,I1,r1,q1⟩=>?_;obtain⟨a,kvs,e,q⟩:=q1;subst e;cases r1
 have key:∀(o:Obj) (H2:Hp),Inv X pins σ H2 s1→H2 a=some (.frz o (.dK kvs))→R (Itk a o kvs) H2→wpAny (model X.prog X.w) X.A (pyIter (.ref a)) (PIE X pins σ tg R) X.xe s1:=by
  intro o H2 I2 h2 q2;obtain⟨ho,_,p7,vs,rel,dd⟩:=I2.hok a _ h2;obtain⟨o',es,ep,m9,hx,Zbt,hk,hp,hn⟩:=dd;rw[ho]at m9;cases m9;have at_:∀h:Heap,h.get? a=some o→h.DictAt (Z7 X.prog X.w) a vs ep:=λh e=>⟨o,es,e,hx,Zbt,hk,hp,hn⟩;refine bT p7 (at_ s1.heap ho) ?_;refine⟨s1.heap.objs.size,[s1.heap.objs.size],_,_,H2,rfl,I2.kept (t':=s1.toks) λb o e=>rE _ e,Zay a _ o kvs vs es ep rel at_,⟨_,rR _ rfl,rfl,rfl⟩,λb hb=>?_,q2⟩;have e:b=s1.heap.objs.size:=by simpa using hb
  subst e;exact I2.Mm (rG _) (I2.hok.fresh (rG _))
 rcases q with ⟨hd,q⟩|⟨o,hd,q⟩
 ·obtain⟨hz,p7,vs,rel,dd⟩:=I1.hok a _ hd;obtain⟨o,es,ep,ho,rest⟩:=id dd;have I2:Inv X pins σ (upd H1 a (.frz o (.dK kvs))) s1:=I1.write (x:=a) (e:=a) (t':=s1.toks) (h':=s1.heap) (by rw[hd];exact True.intro) (.inl rfl) (λb u _ e=>e) ⟨o,ho⟩ ⟨ho,hz,p7,vs,rel,dd⟩;exact key o _ I2 Zc (q o)
 ·exact key o H1 I1 hd q
theorem Zfo{a:Addr}{kvs:List (Key×V)}(Pv:Nat→St→Hp→Prop)(h0:Pv 0 σ H)(hl:∀i σ H,i≤kvs.length→Pv i σ H→H a=some (.frz o (.dK kvs)))
  (hs:∀i k v σ H,kvs[i]?=some (k,v)→Pv i σ H→g (kV k) σ H λy0 H2=>tb { D with nx:=Pv (i+1),ct:=Pv (i+1),bk:=D.nx } y0 H2) (hd:∀σ H,Pv kvs.length σ H→D.nx σ H) :
  ∃W:Nat→Nat→St→Hp→Prop,(∃m,W 0 m σ H)∧∀i m σ H,W i m σ H→
   ((Itk a o kvs).stop i H∧D.nx σ H)∨((Itk a o kvs).go i H∧∃N:St→Hp→Prop,(∀x4 H',N x4 H'→∃m',m'<m∧W (i+1) m' x4 H')∧∀x H',(Itk a o kvs).yld i H x H'→g x σ H' λy0 H2=>tb { D with nx:=N,ct:=N,bk:=D.nx } y0 H2):=by
 refine⟨λi m σ H=>m=kvs.length-i∧i≤kvs.length∧Pv i σ H,⟨kvs.length,by simp,oC _,h0⟩,?_⟩;rintro i m σ H ⟨rfl,hi,p⟩;have q:=hl i σ H hi p
 by_cases x5:i<kvs.length
 ·refine .inr ⟨⟨x5,q⟩,Pv (i+1),λx4 H' p'=>⟨kvs.length-(i+1),by lia,rfl,x5,p'⟩,λx H' y=>?_⟩;obtain⟨e,k,v,hk,ex⟩:=y;subst e ex;exact hs i k v σ _ hk p
 ·have e:i=kvs.length:=by lia
  subst e;exact .inl ⟨⟨rfl,q⟩,hd σ H p⟩
end
section
variable {P:Program}{w:World}{A:Around}{E:aC}{s:Shared}
theorem Bb{t:Addr}{us:aO}{x:Value}(hi:s.heap.IsTupleIter it t i)(ht:s.heap.IsTuple t us)(hx:us[i]?=some x)
  (q:∀h',h'.IsTupleIter it t (i+1)→Heap.SameBut it s.heap h'→Q x { s with heap:=h' }):wpAny (model P w) A (Builtin.SmallTypes.nextOf (.ref it)) Q E s:=by
 obtain⟨o,e0,ec,ed⟩:=id hi;obtain⟨ot,e1,_,n,e2⟩:=ht;unfold Builtin.SmallTypes.nextOf;refine rB (lE (name:=Str.ofString "__next__") hi.typeIs fM (lD fM hi.typeIs F.entry_tuple_iterator_next ?_ (F.args_tuple_iterator_next_1 _)));refine rB (m:=field (.ref it) 0) (dY e0 ed (x:=.ref t) rfl ?_);show wpAny _ _ (ite ((Value.ref t==Value.none)=true) _ _) _ _ s;refine(if_neg (show ¬ (Value.ref t==Value.none)=true from rU))▸?_;refine rB (m:=field (.ref it) 1) (dY e0 ed (x:=.int i 0) rfl ?_);refine rB (m:=seqItems? (.ref t)) (bL e1 e2 ?_);simp only[lX,hx];refine rB (dP e0 ed (by simp) (rF ⟨x,rfl,rF (q _ ⟨_,lQ _ e0 (cY (fG ed _)),(bU ..).trans ec,?_⟩ (lM ..))⟩));rw[fG ed];simp[rawInt]
theorem Zbv{t:Addr}{us:aO}(hh:A.handled=none)(hi:s.heap.IsTupleIter it t i)(ht:s.heap.IsTuple t us)(hx:us[i]?=none)
  (q:∀h' e,Heap.ExtBut it s.heap h'→(∃o,h'.get? e=some o∧o.cls=.type "StopIteration")→E (.ref e) { s with heap:=h' }):wpAny (model P w) A (Builtin.SmallTypes.nextOf (.ref it)) Q E s:=by
 obtain⟨o,e0,ec,ed⟩:=id hi;obtain⟨ot,e1,_,n,e2⟩:=ht;unfold Builtin.SmallTypes.nextOf;refine rB (lE (name:=Str.ofString "__next__") hi.typeIs fM (lD fM hi.typeIs F.entry_tuple_iterator_next ?_ (F.args_tuple_iterator_next_1 _)));refine rB (m:=field (.ref it) 0) (dY e0 ed (x:=.ref t) rfl ?_);show wpAny _ _ (ite ((Value.ref t==Value.none)=true) _ _) _ _ s;refine(if_neg (show ¬ (Value.ref t==Value.none)=true from rU))▸?_;refine rB (m:=field (.ref it) 1) (dY e0 ed (x:=.int i 0) rfl ?_);refine rB (m:=seqItems? (.ref t)) (bL e1 e2 ?_);simp only[lX,hx];refine rB (dA (rB (dP e0 ed (by simp) (rB (m:=newExc (.type "StopIteration") []) ?_))));simp only[newExc,newTuple,raiseNew];refine rB (pX (rB (m:=firstArgMember _ _) (bM (a:=Value.none) (by first|rfl|(simp only[firstArgMember];rfl)) (pX ?_ (by size_fits)))) (by size_fits));refine rB (bQ ?_)
 first|rw[show A.in1.handled=none from hh]|rw[hh]
 exact rB (rF (wpAny_throw (q _ _ (((lM ..).extBut.push _).push _) ⟨_,rR _ rfl,rfl⟩)))
theorem Zfz(hh:A.handled=none)(it t:Addr)(y8:t≠it)(us:aO):Draws P w A it [it,t] us.size (λi v=>us[i]?=some v) (λi h=>h.IsTupleIter it t i∧h.IsTuple t us) where
 live:=λ_ _ ⟨⟨o,e,_⟩,_⟩=>⟨o,e⟩
 frame:=λ_ _ _ ⟨a,b⟩ k=>⟨a.at λo e=>k it (by simp) o e,b.at λo e=>k t (by simp) o e⟩
 item:=λi s Q E hi st q=>Bb st.1 st.2 (x:=us[i]) (by simp[hi]) λh' a b=>q _ h' s.toks (by simp[hi]) ⟨a,st.2.extBut b.extBut y8⟩ b
 done:=λs Q E st q=>Zbv hh st.1 st.2 (by simp) q
open AutoSeq1 (wpAny_loadPart') in
theorem Zfv(t:Addr)(us:aO)(n:Nat)(dx:ZA)(sl:aP):
  Meets (Builtin.«enumerate.__new__» ⟨[.type "enumerate",.ref t],[]⟩) (λ_ R s=>s.heap.get? t=some { cls:=.type "tuple",dict:=dx,data:=.seq us n,slots:=sl }∧
   R (.ok (.ret (.ref (s.heap.push { cls:=.type "tuple_iterator",data:=.fields #[.ref t,.int 0 0] }).objs.size))) { s with heap:=(s.heap.push { cls:=.type "tuple_iterator",data:=.fields #[.ref t,.int 0 0] }).push { cls:=.type "enumerate",data:=.fields #[.none,.bool false,.ref s.heap.objs.size,rawInt 0,.none,.none] } }):=
 .of_wp λprog w A R s h=>by
  obtain⟨hp,g,d,tk,os⟩:=s;obtain⟨ht,q⟩:=h;have Rk:=sub_enumerate;have hT:Heap.IsTuple (Shared.heap ⟨hp,g,d,tk,os⟩) t us:=⟨_,ht,rfl,n,rfl⟩
  wp_walk using oA ht
  refine wpAny_stack_any λst=>rF ?_
  split
  ·rename_i c _ _ _ _ _
   cases (c==Value.type "enumerate")<;>(wp_walk using oA ht,cD hT;exact⟨_,rfl,q⟩)
  ·wp_walk using oA ht,cD hT
   exact⟨_,rfl,q⟩
theorem Bk{t:Addr}{us:aO}(hT:s.heap.IsTuple t us)
  (q:∀h',IsEnum h' (s.heap.objs.size+1) s.heap.objs.size 0 .none→h'.IsTupleIter s.heap.objs.size t 0→h'.objs.size=s.heap.objs.size+2→(∀b o,s.heap.get? b=some o→h'.get? b=some o)→Q (.ref (s.heap.objs.size+1)) { s with heap:=h' }) :
  wpAny (model P w) A (call (.type "enumerate") [.ref t]) Q E s:=by
 obtain⟨⟨c,dx,dt,sl⟩,ht,ec,n,ed⟩:=hT;obtain rfl:c=.type "tuple":=ec;obtain rfl:dt=.seq us n:=ed;refine callType_new F.called_enumerate (by decide) (F.typeCall_enumerate_1 _) (F.newCall_enumerate_1 _) (λobj=>bD obj _) F.entry_enumerate_new (Zfv t us n dx sl) ⟨ht,?_⟩;have z:(s.heap.push { cls:=.type "tuple_iterator",data:=.fields #[.ref t,.int 0 0] }).objs.size=s.heap.objs.size+1:=iG ..;show _∧_;have en:=rR (s.heap.push { cls:=.type "tuple_iterator",data:=.fields #[.ref t,.int 0 0] }) (o:={ cls:=.type "enumerate",data:=.fields #[.none,.bool false,.ref s.heap.objs.size,rawInt 0,.none,.none] }) rfl;rw[z]at en ⊢;exact⟨⟨_,en,rfl⟩,q _ en ⟨_,rE _ (rR _ rfl),rfl,rfl⟩ (by rw[iG,z]) λb o x=>rE _ (rE _ x)⟩
end
theorem Inv.Zgn(I:Inv X pins σ H s)(k:∀b o,b∉fp→s.heap.get? b=some o→h'.get? b=some o)(hf:∀b∈fp,Ku X pins H b):
  Inv X pins σ H { s with heap:=h',toks:=t' }:=by
 have gQ:∀b u,H b=some u→b∉fp:=λb u e z=>by rw[(hf b z).1]at e;cases e
 refine I.step (g':=s.gens) (d':=s.drawn) (ch:=fp) (λb hb=>?_) (λb o _ _ hc e _=>k b o hc e) (λb o _ _ hc e _=>⟨o.slots,k b o hc e⟩) (λ_ _ _ _ n=>n) (λb o hc e=>⟨o,k b o hc e⟩) (λ_ _ e=>e) (λ_ _ _ e=>e) (λb ps e=>⟨#[],by rw[e];simp⟩) (λm hm=>?_) (λb u e=>?_) I.bare
 ·obtain⟨_,f1,_,f3,f4,f5⟩:=hf b hb;exact⟨f3,f1,f4,f5⟩
 ·obtain⟨o,es,ep,ho,r⟩:=hm;exact⟨o,es,ep,k _ o (λz=>(hf _ z).2.1 rfl) ho,r⟩
 ·refine(I.hok b u e).Pr (λc v hc q=>k c v (λy=>?_) q) (λ_ q=>q) λ_ _ q=>q
  rcases hc with z|z
  ·rw[z]at y;exact gQ b u e y
  ·exact gQ c _ z y
def ItE(Sq:Hp→List V→Prop):It:=
 ⟨λi H=>∃xs x,Sq H xs∧xs[i]?=some x,λi H x H'=>∃p y,x=.ref p∧H p=none∧H'=upd H p (.tup [.int i,y])∧∀xs,Sq H xs→xs[i]?=some y,λi H=>∃xs,Sq H xs∧xs.length=i⟩
theorem R8{h1 h2:Heap}{e:Addr}{tk:Nat}(I:Inv X pins σ H s)(hf:∀b∈[e,it],Ku X pins H b)(ru:RelV y u)
  (ht:h1.get? s.heap.objs.size=some { cls:=.type "tuple",data:=.seq #[.int i tk,u] }) (k:∀b o,b≠e→b≠it→s.heap.get? b=some o→h1.get? b=some o) (sb:Heap.SameBut e h1 h2) (j6:e<s.heap.objs.size) (t5:it<s.heap.objs.size) :
  Inv X pins σ (upd H s.heap.objs.size (.tup [.int i,y])) { s with heap:=h2,toks:=t' }∧∀b∈[e,it],upd H s.heap.objs.size (.tup [.int i,y]) b=none:=by
 have hn:∀b∈[e,it],upd H s.heap.objs.size (.tup [.int i,y]) b=none:=λb hb=>by
  have j5:b=e∨b=it:=by simpa using hb
  have x5:b<s.heap.objs.size:=by
   rcases j5 with z|z
   ·rw[z];exact j6
   ·rw[z];exact t5
  rw[Zk (rV x5)];exact(hf b hb).1
 have I1:Inv X pins σ (upd H s.heap.objs.size (.tup [.int i,y])) { s with heap:=s.heap.push { cls:=.type "tuple",data:=.seq #[.int i tk,u] },toks:=s.toks }:=
  I.laid (λb o q=>rE _ q) (rG _) ⟨(by show 2≤sizeLine;decide),[.int i tk,u],.cons ⟨tk,rfl⟩ (.cons ru .nil),⟨_,rR _ rfl,rfl,_,rfl⟩⟩
 have I2:=I1.Zgn (fp:=[e,it]) (h':=h2) (t':=t') (λb o hb q=>?_) (λb hb=>⟨hn b hb,(hf b hb).2⟩)
 ·exact⟨I2,hn⟩
 have hb1:b≠e:=λz=>hb (by simp[z]);have xG:b≠it:=λz=>hb (by simp[z]);refine(sb.2 b hb1).trans ?_
 rcases Heap.get?_push_cases q with ⟨z1,z2⟩|z
 ·rw[z1,z2];exact ht
 ·exact k b o hb1 xG z
theorem Dx{es:aV}(a e it:Addr)(b9:e≠it):
  Turn P w K (.Tuple es n pos) (ItE λH xs=>SqL K H a xs) [e,it] e (λi h=>(∃old,IsEnum h e it i old)∧h.IsListIter it a i) where
 mem:=by simp
 obj:=λi h st b hb=>by
  obtain⟨⟨old,he⟩,oi,e1,c1,d1⟩:=st;have j5:b=e∨b=it:=by simpa using hb
  rcases j5 with z|z
  ·subst z;exact⟨_,he,λv z=>by cases z⟩
  ·subst z;exact⟨oi,e1,λv z=>by rw[d1]at z;cases z⟩
 keep:=λi h h' st k=>⟨let ⟨old,he⟩:=st.1;⟨old,k e (by simp) _ he⟩,st.2.at λo q=>k it (by simp) o q⟩
 item:=by
  intro X hP hw hK hc i pins s σ H E I hf st hg;subst hP hw hK;obtain⟨xs,x,hq,hx⟩:=hg;obtain⟨its,rv,p,hz⟩:=I.list hq;obtain⟨u,hu,ru⟩:=rv.get hx;obtain⟨⟨old,he⟩,hit⟩:=st;have j6:=rO he;have t5:it<s.heap.objs.size:=by obtain⟨o,q,_⟩:=id hit;exact rO q
  refine wpAny_pyNext_enum_item he hit p.isList (x:=u) (by simpa using hu) b9 λh1 i0 C7 eL qG yE=>⟨_,rfl,?_⟩;refine fN i0 λh2 yC sb=>?_;obtain⟨I2,hn⟩:=R8 (t':=s.toks+1) I hf ru eL yE sb j6 t5;exact⟨.ref s.heap.objs.size,_,I2,rfl,⟨_,x,rfl,I.hok.fresh (rG _),rfl,λys hy=>by rw[I.Ew hy hq];exact hx⟩,⟨⟨_,by simpa using yC⟩,C7.at λo q=>(sb.2 it (lW b9)).trans q⟩,hn⟩
 done:=by
  intro X hP hw hK hc i pins s σ H E I hf st hg;subst hP hw hK;obtain⟨xs,hq,hx⟩:=hg;obtain⟨its,rv,p,hz⟩:=I.list hq;have hl:=rv.length;obtain⟨⟨old,he⟩,hit⟩:=st;obtain⟨f0,f1,f2,f3,f4,f5⟩:=hf it (by simp);exact wpAny_pyNext_enum_end (I.ok.hd hc) he hit p.isList (by simp;lia) λh' eb=>⟨rfl,I.turned (t':=s.toks) (λb o hb q=>eb b o hb q) f0 f1 f3 f4 f5⟩
 self:=λ_ _ _ _ _ st h=>let ⟨_,he⟩:=st.1;iI he h
theorem Dv{es:aV}(a e it:Addr)(b9:e≠it):
  Turn P w K (.Tuple es n pos) (ItE λH xs=>SqT K H a xs) [e,it] e (λi h=>(∃old,IsEnum h e it i old)∧h.IsTupleIter it a i) where
 mem:=by simp
 obj:=λi h st b hb=>by
  obtain⟨⟨old,he⟩,oi,e1,c1,d1⟩:=st;have j5:b=e∨b=it:=by simpa using hb
  rcases j5 with z|z
  ·subst z;exact⟨_,he,λv z=>by cases z⟩
  ·subst z;exact⟨oi,e1,λv z=>by rw[d1]at z;cases z⟩
 keep:=λi h h' st k=>⟨let ⟨old,he⟩:=st.1;⟨old,k e (by simp) _ he⟩,st.2.at λo q=>k it (by simp) o q⟩
 item:=by
  intro X hP hw hK hc i pins s σ H E I hf st hg;subst hP hw hK;obtain⟨xs,x,hq,hx⟩:=hg;obtain⟨its,rv,p,hz⟩:=I.tuple hq;have hl:=rv.length
  have x5:i<its.toArray.size:=by
   have:=(rH.mp hx).1;simp;lia
  obtain⟨⟨old,he⟩,hit⟩:=st;have j6:=rO he;have hT:s.heap.IsTuple a its.toArray:=p;have t5:it<s.heap.objs.size:=by obtain⟨o,q,_⟩:=id hit;exact rO q
  have nat:a≠it:=λz=>by
   obtain⟨o,q,c,_⟩:=id hit;obtain⟨o2,q2,c2,_⟩:=id hT;rw[z,q]at q2;cases q2;rw[c]at c2
   injection c2 with c2
   exact absurd c2 (by decide)
  have qX:a≠e:=λz=>by
   obtain⟨o2,q2,c2,_⟩:=id hT;rw[z,he]at q2;cases q2
   injection c2 with c2
   exact absurd c2 (by decide)
  have kY:e∉[it,a]:=by simp[b9,lW qX]
  refine cL (Zfz (A:=X.A.in1) (I.ok.hd hc) it a nat its.toArray) he ⟨hit,hT⟩ x5 b9 kY λu h1 tk hu i0 C7 eL qG yE=>⟨_,rfl,?_⟩;refine fN i0 λh2 yC sb=>?_;obtain⟨u',hu',ru⟩:=rv.get hx
  have eu:u=u':=by
   have h3:its[i]?=some u:=by simpa using hu
   rw[hu']at h3;exact(Option.some.inj h3).symm
  subst eu;obtain⟨I2,hn⟩:=R8 (t':=tk+1) I hf ru eL yE sb j6 t5;exact⟨.ref s.heap.objs.size,_,I2,rfl,⟨_,x,rfl,I.hok.fresh (rG _),rfl,λys hy=>by rw[I.Jy hy hq];exact hx⟩,⟨⟨_,by simpa using yC⟩,C7.1.at λo q=>(sb.2 it (lW b9)).trans q⟩,hn⟩
 done:=by
  intro X hP hw hK hc i pins s σ H E I hf st hg;subst hP hw hK;obtain⟨xs,hq,hx⟩:=hg;obtain⟨its,rv,p,hz⟩:=I.tuple hq;have hl:=rv.length;obtain⟨⟨old,he⟩,hit⟩:=st;have hT:s.heap.IsTuple a its.toArray:=p
  have nat:a≠it:=λz=>by
   obtain⟨o,q,c,_⟩:=id hit;obtain⟨o2,q2,c2,_⟩:=id hT;rw[z,q]at q2;cases q2;rw[c]at c2
   injection c2 with c2
   exact absurd c2 (by decide)
  obtain⟨f0,f1,f2,f3,f4,f5⟩:=hf it (by simp);have ei:i=its.toArray.size:=by simp;lia
  subst ei;exact cP (Zfz (A:=X.A.in1) (I.ok.hd hc) it a nat its.toArray) he ⟨hit,hT⟩ λh' eb=>⟨rfl,I.turned (t':=s.toks) (λb o hb q=>eb b o hb q) f0 f1 f3 f4 f5⟩
 self:=λ_ _ _ _ _ st h=>let ⟨_,he⟩:=st.1;iI he h
section
variable {X:Cx}{es:aV}{n:Nat}{tp:Pos}
def Zn8(K:W.Frag)(te:TE):TI:=λσ H R=>te σ H λx H1=>∃a xs,x=.ref a∧((SqL K H1 a xs∧R (ItE λH xs=>SqL K H a xs) H1)∨(SqT K H1 a xs∧R (ItE λH xs=>SqT K H a xs) H1))
theorem Ob(hg:Gl X "enumerate")(hm:X.mg "enumerate"=none)(he:PE X e te)(hK:X.K=K:=by rfl)
  (h2:starEach [e] X.env=(false,eval e X.env) :: starEach [] X.env:=by rfl):PI X (.Tuple es n tp) (.Call (.Name "enumerate" p) [e] [] pos) (Zn8 K te):=by
 subst hK;intro pins s σ H R I h
 refine lB (V3 I hg hm Sd (oS (thn (Za he Zb h2 pos pins s σ H (λvs H1=>match vs with|[x]=>∃a xs,x=.ref a∧((SqL X.K H1 a xs∧R (ItE λH xs=>SqL X.K H a xs) H1)∨(SqT X.K H1 a xs∧R (ItE λH xs=>SqT X.K H a xs) H1))|_=>False) I h) λus s1 ⟨vs,H1,I1,r1,q1⟩=>?_) h2 rfl))
 obtain⟨x0,e0,a,xs,e1,q⟩:∃x0,vs=[x0]∧∃a xs,x0=.ref a∧((SqL X.K H1 a xs∧R (ItE λH xs=>SqL X.K H a xs) H1)∨(SqT X.K H1 a xs∧R (ItE λH xs=>SqT X.K H a xs) H1)):=by
  match vs,q1 with
  |[x0],q1=>exact⟨x0,rfl,q1⟩
 subst e0 e1;obtain⟨u,rfl,ru⟩:=Vals.one r1;obtain rfl:u=Value.ref a:=ru
 have fp:∀b∈[s1.heap.objs.size+1,s1.heap.objs.size],Ku X pins H1 b:=λb hb=>by
  have j5:b=s1.heap.objs.size+1∨b=s1.heap.objs.size:=by simpa using hb
  rcases j5 with z|z
  ·rw[z];exact I1.Mm (lC _) (I1.hok.fresh (lC _))
  ·rw[z];exact I1.Mm (rG _) (I1.hok.fresh (rG _))
 rcases q with ⟨hx,q⟩|⟨hx,q⟩
 ·obtain⟨its,rv,pl,hz⟩:=I1.list hx;refine call_enumerate_list pl.isList λh' hE hI hsz hk=>iI hE ?_;exact⟨_,[s1.heap.objs.size+1,s1.heap.objs.size],_,_,H1,rfl,I1.kept (t':=s1.toks) hk,Dx a _ _ (cU _),⟨⟨_,hE⟩,hI⟩,fp,q⟩
 ·obtain⟨its,rv,pl,hz⟩:=I1.tuple hx;refine Bk (show s1.heap.IsTuple a its.toArray from pl) λh' hE hI hsz hk=>iI hE ?_;exact⟨_,[s1.heap.objs.size+1,s1.heap.objs.size],_,_,H1,rfl,I1.kept (t':=s1.toks) hk,Dv a _ _ (cU _),⟨⟨_,hE⟩,hI⟩,fp,q⟩
end
theorem Rm{Sq:Hp→List V→Prop}(Pv:Nat→St→Hp→Prop)(h0:Pv 0 σ H)(hl:∀i σ H,i≤xs.length→Pv i σ H→Sq H xs)
  (hs:∀i x σ H p,xs[i]?=some x→Pv i σ H→H p=none→g (.ref p) σ (upd H p (.tup [.int i,x])) λy0 H2=>tb { D with nx:=Pv (i+1),ct:=Pv (i+1),bk:=D.nx } y0 H2) (hd:∀σ H,Pv xs.length σ H→D.nx σ H) :
  ∃W:Nat→Nat→St→Hp→Prop,(∃m,W 0 m σ H)∧∀i m σ H,W i m σ H→
   ((ItE Sq).stop i H∧D.nx σ H)∨((ItE Sq).go i H∧∃N:St→Hp→Prop,(∀x4 H',N x4 H'→∃m',m'<m∧W (i+1) m' x4 H')∧∀x H',(ItE Sq).yld i H x H'→g x σ H' λy0 H2=>tb { D with nx:=N,ct:=N,bk:=D.nx } y0 H2):=by
 refine⟨λi m σ H=>m=xs.length-i∧i≤xs.length∧Pv i σ H,⟨xs.length,by simp,oC _,h0⟩,?_⟩;rintro i m σ H ⟨rfl,hi,p⟩;have q:=hl i σ H hi p
 by_cases x5:i<xs.length
 ·refine .inr ⟨⟨xs,xs[i],q,by simp[x5]⟩,Pv (i+1),λx4 H' p'=>⟨xs.length-(i+1),by lia,rfl,x5,p'⟩,λx H' y=>?_⟩;obtain⟨a,y,e1,hn,e2,hy⟩:=y;subst e1 e2;exact hs i y σ H a (hy xs q) p hn
 ·have e:i=xs.length:=by lia
  subst e;exact .inl ⟨⟨xs,q,rfl⟩,hd σ H p⟩
def Im{Sq:Hp→List V→Prop}{xs:List V}{n:Nat}{fr:List Nat}{g:TG}{tt:TT}{te:TE}{σ:St}{H:Hp}{Q:VK}(Pv:Nat→List V→Hp→Prop)(hk:xs.length<sizeLine)(h0:Pv 0 [] H)(hlen:∀i acc H,Pv i acc H→acc.length≤i)
  (hl:∀i acc H,Pv i acc H→Sq H xs)
  (hs:∀i acc H2 x p,xs[i]?=some x→Pv i acc H2→H2 p=none→g (.ref p) (U6 n fr σ) (upd H2 p (.tup [.int i,x])) λg8 H4=>tt g8 H4 λb H5=>if b=true then te g8 H5 λv H6=>Pv (i+1) (acc++[v]) H6 else Pv (i+1) acc H5)
  (hd:∀acc H2,Pv xs.length acc H2→∀l,H2 l=none→Q (.ref l) (upd H2 l (.lst acc))):=
 Tc (J:=ItE Sq) (n:=n) (fr:=fr) (g:=g) (tt:=tt) (te:=te) (σ:=σ) (Q:=Q) Pv hk h0 hlen (λi acc H hi p=>⟨xs,xs[i],hl i acc H p,by simp[hi]⟩) (λacc H p=>⟨xs,hl _ acc H p,rfl⟩) (λi acc H2 x H3 hi p y=>by
  obtain⟨a,y,e1,hn,e2,hy⟩:=y;subst e1 e2
  exact hs i acc H2 y a (hy xs (hl i acc H2 p)) p hn) hd
section
variable {P:Program}{w:World}{κ:Type} [DecidableEq κ] {knd:HeapKind P w κ}{A:Around}{E:aC}{s:Shared}
theorem Fp{a:Addr}{xs:List (κ×Addr×Value)}{k:κ}{dflt:Value}(hu:knd.room A)(Nn:knd.is s.heap k a)(hm:s.heap.DictOfH knd d xs)(hsz:xs.length≤sizeLine)
  (h1:∀p,atKey xs k=some p→Q p.2 { s with toks:=s.toks+knd.draws k }) (h2:atKey xs k=none→∀h',h'.DictOfH knd d (storedH xs k a dflt)→Heap.SameBut d s.heap h'→Q dflt { s with heap:=h',toks:=s.toks+knd.draws k }) :
  wpAny (model P w) A (dictSetDefault d (.ref a) dflt) Q E s:=by
 obtain⟨o,es,ep,ho,hc,hd,he,xL,hn⟩:=hm;unfold dictSetDefault
 try with_reducible refine oJ ?_
 refine rB (knd.pyHash hu Nn (rB (wpAny_dictFind_heap (s:={ s with toks:=s.toks+knd.draws k }) hu Nn ho hd he xL hn (λno=>?_) λj p hj=>?_)))
 ·have h0:=atKey_none_of_get no;have e:=storedH_new h0 a dflt;have z:=size_of_entries he
  refine rB (dA (rB (wpAny_updateDictKeys (hz:=by lia) (s:={ s with toks:=s.toks+knd.draws k }) ho hd (rF (h2 h0 _ ?_ (lM ..))))));refine⟨_,_,ep+1,lQ _ ho (Obj.isFreed_of_dict (Obj.data_mapDictKeys hd _)),hc.mapDictKeys _,Obj.data_mapDictKeys hd _,?_,?_,?_⟩<;>rw[e]
  ·simp[he,entryOfKey]
  ·intro x hx
   rcases oB.mp hx with y|y
   ·exact knd.keeps (xL x y) ho hd (lM ..)
   ·rw[rL.mp y];exact knd.keeps Nn ho hd (lM ..)
  ·rw[pS,bV];refine⟨hn,by simp,λx hx y hy q=>not_mem_keys_of_get no ?_⟩;have:y=k:=by simpa using hy
   rw[←this,←q];exact hx
 ·refine rB (fP (s:={ s with toks:=s.toks+knd.draws k }) ho hd ?_);rw[entry_at he j,hj];exact rB (dA (rF (h1 p (atKey_of_get hn hj))))
theorem Jm{a:Addr}{k:κ}(hs:(d==sysModules)=false)(dflt:Value):
  MeetsIn P w (Builtin.«dict.setdefault» ⟨[.ref d,.ref a,dflt],[]⟩) (λA R s=>knd.room A.in1∧knd.is s.heap k a∧∃xs,s.heap.DictOfH knd d xs∧xs.length≤sizeLine∧
   (∀p,atKey xs k=some p→R (.ok (.ret p.2)) { s with toks:=s.toks+knd.draws k })∧(atKey xs k=none→∀h',h'.DictOfH knd d (storedH xs k a dflt)→Heap.SameBut d s.heap h'→R (.ok (.ret dflt)) { s with heap:=h',toks:=s.toks+knd.draws k })):=
 .of_wp λA R s ⟨hu,hk,xs,hm,hz,h1,h2⟩=>by
  unfold Builtin.«dict.setdefault» Builtin.Dict.keyAndDefault;refine rB (rB (dO hm.typeIs (rF ?_)));show wpAny _ _ (ite ((d==sysModules)=true) _ (dictSetDefault d (.ref a) dflt >>= _)) _ _ s;rw[hs,if_neg rU];exact rB (Fp hu hk hm hz (λp q=>rF ⟨_,rfl,h1 p q⟩) λn h' a b=>rF ⟨_,rfl,h2 n h' a b⟩)
end
section
variable {X:Cx}
def Zkg(td ty tx:TE):TE:=λσ H Q=>td σ H λx H1=>∃a,x=.ref a∧IsD H1 a∧ty σ H1 λy H2=>tx σ H2 λz H3=>∃kvs k b,H3 a=some (.dT kvs)∧y=.ref b∧H3 b=some (.tup (k.map kV))∧kvs.length<sizeLine∧
 (∀v,Xj kvs k=some v→Q v H3)∧(Xj kvs k=none→Q z (upd H3 a (.dT (putK kvs k z))))
theorem Zd8{o f:Expr}{td ty tx:TE}(hu:X.A.units+1<cLine)(ho:PE X o td)(he:PE X e ty)(hf:PE X f tx)(m:M2 X o "setdefault" apos e f Xs):PE X (.Call (.Attribute o "setdefault" apos) [e,f] [] Xs) (Zkg td ty tx):=by
 intro pins s σ H Q I h;refine bS m.base m.few m.line cK fA PySem.F.type_dict_setdefault (thn (ho pins s σ H _ I h) λu s1 ⟨x,H1,I1,rx,a,ex,d,q1⟩=>?_);subst ex;obtain rfl:u=Value.ref a:=rx;obtain⟨t1,t2,_⟩:=Ze7 I1 d;refine⟨t1,t2,?_⟩;rw[m.trees]
 refine dG rfl (dR (lU (thn (he pins s1 σ H1 _ I1 q1) λiv s2 ⟨y,H2,I2,ry,q2⟩=>
  lU (thn (hf pins s2 σ H2 _ I2 q2) λfv s3 ⟨z,H3,I3,rz,kvs,k,b,hk,ey,hb,x5,q3,q4⟩=>fO ?_))))
 subst ey;obtain rfl:iv=Value.ref b:=ry;obtain⟨hz,p7,xs,rel,dd⟩:=Zfx I3.hok hk;have yN:xs.length≤sizeLine:=by rw[←iY rel];exact hz
 refine call_meetsIn fA dd.typeIs PySem.F.entry_dict_setdefault (bE _ _ _) (Jm (knd:=tupleKind (Z7 X.prog X.w)) (k:=k) p7 fv) ⟨tupleKind_room_in1 hu,Tr I3.hok hb,xs,dd,yN,λp hp=>?_,λhn h' c6 hs=>?_⟩
 ·have r:=rel.val k;rw[hp]at r
  cases hv:Xj kvs k with
  |none=>rw[hv]at r;exact r.elim
  |some v=>
   rw[hv]at r;exact⟨v,H3,I3.tok _,r,q3 v hv⟩
 ·have r:=rel.val k;rw[hn]at r
  have hv:Xj kvs k=none:=by
   cases hv:Xj kvs k with
   |none=>rfl
   |some v=>rw[hv]at r;exact r.elim
  have hl:(putK kvs k z).length≤sizeLine:=by have:=Wh kvs k z;lia
  obtain⟨q,es,ep,hq,h2,h3,h4,_,h5⟩:=c6;refine⟨z,upd H3 a (.dT (putK kvs k z)),Qa I3 (by rw[hk];exact True.intro) hs ⟨q,hq⟩ ⟨hl,p7,_,(rel.put k hb rz).keeps λc ys ec=>?_,q,es,ep,hq,h2,h3,h4,h5⟩,rz,q4 hv⟩;rw[Zk (Xr ec hk (λz=>nomatch z))];exact ec
end
def isB(b:Bool):Value→Bool
 |.bool c=>b==c
 |_=>false
theorem Kb{b:Bool}(h:isB b v=true):v=.bool b:=by
 cases v<;>simp_all [isB]
def Kq(P:Program)(w:World):PySem.KeyKind P w Bool where
 is:=isB
 hash:=λb=>reduceHash (if b then 1 else 0)
 inj:=λv a b ha hb=>by
  rw[Kb ha]at hb;exact(eq_of_beq hb).symm
 byValue:=λk v h=>by rw[Kb h];rfl
 pyHash:=λ{A E s k v Q} hv h=>by
  rw[Kb hv];refine W.pyHash_slot (T:="bool") rfl F.slot_bool_hash entry_int_hash (args_int_hash _) (beq_builtin_none _) (.inl rfl) ?_;cases k
  ·exact(show wpAny _ _ (do ret (←mkInt 0)) _ _ s from rB (wpAny_mkInt (rF ⟨_,_,rfl,h⟩)))
  ·exact(show wpAny _ _ (do ret (←mkInt 1)) _ _ s from rB (wpAny_mkInt (rF ⟨_,_,rfl,h⟩)))
 eqBool:=λ{A E s a b u v Q} hu hv h=>by
  rw[Kb hu,Kb hv];exact PySem.SeqAt.EqAt.bool_bool a b P w E Q (by cases a<;>cases b<;>exact h)
 «strs»:=λk x t v h=>by cases h
theorem Dr{κ:Type} [DecidableEq κ] {kvs:List (κ×Value)}{k:κ} (h:valueAt kvs k=none) (v:Value) (x:κ):valueAt (stored kvs k v) x=if x=k then some v else valueAt kvs x:=by
 have hn:kvs.find? (λkv=>decide (kv.1=k))=none:=by
  unfold valueAt at h;exact Option.map_eq_none_iff.mp h
 have ha:kvs.any (λkv=>decide (kv.1=k))=false:=by
  rw[List.find?_eq_none]at hn;rw[List.any_eq_false];exact hn
 unfold stored;rw[ha,if_neg rU];unfold valueAt;rw[List.find?_append]
 by_cases c:x=k
 ·subst c;rw[hn,if_pos rfl];simp
 ·rw[if_neg c];have:([(k,v)]:List (κ×Value)).find? (λkv=>decide (kv.1=x))=none:=by simp[lW c]
  rw[this,Option.or_none]
def E9(P:Program)(w:World)(a:Addr)(f:Bool→Option V)(n:Nat):HO:=.ext λh=>(a==sysModules)=false∧∃kvs,h.DictOf (Kq P w) a kvs∧kvs.length≤n∧∀b,Pj (f b) (valueAt kvs b)
theorem Zal{a:Addr}{f:Bool→Option V}{kvs:List (Bool×Value)}(hs:(a==sysModules)=false)(d:h.DictOf (Kq P w) a kvs)(hn:kvs.length≤n)(r:∀b,Pj (f b) (valueAt kvs b)):Z8 P w H h a (E9 P w a f n):=by
 refine⟨⟨hs,kvs,d,hn,r⟩,let ⟨o,_,_,e,_⟩:=d;⟨o,e⟩,λh1 h2 x k=>?_⟩;obtain⟨a1,kvs,⟨o,es,ep,e,r⟩,a3,a4⟩:=x;exact⟨a1,kvs,⟨o,es,ep,k o e,r⟩,a3,a4⟩
section
variable {X:Cx}{pos:Pos}
def Zkk(P:Program)(w:World):TE:=λ_ H Q=>∀p,H p=none→Q (.ref p) (upd H p (E9 P w p (λ_=>none) 0))
theorem Zec(hP:X.prog=P:=by rfl)(hw:X.w=w:=by rfl):PE X (.Dict [] [] pos) (Zkk P w):=by
 subst hP hw
 exact λpins s σ H Q I h=>
 wpAny_Dict_empty ⟨.ref s.heap.objs.size,_,I.laid (a:=s.heap.objs.size) (o:=E9 X.prog X.w s.heap.objs.size (λ_=>none) 0) (t':=s.toks) (λ_ _ q=>rE _ q) (rG _) (Zal (beq_eq_false_iff_ne.mpr (lW (rV I.big))) (Heap.DictOf.new s.heap) (oC _) λ_=>True.intro),rfl,h _ (I.hok.fresh (rG _))⟩
def Zkh(P:Program)(w:World)(td ty tx:TE):TE:=λσ H Q=>td σ H λx H1=>∃a f n,x=.ref a∧H1 a=some (E9 P w a f n)∧ty σ H1 λy H2=>tx σ H2 λz H3=>∃b f n,H3 a=some (E9 P w a f n)∧y=.bl b∧n<sizeLine∧
 (∀v,f b=some v→Q v H3)∧(f b=none→Q z (upd H3 a (E9 P w a (λx=>if x=b then some z else f x) (n+1))))
theorem Zd9{o g:Expr}{td ty tx:TE}(ho:PE X o td)(he:PE X e ty)(hf:PE X g tx)(m:M2 X o "setdefault" apos e g Xs)(hP:X.prog=P:=by rfl)(hw:X.w=w:=by rfl):PE X (.Call (.Attribute o "setdefault" apos) [e,g] [] Xs) (Zkh P w td ty tx):=by
 subst hP hw;intro pins s σ H Q I h;refine bS m.base m.few m.line cK fA PySem.F.type_dict_setdefault (thn (ho pins s σ H _ I h) λu s1 ⟨x,H1,I1,rx,a,f,n,ex,d,q1⟩=>?_);subst ex;obtain rfl:u=Value.ref a:=rx;obtain⟨⟨_,kvs1,d1,_⟩,_⟩:=I1.hok a _ d;refine⟨d1.typeIs,λb e=>?_,?_⟩
 ·cases e;obtain⟨o,_,_,ho,hc,_⟩:=d1;exact⟨o,ho,hc.2.1⟩
 rw[m.trees]
 refine dG rfl (dR (lU (thn (he pins s1 σ H1 _ I1 q1) λiv s2 ⟨y,H2,I2,ry,q2⟩=>
  lU (thn (hf pins s2 σ H2 _ I2 q2) λfv s3 ⟨z,H3,I3,rz,b,f,n,hk,ey,x5,q3,q4⟩=>fO ?_))))
 subst ey;obtain rfl:iv=Value.bool b:=ry;obtain⟨⟨p7,kvs,dd,hl,rel⟩,_⟩:=I3.hok a _ hk;refine call_meetsIn fA dd.typeIs PySem.F.entry_dict_setdefault (bE _ _ _) (kt_meets_setdefault (Kq X.prog X.w) (k:=b) a (by show (b==b)=true;simp) p7 fv) ⟨kvs,dd,by lia,λw' hw=>?_,λhn h' c6 hs=>?_⟩
 ·have r:=rel b;rw[hw]at r
  cases hv:f b with
  |none=>rw[hv]at r;exact r.elim
  |some v=>
   rw[hv]at r;exact⟨v,H3,I3.tok _,r,q3 v hv⟩
 ·have r:=rel b;rw[hn]at r
  have hv:f b=none:=by
   cases hv:f b with
   |none=>rfl
   |some v=>rw[hv]at r;exact r.elim
  refine⟨z,upd H3 a (E9 X.prog X.w a (λx=>if x=b then some z else f x) (n+1)),Qa I3 (by rw[hk];exact True.intro) hs (let ⟨q,_,_,e,_⟩:=c6;⟨q,e⟩) (Zal p7 c6 (pQ (stored_length_le _ _ _) (by lia)) λx=>?_),rz,q4 hv⟩;rw[Dr hn]
  by_cases c:x=b
  ·rw[if_pos c,if_pos c];exact rz
  ·rw[if_neg c,if_neg c];exact rel x
end
def Mk(ns:List Int):List Int:=firstMet (λi=>ns.getD i 0) ns.length
theorem Lb:∀{ns:List Int}{us:aJ},Vals (ns.map V.int) us→IntsAre us ns
 |[],_,r=>by cases r;exact .nil
 |n :: ns,_,r=>by
  cases r with
  |cons h t=>
   obtain⟨k,rfl⟩:=h;exact .cons _ _ (Lb t)
section
variable {X:Cx}
inductive Zdr(K:W.Frag)(xs:List V)(H:Hp)(Q:VK):Prop
 |mk(p ns:_)(h1:xs=[.ref p])(h2:SqL K H p (ns.map V.int))(h3:ns.length+1<scanBound)(h4:∀l,H l=none→Q (.ref l) (upd H l (.set (λk=>(Mk ns).any (· == k)) (Mk ns).length))):Zdr K xs H Q
def Znl(K:W.Frag):List V→Hp→VK→Prop:=λxs H Q=>Zdr K xs H Q
theorem Ip(hc:X.calm=true)(hK:X.K=K:=by rfl):Y4 X (.type "set") (Znl K):=by
 subst hK;intro pins s σ H xs us Q I r h;obtain⟨p,ns,rfl,hp,hz,q⟩:=h;obtain⟨u,rfl,ru⟩:=vals1 r;obtain rfl:u=Value.ref p:=ru;obtain⟨its,rv,pl,_⟩:=I.list hp;have hl:its.toArray.size=ns.length:=by rw[rQ,←rv.length,rC]
 refine PySem.call_set_list (I.ok.hd hc) pl.isList (ns:=ns) (Lb rv) (by rw[hl];exact hz) λh' tk hS k=>?_;rw[hl]at hS;exact⟨.ref s.heap.objs.size,_,I.laid (λb o e=>k b o (rO e) e) (rG _) (show Z8 X.prog X.w _ h' _ (.set (λk=>(Mk ns).any (· == k)) (Mk ns).length) from hS),rfl,q _ (I.hok.fresh (rG _))⟩
theorem N9:Y4 X (.builtin "len") (λxs H Q=>∃p S n,xs=[.ref p]∧H p=some (.set S n)∧Q (.int (n:Int)) H):=by
 intro pins s σ H xs us Q I r h;obtain⟨p,S,n,rfl,hp,q⟩:=h;obtain⟨u,rfl,ru⟩:=vals1 r;obtain rfl:u=Value.ref p:=ru;obtain⟨o,es,ep,t,ho,hex,hd,_,_,hb,hf,hn⟩:=(show s.heap.SetOf (intKind X.prog X.w) p S n from I.hok p _ hp);subst hn;exact call_len_set ho hex hd hf (by have h:scanBound≤2 ^ 62:=(by decide);lia) ⟨.int (es.size:Int),H,I.tok _,⟨_,rfl⟩,q⟩
end
def Zmy(P:Addr)(L:List aK)(fdOf:Value→Addr→Value→FuncData)(q:Str)(i:Nat):TS:=λD σ H=>Tb P L H∧
 ∀H' f c ct doc,V8 P H H'→Tb P L H'→H f=none→H' f=some (FnO f (fdOf doc c ct))→H' c=some (CdO c q)→D.nx (σ.set i (some (.ref f))) H'
section
variable {X:Cx}{name:Str}{params:Arguments}{body:List Stmt}{scope:Scope}{pos:Pos}{c P:Addr}{L:List aK}{i:Nat}
theorem Zhc(hN:X.N.Nodup)(hi:X.N[i]?=some name)(hx:Loc X.env.scope name)(Sx:X.env.code=.ref c)(C:W.CodeHd X.base c P)(hB:Qn X.mg X.base)(hL:(pos,qualnameIn X.env name name)∈L)(hu:∀x∈L,x.1.line=pos.line→x.1.col=pos.col→x.2=qualnameIn X.env name name)
  (zW:params.defaults=[]:=by rfl) (jH:params.kw_defaults=[]:=by rfl) (ha:annTrees params none X.env=[]:=by rfl) {sc:Scope} (hU:X.env.scope=sc:=by rfl) (mE:∀y∈scope.names,y.2=NameKind.free→sc.names.lookup y.1=some .cell∨sc.names.lookup y.1=some .free:=by decide +kernel)
  (hf:X.fn name=true∨X.env.scope.names.lookup name=some .local:=by first|exact .inl rfl|exact .inr rfl|assumption) :
  PS X (.FunctionDef name params body [] none [] scope none name pos) (Zmy P L (λdoc c ct=>W.fnX name (qualnameIn X.env name name) params body scope (V7 X.env scope.names []) .none .none doc ((X.mg "__name__").getD .none) none (.ref c) ct) (qualnameIn X.env name name) i):=by
 intro pins s σ H D I ⟨⟨ps,hP,ht,hT⟩,hq⟩;have xE:s.heap.get? P=some (W.tabObj ps):=I.hok P _ hP;have hg:=I.mod.glob.keeps I.bk;have hb:=(hB.keeps I.bk).at_ hg xE;have m6:∀y∈scope.names,y.2=NameKind.free→∃c,X.env.cells.lookup y.1=some c:=λy hy e=>I.ok.has y.1 (by subst hU;exact mE y hy e);refine W.nestDef_K zW jH ha (thn (Q:=EP X pins σ λv H'=>D.nx (σ.set i (some v)) H') ?_ λu s1 ⟨v,H1,I1,r1,q1⟩=>S1 I1 hN hi hx r1 (λs2 I2=>⟨_,H1,I2,q1⟩) hf)
 rcases hT _ hL with hn|⟨c2,hc,w9⟩
 ·refine W.makeFunction_K (mg:=X.mg) (V6 m6) I.ok.glob hg Sx (C.keeps I.bk) xE ht hn (Zjt hg xE) hb λc' o4 doc h' tk l4 j8 x5 Zfe mN=>?_;exact Az (fdOf:=λc ct=>W.fnX name (qualnameIn X.env name name) params body scope (V7 X.env scope.names []) .none .none doc ((X.mg "__name__").getD .none) none (.ref c) ct) I hP ht hT hu (λH' f c ct a b d e g=>hq H' f c ct doc a b d e g) hn l4 j8 x5 Zfe mN
 ·refine W.makeFunction_hit (mg:=X.mg) (V6 m6) I.ok.glob hg Sx (C.keeps I.bk) xE ht hc hb λo4 doc h' tk hk hsz=>?_;have nf:H h'.objs.size=none:=I.hok.fresh hsz;refine⟨.ref h'.objs.size,_,I.laid (t':=tk) (λb u e=>rE _ (hk b u e)) hsz (C9 (rR _ rfl)),rfl,?_⟩;have e0:Zm H (upd H h'.objs.size (FnO h'.objs.size (W.fnX name (qualnameIn X.env name name) params body scope (V7 X.env scope.names []) .none .none doc ((X.mg "__name__").getD .none) none (.ref c2) o4))):=λb o e=>by rw[Zk (Zi e nf)];exact e
  exact hq _ _ c2 o4 doc e0.t (Tb.same ⟨ps,hP,ht,hT⟩ e0) nf Zc (e0 _ _ w9)
end
theorem Zmc{k:Nat}{cl:List ZH} 
  (S:Zgi N ps scope) (LC:Zat base N ps scope cl fv) (len:∀vs H Q E,sp vs H Q E→vs.length=ps.length)
  (n6:∀vs H Q E,sp vs H Q E→H f=some (FnO f (W.fnX name qual params body scope cl .none .none doc pm none (.ref c) ct))∧H c=some (CdO c qual))
  (Ow:∀(A:Around) (outer:List Env) (s:Shared) (H:Hp) (vs:List V) (Q:VK) (E:XK),Wu k (A.deeper (W.envX qual scope s.heap.objs.size f (.ref c) cl))→sp vs H Q E→
   ∃t,PSs (Il P w K mg base N qual scope f (.ref c) cl A outer s H) body t∧t { nx:=λ_ H'=>Q .non H',rt:=Q } (vs.map some++fv.map some) H) :
  Yc P w K mg base CX0 (k+1) f (W.fnX name qual params body scope cl .none .none doc pm none (.ref c) ct) ps sp:=by
 refine⟨len,λA outer s H args us vs Q E hr e0 hb r y4=>?_⟩;have hl:=len _ _ _ _ y4;obtain⟨hf,hc⟩:=n6 _ _ _ _ y4;have lim:s.heap.NoLimit:=e0.mod.nolimit.keeps λb o e=>(e0.bs b o e).1;refine codeAny_call_function hr.depth (FnO.at_ e0.hok hf) rfl S.co S.gen rfl (CdO.at_ e0.hok hc) (hb _ _ _ _ ?_);refine bB S.Nh (λy hy=>S.par y.1 (dB hy).1) (λh1 z3 eK=>?_) S.kind;have hk:∀b o,s.heap.get? b=some o→h1.get? b=some o:=λb o e=>eK.extBut b o (rV (rO e)) (rE _ e);refine⟨lim.keeps hk,codeAny_func ?_⟩;obtain⟨t,ht,hq⟩:=Ow A outer s H vs Q E (hr.deeper _) y4
 have I:Inv (Il P w K mg base N qual scope f (.ref c) cl A outer s H) [] (vs.map some++fv.map some) H { s with heap:=h1,toks:=s.toks+(ps.zip us).length }:=Zac S LC hr.hd e0 hl r z3 hk;refine iR (ht [] _ _ H _ I hq) (λfl s' hs=>?_) λe s' hs=>hs.elim
 cases fl with
 |ret u=>
  obtain⟨v,x4,H',J,rv,q⟩:=hs;exact⟨v,H',J.os,J.bare,J.base,J.hok,rv,q⟩
 |next=>
  obtain⟨x4,H',J,q⟩:=hs;exact⟨.non,H',J.os,J.bare,J.base,J.hok,rfl,q⟩
 |brk=>
  obtain⟨_,_,_,q⟩:=hs;exact False.elim q
 |cont=>
  obtain⟨_,_,_,q⟩:=hs;exact False.elim q
section
variable {P:Program}{w:World}{κ:Type} [DecidableEq κ] {knd:PySem.KeyKind P w κ}{A:Around}{E:aC}{s:Shared}
theorem Bc{kvs:List (κ×Value)}{k:κ}(hi:s.heap.IsKeyIter it d i kvs.length ep)(hm:s.heap.DictAt knd d kvs ep)(hx:kvs[i]?=some (k,v))
  (q:∀key h',knd.is k key=true→h'.IsKeyIter it d (i+1) kvs.length ep→Heap.SameBut it s.heap h'→Q key { s with heap:=h' }):wpAny (model P w) A (Builtin.SmallTypes.nextOf (.ref it)) Q E s:=by
 obtain⟨o,e0,ec,ed⟩:=id hi;obtain⟨od,es,eo,wF,hW,hk,hp,hn⟩:=id hm;have z:es.size=kvs.length:=by rw[←hp.length];simp
 have x5:i<es.size:=by rw[z];exact(rH.mp hx).1
 have Nn:knd.is k es[i].key=true:=(hp.get? (e:=es[i]) (by simp[x5]) hx).1;unfold Builtin.SmallTypes.nextOf;refine rB (lE (name:=Str.ofString "__next__") hi.typeIs oQ (lD oQ hi.typeIs iZ ?_ (iU _)));refine rB (rF (rB (rB ?_)))
 first|refine rB (oU hi.typeIs (rF (rB (iO e0 ed ?_))))|refine rB (lJ hi.typeIs (rF (rB (iO e0 ed ?_))))
 simp only[show Builtin.Dict_items.ownsTuple "dict_keyiterator"=false by decide,iC,if_false];show wpAny _ _ (ite ((Value.ref d==Value.none)=true) _ _) _ _ s;refine(if_neg (show ¬ (Value.ref d==Value.none)=true from rU))▸?_;refine rB (rF (rB (fP eo hW ?_)));rw[if_neg (by rw[z];simp)];refine rB (rF (rB (cB eo hW ?_)));rw[if_neg (by simp)];refine rF ?_;simp only[show ¬ ((i:Int)<0) from by lia,if_false,lX,fQ x5];refine rB ?_
 first|refine rB (oU hi.typeIs (rF (rB (iP hi.typeIs ?_))))|refine rB (lJ hi.typeIs (rF (rB (iP hi.typeIs ?_))))
 have n8:(s.heap.update it (Obj.mapFields (·.setIfInBounds 1 (rawInt ((i:Int)+1))))).IsKeyIter it d (i+1) kvs.length ep:=by
  refine⟨_,lQ _ e0 (cY (fG ed _)),(bU ..).trans ec,?_⟩;rw[fG ed];simp[rawInt]
 refine rB (m:=setField (.ref it) 1 (rawInt ((i:Int)+1))) (dP e0 ed (by simp) (rB (oJ (rB (iP (s:={ s with heap:=s.heap.update it (Obj.mapFields (·.setIfInBounds 1 (rawInt ((i:Int)+1)))) }) n8.typeIs ?_)))));exact rF (rF ⟨_,rfl,rF (q _ _ Nn n8 (lM ..))⟩)
theorem Zbw{kvs:List (κ×Value)}(hh:A.handled=none)(hi:s.heap.IsKeyIter it d i kvs.length ep)(hm:s.heap.DictAt knd d kvs ep)(hx:kvs[i]?=none)
  (q:∀h' e,Heap.ExtBut it s.heap h'→(∃o,h'.get? e=some o∧o.cls=.type "StopIteration")→E (.ref e) { s with heap:=h' }):wpAny (model P w) A (Builtin.SmallTypes.nextOf (.ref it)) Q E s:=by
 obtain⟨o,e0,ec,ed⟩:=id hi;obtain⟨od,es,eo,wF,hW,hk,hp,hn⟩:=id hm;have z:es.size=kvs.length:=by rw[←hp.length];simp
 have j8:es.size≤i:=by rw[z];simpa using hx
 unfold Builtin.SmallTypes.nextOf;refine rB (lE (name:=Str.ofString "__next__") hi.typeIs oQ (lD oQ hi.typeIs iZ ?_ (iU _)));refine rB (rF (rB (rB ?_)))
 first|refine rB (oU hi.typeIs (rF (rB (iO e0 ed ?_))))|refine rB (lJ hi.typeIs (rF (rB (iO e0 ed ?_))))
 simp only[show Builtin.Dict_items.ownsTuple "dict_keyiterator"=false by decide,iC,if_false];show wpAny _ _ (ite ((Value.ref d==Value.none)=true) _ _) _ _ s;refine(if_neg (show ¬ (Value.ref d==Value.none)=true from rU))▸?_;refine rB (rF (rB (fP eo hW ?_)));rw[if_neg (by rw[z];simp)];refine rB (rF (rB (cB eo hW ?_)));rw[if_neg (by simp)];refine rF ?_;simp only[show ¬ ((i:Int)<0) from by lia,if_false,lX,cQ j8];refine rB ?_
 first|refine rB (oU hi.typeIs (rF ?_))|refine rB (lJ hi.typeIs (rF ?_))
 refine rB (m:=setField (.ref it) 0 .none) (dP e0 ed (by simp) (rB (m:=newExc (.type "StopIteration") []) ?_));simp only[newExc,newTuple,raiseNew];refine rB (pX (rB (m:=firstArgMember _ _) (bM (a:=Value.none) (by first|rfl|(simp only[firstArgMember];rfl)) (pX ?_ (by size_fits)))) (by size_fits));refine rB (bQ ?_)
 first|rw[show A.in1.handled=none from hh]|rw[hh]
 exact rB (rF (wpAny_throw (q _ _ (((lM ..).extBut.push _).push _) ⟨_,rR _ rfl,rfl⟩)))
abbrev Ze0(d:Addr)(n ep:Nat):Obj:={ cls:=.type "dict_keyiterator",data:=.fields #[.ref d,.int 0 0,.int n 0,.int ep 0] }
abbrev Zou(it:Addr):Obj:={ cls:=.type "enumerate",data:=.fields #[.none,.bool false,.ref it,rawInt 0,.none,.none] }
open AutoSeq1 (wpAny_loadPart') in
theorem Zfw(d:Addr)(kvs:List (κ×Value))(ep:Nat):MeetsIn P w (Builtin.«enumerate.__new__» ⟨[.type "enumerate",.ref d],[]⟩) (λ_ R s=>(d==sysModules)=false∧s.heap.DictAt knd d kvs ep∧R (.ok (.ret (.ref (s.heap.push (Ze0 d kvs.length ep)).objs.size))) { s with heap:=(s.heap.push (Ze0 d kvs.length ep)).push (Zou s.heap.objs.size) }):=
 .of_wp λA R s h=>by
  obtain⟨hp,g,dr,tk,os⟩:=s;obtain⟨hs,hm,q⟩:=h;have Rk:=sub_enumerate;obtain⟨⟨c,dx,dt,sl⟩,es,ho,hx,hd,hrest⟩:=id hm;obtain⟨hc,hdx,xT⟩:=hx;obtain rfl:c=.type "dict":=hc;obtain rfl:dt=.dict es ep:=hd
  wp_walk using oA ho
  refine wpAny_stack_any λst=>rF ?_
  split
  ·rename_i c _ _ _ _ _
   cases (c==Value.type "enumerate")<;>(wp_walk using oA ho,bT hs hm;exact⟨_,rfl,q⟩)
  ·wp_walk using oA ho,bT hs hm
   exact⟨_,rfl,q⟩
theorem Bl{kvs:List (κ×Value)}(hs:(d==sysModules)=false)(hm:s.heap.DictAt knd d kvs ep)
  (q:∀h',IsEnum h' (s.heap.objs.size+1) s.heap.objs.size 0 .none→h'.IsKeyIter s.heap.objs.size d 0 kvs.length ep→h'.objs.size=s.heap.objs.size+2→(∀b o,s.heap.get? b=some o→h'.get? b=some o)→Q (.ref (s.heap.objs.size+1)) { s with heap:=h' }) :
  wpAny (model P w) A (call (.type "enumerate") [.ref d]) Q E s:=by
 refine callType_newIn F.called_enumerate (by decide) (F.typeCall_enumerate_1 _) (F.newCall_enumerate_1 _) (λobj=>bD obj _) F.entry_enumerate_new (Zfw (knd:=knd) d kvs ep) ⟨hs,hm,?_⟩;have z:(s.heap.push (Ze0 d kvs.length ep)).objs.size=s.heap.objs.size+1:=iG ..;show _∧_;have en:=rR (s.heap.push (Ze0 d kvs.length ep)) (o:=Zou s.heap.objs.size) rfl;rw[z]at en ⊢;exact⟨⟨_,en,rfl⟩,q _ en ⟨_,rE _ (rR _ rfl),rfl,rfl⟩ (by rw[iG,z]) λb o x=>rE _ (rE _ x)⟩
theorem Zf1(hh:A.handled=none)(it d:Addr)(y8:d≠it)(kvs:List (κ×Value))(ep:Nat):Draws P w A it [it,d] kvs.length (λi v=>∃k x,kvs[i]?=some (k,x)∧knd.is k v=true) (λi h=>h.IsKeyIter it d i kvs.length ep∧h.DictAt knd d kvs ep) where
 live:=λ_ _ ⟨⟨o,e,_⟩,_⟩=>⟨o,e⟩
 frame:=λ_ _ _ ⟨a,b⟩ k=>⟨a.at λo e=>k it (by simp) o e,b.at' λo e=>k d (by simp) o e⟩
 item:=λi s Q E hi st q=>Bc st.1 st.2 (k:=kvs[i].1) (v:=kvs[i].2) (by simp[hi]) λkey h' hk a b=>q _ h' s.toks ⟨kvs[i].1,kvs[i].2,by simp[hi],hk⟩ ⟨a,st.2.extBut b.extBut y8⟩ b
 done:=λs Q E st q=>Zbw hh st.1 st.2 (by simp) q
end
theorem Dy{ex:aV}(a e it:Addr)(b9:e≠it)(o:Obj)(kvs:List (Key×V))(vs:List (Key×Value))(ep:Nat)(rel:KV kvs vs)(ho:∀h:Heap,h.get? a=some o→h.DictAt (Z7 P w) a vs ep):
  Turn P w K (.Tuple ex n pos) (ItE λH xs=>H a=some (.frz o (.dK kvs))∧xs=kvs.map λp=>kV p.1) [e,it] e (λi h=>(∃old,IsEnum h e it i old)∧h.IsKeyIter it a i vs.length ep) where
 mem:=by simp
 obj:=λi h st b hb=>by
  obtain⟨⟨old,he⟩,oi,e1,c1,d1⟩:=st;have j5:b=e∨b=it:=by simpa using hb
  rcases j5 with z|z
  ·subst z;exact⟨_,he,λv z=>by cases z⟩
  ·subst z;exact⟨oi,e1,λv z=>by rw[d1]at z;cases z⟩
 keep:=λi h h' st k=>⟨let ⟨old,he⟩:=st.1;⟨old,k e (by simp) _ he⟩,st.2.at λo q=>k it (by simp) o q⟩
 item:=by
  intro X hP hw hK hc i pins s σ H E I hf st hg;subst hP hw hK;obtain⟨xs,x,⟨hq,yP⟩,hx⟩:=hg;have hd:=ho s.heap (I.hok a _ hq).1;have hl:=Ge rel
  have x5:i<vs.length:=by
   have:=(rH.mp hx).1;rw[yP,rC]at this;lia
  obtain⟨⟨old,he⟩,hit⟩:=st;have j6:=rO he;have t5:it<s.heap.objs.size:=by obtain⟨o,q,_⟩:=id hit;exact rO q
  have nat:a≠it:=λz=>by
   obtain⟨o,q,c,_⟩:=id hit;obtain⟨o2,_,q2,c2,_⟩:=id hd;rw[z,q]at q2;cases q2;have c3:=c2.1;rw[c]at c3
   injection c3 with c3
   exact absurd c3 (by decide)
  have qX:a≠e:=λz=>by
   obtain⟨o2,_,q2,c2,_⟩:=id hd;rw[z,he]at q2;cases q2;have c3:=c2.1
   injection c3 with c3
   exact absurd c3 (by decide)
  have kY:e∉[it,a]:=by simp[b9,lW qX]
  refine cL (Zf1 (knd:=Z7 X.prog X.w) (A:=X.A.in1) (I.ok.hd hc) it a nat vs ep) he ⟨hit,hd⟩ x5 b9 kY λu h1 tk hu i0 C7 eL qG yE=>⟨_,rfl,?_⟩;refine fN i0 λh2 yC sb=>?_;obtain⟨k,x',hk,xL⟩:=hu;obtain⟨v,hv⟩:=C2 rel hk
  have ex:x=kV k:=by
   rw[yP,rJ,hv]at hx;exact(Option.some.inj hx).symm
  subst ex;obtain⟨I2,hn⟩:=R8 (t':=tk+1) I hf (J4 xL) eL yE sb j6 t5;exact⟨.ref s.heap.objs.size,_,I2,rfl,⟨_,kV k,rfl,I.hok.fresh (rG _),rfl,λys hy=>by rw[hy.2,←yP];exact hx⟩,⟨⟨_,by simpa using yC⟩,C7.1.at λo q=>(sb.2 it (lW b9)).trans q⟩,hn⟩
 done:=by
  intro X hP hw hK hc i pins s σ H E I hf st hg;subst hP hw hK;obtain⟨xs,⟨hq,yP⟩,hx⟩:=hg;have hd:=ho s.heap (I.hok a _ hq).1;have hl:=Ge rel;obtain⟨⟨old,he⟩,hit⟩:=st
  have nat:a≠it:=λz=>by
   obtain⟨o,q,c,_⟩:=id hit;obtain⟨o2,_,q2,c2,_⟩:=id hd;rw[z,q]at q2;cases q2;have c3:=c2.1;rw[c]at c3
   injection c3 with c3
   exact absurd c3 (by decide)
  obtain⟨f0,f1,f2,f3,f4,f5⟩:=hf it (by simp);have ei:i=vs.length:=by rw[←hx,yP,rC,hl]
  subst ei;exact cP (Zf1 (knd:=Z7 X.prog X.w) (A:=X.A.in1) (I.ok.hd hc) it a nat vs ep) he ⟨hit,hd⟩ λh' eb=>⟨rfl,I.turned (t':=s.toks) (λb o hb q=>eb b o hb q) f0 f1 f3 f4 f5⟩
 self:=λ_ _ _ _ _ st h=>let ⟨_,he⟩:=st.1;iI he h
section
variable {X:Cx}{ex:aV}{n:Nat}{tp:Pos}
def Zlw(te:TE):TI:=λσ H R=>te σ H λx H1=>∃a kvs,x=.ref a∧((H1 a=some (.dK kvs)∧∀o,R (ItE λH xs=>H a=some (.frz o (.dK kvs))∧xs=kvs.map λp=>kV p.1) (upd H1 a (.frz o (.dK kvs))))∨
 ∃o,H1 a=some (.frz o (.dK kvs))∧R (ItE λH xs=>H a=some (.frz o (.dK kvs))∧xs=kvs.map λp=>kV p.1) H1)
theorem Zd5(hg:Gl X "enumerate")(hm:X.mg "enumerate"=none)(he:PE X e te)(h2:starEach [e] X.env=(false,eval e X.env) :: starEach [] X.env:=by rfl):PI X (.Tuple ex n tp) (.Call (.Name "enumerate" p) [e] [] pos) (Zlw te):=by
 intro pins s σ H R I h
 refine lB (V3 I hg hm Sd (oS (thn (Za he Zb h2 pos pins s σ H (λvs H1=>match vs with|[x]=>∃a kvs,x=.ref a∧((H1 a=some (.dK kvs)∧∀o,R (ItE λH xs=>H a=some (.frz o (.dK kvs))∧xs=kvs.map λp=>kV p.1) (upd H1 a (.frz o (.dK kvs))))∨∃o,H1 a=some (.frz o (.dK kvs))∧R (ItE λH xs=>H a=some (.frz o (.dK kvs))∧xs=kvs.map λp=>kV p.1) H1)|_=>False) I h) λus s1 ⟨vs,H1,I1,r1,q1⟩=>?_) h2 rfl))
 obtain⟨x0,e0,a,kvs,e1,q⟩:∃x0,vs=[x0]∧∃a kvs,x0=.ref a∧((H1 a=some (.dK kvs)∧∀o,R (ItE λH xs=>H a=some (.frz o (.dK kvs))∧xs=kvs.map λp=>kV p.1) (upd H1 a (.frz o (.dK kvs))))∨∃o,H1 a=some (.frz o (.dK kvs))∧R (ItE λH xs=>H a=some (.frz o (.dK kvs))∧xs=kvs.map λp=>kV p.1) H1):=by
  match vs,q1 with
  |[x0],q1=>exact⟨x0,rfl,q1⟩
 subst e0 e1;obtain⟨u,rfl,ru⟩:=Vals.one r1;obtain rfl:u=Value.ref a:=ru
 have key:∀(o:Obj) (H2:Hp),Inv X pins σ H2 s1→H2 a=some (.frz o (.dK kvs))→R (ItE λH xs=>H a=some (.frz o (.dK kvs))∧xs=kvs.map λp=>kV p.1) H2→
   wpAny (model X.prog X.w) X.A (call (.type "enumerate") [.ref a]) (λv s2=>wpAny (model X.prog X.w) X.A (pyIter v) (PIE X pins σ (.Tuple ex n tp) R) X.xe s2) X.xe s1:=by
  intro o H2 I2 h2 q2;obtain⟨ho,_,p7,vs,rel,dd⟩:=I2.hok a _ h2;obtain⟨o',es,ep,m9,hx,Zbt,hk,hp,hn⟩:=dd;rw[ho]at m9;cases m9;have at_:∀h:Heap,h.get? a=some o→h.DictAt (Z7 X.prog X.w) a vs ep:=λh e=>⟨o,es,e,hx,Zbt,hk,hp,hn⟩;refine Bl p7 (at_ s1.heap ho) λh' hE hI hsz hk=>iI hE ?_;refine⟨_,[s1.heap.objs.size+1,s1.heap.objs.size],_,_,H2,rfl,I2.kept (t':=s1.toks) hk,Dy a _ _ (cU _) o kvs vs ep rel at_,⟨⟨_,hE⟩,hI⟩,λb hb=>?_,q2⟩;have j5:b=s1.heap.objs.size+1∨b=s1.heap.objs.size:=by simpa using hb
  rcases j5 with z|z
  ·rw[z];exact I2.Mm (lC _) (I2.hok.fresh (lC _))
  ·rw[z];exact I2.Mm (rG _) (I2.hok.fresh (rG _))
 rcases q with ⟨hd,q⟩|⟨o,hd,q⟩
 ·obtain⟨hz,p7,vs,rel,dd⟩:=I1.hok a _ hd;obtain⟨o,es,ep,ho,rest⟩:=id dd;have I2:Inv X pins σ (upd H1 a (.frz o (.dK kvs))) s1:=I1.write (x:=a) (e:=a) (t':=s1.toks) (h':=s1.heap) (by rw[hd];exact True.intro) (.inl rfl) (λb u _ e=>e) ⟨o,ho⟩ ⟨ho,hz,p7,vs,rel,dd⟩;exact key o _ I2 Zc (q o)
 ·exact key o H1 I1 hd q
end
def Zb1{a:Addr}{o:Obj}{kvs:List (Key×V)}{n:Nat}{fr:List Nat}{g:TG}{tt:TT}{te:TE}{σ:St}{H:Hp}{Q:VK}(Pv:Nat→List V→Hp→Prop)(hk:kvs.length<sizeLine)(h0:Pv 0 [] H)(hlen:∀i acc H,Pv i acc H→acc.length≤i)
  (hl:∀i acc H,Pv i acc H→H a=some (.frz o (.dK kvs)))
  (hs:∀i acc H2 k v,kvs[i]?=some (k,v)→Pv i acc H2→g (kV k) (U6 n fr σ) H2 λg8 H4=>tt g8 H4 λb H5=>if b=true then te g8 H5 λv H6=>Pv (i+1) (acc++[v]) H6 else Pv (i+1) acc H5)
  (hd:∀acc H2,Pv kvs.length acc H2→∀l,H2 l=none→Q (.ref l) (upd H2 l (.lst acc))):=
 Tc (J:=Itk a o kvs) (n:=n) (fr:=fr) (g:=g) (tt:=tt) (te:=te) (σ:=σ) (Q:=Q) Pv hk h0 hlen (λi acc H hi p=>⟨hi,hl i acc H p⟩) (λacc H p=>⟨rfl,hl _ acc H p⟩) (λi acc H2 x H3 hi p y=>by
  obtain⟨e,k,v,hk,ex⟩:=y;subst e ex
  exact hs i acc _ k v hk p) hd
section
variable {P:Program}{w:World}{κ:Type} [DecidableEq κ] {knd:HeapKind P w κ}{A:Around}{E:aC}{s:Shared}
end
section
variable {X:Cx}
end
section
variable {X:Cx}
inductive Aj(K:W.Frag)(xs:List V)(H:Hp)(Q:VK):Prop
 |mk(p:Addr)(ns:List Int)(h1:xs=[.ref p])(h2:SqL K H p (ns.map V.int))(h3:ns.length<64)(h4:∀(q9:List Int) l,q9.Perm ns→q9.Pairwise (·≤·)→H l=none→Q (.ref l) (upd H l (.lst (q9.map V.int)))):Aj K xs H Q
def Zkz(K:W.Frag):List V→Hp→VK→Prop:=λxs H Q=>Aj K xs H Q
theorem Bi(hK:X.K=K:=by rfl):Y4 X (.builtin "sorted") (Zkz K):=by
 subst hK;intro pins s σ H xs us Q I r h;obtain⟨p,ys,rfl,hq,h64,q⟩:=h;obtain⟨u,rfl,ru⟩:=vals1 r;obtain rfl:u=Value.ref p:=ru;obtain⟨its,r',pl,hz⟩:=I.list hq;have hlen:=r'.length;rw[rC]at hlen hz;refine sorted_ints pl.isList (intsAre_of r') (by lia) λout gX a1 a2 a3=>?_;obtain⟨e,he⟩:=sortedAll_at s.heap its out;have hn:H (s.heap.objs.size+1)=none:=I.hok.fresh (lC _);refine⟨.ref (s.heap.objs.size+1),upd H (s.heap.objs.size+1) (.lst (gX.map V.int)),I.laid (t':=s.toks) (λ_ _=>sortedAll_old) (lC _) ⟨?_,out.toList,e,Uv a1,?_⟩,rfl,q gX _ a2 a3 hn⟩
 ·rw[rC,a2.length_eq];exact hz
 ·simpa[seqObj] using he
def Zgr(te:TE):TE:=λσ H Q=>te σ H λx H1=>∃n:Nat,x=.int (n:Int)∧n≤1000∧∀l,H1 l=none→Q (.ref l) (upd H1 l (.lst ((List.range n).map λi:Nat=>V.int (i:Int))))
theorem La:∀(us:aJ) (k:Nat),(∀(i:Nat) v,us[i]?=some v→∃t,v=.int ((k:Int)+(i:Int)) t)→Vals ((List.range' k us.length).map λi:Nat=>V.int (i:Int)) us
 |[],k,_=>.nil
 |u :: us,k,h=>by
  rw[pY,List.range'_succ,rW];refine .cons ?_ (La us (k+1) λi v e=>?_)
  ·obtain⟨t,e⟩:=h 0 u rfl;exact⟨t,by rw[e];simp⟩
  ·obtain⟨t,e'⟩:=h (i+1) v (by simpa using e);refine⟨t,?_⟩;rw[e']
   congr 1
   lia
theorem Za6{p2 Hu:Pos}(hc:X.calm=true)(hg:Gl X "list")(hm:X.mg "list"=none)(jF:Gl X "range")(i4:X.mg "range"=none)(he:PE X e te)
  (h1:starEach [.Call (.Name "range" p2) [e] [] Hu] X.env=(false,eval (.Call (.Name "range" p2) [e] [] Hu) X.env) :: starEach [] X.env:=by rfl)
  (h2:starEach [e] X.env=(false,eval e X.env) :: starEach [] X.env:=by rfl):PE X (.Call (.Name "list" p) [.Call (.Name "range" p2) [e] [] Hu] [] pos) (Zgr te):=by
 intro pins s σ H Q I h;refine lB (V3 I hg hm Sb ?_);refine oS ?_ h1 rfl;rw[h1];show wpAny _ _ (spliced ((false,eval _ X.env) :: backTo pos (starEach [] X.env))) _ _ s
 refine lU (lB (V3 I jF i4 boot_range (oS (thn (Za he Zb h2 Hu pins s σ H (λvs H1=>match vs with|[x]=>∃n:Nat,x=.int (n:Int)∧n≤1000∧∀l,H1 l=none→Q (.ref l) (upd H1 l (.lst ((List.range n).map λi:Nat=>V.int (i:Int))))|_=>False) I h) λus s1 ⟨vs,H1,I1,r1,q1⟩=>?_) h2 rfl)))
 obtain⟨x0,e0,n,e1,hn,q⟩:∃x0,vs=[x0]∧∃n:Nat,x0=.int (n:Int)∧n≤1000∧∀l,H1 l=none→Q (.ref l) (upd H1 l (.lst ((List.range n).map λi:Nat=>V.int (i:Int)))):=by
  match vs,q1 with
  |[x0],q1=>exact⟨x0,rfl,q1⟩
 subst e0 e1;obtain⟨u,rfl,ru⟩:=Vals.one r1;obtain⟨t,rfl⟩:=ru;refine call_range_1 (fO ?_);refine call_list_range (n:=n) (I1.ok.hd hc) (IsRange.new ..) (small_one (by lia) (by lia) (by lia) (by lia)) (by rw[rangeSize_one];split<;>lia) (by lia) λh' sL acc c kp hD Tv=>?_;have le:s1.heap.objs.size≤(s1.heap.push { cls:=.type "range",data:=.fields #[.int 0 s1.toks,.int (n:Int) t,.int 1 (s1.toks+1)] }).objs.size:=by rw[iG];exact lC _
 have qR:∀b o,s1.heap.get? b=some o→h'.get? b=some o:=λb o e=>kp b o (rE _ e)
 have hv:=La acc.toList 0 λi v hi=>by
  obtain⟨t,e⟩:=Tv.2 i v (by rw[←pW];exact hi);exact⟨t,by rw[e];simp⟩
 rw[oH,Tv.1,←List.range_eq_range']at hv;exact⟨.ref _,_,I1.laid (t':=sL) qR le (show Z8 X.prog X.w _ h' _ (.lst ((List.range n).map λi:Nat=>V.int (i:Int))) from⟨by rw[rC,rX,sizeLine_eq];lia,acc.toList,c,hv,by rw[dS];exact hD⟩),rfl,q _ (I1.hok.fresh le)⟩
end
def Bt(h:Heap)(d:Addr)(es:Array DictEntry)(ep:Nat):Prop:=∃o,h.get? d=some o∧o.ExactDict∧o.data=.dict es ep
section
variable {P:Program}{w:World}{A:Around}{E:aC}{s:Shared}{it d:Addr}{i ep:Nat}{es:Array DictEntry}
theorem Bt.typeIs(hm:Bt s.heap d es ep):s.TypeIs (.ref d) "dict":=let ⟨o,h1,h2,_⟩:=hm;⟨o,h1,h2.1⟩
theorem Zg3(hs:(d==sysModules)=false)(hm:Bt s.heap d es ep)(q:Q (.ref s.heap.objs.size) { s with heap:=s.heap.push (Ze0 d es.size ep) }):wpAny (model P w) A (pyIter (.ref d)) Q E s:=by
 have ty:=hm.typeIs;obtain⟨o,e1,e2,e3⟩:=hm;refine bW ty F.slot_dict_iter (lD F.slot_dict_iter ty F.entry_dict_iter ?_ (F.args_dict_iter_1 _));unfold Builtin.«dict.__iter__»;refine rB ?_;unfold Builtin.Dict.dictSlotNone;refine rB (dO ty (rF ?_));show wpAny _ _ (Builtin.Dict.showsAll d >>= _) _ _ s;unfold Builtin.Dict.showsAll;rw[if_neg (by rw[hs];exact rU)];refine rB (rF (rB (fP e1 e3 (rB (cB e1 e3 ?_)))));refine rB (pX (rF ⟨_,rfl,"dict_keyiterator",_,⟨_,rR _ rfl,rfl⟩,oQ.lookup,?_⟩));simpa[rawInt] using q
theorem Hr(hi:s.heap.IsKeyIter it d i es.size ep)(hm:Bt s.heap d es ep)(x5:i<es.size)(q:∀h',h'.IsKeyIter it d (i+1) es.size ep→Heap.SameBut it s.heap h'→Q es[i].key { s with heap:=h' }):
  wpAny (model P w) A (Builtin.«dict_keyiterator.__next__» ⟨[.ref it],[]⟩) (λfin s'=>∃r,fin=.done (.ret r)∧Q r s') E s:=by
 obtain⟨o,e0,ec,ed⟩:=id hi;obtain⟨od,eo,wF,hW⟩:=id hm;refine rB (rF (rB (rB ?_)))
 first|refine rB (oU hi.typeIs (rF (rB (iO e0 ed ?_))))|refine rB (lJ hi.typeIs (rF (rB (iO e0 ed ?_))))
 simp only[show Builtin.Dict_items.ownsTuple "dict_keyiterator"=false by decide,iC,if_false];show wpAny _ _ (ite ((Value.ref d==Value.none)=true) _ _) _ _ s;refine(if_neg (show ¬ (Value.ref d==Value.none)=true from rU))▸?_;refine rB (rF (rB (fP eo hW ?_)));rw[if_neg (by simp)];refine rB (rF (rB (cB eo hW ?_)));rw[if_neg (by simp)];refine rF ?_;simp only[show ¬ ((i:Int)<0) from by lia,if_false,lX,fQ x5];refine rB ?_
 first|refine rB (oU hi.typeIs (rF (rB (iP hi.typeIs ?_))))|refine rB (lJ hi.typeIs (rF (rB (iP hi.typeIs ?_))))
 have n8:(s.heap.update it (Obj.mapFields (·.setIfInBounds 1 (rawInt ((i:Int)+1))))).IsKeyIter it d (i+1) es.size ep:=by
  refine⟨_,lQ _ e0 (cY (fG ed _)),(bU ..).trans ec,?_⟩;rw[fG ed];simp[rawInt]
 refine rB (m:=setField (.ref it) 1 (rawInt ((i:Int)+1))) (dP e0 ed (by simp) (rB (oJ (rB (iP (s:={ s with heap:=s.heap.update it (Obj.mapFields (·.setIfInBounds 1 (rawInt ((i:Int)+1)))) }) n8.typeIs ?_)))));exact rF (rF ⟨_,rfl,q _ n8 (lM ..)⟩)
theorem Hq{Q:ZK}(hi:s.heap.IsKeyIter it d i es.size ep)(hm:Bt s.heap d es ep)(x5:i<es.size)(q:∀h',h'.IsKeyIter it d (i+1) es.size ep→Heap.SameBut it s.heap h'→Q (some es[i].key) { s with heap:=h' }):
  wpAny (model P w) A (pyNext (.ref it)) Q E s:=by
 unfold pyNext;refine rB (wpAny_attempt (lE (name:=Str.ofString "__next__") hi.typeIs oQ (lD oQ hi.typeIs iZ ?_ (iU _))));exact Hr hi hm x5 λh' a b=>rF (q h' a b)
theorem Fv{Qf:Fin→Shared→Prop}(hh:A.handled=none)(hi:s.heap.IsKeyIter it d i es.size ep)(hm:Bt s.heap d es ep)(j8:es.size≤i)(q:∀h' e,Heap.ExtBut it s.heap h'→(∃o,h'.get? e=some o∧o.cls=.type "StopIteration")→E (.ref e) { s with heap:=h' }):
  wpAny (model P w) A (Builtin.«dict_keyiterator.__next__» ⟨[.ref it],[]⟩) Qf E s:=by
 obtain⟨o,e0,ec,ed⟩:=id hi;obtain⟨od,eo,wF,hW⟩:=id hm;refine rB (rF (rB (rB ?_)))
 first|refine rB (oU hi.typeIs (rF (rB (iO e0 ed ?_))))|refine rB (lJ hi.typeIs (rF (rB (iO e0 ed ?_))))
 simp only[show Builtin.Dict_items.ownsTuple "dict_keyiterator"=false by decide,iC,if_false];show wpAny _ _ (ite ((Value.ref d==Value.none)=true) _ _) _ _ s;refine(if_neg (show ¬ (Value.ref d==Value.none)=true from rU))▸?_;refine rB (rF (rB (fP eo hW ?_)));rw[if_neg (by simp)];refine rB (rF (rB (cB eo hW ?_)));rw[if_neg (by simp)];refine rF ?_;simp only[show ¬ ((i:Int)<0) from by lia,if_false,lX,cQ j8];refine rB ?_
 first|refine rB (oU hi.typeIs (rF ?_))|refine rB (lJ hi.typeIs (rF ?_))
 refine rB (m:=setField (.ref it) 0 .none) (dP e0 ed (by simp) (rB (m:=newExc (.type "StopIteration") []) ?_));simp only[newExc,newTuple,raiseNew];refine rB (pX (rB (m:=firstArgMember _ _) (bM (a:=Value.none) (by first|rfl|(simp only[firstArgMember];rfl)) (pX ?_ (by size_fits)))) (by size_fits));refine rB (bQ ?_);rw[hh];exact rB (rF (wpAny_throw (q _ _ (((lM ..).extBut.push _).push _) ⟨_,rR _ rfl,rfl⟩)))
theorem Fu{Q:ZK}(hh:A.handled=none)(hi:s.heap.IsKeyIter it d i es.size ep)(hm:Bt s.heap d es ep)(j8:es.size≤i)(q:∀h',Heap.ExtBut it s.heap h'→Q none { s with heap:=h' }):
  wpAny (model P w) A (pyNext (.ref it)) Q E s:=by
 unfold pyNext;refine rB (wpAny_attempt (lE (name:=Str.ofString "__next__") hi.typeIs oQ (lD oQ hi.typeIs iZ ?_ (iU _))));refine Fv (A:=A.in1) hh hi hm j8 λh' e eb ho=>?_;refine rB (wpAny_isInstance (T:="StopIteration") (b:=true) ho isSubtype_stop ?_);exact rF (q _ eb)
open AutoSeq1 (wpAny_loadPart') in
end
theorem rawT{a:Addr}(ok:HOk P w H h)(e:H a=some (.frz o (.dT kvs))):
  (a==sysModules)=false∧∃(es:Array DictEntry) (ep:Nat) (bs:ZQ),h.get? a=some o∧o.ExactDict∧o.data=.dict es ep∧es.toList.map (·.key)=bs.map Value.ref∧bs.length=kvs.length∧∀(i:Nat) b k v,bs[i]?=some b→kvs[i]?=some (k,v)→H b=some (.tup (k.map kV)):=by
 obtain⟨ho,z,y,xs,r,o',es,ep,h1,h2,h3,h4,h5⟩:=ok a _ e;rw[ho]at h1;cases h1;refine⟨y,es,ep,xs.map (·.2.1),ho,h2,h3,?_,by rw[rC];exact(iY r).symm,?_⟩
 ·rw[h4,pO,pO];rfl
 ·have key:∀{l:List (List Key×V)}{m:List (List Key×Addr×Value)},KT H l m→∀(i:Nat) b k v,(m.map (·.2.1))[i]?=some b→l[i]?=some (k,v)→H b=some (.tup (k.map kV)):=by
   intro l m q
   induction q with
   |nil=>intro i b k v a1 _;simp at a1
   | @cons p q ps qs hq t ih=>
    intro i b k v a1 a2
    cases i with
    |zero=>
     cases a1;cases a2;exact hq.2.1
    |succ i=>exact ih i b k v (by simpa using a1) (by simpa using a2)
  exact key r
theorem Ze1{es:Array DictEntry}{bs:ZQ}(h:es.toList.map (·.key)=bs.map Value.ref):es.size=bs.length∧∀(i:Nat) (hi:i<es.size),∃b,bs[i]?=some b∧es[i].key=.ref b:=by
 have hl:es.size=bs.length:=by
  have:=congrArg List.length h;rwa[rC,rC,oH]at this
 refine⟨hl,λi hi=>⟨bs[i]'(by lia),rD (by lia),?_⟩⟩;have:=congrArg (λz:List Value=>z[i]?) h;simp only[rJ]at this;rw[rD (by rw[oH];exact hi),rD (by lia)]at this;simpa using this
def Dl(a:Addr)(o:Obj)(kvs:List (List Key×V))(bs:ZQ):It:=
 ⟨λi H=>i<kvs.length∧H a=some (.frz o (.dT kvs)),λi H x H'=>H'=H∧∃b,bs[i]?=some b∧x=.ref b,λi H=>i=kvs.length∧H a=some (.frz o (.dT kvs))⟩
theorem Dz(a it:Addr)(o:Obj)(kvs:List (List Key×V))(bs:ZQ)(es:Array DictEntry)(ep:Nat)(hx:o.ExactDict)(hd:o.data=.dict es ep)(hk:es.toList.map (·.key)=bs.map Value.ref)(hl:bs.length=kvs.length):
  Turn P w K tg (Dl a o kvs bs) [it] it (λi h=>h.IsKeyIter it a i es.size ep) where
 mem:=by simp
 obj:=λi h st b hb=>by
  have e:b=it:=by simpa using hb
  subst e;obtain⟨o,e,c,d⟩:=st;exact⟨o,e,λv z=>by rw[d]at z;cases z⟩
 keep:=λi h h' st k=>st.at λo e=>k it (by simp) o e
 item:=by
  intro X hP hw hK hc i pins s σ H E I hf st hg;subst hP hw hK;obtain⟨hi,hq⟩:=hg;obtain⟨k1,k2⟩:=Ze1 hk;have n8:i<es.size:=by lia
  obtain⟨b,hb,ek⟩:=k2 i n8;obtain⟨f0,f1,f2,f3,f4,f5⟩:=hf it (by simp);refine Hq st ⟨o,(I.hok a _ hq).1,hx,hd⟩ n8 λh' u9 sb=>?_
  have I1:Inv X pins σ H { s with heap:=h' }:=I.turned (t':=s.toks) (λb o hb e=>(sb.2 b hb).trans e) f0 f1 f3 f4 f5;obtain⟨oi,e,c,d⟩:=id u9;rw[ek]
  exact⟨.ref b,rfl,Ie (s:={ s with heap:=h' }) e c d (by decide) ⟨.ref b,H,I1,rfl,⟨rfl,b,hb,rfl⟩,u9,λb hb=>(hf b hb).1⟩⟩
 done:=by
  intro X hP hw hK hc i pins s σ H E I hf st hg;subst hP hw hK;obtain⟨hi,hq⟩:=hg;obtain⟨k1,_⟩:=Ze1 hk;obtain⟨f0,f1,f2,f3,f4,f5⟩:=hf it (by simp);exact Fu (I.ok.hd hc) st ⟨o,(I.hok a _ hq).1,hx,hd⟩ (by lia) λh' eb=>⟨rfl,I.turned (t':=s.toks) (λb o hb e=>eb b o hb e) f0 f1 f3 f4 f5⟩
 self:=λ_ _ _ _ _ st h=>wpAny_pyIter_keyiter st h
def Dk(H:Hp)(kvs:List (List Key×V))(bs:ZQ):Prop:=bs.length=kvs.length∧∀(i:Nat) b k v,bs[i]?=some b→kvs[i]?=some (k,v)→H b=some (.tup (k.map kV))
section
variable {X:Cx}{tg:Expr}
theorem frzT{s1:Shared}{a:Addr}(I1:Inv X pins σ H1 s1)(hd:H1 a=some (.dT kvs)):∃o,Inv X pins σ (upd H1 a (.frz o (.dT kvs))) s1:=by
 obtain⟨z,y,xs,r,o,es,ep,h1,h2,h3,h4,h5⟩:=I1.hok a _ hd;refine⟨o,I1.write (x:=a) (e:=a) (t':=s1.toks) (h':=s1.heap) (by rw[hd];exact True.intro) (.inl rfl) (λb u _ e=>e) ⟨o,h1⟩ ⟨h1,z,y,xs,?_,o,es,ep,h1,h2,h3,h4,h5⟩⟩
 have key:∀{l:List (List Key×V)}{m:List (List Key×Addr×Value)},KT H1 l m→KT (upd H1 a (.frz o (.dT kvs))) l m:=by
  intro l m q
  induction q with
  |nil=>exact .nil
  |cons hq t ih=>exact .cons ⟨hq.1,by rw[Zk (Xr hq.2.1 hd λz=>nomatch z)];exact hq.2.1,hq.2.2⟩ ih
 exact key r
def Zfb(te:TE):TI:=λσ H R=>te σ H λx H1=>∃a kvs,x=.ref a∧((H1 a=some (.dT kvs)∧∀o bs,Dk (upd H1 a (.frz o (.dT kvs))) kvs bs→R (Dl a o kvs bs) (upd H1 a (.frz o (.dT kvs))))∨∃o,H1 a=some (.frz o (.dT kvs))∧∀bs,Dk H1 kvs bs→R (Dl a o kvs bs) H1)
theorem Eb(he:PE X e te):PI X tg e (Zfb te):=by
 intro pins s σ H R I h;refine thn (he pins s σ H _ I h) λv s1 ⟨x,H1,I1,r1,q1⟩=>?_;obtain⟨a,kvs,e,q⟩:=q1;subst e;obtain rfl:v=Value.ref a:=r1
 have key:∀(o:Obj) (H2:Hp),Inv X pins σ H2 s1→H2 a=some (.frz o (.dT kvs))→(∀bs,Dk H2 kvs bs→R (Dl a o kvs bs) H2)→wpAny (model X.prog X.w) X.A (pyIter (.ref a)) (PIE X pins σ tg R) X.xe s1:=by
  intro o H2 I2 h2 q2;obtain⟨p7,es,ep,bs,g1,g2,g3,g4,g5,g6⟩:=rawT I2.hok h2;refine Zg3 p7 ⟨o,g1,g2,g3⟩ ?_;refine⟨s1.heap.objs.size,[s1.heap.objs.size],_,_,H2,rfl,I2.kept (t':=s1.toks) λb o e=>rE _ e,Dz a _ o kvs bs es ep g2 g3 g4 g5,⟨_,rR _ rfl,rfl,rfl⟩,λb hb=>?_,q2 bs ⟨g5,g6⟩⟩;have e:b=s1.heap.objs.size:=by simpa using hb
  subst e;exact I2.Mm (rG _) (I2.hok.fresh (rG _))
 rcases q with ⟨hd,q⟩|⟨o,hd,q⟩
 ·obtain⟨o,I2⟩:=frzT I1 hd;exact key o _ I2 Zc (q o)
 ·exact key o H1 I1 hd q
theorem Ii{a:Addr}{bs:ZQ}(Pv:Nat→St→Hp→Prop)(h0:Pv 0 σ H)(hl:∀i σ H,i≤kvs.length→Pv i σ H→H a=some (.frz o (.dT kvs)))
  (hs:∀i b σ H,bs[i]?=some b→Pv i σ H→g (.ref b) σ H λy0 H2=>tb { D with nx:=Pv (i+1),ct:=Pv (i+1),bk:=D.nx } y0 H2) (hd:∀σ H,Pv kvs.length σ H→D.nx σ H) :
  ∃W:Nat→Nat→St→Hp→Prop,(∃m,W 0 m σ H)∧∀i m σ H,W i m σ H→
   ((Dl a o kvs bs).stop i H∧D.nx σ H)∨((Dl a o kvs bs).go i H∧∃N:St→Hp→Prop,(∀x4 H',N x4 H'→∃m',m'<m∧W (i+1) m' x4 H')∧∀x H',(Dl a o kvs bs).yld i H x H'→g x σ H' λy0 H2=>tb { D with nx:=N,ct:=N,bk:=D.nx } y0 H2):=by
 refine⟨λi m σ H=>m=kvs.length-i∧i≤kvs.length∧Pv i σ H,⟨kvs.length,by simp,oC _,h0⟩,?_⟩;rintro i m σ H ⟨rfl,hi,p⟩;have q:=hl i σ H hi p
 by_cases x5:i<kvs.length
 ·refine .inr ⟨⟨x5,q⟩,Pv (i+1),λx4 H' p'=>⟨kvs.length-(i+1),by lia,rfl,x5,p'⟩,λx H' y=>?_⟩;obtain⟨e,b,hb,ex⟩:=y;subst e ex;exact hs i b σ _ hb p
 ·have e:i=kvs.length:=by lia
  subst e;exact .inl ⟨⟨rfl,q⟩,hd σ H p⟩
end
section
variable {X:Cx}{ex:aV}{n:Nat}{tp:Pos}
end
theorem Jk:fillsNumberSlot (.type "tuple") "mul"=pure false:=
 PySem.fillsNumberSlot_seq (id:="tuple.__mul__") (r:=some (.builtin "tuple.__rmul__")) cV.lookup (by decide +kernel) F.slot_tuple_rmul.lookup (by decide +kernel)
theorem Zg0:seqRepeat? (.type "tuple")=pure (some (.builtin "tuple.__mul__")):=by
 unfold seqRepeat?;rw[PySem.seqSlot_of (T:="tuple") (name:="__mul__") (id:="tuple.__mul__") cV.lookup (by decide +kernel),PySem.seqSlot_of (T:="tuple") (name:="__rmul__") (id:="tuple.__rmul__") F.slot_tuple_rmul.lookup (by decide +kernel)];rfl
theorem Zdl(a:Int)(t:Tok)(l:Addr)(items:aO)(n:Nat)(dd:ZA)(sl:aP):
  Meets (Builtin.«int.__rmul__» ⟨[.int a t,.ref l],[]⟩) (λ_ R s=>s.heap.get? l=some { cls:=.type "tuple",dict:=dd,data:=.seq items n,slots:=sl }∧R (.ok (.ret Value.notImplemented)) s):=
 .of_wp λprog w A R s h=>by
  obtain⟨hp,g,d,tk,os⟩:=s;obtain⟨hl,h⟩:=h
  wp_walk
  exact⟨_,rfl,h⟩
open AutoSeq1 (wpAny_loadPart') in
theorem Zer(l:Addr)(items:aO)(n:Nat)(dd:ZA)(sl:aP)(u:Tok):
  Meets (Builtin.«tuple.__mul__» ⟨[.ref l,.int 1 u],[]⟩) (λ_ R s=>s.heap.get? l=some { cls:=.type "tuple",dict:=dd,data:=.seq items n,slots:=sl }∧R (.ok (.ret (Value.ref l))) s):=
 .of_wp λprog w A R s h=>by
  obtain⟨hp,g,d,tk,os⟩:=s;obtain⟨hl,h⟩:=h;have f1:=AutoSeq1.idx_int;have f2:=AutoSeq1.sub_tuple_tuple
  wp_walk using oA hl
  exact⟨_,rfl,h⟩
theorem Ft(a:aO):∀(n:Nat) (acc:aO),((List.replicate n a).foldl (· ++ ·) acc).size=acc.size+n*a.size
 | 0,acc=>by simp
 |n+1,acc=>by
  rw[lP,iA,Ft a n,Array.size_append,Nat.succ_mul];lia
open AutoSeq1 (wpAny_loadPart') in
theorem Zeq(l:Addr)(items:aO)(n:Nat)(dd:ZA)(sl:aP)(k:Int)(u:Tok)(h1:2≤k)(h2:¬ items.isEmpty=true)(hz:items.size*k.toNat≤sizeLine):
  Meets (Builtin.«tuple.__mul__» ⟨[.ref l,.int k u],[]⟩) (λ_ R s=>s.heap.get? l=some { cls:=.type "tuple",dict:=dd,data:=.seq items n,slots:=sl }∧R (.ok (.ret (Value.ref s.heap.objs.size))) { s with heap:=s.heap.push { cls:=Value.type "tuple",data:=Data.seq ((List.replicate k.toNat items).foldl (· ++ ·) #[]) } }):=
 .of_wp λprog w A R s h=>by
  obtain⟨hp,g,d,tk,os⟩:=s;obtain⟨hl,h⟩:=h;have f1:=AutoSeq1.idx_int;have f2:=AutoSeq1.sub_tuple_tuple
  have hs:0<items.size:=by
   rcases fH items.size with z|z
   ·exact absurd (by simpa using z) h2
   ·exact z
  have hk:k.toNat≤sizeLine:=pQ (Nat.le_mul_of_pos_left _ hs) hz
  have c1:¬ ((decide (k < -(2 ^ 63))||decide (k ≥ 2 ^ 63))=true):=by
   rw[sizeLine_eq]at hk;simp;lia
  have c2:¬ ((items.isEmpty||k==1)=true):=by
   have:¬ k=1:=by lia
   simp[this];simpa using h2
  have c3:¬ ((decide (k≤0)||items.isEmpty)=true):=by
   have:¬ k≤0:=by lia
   simp[this];simpa using h2
  have hsz:((List.replicate k.toNat items).foldl (· ++ ·) #[]).size≤sizeLine:=by
   rw[Ft,Array.size_empty,Nat.zero_add,aA];exact hz
  wp_walk using oA hl
  rw[if_neg c1]
  wp_walk using oA hl
  rw[if_neg c2];show wpAny _ _ (ite ((decide (k≤0)||items.isEmpty)=true) _ _) _ _ _;rw[if_neg c3]
  have em:(items.size:Int)*k=((items.size*k.toNat:Nat):Int):=by
   rw[Int.natCast_mul,show ((k.toNat:Nat):Int)=k by lia]
  have c4:¬ ((items.size:Int)*k>(2 ^ 63-1)/8):=by
   rw[em];rw[sizeLine_eq]at hz;lia
  have c5:¬ Builtin.Tuple.tupleTooMany ((items.size:Int)*k)=true:=by
   rw[em];intro z;have z':((items.size*k.toNat:Nat):Int)>(sizeLine:Int):=of_decide_eq_true z;lia
  show wpAny _ _ (ite ((items.size:Int)*k>(2 ^ 63-1)/8) _ _) _ _ _;rw[if_neg c4];show wpAny _ _ (ite (Builtin.Tuple.tupleTooMany ((items.size:Int)*k)=true) _ _) _ _ _;rw[if_neg c5]
  wp_walk
  exact⟨_,rfl,h⟩
section
variable {X:Cx}
inductive Zds(x:V)(y:V)(H:Hp)(Q:VK):Prop
 |mk(a:Addr)(xs:List V)(n:Nat)(h1:x=.ref a)(h2:y=.int (n:Int))(h3:H a=some (.tup xs))(h4:xs≠[])(h5:0<n)(h6:xs.length*n≤1000)(h7:∀p H',Zm H H'→H' p=some (.tup (List.replicate n xs).flatten)→Q (.ref p) H'):Zds x y H Q
def Znm:R2:=λx y H Q=>Zds x y H Q
theorem Zhg:OpR X (binaryOp .Mult) Znm:=by
 intro pins s σ H x y v u Q I rx ry h;obtain⟨a,xs,n,rfl,rfl,ha,y8,hn,hz,q⟩:=h;obtain rfl:v=Value.ref a:=rx;obtain⟨t,rfl⟩:=ry;obtain⟨its,r,ht,_⟩:=I.tuple (SqT.of ha);obtain⟨⟨cls,dd,data,sl⟩,ho,hc,m,hd⟩:=id ht;simp only at hc hd;subst hc hd;have hl:=r.length
 refine wpAny_binaryOp_repeat_ref (T:="tuple") (U:="int") (by decide) ⟨_,ho,rfl⟩ (λs'=>typeIs_int s' n t) Jk F.fills_int_mul bA Zg0 F.slot_int_index.lookup
  (call_meets bA (typeIs_int s n t) F.entry_int_rmul (F.args_int_rmul_2 _ _) (Zdl n t a its.toArray m dd sl) ⟨ho,rfl,⟨_,ho,rfl⟩,?_⟩)
 by_cases c:n=1
 ·subst c;refine call_meets cV ⟨_,ho,rfl⟩ F.entry_tuple_mul (F.args_tuple_mul_2 _ _) (Zer a its.toArray m dd sl t) ⟨ho,.ref a,H,I,rfl,q a H (Zm.refl _) ?_⟩;simpa using ha
 ·have hnl:its.length*n≤sizeLine:=by rw[←hl,sizeLine_eq];lia
  refine call_meets cV ⟨_,ho,rfl⟩ F.entry_tuple_mul (F.args_tuple_mul_2 _ _) (Zeq a its.toArray m dd sl (n:Int) t (by lia) (λz=>y8 (r.Mr.mp (by simpa using z))) (by rw[rQ,lX];exact hnl)) ⟨ho,?_⟩
  have e:List.foldl (λx1 x2=>x1++x2) #[] (List.replicate ((n:Int)).toNat its.toArray)=(List.replicate n its).flatten.toArray:=by
   have:=foldl_rep its n [];rw[List.nil_append]at this;rw[lX];exact this
  rw[e];have hnn:H s.heap.objs.size=none:=I.hok.fresh (rG _);refine⟨.ref s.heap.objs.size,_,I.laid (t':=s.toks) (o:=.tup (List.replicate n xs).flatten) (λb ob q=>rE _ q) (rG _) ?_,rfl,q _ _ (Zd hnn _) Zc⟩;exact⟨by rw[len_rep,sizeLine_eq,aA];lia,_,r.rep n,bN _ _⟩
end
section
variable {M:Model}{A:Around}{E:aC}{s:Shared}{base:Heap}{env:Env}{outer:List Env}{L e C:Addr}{d:ZA}
end
section
variable {X:Cx}{pins:aD}{σ:St}{H:Hp}{s:Shared}{a C:Addr}{d:ZA}{M:Model}{A:Around}{E':aC}
end
section
variable {X:Cx}{E:St→XK}
end
section
variable {X:Cx}{pins pins':aD}{σ:St}{H:Hp}{s:Shared}{A:Around}{c:Bool}{pn:aD}{xe:aC}
end
section
variable {X:Cx}{pins:aD}{σ:St}{H:Hp}{s:Shared}{a C:Addr}{fs:List (Str×V)}{A:Around}{E:aC}
end
section
variable {P:Program}{w:World}{K:W.Frag}{mg:aG}{base:Heap}
end
abbrev sgV(z:Str):List V:=z.cps.toList.map λc=>V.str ⟨#[c]⟩
theorem Zf0(hh:A.handled=none)(it:Addr)(x:Str)(t:Tok):Draws P w A it [it] x.cps.size (λi v=>∃c u,x.cps[i]?=some c∧v=.str ⟨#[c]⟩ u) (λi h=>h.IsStrIter it (strIterType x) x t i):=by
 unfold strIterType
 split
 ·exact Draws.strAscii hh it x t
 ·exact Draws.strWide hh it x t
theorem Zdd{z:Str}{x:V}(h:(sgV z)[i]?=some x):∃c,z.cps[i]?=some c∧x=.str ⟨#[c]⟩:=by
 rw[rJ]at h
 cases hc:z.cps.toList[i]? with
 |none=>rw[hc]at h;cases h
 |some c=>
  rw[hc]at h;exact⟨c,by rw[←pW];exact hc,(Option.some.inj h).symm⟩
theorem Dw{es:aV}(z:Str)(t:Tok)(e it:Addr)(b9:e≠it):
  Turn P w K (.Tuple es n pos) (ItE λ_ xs=>xs=sgV z) [e,it] e (λi h=>(∃old,IsEnum h e it i old)∧h.IsStrIter it (strIterType z) z t i) where
 mem:=by simp
 obj:=λi h st b hb=>by
  obtain⟨⟨old,he⟩,oi,e1,c1,d1⟩:=st;have j5:b=e∨b=it:=by simpa using hb
  rcases j5 with z|z
  ·subst z;exact⟨_,he,λv z=>by cases z⟩
  ·subst z;exact⟨oi,e1,λv z=>by rw[d1]at z;cases z⟩
 keep:=λi h h' st k=>⟨let ⟨old,he⟩:=st.1;⟨old,k e (by simp) _ he⟩,let ⟨o,q,r⟩:=st.2;⟨o,k it (by simp) o q,r⟩⟩
 item:=by
  intro X hP hw hK hc i pins s σ H E I hf st hg;subst hP hw hK;obtain⟨xs,x,rfl,hx⟩:=hg
  have x5:i<z.cps.size:=by
   have:=(rH.mp hx).1;rw[rC,oH]at this;exact this
  obtain⟨⟨old,he⟩,hit⟩:=st;have j6:=rO he;have t5:it<s.heap.objs.size:=by obtain⟨o,q,_⟩:=id hit;exact rO q
  have kY:e∉[it]:=by simp[b9]
  refine cL (Zf0 (A:=X.A.in1) (I.ok.hd hc) it z t) he hit x5 b9 kY λu h1 tk hu i0 C7 eL qG yE=>⟨_,rfl,?_⟩;refine fN i0 λh2 yC sb=>?_;obtain⟨c,sE,rfl⟩:=Zdd hx;obtain⟨c',t',z0,rfl⟩:=hu;rw[sE]at z0;cases z0;obtain⟨I2,hn⟩:=R8 (t':=tk+1) I hf (show RelV (.str ⟨#[c]⟩) (.str ⟨#[c]⟩ t') from⟨t',rfl⟩) eL yE sb j6 t5;exact⟨.ref s.heap.objs.size,_,I2,rfl,⟨_,.str ⟨#[c]⟩,rfl,I.hok.fresh (rG _),rfl,λys hy=>by rw[hy];exact hx⟩,⟨⟨_,by simpa using yC⟩,let ⟨o,q,r⟩:=C7;⟨o,(sb.2 it (lW b9)).trans q,r⟩⟩,hn⟩
 done:=by
  intro X hP hw hK hc i pins s σ H E I hf st hg;subst hP hw hK;obtain⟨xs,rfl,hx⟩:=hg;obtain⟨⟨old,he⟩,hit⟩:=st;obtain⟨f0,f1,f2,f3,f4,f5⟩:=hf it (by simp);have ei:i=z.cps.size:=by rw[←hx,rC,oH]
  subst ei;exact cP (Zf0 (A:=X.A.in1) (I.ok.hd hc) it z t) he hit λh' eb=>⟨rfl,I.turned (t':=s.toks) (λb o hb q=>eb b o hb q) f0 f1 f3 f4 f5⟩
 self:=λ_ _ _ _ _ st h=>let ⟨_,he⟩:=st.1;iI he h
section
variable {X:Cx}{es:aV}{n:Nat}{tp:Pos}
def Zlv(te:TE):TI:=λσ H R=>te σ H λx H1=>∃z,x=.str z∧R (ItE λ_ xs=>xs=sgV z) H1
theorem Zd4(hg:Gl X "enumerate")(hm:X.mg "enumerate"=none)(he:PE X e te)
  (h2:starEach [e] X.env=(false,eval e X.env) :: starEach [] X.env:=by rfl):PI X (.Tuple es n tp) (.Call (.Name "enumerate" p) [e] [] pos) (Zlv te):=by
 intro pins s σ H R I h
 refine lB (V3 I hg hm Sd (oS (thn (Za he Zb h2 pos pins s σ H (λvs H1=>match vs with|[x]=>∃z,x=.str z∧R (ItE λ_ xs=>xs=sgV z) H1|_=>False) I h) λus s1 ⟨vs,H1,I1,r1,q1⟩=>?_) h2 rfl))
 obtain⟨x0,e0,z,e1,q⟩:∃x0,vs=[x0]∧∃z,x0=.str z∧R (ItE λ_ xs=>xs=sgV z) H1:=by
  match vs,q1 with
  |[x0],q1=>exact⟨x0,rfl,q1⟩
 subst e0 e1;obtain⟨u,rfl,t,rfl⟩:=Vals.one r1
 have fp:∀b∈[s1.heap.objs.size+1,s1.heap.objs.size],Ku X pins H1 b:=λb hb=>by
  have j5:b=s1.heap.objs.size+1∨b=s1.heap.objs.size:=by simpa using hb
  rcases j5 with z|z
  ·rw[z];exact I1.Mm (lC _) (I1.hok.fresh (lC _))
  ·rw[z];exact I1.Mm (rG _) (I1.hok.fresh (rG _))
 refine call_enumerate_str λh' hE hI hsz hk=>iI hE ?_;exact⟨_,[s1.heap.objs.size+1,s1.heap.objs.size],_,_,H1,rfl,I1.kept (t':=s1.toks) hk,Dw z t _ _ (cU _),⟨⟨_,hE⟩,hI⟩,fp,q⟩
end
section
variable {P:Program}{w:World}{A:Around}{E:aC}{s:Shared}{r t:Addr}{items:aO}
open AutoSeq1 (wpAny_loadPart') in
end
section
variable {X:Cx}
end
section
variable {X:Cx}
end
section
open PySem.W (kasC kasC_pure kasC_bind kasC_get kasC_modify kasC_lift kasC_nil kasC_cons kasC_range kas_item kas_cmp kas_st)
variable {prog:Program}{w:World}{A:Around}{s:Shared}{α β:Type}{st:SortSt}
variable {κ:SortKind}{it:Array Keyed}{n:Nat}{lt:ZR}
end
section
open PySem.W (kas_item)
variable {lt:ZR}{a b o:List Nat}{ia ib x:Nat}
variable {n:Nat}{pa pb:YJ}{it:Array Keyed}
variable {out:Array Keyed}
end
section
open PySem.W (kas_item)
variable {prog:Program}{w:World}{A:Around}{s:Shared}{st:SortSt}{κ:SortKind}{it:Array Keyed}{n:Nat}{lt:ZR}{pa pb:YJ}
section
variable {α β:Type}{R:β→SortSt→Prop}
end
end
section
open PySem.W (kas_item)
variable {lt:ZR}{a b o:List Nat}{na nb x:Nat}
variable {n:Nat}{pa pb:YJ}{it:Array Keyed}{out:Array Keyed}
end
section
open PySem.W (kas_item)
variable {prog:Program}{w:World}{A:Around}{s:Shared}{st:SortSt}{κ:SortKind}{it:Array Keyed}{n:Nat}{lt:ZR}{pa pb:YJ}{na nb:Nat}
end
section
open PySem.W (kas_item kas_rev kas_swaps_map)
variable {prog:Program}{w:World}{A:Around}{s:Shared}{κ:SortKind}{it:Array Keyed}{n:Nat}{lt:ZR}{p:YJ}{pd:Array aZ}{g:Nat}
section
variable {β:Type}{R:β→SortSt→Prop}
end
end
section
open PySem.W (kas_item)
variable {prog:Program}{w:World}{A:Around}{s:Shared}{κ:SortKind}{it:Array Keyed}{n:Nat}{lt:ZR}{p:YJ}{g:Nat}
end
section
open PySem.W (kas_item kas_st kasC)
variable {prog:Program}{w:World}{A:Around}{s:Shared}{κ:SortKind}{it:Array Keyed}{n:Nat}{lt:ZR}{p:YJ}
end
section
open PySem.W (kas_ask kas_item kasC)
end
section
variable {X:Cx}{pins:aD}{σ:St}{H:Hp}{s:Shared}{x:Str}{k:Nat}{ps:List Str}{sp:Sp}
end
section
variable {P:Program}{w:World}{A:Around}{E:aC}{s:Shared}
end
section
variable {X:Cx}{es:aV}{n:Nat}{tp:Pos}
end
section
variable {P:Program}{w:World}{H:Hp}{s:Shared}
end
section
variable {X:Cx}
end
section
open PySem.SeqAt
open PySem.AutoSeq1 (wpAny_loadPart')
open PySem.MeetsSeq PySem.MeetsSeq2 PySem.MeetsSeq3
end
section
variable {X:Cx}{K:W.Frag}
end
section
variable {P:Program}{w:World}{A:Around}{E:aC}{s:Shared}
end
section
variable {X:Cx}
end
section
variable {P:Program}{w:World}{A:Around}{E:aC}{s:Shared}
end
section
variable {X:Cx}{es:aV}{n:Nat}{tp:Pos}
end
open AutoSeq1 (wpAny_loadPart') in
section
variable {X:Cx}
end
section
variable {M:Model}{A:Around}{E:aC}{s:Shared}{base:Heap}{env:Env}{outer:List Env}{L e C T:Addr}{d:ZA}
end
section
variable {X:Cx}{pins:aD}{σ:St}{H:Hp}{s:Shared}{a C T:Addr}{d:ZA}{M:Model}{A:Around}{E':aC}
end
section
variable {prog:Program}{w:World}{A:Around}{R:Result→Shared→Prop}{s:Shared}
end
section
variable {X:Cx}{sc scope:Scope}{Nm own:List Str}{fr:List Nat}{elt tg iter:Expr}{ifs:aV}{Xs:Pos}{wi:TI}{g:TG}{tt:TT}{te:TE}{E:XK}
end
def tbI(led:Bool)(vs:List Nat):SetTable:={ mask:=if vs.length<5 then 7 else 31,place:=vs.toArray,dummies:=#[],finger:=0,led:=led,moves:=if vs.length<5 then 0 else 1,plain:=true }
def tbM(led:Bool)(vs:List Nat):SetTable:={ mask:=if vs.length<6 then 7 else 31,place:=vs.toArray,dummies:=#[],finger:=0,led:=led,moves:=if vs.length<6 then 0 else 1,plain:=true }
def Pb(y:Nat)(vs:List Nat):List Nat:=vs.filter (· < y)++y :: vs.filter λv=>!decide (v<y)
def Ht(y:Nat)(vs:List Nat):Nat:=(vs.filter (· < y)).length
def Ux:List aE:=(List.range 64).map λm=>(List.range 6).filter λi=>m.testBit i
theorem Zgo:∀vs∈Ux,∀y∈List.range 6,y∉vs→∀led∈[true,false],(tbI led vs).freeSlot ((y:Nat):Int)=some (y,false)∧(tbI led vs).put y=(tbM led (Pb y vs),Ht y vs)∧Pb y vs∈Ux:=by decide +kernel
theorem Zcm:∀vs∈Ux,vs.length=5→∀led∈[true,false],(tbM led vs).relaid (vs.map λv:Nat=>(v:Int)).toArray 20=some (tbI led vs,(List.range 5).toArray):=by decide +kernel
theorem Uw:∀vs∈Ux,(vs.length=5→∀led∈[true,false],(tbM led vs).tooFull=true)∧(vs.length≠5→∀led∈[true,false],tbM led vs=tbI led vs∧(tbM led vs).tooFull=false)∧∀led∈[true,false],(tbI led vs).fits vs.length=true∧(tbM led vs).fits vs.length=true:=by decide +kernel
theorem Zcl:∀vs∈Ux,∀i∈List.range vs.length,SetTable.below vs.toArray (vs.getD i 0+1)=i+1:=by decide +kernel
theorem Zaz:∀vs∈Ux,∀y∈List.range 6,vs=vs.take (Ht y vs)++vs.drop (Ht y vs)∧Pb y vs=vs.take (Ht y vs)++y :: vs.drop (Ht y vs)∧Ht y vs≤vs.length∧vs.Nodup∧(∀v∈vs,v<6):=by decide +kernel
theorem Ri(b:Bool):b∈[true,false]:=by cases b<;>simp
theorem Zet(y z:Nat)(vs:List Nat):z∈Pb y vs↔z=y∨z∈vs:=by
 unfold Pb;simp only[oB,rT,iJ,Bool.not_eq_true',decide_eq_true_eq,decide_eq_false_iff_not];constructor
 ·rintro(h|h|h)
  ·exact .inr h.1
  ·exact .inl h
  ·exact .inr h.1
 ·rintro(h|h)
  ·exact .inr (.inl h)
  ·by_cases c:z<y
   ·exact .inl ⟨h,c⟩
   ·exact .inr (.inr ⟨h,c⟩)
def EsI(vs:List Nat)(es:ZT):Prop:=∃us:List Tok,us.length=vs.length∧es.toList=List.zipWith (λ(v:Nat) (u:Tok)=>(((v:Nat):Int),Value.int ((v:Nat):Int) u)) vs us
theorem EsI.size(h:EsI vs es):es.size=vs.length:=by
 obtain⟨us,hl,e⟩:=h;rw[←oH,e,bI,hl,Nat.min_self]
theorem EsI.vals{vs:List Nat}(h:EsI vs es):IntsAre (es.toList.map (·.2)) (vs.map λv:Nat=>(v:Int)):=by
 obtain⟨us,hl,e⟩:=h;rw[e];clear e
 induction vs generalizing us with
 |nil=>cases us<;>exact .nil
 |cons v vs ih=>
  match us,hl with
  |u :: us,hl=>exact .cons _ _ (ih us (by simpa using hl))
theorem EsI.hashes{vs:List Nat}(h:EsI vs es):es.map (·.1)=(vs.map λv:Nat=>(v:Int)).toArray:=by
 obtain⟨us,hl,e⟩:=h;apply Array.toList_inj.mp;rw[Array.toList_map,e,List.toList_toArray,List.map_zipWith];clear e
 induction vs generalizing us with
 |nil=>cases us<;>rfl
 |cons v vs ih=>
  match us,hl with
  |u :: us,hl=>exact congrArg _ (ih us (by simpa using hl))
theorem EsI.mem(h:EsI vs es){e:Int×Value}(he:e∈es.toList):∃v u,v∈vs∧e=(((v:Nat):Int),Value.int ((v:Nat):Int) u):=by
 obtain⟨us,hl,q⟩:=h;rw[q]at he;obtain⟨i,hi,e1⟩:=pL.mp he;rw[List.getElem_zipWith]at e1;exact⟨_,_,oG _,e1.symm⟩
theorem EsI.has(h:EsI vs es){v:Nat}(hv:v∈vs):∃u,(((v:Nat):Int),Value.int ((v:Nat):Int) u)∈es.toList:=by
 obtain⟨us,hl,q⟩:=h;obtain⟨i,hi,rfl⟩:=pL.mp hv;refine⟨us[i]'(by lia),?_⟩;rw[q];refine pL.mpr ⟨i,by rw[bI];lia,?_⟩;rw[List.getElem_zipWith]
theorem EsI.ins{vs:List Nat}{es:ZT}(h:EsI vs es)(p:Nat)(hp:p≤vs.length)(y:Nat)(u:Tok):EsI (vs.take p++y :: vs.drop p) (SetTable.insertAt es p (((y:Nat):Int),Value.int ((y:Nat):Int) u)):=by
 have hsz:=h.size;obtain⟨us,hl,q⟩:=h;refine⟨us.take p++u :: us.drop p,by simp[hl],?_⟩;unfold SetTable.insertAt;rw[fX,Array.toList_push,Array.toList_extract,Array.toList_extract,q];rw[List.zipWith_append (by simp[hl]),List.zipWith_cons_cons,iH]
 congr 1
 ·simp[List.take_zipWith,List.extract_eq_drop_take]
 ·rw[List.singleton_append]
  congr 1
  rw[List.extract_eq_drop_take,List.drop_zipWith,iM];rw[bI,oY,oY,hsz];lia
def Qx(w:World)(o:Obj)(vs:List Nat):Prop:=vs∈Ux∧∃es ep,o=Zde es ep (tbI (!w.params.followText "set-order") vs)∧EsI vs es
section
variable {P:Program}{w:World}{A:Around}{E:aC}{s:Shared}
theorem Zl9(hs:∀v∈vs,v<6)(h:EsI vs es):ElemsOf (intKind P w) es.toList:=λe he=>by
 obtain⟨v,u,hv,rfl⟩:=h.mem he;have h6:∀v∈List.range 6,hashInt ((v:Nat):Int)=((v:Nat):Int):=by decide +kernel
 exact⟨⟨(v:Int),by show Value.isInt (v:Int) (.int (v:Int) u)=true;simp[Value.isInt],(h6 v (pU.mpr (hs v hv))).symm⟩,rfl⟩
theorem add_int{a:Addr}{Q:Bool→Shared→Prop}(ho:s.heap.get? a=some o)(hS:Qx w o vs){y:Nat}(hy:y<6)(u:Tok)
  (h:∀b h' o' eW,Heap.SameBut a s.heap h'→h'.get? a=some o'→Qx w o' eW→(∀z,z∈eW↔z=y∨z∈vs)→Q b { s with heap:=h' }):wpAny (model P w) A (setAddHashed a (.int ((y:Nat):Int) u) ((y:Nat):Int)) Q E s:=by
 obtain⟨Rk,es,ep,rfl,v0⟩:=hS;have qE:=pU.mpr hy;obtain⟨_,jG,y1,j7,h6⟩:=Zaz vs Rk y qE
 have hl:vs.length≤6:=by
  have:∀vs∈Ux,vs.length≤6:=by decide +kernel
  exact this vs Rk
 have hsz:=v0.size;have hf:(tbI (!w.params.followText "set-order") vs).fits es.size=true:=by rw[hsz];exact((Uw vs Rk).2.2 _ (Ri _)).1
 have j6:ElemsOf (intKind P w) es.toList:=Zl9 h6 v0;have sD:es.size<scanBound:=by show es.size<4096;lia
 have Nn:(intKind P w).is ((y:Nat):Int) (.int ((y:Nat):Int) u)=true:=by show Value.isInt ((y:Nat):Int) (.int ((y:Nat):Int) u)=true;simp[Value.isInt]
 have hh:hashInt ((y:Nat):Int)=((y:Nat):Int):=by
  have h6:∀v∈List.range 6,hashInt ((v:Nat):Int)=((v:Nat):Int):=by decide +kernel
  exact h6 y qE
 unfold setAddHashed setAddHashedIn;refine oJ (rB (dI ho rfl hf ?_));dsimp only;rw[byScan_of (knd:=intKind P w) (x:=.int ((y:Nat):Int) u) rfl sD j6];simp only[↓reduceIte];unfold setAddByScan;refine rB (rB (dA (rB ?_)));rw[show setScan a (.int ((y:Nat):Int) u) ((y:Nat):Int) true es=setScan a (.int ((y:Nat):Int) u) ((intKind P w).hash ((y:Nat):Int)) true es from by rw[show (intKind P w).hash ((y:Nat):Int)=((y:Nat):Int) from hh]];refine wpAny_setScan_of (knd:=intKind P w) (k:=((y:Nat):Int)) Nn ho rfl hf j6 ?_
 have xL:∀(v:Nat) (t:Tok),(intKind P w).is ((y:Nat):Int) (.int ((v:Nat):Int) t)=true↔v=y:=λv t=>by
  show Value.isInt ((y:Nat):Int) (.int ((v:Nat):Int) t)=true↔v=y;simp only[Value.isInt,beq_iff_eq];lia
 have uU:(es.toList.findIdx? (λe=>(intKind P w).is ((y:Nat):Int) e.2)).isSome=decide (y∈vs):=by
  rw[lS,decide_eq_true_eq,List.findIdx?_isSome,iN];constructor
  ·rintro⟨e,he,z⟩;obtain⟨v,t,hv,rfl⟩:=v0.mem he;rw[←(xL v t).mp z];exact hv
  ·intro hv;obtain⟨t,ht⟩:=v0.has hv;exact⟨_,ht,(xL y t).mpr rfl⟩
 cases hr:es.toList.findIdx? (λe=>(intKind P w).is ((y:Nat):Int) e.2) with
 |some j=>
  rw[hr]at uU;have x9:y∈vs:=of_decide_eq_true uU.symm;dsimp only;refine rF (rF ?_);exact h _ s.heap _ vs (Heap.SameBut.refl a s.heap) ho ⟨Rk,es,ep,rfl,v0⟩ λz=>⟨.inr,λq=>q.elim (λe=>e▸x9) id⟩
 |none=>
  rw[hr]at uU;have jQ:y∉vs:=of_decide_eq_false uU.symm;obtain⟨f1,f2,f3⟩:=Zgo vs Rk y qE jQ _ (Ri (!w.params.followText "set-order"));have Zbs:=v0.ins (Ht y vs) y1 y u;rw[←jG]at Zbs;have Zfc:=Zbs.size;have hfM:=((Uw _ f3).2.2 _ (Ri (!w.params.followText "set-order"))).2;have hfI:=((Uw _ f3).2.2 _ (Ri (!w.params.followText "set-order"))).1
  have uX:(Pb y vs).length≤6:=by
   have:∀vs∈Ux,vs.length≤6:=by decide +kernel
   exact this _ f3
  have Zoe:layNew (tbI (!w.params.followText "set-order") vs) es ((y:Nat):Int) (.int ((y:Nat):Int) u)=(SetTable.insertAt es (Ht y vs) (((y:Nat):Int),.int ((y:Nat):Int) u),tbM (!w.params.followText "set-order") (Pb y vs),false,false):=by
   unfold layNew;rw[f1];dsimp only;rw[f2];dsimp only;rw[Zfc];unfold SetTable.orStandIn;rw[if_pos hfM,hfM];rfl
  dsimp only;rw[Zoe];dsimp only;generalize SetTable.insertAt es (Ht y vs) (((y:Nat):Int),Value.int ((y:Nat):Int) u)=es1 at Zbs Zfc;refine rB (rF ?_);rw[if_pos (show (tbM (!w.params.followText "set-order") (Pb y vs)).plain=true from rfl)];refine rB ?_;rw[hashByValue_scannable 8 (x:=.int ((y:Nat):Int) u) rfl];refine rF ?_;rw[show plainKind (.int ((y:Nat):Int) u)=true from rfl];simp only[↓reduceIte,Bool.not_false,Bool.true_and];have hz:es1.size≤4096:=by lia
  have mem:∀z,z∈Pb y vs↔z=y∨z∈vs:=λz=>Zet y z vs
  by_cases hlen:(Pb y vs).length=5
  ·rw[(Uw _ f3).1 hlen _ (Ri _)]
   have jT:relayAll (tbM (!w.params.followText "set-order") (Pb y vs)) es1 (SetTable.grown es1.size)=(es1,tbI (!w.params.followText "set-order") (Pb y vs),false):=by
    unfold relayAll;rw[Zbs.hashes,Zfc,hlen,show SetTable.grown 5=20 from rfl,Zcm _ f3 hlen _ (Ri _)];dsimp only
    have he:(List.range 5).toArray.filterMap (es1[·]?)=es1:=by
     obtain⟨l⟩:=es1
     have hl5:l.length=5:=by
      have:l.length=(Pb y vs).length:=Zfc;lia
     match l,hl5 with
     |[a,b,c,d,e],_=>rfl
    rw[he,Zfc,hlen];rw[hlen]at hfI;rw[hfI];rfl
   rw[jT];refine rB (Qz ho hz λh1 gU e1=>?_);simp only[↓reduceIte];refine rB (rF ?_)
   refine rB (Qz (s:={ s with heap:=h1 }) e1 hz λh2 gW e2=>?_);exact rF (rF (h _ h2 _ (Pb y vs) (gU.trans gW) e2 ⟨f3,es1,_,rfl,Zbs⟩ mem))
  ·obtain⟨g1,g2⟩:=(Uw _ f3).2.1 hlen _ (Ri (!w.params.followText "set-order"));rw[g2,g1];refine rB (Qz ho hz λh1 gU e1=>?_);simp only[iC,↓reduceIte];exact rF (rF (h _ h1 _ (Pb y vs) gU e1 ⟨f3,es1,_,rfl,Zbs⟩ mem))
def Dm(ns:List Nat)(i:Nat)(v:Value):Prop:=∃z t,ns[i]?=some z∧v=.int ((z:Nat):Int) t
theorem Zbg{G:Array GenState→Array GenState→Prop}{D:List Nat}(o7:∀z∈D,z<6){St:Nat→Shared→Prop}(W:WalksS P w A.in1 I fp wr G D.length (Dm D) St)(S:Addr)(sX:S∉fp):∀(k i:Nat) (s:Shared) (o:Obj) (vs:List Nat),D.length-i=k→i≤D.length→St i s→s.heap.get? S=some o→Qx w o vs→(∀z,z∈vs↔z∈D.take i)→
   (∀s' o' eW,Moved (S :: wr) G s s'→s'.heap.get? S=some o'→Qx w o' eW→(∀z,z∈eW↔z∈D)→R (.ok (.ret .none)) s')→
   codeAny (model P w) A (.builtin "set.update.loop" ⟨[.ref S,.ref I],[]⟩) R s:=by
 have hSw:S∉wr:=λh=>sX (W.sub _ h);have Rk:∀b∈wr,b∈S :: wr:=λb hb=>rP _ hb;intro k
 induction k with
 |zero=>
  intro i s o vs hk hi k5 ho hS hv hR;have x9:i=D.length:=by lia
  subst x9;refine lO cJ ?_;rw[lA fI _];show wpAny _ A.in1 (pyNext (.ref I) >>= _) _ _ s;refine rB (W.done s _ _ k5 λs' hm=>rF (hR s' o vs (hm.mono Rk) (hm.heap S _ hSw ho) hS ?_));rw[iM (rG _)]at hv;exact hv
 |succ k ih=>
  intro i s o vs hk hi k5 ho hS hv hR;have x5:i<D.length:=by lia
  refine lO cJ ?_;rw[lA fI _];show wpAny _ A.in1 (pyNext (.ref I) >>= _) _ _ s;refine rB (W.item i s _ _ x5 k5 λv s' hP jZ hm=>?_);obtain⟨z,u,hz,rfl⟩:=hP;have qH:=o7 z (rN hz);show wpAny _ A.in1 (holding [Value.int ((z:Nat):Int) u] (setAdd S (.int ((z:Nat):Int) u)) >>= _) _ _ s';unfold setAdd;refine rB (oJ (oJ (rB ?_)));refine(PySem.intKind P w).pyHash (k:=((z:Nat):Int)) (by show Value.isInt ((z:Nat):Int) (.int ((z:Nat):Int) u)=true;simp[Value.isInt]) ?_;have h6:∀v∈List.range 6,hashInt ((v:Nat):Int)=((v:Nat):Int):=by decide +kernel
  rw[show (PySem.intKind P w).hash ((z:Nat):Int)=((z:Nat):Int) from h6 z (pU.mpr qH)]
  refine add_int (s:={ s' with toks:=s'.toks+1 }) (hm.heap S _ hSw ho) hS qH u λ_ h' o' eW eK e2 zJ gG=>?_
  have hv3:∀x,x∈eW↔x∈D.take (i+1):=λx=>by
   rw[gG x,hv x,oK,hz,oB];show _↔_∨x∈[z];rw[rL,or_comm]
  refine rF ⟨plainId_quiet fI _,ih (i+1) _ o' eW (by lia) x5 (W.frame _ s' _ _ jZ (lC _) λb hb o e=>?_) e2 zJ hv3 λmQ o'' nY jM e'' zH qC=>?_⟩
  ·exact(eK.2 b (λz:b=S=>sX (z▸hb))).trans e
  ·exact hR mQ o'' nY (Moved.trans W.gtrans ((hm.mono Rk).then_heap (lC _) λb o hb e=>(eK.2 b (λz:b=S=>hb (by rw[z];exact rM))).trans e) jM) e'' zH qC
theorem Zn2(w:World):Qx w (Xa w) []:=⟨by decide +kernel,#[],0,rfl,[],rfl,rfl⟩
theorem Dp{l:Addr}(hh:A.handled=none)(y8:l≠I){D:List Nat}(hn:items.size=D.length)(hD:∀(i:Nat) v,items[i]?=some v→Dm D i v):Walks P w A I [I,l] [I] D.length (Dm D) (λi h=>h.IsListIter I l i∧h.IsList l items):=
 let W:=Walks.list (prog:=P) (w:=w) (A:=A) hh I l y8 items
 {sub:=W.sub,frame:=W.frame,self:=W.self,done:=λs Q E st hQ=>W.done s Q E (by rw[hn];exact st) hQ
  item:=λi s Q E hi st hQ=>W.item i s Q E (by rw[hn];exact hi) st λv h' tk p=>hQ v h' tk (hD i v p) }
set_option maxHeartbeats 3200000 in
theorem Jr(hh:A.handled=none){l:Addr}{D:List Nat}(hl:s.heap.IsList l items)(hn:items.size=D.length)(hD:∀(i:Nat) v,items[i]?=some v→Dm D i v)(o7:∀z∈D,z<6)
  (hQ:∀h' tk o vs,(∀b o,s.heap.get? b=some o→h'.get? b=some o)→h'.get? s.heap.objs.size=some o→Qx w o vs→(∀z,z∈vs↔z∈D)→Q (.ref s.heap.objs.size) { s with heap:=h',toks:=tk }) :
  wpAny (model P w) A (call (.type "set") [.ref l]) Q E s:=by
 obtain⟨c,tl,hmro⟩:=iF.mro;have hmade:=iF.made;have Rk:=iF.sub;refine wpAny_call (codeAny_of_tree ?_);show wpAny _ _ (callAny (.type "set") _) _ _ _;refine rF ⟨Code.quiet_builtin _ (by decide +kernel),lO PySem.F.entry_type_call ?_⟩;rw[Around.under_plain (weight_type_call_type "set" [.ref l] []) rfl];have h1:=iF.notType;have h2:=iF.canCreate;have hct:=PySem.F.typeCall_set_1 (.ref l)
 repeat (any_goals (first|assumption|wp_step))
 refine fV (Zeo (.ref l) (E:=E) (Q₁:=λobj x3=>obj=.ref s.heap.objs.size∧x3 = { s with heap:=s.heap.push (Xa w) }) ⟨rfl,rfl⟩) λr x3 hr=>?_
 cases r with
 |error e=>exact hr
 |ok fl=>
  cases fl with
  |ret obj=>
   obtain⟨rfl,rfl⟩:=hr;have hS:(s.heap.push (Xa w)).get? s.heap.objs.size=some (Xa w):=rR _ rfl
   have hT:Shared.TypeIs { s with heap:=s.heap.push (Xa w) } (.ref s.heap.objs.size) "set":=⟨_,hS,rfl⟩;have z8:(s.heap.push (Xa w)).IsList l items:=let ⟨o,e,r⟩:=hl;⟨o,rE _ e,r⟩
   have ll:l<s.heap.objs.size:=let ⟨_,e,_⟩:=hl;rO e
   have hTl:Shared.TypeIs { s with heap:=s.heap.push (Xa w) } (.ref l) "list":=z8.typeIs;have hli:=iF.init.lookup;have w5:=iF.init.bind (.ref s.heap.objs.size)
   repeat (any_goals (first|assumption|wp_step))
   refine fV (codeAny_call_builtin (R:=wants (λr m5=>r=.none∧∃h' tk o vs,m5 = { s with heap:=h',toks:=tk }∧(∀b o,s.heap.get? b=some o→h'.get? b=some o)∧h'.get? s.heap.objs.size=some o∧
    Qx w o vs∧∀z,z∈vs↔z∈D) E) iF.init.plain PySem.F.entry_set_init (check_set_init_1 hT ?_)) λnM m5 eJ=>?_
   ·have hsls:=sub_list_set;have hslf:=sub_list_frozenset;have y8:(Value.type "list"==Value.type "dict")=false:=by decide
    have mC:(s.heap.push (Xa w)).get? s.heap.objs.size=some { cls:=.type "set",dict:=none,data:=.set #[] 0 (.fresh 0 0 (!w.params.followText "set-order")) }:=hS;unfold Builtin.«set.__init__» noKeywords Builtin.Frozenset.updateFrom;generalize hPI:pyIter=PI
    wp_walk
    subst hPI;refine dH z8 (rB (wpAny_runValue ?_));have sz:(s.heap.push (Xa w)).objs.size=s.heap.objs.size+1:=iG _ _
    have sX:s.heap.objs.size∉[(s.heap.push (Xa w)).objs.size,l]:=by
     rw[sz];intro z
     rcases rT.mp z with z|z
     ·exact absurd z (rV (iD _))
     ·exact absurd (rL.mp z) (fE ll)
    refine Zbg o7 (Dp (A:=A.in1.in1.in1) (by simp[hh]) (by rw[sz];exact rV (dJ ll)) hn hD).toS s.heap.objs.size sX (D.length-0) 0 _ (Xa w) [] (by lia) (oC _) ?_ ?_ (Zn2 w) (λz=>by simp) λs' o' eW hm e' zJ gG=>?_
    ·obtain⟨o,e,r⟩:=z8;exact⟨⟨_,rR _ rfl,rfl,rfl⟩,⟨o,rE _ e,r⟩⟩
    ·exact rE _ hS
    obtain⟨h',g',d',sL,nJ⟩:=s';have eg:g'=s.gens:=hm.gens;have ed:d'=s.drawn:=hm.drawn;have eo:nJ=s.os:=hm.os;subst eg;subst ed;subst eo;show wpAny _ _ _ _ _ _;refine rF (rF ⟨rfl,h',sL,o',eW,rfl,λb o e=>?_,e',zJ,gG⟩);have lt:=rO e;refine hm.heap b o (λz=>?_) (rE _ (rE _ e))
    rcases rT.mp z with z|z
    ·exact oT _ (z▸lt)
    ·have z2:=rL.mp z;rw[iG]at z2;have:=z2▸lt;exact oT _ (Nat.lt_of_succ_lt this)
   ·cases nM with
    |error e=>exact eJ
    |ok kF=>
     cases kF with
     |ret r=>
      obtain⟨rfl,h',tk,o,vs,rfl,hk',e',mC,sH⟩:=eJ
      repeat (any_goals (first|assumption|wp_step))
      exact hQ h' tk o vs hk' e' mC sH
     |_=>exact eJ.elim
  |_=>exact hr.elim
def ItI(w:World)(I S:Addr)(es:ZT)(ep:Nat)(t:SetTable)(vs:aJ)(i:Nat)(h:Heap):Prop:=
 h.get? S=some (Zde es ep t)∧(
  (w.params.followText "set-order"=true∧vs=(pickOrder (w.params.setOrder S ep) es).toList.map (·.2)∧h.get? I=some (itO (.int 0 0) i S es.size ep))∨
  (w.params.followText "set-order"=false∧vs=es.toList.map (·.2)∧∃k:Nat,h.get? I=some (itO (.int k 0) i S es.size ep)∧SetTable.below t.place k=i))
theorem Em{t:SetTable}{vs:aJ}{i:Nat}{Q:ZK}(kN:S≠I)(k5:ItI w I S es ep t vs i s.heap)(hh:A.handled=none)
  (hf:t.fits es.size=true) (vA:t.plain=true) (yI:∀(i j:Nat),t.place[i]?=some j→SetTable.below t.place (j+1)=i+1) (Zbp:t.led = !w.params.followText "set-order") (hi:i≤vs.length)
  (hQ:∀v h',vs[i]?=some v→(∀b,b≠I→h'.get? b=s.heap.get? b)→ItI w I S es ep t vs (i+1) h'→Q (some v) { s with heap:=h' })
  (hN:vs[i]?=none→∀h',(∀b o,b≠I→s.heap.get? b=some o→h'.get? b=some o)→Q none { s with heap:=h' }):wpAny (model P w) A (pyNext (.ref I)) Q E s:=by
 obtain⟨hS,hm⟩:=k5
 have hI:∃f,s.heap.get? I=some (itO f i S es.size ep):=by
  rcases hm with ⟨_,_,e⟩|⟨_,_,k,e,_⟩<;>exact⟨_,e⟩
 obtain⟨f,hI⟩:=hI;have hT:s.TypeIs (.ref I) "set_iterator":=⟨_,hI,rfl⟩
 have stop:∀(s1:Shared) (Q0:Fin→Shared→Prop) (f1:Value),(∀b o,b≠I→s.heap.get? b=some o→s1.heap.get? b=some o)→s1 = { s with heap:=s1.heap }→s1.heap.get? I=some (itO f1 i S es.size ep)→vs[i]?=none→
   wpAny (model P w) A.in1 (do setField (.ref I) 2 .none;raiseNew (←newExc (.type "StopIteration") [])) Q0 (λe s'=>wpAny (model P w) A (do if ←isInstance e (.type "StopIteration") then pure none else throw e) Q E s') s1:=λs1 Q0 f1 k e1 eI en=>by
  refine rB (Ro eI (by lia) λh2 gW _=>?_)
  refine Cd (A:=A.in1) hh (s:={ s1 with heap:=h2 }) (Q:=Q) (λh3 k3=>?_) |> λz=>iR z (λ_ _ q=>q) λe s' q=>wpAny_of_in1 q
  have:=hN en h3 λb o hb e=>k3 b o ((gW.2 b hb).trans (k b o hb e));rw[e1];exact this
 have y1:t.place.size=es.size:=by
  have:=hf;simp only[SetTable.fits,oD,beq_iff_eq]at this;exact this.1
 unfold pyNext;refine rB (wpAny_attempt (lE (name:=Str.ofString "__next__") hT Vl (lD Vl hT Jo ?_ (G4 _))));unfold Builtin.«set_iterator.__next__»;refine rB (m:=slotArgs "__next__" 0 _) (rF (rB ?_));refine iO hI rfl ?_;show wpAny (model P w) _ (do if ((←setEntries S).size:Int) != (es.size:Int) then _ else _) _ _ _;refine rB (wpAny_setEntries_of hS rfl hf ?_);rw[if_neg (by simp)]
 rcases hm with ⟨hb,rfl,zD⟩|⟨hb,rfl,k,zD,hk⟩
 ·cases hI.symm.trans zD;show wpAny (model P w) _ (setNext S 0 i ep >>= _) _ _ _;unfold setNext;refine rB (rB (dI hS rfl hf ?_));refine rB (Mx ?_);rw[hb];simp only[if_true];rw[if_neg (by simp)];refine rB ?_;unfold setWalk;refine rB (dI hS rfl hf (rB (Mx ?_)));rw[hb];simp only[if_true];refine rB (wpAny_askSetting (rF (rF ?_)))
  show wpAny (model P w) A.in1 (match ((pickOrder (w.params.setOrder S ep) es)[i]?).map (λe=>(e.2,0)) with|some (x,next)=>_|none=>_) _ _ _
  cases hv:(pickOrder (w.params.setOrder S ep) es)[i]? with
  |none=>
   refine stop s _ _ (λb o _ e=>e) rfl hI ?_;rw[rJ,pW,hv];rfl
  |some e=>
   have sH:((pickOrder (w.params.setOrder S ep) es).toList.map (·.2))[i]?=some e.2:=by
    rw[rJ,pW,hv];rfl
   exact Jx (nx:=0) hI λh' k e1=>hQ _ h' sH k ⟨(k S kN).trans hS,.inl ⟨hb,rfl,e1⟩⟩
 ·cases hI.symm.trans zD;show wpAny (model P w) _ (setNext S k i ep >>= _) _ _ _;unfold setNext;refine rB (rB (dI hS rfl hf ?_));refine rB (Mx ?_);rw[hb];simp only[iC,if_false];refine dD (λhd=>?_) (λ_=>?_)
  ·have i6:(!t.plain&&decide (es.size>1))=true:=hd;rw[vA]at i6;exact absurd i6 (by simp)
  ·refine rB (Zln (by rw[Zbp,hb];rfl) (rF ?_));rw[hk]
   cases hv:es[i]? with
   |none=>
    refine stop s _ _ (λb o _ e=>e) rfl hI ?_;rw[rJ,pW,hv];rfl
   |some e=>
    have x5:i<es.size:=by
     rcases oE i es.size with z|z
     ·exact z
     ·rw[cQ z]at hv;cases hv
    have sH:(es.toList.map (·.2))[i]?=some e.2:=by
     rw[rJ,pW,hv];rfl
    have hj:t.place[i]?=some (t.place[i]'(by lia)):=fQ (by lia);rw[hj];obtain⟨eh,ev⟩:=e;exact Jx (nx:=t.place[i]'(by lia)+1) hI λh' k e1=>hQ _ h' sH k ⟨(k S kN).trans hS,.inr ⟨hb,rfl,_,e1,yI _ _ hj⟩⟩
theorem Ze5{t:SetTable}(hS:s.heap.get? S=some (Zde es ep t))(hf:t.fits es.size=true)(hp:t.plain=true)(hz:es.size≤4096)
  (hQ:∀I vs h',(∀b o,s.heap.get? b=some o→h'.get? b=some o)→s.heap.objs.size≤I→vs.Perm (es.toList.map (·.2))→ItI w I S es ep t vs 0 h'→Q (.ref I) { s with heap:=h' }) :
  wpAny (model P w) A (pyIter (.ref S)) Q E s:=by
 have hT:s.TypeIs (.ref S) "set":=⟨_,hS,rfl⟩;refine bW hT PySem.F.slot_set_iter (lD PySem.F.slot_set_iter hT Kk ?_ (PySem.F.args_set_iter_1 _));unfold Builtin.«frozenset.__iter__» Builtin.Frozenset.slot0;refine rB (rB (m:=slotArgs "__iter__" 0 _) (rF (rF ?_)));unfold Builtin.Frozenset.sizeOf;refine rB (rB (wpAny_setEntries_of hS rfl hf (rF ?_)));refine rB ?_;unfold setDrawn;refine rB (dI hS rfl hf (rB (Mx (rF ?_))))
 have fin:∀(s1:Shared) (f:Value),s1.heap.get? S=some (Zde es ep t)→(∀h',(∀b o,s1.heap.get? b=some o→h'.get? b=some o)→h'.get? s1.heap.objs.size=some (itO f 0 S es.size ep)→Q (.ref s1.heap.objs.size) { s1 with heap:=h' })→
   wpAny (model P w) A.in1 (do ret (←newFields "set_iterator" [f,rawInt 0,.ref S,rawInt es.size,rawInt (←setEpoch S)])) (λfin s'=>∃v,fin=.done (.ret v)∧∃T' r,s'.TypeIs v T'∧typeLookup (.type T') "__next__"=pure (some r)∧Q v s') E s1:=λs1 f e1 q=>by
  refine rB (wpAny_setEpoch_of e1 rfl hf ?_);refine rB (pX ?_ (by size_fits));refine rF ⟨_,rfl,"set_iterator",_,⟨_,rR _ rfl,rfl⟩,Vl.lookup,?_⟩;exact q _ (λb o e=>rE _ e) (rR _ rfl)
 have lt:=rO hS
 cases hb:w.params.followText "set-order" with
 |true=>
  dsimp only;refine dD (λhd=>nomatch (show false=true from hd)) (λ_=>rB (rF ?_));refine fin s (rawInt 0) hS λh' k e=>?_;exact hQ _ _ h' k (rG _) ((Za5 _ es).map _) ⟨k _ _ hS,.inl ⟨hb,rfl,e⟩⟩
 |false=>
  dsimp only;refine dD (λhd=>?_) (λ_=>rB (rF ?_))
  ·have i6:(!t.plain&&decide (es.size>1))=true:=hd;rw[hp]at i6;exact absurd i6 (by simp)
  ·refine fin s (rawInt 0) hS λh' k e=>?_;exact hQ _ _ h' k (rG _) (dN _) ⟨k _ _ hS,.inr ⟨hb,rfl,0,e,Bo _⟩⟩
theorem ItI.at{t:SetTable}{vs:aJ}(x:ItI w I S es ep t vs i h)(k:∀b,b=I∨b=S→∀o,h.get? b=some o→h'.get? b=some o):ItI w I S es ep t vs i h':=by
 obtain⟨hS,hm⟩:=x;refine⟨k S (.inr rfl) _ hS,?_⟩
 rcases hm with ⟨hb,e,hI⟩|⟨hb,e,j,hI,hk⟩
 ·exact .inl ⟨hb,e,k I (.inl rfl) _ hI⟩
 ·exact .inr ⟨hb,e,j,k I (.inl rfl) _ hI,hk⟩
theorem Zav{t:SetTable}{vs:aJ}(hh:A.handled=none)(kN:S≠I)(hf:t.fits es.size=true)(vA:t.plain=true)(yI:∀(i j:Nat),t.place[i]?=some j→SetTable.below t.place (j+1)=i+1)(Zbp:t.led = !w.params.followText "set-order"):
  Walks P w A I [I,S] [I] vs.length (λi v=>vs[i]?=some v) (λi h=>ItI w I S es ep t vs i h) where
 sub:=λb hb=>by simp at hb;simp[hb]
 frame:=λi h h' st k=>ItI.at st λb hb o e=>k b (by rcases hb with z|z<;>simp[z]) o e
 item:=λi s Q E hi st hQ=>Em kN st hh hf vA yI Zbp (oX hi) (λv h' hv k u9=>hQ v h' s.toks hv u9 λb o hb e=>(k b (λz=>hb (by simp[z]))).trans e) λhn=>by
  rw[rD hi]at hn;cases hn
 done:=λs Q E st hQ=>Em kN st hh hf vA yI Zbp (rG _) (λv h' hv=>by simp at hv) λ_ h' k=>hQ h' s.toks λb o hb e=>k b o (λz=>hb (by simp[z])) e
 self:=λi s Q E st h=>by
  have hI:∃f,s.heap.get? I=some (itO f i S es.size ep):=by
   rcases st.2 with ⟨_,_,e⟩|⟨_,_,k,e,_⟩<;>exact⟨_,e⟩
  obtain⟨f,hI⟩:=hI;have hT:s.TypeIs (.ref I) "set_iterator":=⟨_,hI,rfl⟩;refine bW hT Py (lD Py hT Jp ?_ (G5 _));show wpAny _ _ (ret (.ref I)) _ _ s;exact rF ⟨_,rfl,"set_iterator",_,hT,Vl.lookup,h⟩
def intOf:Value→Int
 |.int i _=>i
 |_=>0
theorem ints_map:∀{vs:aJ},(∀v∈vs,∃i t,v=.int i t)→IntsAre vs (vs.map intOf)
 |[],_=>.nil
 |v :: vs,h=>by
  obtain⟨i,t,rfl⟩:=h v rM;exact .cons _ _ (ints_map λu hu=>h u (rP _ hu))
theorem Ib:∀{vs:aJ}{ns:List Int},IntsAre vs ns→∀v∈vs,∃i t,v=.int i t
 |_,_,.nil,v,h=>by cases h
 |_,_,.cons i t r,v,h=>by
  rcases rT.mp h with e|e
  ·exact⟨_,_,e⟩
  ·exact Ib r v e
theorem ints_of:∀{vs:aJ}{ns:List Int},IntsAre vs ns→vs.map intOf=ns
 |_,_,.nil=>rfl
 |_,_,.cons i t r=>congrArg _ (ints_of r)
theorem Dc{D:List Nat}{Q:List Value→Shared→Prop}(hh:A.handled=none)(hS:s.heap.get? S=some o)(hX:Qx w o D)
  (hQ:∀(vs:aJ) (ys:List Int) (h':Heap) tk,s.heap.objs.size≤h'.objs.size→IntsAre vs ys→ys.Perm (D.map λv:Nat=>(v:Int))→(∀b o,s.heap.get? b=some o→h'.get? b=some o)→Q vs { s with heap:=h',toks:=tk }) :
  wpAny (model P w) A (collect (.ref S)) Q E s:=by
 obtain⟨Rk,es,ep,rfl,v0⟩:=hX;have hsz:=v0.size
 have uX:D.length≤6:=by
  have:∀vs∈Ux,vs.length≤6:=by decide +kernel
  exact this _ Rk
 have hf:(tbI (!w.params.followText "set-order") D).fits es.size=true:=by rw[hsz];exact((Uw _ Rk).2.2 _ (Ri _)).1
 have yI:∀(i j:Nat),(tbI (!w.params.followText "set-order") D).place[i]?=some j→SetTable.below (tbI (!w.params.followText "set-order") D).place (j+1)=i+1:=λi j e=>by
  have e:D.toArray[i]?=some j:=e;rw[List.getElem?_toArray]at e;obtain⟨hi,e'⟩:=rH.mp e;have:=Zcl D Rk i (pU.mpr hi);rw[rK,e]at this;exact this
 generalize htt:tbI (!w.params.followText "set-order") D=t at hS hf yI;have y1:t.plain=true:=by rw[←htt];rfl
 have Zbp:t.led = !w.params.followText "set-order":=by rw[←htt];rfl
 have lt:=rO hS;unfold collect;refine rB (wpAny_runValue (lO PySem.F.entry_proto_collect ?_));rw[lA PySem.F.plain_proto_collect _];show wpAny _ A.in1 (newList [] >>= λl=>again (.builtin "list.__iadd__" ⟨[l,.ref S],[]⟩)) _ _ s;refine rB (pX ?_);refine rF ⟨plainId_quiet PySem.F.plain_list_iadd _,lO PySem.F.entry_list_iadd ?_⟩;rw[lA PySem.F.plain_list_iadd _];show wpAny _ A.in1 (Builtin.List.listExtendWith (.ref s.heap.objs.size) (.ref S) (.ref s.heap.objs.size)) _ _ _;generalize hH:s.heap.push { cls:=.type "list",data:=.seq ([]:List Value).toArray } = H;have hHs:H.objs.size=s.heap.objs.size+1:=by rw[←hH,iG]
 have hL:H.get? s.heap.objs.size=some { cls:=.type "list",data:=.seq #[] 0 }:=hH▸rR _ rfl;have zI:H.get? S=some (Zde es ep t):=hH▸rE _ hS;unfold Builtin.List.listExtendWith;refine rB (iS (T:="set") ⟨_,zI,rfl⟩ ?_);have h1:Builtin.List.listSameRef (.ref s.heap.objs.size) (.ref S)=false:=by simp[Builtin.List.listSameRef,fE lt]
 have h2:(Value.type "set"==Value.type "list")=false:=by decide
 have h3:(Value.type "set"==Value.type "tuple")=false:=by decide
 simp only[h1,h2,h3,Bool.or_false,iC,if_false]
 refine rB (Ze5 (s:={ s with heap:=H }) zI hf y1 (by lia) λI vs h2 k2 gI yL st=>?_);have wN:s.heap.objs.size+1≤I:=hHs▸gI;refine rB (oJ (Zbq ⟨_,k2 _ _ zI,rfl⟩ ?_));have hL2:=k2 _ _ hL
 have sX:s.heap.objs.size∉[I,S]:=by
  simp only[rT,fB,or_false,not_or];exact⟨rV (rZ (iD _) wN),fE lt⟩
 have hSI:S≠I:=rV (rZ (dJ lt) wN);have hlen:vs.length=es.size:=by rw[yL.length_eq,rC,oH]
 have W:Walks P w A.in1 I [I,S] [I] vs.length (λi v=>vs[i]?=some v) (λi h=>ItI w I S es ep t vs i h):=Zav (A:=A.in1) hh hSI hf y1 yI Zbp
 have stx:∃ys:List Int,IntsAre vs ys∧ys.Perm (D.map λv:Nat=>(v:Int)):=by
  have hi:=v0.vals;refine⟨vs.map intOf,ints_map λv hv=>?_,?_⟩
  ·exact Ib hi v (yL.mem_iff.mp hv)
  ·have:=yL.map intOf;rw[ints_of hi]at this;exact this
 have key:∀(h:Heap) (c tk:Nat),ItI w I S es ep t vs 0 h→(∀b o,b≠s.heap.objs.size→h2.get? b=some o→h.get? b=some o)→h.get? s.heap.objs.size=some { cls:=.type "list",data:=.seq #[] c }→
   codeAny (model P w) A (.builtin "list.extend.loop" ⟨[.ref s.heap.objs.size,.ref I,.ref s.heap.objs.size],[]⟩)
    (λr s'=>match r with|.ok (.ret v)=>wpAny (model P w) A (match v with|.ref a=>(do match (←load a).data with|.seq xs _=>pure xs.toList|_=>unsupported "internal:collect")|_=>unsupported "internal:collect") Q E s'|.ok _=>False|.error e=>E e s') { s with heap:=h,toks:=tk }:=λh c tk u9 k hL'=>by
  refine codeAny_extend_loopS W.toS (by rw[hlen,sizeLine_eq];lia) _ sX _ vs.length 0 _ #[] c rfl (oC _) u9 hL' (ItemsOf.nil _) λs' acc c' hm Zom Tv=>?_;refine rB (wpAny_load Zom ?_)
  have wE:acc.toList=vs:=by
   refine cN λi=>?_;rw[pW]
   cases ev:acc[i]? with
   |some v=>exact(Tv.2 i v ev).symm
   |none=>
    symm
    rw[lG,←Tv.1];exact Array.getElem?_eq_none_iff.mp ev
  obtain⟨ys,sy,py⟩:=stx;obtain⟨h3,g3,d3,t3,o3⟩:=s';have eg:g3=s.gens:=hm.gens;have ed:d3=s.drawn:=hm.drawn;have eo:o3=s.os:=hm.os;subst eg;subst ed;subst eo;refine rF ?_;rw[wE];refine hQ vs ys h3 t3 (oX (rO Zom)) sy py λb o e=>?_;have lb:=rO e;refine hm.heap b o (λz=>?_) (k b o (rV lb) (k2 b o (hH▸rE _ e)))
  rcases rT.mp z with z|z
  ·exact oT _ (z▸lb)
  ·have:=rL.mp z;exact oT _ (rZ (dJ lb) (this▸wN))
 refine dD (λ_=>?_) (λz=>absurd (by decide +kernel) z);refine rB (dA (rB ?_));show wpAny _ _ (updateSeq s.heap.objs.size (·.push .none) >>= λ_=>updateSeq s.heap.objs.size (·.pop)) _ _ _;refine rB (wpAny_updateSeq hL2 rfl ?_);have hL3:=lQ (Obj.mapSeq (·.push Value.none)) hL2 rfl;refine wpAny_updateSeq (hz:=by seq_fits) hL3 rfl ?_;have hL4:=lQ (Obj.mapSeq (·.pop)) hL3 rfl
 have oth:∀b o,b≠s.heap.objs.size→h2.get? b=some o→((h2.update s.heap.objs.size (Obj.mapSeq (·.push Value.none))).update s.heap.objs.size (Obj.mapSeq (·.pop))).get? b=some o:=λb o hb e=>
  (dF _ _ (lW hb)).trans ((dF _ _ (lW hb)).trans e)
 refine rF ⟨plainId_quiet PySem.F.plain_extend_loop _,key _ _ _ (st.at λb hb o e=>oth b o (λz=>sX (by rw[←z];rcases hb with y|y<;>simp[y])) e) oth hL4⟩
theorem D6{D:List Nat}(hh:A.handled=none)(hS:s.heap.get? S=some o)(hX:Qx w o D)
  (hQ:∀(a:Addr) (out:aJ) (e:Nat) (ys:List Int) h' tk,IntsAre out ys→ys.Perm (D.map λv:Nat=>(v:Int))→ys.Pairwise (·≤·)→(∀b o,s.heap.get? b=some o→h'.get? b=some o)→s.heap.objs.size≤a→
   h'.get? a=some (seqObj "list" out.toArray e)→Q (.ref a) { s with heap:=h',toks:=tk }):wpAny (model P w) A (call (.builtin "sorted") [.ref S]) Q E s:=by
 have uX:D.length≤6:=by
  have:∀vs∈Ux,vs.length≤6:=by decide +kernel
  exact this _ hX.1
 refine Calls.call_function_entry kind_sorted plain_sorted entry_sorted (args_sorted1 _) ?_;unfold Builtin.«sorted»;refine rB (m:=checkCount "sorted" 1 1 _) (rF ?_);refine rB (Dc (A:=A.in1) hh hS hX λvs ys h' tk le sy pm k=>?_)
 have hlen:vs.length=D.length:=by
  have h1:=congrArg List.length (ints_of sy);rw[rC]at h1;rw[h1,pm.length_eq,rC]
 refine rB (wpAny_newList ?_ (by rw[hlen,sizeLine_eq];lia));have gE:(h'.push (seqObj "list" vs.toArray 0)).get? h'.objs.size=some (seqObj "list" vs.toArray 0):=rR _ rfl
 refine rB (oJ (lD slot_list_sort ⟨_,gE,rfl⟩ entry_list_sort (list_sort_tree (s:={ s with heap:=h'.push (seqObj "list" vs.toArray 0),toks:=tk }) gE sy (by lia) λout q9 a1 a2 a3=>⟨_,rfl,?_⟩) (args_list_sort _)));obtain⟨e,he⟩:=sortedHeap_at (vs:=vs) (out:=out) (n:=0) gE;refine rF ⟨_,rfl,hQ h'.objs.size out.toList e q9 _ tk a1 (a2.trans pm) a3 (λb o' eb=>?_) le ?_⟩
 ·have lb:=rO (k b o' eb);rw[sortedHeap_old (rV lb) (by rw[size_push'];exact dJ lb)];exact rE _ (k b o' eb)
 ·rw[dS];exact he
end
def Zdf(w:World)(a:Addr)(vs:List Nat):HO:=.ext λh=>∃o,h.get? a=some o∧Qx w o vs
inductive Zdp(K:W.Frag)(w:World)(xs:List V)(H:Hp)(Q:VK):Prop
 |mk(p:Addr)(ns:List Nat)(h1:xs=[.ref p])(h2:SqL K H p (ns.map λn:Nat=>V.int (n:Int)))(h3:(∀n∈ns,n<6))(h4:∀l vs,(∀z,z∈vs↔z∈ns)→H l=none→Q (.ref l) (upd H l (Zdf w l vs))):Zdp K w xs H Q
def Znj(K:W.Frag)(w:World):List V→Hp→VK→Prop:=λxs H Q=>Zdp K w xs H Q
inductive Fw(w:World)(xs:List V)(H:Hp)(Q:VK):Prop
 |mk(p vs:_)(h1:xs=[.ref p])(h2:H p=some (Zdf w p vs))(h3:∀(ys:List Nat) l,ys.Nodup→(∀y,y∈ys↔y∈vs)→ys.length≤6→H l=none→Q (.ref l) (upd H l (.lst (ys.map λn:Nat=>V.int (n:Int))))):Fw w xs H Q
def Zg4(w:World):List V→Hp→VK→Prop:=λxs H Q=>Fw w xs H Q
section
variable {X:Cx}
theorem Zaw{ns:List Nat}(r:Vals (ns.map λn:Nat=>V.int (n:Int)) its)(i:Nat)(v:Value)(h:its[i]?=some v):Dm ns i v:=by
 have hi:i<its.length:=(rH.mp h).1;have hl:i<ns.length:=by rw[←r.length,rC]at hi;exact hi
 obtain⟨u,hu,t,rfl⟩:=Vals.get (i:=i) (x:=V.int (ns[i]:Int)) r (by rw[rJ,rD hl];rfl);rw[h]at hu;exact⟨ns[i],t,rD hl,Option.some.inj hu⟩
theorem Zb3(hc:X.calm=true)(hK:X.K=K:=by rfl):Y4 X (.type "set") (Znj K X.w):=by
 subst hK;intro pins s σ H xs us Q I r h;obtain⟨p,ns,rfl,hp,hn6,q⟩:=h;obtain⟨u,rfl,ru⟩:=vals1 r;obtain rfl:u=Value.ref p:=ru;obtain⟨its,rv,pl,_⟩:=I.list hp;have hl:its.length=ns.length:=by rw[←rv.length,rC]
 refine Jr (I.ok.hd hc) pl.isList (by rw[rQ];exact hl) (λi v e=>Zaw rv i v (by simpa using e)) hn6 λh' tk o vs k e sx mem=>?_;exact⟨.ref s.heap.objs.size,_,I.laid k (rG _) (show Z8 X.prog X.w _ h' _ (Zdf X.w s.heap.objs.size vs) from⟨⟨o,e,sx⟩,⟨o,e⟩,λh1 h2 ⟨o1,e1,x1⟩ k1=>⟨o1,k1 o1 e1,x1⟩⟩),rfl,q _ vs mem (I.hok.fresh (rG _))⟩
theorem Df(hc:X.calm=true):Y4 X (.builtin "sorted") (Zg4 X.w):=by
 intro pins s σ H xs us Q I r h;obtain⟨p,D,rfl,hp,q⟩:=h;obtain⟨u,rfl,ru⟩:=vals1 r;cases ru;obtain⟨⟨o,e,sx⟩,_,_⟩:=(show Z8 X.prog X.w H s.heap p (Zdf X.w p D) from I.hok p _ hp)
 have uX:D.length≤6:=by
  have:∀vs∈Ux,vs.length≤6:=by decide +kernel
  exact this _ sx.1
 have hDn:D.Nodup:=by
  have:∀vs∈Ux,vs.Nodup:=by decide +kernel
  exact this _ sx.1
 refine D6 (I.ok.hd hc) e sx λa out ee ys h' tk sy pm so k le ea=>?_;have Zoc:H a=none:=I.hok.fresh le
 obtain⟨zs,rfl⟩:∃zs:List Nat,ys=zs.map λn:Nat=>(n:Int):=by
  refine⟨ys.map Int.toNat,?_⟩;rw[pO];refine(lH ys).symm.trans (bJ λy hy=>?_);obtain⟨n,_,rfl⟩:=rY.mp (pm.mem_iff.mp hy);simp
 have pz:zs.Perm D:=by
  have:=pm.map Int.toNat;rw[pO,pO]at this
  have e:∀l:List Nat,l.map (Int.toNat ∘ λn:Nat=>(n:Int))=l:=λl=>by
   refine(bJ λn _=>?_).trans (lH l);simp
  rwa[e,e]at this
 have hlz:zs.length≤6:=by rw[pz.length_eq];exact uX
 refine⟨.ref a,_,I.laid k le (show Z8 X.prog X.w _ h' a (.lst (zs.map λn:Nat=>V.int (n:Int))) from⟨by rw[rC,sizeLine_eq];lia,out,ee,?_,ea⟩),rfl,q zs a (pz.nodup_iff.mpr hDn) (λy=>pz.mem_iff) hlz Zoc⟩;have:=Uv sy;rwa[pO]at this
end
section
variable {prog:Program}{w:World}{A:Around}{E:aC}{s:Shared}{l:Addr}{xs:Array (Int×Tok)}
theorem Cr(hh:A.handled=none)(hl:s.heap.IsTuple l (intItems xs))(y8:0<xs.size)
  (h:∀v h' tk,(intItems xs)[argBest (λi j=>decide (numAt xs i>numAt xs j)) (xs.size-1)]?=some v→(∀b o,s.heap.get? b=some o→h'.get? b=some o)→Q v { s with heap:=h',toks:=tk }) :
  wpAny (model prog w) A (call (.builtin "max") [.ref l]) Q E s:=by
 have x5:l<s.heap.objs.size:=by obtain⟨_,e,_⟩:=hl;exact rO e
 refine call_max_walk (cD hl ?_);refine⟨_,_,_,_,_,_,_,rfl,Walks.tuple (A:=A.in1) hh _ l (rV x5) (intItems xs),⟨⟨_,rR _ rfl,rfl,rfl⟩,hl.push _⟩,λb hb=>?_,by simpa[intItems] using y8,CmpOf.ints_gt (numAt xs) (λ_ _=>intItems_at),λv h' tk hP hk=>?_⟩
 ·show b<(s.heap.push _).objs.size;rw[iG]
  rcases rT.mp hb with rfl|hb
  ·exact iD _
  ·rcases rT.mp hb with rfl|hb
   ·exact dJ x5
   ·cases hb
 ·refine h v h' tk (by simpa[intItems] using hP) λb o e=>hk b o (λhm=>?_) (rE _ e)
  rcases rT.mp hm with e1|hm
  ·exact absurd (e1▸rO e) (oT _)
  ·cases hm
end
section
variable {X:Cx}{K:W.Frag}
inductive Zdt(K:W.Frag)(xs:List V)(H:Hp)(Q:VK):Prop
 |mk(l:Addr)(ns:List Int)(h1:xs=[.ref l])(h2:SqT K H l (ns.map V.int))(h3:0<ns.length)(h4:∀M,M∈ns→(∀a∈ns,a≤M)→Q (.int M) H):Zdt K xs H Q
def Znn(K:W.Frag):List V→Hp→VK→Prop:=λxs H Q=>Zdt K xs H Q
theorem Zb5(hc:X.calm=true)(hK:X.K=K:=by rfl):Y4 X (.builtin "max") (Znn K):=by
 subst hK;intro pins s σ H xs us Q I r h;obtain⟨l,ns,rfl,hl,y8,q⟩:=h;obtain⟨u,rfl,ru⟩:=vals1 r;cases ru;obtain⟨its,r1,p1,_⟩:=I.tuple hl;have hi:IntsAre its.toArray.toList ns:=intsAre_of r1;obtain⟨ys,e⟩:=hi.allInts.items;have en:ns=ys.toList.map (·.1):=(hi.numsOf.symm.trans (by rw[e])).trans (nums_intItems ys);have el:ns.length=ys.size:=by rw[en,rC];exact oH
 have p1':=p1;rw[show its.toArray=intItems ys from e]at p1';refine Cr (I.ok.hd hc) p1' (by lia) λv h' tk hv hk=>?_;obtain⟨t,rfl⟩:=intItems_at hv;have g:=argBest_gt (numAt ys) (ys.size-1);have at_:∀j,numAt ys j=ns.getD j 0:=λj=>by rw[en];exact numAt_eq ..
 refine⟨.int _,H,I.kept hk,⟨_,rfl⟩,q _ (by rw[at_];exact getD_mem (by have:=g.1;lia)) λa ha=>?_⟩;obtain⟨j,hj,rfl⟩:=mem_getD ha;rw[←at_];exact g.2 j (by lia)
end
section
variable {P:Program}{w:World}{A:Around}{E:aC}{s:Shared}{κ:Type} [DecidableEq κ] {knd:PySem.KeyKind P w κ}
theorem Mt{k:List κ}{a:Addr}(x:(tupleKind knd).is h k a)(hk:∀o,h.get? a=some o→h'.get? a=some o):(tupleKind knd).is h' k a:=
 let ⟨o,items,n,e,r⟩:=x;⟨o,items,n,hk _ e,r⟩
theorem Oz{h h':Heap}{xs:List (List κ×Addr×Value)}(x:h.DictOfH (tupleKind knd) d xs)(hk:∀o,h.get? d=some o→h'.get? d=some o)(hx:∀y∈xs,∀o,h.get? y.2.1=some o→h'.get? y.2.1=some o):h'.DictOfH (tupleKind knd) d xs:=
 let ⟨o,es,ep,e,r1,r2,r3,xL,hn⟩:=x;⟨o,es,ep,hk _ e,r1,r2,r3,λy hy=>Mt (xL y hy) (hx y hy),hn⟩
def Ue(xs rs:List (List κ×Addr×Value)):List (List κ×Addr×Value):=rs.foldl (λxs r=>storedH xs r.1 r.2.1 r.2.2) xs
theorem Ff(xs:List (List κ×Addr×Value))(k:List κ)(a:Addr)(v:Value):(storedH xs k a v).length≤xs.length+1:=by
 unfold storedH
 split
 ·rw[rC];lia
 ·rw[rS];exact rG _
theorem Zbe(rs:List (List κ×Addr×Value)):∀xs,(Ue xs rs).length≤xs.length+rs.length:=by
 induction rs with
 |nil=>exact λxs=>rG _
 |cons r rs ih=>
  intro xs;have h1:=ih (storedH xs r.1 r.2.1 r.2.2);have h2:=Ff xs r.1 r.2.1 r.2.2;show (Ue (storedH xs r.1 r.2.1 r.2.2) rs).length≤_;rw[pY];lia
theorem Fg{p:Addr→Prop}{xs:List (List κ×Addr×Value)}{k:List κ}{a:Addr}(h:∀x∈xs,p x.2.1)(ha:p a):∀x∈storedH xs k a v,p x.2.1:=λx hx=>by
 unfold storedH at hx
 split at hx
 ·obtain⟨y,hy,rfl⟩:=rY.mp hx;unfold putAt
  split
  ·exact h y hy
  ·exact h y hy
 ·rcases oB.mp hx with q|q
  ·exact h x q
  ·rw[rL.mp q];exact ha
theorem Zbf{p:Addr→Prop}(rs:List (List κ×Addr×Value)):∀xs:List (List κ×Addr×Value),(∀x∈xs,p x.2.1)→(∀r∈rs,p r.2.1)→∀x∈Ue xs rs,p x.2.1:=by
 induction rs with
 |nil=>exact λxs h _=>h
 |cons r rs ih=>exact λxs h hr=>ih _ (Fg h (hr r rM)) λq hq=>hr q (rP _ hq)
theorem Cq{rs:List (List κ×Addr×Value)}{r:List κ×Addr×Value}(h:rs[i]?=some r):Ue [] (rs.take (i+1))=storedH (Ue [] (rs.take i)) r.1 r.2.1 r.2.2:=by
 unfold Ue;rw[oK,h,iX];rfl
def Zgh(knd:PySem.KeyKind P w κ)(h:Heap)(away:Addr→Prop)(rs:List (List κ×Addr×Value))(i:Nat)(v:Value):Prop:=
 ∃(a b:Addr) (o:Obj) (y:Value) (kk:List κ) (c:Nat),v=.ref a∧away a∧away b∧h.get? a=some o∧o.cls=.type "tuple"∧o.data=.seq #[.ref b,y] c∧rs[i]?=some (kk,b,y)∧(tupleKind knd).is h kk b
theorem Be{Pv:Nat→Value→Prop}{St:Nat→Heap→Prop}(hu:A.units+8<cLine)
  (W:Walks P w A.in1 I fp wr n Pv St) (i7:d∉fp) (rs:List (List κ×Addr×Value)) (hn:rs.length=n) (hz:n≤sizeLine) (haw:∀r∈rs,r.2.1∉wr∧r.2.1≠d) :
  ∀(k i:Nat) (j:Int) (s:Shared),n-i=k→i≤n→St i s.heap→s.heap.DictOfH (tupleKind knd) d (Ue [] (rs.take i))→
   (∀i v,Pv i v→Zgh knd s.heap (λa=>a∉wr∧a≠d) rs i v)→
   (∀h' tk,(∀b o,b≠d→b∉wr→s.heap.get? b=some o→h'.get? b=some o)→h'.DictOfH (tupleKind knd) d (Ue [] rs)→R (.ok (.ret .none)) { s with heap:=h',toks:=tk })→
   codeAny (model P w) A (.builtin "dict.update.loop" ⟨[.ref d,.ref I,rawInt j,.none],[]⟩) R s:=by
 have kX:d∉wr:=λh=>i7 (W.sub _ h);have kaw:∀i,∀y∈Ue [] (rs.take i),y.2.1∉wr∧y.2.1≠d:=λi=>Zbf (p:=λa=>a∉wr∧a≠d) _ [] (λ_ h=>by cases h) λr hr=>haw r (fR hr);intro k
 induction k with
 |zero=>
  intro i j s hk hi k5 hD hP hR;have x9:i=n:=by lia
  subst x9;refine lO X8 ?_;rw[lA Yl _];show wpAny _ A.in1 (pyNext (.ref I) >>= _) _ _ s;refine rB (W.done s _ _ k5 λh' tk kp=>?_);show wpAny _ A.in1 (Builtin.Dict.addKeywords d [] >>= λ_=>ret Value.none) _ _ _;refine rB (rF (rF (hR h' tk (λb o _ hb e=>kp b o hb e) ?_)));have hD':=Oz hD (λo e=>kp d o kX e) λy hy o e=>kp _ o (kaw i y hy).1 e;rwa[←hn,pZ]at hD'
 |succ k ih=>
  intro i j s hk hi k5 hD hP hR;have x5:i<n:=by lia
  refine lO X8 ?_;rw[lA Yl _];show wpAny _ A.in1 (pyNext (.ref I) >>= _) _ _ s;refine rB (W.item i s _ _ x5 k5 λv h1 tk zG Zlx u8=>?_);obtain⟨a,b,o,y,kk,c,rfl,aw,bw,ho,eQ,yJ,j0,Nn⟩:=hP i v zG;have gD:=u8 a o aw.1 ho;have hT:(Shared.mk h1 s.gens s.drawn tk s.os).TypeIs (.ref a) "tuple":=⟨_,gD,eQ⟩;have zA:h1.DictOfH (tupleKind knd) d (Ue [] (rs.take i)):=Oz hD (λo e=>u8 d o kX e) λy hy o e=>u8 _ o (kaw i y hy).1 e;have Zog:(tupleKind knd).is h1 kk b:=Mt Nn λo e=>u8 b o bw.1 e;refine rB (oJ (rB (wpAny_tryCatch ?_)));unfold Builtin.Dict.pairItems;refine rB (iS hT ?_);rw[if_pos (by decide)];refine rB (bL gD yJ (rF ?_))
  have jI:(Ue [] (rs.take i)).length≤sizeLine:=by
   have:=Zbe (rs.take i) ([]:List (List κ×Addr×Value));rw[pR]at this;simp only[fK]at this;lia
  refine oJ (wpAny_dictSet_heap (knd:=tupleKind knd) (hsz:=jI) ?_ Zog zA λh2 sV eT=>?_)
  ·show A.units+1<cLine;lia
  have zB:h2.DictOfH (tupleKind knd) d (Ue [] (rs.take (i+1))):=by rw[Cq j0];exact sV
  refine rF ⟨plainId_quiet Yl _,ih (i+1) (j+1) _ (by lia) x5 (W.frame _ _ _ Zlx λb hb o e=>?_) zB (λi' v' zF=>?_) λh3 nU qT zC=>?_⟩
  ·exact(eT.2 b (λz:b=d=>i7 (z▸hb))).trans e
  ·obtain⟨a',b',o',y',yT,c',e1,sO,vU,m9,r1,r2,r3,r4⟩:=hP i' v' zF;exact⟨a',b',o',y',yT,c',e1,sO,vU,(eT.2 a' sO.2).trans (u8 a' o' sO.1 m9),r1,r2,r3,Mt r4 λo e=>(eT.2 b' vU.2).trans (u8 b' o vU.1 e)⟩
  ·exact hR h3 nU (λb o hb hw e=>qT b o hb hw ((eT.2 b hb).trans (u8 b o hw e))) zC
theorem Nu{l:Addr}{c:Nat}{rs:List (List κ×Addr×Value)}(hu:A.units+16<cLine)(hh:A.handled=none)(ho:s.heap.get? l=some o)(hc:o.cls=.type "list")(yB:o.dict=none)(hd:o.data=.seq items c)
  (hn:rs.length=items.size) (hz:items.size≤sizeLine) (hP:∀i v,items[i]?=some v→Zgh knd s.heap (λ_=>True) rs i v)
  (h:∀h' tk,(∀b u,s.heap.get? b=some u→h'.get? b=some u)→h'.DictOfH (tupleKind knd) s.heap.objs.size (Ue [] rs)→Q (.ref s.heap.objs.size) { s with heap:=h',toks:=tk }):wpAny (model P w) A (call (.type "dict") [.ref l]) Q E s:=by
 refine callType_codes (Q₁:=λobj x3=>obj=.ref s.heap.objs.size∧x3 = { s with heap:=s.heap.push { cls:=.type "dict",data:=.dict #[] } }) F.kt_called_dict (F.kt_typeCall_dict_1 _) F.entry_dict_init (kt_code_dict_new _ ⟨rfl,rfl⟩) ?_;rintro obj x3 ⟨rfl,rfl⟩;have Pd:(s.heap.push { cls:=.type "dict",data:=.dict #[] }).DictOfH (tupleKind knd) s.heap.objs.size []:=Heap.DictOfH.new s.heap;have m9:=rE { cls:=.type "dict",data:=.dict #[] } ho;have hT:(Shared.mk (s.heap.push { cls:=.type "dict",data:=.dict #[] }) s.gens s.drawn s.toks s.os).TypeIs (.ref l) "list":=⟨_,m9,hc⟩;refine⟨Pd.typeIs,F.args_dict_init_2 _ _,?_⟩;unfold Builtin.«dict.__init__»;refine rB ?_;unfold Builtin.Dict.selfAndRest;refine rB (dO Pd.typeIs ?_);show wpAny _ _ (pure (s.heap.objs.size,[Value.ref l])) _ _ _;refine rF ?_;show wpAny _ _ (Builtin.Dict.updateFrom "dict.__init__" s.heap.objs.size (.ref l) [] .none) _ _ _;unfold Builtin.Dict.updateFrom;refine rB (iS hT ?_);rw[if_pos (by decide)];refine rB (J8 m9 hc hd yB hh λh1 vO u8=>?_);rw[if_pos (show (none:YM).isNone=true from rfl)];refine rB (dA ?_);have ll:=rO ho;have z8:h1.IsList l items:=⟨o,u8 _ _ m9,hc,c,hd⟩;have E1:h1.DictOfH (tupleKind knd) s.heap.objs.size []:=Oz Pd (λo e=>u8 _ o e) λ_ h=>by cases h
 have o5:s.heap.objs.size<h1.objs.size:=let ⟨_,_,_,e,_⟩:=E1;rO e
 refine rB (dH z8 ?_);refine rF ⟨plainId_quiet Yl _,?_⟩;have W:=Walks.list (prog:=P) (w:=w) (A:=A.in1.in1) hh h1.objs.size l (rV (dM ll o5)) items
 have rsb:∀r∈rs,r.2.1<s.heap.objs.size:=λr hr=>by
  obtain⟨i,hi,rfl⟩:=pL.mp hr;obtain⟨a,b,o2,y,kk,c2,e1,_,_,_,_,_,e3,⟨o3,_,_,e4,_⟩⟩:=hP i _ (fQ (by lia));rw[rD hi]at e3;rw[Option.some.inj e3];exact rO e4
 refine Be (A:=A.in1) (knd:=knd) (by show A.units+1+8<cLine;lia) W (d:=s.heap.objs.size) ?_ rs hn hz (λr hr=>?_) items.size 0 0 _ rfl (oC _) ⟨?_,?_⟩ ?_ (λi v hv=>?_) λh2 nT qS sV=>⟨rfl,?_⟩
 ·intro hm
  rcases rT.mp hm with e|hm
  ·exact absurd e (rV o5)
  ·rcases rT.mp hm with e|hm
   ·exact absurd e (fE ll)
   ·cases hm
 ·have hb:=rsb r hr;exact⟨λhm=>oT _ (dM (rZ hb (oX o5)) (iB (cG (rL.mp hm).symm) hb |> λz=>absurd z (bC.mpr (oX o5)))),rV hb⟩
 ·exact⟨_,rR _ rfl,rfl,rfl⟩
 ·exact⟨o,rE _ (u8 _ _ m9),hc,c,hd⟩
 ·exact Oz E1 (λo e=>rE _ e) λ_ h=>by cases h
 ·obtain⟨a,b,o2,y,kk,c2,e1,_,_,o9,r1,r2,r3,r4⟩:=hP i v hv;have l2:=rO o9;have l3:b<s.heap.objs.size:=let ⟨_,_,_,e,_⟩:=r4;rO e
  refine⟨a,b,o2,y,kk,c2,e1,⟨λhm=>?_,rV l2⟩,⟨λhm=>?_,rV l3⟩,rE _ (u8 _ _ (rE _ o9)),r1,r2,r3,Mt r4 λo e=>rE _ (u8 _ _ (rE _ e))⟩
  ·rw[rL.mp hm]at l2;exact absurd l2 (bC.mpr (oX o5))
  ·rw[rL.mp hm]at l3;exact absurd l3 (bC.mpr (oX o5))
 ·refine h h2 nT (λb u e=>?_) sV;have lb:=rO e;exact qS b u (rV lb) (λhm=>by rw[rL.mp hm]at lb;exact absurd lb (bC.mpr (oX o5))) (rE _ (u8 _ _ (rE _ e)))
end
section
variable {X:Cx}
inductive Fy(xs:List V)(H:Hp)(Q:VK):Prop
 |mk(p:Addr)(its:List V)(kvs:List (List Key×V))(h1:xs=[.ref p])(h2:H p=some (.lst its))(h3:its.length=kvs.length)(h4:(∀(i:Nat) x kv,its[i]?=some x→kvs[i]?=some kv→∃a b,x=.ref a∧H a=some (.tup [.ref b,kv.2])∧H b=some (.tup (kv.1.map kV))))(h5:∀l,H l=none→Q (.ref l) (upd H l (.dT (kvs.foldl (λd kv=>putK d kv.1 kv.2) [])))):Fy xs H Q
def Zg7:List V→Hp→VK→Prop:=λxs H Q=>Fy xs H Q
theorem KT.merg{rs:List (List Key×Addr×Value)}(r:KT H kvs rs):∀{k0:List (List Key×V)}{x0:List (List Key×Addr×Value)},KT H k0 x0→KT H (kvs.foldl (λd kv=>putK d kv.1 kv.2) k0) (Ue x0 rs):=by
 induction r with
 |nil=>exact λh=>h
 | @cons p q ps qs h t ih=>
  intro k0 x0 h0;obtain⟨h1,h2,h3⟩:=h;have:=h0.put p.1 h2 h3;rw[h1]at this;exact ih (by show KT H (putK k0 p.1 p.2) (storedH x0 q.1 q.2.1 q.2.2);rw[h1];exact this)
theorem K8(kvs:List (List Key×V)):∀d:List (List Key×V),(kvs.foldl (λd kv=>putK d kv.1 kv.2) d).length≤d.length+kvs.length:=by
 induction kvs with
 |nil=>exact λ_=>rG _
 |cons kv kvs ih=>
  intro d;have h1:=ih (putK d kv.1 kv.2);have h2:=Wh d kv.1 kv.2;rw[iA,pY];lia
theorem Zez(I:Inv X pins σ H s):∀{its:List V}{us:aJ}{kvs:List (List Key×V)},Vals its us→its.length=kvs.length→(∀(i:Nat) x kv,its[i]?=some x→kvs[i]?=some kv→∃a b,x=.ref a∧H a=some (.tup [.ref b,kv.2])∧H b=some (.tup (kv.1.map kV)))→
  ∃rs:List (List Key×Addr×Value),KT H kvs rs∧∀i v,us[i]?=some v→Zgh (Z7 X.prog X.w) s.heap (λ_=>True) rs i v:=by
 intro its us kvs r
 induction r generalizing kvs with
 |nil=>
  intro hl _;obtain rfl:kvs=[]:=lF hl.symm;exact⟨[],.nil,λi v e=>by simp at e⟩
 | @cons x u its us rx r ih=>
  intro hl hP
  cases kvs with
  |nil=>cases hl
  |cons kv kvs=>
   obtain⟨rs,rk,j0⟩:=ih (Nat.succ.inj hl) λi x qU e1 e2=>hP (i+1) x qU (by simpa using e1) (by simpa using e2);obtain⟨a,b,rfl,ha,hb⟩:=hP 0 x kv rfl rfl;obtain rfl:u=Value.ref a:=rx;obtain⟨vs,rv,⟨o,e,oc,n,od⟩,_⟩:=I.tuple (SqT.of ha)
   cases rv with
   |cons r1 rv=>
    cases rv with
    |cons r2 rv=>
     cases rv
     rename_i u1 u2
     obtain rfl:u1=Value.ref b:=r1;refine⟨(kv.1,b,u2) :: rs,.cons ⟨rfl,hb,r2⟩ rk,λi v hv=>?_⟩
     cases i with
     |zero=>
      cases hv;exact⟨a,b,_,u2,kv.1,n,rfl,trivial,trivial,e,oc,od,rfl,Tr I.hok hb⟩
     |succ i=>
      obtain⟨a',b',o',y',yT,c',q⟩:=j0 i v (by simpa using hv);exact⟨a',b',o',y',yT,c',by simpa using q⟩
theorem Dg(hu:X.A.units+16<cLine)(hc:X.calm=true):Y4 X (.type "dict") Zg7:=by
 intro pins s σ H xs us Q I r h;obtain⟨p,its,kvs,rfl,e,hl,hP,q⟩:=h;obtain⟨u,rfl,ru⟩:=Vals.one r;obtain rfl:u=Value.ref p:=ru;obtain⟨vs,rv,pl,hz⟩:=I.list (SqL.of e);obtain⟨rs,rk,j0⟩:=Zez I rv hl hP;obtain⟨o,n,ho,eQ,yJ,eE⟩:=pl;have hvl:=rv.length;have t6:kvs.length=rs.length:=iY rk;refine Nu (knd:=Z7 X.prog X.w) (rs:=rs) hu (I.ok.hd hc) ho eQ yJ eE (by rw[rQ];lia) (by rw[rQ];lia) (λi v hv=>j0 i v (by simpa using hv)) λh' tk kp dd=>?_
 have hm:(kvs.foldl (λd kv=>putK d kv.1 kv.2) []).length≤sizeLine:=by
  have:=K8 kvs [];simp only[fK]at this;lia
 obtain⟨o2,es,ep,h2,h3,h4,h5,_,h6⟩:=dd
 have ok:Z8 X.prog X.w (upd H s.heap.objs.size (.dT (kvs.foldl (λd kv=>putK d kv.1 kv.2) []))) h' s.heap.objs.size (.dT (kvs.foldl (λd kv=>putK d kv.1 kv.2) [])):=
  ⟨hm,beq_eq_false_iff_ne.mpr (fE I.big),_,(rk.merg .nil).keeps λc ys ec=>(Zk (Zi ec I.fresh)).trans ec,o2,es,ep,h2,h3,h4,h5,h6⟩
 exact⟨.ref s.heap.objs.size,_,I.laid (t':=tk) kp (rG _) ok,rfl,q _ I.fresh⟩
end
theorem hu16{k:Nat}(hr:Wu k A):A.units+16<cLine:=by have:=hr.units;lia
open AutoSeq1 (wpAny_loadPart')
section
variable {prog:Program}{w:World}{A:Around}{E:aC}{s:Shared}
theorem Zb2{Q:List Value→Shared→Prop}{r:Addr}{a b c:Int}{t u v:Tok}(hh:A.handled=none)(hr:IsRange s.heap r a b c t u v)(Kd:Builtin.Range.small a b c=true)(hn:Builtin.Range.rangeSize a b c=n)(hlen:n≤2 ^ 24)
  (hQ:∀h' tk Nw,(∀b o,s.heap.get? b=some o→h'.get? b=some o)→ItemsOf (λi v=>∃t,v=.int (a+i*c) t) Nw n→Q Nw.toList { s with heap:=h',toks:=tk }):wpAny (model prog w) A (collect (.ref r)) Q E s:=by
 unfold collect;refine rB (wpAny_runValue (lO F.entry_proto_collect ?_));rw[lA F.plain_proto_collect _];show wpAny _ A.in1 (newList [] >>= λl=>again (.builtin "list.__iadd__" ⟨[l,.ref r],[]⟩)) _ _ s;refine rB (pX ?_);refine rF ⟨plainId_quiet F.plain_list_iadd _,lO F.entry_list_iadd ?_⟩;rw[lA F.plain_list_iadd _];show wpAny _ A.in1 (Builtin.List.listExtendWith (.ref s.heap.objs.size) (.ref r) (.ref s.heap.objs.size)) _ _ _;have hS:(s.heap.push { cls:=.type "list",data:=.seq ([]:List Value).toArray }).get? s.heap.objs.size=some { cls:=.type "list",data:=.seq #[] 0 }:=rR _ rfl
 have wL:∀h' tk Nw c',(∀b o,b≠s.heap.objs.size→(s.heap.push { cls:=.type "list",data:=.seq ([]:List Value).toArray }).get? b=some o→h'.get? b=some o)→h'.get? s.heap.objs.size=some { cls:=.type "list",dict:=none,data:=.seq Nw c',slots:=#[] }→ItemsOf (λi v=>∃t,v=.int (a+i*c) t) Nw n→wpAny (model prog w) A (match Value.ref s.heap.objs.size with
   |Value.ref a=>do
    match (←load a).data with
     |Data.seq xs _=>pure xs.toList
     |_=>unsupported "internal:collect"
   |_=>unsupported "internal:collect") Q E { s with heap:=h',toks:=tk }:=λh' tk Nw c' hk mC Tv=>by
  show wpAny _ A (load s.heap.objs.size >>= _) _ _ _;refine rB (wpAny_load mC ?_);exact rF (hQ h' tk Nw (λb o e=>hk b o (rV (rO e)) (rE _ e)) Tv)
 refine iR (wpAny_extend_range (A:=A) (s:={ s with heap:=s.heap.push { cls:=.type "list",data:=.seq ([]:List Value).toArray } }) (R:=λr s'=>r=.ok (.ret (.ref s.heap.objs.size))∧wpAny (model prog w) A (match Value.ref s.heap.objs.size with
   |Value.ref a=>do
    match (←load a).data with
     |Data.seq xs _=>pure xs.toList
     |_=>unsupported "internal:collect"
   |_=>unsupported "internal:collect") Q E s') hh (rE _ hr) Kd hn hlen s.heap.objs.size (.ref s.heap.objs.size) 0 hS λh' tk Nw c' hk mC Tv=>⟨rfl,wL h' tk Nw c' hk mC Tv⟩) (λfin s' h=>?_) (λe s' h=>?_)
 ·cases fin with
  |done f=>
   obtain⟨e,h⟩:=h;cases e;exact h
  |again c'=>exact⟨h.1,fV h.2 λr mQ hr=>by obtain⟨rfl,h⟩:=hr;exact h⟩
 ·exact absurd h.1 (by simp)
end
theorem Zbd(r:Addr)(a b c:Int)(t u v:Tok)(n:Nat)(Kd:Builtin.Range.small a b c=true)(hn:Builtin.Range.rangeSize a b c=n)(hlen:n≤1000):
  Meets (Builtin.«tuple.__new__» ⟨[.type "tuple",.ref r],[]⟩)
   (λA R s=>A.handled=none∧IsRange s.heap r a b c t u v∧∀(h':Heap) (tk:Nat) (acc:aO),(∀b o,s.heap.get? b=some o→h'.get? b=some o)→ItemsOf (λi v=>∃t,v=.int (a+i*c) t) acc n→
    R (.ok (.ret (.ref h'.objs.size))) { s with heap:=h'.push { cls:=.type "tuple",data:=.seq acc },toks:=tk }):=
 .of_wp λprog w A R s h=>by
  obtain⟨hh,hr,h⟩:=h;have Rk:=sub_tuple_self;have hinit:=init_tuple_lookup;have hmh:=madeHere_tuple;have hT:s.TypeIs (.ref r) "range":=⟨_,hr,rfl⟩;have hh1:A.in1.handled=none:=hh
  wp_walk using oA hr,iS hT,Zb2 hh1 hr Kd hn (by lia)
  intro h' tk acc hk Tv;show wpAny _ _ (Builtin.Tuple.tupleExact acc.toList.toArray >>= λv=>ret v) _ _ _;unfold Builtin.Tuple.tupleExact;refine rB (pX ?_ (show acc.toList.toArray.size≤sizeLine by simp only[dS];rw[Tv.1];have:sizeLine=sizeLine:=rfl;exact pQ hlen (by decide)));refine rF ⟨_,rfl,?_⟩;have e:acc.toList.toArray=acc:=by simp
  rw[e];exact h h' tk acc hk Tv
section
variable {prog:Program}{w:World}{A:Around}{E:aC}{s:Shared}
theorem Kp{r:Addr}{a b c:Int}{t u v:Tok}(hh:A.handled=none)(hr:IsRange s.heap r a b c t u v)(Kd:Builtin.Range.small a b c=true)(hn:Builtin.Range.rangeSize a b c=n)(hlen:n≤1000)
  (h:∀(h':Heap) (tk:Nat) (acc:aO),(∀b o,s.heap.get? b=some o→h'.get? b=some o)→ItemsOf (λi v=>∃t,v=.int (a+i*c) t) acc n→Q (.ref h'.objs.size) { s with heap:=h'.push { cls:=.type "tuple",data:=.seq acc },toks:=tk }) :
  wpAny (model prog w) A (call (.type "tuple") [.ref r]) Q E s:=
 callType_new F.called_tuple (by decide) (F.typeCall_tuple_1 _) (F.newCall_tuple_1 _) (λobj=>bD obj _) F.entry_tuple_new
  (Zbd r a b c t u v n Kd hn hlen) ⟨hh,hr,λh' tk acc hk Tv=>⟨⟨_,rR _ rfl,rfl⟩,h h' tk acc hk Tv⟩⟩
end
section
variable {X:Cx}
def Zke(te:TE):TE:=λσ H Q=>te σ H λx H1=>∃n:Nat,x=.int (n:Int)∧n≤1000∧∀l,H1 l=none→Q (.ref l) (upd H1 l (.tup ((List.range n).map λi:Nat=>V.int (i:Int))))
theorem Zd7{p2 Hu:Pos}(hc:X.calm=true)(hg:Gl X "tuple")(hm:X.mg "tuple"=none)(jF:Gl X "range")(i4:X.mg "range"=none)(he:PE X e te)
  (h1:starEach [.Call (.Name "range" p2) [e] [] Hu] X.env=(false,eval (.Call (.Name "range" p2) [e] [] Hu) X.env) :: starEach [] X.env:=by rfl)
  (h2:starEach [e] X.env=(false,eval e X.env) :: starEach [] X.env:=by rfl):PE X (.Call (.Name "tuple" p) [.Call (.Name "range" p2) [e] [] Hu] [] pos) (Zke te):=by
 intro pins s σ H Q I h;refine lB (V3 I hg hm Yt ?_);refine oS ?_ h1 rfl;rw[h1];show wpAny _ _ (spliced ((false,eval _ X.env) :: backTo pos (starEach [] X.env))) _ _ s
 refine lU (lB (V3 I jF i4 boot_range (oS (thn (Za he Zb h2 Hu pins s σ H (λvs H1=>match vs with|[x]=>∃n:Nat,x=.int (n:Int)∧n≤1000∧∀l,H1 l=none→Q (.ref l) (upd H1 l (.tup ((List.range n).map λi:Nat=>V.int (i:Int))))|_=>False) I h) λus s1 ⟨vs,H1,I1,r1,q1⟩=>?_) h2 rfl)))
 obtain⟨x0,e0,n,e1,hn,q⟩:∃x0,vs=[x0]∧∃n:Nat,x0=.int (n:Int)∧n≤1000∧∀l,H1 l=none→Q (.ref l) (upd H1 l (.tup ((List.range n).map λi:Nat=>V.int (i:Int)))):=by
  match vs,q1 with
  |[x0],q1=>exact⟨x0,rfl,q1⟩
 subst e0 e1;obtain⟨u,rfl,ru⟩:=Vals.one r1;obtain⟨t,rfl⟩:=ru;refine call_range_1 (fO ?_);refine Kp (n:=n) (I1.ok.hd hc) (IsRange.new ..) (small_one (by lia) (by lia) (by lia) (by lia)) (by rw[rangeSize_one];split<;>lia) hn λh' sL acc kp Tv=>?_;have le:s1.heap.objs.size≤h'.objs.size:=oX (rO (kp _ _ (rR _ rfl)));have qR:∀b o,s1.heap.get? b=some o→(h'.push { cls:=.type "tuple",data:=.seq acc }).get? b=some o:=λb o e=>rE _ (kp b o (rE _ e))
 have hv:=La acc.toList 0 λi v hi=>by
  obtain⟨t,e⟩:=Tv.2 i v (by rw[←pW];exact hi);exact⟨t,by rw[e];simp⟩
 rw[oH,Tv.1,←List.range_eq_range']at hv;exact⟨.ref _,_,I1.laid (t':=sL) qR le (show Z8 X.prog X.w _ _ _ (.tup ((List.range n).map λi:Nat=>V.int (i:Int))) from⟨by rw[rC,rX,sizeLine_eq];lia,acc.toList,hv,by rw[dS];exact bN _ _⟩),rfl,q _ (I1.hok.fresh le)⟩
end
end L2
namespace My
open PySem PySem.Spec PyProof.Rows L2
abbrev YT:=List (List Key×V)
abbrev YU:=Nat→List Key
abbrev YV:=Hp→Prop
theorem nS7{H H1:Hp}{a:Addr}{o:HO}(e:upd H a o=H1)(h:H a=none):Zm H H1:=e▸Zd h o
theorem nU7{H H1:Hp}{a:Addr}{o:HO}(e:upd H a o=H1):H1 a=some o:=e▸Zc
variable {A B:Prop}{H H' H1 H2:Hp}{K:W.Frag}{L es es0 esD o rk:List Nat}{N b c i j n r wn x y:Nat}{Pt cw d f m p sc:Addr}{Q:VK}{T:ZJ}{fd:FuncData}{flag:Bool}{g:aQ}{kvs:YT}{rs:List (aZ×List Nat)}{st st0 stD:aB}{v:V}{vs xs:List V}{σ:L2.St}
def top(i:Nat):Stmt:=PySem.Challenge.pw_spreadwords_k44_whole_known_machines.main.body.getD i (.Pass ⟨0,0,0,0⟩)
abbrev Uj:Stmt:=top 1
abbrev Mp:Stmt:=top 2
abbrev Ul:Stmt:=top 3
abbrev P0:Stmt:=top 5
abbrev Xv:Stmt:=top 6
abbrev Wq:Stmt:=top 8
abbrev Wo:Stmt:=top 9
abbrev W0:Stmt:=top 10
abbrev Xb:Stmt:=top 12
abbrev Nb:Stmt:=top 13
abbrev Na:Stmt:=top 14
abbrev Th:Stmt:=top 15
abbrev Xc:Stmt:=top 16
abbrev Vx:Stmt:=top 17
abbrev Wn:Stmt:=top 18
abbrev Q6:Stmt:=top 19
abbrev Um:Stmt:=top 20
abbrev Q9:Stmt:=top 22
abbrev Xy:Stmt:=top 23
abbrev Nc:Stmt:=top 24
abbrev Vm:Stmt:=top 25
abbrev S7:Stmt:=top 26
abbrev Xl:Stmt:=top 27
abbrev Tg:Stmt:=top 28
abbrev W5:Stmt:=top 29
abbrev Uk:Stmt:=top 30
abbrev Q8:Stmt:=top 32
abbrev Q7:Stmt:=top 33
abbrev Vg:Stmt:=top 34
abbrev W3:Stmt:=top 35
abbrev Ry:Stmt:=top 36
abbrev Wc:Stmt:=top 37
abbrev W4:Stmt:=top 38
abbrev Vn:Stmt:=top 39
abbrev Yz:Stmt:=top 40
abbrev P4:Stmt:=top 41
theorem Xk:Zv ["machine","room","text","letters","steps","behind","letter"] aY (Zh Uj):=⟨rfl,rfl,rfl,by decide +kernel,rfl,by decide +kernel,by decide +kernel⟩
theorem Uz:Zv ZX aX (Zh Mp):=⟨rfl,rfl,rfl,by decide +kernel,rfl,by decide +kernel,by decide +kernel⟩
theorem Lj:Zv ZP ZP (Zh Ul):=⟨rfl,rfl,rfl,by decide +kernel,rfl,by decide +kernel,by decide +kernel⟩
theorem Yk:Zv ["letters","begin","step","texts","level","longer","place","letter","ahead"] ZM (Zh P0):=⟨rfl,rfl,rfl,by decide +kernel,rfl,by decide +kernel,by decide +kernel⟩
theorem Yv:Zv aM YG (Zh Xv):=⟨rfl,rfl,rfl,by decide +kernel,rfl,by decide +kernel,by decide +kernel⟩
theorem Ui:Zv ["rows","firsts"] ["rows"] (Zh Wq):=⟨rfl,rfl,rfl,by decide +kernel,rfl,by decide +kernel,by decide +kernel⟩
theorem Yq:Zv aW aX (Zh Wo):=⟨rfl,rfl,rfl,by decide +kernel,rfl,by decide +kernel,by decide +kernel⟩
theorem Ll:Zv ["machine","likes","step"] aX (Zh W0):=⟨rfl,rfl,rfl,by decide +kernel,rfl,by decide +kernel,by decide +kernel⟩
theorem K7:Zv ZC ZC (Zh Xb):=⟨rfl,rfl,rfl,by decide +kernel,rfl,by decide +kernel,by decide +kernel⟩
theorem Q4:Zv ["machine","room","letter","texts"] ZC (Zh Nb):=⟨rfl,rfl,rfl,by decide +kernel,rfl,by decide +kernel,by decide +kernel⟩
theorem Q3:Zv ["machine","room","ring"] aX (Zh Na):=⟨rfl,rfl,rfl,by decide +kernel,rfl,by decide +kernel,by decide +kernel⟩
theorem Xp:Zv ZY aX (Zh Th):=⟨rfl,rfl,rfl,by decide +kernel,rfl,by decide +kernel,by decide +kernel⟩
theorem Qs:Zv ["machine","fork","begin"] ["machine","fork"] (Zh Xc):=⟨rfl,rfl,rfl,by decide +kernel,rfl,by decide +kernel,by decide +kernel⟩
theorem Sr:Zv ["words","pair"] ["words"] (Zh Vx):=⟨rfl,rfl,rfl,by decide +kernel,rfl,by decide +kernel,by decide +kernel⟩
theorem Sn:Zv YH YS (Zh Wn):=⟨rfl,rfl,rfl,by decide +kernel,rfl,by decide +kernel,by decide +kernel⟩
theorem Xu:Zv ["machine","own","ring","meets","fork","words","word"] aX (Zh Q6):=⟨rfl,rfl,rfl,by decide +kernel,rfl,by decide +kernel,by decide +kernel⟩
theorem S4:Zv YO aX (Zh Um):=⟨rfl,rfl,rfl,by decide +kernel,rfl,by decide +kernel,by decide +kernel⟩
theorem Fs:Zv ZC ZC (Zh Q9):=⟨rfl,rfl,rfl,by decide +kernel,rfl,by decide +kernel,by decide +kernel⟩
theorem Qr:Zv ZL ZL (Zh Xy):=⟨rfl,rfl,rfl,by decide +kernel,rfl,by decide +kernel,by decide +kernel⟩
theorem Q5:Zv ["machine","room","one","other","word","letters","unlike"] aU (Zh Nc):=⟨rfl,rfl,rfl,by decide +kernel,rfl,by decide +kernel,by decide +kernel⟩
theorem Uh:Zv YL ["machine","ranks"] (Zh Vm):=⟨rfl,rfl,rfl,by decide +kernel,rfl,by decide +kernel,by decide +kernel⟩
theorem Wl:Zv ["machine","row","room","one","other","word"] ["machine","row"] (Zh S7):=⟨rfl,rfl,rfl,by decide +kernel,rfl,by decide +kernel,by decide +kernel⟩
theorem So:Zv ZE YR (Zh Xl):=⟨rfl,rfl,rfl,by decide +kernel,rfl,by decide +kernel,by decide +kernel⟩
theorem Qq:Zv ["machine","room","text","back","other"] YK (Zh Tg):=⟨rfl,rfl,rfl,by decide +kernel,rfl,by decide +kernel,by decide +kernel⟩
theorem Wm:Zv ZO aU (Zh W5):=⟨rfl,rfl,rfl,by decide +kernel,rfl,by decide +kernel,by decide +kernel⟩
theorem S3:Zv ["machine","paper","own"] YO (Zh Uk):=⟨rfl,rfl,rfl,by decide +kernel,rfl,by decide +kernel,by decide +kernel⟩
theorem Fq:Zv ZV ZV (Zh Q8):=⟨rfl,rfl,rfl,by decide +kernel,rfl,by decide +kernel,by decide +kernel⟩
theorem S5:Zv ["_law_flow_here","_law_many","_law_cell","_law_digit"] aS (Zh Q7):=⟨rfl,rfl,rfl,by decide +kernel,rfl,by decide +kernel,by decide +kernel⟩
theorem Ho:Zv aR aR (Zh Vg):=⟨rfl,rfl,rfl,by decide +kernel,rfl,by decide +kernel,by decide +kernel⟩
theorem S6:Zv YE aS (Zh W3):=⟨rfl,rfl,rfl,by decide +kernel,rfl,by decide +kernel,by decide +kernel⟩
theorem D8:Zv aL aL (Zh Ry):=⟨rfl,rfl,rfl,by decide +kernel,rfl,by decide +kernel,by decide +kernel⟩
theorem Yx:Zv ["_law_letters_here","_law_text","_law_lies","_law_many","_law_steps","_law_at"] YC (Zh Wc):=⟨rfl,rfl,rfl,by decide +kernel,rfl,by decide +kernel,by decide +kernel⟩
theorem Vv:Zv ZI YD (Zh W4):=⟨rfl,rfl,rfl,by decide +kernel,rfl,by decide +kernel,by decide +kernel⟩
theorem Yf:Zv aN YF (Zh Vn):=⟨rfl,rfl,rfl,by decide +kernel,rfl,by decide +kernel,by decide +kernel⟩
theorem Yu:Zv aI YI (Zh Yz):=⟨rfl,rfl,rfl,by decide +kernel,rfl,by decide +kernel,by decide +kernel⟩
theorem Vw:Zv ["_law_script","_law_flow_here","_law_asked","_law_turn","_law_machine","_law_spread_one","_law_way","_law_paper"] ZV (Zh P4):=⟨rfl,rfl,rfl,by decide +kernel,rfl,by decide +kernel,by decide +kernel⟩
theorem L6:(Y0 ["_law_k"] aR [0,1]).Nodup:=by decide +kernel
theorem Ni:(Y0 ["_law_k"] YE [0,2]).Nodup:=by decide +kernel
theorem Mh:(Y0 ["room"] aW [0]).Nodup:=by decide +kernel
theorem Mg:(Y0 ["ahead"] aW [2]).Nodup:=by decide +kernel
theorem Oq:(Y0 ["place"] aM [3,4]).Nodup:=by decide +kernel
theorem Oo:(Y0 ["letter"] aM [2,4,6]).Nodup:=by decide +kernel
theorem Cp:(Y0 ["later"] ZX [3,5]).Nodup:=by decide +kernel
theorem Oi:(Y0 ["letter"] YH [0,3]).Nodup:=by decide +kernel
theorem Jl:(Y0 ["there"] ZY [5]).Nodup:=by decide +kernel
theorem Su:(Y0 ["sign"] ZL [0]).Nodup:=by decide +kernel
theorem Mf:(Y0 ["there"] YL [1,2]).Nodup:=by decide +kernel
theorem U4:(Y0 ["end","letter"] ZO [0]).Nodup:=by decide +kernel
theorem Om:(Y0 ["row"] ZE [0]).Nodup:=by decide +kernel
theorem Ol:(Y0 ["row"] ZE []).Nodup:=by decide +kernel
theorem Oj:(Y0 ["fork"] ZE [3]).Nodup:=by decide +kernel
theorem Hz:(Y0 ["_law_letter"] aL [1,2]).Nodup:=by decide +kernel
theorem Nj:(Y0 ["_law_letter"] ZI [2,4]).Nodup:=by decide +kernel
theorem Qm:(Y0 ["_law_room"] aI [0,2]).Nodup:=by decide +kernel
theorem Ql:(Y0 ["_law_there"] aI [3]).Nodup:=by decide +kernel
theorem Qk:(Y0 ["_law_room"] aI [3]).Nodup:=by decide +kernel
theorem Mi:(Y0 ["_law_k"] aN [0,1]).Nodup:=by decide +kernel
theorem X7:(Y0 ["number","row"] ["rows","firsts"] [1]).Nodup:=by decide +kernel
structure Blt(mg:aG):Prop where
 all:mg "all"=none
 bool:mg "bool"=none
 dict:mg "dict"=none
 enumerate:mg "enumerate"=none
 int:mg "int"=none
 isinstance:mg "isinstance"=none
 len:mg "len"=none
 list:mg "list"=none
 max:mg "max"=none
 min:mg "min"=none
 range:mg "range"=none
 set:mg "set"=none
 sorted:mg "sorted"=none
 tuple:mg "tuple"=none
theorem Zhz{p:Prop} [Decidable p] (hp:p) (h:A):if decide p=true then A else B:=by
 rw[if_pos (decide_eq_true hp)];exact h
section
variable {P:Program}{w:World}{K:W.Frag}{mg:aG}{base:Heap}
theorem Vz{i:Int}(h0:σ[j]?=some (some (.ref p)))(hp:H p=some (.lst xs))(hv:atI xs i=some v)(q:Q v H):tOp (Zg5 K) (K1 j) (tC (.int i)) σ H Q:=
 ⟨_,h0,p,xs,i,v,rfl,rfl,SqL.of hp,hv,q⟩
theorem Eh(F:Fun K "_law_flow" "_law_flow" Q8 f fd)(Z:Blt mg):Yc P w K mg base CX0 1 f fd ZV (Zc7 K):=by
 refine F.ok Fq (λvs H Q E h=>?_) (λcdv A outer s H vs Q E hr h=>?_)
 ·obtain⟨a,ns,rfl,_⟩:=h;rfl
 obtain⟨a,ns,rfl,hS,k⟩:=h;refine⟨_,(Zg (Zq (Zx (Za (Z4 (Bj (K:=K)) (by rfl) Z.list Sb (Za (pv 0) Zb)) (Za Zf (Za Zf (Za Zf (Za Zf Zb)))))))),?_⟩;refine⟨_,rfl,a,_,rfl,.inl hS,λl hl=>?_⟩;refine⟨(by show 5≤sizeLine;decide),λp hp=>?_⟩;have e1:Zm H (upd H l (.lst (ns.map V.int))):=Zd hl _;refine k p l _ (e1.free hp) (e1.trans (Zd hp _)) ⟨⟨_,Zc,0,0,1,0,rfl,by decide,by decide,by decide,by decide,by decide⟩,ns,?_⟩;rw[Zk (Zi Zc hp)];exact Zc
theorem U0(c:Int)(m:Int)(hm:0<m):0≤c%m∧c%m<m:=⟨Int.emod_nonneg _ (by lia),Int.emod_lt_of_pos _ hm⟩
theorem Zgd{ns:List Int}{a:Int}(h0:0≤a)(h1:a<((ns.map V.int).length:Int)):∃z,atI (ns.map V.int) a=some (.int z):=by
 have hk:a.toNat<ns.length:=by
  rw[rC]at h1;lia
 have q:atI (ns.map V.int) ((a.toNat:Nat):Int)=some (.int ns[a.toNat]):=Zj (by rw[rJ,rD hk];rfl);rw[show ((a.toNat:Nat):Int)=a by lia]at q;exact⟨_,q⟩
theorem Eg(F:Fun K "_law_pick" "_law_pick" Q7 f fd)(Z:Blt mg):Yc P w K mg base CX0 1 f fd aS O9:=by
 refine F.ok S5 (λvs H Q E h=>?_) (λcdv A outer s H vs Q E hr h=>?_)
 ·obtain⟨p,sc,m,rfl,_⟩:=h;rfl
 obtain⟨p,sc,m,rfl,mI,yG,FA,k⟩:=h;obtain⟨xs,hp,a,b,c,d,rfl,ha,hb,uT,sE,hd⟩:=FA.here;obtain⟨ns,hs⟩:=FA.cells
 refine⟨_,(Zha (Ys (PW.pt (Zk6 (Z6 X2 (Zr (Z2 (K:=K)) (pv 0) Zf (λ_ _=>rfl)) Zf (Zy _)) (Zg9 (Z6 Zjs (Zr (Z2 (K:=K)) (pv 0) Zf (λ_ _=>rfl)) (Zt (Yo (K:=K)) (by rfl) Z.len Y3 (Za (Zr (Z2 (K:=K)) (pv 0) Zf (λ_ _=>rfl)) Zb)) (Zy _))))) 
    (Ze (Zn (i:=2) S5.nd (by rfl) (Or.inl (by rfl)) (Zr (Z2 (K:=K)) (Zr (Z2 (K:=K)) (pv 0) Zf (λ_ _=>rfl)) (Zr (Z2 (K:=K)) (pv 0) Zf (λ_ _=>rfl)) (λ_ _=>rfl))) 
    (Ze (Tn (Z3 Xn (Zr (Z2 (K:=K)) (pv 0) Zf (λ_ _=>rfl)) Zf) (S9 (pv 0) Zf set_list)) 
    (Zg (Ys (Z6 Znz (pv 2) (Z3 Zld Zf Zf) (Zy _)) 
     (Zg (Tn (pv 2) (S9 (pv 0) Zf set_list))) 
     (Zg (Tn (Z3 Rf (Z3 Xn (Z3 Xn (Z3 Ci (Zr (Z2 (K:=K)) (pv 0) Zf (λ_ _=>rfl)) Zf) (Z3 Rf (pv 2) Zf)) Zf) Zf) (S9 (pv 0) Zf set_list))))))) Z1) 
   (Ze (Ys (Z6 Zeh (Zr (Z2 (K:=K)) (pv 0) Zf (λ_ _=>rfl)) Zf (Zy _)) 
    (Ze (Zn (i:=3) S5.nd (by rfl) (Or.inl (by rfl)) (Z3 Rf (Zr (Z2 (K:=K)) (pv 0) Zf (λ_ _=>rfl)) (pv 1))) 
    (Ze (Tn (Z3 Hw (Zr (Z2 (K:=K)) (pv 0) Zf (λ_ _=>rfl)) (pv 1)) (S9 (pv 0) Zf set_list)) 
    (Zg (Zq (pv 3))))) Z1) 
   (Ze (Tn (Z3 Xn (Zr (Z2 (K:=K)) (pv 0) Zf (λ_ _=>rfl)) Zf) (S9 (pv 0) Zf set_list)) 
   (Ze (Tn (Z3 Rf (Z3 Xn (Z3 Xn (Z3 Ci (Zr (Z2 (K:=K)) (pv 0) Zf (λ_ _=>rfl)) Zf) Zf) (Zr (Z2 (K:=K)) (pv 0) Zf (λ_ _=>rfl))) Zf) (S9 (pv 0) Zf set_list)) 
   (Zg (Zq (Z3 Rf (Z3 Hw (Z3 Rf (Z3 Ci (Z3 Xn (Z3 Rf (Zr (Z2 (K:=K)) (pv 0) Zf (λ_ _=>rfl)) Zf) Zf) (Z3 Xn (Z3 Hw (Zr (Z2 (K:=K)) (pv 0) Zf (λ_ _=>rfl)) Zf) Zf)) Zf) Zf) (pv 1)))))))),?_⟩
 refine(let x6:TS:=_;let x8:TS:=Zs _ x6;let y6:TS:=Zs _ x8;let g0:TS:=_;let w6:TS:=Zs _ g0;let p9:TS:=Zs _ w6;let d0:TS:=Zs (K2 _ p9 _) y6;let c0:TS:=_;let l5:TS:=Zs _ c0;let xY:TS:=Zs _ l5;(?_:Zm2 (K2 _ xY _) d0 _ _ _));refine⟨λx4 H'=>∃cv sM,x4=[some (V.ref p),some (V.int m),cv,none]∧H' p=some (.lst sM)∧(∀o,upd H' p o=upd H p o)∧Kv sc sM,?_,?_⟩
 ·have Pr:∃cv sM,[some (V.ref p),some (V.int m),none,none]=[some (V.ref p),some (V.int m),cv,none]∧H p=some (.lst sM)∧(∀o,upd H p o=upd H p o)∧Kv sc sM:=⟨_,_,rfl,hp,λ_=>rfl,a,b,c,d,rfl,ha,hb,uT,sE,hd⟩;refine Vz rfl hp (Zj (j:=2) rfl) ?_;refine⟨rfl,_,rfl,?_⟩;refine Ur (λ_=>?_) (λ_=>Pr);refine Vz rfl hp (Zj (j:=1) rfl) ?_;refine Vz rfl hp (Zj (j:=0) rfl) ?_;refine⟨sc,_,rfl,.inl (SqL.of hs),_,_,rfl,rfl,_,rfl,?_⟩;refine Ur (λlt=>?_) (λ_=>Pr);obtain⟨z,hz⟩:=Zgd (ns:=ns) ha (of_decide_eq_true lt);refine Vz rfl hp (Zj (j:=0) rfl) ?_;refine Vz rfl hp (Zj (j:=1) rfl) ?_;refine⟨sc,_,_,_,rfl,rfl,SqL.of hs,hz,?_⟩;refine Vz rfl hp (Zj (j:=1) rfl) ?_;refine⟨_,_,rfl,rfl,_,rfl,p,_,_,1,rfl,rfl,hp,rfl,?_⟩;have jR:upd H p (.lst [.ref sc,.int (a+1),.int b,.int c,.int d]) p=_:=Zc;refine⟨_,rfl,_,_,rfl,rfl,⟨by decide,by decide,by decide⟩,_,_,rfl,rfl,_,rfl,?_⟩;refine Ur (λbig=>?_) (λ_=>?_)
  ·have big':(10:Int) ^ 18≤z:=of_decide_eq_true big;refine⟨_,rfl,_,rfl,p,_,_,2,rfl,rfl,jR,rfl,?_⟩;exact⟨_,_,rfl,Zc,λo=>by rw[Po,Po],a+1,z,c,d,rfl,by lia,by lia,uT,sE,hd⟩
  ·refine Vz rfl jR (Zj (j:=3) rfl) ?_;refine⟨_,_,rfl,rfl,.inl ⟨by lia,by lia⟩,?_⟩;refine⟨_,rfl,_,_,rfl,rfl,(by show (0:Int)<1000003;decide),_,_,rfl,rfl,_,_,rfl,rfl,_,_,rfl,rfl,(by show (0:Int)<2147483647;decide),?_⟩;refine⟨_,rfl,p,_,_,3,rfl,rfl,jR,rfl,?_⟩;have q:=U0 (c*40013+z%1000003+1) 2147483647 (by decide);exact⟨_,_,rfl,Zc,λo=>by rw[Po,Po],a+1,b,_,d,rfl,by lia,hb,q.1,q.2,hd⟩
 ·rintro x4 H' ⟨cv,sM,rfl,i8,hu,a',b',c',d',rfl,ha',j5,zQ,zR,i6⟩;refine Vz rfl i8 (Zj (j:=2) rfl) ?_;refine⟨_,_,rfl,rfl,_,rfl,?_⟩;refine Ur (λpos=>?_) (λ_=>?_)
  ·have pos':0<b':=of_decide_eq_true pos;refine Vz rfl i8 (Zj (j:=2) rfl) ?_;refine⟨_,rfl,_,_,rfl,rfl,mI,?_⟩;refine Vz rfl i8 (Zj (j:=2) rfl) ?_;refine⟨_,rfl,_,_,rfl,rfl,⟨mI,yG⟩,_,rfl,p,_,_,2,rfl,rfl,i8,rfl,?_⟩;refine⟨_,rfl,?_⟩;have q:=U0 b' m mI;have e:=k (b'%m) [.ref sc,.int a',.int (b'/m),.int c',.int d'] q.1 q.2 ⟨a',b'/m,c',d',rfl,ha',Int.ediv_nonneg j5 (by lia),zQ,zR,i6⟩;rw[←hu]at e;exact e
  ·refine Vz rfl i8 (Zj (j:=4) rfl) ?_;refine⟨_,_,rfl,rfl,_,rfl,p,_,_,4,rfl,rfl,i8,rfl,?_⟩;have i9:upd H' p (.lst [.ref sc,.int a',.int b',.int c',.int (d'+1)]) p=_:=Zc;refine Vz rfl i9 (Zj (j:=3) rfl) ?_;refine⟨_,_,rfl,rfl,.inl ⟨by lia,by lia⟩,_,_,rfl,rfl,?_⟩;refine Vz rfl i9 (Zj (j:=4) rfl) ?_;refine⟨_,_,rfl,rfl,_,_,rfl,rfl,(by show (0:Int)<2147483647;decide),?_⟩;refine⟨_,rfl,p,_,_,3,rfl,rfl,i9,rfl,?_⟩;have q:=U0 (c'*48271+12820163+(d'+1)) 2147483647 (by decide);have hp3:∀H3:Hp,upd H3 p (.lst [.ref sc,.int a',.int b',.int ((c'*48271+12820163+(d'+1))%2147483647),.int (d'+1)]) p=some (.lst [.ref sc,.int a',.int b',.int ((c'*48271+12820163+(d'+1))%2147483647),.int (d'+1)]):=λ_=>Zc;refine Vz rfl (hp3 _) (Zj (j:=3) rfl) ?_;refine⟨_,_,rfl,rfl,(by show (0:Int)<65521;decide),_,_,rfl,rfl,?_⟩;refine Vz rfl (hp3 _) (Zj (j:=3) rfl) ?_;have q2:=U0 ((c'*48271+12820163+(d'+1))%2147483647) 65521 (by decide);refine⟨_,_,rfl,rfl,⟨by decide,by decide⟩,_,_,rfl,rfl,_,_,rfl,rfl,.inl ⟨by lia,by lia⟩,_,_,rfl,rfl,(by show (0:Int)<1000003;decide),_,_,rfl,rfl,⟨by decide,by decide⟩,_,rfl,_,_,rfl,rfl,mI,?_⟩;have q3:=U0 (((c'*48271+12820163+(d'+1))%2147483647%65521+1)*((c'*48271+12820163+(d'+1))%2147483647/65521+7919)%1000003/7) m mI;have e:=k _ [.ref sc,.int a',.int b',.int ((c'*48271+12820163+(d'+1))%2147483647),.int (d'+1)] q3.1 q3.2 ⟨a',b',_,d'+1,rfl,ha',j5,q.1,q.2,by lia⟩;rw[←hu,←Po (H:=H') (o:=.lst [.ref sc,.int a',.int b',.int c',.int (d'+1)])]at e;exact e
theorem Zj5{α:Type}{xs:List α}{i:Nat}{v:α}(h:xs[i]?=some v):atI xs (0+(i:Int))=some v:=by
 rw[bF];exact Zj h
def Sq2(H:Hp)(a:Addr)(xs:List V):Prop:=H a=some (.lst xs)∨H a=some (.tup xs)
theorem Sq2.ix{a:Addr}{i:Int}(h:Sq2 H a xs)(hv:atI xs i=some v)(q:Q v H):rIx K (.ref a) (.int i) H Q:=by
 rcases h with h|h
 ·exact .inl ⟨a,xs,i,v,rfl,rfl,SqL.of h,hv,q⟩
 ·exact .inr (.inl ⟨a,xs,i,v,rfl,rfl,SqT.of h,hv,q⟩)
theorem Sq2.same{a:Addr}(h:Sq2 H a xs)(e:Zm H H'):Sq2 H' a xs:=by
 rcases h with h|h
 ·exact .inl (e _ _ h)
 ·exact .inr (e _ _ h)
theorem all_true(n:Nat):(List.replicate n true).all id=true:=by
 induction n with
 |zero=>rfl
 |succ n ih=>rw[lP,cS,ih];rfl
theorem Ks{a b:Addr}{ys:List V}{ds:List Dt}{i:Nat}(ha:Sq2 H1 a xs)(hb:Sq2 H1 b ys)(hx:xs.length=ds.length)(hy:ys.length=ds.length)(hdp:∀d'∈ds,d'.dep<n)
  (dx:∀(i:Nat) x d',xs[i]?=some x→ds[i]?=some d'→Den H1 x d') (dy:∀(i:Nat) x d',ys[i]?=some x→ds[i]?=some d'→Den H1 x d') (e2:Zm H1 H2) (n8:i<ys.length)
  (h0:σ[0]?=some (some (.int (0+(i:Int))))) (h1:σ[1]?=some (some (.ref a))) (h2:σ[2]?=some (some (.ref b))) :
  B1 (Tf n) [] E0 (Jz (tOp (rIx K) (K1 1) (K1 0)) (Jz (tOp (rIx K) (K1 2) (K1 0)) Zgq)) σ H2 λv H6=>List.replicate i (V.bl true)++[v]=List.replicate (i+1) (V.bl true)∧Zm H1 H6:=by
 have j9:i<xs.length:=by lia
 have mF:i<ds.length:=by lia
 refine⟨_,h1,_,h0,(ha.same e2).ix (Zj5 (rD j9)) ?_⟩;refine⟨_,h2,_,h0,(hb.same e2).ix (Zj5 (rD n8)) ?_⟩;refine⟨xs[i],ys[i],ds[i],rfl,hdp _ (oG mF),(dx i _ _ (rD j9) (rD mF)).same e2,(dy i _ _ (rD n8) (rD mF)).same e2,λH3 e3=>⟨?_,e2.trans e3⟩⟩;rw[List.replicate_succ']
theorem Bp(F:Fun K "_law_alike" "_law_alike" Vg f fd)(Z:Blt mg)(Vj:Cal P w K mg base "_law_alike" n aR (Tf n)):
  Yc P w K mg base CX0 (n+1) f fd aR (Tf (n+1)):=by
 refine F.ok Ho (λvs H Q E h=>?_) (λcdv A outer s H vs Q E hr h=>?_)
 ·obtain⟨u,v,d,rfl,_⟩:=h;rfl
 obtain⟨u,v,d,rfl,hd,du,dv,k⟩:=h
 refine⟨_,(Ze (Ys (Yn (K:=K) (Zt (Zb6 (K:=K)) (by rfl) Z.isinstance Xh (Za (pv 1) (Za (Zw (Za (Ud (v:=V.ty "list") (by rfl) Z.list Sb rfl) (Za (Ud (v:=V.ty "tuple") (by rfl) Z.tuple Yt rfl) Zb))) Zb))) (λ_=>rfl)) 
    (Ze (Ys (Z6 Ss (Zt (Td (K:=K)) (by rfl) Z.isinstance Xh (Za (pv 0) (Za (Ud (v:=V.ty "list") (by rfl) Z.list Sb rfl) Zb))) (Zt (Td (K:=K)) (by rfl) Z.isinstance Xh (Za (pv 1) (Za (Ud (v:=V.ty "list") (by rfl) Z.list Sb rfl) Zb))) (Zy _)) 
     (Zg (Zq Xw)) Z1) 
    (Ze (Ys (Z6 Ss (Zt (Td (K:=K)) (by rfl) Z.isinstance Xh (Za (pv 0) (Za (Ud (v:=V.ty "tuple") (by rfl) Z.tuple Yt rfl) Zb))) (Zt (Td (K:=K)) (by rfl) Z.isinstance Xh (Za (pv 1) (Za (Ud (v:=V.ty "tuple") (by rfl) Z.tuple Yt rfl) Zb))) (Zy _)) 
     (Zg (Zq Xw)) Z1) 
    (Ze (Ys (Z6 Ss (Zt (Yo (K:=K)) (by rfl) Z.len Y3 (Za (pv 0) Zb)) (Zt (Yo (K:=K)) (by rfl) Z.len Y3 (Za (pv 1) Zb)) (Zy _)) 
     (Zg (Zq Xw)) Z1) 
    (Zg (Zq (Zt (Wi (K:=K)) (by rfl) Z.all Ru (Za (Yj (sc:=Zh Vg) (Nm:=aR) (own:=["_law_k"]) (fr:=[0,1]) ⟨rfl,by decide +kernel,by decide +kernel,by decide +kernel,by decide +kernel⟩ (by rfl) (Ye (by decide)) (Xz (by rfl) Z.range (Za (Zt (Yo (K:=K)) (by rfl) Z.len Y3 (Za (pv 1) Zb)) Zb)) (λd=>(Zo (i:=0) L6 (by rfl) (Or.inl (by rfl)))) (λd=>Ym) (λd=>(Z5 Vj hr (Za (Zr (A9 (K:=K)) (pv 1) (pv 0) (λ_ _=>rfl)) (Za (Zr (A9 (K:=K)) (pv 2) (pv 0) (λ_ _=>rfl)) Zb))))) Zb))))))) Z1) 
   (Zg (Zq (Rb (Yr X2 (Zt (Td (K:=K)) (by rfl) Z.isinstance Xh (Za (pv 0) (Za (Ud (v:=V.ty "bool") (by rfl) Z.bool Zar rfl) Zb))) (Zt (Td (K:=K)) (by rfl) Z.isinstance Xh (Za (pv 1) (Za (Ud (v:=V.ty "bool") (by rfl) Z.bool Zar rfl) Zb))) (Zy _)) (Ra (Yr X2 (pv 0) (pv 1) (Zy _))))))),?_⟩
 refine(let x6:TS:=_;let x8:TS:=_;let y6:TS:=Zs _ x8;let g0:TS:=Zs _ y6;let w6:TS:=Zs _ g0;(?_:Zs (K2 _ w6 _) x6 _ _ _));have hz2:sizeLine=16777216:=sizeLine_eq
 cases du with
 |non=>
  cases dv;refine⟨_,rfl,(by show 2≤sizeLine;decide),λtp u7=>?_⟩;refine⟨_,tp,_,_,_,_,rfl,Zc,.non,Nk K "NoneType" _ _ _ (Zht K) (Zhs K) rfl,_,rfl,Ze6 ?_⟩;refine⟨_,rfl,_,_,_,_,rfl,.non,A6 K,_,rfl,_,_,_,_,rfl,.non,A6 K,rfl,_,rfl,Zhz rfl ?_⟩;refine⟨_,rfl,_,rfl,rfl,?_⟩;rw[decide_eq_true rfl];exact k _ (Zd u7 _)
 |bl b=>
  cases dv;refine⟨_,rfl,(by show 2≤sizeLine;decide),λtp u7=>?_⟩;refine⟨_,tp,_,_,_,_,rfl,Zc,.bl b,Nk K "bool" _ _ _ (Zhx K) (Zhw K) rfl,_,rfl,Ze6 ?_⟩;refine⟨_,rfl,_,_,_,_,rfl,.bl b,A8 K,_,rfl,_,_,_,_,rfl,.bl b,A8 K,rfl,_,rfl,Zhz rfl ?_⟩;refine⟨_,rfl,_,rfl,rfl,?_⟩;rw[decide_eq_true rfl];exact k _ (Zd u7 _)
 |int i=>
  cases dv;refine⟨_,rfl,(by show 2≤sizeLine;decide),λtp u7=>?_⟩;refine⟨_,tp,_,_,_,_,rfl,Zc,.int i,Nk K "int" _ _ _ (Zhv K) (Zhu K) rfl,_,rfl,Ze6 ?_⟩;refine⟨_,rfl,_,_,_,_,rfl,.int i,A7 K,_,rfl,_,_,_,_,rfl,.int i,A7 K,rfl,_,rfl,Zhz rfl ?_⟩;refine⟨_,rfl,_,rfl,rfl,?_⟩;rw[decide_eq_true rfl];exact k _ (Zd u7 _)
 |str x=>
  cases dv;refine⟨_,rfl,(by show 2≤sizeLine;decide),λtp u7=>?_⟩;refine⟨_,tp,_,_,_,_,rfl,Zc,.str x,Nk K "str" _ _ _ (Zhr K) (Zhq K) rfl,_,rfl,Ze6 ?_⟩;refine⟨_,rfl,_,_,_,_,rfl,.str x,A5 K,_,rfl,_,_,_,_,rfl,.str x,A5 K,rfl,_,rfl,Zhz rfl ?_⟩;refine⟨_,rfl,_,rfl,rfl,?_⟩;rw[decide_eq_true rfl];exact k _ (Zd u7 _)
 | @lst a xs ds h hz hl yB=>
  cases dv with
  | @lst b ys _ h' hz' eD Zl1=>
   refine⟨_,rfl,(by show 2≤sizeLine;decide),λtp u7=>?_⟩;have e1:Zm H (upd H tp (.tup [.ty "list",.ty "tuple"])):=Zd u7 _;refine⟨_,tp,_,_,_,_,rfl,Zc,.lst (e1 _ _ h'),Nk K "list" _ _ _ (Gi K) (Gh K) rfl,_,rfl,Zhy ?_⟩;refine⟨_,rfl,_,_,_,_,rfl,.lst (e1 _ _ h),Gi K,_,rfl,_,_,_,_,rfl,.lst (e1 _ _ h'),Gi K,rfl,_,rfl,Ia rfl ?_⟩;refine⟨_,rfl,_,_,_,_,rfl,.lst (e1 _ _ h),Gh K,_,rfl,_,_,_,_,rfl,.lst (e1 _ _ h'),Gh K,rfl,_,rfl,Ia rfl ?_⟩;refine⟨_,rfl,a,xs,rfl,.inl (SqL.of (e1 _ _ h)),_,rfl,b,ys,rfl,.inl (SqL.of (e1 _ _ h')),rfl,_,rfl,Ia (by rw[hl,eD]) ?_⟩;refine⟨_,rfl,b,ys,rfl,.inl (SqL.of (e1 _ _ h')),_,rfl,by lia,by lia,?_⟩;have sa:Sq2 (upd H tp (.tup [.ty "list",.ty "tuple"])) a xs:=.inl (e1 _ _ h);have sb:Sq2 (upd H tp (.tup [.ty "list",.ty "tuple"])) b ys:=.inl (e1 _ _ h')
   refine V5 (lo:=0) (k:=((ys.length:Int)).toNat) (λi acc H2=>acc=List.replicate i (V.bl true)∧Zm (upd H tp (.tup [.ty "list",.ty "tuple"])) H2) (by lia) ⟨rfl,Zm.refl _⟩ (λi acc H2 p=>by rw[p.1,oV];exact rG _)
    (λi acc H2 hi p=>?_) (λacc H2 p l i3=>?_)
   ·obtain⟨rfl,e2⟩:=p;exact U9 (Ks sa sb hl eD (λd' i6=>by have:=Dt.Zia i6;lia) (λi x d' z1 z2=>(yB i x d' z1 z2).same e1) (λi x d' z1 z2=>(Zl1 i x d' z1 z2).same e1) e2 (by lia) rfl rfl rfl)
   ·obtain⟨rfl,e2⟩:=p;refine⟨l,List.replicate ((ys.length:Int)).toNat true,rfl,SqL.of (by rw[Zc,bO]),?_⟩;rw[all_true];exact k _ ((e1.trans e2).trans (Zd i3 _))
 | @tup a xs ds h hz hl yB=>
  cases dv with
  | @tup b ys _ h' hz' eD Zl1=>
   refine⟨_,rfl,(by show 2≤sizeLine;decide),λtp u7=>?_⟩;have e1:Zm H (upd H tp (.tup [.ty "list",.ty "tuple"])):=Zd u7 _;refine⟨_,tp,_,_,_,_,rfl,Zc,.tup (e1 _ _ h'),Nk K "tuple" _ _ _ (Gg K) (Gf K) rfl,_,rfl,Zhy ?_⟩;refine⟨_,rfl,_,_,_,_,rfl,.tup (e1 _ _ h),Gg K,_,rfl,_,_,_,_,rfl,.tup (e1 _ _ h'),Gg K,rfl,_,rfl,Ia rfl ?_⟩;refine⟨_,rfl,_,_,_,_,rfl,.tup (e1 _ _ h),Gf K,_,rfl,_,_,_,_,rfl,.tup (e1 _ _ h'),Gf K,rfl,_,rfl,Ia rfl ?_⟩;refine⟨_,rfl,a,xs,rfl,.inr (SqT.of (e1 _ _ h)),_,rfl,b,ys,rfl,.inr (SqT.of (e1 _ _ h')),rfl,_,rfl,Ia (by rw[hl,eD]) ?_⟩;refine⟨_,rfl,b,ys,rfl,.inr (SqT.of (e1 _ _ h')),_,rfl,by lia,by lia,?_⟩;have sa:Sq2 (upd H tp (.tup [.ty "list",.ty "tuple"])) a xs:=.inr (e1 _ _ h);have sb:Sq2 (upd H tp (.tup [.ty "list",.ty "tuple"])) b ys:=.inr (e1 _ _ h')
   refine V5 (lo:=0) (k:=((ys.length:Int)).toNat) (λi acc H2=>acc=List.replicate i (V.bl true)∧Zm (upd H tp (.tup [.ty "list",.ty "tuple"])) H2) (by lia) ⟨rfl,Zm.refl _⟩ (λi acc H2 p=>by rw[p.1,oV];exact rG _)
    (λi acc H2 hi p=>?_) (λacc H2 p l i3=>?_)
   ·obtain⟨rfl,e2⟩:=p;exact U9 (Ks sa sb hl eD (λd' i6=>by have:=Dt.Zh9 i6;lia) (λi x d' z1 z2=>(yB i x d' z1 z2).same e1) (λi x d' z1 z2=>(Zl1 i x d' z1 z2).same e1) e2 (by lia) rfl rfl rfl)
   ·obtain⟨rfl,e2⟩:=p;refine⟨l,List.replicate ((ys.length:Int)).toNat true,rfl,SqL.of (by rw[Zc,bO]),?_⟩;rw[all_true];exact k _ ((e1.trans e2).trans (Zd i3 _))
theorem Bq:Yc P w K mg base CX0 0 f fd aR (Tf 0):=by
 have no:∀vs H Q E,¬ Tf 0 vs H Q E:=λvs H Q E h=>by
  obtain⟨u,v,d,_,hd,_⟩:=h;lia
 exact⟨λvs H Q E h=>absurd h (no vs H Q E),λA outer s H args us vs Q E _ _ _ _ h=>absurd h (no vs H Q E)⟩
theorem Og{f:Addr}{fd:FuncData}(F:Fun K "_law_alike" "_law_alike" Vg f fd)(b:Binds K fd aR [])(m:mg "_law_alike"=some (.ref f))(Z:Blt mg):∀n:Nat,Yc P w K mg base CX0 n f fd aR (Tf n)
 | 0=>Bq
 |n+1=>Bp F Z ⟨f,fd,Og F b m Z n,m,F.kp,b⟩
def one(c:Nat):Str:=⟨#[c]⟩
theorem Za2{eN:List Str}{cs:List Nat}(h:eN.Perm (cs.map one)):∃cs':List Nat,cs'.Perm cs∧eN=cs'.map one:=by
 have e:∀y∈eN,y=one (y.cps.toList.headD 0):=λy hy=>by
  obtain⟨c,_,rfl⟩:=rY.mp (h.mem_iff.mp hy);rfl
 have e2:eN=(eN.map λy=>y.cps.toList.headD 0).map one:=by
  rw[pO]
  have:∀(l:List Str),(∀y∈l,y=one (y.cps.toList.headD 0))→l=l.map (one ∘ λy=>y.cps.toList.headD 0):=by
   intro l
   induction l with
   |nil=>intro _;rfl
   |cons y r ih=>
    intro hl;rw[rW,←ih λz hz=>hl z (rP _ hz)];exact congrArg (· :: r) (hl y rM)
  exact this eN e
 refine⟨_,?_,e2⟩;have p:=h.map λy:Str=>y.cps.toList.headD 0;rw[pO]at p;have:(λy:Str=>y.cps.toList.headD 0) ∘ one=id:=rfl;rw[this,lH]at p;exact p
theorem Cv(a b:Nat):ltCps (one a).cps.toList (one b).cps.toList=decide (a<b):=by
 rw[ltCps_eq];exact Zlj a b
theorem N4:∀(p:Nat) (cs:List Nat),risingS (one p) (cs.map one)=true→∀c∈cs,p≤c
 |_,[],_,c,hc=>by cases hc
 |p,x :: r,h,c,hc=>by
  have h':(!ltCps (one x).cps.toList (one p).cps.toList&&risingS (one x) (r.map one))=true:=h;rw[oD,Cv]at h'
  have h1:p≤x:=by
   have:=h'.1;simp at this;exact this
  rcases rT.mp hc with e|e
  ·subst e;exact h1
  ·exact pQ h1 (N4 x r h'.2 c e)
theorem N3:∀(cs:List Nat),sortedS (cs.map one)=true→cs.Pairwise (·≤·)
 |[],_=>.nil
 |p :: r,h=>by
  have h':risingS (one p) (r.map one)=true:=h;refine List.Pairwise.cons (N4 p r h') (N3 r ?_)
  cases r with
  |nil=>rfl
  |cons x r=>
   have h2:(!ltCps (one x).cps.toList (one p).cps.toList&&risingS (one x) (r.map one))=true:=h';rw[oD]at h2;exact h2.2
theorem Rh:∀{cs:List Nat},cs.Pairwise (·≤·)→cs.Nodup→cs.Pairwise (·<·)
 |[],_,_=>.nil
 |p :: r,h,n=>by
  cases h with
  |cons h1 h2=>
   rw[lI]at n;refine List.Pairwise.cons (λc hc=>?_) (Rh h2 n.2);have:=h1 c hc;have:p≠c:=λe=>n.1 (e▸hc);lia
theorem Ph{α:Type}:∀{l:List α}{n:Nat}{v:α},l[n]?=some v→(v :: l.eraseIdx n).Perm l
 |[],n,v,h=>by simp at h
 |x :: r,0,v,h=>by
  have e:x=v:=by simpa using h
  subst e;exact dN _
 |x :: r,n+1,v,h=>by
  have ih:=Ph (l:=r) (n:=n) (v:=v) (by simpa using h);rw[cM];exact(List.Perm.swap x v _).trans (List.Perm.cons x ih)
theorem Nr{α β:Type}(f:α→β):∀(l:List α) (i:Nat),(l.map f).eraseIdx i=(l.eraseIdx i).map f
 |[],_=>rfl
 |_ :: _,0=>rfl
 |x :: r,i+1=>by
  rw[rW,cM,cM,rW,Nr f r i]
theorem Ik(cs:List Nat):((cs.map one).map λy=>y.cps.toList).flatten=cs:=by
 induction cs with
 |nil=>rfl
 |cons c r ih=>rw[rW,rW,iW,ih];rfl
theorem Fe(cs:List Nat):((cs.map one).map (·.length)).sum=cs.length:=by
 induction cs with
 |nil=>rfl
 |cons c r ih=>rw[rW,rW,List.sum_cons,ih,pY,bZ];rfl
def abc:List Nat:=(List.range 26).map (· + 97)
theorem Zmk:(Str.ofString "abcdefghijklmnopqrstuvwxyz").cps.toList=abc:=by decide +kernel
theorem Zb9:abc.Nodup:=by decide +kernel
theorem Zij(h:c∈abc):97≤c∧c≤122:=by
 unfold abc at h;obtain⟨i,hi,rfl⟩:=rY.mp h;have:=pU.mp hi;lia
theorem Ed(cs:List Nat):cs.map Oe=(cs.map one).map V.str:=by
 rw[pO];rfl
theorem L3(F:Fun K "_law_letters" "_law_letters" W3 f fd)(Z:Blt mg)(Yd:Cal P w K mg base "_law_pick" 1 aS O9):
  Yc P w K mg base CX0 2 f fd aS J2:=by
 refine F.ok S6 (λvs H Q E h=>?_) (λcdv A outer s H vs Q E hr h=>?_)
 ·obtain⟨p,sc,m,rfl,_⟩:=h;rfl
 obtain⟨p,sc,m,rfl,mI,yG,FA,k⟩:=h
 refine⟨_,(Ze (Zn (i:=2) S6.nd (by rfl) (Or.inr (by rfl)) (Z4 (Rt (by rfl)) (by rfl) Z.list Sb (Za Wr Zb))) 
   (Zg (Zq (Wd (K:=K) cR PySem.F.slot_str_join PySem.F.type_str_join (Ep (K:=K)) Wr (Za (Zt (Bh (K:=K)) (by rfl) Z.sorted Nv (Za (Yj (sc:=Zh W3) (Nm:=YE) (own:=["_law_k"]) (fr:=[0,2]) ⟨rfl,by decide +kernel,by decide +kernel,by decide +kernel,by decide +kernel⟩ (by rfl) (Ye (by decide)) (Xz (by rfl) Z.range (Za (pv 1) Zb)) (λd=>(Zo (i:=0) Ni (by rfl) (Or.inl (by rfl)))) (λd=>Ym) (λd=>(Wd (K:=K) oF PySem.F.slot_list_pop PySem.F.type_list_pop Eo (pv 2) (Za (Z5 Yd (hr.mono (by decide)) (Za (pv 1) (Za (Zt (Yo (K:=K)) (by rfl) Z.len Y3 (Za (pv 2) Zb)) Zb))) Zb)))) Zb)) Zb))))),?_⟩
 refine(let x6:TS:=_;(?_:Zs _ x6 _ _ _));refine⟨_,rfl,(by decide +kernel),λl hl=>?_⟩;have e1:Zm H (upd H l (.lst ((Str.ofString "abcdefghijklmnopqrstuvwxyz").cps.toList.map Oe))):=Zd hl _
 have mP:p≠l:=by
  obtain⟨xs,hp,_⟩:=FA.here;exact Zi hp hl
 refine⟨rfl,_,rfl,_,rfl,by lia,by lia,?_⟩
 refine V5 (lo:=0) (k:=m.toNat) (λi acc H2=>∃ys rem:List Nat,acc=ys.map Oe∧ys.length=i∧H2 l=some (.lst (rem.map Oe))∧(ys++rem).Perm abc∧Yw H2 p sc∧Xt H H2 p) (iB (show m.toNat≤26 by lia) (by decide))
  ⟨[],abc,rfl,rfl,by rw[Zc,Zmk],dN _,FA.same e1,Xt.same e1⟩ (λi acc H2 ⟨ys,rem,e,eD,_⟩=>by rw[e,rC,eD];exact rG _) (λi acc H2 hi hp=>?_) (λacc H2 hp q hq=>?_)
 ·obtain⟨ys,rem,rfl,m3,C4,Vh,sN,dr⟩:=hp
  have hlen:ys.length+rem.length=26:=by
   have:=Vh.length_eq;rw[rS]at this;exact this
  refine U9 ?_;refine⟨_,rfl,.inl ⟨rfl,_,SqL.of C4⟩,_,rfl,_,rfl,l,_,rfl,.inl (SqL.of C4),p,sc,_,rfl,?_,?_,sN,λr xs eG vB yP=>?_⟩
  ·rw[rC];lia
  ·rw[rC];lia
  ·have jS:r<(rem.length:Int):=by
    rw[rC]at vB;exact vB
   have jW:r.toNat<rem.length:=by lia
   have hv:rem[r.toNat]?=some rem[r.toNat]:=rD jW;have i3:upd H2 p (.lst xs) l=some (.lst (rem.map Oe)):=by rw[Zk (lW mP)];exact C4
   refine⟨l,_,r,r.toNat,Oe rem[r.toNat],rfl,rfl,i3,by lia,by lia,?_,?_,?_⟩
   ·rw[rC];exact seqIndex_of eG jS
   ·rw[rJ,hv];rfl
   ·refine⟨ys++[rem[r.toNat]],rem.eraseIdx r.toNat,by rw[pS];rfl,by rw[rS,m3];rfl,?_,?_,?_,?_⟩
    ·rw[Zc,Nr]
    ·rw[iH];exact(cX ys (Ph hv)).trans Vh
    ·have FA3:=sN.go yP;obtain⟨sM,h1,h2⟩:=FA3.here;obtain⟨ns,h3⟩:=FA3.cells;refine⟨⟨sM,by rw[Zk mP];exact h1,h2⟩,ns,?_⟩;rw[Zk ?_]
     ·exact h3
     ·obtain⟨ns0,h0⟩:=FA.cells;exact Zi h0 hl
    ·intro b o hb y8;rw[Zk (Zi hb hl),Zk y8];exact dr b o hb y8
 ·obtain⟨ys,rem,rfl,m3,C4,Vh,sN,dr⟩:=hp;have hn:ys.Nodup:=(bV.mp (Vh.nodup_iff.mpr Zb9)).1;refine⟨q,ys.map one,rfl,SqL.of (by rw[Zc,Ed]),by rw[rC];lia,λeN l2 i9 eT i3=>?_⟩;obtain⟨cs,hc,rfl⟩:=Za2 i9;have hclen:=hc.length_eq;refine⟨_,l2,cs.map one,rfl,rfl,SqL.of Zc,?_,?_⟩
  ·rw[Fe,rC];have:(Str.ofString "").length=0:=by decide +kernel
   rw[this];lia
  ·have e3:=Qt (cs.map one);rw[Ik]at e3;refine k _ _ ⟨?_,?_,λc hcm=>?_⟩ ?_ ?_
   ·rw[e3];lia
   ·rw[e3];exact Rh (N3 cs eT) (hc.nodup_iff.mpr hn)
   ·rw[e3]at hcm;exact Zij (Vh.mem_iff.mp (lV _ (hc.mem_iff.mp hcm)))
   ·exact dr.trans (Xt.trans (Xt.same (Zd hq _)) (Xt.same (Zd i3 _)))
   ·exact(sN.same (Zd hq _)).same (Zd i3 _)
theorem Oy{H0:Hp}(d:Xt H0 H p)(o:HO):Xt H0 (upd H p o) p:=d.trans (Xt.upd o)
theorem Kr{l:Str}{r:Int}(h0:0≤r)(h1:r<(l.length:Int)):∃c,c∈l.cps.toList∧atI l.cps.toList r=some c:=by
 have hk:r.toNat<l.cps.toList.length:=by
  have:l.cps.toList.length=l.length:=by simp[Str.length]
  lia
 refine⟨l.cps.toList[r.toNat],oG hk,?_⟩;have q:atI l.cps.toList ((r.toNat:Nat):Int)=some l.cps.toList[r.toNat]:=Zj (rD hk);rw[show ((r.toNat:Nat):Int)=r by lia]at q;exact q
def Drawn(H:Hp)(p sc:Addr)(l:Str)(i:Nat)(acc:List V)(H2:Hp):Prop:=∃ys:List Nat,acc=ys.map Oe∧ys.length=i∧(∀c∈ys,c∈l.cps.toList)∧Yw H2 p sc∧Xt H H2 p
theorem Ba{l:Str}{acc:List V}{jl jf:Nat}(mH:0<l.length)(z8:l.length≤1000)(hv1:σ[jl]?=some (some (.str l)))(gG:σ[jf]?=some (some (.ref p)))(h:Drawn H p sc l i acc H2):
  tOp Zk3 (K1 jl) (B1 O9 [] E0 (Jz (K1 jf) (Jz (tCB (λxs H Q=>∃z,xs=[V.str z]∧z.length≤sizeLine∧Q (.int z.length) H) (Jz (K1 jl) Zgq)) Zgq))) σ H2 λv H6=>Drawn H p sc l (i+1) (acc++[v]) H6:=by
 obtain⟨ys,rfl,m3,hyc,sN,dr⟩:=h;refine⟨_,hv1,_,gG,_,hv1,l,rfl,Xe z8,p,sc,_,rfl,by lia,by lia,sN,λr xs h0 h1 hx=>?_⟩;obtain⟨c,hc,ha⟩:=Kr h0 h1;exact⟨l,r,c,rfl,rfl,Xe z8,ha,ys++[c],by rw[pS];rfl,by rw[rS,m3];rfl,λc' h'=>(oB.mp h').elim (hyc c') λz=>by rw[rL.mp z];exact hc,sN.go hx,Oy dr _⟩
theorem Zbu{l:Str}:∀i acc H2,Drawn H p sc l i acc H2→acc.length≤i:=λi acc H2 ⟨ys,e,eD,_⟩=>by rw[e,rC,eD];exact rG _
theorem Jn(ys:List Nat)(h:ys.length≤1000):((ys.map one).map (·.length)).sum+(ys.map one).length*(Str.ofString "").length≤16777216:=by
 have:(Str.ofString "").length=0:=by decide +kernel
 rw[Fe,this];lia
theorem join_ones(ys:List Nat):(Txt.join (Str.ofString "") (ys.map one)).cps.toList=ys:=by
 rw[Qt,Ik]
theorem len_list(z:Str):z.cps.toList.length=z.length:=by simp[Str.length]
theorem Zaj(es:List Nat):(es.map λn:Nat=>V.int (n:Int)).all Ug=true:=by
 induction es with
 |nil=>rfl
 |cons e r ih=>rw[rW,cS,ih];rfl
def nI(n:Nat):V:=.int (n:Int)
structure Zz(H:Hp)(m:Addr)(l:Str)(b:Nat)(es:List Nat)(st:aB):Prop where
 lay:∃(e s:Addr) (ras:ZQ),H m=some (.tup [.str l,nI b,.ref e,.ref s])∧H e=some (.tup (es.map nI))∧H s=some (.tup (ras.map V.ref))∧ras.length=st.length∧∀(i:Nat) a r,ras[i]?=some a→st[i]?=some r→H a=some (.tup (r.map nI))
 few:0<l.length∧l.length≤3∧st.length≤216
 beg:b<st.length
 rows:∀r∈st,r.length=l.length∧∀x∈r,x<st.length
theorem Zz.same{l:Str}(h:Zz H m l b es st)(e:Zm H H'):Zz H' m l b es st:=by
 obtain⟨⟨e1,s1,ras,h1,h2,h3,h4,h5⟩,f,g,r⟩:=h;exact⟨⟨e1,s1,ras,e _ _ h1,e _ _ h2,e _ _ h3,h4,λi a r q1 q2=>e _ _ (h5 i a r q1 q2)⟩,f,g,r⟩
def stp(l:Str)(st:aB)(r c:Nat):Nat:=(st.getD r []).getD (Txt.find l (one c)).toNat 0
def way(l:Str)(st:aB)(r:Nat)(t:List Nat):Nat:=t.foldl (stp l st) r
theorem Tw{l:Str}(h:c∈l.cps.toList):0≤Txt.find l (one c)∧(Txt.find l (one c)).toNat<l.length:=by
 have hl:=len_list l;obtain⟨i,hi,e⟩:=iL h
 have hD:∀v:Nat,v<l.length→l.cps.getD v 0=l.cps.toList.getD v 0:=λv hv=>by
  rw[rK,pW,Array.getD_eq_getD_getElem?]
 have hf:Txt.find l (one c)=Txt.find3 l (one c) 0:=by
  unfold Txt.find Txt.find3;rfl
 rcases StrLaws.find3_spec l c 0 with ⟨_,hn⟩|⟨k,hk,_,x5,_⟩
 ·refine absurd ?_ (hn i ?_ (by lia))
  ·rw[hD i (by lia),rK,rD hi];exact e
  ·show _≤i;unfold PySem.fromIndex;simp
 ·rw[hf];have:Txt.find3 l (one c) 0=(k:Int):=hk;rw[this];lia
theorem getD_mem{α:Type}{l:List α}{d:α}(h:i<l.length):l.getD i d∈l∧l[i]?=some (l.getD i d):=by
 rw[rK,rD h];exact⟨oG h,rfl⟩
theorem X3{l:Str}(M:Zz H m l b es st)(hr:r<st.length)(hc:c∈l.cps.toList):stp l st r c<st.length:=by
 obtain⟨h1,h2⟩:=M.rows _ (getD_mem (d:=[]) hr).1;have hf:=Tw hc;exact h2 _ (getD_mem (l:=st.getD r []) (d:=0) (by rw[h1];exact hf.2)).1
theorem Zcg{H:Hp}{m:Addr}{l:Str}{b:Nat}{es:List Nat}{st:aB}(M:Zz H m l b es st):∀(t:List Nat) (r:Nat),r<st.length→(∀c∈t,c∈l.cps.toList)→way l st r t<st.length
 |[],r,hr,_=>hr
 |c :: t,r,hr,h=>Zcg M t _ (X3 M hr (h c rM)) λx hx=>h x (rP _ hx)
inductive B4(vs:List V)(H:Hp)(Q:VK):Prop
 |mk(m:Addr)(l:Str)(b:Nat)(es:List Nat)(st:aB)(r:Nat)(t:Str)(h1:vs=[.ref m,nI r,.str t])(h2:Zz H m l b es st)(h3:r<st.length)(h4:(∀c∈t.cps.toList,c∈l.cps.toList))(h5:Q (nI (way l st r t.cps.toList)) H):B4 vs H Q
def Te:Sp:=λvs H Q _=>B4 vs H Q
theorem Zg2{K:W.Frag}{l:Str}(M:Zz H m l b es st){r:Nat}(hr:r<st.length)(hc:c∈l.cps.toList)(q:Q (nI (stp l st r c)) H):
  ∃(e s:Addr) (ras:ZQ) (a:Addr),H m=some (.tup [.str l,nI b,.ref e,.ref s])∧H s=some (.tup (ras.map V.ref))∧atI (ras.map V.ref) (r:Int)=some (.ref a)∧H a=some (.tup ((st.getD r []).map nI))∧0≤Txt.find l ⟨#[c]⟩∧atI ((st.getD r []).map nI) (Txt.find l ⟨#[c]⟩)=some (nI (stp l st r c)):=by
 obtain⟨e,s,ras,h1,h2,h3,h4,h5⟩:=M.lay;have v9:r<ras.length:=by lia
 have hf:=Tw hc;obtain⟨g1,g2⟩:=getD_mem (l:=st) (d:=[]) hr;have hlen:=(M.rows _ g1).1;have g3:=(getD_mem (l:=st.getD r []) (i:=(Txt.find l (one c)).toNat) (d:=0) (by rw[hlen];exact hf.2)).2;refine⟨e,s,ras,ras[r],h1,h3,Zj (by rw[rJ,rD v9];rfl),h5 r _ _ (rD v9) g2,hf.1,?_⟩;have z:atI ((st.getD r []).map nI) (((Txt.find l (one c)).toNat:Nat):Int)=some (nI (stp l st r c)):=Zj (by rw[rJ,g3];rfl);rw[show (((Txt.find l (one c)).toNat:Nat):Int)=Txt.find l (one c) by lia]at z;exact z
theorem Zcf(l:Str)(st:aB)(r:Nat)(t:List Nat)(i c:Nat)(h:t[i]?=some c):way l st r (t.take (i+1))=stp l st (way l st r (t.take i)) c:=by
 rw[oK,h];unfold way;rw[iX];rfl
theorem take_all{P:ZF}{t:List Nat}(h:∀c∈t,P c):∀c∈t.take n,P c:=λc hc=>h c (fR hc)
theorem Lv(F:Fun K "room_behind" "room_behind" Uj f fd)(Z:Blt mg):Yc P w K mg base CX0 1 f fd aY Te:=by
 refine F.ok Xk (λvs H Q E h=>?_) (λcdv A outer s H vs Q E hr h=>?_)
 ·obtain⟨m,l,b,es,st,r,t,rfl,_⟩:=h;rfl
 obtain⟨m,l,b,es,st,r,t,rfl,M,eG,ht,k⟩:=h
 refine⟨_,(Ze (Zn (i:=3) Xk.nd (by rfl) (Or.inl (by rfl)) (Zr (Zp (K:=K)) (pv 0) Zf (λ_ _=>rfl))) 
   (Ze (Zn (i:=4) Xk.nd (by rfl) (Or.inl (by rfl)) (Zr (Zp (K:=K)) (pv 0) Zf (λ_ _=>rfl))) 
   (Ze (Zn (i:=5) Xk.nd (by rfl) (Or.inl (by rfl)) (pv 1)) 
   (Ze (Y5 pP (by rfl) (Up (pv 2)) (Zo (i:=6) Xk.nd (by rfl) (Or.inl (by rfl))) 
    (Zg (Zn (i:=5) Xk.nd (by rfl) (Or.inl (by rfl)) (Zr (Zp (K:=K)) (Zr (Zp (K:=K)) (pv 4) (pv 5) (λ_ _=>rfl)) (Wd (K:=K) cR PySem.F.slot_str_index PySem.F.type_str_index (Zes (by rfl)) (pv 3) (Za (pv 6) Zb)) (λ_ _=>rfl))))) 
   (Zg (Zq (pv 5))))))),?_⟩
 refine(let x6:TS:=_;let x8:TS:=Zs _ x6;let y6:TS:=Zs _ x8;let g0:TS:=Zs _ y6;(?_:Zs _ g0 _ _ _));obtain⟨e,s',ras,h1,h2,h3,h4,h5⟩:=M.lay;refine⟨_,rfl,m,_,_,_,rfl,rfl,SqT.of h1,Zj (j:=0) rfl,_,rfl,m,_,_,_,rfl,rfl,SqT.of h1,Zj (j:=3) rfl,_,rfl,?_⟩;refine⟨_,rfl,t,rfl,?_⟩;refine Mu (cs:=t.cps.toList) (λi σ H2=>∃v,σ=[some (.ref m),some (nI r),some (.str t),some (.str l),some (.ref s'),some (nI (way l st r (t.cps.toList.take i))),v]∧H2=H) ⟨none,rfl,rfl⟩ ?_ ?_
 ·rintro i c σ H2 hc ⟨v,rfl,rfl⟩;have m6:c∈l.cps.toList:=ht c (rN hc);have hw:=Zcg M (t.cps.toList.take i) r eG (take_all ht);obtain⟨e2,s2,ras2,a,q1,q2,q3,q4,q5,q6⟩:=Zg2 (K:=K) (Q:=λ_ _=>True) M hw m6 trivial;rw[h1]at q1;cases q1;refine⟨_,rfl,_,rfl,s',_,_,_,rfl,rfl,SqT.of q2,q3,_,rfl,rfl,_,rfl,l,_,rfl,rfl,q5,a,_,_,_,rfl,rfl,SqT.of q4,q6,?_⟩;refine⟨some (.str ⟨#[c]⟩),?_,rfl⟩;rw[Zcf l st r _ i c hc];rfl
 ·rintro σ H2 ⟨v,rfl,rfl⟩;refine⟨_,rfl,?_⟩;rw[pZ];exact k
def Tk(H H':Hp):Prop:=∀b ys,H b=some (.tup ys)→H' b=some (.tup ys)
theorem Tk.same(e:Zm H H'):Tk H H':=λb ys h=>e b _ h
theorem Tk.trans(a:Tk H H1)(b:Tk H1 H2):Tk H H2:=λc ys h=>b c ys (a c ys h)
theorem Tk.lst{H:Hp}{l:Addr}{xs:List V}(h:H l=some (.lst xs))(o:HO):Tk H (upd H l o):=λb ys e=>by
 rw[Zk (Xr e h λz=>nomatch z)];exact e
theorem Tk.dct{l:Addr}{xs:YT}(h:H l=some (.dT xs))(o:HO):Tk H (upd H l o):=λb ys e=>by
 rw[Zk (Xr e h λz=>nomatch z)];exact e
theorem map_take{α β:Type}{f:α→β}{l:List α}{x:α}(h:l[i]?=some x):(l.take (i+1)).map f=(l.take i).map f++[f x]:=by
 rw[oK,h,pS];rfl
theorem none_of(e:Zm H H')(h:H' p=none):H p=none:=by
 cases z:H p with
 |none=>rfl
 |some o=>rw[e _ _ z]at h;cases h
theorem Tk.drew(F:Yw H p sc)(d:Xt H H' p):Tk H H':=λb ys h=>by
 obtain⟨xs,hp,_⟩:=F.here;exact d _ _ h (Xr h hp λz=>nomatch z)
inductive TR{α:Type}(tv:α→List V)(H:Hp):List V→List α→Prop where
 |nil:TR tv H [] []
 |cons {a:Addr}{r:α}{vs:List V}{rs:List α} (h:H a=some (.tup (tv r))) (t:TR tv H vs rs):TR tv H (.ref a :: vs) (r :: rs)
section
variable {α:Type}{tv:α→List V}
theorem TR.keep{H H':Hp}(e:Tk H H'):∀{vs:List V}{rs:List α},TR tv H vs rs→TR tv H' vs rs
 |_,_,.nil=>.nil
 |_,_,.cons h t=>.cons (e _ _ h) (t.keep e)
theorem TR.app{H:Hp}{ws:List V}{qs:List α}(h:TR tv H ws qs):∀{vs:List V}{rs:List α},TR tv H vs rs→TR tv H (vs++ws) (rs++qs)
 |_,_,.nil=>h
 |_,_,.cons h' t=>.cons h' (TR.app h t)
theorem TR.snoc{H:Hp}{a:Addr}{r:α}{vs:List V}{rs:List α}(h:H a=some (.tup (tv r)))(t:TR tv H vs rs):TR tv H (vs++[.ref a]) (rs++[r]):=TR.app (.cons h .nil) t
theorem TR.len{H:Hp}:∀{vs:List V}{rs:List α},TR tv H vs rs→vs.length=rs.length
 |_,_,.nil=>rfl
 |_,_,.cons _ t=>by rw[pY,pY,t.len]
theorem TR.at_{H:Hp}:∀{vs:List V}{rs:List α}{i:Nat}{x:V},TR tv H vs rs→vs[i]?=some x→∃a r,x=.ref a∧rs[i]?=some r∧H a=some (.tup (tv r))
 |_,_,i,x,.nil,h=>by simp at h
 |_,_,0,x,.cons (a:=a) (r:=r) h' t,h=>by
  cases h;exact⟨a,r,rfl,rfl,h'⟩
 |_,_,i+1,x,.cons h' t,h=>t.at_ (i:=i) (by simpa using h)
end
theorem Yi{c:Addr}(e:Zm H H')(h:H c=none)(o:HO):Zm H (upd H' c o):=λb u q=>by
 rw[Zk (Zi q h)];exact e b u q
theorem ifN{c:Bool}(h:c=false)(b:B):if c=true then A else B:=by rw[h];exact b
theorem ifY{c:Bool}(h:c=true)(a:A):if c=true then A else B:=by rw[if_pos h];exact a
theorem Zf5{x x0 x1:V}{a:Addr}{te:TE}{Nt:VK}{Nf:YV}(hx:x=.ref a)(hq:SqT K H a [x0,x1])(h:te ((σ.set 0 (some x0)).set 1 (some x1)) H Nt):
  Zh5 K 2 (Zai (N6 0) (Zai (N6 1) Zl5)) x σ H λg8 H4=>Zkd g8 H4 λb H5=>if b=true then te g8 H5 Nt else Nf H5:=by
 refine⟨a,_,hx,hq,rfl,_,_,rfl,_,_,rfl,rfl,?_⟩;show if true=true then te ((σ.set 0 (some x0)).set 1 (some x1)) H Nt else Nf H
 exact Zhy h
theorem Gk{α:Type} [BEq α] [LawfulBEq α] {rs:List α}{r:α} (h:rs[i]?=some r) (hn:r∉rs.take i):rs.idxOf r=i:=by
 have hi:i<rs.length:=(rH.mp h).1
 have e:rs=rs.take i++r :: rs.drop (i+1):=by
  obtain⟨hm,e⟩:=rH.mp h;rw[←e,←List.drop_eq_getElem_cons hm,List.take_append_drop]
 rw[e,List.idxOf_append,if_neg hn,List.idxOf_cons_self,pR];lia
theorem Yg{α:Type}{rs:List α}{r x:α}(h:rs[i]?=some r):x∈rs.take (i+1)↔x∈rs.take i∨x=r:=by
 rw[oK,h,oB];simp
def kkN(r:List Nat):List Key:=r.map λn:Nat=>Sum.inl (n:Int)
theorem Zhp(r:List Nat):(kkN r).map kV=r.map nI:=by
 unfold kkN;rw[pO];rfl
theorem A3:∀{r r':List Nat},kkN r=kkN r'→r=r'
 |[],[],_=>rfl
 |[],_ :: _,h=>by cases h
 |_ :: _,[],h=>by cases h
 |a :: r,b :: r',h=>by
  have h':(Sum.inl ((a:Nat):Int):Key) :: kkN r=Sum.inl ((b:Nat):Int) :: kkN r':=h
  injection h' with h1 h2
  have:((a:Nat):Int)=((b:Nat):Int):=Sum.inl.inj h1;rw[A3 h2,show a=b by lia]
def Yp(H:Hp)(xs:List V)(rs:aB):Prop:=xs.length=rs.length∧∀(i:Nat) x r,xs[i]?=some x→rs[i]?=some r→∃a,x=.ref a∧H a=some (.tup (r.map nI))
inductive Zi8(vs:List V)(H:Hp)(Q:VK):Prop
 |mk(rp:Addr)(h1:vs=[.ref rp])(h2:((∃bs:List Bool,H rp=some (.lst (bs.map V.bl))∧bs.length≤500∧∀l H',H l=none→Zm H H'→H' l=some (.lst (bs.map λb=>nI (bs.idxOf b)))→Q (.ref l) H')∨(∃xs rs,H rp=some (.lst xs)∧Yp H xs rs∧rs.length≤500∧∀l H',H l=none→Zm H H'→H' l=some (.lst (rs.map λr=>nI (rs.idxOf r)))→Q (.ref l) H'))):Zi8 vs H Q
def Znc:Sp:=λvs H Q _=>Zi8 vs H Q
theorem Jf(F:Fun K "first_like" "first_like" Wq f fd)(Z:Blt mg):Yc P w K mg base CX0 1 f fd ["rows"] Znc:=by
 refine F.ok Ui (λvs H Q E h=>?_) (λcdv A outer s H vs Q E hr h=>?_)
 ·obtain⟨rp,rfl,_⟩:=h;rfl
 obtain⟨rp,rfl,⟨bs,hb,sC,k⟩|⟨xs,rs,hx,hR,t6,k⟩⟩:=h
 ·refine⟨_,(Ze (Zn (i:=1) Ui.nd (by rfl) (Or.inr (by rfl)) (Zec (P:=P) (w:=w))) 
   (Zg (Zq (Yj (sc:=Zh Wq) (Nm:=["rows","firsts"]) (own:=["number","row"]) (fr:=[1]) ⟨rfl,by decide +kernel,by decide +kernel,by decide +kernel,by decide +kernel⟩ (by rfl) (Gs (Vt (by decide) (Vt (by decide) Kf))) (Ob (K:=K) (by rfl) Z.enumerate (pv 0)) (λd=>(Vo (K:=K) (n:=2) (by rfl) (Yb (Zo (i:=0) X7 (by rfl) (Or.inl (by rfl))) (Yb (Zo (i:=1) X7 (by rfl) (Or.inl (by rfl))) Vb)))) (λd=>Ym) (λd=>(Zd9 (P:=P) (w:=w) (pv 2) (pv 1) (pv 0) ⟨rfl,rfl,rfl,rfl⟩)))))),?_⟩
  refine(let x6:TS:=_;(?_:Zs _ x6 _ _ _));intro fp eC;have nf:rp≠fp:=Zi hb eC;refine⟨_,rfl,rp,_,rfl,.inl ⟨SqL.of ((Zk nf).trans hb),?_⟩⟩
  refine Im (Sq:=λH xs=>SqL K H rp xs) (xs:=bs.map V.bl) (λi acc H2=>∃(g:Bool→Option V) (n:Nat),acc=(bs.take i).map (λb=>nI (bs.idxOf b))∧H2 fp=some (E9 P w fp g n)∧n≤i∧(∀b,g b=if b∈bs.take i then some (nI (bs.idxOf b)) else none)∧Zm H H2)
   (by rw[rC];exact Z0 (by lia)) ⟨λ_=>none,0,rfl,Zc,rG _,λb=>by simp,Zd eC _⟩ (λi acc H2 ⟨g,n,e,_⟩=>by rw[e,rC,pR];exact lT _ _)
   (λi acc H2 ⟨g,n,e,_,_,_,e2⟩=>SqL.of (e2 _ _ hb)) (λi acc H2 x p sJ h hp=>?_) (λacc H2 h y hy=>?_)
  ·obtain⟨g,n,rfl,h2,hn,hg,e2⟩:=h;rw[rJ]at sJ
   cases w5:bs[i]? with
   |none=>rw[w5]at sJ;cases sJ
   |some b=>
    rw[w5]at sJ;cases sJ;have t5:i<bs.length:=(rH.mp w5).1;have s3:=Zd hp (.tup [V.int (i:Int),V.bl b]);have h3:=s3 _ _ h2;have Zbr:=e2.trans s3;refine Zf5 (K:=K) rfl (SqT.of Zc) ?_;refine⟨_,rfl,fp,g,n,rfl,h3,_,rfl,_,rfl,b,g,n,h3,rfl,by rw[sizeLine_eq];lia,λv hv=>?_,λhv=>?_⟩
    ·rw[hg]at hv
     by_cases c:b∈bs.take i
     ·rw[if_pos c]at hv;cases hv;refine⟨g,n,?_,h3,by lia,λx=>?_,Zbr⟩
      ·rw[map_take w5]
      ·rw[hg]
       by_cases c2:x∈bs.take i
       ·rw[if_pos c2,if_pos ((Yg w5).mpr (.inl c2))]
       ·rw[if_neg c2,if_neg λz=>c2 ((Yg w5).mp z |>.elim id λz=>z▸c)]
     ·rw[if_neg c]at hv;cases hv
    ·rw[hg]at hv;have c:b∉bs.take i:=λc=>by rw[if_pos c]at hv;cases hv
     have j9:=Gk w5 c;refine⟨_,n+1,?_,Zc,by lia,λx=>?_,Yi Zbr eC _⟩
     ·rw[map_take w5,j9];rfl
     ·by_cases c2:x=b
      ·subst c2;rw[if_pos rfl,if_pos ((Yg w5).mpr (.inr rfl)),j9];rfl
      ·rw[if_neg c2,hg]
       by_cases c3:x∈bs.take i
       ·rw[if_pos c3,if_pos ((Yg w5).mpr (.inl c3))]
       ·rw[if_neg c3,if_neg λz=>((Yg w5).mp z).elim c3 c2]
  ·obtain⟨g,n,rfl,h2,hn,hg,e2⟩:=h;rw[rC,pZ];exact k y _ (none_of e2 hy) (e2.trans (Zd hy _)) Zc
 ·refine⟨_,(Ze (Zn (i:=1) Ui.nd (by rfl) (Or.inr (by rfl)) Zea) 
   (Zg (Zq (Yj (sc:=Zh Wq) (Nm:=["rows","firsts"]) (own:=["number","row"]) (fr:=[1]) ⟨rfl,by decide +kernel,by decide +kernel,by decide +kernel,by decide +kernel⟩ (by rfl) (Gs (Vt (by decide) (Vt (by decide) Kf))) (Ob (K:=K) (by rfl) Z.enumerate (pv 0)) (λd=>(Vo (K:=K) (n:=2) (by rfl) (Yb (Zo (i:=0) X7 (by rfl) (Or.inl (by rfl))) (Yb (Zo (i:=1) X7 (by rfl) (Or.inl (by rfl))) Vb)))) (λd=>Ym) (λd=>(Zd8 (Wv hr) (pv 2) (pv 1) (pv 0) ⟨rfl,rfl,rfl,rfl⟩)))))),?_⟩
  refine(let x6:TS:=_;(?_:Zs _ x6 _ _ _));intro fp eC;have nf:rp≠fp:=Zi hx eC;refine⟨_,rfl,rp,_,rfl,.inl ⟨SqL.of ((Zk nf).trans hx),?_⟩⟩
  refine Im (Sq:=λH xs=>SqL K H rp xs) (xs:=xs) (λi acc H2=>∃kvs:List (List Key×V),acc=(rs.take i).map (λr=>nI (rs.idxOf r))∧H2 fp=some (.dT kvs)∧kvs.length≤i∧(∀r,Xj kvs (kkN r)=if r∈rs.take i then some (nI (rs.idxOf r)) else none)∧Zm H H2)
   (Z0 (by have:=hR.1;lia)) ⟨[],rfl,Zc,rG _,λb=>by simp[Zcj],Zd eC _⟩ (λi acc H2 ⟨kvs,e,_⟩=>by rw[e,rC,pR];exact lT _ _)
   (λi acc H2 ⟨kvs,e,_,_,_,e2⟩=>SqL.of (e2 _ _ hx)) (λi acc H2 x p sJ h hp=>?_) (λacc H2 h y hy=>?_)
  ·obtain⟨kvs,rfl,h2,hn,hg,e2⟩:=h;have t5:i<rs.length:=by rw[←hR.1];exact(rH.mp sJ).1
   have w5:rs[i]?=some rs[i]:=rD t5;generalize rs[i]=b at w5;obtain⟨a,rfl,ha⟩:=hR.2 i x b sJ w5;have s3:=Zd hp (.tup [V.int (i:Int),V.ref a]);have h3:=s3 _ _ h2;have Zbr:=e2.trans s3;refine Zf5 (K:=K) rfl (SqT.of Zc) ?_;refine⟨_,rfl,fp,rfl,.inr ⟨kvs,.inl h3⟩,_,rfl,_,rfl,kvs,kkN b,a,h3,rfl,by rw[Zhp];exact Zbr _ _ ha,by rw[sizeLine_eq];lia,λv hv=>?_,λhv=>?_⟩
   ·rw[hg]at hv
    by_cases c:b∈rs.take i
    ·rw[if_pos c]at hv;cases hv;refine⟨kvs,?_,h3,by lia,λx=>?_,Zbr⟩
     ·rw[map_take w5]
     ·rw[hg]
      by_cases c2:x∈rs.take i
      ·rw[if_pos c2,if_pos ((Yg w5).mpr (.inl c2))]
      ·rw[if_neg c2,if_neg λz=>c2 ((Yg w5).mp z |>.elim id λz=>z▸c)]
    ·rw[if_neg c]at hv;cases hv
   ·rw[hg]at hv;have c:b∉rs.take i:=λc=>by rw[if_pos c]at hv;cases hv
    have j9:=Gk w5 c;refine⟨_,?_,Zc,pQ (Wh _ _ _) (by lia),λx=>?_,Yi Zbr eC _⟩
    ·rw[map_take w5,j9];rfl
    ·rw[Pn]
     by_cases c2:x=b
     ·subst c2;rw[if_pos rfl,if_pos ((Yg w5).mpr (.inr rfl)),j9];rfl
     ·rw[if_neg λz=>c2 (A3 z),hg]
      by_cases c3:x∈rs.take i
      ·rw[if_pos c3,if_pos ((Yg w5).mpr (.inl c3))]
      ·rw[if_neg c3,if_neg λz=>((Yg w5).mp z).elim c3 c2]
  ·obtain⟨kvs,rfl,h2,hn,hg,e2⟩:=h;rw[hR.1,pZ];exact k y _ (none_of e2 hy) (e2.trans (Zd hy _)) Zc
def lk0(es:List Nat)(n:Nat):List Nat:=let bs:=(List.range n).map λr=>decide (r∈es);bs.map λb=>bs.idxOf b
def lkR(st:aB)(L:List Nat):List aE:=(List.range st.length).map λi=>L.getD i 0 :: (st.getD i []).map λx=>L.getD x 0
def lkS(st:aB)(L:List Nat):List Nat:=(lkR st L).map λr=>(lkR st L).idxOf r
def lkN(st:aB)(es:List Nat):Nat→List Nat
 | 0=>lk0 es st.length
 |k+1=>lkS st (lkN st es k)
def dn(L:List Nat):Nat:=(Mk (L.map λn:Nat=>(n:Int))).length
theorem Ze8(i:Nat)(es:List Nat):inV (V.int ((i:Nat):Int)) (es.map nI)=decide (i∈es):=by
 unfold inV;rw[List.any_map,lS,iN,decide_eq_true_eq];constructor
 ·rintro⟨x,hx,e⟩;have:(((x:Nat):Int)==((i:Nat):Int))=true:=e;have:=eq_of_beq this;rw[show i=x by lia];exact hx
 ·intro h;refine⟨i,h,?_⟩;show (((i:Nat):Int)==((i:Nat):Int))=true;simp
theorem Yp.keep{rs:aB}(h:Yp H xs rs)(k:Tk H H'):Yp H' xs rs:=⟨h.1,λi x r a b=>let ⟨c,e,q⟩:=h.2 i x r a b;⟨c,e,k _ _ q⟩⟩
theorem Yp.snoc{H:Hp}{xs:List V}{rs:aB}(h:Yp H xs rs){a:Addr}{r:List Nat}(ha:H a=some (.tup (r.map nI))):Yp H (xs++[.ref a]) (rs++[r]):=by
 refine⟨by rw[rS,rS,h.1];rfl,λi x r' q1 q2=>?_⟩
 by_cases c:i<xs.length
 ·rw[pM c]at q1;rw[pM (by rw[←h.1];exact c)]at q2;exact h.2 i x r' q1 q2
 ·rw[pT (by lia)]at q1;rw[pT (by rw[←h.1];lia),←h.1]at q2
  cases hi:i-xs.length with
  |zero=>
   rw[hi]at q1 q2;cases q1;cases q2;exact⟨a,rfl,ha⟩
  |succ n=>rw[hi]at q1;simp at q1
inductive Aa(vs:List V)(H:Hp)(Q:VK):Prop
 |mk(m:Addr)(l:Str)(b:Nat)(es:List Nat)(st:aB)(h1:vs=[.ref m])(h2:Zz H m l b es st)(h3:es.length≤500)(h4:∀lp k H',Zm H H'→H' lp=some (.lst ((lkN st es (k+1)).map nI))→dn (lkN st es (k+1))≤dn (lkN st es k)→Q (.ref lp) H'):Aa vs H Q
def Zc6:Sp:=λvs H Q _=>Aa vs H Q
def lrW(m sA:Addr)(st:aB)(es:List Nat)(H:Hp)(mm:Nat)(σ:L2.St)(H5:Hp):Prop:=∃(k cnt:Nat) (lp:Addr) (v4 v5 v6:Option V),mm=st.length+1-cnt∧σ=[some (.ref m),some (.ref sA),some (.ref lp),some (nI cnt),v4,v5,v6]∧H5 lp=some (.lst ((lkN st es k).map nI))∧Zm H H5∧((k=0∧cnt=0)∨∃j,k=j+1∧cnt=dn (lkN st es j))
def lrE(m sA lp rp:Addr)(st:aB)(es:List Nat)(k':Nat)(H:Hp)(i:Nat)(σ:L2.St)(H7:Hp):Prop:=∃(ys:List V) (v5 v6:Option V),σ=[some (.ref m),some (.ref sA),some (.ref lp),some (nI (dn (lkN st es k'))),some (.ref rp),v5,v6]∧H7 rp=some (.lst ys)∧Yp H7 ys ((lkR st (lkN st es k')).take i)∧Zm H H7∧H7 lp=some (.lst ((lkN st es k').map nI))
theorem Jc(F:Fun K "like_rooms" "like_rooms" Wo f fd)(Z:Blt mg)(Vs:Cal P w K mg base "first_like" 1 ["rows"] Znc):Yc P w K mg base CX0 2 f fd aX Zc6:=by
 refine F.ok Yq (λvs H Q E h=>?_) (λcdv A outer s H vs Q E hr h=>?_)
 ·obtain⟨m,l,b,es,st,rfl,_⟩:=h;rfl
 obtain⟨m,l,b,es,st,rfl,M,v0,k⟩:=h
 refine⟨_,(Ze (Zn (i:=1) Yq.nd (by rfl) (Or.inl (by rfl)) (Zr (Zp (K:=K)) (pv 0) Zf (λ_ _=>rfl))) 
   (Ze (Zn (i:=2) Yq.nd (by rfl) (Or.inr (by rfl)) (Z5 Vs (hr.mono (by decide)) (Za (Yj (sc:=Zh Wo) (Nm:=aW) (own:=["room"]) (fr:=[0]) ⟨rfl,by decide +kernel,by decide +kernel,by decide +kernel,by decide +kernel⟩ (by rfl) (Ye (by decide)) (Xz (by rfl) Z.range (Za (Zt (Yo (K:=K)) (by rfl) Z.len Y3 (Za (pv 1) Zb)) Zb)) (λd=>(Zo (i:=0) Mh (by rfl) (Or.inl (by rfl)))) (λd=>Ym) (λd=>(Yr (Lu (K:=K)) (pv 0) (Zr (Zp (K:=K)) (pv 1) Zf (λ_ _=>rfl)) (by with_unfolding_all rfl)))) Zb))) 
   (Ze (Zn (i:=3) Yq.nd (by rfl) (Or.inl (by rfl)) Zf) 
   (Ze (Oa pP (Z6 Zeh (Zt N9 (by rfl) Z.len Y3 (Za (Z4 (Ip (K:=K) (by rfl)) (by rfl) Z.set Bn (Za (pv 2) Zb)) Zb)) (pv 3) (Zy _)) 
    (Ze (Zn (i:=3) Yq.nd (by rfl) (Or.inl (by rfl)) (Zt N9 (by rfl) Z.len Y3 (Za (Z4 (Ip (K:=K) (by rfl)) (by rfl) Z.set Bn (Za (pv 2) Zb)) Zb))) 
    (Ze (Zn (i:=4) Yq.nd (by rfl) (Or.inl (by rfl)) (Zx Zb)) 
    (Ze (Y5 pP (by rfl) (Ob (K:=K) (by rfl) Z.enumerate (pv 1)) (Vo (K:=K) (n:=2) (by rfl) (Yb (Zo (i:=5) Yq.nd (by rfl) (Or.inl (by rfl))) (Yb (Zo (i:=6) Yq.nd (by rfl) (Or.inl (by rfl))) Vb))) 
     (Zg (W8 (Wd (K:=K) oF lK lL Wg (pv 4) (Za (Z4 (Y1 (K:=K)) (by rfl) Z.tuple Yt (Za (Z3 Hx (Zx (Za (Zr (Z2 (K:=K)) (pv 2) (pv 5) (λ_ _=>rfl)) Zb)) (Yj (sc:=Zh Wo) (Nm:=aW) (own:=["ahead"]) (fr:=[2]) ⟨rfl,by decide +kernel,by decide +kernel,by decide +kernel,by decide +kernel⟩ (by rfl) (Ye (by decide)) (Va (K:=K) (pv 6)) (λd=>(Zo (i:=0) Mg (by rfl) (Or.inl (by rfl)))) (λd=>Ym) (λd=>(Zr (Z2 (K:=K)) (pv 1) (pv 0) (λ_ _=>rfl))))) Zb)) Zb))))) 
    (Zg (Zn (i:=2) Yq.nd (by rfl) (Or.inr (by rfl)) (Z5 Vs (hr.mono (by decide)) (Za (pv 4) Zb)))))))) 
   (Zg (Zq (pv 2))))))),?_⟩
 refine(let x6:TS:=_;let x8:TS:=_;let y6:TS:=Zs _ x8;let g0:TS:=Zs _ y6;let w6:TS:=Zs _ g0;let p9:TS:=Zs (Le _ w6) x6;let d0:TS:=Zs _ p9;let c0:TS:=Zs _ d0;(?_:Zs _ c0 _ _ _));obtain⟨eA,sA,ras,h1,h2,h3,h4,h5⟩:=M.lay;have k5:=M.few.2.2;have Zok:=M.beg;have t6:(ras.map V.ref).length=st.length:=by rw[rC,h4]
 refine⟨_,rfl,m,_,_,_,rfl,rfl,SqT.of h1,Zj (j:=3) rfl,?_⟩;refine⟨_,rfl,sA,_,rfl,.inr (SqT.of h3),_,rfl,by lia,by lia,?_⟩
 refine V5 (lo:=0) (k:=((((ras.map V.ref).length:Nat):Int)).toNat) (λi acc H2=>acc=(List.range i).map (λr=>V.bl (decide (r∈es)))∧Zm H H2) (iB (show _≤216 by lia) (by decide)) ⟨rfl,Zm.refl _⟩
  (λi acc H2 p=>by rw[p.1,rC,rX];exact rG _) (λi acc H2 hi p=>U9 ?_) (λacc H2 p y hy=>?_)
 ·obtain⟨rfl,e2⟩:=p;refine⟨_,rfl,_,rfl,m,_,_,_,rfl,rfl,SqT.of (e2 _ _ h1),Zj (j:=2) rfl,eA,_,rfl,.inr (SqT.of (e2 _ _ h2)),rfl,Zaj es,?_,e2⟩;rw[fL,pS]
  have:inV (V.int (0+(i:Int))) (es.map nI)=decide (i∈es):=by
   rw[show (0:Int)+(i:Int)=((i:Nat):Int) by lia];exact Ze8 i es
  show _++[V.bl (inV (V.int (0+(i:Int))) (es.map nI))]=_;rw[this];rfl
 obtain⟨rfl,e2⟩:=p;have jH:((((ras.map V.ref).length:Nat):Int)).toNat=st.length:=by lia
 rw[jH];have sD:(List.range st.length).map (λr=>V.bl (decide (r∈es)))=((List.range st.length).map λr=>decide (r∈es)).map V.bl:=by rw[pO];rfl
 have e3:=e2.trans (Zd hy (.lst ((List.range st.length).map λr=>V.bl (decide (r∈es)))));refine⟨y,rfl,.inl ⟨(List.range st.length).map λr=>decide (r∈es),by rw[Zc,sD],by rw[rC,rX];lia,λlp H4 m7 e4 yZ=>?_⟩⟩;have e04:=e3.trans e4
 have Zon:H4 lp=some (.lst ((lkN st es 0).map nI)):=by
  rw[yZ];refine congrArg (λz=>some (HO.lst z)) ?_;show _=List.map nI (List.map (λb=>List.idxOf b (List.map (λr=>decide (r∈es)) (List.range st.length))) (List.map (λr=>decide (r∈es)) (List.range st.length)));rw[pO (g:=nI)];rfl
 have sK:∀k,(lkN st es k).length=st.length:=λk=>by
  cases k with
  |zero=>unfold lkN lk0;rw[rC,rC,rX]
  |succ k=>unfold lkN lkS lkR;rw[rC,rC,rX]
 have dnl:∀k,dn (lkN st es k)≤st.length:=λk=>by
  have:=firstMet_length_le (λi=>((lkN st es k).map λn:Nat=>(n:Int)).getD i 0) ((lkN st es k).map λn:Nat=>(n:Int)).length;rw[rC,sK]at this;unfold dn Mk;rw[rC,sK];exact this
 have dn1:∀k,0<dn (lkN st es k):=λk=>by
  have h:=firstMet_any (λi=>((lkN st es k).map λn:Nat=>(n:Int)).getD i 0) ((lkN st es k).map λn:Nat=>(n:Int)).length (((lkN st es k).map λn:Nat=>(n:Int)).getD 0 0)
  have x9:((List.range ((lkN st es k).map λn:Nat=>(n:Int)).length).map λi=>((lkN st es k).map λn:Nat=>(n:Int)).getD i 0).any (· == ((lkN st es k).map λn:Nat=>(n:Int)).getD 0 0)=true:=by
   rw[iN];exact⟨_,rY.mpr ⟨0,pU.mpr (by rw[rC,sK];lia),rfl⟩,by simp⟩
  rw[x9]at h;unfold dn Mk
  cases hc:firstMet (λi=>((lkN st es k).map λn:Nat=>(n:Int)).getD i 0) ((lkN st es k).map λn:Nat=>(n:Int)).length with
  |nil=>rw[hc]at h;cases h
  |cons=>exact Nat.succ_pos _
 refine⟨lrW m sA st es H,
  ⟨_,0,0,lp,none,none,none,rfl,rfl,Zon,e04,.inl ⟨rfl,rfl⟩⟩,?_⟩
 clear yZ Zon m7 e4 e04 lp;rintro mm σ H5 ⟨k',cnt,lp,v4,v5,v6,rfl,rfl,z6,e5,zU⟩;have z3:(lkN st es k').map nI=((lkN st es k').map λn:Nat=>(n:Int)).map V.int:=by rw[pO];rfl
 have Zh0:((lkN st es k').map λn:Nat=>(n:Int)).length+1<scanBound:=by
  rw[rC,sK];exact iB (show st.length+1≤217 by lia) (by decide)
 refine⟨_,rfl,lp,_,rfl,SqL.of (by rw[←z3];exact z6),Zh0,λq hq=>⟨q,_,_,rfl,Zc,_,rfl,_,_,rfl,rfl,_,rfl,?_⟩⟩;have s6:=Zd hq (.set (λk=>(Mk ((lkN st es k').map λn:Nat=>(n:Int))).any (· == k)) (Mk ((lkN st es k').map λn:Nat=>(n:Int))).length);have sS:=s6 _ _ z6;have e6:=e5.trans s6;refine Ur (λc1=>?_) (λc1=>?_)
 ·have c2:((cnt:Nat):Int)<((dn (lkN st es k'):Nat):Int):=of_decide_eq_true c1;refine⟨λx4 H'=>∃m',m'<st.length+1-cnt∧_,λ_ _ z=>z,?_⟩;refine⟨_,rfl,lp,_,rfl,SqL.of (by rw[←z3];exact sS),Zh0,λq2 hq2=>⟨q2,_,_,rfl,Zc,?_⟩⟩;refine⟨(by show 0≤sizeLine;decide),λrp z9=>?_⟩;have s7:=Zd hq2 (.set (λk=>(Mk ((lkN st es k').map λn:Nat=>(n:Int))).any (· == k)) (Mk ((lkN st es k').map λn:Nat=>(n:Int))).length);have s8:=Zd z9 (.lst []);have p3:=s8 _ _ (s7 _ _ sS);have e8:=(e6.trans s7).trans s8;have Gm:=none_of (e6.trans s7) z9;have eV:lp≠rp:=Zi (s7 _ _ sS) z9;refine⟨_,rfl,sA,ras.map V.ref,rfl,.inr ⟨SqT.of (e8 _ _ h3),?_⟩⟩
  refine Rm (Sq:=λH xs=>SqT K H sA xs) (xs:=ras.map V.ref) (lrE m sA lp rp st es k' H)
   ⟨[],v5,v6,rfl,Zc,⟨rfl,λi x r a=>by simp at a⟩,e8,p3⟩ (λi σ H7 _ h=>?_) ?_ ?_
  ·obtain⟨ys,v5,v6,rfl,_,_,e7,_⟩:=h;exact SqT.of (e7 _ _ h3)
  ·rintro i x σ H7 p hx ⟨ys,v5,v6,rfl,z7,R7,e7,hZ⟩ hp;rw[rJ]at hx
   cases xF:ras[i]? with
   |none=>rw[xF]at hx;cases hx
   |some a=>
    rw[xF]at hx;cases hx;have t5:i<st.length:=by rw[←h4];exact(rH.mp xF).1
    obtain⟨hrm,mM⟩:=getD_mem (l:=st) (i:=i) (d:=[]) t5;have hrr:st.getD i []=st.getD i []:=rfl;generalize eG:st.getD i []=r at hrm mM hrr;have ha:=h5 i a r xF mM;obtain⟨hrlen,jV⟩:=M.rows r hrm;have hll:=M.few.2.1;have mY:∀j,j<st.length→atI ((lkN st es k').map nI) ((j:Nat):Int)=some (nI ((lkN st es k').getD j 0)):=λj hj=>Zj (by rw[rJ,(getD_mem (l:=lkN st es k') (d:=0) (by rw[sK];exact hj)).2];rfl);have s9:=Zd hp (.tup [V.int (i:Int),V.ref a]);refine⟨p,_,rfl,SqT.of Zc,rfl,_,_,rfl,_,_,rfl,rfl,?_⟩;have p5:=s9 _ _ z7;have p4:=s9 _ _ hZ;have e9:=e7.trans s9;have R9:=R7.keep (Tk.same s9);generalize upd H7 p _=H9 at s9 p5 p4 e9 R9 ⊢;refine⟨_,rfl,.inl ⟨rfl,_,SqL.of p5⟩,_,rfl,_,rfl,lp,_,_,_,rfl,rfl,SqL.of p4,mY i t5,(by show 1≤sizeLine;decide),λl1 z8=>?_⟩;generalize eZ:upd H9 l1 _=n4;have t1:=nS7 eZ z8;have C8:=t1 _ _ p4;have wO:=nU7 eZ;have m8:=e9.trans t1;refine⟨_,rfl,a,rfl,⟨_,SqT.of (m8 _ _ ha)⟩,?_⟩
    refine X5 (K:=K) (a:=a) (xs:=r.map nI) (λj acc z4=>acc=(r.take j).map (λx=>nI ((lkN st es k').getD x 0))∧Zm n4 z4) (by rw[rC];exact Z0 (by lia)) ⟨rfl,Zm.refl _⟩ (λj acc z4 q=>by rw[q.1,rC,pR];exact lT _ _)
     (λj acc z4 q=>SqT.of (q.2 _ _ (m8 _ _ ha))) (λj acc z4 x q0 q=>?_) (λacc z4 q y hy=>?_)
    ·obtain⟨rfl,w8⟩:=q;rw[rJ]at q0
     cases hc:r[j]? with
     |none=>rw[hc]at q0;cases q0
     |some c=>
      rw[hc]at q0;cases q0;refine U9 ⟨_,rfl,_,rfl,lp,_,_,_,rfl,rfl,SqL.of (w8 _ _ C8),mY c (jV c (rN hc)),?_,w8⟩;rw[map_take hc]
    obtain⟨rfl,w8⟩:=q;rw[rC,pZ];have t2:=Zd hy (.lst (r.map λx=>nI ((lkN st es k').getD x 0)));refine⟨l1,y,_,_,rfl,rfl,t2 _ _ (w8 _ _ wO),Zc,by rw[rC];exact Xe (by show 1+_≤1000;lia),λc hc=>?_⟩;have t3:=Zd hc (.lst ([nI ((lkN st es k').getD i 0)]++r.map λx=>nI ((lkN st es k').getD x 0)));refine⟨c,_,rfl,.inl ⟨SqL.of Zc,λz hz=>?_⟩⟩;have t4:=Zd hz (.tup ([nI ((lkN st es k').getD i 0)]++r.map λx=>nI ((lkN st es k').getD x 0)));have mU:=(((t1.trans w8).trans t2).trans t3).trans t4
    have m3:ys.length≤216:=by
     rw[R9.1,pR];unfold lkR;rw[rC,rX];lia
    have Pc:(lkR st (lkN st es k'))[i]?=some ((lkN st es k').getD i 0 :: r.map λx=>(lkN st es k').getD x 0):=by
     unfold lkR;rw[rJ,lY t5,←eG];rfl
    refine⟨rp,_,_,rfl,rfl,mU _ _ p5,Z0 (by lia),ys++[.ref z],_,_,rfl,Zc,?_,Yi (e9.trans mU) Gm _,(Zk eV).trans (mU _ _ p4)⟩;rw[oK,Pc];refine((R9.keep (Tk.same mU)).keep (Tk.lst (mU _ _ p5) _)).snoc ?_;rw[Zk (Xr Zc (mU _ _ p5) λz=>nomatch z)];refine Zc.trans ?_;rw[rW,pO];rfl
  ·rintro σ H7 ⟨ys,v5,v6,rfl,z7,R7,e7,hZ⟩;have uP:(lkR st (lkN st es k')).length=st.length:=by unfold lkR;rw[rC,rX]
   rw[t6,←uP,pZ]at R7;refine⟨_,rfl,rp,rfl,.inr ⟨ys,_,z7,R7,by lia,λlp2 H9 hlp2 e9 h9=>?_⟩⟩;have hdl:=dnl k';refine⟨st.length+1-dn (lkN st es k'),by lia,k'+1,dn (lkN st es k'),lp2,_,_,_,rfl,rfl,?_,e7.trans e9,.inr ⟨k',rfl,rfl⟩⟩;rw[h9];refine congrArg (λz=>some (HO.lst z)) ?_;show _=List.map nI (List.map (λr=>(lkR st (lkN st es k')).idxOf r) (lkR st (lkN st es k')));rw[pO];rfl
 ·have c2:¬ ((cnt:Nat):Int)<((dn (lkN st es k'):Nat):Int):=λz=>c1 (decide_eq_true z)
  rcases zU with ⟨rfl,rfl⟩|⟨j,rfl,rfl⟩
  ·have:=dn1 0;lia
  ·exact⟨_,rfl,k lp j _ e6 sS (by lia)⟩
def Canon{α:Type} [BEq α] (rs:List α) (L:List Nat):Prop:=L=rs.map λr=>rs.idxOf r
theorem Rr{α:Type} [BEq α] [LawfulBEq α] {rs:List α} (h:Canon rs L) {r:α} (hi:rs[i]?=some r):L.getD i 0=rs.idxOf r:=by
 rw[h,rK,rJ,hi];rfl
theorem Kc{α:Type} [BEq α] [LawfulBEq α] {rs:List α}{r:α} (h:r∈rs):rs[rs.idxOf r]?=some r:=by
 rw[rD (iK h)];exact congrArg some (List.getElem_idxOf _)
theorem De{α:Type} [BEq α] [LawfulBEq α] {rs:List α} (h:Canon rs L) {r r':α} (hi:rs[i]?=some r) (hj:rs[j]?=some r'):L.getD i 0=L.getD j 0↔r=r':=by
 rw[Rr h hi,Rr h hj];refine⟨λe=>?_,λe=>by rw[e]⟩;have a:=Kc (rN hi);have b:=Kc (rN hj);rw[e,b]at a;exact(Option.some.inj a).symm
structure Kw(L:List Nat):Prop where
 le:∀i,i<L.length→L.getD i 0≤i
 own:∀i,i<L.length→L.getD (L.getD i 0) 0=L.getD i 0
 low:∀i j,i<L.length→j<L.length→L.getD i 0=L.getD j 0→L.getD i 0≤j
theorem Canon.Zfq{α:Type} [BEq α] [LawfulBEq α] {rs:List α} (h:Canon rs L):Kw L:=by
 have hl:L.length=rs.length:=by rw[h,rC]
 have at_:∀i,i<L.length→∃r,rs[i]?=some r:=λi hi=>⟨rs[i]'(by lia),rD (by lia)⟩
 have le:∀i,i<L.length→L.getD i 0≤i:=λi hi=>by
  obtain⟨r,hr⟩:=at_ i hi;rw[Rr h hr]
  by_cases c:r∈rs.take i
  ·have e:rs.idxOf r=(rs.take i).idxOf r:=by
    conv=>lhs;rw[←List.take_append_drop i rs]
    rw[List.idxOf_append,if_pos c]
   have:=iK c;rw[pR]at this;lia
  ·exact cG (Gk hr c)
 refine⟨le,λi hi=>?_,λi j hi hj e=>?_⟩
 ·obtain⟨r,hr⟩:=at_ i hi;have:=le i hi;rw[Rr h hr];exact Rr h (Kc (rN hr))
 ·rw[e];exact le j hj
def cnt(L:List Nat):Nat→Nat
 | 0=>0
 |i+1=>cnt L i+if L.getD i 0=i then 1 else 0
theorem Zf7{L L':List Nat}:∀n,(∀i,i<n→L.getD i 0=i→L'.getD i 0=i)→cnt L n≤cnt L' n
 | 0,_=>rG _
 |n+1,h=>by
  have ih:=Zf7 n λi hi=>h i (by lia);unfold cnt
  by_cases c:L.getD n 0=n
  ·rw[if_pos c,if_pos (h n (iD _) c)];lia
  ·rw[if_neg c];lia
theorem Bg{L L':List Nat}:∀n,(∀i,i<n→L.getD i 0=i→L'.getD i 0=i)→cnt L' n≤cnt L n→∀i,i<n→L'.getD i 0=i→L.getD i 0=i
 | 0,_,_,i,hi,_=>absurd hi (iT _)
 |n+1,h,e,i,hi,q=>by
  have le:=Zf7 n λi hi=>h i (by lia);unfold cnt at e
  by_cases c:L.getD n 0=n
  ·rw[if_pos c,if_pos (h n (iD _) c)]at e
   rcases oE i n with z|z
   ·exact Bg n (λi hi=>h i (by lia)) (by lia) i z q
   ·rw[show i=n by lia];exact c
  ·rw[if_neg c]at e
   rcases oE i n with z|z
   ·exact Bg n (λi hi=>h i (by lia)) (by lia) i z q
   ·have x9:i=n:=by lia
    subst x9;rw[if_pos q]at e;lia
theorem Zf2(F:Kw L):dn L=cnt L L.length:=by
 have key:∀n,n≤L.length→(firstMet (λi=>(L.map λn:Nat=>(n:Int)).getD i 0) n).length=cnt L n:=λn=>by
  induction n with
  |zero=>intro _;rfl
  |succ n ih=>
   intro hn
   have hv:∀i,i<L.length→(L.map λn:Nat=>(n:Int)).getD i 0=((L.getD i 0:Nat):Int):=λi hi=>by
    rw[rK,rJ,rD hi,rK,rD hi];rfl
   rw[firstMet_succ,step_length,ih (by lia),firstMet_any,hv n (by lia)];show _=cnt L n+if L.getD n 0=n then 1 else 0
   by_cases c:L.getD n 0=n
   ·rw[if_pos c,if_neg];intro z;obtain⟨x,hx,e⟩:=iN.mp z;obtain⟨j,hj,rfl⟩:=rY.mp hx;have xM:=pU.mp hj;have e2:=eq_of_beq e;rw[hv j (by lia)]at e2;have:=F.le j (by lia);lia
   ·rw[if_neg c,if_pos,cH];have l1:=F.le n (by lia);refine iN.mpr ⟨_,rY.mpr ⟨L.getD n 0,pU.mpr (by lia),rfl⟩,?_⟩;rw[hv (L.getD n 0) (by lia),F.own n (by lia)];simp
 unfold dn Mk;rw[rC];exact key _ (rG _)
theorem Ca{L':List Nat}(F:Kw L)(F':Kw L')(hl:L'.length=L.length)(Zl8:∀i j,i<L.length→j<L.length→L'.getD i 0=L'.getD j 0→L.getD i 0=L.getD j 0)(few:dn L'≤dn L):
  ∀i j,i<L.length→j<L.length→L.getD i 0=L.getD j 0→L'.getD i 0=L'.getD j 0:=by
 have up:∀i,i<L.length→L.getD i 0=i→L'.getD i 0=i:=λi hi e=>by
  have h1:=F'.le i (by lia);have h2:=Zl8 (L'.getD i 0) i (by lia) hi (F'.own i (by lia));have h3:=F.low i (L'.getD i 0) hi (by lia) h2.symm;lia
 rw[Zf2 F,Zf2 F',hl]at few;have dnw:=Bg L.length up few;intro i j hi hj e;have a1:=F'.le i (by lia);have b1:=F'.le j (by lia);have a2:=dnw (L'.getD i 0) (by lia) (F'.own i (by lia));have b2:=dnw (L'.getD j 0) (by lia) (F'.own j (by lia));have a3:=Zl8 (L'.getD i 0) i (by lia) hi (F'.own i (by lia));have b3:=Zl8 (L'.getD j 0) j (by lia) hj (F'.own j (by lia));lia
def stN(st:aB)(i c:Nat):Nat:=(st.getD i []).getD c 0
def Wb(st:aB)(i:Nat)(cs:List Nat):Nat:=cs.foldl (stN st) i
def Fut(st:aB)(es:List Nat)(w i j:Nat):Prop:=∀cs:List Nat,(∀c∈cs,c<w)→(Wb st i cs∈es↔Wb st j cs∈es)
def Ny(st:aB)(w:Nat):Prop:=∀r∈st,r.length=w∧∀x∈r,x<st.length
theorem getD_in{α:Type}{l:List α}{d:α}(h:i<l.length):l.getD i d∈l∧l[i]?=some (l.getD i d):=by
 rw[rK,rD h];exact⟨oG h,rfl⟩
theorem S2{w:Nat}(R:Ny st w)(hi:i<st.length)(hc:c<w):stN st i c<st.length:=by
 obtain⟨h1,_⟩:=getD_in (l:=st) (d:=[]) hi;obtain⟨h2,h3⟩:=R _ h1;exact h3 _ (getD_in (l:=st.getD i []) (d:=0) (by lia)).1
theorem Ov(st:aB)(es:List Nat):∀k,(lkN st es k).length=st.length
 | 0=>by unfold lkN lk0;rw[rC,rC,rX]
 |k+1=>by unfold lkN lkS lkR;rw[rC,rC,rX]
theorem Zew(hi:i<st.length):(lkR st L)[i]?=some (L.getD i 0 :: (st.getD i []).map λx=>L.getD x 0):=by
 unfold lkR;rw[rJ,lY hi];rfl
theorem Zex(hi:i<n)(hj:j<n):(lk0 es n).getD i 0=(lk0 es n).getD j 0↔(i∈es↔j∈es):=by
 have c:Canon ((List.range n).map λr=>decide (r∈es)) (lk0 es n):=rfl;have at_:∀i,i<n→((List.range n).map λr=>decide (r∈es))[i]?=some (decide (i∈es)):=λi hi=>by rw[rJ,lY hi];rfl
 rw[De c (at_ i hi) (at_ j hj)];constructor
 ·intro e;rw[lS,decide_eq_true_eq,decide_eq_true_eq]at e;exact e
 ·intro e;rw[lS,decide_eq_true_eq,decide_eq_true_eq];exact e
theorem Ga{w:Nat}(R:Ny st w)(hi:i<st.length)(hj:j<st.length):(lkS st L).getD i 0=(lkS st L).getD j 0↔(L.getD i 0=L.getD j 0∧∀c,c<w→L.getD (stN st i c) 0=L.getD (stN st j c) 0):=by
 have cn:Canon (lkR st L) (lkS st L):=rfl;rw[De cn (Zew hi) (Zew hj),List.cons.injEq];have li:=(R _ (getD_in (l:=st) (d:=[]) hi).1).1;have lj:=(R _ (getD_in (l:=st) (d:=[]) hj).1).1;refine and_congr_right λ_=>⟨λe c hc=>?_,λh=>?_⟩
 ·have a:=congrArg (λz:List Nat=>z[c]?) e;simp only[rJ]at a;rw[(getD_in (l:=st.getD i []) (d:=0) (show c<_ by lia)).2,(getD_in (l:=st.getD j []) (d:=0) (show c<_ by lia)).2]at a;exact Option.some.inj a
 ·refine cN λc=>?_;rw[rJ,rJ]
  rcases oE c w with z|z
  ·rw[(getD_in (l:=st.getD i []) (d:=0) (show c<_ by lia)).2,(getD_in (l:=st.getD j []) (d:=0) (show c<_ by lia)).2];exact congrArg some (h c z)
  ·rw[oO (by lia),oO (by lia)]
theorem V2(st:aB)(es:List Nat):∀k,Kw (lkN st es k)
 | 0=>Canon.Zfq (rs:=(List.range st.length).map λr=>decide (r∈es)) rfl
 |k+1=>Canon.Zfq (rs:=lkR st (lkN st es k)) rfl
theorem Eu{st:aB}{es:List Nat}{w:Nat}(R:Ny st w):∀k i j,i<st.length→j<st.length→(lkN st es k).getD i 0=(lkN st es k).getD j 0→(i∈es↔j∈es)
 | 0,i,j,hi,hj,e=>(Zex hi hj).mp e
 |k+1,i,j,hi,hj,e=>Eu R k i j hi hj ((Ga R hi hj).mp e).1
theorem Gb{st:aB}{es:List Nat}{w:Nat}(R:Ny st w):∀k i j,i<st.length→j<st.length→Fut st es w i j→(lkN st es k).getD i 0=(lkN st es k).getD j 0
 | 0,i,j,hi,hj,f=>(Zex hi hj).mpr (f [] λc hc=>by cases hc)
 |k+1,i,j,hi,hj,f=>(Ga R hi hj).mpr ⟨Gb R k i j hi hj f,λc hc=>Gb R k _ _ (S2 R hi hc) (S2 R hj hc) λcs b8=>f (c :: cs) λd hd=>by
   rcases rT.mp hd with z|z
   ·rw[z];exact hc
   ·exact b8 d z⟩
theorem Zev{w k:Nat}(R:Ny st w)(few:dn (lkN st es (k+1))≤dn (lkN st es k))(hi:i<st.length)(hj:j<st.length):
  (lkN st es (k+1)).getD i 0=(lkN st es (k+1)).getD j 0↔Fut st es w i j:=by
 refine⟨λe=>?_,Gb R (k+1) i j hi hj⟩;have l0:=Ov st es k;have l1:=Ov st es (k+1);have sk:=Ca (V2 st es k) (V2 st es (k+1)) (by rw[l1,l0]) (λi j hi hj e=>((Ga R (by lia) (by lia)).mp e).1) few
 have walk:∀(cs:List Nat) (i j:Nat),i<st.length→j<st.length→(∀c∈cs,c<w)→(lkN st es (k+1)).getD i 0=(lkN st es (k+1)).getD j 0→(Wb st i cs∈es↔Wb st j cs∈es):=by
  intro cs
  induction cs with
  |nil=>exact λi j hi hj _ e=>Eu R (k+1) i j hi hj e
  |cons c cs ih=>
   intro i j hi hj hc e;have h1:=((Ga R hi hj).mp e).2 c (hc c rM);have a:=S2 R hi (hc c rM);have b:=S2 R hj (hc c rM);exact ih _ _ a b (λd hd=>hc d (rP _ hd)) (sk _ _ (by lia) (by lia) h1)
 exact λcs b8=>walk cs i j hi hj b8 e
theorem Oh:∀(n:Nat) (l:List Nat),l.Nodup→(∀x∈l,x<n)→l.length≤n
 | 0,[],_,_=>rG _
 | 0,x :: _,_,h=>absurd (h x rM) (iT _)
 |n+1,l,nd,h=>by
  have ih:=Oh n (l.filter (· != n)) (nd.filter _) λx hx=>by
   obtain⟨h1,h2⟩:=iJ.mp hx;have:=h x h1;have h3:x≠n:=by simpa using h2
   lia
  have key:∀(l:List Nat),l.Nodup→l.length≤(l.filter (· != n)).length+1:=by
   intro l
   induction l with
   |nil=>intro _;exact oC _
   |cons a t iht=>
    intro nd;obtain⟨na,nt⟩:=lI.mp nd;rw[List.filter_cons]
    by_cases c:a=n
    ·subst c;rw[if_neg (by simp)]
     have:t.filter (· != a)=t:=List.filter_eq_self.mpr λx hx=>by
      have:x≠a:=λz=>na (z▸hx);simpa using this
     rw[this];exact rG _
    ·rw[if_pos (by simpa using c)];have:=iht nt;simp only[pY];lia
  have:=key l nd;lia
inductive Pw(R:Nat→Nat→Prop):List Nat→List Nat→Prop
 |nil:Pw R [] []
 |cons {a b:Nat}{l m:List Nat}:R a b→Pw R l m→Pw R (a :: l) (b :: m)
variable {R:Nat→Nat→Prop}{k1 k2:ZD}
theorem Pw.len{l m:List Nat}(h:Pw R l m):l.length=m.length:=by
 induction h with
 |nil=>rfl
 |cons _ _ ih=>rw[pY,pY,ih]
theorem Pw.snoc{l m:List Nat}(h:Pw R l m){a b:Nat}(r:R a b):Pw R (l++[a]) (m++[b]):=by
 induction h with
 |nil=>exact .cons r .nil
 |cons q _ ih=>exact .cons q ih
theorem Pw.get{l m:List Nat}(h:Pw R l m):∀{i:Nat}{x:Nat},l[i]?=some x→∃y,m[i]?=some y∧R x y:=by
 induction h with
 |nil=>intro i x e;simp at e
 |cons q _ ih=>
  intro i x e
  cases i with
  |zero=>cases e;exact⟨_,rfl,q⟩
  |succ i=>exact ih (by simpa using e)
theorem Pw.of:∀{l m:List Nat},l.length=m.length→(∀(i:Nat) x y,l[i]?=some x→m[i]?=some y→R x y)→Pw R l m
 |[],[],_,_=>.nil
 |[],_ :: _,h,_=>nomatch h
 |_ :: _,[],h,_=>nomatch h
 |a :: l,b :: m,h,q=>.cons (q 0 a b rfl rfl) (Pw.of (by simpa using h) λi x y e1 e2=>q (i+1) x y (by simpa using e1) (by simpa using e2))
def KR(R:Nat→Nat→Prop)(k1 k2:ZD):Prop:=∀x y x' y',R x y→R x' y'→(k1 x=k1 x'↔k2 y=k2 y')
theorem Pw.mem(kr:KR R k1 k2){l m:List Nat}(h:Pw R l m)(r:R x y):k1 x∈l.map k1↔k2 y∈m.map k2:=by
 induction h with
 |nil=>exact⟨λz=>(fB z).elim,λz=>(fB z).elim⟩
 |cons q _ ih=>rw[rW,rW,rT,rT,ih,kr _ _ _ _ r q]
theorem Pw.idx(kr:KR R k1 k2){l m:List Nat}(h:Pw R l m)(r:R x y):(l.map k1).idxOf (k1 x)=(m.map k2).idxOf (k2 y):=by
 induction h with
 |nil=>rfl
 | @cons a b _ _ q _ ih=>
  rw[rW,rW,List.idxOf_cons,List.idxOf_cons,ih];have e:=kr _ _ _ _ q r
  by_cases c:k1 a=k1 x
  ·rw[beq_iff_eq.mpr c,beq_iff_eq.mpr (e.mp c)]
  ·rw[beq_eq_false_iff_ne.mpr c,beq_eq_false_iff_ne.mpr λz=>c (e.mpr z)]
def Xo(k:ZD)(o:List Nat)(x:Nat):List Nat:=if k x∈o.map k then o else o++[x]
def Zl(k:ZD)(T:ZJ)(b:Nat):Nat→List Nat
 | 0=>[b]
 |i+1=>match (Zl k T b i)[i]? with
  |some x=>(T x).foldl (Xo k) (Zl k T b i)
  |none=>Zl k T b i
theorem Wf{k:ZD}(h:(Zl k T b i)[i]?=some x):Zl k T b (i+1)=(T x).foldl (Xo k) (Zl k T b i):=by
 show (match (Zl k T b i)[i]? with|some x=>(T x).foldl (Xo k) (Zl k T b i)|none=>Zl k T b i)=_;rw[h]
theorem Xm{k:ZD}{T:ZJ}{b i:Nat}(h:(Zl k T b i).length≤i):∀j,i≤j→Zl k T b j=Zl k T b i
 | 0,hj=>by rw[Nat.le_zero.mp hj]
 |j+1,hj=>by
  rcases oE i (j+1) with z|z
  ·have ih:=Xm h j (by lia)
   show (match (Zl k T b j)[j]? with|some x=>(T x).foldl (Xo k) (Zl k T b j)|none=>Zl k T b j)=_;rw[ih,oO (by lia)]
  ·rw[show i=j+1 by lia]
theorem Pw.fold(kr:KR R k1 k2){t u:List Nat}(h:Pw R t u):∀{l m:List Nat},Pw R l m→Pw R (t.foldl (Xo k1) l) (u.foldl (Xo k2) m):=by
 induction h with
 |nil=>exact λh=>h
 | @cons a b _ _ q _ ih=>
  intro l m h;refine ih ?_;unfold Xo
  by_cases c:k1 a∈l.map k1
  ·rw[if_pos c,if_pos ((h.mem kr q).mp c)];exact h
  ·rw[if_neg c,if_neg λz=>c ((h.mem kr q).mpr z)];exact h.snoc q
theorem Pw.ord(kr:KR R k1 k2){T1 T2:ZJ}(ht:∀x y,R x y→Pw R (T1 x) (T2 y)){b1 b2:Nat}(hb:R b1 b2):∀i,Pw R (Zl k1 T1 b1 i) (Zl k2 T2 b2 i)
 | 0=>.cons hb .nil
 |i+1=>by
  have ih:=Pw.ord kr ht hb i
  cases e:(Zl k1 T1 b1 i)[i]? with
  |none=>
   have l1:=lG.mp e;rw[Xm l1 _ (lC _),Xm (by rw[←ih.len];exact l1) _ (lC _)];exact ih
  |some x=>
   obtain⟨y,hy,r⟩:=ih.get e;rw[Wf e,Wf hy];exact Pw.fold kr (ht x y r) ih
theorem Zgg{k:ZD}{P:ZF}(h:∀y∈o,P y)(hx:P x):∀y∈Xo k o x,P y:=by
 unfold Xo;intro y hy
 by_cases c:k x∈o.map k
 ·rw[if_pos c]at hy;exact h y hy
 ·rw[if_neg c]at hy
  rcases oB.mp hy with z|z
  ·exact h y z
  ·rw[rL.mp z];exact hx
theorem Zii{k:ZD}(h:(o.map k).Nodup):((Xo k o x).map k).Nodup:=by
 unfold Xo
 by_cases c:k x∈o.map k
 ·rw[if_pos c];exact h
 ·rw[if_neg c,pS,bV];refine⟨h,by simp,?_⟩;intro a ha b hb e;have:b=k x:=by simpa using hb
  rw[e,this]at ha;exact c ha
theorem Zge{k:ZD}:o <+: Xo k o x:=by
 unfold Xo
 by_cases c:k x∈o.map k
 ·rw[if_pos c];exact cC
 ·rw[if_neg c];exact List.prefix_append _ _
theorem Zgf{k:ZD}:k x∈(Xo k o x).map k:=by
 unfold Xo
 by_cases c:k x∈o.map k
 ·rw[if_pos c];exact c
 ·rw[if_neg c,pS];simp
theorem Rn{k:ZD}:∀(t o:List Nat),o <+: t.foldl (Xo k) o
 |[],_=>cC
 |_ :: t,o=>Zge.trans (Rn t _)
theorem fold_all{k:ZD}{P:ZF}:∀(t o:List Nat),(∀y∈o,P y)→(∀y∈t,P y)→∀y∈t.foldl (Xo k) o,P y
 |[],_,h,_=>h
 |a :: t,o,h,ht=>fold_all t _ (Zgg h (ht a rM)) λy hy=>ht y (rP _ hy)
theorem Mv{k:ZD}:∀(t o:List Nat),(o.map k).Nodup→((t.foldl (Xo k) o).map k).Nodup
 |[],_,h=>h
 |_ :: t,o,h=>Mv t _ (Zii h)
theorem E4{k:ZD}:∀(t o:List Nat) (x:Nat),x∈t→k x∈(t.foldl (Xo k) o).map k
 |a :: t,o,x,h=>by
  rcases rT.mp h with z|z
  ·subst z;exact(List.IsPrefix.map k (Rn t (Xo k o x))).subset Zgf
  ·exact E4 t _ x z
theorem Za7{k:ZD}(i:Nat):Zl k T b i <+: Zl k T b (i+1):=by
 cases e:(Zl k T b i)[i]? with
 |none=>rw[Xm (lG.mp e) _ (lC _)];exact cC
 |some x=>rw[Wf e];exact Rn _ _
theorem X4{k:ZD}{T:ZJ}{b i:Nat}:∀j,i≤j→Zl k T b i <+: Zl k T b j
 | 0,hj=>by rw[Nat.le_zero.mp hj];exact cC
 |j+1,hj=>by
  rcases oE i (j+1) with z|z
  ·exact(X4 j (by lia)).trans (Za7 j)
  ·rw[show i=j+1 by lia];exact cC
theorem Ws{k:ZD}{T:ZJ}{b:Nat}{P:ZF}(hb:P b)(ht:∀x,P x→∀y∈T x,P y):∀i,∀y∈Zl k T b i,P y
 | 0,y,hy=>by rw[rL.mp hy];exact hb
 |i+1,y,hy=>by
  have ih:=Ws hb ht (k:=k) i
  cases e:(Zl k T b i)[i]? with
  |none=>rw[Xm (lG.mp e) _ (lC _)]at hy;exact ih y hy
  |some x=>rw[Wf e]at hy;exact fold_all _ _ ih (ht x (ih x (rN e))) y hy
theorem Vp{k:ZD}{T:ZJ}{b:Nat}:∀i,((Zl k T b i).map k).Nodup
 | 0=>by show ([b].map k).Nodup;simp
 |i+1=>by
  cases e:(Zl k T b i)[i]? with
  |none=>rw[Xm (lG.mp e) _ (lC _)];exact Vp i
  |some x=>rw[Wf e];exact Mv _ _ (Vp i)
theorem Od{k:ZD}(i:Nat):0<(Zl k T b i).length∧(Zl k T b i)[0]?=some b:=by
 have h:=X4 (k:=k) (T:=T) (b:=b) i (oC i);obtain⟨t,e⟩:=h;rw[←e];exact⟨by show 0<([b]++t).length;simp,rfl⟩
theorem Rc{k:ZD}{P:ZF}(hb:P b)(ht:∀x,P x→∀y∈T x,P y)(hk:∀x,P x→k x<n)(i:Nat):(Zl k T b i).length≤n:=by
 have:=Oh n _ (Vp (k:=k) (T:=T) (b:=b) i) λx hx=>by
  obtain⟨y,hy,e⟩:=rY.mp hx;rw[←e];exact hk y (Ws hb ht i y hy)
 rwa[rC]at this
theorem U3{k:ZD}(hj:(Zl k T b n)[j]?=some x)(hn:j<n)(hy:y∈T x):k y∈(Zl k T b n).map k:=by
 have p1:=X4 (k:=k) (T:=T) (b:=b) (i:=j) n (by lia);have p2:=X4 (k:=k) (T:=T) (b:=b) (i:=j+1) n hn
 rcases oE j (Zl k T b j).length with z|z
 ·have e:(Zl k T b j)[j]?=some x:=by
   obtain⟨t,e⟩:=p1;rw[←e,pM z]at hj;exact hj
  refine(List.IsPrefix.map k p2).subset ?_;rw[Wf e];exact E4 _ _ y hy
 ·have:=Xm z n (by lia);rw[this,oO z]at hj;cases hj
def Xd(k:ZD)(T:ZJ)(o:List Nat):List aE:=o.map λx=>(T x).map λt=>(o.map k).idxOf (k t)
def Vi(o:List Nat)(e:Nat→Bool):List Nat:=(List.range o.length).filter λi=>e (o.getD i 0)
theorem Pw.rows(kr:KR R k1 k2){T1 T2:ZJ}(ht:∀x y,R x y→Pw R (T1 x) (T2 y)){p:List Nat}(h:Pw R o p):Xd k1 T1 o=Xd k2 T2 p:=by
 have inner:∀{t u:List Nat},Pw R t u→(t.map λx=>(o.map k1).idxOf (k1 x))=u.map λx=>(p.map k2).idxOf (k2 x):=by
  intro t u hu
  induction hu with
  |nil=>rfl
  |cons q _ ih=>rw[rW,rW,ih,h.idx kr q]
 have outer:∀{o' p':List Nat},Pw R o' p'→(o'.map λx=>(T1 x).map λt=>(o.map k1).idxOf (k1 t))=p'.map λx=>(T2 x).map λt=>(p.map k2).idxOf (k2 t):=by
  intro o' p' hu
  induction hu with
  |nil=>rfl
  |cons q _ ih=>rw[rW,rW,ih,inner (ht _ _ q)]
 exact outer h
theorem Pw.ends{p:List Nat}(h:Pw R o p){e1 e2:Nat→Bool}(he:∀x y,R x y→e1 x=e2 y):Vi o e1=Vi p e2:=by
 unfold Vi;rw[h.len];refine List.filter_congr λi hi=>?_;have n8:=pU.mp hi;have hi2:i<o.length:=by rw[h.len];exact n8
 obtain⟨y,hy,r⟩:=h.get (rD hi2);rw[rK,rD hi2,rK,hy];exact he _ _ r
inductive Lw:List Nat→List Nat→Prop where
 |hd {a b:Nat}{x y:List Nat} (h:a<b):Lw (a :: x) (b :: y)
 |tl {a:Nat}{x y:List Nat} (h:Lw x y):Lw (a :: x) (a :: y)
theorem Lw.app{x y:List Nat}(h:Lw x y)(z z':List Nat):Lw (x++z) (y++z'):=by
 induction h with
 |hd h=>exact .hd h
 |tl _ ih=>exact .tl ih
theorem Lw.snoc{c d:Nat}(h:c<d):∀x:List Nat,Lw (x++[c]) (x++[d])
 |[]=>.hd h
 |_ :: x=>.tl (Lw.snoc h x)
theorem Lw.trans:∀{x y z:List Nat},Lw x y→Lw y z→Lw x z
 |_,_,_,.hd h,.hd k=>.hd (dM h k)
 |_,_,_,.hd h,.tl _=>.hd h
 |_,_,_,.tl _,.hd k=>.hd k
 |_,_,_,.tl h,.tl k=>.tl (h.trans k)
def Sw(u v:List Nat):Prop:=u.length<v.length∨(u.length=v.length∧Lw u v)
def Sl(u v:List Nat):Prop:=u=v∨Sw u v
theorem Sw.trans{x y z:List Nat}(h:Sw x y)(k:Sw y z):Sw x z:=by
 rcases h with h|⟨h1,h2⟩<;>rcases k with k|⟨k1,k2⟩
 ·exact .inl (dM h k)
 ·exact .inl (by lia)
 ·exact .inl (by lia)
 ·exact .inr ⟨h1.trans k1,h2.trans k2⟩
theorem Sw.snoc{u v:List Nat}(h:Sw u v)(c d:Nat):Sw (u++[c]) (v++[d]):=by
 rcases h with h|⟨h1,h2⟩
 ·exact .inl (by simp only[rS,oW];lia)
 ·exact .inr ⟨by simp only[rS,oW];lia,h2.app _ _⟩
theorem Sw.last{d:Nat}(h:c<d)(u:List Nat):Sw (u++[c]) (u++[d]):=.inr ⟨by simp only[rS,oW],Lw.snoc h u⟩
theorem Sw.nil(u:List Nat)(c:Nat):Sw [] (u++[c]):=.inl (by simp only[rS,oW,fK];lia)
theorem Sw.more(u:List Nat)(c:Nat):Sw u (u++[c]):=.inl (by simp only[rS,oW];lia)
theorem Sl.trans{x y z:List Nat}(h:Sl x y)(k:Sl y z):Sl x z:=by
 rcases h with rfl|h
 ·exact k
 ·rcases k with rfl|k
  ·exact .inr h
  ·exact .inr (h.trans k)
structure BI(L:List Nat)(g:aQ)(b i m:Nat)(O:List Nat)(T:aB):Prop where
 len:T.length=O.length
 zero:O[0]?=some b∧T[0]?=some []
 way:∀(j:Nat) x t,O[j]?=some x→T[j]?=some t→t.foldl g b=x∧(∀c∈t,c∈L)∧t.length≤j
 inc:∀(j k:Nat) t u,j<k→T[j]?=some t→T[k]?=some u→Sw t u
 par:∀(j:Nat) t,T[j]?=some t→t=[]∨∃(j':Nat) (t':List Nat) (n c:Nat),T[j']?=some t'∧L[n]?=some c∧t=t'++[c]∧(j'<i∨(j'=i∧n<m))
 done:∀(j:Nat) x t (n:Nat) c,O[j]?=some x→T[j]?=some t→L[n]?=some c→(j<i∨(j=i∧n<m))→∃(k:Nat) (u:List Nat),O[k]?=some (g x c)∧T[k]?=some u∧Sl u (t++[c])
def Zil(L:List Nat):Prop:=∀(n n':Nat) c c',n<n'→L[n]?=some c→L[n']?=some c'→c<c'
theorem BI.start:BI L g b 0 0 [b] [[]]:=by
 have one:∀{α:Type}{a x:α}{j:Nat},[a][j]?=some x→j=0∧x=a:=λ{α a x j} h=>by
  cases j with
  |zero=>exact⟨rfl,(Option.some.inj h).symm⟩
  |succ j=>simp at h
 refine⟨rfl,⟨rfl,rfl⟩,λj x t h1 h2=>?_,λj k t u hk h1 h2=>?_,λj t h=>?_,λj x t n c h1 h2 h3 h4=>?_⟩
 ·obtain⟨rfl,rfl⟩:=one h1;obtain⟨_,rfl⟩:=one h2;exact⟨rfl,λc hc=>(fB hc).elim,rG _⟩
 ·obtain⟨rfl,_⟩:=one h1;obtain⟨rfl,_⟩:=one h2;lia
 ·exact .inl (one h).2
 ·lia
section
variable {L:List Nat}{g:aQ}{b i m:Nat}{O:List Nat}{T:aB}
theorem BI.at(B:BI L g b i m O T)(h:O[j]?=some x):∃t,T[j]?=some t:=
 ⟨_,rD (by rw[B.len];exact(rH.mp h).1)⟩
theorem BI.ahead(B:BI L g b i m O T)(hL:Zil L){t:List Nat}(ht:T[i]?=some t)(hc:L[m]?=some c):∀(j:Nat) u,T[j]?=some u→Sw u (t++[c]):=λj u h=>by
 rcases B.par j u h with rfl|⟨j',t',n,d,h1,h2,rfl,h3|⟨rfl,h3⟩⟩
 ·exact Sw.nil t c
 ·exact(B.inc j' i t' t h3 h1 ht).snoc d c
 ·rw[ht]at h1;cases h1;exact Sw.last (hL n m d c h3 h2 hc) t
theorem BI.old(B:BI L g b i m O T)(hL:Zil L){t:List Nat}(hy:O[i]?=some y)(ht:T[i]?=some t)(hc:L[m]?=some c)(x9:g y c∈O):BI L g b i (m+1) O T:=by
 refine⟨B.len,B.zero,B.way,B.inc,λj u h=>?_,λj x u n d h1 h2 h3 h4=>?_⟩
 ·rcases B.par j u h with z|⟨j',t',n,d,h1,h2,h3,h4⟩
  ·exact .inl z
  ·exact .inr ⟨j',t',n,d,h1,h2,h3,h4.imp id λz=>⟨z.1,by lia⟩⟩
 ·by_cases z:j<i∨(j=i∧n<m)
  ·exact B.done j x u n d h1 h2 h3 z
  ·obtain⟨rfl,hn⟩:j=i∧n=m:=by lia
   subst hn;rw[hy]at h1;rw[ht]at h2;rw[hc]at h3;cases h1;cases h2;cases h3;obtain⟨k,hk,e⟩:=pL.mp x9;have e':O[k]?=some (g y c):=by rw[rD hk,e]
   obtain⟨u,hu⟩:=B.at e';exact⟨k,u,e',hu,.inr (B.ahead hL ht hc k u hu)⟩
theorem BI.new(B:BI L g b i m O T)(hL:Zil L){t:List Nat}(hy:O[i]?=some y)(ht:T[i]?=some t)(hc:L[m]?=some c):BI L g b i (m+1) (O++[g y c]) (T++[t++[c]]):=by
 have t5:=(rH.mp hy).1
 have back:∀{α:Type}{l:List α}{a x:α}{j:Nat},(l++[a])[j]?=some x→l[j]?=some x∨(j=l.length∧x=a):=λ{α l a x j} h=>by
  rcases oE j l.length with z|z
  ·rw[pM z]at h;exact .inl h
  ·rw[pT z]at h
   have:j-l.length=0:=by
    rcases fH (j-l.length) with q|q
    ·exact q
    ·rw[oO (by simp only[oW];lia)]at h;cases h
   rw[this]at h;exact .inr ⟨by lia,(Option.some.inj h).symm⟩
 have Ih:∀{α:Type}{l:List α}{a x:α}{j:Nat},l[j]?=some x→(l++[a])[j]?=some x:=λ{α l a x j} h=>by
  rw[pM (rH.mp h).1];exact h
 have Zjw:∀{α:Type} (l:List α) (a:α),(l++[a])[l.length]?=some a:=λl a=>by rw[pT (rG _),Nat.sub_self];rfl
 refine⟨by rw[rS,rS,B.len];rfl,⟨Ih B.zero.1,Ih B.zero.2⟩,λj x u h1 h2=>?_,λj k u v hk h1 h2=>?_,λj u h=>?_,λj x u n d h1 h2 h3 h4=>?_⟩
 ·rcases back h1 with z1|⟨z1,rfl⟩
  ·rcases back h2 with z2|⟨z2,_⟩
   ·exact B.way j x u z1 z2
   ·have:=(rH.mp z1).1;rw[B.len]at z2;lia
  ·rcases back h2 with z2|⟨_,rfl⟩
   ·have:=(rH.mp z2).1;rw[B.len]at this;lia
   ·obtain⟨a1,a2,a3⟩:=B.way i y t hy ht;refine⟨by rw[iX,a1];rfl,λd hd=>?_,by simp only[rS,oW];lia⟩
    rcases oB.mp hd with q|q
    ·exact a2 d q
    ·rw[rL.mp q];exact rN hc
 ·rcases back h2 with z2|⟨z2,rfl⟩
  ·rcases back h1 with z1|⟨z1,_⟩
   ·exact B.inc j k u v hk z1 z2
   ·have:=(rH.mp z2).1;lia
  ·rcases back h1 with z1|⟨z1,_⟩
   ·exact B.ahead hL ht hc j u z1
   ·lia
 ·rcases back h with z|⟨_,rfl⟩
  ·rcases B.par j u z with q|⟨j',t',n,d,h1,h2,h3,h4⟩
   ·exact .inl q
   ·exact .inr ⟨j',t',n,d,Ih h1,h2,h3,h4.imp id λz=>⟨z.1,by lia⟩⟩
  ·exact .inr ⟨i,t,m,c,Ih ht,hc,rfl,.inr ⟨rfl,iD _⟩⟩
 ·have hj:j<O.length:=by lia
  rcases back h1 with z1|⟨z1,_⟩
  ·rcases back h2 with z2|⟨z2,_⟩
   ·by_cases z:j<i∨(j=i∧n<m)
    ·obtain⟨k,v,e1,e2,e3⟩:=B.done j x u n d z1 z2 h3 z;exact⟨k,v,Ih e1,Ih e2,e3⟩
    ·obtain⟨rfl,hn⟩:j=i∧n=m:=by lia
     subst hn;rw[hy]at z1;rw[ht]at z2;rw[hc]at h3;cases z1;cases z2;cases h3;exact⟨O.length,t++[c],Zjw _ _,by rw[←B.len];exact Zjw _ _,.inl rfl⟩
   ·rw[B.len]at z2;lia
  ·lia
theorem BI.next(B:BI L g b i m O T)(hm:L.length≤m):BI L g b (i+1) 0 O T:=by
 refine⟨B.len,B.zero,B.way,B.inc,λj u h=>?_,λj x u n d h1 h2 h3 h4=>?_⟩
 ·rcases B.par j u h with z|⟨j',t',n,d,h1,h2,h3,h4⟩
  ·exact .inl z
  ·exact .inr ⟨j',t',n,d,h1,h2,h3,.inl (by lia)⟩
 ·have:=(rH.mp h3).1;exact B.done j x u n d h1 h2 h3 (by lia)
theorem BI.reach(B:BI L g b i 0 O T):∀(n:Nat) (w:List Nat),w.length=n→(∀c∈w,c∈L)→(∃(k:Nat) (u:List Nat),O[k]?=some (w.foldl g b)∧T[k]?=some u∧Sl u w)∨∃t,T[i]?=some t∧Sl t w
 | 0,w,hw,_=>by
  rw[lF hw];exact .inl ⟨0,[],B.zero.1,B.zero.2,.inl rfl⟩
 |n+1,w,hw,hc=>by
  rcases List.eq_nil_or_concat w with rfl|⟨v,c,rfl⟩
  ·simp at hw
  ·rw[List.concat_eq_append]at hw hc ⊢;simp only[rS,oW]at hw
   rcases B.reach n v (by lia) λd hd=>hc d (lV _ hd) with ⟨k,u,h1,h2,h3⟩|⟨t,h1,h2⟩
   ·by_cases hk:k<i
    ·obtain⟨m,hm,e⟩:=pL.mp (hc c (pV _ rM));obtain⟨k',u',e1,e2,e3⟩:=B.done k _ u m c h1 h2 (by rw[rD hm,e]) (.inl hk);refine .inl ⟨k',u',by rw[iX];exact e1,e2,e3.trans ?_⟩
     rcases h3 with rfl|h3
     ·exact .inl rfl
     ·exact .inr (h3.snoc c c)
    ·have hkl:=(rH.mp h2).1;have qA:T[i]?=some (T[i]'(by lia)):=rD (by lia);refine .inr ⟨_,qA,?_⟩
     have q:Sl (T[i]'(by lia)) u:=by
      by_cases z:i=k
      ·subst z;rw[qA]at h2;exact .inl (Option.some.inj h2)
      ·exact .inr (B.inc i k _ _ (by lia) qA h2)
     exact(q.trans h3).trans (.inr (Sw.more v c))
   ·exact .inr ⟨t,h1,h2.trans (.inr (Sw.more v c))⟩
theorem BI.never(B:BI L g b i 0 O T){p:ZF}(hl:O.length≤i)(hn:∀x∈O,¬ p x)(w:List Nat)(hw:∀c∈w,c∈L):¬ p (w.foldl g b):=by
 rcases B.reach _ w rfl hw with ⟨k,u,h1,_⟩|⟨u,h1,_⟩
 ·exact hn _ (rN h1)
 ·have:=(rH.mp h1).1;rw[B.len]at this;lia
end
inductive Ziw(f:Addr)(fd:FuncData)(l:Str)(g:aQ)(pl:ZF)(G:YV)(vs:List V)(H:Hp)(Q:VK):Prop
 |mk(x c:_)(h1:vs=[nI x,.str (one c)])(h2:pl x)(h3:c∈l.cps.toList)(h4:H f=some (FnO f fd))(h5:G H)(h6:∀H',Zm H H'→Q (nI (g x c)) H'):Ziw f fd l g pl G vs H Q
def Zm5(f:Addr)(fd:FuncData)(l:Str)(g:aQ)(pl:ZF)(G:YV):Sp:=λvs H Q _=>Ziw f fd l g pl G vs H Q
def TL(l:Str)(g:aQ)(x:Nat):List Nat:=l.cps.toList.map (g x)
def kI(x:Nat):Key:=Sum.inl ((x:Nat):Int)
theorem Ts(h:kI x=kI y):x=y:=by
 have:((x:Nat):Int)=y:=Sum.inl.inj h;lia
def Wy(l:Str)(g:aQ)(b:Nat)(k:Key)(z:Str):Prop:=(∀c∈z.cps.toList,c∈l.cps.toList)∧k=kI (z.cps.toList.foldl g b)∧(k=kI b→z.cps.toList=[])
def TxD(l:Str)(g:aQ)(b:Nat)(H:Hp)(d:Addr)(o:List Nat)(n:Nat):Prop:=∃kvs:List (Key×V),H d=some (.dK kvs)∧kvs.map (·.1)=o.map kI∧∀p∈kvs,∃z:Str,p.2=.str z∧z.length≤n∧Wy l g b p.1 z
theorem Ms:∀{kvs:List (Key×V)}{o:List Nat}{x:Nat},kvs.map (·.1)=o.map kI→x∉o→Xj kvs (kI x)=none
 |[],_,_,_,_=>rfl
 |_ :: _,[],_,h,_=>nomatch h
 |p :: kvs,a :: o,x,h,hx=>by
  rw[rW,rW,List.cons.injEq]at h;rw[Y2 (λz=>hx (by rw[Ts (h.1.symm.trans z)];exact rM))];exact Ms h.2 λz=>hx (rP _ z)
theorem Rj:∀{kvs:List (Key×V)}{o:List Nat}{x:Nat},kvs.map (·.1)=o.map kI→x∈o→∃p∈kvs,Xj kvs (kI x)=some p.2∧p.1=kI x
 |[],[],_,_,hx=>nomatch hx
 |[],_ :: _,_,h,_=>nomatch h
 |_ :: _,[],_,h,_=>nomatch h
 |p :: kvs,a :: o,x,h,hx=>by
  rw[rW,rW,List.cons.injEq]at h
  by_cases c:a=x
  ·exact⟨p,rM,Xi (by rw[h.1,c]),by rw[h.1,c]⟩
  ·rw[Y2 (λz=>c (Ts (h.1.symm.trans z)))];obtain⟨q,hq,e⟩:=Rj h.2 ((rT.mp hx).resolve_left λz=>c z.symm);exact⟨q,rP _ hq,e⟩
theorem Zgu(z:Str)(c:Nat):(z++(⟨#[c]⟩:Str)).length=z.length+1:=by
 show (z.cps ++ #[c]).size=z.cps.size+1;simp
theorem Zas(o:List Nat)(x:Nat):Xo id o x=if x∈o then o else o++[x]:=by
 unfold Xo;rw[lH];rfl
theorem TxD.same{l:Str}(h:TxD l g b H d o n)(e:Zm H H'):TxD l g b H' d o n:=let ⟨kvs,a,b⟩:=h;⟨kvs,e _ _ a,b⟩
inductive Ziu(P:Program)(w:World)(K:W.Frag)(mg:aG)(base:Heap)(n:Nat)(vs:List V)(H:Hp)(Q:VK):Prop
 |mk(f:Addr)(fd:FuncData)(ps:List Str)(l:Str)(b:Nat)(g:aQ)(pl:ZF)(G:YV)(h1:Yc P w K mg base CX0 n f fd ps (Zm5 f fd l g pl G))(h2:Binds K fd ps [])(h3:(∀H1 H2,Zm H1 H2→G H1→G H2))(h4:vs=[.str l,nI b,.ref f])(h5:pl b)(h6:(∀x,pl x→x<216∧∀c∈l.cps.toList,pl (g x c)))(h7:H f=some (FnO f fd))(h8:G H)(h9:∀d H' N,H d=none→Zm H H'→TxD l g b H' d (Zl id (TL l g) b N) 300→(Zl id (TL l g) b N).length≤N→Q (.ref d) H'):Ziu P w K mg base n vs H Q
def Zgv(P:Program)(w:World)(K:W.Frag)(mg:aG)(base:Heap)(n:Nat):Sp:=λvs H Q _=>Ziu P w K mg base n vs H Q
def woW(l:Str)(fv d:Addr)(g:aQ)(b:Nat)(H:Hp)(mm:Nat)(σ:L2.St)(H5:Hp):Prop:=∃(i:Nat) (lv:Addr) (v5 v6 v7 v8:Option V),mm=217-i∧i≤(Zl id (TL l g) b i).length∧σ=[some (.str l),some (nI b),some (.ref fv),some (.ref d),some (.ref lv),v5,v6,v7,v8]∧H lv=none∧H5 lv=some (.lst (((Zl id (TL l g) b i).drop i).map nI))∧TxD l g b H5 d (Zl id (TL l g) b i) (Zl id (TL l g) b i).length∧Zm H H5
def woL(l:Str)(fv d:Addr)(g:aQ)(b:Nat)(H:Hp)(lv rp:Addr)(i:Nat)(L:List Nat)(j:Nat)(σ:L2.St)(H7:Hp):Prop:=∃(v6 v7 v8:Option V),σ=[some (.str l),some (nI b),some (.ref fv),some (.ref d),some (.ref lv),some (.ref rp),v6,v7,v8]∧H7 lv=some (.lst ((L.drop i).map nI))∧H7 rp=some (.lst (((Zl id (TL l g) b (i+j)).drop L.length).map nI))∧TxD l g b H7 d (Zl id (TL l g) b (i+j)) (Zl id (TL l g) b (i+j)).length∧Zm H H7
theorem Zbb(F:Fun K "walked" "walked" P0 f fd)(Z:Blt mg):Yc P w K mg base CX0 (n+1) f fd ZM (Zgv P w K mg base n):=by
 refine F.ok Yk (λvs H Q E h=>?_) (λcdv A outer s H vs Q E hr h=>?_)
 ·obtain⟨f,fd,ps,l,b,g,pl,G,_,_,_,rfl,_⟩:=h;rfl
 obtain⟨fv,wK,ps,l,b,g,pl,G,Qg,Qd,hG,rfl,hb,y1,hf,sW,k⟩:=h
 refine⟨_,(Ze (Zn (i:=3) Yk.nd (by rfl) (Or.inl (by rfl)) (Zhe (Ea (pv 1) Wr Ap) (by rfl) (by rfl) (by intro h;cases h) (by show 1≤15;decide))) 
   (Ze (Zn (i:=4) Yk.nd (by rfl) (Or.inl (by rfl)) (Zx (Za (pv 1) Zb))) 
   (Ze (Oa pP (Yn (K:=K) (pv 4) (λ_=>rfl)) 
    (Ze (Zn (i:=5) Yk.nd (by rfl) (Or.inl (by rfl)) (Zx Zb)) 
    (Ze (Y5 pP (by rfl) (U1 (K:=K) (pv 4)) (Zo (i:=6) Yk.nd (by rfl) (Or.inl (by rfl))) 
     (Zg (Y5 pP (by rfl) (Up (pv 0)) (Zo (i:=7) Yk.nd (by rfl) (Or.inl (by rfl))) 
      (Ze (Zn (i:=8) Yk.nd (by rfl) (Or.inl (by rfl)) (Oc (i:=2) Qg (hr.mono (by lia)) Qd (Za (pv 6) (Za (pv 7) Zb)))) 
      (Zg (Ys (Zd2 (J5 (Wv hr) (pv 8) (pv 3))) 
       (Ze (Hs (Wv hr) (pv 3) (pv 8) (Z3 Xx (To (Wv hr) (pv 3) (pv 6) (λ_ _=>rfl)) (pv 7)) rfl) 
       (Zg (W8 (Wd (K:=K) oF lK lL Wg (pv 5) (Za (pv 8) Zb))))) Z1)))))) 
    (Zg (Zn (i:=4) Yk.nd (by rfl) (Or.inl (by rfl)) (pv 5)))))) 
   (Zg (Zq (pv 3)))))),?_⟩
 refine(let x6:TS:=_;let x8:TS:=_;let y6:TS:=_;let g0:TS:=Zs _ y6;let w6:TS:=(K2 _ g0 _);let p9:TS:=Zs _ w6;let d0:TS:=(O7 _ _ p9);let c0:TS:=Zs (O7 _ _ d0) x8;let l5:TS:=Zs _ c0;let xY:TS:=Zs (Le _ l5) x6;let Zce:TS:=Zs _ xY;(?_:Zs _ Zce _ _ _))
 have hT:∀x,pl x→∀y∈TL l g x,pl y:=λx hx y hy=>by
  obtain⟨c,hc,e⟩:=rY.mp hy;rw[←e];exact(y1 x hx).2 c hc
 have oL:∀i,(Zl id (TL l g) b i).length≤216:=λi=>Rc hb hT (λx hx=>(y1 x hx).1) i;have oP:∀i,∀y∈Zl id (TL l g) b i,pl y:=λi=>Ws hb hT i;refine λd hd=>⟨_,rfl,Zc,[(kI b,.str "")],rfl,by show 1≤15;decide,?_⟩;have c7:upd (upd H d (.dK [])) d (.dK (Vk [] [(kI b,V.str "")])) d=some (.dK [(kI b,V.str "")]):=Zc;have e1:Zm H (upd (upd H d (.dK [])) d (.dK (Vk [] [(kI b,V.str "")]))):=Yi (Zd hd _) hd _;generalize upd (upd H d (.dK [])) d (.dK (Vk [] [(kI b,V.str "")]))=H1 at c7 e1;refine⟨_,rfl,(by show 1≤sizeLine;decide),λlv yF=>?_⟩;generalize eZ:upd H1 lv _=H2;have s2:=nS7 eZ yF;have xC:=nU7 eZ
 refine⟨woW l fv d g b H,
  ⟨_,0,lv,none,none,none,none,rfl,oC _,rfl,none_of e1 yF,xC,⟨_,s2 _ _ c7,rfl,λp hp=>?_⟩,e1.trans s2⟩,?_⟩
 ·rw[rL.mp hp];have e0:("" : Str).cps.toList=[]:=by decide +kernel
  exact⟨_,rfl,oC _,λc hc=>(by rw[e0]at hc;cases hc),(by rw[e0];rfl),λ_=>e0⟩
 clear eZ xC s2 yF lv c7 e1;rintro mm σ H5 ⟨i,lv,v5,v6,v7,v8,rfl,hi,rfl,jK,z6,T5,e5⟩;have hD:∀{H:Hp}{a:Addr}{xs:List V}{o:List Nat}{n:Nat},H a=some (.lst xs)→TxD l g b H d o n→a≠d:=λha ⟨_,hk,_⟩=>Xr ha hk λz=>nomatch z;generalize hL:Zl id (TL l g) b i=L at hi z6 T5;have zE:=oL i;rw[hL]at zE;refine⟨_,rfl,_,.inl ⟨_,SqL.of z6,rfl⟩,?_⟩;refine Ur (λc1=>?_) (λc1=>?_)
 ·have x5:i<L.length:=by
   rcases oE i L.length with z|z
   ·exact z
   ·rw[cO z]at c1;cases c1
  refine⟨λx4 H'=>∃m',m'<217-i∧_,λ_ _ z=>z,?_⟩;refine⟨(by show 0≤sizeLine;decide),λrp z9=>?_⟩;generalize eZ:upd H5 rp _=H6;have s6:=nS7 eZ z9;have sB:=nU7 eZ;have Gm:=none_of e5 z9;have eV:lv≠rp:=Zi z6 z9;refine⟨_,rfl,lv,rfl,⟨_,SqL.of (s6 _ _ z6)⟩,?_⟩
  refine Rl (K:=K) (a:=lv) (xs:=(L.drop i).map nI) (woL l fv d g b H lv rp i L)
   ⟨v6,v7,v8,rfl,s6 _ _ z6,by rw[sB,cH,hL,List.drop_length];rfl,by rw[cH,hL];exact T5.same s6,e5.trans s6⟩ (λj σ H7 _ h=>?_) ?_ ?_
  ·obtain⟨_,_,_,_,h7,_⟩:=h;exact SqL.of h7
  ·rintro j x σ H7 hx ⟨v6,v7,v8,rfl,hZ,z7,T7,e7⟩;rw[rJ,List.getElem?_drop]at hx
   cases i5:L[i+j]? with
   |none=>rw[i5]at hx;cases hx
   |some y=>
    rw[i5]at hx;cases hx
    have eR:(Zl id (TL l g) b (i+j))[i+j]?=some y:=by
     obtain⟨t,e⟩:=X4 (k:=id) (T:=TL l g) (b:=b) (i:=i) (i+j) (by lia);rw[←e,hL,pM (rH.mp i5).1];exact i5
    have Gr:L.length≤(Zl id (TL l g) b (i+j)).length:=by
     rw[←hL];exact(X4 (k:=id) (T:=TL l g) (b:=b) (i:=i) (i+j) (by lia)).length_le
    have Ez:=Wf eR;have C5:=oP (i+j) y (rN eR);have j7:=Vp (k:=id) (T:=TL l g) (b:=b) (i+j);generalize hO:Zl id (TL l g) b (i+j)=O at eR Gr Ez j7 z7 T7;have Np:∀z∈O,pl z:=by rw[←hO];exact oP (i+j)
    have hbO:b∈O:=by rw[←hO];exact rN (Od _).2
    refine⟨_,rfl,l,rfl,?_⟩
    refine Mu (cs:=l.cps.toList) (λm σ H8=>∃(v7 v8:Option V),σ=[some (.str l),some (nI b),some (.ref fv),some (.ref d),some (.ref lv),some (.ref rp),some (nI y),v7,v8]∧H8 lv=some (.lst ((L.drop i).map nI))∧H8 rp=some (.lst (((((TL l g y).take m).foldl (Xo id) O).drop L.length).map nI))∧TxD l g b H8 d (((TL l g y).take m).foldl (Xo id) O) (((TL l g y).take m).foldl (Xo id) O).length∧Zm H H8)
     ⟨v7,v8,rfl,hZ,z7,T7,e7⟩ ?_ ?_
    ·rintro m c σ H8 hc ⟨v7,v8,rfl,p3,xD,T8,e8⟩;have m6:c∈l.cps.toList:=rN hc;have zM:(TL l g y)[m]?=some (g y c):=by unfold TL;rw[rJ,hc];rfl
     have sG:((TL l g y).take (m+1)).foldl (Xo id) O=Xo id (((TL l g y).take m).foldl (Xo id) O) (g y c):=by
      rw[oK,zM,iX];rfl
     have Nl:=Rn (k:=id) ((TL l g y).take m) O;have Zbo:=Mv (k:=id) ((TL l g y).take m) O j7;have E3:=fold_all (k:=id) (P:=pl) ((TL l g y).take m) O Np λz hz=>hT y C5 z (fR hz);have hb8:b∈((TL l g y).take m).foldl (Xo id) O:=Nl.subset hbO;have eM:y∈((TL l g y).take m).foldl (Xo id) O:=Nl.subset (rN eR);have kQ:L.length≤(((TL l g y).take m).foldl (Xo id) O).length:=pQ Gr Nl.length_le;rw[sG];generalize ((TL l g y).take m).foldl (Xo id) O=O8 at xD T8 Nl Zbo E3 eM hb8 kQ
     have hO8:O8.length≤216:=by
      have:=Oh 216 _ Zbo λz hz=>by
       rw[lH]at hz;exact(y1 z (E3 z hz)).1
      rwa[rC]at this
     refine⟨rfl,e8 _ _ hf,_,rfl,_,rfl,e8 _ _ hf,y,c,rfl,C5,m6,e8 _ _ hf,hG _ _ e8 sW,λH9 e9=>?_⟩;have T9:=T8.same e9;have p4:=e9 _ _ p3;have p5:=e9 _ _ xD;have kA:=e8.trans e9;obtain⟨kvs,b7,hk,hv⟩:=T9
     have hkl:kvs.length=O8.length:=by
      have:=congrArg List.length hk;rwa[rC,rC]at this
     refine⟨_,rfl,_,rfl,d,_,rfl,V9.k (k:=kI (g y c)) b7,_,rfl,?_⟩;rw[Zas]
     by_cases x9:g y c∈O8
     ·obtain⟨p,_,hp,_⟩:=Rj hk x9;rw[hp,if_pos x9];refine ifN rfl ⟨_,_,rfl,p4,p5,⟨kvs,b7,hk,hv⟩,kA⟩
     ·have g9:=Ms hk x9;rw[g9,if_neg x9];obtain⟨p,hpk,hp,hpe⟩:=Rj hk eM;obtain⟨z,hz,xU,hzw⟩:=hv p hpk;rw[hz]at hp;refine ifY rfl ⟨_,rfl,_,rfl,d,_,rfl,hp▸V9.k (k:=kI y) b7,_,rfl,z,_,rfl,rfl,(by show z.length+1≤sizeLine;rw[sizeLine_eq];lia),_,rfl,_,rfl,d,_,rfl,Fb.k (k:=kI (g y c)) b7 (by rw[sizeLine_eq];lia),?_⟩;rw[Lr _ g9];have gR:=hD p5 ⟨kvs,b7,hk,hv⟩;have qY:=hD p4 ⟨kvs,b7,hk,hv⟩;have Pf:=(Zk (H:=H9) (o:=.dK (kvs++[(kI (g y c),V.str (z++⟨#[c]⟩))])) gR).trans p5;have C8:=(Zk (H:=H9) (o:=.dK (kvs++[(kI (g y c),V.str (z++⟨#[c]⟩))])) qY).trans p4;have Zfm:upd H9 d (.dK (kvs++[(kI (g y c),V.str (z++⟨#[c]⟩))])) d=_:=Zc;have m8:=Yi kA hd (.dK (kvs++[(kI (g y c),V.str (z++⟨#[c]⟩))]));generalize upd H9 d _=n4 at Pf C8 Zfm m8;refine⟨_,rfl,.inl ⟨rfl,_,SqL.of Pf⟩,_,rfl,rp,_,_,rfl,rfl,Pf,(by rw[rC,oY,sizeLine_eq];lia),?_⟩;refine⟨_,_,rfl,(Zk eV).trans C8,?_,⟨kvs++[(kI (g y c),V.str (z++⟨#[c]⟩))],(Zk gR.symm).trans Zfm,?_,?_⟩,Yi m8 Gm _⟩
      ·rw[List.drop_append_of_le_length kQ,pS];exact Zc
      ·rw[pS,pS,hk];rfl
      ·intro q hq
       rcases oB.mp hq with a|a
       ·obtain⟨z',h1,h2,h3⟩:=hv q a;exact⟨z',h1,by rw[rS];lia,h3⟩
       ·rw[rL.mp a]
        have ea:(z++(⟨#[c]⟩:Str)).cps.toList=z.cps.toList++[c]:=by
         show (z.cps ++ #[c]).toList=_;rw[fX]
        refine⟨_,rfl,?_,λd hd=>?_,?_,λe=>absurd (Ts e) λe=>x9 (e▸hb8)⟩
        ·rw[rS];show (z++⟨#[c]⟩).length≤O8.length+1;have:(z++⟨#[c]⟩).length=z.length+1:=Zgu z c;lia
        ·rw[ea]at hd
         rcases oB.mp hd with q|q
         ·exact hzw.1 d q
         ·rw[rL.mp q];exact m6
        ·rw[ea,iX,←Ts (hpe.symm.trans hzw.2.1)];rfl
    ·rintro σ H8 ⟨v7,v8,rfl,p3,xD,T8,e8⟩;rw[iM (by unfold TL;rw[rC];exact rG _),←Ez]at xD T8;exact⟨_,_,_,rfl,p3,xD,T8,e8⟩
  ·rintro σ H7 ⟨v6,v7,v8,rfl,hZ,z7,T7,e7⟩;have mG:i+((L.drop i).map nI).length=L.length:=by rw[rC,oY];lia
   rw[mG]at z7 T7
   have Gr:L.length≤(Zl id (TL l g) b L.length).length:=by
    rw[←hL];exact(X4 (k:=id) (T:=TL l g) (b:=b) (i:=i) (Zl id (TL l g) b i).length (by rw[hL];lia)).length_le
   exact⟨_,rfl,217-L.length,by lia,L.length,rp,_,_,_,_,rfl,Gr,rfl,Gm,z7,T7,e7⟩
 ·have j8:L.length≤i:=by
   rcases oE i L.length with z|z
   ·refine absurd ?_ c1
    cases zZ:L.drop i with
    |nil=>
     have:=congrArg List.length zZ;rw[oY]at this;have h0:([]:List Nat).length=0:=rfl;lia
    |cons=>rfl
   ·exact z
  obtain⟨kvs,h5d,hk,hv⟩:=T5;refine⟨_,rfl,k d H5 i hd e5 ⟨kvs,h5d,by rw[hL];exact hk,λp hp=>let ⟨z,a,b',c'⟩:=hv p hp;⟨z,a,by lia,c'⟩⟩ (by rw[hL];exact j8)⟩
def PlT(key:YU)(H:Hp)(xs:List V)(o:List Nat):Prop:=xs.length=o.length∧∀(i:Nat) x c,xs[i]?=some x→o[i]?=some c→∃a,x=.ref a∧H a=some (.tup ((key c).map kV))
theorem PlT.keep{key:YU}(h:PlT key H xs o)(k:Tk H H'):PlT key H' xs o:=⟨h.1,λi x c a b=>let ⟨d,e,q⟩:=h.2 i x c a b;⟨d,e,k _ _ q⟩⟩
theorem PlT.snoc{key:YU}{H:Hp}{xs:List V}{o:List Nat}(h:PlT key H xs o){a:Addr}{c:Nat}(ha:H a=some (.tup ((key c).map kV))):PlT key H (xs++[.ref a]) (o++[c]):=by
 refine⟨by rw[rS,rS,h.1];rfl,λi x r' q1 q2=>?_⟩
 by_cases z:i<xs.length
 ·rw[pM z]at q1;rw[pM (by rw[←h.1];exact z)]at q2;exact h.2 i x r' q1 q2
 ·rw[pT (by lia)]at q1;rw[pT (by rw[←h.1];lia),←h.1]at q2
  cases hi:i-xs.length with
  |zero=>
   rw[hi]at q1 q2;cases q1;cases q2;exact⟨a,rfl,ha⟩
  |succ n=>rw[hi]at q1;simp at q1
inductive Zcu(f:Addr)(fd:FuncData)(l:Str)(g:aQ)(key:YU)(pl:ZF)(G:YV)(vs:List V)(H:Hp)(Q:VK):Prop
 |mk(a x c:_)(h1:vs=[.ref a,.str (one c)])(h2:H a=some (.tup ((key x).map kV)))(h3:pl x)(h4:c∈l.cps.toList)(h5:H f=some (FnO f fd))(h6:G H)(h7:∀r H',Zm H H'→H' r=some (.tup ((key (g x c)).map kV))→Q (.ref r) H'):Zcu f fd l g key pl G vs H Q
def Zm4(f:Addr)(fd:FuncData)(l:Str)(g:aQ)(key:YU)(pl:ZF)(G:YV):Sp:=λvs H Q _=>Zcu f fd l g key pl G vs H Q
abbrev sOf(t:List Nat):Str:=⟨t.toArray⟩
theorem Zdg(t:List Nat)(c:Nat):sOf t++(⟨#[c]⟩:Str)=sOf (t++[c]):=by
 show (⟨t.toArray ++ #[c]⟩:Str)=⟨(t++[c]).toArray⟩;simp
def TxB(key:YU)(g:aQ)(b:Nat)(l:Str)(H:Hp)(d:Addr)(o:List Nat)(i m:Nat):Prop:=∃(kvs:YT) (T:aB),H d=some (.dT kvs)∧kvs.map (·.1)=o.map key∧kvs.map (·.2)=T.map (λt=>V.str (sOf t))∧BI l.cps.toList g b i m o T
theorem TxB.same{key:YU}{l:Str}{m:Nat}(h:TxB key g b l H d o i m)(e:Zm H H'):TxB key g b l H' d o i m:=let ⟨kvs,T,a,r⟩:=h;⟨kvs,T,e _ _ a,r⟩
theorem Au{α:Type}{kvs:List (α×V)}{T:aB}(h:kvs.map (·.2)=T.map λt=>V.str (sOf t)){k:α}(q:kvs[i]?=some (k,v)):∃t,T[i]?=some t∧v=.str (sOf t):=by
 have e:(kvs.map (·.2))[i]?=some v:=by rw[rJ,q];rfl
 rw[h,rJ]at e
 cases ht:T[i]? with
 |none=>rw[ht]at e;cases e
 |some t=>rw[ht]at e;exact⟨t,rfl,(Option.some.inj e).symm⟩
theorem Zju{O:List Nat}(nd:O.Nodup)(h1:O[i]?=some x)(h2:O[j]?=some x):i=j:=by
 obtain⟨a1,e1⟩:=rH.mp h1;obtain⟨a2,e2⟩:=rH.mp h2;have j1:=pN nd i a1;have j2:=pN nd j a2;rw[e1]at j1;rw[e2]at j2;lia
theorem Ex{key:YU}{pl:ZF}(inj:∀x y,pl x→pl y→key x=key y→x=y){x:Nat}(px:pl x):∀{kvs:YT}{o:List Nat},kvs.map (·.1)=o.map key→(∀y∈o,pl y)→x∉o→Xj kvs (key x)=none
 |[],_,_,_,_=>rfl
 |_ :: _,[],h,_,_=>nomatch h
 |p :: kvs,a :: o,h,ho,hx=>by
  rw[rW,rW,List.cons.injEq]at h;rw[Y2 (λz=>hx (by rw[inj x a px (ho a rM) (z.symm.trans h.1)];exact rM))];exact Ex inj px h.2 (λy hy=>ho y (rP _ hy)) λz=>hx (rP _ z)
theorem R1{key:YU}{pl:ZF}(inj:∀x y,pl x→pl y→key x=key y→x=y){x:Nat}(px:pl x):∀{kvs:YT}{o:List Nat},kvs.map (·.1)=o.map key→(∀y∈o,pl y)→x∈o→∃(i:Nat) (v:V),kvs[i]?=some (key x,v)∧o[i]?=some x∧Xj kvs (key x)=some v
 |[],[],_,_,hx=>nomatch hx
 |[],_ :: _,h,_,_=>nomatch h
 |_ :: _,[],h,_,_=>nomatch h
 |p :: kvs,a :: o,h,ho,hx=>by
  rw[rW,rW,List.cons.injEq]at h
  by_cases c:a=x
  ·subst c;refine⟨0,p.2,?_,rfl,Xi h.1⟩;rw[←h.1];rfl
  ·rw[Y2 (λz=>c (inj a x (ho a rM) px (h.1.symm.trans z)))];obtain⟨i,v,e1,e2,e3⟩:=R1 inj px h.2 (λy hy=>ho y (rP _ hy)) ((rT.mp hx).resolve_left λz=>c z.symm);exact⟨i+1,v,by simpa using e1,by simpa using e2,e3⟩
inductive Zcs(P:Program)(w:World)(K:W.Frag)(mg:aG)(base:Heap)(n:Nat)(vs:List V)(H:Hp)(Q:VK):Prop
 |mk(f:Addr)(fd:FuncData)(ps:List Str)(l:Str)(a0:Addr)(b:Nat)(g:aQ)(key:YU)(pl:ZF)(G:YV)(h1:Yc P w K mg base CX0 n f fd ps (Zm4 f fd l g key pl G))(h2:Binds K fd ps [])(h3:(∀H1 H2,Zm H1 H2→G H1→G H2))(h4:vs=[.str l,.ref a0,.ref f])(h5:H a0=some (.tup ((key b).map kV)))(h6:pl b)(h7:(∀x,pl x→x<216∧∀c∈l.cps.toList,pl (g x c)))(h8:(∀x y,pl x→pl y→key x=key y→x=y))(h9:H f=some (FnO f fd))(xA:G H)(xB:Zil l.cps.toList)(yY:∀d H' N,H d=none→Zm H H'→TxB key g b l H' d (Zl id (TL l g) b N) N 0→(Zl id (TL l g) b N).length≤N→Q (.ref d) H'):Zcs P w K mg base n vs H Q
def Zct(P:Program)(w:World)(K:W.Frag)(mg:aG)(base:Heap)(n:Nat):Sp:=λvs H Q _=>Zcs P w K mg base n vs H Q
def wkW(l:Str)(a0 fv d:Addr)(key:YU)(g:aQ)(b:Nat)(H:Hp)(mm:Nat)(σ:L2.St)(H5:Hp):Prop:=∃(i:Nat) (lv:Addr) (xs:List V) (v5 v6 v7 v8:Option V),mm=217-i∧i≤(Zl id (TL l g) b i).length∧σ=[some (.str l),some (.ref a0),some (.ref fv),some (.ref d),some (.ref lv),v5,v6,v7,v8]∧H lv=none∧H5 lv=some (.lst xs)∧PlT key H5 xs ((Zl id (TL l g) b i).drop i)∧TxB key g b l H5 d (Zl id (TL l g) b i) i 0∧Zm H H5
def wkL(l:Str)(a0 fv d:Addr)(key:YU)(g:aQ)(b:Nat)(H:Hp)(lv rp:Addr)(i:Nat)(L:List Nat)(xs:List V)(j:Nat)(σ:L2.St)(H7:Hp):Prop:=∃(ys:List V) (v6 v7 v8:Option V),σ=[some (.str l),some (.ref a0),some (.ref fv),some (.ref d),some (.ref lv),some (.ref rp),v6,v7,v8]∧H7 lv=some (.lst xs)∧PlT key H7 xs (L.drop i)∧H7 rp=some (.lst ys)∧PlT key H7 ys ((Zl id (TL l g) b (i+j)).drop L.length)∧TxB key g b l H7 d (Zl id (TL l g) b (i+j)) (i+j) 0∧Zm H H7
theorem Cj(F:Fun K "walked" "walked" P0 f fd)(Z:Blt mg):Yc P w K mg base CX0 (n+1) f fd ZM (Zct P w K mg base n):=by
 refine F.ok Yk (λvs H Q E h=>?_) (λcdv A outer s H vs Q E hr h=>?_)
 ·obtain⟨f,fd,ps,l,a0,b,g,key,pl,G,_,_,_,rfl,_⟩:=h;rfl
 obtain⟨fv,wK,ps,l,a0,b,g,key,pl,G,Qg,Qd,hG,rfl,uR,hb,y1,inj,hf,sW,hR,k⟩:=h
 refine⟨_,(Ze (Zn (i:=3) Yk.nd (by rfl) (Or.inl (by rfl)) (Zed (Wv hr) (pv 1) Wr)) 
   (Ze (Zn (i:=4) Yk.nd (by rfl) (Or.inl (by rfl)) (Zx (Za (pv 1) Zb))) 
   (Ze (Oa pP (Yn (K:=K) (pv 4) (λ_=>rfl)) 
    (Ze (Zn (i:=5) Yk.nd (by rfl) (Or.inl (by rfl)) (Zx Zb)) 
    (Ze (Y5 pP (by rfl) (U1 (K:=K) (pv 4)) (Zo (i:=6) Yk.nd (by rfl) (Or.inl (by rfl))) 
     (Zg (Y5 pP (by rfl) (Up (pv 0)) (Zo (i:=7) Yk.nd (by rfl) (Or.inl (by rfl))) 
      (Ze (Zn (i:=8) Yk.nd (by rfl) (Or.inl (by rfl)) (Oc (i:=2) Qg (hr.mono (by lia)) Qd (Za (pv 6) (Za (pv 7) Zb)))) 
      (Zg (Ys (Zd2 (J5 (Wv hr) (pv 8) (pv 3))) 
       (Ze (Hs (Wv hr) (pv 3) (pv 8) (Z3 Xx (To (Wv hr) (pv 3) (pv 6) (λ_ _=>rfl)) (pv 7)) rfl) 
       (Zg (W8 (Wd (K:=K) oF lK lL Wg (pv 5) (Za (pv 8) Zb))))) Z1)))))) 
    (Zg (Zn (i:=4) Yk.nd (by rfl) (Or.inl (by rfl)) (pv 5)))))) 
   (Zg (Zq (pv 3)))))),?_⟩
 refine(let x6:TS:=_;let x8:TS:=_;let y6:TS:=_;let g0:TS:=Zs _ y6;let w6:TS:=(K2 _ g0 _);let p9:TS:=Zs _ w6;let d0:TS:=(O7 _ _ p9);let c0:TS:=Zs (O7 _ _ d0) x8;let l5:TS:=Zs _ c0;let xY:TS:=Zs (Le _ l5) x6;let Zce:TS:=Zs _ xY;(?_:Zs _ Zce _ _ _))
 have hT:∀x,pl x→∀y∈TL l g x,pl y:=λx hx y hy=>by
  obtain⟨c,hc,e⟩:=rY.mp hy;rw[←e];exact(y1 x hx).2 c hc
 have oL:∀i,(Zl id (TL l g) b i).length≤216:=λi=>Rc hb hT (λx hx=>(y1 x hx).1) i;have oP:∀i,∀y∈Zl id (TL l g) b i,pl y:=λi=>Ws hb hT i;refine λd hd=>⟨_,rfl,_,_,rfl,Zc,a0,key b,rfl,(Zd hd _) _ _ uR,?_⟩;have c7:upd (upd H d (.dT [])) d (.dT [(key b,V.str "")]) d=some (.dT [(key b,V.str "")]):=Zc;have e1:Zm H (upd (upd H d (.dT [])) d (.dT [(key b,V.str "")])):=Yi (Zd hd _) hd _;generalize upd (upd H d (.dT [])) d (.dT [(key b,V.str "")])=H1 at c7 e1;refine⟨_,rfl,(by show 1≤sizeLine;decide),λlv yF=>?_⟩;generalize eZ:upd H1 lv _=H2;have s2:=nS7 eZ yF;have xC:=nU7 eZ
 refine⟨wkW l a0 fv d key g b H,
  ⟨_,0,lv,_,none,none,none,none,rfl,oC _,rfl,none_of e1 yF,xC,⟨rfl,λi x c q1 q2=>?_⟩,⟨_,[[]],s2 _ _ c7,rfl,by rw[rW,fF,rW,fF,show sOf []=("" : Str) from by decide +kernel],BI.start⟩,e1.trans s2⟩,?_⟩
 ·cases i with
  |zero=>cases q1;cases q2;exact⟨a0,rfl,s2 _ _ (e1 _ _ uR)⟩
  |succ i=>simp at q1
 clear eZ xC s2 yF lv c7 e1;rintro mm σ H5 ⟨i,lv,xs,v5,v6,v7,v8,rfl,hi,rfl,jK,z6,P5,T5,e5⟩;have hD:∀{H:Hp}{a:Addr}{xs:List V}{o:List Nat}{i m:Nat},H a=some (.lst xs)→TxB key g b l H d o i m→a≠d:=λha ⟨_,_,hk,_⟩=>Xr ha hk λz=>nomatch z;generalize hL:Zl id (TL l g) b i=L at hi P5 T5;have zE:=oL i;rw[hL]at zE;have yN:=P5.1;rw[oY]at yN;refine⟨_,rfl,_,.inl ⟨_,SqL.of z6,rfl⟩,?_⟩;refine Ur (λc1=>?_) (λc1=>?_)
 ·have x5:i<L.length:=by
   rcases oE i L.length with z|z
   ·exact z
   ·rw[lF (show xs.length=0 by lia)]at c1;cases c1
  refine⟨λx4 H'=>∃m',m'<217-i∧_,λ_ _ z=>z,?_⟩;refine⟨(by show 0≤sizeLine;decide),λrp z9=>?_⟩;generalize eZ:upd H5 rp _=H6;have s6:=nS7 eZ z9;have sB:=nU7 eZ;have Gm:=none_of e5 z9;have eV:lv≠rp:=Zi z6 z9;refine⟨_,rfl,lv,rfl,⟨_,SqL.of (s6 _ _ z6)⟩,?_⟩
  refine Rl (K:=K) (a:=lv) (xs:=xs) (wkL l a0 fv d key g b H lv rp i L xs)
   ⟨[],v6,v7,v8,rfl,s6 _ _ z6,P5.keep (Tk.same s6),sB,by rw[cH,hL,List.drop_length];exact⟨rfl,λi x c q=>by simp at q⟩,by rw[cH,hL];exact T5.same s6,e5.trans s6⟩ (λj σ H7 _ h=>?_) ?_ ?_
  ·obtain⟨_,_,_,_,_,h7,_⟩:=h;exact SqL.of h7
  ·rintro j x σ H7 hx ⟨ys,v6,v7,v8,rfl,hZ,P7,z7,Y7,T7,e7⟩;have xN:=(rH.mp hx).1;have i5:L[i+j]?=some (L[i+j]'(by lia)):=rD (by lia);generalize L[i+j]'(by lia)=y at i5;obtain⟨ya,rfl,hya⟩:=P7.2 j x y hx (by rw[List.getElem?_drop];exact i5)
   have eR:(Zl id (TL l g) b (i+j))[i+j]?=some y:=by
    obtain⟨t,e⟩:=X4 (k:=id) (T:=TL l g) (b:=b) (i:=i) (i+j) (by lia);rw[←e,hL,pM (rH.mp i5).1];exact i5
   have Gr:L.length≤(Zl id (TL l g) b (i+j)).length:=by
    rw[←hL];exact(X4 (k:=id) (T:=TL l g) (b:=b) (i:=i) (i+j) (by lia)).length_le
   have Ez:=Wf eR;have C5:=oP (i+j) y (rN eR);have j7:=Vp (k:=id) (T:=TL l g) (b:=b) (i+j);generalize hO:Zl id (TL l g) b (i+j)=O at eR Gr Ez j7 Y7 T7;have Np:∀z∈O,pl z:=by rw[←hO];exact oP (i+j)
   refine⟨_,rfl,l,rfl,?_⟩
   refine Mu (cs:=l.cps.toList) (λm σ H8=>∃(ys:List V) (v7 v8:Option V),σ=[some (.str l),some (.ref a0),some (.ref fv),some (.ref d),some (.ref lv),some (.ref rp),some (.ref ya),v7,v8]∧H8 lv=some (.lst xs)∧PlT key H8 xs (L.drop i)∧H8 rp=some (.lst ys)∧PlT key H8 ys ((((TL l g y).take m).foldl (Xo id) O).drop L.length)∧TxB key g b l H8 d (((TL l g y).take m).foldl (Xo id) O) (i+j) m∧Zm H H8∧H8 ya=some (.tup ((key y).map kV)))
    ⟨ys,v7,v8,rfl,hZ,P7,z7,Y7,T7,e7,hya⟩ ?_ ?_
   ·rintro m c σ H8 hc ⟨ys,v7,v8,rfl,p3,P8,xD,Y8,T8,e8,h8y⟩;have m6:c∈l.cps.toList:=rN hc;have zM:(TL l g y)[m]?=some (g y c):=by unfold TL;rw[rJ,hc];rfl
    have sG:((TL l g y).take (m+1)).foldl (Xo id) O=Xo id (((TL l g y).take m).foldl (Xo id) O) (g y c):=by
     rw[oK,zM,iX];rfl
    have Nl:=Rn (k:=id) ((TL l g y).take m) O;have Zbo:=Mv (k:=id) ((TL l g y).take m) O j7;have E3:=fold_all (k:=id) (P:=pl) ((TL l g y).take m) O Np λz hz=>hT y C5 z (fR hz)
    have eM:(((TL l g y).take m).foldl (Xo id) O)[i+j]?=some y:=by
     obtain⟨t,e⟩:=Nl;rw[←e,pM (rH.mp eR).1];exact eR
    have kQ:L.length≤(((TL l g y).take m).foldl (Xo id) O).length:=pQ Gr Nl.length_le;rw[sG];generalize ((TL l g y).take m).foldl (Xo id) O=O8 at Y8 T8 Nl Zbo E3 eM kQ
    have hO8:O8.length≤216:=by
     have:=Oh 216 _ Zbo λz hz=>by
      rw[lH]at hz;exact(y1 z (E3 z hz)).1
     rwa[rC]at this
    have pgc:=(y1 y C5).2 c m6;refine⟨rfl,e8 _ _ hf,_,rfl,_,rfl,e8 _ _ hf,ya,y,c,rfl,h8y,C5,m6,e8 _ _ hf,hG _ _ e8 sW,λr H9 e9 kM=>?_⟩;have T9:=T8.same e9;have P9:=P8.keep (Tk.same e9);have Y9:=Y8.keep (Tk.same e9);have p4:=e9 _ _ p3;have p5:=e9 _ _ xD;have wY:=e9 _ _ h8y;have kA:=e8.trans e9;obtain⟨kvs,T,b7,hk,hv,B9⟩:=T9
    have hkl:kvs.length=O8.length:=by
     have:=congrArg List.length hk;rwa[rC,rC]at this
    have m3:=Y9.1;rw[oY]at m3;refine⟨_,rfl,_,rfl,d,_,rfl,V9.t (k:=key (g y c)) b7 kM,_,rfl,?_⟩;rw[Zas]
    by_cases x9:g y c∈O8
    ·obtain⟨_,v,_,_,hp⟩:=R1 inj pgc hk E3 x9;obtain⟨t,ht⟩:=B9.at eM;rw[hp,if_pos x9];exact ifN rfl ⟨_,_,_,rfl,p4,P9,p5,Y9,⟨kvs,T,b7,hk,hv,B9.old hR eM ht hc x9⟩,kA,wY⟩
    ·have g9:=Ex inj pgc hk E3 x9;rw[g9,if_neg x9];obtain⟨iy,v,g1,g2,hp⟩:=R1 inj C5 hk E3 (rN eM);obtain rfl:=Zju (by rwa[lH]at Zbo) g2 eM;obtain⟨t,ht,rfl⟩:=Au hv g1
     have xU:(sOf t).length≤216:=by
      have h1:=(B9.way _ _ _ eM ht).2.2;have h2:=(rH.mp eM).1;show t.toArray.size≤216;rw[rQ];lia
     refine ifY rfl ⟨_,rfl,_,rfl,d,_,rfl,hp▸V9.t (k:=key y) b7 wY,_,rfl,sOf t,_,rfl,rfl,(by show (sOf t).length+1≤sizeLine;rw[sizeLine_eq];lia),_,rfl,_,rfl,d,_,rfl,Fb.t (k:=key (g y c)) b7 kM (by rw[sizeLine_eq];lia),?_⟩;rw[Lr _ g9,Zdg];have gR:=hD p5 ⟨kvs,T,b7,hk,hv,B9⟩;have qY:=hD p4 ⟨kvs,T,b7,hk,hv,B9⟩;have vP:=Tk.dct b7 (.dT (kvs++[(key (g y c),V.str (sOf (t++[c])))]));have Pf:=(Zk (H:=H9) (o:=.dT (kvs++[(key (g y c),V.str (sOf (t++[c])))])) gR).trans p5;have C8:=(Zk (H:=H9) (o:=.dT (kvs++[(key (g y c),V.str (sOf (t++[c])))])) qY).trans p4;have Zfm:upd H9 d (.dT (kvs++[(key (g y c),V.str (sOf (t++[c])))])) d=_:=Zc;have m8:=Yi kA hd (.dT (kvs++[(key (g y c),V.str (sOf (t++[c])))]));have Zoq:=vP _ _ kM;have P10:=P9.keep vP;have Y10:=Y9.keep vP;have Zop:=vP _ _ wY;generalize upd H9 d _=n4 at Pf C8 Zfm m8 Zoq P10 Y10 Zop;have vQ:=Tk.lst Pf (.lst (ys++[V.ref r]));refine⟨_,rfl,.inl ⟨rfl,_,SqL.of Pf⟩,_,rfl,rp,_,_,rfl,rfl,Pf,(by rw[sizeLine_eq];lia),?_⟩;refine⟨ys++[V.ref r],_,_,rfl,(Zk eV).trans C8,P10.keep vQ,Zc,?_,⟨kvs++[(key (g y c),V.str (sOf (t++[c])))],T++[t++[c]],(Zk gR.symm).trans Zfm,?_,?_,B9.new hR eM ht hc⟩,Yi m8 Gm _,vQ _ _ Zop⟩
     ·rw[List.drop_append_of_le_length kQ];exact(Y10.keep vQ).snoc (vQ _ _ Zoq)
     ·rw[pS,pS,hk];rfl
     ·rw[pS,pS,hv];rfl
   ·rintro σ H8 ⟨ys,v7,v8,rfl,p3,P8,xD,Y8,T8,e8,_⟩;rw[iM (by unfold TL;rw[rC];exact rG _),←Ez]at Y8 T8;obtain⟨kvs,T,a1,a2,a3,B8⟩:=T8;exact⟨_,_,_,_,rfl,p3,P8,xD,Y8,⟨kvs,T,a1,a2,a3,B8.next (rG _)⟩,e8⟩
  ·rintro σ H7 ⟨ys,v6,v7,v8,rfl,hZ,P7,z7,Y7,T7,e7⟩;have mG:i+xs.length=L.length:=by lia
   rw[mG]at Y7 T7
   have Gr:L.length≤(Zl id (TL l g) b L.length).length:=by
    rw[←hL];exact(X4 (k:=id) (T:=TL l g) (b:=b) (i:=i) (Zl id (TL l g) b i).length (by rw[hL];lia)).length_le
   exact⟨_,rfl,217-L.length,by lia,L.length,rp,ys,_,_,_,_,rfl,Gr,rfl,Gm,z7,Y7,T7,e7⟩
 ·have j8:L.length≤i:=by
   rcases oE i L.length with z|z
   ·refine absurd ?_ c1
    cases zZ:xs with
    |nil=>
     rw[zZ]at yN;have h0:([]:List V).length=0:=rfl;lia
    |cons=>rfl
   ·exact z
  refine⟨_,rfl,k d H5 i hd e5 (by rw[hL];exact T5) (by rw[hL];exact j8)⟩
inductive Zi9(f:Addr)(fd:FuncData)(pl:ZF)(e:Nat→Bool)(G:YV)(vs:List V)(H:Hp)(Q:VK):Prop
 |mk(x:_)(h1:vs=[nI x])(h2:pl x)(h3:H f=some (FnO f fd))(h4:G H)(h5:∀H',Zm H H'→Q (.bl (e x)) H'):Zi9 f fd pl e G vs H Q
def spEd(f:Addr)(fd:FuncData)(pl:ZF)(e:Nat→Bool)(G:YV):Sp:=λvs H Q _=>Zi9 f fd pl e G vs H Q
def Wj(H:Hp)(m:Addr)(l:Str)(b:Nat)(es:List Nat)(st:aB):Prop:=∃(e s:Addr) (ras:ZQ),H m=some (.tup [.str l,nI b,.ref e,.ref s])∧H e=some (.tup (es.map nI))∧H s=some (.tup (ras.map V.ref))∧ras.length=st.length∧∀(i:Nat) a r,ras[i]?=some a→st[i]?=some r→H a=some (.tup (r.map nI))
theorem Yp.ras{H:Hp}:∀{xs:List V}{rs:aB},Yp H xs rs→∃ras:List Addr,xs=ras.map V.ref∧ras.length=rs.length∧∀(i:Nat) a r,ras[i]?=some a→rs[i]?=some r→H a=some (.tup (r.map nI))
 |[],[],_=>⟨[],rfl,rfl,λi a r h=>by simp at h⟩
 |[],_ :: _,h=>nomatch h.1
 |_ :: _,[],h=>nomatch h.1
 |x :: xs,r :: rs,h=>by
  obtain⟨c,e,q⟩:=h.2 0 x r rfl rfl;obtain⟨ras,e1,e2,e3⟩:=Yp.ras (H:=H) (xs:=xs) (rs:=rs) ⟨by simpa using h.1,λi y t a b=>h.2 (i+1) y t (by simpa using a) (by simpa using b)⟩;refine⟨c :: ras,by rw[e,e1];rfl,by rw[pY,pY,e2],λi a t p1 p2=>?_⟩
  cases i with
  |zero=>cases p1;cases p2;exact q
  |succ i=>exact e3 i a t (by simpa using p1) (by simpa using p2)
def nbK(o:List Nat)(i:Nat):List (Key×V):=(List.range i).map λj=>(kI (o.getD j 0),nI j)
theorem En(o:List Nat):(nbK o o.length).map (·.1)=o.map kI:=by
 unfold nbK;rw[pO];refine cN λj=>?_;rw[rJ,rJ]
 rcases oE j o.length with z|z
 ·rw[lY z,rD z];show some (kI (o.getD j 0))=some (kI o[j]);rw[rK,rD z];rfl
 ·rw[oO (by rw[rX];exact z),oO z];rfl
theorem Zhk(nd:o.Nodup)(hx:x∈o):Xj (nbK o o.length) (kI x)=some (nI (o.idxOf x)):=by
 obtain⟨p,hp,e,ek⟩:=Rj (En o) hx;rw[e];obtain⟨j,hj,rfl⟩:=rY.mp hp;have xM:=pU.mp hj;have ex:o.getD j 0=x:=Ts ek;rw[rK,rD xM]at ex;have ex':o[j]=x:=ex;rw[←ex',pN nd j xM]
theorem Zhl(nd:o.Nodup)(hi:i<o.length):Xj (nbK o i) (kI (o.getD i 0))=none:=by
 have hk:(nbK o i).map (·.1)=(o.take i).map kI:=by
  unfold nbK;rw[pO];refine cN λj=>?_;rw[rJ,rJ]
  rcases oE j i with z|z
  ·rw[lY z,cF z,rD (by lia)];show some (kI (o.getD j 0))=some (kI o[j]);rw[rK,rD (by lia)];rfl
  ·rw[oO (by rw[rX];exact z),oO (by rw[pR];lia)];rfl
 refine Ms hk λz=>?_;rw[rK,rD hi]at z;obtain⟨j,hj,e⟩:=iL z;rw[pR]at hj;rw[List.getElem_take]at e;have e':o[j]'(by lia)=o[i]:=e;have h1:=pN nd j (by lia);have h2:=pN nd i hi;rw[e',h2]at h1;lia
inductive Zi4(P:Program)(w:World)(K:W.Frag)(mg:aG)(base:Heap)(n:Nat)(vs:List V)(H:Hp)(Q:VK):Prop
 |mk(f:Addr)(fd:FuncData)(ps:List Str)(f2:Addr)(kE:FuncData)(vM:List Str)(l:Str)(b:Nat)(g:aQ)(e:Nat→Bool)(pl:ZF)(G:YV)(h1:Yc P w K mg base CX0 n f fd ps (Zm5 f fd l g pl G))(h2:Binds K fd ps [])(h3:Yc P w K mg base CX0 n f2 kE vM (spEd f2 kE pl e G))(h4:Binds K kE vM [])(h5:(∀H1 H2,Zm H1 H2→G H1→G H2))(h6:vs=[.str l,nI b,.ref f,.ref f2])(h7:pl b)(h8:(∀x,pl x→x<216∧∀c∈l.cps.toList,pl (g x c)))(h9:l.length≤3)(xA:H f=some (FnO f fd))(xB:H f2=some (FnO f2 kE))(yY:G H)(h13:∀m H' N,Zm H H'→(Zl id (TL l g) b N).length≤N→Wj H' m l 0 (Vi (Zl id (TL l g) b N) e) (Xd id (TL l g) (Zl id (TL l g) b N))→Q (.ref m) H'):Zi4 P w K mg base n vs H Q
def Zkr(P:Program)(w:World)(K:W.Frag)(mg:aG)(base:Heap)(n:Nat):Sp:=λvs H Q _=>Zi4 P w K mg base n vs H Q
def mfD(l:Str)(b:Nat)(fv fe nd ep rp:Addr)(v5:Option V)(g:aQ)(o:List Nat)(e:Nat→Bool)(H5:Hp)(i:Nat)(σ:L2.St)(n4:Hp):Prop:=∃(v6:Option V) (ys:List V),σ=[some (.str l),some (nI b),some (.ref fv),some (.ref fe),some (.ref nd),v5,v6,some (.ref ep),some (.ref rp)]∧n4 rp=some (.lst ys)∧Yp n4 ys ((Xd id (TL l g) o).take i)∧n4 ep=some (.tup ((Vi o e).map nI))∧Zm H5 n4
theorem Me(F:Fun K "machine_from" "machine_from" Xv f fd)(Z:Blt mg)(Rw:Cal P w K mg base "walked" (n+1) ZM (Zgv P w K mg base n)):Yc P w K mg base CX0 (n+2) f fd YG (Zkr P w K mg base n):=by
 refine F.ok Yv (λvs H Q E h=>?_) (λcdv A outer s H vs Q E hr h=>?_)
 ·obtain⟨f,fd,ps,f2,kE,vM,l,b,g,e,pl,G,_,_,_,_,_,rfl,_⟩:=h;rfl
 obtain⟨fv,wK,ps,fe,fde,vM,l,b,g,e,pl,G,Qg,Qd,Zcd,Zb7,hG,rfl,hb,y1,hl,hf,xJ,sW,k⟩:=h
 refine⟨_,(Ze (Zn (i:=4) Yv.nd (by rfl) (Or.inr (by rfl)) Zeb) 
   (Ze (Y5 pP (by rfl) (Zd5 (by rfl) Z.enumerate (Z5 Rw (hr.mono (by lia)) (Za (pv 0) (Za (pv 1) (Za (pv 2) Zb))))) (Vo (K:=K) (n:=2) (by rfl) (Yb (Zo (i:=5) Yv.nd (by rfl) (Or.inl (by rfl))) (Yb (Zo (i:=6) Yv.nd (by rfl) (Or.inr (by rfl))) Vb))) 
    (Zg (Hs (Wv hr) (pv 4) (pv 6) (pv 5) rfl))) 
   (Ze (Zn (i:=7) Yv.nd (by rfl) (Or.inl (by rfl)) (Z4 (Y1 (K:=K)) (by rfl) Z.tuple Yt (Za (Yj (sc:=Zh Xv) (Nm:=aM) (own:=["place"]) (fr:=[3,4]) ⟨rfl,by decide +kernel,by decide +kernel,by decide +kernel,by decide +kernel⟩ (by rfl) (Ye (by decide)) (Ar (pv 4)) (λd=>(Zo (i:=0) Oq (by rfl) (Or.inl (by rfl)))) (λd=>(Ao (Yn (K:=K) (Oc (i:=1) Zcd (hr.mono (by lia)) Zb7 (Za (pv 0) Zb)) (λ_=>rfl)))) (λd=>(To (Wv hr) (pv 2) (pv 0) (λ_ _=>rfl)))) Zb))) 
   (Ze (Zn (i:=8) Yv.nd (by rfl) (Or.inl (by rfl)) (Zx Zb)) 
   (Ze (Y5 pP (by rfl) (Ar (pv 4)) (Zo (i:=6) Yv.nd (by rfl) (Or.inr (by rfl))) 
    (Zg (W8 (Wd (K:=K) oF lK lL Wg (pv 8) (Za (Z4 (Y1 (K:=K)) (by rfl) Z.tuple Yt (Za (Yj (sc:=Zh Xv) (Nm:=aM) (own:=["letter"]) (fr:=[2,4,6]) ⟨rfl,by decide +kernel,by decide +kernel,by decide +kernel,by decide +kernel⟩ (by rfl) (Ye (by decide)) (Up (pv 0)) (λd=>(Zo (i:=0) Oo (by rfl) (Or.inl (by rfl)))) (λd=>Ym) (λd=>(To (Wv hr) (pv 2) (Oc (i:=1) Qg (hr.mono (by lia)) Qd (Za (pv 3) (Za (pv 0) Zb))) (λ_ _=>rfl)))) Zb)) Zb))))) 
   (Zg (Zq (Zw (Za (pv 0) (Za Zf (Za (pv 7) (Za (Z4 (Y1 (K:=K)) (by rfl) Z.tuple Yt (Za (pv 8) Zb)) Zb)))))))))))),?_⟩
 refine(let x6:TS:=_;let x8:TS:=Zs _ x6;let y6:TS:=Zs _ x8;let g0:TS:=Zs _ y6;let w6:TS:=Zs _ g0;(?_:Zs _ w6 _ _ _))
 have hT:∀x,pl x→∀y∈TL l g x,pl y:=λx hx y hy=>by
  obtain⟨c,hc,e⟩:=rY.mp hy;rw[←e];exact(y1 x hx).2 c hc
 refine λnd j7=>?_;generalize eZ:upd H nd _=H1;have s1:=nS7 eZ j7;have h1n:=nU7 eZ;refine⟨_,rfl,_,rfl,_,rfl,fv,wK,ps,l,b,g,pl,G,Qg,Qd,hG,rfl,hb,y1,s1 _ _ hf,hG _ _ s1 sW,λd H2 N hd e2 T2 hN=>?_⟩;have oL:(Zl id (TL l g) b N).length≤216:=Rc hb hT (λx hx=>(y1 x hx).1) N;have oP:∀y∈Zl id (TL l g) b N,pl y:=Ws hb hT N
 have oN:(Zl id (TL l g) b N).Nodup:=by
  have:=Vp (k:=id) (T:=TL l g) (b:=b) N;rwa[lH]at this
 have oM:∀x∈Zl id (TL l g) b N,∀c∈l.cps.toList,g x c∈Zl id (TL l g) b N:=λx hx c hc=>by
  obtain⟨j,hj,ej⟩:=iL hx;have:=U3 (k:=id) (T:=TL l g) (b:=b) (n:=N) (j:=j) (x:=x) (y:=g x c) (by rw[rD hj,ej]) (by lia) (rY.mpr ⟨c,hc,rfl⟩);rw[lH]at this;exact this
 replace k:=λm H'=>k m H' N
 generalize Zl id (TL l g) b N=o at k hN T2 oL oP oN oM;have zW:=none_of s1 hd;obtain⟨kvs,h2d,uW,n9⟩:=T2;have nnd:nd≠d:=Zi h1n hd;refine⟨d,kvs,rfl,.inl ⟨h2d,λob=>?_⟩⟩;have h3n:upd H2 d (.frz ob (.dK kvs)) nd=some (.dK []):=(Zk nnd).trans (e2 _ _ h1n);have e3:Zm H (upd H2 d (.frz ob (.dK kvs))):=Yi (s1.trans e2) zW _;have h3d:upd H2 d (.frz ob (.dK kvs)) d=_:=Zc;generalize upd H2 d _=H3 at h3n e3 h3d
 have hkx:(kvs.map λp=>kV p.1)=o.map nI:=by
  have:(kvs.map λp=>kV p.1)=(kvs.map (·.1)).map kV:=by rw[pO];rfl
  rw[this,uW,pO];rfl
 refine Rm (Sq:=λH xs=>H d=some (.frz ob (.dK kvs))∧xs=kvs.map λp=>kV p.1) (xs:=o.map nI) (λi σ H4=>∃(v5 v6:Option V),σ=[some (.str l),some (nI b),some (.ref fv),some (.ref fe),some (.ref nd),v5,v6,none,none]∧H4 nd=some (.dK (nbK o i))∧H4 d=some (.frz ob (.dK kvs))∧Zm H H4)
  ⟨none,none,rfl,h3n,h3d,e3⟩ (λi σ H4 _ h=>?_) ?_ ?_
 ·obtain⟨_,_,_,_,h4,_⟩:=h;exact⟨h4,hkx.symm⟩
 ·rintro i x σ H4 p hx ⟨v5,v6,rfl,uL,h4d,e4⟩ hp;rw[rJ]at hx
  cases i5:o[i]? with
  |none=>rw[i5]at hx;cases hx
  |some y=>
   rw[i5]at hx;cases hx;have t5:=(rH.mp i5).1;have vH:o.getD i 0=y:=by rw[rK,i5];rfl
   generalize eZ:upd H4 p _=H5;have s5:=nS7 eZ hp;have h5p:=nU7 eZ;have Pd:=Zhl oN t5;rw[vH]at Pd;refine⟨p,_,rfl,SqT.of h5p,rfl,_,_,rfl,_,_,rfl,rfl,?_⟩;refine⟨_,rfl,_,rfl,_,rfl,nd,_,rfl,Fb.k (k:=kI y) (s5 _ _ uL) (by unfold nbK;rw[rC,rX,sizeLine_eq];lia),?_⟩;rw[Lr _ Pd];refine⟨_,_,rfl,?_,(Zk nnd.symm).trans (s5 _ _ h4d),Yi (e4.trans s5) j7 _⟩;refine Zc.trans ?_;unfold nbK;rw[fL,pS];show _=some (HO.dK (_++[(kI (o.getD i 0),nI i)]));rw[vH];rfl
 rintro σ H4 ⟨v5,v6,rfl,uL,_,e4⟩;rw[rC]at uL
 have kat:∀{i:Nat}{q:Key}{v:V},(nbK o o.length)[i]?=some (q,v)→∃y,o[i]?=some y∧q=kI y:=λ{i q v} h=>by
  have h1:((nbK o o.length).map (·.1))[i]?=some q:=by rw[rJ,h];rfl
  rw[En,rJ]at h1
  cases hc:o[i]? with
  |none=>rw[hc]at h1;cases h1
  |some y=>rw[hc]at h1;exact⟨y,rfl,(Option.some.inj h1).symm⟩
 have nbl:(nbK o o.length).length=o.length:=by unfold nbK;rw[rC,rX]
 refine⟨_,rfl,nd,_,rfl,.inl ⟨uL,λon=>?_⟩⟩;have e5:Zm H (upd H4 nd (.frz on (.dK (nbK o o.length)))):=Yi e4 j7 _;have kL:upd H4 nd (.frz on (.dK (nbK o o.length))) nd=_:=Zc;generalize upd H4 nd _=H5 at e5 kL
 have Zox:∀{H6:Hp}{x:Nat},Zm H5 H6→x∈o→V9 H6 nd (nI x) (some (nI (o.idxOf x))):=λ{H6 x} e6 hx=>by
  rw[←Zhk oN hx];exact .inl ⟨_,kI x,.inr ⟨on,e6 _ _ kL⟩,rfl,rfl⟩
 refine Zb1 (a:=nd) (o:=on) (kvs:=nbK o o.length) (λi acc H6=>acc=(((List.range i).filter λj=>e (o.getD j 0)).map nI)∧Zm H5 H6) (Z0 (by lia)) ⟨rfl,Zm.refl _⟩
  (λi acc H6 q=>by rw[q.1,rC];exact pQ (dQ _ _) (by rw[rX];exact rG _)) (λi acc H6 q=>q.2 _ _ kL) (λi acc H6 q v hq p=>?_) (λacc H6 p y hy=>?_)
 ·obtain⟨rfl,e6⟩:=p;obtain⟨y,hy,rfl⟩:=kat hq;have vH:o.getD i 0=y:=by rw[rK,hy];rfl
  have hym:=rN hy;have uG:=e5.trans e6;refine⟨rfl,uG _ _ xJ,_,rfl,uG _ _ xJ,y,rfl,oP y hym,uG _ _ xJ,hG _ _ uG sW,λH7 e7=>⟨_,rfl,?_⟩⟩
  have xK:((List.range (i+1)).filter λj=>e (o.getD j 0))=((List.range i).filter λj=>e (o.getD j 0))++if e y=true then [i] else []:=by
   rw[fL,List.filter_append,List.filter_cons,vH];rfl
  rw[xK,pS];refine Ur (λc=>?_) (λc=>?_)
  ·rw[if_pos c];refine⟨_,rfl,_,rfl,nd,_,rfl,Zox (e6.trans e7) hym,?_,e6.trans e7⟩
   have:o.idxOf y=i:=by
    have h1:=pN oN i (rH.mp hy).1;rw[(rH.mp hy).2]at h1;exact h1
   rw[this];rfl
  ·rw[if_neg c];exact⟨by rw[fF,lZ],e6.trans e7⟩
 obtain⟨rfl,e6⟩:=p;rw[nbl];generalize eZ:upd H6 y _=H7;have t7:=nS7 eZ hy;have h7y:=nU7 eZ;refine⟨y,_,rfl,.inl ⟨SqL.of h7y,λep jA=>?_⟩⟩;have t8:=Zd jA (.tup (((List.range o.length).filter λj=>e (o.getD j 0)).map nI));have wW:upd H7 ep (.tup (((List.range o.length).filter λj=>e (o.getD j 0)).map nI)) ep=some (.tup ((Vi o e).map nI)):=Zc;generalize upd H7 ep _=H8 at t8 wW;refine⟨(by show 0≤sizeLine;decide),λrp z9=>?_⟩;generalize eZ:upd H8 rp _=H9;have t9:=nS7 eZ z9;have p5:=nU7 eZ;have e59:=((e6.trans t7).trans t8).trans t9;have jX:=none_of ((e6.trans t7).trans t8) z9;have ner:ep≠rp:=Zi wW z9;have uP:(Xd id (TL l g) o).length=o.length:=by unfold Xd;rw[rC]
 refine⟨_,rfl,nd,_,rfl,.inr ⟨on,e59 _ _ kL,?_⟩⟩
 refine Zfo (a:=nd) (o:=on) (kvs:=nbK o o.length) (mfD l b fv fe nd ep rp v5 g o e H5)
  ⟨v6,[],rfl,p5,⟨rfl,λi x r a=>by simp at a⟩,t9 _ _ wW,e59⟩ (λi σ n4 _ h=>?_) ?_ ?_
 ·obtain⟨_,_,_,_,_,_,m8⟩:=h;exact m8 _ _ kL
 ·rintro i q v σ n4 hq ⟨v6,ys,rfl,Pf,mW,Zl4,m8⟩;obtain⟨x,hx,rfl⟩:=kat hq;have yO:=rN hx;refine⟨_,rfl,.inl ⟨rfl,_,SqL.of Pf⟩,_,rfl,l,rfl,?_⟩
  refine Ta (cs:=l.cps.toList) (λj acc z4=>acc=(l.cps.toList.take j).map (λc=>nI (o.idxOf (g x c)))∧Zm n4 z4) (by rw[len_list];exact Z0 (by lia)) ⟨rfl,Zm.refl _⟩ (λj acc z4 q=>by rw[q.1,rC,pR];exact lT _ _)
   (λj acc z4 c hc q=>?_) (λacc z4 q y hy=>?_)
  ·obtain⟨rfl,w8⟩:=q;have m6:c∈l.cps.toList:=rN hc;have Zh8:=e5.trans (m8.trans w8);refine U9 ⟨_,rfl,rfl,Zh8 _ _ hf,_,rfl,_,rfl,Zh8 _ _ hf,x,c,rfl,oP x yO,m6,Zh8 _ _ hf,hG _ _ Zh8 sW,λtG xZ=>⟨nd,_,rfl,Zox ((m8.trans w8).trans xZ) (oM x yO c m6),?_,w8.trans xZ⟩⟩;rw[map_take hc]
  obtain⟨rfl,w8⟩:=q;rw[pZ];have u1:=Zd hy (.lst (l.cps.toList.map λc=>nI (o.idxOf (g x c))));refine⟨y,_,rfl,.inl ⟨SqL.of Zc,λz hz=>?_⟩⟩;have u2:=Zd hz (.tup (l.cps.toList.map λc=>nI (o.idxOf (g x c))));have yW:=(w8.trans u1).trans u2
  have m3:ys.length≤216:=by
   rw[mW.1,pR,uP];lia
  have Pc:(Xd id (TL l g) o)[i]?=some (l.cps.toList.map λc=>o.idxOf (g x c)):=by
   unfold Xd TL;rw[rJ,hx,cA,pO,lH];rfl
  have Zl3:upd (upd z4 y (.lst (l.cps.toList.map λc=>nI (o.idxOf (g x c))))) z (.tup (l.cps.toList.map λc=>nI (o.idxOf (g x c)))) z=some (.tup ((l.cps.toList.map λc=>o.idxOf (g x c)).map nI)):=by
   rw[pO];exact Zc
  generalize upd (upd z4 y (.lst (l.cps.toList.map λc=>nI (o.idxOf (g x c))))) z (.tup (l.cps.toList.map λc=>nI (o.idxOf (g x c))))=tG at u2 yW Zl3;refine⟨rp,_,_,rfl,rfl,yW _ _ Pf,Z0 (by lia),_,ys++[.ref z],rfl,Zc,?_,(Zk ner).trans (yW _ _ Zl4),Yi (m8.trans yW) jX _⟩;rw[oK,Pc];refine((mW.keep (Tk.same yW)).keep (Tk.lst (yW _ _ Pf) _)).snoc ?_;rw[Zk (Xr Zl3 (yW _ _ Pf) λz=>nomatch z)];exact Zl3
 ·rintro σ n4 ⟨v6,ys,rfl,Pf,mW,Zl4,m8⟩;rw[nbl,←uP,pZ]at mW;obtain⟨ras,rfl,r1,r2⟩:=mW.ras;refine⟨_,rfl,_,rfl,_,rfl,rp,_,rfl,.inl ⟨SqL.of Pf,λsp y4=>⟨(by show 4≤sizeLine;decide),λm hm=>?_⟩⟩⟩;have w1:=Zd y4 (.tup (ras.map V.ref));have w2:=Zd hm (.tup [V.str l,V.int 0,.ref ep,.ref sp]);have nZ:=w1.trans w2;refine k m _ (e5.trans (m8.trans nZ)) hN ⟨ep,sp,ras,Zc,nZ _ _ Zl4,w2 _ _ Zc,r1,λi a r q1 q2=>nZ _ _ (r2 i a r q1 q2)⟩
abbrev Yh:List aK:=[(⟨59,4,60,56⟩,"least"++".<locals>."++"step"),(⟨61,61,61,92⟩,"least"++".<locals>."++"<lambda>")]
def gL(l:Str)(st:aB)(L:List Nat)(x c:Nat):Nat:=L.getD (stp l st x c) 0
inductive Fl(Pt:Addr)(vs:List V)(H:Hp)(Q:VK):Prop
 |mk(m:Addr)(l:Str)(b:Nat)(es:List Nat)(st:aB)(h1:vs=[.ref m])(h2:Zz H m l b es st)(h3:es.length≤500)(h4:Tb Pt Yh H)(h5:∀m' k N H',V8 Pt H H'→Tb Pt Yh H'→dn (lkN st es (k+1))≤dn (lkN st es k)→(Zl id (TL l (gL l st (lkN st es (k+1)))) ((lkN st es (k+1)).getD b 0) N).length≤N→Wj H' m' l 0 (Vi (Zl id (TL l (gL l st (lkN st es (k+1)))) ((lkN st es (k+1)).getD b 0) N) λx=>decide (x∈es)) (Xd id (TL l (gL l st (lkN st es (k+1)))) (Zl id (TL l (gL l st (lkN st es (k+1)))) ((lkN st es (k+1)).getD b 0) N))→Q (.ref m') H'):Fl Pt vs H Q
def Hk(Pt:Addr):Sp:=λvs H Q _=>Fl Pt vs H Q
theorem Zei(F:Fun K "least" "least" W0 f fd)(Z:Blt mg)(Sx:fd.code=.ref cw)(CH:W.CodeHd base cw Pt)(BM:Qn mg base)
  (Sj:Cal P w K mg base "like_rooms" 2 aX Zc6) (CM:∀base,Cal P w K mg base "machine_from" 4 YG (Zkr P w K mg base 2)) (CR:∀base,Cal P w K mg base "room_behind" 1 aY Te):Yc P w K mg base CX0 5 f fd aX (Hk Pt):=by
 refine F.okC Ll (λvs H Q E h=>?_) (λA outer s H vs Q E hr h=>?_)
 ·obtain⟨m,l,b,es,st,rfl,_⟩:=h;rfl
 obtain⟨m,l,b,es,st,rfl,M,v0,hT,k⟩:=h
 have Zcn:∀x∈Yh,x.1.line=(⟨61,61,61,92⟩:Pos).line→x.1.col=(⟨61,61,61,92⟩:Pos).col→x.2 = "least"++".<locals>."++"<lambda>":=λx hx h1 _=>by
  rcases rT.mp hx with z|z
  ·rw[z]at h1;exact absurd h1 (by decide)
  ·rw[rL.mp z]
 have Za0:∀x∈Yh,x.1.line=(⟨59,4,60,56⟩:Pos).line→x.1.col=(⟨59,4,60,56⟩:Pos).col→x.2 = "least"++".<locals>."++"step":=λx hx h1 _=>by
  rcases rT.mp hx with z|z
  ·rw[z]
  ·rw[rL.mp z]at h1;exact absurd h1 (by decide)
 let Za1:=Yh
 have Kx:=CM base
 refine⟨_,(Ze (Zn (i:=1) Ll.nd (by rfl) (Or.inr (by rfl)) (Z5 Sj (hr.mono (by decide)) (Za (pv 0) Zb))) 
   (Ze (Zhc (i:=2) (L:=Za1) (sc:=Zh W0) Ll.nd (by rfl) (Or.inl (by rfl)) Sx CH BM (by first|exact rM|exact rP _ rM) Za0) 
   (Zg (Zq (Zef Kx (hr.mono (by decide)) (Za (Zr (Zp (K:=K)) (pv 0) Zf (λ_ _=>rfl)) (Za (Zr (Z2 (K:=K)) (pv 1) (Zr (Zp (K:=K)) (pv 0) Zf (λ_ _=>rfl)) (λ_ _=>rfl)) (Za (pv 2) (Za (Cf (L:=Za1) (sc:=Zh W0) Sx CH BM (by first|exact rM|exact rP _ rM) Zcn) Zb))))))))),?_⟩
 refine(let x6:TS:=_;let x8:TS:=Zs _ x6;(?_:Zs _ x8 _ _ _));refine⟨_,rfl,m,l,b,es,st,rfl,M,v0,λlp k0 H1 e1 sR hdn=>?_⟩
 have uQ:∀{H:Hp}{a:Addr}{xs:List V},Tb Pt Yh H→H a=some (.tup xs)→a≠Pt:=λhT h z=>by
  obtain⟨ps,hp,_⟩:=hT;rw[z,hp]at h;cases h
 have hTL:∀{H:Hp}{a:Addr}{xs:List V},Tb Pt Yh H→H a=some (.lst xs)→a≠Pt:=λhT h z=>by
  obtain⟨ps,hp,_⟩:=hT;rw[z,hp]at h;cases h
 have mk:∀{H H':Hp},Tb Pt Yh H→V8 Pt H H'→Zz H m l b es st→Zz H' m l b es st:=λhT e M=>by
  obtain⟨⟨e1,s1,ras,h1,h2,h3,h4,h5⟩,f,g,r⟩:=M;exact⟨⟨e1,s1,ras,e _ _ (uQ hT h1) h1,e _ _ (uQ hT h2) h2,e _ _ (uQ hT h3) h3,h4,λi a r q1 q2=>e _ _ (uQ hT (h5 i a r q1 q2)) (h5 i a r q1 q2)⟩,f,g,r⟩
 have M1:=M.same e1;have zL:=hT.same e1;have sK:=Ov st es (k0+1);have qW:=V2 st es (k0+1);have k5:=M.few.2.2;have Zok:=M.beg
 replace k:=λm' N H'=>k m' k0 N H'
 replace k:=λm' N H' a b=>k m' N H' a b hdn
 generalize lkN st es (k0+1)=L at sR sK qW k;clear hdn;have mY:∀j,j<st.length→atI (L.map nI) ((j:Nat):Int)=some (nI (L.getD j 0)):=λj hj=>Zj (by rw[rJ,(getD_mem (l:=L) (d:=0) (by rw[sK];exact hj)).2];rfl);refine⟨zL,λH2 f1 c1 ct1 doc1 e2 kR hf10 jB sE=>?_⟩;have M2:=mk zL e2 M1;have xC:=e2 _ _ (hTL zL sR) sR;obtain⟨eA,sA,ras,g1,g2,g3,g4,g5⟩:=M2.lay;refine⟨_,rfl,m,_,_,_,rfl,rfl,SqT.of g1,Zj (j:=0) rfl,_,rfl,_,rfl,m,_,_,_,rfl,rfl,SqT.of g1,Zj (j:=1) rfl,lp,_,_,_,rfl,rfl,SqL.of xC,mY b Zok,_,rfl,kR,λH3 f2 c2 ct2 e3 hT3 Zoh xJ z0 Ww B=>?_⟩;have M3:=mk kR e3 M2;have kK:=e3 _ _ (hTL kR xC) xC;have Zu:=CR Ww
 have hf3:=e3 _ _ (λz=>by
  obtain⟨ps,hp,_⟩:=kR;rw[z,hp]at jB
  cases jB) jB
 have hc3:=e3 _ _ (λz=>by
  obtain⟨ps,hp,_⟩:=kR;rw[z,hp]at sE
  cases sE) sE
 refine⟨_,_,CM Ww,f1,_,["room","letter"],f2,_,["room"],l,L.getD b 0,gL l st L,(λx=>decide (x∈es)),(λx=>x<st.length),(λH=>H lp=some (.lst (L.map nI))∧Zz H m l b es st∧H c1=some (CdO c1 ("least"++".<locals>."++"step"))∧H c2=some (CdO c2 ("least"++".<locals>."++"<lambda>"))),?_,?_,?_,?_,?_,rfl,?_,?_,M.few.2.1,hf3,xJ,⟨kK,M3,hc3,z0⟩,λm' H4 N e4 hN hM=>k m' N H4 ((e1.t.trans e2).trans (e3.trans e4.t)) (hT3.same e4) hN hM⟩
 ·refine Zmc (N:=["room","letter","likes","machine"]) (fv:=[.ref lp,.ref m]) ⟨rfl,rfl,rfl,by decide,rfl,by decide +kernel,by decide +kernel⟩ (B.cl (sc:=Zh W0) [1,0] rfl (by decide +kernel) rfl rfl (λj i x a b=>?_) (λj i x a b=>?_)) (λvs H Q E h=>?_) (λvs H Q E h=>?_) (λA outer s H vs Q E hr h=>?_)
  ·match j,a,b with
   | 0,a,b=>cases a;cases b;exact⟨rfl,rfl⟩
   | 1,a,b=>cases a;cases b;exact⟨rfl,rfl⟩
   |j+2,a,_=>simp at a
  ·match j,a,b with
   | 0,a,b=>cases a;cases b;rfl
   | 1,a,b=>cases a;cases b;rfl
   |j+2,a,_=>simp at a
  ·obtain⟨x,c,rfl,_⟩:=h;rfl
  ·obtain⟨x,c,rfl,_,_,h1,h2,_⟩:=h;exact⟨h1,h2.2.2.1⟩
  ·obtain⟨x,c,rfl,hx,hc,h1,⟨z8,yG,_,_⟩,k⟩:=h;refine⟨_,(Zg (Zq (Zr (Z2 (K:=K)) (pv 2) (Z5 Zu (hr.mono (by decide)) (Za (pv 3) (Za (pv 0) (Za (pv 1) Zb)))) (λ_ _=>rfl)))),?_⟩;have x5:=X3 yG hx hc;refine⟨_,rfl,_,rfl,_,rfl,_,rfl,m,l,b,es,st,x,one c,rfl,yG,hx,λd hd=>?_,lp,_,_,_,rfl,rfl,SqL.of z8,mY _ x5,k _ (Zm.refl _)⟩;rw[rL.mp hd];exact hc
 ·exact .all λus hl=>match us,hl with|[_,_],_=>rfl
 ·refine C1 (N:=["room","machine"]) (fv:=[.ref m]) ⟨rfl,rfl,rfl,by decide,rfl,by decide +kernel,by decide +kernel⟩ (B.cl (sc:=Zh W0) [0] rfl (by decide +kernel) rfl rfl (λj i x a b=>?_) (λj i x a b=>?_)) (λvs H Q E h=>?_) (λvs H Q E h=>?_) (λA outer s H vs Q E hr h=>?_)
  ·match j,a,b with
   | 0,a,b=>cases a;cases b;exact⟨rfl,rfl⟩
   |j+1,a,_=>simp at a
  ·match j,a,b with
   | 0,a,b=>cases a;cases b;rfl
   |j+1,a,_=>simp at a
  ·obtain⟨x,rfl,_⟩:=h;rfl
  ·obtain⟨x,rfl,_,h1,h2,_⟩:=h;exact⟨h1,h2.2.2.2⟩
  ·obtain⟨x,rfl,hx,h1,⟨z8,yG,_,_⟩,k⟩:=h;refine⟨_,(Yr (Lu (K:=K)) (pv 0) (Zr (Zp (K:=K)) (pv 1) Zf (λ_ _=>rfl)) (by with_unfolding_all rfl)),?_⟩;obtain⟨eA,sA,ras,g1,g2,g3,g4,g5⟩:=yG.lay;refine⟨_,rfl,_,rfl,m,_,_,_,rfl,rfl,SqT.of g1,Zj (j:=2) rfl,eA,_,rfl,.inr (SqT.of g2),rfl,Zaj es,?_⟩;have e:decide (x∈es)=inV (nI x) (es.map nI):=(Ze8 x es).symm;have k2:=k _ (Zm.refl _);have k3:Q (V.bl (decide (x∈es))) H:=k2;rw[e]at k3;exact k3
 ·exact .all λus hl=>match us,hl with|[_],_=>rfl
 ·exact λH1 H2 e ⟨a1,a2,a3,a4⟩=>⟨e _ _ a1,a2.same e,e _ _ a3,e _ _ a4⟩
 ·have:=qW.le b (by lia);show L.getD b 0<st.length;lia
 ·intro x hx;refine⟨rZ hx k5,λc hc=>?_⟩;have h1:=X3 M hx hc;have:=qW.le (stp l st x c) (by lia);show L.getD (stp l st x c) 0<st.length;lia
structure Wk(st:aB)(es:List Nat)(w:Nat)(k:ZD)(T:ZJ)(pl:ZF):Prop where
 key:∀x x',pl x→pl x'→(k x=k x'↔Fut st es w x x')
 len:∀x,pl x→(T x).length=w
 tgt:∀x,pl x→∀(j t:Nat),(T x)[j]?=some t→pl t∧Fut st es w t (stN st x j)
def Lk(st1:aB)(es1:List Nat)(st2:aB)(es2:List Nat)(w x y:Nat):Prop:=∀cs:List Nat,(∀c∈cs,c<w)→(Wb st1 x cs∈es1↔Wb st2 y cs∈es2)
def RR(st1:aB)(es1:List Nat)(p1:ZF)(st2:aB)(es2:List Nat)(p2:ZF)(w x y:Nat):Prop:=p1 x∧p2 y∧Lk st1 es1 st2 es2 w x y
section
variable {st1 st2:aB}{es1 es2:List Nat}{w:Nat}{k1 k2:ZD}{T1 T2:ZJ}{p1 p2:ZF}
theorem Wk.kr(W1:Wk st1 es1 w k1 T1 p1)(W2:Wk st2 es2 w k2 T2 p2):KR (RR st1 es1 p1 st2 es2 p2 w) k1 k2:=by
 rintro x y x' y' ⟨a1,a2,a⟩ ⟨b1,b2,b⟩;rw[W1.key x x' a1 b1,W2.key y y' a2 b2];exact⟨λh cs hc=>(a cs hc).symm.trans ((h cs hc).trans (b cs hc)),λh cs hc=>(a cs hc).trans ((h cs hc).trans (b cs hc).symm)⟩
theorem Wk.pw(W1:Wk st1 es1 w k1 T1 p1)(W2:Wk st2 es2 w k2 T2 p2):∀x y,RR st1 es1 p1 st2 es2 p2 w x y→Pw (RR st1 es1 p1 st2 es2 p2 w) (T1 x) (T2 y):=by
 rintro x y ⟨a1,a2,a⟩;refine Pw.of (by rw[W1.len x a1,W2.len y a2]) λi t u ht hu=>?_;obtain⟨c1,d1⟩:=W1.tgt x a1 i t ht;obtain⟨c2,d2⟩:=W2.tgt y a2 i u hu;have hi:i<w:=by rw[←W1.len x a1];exact(rH.mp ht).1
 refine⟨c1,c2,λcs hc=>(d1 cs hc).trans (Iff.trans ?_ (d2 cs hc).symm)⟩
 exact a (i :: cs) λc yA=>by
  rcases rT.mp yA with z|z
  ·rw[z];exact hi
  ·exact hc c z
theorem D9(W1:Wk st1 es1 w k1 T1 p1)(W2:Wk st2 es2 w k2 T2 p2){b1 b2 N1 N2:Nat}(h1:p1 b1)(h2:p2 b2)(hb:Lk st1 es1 st2 es2 w b1 b2)(hN1:(Zl k1 T1 b1 N1).length≤N1)(hN2:(Zl k2 T2 b2 N2).length≤N2):
  Xd k1 T1 (Zl k1 T1 b1 N1)=Xd k2 T2 (Zl k2 T2 b2 N2)∧Vi (Zl k1 T1 b1 N1) (λx=>decide (x∈es1))=Vi (Zl k2 T2 b2 N2) λx=>decide (x∈es2):=by
 have e1:=Xm hN1 (max N1 N2) (Nat.le_max_left _ _);have e2:=Xm hN2 (max N1 N2) (Nat.le_max_right _ _);rw[←e1,←e2];have h:=Pw.ord (W1.kr W2) (W1.pw W2) (show RR st1 es1 p1 st2 es2 p2 w b1 b2 from⟨h1,h2,hb⟩) (max N1 N2);exact⟨h.rows (W1.kr W2) (W1.pw W2),h.ends λx y r=>decide_eq_decide.mpr (r.2.2 [] λc hc=>nomatch hc)⟩
end
section
variable {st:aB}{es:List Nat}{w:Nat}{k:ZD}{T:ZJ}{pl:ZF}{b N:Nat}
theorem Wk.all(W:Wk st es w k T pl)(hb:pl b)(i:Nat):∀y∈Zl k T b i,pl y:=Ws hb (λx hx y hy=>by
 obtain⟨j,hj,e⟩:=iL hy
 exact(W.tgt x hx j y (by rw[rD hj,e])).1) i
theorem Wk.met(W:Wk st es w k T pl)(hb:pl b)(hN:(Zl k T b N).length≤N)(hx:(Zl k T b N)[i]?=some x)(hc:c<w):∃t y,(T x)[c]?=some t∧pl t∧(Xd k T (Zl k T b N))[i]?=some ((T x).map λt=>((Zl k T b N).map k).idxOf (k t))∧stN (Xd k T (Zl k T b N)) i c=((Zl k T b N).map k).idxOf (k t)∧(Zl k T b N)[((Zl k T b N).map k).idxOf (k t)]?=some y∧pl y∧Fut st es w y (stN st x c):=by
 have px:=W.all hb N x (rN hx);have hl:=W.len x px;have ht:(T x)[c]?=some ((T x)[c]'(by lia)):=rD (by lia);generalize (T x)[c]'(by lia)=t at ht;obtain⟨pt,ft⟩:=W.tgt x px c t ht;have hi:=(rH.mp hx).1;have hm:=U3 (k:=k) (T:=T) (b:=b) (n:=N) hx (by lia) (rN ht);have hd:=Kc hm;rw[rJ]at hd
 have Pc:(Xd k T (Zl k T b N))[i]?=some ((T x).map λt=>((Zl k T b N).map k).idxOf (k t)):=by
  unfold Xd;rw[rJ,hx];rfl
 cases hy:(Zl k T b N)[((Zl k T b N).map k).idxOf (k t)]? with
 |none=>rw[hy]at hd;cases hd
 |some y=>
  rw[hy]at hd;have ky:k y=k t:=Option.some.inj hd;have py:=W.all hb N y (rN hy);have fy:=(W.key y t py pt).mp ky;refine⟨t,y,ht,pt,Pc,?_,hy,py,λcs b8=>(fy cs b8).trans (ft cs b8)⟩;unfold stN;rw[rK (l:=Xd k T (Zl k T b N)),Pc];show ((T x).map λt=>((Zl k T b N).map k).idxOf (k t)).getD c 0=_;rw[rK,rJ,ht];rfl
theorem Wk.Zkc(W:Wk st es w k T pl)(hb:pl b)(hN:(Zl k T b N).length≤N):∀(cs:List Nat) (i x:Nat),(∀c∈cs,c<w)→(Zl k T b N)[i]?=some x→
  (Wb (Xd k T (Zl k T b N)) i cs∈Vi (Zl k T b N) (λx=>decide (x∈es))↔Wb st x cs∈es):=by
 intro cs
 induction cs with
 |nil=>
  intro i x _ hx;show i∈Vi _ _↔x∈es;unfold Vi;rw[iJ,pU,rK,hx];show _∧decide (x∈es)=true↔_;rw[decide_eq_true_eq];exact⟨λh=>h.2,λh=>⟨(rH.mp hx).1,h⟩⟩
 |cons c cs ih=>
  intro i x hc hx;obtain⟨t,y,ht,pt,Pc,hs,hy,py,fy⟩:=W.met hb hN hx (hc c rM);have b8:∀c∈cs,c<w:=λd hd=>hc d (rP _ hd);show Wb _ (stN _ i c) cs∈_↔_;rw[hs,ih _ y b8 hy];exact fy cs b8
theorem Wk.Uo(W:Wk st es w k T pl)(hb:pl b)(hN:(Zl k T b N).length≤N):Ny (Xd k T (Zl k T b N)) w:=by
 intro r hr;have hlen:(Xd k T (Zl k T b N)).length=(Zl k T b N).length:=by unfold Xd;rw[rC]
 obtain⟨x,hx,rfl⟩:=rY.mp hr;have px:=W.all hb N x hx;refine⟨by rw[rC];exact W.len x px,λy hy=>?_⟩;obtain⟨t,ht,rfl⟩:=rY.mp hy;obtain⟨i,hi,e⟩:=iL hx;have hm:=U3 (k:=k) (T:=T) (b:=b) (n:=N) (j:=i) (x:=x) (by rw[rD hi,e]) (by lia) ht;have:=iK hm;rw[rC]at this;rw[hlen];exact this
end
theorem S0{l:Str}(nd:l.cps.toList.Nodup)(hc:l.cps.toList[j]?=some c):stp l st x c=stN st x j:=by
 have hl:=len_list l
 have hD:∀v:Nat,v<l.length→l.cps.getD v 0=l.cps.toList.getD v 0:=λv hv=>by
  rw[rK,pW,Array.getD_eq_getD_getElem?]
 have hj:=(rH.mp hc).1
 have hf:Txt.find l (one c)=Txt.find3 l (one c) 0:=by
  unfold Txt.find Txt.find3;rfl
 have key:(Txt.find l (one c)).toNat=j:=by
  rcases StrLaws.find3_spec l c 0 with ⟨_,hn⟩|⟨k,hk,_,x5,n6⟩
  ·refine absurd ?_ (hn j ?_ (by lia))
   ·rw[hD j (by lia),rK,hc];rfl
   ·show _≤j;unfold PySem.fromIndex;simp
  ·rw[hf];have e:Txt.find3 l (one c) 0=(k:Int):=hk;rw[e];have e2:l.cps.getD k 0=c:=n6.1;rw[hD k (by lia),rK,rD (by lia)]at e2;have e3:l.cps.toList[k]'(by lia)=c:=e2;have i1:=pN nd k (by lia);have i2:=pN nd j hj;rw[(rH.mp hc).2]at i2;rw[e3,i2]at i1;lia
 unfold stp stN;rw[key]
theorem Iz{l:Str}(nd:l.cps.toList.Nodup){k:Nat}(R:Ny st l.length)(few:dn (lkN st es (k+1))≤dn (lkN st es k)):
  Wk st es l.length id (TL l (gL l st (lkN st es (k+1)))) λx=>x<st.length∧(lkN st es (k+1)).getD x 0=x:=by
 have hl:=len_list l;have lf:=V2 st es (k+1);have ll:=Ov st es (k+1);have le:=λ(i j:Nat) hi hj=>Zev (i:=i) (j:=j) R few hi hj;generalize lkN st es (k+1)=L at lf ll le;refine⟨λx x' hx l4=>?_,λx hx=>?_,λx hx j t ht=>?_⟩
 ·rw[←le x x' hx.1 l4.1,hx.2,l4.2];exact Iff.rfl
 ·unfold TL;rw[rC,hl]
 ·unfold TL at ht;rw[rJ]at ht
  cases hc:l.cps.toList[j]? with
  |none=>rw[hc]at ht;cases ht
  |some c=>
   rw[hc]at ht;have e:gL l st L x c=t:=Option.some.inj ht;have hj:=(rH.mp hc).1;unfold gL at e;rw[S0 nd hc]at e;have hs:=S2 R hx.1 (show j<l.length by lia);have l1:=lf.le (stN st x j) (by lia);have l2:=lf.own (stN st x j) (by lia);rw[e]at l1 l2;exact⟨⟨by lia,l2⟩,(le t (stN st x j) (by lia) hs).mp (by rw[l2,e])⟩
section
variable {α κ:Type} [BEq α] [LawfulBEq α] [DecidableEq κ] {φ:α→κ}
end
structure Zin(l:Str)(st:aB)(es:List Nat)(b:Nat)(stD:aB)(esD:List Nat)(k N:Nat):Prop where
 Uo:Ny st l.length
 beg:b<st.length
 few:dn (lkN st es (k+1))≤dn (lkN st es k)
 len:(Zl id (TL l (gL l st (lkN st es (k+1)))) ((lkN st es (k+1)).getD b 0) N).length≤N
 rows:Xd id (TL l (gL l st (lkN st es (k+1)))) (Zl id (TL l (gL l st (lkN st es (k+1)))) ((lkN st es (k+1)).getD b 0) N)=stD
 ends:Vi (Zl id (TL l (gL l st (lkN st es (k+1)))) ((lkN st es (k+1)).getD b 0) N) (λx=>decide (x∈es))=esD
theorem Zin.wk{l:Str}{k:Nat}(h:Zin l st es b stD esD k N):((lkN st es (k+1)).getD b 0<st.length∧(lkN st es (k+1)).getD ((lkN st es (k+1)).getD b 0) 0=(lkN st es (k+1)).getD b 0)∧Fut st es l.length ((lkN st es (k+1)).getD b 0) b:=by
 have lf:=V2 st es (k+1);have ll:=Ov st es (k+1);have hb:=h.beg;have l1:=lf.le b (by lia);have l2:=lf.own b (by lia);exact⟨⟨by lia,l2⟩,(Zev (i:=(lkN st es (k+1)).getD b 0) (j:=b) h.Uo h.few (by lia) hb).mp l2⟩
structure LM(l:Str)(P:YB)(stD:aB)(esD:List Nat):Prop where
 Uo:Ny stD l.length
 pos:0<stD.length
 ends:esD.length≤stD.length∧∀e∈esD,e<stD.length
 lg:∀cs,(∀c∈cs,c<l.length)→(Wb stD 0 cs∈esD↔P cs)
 is:∃st es b k N,Zin l st es b stD esD k N
theorem LM.of{l:Str}(nd:l.cps.toList.Nodup){k:Nat}(h:Zin l st es b stD esD k N):LM l (λcs=>Wb st b cs∈es) stD esD∧stD.length≤st.length:=by
 have W:=Iz nd h.Uo h.few;obtain⟨w1,w2⟩:=h.wk;have Zob:=Od (k:=id) (T:=TL l (gL l st (lkN st es (k+1)))) (b:=(lkN st es (k+1)).getD b 0) N
 have hlen:(Zl id (TL l (gL l st (lkN st es (k+1)))) ((lkN st es (k+1)).getD b 0) N).length≤st.length:=Rc (P:=λx=>x<st.length∧(lkN st es (k+1)).getD x 0=x) w1 (λx hx y hy=>by
  obtain⟨j,hj,e⟩:=iL hy
  exact(W.tgt x hx j y (by rw[rD hj,e])).1) (λx hx=>hx.1) N
 have hr:=W.Uo w1 h.len;have ht:∀cs,(∀c∈cs,c<l.length)→_:=λcs hc=>W.Zkc w1 h.len cs 0 _ hc Zob.2;have t6:(Xd id (TL l (gL l st (lkN st es (k+1)))) (Zl id (TL l (gL l st (lkN st es (k+1)))) ((lkN st es (k+1)).getD b 0) N)).length=(Zl id (TL l (gL l st (lkN st es (k+1)))) ((lkN st es (k+1)).getD b 0) N).length:=by unfold Xd;rw[rC]
 have j6:∀e∈Vi (Zl id (TL l (gL l st (lkN st es (k+1)))) ((lkN st es (k+1)).getD b 0) N) (λx=>decide (x∈es)),e<(Zl id (TL l (gL l st (lkN st es (k+1)))) ((lkN st es (k+1)).getD b 0) N).length:=λe he=>by
  unfold Vi at he;exact pU.mp (iJ.mp he).1
 have hen:(Vi (Zl id (TL l (gL l st (lkN st es (k+1)))) ((lkN st es (k+1)).getD b 0) N) (λx=>decide (x∈es))).length≤(Zl id (TL l (gL l st (lkN st es (k+1)))) ((lkN st es (k+1)).getD b 0) N).length:=by
  unfold Vi;exact pQ (dQ _ _) (by rw[rX];exact rG _)
 rw[h.rows]at hr t6 ht;rw[h.ends]at j6 hen ht;have hp:=Zob.1;exact⟨⟨hr,by lia,⟨by lia,λe he=>by have:=j6 e he;lia⟩,λcs hc=>(ht cs hc).trans (w2 cs hc),⟨st,es,b,k,N,h⟩⟩,by lia⟩
theorem LM.uniq{l:Str}(nd:l.cps.toList.Nodup){P Q:YB}{st1:aB}{es1:List Nat}{st2:aB}{es2:List Nat}(h1:LM l P st1 es1)(h2:LM l Q st2 es2)(q:∀cs,(∀c∈cs,c<l.length)→(P cs↔Q cs)):st1=st2∧es1=es2:=by
 obtain⟨s1,e1,b1,k1,n1,p1⟩:=h1.is;obtain⟨s2,e2,b2,k2,n2,p2⟩:=h2.is;obtain⟨a1,f1⟩:=p1.wk;obtain⟨a2,f2⟩:=p2.wk;have g1:=(LM.of nd p1).1.lg;have g2:=(LM.of nd p2).1.lg;have:=D9 (Iz nd p1.Uo p1.few) (Iz nd p2.Uo p2.few) a1 a2 (λcs hc=>(f1 cs hc).trans (((g1 cs hc).symm.trans ((h1.lg cs hc).trans ((q cs hc).trans ((h2.lg cs hc).symm.trans (g2 cs hc))))).trans (f2 cs hc).symm)) p1.len p2.len;rw[p1.rows,p1.ends,p2.rows,p2.ends]at this;exact this
theorem LM.Zhn{l:Str}{P:YB}(D:LM l P stD esD)(hl:0<l.length∧l.length≤3)(hs:stD.length≤216){m':Addr}(h:Wj H' m' l 0 esD stD):Zz H' m' l 0 esD stD:=⟨h,⟨hl.1,hl.2,hs⟩,D.pos,D.Uo⟩
def fx(l:Str)(c:Nat):Nat:=(Txt.find l (one c)).toNat
theorem Zch(l:Str)(st:aB):∀(t:List Nat) (r:Nat),way l st r t=Wb st r (t.map (fx l))
 |[],_=>rfl
 |c :: t,r=>Zch l st t (stp l st r c)
theorem Zl7{l:Str}{t:List Nat}(h:∀c∈t,c∈l.cps.toList):∀c∈t.map (fx l),c<l.length:=λc hc=>by
 obtain⟨d,hd,rfl⟩:=rY.mp hc;exact(Tw (h d hd)).2
theorem By{st:aB}{w:Nat}(R:Ny st w):∀(cs:List Nat) (r:Nat),r<st.length→(∀c∈cs,c<w)→Wb st r cs<st.length
 |[],_,hr,_=>hr
 |c :: cs,r,hr,h=>By R cs (stN st r c) (S2 R hr (h c rM)) λd hd=>h d (rP _ hd)
theorem V1(hy:y<n):(x*n+y)/n=x∧(x*n+y)%n=y:=by
 have hn:0<n:=by lia
 constructor
 ·rw[bZ,Nat.add_mul_div_right _ _ hn,Nat.div_eq_of_lt hy,Nat.zero_add]
 ·rw[bZ,Nat.add_mul_mod_self_right,Nat.mod_eq_of_lt hy]
theorem As{n1 n2:Nat}(hx:x<n1)(hy:y<n2):x*n2+y<n1*n2:=by
 have:(x+1)*n2≤n1*n2:=bG _ hx;rw[Nat.succ_mul]at this;lia
def gP(l:Str)(st1 st2:aB)(x c:Nat):Nat:=stp l st1 (x/st2.length) c*st2.length+stp l st2 (x%st2.length) c
def kP(n2 x:Nat):List Key:=[kI (x/n2),kI (x%n2)]
theorem Ze2{n2:Nat}(h:kP n2 x=kP n2 y):x=y:=by
 unfold kP at h;rw[List.cons.injEq,List.cons.injEq]at h;have h1:=Ts h.1;have h2:=Ts h.2.1;have a:=Nat.div_add_mod x n2;have b:=Nat.div_add_mod y n2;rw[h1,h2]at a;lia
theorem Tk.t{L:List aK}(e:V8 Pt H H')(t:Tb Pt L H):Tk H H':=λb ys h=>e b _ (λz=>by
 obtain⟨ps,hp,_⟩:=t;rw[z,hp]at h
 cases h) h
theorem Wj.keep{l:Str}(h:Wj H m l b es st)(k:Tk H H'):Wj H' m l b es st:=by
 obtain⟨e,s,ras,h1,h2,h3,h4,h5⟩:=h;exact⟨e,s,ras,k _ _ h1,k _ _ h2,k _ _ h3,h4,λi a r q1 q2=>k _ _ (h5 i a r q1 q2)⟩
theorem Zz.keep{H H':Hp}{m:Addr}{l:Str}{b:Nat}{es:List Nat}{st:aB}(h:Zz H m l b es st)(k:Tk H H'):Zz H' m l b es st:=⟨Wj.keep (b:=b) h.lay k,h.few,h.beg,h.rows⟩
def Zcb(Pt:Addr)(l:Str)(P:YB)(n:Nat)(H:Hp)(Q:VK):Prop:=∀m' stD esD H',V8 Pt H H'→Tb Pt Yh H'→LM l P stD esD→stD.length≤n→Wj H' m' l 0 esD stD→Q (.ref m') H'
inductive J3(Pt:Addr)(vs:List V)(H:Hp)(Q:VK):Prop
 |mk(m:Addr)(l:Str)(b:Nat)(es:List Nat)(st:aB)(h1:vs=[.ref m])(h2:Zz H m l b es st)(h3:es.length≤500)(h4:l.cps.toList.Nodup)(h5:Tb Pt Yh H)(h6:Zcb Pt l (λcs=>Wb st b cs∈es) st.length H Q):J3 Pt vs H Q
def Pu(Pt:Addr):Sp:=λvs H Q _=>J3 Pt vs H Q
theorem C0:∀vs H Q E,Pu Pt vs H Q E→Hk Pt vs H Q E:=by
 rintro vs H Q E ⟨m,l,b,es,st,rfl,M,v0,nd,T,k⟩;refine⟨m,l,b,es,st,rfl,M,v0,T,λm' k' N H' e T' few hN hL=>?_⟩;have h:=LM.of nd (stD:=_) (esD:=_) (k:=k') (N:=N) ⟨M.rows,M.beg,few,hN,rfl,rfl⟩;exact k m' _ _ H' e T' h.1 h.2 hL
def Kp2(P1 P2:Addr)(H H':Hp):Prop:=∀b o,b≠P1→b≠P2→H b=some o→H' b=some o
inductive Fj(vs:List V)(H:Hp)(Q:VK):Prop
 |mk(m1 m2 a:Addr)(l:Str)(b1 b2:Nat)(es1 es2:List Nat)(st1 st2:aB)(x y c:Nat)(h1:vs=[.ref m1,.ref m2,.ref a,.str (one c)])(h2:Zz H m1 l b1 es1 st1)(h3:Zz H m2 l b2 es2 st2)(h4:H a=some (.tup [nI x,nI y]))(h5:x<st1.length)(h6:y<st2.length)(h7:c∈l.cps.toList)(h8:∀r H',Zm H H'→H' r=some (.tup [nI (stp l st1 x c),nI (stp l st2 y c)])→Q (.ref r) H'):Fj vs H Q
def Hi:Sp:=λvs H Q _=>Fj vs H Q
theorem Ly(F:Fun K "pair_behind" "pair_behind" Ul f fd)(Z:Blt mg)(Zu:Cal P w K mg base "room_behind" 1 aY Te):Yc P w K mg base CX0 2 f fd ZP Hi:=by
 refine F.ok Lj (λvs H Q E h=>?_) (λcdv A outer s H vs Q E hr h=>?_)
 ·obtain⟨m1,m2,a,l,b1,b2,es1,es2,st1,st2,x,y,c,rfl,_⟩:=h;rfl
 obtain⟨m1,m2,a,l,b1,b2,es1,es2,st1,st2,x,y,c,rfl,M1,M2,ha,hx,hy,hc,k⟩:=h;refine⟨_,(Zg (Zq (Zw (Za (Z5 Zu (hr.mono (by decide)) (Za (pv 0) (Za (Zr (Zp (K:=K)) (pv 2) Zf (λ_ _=>rfl)) (Za (pv 3) Zb)))) (Za (Z5 Zu (hr.mono (by decide)) (Za (pv 1) (Za (Zr (Zp (K:=K)) (pv 2) Zf (λ_ _=>rfl)) (Za (pv 3) Zb)))) Zb))))),?_⟩;have yA:∀d∈(one c).cps.toList,d∈l.cps.toList:=λd hd=>by rw[rL.mp hd];exact hc
 refine⟨_,rfl,_,rfl,a,_,_,_,rfl,rfl,SqT.of ha,Zj (j:=0) rfl,_,rfl,m1,l,b1,es1,st1,x,one c,rfl,M1,hx,yA,?_⟩;refine⟨_,rfl,_,rfl,a,_,_,_,rfl,rfl,SqT.of ha,Zj (j:=1) rfl,_,rfl,m2,l,b2,es2,st2,y,one c,rfl,M2,hy,yA,(by show 2≤sizeLine;decide),λr hr=>?_⟩;exact k r _ (Zd hr _) Zc
abbrev O5:List aK:=[(⟨64,36,64,93⟩,"texts_from"++".<locals>."++"<lambda>")]
inductive Ziv(Px:Addr)(vs:List V)(H:Hp)(Q:VK):Prop
 |mk(m:Addr)(l:Str)(b:Nat)(es:List Nat)(st:aB)(r:Nat)(h1:vs=[.ref m,nI r])(h2:Zz H m l b es st)(h3:r<st.length)(h4:Tb Px O5 H)(h5:∀d H' N,V8 Px H H'→Tb Px O5 H'→TxD l (stp l st) r H' d (Zl id (TL l (stp l st)) r N) 300→(Zl id (TL l (stp l st)) r N).length≤N→Q (.ref d) H'):Ziv Px vs H Q
def Zkq(Px:Addr):Sp:=λvs H Q _=>Ziv Px vs H Q
theorem K9(F:Fun K "texts_from" "texts_from" Xb f fd)(Z:Blt mg){Px:Addr}(Sx:fd.code=.ref cw)(CH:W.CodeHd base cw Px)(BM:Qn mg base)
  (CW:∀base,Cal P w K mg base "walked" 3 ZM (Zgv P w K mg base 2)) (CR:∀base,Cal P w K mg base "room_behind" 1 aY Te):Yc P w K mg base CX0 4 f fd ZC (Zkq Px):=by
 refine F.okC K7 (λvs H Q E h=>?_) (λA outer s H vs Q E hr h=>?_)
 ·obtain⟨m,l,b,es,st,r,rfl,_⟩:=h;rfl
 obtain⟨m,l,b,es,st,r,rfl,M,t6,TX,kt⟩:=h;have Zcn:∀x∈O5,x.1.line=(⟨64,36,64,93⟩:Pos).line→x.1.col=(⟨64,36,64,93⟩:Pos).col→x.2 = "texts_from"++".<locals>."++"<lambda>":=λx hx _ _=>by rw[rL.mp hx]
 let Za1:=O5
 have Rw:=CW base;refine⟨_,(Zg (Zq (Zef Rw (hr.mono (by decide)) (Za (Zr (Zp (K:=K)) (pv 0) Zf (λ_ _=>rfl)) (Za (pv 1) (Za (Cf (L:=Za1) (sc:=Zh Xb) Sx CH BM (by first|exact rM|exact rP _ rM) Zcn) Zb)))))),?_⟩;obtain⟨eA,sA,rA,g1,g2,g3,g4,g5⟩:=M.lay;refine⟨_,rfl,m,_,_,_,rfl,rfl,SqT.of g1,Zj (j:=0) rfl,_,rfl,TX,λH2 f2 c2 ct2 e2 TX2 Zoh xJ z0 Ww B=>?_⟩;have M2:=M.keep (Tk.t e2 TX);have Zu:=CR Ww;refine⟨_,_,CW Ww,f2,_,["place","letter"],l,r,stp l st,(λx=>x<st.length),(λH=>Zz H m l b es st∧H c2=some (CdO c2 ("texts_from"++".<locals>."++"<lambda>"))),?_,?_,?_,rfl,t6,λx hx=>⟨rZ hx M.few.2.2,λc hc=>X3 M hx hc⟩,xJ,⟨M2,z0⟩,λd H3 N hd e3 T3 hN=>?_⟩
 ·refine C1 (N:=["place","letter","machine"]) (fv:=[.ref m]) ⟨rfl,rfl,rfl,by decide,rfl,by decide +kernel,by decide +kernel⟩ (B.cl (sc:=Zh Xb) [0] rfl (by decide +kernel) rfl rfl (λj i x a b=>?_) (λj i x a b=>?_)) (λvs H Q E h=>?_) (λvs H Q E h=>?_) (λA outer s H vs Q E hr h=>?_)
  ·match j,a,b with
   | 0,a,b=>cases a;cases b;exact⟨rfl,rfl⟩
   |j+1,a,_=>simp at a
  ·match j,a,b with
   | 0,a,b=>cases a;cases b;rfl
   |j+1,a,_=>simp at a
  ·obtain⟨x,c,rfl,_⟩:=h;rfl
  ·obtain⟨x,c,rfl,_,_,h1,h2,_⟩:=h;exact⟨h1,h2.2⟩
  ·obtain⟨x,c,rfl,hx,hc,h1,⟨q1,_⟩,k⟩:=h;refine⟨_,(Z5 Zu (hr.mono (by decide)) (Za (pv 2) (Za (pv 0) (Za (pv 1) Zb)))),?_⟩;exact⟨_,rfl,_,rfl,_,rfl,m,l,b,es,st,x,one c,rfl,q1,hx,λd hd=>by rw[rL.mp hd];exact hc,k _ (Zm.refl _)⟩
 ·exact .all λus hl=>match us,hl with|[_,_],_=>rfl
 ·exact λH1 H2 e ⟨a1,a2⟩=>⟨a1.same e,e _ _ a2⟩
 ·exact kt d H3 N (e2.trans e3.t) (TX2.same e3) T3 hN
abbrev O6:List aK:=[(⟨91,44,91,108⟩,"fork_words"++".<locals>."++"<lambda>")]
def tf(k:aT):List V:=[nI k.1,.str (one k.2.1),.str (one k.2.2)]
def G8(l:Str)(n:Nat)(k:aT):Prop:=k.1<n∧k.2.1∈l.cps.toList∧k.2.2∈l.cps.toList∧k.2.1<k.2.2
abbrev l2(k:aT):Str:=one k.2.1++one k.2.2
abbrev fb(l:Str)(st:aB)(k:aT):Nat:=stp l st k.1 k.2.1*st.length+stp l st k.1 k.2.2
theorem A2(k:aT):(l2 k).cps.toList=[k.2.1,k.2.2]:=rfl
inductive Zi7(Pw:Addr)(vs:List V)(H:Hp)(Q:VK):Prop
 |mk(m fa:Addr)(l:Str)(b:Nat)(es:List Nat)(st:aB)(k:aT)(h1:vs=[.ref m,.ref fa])(h2:Zz H m l b es st)(h3:H fa=some (.tup (tf k)))(h4:G8 l st.length k)(h5:st.length≤6)(h6:Tb Pw O6 H)(h7:∀d H' N,V8 Pw H H'→Tb Pw O6 H'→TxB (kP st.length) (gP l st st) (fb l st k) (l2 k) H' d (Zl id (TL (l2 k) (gP l st st)) (fb l st k) N) N 0→(Zl id (TL (l2 k) (gP l st st)) (fb l st k) N).length≤N→Q (.ref d) H'):Zi7 Pw vs H Q
def Zks(Pw:Addr):Sp:=λvs H Q _=>Zi7 Pw vs H Q
theorem Je(F:Fun K "fork_words" "fork_words" Xc f fd)(Z:Blt mg){Pw:Addr}(Sx:fd.code=.ref cw)(CH:W.CodeHd base cw Pw)(BM:Qn mg base)
  (CW:∀base,Cal P w K mg base "walked" 4 ZM (Zct P w K mg base 3)) (CB:∀base,Cal P w K mg base "pair_behind" 2 ZP Hi) (CR:∀base,Cal P w K mg base "room_behind" 1 aY Te):Yc P w K mg base CX0 5 f fd ["machine","fork"] (Zks Pw):=by
 refine F.okC Qs (λvs H Q E h=>?_) (λA outer s H vs Q E hr h=>?_)
 ·obtain⟨m,fa,l,b,es,st,k,rfl,_⟩:=h;rfl
 obtain⟨m,fa,l,b,es,st,k,rfl,M,eB,⟨k1,k2,k3,k4⟩,j3,TW,kt⟩:=h;have Zcn:∀x∈O6,x.1.line=(⟨91,44,91,108⟩:Pos).line→x.1.col=(⟨91,44,91,108⟩:Pos).col→x.2 = "fork_words"++".<locals>."++"<lambda>":=λx hx _ _=>by rw[rL.mp hx]
 let Za1:=O6
 have Rw:=CW base;have Zu:=CR base
 refine⟨_,(Ze (Zn (i:=2) Qs.nd (by rfl) (Or.inl (by rfl)) (Zw (Za (Z5 Zu (hr.mono (by decide)) (Za (pv 0) (Za (Zr (Zp (K:=K)) (pv 1) Zf (λ_ _=>rfl)) (Za (Zr (Zp (K:=K)) (pv 1) Zf (λ_ _=>rfl)) Zb)))) (Za (Z5 Zu (hr.mono (by decide)) (Za (pv 0) (Za (Zr (Zp (K:=K)) (pv 1) Zf (λ_ _=>rfl)) (Za (Zr (Zp (K:=K)) (pv 1) Zf (λ_ _=>rfl)) Zb)))) Zb)))) 
   (Zg (Zq (Zef Rw (hr.mono (by decide)) (Za (Z3 Xx (Zr (Zp (K:=K)) (pv 1) Zf (λ_ _=>rfl)) (Zr (Zp (K:=K)) (pv 1) Zf (λ_ _=>rfl))) (Za (pv 2) (Za (Cf (L:=Za1) (sc:=Zh Xc) Sx CH BM (by first|exact rM|exact rP _ rM) Zcn) Zb))))))),?_⟩
 refine(let x6:TS:=_;(?_:Zs _ x6 _ _ _));have o1:∀{c:Nat},c∈l.cps.toList→∀d∈(one c).cps.toList,d∈l.cps.toList:=λ{c} hc d hd=>by rw[rL.mp hd];exact hc
 refine⟨_,rfl,_,rfl,fa,_,_,_,rfl,rfl,SqT.of eB,Zj (j:=0) rfl,_,rfl,fa,_,_,_,rfl,rfl,SqT.of eB,Zj (j:=1) rfl,m,l,b,es,st,k.1,one k.2.1,rfl,M,k1,o1 k2,?_⟩;refine⟨_,rfl,_,rfl,fa,_,_,_,rfl,rfl,SqT.of eB,Zj (j:=0) rfl,_,rfl,fa,_,_,_,rfl,rfl,SqT.of eB,Zj (j:=2) rfl,m,l,b,es,st,k.1,one k.2.2,rfl,M,k1,o1 k3,(by show 2≤sizeLine;decide),λa0 uR=>?_⟩;have s1:=Zd uR (.tup [nI (stp l st k.1 k.2.1),nI (stp l st k.1 k.2.2)]);have h1a:upd H a0 (.tup [nI (stp l st k.1 k.2.1),nI (stp l st k.1 k.2.2)]) a0=_:=Zc;have TW1:=TW.same s1;have uJ:=s1 _ _ eB;have M1:=M.same s1;refine⟨_,rfl,fa,_,_,_,rfl,rfl,SqT.of uJ,Zj (j:=1) rfl,_,rfl,fa,_,_,_,rfl,rfl,SqT.of uJ,Zj (j:=2) rfl,_,_,rfl,rfl,(by show 2≤sizeLine;decide),_,rfl,TW1,λH2 f2 c2 ct2 e2 TW2 Zoh xJ z0 Ww B=>?_⟩;have kk:=Tk.t e2 TW1;have M2:=M1.keep kk;have h2a:=kk _ _ h1a;have Us:=CB Ww;have y1:∀x,x<st.length*st.length→x/st.length<st.length∧x%st.length<st.length:=λx hx=>⟨dU hx,bY _ (by lia)⟩
 have qK:∀{c:Nat},c∈(l2 k).cps.toList→c∈l.cps.toList:=λ{c} hc=>by
  rw[A2]at hc
  rcases rT.mp hc with e|e
  ·rw[e];exact k2
  ·rw[rL.mp e];exact k3
 have hgP:∀x c,x<st.length*st.length→c∈l.cps.toList→gP l st st x c<st.length*st.length:=λx c hx hc=>As (X3 M (y1 x hx).1 hc) (X3 M (y1 x hx).2 hc);have kv:∀x,(kP st.length x).map kV=[nI (x/st.length),nI (x%st.length)]:=λx=>rfl;have mJ:=X3 M k1 k2;have mK:=X3 M k1 k3;have mD:=V1 (x:=stp l st k.1 k.2.1) mK;have h66:st.length*st.length≤6*6:=Nat.mul_le_mul j3 j3;refine⟨_,_,CW Ww,f2,_,["pair","letter"],l2 k,a0,fb l st k,gP l st st,kP st.length,(λx=>x<st.length*st.length),(λH=>Zz H m l b es st∧H c2=some (CdO c2 ("fork_words"++".<locals>."++"<lambda>"))),?_,?_,?_,rfl,?_,As mJ mK,λx hx=>⟨by lia,λc hc=>hgP x c hx (qK hc)⟩,λx y _ _ h=>Ze2 h,xJ,⟨M2,z0⟩,λn n' c c' hn e1 e2=>?_,λd H3 N hd e3 T3 hN=>?_⟩
 ·refine C1 (N:=["pair","letter","machine"]) (fv:=[.ref m]) ⟨rfl,rfl,rfl,by decide,rfl,by decide +kernel,by decide +kernel⟩ (B.cl (sc:=Zh Xc) [0] rfl (by decide +kernel) rfl rfl (λj i x a b=>?_) (λj i x a b=>?_)) (λvs H Q E h=>?_) (λvs H Q E h=>?_) (λA outer s H vs Q E hr h=>?_)
  ·match j,a,b with
   | 0,a,b=>cases a;cases b;exact⟨rfl,rfl⟩
   |j+1,a,_=>simp at a
  ·match j,a,b with
   | 0,a,b=>cases a;cases b;rfl
   |j+1,a,_=>simp at a
  ·obtain⟨a,x,c,rfl,_⟩:=h;rfl
  ·obtain⟨a,x,c,rfl,_,_,_,h1,h2,_⟩:=h;exact⟨h1,h2.2⟩
  ·obtain⟨a,x,c,rfl,ha,hx,hc,h1,⟨q1,_⟩,k⟩:=h;refine⟨_,(Z5 Us (hr.mono (by decide)) (Za (pv 2) (Za (pv 2) (Za (pv 0) (Za (pv 1) Zb))))),?_⟩;refine⟨_,rfl,_,rfl,_,rfl,_,rfl,m,m,a,l,b,b,es,es,st,st,x/st.length,x%st.length,c,rfl,q1,q1,ha,(y1 x hx).1,(y1 x hx).2,qK hc,λr H' e' eS=>k r H' e' ?_⟩;rw[kv];have hd:=V1 (x:=stp l st (x/st.length) c) (X3 M (y1 x hx).2 (qK hc));show H' r=some (.tup [nI (gP l st st x c/st.length),nI (gP l st st x c%st.length)]);unfold gP;rw[hd.1,hd.2];exact eS
 ·exact .all λus hl=>match us,hl with|[_,_],_=>rfl
 ·exact λH1 H2 e ⟨a1,a2⟩=>⟨a1.same e,e _ _ a2⟩
 ·rw[kv,mD.1,mD.2];exact h2a
 ·rw[A2]at e1 e2
  match n,n',e1,e2,hn with
  | 0,1,e1,e2,_=>cases e1;cases e2;exact k4
  | 0,0,_,_,hn=>lia
  | 1,1,_,_,hn=>lia
  | 1,0,_,_,hn=>lia
  |n+2,_,e1,_,_=>simp at e1
  |_,n'+2,_,e2,_=>simp at e2
 ·exact kt d H3 N ((s1.t.trans e2).trans e3.t) (TW2.same e3) T3 hN
structure Kept(H H':Hp):Prop where
 a:∀{b:Addr}{o:HO},H b=some o→(∀t,o≠.tbl t)→(∀t,o≠.dT t)→H' b=some o
theorem Kept.trans(a:Kept H H1)(b:Kept H1 H2):Kept H H2:=⟨λh n m=>b.a (a.a h n m) n m⟩
theorem Zm.kept(e:Zm H H'):Kept H H':=⟨λh _ _=>e _ _ h⟩
theorem Kept.t(k:Kept H H'):Tk H H':=λb ys h=>k.a h (λ_=>nofun) λ_=>nofun
theorem Kept.l(k:Kept H H'){b:Addr}(h:H b=some (.lst xs)):H' b=some (.lst xs):=k.a h (λ_=>nofun) λ_=>nofun
theorem Kept.put{H5:Hp}{o:HO}(k2:Kept H H2)(hp:H2 p=none)(k:Kept H H5):Kept H (upd H5 p o):=⟨λ{b o'} h n m=>by
 by_cases c:b=p
 ·subst c;rw[k2.a h n m]at hp;cases hp
 ·exact(Zk c).trans (k.a h n m)⟩
structure Cz(ts:aH)(H:Hp):Prop where
 a:∀q∈ts,Tb q.1 q.2 H
 n:(ts.map (·.1)).Nodup
theorem Zf6{ts:aH}(nd:(ts.map (·.1)).Nodup){q r:Addr×List aK}(hq:q∈ts)(hr:r∈ts)(e:q.1=r.1):q=r:=by
 induction ts with
 |nil=>cases hq
 |cons t ts ih=>
  rw[rW,lI]at nd
  rcases rT.mp hq with a|a<;>rcases rT.mp hr with b|b
  ·rw[a,b]
  ·exact absurd (rY.mpr ⟨r,b,by rw[←e,a]⟩) nd.1
  ·exact absurd (rY.mpr ⟨q,a,by rw[e,b]⟩) nd.1
  ·exact ih nd.2 a b
theorem Tb.drew{L:List aK}(t:Tb Pt L H)(F:Yw H p sc)(d:Xt H H' p):Tb Pt L H':=by
 obtain⟨ps,h1,h2,h3⟩:=t;obtain⟨xs,hp,_⟩:=F.here;refine⟨ps,d _ _ h1 (Xr h1 hp λz=>nomatch z),h2,λx hx=>(h3 x hx).imp id λ⟨c,a,b⟩=>⟨c,a,d _ _ b (Xr b hp λz=>nomatch z)⟩⟩
structure Zik(ts:aH)(Pl Px Pw:Addr):Prop where
 l:(Pl,Yh)∈ts
 x:(Px,O5)∈ts
 w:(Pw,O6)∈ts
section
variable {ts:aH}{Pl Px Pw:Addr}{H H':Hp}
theorem Cz.same(T:Cz ts H)(e:Zm H H'):Cz ts H':=⟨λq h=>(T.a q h).same e,T.n⟩
theorem Cz.drew{p sc:Addr}(T:Cz ts H)(F:Yw H p sc)(d:Xt H H' p):Cz ts H':=⟨λq h=>Tb.drew (T.a q h) F d,T.n⟩
theorem Tb.mv{L:List aK}(t:Tb Pt L H)(e:∀b o,H b=some o→(∀xs,o≠.lst xs)→(∀x,o≠.dT x)→(∀a b,o≠.frz a b)→H' b=some o):Tb Pt L H':=by
 obtain⟨ps,h1,h2,h3⟩:=t;exact⟨ps,e _ _ h1 (λ_=>nofun) (λ_=>nofun) (λ_ _=>nofun),h2,λx hx=>(h3 x hx).imp id λ⟨c,a,b⟩=>⟨c,a,e _ _ b (λ_=>nofun) (λ_=>nofun) (λ_ _=>nofun)⟩⟩
theorem Cz.put(T:Cz ts H)(h:H p=some (.lst xs))(o:HO):Cz ts (upd H p o):=⟨λq hq=>Tb.mv (T.a q hq) λb _ hb n _ _=>(Zk (Xr hb h (n _))).trans hb,T.n⟩
theorem Cz.go(T:Cz ts H){A B:Addr}{L M:List aK}(ha:(A,L)∈ts)(hb:(B,M)∈ts)(e:Kp2 A B H H')(ta:Tb A L H')(tb:Tb B M H'):Kept H H'∧Cz ts H':=by
 obtain⟨ps,pa,_⟩:=T.a _ ha;obtain⟨qs,pb,_⟩:=T.a _ hb;have at_:∀{b:Addr}{o:HO},H b=some o→(∀t,o≠.tbl t)→H' b=some o:=λh ho=>e _ _ (Xr h pa (ho _)) (Xr h pb (ho _)) h;refine⟨⟨λh n _=>at_ h n⟩,λq hq=>?_,T.n⟩
 ·by_cases c:q.1=A
  ·rw[Zf6 T.n hq ha c];exact ta
  ·by_cases d:q.1=B
   ·rw[Zf6 T.n hq hb d];exact tb
   ·obtain⟨rs,h1,h2,h3⟩:=T.a q hq;exact⟨rs,e _ _ c d h1,h2,λx hx=>(h3 x hx).imp id λ⟨c,a,b⟩=>⟨c,a,at_ b λ_=>nofun⟩⟩
theorem Cz.go1(T:Cz ts H){A:Addr}{L:List aK}(ha:(A,L)∈ts)(e:V8 A H H')(ta:Tb A L H'):Kept H H'∧Cz ts H':=T.go ha ha (λb o n _ h=>e b o n h) ta ta
end
def fkR(cs:List Nat)(r:Nat):List aZ:=(List.range cs.length).flatMap λi=>(cs.drop (i+1)).map λd=>(r,cs.getD i 0,d)
def N7(cs:List Nat)(n:Nat):List aZ:=(List.range n).flatMap (fkR cs)
theorem Zfp{l:Str}(hp:l.cps.toList.Pairwise (·<·)){k:aT}:k∈N7 l.cps.toList n↔G8 l n k:=by
 obtain⟨r,c,d⟩:=k;unfold N7 fkR G8;simp only[List.mem_flatMap,pU,rY,Prod.mk.injEq];constructor
 ·rintro⟨r',hr,i,hi,d',hd,rfl,rfl,rfl⟩;have hc:l.cps.toList.getD i 0=l.cps.toList[i]:=by rw[rK,rD hi];rfl
  rw[hc];obtain⟨j,hj,e⟩:=pL.mp hd;rw[List.getElem_drop]at e;rw[oY]at hj;refine⟨hr,oG _,List.mem_of_mem_drop hd,?_⟩;rw[←e];exact fS.mp hp i (i+1+j) hi (by lia) (by lia)
 ·rintro⟨hr,hc,hd,x5⟩;obtain⟨i,hi,rfl⟩:=pL.mp hc;obtain⟨j,hj,rfl⟩:=pL.mp hd
  have mG:i<j:=by
   rcases Nat.lt_trichotomy i j with z|z|z
   ·exact z
   ·subst z;exact absurd x5 (oT _)
   ·exact absurd (fS.mp hp j i hj hi z) (by lia)
  refine⟨r,hr,i,hi,l.cps.toList[j],?_,rfl,by rw[rK,rD hi];rfl,rfl⟩;exact pL.mpr ⟨j-(i+1),by rw[oY];lia,by rw[List.getElem_drop];congr 1;lia⟩
theorem D7(z:Str)(n:Nat):(Txt.slice z (some ((n:Nat):Int)) none).cps.toList=z.cps.toList.drop n:=by
 rw[slice_list,HT.Zdi,HT.Zgy];have hl:=len_list z
 rcases Nat.le_total n z.length with h|h
 ·rw[Nat.min_eq_left h,iM];rw[oY];lia
 ·rw[Nat.min_eq_right h,Nat.sub_self,List.take_zero,cO (by lia)]
inductive Fm(vs:List V)(H:Hp)(Q:VK):Prop
 |mk(m:Addr)(l:Str)(b:Nat)(es:List Nat)(st:aB)(h1:vs=[.ref m])(h2:Zz H m l b es st)(h3:st.length≤6)(h4:∀p ys H',H p=none→Zm H H'→H' p=some (.lst ys)→TR tf H' ys (N7 l.cps.toList st.length)→Q (.ref p) H'):Fm vs H Q
def Hm:Sp:=λvs H Q _=>Fm vs H Q
theorem Zej(F:Fun K "forks" "forks" Mp f fd)(Z:Blt mg):Yc P w K mg base CX0 1 f fd aX Hm:=by
 refine F.ok Uz (λvs H Q E h=>?_) (λcdv A outer s H vs Q E hr h=>?_)
 ·obtain⟨m,l,b,es,st,rfl,_⟩:=h;rfl
 obtain⟨m,l,b,es,st,rfl,M,j3,k⟩:=h
 refine⟨_,(Ze (Zn (i:=1) Uz.nd (by rfl) (Or.inl (by rfl)) (Zr (Zp (K:=K)) (pv 0) Zf (λ_ _=>rfl))) 
   (Ze (Zn (i:=2) Uz.nd (by rfl) (Or.inl (by rfl)) (Zx Zb)) 
   (Ze (Y5 pP (by rfl) (Xz (by rfl) Z.range (Za (Zt (Yo (K:=K)) (by rfl) Z.len Y3 (Za (Zr (Zp (K:=K)) (pv 0) Zf (λ_ _=>rfl)) Zb)) Zb)) (Zo (i:=3) Uz.nd (by rfl) (Or.inr (by rfl))) 
    (Zg (Y5 pP (by rfl) (Zd4 (by rfl) Z.enumerate (pv 1)) (Vo (K:=K) (n:=2) (by rfl) (Yb (Zo (i:=4) Uz.nd (by rfl) (Or.inl (by rfl))) (Yb (Zo (i:=5) Uz.nd (by rfl) (Or.inr (by rfl))) Vb))) 
     (Zg (W8 (Wd (K:=K) oF PySem.F.slot_list_extend PySem.F.type_list_extend J6 (pv 2) (Za (Yj (sc:=Zh Mp) (Nm:=ZX) (own:=["later"]) (fr:=[3,5]) ⟨rfl,by decide +kernel,by decide +kernel,by decide +kernel,by decide +kernel⟩ (by rfl) (Ye (by decide)) (Up (U2 Zku (pv 1) (Rz (Z3 Xn (pv 4) Zf)) R0)) (λd=>(Zo (i:=0) Cp (by rfl) (Or.inl (by rfl)))) (λd=>Ym) (λd=>(Zw (Za (pv 1) (Za (pv 2) (Za (pv 0) Zb)))))) Zb))))))) 
   (Zg (Zq (pv 2)))))),?_⟩
 refine(let x6:TS:=_;let x8:TS:=Zs _ x6;let y6:TS:=Zs _ x8;(?_:Zs _ y6 _ _ _));obtain⟨eA,sA,rA,g1,g2,g3,g4,g5⟩:=M.lay;have hll:=len_list l;have xO:=M.few.2.1;refine⟨_,rfl,m,_,_,_,rfl,rfl,SqT.of g1,Zj (j:=0) rfl,?_⟩;refine⟨(by show 0≤sizeLine;decide),λp hp=>?_⟩;generalize eZ:upd H p _=H1;have s1:=nS7 eZ hp;have kJ:=nU7 eZ;have t6:(rA.map V.ref).length=st.length:=by rw[rC,g4]
 refine⟨_,rfl,m,_,_,_,rfl,rfl,SqT.of (s1 _ _ g1),Zj (j:=3) rfl,sA,_,rfl,.inr (SqT.of (s1 _ _ g3)),_,rfl,by lia,by lia,?_⟩;refine U8 (lo:=0) (n:=((((rA.map V.ref).length:Nat):Int)).toNat) (λi σ H2=>∃(ys:List V) (v3 v4 v5:Option V),σ=[some (.ref m),some (.str l),some (.ref p),v3,v4,v5]∧H2 p=some (.lst ys)∧ys.length≤9*i∧Zm H H2∧TR tf H2 ys ((List.range i).flatMap (fkR l.cps.toList))) ⟨[],none,none,none,rfl,kJ,oC _,s1,.nil⟩ ?_ ?_
 ·rintro i σ H2 hi ⟨ys,v3,v4,v5,rfl,j4,y2,e2,R2⟩;have hi6:i<6:=by lia
  refine⟨_,rfl,l,rfl,?_⟩;refine Rm (xs:=sgV l) (λj σ H3=>∃(ys:List V) (v4 v5:Option V),σ=[some (.ref m),some (.str l),some (.ref p),some (.int (0+(i:Int))),v4,v5]∧H3 p=some (.lst ys)∧ys.length≤9*i+3*j∧Zm H H3∧TR tf H3 ys ((List.range i).flatMap (fkR l.cps.toList)++(List.range j).flatMap λq=>(l.cps.toList.drop (q+1)).map λd=>(i,l.cps.toList.getD q 0,d))) ⟨ys,v4,v5,rfl,j4,by lia,e2,by rw[List.range_zero,List.flatMap_nil,lZ];exact R2⟩ (λ_ _ _ _ _=>rfl) ?_ ?_
  ·rintro j x σ H3 q hx ⟨ys,v4,v5,rfl,wQ,y3,e3,R3⟩ hq;obtain⟨c,uT,rfl⟩:=Zdd hx;have hc:l.cps.toList[j]?=some c:=by rw[pW];exact uT
   have hj:=(rH.mp hc).1;generalize eZ:upd H3 q _=H4;have s4:=nS7 eZ hq;have uM:=nU7 eZ;have h4p:=s4 _ _ wQ;have R4:=R3.keep (Tk.same s4);have e4:=e3.trans s4;have xT:=D7 l (j+1);have hsj:(((j+1:Nat):Nat):Int)=(j:Int)+1:=by lia
   rw[hsj]at xT;have hsn:(Txt.slice l (some ((j:Int)+1)) none).length≤3:=pQ (Txt.slice_le l _ _) xO;have hsn':=len_list (Txt.slice l (some ((j:Int)+1)) none);refine⟨q,_,rfl,SqT.of uM,rfl,_,_,rfl,_,_,rfl,rfl,_,rfl,.inl ⟨rfl,_,SqL.of h4p⟩,_,rfl,_,rfl,_,_,rfl,rfl,_,rfl,l,rfl,Xe (by lia),_,rfl,?_⟩
   refine Ta (cs:=(Txt.slice l (some ((j:Int)+1)) none).cps.toList) (λn acc H5=>Zm H4 H5∧TR tf H5 acc (((Txt.slice l (some ((j:Int)+1)) none).cps.toList.take n).map λd=>(i,c,d))) (Z0 (by lia)) ⟨Zm.refl _,.nil⟩ (λn acc H5 z=>by rw[z.2.len,rC,pR];exact lT _ _)
    (λn acc H5 d hd z=>?_) (λacc H5 z y hy=>?_)
   ·obtain⟨e5,R5⟩:=z;refine U9 ⟨_,rfl,_,rfl,_,rfl,(by show 3≤sizeLine;decide),λt ht=>⟨e5.trans (Zd ht _),?_⟩⟩;rw[map_take hd];refine(R5.keep (Tk.same (Zd ht _))).snoc ?_;rw[Zc];show some (HO.tup [V.int (0+(i:Int)),.str ⟨#[c]⟩,.str ⟨#[d]⟩])=some (HO.tup [nI i,.str (one c),.str (one d)]);rw[bF];rfl
   ·obtain⟨e5,R5⟩:=z;rw[pZ,xT]at R5;have s6:=Zd hy (.lst acc);have sQ:=e5.trans s6;have h6p:=sQ _ _ h4p;have l1:=R4.len;have l2:=R5.len;rw[rC,oY]at l2;refine⟨p,y,_,_,rfl,rfl,h6p,Zc,?_,?_⟩
    ·rw[sizeLine_eq];lia
    ·refine⟨_,_,_,rfl,Zc,by rw[rS];lia,Yi (e4.trans sQ) hp _,?_⟩;rw[fL,List.flatMap_append,←iH,bX,List.flatMap_nil,lZ,show l.cps.toList.getD j 0=c from by rw[rK,hc];rfl];have K6:=Tk.lst h6p (.lst (ys++acc));exact((R5.keep (Tk.same s6)).keep K6).app ((R4.keep (Tk.same sQ)).keep K6)
  ·rintro σ H3 ⟨ys,v4,v5,rfl,wQ,y3,e3,R3⟩;have xT:(sgV l).length=l.cps.toList.length:=rC ..;refine⟨ys,_,_,_,rfl,wQ,by lia,e3,?_⟩;rw[fL,List.flatMap_append,bX,List.flatMap_nil,lZ];rw[show (sgV l).length=l.cps.toList.length from rC ..]at R3;exact R3
 ·rintro σ H2 ⟨ys,v3,v4,v5,rfl,j4,_,e2,R2⟩;rw[show ((((rA.map V.ref).length:Nat):Int)).toNat=st.length from by lia]at R2;exact⟨_,rfl,k p ys H2 hp e2 j4 R2⟩
theorem Zeg{k:ZD}{M:Nat}(h1:(Zl k T b N).length≤N)(h2:(Zl k T b M).length≤M):Zl k T b N=Zl k T b M:=by
 rcases Nat.le_total N M with h|h
 ·exact(Xm h1 M h).symm
 ·exact Xm h2 N h
theorem str_none{z:Str}:z.cps.toList=[]↔V.str z=V.str (Str.ofString ""):=by
 have e:(Str.ofString "").cps.toList=[]:=by decide +kernel
 constructor
 ·intro h;refine congrArg V.str ?_
  cases z with
  |mk a=>
   have:a = #[]:=Array.toList_inj.mp h;rw[this];decide +kernel
 ·intro h
  injection h with h
  rw[h,e]
def Zmn(l:Str)(st:aB)(r c:Nat)(z:Str):Prop:=r<st.length∧c∈l.cps.toList∧(∀d∈z.cps.toList,d∈l.cps.toList)∧z.length≤300∧stp l st r c≠r∧way l st (stp l st r c) z.cps.toList=r
def G7(l:Str)(st:aB)(r:Nat):Prop:=∀c∈l.cps.toList,∀N,(Zl id (TL l (stp l st)) (stp l st r c) N).length≤N→r∈Zl id (TL l (stp l st)) (stp l st r c) N→stp l st r c=r
def Iy(l:Str)(st:aB)(H:Hp)(v:V):Prop:=∃a r c z,v=.ref a∧H a=some (.tup [.str "ring",nI r,.str (one c),.str z])∧Zmn l st r c z
inductive Zi2(ts:aH)(vs:List V)(H:Hp)(Q:VK):Prop
 |mk(m:Addr)(l:Str)(b:Nat)(es:List Nat)(st:aB)(r:Nat)(h1:vs=[.ref m,nI r])(h2:Zz H m l b es st)(h3:r<st.length)(h4:Cz ts H)(h5:∀v H',Kept H H'→Cz ts H'→(Iy l st H' v∨(v=.non∧G7 l st r))→Q v H'):Zi2 ts vs H Q
def Zm9(ts:aH):Sp:=λvs H Q _=>Zi2 ts vs H Q
section
variable {ts:aH}{Pl Px Pw:Addr}
theorem Cm(U:Zik ts Pl Px Pw)(F:Fun K "ring_at" "ring_at" Nb f fd)(Z:Blt mg)(Sg:Cal P w K mg base "texts_from" 4 ZC (Zkq Px))(Zu:Cal P w K mg base "room_behind" 1 aY Te):Yc P w K mg base CX0 5 f fd ZC (Zm9 ts):=by
 refine F.ok Q4 (λvs H Q E h=>?_) (λcdv A outer s H vs Q E hr h=>?_)
 ·obtain⟨m,l,b,es,st,r,rfl,_⟩:=h;rfl
 obtain⟨m,l,b,es,st,r,rfl,M,t6,T,k⟩:=h
 refine⟨_,(Ze (Y5 pP (by rfl) (Up (Zr (Zp (K:=K)) (pv 0) Zf (λ_ _=>rfl))) (Zo (i:=2) Q4.nd (by rfl) (Or.inl (by rfl))) 
    (Ze (Zn (i:=3) Q4.nd (by rfl) (Or.inl (by rfl)) (Z5 Sg (hr.mono (by decide)) (Za (pv 0) (Za (Z5 Zu (hr.mono (by decide)) (Za (pv 0) (Za (pv 1) (Za (pv 2) Zb)))) Zb)))) 
    (Zg (Ys (Z6 Ss (Ec (Wv hr) (pv 3) (pv 1) Wr ⟨rfl,rfl,rfl,rfl⟩) Wr (Zy _)) 
     (Zg (Zq (Zw (Za Wr (Za (pv 1) (Za (pv 2) (Za (To (Wv hr) (pv 3) (pv 1) (λ_ _=>rfl)) Zb))))))) Z1)))) 
   (Zg (Zq V0))),?_⟩
 refine(let x6:TS:=_;let x8:TS:=_;let y6:TS:=Zs _ x8;(?_:Zs (O7 _ _ y6) x6 _ _ _));obtain⟨eA,sA,rA,g1,g2,g3,g4,g5⟩:=M.lay;refine⟨_,rfl,m,_,_,_,rfl,rfl,SqT.of g1,Zj (j:=0) rfl,l,rfl,?_⟩;refine Mu (cs:=l.cps.toList) (λi σ Hj=>∃v2 v3,σ=[some (.ref m),some (nI r),v2,v3]∧Kept H Hj∧Cz ts Hj∧∀c∈l.cps.toList.take i,∀N,(Zl id (TL l (stp l st)) (stp l st r c) N).length≤N→r∈Zl id (TL l (stp l st)) (stp l st r c) N→stp l st r c=r) ⟨none,none,rfl,⟨λh _ _=>h⟩,T,λc hc=>(by cases hc)⟩ ?_ ?_
 ·rintro i c σ Hj hc ⟨v2,v3,rfl,kj,Tj,g9⟩;have m6:=rN hc;have Mj:=M.keep kj.t;have o1:∀d∈(one c).cps.toList,d∈l.cps.toList:=λd hd=>by rw[rL.mp hd];exact m6
  refine⟨_,rfl,_,rfl,_,rfl,_,rfl,m,l,b,es,st,r,one c,rfl,Mj,t6,o1,m,l,b,es,st,stp l st r c,rfl,Mj,X3 M t6 m6,Tj.a _ U.x,λd H1 N e1 TX1 T1 hN=>?_⟩;obtain⟨k1,Tc1⟩:=Tj.go1 U.x e1 TX1;obtain⟨kvs,c7,uW,n9⟩:=T1;have qQ:=kj.trans k1
  have more:∀{Q:Prop},(stp l st r c=r∨r∉Zl id (TL l (stp l st)) (stp l st r c) N)→∀x∈l.cps.toList.take (i+1),∀N,(Zl id (TL l (stp l st)) (stp l st r x) N).length≤N→r∈Zl id (TL l (stp l st)) (stp l st r x) N→stp l st r x=r:=λ{_} h x hx N' h1 h2=>by
   rw[oK,hc]at hx
   rcases oB.mp hx with q|q
   ·exact g9 x q N' h1 h2
   ·have:x=c:=rL.mp q;subst this
    rcases h with h|h
    ·exact h
    ·rw[Zeg h1 hN]at h2;exact absurd h2 h
  have isd:IsD H1 d:=by first|exact .inl ⟨_,.inl c7⟩|exact⟨_,c7⟩|exact .inl ⟨_,c7⟩
  by_cases x9:r∈Zl id (TL l (stp l st)) (stp l st r c) N
  ·obtain⟨q,hq,hv,hqk⟩:=Rj uW x9;obtain⟨z,hz,xU,hw1,vE,hw3⟩:=n9 q hq;rw[hz]at hv;rw[hqk]at vE hw3;refine⟨_,rfl,d,rfl,isd,_,rfl,_,V9.k (k:=kI r) c7,?_⟩;rw[hv];refine⟨rfl,_,rfl,?_⟩
   by_cases h0:z.cps.toList=[]
   ·refine ifN (by show (!decide (V.str z=V.str (Str.ofString "")))=false;rw[decide_eq_true (str_none.mp h0)];rfl) ?_;rw[h0]at vE;exact⟨_,_,rfl,qQ,Tc1,more (Q:=True) (.inl (Ts vE).symm)⟩
   ·refine ifY (by show (!decide (V.str z=V.str (Str.ofString "")))=true;rw[decide_eq_false λe=>h0 (str_none.mpr e)];rfl) ?_;refine⟨_,rfl,_,rfl,_,rfl,_,rfl,d,.str z,rfl,hv▸V9.k (k:=kI r) c7,(by show 4≤sizeLine;decide),λa ha=>?_⟩;have s2:=Zd ha (.tup [.str "ring",nI r,.str (one c),.str z]);refine k (.ref a) _ (qQ.trans (Zm.kept s2)) (Tc1.same s2) (.inl ⟨a,r,c,z,rfl,Zc,t6,m6,hw1,xU,λe=>h0 (hw3 (by rw[e])),?_⟩);exact(Ts vE).symm
  ·refine⟨_,rfl,d,rfl,isd,_,rfl,_,V9.k (k:=kI r) c7,?_⟩;rw[Ms uW x9];exact⟨rfl,_,rfl,ifN (by decide +kernel) ⟨_,_,rfl,qQ,Tc1,more (Q:=True) (.inr x9)⟩⟩
 ·rintro σ Hj ⟨v2,v3,rfl,kj,Tj,g9⟩;rw[pZ]at g9;exact k _ _ kj Tj (.inr ⟨rfl,g9⟩)
inductive Zi1(ts:aH)(vs:List V)(H:Hp)(Q:VK):Prop
 |mk(m:Addr)(l:Str)(b:Nat)(es:List Nat)(st:aB)(h1:vs=[.ref m])(h2:Zz H m l b es st)(h3:Cz ts H)(h4:∀v H',Kept H H'→Cz ts H'→(Iy l st H' v∨(v=.non∧∀r,r<st.length→G7 l st r))→Q v H'):Zi1 ts vs H Q
def Zm8(ts:aH):Sp:=λvs H Q _=>Zi1 ts vs H Q
theorem Ck(F:Fun K "ring_in" "ring_in" Na f fd)(Z:Blt mg)(N0:Cal P w K mg base "ring_at" 5 ZC (Zm9 ts)):Yc P w K mg base CX0 6 f fd aX (Zm8 ts):=by
 refine F.ok Q3 (λvs H Q E h=>?_) (λcdv A outer s H vs Q E hr h=>?_)
 ·obtain⟨m,l,b,es,st,rfl,_⟩:=h;rfl
 obtain⟨m,l,b,es,st,rfl,M,T,k⟩:=h
 refine⟨_,(Ze (Y5 pP (by rfl) (Xz (by rfl) Z.range (Za (Zt (Yo (K:=K)) (by rfl) Z.len Y3 (Za (Zr (Zp (K:=K)) (pv 0) Zf (λ_ _=>rfl)) Zb)) Zb)) (Zo (i:=1) Q3.nd (by rfl) (Or.inl (by rfl))) 
    (Ze (Zn (i:=2) Q3.nd (by rfl) (Or.inl (by rfl)) (Z5 N0 (hr.mono (by decide)) (Za (pv 0) (Za (pv 1) Zb)))) 
    (Zg (Ys (Z6 Av (pv 2) V0 (Zy _)) 
     (Zg (Zq (pv 2))) Z1)))) 
   (Zg (Zq V0))),?_⟩
 refine(let x6:TS:=_;let x8:TS:=_;let y6:TS:=Zs _ x8;(?_:Zs (O7 _ _ y6) x6 _ _ _));obtain⟨eA,sA,rA,g1,g2,g3,g4,g5⟩:=M.lay;have k5:=M.few.2.2;have t6:(rA.map V.ref).length=st.length:=by rw[rC,g4]
 refine⟨_,rfl,m,_,_,_,rfl,rfl,SqT.of g1,Zj (j:=3) rfl,sA,_,rfl,.inr (SqT.of g3),_,rfl,by lia,by lia,?_⟩;refine U8 (lo:=0) (n:=((((rA.map V.ref).length:Nat):Int)).toNat) (λi σ Hj=>∃v1 v2,σ=[some (.ref m),v1,v2]∧Kept H Hj∧Cz ts Hj∧∀r,r<i→G7 l st r) ⟨none,none,rfl,⟨λh _ _=>h⟩,T,λr h=>absurd h (iT _)⟩ ?_ ?_
 ·rintro i σ Hj hi ⟨v1,v2,rfl,kj,Tj,g9⟩;refine⟨_,rfl,_,rfl,m,l,b,es,st,i,by rw[bF];rfl,M.keep kj.t,by lia,Tj,λv H1 k1 T1 hv=>?_⟩
  rcases hv with hv|⟨rfl,hv⟩
  ·obtain⟨a,r,c,z,rfl,ha,hR⟩:=hv;exact⟨_,rfl,rfl,_,rfl,ifY rfl ⟨_,rfl,k _ _ (kj.trans k1) T1 (.inl ⟨a,r,c,z,rfl,ha,hR⟩)⟩⟩
  ·refine⟨_,rfl,rfl,_,rfl,ifN rfl ⟨_,_,rfl,kj.trans k1,T1,λr h=>?_⟩⟩
   rcases oE r i with z|z
   ·exact g9 r z
   ·obtain rfl:r=i:=by lia
    exact hv
 ·rintro σ Hj ⟨v1,v2,rfl,kj,Tj,g9⟩;exact k _ _ kj Tj (.inr ⟨rfl,λr h=>g9 r (by lia)⟩)
end
theorem Zf4{te:TE}{R:It→Hp→Prop}(ht:∀Q:VK,Q (.ref d) H→te σ H Q)(h:Rd H d (.dT kvs))(k:∀ob bs H1,H1 d=some (.frz ob (.dT kvs))→(∀b u,b≠d→H b=some u→H1 b=some u)→Dk H1 kvs bs→R (Dl d ob kvs bs) H1):Zfb te σ H R:=by
 refine ht _ ⟨d,kvs,rfl,?_⟩
 rcases h with h|⟨ob,h⟩
 ·exact .inl ⟨h,λob bs KB=>k ob bs _ Zc (λb u n q=>(Zk n).trans q) KB⟩
 ·exact .inr ⟨ob,h,λbs KB=>k ob bs H h (λ_ _ _ q=>q) KB⟩
structure WdD(n:Nat)(H:Hp)(d:Addr)(kvs:YT)(o:List Nat)(T:aB):Prop where
 rd:Rd H d (.dT kvs)
 ks:kvs.map (·.1)=o.map (kP n)
 vs:kvs.map (·.2)=T.map (λt=>V.str (sOf t))
 nd:o.Nodup
def FrK(d:Addr)(H H':Hp):Prop:=∀b u,b≠d→H b=some u→H' b=some u
theorem WdD.len{T:aB}(W:WdD n H d kvs o T):kvs.length=o.length:=by
 have:=congrArg List.length W.ks;rwa[rC,rC]at this
theorem WdD.turn{T:aB}(W:WdD n H d kvs o T){bs:ZQ}{ob:Obj}(h1:H1 d=some (.frz ob (.dT kvs)))(KB:Dk H1 kvs bs){ba:Addr}(hq:bs[i]?=some ba):
  ∃x t,o[i]?=some x∧T[i]?=some t∧H1 ba=some (.tup [nI (x/n),nI (x%n)])∧V9 H1 d (.ref ba) (some (.str (sOf t))):=by
 have hi:i<o.length:=by rw[←W.len,←KB.1];exact(rH.mp hq).1
 have hik:i<kvs.length:=by rw[W.len];exact hi
 have gF:o[i]?=some o[i]:=rD hi;generalize o[i]=x at gF;have e1:kvs[i]?=some (kvs[i].1,kvs[i].2):=rD hik;have e2:(kvs.map (·.1))[i]?=some (kP n x):=by rw[W.ks,rJ,gF];rfl
 rw[rJ,e1]at e2;have e3:kvs[i].1=kP n x:=Option.some.inj e2;have xH:=KB.2 i ba _ _ hq e1;rw[e3]at xH;obtain⟨t,ht,hz⟩:=Au W.vs e1;refine⟨x,t,gF,ht,xH,?_⟩
 have hv:Xj kvs (kP n x)=some kvs[i].2:=by
  obtain⟨j,v,q1,q2,q3⟩:=R1 (pl:=λ_=>True) (λx y _ _ h=>Ze2 h) trivial W.ks (λ_ _=>trivial) (rN gF);obtain rfl:=Zju W.nd q2 gF;rw[e1]at q1;rw[q3];exact congrArg some (congrArg Prod.snd (Option.some.inj q1)).symm
 rw[←hz,←hv];exact .inr ⟨kvs,kP n x,ba,.inr ⟨ob,h1⟩,rfl,xH,rfl⟩
def Zgj(o:List Nat)(T:aB)(p:ZF)(v:V):Prop:=(v=.non∧∀x∈o,¬ p x)∨∃(i x:Nat) (t:List Nat),o[i]?=some x∧T[i]?=some t∧p x∧v=.str (sOf t)
inductive Zi3(vs:List V)(H:Hp)(Q:VK):Prop
 |mk(d:Addr)(n:Nat)(kvs:YT)(o:List Nat)(T:aB)(h1:vs=[.ref d])(h2:WdD n H d kvs o T)(h3:∀v H',FrK d H H'→WdD n H' d kvs o T→Zgj o T (λx=>x/n=x%n) v→Q v H'):Zi3 vs H Q
def Zna:Sp:=λvs H Q _=>Zi3 vs H Q
theorem Md(F:Fun K "meeting_word" "meeting_word" Vx f fd)(Z:Blt mg):Yc P w K mg base CX0 1 f fd ["words"] Zna:=by
 refine F.ok Sr (λvs H Q E h=>?_) (λcdv A outer s H vs Q E hr h=>?_)
 ·obtain⟨d,n,kvs,o,T,rfl,_⟩:=h;rfl
 obtain⟨d,n,kvs,o,T,rfl,W,k⟩:=h
 refine⟨_,(Ze (Y5 pP (by rfl) (Eb (pv 0)) (Zo (i:=1) Sr.nd (by rfl) (Or.inl (by rfl))) 
    (Zg (Ys (Z6 X2 (Zr (Zp (K:=K)) (pv 1) Zf (λ_ _=>rfl)) (Zr (Zp (K:=K)) (pv 1) Zf (λ_ _=>rfl)) (Zy _)) 
     (Zg (Zq (To (Wv hr) (pv 0) (pv 1) (λ_ _=>rfl)))) Z1))) 
   (Zg (Zq V0))),?_⟩
 refine(let x6:TS:=_;(?_:Zs _ x6 _ _ _));unfold Zs O7;refine Zf4 (d:=d) (kvs:=kvs) (λQ q=>⟨_,rfl,q⟩) W.rd λob bs H1 h1 e1 KB=>?_;have W1:WdD n H1 d kvs o T:=⟨.inr ⟨ob,h1⟩,W.ks,W.vs,W.nd⟩;refine Ii (a:=d) (o:=ob) (kvs:=kvs) (bs:=bs) (λi σ H5=>∃v1,σ=[some (.ref d),v1]∧H5=H1∧∀(j x:Nat),j<i→o[j]?=some x→x/n≠x%n) ⟨none,rfl,rfl,λj x h _=>absurd h (iT _)⟩ (λi σ H5 _ h=>?_) ?_ ?_
 ·obtain⟨_,_,rfl,_⟩:=h;exact h1
 ·rintro i ba σ H5 hq ⟨v1,rfl,rfl,g9⟩;obtain⟨x,t,hx,ht,xH,hg⟩:=W.turn h1 KB hq;refine⟨_,rfl,ba,_,_,_,rfl,rfl,SqT.of xH,Zj (j:=0) rfl,_,rfl,ba,_,_,_,rfl,rfl,SqT.of xH,Zj (j:=1) rfl,rfl,_,rfl,?_⟩
  by_cases c:x/n=x%n
  ·refine ifY (by rw[c];exact decide_eq_true rfl) ⟨_,rfl,_,rfl,d,_,rfl,hg,k _ _ e1 W1 (.inr ⟨i,x,t,hx,ht,c,rfl⟩)⟩
  ·refine ifN (decide_eq_false λe=>c ?_) ⟨_,rfl,rfl,λj y hj hy=>?_⟩
   ·have:((x/n:Nat):Int)=((x%n:Nat):Int):=V.int.inj e;lia
   ·rcases oE j i with z|z
    ·exact g9 j y z hy
    ·obtain rfl:j=i:=by lia
     rw[hx]at hy;cases hy;exact c
 ·rintro σ H5 ⟨v1,rfl,rfl,g9⟩;refine k _ _ e1 W1 (.inl ⟨rfl,λx hx=>?_⟩);obtain⟨j,hj,rfl⟩:=pL.mp hx;exact g9 j _ (by rw[W.len];exact hj) (rD hj)
theorem Zah{l:Str}(hn:0<st.length)(hb:stp l st (x%st.length) c<st.length):gP l st st x c=x↔stp l st (x/st.length) c=x/st.length∧stp l st (x%st.length) c=x%st.length:=by
 unfold gP;have hd:=V1 (x:=stp l st (x/st.length) c) hb;constructor
 ·intro h;rw[h]at hd;exact⟨hd.1.symm,hd.2.symm⟩
 ·rintro⟨h1,h2⟩;rw[h1,h2,aA];exact Nat.div_add_mod x st.length
theorem Zh7(a b c d:Nat):eqL [nI a,nI b] [nI c,nI d]=true↔a=c∧b=d:=by
 have e:∀x y:Nat,eqV (nI x) (nI y)=true↔x=y:=λx y=>by
  show (((x:Nat):Int)==((y:Nat):Int))=true↔_;rw[beq_iff_eq];lia
 show (eqV (nI a) (nI c)&&(eqV (nI b) (nI d)&&true))=true↔_;rw[Bool.and_true,oD,e,e]
def Kt(l:Str)(st:aB)(k:aT)(x:Nat):Prop:=gP l st st x k.2.1=x∧gP l st st x k.2.2=x
inductive Zix(vs:List V)(H:Hp)(Q:VK):Prop
 |mk(m fa d:Addr)(l:Str)(b:Nat)(es:List Nat)(st:aB)(k:aT)(kvs:YT)(o:List Nat)(T:aB)(h1:vs=[.ref m,.ref fa,.ref d])(h2:Zz H m l b es st)(h3:H fa=some (.tup (tf k)))(h4:G8 l st.length k)(h5:WdD st.length H d kvs o T)(h6:(∀x∈o,x<st.length*st.length))(h7:∀v H',FrK d H H'→WdD st.length H' d kvs o T→Zgj o T (Kt l st k) v→Q v H'):Zix vs H Q
def Zm6:Sp:=λvs H Q _=>Zix vs H Q
theorem Mb(F:Fun K "staying_word" "staying_word" Wn f fd)(Z:Blt mg)(Us:Cal P w K mg base "pair_behind" 2 ZP Hi):Yc P w K mg base CX0 3 f fd YS Zm6:=by
 refine F.ok Sn (λvs H Q E h=>?_) (λcdv A outer s H vs Q E hr h=>?_)
 ·obtain⟨m,fa,d,l,b,es,st,k,kvs,o,T,rfl,_⟩:=h;rfl
 obtain⟨m,fa,d,l,b,es,st,kf,kvs,o,T,rfl,M,eB,⟨f1,f2,f3,f4⟩,W,sF,k⟩:=h
 refine⟨_,(Ze (Y5 pP (by rfl) (Eb (pv 2)) (Zo (i:=3) Sn.nd (by rfl) (Or.inr (by rfl))) 
    (Zg (Ys (Yn (K:=K) (Zt (Wi (K:=K)) (by rfl) Z.all Ru (Za (Yj (sc:=Zh Wn) (Nm:=YH) (own:=["letter"]) (fr:=[0,3]) ⟨rfl,by decide +kernel,by decide +kernel,by decide +kernel,by decide +kernel⟩ (by rfl) (Ye (by decide)) (Va (K:=K) (U2 (Ag (K:=K)) (pv 1) (Rz Zf) R0)) (λd=>(Zo (i:=0) Oi (by rfl) (Or.inl (by rfl)))) (λd=>Ym) (λd=>(Yr (Zlf (K:=K) (Zoa hr)) (Z5 Us (hr.mono (by decide)) (Za (pv 1) (Za (pv 1) (Za (pv 2) (Za (pv 0) Zb))))) (pv 2) (Zy _)))) Zb)) (λ_=>rfl)) 
     (Zg (Zq (To (Wv hr) (pv 2) (pv 3) (λ_ _=>rfl)))) Z1))) 
   (Zg (Zq V0))),?_⟩
 refine(let x6:TS:=_;(?_:Zs _ x6 _ _ _));unfold Zs O7;refine Zf4 (d:=d) (kvs:=kvs) (λQ q=>⟨_,rfl,q⟩) W.rd λob bs H1 h1 e1 KB=>?_
 have vO:Tk H H1:=λc ys hc=>e1 c _ (λz=>by
  subst z
  rcases W.rd with q|⟨_,q⟩<;>rw[q]at hc<;>cases hc) hc
 have M1:=M.keep vO;have uJ:=vO _ _ eB;refine Ii (a:=d) (o:=ob) (kvs:=kvs) (bs:=bs) (λi σ H5=>∃v3,σ=[some (.ref m),some (.ref fa),some (.ref d),v3]∧Zm H1 H5∧∀(j x:Nat),j<i→o[j]?=some x→¬ Kt l st kf x) ⟨none,rfl,Zm.refl _,λj x h _=>absurd h (iT _)⟩ (λi σ H5 _ h=>?_) ?_ ?_
 ·obtain⟨_,_,e,_⟩:=h;exact e _ _ h1
 ·rintro i ba σ H5 hq ⟨v3,rfl,e5,g9⟩;obtain⟨x,t,hx,ht,xH,hg⟩:=W.turn h1 KB hq;have vG:=sF x (rN hx);have yH:0<st.length:=by lia
  have y1:x/st.length<st.length∧x%st.length<st.length:=⟨dU vG,bY _ yH⟩
  have inl:∀{e:Nat},e∈[kf.2.1,kf.2.2]→e∈l.cps.toList:=λ{e} he=>by
   rcases rT.mp he with q|q
   ·rw[q];exact f2
   ·rw[rL.mp q];exact f3
  refine⟨_,rfl,_,rfl,fa,_,rfl,e5 _ _ uJ,λg H6 e6 h6=>⟨g,rfl,⟨_,SqT.of h6⟩,?_⟩⟩;have kC:=e5.trans e6
  refine X5 (K:=K) (a:=g) (xs:=[V.str (one kf.2.1),V.str (one kf.2.2)]) (λn acc H7=>∃bs:List Bool,acc=bs.map V.bl∧bs.length=n∧Zm H6 H7∧∀(j:Nat) b e,bs[j]?=some b→[kf.2.1,kf.2.2][j]?=some e→(b=true↔gP l st st x e=x)) (by show 2<sizeLine;decide) ⟨[],rfl,rfl,Zm.refl _,λj b e h=>by simp at h⟩ (λn acc H7 ⟨bs,h1,h2,_⟩=>by rw[h1,rC,h2];exact rG _)
   (λn acc H7 ⟨_,_,_,h,_⟩=>SqT.of (h _ _ h6)) (λn acc H7 y hy z=>?_) (λacc H7 z y hy=>?_)
  ·obtain⟨sP,rfl,sC,e7,sD⟩:=z
   obtain⟨e,he,rfl⟩:∃e,[kf.2.1,kf.2.2][n]?=some e∧y=.str (one e):=by
    match n,hy with
    | 0,hy=>cases hy;exact⟨_,rfl,rfl⟩
    | 1,hy=>cases hy;exact⟨_,rfl,rfl⟩
    |n+2,hy=>simp at hy
   have j6:=inl (rN he);have wD:=kC.trans e7;have M7:=M1.same wD;refine U9 ⟨_,rfl,_,rfl,_,rfl,_,rfl,m,m,ba,l,b,b,es,es,st,st,x/st.length,x%st.length,e,rfl,M7,M7,wD _ _ xH,y1.1,y1.2,j6,λr H8 e8 hr8=>⟨_,rfl,r,ba,_,_,rfl,rfl,.inr ⟨SqT.of hr8,SqT.of (e8 _ _ (wD _ _ xH))⟩,rfl,rfl,?_⟩⟩;refine⟨sP++[eqL [nI (stp l st (x/st.length) e),nI (stp l st (x%st.length) e)] [nI (x/st.length),nI (x%st.length)]],by rw[pS];rfl,by rw[rS,sC];rfl,e7.trans e8,λj b' e' h1 h2=>?_⟩
   by_cases q:j<sP.length
   ·rw[pM q]at h1;exact sD j b' e' h1 h2
   ·rw[pT (by lia)]at h1
    have hj0:j-sP.length=0:=by
     rcases fH (j-sP.length) with z|z
     ·exact z
     ·rw[oO (by simp only[oW];lia)]at h1;cases h1
    rw[hj0]at h1;cases h1;obtain rfl:j=n:=by lia
    rw[he]at h2;cases h2;rw[Zh7,Zah yH (X3 M y1.2 j6)]
  ·obtain⟨sP,rfl,sC,e7,sD⟩:=z
   obtain⟨b1,b2,rfl⟩:∃b1 b2,sP=[b1,b2]:=by
    match sP,sC with
    |[b1,b2],_=>exact⟨b1,b2,rfl⟩
   have q1:=sD 0 b1 _ rfl rfl;have q2:=sD 1 b2 _ rfl rfl;have s8:=Zd hy (.lst ([b1,b2].map V.bl));have eY:=(kC.trans e7).trans s8;refine⟨y,[b1,b2],rfl,SqL.of Zc,?_⟩
   have Np:[b1,b2].all id=true↔Kt l st kf x:=by
    unfold Kt;rw[←q1,←q2];cases b1<;>cases b2<;>simp
   generalize upd H7 y _=H8 at eY s8;refine⟨_,rfl,Ur (λc=>?_) (λc=>?_)⟩
   ·have hg8:V9 H8 d (.ref ba) (some (.str (sOf t))):=by
     rcases hg with ⟨kv0,k0,eG,q,_⟩|⟨kv0,k0,b0,eG,q,hb0,hv0⟩
     ·rcases eG with r0|⟨o0,r0⟩<;>rw[h1]at r0<;>cases r0
     ·refine .inr ⟨kv0,k0,b0,?_,q,eY _ _ hb0,hv0⟩
      rcases eG with r0|⟨o0,r0⟩
      ·exact .inl (eY _ _ r0)
      ·exact .inr ⟨o0,eY _ _ r0⟩
    refine⟨_,rfl,_,rfl,d,_,rfl,hg8,k _ _ (λc u n hc=>eY _ _ (e1 c u n hc)) ⟨.inr ⟨ob,eY _ _ h1⟩,W.ks,W.vs,W.nd⟩ (.inr ⟨i,x,t,hx,ht,Np.mp c,rfl⟩)⟩
   ·refine⟨_,rfl,eY,λj y' hj qD=>?_⟩
    rcases oE j i with z|z
    ·exact g9 j y' z qD
    ·obtain rfl:j=i:=by lia
     rw[hx]at qD;cases qD;exact λq=>c (Np.mpr q)
 ·rintro σ H5 ⟨v3,rfl,e5,g9⟩;refine k _ _ (λc u n hc=>e5 _ _ (e1 c u n hc)) ⟨.inr ⟨ob,e5 _ _ h1⟩,W.ks,W.vs,W.nd⟩ (.inl ⟨rfl,λx hx=>?_⟩);obtain⟨j,hj,rfl⟩:=pL.mp hx;exact g9 j _ (by rw[W.len];exact hj) (rD hj)
inductive Pth(st:aB)(b:Nat):Nat→Nat→Prop where
 |zero:Pth st b 0 b
 |succ {i x y:Nat} (h:Pth st b i x) (hy:y∈st.getD x []) (ne:y≠x):Pth st b (i+1) y
theorem Pth.lt{w:Nat}(R:Ny st w)(hb:b<st.length)(h:Pth st b i x):x<st.length:=by
 induction h with
 |zero=>exact hb
 | @succ i x y _ hy _ ih=>exact(R _ (getD_in ih).1).2 y hy
theorem Pth.pre{st:aB}{b i:Nat}:∀{k x:Nat},Pth st b (i+k) x→∃y,Pth st b i y
 | 0,x,h=>⟨x,h⟩
 |k+1,x,h=>by
  cases h with
  |succ h _ _=>exact Pth.pre h
theorem Ze4{j:Nat}(h:j<n):ixN n ((j:Nat):Int)=some j:=by
 unfold ixN;rw[if_pos (by lia),if_pos (by lia)];rfl
theorem Zdz:Pth st b 0 x↔x=b:=⟨λh=>by cases h;rfl,λh=>h▸.zero⟩
theorem Zd0:Pth st b (i+1) y↔∃x,Pth st b i x∧y∈st.getD x []∧y≠x:=⟨λh=>by cases h with|succ h hy ne=>exact⟨_,h,hy,ne⟩,λ⟨_,h,hy,ne⟩=>.succ h hy ne⟩
structure RkI(st:aB)(b i:Nat)(rk:List Nat):Prop where
 len:rk.length=st.length
 met:∀x r,rk[x]?=some r→(∃j,j<i∧Pth st b j x)→r<i∧Pth st b r x∧∀j,j<i→Pth st b j x→j≤r
 not:∀x r,rk[x]?=some r→(∀j,j<i→¬ Pth st b j x)→r=0
structure RkJ(st:aB)(b i:Nat)(zs rk:List Nat):Prop where
 len:rk.length=st.length
 here:∀x r,rk[x]?=some r→x∈zs→r=i
 met:∀x r,rk[x]?=some r→x∉zs→(∃j,j<i∧Pth st b j x)→r<i∧Pth st b r x∧∀j,j<i→Pth st b j x→j≤r
 not:∀x r,rk[x]?=some r→x∉zs→(∀j,j<i→¬ Pth st b j x)→r=0
theorem RkI.go(h:RkI st b i rk):RkJ st b i [] rk:=⟨h.len,λx r _ hx=>(by cases hx),λx r e _ q=>h.met x r e q,λx r e _ q=>h.not x r e q⟩
theorem RkJ.step{z:Nat}{zs:List Nat}(h:RkJ st b i zs rk)(hz:z<st.length):RkJ st b i (zs++[z]) (rk.set z i):=by
 have at_:∀x r,(rk.set z i)[x]?=some r→(x=z∧r=i)∨(x≠z∧rk[x]?=some r):=λx r e=>by
  by_cases c:z=x
  ·subst c;rw[dE (by rw[h.len];exact hz)]at e;exact .inl ⟨rfl,(Option.some.inj e).symm⟩
  ·rw[iQ c]at e;exact .inr ⟨λq=>c q.symm,e⟩
 refine⟨by rw[List.length_set];exact h.len,λx r e hx=>?_,λx r e hx q=>?_,λx r e hx q=>?_⟩
 ·rcases at_ x r e with ⟨_,e2⟩|⟨n,e2⟩
  ·exact e2
  ·rcases oB.mp hx with y|y
   ·exact h.here x r e2 y
   ·exact absurd (rL.mp y) n
 ·rcases at_ x r e with ⟨e1,_⟩|⟨n,e2⟩
  ·exact absurd (pV _ (by rw[e1];exact rM)) hx
  ·exact h.met x r e2 (λy=>hx (lV _ y)) q
 ·rcases at_ x r e with ⟨e1,_⟩|⟨n,e2⟩
  ·exact absurd (pV _ (by rw[e1];exact rM)) hx
  ·exact h.not x r e2 (λy=>hx (lV _ y)) q
theorem RkJ.done{zs:List Nat}(h:RkJ st b i zs rk)(hz:∀z,z∈zs↔Pth st b i z):RkI st b (i+1) rk:=by
 refine⟨h.len,λx r e ⟨j,hj,hp⟩=>?_,λx r e q=>?_⟩
 ·by_cases c:Pth st b i x
  ·rw[h.here x r e ((hz x).mpr c)];exact⟨iD _,c,λj hj _=>by lia⟩
  ·have hji:j<i:=by
    rcases oE j i with z|z
    ·exact z
    ·obtain rfl:j=i:=by lia
     exact absurd hp c
   obtain⟨a1,a2,a3⟩:=h.met x r e (λy=>c ((hz x).mp y)) ⟨j,hji,hp⟩;refine⟨by lia,a2,λj' h1 h2=>?_⟩
   rcases oE j' i with z|z
   ·exact a3 j' z h2
   ·obtain rfl:j'=i:=by lia
    exact absurd h2 c
 ·exact h.not x r e (λy=>q i (iD _) ((hz x).mp y)) λj hj=>q j (by lia)
inductive Ziy(vs:List V)(H:Hp)(Q:VK):Prop
 |mk(m:Addr)(l:Str)(b:Nat)(es:List Nat)(st:aB)(h1:vs=[.ref m])(h2:Zz H m l b es st)(h3:st.length≤6)(h4:(∀i x,Pth st b i x→i<st.length))(h5:∀a rk H',Zm H H'→H' a=some (.tup (rk.map nI))→RkI st b st.length rk→Q (.ref a) H'):Ziy vs H Q
def Zm7:Sp:=λvs H Q _=>Ziy vs H Q
theorem Ee(F:Fun K "ranks_of" "ranks_of" Th f fd)(Z:Blt mg):Yc P w K mg base CX0 1 f fd aX Zm7:=by
 refine F.ok Xp (λvs H Q E h=>?_) (λcdv A outer s H vs Q E hr h=>?_)
 ·obtain⟨m,l,b,es,st,rfl,_⟩:=h;rfl
 obtain⟨m,l,b,es,st,rfl,M,j3,hA,k⟩:=h
 refine⟨_,(Ze (Zn (i:=1) Xp.nd (by rfl) (Or.inl (by rfl)) (Z3 Cg (Zx (Za Zf Zb)) (Zt (Yo (K:=K)) (by rfl) Z.len Y3 (Za (Zr (Zp (K:=K)) (pv 0) Zf (λ_ _=>rfl)) Zb)))) 
   (Ze (Zn (i:=2) Xp.nd (by rfl) (Or.inl (by rfl)) (Zx (Za (Zr (Zp (K:=K)) (pv 0) Zf (λ_ _=>rfl)) Zb))) 
   (Ze (Zn (i:=3) Xp.nd (by rfl) (Or.inl (by rfl)) Zf) 
   (Ze (Oa pP (Yn (K:=K) (pv 2) (λ_=>rfl)) 
    (Ze (Zn (i:=4) Xp.nd (by rfl) (Or.inl (by rfl)) (Zx Zb)) 
    (Ze (Y5 pP (by rfl) (U1 (K:=K) (pv 2)) (Zo (i:=5) Xp.nd (by rfl) (Or.inr (by rfl))) 
     (Ze (Tn (pv 3) (S9 (pv 1) (pv 5) set_list)) 
     (Zg (W8 (Wd (K:=K) oF PySem.F.slot_list_extend PySem.F.type_list_extend J6 (pv 4) (Za (Yj (sc:=Zh Th) (Nm:=ZY) (own:=["there"]) (fr:=[5]) ⟨rfl,by decide +kernel,by decide +kernel,by decide +kernel,by decide +kernel⟩ (by rfl) (Ye (by decide)) (Va (K:=K) (Zr (Zp (K:=K)) (Zr (Zp (K:=K)) (pv 0) Zf (λ_ _=>rfl)) (pv 5) (λ_ _=>rfl))) (λd=>(Zo (i:=0) Jl (by rfl) (Or.inl (by rfl)))) (λd=>(Ao (Z6 Ss (pv 0) (pv 1) (Zy _)))) (λd=>(pv 0))) Zb)))))) 
    (Ze (Zn (i:=2) Xp.nd (by rfl) (Or.inl (by rfl)) (Zt (Df (by rfl)) (by rfl) Z.sorted Nv (Za (Z4 (Zb3 (K:=K) (by rfl)) (by rfl) Z.set Bn (Za (pv 4) Zb)) Zb))) 
    (Zg (Zn (i:=3) Xp.nd (by rfl) (Or.inl (by rfl)) (Z3 Xn (pv 3) Zf))))))) 
   (Zg (Zq (Z4 (Y1 (K:=K)) (by rfl) Z.tuple Yt (Za (pv 1) Zb)))))))),?_⟩
 refine(let x6:TS:=_;let x8:TS:=_;let y6:TS:=Zs _ x8;let g0:TS:=_;let w6:TS:=Zs _ g0;let p9:TS:=Zs (O7 _ _ w6) y6;let d0:TS:=Zs _ p9;let c0:TS:=Zs (Le _ d0) x6;let l5:TS:=Zs _ c0;let xY:TS:=Zs _ l5;(?_:Zs _ xY _ _ _));obtain⟨eA,sA,rA,g1,g2,g3,g4,g5⟩:=M.lay;have t6:(rA.map V.ref).length=st.length:=by rw[rC,g4]
 have sC:=M.beg;refine⟨(by show 1≤sizeLine;decide),λx0 hx0=>?_⟩;generalize eZ:upd H x0 _=H1;have s1:=nS7 eZ hx0;have h1x:=nU7 eZ;refine⟨_,rfl,m,_,_,_,rfl,rfl,SqT.of (s1 _ _ g1),Zj (j:=3) rfl,sA,_,rfl,.inr (SqT.of (s1 _ _ g3)),x0,_,_,rfl,rfl,h1x,by lia,by lia,(by rw[sizeLine_eq,t6];show 1*_≤_;lia),λrp z9=>?_⟩
 have eG:(List.replicate ((((rA.map V.ref).length:Nat):Int)).toNat [V.int 0]).flatten=(List.replicate st.length 0).map nI:=by
  rw[show ((((rA.map V.ref).length:Nat):Int)).toNat=st.length from by lia,bO];clear hA k j3 sC t6
  induction st.length with
  |zero=>rfl
  |succ n ih=>rw[lP,iW,ih,lP];rfl
 rw[eG];have s2:=s1.trans (Zd z9 (.lst ((List.replicate st.length 0).map nI)));have uK:upd H1 rp (.lst ((List.replicate st.length 0).map nI)) rp=_:=Zc;have Gm:=none_of s1 z9;generalize upd H1 rp _=H2 at s2 uK;refine⟨_,rfl,m,_,_,_,rfl,rfl,SqT.of (s2 _ _ g1),Zj (j:=1) rfl,(by show 1≤sizeLine;decide),λlp m7=>?_⟩;have s3:=s2.trans (Zd m7 (.lst [nI b]));have kK:upd H2 lp (.lst [nI b]) lp=some (.lst ([b].map nI)):=Zc;have wS:=Zd m7 (.lst [nI b]) _ _ uK;have eV:lp≠rp:=(Zi uK m7).symm;have jJ:=none_of s2 m7;generalize upd H2 lp _=H3 at s3 kK wS
 refine⟨λmm σ H4=>∃(i:Nat) (lp:Addr) (zs rk:List Nat) (v4 v5:Option V),mm=st.length+1-i∧i≤st.length∧σ=[some (.ref m),some (.ref rp),some (.ref lp),some (nI i),v4,v5]∧H4 lp=some (.lst (zs.map nI))∧H4 rp=some (.lst (rk.map nI))∧lp≠rp∧Zm H H4∧(∀z,z∈zs↔Pth st b i z)∧zs.length≤6∧RkI st b i rk,
  ⟨_,0,lp,[b],List.replicate st.length 0,none,none,rfl,oC _,rfl,kK,wS,eV,s3,λz=>by rw[rL,Zdz],(by show 1≤6;decide),by rw[oV],λx r _ ⟨j,hj,_⟩=>absurd hj (iT _),λx r e _=>?_⟩,?_⟩
 ·rw[fY]at e
  split at e
  ·exact(Option.some.inj e).symm
  ·cases e
 clear wS kK s3 m7 jJ eV lp uK s2 z9 h1x s1 hx0;rintro mm σ H4 ⟨i,lp,zs,rk,v4,v5,rfl,hi,rfl,yZ,wT,eV,e4,yR,qH,R4⟩;have xU:(zs.map nI).length=zs.length:=rC ..;refine⟨_,rfl,_,.inl ⟨_,SqL.of yZ,rfl⟩,?_⟩;refine Ur (λc1=>?_) (λc1=>?_)
 ·have y8:zs≠[]:=λe=>by rw[e]at c1;cases c1
  have x9:i<st.length:=by
   obtain⟨z,zs',rfl⟩:=List.exists_cons_of_ne_nil y8;exact hA i z ((yR z).mp rM)
  refine⟨λx4 H'=>∃m',m'<st.length+1-i∧_,λ_ _ z=>z,?_⟩;refine⟨(by show 0≤sizeLine;decide),λap uS=>?_⟩;generalize eZ:upd H4 ap _=H5;have s5:=nS7 eZ uS;have uN:=nU7 eZ;have z6:=s5 _ _ yZ;have h5r:=s5 _ _ wT;have nal:ap≠lp:=(Zi yZ uS).symm;have nar:ap≠rp:=(Zi wT uS).symm;have e5:=e4.trans s5;have zP:=none_of e4 uS;refine⟨_,rfl,lp,rfl,⟨_,SqL.of z6⟩,?_⟩
  refine Rl (K:=K) (a:=lp) (xs:=zs.map nI) (λj σ H6=>∃(as rk:List Nat) (v5:Option V),σ=[some (.ref m),some (.ref rp),some (.ref lp),some (nI i),some (.ref ap),v5]∧H6 lp=some (.lst (zs.map nI))∧H6 rp=some (.lst (rk.map nI))∧H6 ap=some (.lst (as.map nI))∧as.length≤3*j∧(∀y,y∈as↔∃x∈zs.take j,y∈st.getD x []∧y≠x)∧RkJ st b i (zs.take j) rk∧Zm H H6)
   ⟨[],rk,v5,rfl,z6,h5r,uN,oC _,λy=>by simp,R4.go,e5⟩ (λj σ H6 _ h=>?_) ?_ ?_
  ·obtain⟨_,_,_,_,h6,_⟩:=h;exact SqL.of h6
  ·rintro j x σ H6 hx ⟨as,rk,v5,rfl,sS,sB,wV,has,Zfg,RJ,e6⟩;rw[rJ]at hx
   cases mO:zs[j]? with
   |none=>rw[mO]at hx;cases hx
   |some z=>
    rw[mO]at hx;cases hx;have hzp:=(yR z).mp (rN mO);have hz:z<st.length:=hzp.lt M.rows sC;have hj6:j<6:=by have:=(rH.mp mO).1;lia
    have jU:(rk.map nI).length=st.length:=by rw[rC,RJ.len]
    refine⟨_,rfl,_,rfl,_,rfl,rp,_,(z:Int),z,rfl,rfl,sB,Ze4 (by rw[jU];exact hz),?_⟩;have Zh0:(rk.map nI).set z (nI i)=(rk.set z i).map nI:=(List.map_set ..).symm;rw[Zh0];have e7:=Yi e6 Gm (.lst ((rk.set z i).map nI));have z7:upd H6 rp (.lst ((rk.set z i).map nI)) rp=_:=Zc;have hZ:=(Zk (H:=H6) (o:=.lst ((rk.set z i).map nI)) eV).trans sS;have sT:=(Zk (H:=H6) (o:=.lst ((rk.set z i).map nI)) nar).trans wV;generalize upd H6 rp _=H7 at e7 z7 hZ sT;have Pc:st[z]?=some st[z]:=rD hz;have kZ:st.getD z []=st[z]:=by rw[rK,Pc];rfl
    have v9:rA[z]?=some (rA[z]'(by lia)):=rD (by lia);have Zag:=e7 _ _ (g5 z _ _ v9 Pc);generalize rA[z]'(by lia)=ra at v9 Zag;have vC:=(M.rows st[z] (oG hz)).1;have xO:=M.few.2.1;generalize st[z]=row at Pc kZ Zag vC;have uZ:(row.map nI).length=row.length:=rC ..;refine⟨_,rfl,.inl ⟨rfl,_,SqL.of sT⟩,_,rfl,m,_,_,_,rfl,rfl,SqT.of (e7 _ _ g1),Zj (j:=3) rfl,_,rfl,sA,_,_,_,rfl,rfl,SqT.of (e7 _ _ g3),Zj (j:=z) (by rw[rJ,v9];rfl),ra,rfl,⟨_,SqT.of Zag⟩,?_⟩
    refine X5 (K:=K) (a:=ra) (xs:=row.map nI) (λn acc H8=>acc=((row.take n).filter (λy=>!decide (y=z))).map nI∧Zm H7 H8) (by rw[uZ];exact Z0 (by lia)) ⟨rfl,Zm.refl _⟩ (λn acc H8 q=>by rw[q.1,rC];exact pQ (dQ _ _) (by rw[pR];exact lT _ _))
     (λn acc H8 q=>SqT.of (q.2 _ _ Zag)) (λn acc H8 y hy q=>?_) (λacc H8 q y hy=>?_)
    ·obtain⟨rfl,e8⟩:=q;rw[rJ]at hy
     cases yQ:row[n]? with
     |none=>rw[yQ]at hy;cases hy
     |some u=>
      rw[yQ]at hy;cases hy;refine⟨_,rfl,_,rfl,rfl,_,rfl,?_⟩;rw[oK,yQ,List.filter_append]
      by_cases c:u=z
      ·subst c;refine ifN (by show (!decide (nI u=nI u))=false;rw[decide_eq_true rfl];rfl) ⟨?_,e8⟩;show _=(_++[u].filter _).map nI;simp
      ·refine ifY (by show (!decide (nI u=nI z))=true;rw[decide_eq_false λe=>c (by have:((u:Nat):Int)=z:=V.int.inj e;lia)];rfl) ⟨_,rfl,?_,e8⟩;show _=(_++[u].filter _).map nI;simp[c]
    ·obtain⟨rfl,e8⟩:=q;rw[uZ,pZ];have s9:=e8.trans (Zd hy (.lst ((row.filter (λy=>!decide (y=z))).map nI)));have xK:(row.filter (λy=>!decide (y=z))).length≤3:=pQ (dQ _ _) (by lia);have kM:=s9 _ _ sT;refine⟨ap,y,_,_,rfl,rfl,kM,Zc,(by rw[rC,rC,sizeLine_eq];lia),?_⟩;refine⟨as++row.filter (λy=>!decide (y=z)),rk.set z i,_,rfl,(Zk nal.symm).trans (s9 _ _ hZ),(Zk nar.symm).trans (s9 _ _ z7),by rw[Zc,pS],by rw[rS];lia,λy'=>?_,?_,Yi (e7.trans s9) zP _⟩
     ·rw[oB,Zfg y',iJ,oK,mO];constructor
      ·rintro(⟨x,hx,h1,h2⟩|⟨h1,h2⟩)
       ·exact⟨x,lV _ hx,h1,h2⟩
       ·exact⟨z,pV _ rM,by rw[kZ];exact h1,by simpa using h2⟩
      ·rintro⟨x,hx,h1,h2⟩
       rcases oB.mp hx with q|q
       ·exact .inl ⟨x,q,h1,h2⟩
       ·obtain rfl:x=z:=rL.mp q;rw[kZ]at h1;exact .inr ⟨h1,by simpa using h2⟩
     ·rw[oK,mO];exact RJ.step hz
  ·rintro σ H6 ⟨as,rk,v5,rfl,sS,sB,wV,has,Zfg,RJ,e6⟩;rw[xU,pZ]at Zfg RJ
   have hal:∀y∈as,y<6:=λy hy=>by
    obtain⟨x,hx,h1,h2⟩:=(Zfg y).mp hy;have:=((yR x).mp hx).succ h1 h2;have:=this.lt M.rows sC;lia
   refine⟨_,rfl,ap,as,rfl,SqL.of wV,hal,λsp vs yL y4=>?_⟩;refine⟨sp,vs,rfl,Zc,λys lq j7 hys m3 gC=>?_⟩;have s7:=Zd y4 (Zdf w sp vs);have s8:=s7.trans (Zd gC (.lst (ys.map nI)));have nlq:lq≠rp:=(Zi (s7 _ _ sB) gC).symm;refine⟨_,rfl,_,_,rfl,rfl,st.length+1-(i+1),by lia,i+1,lq,ys,rk,_,_,rfl,by lia,rfl,Zc,s8 _ _ sB,nlq,e6.trans s8,λz=>?_,m3,RJ.done yR⟩;rw[hys z,yL z,Zfg z,Zd0];exact⟨λ⟨x,hx,r⟩=>⟨x,(yR x).mp hx,r⟩,λ⟨x,hx,r⟩=>⟨x,(yR x).mpr hx,r⟩⟩
 ·have qF:zs=[]:=by
   cases zs with
   |nil=>rfl
   |cons z zs=>exact absurd rfl c1
  refine⟨_,rfl,rp,_,rfl,.inl ⟨SqL.of wT,λa ha=>?_⟩⟩
  have Zem:∀j x,Pth st b j x→j<i:=λj x h=>by
   rcases oE j i with z|z
   ·exact z
   ·obtain⟨d,rfl⟩:∃d,j=i+d:=⟨j-i,by lia⟩;obtain⟨y,hy⟩:=h.pre;have:=(yR y).mpr hy;rw[qF]at this;cases this
  refine k a rk _ (e4.trans (Zd ha _)) Zc ⟨R4.len,λx r e ⟨j,_,hp⟩=>?_,λx r e q=>R4.not x r e λj hj=>q j (by lia)⟩;obtain⟨a1,a2,a3⟩:=R4.met x r e ⟨j,Zem j x hp,hp⟩;exact⟨by lia,a2,λj' _ h2=>a3 j' (Zem j' x h2) h2⟩
abbrev rch(l:Str)(st:aB)(x:Nat):List Nat:=Zl id (TL l (stp l st)) x st.length
section
variable {l:Str}{st:aB}
structure Tbl(l:Str)(st:aB):Prop where
 nd:l.cps.toList.Nodup
 rc:Ny st l.length
theorem Tbl.lt(t:Tbl l st)(hx:x<st.length)(hc:c∈l.cps.toList):stp l st x c<st.length:=by
 obtain⟨j,hj,rfl⟩:=pL.mp hc;rw[S0 t.nd (rD hj)];exact S2 t.rc hx (by have:=len_list l;lia)
theorem Tbl.row(t:Tbl l st)(hx:x<st.length):y∈st.getD x []↔∃c∈l.cps.toList,stp l st x c=y:=by
 have hl:=len_list l;have hg:=getD_in (d:=[]) hx;have hr:=(t.rc _ hg.1).1;constructor
 ·intro h;obtain⟨j,hj,rfl⟩:=pL.mp h;have xM:j<l.cps.toList.length:=by lia
  refine⟨l.cps.toList[j],oG _,?_⟩;rw[S0 t.nd (rD xM)];unfold stN;rw[rK,rD hj];rfl
 ·rintro⟨c,hc,rfl⟩;obtain⟨j,hj,rfl⟩:=pL.mp hc;rw[S0 t.nd (rD hj)];unfold stN;exact(getD_in (by lia)).1
theorem Tbl.all(t:Tbl l st)(hx:x<st.length):∀y,y<st.length→∀z∈TL l (stp l st) y,z<st.length:=λy hy z hz=>by
 obtain⟨c,hc,rfl⟩:=rY.mp hz;exact t.lt hy hc
theorem Tbl.len(t:Tbl l st)(hx:x<st.length):(rch l st x).length≤st.length:=Rc (P:=λy=>y<st.length) hx (t.all hx) (λy hy=>hy) _
theorem Lo(x:Nat):x∈rch l st x:=rN (Od _).2
theorem Tbl.step(t:Tbl l st)(hx:x<st.length)(hy:y∈rch l st x)(hc:c∈l.cps.toList):stp l st y c∈rch l st x:=by
 obtain⟨j,hj,rfl⟩:=pL.mp hy;have:=U3 (k:=id) (T:=TL l (stp l st)) (b:=x) (n:=st.length) (j:=j) (y:=stp l st _ c) (rD hj) (by have:=t.len hx;lia) (rY.mpr ⟨c,hc,rfl⟩);rw[lH]at this;exact this
theorem Tbl.sub(t:Tbl l st)(hx:x<st.length)(hy:y∈rch l st x):∀z∈rch l st y,z∈rch l st x:=Ws (P:=λz=>z∈rch l st x) hy (λz hz u hu=>by
 obtain⟨c,hc,rfl⟩:=rY.mp hu
 exact t.step hx hz hc) _
def O3(l:Str)(st:aB):Prop:=∀r,r<st.length→G7 l st r
theorem Zep{a:List Nat}:∀{b:List Nat},a.Nodup→(∀c∈a,c∈b)→a.length≤b.length:=by
 induction a with
 |nil=>exact λ_ _=>oC _
 |cons x a ih=>
  intro b nd h;have hx:x∈b:=h x rM;have q:=ih (b:=b.erase x) (lI.mp nd).2 λc hc=>(List.mem_erase_of_ne λe=>(lI.mp nd).1 (by rw[←e];exact hc)).mpr (h c (rP _ hc));rw[List.length_erase_of_mem hx]at q;have:=List.length_pos_of_mem hx;rw[pY];lia
theorem O3.less(f:O3 l st)(t:Tbl l st)(hx:x<st.length)(hc:c∈l.cps.toList)(ne:stp l st x c≠x):(rch l st (stp l st x c)).length<(rch l st x).length:=by
 have hy:=t.lt hx hc;have x9:=t.step hx (Lo x) hc;have g9:x∉rch l st (stp l st x c):=λh=>ne (f x hx c hc _ (t.len hy) h)
 have nd:(rch l st (stp l st x c)).Nodup:=by
  have:=Vp (k:=id) (T:=TL l (stp l st)) (b:=stp l st x c) st.length;rwa[lH]at this
 have:=Zep (a:=x :: rch l st (stp l st x c)) (b:=rch l st x) (lI.mpr ⟨g9,nd⟩) λz hz=>by
  rcases rT.mp hz with e|e
  ·rw[e];exact Lo x
  ·exact t.sub hx x9 z e
 rw[pY]at this;lia
theorem O3.pth(f:O3 l st)(t:Tbl l st)(hb:b<st.length)(h:Pth st b i x):i<st.length:=by
 have key:∀{i x:Nat},Pth st b i x→x<st.length∧(rch l st x).length+i≤(rch l st b).length:=by
  intro i x h
  induction h with
  |zero=>exact⟨hb,rG _⟩
  | @succ i x y _ hy ne ih=>
   obtain⟨c,hc,rfl⟩:=(t.row ih.1).mp hy;have:=f.less t ih.1 hc ne;exact⟨t.lt ih.1 hc,by lia⟩
 have h1:=key h;have h2:=t.len hb;have h3:0<(rch l st x).length:=List.length_pos_of_mem (Lo x);lia
theorem Zh3(φ:Nat→Nat)(h:o≠[]):∃x∈o,∀y∈o,φ x≤φ y:=by
 induction o with
 |nil=>exact absurd rfl h
 |cons a o ih=>
  by_cases c:o=[]
  ·subst c;exact⟨a,rM,λy hy=>by rw[rL.mp hy];exact rG _⟩
  ·obtain⟨x,hx,hm⟩:=ih c
   by_cases d:φ a≤φ x
   ·refine⟨a,rM,λy hy=>?_⟩
    rcases rT.mp hy with e|e
    ·rw[e];exact rG _
    ·exact pQ d (hm y e)
   ·refine⟨x,rP _ hx,λy hy=>?_⟩
    rcases rT.mp hy with e|e
    ·rw[e];lia
    ·exact hm y e
theorem O3.stays(f:O3 l st)(t:Tbl l st){k:aT}(hk:G8 l st.length k)(ho:o≠[])(hp:∀x∈o,x<st.length*st.length)(hc:∀x∈o,gP l st st x k.2.1∈o∧gP l st st x k.2.2∈o):∃x∈o,Kt l st k x:=by
 obtain⟨x,hx,hm⟩:=Zh3 (λx=>(rch l st (x/st.length)).length+(rch l st (x%st.length)).length) ho;have vG:=hp x hx
 have yH:0<st.length:=by
  rcases fH st.length with z|z
  ·rw[z]at vG;lia
  ·exact z
 have h1:x/st.length<st.length:=dU vG;have h2:x%st.length<st.length:=bY _ yH
 have one:∀c∈l.cps.toList,gP l st st x c∈o→gP l st st x c=x:=λc m6 x9=>by
  have hb:=t.lt h2 m6;refine(Zah yH hb).mpr ?_;have hq:=hm _ x9;have hd:=V1 (x:=stp l st (x/st.length) c) hb;have e1:gP l st st x c/st.length=stp l st (x/st.length) c:=hd.1;have e2:gP l st st x c%st.length=stp l st (x%st.length) c:=hd.2;rw[e1,e2]at hq
  have le:∀{y:Nat},y<st.length→(rch l st (stp l st y c)).length≤(rch l st y).length∧(stp l st y c≠y→(rch l st (stp l st y c)).length<(rch l st y).length):=λ{y} hy=>by
   by_cases z:stp l st y c=y
   ·rw[z];exact⟨rG _,λq=>absurd rfl q⟩
   ·exact⟨oX (f.less t hy m6 z),λ_=>f.less t hy m6 z⟩
  obtain⟨a1,a2⟩:=le h1;obtain⟨b1,b2⟩:=le h2;constructor
  ·exact Classical.byContradiction λz=>by have:=a2 z;lia
  ·exact Classical.byContradiction λz=>by have:=b2 z;lia
 exact⟨x,hx,one _ hk.2.1 (hc x hx).1,one _ hk.2.2.1 (hc x hx).2⟩
end
def tm(q:aZ×List Nat):List V:=tf q.1++[.str (sOf q.2)]
abbrev fat(l:Str)(st:aB)(k:aT)(t:List Nat):Nat:=t.foldl (gP l st st) (fb l st k)
def Fw2(k:aT)(t:List Nat):Prop:=(∀c∈t,c∈[k.2.1,k.2.2])∧t.length≤216
def M8(l:Str)(st:aB)(k:aT)(t:List Nat):Prop:=Fw2 k t∧fat l st k t/st.length=fat l st k t%st.length
def Zmq(l:Str)(st:aB)(k:aT):Prop:=∀u:List Nat,(∀c∈u,c∈[k.2.1,k.2.2])→fat l st k u/st.length≠fat l st k u%st.length
def ApV(l:Str)(st:aB)(H:Hp)(v:V):Prop:=∃a k t,v=.ref a∧H a=some (.tup [.str "apart",nI k.1,.str (one k.2.1),.str (one k.2.2),.str (sOf t)])∧G8 l st.length k∧Fw2 k t∧Kt l st k (fat l st k t)∧Zmq l st k
def SpV(l:Str)(st:aB)(H:Hp)(v:V):Prop:=∃(a ra ma:Addr) (rk:List Nat) (ys:List V) (rows:List (aZ×List Nat)),v=.ref a∧H a=some (.tup [.str "spread",.ref ra,.ref ma])∧H ra=some (.tup (rk.map nI))∧RkI st 0 st.length rk∧H ma=some (.tup ys)∧TR tm H ys rows∧rows.map (·.1)=N7 l.cps.toList st.length∧∀q∈rows,M8 l st q.1 q.2
def Pap(l:Str)(st:aB)(H:Hp)(v:V):Prop:=Iy l st H v∨(O3 l st∧(ApV l st H v∨SpV l st H v))
theorem Gu{α β:Type}{f:α→List β}{c:Nat}:∀{l:List α},(∀x∈l,(f x).length≤c)→(l.flatMap f).length≤l.length*c
 |[],_=>oC _
 |x :: l,h=>by
  have h1:=h x rM;have h2:=Gu (l:=l) λy hy=>h y (rP _ hy);rw[bX,rS,pY,Nat.add_mul,Nat.one_mul];lia
theorem Kj{ks:List Nat}(hk:ks.length≤3)(hn:n≤6):(N7 ks n).length≤54:=by
 have h1:(N7 ks n).length≤(List.range n).length*9:=Gu λx _=>by
  have h2:(fkR ks x).length≤(List.range ks.length).length*3:=Gu λy _=>by
   rw[rC,oY];lia
  rw[rX]at h2;lia
 rw[rX]at h1;lia
theorem FrK.a(r:FrK d H H')(hd:Rd H d (.dT kvs))(b:Addr)(o:HO)(h:H b=some o)(n1:∀x,o≠.dT x)(n2:∀a x,o≠.frz a x):H' b=some o:=r b o (λe=>by
 subst e
 rcases hd with q|⟨_,q⟩<;>rw[h]at q
 ·exact n1 _ (Option.some.inj q)
 ·exact n2 _ _ (Option.some.inj q)) h
theorem FrK.t(r:FrK d H H')(hd:Rd H d (.dT kvs)):Tk H H':=λb ys h=>r.a hd b _ h (λ_=>nofun) λ_ _=>nofun
theorem Cz.fr{ts:aH}(T:Cz ts H)(r:FrK d H H')(hd:Rd H d (.dT kvs)):Cz ts H':=⟨λq hq=>Tb.mv (T.a q hq) λb o h _ n1 n2=>r.a hd b o h n1 n2,T.n⟩
theorem Zor{l:Str}(t:Tbl l st)(hx:x<st.length*st.length)(hc:c∈l.cps.toList):gP l st st x c<st.length*st.length:=by
 have yH:0<st.length:=by
  rcases fH st.length with z|z
  ·rw[z]at hx;lia
  ·exact z
 have h1:=t.lt (dU hx) hc;have h2:=t.lt (bY x yH) hc;have h3:(stp l st (x/st.length) c+1)*st.length≤st.length*st.length:=bG _ h1;rw[Nat.add_mul,Nat.one_mul]at h3;unfold gP;lia
inductive Fi(ts:aH)(vs:List V)(H:Hp)(Q:VK):Prop
 |mk(m:Addr)(l:Str)(b:Nat)(es:List Nat)(st:aB)(h1:vs=[.ref m])(h2:Zz H m l b es st)(h3:es.length≤100)(h4:st.length≤6)(h5:l.cps.toList.Pairwise (·<·))(h6:Cz ts H)(h7:∀v H' stD esD,Kept H H'→Cz ts H'→LM l (λcs=>Wb st b cs∈es) stD esD→stD.length≤st.length→Pap l stD H' v→Q v H'):Fi ts vs H Q
def Hh(ts:aH):Sp:=λvs H Q _=>Fi ts vs H Q
section
variable {ts:aH}{Pl Px Pw:Addr}
theorem Ef(U:Zik ts Pl Px Pw)(F:Fun K "paper_of" "paper_of" Q6 f fd)(Z:Blt mg)(Qh:Cal P w K mg base "least" 5 aX (Pu Pl))(Nz:Cal P w K mg base "ring_in" 6 aX (Zm8 ts))(Qi:Cal P w K mg base "forks" 1 aX Hm)(Sm:Cal P w K mg base "fork_words" 5 ["machine","fork"] (Zks Pw))(Uc:Cal P w K mg base "meeting_word" 1 ["words"] Zna)(Ua:Cal P w K mg base "staying_word" 3 YS Zm6)(Pk:Cal P w K mg base "ranks_of" 1 aX Zm7):Yc P w K mg base CX0 7 f fd aX (Hh ts):=by
 refine F.ok Xu (λvs H Q E h=>?_) (λcdv A outer s H vs Q E hr h=>?_)
 ·obtain⟨m,l,b,es,st,rfl,_⟩:=h;rfl
 obtain⟨m,l,b,es,st,rfl,M,v0,j3,eF,T,kk⟩:=h;have nd:l.cps.toList.Nodup:=eF.imp λh=>rV h;have hl:0<l.length∧l.length≤3:=⟨M.few.1,M.few.2.1⟩
 refine⟨_,(Ze (Zn (i:=1) Xu.nd (by rfl) (Or.inl (by rfl)) (Z5 Qh (hr.mono (by decide)) (Za (pv 0) Zb))) 
   (Ze (Zn (i:=2) Xu.nd (by rfl) (Or.inl (by rfl)) (Z5 Nz (hr.mono (by decide)) (Za (pv 1) Zb))) 
   (Ze (Ys (Z6 Av (pv 2) V0 (Zy _)) 
    (Zg (Zq (pv 2))) Z1) 
   (Ze (Zn (i:=3) Xu.nd (by rfl) (Or.inl (by rfl)) (Zx Zb)) 
   (Ze (Y5 pP (by rfl) (U1 (K:=K) (Z5 Qi (hr.mono (by decide)) (Za (pv 1) Zb))) (Zo (i:=4) Xu.nd (by rfl) (Or.inl (by rfl))) 
    (Ze (Zn (i:=5) Xu.nd (by rfl) (Or.inl (by rfl)) (Z5 Sm (hr.mono (by decide)) (Za (pv 1) (Za (pv 4) Zb)))) 
    (Ze (Zn (i:=6) Xu.nd (by rfl) (Or.inl (by rfl)) (Z5 Uc (hr.mono (by decide)) (Za (pv 5) Zb))) 
    (Ze (Ys (Z6 Zle (pv 6) V0 (Zy _)) 
     (Zg (Zq (Z3 (Rg (K:=K)) (Z3 (Rg (K:=K)) (Zw (Za Wr Zb)) (pv 4)) (Zw (Za (Z5 Ua (hr.mono (by decide)) (Za (pv 1) (Za (pv 4) (Za (pv 5) Zb)))) Zb))))) Z1) 
    (Zg (W8 (Wd (K:=K) oF lK lL Wg (pv 3) (Za (Z3 (Rg (K:=K)) (pv 4) (Zw (Za (pv 6) Zb))) Zb)))))))) 
   (Zg (Zq (Zw (Za Wr (Za (Z5 Pk (hr.mono (by decide)) (Za (pv 1) Zb)) (Za (Z4 (Y1 (K:=K)) (by rfl) Z.tuple Yt (Za (pv 3) Zb)) Zb))))))))))),?_⟩
 refine(let x6:TS:=_;let x8:TS:=_;let y6:TS:=Zs _ x8;let g0:TS:=Zs _ y6;let w6:TS:=Zs _ g0;let p9:TS:=Zs (O7 _ _ w6) x6;let d0:TS:=Zs _ p9;let c0:TS:=Zs _ d0;let l5:TS:=Zs _ c0;(?_:Zs _ l5 _ _ _));refine⟨_,rfl,m,l,b,es,st,rfl,M,by lia,nd,T.a _ U.l,λm1 stD esD H1 e1 Tl1 D xS hM=>?_⟩;obtain⟨k1,T1⟩:=T.go1 U.l e1 Tl1;have o7:stD.length≤6:=by lia
 have M1:Zz H1 m1 l 0 esD stD:=D.Zhn hl (by lia) hM;have tb:Tbl l stD:=⟨nd,D.Uo⟩;refine⟨_,rfl,m1,l,0,esD,stD,rfl,M1,T1,λrv H2 k2 T2 jY=>?_⟩;have qM:=k1.trans k2
 rcases jY with jY|⟨rfl,Sv⟩
 ·obtain⟨a,r,c,z,rfl,ha,hR⟩:=jY;exact⟨_,rfl,rfl,_,rfl,ifY rfl ⟨_,rfl,kk _ _ stD esD qM T2 D xS (.inl ⟨a,r,c,z,rfl,ha,hR⟩)⟩⟩
 have Sv:O3 l stD:=Sv;refine⟨_,rfl,rfl,_,rfl,ifN rfl ?_⟩;have M2:=M1.keep k2.t;refine⟨(by show 0≤sizeLine;decide),λmp hmp=>?_⟩;generalize eZ:upd H2 mp _=H3;have s3:=nS7 eZ hmp;have h3m:=nU7 eZ;have T3:=T2.same s3;have M3:=M2.same s3;have k03:=qM.trans (Zm.kept s3);refine⟨_,rfl,m1,l,0,esD,stD,rfl,M3,o7,λfp ys H4 eC e4 h4f R4=>⟨fp,rfl,⟨_,SqL.of h4f⟩,?_⟩⟩;have m3:=R4.len;have M4:=M3.same e4;have h4m:=e4 _ _ h3m;have nfm:fp≠mp:=λe=>by rw[e,h3m]at eC;cases eC
 have k04:=k03.trans (Zm.kept e4);have T4:=T3.same e4
 refine Rl (K:=K) (a:=fp) (xs:=ys) (λj σ H5=>∃(zs:List V) (rows:List (aZ×List Nat)) (v4 v5 v6:Option V),σ=[some (.ref m),some (.ref m1),some .non,some (.ref mp),v4,v5,v6]∧H5 fp=some (.lst ys)∧H5 mp=some (.lst zs)∧TR tm H5 zs rows∧rows.map (·.1)=(N7 l.cps.toList stD.length).take j∧(∀q∈rows,M8 l stD q.1 q.2)∧Kept H H5∧Tk H4 H5∧Cz ts H5)
  ⟨[],[],none,none,none,rfl,h4f,h4m,.nil,rfl,λq hq=>(by cases hq),k04,λ_ _ h=>h,T4⟩ (λj σ H5 _ h=>?_) ?_ ?_
 ·obtain⟨_,_,_,_,_,_,h5,_⟩:=h;exact SqL.of h5
 ·rintro j x σ H5 hx ⟨zs,rows,v4,v5,v6,rfl,h5f,wU,R5,vD,xQ,vI,tE,T5⟩;obtain⟨fa,kf,rfl,uV,eB⟩:=R4.at_ hx;have o6:=(Zfp eF).mp (rN uV);have M5:=M4.keep tE;have uN:=tE _ _ eB;refine⟨_,rfl,_,rfl,m1,fa,l,0,esD,stD,kf,rfl,M5,uN,o6,o7,T5.a _ U.w,λd H6 N e6 tw6 X6 hN=>?_⟩;obtain⟨vJ,T6⟩:=T5.go1 U.w e6 tw6;obtain⟨kvs,Tt,zX,hks,yL,B⟩:=X6
  have inl:∀{e:Nat},e∈[kf.2.1,kf.2.2]→e∈l.cps.toList:=λ{e} he=>by
   rcases rT.mp he with q|q
   ·rw[q];exact o6.2.1
   ·rw[rL.mp q];exact o6.2.2.1
  have sF:∀x∈Zl id (TL (l2 kf) (gP l stD stD)) (fb l stD kf) N,x<stD.length*stD.length:=Ws (P:=λx=>x<stD.length*stD.length) (by
   have h1:=tb.lt o6.1 o6.2.1;have h2:=tb.lt o6.1 o6.2.2.1;have h3:(stp l stD kf.1 kf.2.1+1)*stD.length≤stD.length*stD.length:=bG _ h1;rw[Nat.add_mul,Nat.one_mul]at h3;show stp l stD kf.1 kf.2.1*stD.length+stp l stD kf.1 kf.2.2<_
   lia) (λx hx y hy=>by
   obtain⟨c,hc,rfl⟩:=rY.mp hy
   exact Zor tb hx (inl hc)) N
  have j7:(Zl id (TL (l2 kf) (gP l stD stD)) (fb l stD kf) N).Nodup:=by
   have:=Vp (k:=id) (T:=TL (l2 kf) (gP l stD stD)) (b:=fb l stD kf) N;rwa[lH]at this
  have m6:∀x∈Zl id (TL (l2 kf) (gP l stD stD)) (fb l stD kf) N,gP l stD stD x kf.2.1∈Zl id (TL (l2 kf) (gP l stD stD)) (fb l stD kf) N∧gP l stD stD x kf.2.2∈Zl id (TL (l2 kf) (gP l stD stD)) (fb l stD kf) N:=λx hx=>by
   obtain⟨j,hj,rfl⟩:=pL.mp hx
   have at_:∀c∈[kf.2.1,kf.2.2],gP l stD stD (Zl id (TL (l2 kf) (gP l stD stD)) (fb l stD kf) N)[j] c∈Zl id (TL (l2 kf) (gP l stD stD)) (fb l stD kf) N:=λc hc=>by
    have:=U3 (k:=id) (T:=TL (l2 kf) (gP l stD stD)) (b:=fb l stD kf) (n:=N) (j:=j) (y:=gP l stD stD _ c) (rD hj) (by lia) (rY.mpr ⟨c,hc,rfl⟩);rw[lH]at this;exact this
   exact⟨at_ _ rM,at_ _ (rP _ rM)⟩
  generalize Zl id (TL (l2 kf) (gP l stD stD)) (fb l stD kf) N=o at B hks hN sF j7 m6;have W6:WdD stD.length H6 d kvs o Tt:=⟨.inl zX,hks,yL,j7⟩
  have way:∀(i:Nat) x t,o[i]?=some x→Tt[i]?=some t→fat l stD kf t=x∧Fw2 kf t:=λi x t h1 h2=>by
   obtain⟨a1,a2,a3⟩:=B.way i x t h1 h2;have hi:=(rH.mp h1).1;have hol:=Zep (b:=List.range (stD.length*stD.length)) j7 λc hc=>pU.mpr (sF c hc);rw[rX]at hol;have:=Nat.mul_le_mul o7 o7;exact⟨a1,a2,by lia⟩
  refine⟨_,rfl,d,stD.length,kvs,o,Tt,rfl,W6,λwv H7 f7 W7 hw=>?_⟩;have T7:=T6.fr f7 W6.rd;have nV:Tk H5 H7:=λb xs h=>f7.t W6.rd b xs (vJ.t b xs h);have M7:=M5.keep nV;have sT:=nV _ _ uN
  rcases hw with ⟨rfl,g9⟩|⟨i,x,t,l4,ht,hp,rfl⟩
  ·refine⟨_,rfl,rfl,_,rfl,ifY rfl ?_⟩;refine⟨(by show 1≤sizeLine;decide),λa1 kS=>?_⟩;generalize eZ:upd H7 a1 _=H8;have s8:=nS7 eZ kS;have h8:=nU7 eZ;refine⟨_,rfl,a1,fa,_,_,rfl,rfl,SqT.of h8,SqT.of (s8 _ _ sT),nofun,(by show 4≤sizeLine;decide),nofun,λ_ a2 sY=>?_⟩;have s9:=s8.trans (Zd sY (.tup ([V.str "apart"]++tf kf)));have h9:upd H8 a2 (.tup ([V.str "apart"]++tf kf)) a2=_:=Zc;generalize upd H8 a2 _=H9 at s9 h9;have W9:WdD stD.length H9 d kvs o Tt:=⟨W7.rd.elim (λq=>.inl (s9 _ _ q)) λ⟨ob,q⟩=>.inr ⟨ob,s9 _ _ q⟩,W7.ks,W7.vs,W7.nd⟩;refine⟨_,rfl,_,rfl,_,rfl,m1,fa,d,l,0,esD,stD,kf,kvs,o,Tt,rfl,M7.same s9,s9 _ _ sT,o6,W9,sF,λv2 Ha wJ Wa hv=>?_⟩;have tka:Tk H9 Ha:=wJ.t W9.rd
   rcases hv with ⟨rfl,jO⟩|⟨i,x,t,l4,ht,hp,rfl⟩
   ·obtain⟨x,hx,hs⟩:=Sv.stays tb o6 (λe=>by have:=B.zero.1;rw[e]at this;cases this) sF m6;exact absurd hs (jO x hx)
   refine⟨(by show 1≤sizeLine;decide),λa3 kT=>?_⟩;generalize eZ:upd Ha a3 _=Hb;have sb:=nS7 eZ kT;have hb:=nU7 eZ;refine⟨a2,a3,_,_,rfl,rfl,SqT.of (sb _ _ (tka _ _ h9)),SqT.of hb,nofun,(by show 5≤sizeLine;decide),nofun,λ_ a4 zO=>?_⟩;have sc:=sb.trans (Zd zO (.tup ([V.str "apart"]++tf kf++[V.str (sOf t)])));obtain⟨w1,w2⟩:=way i x t l4 ht;refine kk _ _ stD esD ?_ ((T7.same s9).fr wJ W9.rd |>.same sc) D xS (.inr ⟨Sv,.inl ⟨a4,kf,t,rfl,Zc,o6,w2,?_,λu hu=>B.never (p:=λx=>x/stD.length=x%stD.length) hN g9 u hu⟩⟩)
   ·exact⟨λ{b o'} h n1 n2=>
     have h6:=vJ.a (vI.a h n1 n2) n1 n2;have ne:=Xr h6 zX (n2 _)
     sc _ _ (wJ _ _ ne (s9 _ _ (f7 _ _ ne h6)))⟩
   ·rw[w1];exact hp
  ·refine⟨_,rfl,rfl,_,rfl,ifN rfl ?_⟩;have l7:∀{b:Addr}{xs:List V},H5 b=some (.lst xs)→H7 b=some (.lst xs):=λ{b xs} h=>f7.a W6.rd b _ (vJ.l h) (λ_=>nofun) λ_ _=>nofun;have h7f:=l7 h5f;have h7m:=l7 wU;refine⟨_,rfl,.inl ⟨rfl,_,SqL.of h7m⟩,_,rfl,_,rfl,(by show 1≤sizeLine;decide),λa1 kS=>?_⟩;generalize eZ:upd H7 a1 _=H8;have s8:=nS7 eZ kS;have h8:=nU7 eZ;refine⟨fa,a1,_,_,rfl,rfl,SqT.of (s8 _ _ sT),SqT.of h8,nofun,(by show 4≤sizeLine;decide),nofun,λ_ a2 sY=>?_⟩;have s9:=s8.trans (Zd sY (.tup (tf kf++[V.str (sOf t)])));have h9:upd H8 a2 (.tup (tf kf++[V.str (sOf t)])) a2=_:=Zc;generalize upd H8 a2 _=H9 at s9 h9;have wX:=s9 _ _ h7m;have h9f:=s9 _ _ h7f
   have xU:zs.length≤54:=by
    rw[R5.len,←rC (f:=(·.1)),vD,pR];exact pQ (Nat.min_le_right _ _) (Kj (by have:=len_list l;lia) o7)
   have k9:Kept H H9:=⟨λ{b o'} h n1 n2=>
    have h6:=vJ.a (vI.a h n1 n2) n1 n2
    s9 _ _ (f7 _ _ (Xr h6 zX (n2 _)) h6)⟩
   refine⟨mp,zs,_,rfl,rfl,wX,(by rw[sizeLine_eq];lia),?_⟩;have tkp:Tk H9 (upd H9 mp (.lst (zs++[V.ref a2]))):=λb xs h=>(Zk (Xr h wX nofun)).trans h;have Zmu:Tk H5 (upd H9 mp (.lst (zs++[V.ref a2]))):=λb xs h=>tkp _ _ (s9 _ _ (nV _ _ h));refine⟨zs++[V.ref a2],rows++[(kf,t)],_,_,_,rfl,(Zk nfm).trans h9f,Zc,(R5.keep Zmu).snoc (tkp _ _ h9),?_,λq hq=>?_,qM.put hmp k9,λb xs h=>Zmu _ _ (tE _ _ h),(T7.same s9).put wX _⟩
   ·rw[pS,vD,oK,uV];rfl
   ·rcases oB.mp hq with z|z
    ·exact xQ q z
    ·rw[rL.mp z];obtain⟨w1,w2⟩:=way i x t l4 ht;exact⟨w2,by show fat l stD kf t/_=fat l stD kf t%_;rw[w1];exact hp⟩
 ·rintro σ H5 ⟨zs,rows,v4,v5,v6,rfl,h5f,wU,R5,vD,xQ,vI,tE,T5⟩;have M5:=M4.keep tE;refine⟨_,rfl,m1,l,0,esD,stD,rfl,M5,o7,λi x h=>Sv.pth tb M5.beg h,λra rk H6 e6 h6 R=>?_⟩;refine⟨_,rfl,mp,zs,rfl,.inl ⟨SqL.of (e6 _ _ wU),λma xP=>?_⟩⟩;have s7:=e6.trans (Zd xP (.tup zs));have h7:upd H6 ma (.tup zs) ma=_:=Zc;have z7:=Zd xP (.tup zs) _ _ h6;generalize upd H6 ma _=H7 at s7 h7 z7;refine⟨(by show 3≤sizeLine;decide),λpa hpa=>?_⟩;have s8:=Zd hpa (.tup [V.str "spread",.ref ra,.ref ma]);have nN:=s7.trans s8;refine kk _ _ stD esD (vI.trans (Zm.kept nN)) (T5.same nN) D xS (.inr ⟨Sv,.inr ⟨pa,ra,ma,rk,zs,rows,rfl,Zc,s8 _ _ z7,R,s8 _ _ h7,R5.keep λb xs h=>nN _ _ h,?_,xQ⟩⟩);rw[vD,m3,pZ]
end
theorem Yc.or{k:Nat}{ps:List Str}{sp mS:Sp}(A:Yc P w K mg base CX0 k f fd ps sp)(B:Yc P w K mg base CX0 k f fd ps mS):Yc P w K mg base CX0 k f fd ps (λvs H Q E=>sp vs H Q E∨mS vs H Q E):=
 ⟨λvs H Q E h=>h.elim (A.len vs H Q E) (B.len vs H Q E),λA' outer s H args us vs Q E hr he hb hv hs=>hs.elim (A.run A' outer s H args us vs Q E hr he hb hv) (B.run A' outer s H args us vs Q E hr he hb hv)⟩
inductive Ac(vs:List V)(H:Hp)(Q:VK):Prop
 |mk(m:Addr)(l:Str)(b:Nat)(es:List Nat)(st:aB)(r:Nat)(h1:vs=[.ref m,nI r])(h2:Zz H m l b es st)(h3:r<st.length)(h4:Q (V.bl true) H):Ac vs H Q
def D4:Sp:=λvs H Q _=>Ac vs H Q
theorem Ei(F:Fun K "is_there" "is_there" Q9 f fd)(Z:Blt mg):Yc P w K mg base CX0 1 f fd ZC D4:=by
 refine F.ok Fs (λvs H Q E h=>?_) (λcdv A outer s H vs Q E hr h=>?_)
 ·obtain⟨m,l,b,es,st,r,rfl,_⟩:=h;rfl
 obtain⟨m,l,b,es,st,r,rfl,M,eS,k⟩:=h;refine⟨_,(Zg (Zq (Zee Zny Zjs Zf (pv 1) (Zt (Yo (K:=K)) (by rfl) Z.len Y3 (Za (Zr (Zp (K:=K)) (pv 0) Zf (λ_ _=>rfl)) Zb))))),?_⟩;obtain⟨eA,sA,rA,g1,g2,g3,g4,g5⟩:=M.lay;have t6:(rA.map V.ref).length=st.length:=by rw[rC,g4]
 refine⟨_,rfl,_,_,rfl,rfl,_,rfl,?_⟩;refine ifY (decide_eq_true (show (0:Int)≤(r:Int) by lia)) ⟨_,rfl,m,_,_,_,rfl,rfl,SqT.of g1,Zj (j:=3) rfl,sA,_,rfl,.inr (SqT.of g3),_,_,rfl,rfl,?_⟩;rw[decide_eq_true (show (r:Int)<(((rA.map V.ref).length:Nat):Int) by lia)];exact k
theorem O1(n:Nat):(List.replicate n true).all id=true:=by simp
theorem Vy(n:Nat):(List.replicate n true).map V.bl++[V.bl true]=(List.replicate (n+1) true).map V.bl:=by rw[List.replicate_succ',pS];rfl
theorem Gj{cs:List Nat}(h:c∈cs):inV (.str (one c)) (cs.map Oe)=true:=iN.mpr ⟨Oe c,rY.mpr ⟨c,h,rfl⟩,by show ((one c:Str)==one c)=true;simp⟩
theorem one_inj{d:Nat}(h:one c=one d):c=d:=by
 have:(#[c]:Array Nat) = #[d]:=congrArg Str.cps h;simpa using this
inductive Zc2(vs:List V)(H:Hp)(Q:VK):Prop
 |mk(l:Str)(t:List Nat)(h1:vs=[.str l,.str (sOf t)])(h2:t.length≤500)(h3:(∀c∈t,c∈l.cps.toList))(h4:∀H',Zm H H'→Q (V.bl true) H'):Zc2 vs H Q
def Zc3:Sp:=λvs H Q _=>Zc2 vs H Q
theorem Lz(F:Fun K "of_letters" "of_letters" Xy f fd)(Z:Blt mg):Yc P w K mg base CX0 1 f fd ZL Zc3:=by
 refine F.ok Qr (λvs H Q E h=>?_) (λcdv A outer s H vs Q E hr h=>?_)
 ·obtain⟨l,t,rfl,_⟩:=h;rfl
 obtain⟨l,t,rfl,ht,x9,k⟩:=h;refine⟨_,(Zg (Zq (Zt (Wi (K:=K)) (by rfl) Z.all Ru (Za (Yj (sc:=Zh Xy) (Nm:=ZL) (own:=["sign"]) (fr:=[0]) ⟨rfl,by decide +kernel,by decide +kernel,by decide +kernel,by decide +kernel⟩ (by rfl) (Ye (by decide)) (Up (pv 1)) (λd=>(Zo (i:=0) Su (by rfl) (Or.inl (by rfl)))) (λd=>Ym) (λd=>(Yr Za8 (pv 0) (pv 1) (by with_unfolding_all rfl)))) Zb)))),?_⟩;have hs:(sOf t).cps.toList=t:=rfl;refine⟨_,rfl,sOf t,rfl,?_⟩;refine Ta (cs:=(sOf t).cps.toList) (λn acc H5=>acc=(List.replicate n true).map V.bl∧Zm H H5) (Z0 (by rw[hs];lia)) ⟨rfl,Zm.refl _⟩ (λn acc H5 z=>by rw[z.1,rC,oV];exact rG _) (λn acc H5 y hy z=>?_) (λacc H5 z y hy=>?_)
 ·obtain⟨rfl,e5⟩:=z;have Zlz:=x9 _ (rN hy);refine U9 ⟨_,rfl,_,rfl,_,_,rfl,rfl,?_⟩;have hf:(!(Builtin.Str.occurrences l ⟨#[_]⟩ 0 l.length 1).isEmpty)=true:=(StrLaws.found_one l _).trans (decide_eq_true Zlz);exact⟨by rw[←Vy];exact congrArg (λb=>_++[V.bl b]) hf,e5⟩
 ·obtain⟨rfl,e5⟩:=z;refine⟨y,_,rfl,SqL.of Zc,?_⟩;rw[O1];exact k _ (e5.trans (Zd hy _))
inductive Zc4(vs:List V)(H:Hp)(Q:VK):Prop
 |mk(p:Addr)(c d:Nat)(t:List Nat)(h1:vs=[.ref p,.str (sOf t)])(h2:H p=some (.lst [.str (one c),.str (one d)]))(h3:t.length≤500)(h4:(∀e∈t,e∈[c,d]))(h5:∀H',Zm H H'→Q (V.bl true) H'):Zc4 vs H Q
def Zc5:Sp:=λvs H Q _=>Zc4 vs H Q
theorem L0(F:Fun K "of_letters" "of_letters" Xy f fd)(Z:Blt mg):Yc P w K mg base CX0 1 f fd ZL Zc5:=by
 refine F.ok Qr (λvs H Q E h=>?_) (λcdv A outer s H vs Q E hr h=>?_)
 ·obtain⟨p,c,d,t,rfl,_⟩:=h;rfl
 obtain⟨p,c,d,t,rfl,hp,ht,x9,k⟩:=h;refine⟨_,(Zg (Zq (Zt (Wi (K:=K)) (by rfl) Z.all Ru (Za (Yj (sc:=Zh Xy) (Nm:=ZL) (own:=["sign"]) (fr:=[0]) ⟨rfl,by decide +kernel,by decide +kernel,by decide +kernel,by decide +kernel⟩ (by rfl) (Ye (by decide)) (Up (pv 1)) (λd=>(Zo (i:=0) Su (by rfl) (Or.inl (by rfl)))) (λd=>Ym) (λd=>(Yr (Lu (K:=K)) (pv 0) (pv 1) (by with_unfolding_all rfl)))) Zb)))),?_⟩;have hs:(sOf t).cps.toList=t:=rfl;refine⟨_,rfl,sOf t,rfl,?_⟩;refine Ta (cs:=(sOf t).cps.toList) (λn acc H5=>acc=(List.replicate n true).map V.bl∧Zm H H5) (Z0 (by rw[hs];lia)) ⟨rfl,Zm.refl _⟩ (λn acc H5 z=>by rw[z.1,rC,oV];exact rG _) (λn acc H5 y hy z=>?_) (λacc H5 z y hy=>?_)
 ·obtain⟨rfl,e5⟩:=z;have Zlz:=x9 _ (rN hy);refine U9 ⟨_,rfl,_,rfl,p,_,rfl,.inl (SqL.of (e5 _ _ hp)),rfl,rfl,?_⟩;have hf:=Gj Zlz;exact⟨by rw[←Vy];exact congrArg (λb=>_++[V.bl b]) hf,e5⟩
 ·obtain⟨rfl,e5⟩:=z;refine⟨y,_,rfl,SqL.of Zc,?_⟩;rw[O1];exact k _ (e5.trans (Zd hy _))
inductive Ad(vs:List V)(H:Hp)(Q:VK):Prop
 |mk(m:Addr)(l:Str)(b:Nat)(es:List Nat)(st:aB)(r c d:Nat)(t:List Nat)(h1:vs=[.ref m,nI r,.str (one c),.str (one d),.str (sOf t)])(h2:Zz H m l b es st)(h3:r<st.length)(h4:c∈l.cps.toList)(h5:d∈l.cps.toList)(h6:c≠d)(h7:t.length≤500)(h8:(∀e∈t,e∈[c,d]))(h9:∀H',Zm H H'→Q (V.bl true) H'):Ad vs H Q
def D5:Sp:=λvs H Q _=>Ad vs H Q
theorem Co(F:Fun K "is_fork" "is_fork" Nc f fd)(Z:Blt mg)(Wz:Cal P w K mg base "is_there" 1 ZC D4)(X1:Cal P w K mg base "of_letters" 1 ZL (λvs H Q E=>Zc3 vs H Q E∨Zc5 vs H Q E)):Yc P w K mg base CX0 2 f fd aU D5:=by
 refine F.ok Q5 (λvs H Q E h=>?_) (λcdv A outer s H vs Q E hr h=>?_)
 ·obtain⟨m,l,b,es,st,r,c,d,t,rfl,_⟩:=h;rfl
 obtain⟨m,l,b,es,st,r,c,d,t,rfl,M,eS,hc,hd,w9,ht,x9,k⟩:=h
 refine⟨_,(Ze (Zn (i:=5) Q5.nd (by rfl) (Or.inl (by rfl)) (Z4 (Rt (by rfl)) (by rfl) Z.list Sb (Za (Zr (Zp (K:=K)) (pv 0) Zf (λ_ _=>rfl)) Zb))) 
   (Ze (Zn (i:=6) Q5.nd (by rfl) (Or.inl (by rfl)) (Rb (Yr (Lu (K:=K)) (pv 2) (pv 5) (by with_unfolding_all rfl)) (Rb (Yr (Lu (K:=K)) (pv 3) (pv 5) (by with_unfolding_all rfl)) (Ra (Yr Ss (pv 2) (pv 3) (Zy _)))))) 
   (Zg (Zq (Rb (Z5 Wz (hr.mono (by decide)) (Za (pv 0) (Za (pv 1) Zb))) (Rb (pv 6) (Ra (Z5 X1 (hr.mono (by decide)) (Za (Zx (Za (pv 2) (Za (pv 3) Zb))) (Za (pv 4) Zb)))))))))),?_⟩
 refine(let x6:TS:=_;let x8:TS:=Zs _ x6;(?_:Zs _ x8 _ _ _));obtain⟨eA,sA,rA,g1,g2,g3,g4,g5⟩:=M.lay;have xO:=M.few.2.1;refine⟨_,rfl,m,_,_,_,rfl,rfl,SqT.of g1,Zj (j:=0) rfl,l,rfl,Xe (by lia),λlp m7=>?_⟩;generalize eZ:upd H lp _=H1;have s1:=nS7 eZ m7;have h1:=nU7 eZ
 have xK:(l.cps.toList.map Oe).all Ug=true:=iE.mpr λv hv=>by
  obtain⟨_,_,rfl⟩:=rY.mp hv;rfl
 refine⟨_,rfl,_,rfl,lp,_,rfl,.inl (SqL.of h1),rfl,xK,_,rfl,ifY (Gj hc) ⟨_,rfl,_,rfl,lp,_,rfl,.inl (SqL.of h1),rfl,xK,_,rfl,ifY (Gj hd) ⟨_,rfl,_,rfl,rfl,?_⟩⟩⟩
 have y8:(!decide (V.str (one c)=V.str (one d)))=true:=by
  rw[decide_eq_false λe=>w9 (one_inj (V.str.inj e))];rfl
 refine⟨_,rfl,_,rfl,m,l,b,es,st,r,rfl,M.same s1,eS,_,rfl,ifY rfl ⟨_,rfl,_,rfl,ifY y8 ⟨_,rfl,_,rfl,(by show 2≤sizeLine;decide),λp hp=>⟨_,rfl,.inr ⟨p,c,d,t,rfl,Zc,ht,x9,λH' e=>k H' ((s1.trans (Zd hp _)).trans e)⟩⟩⟩⟩⟩
inductive B5(vs:List V)(H:Hp)(Q:VK):Prop
 |mk(m ra:Addr)(l:Str)(b:Nat)(es:List Nat)(st:aB)(rk:List Nat)(h1:vs=[.ref m,.ref ra])(h2:Zz H m l b es st)(h3:st.length≤6)(h4:H ra=some (.tup (rk.map nI)))(h5:rk.length=st.length)(h6:(∀x,x<st.length→∀y∈st.getD x [],y≠x→rk.getD x 0<rk.getD y 0))(h7:∀H',Zm H H'→Q (V.bl true) H'):B5 vs H Q
def Zcy:Sp:=λvs H Q _=>B5 vs H Q
theorem Jb(F:Fun K "ranks_rise" "ranks_rise" Vm f fd)(Z:Blt mg):Yc P w K mg base CX0 1 f fd ["machine","ranks"] Zcy:=by
 refine F.ok Uh (λvs H Q E h=>?_) (λcdv A outer s H vs Q E hr h=>?_)
 ·obtain⟨m,ra,l,b,es,st,rk,rfl,_⟩:=h;rfl
 obtain⟨m,ra,l,b,es,st,rk,rfl,M,j3,v9,t6,Zfd,k⟩:=h
 refine⟨_,(Ze (Y5 pP (by rfl) (Ob (K:=K) (by rfl) Z.enumerate (Zr (Zp (K:=K)) (pv 0) Zf (λ_ _=>rfl))) (Vo (K:=K) (n:=2) (by rfl) (Yb (Zo (i:=2) Uh.nd (by rfl) (Or.inr (by rfl))) (Yb (Zo (i:=3) Uh.nd (by rfl) (Or.inl (by rfl))) Vb))) 
    (Zg (Ys (S8 (Yn (K:=K) (Zt (Wi (K:=K)) (by rfl) Z.all Ru (Za (Yj (sc:=Zh Vm) (Nm:=YL) (own:=["there"]) (fr:=[1,2]) ⟨rfl,by decide +kernel,by decide +kernel,by decide +kernel,by decide +kernel⟩ (by rfl) (Ye (by decide)) (Va (K:=K) (pv 3)) (λd=>(Zo (i:=0) Mf (by rfl) (Or.inl (by rfl)))) (λd=>Ym) (λd=>(Zjq (Yr X2 (pv 0) (pv 2) (Zy _)) (Ra (Yr Zeh (Zr (Zp (K:=K)) (pv 1) (pv 0) (λ_ _=>rfl)) (Zr (Zp (K:=K)) (pv 1) (pv 2) (λ_ _=>rfl)) (Zy _)))))) Zb)) (λ_=>rfl))) 
     (Zg (Zq Xw)) Z1))) 
   (Zg (Zq Xw))),?_⟩
 refine(let x6:TS:=_;(?_:Zs _ x6 _ _ _));obtain⟨eA,sA,rA,g1,g2,g3,g4,g5⟩:=M.lay;refine⟨_,rfl,m,_,_,_,rfl,rfl,SqT.of g1,Zj (j:=3) rfl,sA,_,rfl,.inr ⟨SqT.of g3,?_⟩⟩;refine Rm (Sq:=λH xs=>SqT K H sA xs) (xs:=rA.map V.ref) (λi σ H2=>∃v2 v3,σ=[some (.ref m),some (.ref ra),v2,v3]∧Zm H H2) ⟨none,none,rfl,Zm.refl _⟩ (λi σ H2 _ ⟨_,_,_,e⟩=>SqT.of (e _ _ g3)) ?_ ?_
 ·rintro i x σ H2 q hx ⟨v2,v3,rfl,e2⟩ hq;rw[rJ]at hx
  cases xF:rA[i]? with
  |none=>rw[xF]at hx;cases hx
  |some a=>
   rw[xF]at hx;cases hx;have hi:i<st.length:=by have:=(rH.mp xF).1;lia
   have Pc:st[i]?=some st[i]:=rD hi;have kZ:st.getD i []=st[i]:=by rw[rK,Pc];rfl
   have vC:=M.rows st[i] (oG hi);have xO:=M.few.2.1;have j0:=Zfd i hi;rw[kZ]at j0;generalize eZ:upd H2 q _=H3;have s3:=nS7 eZ hq;have wR:=nU7 eZ;have e3:=e2.trans s3;have wP:=e3 _ _ (g5 i a _ xF Pc);generalize st[i]=row at Pc vC wP j0;have uZ:(row.map nI).length=row.length:=rC ..
   have rkA:∀{y:Nat},y<st.length→(rk.map nI)[y]?=some (nI (rk.getD y 0)):=λ{y} hy=>by
    rw[rJ,rD (by lia),rK,rD (by lia)];rfl
   refine⟨q,_,rfl,SqT.of wR,rfl,_,_,rfl,_,_,rfl,rfl,_,rfl,a,rfl,⟨_,SqT.of wP⟩,?_⟩
   refine X5 (K:=K) (a:=a) (xs:=row.map nI) (λn acc H4=>acc=(List.replicate n true).map V.bl∧Zm H3 H4) (by rw[uZ];exact Z0 (by lia)) ⟨rfl,Zm.refl _⟩ (λn acc H4 z=>by rw[z.1,rC,oV];exact rG _)
    (λn acc H4 z=>SqT.of (z.2 _ _ wP)) (λn acc H4 y hy z=>?_) (λacc H4 z y hy=>?_)
   ·obtain⟨rfl,e4⟩:=z;rw[rJ]at hy
    cases yQ:row[n]? with
    |none=>rw[yQ]at hy;cases hy
    |some u=>
     rw[yQ]at hy;cases hy;have hu:=rN yQ;have hul:=vC.2 u hu;refine U9 ⟨_,rfl,_,rfl,rfl,_,rfl,?_⟩
     by_cases c:u=i
     ·refine ifY (decide_eq_true (by rw[c];rfl)) ⟨Vy n,e4⟩
     ·have e34:=e3.trans e4;refine ifN (decide_eq_false λe=>c (by have:((u:Nat):Int)=i:=V.int.inj e;lia)) ⟨_,rfl,_,rfl,ra,_,_,_,rfl,rfl,SqT.of (e34 _ _ v9),Zj (j:=u) (rkA hul),_,rfl,_,rfl,ra,_,_,_,rfl,rfl,SqT.of (e34 _ _ v9),Zj (j:=i) (rkA hi),_,_,rfl,rfl,?_⟩;have x5:=j0 u hu c;rw[decide_eq_true (show ((rk.getD i 0:Nat):Int)<((rk.getD u 0:Nat):Int) by lia)];exact⟨Vy n,e4⟩
   ·obtain⟨rfl,e4⟩:=z;refine⟨y,_,rfl,SqL.of Zc,?_⟩;refine⟨_,rfl,ifN (by rw[O1];rfl) ⟨_,_,rfl,(e3.trans e4).trans (Zd hy _)⟩⟩
 ·rintro σ H2 ⟨v2,v3,rfl,e2⟩;exact k _ e2
theorem Zba{X:Cx}:OpR X (compareOp .Gt) (λx y H Q=>∃i j,x=.str i∧y=.str j∧Q (.bl (decide (j.cps.toList<i.cps.toList))) H):=by
 intro pins s σ H x y v u Q I rx ry h;obtain⟨i,j,rfl,rfl,q⟩:=h;obtain⟨t,rfl⟩:=rx;obtain⟨t',rfl⟩:=ry;exact PySem.P.gt_str (Ya I q rfl)
theorem Zgl{l:Str}(M:Zz H m l b es st){t:List Nat}:∀{r:Nat},r<st.length→(∀c∈t,c∈l.cps.toList)→t.foldl (stp l st) r<st.length:=by
 induction t with
 |nil=>exact λh _=>h
 |cons c t ih=>exact λhr h=>ih (X3 M hr (h c rM)) λd hd=>h d (rP _ hd)
theorem P6(t u:List Nat):(sOf t++sOf u:Str)=sOf (t++u):=by
 show Str.mk (t.toArray++u.toArray)=Str.mk (t++u).toArray;simp
theorem Mz{l:Str}(lt:∀{x c:Nat},x<st.length→c∈l.cps.toList→stp l st x c<st.length){c d:Nat}(f1:r<st.length)(f2:c∈l.cps.toList)(f3:d∈l.cps.toList):∀{t:List Nat},(∀e∈t,e∈[c,d])→fat l st (r,c,d) t/st.length=t.foldl (stp l st) (stp l st r c)∧fat l st (r,c,d) t%st.length=t.foldl (stp l st) (stp l st r d)∧t.foldl (stp l st) (stp l st r c)<st.length∧t.foldl (stp l st) (stp l st r d)<st.length:=by
 have inl:∀{e:Nat},e∈[c,d]→e∈l.cps.toList:=λ{e} he=>by
  rcases rT.mp he with q|q
  ·rw[q];exact f2
  ·rw[rL.mp q];exact f3
 have gen:∀(t:List Nat) (x y:Nat),x<st.length→y<st.length→(∀e∈t,e∈[c,d])→t.foldl (gP l st st) (x*st.length+y)/st.length=t.foldl (stp l st) x∧t.foldl (gP l st st) (x*st.length+y)%st.length=t.foldl (stp l st) y∧t.foldl (stp l st) x<st.length∧t.foldl (stp l st) y<st.length:=by
  intro t
  induction t with
  |nil=>exact λx y hx hy _=>⟨(V1 hy).1,(V1 hy).2,hx,hy⟩
  |cons e t ih=>
   intro x y hx hy h;have he:=inl (h e rM);have hd:=V1 (x:=x) hy
   have:gP l st st (x*st.length+y) e=stp l st x e*st.length+stp l st y e:=by
    unfold gP;rw[hd.1,hd.2]
   rw[iA,iA,iA,this];exact ih _ _ (lt hx he) (lt hy he) λe' h'=>h e' (rP _ h')
 exact λ{t} h=>gen t _ _ (lt f1 f2) (lt f1 f3) h
inductive B3(vs:List V)(H:Hp)(Q:VK):Prop
 |mk(m ra:Addr)(l:Str)(b:Nat)(es:List Nat)(st:aB)(q:aZ×List Nat)(h1:vs=[.ref m,.ref ra])(h2:Zz H m l b es st)(h3:H ra=some (.tup (tm q)))(h4:G8 l st.length q.1)(h5:M8 l st q.1 q.2)(h6:∀H',Zm H H'→Q (V.bl true) H'):B3 vs H Q
def Zcx:Sp:=λvs H Q _=>B3 vs H Q
theorem Hy(F:Fun K "row_holds" "row_holds" S7 f fd)(Z:Blt mg)(Vu:Cal P w K mg base "is_fork" 2 aU D5)(Zu:Cal P w K mg base "room_behind" 1 aY Te):Yc P w K mg base CX0 3 f fd ["machine","row"] Zcx:=by
 refine F.ok Wl (λvs H Q E h=>?_) (λcdv A outer s H vs Q E hr h=>?_)
 ·obtain⟨m,ra,l,b,es,st,q,rfl,_⟩:=h;rfl
 obtain⟨m,ra,l,b,es,st,⟨⟨r,c,d⟩,t⟩,rfl,M,v9,⟨f1,f2,f3,f4⟩,⟨⟨w1,w2⟩,hm⟩,k⟩:=h
 refine⟨_,(Ze (Zn (i:=2) Wl.nd (by rfl) (Or.inl (by rfl)) (Zr (Zp (K:=K)) (pv 1) Zf (λ_ _=>rfl))) 
   (Ze (Zn (i:=3) Wl.nd (by rfl) (Or.inl (by rfl)) (Zr (Zp (K:=K)) (pv 1) Zf (λ_ _=>rfl))) 
   (Ze (Zn (i:=4) Wl.nd (by rfl) (Or.inl (by rfl)) (Zr (Zp (K:=K)) (pv 1) Zf (λ_ _=>rfl))) 
   (Ze (Zn (i:=5) Wl.nd (by rfl) (Or.inl (by rfl)) (Zr (Zp (K:=K)) (pv 1) Zf (λ_ _=>rfl))) 
   (Ze (Ys (PW.pt (F0 (S8 (Yn (K:=K) (Z5 Vu (hr.mono (by decide)) (Za (pv 0) (Za (pv 2) (Za (pv 3) (Za (pv 4) (Za (pv 5) Zb)))))) (λ_=>rfl))) (Lq (Z6 Zba (pv 3) (pv 4) (Zy _))))) 
    (Zg (Zq Xw)) Z1) 
   (Zg (Zq (Yr X2 (Z5 Zu (hr.mono (by decide)) (Za (pv 0) (Za (pv 2) (Za (Z3 Xx (pv 3) (pv 5)) Zb)))) (Z5 Zu (hr.mono (by decide)) (Za (pv 0) (Za (pv 2) (Za (Z3 Xx (pv 4) (pv 5)) Zb)))) (Zy _))))))))),?_⟩
 refine(let x6:TS:=_;let x8:TS:=Zs _ x6;let y6:TS:=Zs _ x8;let g0:TS:=Zs _ y6;let w6:TS:=Zs _ g0;(?_:Zs _ w6 _ _ _));have dn:=Mz (X3 M) f1 f2 f3 w1;have o1:∀e∈t,e∈l.cps.toList:=λe he=>(rT.mp (w1 e he)).elim (λq=>q▸f2) λq=>rL.mp q▸f3;have oc:(one c++sOf t:Str)=sOf (c :: t):=P6 [c] t;have od:(one d++sOf t:Str)=sOf (d :: t):=P6 [d] t;have in1:∀{x:Nat},x∈l.cps.toList→∀e∈x :: t,e∈l.cps.toList:=λ{x} hx e he=>(rT.mp he).elim (λq=>q▸hx) (o1 e);have w2':t.length≤216:=w2;have gZ:1+t.length≤sizeLine:=by rw[sizeLine_eq];lia
 refine⟨_,rfl,ra,_,_,_,rfl,rfl,SqT.of v9,Zj (j:=0) rfl,_,rfl,ra,_,_,_,rfl,rfl,SqT.of v9,Zj (j:=1) rfl,_,rfl,ra,_,_,_,rfl,rfl,SqT.of v9,Zj (j:=2) rfl,_,rfl,ra,_,_,_,rfl,rfl,SqT.of v9,Zj (j:=3) rfl,?_⟩;refine⟨_,rfl,_,rfl,_,rfl,_,rfl,_,rfl,m,l,b,es,st,r,c,d,t,rfl,M,f1,f2,f3,rV f4,pQ w2 (by decide),w1,λH1 e1=>⟨_,rfl,ifN rfl ?_⟩⟩;have M1:=M.same e1;refine⟨_,rfl,_,rfl,_,_,rfl,rfl,_,rfl,ifN ?_ ?_⟩
 ·refine decide_eq_false λh=>?_;have f4':c<d:=f4;have:[d]<[c]:=h;rw[List.cons_lt_cons_iff]at this
  rcases this with q|⟨q,_⟩<;>lia
 refine⟨_,rfl,_,rfl,_,rfl,_,rfl,_,_,rfl,rfl,gZ,m,l,b,es,st,r,sOf (c :: t),by rw[←oc]<;>rfl,M1,f1,in1 f2,?_⟩;refine⟨_,rfl,_,rfl,_,rfl,_,rfl,_,_,rfl,rfl,gZ,m,l,b,es,st,r,sOf (d :: t),by rw[←od]<;>rfl,M1,f1,in1 f3,rfl,?_⟩;obtain⟨d1,d2,d3,d4⟩:=dn;have jL:t.foldl (stp l st) (stp l st r c)=t.foldl (stp l st) (stp l st r d):=by rw[←d1,←d2];exact hm
 show Q (V.bl (decide (nI (t.foldl (stp l st) (stp l st r c))=nI (t.foldl (stp l st) (stp l st r d))))) H1;rw[decide_eq_true (by rw[jL])];exact k _ e1
inductive Zcz(vs:List V)(H:Hp)(Q:VK):Prop
 |mk(m:Addr)(l:Str)(b:Nat)(es:List Nat)(st:aB)(r:Nat)(t u:List Nat)(h1:vs=[.ref m,nI r,.str (sOf t),.str (sOf u)])(h2:Zz H m l b es st)(h3:r<st.length)(h4:t.length+u.length≤500)(h5:(∀c∈t,c∈l.cps.toList))(h6:(∀c∈u,c∈l.cps.toList))(h7:t.foldl (stp l st) r≠r)(h8:u.foldl (stp l st) (t.foldl (stp l st) r)=r)(h9:∀H',Zm H H'→Q (V.bl true) H'):Zcz vs H Q
def Ziz:Sp:=λvs H Q _=>Zcz vs H Q
theorem Ja(F:Fun K "ring_holds" "ring_holds" Tg f fd)(Z:Blt mg)(Wz:Cal P w K mg base "is_there" 1 ZC D4)(X1:Cal P w K mg base "of_letters" 1 ZL (λvs H Q E=>Zc3 vs H Q E∨Zc5 vs H Q E))(Zu:Cal P w K mg base "room_behind" 1 aY Te):Yc P w K mg base CX0 2 f fd YK Ziz:=by
 refine F.ok Qq (λvs H Q E h=>?_) (λcdv A outer s H vs Q E hr h=>?_)
 ·obtain⟨m,l,b,es,st,r,t,u,rfl,_⟩:=h;rfl
 obtain⟨m,l,b,es,st,r,t,u,rfl,M,eS,hz,ht,hu,y8,hbk,k⟩:=h
 refine⟨_,(Ze (Ys (PW.pt (F0 (S8 (Yn (K:=K) (Z5 Wz (hr.mono (by decide)) (Za (pv 0) (Za (pv 1) Zb))) (λ_=>rfl))) (Lq (S8 (Yn (K:=K) (Z5 X1 (hr.mono (by decide)) (Za (Zr (Zp (K:=K)) (pv 0) Zf (λ_ _=>rfl)) (Za (Z3 Xx (pv 2) (pv 3)) Zb))) (λ_=>rfl)))))) 
    (Zg (Zq Xw)) Z1) 
   (Ze (Zn (i:=4) Qq.nd (by rfl) (Or.inl (by rfl)) (Z5 Zu (hr.mono (by decide)) (Za (pv 0) (Za (pv 1) (Za (pv 2) Zb))))) 
   (Zg (Zq (Rb (Yr Ss (pv 4) (pv 1) (Zy _)) (Ra (Yr X2 (Z5 Zu (hr.mono (by decide)) (Za (pv 0) (Za (pv 4) (Za (pv 3) Zb)))) (pv 1) (Zy _)))))))),?_⟩
 refine(let x6:TS:=_;let x8:TS:=Zs _ x6;(?_:Zs _ x8 _ _ _));have xO:=M.few.2.1;obtain⟨eA,sA,rA,g1,g2,g3,g4,g5⟩:=M.lay;have hc:(sOf t++sOf u:Str)=sOf (t++u):=P6 t u;have x5:t.foldl (stp l st) r<st.length:=Zgl M eS ht;refine⟨_,rfl,_,rfl,m,l,b,es,st,r,rfl,M,eS,_,rfl,ifN rfl ?_⟩;refine⟨_,rfl,m,_,_,_,rfl,rfl,SqT.of g1,Zj (j:=0) rfl,_,rfl,_,rfl,_,_,rfl,rfl,(by show t.length+u.length≤sizeLine;rw[sizeLine_eq];lia),.inl ⟨l,t++u,by rw[←hc]<;>rfl,by rw[rS];exact hz,λc h=>(oB.mp h).elim (ht c) (hu c),λH1 e1=>⟨_,rfl,ifN rfl ?_⟩⟩⟩;have M1:=M.same e1;refine⟨_,rfl,_,rfl,_,rfl,m,l,b,es,st,r,sOf t,rfl,M1,eS,ht,?_⟩;refine⟨_,rfl,_,rfl,rfl,_,rfl,ifY ?_ ⟨_,rfl,_,rfl,_,rfl,m,l,b,es,st,_,sOf u,rfl,M1,x5,hu,_,rfl,rfl,?_⟩⟩
 ·show (!decide (nI (t.foldl (stp l st) r)=nI r))=true;rw[decide_eq_false λe=>y8 (by have:((t.foldl (stp l st) r:Nat):Int)=r:=V.int.inj e;lia)];rfl
 ·have:decide (nI (u.foldl (stp l st) (t.foldl (stp l st) r))=nI r)=true:=decide_eq_true (by rw[hbk]);show Q (V.bl (decide (nI (u.foldl (stp l st) (t.foldl (stp l st) r))=nI r))) H1;rw[this];exact k _ e1
inductive Zc9(vs:List V)(H:Hp)(Q:VK):Prop
 |mk(m:Addr)(l:Str)(b:Nat)(es:List Nat)(st:aB)(kf:aT)(t:List Nat)(h1:vs=[.ref m,nI kf.1,.str (one kf.2.1),.str (one kf.2.2),.str (sOf t)])(h2:Zz H m l b es st)(h3:G8 l st.length kf)(h4:Fw2 kf t)(h5:Kt l st kf (fat l st kf t))(h6:fat l st kf t/st.length≠fat l st kf t%st.length)(h7:∀H',Zm H H'→Q (V.bl true) H'):Zc9 vs H Q
def Zja:Sp:=λvs H Q _=>Zc9 vs H Q
theorem L5(F:Fun K "apart_stays" "apart_stays" W5 f fd)(Z:Blt mg)(Vu:Cal P w K mg base "is_fork" 2 aU D5)(Zu:Cal P w K mg base "room_behind" 1 aY Te):Yc P w K mg base CX0 3 f fd aU Zja:=by
 refine F.ok Wm (λvs H Q E h=>?_) (λcdv A outer s H vs Q E hr h=>?_)
 ·obtain⟨m,l,b,es,st,kf,t,rfl,_⟩:=h;rfl
 obtain⟨m,l,b,es,st,⟨r,c,d⟩,t,rfl,M,⟨f1,f2,f3,f4⟩,⟨w1,w2⟩,hs,y8,k⟩:=h
 refine⟨_,(Ze (Ys (S8 (Yn (K:=K) (Z5 Vu (hr.mono (by decide)) (Za (pv 0) (Za (pv 1) (Za (pv 2) (Za (pv 3) (Za (pv 4) Zb)))))) (λ_=>rfl))) 
    (Zg (Zq Xw)) Z1) 
   (Ze (Zn (i:=5) Wm.nd (by rfl) (Or.inl (by rfl)) (Z5 Zu (hr.mono (by decide)) (Za (pv 0) (Za (pv 1) (Za (Z3 Xx (pv 2) (pv 4)) Zb))))) 
   (Ze (Zn (i:=6) Wm.nd (by rfl) (Or.inl (by rfl)) (Z5 Zu (hr.mono (by decide)) (Za (pv 0) (Za (pv 1) (Za (Z3 Xx (pv 3) (pv 4)) Zb))))) 
   (Ze (Zhb (i:=7) Wm.nd (by rfl) (by rfl) (sc:=Zh W5) (Nm:=ZO) (own:=["end","letter"]) (fr:=[0]) ⟨rfl,by decide +kernel,by decide +kernel,by decide +kernel,by decide +kernel⟩ (by rfl) (Gs (Vt (by decide) (Vt (by decide) Kf))) (Va (K:=K) (Zw (Za (Zw (Za (pv 5) (Za (pv 2) Zb))) (Za (Zw (Za (pv 5) (Za (pv 3) Zb))) (Za (Zw (Za (pv 6) (Za (pv 2) Zb))) (Za (Zw (Za (pv 6) (Za (pv 3) Zb))) Zb)))))) (λd=>(Vo (K:=K) (n:=2) (by rfl) (Yb (Zo (i:=0) U4 (by rfl) (Or.inl (by rfl))) (Yb (Zo (i:=1) U4 (by rfl) (Or.inl (by rfl))) Vb)))) (λd=>Ym) (λd=>(Yr X2 (Z5 Zu (hr.mono (by decide)) (Za (pv 2) (Za (pv 0) (Za (pv 1) Zb)))) (pv 0) (Zy _)))) 
   (Zg (Zq (Rb (Yr Ss (pv 5) (pv 6) (Zy _)) (Ra (Zt (Wi (K:=K)) (by rfl) Z.all Ru (Za (pv 7) Zb)))))))))),?_⟩
 refine(let x6:TS:=_;let x8:TS:=Zs _ x6;let y6:TS:=Zs _ x8;let g0:TS:=Zs _ y6;(?_:Zs _ g0 _ _ _));have dn:=Mz (X3 M) f1 f2 f3 w1;refine⟨_,rfl,_,rfl,_,rfl,_,rfl,_,rfl,m,l,b,es,st,r,c,d,t,rfl,M,f1,f2,f3,rV f4,pQ w2 (by decide),w1,λH1 e1=>⟨_,rfl,ifN rfl ?_⟩⟩;have M1:=M.same e1;have o1:∀e∈t,e∈l.cps.toList:=λe he=>(rT.mp (w1 e he)).elim (λq=>q▸f2) λq=>rL.mp q▸f3;have oc:(one c++sOf t:Str)=sOf (c :: t):=P6 [c] t;have od:(one d++sOf t:Str)=sOf (d :: t):=P6 [d] t;have in1:∀{x:Nat},x∈l.cps.toList→∀e∈x :: t,e∈l.cps.toList:=λ{x} hx e he=>(rT.mp he).elim (λq=>q▸hx) (o1 e);have w2':t.length≤216:=w2;have gZ:1+t.length≤sizeLine:=by rw[sizeLine_eq];lia
 refine⟨_,rfl,_,rfl,_,rfl,_,rfl,_,_,rfl,rfl,gZ,m,l,b,es,st,r,sOf (c :: t),by rw[←oc]<;>rfl,M1,f1,in1 f2,?_⟩;refine⟨_,rfl,_,rfl,_,rfl,_,rfl,_,_,rfl,rfl,gZ,m,l,b,es,st,r,sOf (d :: t),by rw[←od]<;>rfl,M1,f1,in1 f3,?_⟩;obtain⟨d1,d2,d3,d4⟩:=dn;show x8 _ [some (.ref m),some (nI r),some (.str (one c)),some (.str (one d)),some (.str (sOf t)),some (nI (t.foldl (stp l st) (stp l st r c))),some (nI (t.foldl (stp l st) (stp l st r d))),none] H1;rw[d1,d2]at y8;have st1:=(Zah (by lia) (by rw[d2];exact X3 M d4 f2)).mp hs.1;have st2:=(Zah (by lia) (by rw[d2];exact X3 M d4 f3)).mp hs.2;rw[d1,d2]at st1 st2;generalize t.foldl (stp l st) (stp l st r c)=x at *;generalize t.foldl (stp l st) (stp l st r d)=y at *;refine⟨_,rfl,_,rfl,(by show 2≤sizeLine;decide),λa1 kS=>?_⟩;generalize eZ:upd H1 a1 _=H2;have s1:=nS7 eZ kS;have h1:=nU7 eZ;refine⟨_,rfl,_,rfl,(by show 2≤sizeLine;decide),λa2 sY=>?_⟩;generalize eZ:upd H2 a2 _=H3;have s2:=nS7 eZ sY;have h2:=nU7 eZ;refine⟨_,rfl,_,rfl,(by show 2≤sizeLine;decide),λa3 kT=>?_⟩;generalize eZ:upd H3 a3 _=H4;have s3:=nS7 eZ kT;have h3:=nU7 eZ;refine⟨_,rfl,_,rfl,(by show 2≤sizeLine;decide),λa4 zO=>?_⟩;generalize eZ:upd H4 a4 _=H5;have s4:=nS7 eZ zO;have h4:=nU7 eZ;refine⟨(by show 4≤sizeLine;decide),λp hp=>?_⟩;generalize eZ:upd H5 p _=H6;have s5:=nS7 eZ hp;have h5:=nU7 eZ;have kC:=(((s1.trans s2).trans s3).trans s4).trans s5;have M6:=M1.same kC
 have four:∀(n:Nat) v,[V.ref a1,.ref a2,.ref a3,.ref a4][n]?=some v→∃a z e,v=.ref a∧H6 a=some (.tup [nI z,.str (one e)])∧z<st.length∧e∈l.cps.toList∧stp l st z e=z:=λn v hv=>by
  match n,hv with
  | 0,hv=>cases hv;exact⟨a1,x,c,rfl,s5 _ _ (s4 _ _ (s3 _ _ (s2 _ _ h1))),d3,f2,st1.1⟩
  | 1,hv=>cases hv;exact⟨a2,x,d,rfl,s5 _ _ (s4 _ _ (s3 _ _ h2)),d3,f3,st2.1⟩
  | 2,hv=>cases hv;exact⟨a3,y,c,rfl,s5 _ _ (s4 _ _ h3),d4,f2,st1.2⟩
  | 3,hv=>cases hv;exact⟨a4,y,d,rfl,s5 _ _ h4,d4,f3,st2.2⟩
  |n+4,hv=>simp at hv
 refine⟨p,rfl,⟨_,SqT.of h5⟩,?_⟩
 refine X5 (K:=K) (a:=p) (xs:=[V.ref a1,.ref a2,.ref a3,.ref a4]) (λn acc H7=>acc=(List.replicate n true).map V.bl∧Zm H6 H7) (by show 4<sizeLine;decide) ⟨rfl,Zm.refl _⟩ (λn acc H7 z=>by rw[z.1,rC,oV];exact rG _)
  (λn acc H7 z=>SqT.of (z.2 _ _ h5)) (λn acc H7 v hv z=>?_) (λacc H7 z lp m7=>?_)
 ·obtain⟨rfl,e7⟩:=z;obtain⟨a,z,e,rfl,ha,hz,he,k5⟩:=four n v hv;refine Zf5 rfl (SqT.of (e7 _ _ ha)) ⟨_,rfl,_,rfl,_,rfl,m,l,b,es,st,z,one e,rfl,M6.same e7,hz,λe' h'=>rL.mp h'▸he,_,rfl,rfl,?_⟩;have:decide (nI (stp l st z e)=nI z)=true:=decide_eq_true (by rw[k5]);exact⟨by rw[←Vy];exact congrArg (λb=>_++[V.bl b]) this,e7⟩
 ·obtain⟨rfl,e7⟩:=z;have s8:=Zd m7 (.lst ((List.replicate 4 true).map V.bl));have h8:upd H7 lp (.lst ((List.replicate 4 true).map V.bl)) lp=_:=Zc;have eY:=((e1.trans kC).trans e7).trans s8;refine⟨_,rfl,_,rfl,rfl,_,rfl,ifY ?_ ⟨_,rfl,lp,List.replicate 4 true,rfl,SqL.of h8,k _ eY⟩⟩;show (!decide (nI x=nI y))=true;rw[decide_eq_false λe=>y8 (by have:((x:Nat):Int)=y:=V.int.inj e;lia)];rfl
inductive B2(vs:List V)(H:Hp)(Q:VK):Prop
 |mk(m ra ma:Addr)(l:Str)(b:Nat)(es:List Nat)(st:aB)(rk:List Nat)(ys:List V)(rows:List (aZ×List Nat))(h1:vs=[.ref m,.ref ra,.ref ma])(h2:Zz H m l b es st)(h3:st.length≤6)(h4:l.cps.toList.Pairwise (·<·))(h5:H ra=some (.tup (rk.map nI)))(h6:rk.length=st.length)(h7:(∀x,x<st.length→∀y∈st.getD x [],y≠x→rk.getD x 0<rk.getD y 0))(h8:H ma=some (.tup ys))(h9:TR tm H ys rows)(xA:rows.map (·.1)=N7 l.cps.toList st.length)(xB:(∀q∈rows,M8 l st q.1 q.2))(yY:∀H',Zm H H'→Q (V.bl true) H'):B2 vs H Q
def Zcv:Sp:=λvs H Q _=>B2 vs H Q
def fkK(k:aT):List Key:=[kI k.1,.inr (one k.2.1),.inr (one k.2.2)]
theorem Zdy(kvs:YT):∀(d:YT) (k:List Key),(k∈kvs.map (·.1)∨(Xj d k).isSome=true)→(Xj (kvs.foldl (λd kv=>putK d kv.1 kv.2) d) k).isSome=true:=by
 induction kvs with
 |nil=>exact λd k h=>h.elim (λh=>by cases h) id
 |cons kv kvs ih=>
  intro d k h;refine ih _ k ?_
  rcases h with h|h
  ·rcases rT.mp h with e|e
   ·refine .inr ?_;rw[Pn,if_pos e];rfl
   ·exact .inl e
  ·refine .inr ?_;rw[Pn]
   split
   ·rfl
   ·exact h
inductive Rv(H:Hp):List V→List (aZ×List Nat)→Prop where
 |nil:Rv H [] []
 |snoc {a b:Addr}{q:aZ×List Nat}{vs:List V}{rs:List (aZ×List Nat)} (t:Rv H vs rs) (h1:H a=some (.tup [.ref b,V.bl true])) (h2:H b=some (.tup (tf q.1))):Rv H (vs++[.ref a]) (rs++[q])
theorem Rv.keep(e:Zm H H')(p:Rv H vs rs):Rv H' vs rs:=by
 induction p with
 |nil=>exact .nil
 |snoc _ h1 h2 ih=>exact .snoc ih (e _ _ h1) (e _ _ h2)
theorem Rv.len(p:Rv H vs rs):vs.length=rs.length:=by
 induction p with
 |nil=>rfl
 |snoc _ _ _ ih=>rw[rS,rS,ih];rfl
theorem Rv.at_(p:Rv H vs rs):∀{i:Nat}{x:V}{q:aZ×List Nat},vs[i]?=some x→rs[i]?=some q→∃a b,x=.ref a∧H a=some (.tup [.ref b,V.bl true])∧H b=some (.tup (tf q.1)):=by
 induction p with
 |nil=>intro i x q h;simp at h
 | @snoc a b q' vs rs t h1 h2 ih=>
  intro i x q e1 e2;have hl:=t.len
  by_cases c:i<vs.length
  ·rw[pM c]at e1;rw[pM (by lia)]at e2;exact ih e1 e2
  ·rw[pT (by lia)]at e1;rw[pT (by lia),←hl]at e2
   have h0:i-vs.length=0:=by
    rcases fH (i-vs.length) with z|z
    ·exact z
    ·rw[oO (by simp only[oW];lia)]at e1;cases e1
   rw[h0]at e1 e2;cases e1;cases e2;exact⟨a,b,rfl,h1,h2⟩
theorem Mc(F:Fun K "spread_holds" "spread_holds" Xl f fd)(Z:Blt mg)(Si:Cal P w K mg base "ranks_rise" 1 ["machine","ranks"] Zcy)(Rx:Cal P w K mg base "row_holds" 3 ["machine","row"] Zcx)(Qi:Cal P w K mg base "forks" 1 aX Hm):Yc P w K mg base CX0 4 f fd YR Zcv:=by
 refine F.ok So (λvs H Q E h=>?_) (λcdv A outer s H vs Q E hr h=>?_)
 ·obtain⟨m,ra,ma,l,b,es,st,rk,ys,rows,rfl,_⟩:=h;rfl
 obtain⟨m,ra,ma,l,b,es,st,rk,ys,rows,rfl,M,j3,eF,v9,t6,Zfd,xP,R,Ke,xQ,k⟩:=h
 refine⟨_,(Ze (Ys (PW.pt (F0 (Z6 Ss (Zt (Yo (K:=K)) (by rfl) Z.len Y3 (Za (pv 1) Zb)) (Zt (Yo (K:=K)) (by rfl) Z.len Y3 (Za (Zr (Zp (K:=K)) (pv 0) Zf (λ_ _=>rfl)) Zb)) (Zy _)) (Lq (S8 (Yn (K:=K) (Z5 Si (hr.mono (by decide)) (Za (pv 0) (Za (pv 1) Zb))) (λ_=>rfl)))))) 
    (Zg (Zq Xw)) Z1) 
   (Ze (Ys (S8 (Yn (K:=K) (Zt (Wi (K:=K)) (by rfl) Z.all Ru (Za (Yj (sc:=Zh Xl) (Nm:=ZE) (own:=["row"]) (fr:=[0]) ⟨rfl,by decide +kernel,by decide +kernel,by decide +kernel,by decide +kernel⟩ (by rfl) (Ye (by decide)) (Va (K:=K) (pv 2)) (λd=>(Zo (i:=0) Om (by rfl) (Or.inl (by rfl)))) (λd=>Ym) (λd=>(Z5 Rx (hr.mono (by decide)) (Za (pv 1) (Za (pv 0) Zb))))) Zb)) (λ_=>rfl))) 
    (Zg (Zq Xw)) Z1) 
   (Ze (Zn (i:=3) So.nd (by rfl) (Or.inr (by rfl)) (Z4 (Dg (hu16 hr) (by rfl)) (by rfl) Z.dict Zaq (Za (Yj (sc:=Zh Xl) (Nm:=ZE) (own:=["row"]) (fr:=[]) ⟨rfl,by decide +kernel,by decide +kernel,by decide +kernel,by decide +kernel⟩ (by rfl) (Ye (by decide)) (Va (K:=K) (pv 2)) (λd=>(Zo (i:=0) Ol (by rfl) (Or.inl (by rfl)))) (λd=>Ym) (λd=>(Zw (Za (U2 (Ag (K:=K)) (pv 0) R0 (Rz Zf)) (Za Xw Zb))))) Zb))) 
   (Zg (Zq (Zt (Wi (K:=K)) (by rfl) Z.all Ru (Za (Yj (sc:=Zh Xl) (Nm:=ZE) (own:=["fork"]) (fr:=[3]) ⟨rfl,by decide +kernel,by decide +kernel,by decide +kernel,by decide +kernel⟩ (by rfl) (Ye (by decide)) (U1 (K:=K) (Z5 Qi (hr.mono (by decide)) (Za (pv 0) Zb))) (λd=>(Zo (i:=0) Oj (by rfl) (Or.inl (by rfl)))) (λd=>Ym) (λd=>(Zlb (Zlc (Wv hr) (pv 0) (pv 1))))) Zb))))))),?_⟩
 refine(let x6:TS:=_;let x8:TS:=Zs _ x6;let y6:TS:=Zs _ x8;(?_:Zs _ y6 _ _ _));obtain⟨eA,sA,rA,g1,g2,g3,g4,g5⟩:=M.lay
 have m3:ys.length≤54:=by
  rw[R.len,←rC (f:=(·.1)),Ke];exact Kj (by have:=M.few.2.1;have:=len_list l;lia) j3
 refine⟨_,rfl,ra,_,rfl,.inr (SqT.of v9),_,rfl,m,_,_,_,rfl,rfl,SqT.of g1,Zj (j:=3) rfl,sA,_,rfl,.inr (SqT.of g3),rfl,?_⟩;refine⟨_,rfl,ifN ?_ ?_⟩
 ·rw[decide_eq_true (by rw[rC,rC,g4,t6])];rfl
 refine⟨_,rfl,_,rfl,m,ra,l,b,es,st,rk,rfl,M,j3,v9,t6,Zfd,λH1 e1=>⟨_,rfl,ifN rfl ?_⟩⟩;refine⟨_,rfl,ma,rfl,⟨_,SqT.of (e1 _ _ xP)⟩,?_⟩
 refine X5 (K:=K) (a:=ma) (xs:=ys) (λn acc H2=>acc=(List.replicate n true).map V.bl∧Zm H H2) (Z0 (by lia)) ⟨rfl,e1⟩ (λn acc H2 z=>by rw[z.1,rC,oV];exact rG _)
  (λn acc H2 z=>SqT.of (z.2 _ _ xP)) (λn acc H2 y hy z=>?_) (λacc H2 z y hy=>?_)
 ·obtain⟨rfl,e2⟩:=z;obtain⟨a,q,rfl,hq,ha⟩:=R.at_ hy;have hqm:=rN hq;refine U9 ⟨_,rfl,_,rfl,m,a,l,b,es,st,q,rfl,M.same e2,e2 _ _ ha,(Zfp eF).mp (by rw[←Ke];exact rY.mpr ⟨q,hqm,rfl⟩),xQ q hqm,λH3 e3=>⟨Vy n,e2.trans e3⟩⟩
 ·obtain⟨rfl,e2⟩:=z;have e3:=e2.trans (Zd hy (.lst ((List.replicate ys.length true).map V.bl)));refine⟨y,_,rfl,SqL.of Zc,?_⟩;refine⟨_,rfl,ifN (by rw[O1];rfl) ?_⟩;generalize upd H2 y _=H3 at e3;refine⟨_,rfl,ma,rfl,⟨_,SqT.of (e3 _ _ xP)⟩,?_⟩
  refine X5 (K:=K) (a:=ma) (xs:=ys) (λn acc H4=>Rv H4 acc (rows.take n)∧Zm H H4) (Z0 (by lia)) ⟨.nil,e3⟩ (λn acc H4 z=>by rw[z.1.len,pR];exact lT _ _)
   (λn acc H4 z=>SqT.of (z.2 _ _ xP)) (λn acc H4 y hy z=>?_) (λacc H4 z y hy=>?_)
  ·obtain⟨z,e4⟩:=z;obtain⟨a,q,rfl,hq,ha⟩:=R.at_ hy;refine U9 ⟨_,rfl,_,rfl,a,_,rfl,e4 _ _ ha,λg H5 e5 h5=>?_⟩;have zV:Tx (tm q) none (some 3)=tf q.1:=rfl;rw[zV]at h5;refine⟨(by show 2≤sizeLine;decide),λp hp=>?_⟩;have s6:=Zd hp (.tup [.ref g,V.bl true]);refine⟨?_,(e4.trans e5).trans s6⟩;rw[oK,hq];exact(z.keep (e5.trans s6)).snoc Zc (s6 _ _ h5)
  ·obtain⟨z,e4⟩:=z;rw[R.len,pZ]at z;have e5:=e4.trans (Zd hy (.lst acc));have z5:=z.keep (Zd hy (.lst acc));have h5:upd H4 y (.lst acc) y=_:=Zc;generalize upd H4 y _=H5 at e5 z5 h5;refine⟨y,acc,rows.map λq=>(fkK q.1,V.bl true),rfl,h5,by rw[rC,z.len],λi x kv hx n9=>?_,λdl hdl=>?_⟩
   ·rw[rJ]at n9
    cases mM:rows[i]? with
    |none=>rw[mM]at n9;cases n9
    |some q=>
     rw[mM]at n9;cases n9;exact z5.at_ hx mM
   ·have s6:=Zd hdl (.dT ((rows.map λq=>(fkK q.1,V.bl true)).foldl (λd kv=>putK d kv.1 kv.2) []));have h6:upd H5 dl (.dT ((rows.map λq=>(fkK q.1,V.bl true)).foldl (λd kv=>putK d kv.1 kv.2) [])) dl=_:=Zc;generalize upd H5 dl _=H6 at s6 h6;have e6:=e5.trans s6;refine⟨_,rfl,m,l,b,es,st,rfl,M.same e6,j3,λfp fys H7 eC e7 h7 R7=>⟨fp,rfl,⟨_,SqL.of h7⟩,?_⟩⟩
    have xK:fys.length≤54:=by
     rw[R7.len];exact Kj (by have:=M.few.2.1;have:=len_list l;lia) j3
    refine Zb0 (K:=K) (a:=fp) (xs:=fys) (λn acc H8=>acc=(List.replicate n true).map V.bl∧Zm H7 H8) (Z0 (by lia)) ⟨rfl,Zm.refl _⟩ (λn acc H8 z=>by rw[z.1,rC,oV];exact rG _)
     (λn acc H8 z=>SqL.of (z.2 _ _ h7)) (λn acc H8 v hv z=>?_) (λacc H8 z v hv=>?_)
    ·obtain⟨rfl,e8⟩:=z;obtain⟨a,kf,rfl,uV,ha⟩:=R7.at_ hv;have e78:=e7.trans e8;refine U9 ⟨_,rfl,_,rfl,dl,_,rfl,.inr ⟨_,fkK kf,a,.inl (e78 _ _ h6),rfl,e8 _ _ ha,rfl⟩,?_⟩;rw[Zdy]
     ·exact⟨Vy n,e8⟩
     ·refine .inl ?_;rw[pO];have:kf∈rows.map (·.1):=by rw[Ke];exact rN uV
      obtain⟨q,hq,rfl⟩:=rY.mp this;exact rY.mpr ⟨q,hq,rfl⟩
    ·obtain⟨rfl,e8⟩:=z;refine⟨v,_,rfl,SqL.of Zc,?_⟩;rw[O1];exact k _ (((e6.trans e7).trans e8).trans (Zd hv _))
section
variable {ts:aH}{Pl Px Pw:Addr}
inductive Zi5(ts:aH)(vs:List V)(H:Hp)(Q:VK):Prop
 |mk(m:Addr)(l:Str)(b:Nat)(es:List Nat)(st:aB)(h1:vs=[.ref m])(h2:Zz H m l b es st)(h3:es.length≤100)(h4:st.length≤6)(h5:l.cps.toList.Pairwise (·<·))(h6:Cz ts H)(h7:∀v H' stD esD,Kept H H'→Cz ts H'→LM l (λcs=>Wb st b cs∈es) stD esD→stD.length≤st.length→((v=.non∧∃v' ,Iy l stD H' v'∨(O3 l stD∧ApV l stD H' v'))∨∃rk r v' H1,v=nI r∧O3 l stD∧SpV l stD H1 v'∧RkI stD 0 stD.length rk∧r∈rk∧(∀x∈rk,x≤r))→Q v H'):Zi5 ts vs H Q
def Znb(ts:aH):Sp:=λvs H Q _=>Zi5 ts vs H Q
theorem L1(F:Fun K "longest_way" "longest_way" Um f fd)(Z:Blt mg)(We:Cal P w K mg base "paper_of" 7 aX (Hh ts)):Yc P w K mg base CX0 8 f fd aX (Znb ts):=by
 refine F.ok S4 (λvs H Q E h=>?_) (λcdv A outer s H vs Q E hr h=>?_)
 ·obtain⟨m,l,b,es,st,rfl,_⟩:=h;rfl
 obtain⟨m,l,b,es,st,rfl,M,v0,j3,eF,T,kk⟩:=h
 refine⟨_,(Ze (Zn (i:=1) S4.nd (by rfl) (Or.inl (by rfl)) (Z5 We (hr.mono (by decide)) (Za (pv 0) Zb))) 
   (Ze (Ys (Z6 Ss (Zr (Zp (K:=K)) (pv 1) Zf (λ_ _=>rfl)) Wr (Zy _)) 
    (Zg (Zq V0)) Z1) 
   (Zg (Zq (Zt (Zb5 (K:=K) (by rfl)) (by rfl) Z.max Zmi (Za (Zr (Zp (K:=K)) (pv 1) Zf (λ_ _=>rfl)) Zb)))))),?_⟩
 refine(let x6:TS:=_;let x8:TS:=Zs _ x6;(?_:Zs _ x8 _ _ _));refine⟨_,rfl,m,l,b,es,st,rfl,M,v0,j3,eF,T,λv H1 stD esD k1 T1 D xS hp=>?_⟩
 rcases hp with ⟨a,r,c,z,rfl,ha,hR⟩|⟨hf,⟨a,kf,t,rfl,ha,hA⟩|⟨a,ra,ma,rk,ys,rows,rfl,ha,v9,hR,eS⟩⟩
 ·refine⟨_,rfl,a,_,_,_,rfl,rfl,SqT.of ha,Zj (j:=0) rfl,rfl,?_⟩;exact⟨_,rfl,ifY (by rw[decide_eq_false (λe=>absurd (V.str.inj e) (by decide))];rfl) (kk _ _ stD esD k1 T1 D xS (.inl ⟨rfl,.ref a,.inl ⟨a,r,c,z,rfl,ha,hR⟩⟩))⟩
 ·refine⟨_,rfl,a,_,_,_,rfl,rfl,SqT.of ha,Zj (j:=0) rfl,rfl,?_⟩;exact⟨_,rfl,ifY (by rw[decide_eq_false (λe=>absurd (V.str.inj e) (by decide))];rfl) (kk _ _ stD esD k1 T1 D xS (.inl ⟨rfl,.ref a,.inr ⟨hf,a,kf,t,rfl,ha,hA⟩⟩))⟩
 ·refine⟨_,rfl,a,_,_,_,rfl,rfl,SqT.of ha,Zj (j:=0) rfl,rfl,?_⟩;refine⟨_,rfl,ifN (by rw[decide_eq_true rfl];rfl) ?_⟩;have e:(rk.map (λn:Nat=>(n:Int))).map V.int=rk.map nI:=by rw[pO];rfl
  refine⟨_,rfl,a,_,_,_,rfl,rfl,SqT.of ha,Zj (j:=1) rfl,ra,rk.map (λn:Nat=>(n:Int)),rfl,by rw[e];exact SqT.of v9,by rw[rC,hR.len];exact D.pos,λM hM jN=>?_⟩;obtain⟨r,vB,rfl⟩:=rY.mp hM;exact kk _ _ stD esD k1 T1 D xS (.inr ⟨rk,r,_,_,rfl,hf,⟨a,ra,ma,rk,ys,rows,rfl,ha,v9,hR,eS⟩,hR,vB,λx hx=>by have:=jN _ (rY.mpr ⟨x,hx,rfl⟩);lia⟩)
end
theorem Cc(hN:(Zl id T b N).length≤N):∀x,x<(Zl id T b N).length→∃i,Pth (Xd id T (Zl id T b N)) 0 i x:=by
 have nd:(Zl id T b N).Nodup:=by
  have:=Vp (k:=id) (T:=T) (b:=b) N;rwa[lH]at this
 have key:∀y∈Zl id T b N,y∈Zl id T b N∧∃i,Pth (Xd id T (Zl id T b N)) 0 i ((Zl id T b N).idxOf y):=by
  refine Ws (P:=λy=>y∈Zl id T b N∧∃i,Pth (Xd id T (Zl id T b N)) 0 i ((Zl id T b N).idxOf y)) ?_ ?_ N
  ·obtain⟨h1,h2⟩:=Od (k:=id) (T:=T) (b:=b) N;refine⟨rN h2,0,?_⟩
   have e:(Zl id T b N)[0]=b:=by
    rw[rD h1]at h2;exact Option.some.inj h2
   have:=pN nd 0 h1;rw[e]at this;rw[this];exact .zero
  ·rintro x ⟨hx,i,hi⟩ y hy;obtain⟨j,hj,rfl⟩:=pL.mp hx;rw[pN nd j hj]at hi;have gH:=U3 (k:=id) (rD hj) (by lia) hy;rw[lH]at gH;have gH:y∈Zl id T b N:=gH;obtain⟨j',xM,rfl⟩:=pL.mp gH;refine⟨gH,?_⟩;have ej:=pN nd j' xM;rw[ej]
   by_cases c:j'=j
   ·rw[c];exact⟨i,hi⟩
   ·refine⟨i+1,.succ hi ?_ c⟩;unfold Xd;rw[rK,rJ,rD hj];exact rY.mpr ⟨_,hy,by rw[lH];exact ej⟩
 intro x hx;obtain⟨_,i,hi⟩:=key _ (oG hx);rw[pN nd x hx]at hi;exact⟨i,hi⟩
theorem LM.reach{l:Str}{P:YB}(D:LM l P stD esD):∀x,x<stD.length→∃i,Pth stD 0 i x:=by
 obtain⟨st,es,b,k,N,p⟩:=D.is;have h:=Cc p.len;have hl:=congrArg List.length p.rows;unfold Xd at hl;rw[rC]at hl;rw[p.rows,hl]at h;exact h
theorem RkI.rise{l:Str}(R:RkI st 0 st.length rk)(f:O3 l st)(t:Tbl l st)(h0:0<st.length)(hr:∀x,x<st.length→∃i,Pth st 0 i x):∀x,x<st.length→∀y∈st.getD x [],y≠x→rk.getD x 0<rk.getD y 0:=by
 intro x hx y hy ne
 have m3:y<st.length:=by
  obtain⟨c,hc,rfl⟩:=(t.row hx).mp hy;exact t.lt hx hc
 have at_:∀{z:Nat},z<st.length→rk[z]?=some (rk.getD z 0):=λ{z} hz=>by
  rw[rK,rD (by rw[R.len];exact hz)];rfl
 obtain⟨i,hi⟩:=hr x hx;obtain⟨_,a2,_⟩:=R.met x _ (at_ hx) ⟨i,f.pth t h0 hi,hi⟩;have p2:Pth st 0 (rk.getD x 0+1) y:=a2.succ hy ne;obtain⟨_,_,b3⟩:=R.met y _ (at_ m3) ⟨_,f.pth t h0 p2,p2⟩;exact b3 _ (f.pth t h0 p2) p2
theorem Zdh(z:Str):sOf z.cps.toList=z:=by
 cases z;rfl
inductive B7(ts:aH)(vs:List V)(H:Hp)(Q:VK):Prop
 |mk(m:Addr)(v:V)(l:Str)(b:Nat)(es:List Nat)(st:aB)(stD:aB)(esD:List Nat)(h1:vs=[.ref m,v])(h2:Zz H m l b es st)(h3:es.length≤100)(h4:st.length≤6)(h5:l.cps.toList.Pairwise (·<·))(h6:Cz ts H)(h7:LM l (λcs=>Wb st b cs∈es) stD esD)(h8:Pap l stD H v)(h9:∀H',Kept H H'→Cz ts H'→Q (V.bl true) H'):B7 ts vs H Q
def Zc1(ts:aH):Sp:=λvs H Q _=>B7 ts vs H Q
section
variable {ts:aH}{Pl Px Pw:Addr}
theorem Lx(U:Zik ts Pl Px Pw)(F:Fun K "paper_holds" "paper_holds" Uk f fd)(Z:Blt mg)(Qh:Cal P w K mg base "least" 5 aX (Pu Pl))(Ub:Cal P w K mg base "spread_holds" 4 YR Zcv)(Sh:Cal P w K mg base "ring_holds" 2 YK Ziz)(Uu:Cal P w K mg base "apart_stays" 3 aU Zja):Yc P w K mg base CX0 6 f fd YO (Zc1 ts):=by
 refine F.ok S3 (λvs H Q E h=>?_) (λcdv A outer s H vs Q E hr h=>?_)
 ·obtain⟨m,v,l,b,es,st,stD,esD,rfl,_⟩:=h;rfl
 obtain⟨m,v,l,b,es,st,stD,esD,rfl,M,v0,j3,eF,T,D,hp,k⟩:=h;have nd:l.cps.toList.Nodup:=eF.imp λh=>rV h;have hl:0<l.length∧l.length≤3:=⟨M.few.1,M.few.2.1⟩
 refine⟨_,(Ze (Zn (i:=2) S3.nd (by rfl) (Or.inl (by rfl)) (Z5 Qh (hr.mono (by decide)) (Za (pv 0) Zb))) 
   (Ze (Ys (Z6 X2 (Zr (Zp (K:=K)) (pv 1) Zf (λ_ _=>rfl)) Wr (Zy _)) 
    (Zg (Zq (Z5 Ub (hr.mono (by decide)) (Za (pv 2) (Za (Zr (Zp (K:=K)) (pv 1) Zf (λ_ _=>rfl)) (Za (Zr (Zp (K:=K)) (pv 1) Zf (λ_ _=>rfl)) Zb)))))) Z1) 
   (Ze (Ys (Z6 X2 (Zr (Zp (K:=K)) (pv 1) Zf (λ_ _=>rfl)) Wr (Zy _)) 
    (Zg (Zq (Z5 Sh (hr.mono (by decide)) (Za (pv 2) (Za (Zr (Zp (K:=K)) (pv 1) Zf (λ_ _=>rfl)) (Za (Zr (Zp (K:=K)) (pv 1) Zf (λ_ _=>rfl)) (Za (Zr (Zp (K:=K)) (pv 1) Zf (λ_ _=>rfl)) Zb))))))) Z1) 
   (Zg (Zq (Z5 Uu (hr.mono (by decide)) (Za (pv 2) (Za (Zr (Zp (K:=K)) (pv 1) Zf (λ_ _=>rfl)) (Za (Zr (Zp (K:=K)) (pv 1) Zf (λ_ _=>rfl)) (Za (Zr (Zp (K:=K)) (pv 1) Zf (λ_ _=>rfl)) (Za (Zr (Zp (K:=K)) (pv 1) Zf (λ_ _=>rfl)) Zb))))))))))),?_⟩
 refine(let x6:TS:=_;let x8:TS:=Zs _ x6;let y6:TS:=Zs _ x8;(?_:Zs _ y6 _ _ _));refine⟨_,rfl,m,l,b,es,st,rfl,M,by lia,nd,T.a _ U.l,λm1 mT uI H1 e1 Tl1 D1 xS hM=>?_⟩;obtain⟨k1,T1⟩:=T.go1 U.l e1 Tl1;obtain⟨rfl,rfl⟩:=LM.uniq nd D1 D (λ_ _=>Iff.rfl);have o7:mT.length≤6:=by lia
 have M1:Zz H1 m1 l 0 uI mT:=D1.Zhn hl (by lia) hM;have tb:Tbl l mT:=⟨nd,D1.Uo⟩;have fin:∀H',Zm H1 H'→Q (V.bl true) H':=λH' e=>k H' (k1.trans (Zm.kept e)) (T1.same e)
 rcases hp with ⟨a,r,c,z,rfl,ha,r1,r2,r3,r4,r5,r6⟩|⟨hf,⟨a,kf,t,rfl,ha,o6,fw,k5,hnm⟩|⟨a,ra,ma,rk,ys,rows,rfl,ha,v9,hR,xP,j0,Ke,xQ⟩⟩
 ·have h1:=k1.t _ _ ha;refine⟨_,rfl,a,_,_,_,rfl,rfl,SqT.of h1,Zj (j:=0) rfl,rfl,_,rfl,ifN (decide_eq_false λe=>absurd (V.str.inj e) (by decide)) ?_⟩;refine⟨_,rfl,a,_,_,_,rfl,rfl,SqT.of h1,Zj (j:=0) rfl,rfl,_,rfl,ifY (decide_eq_true rfl) ?_⟩;refine⟨_,rfl,_,rfl,a,_,_,_,rfl,rfl,SqT.of h1,Zj (j:=1) rfl,_,rfl,a,_,_,_,rfl,rfl,SqT.of h1,Zj (j:=2) rfl,_,rfl,a,_,_,_,rfl,rfl,SqT.of h1,Zj (j:=3) rfl,m1,l,0,uI,mT,r,[c],z.cps.toList,by rw[Zdh]<;>rfl,M1,r1,?_,λd hd=>rL.mp hd▸r2,r3,r5,r6,fin⟩;have:=len_list z;show 1+z.cps.toList.length≤500;lia
 ·have h1:=k1.t _ _ ha;refine⟨_,rfl,a,_,_,_,rfl,rfl,SqT.of h1,Zj (j:=0) rfl,rfl,_,rfl,ifN (decide_eq_false λe=>absurd (V.str.inj e) (by decide)) ?_⟩;refine⟨_,rfl,a,_,_,_,rfl,rfl,SqT.of h1,Zj (j:=0) rfl,rfl,_,rfl,ifN (decide_eq_false λe=>absurd (V.str.inj e) (by decide)) ?_⟩;exact⟨_,rfl,_,rfl,a,_,_,_,rfl,rfl,SqT.of h1,Zj (j:=1) rfl,_,rfl,a,_,_,_,rfl,rfl,SqT.of h1,Zj (j:=2) rfl,_,rfl,a,_,_,_,rfl,rfl,SqT.of h1,Zj (j:=3) rfl,_,rfl,a,_,_,_,rfl,rfl,SqT.of h1,Zj (j:=4) rfl,m1,l,0,uI,mT,kf,t,rfl,M1,o6,fw,k5,hnm t fw.1,fin⟩
 ·have h1:=k1.t _ _ ha;refine⟨_,rfl,a,_,_,_,rfl,rfl,SqT.of h1,Zj (j:=0) rfl,rfl,_,rfl,ifY (decide_eq_true rfl) ?_⟩;exact⟨_,rfl,_,rfl,a,_,_,_,rfl,rfl,SqT.of h1,Zj (j:=1) rfl,_,rfl,a,_,_,_,rfl,rfl,SqT.of h1,Zj (j:=2) rfl,m1,ra,ma,l,0,uI,mT,rk,ys,rows,rfl,M1,o7,eF,k1.t _ _ v9,hR.len,hR.rise hf tb D1.pos D1.reach,k1.t _ _ xP,j0.keep k1.t,Ke,xQ,fin⟩
end
def lkF(here:Nat)(leads:ZU)(c:Nat):Nat:=leads.foldl (λa kv=>if kv.1=c then kv.2 else a) here
def Wt(n here:Nat)(leads:ZU):List Nat:=(List.range n).map (lkF here leads)
abbrev fxs(l:Str)(leads:ZU):List (Nat×Nat):=leads.map λkv=>(fx l kv.1,kv.2)
def td(kv:Nat×Nat):List V:=[.str (one kv.1),nI kv.2]
theorem Jv(k:Key)(z:V):∀(more kvs:List (Key×V)),(Xj (Vk kvs more) k).getD z=more.foldl (λa kv=>if kv.1=k then kv.2 else a) ((Xj kvs k).getD z)
 |[],kvs=>rfl
 |kv :: more,kvs=>by
  refine(Jv k z more (putK kvs kv.1 kv.2)).trans ?_;rw[Pn,iA]
  by_cases c:kv.1=k
  ·rw[if_pos c.symm,if_pos c];rfl
  ·rw[if_neg λe=>c e.symm,if_neg c]
theorem Cy(c:Nat):∀(leads:ZU) (here:Nat),(leads.map λkv=>((Sum.inr (one kv.1):Key),nI kv.2)).foldl (λa kv=>if kv.1=Sum.inr (one c) then kv.2 else a) (nI here)=nI (lkF here leads c)
 |[],_=>rfl
 |kv :: r,here=>by
  rw[rW,iA];unfold lkF;rw[iA]
  by_cases e:kv.1=c
  ·rw[if_pos (by rw[e]),if_pos e];exact Cy c r kv.2
  ·rw[if_neg λz=>e (one_inj (Sum.inr.inj z)),if_neg e];exact Cy c r here
theorem Ig{l:Str}(nd:l.cps.toList.Nodup)(hj:j<l.cps.toList.length):fx l l.cps.toList[j]=j:=by
 have ll:=len_list l;have h:=S0 nd (st:=[List.range l.length]) (x:=0) (rD hj);have hf:fx l l.cps.toList[j]<l.length:=(Tw (oG hj)).2
 have g:∀{i:Nat},i<l.length→(List.range l.length).getD i 0=i:=λ{i} hi=>by
  rw[rK,lY hi];rfl
 have h1:stp l [List.range l.length] 0 l.cps.toList[j]=fx l l.cps.toList[j]:=g hf;have h2:stN [List.range l.length] 0 j=j:=g (by lia);rw[h1,h2]at h;exact h
theorem Zkw{l:Str}(nd:l.cps.toList.Nodup){leads:ZU}(h:∀kv∈leads,kv.1∈l.cps.toList)(here:Nat):l.cps.toList.map (lkF here leads)=Wt l.length here (fxs l leads):=by
 have ll:=len_list l;unfold Wt;refine List.ext_getElem (by rw[rC,rC,rX,ll]) λi h1 h2=>?_;rw[rC]at h1;rw[dW,dW,bP]
 have key:∀(r:ZU) (here:Nat),(∀kv∈r,kv.1∈l.cps.toList)→lkF here r l.cps.toList[i]=lkF here (fxs l r) i:=by
  intro r
  induction r with
  |nil=>exact λ_ _=>rfl
  |cons kv r ih=>
   intro here hh;have hm:=hh kv rM
   have e:(kv.1=l.cps.toList[i])↔fx l kv.1=i:=by
    obtain⟨j,hj,ej⟩:=pL.mp hm
    have f1:fx l kv.1=j:=by
     rw[←ej];exact Ig nd hj
    rw[f1,←ej];constructor
    ·intro z;have i1:=pN nd j hj;have i2:=pN nd i h1;rw[z,i2]at i1;exact i1.symm
    ·rintro rfl;rfl
   show lkF (if kv.1=l.cps.toList[i] then kv.2 else here) r _=lkF (if fx l kv.1=i then kv.2 else here) (fxs l r) i;rw[ih _ λq hq=>hh q (rP _ hq)];simp only[e]
 exact key leads here h
inductive Zcw(vs:List V)(H:Hp)(Q:VK):Prop
 |mk(q:Addr)(l:Str)(here:Nat)(ys:List V)(leads:ZU)(h1:vs=[.str l,nI here,.ref q])(h2:H q=some (.lst ys))(h3:TR td H ys leads)(h4:l.length≤3)(h5:l.cps.toList.Nodup)(h6:(∀kv∈leads,kv.1∈l.cps.toList))(h7:∀p H',Zm H H'→H' p=some (.tup ((Wt l.length here (fxs l leads)).map nI))→Q (.ref p) H'):Zcw vs H Q
def Lg:Sp:=λvs H Q _=>Zcw vs H Q
theorem Cn(F:Fun K "_law_row" "_law_row" Ry f fd)(Z:Blt mg):Yc P w K mg base CX0 1 f fd aL Lg:=by
 refine F.ok D8 (λvs H Q E h=>?_) (λcdv A outer s H vs Q E hr h=>?_)
 ·obtain⟨q,l,here,ys,leads,rfl,_⟩:=h;rfl
 obtain⟨q,l,here,ys,leads,rfl,hq,R,xO,nd,x9,k⟩:=h;have ll:=len_list l;refine⟨_,(Zg (Zq (Z4 (Y1 (K:=K)) (by rfl) Z.tuple Yt (Za (Yj (sc:=Zh Ry) (Nm:=aL) (own:=["_law_letter"]) (fr:=[1,2]) ⟨rfl,by decide +kernel,by decide +kernel,by decide +kernel,by decide +kernel⟩ (by rfl) (Ye (by decide)) (Up (pv 0)) (λd=>(Zo (i:=0) Hz (by rfl) (Or.inl (by rfl)))) (λd=>Ym) (λd=>(Ec (Wv hr) (Z4 (Bm (by rfl)) (by rfl) Z.dict Zaq (Za (pv 2) Zb)) (pv 0) (pv 1) ⟨rfl,rfl,rfl,rfl⟩))) Zb)))),?_⟩;refine⟨_,rfl,l,rfl,?_⟩
 refine Ta (cs:=l.cps.toList) (λn acc H5=>acc=(l.cps.toList.take n).map (λc=>nI (lkF here leads c))∧Zm H H5) (Z0 (by lia)) ⟨rfl,Zm.refl _⟩ (λn acc H5 z=>by rw[z.1,rC,pR];exact lT _ _)
  (λn acc H5 c hc z=>?_) (λacc H5 z y hy=>?_)
 ·obtain⟨rfl,e5⟩:=z;refine U9 ⟨_,rfl,q,ys,leads.map λkv=>((Sum.inr (one kv.1):Key),nI kv.2),rfl,e5 _ _ hq,by rw[rC,R.len],λi x kv h1 h2=>?_,λd hd=>?_⟩
  ·obtain⟨a,r,rfl,h3,h4⟩:=R.at_ h1;rw[rJ,h3]at h2;cases h2;exact⟨a,rfl,e5 _ _ h4⟩
  ·have s6:=Zd hd (.dK (Vk [] (leads.map λkv=>((Sum.inr (one kv.1):Key),nI kv.2))));refine⟨d,rfl,.inl ⟨_,.inl Zc⟩,_,rfl,_,rfl,_,.inl ⟨_,Sum.inr (one c),.inl Zc,rfl,rfl⟩,?_⟩;rw[Jv,map_take hc];refine⟨?_,e5.trans s6⟩;rw[show (Xj ([]:List (Key×V)) (Sum.inr (one c))).getD (nI here)=nI here from rfl,Cy]
 ·obtain⟨rfl,e5⟩:=z;rw[pZ];have s6:=Zd hy (.lst (l.cps.toList.map λc=>nI (lkF here leads c)));refine⟨y,_,rfl,.inl ⟨SqL.of Zc,λp hp=>?_⟩⟩;refine k p _ ((e5.trans s6).trans (Zd hp _)) ?_;rw[Zc,←Zkw nd x9 here,pO];rfl
def stT(n:Nat)(w:List Nat)(lies:Bool):List aE:=((List.range w.length).map λa=>Wt n (bif lies then a else w.length+1) [(w.getD a 0,a+1)])++bif lies then [Wt n w.length []] else [Wt n (w.length+1) [],Wt n (w.length+1) []]
def stC(n:Nat)(w:List Nat)(many:Nat):List aE:=(List.range (many+2)).map λa=>Wt n a (w.map λi=>(i,min (a+1) (many+1)))
theorem Wj.of{e s:Addr}{l:Str}(h1:H m=some (.tup [.str l,nI b,.ref e,.ref s]))(h2:H e=some (.tup (es.map nI)))(h3:H s=some (.tup xs))(R:Yp H xs st):Wj H m l b es st:=by
 obtain⟨ras,rfl,r1,r2⟩:=R.ras;exact⟨e,s,ras,h1,h2,h3,r1,r2⟩
def Zca(l:Str):Prop:=l.length≤3∧l.cps.toList.Nodup
theorem Ti{l:Str}{here:Nat}(L:Zca l){q:Addr}{ys:List V}{leads:ZU}(hq:H q=some (.lst ys))(R:TR td H ys leads)(x9:∀kv∈leads,kv.1∈l.cps.toList)(k:∀p H',Zm H H'→H' p=some (.tup ((Wt l.length here (fxs l leads)).map nI))→Q (.ref p) H'):Lg [.str l,nI here,.ref q] H Q E0:=⟨q,l,here,ys,leads,rfl,hq,R,L.1,L.2,x9,k⟩
inductive Fh(vs:List V)(H:Hp)(Q:VK):Prop
 |mk(l t:Str)(lies:Bool)(h1:vs=[.str l,.str t,.bl lies])(h2:Zca l)(h3:t.length≤4)(h4:(∀c∈t.cps.toList,c∈l.cps.toList))(h5:∀m H',Zm H H'→Wj H' m l 0 [t.length] (stT l.length (t.cps.toList.map (fx l)) lies)→Q (.ref m) H'):Fh vs H Q
def Hg:Sp:=λvs H Q _=>Fh vs H Q
theorem Qj(F:Fun K "_law_text_machine" "_law_text_machine" Wc f fd)(Z:Blt mg)(Z9:Cal P w K mg base "_law_row" 1 aL Lg):Yc P w K mg base CX0 2 f fd YC Hg:=by
 refine F.ok Yx (λvs H Q E h=>?_) (λcdv A outer s H vs Q E hr h=>?_)
 ·obtain⟨l,t,lies,rfl,_⟩:=h;rfl
 obtain⟨l,t,lies,rfl,L,ht4,x9,k⟩:=h;have tl:=len_list t
 refine⟨_,(Ze (Zn (i:=3) Yx.nd (by rfl) (Or.inl (by rfl)) (Zt X0 (by rfl) Z.len Y3 (Za (pv 1) Zb))) 
   (Ze (Zn (i:=4) Yx.nd (by rfl) (Or.inl (by rfl)) (Zx Zb)) 
   (Ze (Y5 pP (by rfl) (Xz (by rfl) Z.range (Za (pv 3) Zb)) (Zo (i:=5) Yx.nd (by rfl) (Or.inl (by rfl))) 
    (Zg (W8 (Wd (K:=K) oF lK lL Wg (pv 4) (Za (Z5 Z9 (hr.mono (by decide)) (Za (pv 0) (Za (Zr (Z2 (K:=K)) (Zx (Za (Z3 Xn (pv 3) Zf) (Za (pv 5) Zb))) (Z4 Iq (by rfl) Z.int Zgc (Za (pv 2) Zb)) (λ_ _=>rfl)) (Za (Zx (Za (Zw (Za (Zr L9 (pv 1) (pv 5) (λ_ _=>rfl)) (Za (Z3 Xn (pv 5) Zf) Zb))) Zb)) Zb)))) Zb))))) 
   (Ze (Ys (Yn (K:=K) (pv 2) (λ_=>rfl)) 
    (Zg (Zq (Zw (Za (pv 0) (Za Zf (Za (Zw (Za (pv 3) Zb)) (Za (Z4 (Y1 (K:=K)) (by rfl) Z.tuple Yt (Za (Z3 Hx (pv 4) (Zx (Za (Z5 Z9 (hr.mono (by decide)) (Za (pv 0) (Za (pv 3) (Za (Zx Zb) Zb)))) Zb))) Zb)) Zb))))))) Z1) 
   (Ze (Zn (i:=4) Yx.nd (by rfl) (Or.inl (by rfl)) (Z3 Hx (pv 4) (Z3 Cg (Zx (Za (Z5 Z9 (hr.mono (by decide)) (Za (pv 0) (Za (Z3 Xn (pv 3) Zf) (Za (Zx Zb) Zb)))) Zb)) Zf))) 
   (Zg (Zq (Zw (Za (pv 0) (Za Zf (Za (Zw (Za (pv 3) Zb)) (Za (Z4 (Y1 (K:=K)) (by rfl) Z.tuple Yt (Za (pv 4) Zb)) Zb)))))))))))),?_⟩
 refine(let x6:TS:=_;let x8:TS:=Zs _ x6;let y6:TS:=Zs _ x8;let g0:TS:=Zs _ y6;let w6:TS:=Zs _ g0;(?_:Zs _ w6 _ _ _));refine⟨_,rfl,t,rfl,Xe (by lia),?_⟩;refine⟨(by show 0≤sizeLine;decide),λp hp=>?_⟩;generalize eZ:upd H p _=H1;have s1:=nS7 eZ hp;have kJ:=nU7 eZ;refine⟨_,rfl,_,rfl,by lia,by lia,?_⟩;refine U8 (lo:=0) (n:=(((t.length:Nat):Int)).toNat) (λi σ H2=>∃(ys:List V) (v5:Option V),σ=[some (.str l),some (.str t),some (.bl lies),some (nI t.length),some (.ref p),v5]∧H2 p=some (.lst ys)∧Zm H H2∧Yp H2 ys ((List.range i).map λa=>Wt l.length (bif lies then a else t.length+1) [((t.cps.toList.map (fx l)).getD a 0,a+1)])) ⟨[],none,rfl,kJ,s1,⟨rfl,λi x r h=>by simp at h⟩⟩ ?_ ?_
 ·rintro i σ H2 hi ⟨ys,v5,rfl,j4,e2,R2⟩;have hit:i<t.cps.toList.length:=by lia
  have hc:t.cps.toList[i]?=some t.cps.toList[i]:=rD hit;have m6:=x9 _ (oG hit);rw[show V.int (0+(i:Int))=nI i from congrArg V.int (bF _)];refine⟨_,rfl,.inl ⟨rfl,_,SqL.of j4⟩,_,rfl,_,rfl,_,_,rfl,rfl,_,rfl,(by show 2≤sizeLine;decide),λq hq=>?_⟩;generalize eZ:upd H2 q _=H3;have s3:=nS7 eZ hq;have wR:=nU7 eZ
  have n6:atI [V.int (((t.length:Nat):Int)+1),nI i] (if lies=true then 1 else 0)=some (nI (bif lies then i else t.length+1)):=by
   cases lies
   ·rfl
   ·rfl
  refine⟨_,rfl,.inr ⟨lies,rfl,q,_,_,_,rfl,rfl,SqL.of wR,n6,_,rfl,_,rfl,t,_,_,rfl,rfl,Xe (by lia),Zj hc,_,rfl,_,_,rfl,rfl,(by show 2≤sizeLine;decide),λtp u7=>⟨(by show 1≤sizeLine;decide),λlp m7=>?_⟩⟩⟩;have s4:=Zd u7 (.tup [V.str ⟨#[t.cps.toList[i]]⟩,V.int (((i:Nat):Int)+1)]);have s5:=Zd m7 (.lst [V.ref tp]);have s35:=(s3.trans s4).trans s5;refine Ti L Zc (leads:=[(t.cps.toList[i],i+1)]) (.cons (s5 _ _ Zc) .nil) (λkv n9=>by rw[rL.mp n9];exact m6) λrp H6 e6 h6=>?_;have n5:=s35.trans e6;refine⟨p,_,_,rfl,rfl,n5 _ _ j4,?_,?_⟩
  ·rw[R2.1,rC,rX];exact Z0 (by lia)
  ·refine⟨_,_,rfl,Zc,Yi (e2.trans n5) hp _,?_⟩;rw[fL,pS];refine((R2.keep (Tk.same n5)).keep (Tk.lst (n5 _ _ j4) _)).snoc ((Zk (Xr h6 (n5 _ _ j4) nofun)).trans ?_);have hg:(t.cps.toList.map (fx l)).getD i 0=fx l t.cps.toList[i]:=by rw[rK,rJ,hc];rfl
   rw[h6];show _=some (HO.tup ((Wt l.length (bif lies then i else t.length+1) [((t.cps.toList.map (fx l)).getD i 0,i+1)]).map nI));rw[hg];rfl
 ·rintro σ H2 ⟨ys,v5,rfl,j4,e2,R2⟩;have hn:(((t.length:Nat):Int)).toNat=(t.cps.toList.map (fx l)).length:=by rw[rC];lia
  rw[hn]at R2;have m3:ys.length≤4:=by rw[R2.1,rC,rX];lia
  cases lies
  ·refine⟨_,rfl,_,rfl,ifN rfl ?_⟩;refine⟨_,rfl,_,rfl,_,rfl,_,_,rfl,rfl,(by show 0≤sizeLine;decide),λlp m7=>?_⟩;have s3:=Zd m7 (.lst []);refine Ti (here:=t.length+1) L Zc .nil nofun λrp H4 e4 h4=>⟨(by show 1≤sizeLine;decide),λl1 z8=>?_⟩;have s5:=Zd z8 (.lst [V.ref rp]);refine⟨l1,2,_,rfl,rfl,Zc,by decide,by decide,(by show 1*2≤sizeLine;decide),λl2 i3=>?_⟩;have s6:=Zd i3 (.lst (List.replicate (2:Int).toNat [V.ref rp]).flatten);have sQ:=s5.trans s6;have n5:=(s3.trans e4).trans sQ;have h6:=sQ _ _ h4;refine⟨p,l2,_,_,rfl,rfl,n5 _ _ j4,Zc,Xe (by show ys.length+2≤1000;lia),λp2 i9=>?_⟩;have R6:=((R2.keep (Tk.same n5)).snoc h6).snoc h6;generalize upd (upd H4 l1 (.lst [V.ref rp])) l2 (.lst (List.replicate (2:Int).toNat [V.ref rp]).flatten)=H6 at s6 sQ n5 h6 i9 R6;have s7:=Zd i9 (.lst (ys++(List.replicate (2:Int).toNat [V.ref rp]).flatten));have e27:=n5.trans s7;have h7:upd H6 p2 (.lst (ys++(List.replicate (2:Int).toNat [V.ref rp]).flatten)) p2=some (.lst (ys++[V.ref rp]++[V.ref rp])):=by rw[Zc,iH];rfl
   have R7:=R6.keep (Tk.same s7);generalize upd H6 p2 _=H7 at s7 e27 h7 R7;refine⟨_,rfl,_,rfl,(by show 1≤sizeLine;decide),λea p6=>⟨_,rfl,p2,_,rfl,.inl ⟨SqL.of (Zd p6 _ _ _ h7),λsa yK=>⟨(by show 4≤sizeLine;decide),λm hm=>?_⟩⟩⟩⟩;have s8:=Zd p6 (.tup [nI t.length]);have s9:=Zd yK (.tup (ys++[V.ref rp]++[V.ref rp]));have y7:=Zd hm (.tup [V.str l,.int 0,.ref ea,.ref sa]);refine k m _ ((e2.trans e27).trans ((s8.trans s9).trans y7)) (Wj.of Zc (y7 _ _ (s9 _ _ Zc)) (y7 _ _ Zc) ?_);refine cast ?_ (R7.keep (Tk.same ((s8.trans s9).trans y7)))
   congr 1
   unfold stT;rw[iH,rC,tl];rfl
  ·refine⟨_,rfl,_,rfl,ifY rfl ?_⟩;refine⟨_,rfl,_,rfl,(by show 1≤sizeLine;decide),λea p6=>⟨_,rfl,_,rfl,_,rfl,(by show 0≤sizeLine;decide),λlp m7=>?_⟩⟩;have s8:=Zd p6 (.tup [nI t.length]);have s3:=Zd m7 (.lst []);refine Ti (here:=t.length) L Zc .nil nofun λrp H4 e4 h4=>⟨(by show 1≤sizeLine;decide),λl1 z8=>?_⟩;have s5:=Zd z8 (.lst [V.ref rp]);have uH:=((s8.trans s3).trans e4).trans s5;have h8:=(s3.trans (e4.trans s5)) _ _ (Zc (H:=H2) (a:=ea) (o:=.tup [nI t.length]));refine⟨p,l1,_,_,rfl,rfl,uH _ _ j4,Zc,Xe (by show ys.length+1≤1000;lia),λp2 i9=>?_⟩;have R5:=(R2.keep (Tk.same uH)).snoc (s5 _ _ h4);generalize upd H4 l1 _=H5 at s5 uH h8 i9 R5;have s6:=Zd i9 (.lst (ys++[V.ref rp]));refine⟨p2,_,rfl,.inl ⟨SqL.of Zc,λsa yK=>⟨(by show 4≤sizeLine;decide),λm hm=>?_⟩⟩⟩;have s9:=Zd yK (.tup (ys++[V.ref rp]));have y7:=Zd hm (.tup [V.str l,.int 0,.ref ea,.ref sa]);have e5:=(s6.trans s9).trans y7;refine k m _ ((e2.trans uH).trans e5) (Wj.of Zc (e5 _ _ h8) (y7 _ _ Zc) ?_);refine cast ?_ (R5.keep (Tk.same e5))
   congr 1
   unfold stT;rw[rC,tl];rfl
inductive Fn(vs:List V)(H:Hp)(Q:VK):Prop
 |mk(l t:Str)(many:Nat)(h1:vs=[.str l,.str t,nI many])(h2:Zca l)(h3:t.length≤3)(h4:many≤4)(h5:(∀c∈t.cps.toList,c∈l.cps.toList))(h6:∀m H',Zm H H'→Wj H' m l 0 [many] (stC l.length (t.cps.toList.map (fx l)) many)→Q (.ref m) H'):Fn vs H Q
def Af:Sp:=λvs H Q _=>Fn vs H Q
theorem L4(F:Fun K "_law_counted" "_law_counted" W4 f fd)(Z:Blt mg)(Z9:Cal P w K mg base "_law_row" 1 aL Lg):Yc P w K mg base CX0 2 f fd YD Af:=by
 refine F.ok Vv (λvs H Q E h=>?_) (λcdv A outer s H vs Q E hr h=>?_)
 ·obtain⟨l,t,many,rfl,_⟩:=h;rfl
 obtain⟨l,t,many,rfl,L,ht3,hm,x9,k⟩:=h;have tl:=len_list t
 refine⟨_,(Ze (Zn (i:=3) Vv.nd (by rfl) (Or.inl (by rfl)) (Zx Zb)) 
   (Ze (Y5 pP (by rfl) (Xz (by rfl) Z.range (Za (Z3 Xn (pv 2) Zf) Zb)) (Zo (i:=4) Vv.nd (by rfl) (Or.inr (by rfl))) 
    (Zg (W8 (Wd (K:=K) oF lK lL Wg (pv 3) (Za (Z5 Z9 (hr.mono (by decide)) (Za (pv 0) (Za (pv 4) (Za (Yj (sc:=Zh W4) (Nm:=ZI) (own:=["_law_letter"]) (fr:=[2,4]) ⟨rfl,by decide +kernel,by decide +kernel,by decide +kernel,by decide +kernel⟩ (by rfl) (Ye (by decide)) (Up (pv 1)) (λd=>(Zo (i:=0) Nj (by rfl) (Or.inl (by rfl)))) (λd=>Ym) (λd=>(Zw (Za (pv 0) (Za (Zt (Zb4 (by rfl)) (by rfl) Z.min Zmh (Za (Z3 Xn (pv 2) Zf) (Za (Z3 Xn (pv 1) Zf) Zb))) Zb))))) Zb)))) Zb))))) 
   (Zg (Zq (Zw (Za (pv 0) (Za Zf (Za (Zw (Za (pv 2) Zb)) (Za (Z4 (Y1 (K:=K)) (by rfl) Z.tuple Yt (Za (pv 3) Zb)) Zb))))))))),?_⟩
 refine(let x6:TS:=_;let x8:TS:=Zs _ x6;(?_:Zs _ x8 _ _ _));refine⟨(by show 0≤sizeLine;decide),λp hp=>?_⟩;generalize eZ:upd H p _=H1;have s1:=nS7 eZ hp;have kJ:=nU7 eZ;refine⟨_,rfl,_,_,rfl,rfl,_,rfl,by lia,by lia,?_⟩;refine U8 (lo:=0) (n:=(((many:Nat):Int)+2).toNat) (λi σ H2=>∃(ys:List V) (v5:Option V),σ=[some (.str l),some (.str t),some (nI many),some (.ref p),v5]∧H2 p=some (.lst ys)∧Zm H H2∧Yp H2 ys ((List.range i).map λa=>Wt l.length a ((t.cps.toList.map (fx l)).map λi=>(i,min (a+1) (many+1))))) ⟨[],none,rfl,kJ,s1,⟨rfl,λi x r h=>by simp at h⟩⟩ ?_ ?_
 ·rintro i σ H2 hi ⟨ys,v5,rfl,j4,e2,R2⟩;rw[show V.int (0+(i:Int))=nI i from congrArg V.int (bF _)];refine⟨_,rfl,.inl ⟨rfl,_,SqL.of j4⟩,_,rfl,_,rfl,_,rfl,t,rfl,?_⟩
  refine Ta (cs:=t.cps.toList) (λn acc H5=>Zm H2 H5∧TR td H5 acc ((t.cps.toList.take n).map λc=>(c,min (i+1) (many+1)))) (Z0 (by lia)) ⟨Zm.refl _,.nil⟩ (λn acc H5 z=>by rw[z.2.len,rC,pR];exact lT _ _)
   (λn acc H5 c hc z=>?_) (λacc H5 z y hy=>?_)
  ·obtain⟨e5,R5⟩:=z;refine U9 ⟨_,rfl,_,rfl,_,_,rfl,rfl,_,rfl,_,_,rfl,rfl,_,_,rfl,(by show 2≤sizeLine;decide),λtp u7=>⟨e5.trans (Zd u7 _),?_⟩⟩;rw[map_take hc];refine(R5.keep (Tk.same (Zd u7 _))).snoc ?_;rw[Zc]
   have e:(if ((many:Nat):Int)+1<((i:Nat):Int)+1 then ((many:Nat):Int)+1 else ((i:Nat):Int)+1)=((min (i+1) (many+1):Nat):Int):=by
    split<;>lia
   rw[e];rfl
  ·obtain⟨e5,R5⟩:=z;rw[pZ]at R5;have s6:=Zd hy (.lst acc);refine Ti L Zc (R5.keep (Tk.same s6)) (λkv n9=>by obtain⟨c,hc,rfl⟩:=rY.mp n9;exact x9 c hc) λrp H6 e6 h6=>?_;have n5:=(e5.trans s6).trans e6;refine⟨p,_,_,rfl,rfl,n5 _ _ j4,?_,?_⟩
   ·rw[R2.1,rC,rX];exact Z0 (by lia)
   ·refine⟨_,_,rfl,Zc,Yi (e2.trans n5) hp _,?_⟩;rw[fL,pS];refine((R2.keep (Tk.same n5)).keep (Tk.lst (n5 _ _ j4) _)).snoc ((Zk (Xr h6 (n5 _ _ j4) nofun)).trans ?_);rw[h6];show _=some (HO.tup ((Wt l.length i ((t.cps.toList.map (fx l)).map λj=>(j,min (i+1) (many+1)))).map nI));unfold fxs;rw[pO,pO];rfl
 ·rintro σ H2 ⟨ys,v5,rfl,j4,e2,R2⟩;rw[show (((many:Nat):Int)+2).toNat=many+2 by lia]at R2;refine⟨_,rfl,_,rfl,(by show 1≤sizeLine;decide),λea p6=>⟨_,rfl,p,_,rfl,.inl ⟨SqL.of (Zd p6 _ _ _ j4),λsa yK=>⟨(by show 4≤sizeLine;decide),λm hm=>?_⟩⟩⟩⟩;have s8:=Zd p6 (.tup [nI many]);have s9:=Zd yK (.tup ys);have y7:=Zd hm (.tup [V.str l,.int 0,.ref ea,.ref sa]);exact k m _ (e2.trans ((s8.trans s9).trans y7)) (Wj.of Zc (y7 _ _ (s9 _ _ Zc)) (y7 _ _ Zc) (R2.keep (Tk.same ((s8.trans s9).trans y7))))
structure MOk(l:Str)(b:Nat)(es:List Nat)(st:aB):Prop where
 st6:st.length≤6
 es6:es.length≤6
 beg:b<st.length
 ends:∀e∈es,e<st.length
 Uo:Ny st l.length
 l3:l.length≤3
theorem Ki{s0:Addr}{o:HO}(F:Yw H p sc)(h1:p≠s0)(h2:sc≠s0):Yw (upd H s0 o) p sc:=by
 obtain⟨xs,q1,q2⟩:=F.here;obtain⟨ns,q3⟩:=F.cells;exact⟨⟨xs,by rw[Zk h1];exact q1,q2⟩,ns,by rw[Zk h2];exact q3⟩
theorem Zfy{H0:Hp}{a:Addr}(d:Xt H0 H p)(h:H0 a=none)(o:HO):Xt H0 (upd H a o) p:=λb u hb y8=>by
 rw[Zk (Zi hb h)];exact d b u hb y8
def stR(st:aB)(ys:List Nat):List aE:=(List.range st.length).map λx=>(st.getD (ys.idxOf x) []).map λt=>ys.getD t 0
inductive Zc0(vs:List V)(H:Hp)(Q:VK):Prop
 |mk(p sc m:Addr)(l:Str)(b:Nat)(es:List Nat)(st:aB)(h1:vs=[.ref p,.ref m])(h2:Wj H m l b es st)(h3:MOk l b es st)(h4:Yw H p sc)(h5:∀m' ys es' H',ys.Perm (List.range st.length)→es'.Perm (es.map λe=>ys.getD e 0)→Wj H' m' l (ys.getD b 0) es' (stR st ys)→Xt H H' p→Yw H' p sc→Q (.ref m') H'):Zc0 vs H Q
def Zi0:Sp:=λvs H Q _=>Zc0 vs H Q
theorem Of(F:Fun K "_law_renumbered" "_law_renumbered" Yz f fd)(Z:Blt mg)(Yd:Cal P w K mg base "_law_pick" 1 aS O9):Yc P w K mg base CX0 2 f fd YI Zi0:=by
 refine F.ok Yu (λvs H Q E h=>?_) (λcdv A outer s H vs Q E hr h=>?_)
 ·obtain⟨p,sc,m,l,b,es,st,rfl,_⟩:=h;rfl
 obtain⟨p,sc,m,l,b,es,st,rfl,⟨eA,sA,rA,g1,g2,g3,g4,g5⟩,O,FA,k⟩:=h;have h6:=O.st6;have t6:(rA.map V.ref).length=st.length:=by rw[rC,g4]
 refine⟨_,(Ze (Zn (i:=2) Yu.nd (by rfl) (Or.inr (by rfl)) (Za6 (by rfl) (by rfl) Z.list (by rfl) Z.range (Zt (Yo (K:=K)) (by rfl) Z.len Y3 (Za (Zr (Zp (K:=K)) (pv 1) Zf (λ_ _=>rfl)) Zb)))) 
   (Ze (Zn (i:=3) Yu.nd (by rfl) (Or.inr (by rfl)) (Yj (sc:=Zh Yz) (Nm:=aI) (own:=["_law_room"]) (fr:=[0,2]) ⟨rfl,by decide +kernel,by decide +kernel,by decide +kernel,by decide +kernel⟩ (by rfl) (Ye (by decide)) (Va (K:=K) (Zr (Zp (K:=K)) (pv 1) Zf (λ_ _=>rfl))) (λd=>(Zo (i:=0) Qm (by rfl) (Or.inl (by rfl)))) (λd=>Ym) (λd=>(Wd (K:=K) oF PySem.F.slot_list_pop PySem.F.type_list_pop Eo (pv 2) (Za (Z5 Yd (hr.mono (by decide)) (Za (pv 1) (Za (Zt (Yo (K:=K)) (by rfl) Z.len Y3 (Za (pv 2) Zb)) Zb))) Zb))))) 
   (Ze (Zn (i:=4) Yu.nd (by rfl) (Or.inl (by rfl)) (Z3 Cg (Zx (Za V0 Zb)) (Zt (Yo (K:=K)) (by rfl) Z.len Y3 (Za (pv 3) Zb)))) 
   (Ze (Y5 pP (by rfl) (Ob (K:=K) (by rfl) Z.enumerate (Zr (Zp (K:=K)) (pv 1) Zf (λ_ _=>rfl))) (Vo (K:=K) (n:=2) (by rfl) (Yb (Zo (i:=5) Yu.nd (by rfl) (Or.inl (by rfl))) (Yb (Zo (i:=6) Yu.nd (by rfl) (Or.inl (by rfl))) Vb))) 
    (Zg (Tn (Z4 (Y1 (K:=K)) (by rfl) Z.tuple Yt (Za (Yj (sc:=Zh Yz) (Nm:=aI) (own:=["_law_there"]) (fr:=[3]) ⟨rfl,by decide +kernel,by decide +kernel,by decide +kernel,by decide +kernel⟩ (by rfl) (Ye (by decide)) (Va (K:=K) (pv 6)) (λd=>(Zo (i:=0) Ql (by rfl) (Or.inl (by rfl)))) (λd=>Ym) (λd=>(Zr (Z2 (K:=K)) (pv 1) (pv 0) (λ_ _=>rfl)))) Zb)) (S9 (pv 4) (Zr (Z2 (K:=K)) (pv 3) (pv 5) (λ_ _=>rfl)) set_list)))) 
   (Zg (Zq (Zw (Za (Zr (Zp (K:=K)) (pv 1) Zf (λ_ _=>rfl)) (Za (Zr (Z2 (K:=K)) (pv 3) (Zr (Zp (K:=K)) (pv 1) Zf (λ_ _=>rfl)) (λ_ _=>rfl)) (Za (Z4 (Y1 (K:=K)) (by rfl) Z.tuple Yt (Za (Zt (Bi (K:=K)) (by rfl) Z.sorted Nv (Za (Yj (sc:=Zh Yz) (Nm:=aI) (own:=["_law_room"]) (fr:=[3]) ⟨rfl,by decide +kernel,by decide +kernel,by decide +kernel,by decide +kernel⟩ (by rfl) (Ye (by decide)) (Va (K:=K) (Zr (Zp (K:=K)) (pv 1) Zf (λ_ _=>rfl))) (λd=>(Zo (i:=0) Qk (by rfl) (Or.inl (by rfl)))) (λd=>Ym) (λd=>(Zr (Z2 (K:=K)) (pv 1) (pv 0) (λ_ _=>rfl)))) Zb)) Zb)) (Za (Z4 (Y1 (K:=K)) (by rfl) Z.tuple Yt (Za (pv 4) Zb)) Zb))))))))))),?_⟩
 refine(let x6:TS:=_;let x8:TS:=Zs _ x6;let y6:TS:=Zs _ x8;let g0:TS:=Zs _ y6;(?_:Zs _ g0 _ _ _));refine⟨_,rfl,m,_,_,_,rfl,rfl,SqT.of g1,Zj (j:=3) rfl,sA,_,rfl,.inr (SqT.of g3),(rA.map V.ref).length,rfl,by lia,λlf uY=>?_⟩;rw[t6];have s1:=Zd uY (.lst ((List.range st.length).map λi:Nat=>V.int (i:Int)));have sR:upd H lf (.lst ((List.range st.length).map λi:Nat=>V.int (i:Int))) lf=some (.lst ((List.range st.length).map nI)):=Zc;have vR:=FA.same s1;generalize upd H lf _=H1 at s1 sR vR
 have mP:p≠lf∧sc≠lf:=by
  obtain⟨xs,h1,_⟩:=FA.here;obtain⟨ns,h2⟩:=FA.cells;exact⟨Zi h1 uY,Zi h2 uY⟩
 have tup:∀{a:Addr}{zs:List V},H a=some (.tup zs)→∀{H':Hp},Xt H H' p→H' a=some (.tup zs):=λ{a zs} h {H'} d=>by
  obtain⟨xs,h1,_⟩:=FA.here;exact d _ _ h (Xr h h1 nofun)
 refine⟨_,rfl,m,_,_,_,rfl,rfl,SqT.of (s1 _ _ g1),Zj (j:=3) rfl,sA,rfl,⟨_,SqT.of (s1 _ _ g3)⟩,?_⟩
 refine X5 (K:=K) (a:=sA) (xs:=rA.map V.ref) (λi acc H8=>∃ys rem:List Nat,acc=ys.map nI∧ys.length=i∧H8 lf=some (.lst (rem.map nI))∧(ys++rem).Perm (List.range st.length)∧Yw H8 p sc∧Xt H H8 p) (by rw[t6];exact Z0 (by lia)) ⟨[],List.range st.length,rfl,rfl,sR,dN _,vR,Xt.same s1⟩
  (λi acc H8 ⟨ys,rem,e,hl,_⟩=>by rw[e,rC,hl];exact rG _) (λi acc H8 ⟨ys,rem,e,hl,_,_,_,d⟩=>SqT.of (tup g3 d)) (λi acc H8 x hx q=>?_) (λacc H8 q op sF=>?_)
 ·obtain⟨ys,rem,rfl,m3,p3,Vh,F8,d8⟩:=q;have hi:=(rH.mp hx).1;rw[t6]at hi
  have hlen:ys.length+rem.length=st.length:=by
   have:=Vh.length_eq;rw[rS,rX]at this;exact this
  refine U9 ⟨_,rfl,.inl ⟨rfl,_,SqL.of p3⟩,_,rfl,_,rfl,lf,_,rfl,.inl (SqL.of p3),p,sc,_,rfl,by rw[rC];lia,by rw[rC];lia,F8,λr9 xs9 h90 h91 hx9=>?_⟩;rw[rC]at h91;have jW:r9.toNat<rem.length:=by lia
  have hv:rem[r9.toNat]?=some rem[r9.toNat]:=rD jW;have F9:=F8.go hx9;have d9:=Oy d8 (.lst xs9);have p4:upd H8 p (.lst xs9) lf=some (.lst (rem.map nI)):=(Zk mP.1.symm).trans p3;generalize upd H8 p _=H9 at F9 p4 d9;refine⟨lf,_,r9,r9.toNat,nI rem[r9.toNat],rfl,rfl,p4,by lia,by lia,?_,?_,?_⟩
  ·rw[rC];exact seqIndex_of h90 h91
  ·rw[rJ,hv];rfl
  ·refine⟨ys++[rem[r9.toNat]],rem.eraseIdx r9.toNat,by rw[pS];rfl,by rw[rS,m3];rfl,?_,?_,Ki F9 mP.1 mP.2,Zfy d9 uY _⟩
   ·rw[Zc,Nr]
   ·rw[iH];exact(cX ys (Ph hv)).trans Vh
 obtain⟨ys,rem,rfl,m3,p3,Vh,F8,d8⟩:=q;rw[t6]at m3
 have C4:rem=[]:=by
  have:=Vh.length_eq;rw[rS,rX]at this;exact lF (by lia)
 rw[C4,lZ]at Vh;clear C4 p3 sR vR s1;have s9:=Zd sF (.lst (ys.map nI));have mB:upd H8 op (.lst (ys.map nI)) op=_:=Zc;have F9:=F8.same s9;have d9:Xt H (upd H8 op (.lst (ys.map nI))) p:=λb o hb y8=>s9 _ _ (d8 b o hb y8);generalize upd H8 op _=H9 at s9 mB F9 d9;have j7:ys.Nodup:=Vh.nodup_iff.mpr List.nodup_range
 have x5:∀{r:Nat},r<st.length→ys.getD r 0<st.length∧ys[r]?=some (ys.getD r 0):=λ{r} hr=>by
  have h1:r<ys.length:=by lia
  have h2:=rD h1;rw[rK,h2];exact⟨pU.mp (Vh.mem_iff.mp (oG h1)),rfl⟩
 have n6:∀{r:Nat},r<st.length→atI (ys.map nI) ((r:Nat):Int)=some (nI (ys.getD r 0)):=λ{r} hr=>Zj (by rw[rJ,(x5 hr).2];rfl);refine⟨(by show 1≤sizeLine;decide),λq hq=>⟨_,rfl,op,_,rfl,.inl (SqL.of (Zd hq _ _ _ mB)),q,_,_,rfl,rfl,Zc,by rw[rC];lia,by rw[rC];lia,(by rw[rC];exact Xe (by show 1*_≤_;lia)),λtp u7=>?_⟩⟩;have y7:=(Zd hq (.lst [V.non])).trans (Zd u7 (.lst (List.replicate (((ys.map nI).length:Nat):Int).toNat [V.non]).flatten));have xA:upd (upd H9 q (.lst [V.non])) tp (.lst (List.replicate (((ys.map nI).length:Nat):Int).toNat [V.non]).flatten) tp=some (.lst (List.replicate (((ys.map nI).length:Nat):Int).toNat [V.non]).flatten):=Zc
 have xU:(List.replicate (((ys.map nI).length:Nat):Int).toNat [V.non]).flatten.length=st.length:=by
  rw[len_rep,rC,m3];show _*1=_;lia
 have qB:H9 tp=none:=none_of (Zd hq (.lst [V.non])) u7;generalize (List.replicate (((ys.map nI).length:Nat):Int).toNat [V.non]).flatten=zs0 at y7 xA xU;generalize upd (upd H9 q (.lst [V.non])) tp (.lst zs0)=n4 at y7 xA;have g1':=tup g1 d9;have g3':=tup g3 d9;refine⟨_,rfl,m,_,_,_,rfl,rfl,SqT.of (y7 _ _ g1'),Zj (j:=3) rfl,sA,_,rfl,.inr ⟨SqT.of (y7 _ _ g3'),?_⟩⟩;refine Rm (Sq:=λH xs=>SqT K H sA xs) (xs:=rA.map V.ref) (λi σ Hj=>∃(zs:List V) (v5 v6:Option V),σ=[some (.ref p),some (.ref m),some (.ref lf),some (.ref op),some (.ref tp),v5,v6]∧Zm H9 Hj∧Hj tp=some (.lst zs)∧zs.length=st.length∧∀r,r<i→∃a,zs[ys.getD r 0]?=some (.ref a)∧Hj a=some (.tup (((st.getD r []).map λt=>ys.getD t 0).map nI))) ⟨zs0,none,none,rfl,y7,xA,xU,λr h=>absurd h (iT _)⟩ (λi σ Hj _ ⟨_,_,_,_,e,_⟩=>SqT.of (e _ _ g3')) ?_ ?_
 ·rintro i x σ z4 tq hx ⟨zs,v5,v6,rfl,w8,xB,zl,hz⟩ htq;rw[rJ]at hx
  cases hc:rA[i]? with
  |none=>rw[hc]at hx;cases hx
  |some ra=>
   rw[hc]at hx;cases hx;have hi:i<st.length:=by rw[←g4];exact(rH.mp hc).1
   have hg:=getD_in (l:=st) (d:=[]) hi;have v9:=g5 i ra _ hc hg.2;generalize eZ:upd z4 tq _=tG;have gT:=nS7 eZ htq;have yY:=nU7 eZ;have xZ:=w8.trans gT;have Zjz:=xZ _ _ (tup v9 d9);refine⟨tq,_,rfl,SqT.of yY,rfl,_,_,rfl,_,_,rfl,rfl,?_⟩;refine⟨_,rfl,ra,rfl,⟨_,SqT.of Zjz⟩,?_⟩
   refine X5 (K:=K) (a:=ra) (xs:=(st.getD i []).map nI) (λn acc p0=>acc=((st.getD i []).take n).map (λt=>nI (ys.getD t 0))∧Zm tG p0) (by rw[rC];exact Z0 (by have:=(O.Uo _ hg.1).1;have:=O.l3;lia)) ⟨rfl,Zm.refl _⟩ (λn acc p0 q=>by rw[q.1,rC,pR];exact lT _ _)
    (λn acc p0 q=>SqT.of (q.2 _ _ Zjz)) (λn acc p0 x' q0 q=>?_) (λacc p0 q lp m7=>?_)
   ·obtain⟨rfl,eX⟩:=q;rw[rJ]at q0
    cases z0:(st.getD i [])[n]? with
    |none=>rw[z0]at q0;cases q0
    |some t=>
     rw[z0]at q0;cases q0;refine U9 ⟨_,rfl,_,rfl,op,_,_,_,rfl,rfl,SqL.of (eX _ _ (xZ _ _ mB)),n6 ((O.Uo _ hg.1).2 t (rN z0)),?_,eX⟩;rw[map_take z0]
   ·obtain⟨rfl,eX⟩:=q;rw[rC,pZ];have xW:=Zd m7 (.lst ((st.getD i []).map λt=>nI (ys.getD t 0)));refine⟨lp,_,rfl,.inl ⟨SqL.of Zc,λz qF=>?_⟩⟩;have s15:=Zd qF (.tup ((st.getD i []).map λt=>nI (ys.getD t 0)));have kH:upd (upd p0 lp (.lst ((st.getD i []).map λt=>nI (ys.getD t 0)))) z (.tup ((st.getD i []).map λt=>nI (ys.getD t 0))) z=some (.tup (((st.getD i []).map λt=>ys.getD t 0).map nI)):=by rw[Zc,pO];rfl
    generalize upd (upd p0 lp (.lst ((st.getD i []).map λt=>nI (ys.getD t 0)))) z (.tup ((st.getD i []).map λt=>nI (ys.getD t 0)))=H15 at s15 kH;have kB:=((gT.trans eX).trans xW).trans s15;have Zl2:=kB _ _ xB;refine⟨_,rfl,_,rfl,_,rfl,op,_,_,_,rfl,rfl,SqL.of ((w8.trans kB) _ _ mB),n6 hi,tp,zs,_,ys.getD i 0,rfl,rfl,Zl2,Ze4 (by rw[zl];exact(x5 hi).1),?_⟩;refine⟨_,_,_,rfl,Yi (w8.trans kB) qB _,Zc,by rw[List.length_set];exact zl,λr hr=>?_⟩
    by_cases c:r=i
    ·subst c;exact⟨z,dE (by rw[zl];exact(x5 hi).1),(Zk (Xr kH Zl2 nofun)).trans kH⟩
    ·obtain⟨a,a1,a2⟩:=hz r (by lia);have j0:r<st.length:=by lia
     refine⟨a,?_,(Zk (Xr (kB _ _ a2) Zl2 nofun)).trans (kB _ _ a2)⟩;rw[iQ]
     ·exact a1
     ·intro e;have q1:=(x5 hi).2;have q2:=(x5 j0).2;rw[e]at q1;obtain⟨w1,w2⟩:=rH.mp q1;obtain⟨w3,w4⟩:=rH.mp q2;have i1:=pN j7 i w1;have i2:=pN j7 r w3;rw[w2]at i1;rw[w4,i1]at i2;exact c i2.symm
 ·rintro σ z4 ⟨zs,v5,v6,rfl,w8,xB,zl,hz⟩;rw[rC,g4]at hz
  have R11:Yp z4 zs (stR st ys):=by
   unfold stR;refine⟨by rw[rC,rX];exact zl,λx v r h1 h2=>?_⟩;have hx:x<st.length:=by rw[←zl];exact(rH.mp h1).1
   have yO:x∈ys:=Vh.mem_iff.mpr (pU.mpr hx);have j9:=iK yO;rw[m3]at j9
   have hgx:ys.getD (ys.idxOf x) 0=x:=by
    have:=(x5 j9).2;rw[Kc yO]at this;exact(Option.some.inj this).symm
   obtain⟨a,a1,a2⟩:=hz _ j9;rw[hgx,h1]at a1;cases a1;rw[rJ,lY hx]at h2;cases h2;exact⟨a,rfl,a2⟩
  have mZ:Xt H z4 p:=λb o hb y8=>w8 _ _ (d9 b o hb y8);have hb:=O.beg;refine⟨_,rfl,m,_,_,_,rfl,rfl,SqT.of (tup g1 mZ),Zj (j:=0) rfl,_,rfl,_,rfl,m,_,_,_,rfl,rfl,SqT.of (tup g1 mZ),Zj (j:=1) rfl,op,_,_,_,rfl,rfl,SqL.of (w8 _ _ mB),n6 hb,?_⟩;refine⟨_,rfl,m,_,_,_,rfl,rfl,SqT.of (tup g1 mZ),Zj (j:=2) rfl,eA,rfl,⟨_,SqT.of (tup g2 mZ)⟩,?_⟩
  refine X5 (K:=K) (a:=eA) (xs:=es.map nI) (λn acc p0=>acc=(es.take n).map (λt=>nI (ys.getD t 0))∧Zm z4 p0) (by rw[rC];exact Z0 (by have:=O.es6;lia)) ⟨rfl,Zm.refl _⟩ (λn acc p0 q=>by rw[q.1,rC,pR];exact lT _ _)
   (λn acc p0 q=>SqT.of (q.2 _ _ (tup g2 mZ))) (λn acc p0 x' q0 q=>?_) (λacc p0 q lp m7=>?_)
  ·obtain⟨rfl,eX⟩:=q;rw[rJ]at q0
   cases z0:es[n]? with
   |none=>rw[z0]at q0;cases q0
   |some t=>
    rw[z0]at q0;cases q0;refine U9 ⟨_,rfl,_,rfl,op,_,_,_,rfl,rfl,SqL.of (eX _ _ (w8 _ _ mB)),n6 (O.ends t (rN z0)),?_,eX⟩;rw[map_take z0]
  obtain⟨rfl,eX⟩:=q;rw[rC,pZ];have Zoj:(es.map λt=>nI (ys.getD t 0))=(es.map λt=>((ys.getD t 0:Nat):Int)).map V.int:=by rw[pO];rfl
  have u2:=Zd m7 (.lst (es.map λt=>nI (ys.getD t 0)));refine⟨lp,es.map λt=>((ys.getD t 0:Nat):Int),rfl,SqL.of (by rw[←Zoj];exact Zc),by rw[rC];have:=O.es6;lia,λq9 sp hpm _ y4=>?_⟩;have u3:=Zd y4 (.lst (q9.map V.int));refine⟨sp,_,rfl,.inl ⟨SqL.of Zc,λep jA=>?_⟩⟩;have u4:=Zd jA (.tup (q9.map V.int))
  have z3:q9=(q9.map Int.toNat).map λn:Nat=>(n:Int):=by
   rw[pO];refine(lH q9).symm.trans (bJ λz hz=>?_);obtain⟨t,_,e⟩:=rY.mp (hpm.mem_iff.mp hz);show z=((z.toNat:Nat):Int);lia
  have Zoo:upd (upd (upd p0 lp (.lst (es.map λt=>nI (ys.getD t 0)))) sp (.lst (q9.map V.int))) ep (.tup (q9.map V.int)) ep=some (.tup ((q9.map Int.toNat).map nI)):=by
   rw[Zc];refine congrArg (λz=>some (HO.tup z)) ?_
   conv=>lhs;rw[z3]
   rw[pO,pO,pO];rfl
  have u24:=(u2.trans u3).trans u4;generalize upd (upd (upd p0 lp (.lst (es.map λt=>nI (ys.getD t 0)))) sp (.lst (q9.map V.int))) ep (.tup (q9.map V.int))=H14 at u4 u24 Zoo;have wC:=eX.trans u24;refine⟨_,rfl,tp,_,rfl,.inl ⟨SqL.of (wC _ _ xB),λsa yK=>⟨(by show 4≤sizeLine;decide),λm' jL=>?_⟩⟩⟩;have u5:=Zd yK (.tup zs);have u6:=Zd jL (.tup [V.str l,nI (ys.getD b 0),.ref ep,.ref sa]);have nX:=u5.trans u6;have Zov:=(w8.trans wC).trans nX;refine k m' ys (q9.map Int.toNat) _ Vh ?_ (Wj.of Zc (nX _ _ Zoo) (u6 _ _ Zc) (R11.keep (Tk.same (wC.trans nX)))) (λb o hb y8=>Zov _ _ (d9 b o hb y8)) (F9.same Zov);have:=hpm.map Int.toNat;rw[pO]at this;exact this
section
variable {l:Str}{b:Nat}{es:List Nat}{st:aB}{ys es':List Nat}
theorem Nd(hp:ys.Perm (List.range st.length))(hr:r<st.length):ys.getD r 0<st.length∧ys.idxOf (ys.getD r 0)=r:=by
 have hl:ys.length=st.length:=by rw[hp.length_eq,rX]
 have h1:r<ys.length:=by lia
 have nd:ys.Nodup:=hp.nodup_iff.mpr List.nodup_range;rw[rK,rD h1];exact⟨pU.mp (hp.mem_iff.mp (oG h1)),pN nd r h1⟩
theorem Zg1(hp:ys.Perm (List.range st.length))(hr:r<st.length):(stR st ys).getD (ys.getD r 0) []=(st.getD r []).map λt=>ys.getD t 0:=by
 obtain⟨h1,h2⟩:=Nd hp hr;unfold stR;rw[rK,rJ,lY h1,←h2];show (st.getD (ys.idxOf (ys.getD (ys.idxOf (ys.getD r 0)) 0)) []).map _=_;rw[h2,h2]
theorem Ah(O:MOk l b es st)(hp:ys.Perm (List.range st.length)):∀(cs:List Nat) (r:Nat),r<st.length→(∀c∈cs,c<l.length)→Wb (stR st ys) (ys.getD r 0) cs=ys.getD (Wb st r cs) 0
 |[],_,_,_=>rfl
 |c :: cs,r,hr,h=>by
  have hc:=h c rM;have hg:=getD_in (l:=st) (d:=[]) hr;have hcr:c<(st.getD r []).length:=by rw[(O.Uo _ hg.1).1];exact hc
  have e:stN (stR st ys) (ys.getD r 0) c=ys.getD (stN st r c) 0:=by
   unfold stN;rw[Zg1 hp hr,rK,rJ,(getD_in (d:=0) hcr).2];rfl
  show Wb (stR st ys) (stN (stR st ys) (ys.getD r 0) c) cs=_;rw[e];exact Ah O hp cs _ (S2 O.Uo hr hc) λd hd=>h d (rP _ hd)
theorem Zky(O:MOk l b es st)(hp:ys.Perm (List.range st.length))(he:es'.Perm (es.map λe=>ys.getD e 0)):MOk l (ys.getD b 0) es' (stR st ys)∧∀cs,(∀c∈cs,c<l.length)→(Wb (stR st ys) (ys.getD b 0) cs∈es'↔Wb st b cs∈es):=by
 have xT:(stR st ys).length=st.length:=by unfold stR;rw[rC,rX]
 have hl:ys.length=st.length:=by rw[hp.length_eq,rX]
 refine⟨⟨by rw[xT];exact O.st6,by rw[he.length_eq,rC];exact O.es6,by rw[xT];exact(Nd hp O.beg).1,λe h=>?_,λr hr=>?_,O.l3⟩,λcs h=>?_⟩
 ·obtain⟨t,ht,rfl⟩:=rY.mp (he.mem_iff.mp h);rw[xT];exact(Nd hp (O.ends t ht)).1
 ·rw[xT];unfold stR at hr;obtain⟨x,hx,rfl⟩:=rY.mp hr;have yO:x∈ys:=hp.mem_iff.mpr hx;have j9:=iK yO;rw[hl]at j9;have hg:=O.Uo _ (getD_in (l:=st) (d:=[]) j9).1;refine⟨by rw[rC];exact hg.1,λy hy=>?_⟩;obtain⟨t,ht,rfl⟩:=rY.mp hy;exact(Nd hp (hg.2 t ht)).1
 ·have hw:=By O.Uo cs b O.beg h;rw[Ah O hp cs b O.beg h,he.mem_iff,rY];constructor
  ·rintro⟨e,h1,h2⟩;have a1:=(Nd hp (O.ends e h1)).2;have a2:=(Nd hp hw).2;rw[h2,a2]at a1;rw[a1];exact h1
  ·exact λh=>⟨_,h,rfl⟩
end
def TI(st:aB)(L:List Nat)(n x:Nat):List Nat:=(List.range n).map λi=>L.getD (stN st x i) 0
def oI(n:Nat)(st:aB)(L:List Nat):List Nat:=Zl id (TI st L n) (L.getD 0 0) 6
def sI(n:Nat)(st:aB)(L:List Nat)(o:List Nat):List aE:=Xd id (TI st L n) o
def zig(i j:Nat):List Nat:=[i,j,i,j,i,j,i,j,i,j]
def Zmt(n way:Nat)(o:List Nat)(s:aB):Bool:=
 ((List.range s.length).all λx=>decide (o.getD x 0≤way)&&(s.getD x []).all λy=>decide (y=x)||decide (o.getD x 0<o.getD y 0)) &&
 ((List.range way).all λi=>decide (o.idxOf (i+1)≠o.idxOf i)&&decide (o.idxOf (i+1)∈s.getD (o.idxOf i) []))&&decide (o.idxOf 0=0)&&decide (way<s.length) &&
 (List.range s.length).all λr=>(List.range n).all λj=>(List.range j).all λi=>decide (Wb s (stN s r i) (zig i j)=Wb s (stN s r j) (zig i j))
def noI(n:Nat)(s:aB):Bool:=
 ((List.range s.length).any λx=>(s.getD x []).any λy=>decide (y<s.length)&&(decide (y≠x)&&decide (x∈s.getD y []))) ||
 (List.range s.length).any λr=>(List.range n).any λj=>(List.range j).any λi=>decide (stN s r i≠stN s r j)&&[i,j].all λc=>decide (stN s (stN s r i) c=stN s r i)&&decide (stN s (stN s r j) c=stN s r j)
def okI(n:Nat)(st:aB)(es:List Nat):Bool:=decide (0<st.length)&&decide (st.length≤6)&&decide (es.length≤6)&&(es.all λe=>decide (e<st.length))&&(st.all λr=>decide (r.length=n)&&r.all λx=>decide (x<st.length))&&decide (dn (lkN st es 5)≤dn (lkN st es 4))&&decide ((oI n st (lkN st es 5)).length≤6)
def chk(n:Nat)(st:aB)(es:List Nat)(flag:Bool)(way:Nat):Bool:=
 okI n st es&&bif flag then Zmt n way (oI n st (lkN st es 5)) (sI n st (lkN st es 5) (oI n st (lkN st es 5))) else noI n (sI n st (lkN st es 5) (oI n st (lkN st es 5)))
section
variable {l:Str}{es:List Nat}{st:aB}{flag:Bool}{wn:Nat}
theorem Zf8(h:chk l.length st es flag wn=true)(h3:l.length≤3):MOk l 0 es st:=by
 unfold chk okI at h;simp only[oD,decide_eq_true_eq,iE]at h;obtain⟨⟨⟨⟨⟨⟨⟨h1,h2⟩,h3'⟩,h4⟩,h5⟩,_⟩,_⟩,_⟩:=h;exact⟨h2,h3',h1,h4,λr hr=>⟨(h5 r hr).1,(h5 r hr).2⟩,h3⟩
theorem Zj6(nd:l.cps.toList.Nodup)(st:aB)(L:List Nat):TL l (gL l st L)=TI st L l.length:=by
 funext x
 have ll:=len_list l;unfold TL TI;refine List.ext_getElem (by rw[rC,rC,rX,ll]) λi h1 h2=>?_;rw[rC]at h1;rw[dW,dW,bP];unfold gL;rw[S0 nd (rD h1)]
theorem Zf9(h:chk l.length st es flag wn=true)(h3:l.length≤3)(nd:l.cps.toList.Nodup):∃esD,LM l (λcs=>Wb st 0 cs∈es) (sI l.length st (lkN st es 5) (oI l.length st (lkN st es 5))) esD:=by
 have O:=Zf8 h h3;unfold chk okI at h;simp only[oD,decide_eq_true_eq]at h;obtain⟨⟨⟨_,h6⟩,h7⟩,_⟩:=h;exact⟨_,(LM.of nd ⟨O.Uo,O.beg,h6,by rw[Zj6 nd];exact h7,by rw[Zj6 nd];rfl,rfl⟩).1⟩
theorem LM.tbl{P:YB}(D:LM l P stD esD)(nd:l.cps.toList.Nodup):Tbl l stD:=⟨nd,D.Uo⟩
theorem Zos(hp:l.cps.toList.Pairwise (·<·))(nd:l.cps.toList.Nodup){d:Nat}(hc:c∈l.cps.toList)(hd:d∈l.cps.toList)(h:c<d):fx l c<fx l d:=by
 obtain⟨i,hi,rfl⟩:=pL.mp hc;obtain⟨j,hj,rfl⟩:=pL.mp hd;rw[Ig nd hi,Ig nd hj]
 rcases oE i j with z|z
 ·exact z
 ·rcases oE j i with y|y
  ·have:=fS.mp hp j i hj hi y;lia
  ·have e:i=j:=by lia
   subst e;lia
theorem Zak(h:chk l.length st es true wn=true)(h3:l.length≤3)(hp:l.cps.toList.Pairwise (·<·)){P:YB}(D:LM l P stD esD)(q:∀cs,(∀c∈cs,c<l.length)→(P cs↔Wb st 0 cs∈es)):
  (∀H v,¬ Iy l stD H v)∧(∀H v,¬ ApV l stD H v)∧∀rk r,RkI stD 0 stD.length rk→r∈rk→(∀x∈rk,x≤r)→r=wn:=by
 have nd:l.cps.toList.Nodup:=hp.imp λh=>rV h;obtain⟨es1,D1⟩:=Zf9 h h3 nd;obtain⟨e,_⟩:=LM.uniq nd D D1 q;unfold chk at h;rw[←e]at h;generalize oI l.length st (lkN st es 5)=o at h;clear e D1;have t:=D.tbl nd;have ll:=len_list l;unfold Zmt at h;simp only[oD,decide_eq_true_eq,iE,pU,Bool.or_eq_true,cond_true]at h;obtain⟨_,⟨⟨⟨a1,a2⟩,a3⟩,a4⟩,a5⟩:=h;have up:∀{x c:Nat},x<stD.length→c∈l.cps.toList→stp l stD x c=x∨o.getD x 0<o.getD (stp l stD x c) 0:=λ{x c} hx hc=>(a1 x hx).2 _ ((t.row hx).mpr ⟨c,hc,rfl⟩);refine⟨λH v hv=>?_,λH v hv=>?_,λrk r R hr hg=>?_⟩
 ·obtain⟨a,r,c,z,_,_,h1,h2,h4,_,h5,h6⟩:=hv
  have mono:∀(u:List Nat) (x:Nat),x<stD.length→(∀d∈u,d∈l.cps.toList)→o.getD x 0≤o.getD (way l stD x u) 0:=by
   intro u
   induction u with
   |nil=>exact λx _ _=>rG _
   |cons d u ih=>
    intro x hx hu;have hd:=hu d rM;refine pQ ?_ (ih (stp l stD x d) (t.lt hx hd) λe he=>hu e (rP _ he))
    rcases up hx hd with z|z
    ·rw[z];exact rG _
    ·exact oX z
  have m:=mono z.cps.toList _ (t.lt h1 h2) h4;rw[h6]at m
  rcases up h1 h2 with z|z
  ·exact h5 z
  ·lia
 ·obtain⟨a,⟨r,c,d⟩,u,_,_,⟨f1,f2,f3,f4⟩,_,_,nm⟩:=hv
  have hz:∀e∈zig c d,e∈[c,d]:=λe he=>by
   unfold zig at he;simp only[rT,fB,or_false]at he ⊢;lia
  obtain⟨q1,q2,_⟩:=Mz (λhx hc=>t.lt hx hc) f1 f2 f3 hz;refine nm (zig c d) hz ?_;rw[q1,q2];have hd:=(Tw f3).2;have:=a5 r f1 (fx l d) hd (fx l c) (Zos hp nd f2 f3 f4);have w1:=Zch l stD (zig c d) (stp l stD r c);have w2:=Zch l stD (zig c d) (stp l stD r d);exact w1.trans (this.trans w2.symm)
 ·have pth:∀{j x:Nat},Pth stD 0 j x→x<stD.length∧j≤o.getD x 0:=λ{j x} hx=>by
   induction hx with
   |zero=>exact⟨D.pos,oC _⟩
   | @succ j x y _ hy ne ih=>
    refine⟨(D.Uo _ (getD_in ih.1).1).2 y hy,?_⟩
    rcases(a1 x ih.1).2 y hy with z|z
    ·exact absurd z ne
    ·lia
  have hup:r≤wn:=by
   obtain⟨x,hx⟩:=List.getElem?_of_mem hr
   by_cases c:∃j,j<stD.length∧Pth stD 0 j x
   ·obtain⟨_,r2,_⟩:=R.met x r hx c;obtain⟨r3,r4⟩:=pth r2;exact pQ r4 (a1 x r3).1
   ·have:=R.not x r hx λj hj xM=>c ⟨j,hj,xM⟩;lia
  have go:∀i,i≤wn→Pth stD 0 i (o.idxOf i):=by
   intro i
   induction i with
   |zero=>intro _;rw[a3];exact .zero
   |succ i ih=>
    intro hi;obtain⟨b1,b2⟩:=a2 i (by lia);exact .succ (ih (by lia)) b2 b1
  have hw:=go wn (rG _);obtain⟨r3,_⟩:=pth hw;have hx:rk[o.idxOf wn]?=some (rk[o.idxOf wn]'(by rw[R.len];exact r3)):=rD _;obtain⟨_,_,r5⟩:=R.met _ _ hx ⟨wn,a4,hw⟩;have r6:=r5 wn a4 hw;have r7:=hg _ (rN hx);lia
theorem Zfr(h:chk l.length st es false wn=true)(h3:l.length≤3)(hp:l.cps.toList.Pairwise (·<·)){P:YB}(D:LM l P stD esD)(q:∀cs,(∀c∈cs,c<l.length)→(P cs↔Wb st 0 cs∈es))(hf:O3 l stD)(S:SpV l stD H v):False:=by
 have nd:l.cps.toList.Nodup:=hp.imp λh=>rV h;obtain⟨es1,D1⟩:=Zf9 h h3 nd;obtain⟨e,_⟩:=LM.uniq nd D D1 q;unfold chk at h;rw[←e]at h;clear e D1;have t:=D.tbl nd;have ll:=len_list l;obtain⟨_,_,_,rk,ys,rows,_,_,_,R,_,_,Ke,xQ⟩:=S;unfold noI at h;simp only[oD,decide_eq_true_eq,iN,iE,pU,Bool.or_eq_true,cond_false]at h;obtain⟨_,⟨x,hx,y,hy,m3,ne,hxy⟩|⟨r,hr,j,hj,i,hi,ne,hs⟩⟩:=h
 ·have rise:=R.rise hf t D.pos D.reach;have r1:=rise x hx y hy ne;have r2:=rise y m3 x hxy λe=>ne e.symm;lia
 ·have t5:i<l.cps.toList.length:=by lia
  have xN:j<l.cps.toList.length:=by lia
  have e1:∀x,stp l stD x l.cps.toList[i]=stN stD x i:=λx=>S0 nd (rD t5);have e2:∀x,stp l stD x l.cps.toList[j]=stN stD x j:=λx=>S0 nd (rD xN);have fk:G8 l stD.length (r,l.cps.toList[i],l.cps.toList[j]):=⟨hr,oG t5,oG xN,fS.mp hp i j t5 xN hi⟩;have hm:=(Zfp hp).mpr fk;rw[←Ke]at hm;obtain⟨⟨k,u⟩,hq,rfl⟩:=rY.mp hm;obtain⟨⟨w1,_⟩,w3⟩:=xQ _ hq;obtain⟨q1,q2,_⟩:=Mz (λhx hc=>t.lt hx hc) fk.1 fk.2.1 fk.2.2.1 w1;rw[q1,q2]at w3;obtain⟨s1,s2⟩:=hs i (by simp);obtain⟨s3,s4⟩:=hs j (by simp)
  have Pr:∀{a:Nat},stN stD a i=a→stN stD a j=a→∀u:List Nat,(∀e∈u,e∈[l.cps.toList[i],l.cps.toList[j]])→u.foldl (stp l stD) a=a:=by
   intro a b1 b2 u
   induction u with
   |nil=>exact λ_=>rfl
   |cons e u ih=>
    intro hu
    have he:stp l stD a e=a:=by
     rcases rT.mp (hu e rM) with z|z
     ·rw[z,e1];exact b1
     ·rw[rL.mp z,e2];exact b2
    rw[iA,he];exact ih λd hd=>hu d (rP _ hd)
  rw[e1,e2,Pr s1 s3 _ w1,Pr s2 s4 _ w1]at w3;exact ne w3
end
def wdI(n:Nat):Nat→List aE
 | 0=>[[]]
 |k+1=>(wdI n k).flatMap λw=>(List.range n).map λc=>c :: w
theorem I0{n:Nat}:∀{w:List Nat},(∀c∈w,c<n)→w∈wdI n w.length
 |[],_=>rL.mpr rfl
 |c :: w,h=>List.mem_flatMap.mpr ⟨w,I0 λd hd=>h d (rP _ hd),rY.mpr ⟨c,pU.mpr (h c rM),rfl⟩⟩
theorem Zo3:∀n,n<4→0<n→∀x,x<n→chk n [Wt n 0 [(x,1)],Wt n 0 [(x,1)]] [1] (decide (n=1)) 1=true∧chk n [Wt n 0 [(x,1)],Wt n 1 [(x,0)]] [0] false 0=true∧chk n [Wt n 2 [(x,1)],Wt n 1 [],Wt n 2 []] [1] (decide (n=1)) 1=true∧
  ∀y,y<n→chk n [Wt n 0 [(x,1)],Wt n 0 [(x,1),(y,2)],Wt n 2 []] [2] (decide (n=1)||(decide (n=2) && !decide (x=y))) 2=true:=by decide +kernel
theorem Zo2:∀n,n<4→0<n→∀k,k<5→(∀x,x<n→chk n (stC n [x] k) [k] true (k+1)=true)∧chk n (stC n (List.range n) k) (List.range (k+1)) true (k+1)=true:=by decide +kernel
abbrev ctP(n k:Nat)(w:List Nat):Prop:=chk n (stT n w true) [k] true k=true∧chk n (stT n w false) [k] true (k+1)=true
theorem ct1:∀k,k<5→∀w∈wdI 1 k,ctP 1 k w:=by decide +kernel
theorem ct2:∀k,k<5→∀w∈wdI 2 k,ctP 2 k w:=by decide +kernel
theorem ct3:∀k,k<4→∀w∈wdI 3 k,ctP 3 k w:=by decide +kernel
theorem ct00:∀w∈wdI 3 2,ctP 3 4 (0 :: 0 :: w):=by decide +kernel
theorem ct01:∀w∈wdI 3 2,ctP 3 4 (0 :: 1 :: w):=by decide +kernel
theorem ct02:∀w∈wdI 3 2,ctP 3 4 (0 :: 2 :: w):=by decide +kernel
theorem ct10:∀w∈wdI 3 2,ctP 3 4 (1 :: 0 :: w):=by decide +kernel
theorem ct11:∀w∈wdI 3 2,ctP 3 4 (1 :: 1 :: w):=by decide +kernel
theorem ct12:∀w∈wdI 3 2,ctP 3 4 (1 :: 2 :: w):=by decide +kernel
theorem ct20:∀w∈wdI 3 2,ctP 3 4 (2 :: 0 :: w):=by decide +kernel
theorem ct21:∀w∈wdI 3 2,ctP 3 4 (2 :: 1 :: w):=by decide +kernel
theorem ct22:∀w∈wdI 3 2,ctP 3 4 (2 :: 2 :: w):=by decide +kernel
theorem Zo0{k:Nat}{w:List Nat}(hn:n<4)(h0:0<n)(hk:k<5)(hw:∀c∈w,c<n)(hl:w.length=k):ctP n k w:=by
 have hm:=I0 hw;rw[hl]at hm
 rcases(by lia:n=1∨n=2∨n=3) with rfl|rfl|rfl
 ·exact ct1 k hk w hm
 ·exact ct2 k hk w hm
 ·rcases oE k 4 with z|z
  ·exact ct3 k z w hm
  ·obtain rfl:k=4:=by lia
   match w,hl,hw with
   |a :: b :: w,hl,hw=>
    have i4:=I0 (w:=w) λc hc=>hw c (rP _ (rP _ hc));rw[show w.length=2 from by simpa using hl]at i4;have ha:=hw a rM;have hb:=hw b (rP _ rM)
    rcases(by lia:a=0∨a=1∨a=2) with rfl|rfl|rfl<;>rcases(by lia:b=0∨b=1∨b=2) with rfl|rfl|rfl
    ·exact ct00 w i4
    ·exact ct01 w i4
    ·exact ct02 w i4
    ·exact ct10 w i4
    ·exact ct11 w i4
    ·exact ct12 w i4
    ·exact ct20 w i4
    ·exact ct21 w i4
    ·exact ct22 w i4
theorem Zo1:∀n,n<4→0<n→chk n [Wt n 0 []] [] true 0=true∧chk n [Wt n 0 []] [0] true 0=true:=by decide +kernel
section
variable {H:Hp}{Q:VK}{l:Str}{x y here v u:Nat}
theorem Zgz(L:Zca l)(k:∀rp H',Zm H H'→H' rp=some (.tup ((Wt l.length here []).map nI))→Q (.ref rp) H'):0≤sizeLine∧∀lp,H lp=none→Lg [.str l,nI here,.ref lp] (upd H lp (.lst [])) Q E0:=
 ⟨oC _,λlp m7=>Ti L Zc .nil nofun λrp H' e h=>k rp H' ((Zd m7 _).trans e) h⟩
theorem Zdk(L:Zca l)(hx:x∈l.cps.toList)(k:∀rp H',Zm H H'→H' rp=some (.tup ((Wt l.length here [(fx l x,v)]).map nI))→Q (.ref rp) H'):2≤sizeLine∧∀tp,H tp=none→1≤sizeLine∧∀lp,upd H tp (.tup [.str ⟨#[x]⟩,nI v]) lp=none→Lg [.str l,nI here,.ref lp] (upd (upd H tp (.tup [.str ⟨#[x]⟩,nI v])) lp (.lst [.ref tp])) Q E0:=
 ⟨by decide,λtp u7=>⟨by decide,λlp m7=>Ti L Zc (leads:=[(x,v)]) (.cons (Zd m7 _ _ _ Zc) .nil) (λkv n9=>by rw[rL.mp n9];exact hx) λrp H' e h=>k rp H' (((Zd u7 _).trans (Zd m7 _)).trans e) h⟩⟩
end
theorem Wj.end_{ea sp:Addr}{l:Str}(hm:H m=none)(he:H ea=some (.tup (es.map nI)))(hs:H sp=some (.tup xs))(R:Yp H xs st):Wj (upd H m (.tup [.str l,nI 0,.ref ea,.ref sp])) m l 0 es st:=
 Wj.of Zc (Zd hm _ _ _ he) (Zd hm _ _ _ hs) (R.keep (Tk.same (Zd hm _)))
theorem Yp.one{a:Addr}{r:List Nat}(h:H a=some (.tup (r.map nI))):Yp H [.ref a] [r]:=Yp.snoc (xs:=[]) (rs:=[]) ⟨rfl,λi x r h=>by simp at h⟩ h
theorem Zl6{l:Str}(nd:l.cps.toList.Nodup){d:Nat}(hc:c∈l.cps.toList)(hd:d∈l.cps.toList)(h:fx l c=fx l d):c=d:=by
 obtain⟨i,hi,rfl⟩:=pL.mp hc;obtain⟨j,hj,rfl⟩:=pL.mp hd;rw[Ig nd hi,Ig nd hj]at h;subst h;rfl
theorem Zh6{l:Str}(nd:l.cps.toList.Nodup):l.cps.toList.map (fx l)=List.range l.length:=by
 have ll:=len_list l;refine List.ext_getElem (by rw[rC,rX,ll]) λi h1 h2=>?_;rw[rC]at h1;rw[dW,bP,Ig nd h1]
inductive Zc8(vs:List V)(H:Hp)(Q:VK):Prop
 |mk(p sc:Addr)(l:Str)(h1:vs=[.ref p,.str l])(h2:0<l.length)(h3:l.length≤3)(h4:l.cps.toList.Pairwise (·<·))(h5:Yw H p sc)(h6:∀q m v es st flag wn H',H' q=some (.lst [.ref m,.bl flag,v])→(flag=true→v=nI wn)→chk l.length st es flag wn=true→Wj H' m l 0 es st→Xt H H' p→Yw H' p sc→Q (.ref q) H'):Zc8 vs H Q
def Zi6:Sp:=λvs H Q _=>Zc8 vs H Q
theorem Jd(F:Fun K "_law_family" "_law_family" Vn f fd)(Z:Blt mg)(Yd:Cal P w K mg base "_law_pick" 1 aS O9)(Z9:Cal P w K mg base "_law_row" 1 aL Lg)(Xq:Cal P w K mg base "_law_text_machine" 2 YC Hg)(Vf:Cal P w K mg base "_law_counted" 2 YD Af):Yc P w K mg base CX0 3 f fd YF Zi6:=by
 refine F.ok Yf (λvs H Q E h=>?_) (λcdv A outer s H vs Q E hr h=>?_)
 ·obtain⟨p,sc,l,rfl,_⟩:=h;rfl
 obtain⟨p,sc,l,rfl,mH,xO,eF,FA,k⟩:=h;have nd:l.cps.toList.Nodup:=eF.imp λh=>rV h;have L:Zca l:=⟨xO,nd⟩;have ll:=len_list l
 refine⟨_,(Ze (Zn (i:=2) Yf.nd (by rfl) (Or.inl (by rfl)) (Z5 Yd (hr.mono (by decide)) (Za (pv 0) (Za Zf Zb)))) 
   (Ze (Zk7 (i:=3) (j:=4) (by rfl) Yf.nd (by rfl) (by rfl) (by decide) (by rfl) (by rfl) (Za (Zr L9 (pv 1) (Z5 Yd (hr.mono (by decide)) (Za (pv 0) (Za (Zt X0 (by rfl) Z.len Y3 (Za (pv 1) Zb)) Zb))) (λ_ _=>rfl)) (Za (Zr L9 (pv 1) (Z5 Yd (hr.mono (by decide)) (Za (pv 0) (Za (Zt X0 (by rfl) Z.len Y3 (Za (pv 1) Zb)) Zb))) (λ_ _=>rfl)) Zb)) (by rfl)) 
   (Ze (Zn (i:=5) Yf.nd (by rfl) (Or.inl (by rfl)) (Z5 Yd (hr.mono (by decide)) (Za (pv 0) (Za Zf Zb)))) 
   (Ze (Zn (i:=6) Yf.nd (by rfl) (Or.inl (by rfl)) (Wd (K:=K) cR PySem.F.slot_str_join PySem.F.type_str_join (Ep (K:=K)) Wr (Za (Yj (sc:=Zh Vn) (Nm:=aN) (own:=["_law_k"]) (fr:=[0,1]) ⟨rfl,by decide +kernel,by decide +kernel,by decide +kernel,by decide +kernel⟩ (by rfl) (Ye (by decide)) (Xz (by rfl) Z.range (Za (pv 5) Zb)) (λd=>(Zo (i:=0) Mi (by rfl) (Or.inl (by rfl)))) (λd=>Ym) (λd=>(Zr L9 (pv 2) (Z5 Yd (hr.mono (by decide)) (Za (pv 1) (Za (Zt X0 (by rfl) Z.len Y3 (Za (pv 2) Zb)) Zb))) (λ_ _=>rfl)))) Zb))) 
   (Ze (Zn (i:=7) Yf.nd (by rfl) (Or.inl (by rfl)) (Yr X2 (Zt X0 (by rfl) Z.len Y3 (Za (pv 1) Zb)) Zf (Zy _))) 
   (Ze (Ys (Z6 X2 (pv 2) Zf (Zy _)) 
    (Ze (Zn (i:=8) Yf.nd (by rfl) (Or.inl (by rfl)) (Z3 Zhg (Zw (Za (Z5 Z9 (hr.mono (by decide)) (Za (pv 1) (Za Zf (Za (Zx (Za (Zw (Za (pv 3) (Za Zf Zb))) Zb)) Zb)))) Zb)) Zf)) 
    (Zg (Zq (Zx (Za (Zw (Za (pv 1) (Za Zf (Za (Zw (Za Zf Zb)) (Za (pv 8) Zb))))) (Za (pv 7) (Za Zf Zb))))))) Z1) 
   (Ze (Ys (Z6 X2 (pv 2) Zf (Zy _)) 
    (Zg (Zq (Zx (Za (Zw (Za (pv 1) (Za Zf (Za (Zw (Za Zf Zb)) (Za (Zw (Za (Z5 Z9 (hr.mono (by decide)) (Za (pv 1) (Za Zf (Za (Zx (Za (Zw (Za (pv 3) (Za Zf Zb))) Zb)) Zb)))) (Za (Z5 Z9 (hr.mono (by decide)) (Za (pv 1) (Za Zf (Za (Zx (Za (Zw (Za (pv 3) (Za Zf Zb))) Zb)) Zb)))) Zb))) Zb))))) (Za Xw (Za V0 Zb)))))) Z1) 
   (Ze (Ys (Z6 X2 (pv 2) Zf (Zy _)) 
    (Ze (Zn (i:=8) Yf.nd (by rfl) (Or.inl (by rfl)) (Zw (Za (Z5 Z9 (hr.mono (by decide)) (Za (pv 1) (Za Zf (Za (Zx (Za (Zw (Za (pv 3) (Za Zf Zb))) Zb)) Zb)))) (Za (Z5 Z9 (hr.mono (by decide)) (Za (pv 1) (Za Zf (Za (Zx (Za (Zw (Za (pv 3) (Za Zf Zb))) (Za (Zw (Za (pv 4) (Za Zf Zb))) Zb))) Zb)))) (Za (Z5 Z9 (hr.mono (by decide)) (Za (pv 1) (Za Zf (Za (Zx Zb) Zb)))) Zb))))) 
    (Zg (Zq (Zx (Za (Zw (Za (pv 1) (Za Zf (Za (Zw (Za Zf Zb)) (Za (pv 8) Zb))))) (Za (Zjq (pv 7) (Ra (Rb (Yr X2 (Zt X0 (by rfl) Z.len Y3 (Za (pv 1) Zb)) Zf (Zy _)) (Ra (Yr Ss (pv 3) (pv 4) (Zy _)))))) (Za Zf Zb))))))) Z1) 
   (Ze (Ys (Z6 X2 (pv 2) Zf (Zy _)) 
    (Ze (Zn (i:=8) Yf.nd (by rfl) (Or.inl (by rfl)) (Zw (Za (Z5 Z9 (hr.mono (by decide)) (Za (pv 1) (Za Zf (Za (Zx (Za (Zw (Za (pv 3) (Za Zf Zb))) Zb)) Zb)))) (Za (Z5 Z9 (hr.mono (by decide)) (Za (pv 1) (Za Zf (Za (Zx Zb) Zb)))) (Za (Z5 Z9 (hr.mono (by decide)) (Za (pv 1) (Za Zf (Za (Zx Zb) Zb)))) Zb))))) 
    (Zg (Zq (Zx (Za (Zw (Za (pv 1) (Za Zf (Za (Zw (Za Zf Zb)) (Za (pv 8) Zb))))) (Za (pv 7) (Za Zf Zb))))))) Z1) 
   (Ze (Ys (PW.pt (F0 (Z6 X2 (pv 2) Zf (Zy _)) (Lq (Z6 X2 (pv 2) Zf (Zy _))))) 
    (Zg (Zq (Zx (Za (Z5 Xq (hr.mono (by decide)) (Za (pv 1) (Za (pv 6) (Za Xw Zb)))) (Za Xw (Za (pv 5) Zb)))))) Z1) 
   (Ze (Ys (Z6 X2 (pv 2) Zf (Zy _)) 
    (Zg (Zq (Zx (Za (Z5 Vf (hr.mono (by decide)) (Za (pv 1) (Za (pv 3) (Za (pv 5) Zb)))) (Za Xw (Za (Z3 Xn (pv 5) Zf) Zb)))))) Z1) 
   (Ze (Ys (Z6 X2 (pv 2) Zf (Zy _)) 
    (Ze (Zn (i:=9) Yf.nd (by rfl) (Or.inl (by rfl)) (Z5 Vf (hr.mono (by decide)) (Za (pv 1) (Za (pv 1) (Za (pv 5) Zb))))) 
    (Zg (Zq (Zx (Za (Z3 (Rg (K:=K)) (Z3 (Rg (K:=K)) (U2 (Hn (K:=K)) (pv 9) R0 (Rz Zf)) (Zw (Za (Zd7 (by rfl) (by rfl) Z.tuple (by rfl) Z.range (Z3 Xn (pv 5) Zf)) Zb))) (U2 (Hn (K:=K)) (pv 9) (Rz Zf) R0)) (Za Xw (Za (Z3 Xn (pv 5) Zf) Zb))))))) Z1) 
   (Ze (Ys (Z6 X2 (pv 2) Zf (Zy _)) 
    (Zg (Zq (Zx (Za (Z5 Xq (hr.mono (by decide)) (Za (pv 1) (Za (pv 6) (Za Xw Zb)))) (Za Xw (Za (Z3 Xn (pv 5) Zf) Zb)))))) Z1) 
   (Zg (Zq (Zx (Za (Zw (Za (pv 1) (Za Zf (Za (Zr (Z2 (K:=K)) (Zx (Za (Zw Zb) (Za (Zw (Za Zf Zb)) Zb))) (Z3 Rf (pv 5) Zf) (λ_ _=>rfl)) (Za (Zw (Za (Z5 Z9 (hr.mono (by decide)) (Za (pv 1) (Za Zf (Za (Zx Zb) Zb)))) Zb)) Zb))))) (Za Xw (Za Zf Zb))))))))))))))))))),?_⟩
 refine(let x6:TS:=_;let x8:TS:=Zs _ x6;let y6:TS:=_;let g0:TS:=Zs _ y6;let w6:TS:=Zs (K2 _ g0 _) x8;let p9:TS:=Zs _ w6;let d0:TS:=Zs _ p9;let c0:TS:=_;let l5:TS:=Zs _ c0;let xY:TS:=Zs (K2 _ l5 _) d0;let Zce:TS:=_;let pA:TS:=Zs _ Zce;let pB:TS:=Zs (K2 _ pA _) xY;let pC:TS:=Zs _ pB;let pE:TS:=_;let pF:TS:=Zs _ pE;let pG:TS:=Zs (K2 _ pF _) pC;let pH:TS:=Zs _ pG;let pI:TS:=Zs _ pH;let pJ:TS:=Zs _ pI;let pK:TS:=Zs _ pJ;(?_:Zs _ pK _ _ _));refine⟨_,rfl,p,sc,10,rfl,by decide,by decide,FA,λr1 xs1 xA xB hx1=>?_⟩;have F1:=FA.go hx1;have d1:Xt H (upd H p (.lst xs1)) p:=Xt.upd _;generalize upd H p _=H1 at F1 d1;refine⟨_,rfl,_,rfl,_,rfl,l,rfl,Xe (by lia),p,sc,_,rfl,by lia,by lia,F1,λr2 xs2 h20 h21 vF=>?_⟩;obtain⟨x,hx,sY⟩:=Kr h20 h21;have F2:=F1.go vF;have d2:=Oy d1 (.lst xs2);generalize upd H1 p _=H2 at F2 d2;refine⟨l,r2,x,rfl,rfl,Xe (by lia),sY,_,rfl,_,rfl,_,rfl,l,rfl,Xe (by lia),p,sc,_,rfl,by lia,by lia,F2,λr3 xs3 h30 h31 hx3=>?_⟩;obtain⟨y,hy,kT⟩:=Kr h30 h31;have F3:=F2.go hx3;have d3:=Oy d2 (.lst xs3);generalize upd H2 p _=H3 at F3 d3;refine⟨l,r3,y,rfl,rfl,Xe (by lia),kT,?_⟩;refine⟨_,_,rfl,?_⟩;refine⟨_,rfl,p,sc,5,rfl,by decide,by decide,F3,λr4 xs4 h40 h41 hx4=>?_⟩;have F4:=F3.go hx4;have d4:=Oy d3 (.lst xs4);generalize upd H3 p _=H4 at F4 d4;obtain⟨many,rfl⟩:∃many:Nat,r4=(many:Int):=⟨r4.toNat,by lia⟩;refine⟨rfl,_,rfl,_,rfl,by lia,by lia,?_⟩
 refine V5 (lo:=0) (k:=(((many:Nat):Int)).toNat) (Drawn H p sc l) (iB (show (((many:Nat):Int)).toNat≤100 by lia) (by decide)) ⟨[],rfl,rfl,λc hc=>absurd hc (by simp),F4,d4⟩ Zbu
  (λi acc H2 hi hp=>U9 (Ba mH (by lia) rfl rfl hp)) (λacc H5 hp q5 hq5=>?_)
 obtain⟨ws,rfl,yM,hwc,F5,d5⟩:=hp;have s6:=Zd hq5 (.lst (ws.map Oe));have F6:=F5.same s6;have d6:=d5.trans (Xt.same s6);refine⟨_,q5,ws.map one,rfl,rfl,SqL.of (by rw[Zc,Ed]),Jn ws (by lia),?_⟩;generalize upd H5 q5 _=H6 at F6 d6;have xN:=join_ones ws;generalize Txt.join (Str.ofString "") (ws.map one)=wd at xN;have yM:ws.length=many:=by lia
 refine⟨_,rfl,l,rfl,Xe (by lia),?_⟩;refine⟨rfl,?_⟩;rw[show decide (V.int (l.length:Int)=V.int 1)=decide (l.length=1) from decide_eq_decide.mpr ⟨λh=>by have:=V.int.inj h;lia,λh=>by rw[h];rfl⟩];have mL:l.length<4:=by lia
 have yN:fx l x<l.length:=(Tw hx).2;have m3:fx l y<l.length:=(Tw hy).2;have hA:=Zo3 _ mL mH _ yN;have hT:=Zo0 (k:=many) mL mH (by lia) (Zl7 hwc) (by rw[rC];exact yM);have hC:=Zo2 _ mL mH many (by lia);have hN:=Zo1 _ mL mH;have hwd:=len_list wd;have fin:∀{H9:Hp}{m:Addr}{es:List Nat}{st:aB}{flag:Bool}{v:V}{wn:Nat},Zm H6 H9→Wj H9 m l 0 es st→chk l.length st es flag wn=true→(flag=true→v=nI wn)→3≤sizeLine∧∀q,H9 q=none→Q (.ref q) (upd H9 q (.lst [.ref m,.bl flag,v])):=λe M hc hv=>⟨by decide,λq hq=>k q _ _ _ _ _ _ _ Zc hv hc (M.keep (Tk.same (Zd hq _))) (d6.trans (Xt.same (e.trans (Zd hq _)))) (F6.same (e.trans (Zd hq _)))⟩;have nW:∀(lies:Bool) {Q':VK},(∀m H7,Zm H6 H7→Wj H7 m l 0 [many] (stT l.length (ws.map (fx l)) lies)→Q' (.ref m) H7)→Hg [.str l,.str wd,.bl lies] H6 Q' E0:=λlies Q' k'=>⟨l,wd,lies,rfl,L,by rw[←hwd,xN];lia,by rw[xN];exact hwc,λm H7 e7 M=>k' m H7 e7 (by rw[←hwd,xN,yM]at M;exact M)⟩;refine⟨_,rfl,rfl,_,rfl,Ur (λ_=>?_) (λ_=>?_)⟩
 ·refine⟨_,rfl,_,rfl,Zdk (here:=0) (v:=1) L hx λrp H7 e7 h7=>⟨(by show 1≤sizeLine;decide),λtp u7=>?_⟩⟩;have s8:=Zd u7 (.tup [V.ref rp]);refine⟨tp,_,2,rfl,rfl,Zc,by simp,by decide,(by show 1*2≤1000;decide),λsp H9 e9 h9=>?_⟩;have h7:=e9 _ _ (s8 _ _ h7);have e69:=(e7.trans s8).trans e9;refine⟨_,rfl,(by show 1≤sizeLine;decide),λea p6=>⟨_,rfl,(by show 4≤sizeLine;decide),λm hm=>⟨_,rfl,?_⟩⟩⟩;have y7:=Zd p6 (.tup [V.int 1]);exact fin ((e69.trans y7).trans (Zd hm _)) (Wj.end_ (es:=[1]) hm Zc (y7 _ _ h9) (Yp.keep (Yp.snoc (Yp.one h7) h7) (Tk.same y7))) hA.1 (λ_=>rfl)
 refine⟨_,rfl,rfl,_,rfl,Ur (λ_=>?_) (λ_=>?_)⟩
 ·refine⟨_,rfl,(by show 1≤sizeLine;decide),λea p6=>⟨_,rfl,_,rfl,Zdk (here:=0) (v:=1) L hx λr1 H8 e8 h8=>⟨_,rfl,_,rfl,Zdk (here:=1) (v:=0) L hx λr2 H9 e9 h9=>⟨(by show 2≤sizeLine;decide),λsp y4=>⟨(by show 4≤sizeLine;decide),λm hm=>?_⟩⟩⟩⟩⟩;have s7:=Zd p6 (.tup [V.int 0]);have y7:=Zd y4 (.tup [V.ref r1,.ref r2]);exact fin ((((s7.trans e8).trans e9).trans y7).trans (Zd hm _)) (Wj.end_ (es:=[0]) hm (y7 _ _ (e9 _ _ (e8 _ _ Zc))) Zc (Yp.keep (Yp.snoc (Yp.one (e9 _ _ h8)) h9) (Tk.same y7))) hA.2.1 nofun
 refine⟨_,rfl,rfl,_,rfl,Ur (λ_=>?_) (λ_=>?_)⟩
 ·refine⟨_,rfl,_,rfl,Zdk (here:=0) (v:=1) L hx λr1 H7 e7 h7=>⟨_,rfl,_,rfl,(by show 2≤sizeLine;decide),λt1 eL=>⟨_,rfl,(by show 2≤sizeLine;decide),λt2 ht2=>⟨(by show 2≤sizeLine;decide),λlp m7=>?_⟩⟩⟩⟩;have s8:=Zd eL (.tup [V.str ⟨#[x]⟩,.int 1]);have s9:=Zd ht2 (.tup [V.str ⟨#[y]⟩,.int 2]);have y7:=Zd m7 (.lst [V.ref t1,.ref t2])
  refine Ti (here:=0) L Zc (leads:=[(x,1),(y,2)]) (.cons (y7 _ _ (s9 _ _ Zc)) (.cons (y7 _ _ Zc) .nil)) (λkv n9=>by rcases rT.mp n9 with z|z;(· rw[z];exact hx);(· rw[rL.mp z];exact hy)) λr2 z4 w8 xB=>?_;refine⟨_,rfl,Zgz (here:=2) L λr3 tG xZ yY=>⟨(by show 3≤sizeLine;decide),λsp y4=>?_⟩⟩;have Zow:=(((s8.trans s9).trans y7).trans w8).trans xZ;have yU:=Zd y4 (.tup [V.ref r1,.ref r2,.ref r3]);have R:=Yp.keep (Yp.snoc (Yp.snoc (Yp.one (Zow _ _ h7)) (xZ _ _ xB)) yY) (Tk.same yU);refine⟨_,rfl,(by show 1≤sizeLine;decide),λea p6=>⟨_,rfl,(by show 4≤sizeLine;decide),λm hm=>?_⟩⟩;have xW:=Zd p6 (.tup [V.int 2]);have M:=Wj.end_ (l:=l) (es:=[2]) hm Zc (xW _ _ Zc) (R.keep (Tk.same xW));have Zmb:=(((e7.trans Zow).trans yU).trans xW).trans (Zd hm (.tup [V.str l,nI 0,.ref ea,.ref sp]));have hB:=hA.2.2.2 _ m3;refine⟨_,rfl,_,rfl,Ur (λc=>?_) (λc=>?_)⟩
  ·rw[c,Bool.true_or]at hB;exact fin Zmb M hB λ_=>rfl
  ·rw[Bool.eq_false_iff.mpr c,Bool.false_or]at hB;refine⟨_,rfl,l,rfl,Xe (by lia),rfl,_,rfl,Ur (λc2=>?_) (λc2=>?_)⟩
   ·have c2:l.length=2:=by have:=V.int.inj (of_decide_eq_true c2);lia
    rw[decide_eq_true c2,Bool.true_and]at hB;refine⟨_,rfl,_,rfl,rfl,?_⟩;have e:decide (fx l x=fx l y)=decide (V.str ⟨#[x]⟩=V.str ⟨#[y]⟩):=decide_eq_decide.mpr ⟨λh=>by rw[Zl6 nd hx hy h],λh=>by rw[one_inj (V.str.inj h)]⟩;rw[e]at hB;exact fin Zmb M hB λ_=>rfl
   ·have c2:¬ l.length=2:=λe=>c2 (by rw[e];exact decide_eq_true rfl);rw[decide_eq_false c2,Bool.false_and]at hB;exact fin Zmb M hB nofun
 refine⟨_,rfl,rfl,_,rfl,Ur (λ_=>?_) (λ_=>?_)⟩
 ·refine⟨_,rfl,_,rfl,Zdk (here:=2) (v:=1) L hx λr1 H7 e7 h7=>⟨_,rfl,Zgz (here:=1) L λr2 H8 e8 h8=>⟨_,rfl,Zgz (here:=2) L λr3 H9 e9 h9=>⟨(by show 3≤sizeLine;decide),λsp y4=>?_⟩⟩⟩⟩;have yU:=Zd y4 (.tup [V.ref r1,.ref r2,.ref r3]);have R:=Yp.keep (Yp.snoc (Yp.snoc (Yp.one (e9 _ _ (e8 _ _ h7))) (e9 _ _ h8)) h9) (Tk.same yU);refine⟨_,rfl,(by show 1≤sizeLine;decide),λea p6=>⟨_,rfl,(by show 4≤sizeLine;decide),λm hm=>⟨_,rfl,?_⟩⟩⟩;have xW:=Zd p6 (.tup [V.int 1]);exact fin (((((e7.trans e8).trans e9).trans yU).trans xW).trans (Zd hm _)) (Wj.end_ (es:=[1]) hm Zc (xW _ _ Zc) (R.keep (Tk.same xW))) hA.2.2.1 (λ_=>rfl)
 refine⟨_,rfl,rfl,_,rfl,Ur (λ_=>ifY rfl ?_) (λ_=>⟨_,rfl,rfl,_,rfl,Ur (λ_=>?_) (λ_=>?_)⟩)⟩
 ·exact⟨_,rfl,_,rfl,nW true λm H7 e7 M=>⟨_,rfl,fin e7 M hT.1 λ_=>rfl⟩⟩
 ·exact⟨_,rfl,_,rfl,nW true λm H7 e7 M=>⟨_,rfl,fin e7 M hT.1 λ_=>rfl⟩⟩
 refine⟨_,rfl,rfl,_,rfl,Ur (λ_=>?_) (λ_=>?_)⟩
 ·exact⟨_,rfl,_,rfl,_,rfl,l,one x,many,rfl,L,by show 1≤3;decide,by lia,λc hc=>by rw[rL.mp hc];exact hx,λm H7 e7 M=>⟨_,rfl,_,_,rfl,rfl,fin e7 M (hC.1 _ yN) λ_=>rfl⟩⟩
 refine⟨_,rfl,rfl,_,rfl,Ur (λ_=>?_) (λ_=>?_)⟩
 ·refine⟨_,rfl,_,rfl,_,rfl,l,l,many,rfl,L,xO,by lia,λc hc=>hc,λm0 H7 e7 M=>?_⟩;rw[Zh6 nd]at M;obtain⟨e,s,ras,g1,g2,g3,g4,g5⟩:=M;refine⟨_,rfl,_,rfl,m0,_,rfl,SqT.of g1,(λh=>absurd h.2 (by show ¬ (2=4);decide)),λa ha=>?_⟩;have s8:=Zd ha (.tup [V.str l,nI 0]);have h8:upd H7 a (.tup [V.str l,nI 0]) a=_:=Zc;refine⟨_,rfl,_,_,rfl,rfl,many+1,rfl,by lia,λrg hrg=>⟨(by show 1≤sizeLine;decide),λb hb=>?_⟩⟩;have s9:=Zd hrg (.tup ((List.range (many+1)).map λi:Nat=>V.int (i:Int)));have y7:=Zd hb (.tup [V.ref rg]);have Znf:=(s8.trans s9).trans y7;refine⟨a,b,_,_,rfl,rfl,SqT.of (y7 _ _ (s9 _ _ h8)),SqT.of Zc,by simp,(by show 3≤sizeLine;decide),nofun,λ_ c hc=>?_⟩;have mR:=Zd hc (.tup [V.str l,nI 0,.ref rg]);refine⟨_,rfl,_,rfl,m0,_,rfl,SqT.of (mR _ _ (Znf _ _ g1)),(λh=>absurd h.1 (by show ¬ (3=0);decide)),λd hd=>?_⟩;have gT:=Zd hd (.tup [V.ref s]);refine⟨c,d,_,_,rfl,rfl,SqT.of (gT _ _ Zc),SqT.of Zc,by simp,(by show 4≤sizeLine;decide),nofun,λ_ m hm=>⟨_,rfl,_,_,rfl,rfl,?_⟩⟩;have yU:=Zd hm (.tup [V.str l,nI 0,.ref rg,.ref s]);have Zjb:=(mR.trans gT).trans yU;have Zma:=Znf.trans Zjb;exact fin (e7.trans Zma) ⟨rg,s,ras,Zc,Zjb _ _ (y7 _ _ Zc),Zma _ _ g3,g4,λi a r q1 q2=>Zma _ _ (g5 i a r q1 q2)⟩ hC.2 λ_=>rfl
 refine⟨_,rfl,rfl,_,rfl,Ur (λ_=>?_) (λ_=>?_)⟩
 ·exact⟨_,rfl,_,rfl,nW false λm H7 e7 M=>⟨_,rfl,_,_,rfl,rfl,fin e7 M hT.2 λ_=>rfl⟩⟩
 refine⟨_,rfl,(by show 0≤sizeLine;decide),λt0 ht0=>⟨(by show 1≤sizeLine;decide),λt1 eL=>⟨(by show 2≤sizeLine;decide),λlp m7=>?_⟩⟩⟩;have s7:=Zd ht0 (.tup []);have s8:=Zd eL (.tup [V.int 0]);have s9:=Zd m7 (.lst [V.ref t0,.ref t1]);have h0:=s9 _ _ (s8 _ _ (Zc (H:=H6) (a:=t0) (o:=.tup [])));have h1:=s9 _ _ (Zc (H:=upd H6 t0 (.tup [])) (a:=t1) (o:=.tup [V.int 0]));have e9:=(s7.trans s8).trans s9;have h9:upd (upd (upd H6 t0 (.tup [])) t1 (.tup [V.int 0])) lp (.lst [V.ref t0,.ref t1]) lp=some (.lst [V.ref t0,.ref t1]):=Zc;generalize upd (upd (upd H6 t0 (.tup [])) t1 (.tup [V.int 0])) lp (.lst [V.ref t0,.ref t1])=H9 at s9 h0 h1 e9 h9
 obtain⟨ta,es,n6,hta,o8⟩:∃(ta:Addr) (es:List Nat),atI [V.ref t0,.ref t1] (((many:Nat):Int)%2)=some (.ref ta)∧H9 ta=some (.tup (es.map nI))∧chk l.length [Wt l.length 0 []] es true 0=true:=by
  rcases(by lia:((many:Nat):Int)%2=0∨((many:Nat):Int)%2=1) with z|z
  ·rw[z];exact⟨t0,[],rfl,h0,hN.1⟩
  ·rw[z];exact⟨t1,[0],rfl,h1,hN.2⟩
 refine⟨_,rfl,_,_,rfl,rfl,by decide,lp,_,_,_,rfl,rfl,SqL.of h9,n6,_,rfl,Zgz (here:=0) L λr1 n4 m8 xA=>⟨(by show 1≤sizeLine;decide),λsp y4=>⟨(by show 4≤sizeLine;decide),λm hm=>?_⟩⟩⟩;have mR:=Zd y4 (.tup [V.ref r1]);exact fin (((e9.trans m8).trans mR).trans (Zd hm _)) (Wj.end_ hm (mR _ _ (m8 _ _ hta)) Zc (Yp.keep (Yp.one xA) (Tk.same mR))) o8 λ_=>rfl
structure Ask(H:Hp)(t:Addr)(m:Addr)(flag:Bool)(v:V)(l:Str)(b:Nat)(es:List Nat)(st:aB)(es0:List Nat)(st0:aB)(wn:Nat):Prop where
 tup:H t=some (.tup [.ref m,.bl flag,v])
 lay:Wj H m l b es st
 ok:MOk l b es st
 l0:0<l.length
 pw:l.cps.toList.Pairwise (·<·)
 fam:chk l.length st0 es0 flag wn=true
 tng:∀cs,(∀c∈cs,c<l.length)→(Wb st b cs∈es↔Wb st0 0 cs∈es0)
 val:v=bif flag then nI wn else .non
def Ky(H:Hp)(y:V):Prop:=∃t m flag v l b es st es0 st0 wn,y=.ref t∧Ask H t m flag v l b es st es0 st0 wn
theorem Ky.keep{H H':Hp}{y:V}(h:Ky H y)(e:Tk H H'):Ky H' y:=by
 obtain⟨t,m,flag,v,l,b,es,st,es0,st0,wn,rfl,A⟩:=h;exact⟨t,m,flag,v,l,b,es,st,es0,st0,wn,rfl,e _ _ A.tup,A.lay.keep e,A.ok,A.l0,A.pw,A.fam,A.tng,A.val⟩
theorem Ask.Zhn{t:Addr}{l:Str}(A:Ask H t m flag v l b es st es0 st0 wn):Zz H m l b es st:=⟨A.lay,⟨A.l0,A.ok.l3,by have:=A.ok.st6;lia⟩,A.ok.beg,A.ok.Uo⟩
theorem Ask.Znx{t:Addr}{l:Str}(A:Ask H t m flag v l b es st es0 st0 wn)(D:LM l (λcs=>Wb st b cs∈es) stD esD){pv:V}(hp:Pap l stD H2 pv):
  ∃a kd rest,pv=.ref a∧H2 a=some (.tup (.str kd :: rest))∧decide (V.str kd=V.str "spread")=flag:=by
 have hc:=A.fam;have gS:=A.ok.l3;have pw:=A.pw;have tng:=A.tng;clear A;cases flag
 ·rcases hp with ⟨a,r,c,z,rfl,ha,_⟩|⟨hf,⟨a,kf,t,rfl,ha,_⟩|S⟩
  ·exact⟨a,_,_,rfl,ha,decide_eq_false λe=>absurd (V.str.inj e) (by decide)⟩
  ·exact⟨a,_,_,rfl,ha,decide_eq_false λe=>absurd (V.str.inj e) (by decide)⟩
  ·exact(Zfr hc gS pw D tng hf S).elim
 ·obtain⟨n1,n2,_⟩:=Zak hc gS pw D tng
  rcases hp with R|⟨hf,S|⟨a,ra,ma,rk,ys,rows,rfl,ha,_⟩⟩
  ·exact absurd R (n1 _ _)
  ·exact absurd S (n2 _ _)
  ·exact⟨a,_,_,rfl,ha,decide_eq_true rfl⟩
theorem Ask.way{t:Addr}{l:Str}(A:Ask H t m flag v l b es st es0 st0 wn)(D:LM l (λcs=>Wb st b cs∈es) stD esD){u:V}
  (hw:(u=.non∧∃v',Iy l stD H2 v'∨(O3 l stD∧ApV l stD H2 v'))∨∃rk r v' H1,u=nI r∧O3 l stD∧SpV l stD H1 v'∧RkI stD 0 stD.length rk∧r∈rk∧(∀x∈rk,x≤r)):∃d:Dt,d.dep<1∧∀H3,Den H3 u d∧Den H3 v d:=by
 have hc:=A.fam;have gS:=A.ok.l3;have pw:=A.pw;have tng:=A.tng;have hv:=A.val;clear A;subst hv;cases flag
 ·rcases hw with ⟨rfl,_⟩|⟨rk,r,v',H1,rfl,hf,S,_⟩
  ·exact⟨.non,by simp[Dt.dep],λH3=>⟨.non,.non⟩⟩
  ·exact(Zfr hc gS pw D tng hf S).elim
 ·obtain⟨n1,n2,n3⟩:=Zak hc gS pw D tng
  rcases hw with ⟨_,v',R|⟨_,S⟩⟩|⟨rk,r,v',H1,rfl,_,_,R,hr,hg⟩
  ·exact absurd R (n1 _ _)
  ·exact absurd S (n2 _ _)
  ·rw[n3 rk r R hr hg];exact⟨.int wn,by simp[Dt.dep],λH3=>⟨.int _,.int _⟩⟩
def lwA(ts:aH)(a p q sc:Addr)(i:Nat)(σ:L2.St)(Hj:Hp):Prop:=∃(ys:List V) (v3 v4 v5 v6:Option V),σ=[some (.ref a),some (.ref p),some (.ref q),v3,v4,v5,v6,none]∧Hj q=some (.lst ys)∧ys.length=i∧Yw Hj p sc∧Cz ts Hj∧∀y∈ys,Ky Hj y
def lwB(ts:aH)(a p q:Addr)(H5:Hp)(_:Nat)(σ:L2.St)(Hj:Hp):Prop:=∃v3 v4 v5 v6 v7,σ=[some (.ref a),some (.ref p),some (.ref q),v3,v4,v5,v6,v7]∧Kept H5 Hj∧Cz ts Hj
inductive Ab(K:W.Frag)(tabs:ZW)(vs:List V)(H:Hp)(Q:VK):Prop
 |mk(a:Addr)(ns:List Int)(h1:vs=[.ref a])(h2:SqL K H a (ns.map V.int))(h3:ns.length≤63)(h4:(∀q∈tabs,H q.2=some (.tbl #[])))(h5:∀H',Q (.bl true) H'):Ab K tabs vs H Q
def Hl(K:W.Frag)(tabs:ZW):Sp:=λvs H Q _=>Ab K tabs vs H Q
theorem Zlg{cl cx Pl Px Pw:Addr}(nn:([(Pl,Yh),(Px,O5),(Pw,O6)].map (·.1)).Nodup)(F:Fun K "law" "law" P4 f fd)(Z:Blt mg)(Pm:Cal P w K mg base "_law_flow" 1 ZV (Zc7 K))(Yd:Cal P w K mg base "_law_pick" 1 aS O9)(Ut:Cal P w K mg base "_law_letters" 2 aS J2)(Sk:Cal P w K mg base "_law_family" 3 YF Zi6)(Wx:Cal P w K mg base "_law_renumbered" 2 YI Zi0)(Vj:Cal P w K mg base "_law_alike" 1 aR (Tf 1))
  (We:Cal P w K mg base "paper_of" 7 aX (Hh [(Pl,Yh),(Px,O5),(Pw,O6)])) (Vd:Cal P w K mg base "paper_holds" 6 YO (Zc1 [(Pl,Yh),(Px,O5),(Pw,O6)])) (Ve:Cal P w K mg base "longest_way" 8 aX (Znb [(Pl,Yh),(Px,O5),(Pw,O6)])):Yc P w K mg base CX0 9 f fd ZV (Hl K [(cl,Pl),(cx,Px),(cw,Pw)]):=by
 refine F.ok Vw (λvs H Q E h=>?_) (λcdv A outer s H vs Q E hr h=>?_)
 ·obtain⟨a,ns,rfl,_⟩:=h;rfl
 obtain⟨a,ns,rfl,hS,h63,zK,k⟩:=h
 have T0:∀H1,Zm H H1→Cz [(Pl,Yh),(Px,O5),(Pw,O6)] H1:=λH1 e=>⟨λq hq=>by
  simp only[rT,fB,or_false]at hq
  rcases hq with rfl|rfl|rfl
  ·exact Tb.start (e _ _ (zK (cl,_) (by simp)))
  ·exact Tb.start (e _ _ (zK (cx,_) (by simp)))
  ·exact Tb.start (e _ _ (zK (cw,_) (by simp))),nn⟩
 generalize [(Pl,Yh),(Px,O5),(Pw,O6)]=ts at nn We Vd Ve T0
 refine⟨_,(Ze (Zn (i:=1) Vw.nd (by rfl) (Or.inl (by rfl)) (Z5 Pm (hr.mono (by decide)) (Za (pv 0) Zb))) 
   (Ze (Zn (i:=2) Vw.nd (by rfl) (Or.inl (by rfl)) (Zx Zb)) 
   (Ze (Y5 pP (by rfl) (Xz (by rfl) Z.range (Za Zf Zb)) (Zo (i:=3) Vw.nd (by rfl) (Or.inl (by rfl))) 
    (Ze (Tn (Z5 Sk (hr.mono (by decide)) (Za (pv 1) (Za (Z5 Ut (hr.mono (by decide)) (Za (pv 1) (Za (Zr (Z2 (K:=K)) (Zx (Za Zf (Za Zf (Za Zf (Za Zf (Za Zf Zb)))))) (Z5 Yd (hr.mono (by decide)) (Za (pv 1) (Za Zf Zb))) (λ_ _=>rfl)) Zb))) Zb))) (Zla (K:=K) (n:=3) (by rfl) (Yb (Zo (i:=4) Vw.nd (by rfl) (Or.inl (by rfl))) (Yb (Zo (i:=5) Vw.nd (by rfl) (Or.inl (by rfl))) (Yb (Zo (i:=6) Vw.nd (by rfl) (Or.inl (by rfl))) Vb))))) 
    (Zg (W8 (Wd (K:=K) oF lK lL Wg (pv 2) (Za (Zw (Za (Z5 Wx (hr.mono (by decide)) (Za (pv 1) (Za (pv 4) Zb))) (Za (pv 5) (Za (Zr (Z2 (K:=K)) (Zx (Za V0 (Za (pv 6) Zb))) (Z4 Iq (by rfl) Z.int Zgc (Za (pv 5) Zb)) (λ_ _=>rfl)) Zb)))) Zb)))))) 
   (Ze (Y5 pP (by rfl) (U1 (K:=K) (Z3 Hx (pv 2) (U2 (Zdb (K:=K)) (pv 2) R0 (Rz Zf)))) (Vo (K:=K) (n:=3) (by rfl) (Yb (Zo (i:=4) Vw.nd (by rfl) (Or.inl (by rfl))) (Yb (Zo (i:=5) Vw.nd (by rfl) (Or.inl (by rfl))) (Yb (Zo (i:=6) Vw.nd (by rfl) (Or.inl (by rfl))) Vb)))) 
    (Ze (Zn (i:=7) Vw.nd (by rfl) (Or.inl (by rfl)) (Z5 We (hr.mono (by decide)) (Za (pv 4) Zb))) 
    (Ze (Ys (PW.pt (F0 (Z6 Ss (Yr X2 (Zr (Zp (K:=K)) (pv 7) Zf (λ_ _=>rfl)) Wr (Zy _)) (pv 5) (Zy _)) (Lq (Z6 Zhh (Z5 Vd (hr.mono (by decide)) (Za (pv 4) (Za (pv 7) Zb))) Xw (Zy _))))) 
     (Zg (Zq Xw)) Z1) 
    (Zg (Ys (S8 (Yn (K:=K) (Z5 Vj (hr.mono (by decide)) (Za (Z5 Ve (hr.mono (by decide)) (Za (pv 4) Zb)) (Za (pv 6) Zb))) (λ_=>rfl))) 
     (Zg (Zq Xw)) Z1))))) 
   (Zg (Zq Xw)))))),?_⟩
 refine(let x6:TS:=_;let x8:TS:=_;let y6:TS:=Zs _ x8;let g0:TS:=Zs _ y6;let w6:TS:=Zs (O7 _ _ g0) x6;let p9:TS:=_;let d0:TS:=Zs _ p9;let c0:TS:=Zs (O7 _ _ d0) w6;let l5:TS:=Zs _ c0;(?_:Zs _ l5 _ _ _));refine⟨_,rfl,a,ns,rfl,hS,λp sc H1 hp e1 FA=>?_⟩;have T1:=T0 H1 e1;refine⟨(by show 0≤sizeLine;decide),λq hq=>?_⟩;have s2:=Zd hq (.lst []);have h2:upd H1 q (.lst []) q=_:=Zc;have T2:=T1.same s2
 have qZ:p≠q:=by
  obtain⟨xs,h1,_⟩:=FA.here;exact Zi h1 hq
 have nsq:sc≠q:=by
  obtain⟨ns,h1⟩:=FA.cells;exact Zi h1 hq
 have F2:=FA.same s2;generalize upd H1 q _=H2 at s2 h2 T2 F2;refine⟨2,rfl,by decide,by decide,?_⟩;refine U8 (lo:=0) (n:=(2:Int).toNat) (lwA ts a p q sc) ⟨[],none,none,none,none,rfl,h2,rfl,F2,T2,nofun⟩ ?_ ?_
 ·rintro i σ H3 hi ⟨ys,v3,v4,v5,v6,rfl,h3,m3,F3,T3,hA⟩;refine⟨_,rfl,_,rfl,(by show 5≤sizeLine;decide),λlq gC=>?_⟩;generalize eZ:upd H3 lq _=H4;have s4:=nS7 eZ gC;have h4:=nU7 eZ;have uM:=s4 _ _ h3;have F4:=F3.same s4;have T4:=T3.same s4;have A4:∀y∈ys,Ky _ y:=λy hy=>(hA y hy).keep (Tk.same s4)
  have nlp:lq≠p:=by
   obtain⟨xs,h1,_⟩:=F3.here;exact(Zi h1 gC).symm
  refine⟨_,rfl,p,sc,5,rfl,by decide,by decide,F4,λr5 xs5 h50 h51 hx5=>?_⟩;have d5:Xt H4 (upd H4 p (.lst xs5)) p:=Xt.upd _;have F5:=F4.go hx5;have T5:=T4.drew F4 d5;have z6:=d5 _ _ h4 nlp
  obtain⟨n,hn,n0,n3⟩:∃n:Int,atI [V.int 1,.int 2,.int 2,.int 2,.int 3] r5=some (.int n)∧1≤n∧n≤3:=by
   rcases(by lia:r5=0∨r5=1∨r5=2∨r5=3∨r5=4) with rfl|rfl|rfl|rfl|rfl
   ·exact⟨1,rfl,by decide,by decide⟩
   ·exact⟨2,rfl,by decide,by decide⟩
   ·exact⟨2,rfl,by decide,by decide⟩
   ·exact⟨2,rfl,by decide,by decide⟩
   ·exact⟨3,rfl,by decide,by decide⟩
  generalize upd H4 p _=H5 at d5 F5 T5 z6;refine⟨lq,_,_,_,rfl,rfl,SqL.of z6,hn,p,sc,n,rfl,by lia,by lia,F5,λl H6 hL d6 F6=>?_⟩;have T6:=T5.drew F5 d6;have ll:=len_list l;have hl:0<l.length∧l.length≤3:=by rw[←ll,hL.1];lia
  refine⟨p,sc,l,rfl,hl.1,hl.2,hL.2.1,F6,λfq m v es st flag wn H7 h7 hv hc M d7 F7=>?_⟩;have O:=Zf8 hc hl.2;have T7:=T6.drew F6 d7;have wA:Xt H4 H7 p:=(d5.trans d6).trans d7;have k47:=Tk.drew F4 wA;refine⟨fq,_,rfl,SqL.of h7,rfl,_,_,rfl,_,_,rfl,_,_,rfl,rfl,?_⟩;refine⟨_,rfl,.inl ⟨rfl,_,SqL.of (wA _ _ uM qZ.symm)⟩,_,rfl,_,rfl,p,sc,m,l,0,es,st,rfl,M,O,F7,λm' zs es' H8 Vh v0 M' d8 F8=>?_⟩;have T8:=T7.drew F7 d8;obtain⟨O',hw⟩:=Zky O Vh v0
  have n6:atI [V.non,v] (if flag=true then 1 else 0)=some (bif flag then nI wn else .non):=by
   cases flag
   ·rfl
   ·rw[hv rfl];rfl
  refine⟨_,rfl,_,rfl,(by show 2≤sizeLine;decide),λl2 i3=>⟨_,rfl,.inr ⟨flag,rfl,l2,_,_,_,rfl,rfl,SqL.of Zc,n6,(by show 3≤sizeLine;decide),λt ht=>?_⟩⟩⟩;have s9:=Zd i3 (.lst [V.non,v]);have y7:=Zd ht (.tup [V.ref m',.bl flag,bif flag then nI wn else .non]);have m8:=s9.trans y7;have Zfl:=m8 _ _ ((wA.trans d8) _ _ uM qZ.symm);have Pd:Ask _ t m' flag _ l _ es' _ es st wn:=⟨Zc,M'.keep (Tk.same m8),O',hl.1,hL.2.1,hc,hw,rfl⟩;have F10:=F8.same m8;have T10:=T8.same m8;have Zn5:=(k47.trans (Tk.drew F7 d8)).trans (Tk.same m8);generalize upd (upd H8 l2 (.lst [V.non,v])) t (.tup [V.ref m',.bl flag,bif flag then nI wn else .non])=n4 at m8 Zfl Pd F10 T10 Zn5;refine⟨q,_,_,rfl,rfl,Zfl,Z0 (by lia),?_⟩;refine⟨_,_,_,_,_,rfl,Zc,by rw[rS,m3];rfl,Ki F10 qZ nsq,T10.put Zfl _,λy hy=>?_⟩
  ·rcases oB.mp hy with z|z
   ·exact(A4 y z).keep (Zn5.trans (Tk.lst Zfl _))
   ·rw[rL.mp z];exact Ky.keep ⟨t,m',flag,_,l,_,es',_,es,st,wn,rfl,Pd⟩ (Tk.lst Zfl _)
 ·rintro σ H3 ⟨ys,v3,v4,v5,v6,rfl,h3,m3,F3,T3,hA⟩;have m3:ys.length=2:=m3;refine⟨_,rfl,_,rfl,_,rfl,q,_,rfl,SqL.of h3,λsq hsq=>?_⟩;have s4:=Zd hsq (.lst (Tx ys none (some 1)));have m6:=Rp ys none (some 1);refine⟨q,sq,_,_,rfl,rfl,s4 _ _ h3,Zc,Xe (by lia),λcq hcq=>⟨cq,rfl,⟨_,SqL.of Zc⟩,?_⟩⟩;have s5:=Zd hcq (.lst (ys++Tx ys none (some 1)));have e5:=s4.trans s5;have T5:=T3.same e5;have wZ:∀y∈ys++Tx ys none (some 1),Ky _ y:=λy hy=>(hA y ((oB.mp hy).elim id λz=>List.mem_of_mem_drop (fR z))).keep (Tk.same e5);have h5:upd (upd H3 sq (.lst (Tx ys none (some 1)))) cq (.lst (ys++Tx ys none (some 1))) cq=some (.lst (ys++Tx ys none (some 1))):=Zc;generalize upd (upd H3 sq (.lst (Tx ys none (some 1)))) cq (.lst (ys++Tx ys none (some 1)))=H5 at s5 e5 T5 wZ h5;generalize ys++Tx ys none (some 1)=zs at wZ h5;refine Rl (K:=K) (a:=cq) (xs:=zs) (lwB ts a p q H5) ⟨_,_,_,_,_,rfl,Zm.kept (Zm.refl _),T5⟩ (λi σ Hj _ ⟨_,_,_,_,_,_,kj,_⟩=>SqL.of (kj.l h5)) ?_ ?_
  ·rintro i x σ H6 hx ⟨v3,v4,v5,v6,v7,rfl,k6,T6⟩;obtain⟨t,m,flag,v,l,b,es,st,es0,st0,wn,rfl,A⟩:=(wZ x (rN hx)).keep k6.t;have M6:=A.Zhn;have v0:es.length≤100:=by have:=A.ok.es6;lia
   have j3:=A.ok.st6;have M_:∀{Hj:Hp},Kept H6 Hj→Zz Hj m l b es st:=λkj=>⟨A.lay.keep kj.t,M6.few,M6.beg,M6.rows⟩;refine⟨t,_,rfl,SqT.of A.tup,rfl,_,_,rfl,_,_,rfl,_,_,rfl,rfl,?_⟩;refine⟨_,rfl,m,l,b,es,st,rfl,M6,v0,j3,A.pw,T6,λpv H7 stD esD k7 T7 D xS hp=>?_⟩;obtain⟨pa,kd,rest,rfl,ha,hk⟩:=A.Znx D hp;refine⟨_,rfl,pa,_,_,_,rfl,rfl,SqT.of ha,Zj (j:=0) rfl,rfl,_,rfl,rfl,_,rfl,ifN (by rw[hk,decide_eq_true rfl];rfl) ?_⟩;refine⟨_,rfl,_,rfl,m,_,l,b,es,st,stD,esD,rfl,M_ k7,v0,j3,A.pw,T7,D,hp,λH8 k8 T8=>⟨_,_,rfl,rfl,_,rfl,ifN rfl ?_⟩⟩;have k68:=k7.trans k8;refine⟨_,rfl,m,l,b,es,st,rfl,M_ k68,v0,j3,A.pw,T8,λu H9 stD2 esD2 k9 T9 D2 _ hw=>?_⟩;obtain⟨d,hd,Zoi⟩:=A.way D2 hw;refine⟨_,rfl,u,v,d,rfl,hd,(Zoi _).1,(Zoi _).2,λn4 m8=>?_⟩;refine⟨_,rfl,ifN rfl ?_⟩;exact⟨_,_,_,_,_,rfl,k6.trans ((k68.trans k9).trans (Zm.kept m8)),T9.same m8⟩
  ·rintro σ H6 ⟨v3,v4,v5,v6,v7,rfl,k6,T6⟩;exact k _
end
structure Dn(K:W.Frag)(x:Str)(st:Stmt)(f:Addr)(fd:FuncData):Prop where
 a:W.nsIn K mainGlobals x=some (some (.ref f))
 F:Fun K x x st f fd
theorem all_mk{l:W.OpenLaw}{w:World}{h:Heap}{mg:aG}{fa:Addr}(X:K.In h)(G:h.Ns mainGlobals mg)(eB:mg "law"=some (.ref fa)){qp:Program}(TT:Bs qp K h)
  {f1:Addr}{g1:FuncData} (a1:Dn K "room_behind" Uj f1 g1)
  {f2:Addr}{g2:FuncData} (a2:Dn K "forks" Mp f2 g2)
  {f3:Addr}{g3:FuncData} (a3:Dn K "pair_behind" Ul f3 g3)
  {f4:Addr}{g4:FuncData} (a4:Dn K "walked" P0 f4 g4)
  {f5:Addr}{g5:FuncData} (a5:Dn K "machine_from" Xv f5 g5)
  {f6:Addr}{g6:FuncData} (a6:Dn K "first_like" Wq f6 g6)
  {f7:Addr}{g7:FuncData} (a7:Dn K "like_rooms" Wo f7 g7)
  {f8:Addr}{od8 an8:ZA}{sl8:aP}{oc8 kV8 dc8 pm8 vX ct8:Value}
  (a8:W.nsIn K mainGlobals "least"=some (some (.ref f8))) (l8:K.lookup f8=some ⟨oc8,od8,.func (W.fnOf "least" "least" (Vc W0) (X9 W0) (Zh W0) .none kV8 dc8 pm8 an8 vX ct8),sl8⟩) (c8:W.codeIn K vX "least"=true) (k8:W.keepIn K (.ref f8)=true)
  {f9:Addr}{od9 an9:ZA}{sl9:aP}{oc9 kV9 dc9 pm9 vY ct9:Value}
  (a9:W.nsIn K mainGlobals "texts_from"=some (some (.ref f9))) (l9:K.lookup f9=some ⟨oc9,od9,.func (W.fnOf "texts_from" "texts_from" (Vc Xb) (X9 Xb) (Zh Xb) .none kV9 dc9 pm9 an9 vY ct9),sl9⟩) (c9:W.codeIn K vY "texts_from"=true) (k9:W.keepIn K (.ref f9)=true)
  {f10:Addr}{g10:FuncData} (tH:Dn K "ring_at" Nb f10 g10)
  {f11:Addr}{g11:FuncData} (tI:Dn K "ring_in" Na f11 g11)
  {f12:Addr}{g12:FuncData} (tJ:Dn K "ranks_of" Th f12 g12)
  {wH:Addr}{nF vT:ZA}{nQ:aP}{nB qP wB nK Zmg vZ:Value}
  (tK:W.nsIn K mainGlobals "fork_words"=some (some (.ref wH))) (gJ:K.lookup wH=some ⟨nB,nF,.func (W.fnOf "fork_words" "fork_words" (Vc Xc) (X9 Xc) (Zh Xc) .none qP wB nK vT Zmg vZ),nQ⟩) (vV:W.codeIn K Zmg "fork_words"=true) (qN:W.keepIn K (.ref wH)=true)
  {f14:Addr}{g14:FuncData} (tL:Dn K "meeting_word" Vx f14 g14)
  {f15:Addr}{g15:FuncData} (tM:Dn K "staying_word" Wn f15 g15)
  {f16:Addr}{g16:FuncData} (tN:Dn K "paper_of" Q6 f16 g16)
  {f17:Addr}{g17:FuncData} (tO:Dn K "longest_way" Um f17 g17)
  {f18:Addr}{g18:FuncData} (tP:Dn K "is_there" Q9 f18 g18)
  {f19:Addr}{g19:FuncData} (mX:Dn K "of_letters" Xy f19 g19)
  {f20:Addr}{g20:FuncData} (tQ:Dn K "is_fork" Nc f20 g20)
  {f21:Addr}{g21:FuncData} (tR:Dn K "ranks_rise" Vm f21 g21)
  {f22:Addr}{g22:FuncData} (tS:Dn K "row_holds" S7 f22 g22)
  {f23:Addr}{g23:FuncData} (tT:Dn K "spread_holds" Xl f23 g23)
  {f24:Addr}{g24:FuncData} (tU:Dn K "ring_holds" Tg f24 g24)
  {f25:Addr}{g25:FuncData} (tV:Dn K "apart_stays" W5 f25 g25)
  {f26:Addr}{g26:FuncData} (tW:Dn K "paper_holds" Uk f26 g26)
  {f27:Addr}{g27:FuncData} (tX:Dn K "_law_flow" Q8 f27 g27)
  {f28:Addr}{g28:FuncData} (tY:Dn K "_law_pick" Q7 f28 g28)
  {f29:Addr}{g29:FuncData} (yX:Dn K "_law_alike" Vg f29 g29)
  {f30:Addr}{g30:FuncData} (tZ:Dn K "_law_letters" W3 f30 g30)
  {f31:Addr}{g31:FuncData} (uA:Dn K "_law_row" Ry f31 g31)
  {f32:Addr}{g32:FuncData} (uB:Dn K "_law_text_machine" Wc f32 g32)
  {f33:Addr}{g33:FuncData} (uC:Dn K "_law_counted" W4 f33 g33)
  {f34:Addr}{g34:FuncData} (uD:Dn K "_law_family" Vn f34 g34)
  {f35:Addr}{g35:FuncData} (uE:Dn K "_law_renumbered" Yz f35 g35)
  {wI:Addr}{nG Zo5:ZA}{nR:aP}{nE Zn4 Zoy Znu Zmf Zoz:Value}
  (uF:W.nsIn K mainGlobals "law"=some (some (.ref wI))) (qV:K.lookup wI=some ⟨nE,nG,.func (W.fnOf "law" "law" (Vc P4) (X9 P4) (Zh P4) .none Zn4 Zoy Znu Zo5 Zmf Zoz),nR⟩) (vW:W.codeIn K Zmf "law"=true) (qO:W.keepIn K (.ref wI)=true)
  (z_all:W.nsIn K mainGlobals "all"=some none)
  (z_bool:W.nsIn K mainGlobals "bool"=some none)
  (z_dict:W.nsIn K mainGlobals "dict"=some none)
  (z_enumerate:W.nsIn K mainGlobals "enumerate"=some none)
  (z_int:W.nsIn K mainGlobals "int"=some none)
  (z_isinstance:W.nsIn K mainGlobals "isinstance"=some none)
  (z_len:W.nsIn K mainGlobals "len"=some none)
  (z_list:W.nsIn K mainGlobals "list"=some none)
  (z_max:W.nsIn K mainGlobals "max"=some none)
  (z_min:W.nsIn K mainGlobals "min"=some none)
  (z_range:W.nsIn K mainGlobals "range"=some none)
  (z_set:W.nsIn K mainGlobals "set"=some none)
  (z_sorted:W.nsIn K mainGlobals "sorted"=some none)
  (z_tuple:W.nsIn K mainGlobals "tuple"=some none)
  (n0:W.noTabs K=true)
  {G0 Vr:Addr}{Zic:DefRec}{Zel:Value}{Zek:ZA}{Zdc:aP}{Fc:aO} (y_least:vX=.ref G0) (v_least:K.lookup G0=some ⟨Zel,Zek,.fields Fc,Zdc⟩) (u_least:Fc[11]?=some (.ref Vr)) (w_least:(recsOf qp).find? (λe=>e.name==Str.ofString "least")=some Zic)
  {Tz Xf:Addr}{Gw:DefRec}{Ji:Value}{Jg:ZA}{K4:aP}{Qo:aO} (y_texts_from:vY=.ref Tz) (v_texts_from:K.lookup Tz=some ⟨Ji,Jg,.fields Qo,K4⟩) (u_texts_from:Qo[11]?=some (.ref Xf)) (w_texts_from:(recsOf qp).find? (λe=>e.name==Str.ofString "texts_from")=some Gw)
  {Sa Xg:Addr}{Gx:DefRec}{Jj:Value}{Jh:ZA}{K5:aP}{Qp:aO} (y_fork_words:Zmg=.ref Sa) (v_fork_words:K.lookup Sa=some ⟨Jj,Jh,.fields Qp,K5⟩) (u_fork_words:Qp[11]?=some (.ref Xg)) (w_fork_words:(recsOf qp).find? (λe=>e.name==Str.ofString "fork_words")=some Gx)
  (x_least_texts_from:Vr≠Xf)
  (x_least_fork_words:Vr≠Xg)
  (x_texts_from_fork_words:Xf≠Xg)
  : W.noTabs K=true∧∃(fd:FuncData) (tabs:ZW),W.TabsAt tabs h∧(∀(s:Shared) (v:Value),BindsTo s fd ⟨[v],[]⟩ [("_law_script",v)])∧∀base:Heap,K.In base→base.Ns mainGlobals mg→Qn mg base→Yc l.prog w K mg base CX0 9 fa fd ZV (Hl K tabs):=by
 have e:=eB.symm.trans (bK X G uF);cases e;have G9:=fun_mk (st:=W0) l8 c8 k8
 have Zig:=G9.binds (ps:=aX) λ_ _ _ _ _ _ us hl=>match us,hl with|[_],_=>rfl
 have A0:=bK X G a8;have Se:=fun_mk (st:=Xb) l9 c9 k9
 have G1:=Se.binds (ps:=ZC) λ_ _ _ _ _ _ us hl=>match us,hl with|[_,_],_=>rfl
 have Ot:=bK X G a9;have Sf:=fun_mk (st:=Xc) gJ vV qN
 have G2:=Sf.binds (ps:=["machine","fork"]) λ_ _ _ _ _ _ us hl=>match us,hl with|[_,_],_=>rfl
 have Ou:=bK X G tK;have Et:=bK X G yX.a
 have Di:=yX.F.binds (ps:=aR) λ_ _ _ _ _ _ us hl=>match us,hl with|[_,_],_=>rfl
 have Zj7:=fun_mk (st:=P4) qV vW qO
 have b_law:=Zj7.binds (ps:=ZV) λ_ _ _ _ _ _ us hl=>match us,hl with|[_],_=>rfl
 have m_law:=bK X G uF;have Z:Blt mg:=⟨lR X G z_all,lR X G z_bool,lR X G z_dict,lR X G z_enumerate,lR X G z_int,lR X G z_isinstance,lR X G z_len,lR X G z_list,lR X G z_max,lR X G z_min,lR X G z_range,lR X G z_set,lR X G z_sorted,lR X G z_tuple⟩;have Bz:=Ld a8 l8 y_least v_least u_least;have Dj:=TT _ _ _ _ w_least Bz;have Pp:=Ld a9 l9 y_texts_from v_texts_from u_texts_from;have Qu:=TT _ _ _ _ w_texts_from Pp;have Pq:=Ld tK gJ y_fork_words v_fork_words u_fork_words;have Qw:=TT _ _ _ _ w_fork_words Pq;refine⟨n0,W.fnOf "law" "law" (Vc P4) (X9 P4) (Zh P4) .none Zn4 Zoy Znu Zo5 Zmf Zoz,[(G0,Vr),(Tz,Xf),(Sa,Xg)],?_,λs v=>.of_eq rfl,λbase BX BG BM=>?_⟩
 ·exact bH.mpr ⟨Dj,bH.mpr ⟨Qu,bH.mpr ⟨Qw,λ_ h=>nomatch h⟩⟩⟩
 have Zgk:=Gn Dj.1 X BX v_least;have Zh4:=W.law_code X G Bz A0 (X _ _ l8) rfl;have Js:=Gn Qu.1 X BX v_texts_from;have Gp:=W.law_code X G Pp Ot (X _ _ l9) rfl;have Jt:=Gn Qw.1 X BX v_fork_words;have Gq:=W.law_code X G Pq Ou (X _ _ gJ) rfl;have y9:∀(base:Heap) {x:Str}{st:Stmt}{f:Addr}{fd:FuncData}{n:Nat}{ps:List Str}{sp:Sp},Dn K x st f fd→Yc l.prog w K mg base CX0 n f fd ps sp→(∀(kV doc pm:Value) (an:ZA) (cdv ct:Value) (us:aJ),us.length=ps.length→bindArgs (W.fnOf x x (Vc st) (X9 st) (Zh st) .none kV doc pm an cdv ct) ⟨us,[]⟩=pure (ps.zip us))→Cal l.prog w K mg base x n ps sp:=by intro _ _ _ _ _ _ _ _ D h b;exact⟨_,_,h,bK X G D.a,D.F.kp,D.F.binds b⟩
 have Yd:=y9 base tY (Eg tY.F Z) (λ_ _ _ _ _ _ us hl=>match us,hl with|[_,_],_=>rfl)
 have Pm:=y9 base tX (Eh tX.F Z) (λ_ _ _ _ _ _ us hl=>match us,hl with|[_],_=>rfl)
 have Ut:=y9 base tZ (L3 tZ.F Z Yd) (λ_ _ _ _ _ _ us hl=>match us,hl with|[_,_],_=>rfl)
 have Vj:=y9 base yX (Og yX.F Di Et Z 1) (λ_ _ _ _ _ _ us hl=>match us,hl with|[_,_],_=>rfl)
 have CR:=λbase=>y9 base a1 (Lv a1.F Z) (λ_ _ _ _ _ _ us hl=>match us,hl with|[_,_,_],_=>rfl)
 have CB:=λbase=>y9 base a3 (Ly a3.F Z (CR base)) (λ_ _ _ _ _ _ us hl=>match us,hl with|[_,_,_,_],_=>rfl)
 have Vs:=y9 base a6 (Jf a6.F Z) (λ_ _ _ _ _ _ us hl=>match us,hl with|[_],_=>rfl)
 have Sj:=y9 base a7 (Jc a7.F Z Vs) (λ_ _ _ _ _ _ us hl=>match us,hl with|[_],_=>rfl)
 have CW3:∀base,Cal l.prog w K mg base "walked" 3 _ (Zgv l.prog w K mg base 2):=λbase=>y9 base a4 (Zbb a4.F Z) (λ_ _ _ _ _ _ us hl=>match us,hl with|[_,_,_],_=>rfl)
 have CM:∀base,Cal l.prog w K mg base "machine_from" 4 _ (Zkr l.prog w K mg base 2):=λbase=>y9 base a5 (Me a5.F Z (CW3 base)) (λ_ _ _ _ _ _ us hl=>match us,hl with|[_,_,_,_],_=>rfl)
 have CW:∀base,Cal l.prog w K mg base "walked" 4 _ (Zct l.prog w K mg base 3):=λbase=>y9 base a4 (Cj a4.F Z) (λ_ _ _ _ _ _ us hl=>match us,hl with|[_,_,_],_=>rfl);have O4:Cal l.prog w K mg base "least" 5 _ (Hk Vr):=⟨_,_,Zei G9 Z Zh4 Zgk BM Sj CM CR,A0,G9.kp,Zig⟩;have Qh:Cal l.prog w K mg base "least" 5 _ (Pu Vr):=⟨_,_,O4.ok.imp C0,O4.at_,O4.kp,O4.b⟩;have Sg:Cal l.prog w K mg base "texts_from" 4 _ (Zkq Xf):=⟨_,_,K9 Se Z Gp Js BM CW3 CR,Ot,Se.kp,G1⟩;have Sm:Cal l.prog w K mg base "fork_words" 5 _ (Zks Xg):=⟨_,_,Je Sf Z Gq Jt BM CW CB CR,Ou,Sf.kp,G2⟩
 have nn:([(Vr,Yh),(Xf,O5),(Xg,O6)].map (·.1)).Nodup:=by
  simp only[rW,fF,lI,rT,fB,or_false,not_or,not_false_eq_true,List.nodup_nil,and_true];exact⟨⟨x_least_texts_from,x_least_fork_words⟩,x_texts_from_fork_words⟩
 have U:Zik [(Vr,Yh),(Xf,O5),(Xg,O6)] Vr Xf Xg:=⟨.head _,.tail _ (.head _),.tail _ (.tail _ (.head _))⟩
 have Qi:=y9 base a2 (Zej a2.F Z) (λ_ _ _ _ _ _ us hl=>match us,hl with|[_],_=>rfl)
 have N0:=y9 base tH (Cm U tH.F Z Sg (CR base)) (λ_ _ _ _ _ _ us hl=>match us,hl with|[_,_],_=>rfl)
 have Nz:=y9 base tI (Ck tI.F Z N0) (λ_ _ _ _ _ _ us hl=>match us,hl with|[_],_=>rfl)
 have Uc:=y9 base tL (Md tL.F Z) (λ_ _ _ _ _ _ us hl=>match us,hl with|[_],_=>rfl)
 have Ua:=y9 base tM (Mb tM.F Z (CB base)) (λ_ _ _ _ _ _ us hl=>match us,hl with|[_,_,_],_=>rfl)
 have Pk:=y9 base tJ (Ee tJ.F Z) (λ_ _ _ _ _ _ us hl=>match us,hl with|[_],_=>rfl)
 have We:=y9 base tN (Ef U tN.F Z Qh Nz Qi Sm Uc Ua Pk) (λ_ _ _ _ _ _ us hl=>match us,hl with|[_],_=>rfl)
 have Wz:=y9 base tP (Ei tP.F Z) (λ_ _ _ _ _ _ us hl=>match us,hl with|[_,_],_=>rfl)
 have X1:=y9 base mX (Yc.or (Lz mX.F Z) (L0 mX.F Z)) (λ_ _ _ _ _ _ us hl=>match us,hl with|[_,_],_=>rfl)
 have Vu:=y9 base tQ (Co tQ.F Z Wz X1) (λ_ _ _ _ _ _ us hl=>match us,hl with|[_,_,_,_,_],_=>rfl)
 have Si:=y9 base tR (Jb tR.F Z) (λ_ _ _ _ _ _ us hl=>match us,hl with|[_,_],_=>rfl)
 have Rx:=y9 base tS (Hy tS.F Z Vu (CR base)) (λ_ _ _ _ _ _ us hl=>match us,hl with|[_,_],_=>rfl)
 have Sh:=y9 base tU (Ja tU.F Z Wz X1 (CR base)) (λ_ _ _ _ _ _ us hl=>match us,hl with|[_,_,_,_],_=>rfl)
 have Uu:=y9 base tV (L5 tV.F Z Vu (CR base)) (λ_ _ _ _ _ _ us hl=>match us,hl with|[_,_,_,_,_],_=>rfl)
 have Ub:=y9 base tT (Mc tT.F Z Si Rx Qi) (λ_ _ _ _ _ _ us hl=>match us,hl with|[_,_,_],_=>rfl)
 have Ve:=y9 base tO (L1 tO.F Z We) (λ_ _ _ _ _ _ us hl=>match us,hl with|[_],_=>rfl)
 have Vd:=y9 base tW (Lx U tW.F Z Qh Ub Sh Uu) (λ_ _ _ _ _ _ us hl=>match us,hl with|[_,_],_=>rfl)
 have Z9:=y9 base uA (Cn uA.F Z) (λ_ _ _ _ _ _ us hl=>match us,hl with|[_,_,_],_=>rfl)
 have Xq:=y9 base uB (Qj uB.F Z Z9) (λ_ _ _ _ _ _ us hl=>match us,hl with|[_,_,_],_=>rfl)
 have Vf:=y9 base uC (L4 uC.F Z Z9) (λ_ _ _ _ _ _ us hl=>match us,hl with|[_,_,_],_=>rfl)
 have Wx:=y9 base uE (Of uE.F Z Yd) (λ_ _ _ _ _ _ us hl=>match us,hl with|[_,_],_=>rfl)
 have Sk:=y9 base uD (Jd uD.F Z Yd Z9 Xq Vf) (λ_ _ _ _ _ _ us hl=>match us,hl with|[_,_],_=>rfl);exact Zlg nn Zj7 Z Pm Yd Ut Sk Wx Vj We Vd Ve
theorem walk{l:W.OpenLaw}{q:Program}{loose:List Str}{XP:ZZ}{YP:YQ}{d:DefRec}{K:Params→W.Frag}(hn:l.most=some 63)(i7:d.params.defaults=[])
  (hY:∀(w:World) (h:Heap),YP w h→(K w.params).In h)
  (F:∀(w:World) (mg:aG) (fa:Addr) (h:Heap),(K w.params).In h→h.Ns mainGlobals mg→mg d.name=some (.ref fa)→Bs q (K w.params) h→
   W.noTabs (K w.params)=true∧∃(fd:FuncData) (tabs:ZW),W.TabsAt tabs h∧(∀(s:Shared) (u:Value),BindsTo s fd ⟨[u],[]⟩ [("_law_script",u)])∧∀base:Heap,(K w.params).In base→base.Ns mainGlobals mg→Qn mg base→Yc l.prog w (K w.params) mg base CX0 9 fa fd ZV (Hl (K w.params) tabs)) :
  W.WalkO q loose XP YP l.row.toRowW d [] (λf vs=>PySem.call f vs):=
 L2.Zci (n:=63) (k:=9) (x:="_law_script") (CX:=λ_=>CX0) (sp:=λw tabs=>Hl (K w.params) tabs) hn (by decide) i7 ⟨rfl,by decide,by decide⟩ hY F (λ_ _ _ a ns hl hT hS=>⟨a,ns,rfl,hS,hl,hT,λ_=>rfl⟩) λ_ _ _ _ _ z=>z
end My
open PySem PySem.W PyProof.Rows
def PySem.W.Fast.tw16964982358365218001:Nat:=0
def PySem.W.Fast.tw11934837087841314587:Nat:=0
def PySem.W.Fast.tw700382022452521661:Nat:=0
def PySem.W.Fast.tw1218967459599040667:Nat:=0
def PySem.W.Fast.tw2559276301661547280:Nat:=0
def PySem.W.Fast.tw4745056614167813832:Nat:=0
def PySem.W.Fast.tw11342509067726510632:Nat:=0
def PySem.W.Fast.tw16869448933419535459:Nat:=0
def PySem.W.Fast.tw12981060586401715336:Nat:=0
def PySem.W.Fast.tw16534495352954222021:Nat:=0
def PySem.W.Fast.tw16771515338269796592:Nat:=0
def PySem.W.Fast.tw3342250088850940757:Nat:=0
def PySem.W.Fast.tw11034239995759802028:Nat:=0
def PySem.W.Fast.tw1186148472094216767:Nat:=0
def PySem.W.Fast.tw4242444533243108147:Nat:=0
def PySem.W.Fast.tw16973744931948179976:Nat:=0
def PySem.W.Fast.tw3043683934430876714:Nat:=0
def PySem.W.Fast.tw8735984288113583438:Nat:=0
def PySem.W.Fast.tw17337767413518319497:Nat:=0
def PySem.W.Fast.tw8377888214058506766:Nat:=0
def PySem.W.Fast.tw13521345862058480740:Nat:=0
def PySem.W.Fast.tw13885302094764959473:Nat:=0
def PySem.W.Fast.tw9927860365587385219:Nat:=0
def PySem.W.Fast.tw11551988094134773069:Nat:=0
def PySem.W.Fast.tw5396503762205445833:Nat:=0
def PySem.W.Fast.tw6273321898861405992:Nat:=0
def PySem.W.Fast.tw3427285929255343509:Nat:=0
def PySem.W.Fast.tw8370533130244003011:Nat:=0
def PySem.W.Fast.tw9947770342435064620:Nat:=0
def PySem.W.Fast.tw15189820128492693602:Nat:=0
def PySem.W.Fast.tw5243991029239037991:Nat:=0
def PySem.W.Fast.tw16940835824193486139:Nat:=0
def PySem.W.Fast.tw14382147335779700133:Nat:=0
def PySem.W.Fast.tw6294225016559610255:Nat:=0
def PySem.W.Fast.tw18100822711367218460:Nat:=0
def PySem.W.Fast.tw16659786310546737711:Nat:=0
def PySem.W.Fast.tw2405287601781661795:Nat:=0
def PySem.W.Fast.tw1269538727302942249:Nat:=0
def PySem.W.Fast.tw10634206697992734521:Nat:=0
def PySem.W.Fast.tw11588424624725214896:Nat:=0
def PySem.W.Fast.tw7778678757563657837:Nat:=0
def PySem.W.Fast.tw1216202677096908390:Nat:=0
def PySem.W.Fast.tw1128868762233443782:Nat:=0
set_option maxRecDepth 100000 in
set_option maxHeartbeats 0 in
theorem PySem.Challenge.cw_spreadwords_k44_whole_known_machines_holds : PySem.Challenge.rw_spreadwords_k44_whole_known_machines.Holds := by
 w_on; o_law; k_head; (case hw=>w_witness2)
 k_fill
 refine My.walk (l:=PySem.Challenge.rw_spreadwords_k44_whole_known_machines) rfl rfl (fun w h Y=>PySem.W.km_in_of Y) ?F
 case F=>
  intro w mg fa h KX G xR TT
  refine' My.all_mk KX G xR TT ?a1 ?a2 ?a3 ?a4 ?a5 ?a6 ?a7 ?a8 ?l8 ?c8 ?k8 ?a9 ?l9 ?c9 ?k9 ?tH ?tI ?tJ ?tK ?gJ ?vV ?qN ?tL ?tM ?tN ?tO ?tP ?mX ?tQ ?tR ?tS ?tT ?tU ?tV ?tW ?tX ?tY ?yX ?tZ ?uA ?uB ?uC ?uD ?uE ?uF ?qV ?vW ?qO ?z_all ?z_bool ?z_dict ?z_enumerate ?z_int ?z_isinstance ?z_len ?z_list ?z_max ?z_min ?z_range ?z_set ?z_sorted ?z_tuple ?n0 ?y_least ?v_least ?u_least ?w_least ?y_texts_from ?v_texts_from ?u_texts_from ?w_texts_from ?y_fork_words ?v_fork_words ?u_fork_words ?w_fork_words ?x_least_texts_from ?x_least_fork_words ?x_texts_from_fork_words
  (case a1 | a2 | a3 | a4 | a5 | a6 | a7 | tH | tI | tJ | tL | tM | tN | tO | tP | mX | tQ | tR | tS | tT | tU | tV | tW | tX | tY | yX | tZ | uA | uB | uC | uD | uE=>refine' My.Dn.mk ?x (L2.fun_mk ?l ?c ?k); (case x=>k_is); (case l=>k_is); (case c=>k_is); (case k=>k_is))
  (case a8 | l8 | c8 | k8 | a9 | l9 | c9 | k9 | tK | gJ | vV | qN | uF | qV | vW | qO | z_all | z_bool | z_dict | z_enumerate | z_int | z_isinstance | z_len | z_list | z_max | z_min | z_range | z_set | z_sorted | z_tuple=>k_is)
  (case n0=>kernel_rfl)
  (case y_least=>exact rfl)
  (case v_least=>k_is)
  (case u_least=>exact rfl)
  (case w_least=>exact rfl)
  (case y_texts_from=>exact rfl)
  (case v_texts_from=>k_is)
  (case u_texts_from=>exact rfl)
  (case w_texts_from=>exact rfl)
  (case y_fork_words=>exact rfl)
  (case v_fork_words=>k_is)
  (case u_fork_words=>exact rfl)
  (case w_fork_words=>exact rfl)
  (case x_least_texts_from=>decide)
  (case x_least_fork_words=>decide)
  (case x_texts_from_fork_words=>decide)
