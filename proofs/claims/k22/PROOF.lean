import PyProof.Rows.All
import PySem.PyData
import Wide.All
import OpenK.AllK
import Wide.FinOn
import Lean
import PyProof.EqAt
import PyProof.EqKinds
import PyProof.TupleCall
import PyProof.SetKind
import PyProof.TupleKey
import PyProof.IsRules
import PyProof.SetRoads
import PyProof.RaisesMany
import PyProof.RulesTry
import PyProof.ExcClass2
import KE.KTryMore
import PyProof.RulesAs
import PyProof.NsDelKeeps
import KE.KDictList
import PyProof.P3In
import PyProof.Rows.SortShellK
import PyProof.TupleOfSeq
import PyProof.WalkInts
import PyProof.SeqI3
import PyProof.SumAnyB
import PyProof.Rows.SeqWords
import PyProof.ListRange
import PyProof.DictValues
import PyProof.DictWalks
import PySem.Challenge.RW_farhail_k22_whole_three_ways_to_know
set_option linter.all false
local macro_rules | `(tactic| ac_rfl) => `(tactic| exact ⟨rfl,rfl,rfl,by decide +kernel,rfl,by decide +kernel,by decide +kernel⟩)
set_option genSizeOf false
set_option genInjectivity false
section
open PySem
abbrev XA:=List (PyData×PyData)
abbrev XD:=Array (Option Value)
abbrev XE:=Value->Shared->Prop
abbrev XF:=List Comprehension
abbrev XG:=Str->Option Value
abbrev XH:=List (Addr×Obj)
abbrev XI:=Array DictEntry
abbrev XJ:=Int->Int->Bool
abbrev XM:=List (Nat×Nat)
abbrev XN:=List (Int×Int)
abbrev XO:=PySem.W.Frag
abbrev XQ:=Option Value
abbrev XR:=Array Value
abbrev XS:=List PyData
abbrev XT:=Option Addr
abbrev XU:=List Value
abbrev XW:=List Addr
abbrev XX:=List Bool
abbrev XY:=List Expr
abbrev XZ:=List Stmt
abbrev Xa:=List Nat
abbrev Xb:=List Int
abbrev Xc:=List Str
end
section
open PySem PySem.Spec PyProof.Rows PySem.W
def R8:=@wpAny_bind
def R9:=@wpAny_pure
def RT:=@List.mem_cons_self
def RU:=@wpS_bind
def RV:=@wpS_pure
def RW:=@Nat.le_refl
def RX:=@List.length_map
def RY:=@List.mem_cons_of_mem
def RZ:=@List.mem_singleton
def S0:=@List.mem_map
def S2:=@List.mem_cons
def S3:=@Heap.lt_size
def S4:=@Bool.and_eq_true
def S5:=@Heap.get?_push_of_some
def S6:=@List.mem_append
def S7:=@List.getElem?_map
def S8:=@Nat.ne_of_lt
def S9:=@List.getElem?_eq_getElem
def SA:=@List.length_range
def SD:=@List.size_toArray
def SG:=@List.all_cons
def SH:=@List.all_eq_true
def SJ:=@List.length_append
def SK:=@Nat.lt_of_lt_of_le
def SN:=@List.mem_range
def SO:=@List.map_cons
def SQ:=@Bool.false_ne_true
def SR:=@List.mem_of_getElem?
def SV:=@of_decide_eq_true
def SW:=@Nat.le_trans
def SX:=@List.map_map
def SY:=@Heap.get?_push_size
def Sa:=@decide_eq_true
def Sb:=@List.length_cons
def Sd:=@Nat.zero_le
def Se:=@List.not_mem_nil
def Sf:=@Nat.lt_irrefl
def Sg:=@List.map_append
def Sh:=@List.append_assoc
def Si:=@decide_eq_false
def Sj:=@List.nodup_cons
def Sk:=@Array.getElem?_toList
def Sl:=@wpS_mono
def Sm:=@wpS_forRange
def Sn:=@List.getElem?_eq_none
def So:=@List.mem_flatMap
def Sq:=@Nat.lt_or_ge
def Ss:=@wpAny_mono
def Su:=@List.lookup_cons
def Sv:=@List.getElem?_range
def Sw:=@List.length_set
def Sx:=@wpAny_holding
def Sy:=@List.append_nil
def Sz:=@Heap.get?_update_other
def T4:=@Array.toList_append
def T5:=@List.mem_append_right
def T7:=@wpAny_newObj_type
def T8:=@Option.map_eq_some_iff
def T9:=@mg_none_of
def TF:=@List.filterMap_cons
def TH:=@Array.getElem?_eq_getElem
def TJ:=@wpAny_rule
def TM:=@List.getD_eq_getElem?_getD
def TN:=@wpS_modify
def TQ:=@decide_eq_true_eq
def TR:=@List.mem_filter
def TU:=@Array.length_toList
def TX:=@wpAny_call_entry
def TY:=@PySem.W.kia_one
def TZ:=@List.length_replicate
def Tc:=@Heap.get?_update_self
def Td:=@List.mem_iff_getElem?
def Te:=@PassesOwn.leaving
def Tf:=@List.pairwise_iff_getElem
def Ti:=@Heap.SameBut.update
def Tj:=@List.take_length
def Tn:=@List.map_congr_left
def To:=@List.ext_getElem?
def Tp:=@Nat.ne_of_gt
def Tq:=@True.intro
def Tr:=@List.nodup_nil
def Tt:=@Nat.not_lt_zero
def Tu:=@codeAny_builtin
def Tv:=@or_false
def Tw:=@List.Perm.append_left
def Tz:=@List.nodup_range
def U0:=@Bool.eq_iff_iff
def U1:=@List.getElem?_eq_some_iff
def U3:=@List.length_take
def U4:=@if_false
def U5:=@Array.getD_eq_getD_getElem?
def U6:=@List.filter_cons
def U7:=@List.getElem?_of_mem
def U8:=@Nat.le_add_right
def U9:=@List.getElem_mem
def UA:=@F.plain_min_loop
def UB:=@wpAny_truthy_bool
def UC:=@List.getElem?_append_right
def UD:=@wpAny_field
def UE:=@Nat.lt_trichotomy
def UG:=@wpAny_setField
def UH:=@Obj.data_mapFields
def UI:=@Nat.lt_succ_of_lt
def UJ:=@Around.under_plainId
def UK:=@plainId_quiet
def UL:=@Heap.size_push
def UM:=@List.nodup_append
def UN:=@wpS_lift
def UO:=@List.perm_append_comm
def UP:=@Bool.or_eq_true
def UQ:=@List.getElem_map
def UR:=@Nat.le_of_lt
def US:=@wpAny_passesOwn
def UT:=@List.getElem?_append_left
def UU:=@List.length_drop
def UW:=@eq_of_beq
def UX:=@List.replicate_succ
def UY:=@Nat.le_succ
def UZ:=@List.length_singleton
def Ua:=@List.any_cons
def Ub:=@Nat.mod_lt
def Uc:=@Nat.not_lt
def Ud:=@Nat.lt_succ_self
def Ue:=@Nat.min_eq_left
def Ug:=@Nat.min_eq_right
def Uh:=@List.getElem?_set
def Ui:=@Int.ofNat_lt
def Uj:=@Int.toNat_natCast
def Uk:=@wpAny_callSpecial?_slot
def Ul:=@wpAny_typeOf
def Um:=@List.flatten_cons
def Uo:=@call_meets
def Uq:=@List.find?_cons
def Ur:=@Nat.zero_lt_succ
def Us:=@Int.emod_lt_of_pos
def Ut:=@Int.emod_nonneg
def Uu:=@wpAny_of_eq
def Uv:=@List.take_of_length_le
def Uw:=@List.cons.injEq
def Ux:=@PySem.F.slot_list_append
def Uy:=@PySem.F.type_list_append
def Uz:=@Nat.le_total
def V0:=@List.contains_eq_mem
def V1:=@Heap.get?_none_of_le
def V2:=@List.getElem?_set_self
def V3:=@List.getElem?_set_ne
def V4:=@Bool.false_and
def V5:=@PyProof.Rows.callWith_type1
def V6:=@codeAny_mono
def V7:=@PySem.mem_of_lookup
def V8:=@List.map_nil
def V9:=@Array.getElem?_eq_some_iff
def VA:=@Array.size_extract
def VB:=@Array.getElem?_eq_none
def VC:=@List.filterMap_append
def VD:=@Nat.le_of_eq
def VE:=@Obj.isFreed_of_fields
def VF:=@wpAny_askSetting
def VG:=@Array.toList_push
def VH:=@wpAny_attempt
def VI:=@List.Perm.append_right
def VJ:=@Nat.add_sub_cancel_left
def VL:=@List.take_succ
def VM:=@List.all_map
def VN:=@Bool.false_eq_true
def VO:=@Nat.le_succ_of_le
def VP:=@List.find?_cons_of_pos
def VQ:=@List.find?_cons_of_neg
def VR:=@wpAny_tryCatch
def VS:=@List.eq_nil_of_length_eq_zero
def VT:=@List.length_pos_of_mem
def VU:=@List.pairwise_cons
def VV:=@List.filter_sublist
def VW:=@Int.natCast_nonneg
def VX:=@wpAny_execs_nil
def VY:=@wpAny_standAt
def VZ:=@List.mem_filterMap
def Va:=@wpAny_Call_Name_kw
def Vb:=@List.of_mem_zip
def Vc:=@PyProof.Rows.slot_tuple_getitem
def Vd:=@List.eraseIdx_cons_succ
def Ve:=@Nat.succ_le_succ
def Vf:=@Nat.add_comm
def Vg:=@tupleKind_room_in1
def Vh:=@beq_self_eq_true
def Vi:=@Classical.byContradiction
def Vj:=@Nat.zero_add
def Vk:=@wpAny_setState_of
def Vl:=@PyProof.Rows.F.plain_set_update_loop
def Vm:=@wpAny_ite_split
def Vn:=@wpAny_fieldsOf
def Vo:=@wpAny_newList
def Vp:=@List.take_append_drop
def Vq:=@List.drop_zero
def Vr:=@List.drop_of_length_le
def Vs:=@listItems_at
def Vt:=@Option.toList_none
def Vu:=@Option.toList_some
def Vv:=@PySem.F.plainAttrs_list
def Vw:=@F.entry_min_loop
def Vx:=@wpAny_seqItems
def Vy:=@wpAny_dictEntries
def Vz:=@F.slot_dict_valueiterator_next
def W0:=@wpAny_typeNameOfWhole_valiter
def W2:=@wpAny_typeNameOf_valiter
def W3:=@List.map_eq_nil_iff
def W4:=@List.Pairwise.imp_of_mem
def W5:=@List.Pairwise.map
def W6:=@List.Sublist.nodup
def W7:=@List.length_filter_le
def W8:=@Array.find?_toList
def W9:=@List.any_eq_false
def WA:=@PySem.W.kitx_list
def WB:=@List.getElem?_replicate
def WC:=@Nat.min_le_right
def WD:=@Calls.callWith_builtin
def WH:=@Nat.lt_succ_of_le
def WI:=@Array.getElem?_extract
def WJ:=@List.range_eq_range'
def WK:=@Array.getElem?_setIfInBounds
def WM:=@List.pairwise_lt_range
def WN:=@List.getElem?_toArray
def WO:=@wpAny_pyIter_list
def WQ:=@List.length_eq_zero_iff
def WR:=@wpAny_pyIter_slot
def WU:=@Obj.cls_mapFields
def WV:=@wpAny_isInstance
def WX:=@List.getElem_of_mem
def WY:=@Array.toList_extract
def WZ:=@List.extract_eq_take_drop
def Wa:=@Array.toList_reverse
def Wb:=@List.reverse_perm
def Wc:=@Array.perm_iff_toList_perm
def Wd:=@List.any_eq_true
def We:=@Bool.not_eq_true'
def Wf:=@wpAny_comprehension_free
def Wg:=@List.getElem?_drop
def Wh:=@PyProof.Rows.boot_min
def Wi:=@PyProof.Rows.boot_int
def Wj:=@PyProof.Rows.boot_sorted
def Wl:=@wpAny_isOneOf_valiter
def Wm:=@List.mem_erase_of_ne
def Wn:=@List.length_erase_of_mem
def Wo:=@List.drop_length
def Wq:=@List.pairwise_map
def Wr:=@Nat.max_eq_right
def Ws:=@List.isEmpty_map
def Wt:=@List.isEmpty_nil
def Wu:=@List.cons_ne_nil
def Wv:=@Decidable.of_not_not
def Ww:=@PyProof.Rows.slot_tuple_getitem.lookup
def Wx:=@List.eraseIdxIfInBounds_toArray
def Wy:=@PyProof.Rows.F.entry_set_update_loop
def Wz:=@F.entry_dict_valueiterator_next
def X0:=@F.args_dict_valueiterator_next_1
def X3:=@List.eq_nil_iff_forall_not_mem
end
noncomputable section
namespace PySem.W.Fast
def tw5541828009725422717:=Nat
def tw6629241980069690809:=Nat
def tw17375514999540852675:=Nat
def tw684211274738931867:=Nat
def tw7687171434869943678:=Nat
def tw12833745734215931263:=Nat
def tw1267114525092918418:=Nat
def tw6249480914122017908:=Nat
def tw10647912003883869342:=Nat
def tw10065928176976134546:=Nat
def tw4751455122783158076:=Nat
def tw8092467412321064501:=Nat
def tw4230289202442639718:=Nat
def tw6223668088425807701:=Nat
def tw10029710572110341290:=Nat
def tw16459921927007704252:=Nat
def tw7597543897339823929:=Nat
def tw16468412853051213688:=Nat
def tw7195341004903413960:=Nat
def tw6053955727721923669:=Nat
def tw6139370386742938769:=Nat
def tw15737967539127217687:=Nat
def tw131885201106759568:=Nat
def tw300981480907744917:=Nat
def tw688366678391749928:=Nat
def tw9912056729895434986:=Nat
def tw280303761747871698:=Nat
def tw9579951240834293381:=Nat
def tw15030799682715692231:=Nat
def tw1587020317602163658:=Nat
def tw10188197169523774927:=Nat
def tw13284509327731530761:=Nat
def tw15261933317097306534:=Nat
def tw9526822246908659236:=Nat
def tw16996797539362599279:=Nat
def tw18256115554365845047:=Nat
def tw4445702272174980715:=Nat
def tw5269495115342014090:=Nat
def tw14283333811817046062:=Nat
def tw3690173974682276486:=Nat
def tw12375604036797356266:=Nat
def tw8539408685206604044:=Nat
def tw5944181500516153379:=Nat
def tw1198255244884400428:=Nat
def tw11200188262748330436:=Nat
def tw8016926511867752551:=Nat
def tw12397754074836115876:=Nat
def tw6961697719691681768:=Nat
def tw10395667397630470374:=Nat
def tw5659216664367008819:=Nat
def tw14461543404111368562:=Nat
def tw3551967214306786959:=Nat
def tw11217753328998455771:=Nat
def tw10807208023250531600:=Nat
def tw14322013567455487820:=Nat
def tw10406877934101855999:=Nat
def tw10610511910447208217:=Nat
def tw18416147663517020406:=Nat
def tw10647432381445212906:=Nat
def tw12696789097733777663:=Nat
def tw842498195484906152:=Nat
def tw16745855942645775273:=Nat
def tw17960071573733100646:=Nat
def tw13447469712087011178:=Nat
def tw16757715840532315042:=Nat
def tw10881958806657969301:=Nat
def tw3955998970472588067:=Nat
def tw4105545278582740140:=Nat
def tw14016456526645996478:=Nat
def tw6107738306870997776:=Nat
def tw5229378116875608432:=Nat
def tw2335307245140666416:=Nat
def tw15900054246990298338:=Nat
def tw9354108415894579255:=Nat
def tw7361349790923082939:=Nat
def tw16166971800309702819:=Nat
def tw6856545842801603937:=Nat
def tw10201875155562400393:=Nat
def tw13947655312075862225:=Nat
def tw4705526221230792786:=Nat
def tw3211383546190680271:=Nat
def tw7954492774809202055:=Nat
def tw18040683683196648157:=Nat
def tw8143078651988562182:=Nat
def tw16363634260188363632:=Nat
def tw11834966296946649307:=Nat
def tw15199278415348920656:=Nat
def tw11727752513274637356:=Nat
def tw9055082656545473052:=Nat
def tw8505262380666520078:=Nat
def tw629864119848017713:=Nat
def tw17547588485720216868:=Nat
def tw8304581761867744260:=Nat
def tw16725771115899370692:=Nat
def tw2453308173544124875:=Nat
def tw9203008448164528780:=Nat
def tw2513817139303711265:=Nat
def tw5194171428842677221:=Nat
def tw2660122158000544073:=Nat
def tw12991862645005294631:=Nat
end PySem.W.Fast
set_option Elab.async false
set_option linter.all false
set_option maxHeartbeats 4000000
set_option maxRecDepth 100000
namespace Dv
open PySem
inductive Kd where
 | sh | ow (p:Bool) | dp (p:Bool) | dk (p:Bool) | dt (p:Bool) | st (p:Bool)
 deriving DecidableEq
def kZ (n:Nat) (i:Int):Option Nat:=if 0<=i then (if i < n then some i.toNat else none) else if -(n:Int)<=i then some (i + n).toNat else none
def qg:PyData->Bool
 | .int _ | .str _=>true
 | _=>false
instance RS:DecidableEq PyData:=fun a b=>Classical.propDecidable (a=b)
def eN (kvs:XA)(k:PyData):Option PyData:=(kvs.find? fun kv=>decide (kv.1=k)).map (·.2)
def putD (kvs:XA)(k v:PyData):XA:=if (kvs.any fun kv=>decide (kv.1=k))=true then kvs.map (fun kv=>if kv.1=k then (kv.1,v) else kv) else kvs++[(k,v)]
def hi0:Nat:=0
def hi1:Nat:=hi0
def hi2:Nat:=hi1
def Rn:Nat:=hi2
def RE:Nat:=Rn
def RB:Nat:=RE
def RD:Nat:=RB
def RI:Nat:=RD
def Rv:Nat:=RI
def Rz:Nat:=Rv
def Q4:Nat:=Rz
def QL:Nat:=Q4
def jN:Nat:=QL
abbrev En:=List (Option (Kd×PyData))
abbrev Xd:=En->Kd->PyData->Prop
abbrev Xe:=List (Option PyData)
abbrev Xf:=Option (Kd×PyData)
abbrev Xg:=Kd->PyData->Prop
abbrev Xh:=En->Bool->Prop
abbrev Xi:=En->Prop
abbrev XC:=Str->PyData->Prop
abbrev xF:XC:=fun _ _=>False
abbrev DE:=XC->En->(Xd)->Prop
abbrev DT:=XC->En->(Xh)->Prop
abbrev DI:=XC->En->(En->XS->Prop)->Prop
structure gJ where
 nx:Xi
 rt:Xd
 xc:XC
abbrev DS:=gJ->En->Prop
abbrev bq:=XS->(XS->Kd->PyData->Prop)->XC->Prop
def lf:PyData->Bool
 | .none | .bool _ | .int _ | .str _=>true
 | .tuple ds=>lfs ds
 | .list _ | .dict _=>false
where lfs:XS->Bool
 | []=>true
 | d::ds=>lf d && lfs ds
theorem vj:∀ ds:XS,lf.lfs ds=ds.all lf
 | []=>by rw [lf.lfs];rfl
 | d::ds=>by rw [lf.lfs,vj ds];rfl
def Bv:PyData->Bool
 | .list _=>true
 | _=>false
def flat:Kd->PyData->Bool
 | .sh,d=>lf d
 | .ow _,.list ds=>ds.all lf
 | .dp _,.list ds=>ds.all fun d=>match d with | .list es=>es.all lf | d=>lf d
 | .dk _,.dict kvs=>kvs.all fun kv=>lf kv.2
 | .dt _,.dict kvs=>kvs.all fun kv=>lf kv.2
 | _,_=>false
def Kd.fz:Kd->Bool
 | .sh | .ow false | .dp false | .dk false | .dt false=>true
 | _=>false
def Kd.rd:Kd->Bool
 | .st _=>false
 | _=>true
def Kd.pin:Kd->Bool
 | .ow p | .dp p | .dk p | .dt p | .st p=>p
 | .sh=>false
def cY (E:En) (i:Nat):Option En:=match E[i]? with
 | some (some (k,d))=>if k.fz then some (E.set i (some (.sh,d))) else none
 | _=>none
def dY:Xa->En->Option En
 | [],E=>some E
 | i::r,E=>(cY E i).bind (dY r)
inductive Arg where
 | pk (i:Nat) | ev (d:DE)
def ir:List Arg->Xa
 | []=>[]
 | .pk i::r=>i::ir r
 | .ev _::r=>ir r
def here (E:En) (i:Nat):Bool:=match E[i]? with
 | some (some _)=>true
 | _=>false
def fill:List Arg->En->List (Option PyData)->Option (XS)
 | [],_,[]=>some []
 | .pk i::r,E,none::os=>match E[i]? with
  | some (some (k,d))=>if k.rd then (fill r E os).map (d::·) else none
  | _=>none
 | .ev _::r,E,some v::os=>(fill r E os).map (v::·)
 | _,_,_=>none
def jM (E:En) (i:Nat):Bool:=match E[i]? with
 | some (some (.sh,_))=>true
 | _=>false
theorem yH {E:En}:∀ {is:Xa},is.all (jM E)=true->dY is E=some E
 | [],_=>rfl
 | i::r,h=>by
  rw [SG,S4] at h;have e:cY E i=some E:=by
   have h1:=h.1;unfold jM at h1;unfold cY;split at h1
   ·rename_i d e;rw [e];show some (E.set i (some (.sh,d)))=some E;congr 1;refine To fun j=>?_
    rw [Uh]
    by_cases c:i=j
    ·subst c;rw [if_pos rfl,e];have l:i < E.length:=by
      rcases Sq i E.length with z | z
      ·exact z
      ·rw [Sn z] at e;cases e
     rw [if_pos l]
    ·rw [if_neg c]
   ·cases h1
  show (cY E i).bind (dY r)=some E;rw [e];exact yH h.2
def Qm (as:List Arg)(E:En)(k:Kd)(v:PyData):Option En:=if ((ir as).all (jM E) || flat k v)=true then some E else dY (ir as) E
def zE {is:Xa}{E E2:En}{b:Bool}(h:(if (is.all (jM E) || b)=true then some E else dY is E)=some E2):(if b=true then some E else dY is E)=some E2:=by
 cases hs:is.all (jM E) with
 | true =>
  rw [hs,Bool.true_or,if_pos rfl] at h;rw [yH hs,h,ite_self]
 | false =>
  rw [hs,Bool.false_or] at h;exact h
abbrev DR:=XS->(Xg)->Prop
def dC (v:PyData):DE:=fun _ E Q=>(fun _:Nat=>Q E .sh v) jN
def rK:XX->List Arg->XS->En->Option En
 | [],[],[],E=>some E
 | false::ms,_::r,us,E=>rK ms r us E
 | true::ms,.pk i::r,u::us,E=>match E[i]? with
  | some (some (.ow p,.list _))=>if Bv u then rK ms r us (E.set i (some (.ow p,u))) else none
  | _=>none
 | _,_,_,_=>none
def lent:XX->List Arg->Xa
 | true::ms,.pk i::r=>i::lent ms r
 | _::ms,_::r=>lent ms r
 | _,_=>[]
def kept:XX->List Arg->Xa
 | false::ms,.pk i::r=>i::kept ms r
 | _::ms,_::r=>kept ms r
 | _,_=>[]
def shape:XX->List Arg->Bool
 | [],[]=>true
 | true::ms,.pk _::r=>shape ms r
 | false::ms,_::r=>shape ms r
 | _,_=>false
def zb (ms:XX)(as:List Arg)(E:En):Bool:=shape ms as && decide (lent ms as).Nodup && (lent ms as).all (fun i=>!(kept ms as).contains i && (match E[i]? with | some (some (.ow _,.list _))=>true | _=>false))
def Mr (ms:XX)(as:List Arg)(us:XS)(E:En)(k:Kd)(v:PyData):Option En:=if ((kept ms as).all (jM E) || (flat k v && us.all (flat (.ow false))))=true then some E else dY (kept ms as) E
def kI:PyData->Option Bool
 | .bool b=>some b
 | .int i=>some (!decide (i=0))
 | .none=>some false
 | .str _=>none
 | .list ds=>some !ds.isEmpty
 | .tuple ds=>some !ds.isEmpty
 | .dict _=>none
def NY (d:DE):DT:=fun x E Q=>d x E fun E' _ v=>∃ b,kI v=some b/\Q E' b
def zW (t:DT):DT:=fun x E Q=>(fun _:Nat=>t x E fun E' b=>Q E' (!b)) jN
def Mb (a b:DE):DE:=fun x E Q=>a x E fun E1 _ v=>∃ c,v=.bool c/\if c=true then b x E1 Q else Q E1 .sh (.bool false)
def Qj (a b:DE):DE:=fun x E Q=>a x E fun E1 _ v=>∃ c,v=.bool c/\if c=true then Q E1 .sh (.bool true) else b x E1 Q
def Mx (a:DE):DE:=fun x E Q=>a x E fun E1 _ v=>∃ c,kI v=some c/\Q E1 .sh (.bool !c)
def Gv (f f':XJ)(a b c:DE):DE:=fun x E Q=>a x E fun E1 _ u=>∃ i,u=.int i/\b x E1 fun E2 _ v=>∃ j,v=.int j/\if f i j=true then c x E2 fun E3 _ w=>∃ k,w=.int k/\Q E3 .sh (.bool (f' j k)) else Q E2 .sh (.bool false)
def P6 (c:DT)(a b:DE):DE:=fun x E Q=>c x E fun E1 t=>if t=true then a x E1 Q else b x E1 Q
def d9:DS:=fun D E=>(fun _:Nat=>D.nx E) jN
def ay (a b:DS):DS:=fun D E=>(fun _:Nat=>a { D with nx:=b D } E) jN
def uR (a b:DS):DS:=fun D E=>∃ J:Xi,a { D with nx:=J } E/\∀ E',J E'->b D E'
def Nf (c:DT)(a b:DS):DS:=fun D E=>c D.xc E fun E1 t=>if t=true then a D E1 else b D E1
def bZ (E:En) (i:Nat):Bool:=match E[i]? with
 | some (some (k,_))=>!k.pin
 | some none=>true
 | none=>false
def LP (i:Nat)(e:DE):DS:=fun D E=>e D.xc E fun E' k v=>bZ E' i=true/\D.nx (E'.set i (some (k,v)))
inductive Tg where
 | nm (i:Nat) | tp (is:Xa)
def Tg.slots:Tg->Xa
 | .nm i=>[i]
 | .tp is=>is
def bS:Xa->XS->En->Option En
 | [],[],E=>some E
 | i::is,d::ds,E=>if bZ E i then bS is ds (E.set i (some (.sh,d))) else none
 | _,_,_=>none
def cP:Tg->PyData->En->Option En
 | .nm i,d,E=>bS [i] [d] E
 | .tp is,.tuple ds,E=>bS is ds E
 | _,_,_=>none
def bP (e:DE):DS:=fun D E=>(fun _:Nat=>e D.xc E D.rt) jN
def jd (E:En) (i:Nat):Bool:=match E[i]? with
 | some (some (.ow _,.list _))=>true
 | _=>false
abbrev DM:=XS->XS->(XS->PyData->Prop)->Prop
def tE:XA->Bool
 | (.none,_)::_=>false
 | _=>true
def zK (most:Nat) (i:Nat)(e:DE):DS:=fun D E=>jd E i=true/\e D.xc E fun E1 k v=>k.fz=true/\∃ p ds es,E1[i]?=some (some (.ow p,.list ds))/\v=.list es/\ds.length + es.length<=most/\D.nx (E1.set i (some (.ow p,.list (ds++es))))
def zz (f:DM) (i:Nat)(j:DE) (n:Nat):DE:=fun x E Q=>here E i=true/\j x E fun E1 _ w=>∃ a p ds m es k d E2,w=.int a/\E1[i]?=some (some (.dp p,.list ds))/\kZ ds.length a=some m/\ds[m]?=some (.list es)/\E1[n]?=some (some (k,d))/\i≠n/\cY E1 n=some E2/\f es [d] fun new v=>Q (E2.set i (some (.dp p,.list (ds.set m (.list new))))) .sh v
def ng (c:Str):DS:=fun D _=>(fun _:Nat=>D.xc c .none) jN
def cW (e:DE):DS:=fun D E=>(fun _:Nat=>e D.xc E fun E' _ _=>D.nx E') jN
def iH (it:DI)(tg:Tg)(b:DS):DS:=fun D E=>(fun _:Nat=>it D.xc E fun E1 xs=>∃ I:Nat->En->Prop,I 0 E1/\(∀ i d E,xs[i]?=some d->I i E->∃ E2,cP tg d E=some E2/\b { D with nx:=I (i + 1) } E2)/\∀ E,I xs.length E->D.nx E) jN
def sU (c:DT)(b:DS):DS:=fun D E=>∃ W:Nat->En->Prop,(∃ m,W m E)/\∀ m E,W m E->c D.xc E fun E1 t=>if t=true then b { D with nx:=fun E'=>∃ m',m' < m/\W m' E' } E1 else D.nx E1
def items:PyData->Option (XS)
 | .list ds=>some ds
 | .tuple ds=>some ds
 | _=>none
def oE (e:DE):DI:=fun x E Q=>e x E fun E' k v=>k.fz=true/\∃ ds,items v=some ds/\Q E' ds
def ju (ds:XS):XS:=ds.zipIdx.map fun p=>.tuple [.int p.2,p.1]
def Qv (e:DE):DI:=fun x E Q=>e x E fun E' k v=>k.fz=true/\∃ ds,v=.list ds/\Q E' (ju ds)
def bC:Xa->En->Option En
 | [],E=>some E
 | i::r,E=>if bZ E i then bC r (E.set i none) else none
abbrev DC:=XC->XS->En->(XS->En->Prop)->Prop
def fZ:DT:=fun _ E Q=>(fun _:Nat=>Q E true) jN
def cA (most:Nat)(e:DE):DC:=fun x ys E Q=>e x E fun E1 k v=>k.fz=true/\ys.length < most/\Q (ys++[v]) E1
def Qq (it:DI)(tg:Tg)(c:DT)(r:DC):DC:=fun x ys E Q=>(fun _:Nat=>it x E fun E1 xs=>∃ I:Nat->XS->En->Prop,I 0 ys E1/\(∀ i d ys E,xs[i]?=some d->I i ys E->∃ E2,cP tg d E=some E2/\c x E2 fun E3 b=>if b=true then r x ys E3 (I (i + 1)) else I (i + 1) ys E3)/\∀ ys E,I xs.length ys E->Q ys E) jN
def bU (cs:Xa)(it:DI)(tg:Tg)(c:DT)(r:DC):DE:=fun x E Q=>(fun _:Nat=>it x E fun E1 xs=>∃ (E0:En)(I:Nat->XS->En->Prop),bC cs E1=some E0/\I 0 [] E0/\(∀ i d ys E,xs[i]?=some d->I i ys E->∃ E2,cP tg d E=some E2/\c xF E2 fun E3 b=>if b=true then r xF ys E3 (I (i + 1)) else I (i + 1) ys E3)/\∀ ys E,I xs.length ys E->∃ E2,bC cs E=some E2/\Q E2 (.ow false) (.list ys)) jN
def pP (most:Nat)(cs:Xa)(it:DI)(tg:Tg)(c:DT)(e:DE):DE:=fun x E Q=>(fun _:Nat=>it x E fun E1 xs=>∃ (E0:En)(I:Nat->XS->En->Prop),bC cs E1=some E0/\I 0 [] E0/\(∀ i d ys E,xs[i]?=some d->I i ys E->∃ E2,cP tg d E=some E2/\c xF E2 fun E3 b=>if b=true then e xF E3 (fun E4 k v=>(∃ p,k=.ow p)/\ys.length < most/\I (i + 1) (ys++[v]) E4) else I (i + 1) ys E3)/\∀ ys E,I xs.length ys E->∃ E2,bC cs E=some E2/\Q E2 (.dp false) (.list ys)) jN
def jZ (lo:Int) (n:Nat):XS:=(List.range n).map fun i:Nat=>PyData.int (lo + i)
def aL {α:Type}(o:Option α)(Q:α->Prop):Prop:=match o with
 | some a=>Q a
 | none=>False
def dJ {α:Sort u}(b:Bool)(x y:α):α:=match b with
 | true=>x
 | false=>y
def b9:Xf->Bool
 | some (k,_)=>!k.pin
 | none=>true
def rZ (E:En) (i:Nat):Bool:=match E[i]? with
 | some o=>b9 o
 | none=>false
def bK (b:Bool)(P:Prop):Prop:=match b with
 | true=>P
 | false=>False
def jY:List Arg->XC->En->(En->List (Option PyData)->Prop)->Prop
 | [],_,E,Q=>Q E []
 | .pk i::r,x,E,Q=>bK (here E i) (jY r x E fun E' os=>Q E' (none::os))
 | .ev d::r,x,E,Q=>d x E fun E1 k v=>bK k.fz (jY r x E1 fun E' os=>Q E' (some v::os))
def rP (E:En) (i:Nat):Option En:=match E[i]? with
 | some (some (k,d))=>dJ k.fz (some (E.set i (some (.sh,d)))) none
 | _=>none
def jz:Xa->En->Option En
 | [],E=>some E
 | i::r,E=>(rP E i).bind (jz r)
def c7:List Arg->En->List (Option PyData)->Option (XS)
 | [],_,[]=>some []
 | .pk i::r,E,none::os=>match E[i]? with
  | some (some (k,d))=>dJ k.rd ((c7 r E os).map (d::·)) none
  | _=>none
 | .ev _::r,E,some v::os=>(c7 r E os).map (v::·)
 | _,_,_=>none
def rS (as:List Arg)(E:En)(k:Kd)(v:PyData):Option En:=dJ ((ir as).all (jM E) || flat k v) (some E) (jz (ir as) E)
def DY (E:En) (i:Nat)(Q:Xd):Prop:=match E[i]? with
 | some (some (_,d))=>aL (rP E i) fun E'=>Q E' .sh d
 | _=>False
def yG (r:DR)(as:List Arg)(E:En)(os:Xe)(Q:Xd):Prop:=aL (c7 as E os) fun ds=>r ds fun k v=>aL (rS as E k v) fun E2=>Q E2 k v
def lY (i:Nat):Xa->Bool
 | []=>false
 | j::r=>i == j || lY i r
def pL:Xa->Xa->En->Bool
 | [],_,_=>true
 | i::r,ks,E=>(!lY i ks && !lY i r && jd E i) && pL r ks E
def tK (ms:XX)(as:List Arg)(E:En):Bool:=shape ms as && pL (lent ms as) (kept ms as) E
def jW:XX->List Arg->XS->En->Option En
 | [],[],[],E=>some E
 | false::ms,_::r,us,E=>jW ms r us E
 | true::ms,.pk i::r,u::us,E=>match E[i]? with
  | some (some (.ow p,.list _))=>dJ (Bv u) (jW ms r us (E.set i (some (.ow p,u)))) none
  | _=>none
 | _,_,_,_=>none
def tX (ms:XX)(as:List Arg)(us:XS)(E:En)(k:Kd)(v:PyData):Option En:=dJ ((kept ms as).all (jM E) || (flat k v && us.all (flat (.ow false)))) (some E) (jz (kept ms as) E)
def Gb (ms:XX)(as:List Arg)(E:En)(us:XS)(k:Kd)(v:PyData)(Q:Xd):Prop:=aL (jW ms as us E) fun E2=>aL (tX ms as us E2 k v) fun E3=>Q E3 k v
def DH (sp:bq)(ms:XX)(as:List Arg)(x:XC)(E:En)(os:Xe)(Q:Xd):Prop:=aL (c7 as E os) fun ds=>bK (tK ms as E) (sp ds (fun us k v=>Gb ms as E us k v Q) x)
def ud (v:PyData)(Q:Bool->Prop):Prop:=aL (kI v) Q
def DO (E:En) (i:Nat)(Q:Xh):Prop:=match E[i]? with
 | some (some (k,d))=>bK k.rd (ud d (Q E))
 | _=>False
def AS (v:PyData)(Q:Bool->Prop):Prop:=match v with
 | .bool b=>Q b
 | _=>False
def qT (v:PyData)(Q:Int->Prop):Prop:=match v with
 | .int i=>Q i
 | _=>False
def JH (v:PyData)(Q:XS->Prop):Prop:=aL (items v) Q
def vQ (v:PyData)(Q:XS->Prop):Prop:=match v with
 | .list xs=>Q xs
 | _=>False
def Ds (E:En) (i:Nat)(Q:Xd):Prop:=match E[i]? with
 | some (some (k,d))=>bK (!k.pin) (Q (E.set i none) k d)
 | _=>False
def DQ (f:DM) (i:Nat)(as:List Arg)(E:En)(os:Xe)(Q:Xd):Prop:=aL (c7 as E os) fun args=>match E[i]? with
 | some (some (.ow p,.list ds))=>f ds args fun new v=>Q (E.set i (some (.ow p,.list new))) .sh v
 | _=>False
def Mq (f:Int->Int->Int)(E:En) (i:Nat)(v:PyData)(Q:Xi):Prop:=match E[i]? with
 | some (some (_,.int a))=>qT v fun b=>Q (E.set i (some (.sh,.int (f a b))))
 | _=>False
def stK:Xa->XS->En->Option En
 | [],[],E=>some E
 | i::is,d::ds,E=>dJ (rZ E i) (stK is ds (E.set i (some (.sh,d)))) none
 | _,_,_=>none
def Jb (is:Xa)(v:PyData)(E:En)(Q:Xi):Prop:=match v with
 | .tuple ds=>aL (stK is ds E) Q
 | _=>False
def xZ (n:Nat) (i:Int):Option Nat:=match i with
 | .ofNat k=>dJ (Nat.blt k n) (some k) none
 | .negSucc k=>kZ n (.negSucc k)
def bN (i:Nat):DE:=fun _ E Q=>DY E i Q
def ah (r:DR)(as:List Arg):DE:=fun x E Q=>jY as x E fun E1 os=>yG r as E1 os Q
def aC (sp:bq)(ms:XX)(as:List Arg):DE:=fun x E Q=>jY as x E fun E1 os=>DH sp ms as x E1 os Q
def cu (d:DE):DT:=fun x E Q=>d x E fun E' _ v=>ud v (Q E')
def AJ (i:Nat):DT:=fun _ E Q=>DO E i Q
def xE (a b:DE):DE:=fun x E Q=>a x E fun E1 _ v=>AS v fun c=>dJ c (b x E1 Q) (Q E1 .sh (.bool false))
def pQ (a b:DE):DE:=fun x E Q=>a x E fun E1 _ v=>AS v fun c=>dJ c (Q E1 .sh (.bool true)) (b x E1 Q)
def pK (a:DE):DE:=fun x E Q=>a x E fun E1 _ v=>ud v fun c=>Q E1 .sh (.bool !c)
def jI (f f':XJ)(a b c:DE):DE:=fun x E Q=>a x E fun E1 _ u=>qT u fun i=>b x E1 fun E2 _ v=>qT v fun j=>dJ (f i j) (c x E2 fun E3 _ w=>qT w fun k=>Q E3 .sh (.bool (f' j k))) (Q E2 .sh (.bool false))
def zS (c:DT)(a b:DE):DE:=fun x E Q=>c x E fun E1 t=>dJ t (a x E1 Q) (b x E1 Q)
def dG (c:DT)(a b:DS):DS:=fun D E=>c D.xc E fun E1 t=>dJ t (a D E1) (b D E1)
def aX (i:Nat)(e:DE):DS:=fun D E=>e D.xc E fun E' k v=>bK (rZ E' i) (D.nx (E'.set i (some (k,v))))
def sF (is:Xa)(e:DE):DS:=fun D E=>e D.xc E fun E' k v=>bK k.fz (Jb is v E' D.nx)
def lS (i:Nat):DS:=fun D E=>Ds E i D.rt
def tH (f:DM) (i:Nat)(es:List DE):DE:=fun x E Q=>bK (jd E i) (jY (es.map .ev) x E fun E1 os=>DQ f i (es.map .ev) E1 os Q)
def i7 (i:Nat)(j:DE)(e:DE):DS:=fun D E=>e D.xc E fun E1 k v=>bK k.fz (bK (here E1 i) (j D.xc E1 fun E2 k2 w=>bK k2.fz (setI E2 i w v D.nx)))
where setI (E:En) (i:Nat)(w v:PyData)(Q:Xi):Prop:=match E[i]?,w with
 | some (some (.ow p,.list ds)),.int a=>aL (xZ ds.length a) fun n=>Q (E.set i (some (.ow p,.list (ds.set n v))))
 | some (some (.dk p,.dict kvs)),w=>(qg w=true/\kvs.length < 16777216)/\Q (E.set i (some (.dk p,.dict (putD kvs w v))))
 | some (some (.dt p,.dict (_::kvs))),.tuple ks=>(ks.all qg=true/\kvs.length < 16777216)/\Q (E.set i (some (.dt p,.dict ((.none,.none)::putD kvs (.tuple ks) v))))
 | _,_=>False
def QU (f:Int->Int->Int) (i:Nat)(e:DE):DS:=fun D E=>bK (here E i) (e D.xc E fun E1 _ v=>Mq f E1 i v D.nx)
def iE (e:DE):DI:=fun x E Q=>e x E fun E' k v=>bK k.fz (JH v fun ds=>Q E' ds)
def nh (g:XS->Option (XS))(as:List Arg):DI:=fun x E Q=>jY as x E fun E1 os=>aL (c7 as E1 os) fun ds=>aL (g ds) fun xs=>Q E1 xs
def xD (e:DE):DI:=fun x E Q=>e x E fun E' k v=>bK k.fz (vQ v fun ds=>Q E' (ju ds))
def Jl (a b:DE):DI:=fun x E Q=>a x E fun E1 k v=>bK k.fz (b x E1 fun E2 k2 v2=>bK k2.fz (vQ v fun ds=>vQ v2 fun es=>Q E2 ((ds.zip es).map fun p=>.tuple [p.1,p.2])))
def bI {α:Type}{o:Option α}{Q:α->Prop}:(∃ a,o=some a/\Q a)=aL o Q:=by
 cases o with
 | none=>exact propext ⟨fun ⟨a,e,_⟩=>(by cases e),fun h=>h.elim⟩
 | some a=>exact propext ⟨fun ⟨b,e,q⟩=>by cases e;exact q,fun h=>⟨a,rfl,h⟩⟩
def dU {b:Bool}{P:Prop}:bK b P=(b=true/\P):=by
 cases b with
 | true=>exact propext ⟨fun h=>⟨rfl,h⟩,fun h=>h.2⟩
 | false=>exact propext ⟨fun h=>h.elim,fun h=>by cases h.1⟩
universe u
def cy {α:Sort u}{b:Bool}{x y:α}:dJ b x y=if b=true then x else y:=by cases b <;> rfl
def AO {E:En}{i:Nat}:rP E i=cY E i:=by
 unfold rP cY;split
 ·rw [cy]
 ·rfl
theorem sI:∀ {is:Xa}{E:En},jz is E=dY is E
 | [],_=>rfl
 | i::r,E=>by
  rw [jz,dY,AO];congr 1;funext E1;exact sI
theorem fP:∀ {as:List Arg}{E:En}{os:Xe},c7 as E os=fill as E os
 | [],_,[]=>rfl
 | [],_,_::_=>rfl
 | .pk i::r,E,none::os=>by
  rw [c7,fill,fP];split
  ·rw [cy]
  ·rfl
 | .ev _::r,E,some v::os=>by rw [c7,fill,fP]
 | .pk _::_,_,[]=>rfl
 | .pk _::_,_,some _::_=>rfl
 | .ev _::_,_,[]=>rfl
 | .ev _::_,_,none::_=>rfl
def AB {as:List Arg}{E:En}{k:Kd}{v:PyData}:rS as E k v=Qm as E k v:=by
 unfold rS Qm;rw [cy,sI]
theorem uI {i:Nat}:∀ {l:Xa},lY i l=l.contains i
 | []=>rfl
 | j::r=>by rw [lY,List.contains_cons,uI]
theorem Bw {ks:Xa}{E:En}:∀ {l:Xa},pL l ks E=(decide l.Nodup && l.all fun i=>!ks.contains i && jd E i)
 | []=>rfl
 | i::r=>by
  rw [pL,Bw,uI,uI,SG];have:decide (i::r).Nodup=(!r.contains i && decide r.Nodup):=by
   rw [U0];simp [V0]
  rw [this];cases ks.contains i <;> cases r.contains i <;> cases jd E i <;> cases decide r.Nodup <;> rfl
def Ic {ms:XX}{as:List Arg}{E:En}:tK ms as E=zb ms as E:=by
 unfold tK zb;rw [Bw,Bool.and_assoc];rfl
theorem vz:∀ {ms:XX}{as:List Arg}{us:XS}{E:En},jW ms as us E=rK ms as us E
 | [],[],[],E=>rfl
 | [],[],_::_,E=>rfl
 | [],_::_,_,E=>rfl
 | false::ms,_::r,us,E=>by rw [jW,rK,vz]
 | false::ms,[],us,E=>rfl
 | true::ms,[],us,E=>rfl
 | true::ms,.ev _::_,us,E=>rfl
 | true::ms,.pk i::r,[],E=>rfl
 | true::ms,.pk i::r,u::us,E=>by
  rw [jW,rK];split
  ·rw [cy,vz]
  ·rfl
def Hj {ms:XX}{as:List Arg}{us:XS}{E:En}{k:Kd}{v:PyData}:tX ms as us E k v=Mr ms as us E k v:=by
 unfold tX Mr;rw [cy,sI]
def B0 {v:PyData}{Q:Bool->Prop}:(∃ b,kI v=some b/\Q b)=ud v Q:=bI
def IQ {v:PyData}{Q:Bool->Prop}:(∃ b,v=.bool b/\Q b)=AS v Q:=by
 cases v with
 | bool b=>exact propext ⟨fun ⟨c,e,q⟩=>by cases e;exact q,fun h=>⟨b,rfl,h⟩⟩
 | _=>exact propext ⟨fun ⟨c,e,_⟩=>(by cases e),fun h=>h.elim⟩
def OW {v:PyData}{Q:Int->Prop}:(∃ b,v=.int b/\Q b)=qT v Q:=by
 cases v with
 | int b=>exact propext ⟨fun ⟨c,e,q⟩=>by cases e;exact q,fun h=>⟨b,rfl,h⟩⟩
 | _=>exact propext ⟨fun ⟨c,e,_⟩=>(by cases e),fun h=>h.elim⟩
def CW {v:PyData}{Q:XS->Prop}:(∃ b,v=.list b/\Q b)=vQ v Q:=by
 cases v with
 | list b=>exact propext ⟨fun ⟨c,e,q⟩=>by cases e;exact q,fun h=>⟨b,rfl,h⟩⟩
 | _=>exact propext ⟨fun ⟨c,e,_⟩=>(by cases e),fun h=>h.elim⟩
def Bb {E:En}{i:Nat}:rZ E i=bZ E i:=by
 unfold bZ rZ b9;generalize E[i]?=z;rcases z with _ | _ | ⟨k,d⟩ <;> rfl
theorem Fg:∀ {is:Xa}{ds:XS}{E:En},stK is ds E=bS is ds E
 | [],[],E=>rfl
 | [],_::_,E=>rfl
 | _::_,[],E=>rfl
 | i::is,d::ds,E=>by rw [stK,bS,cy,Fg,Bb]
def zT {n:Nat}{i:Int}:xZ n i=kZ n i:=by
 cases i with
 | ofNat k =>
  unfold xZ kZ;show dJ (Nat.blt k n) (some k) none=_;rw [if_pos (show (0:Int)<=Int.ofNat k from VW k),cy]
  have:(Nat.blt k n=true)=((Int.ofNat k) < (n:Int)):=propext ⟨fun h=>Ui.mpr (Nat.blt_eq.mp h),fun h=>Nat.blt_eq.mpr (Ui.mp h)⟩
  simp only [this];rfl
 | negSucc k=>rfl
def Kq {d:DE}:cu d=NY d:=by
 funext x E Q;unfold cu NY;simp only [B0]
def JY {a b:DE}:xE a b=Mb a b:=by
 funext x E Q;unfold xE Mb;simp only [IQ,cy]
def Ge {a b:DE}:pQ a b=Qj a b:=by
 funext x E Q;unfold pQ Qj;simp only [IQ,cy]
def AF {a:DE}:pK a=Mx a:=by
 funext x E Q;unfold pK Mx;simp only [B0]
def vC {f f':XJ}{a b c:DE}:jI f f' a b c=Gv f f' a b c:=by
 funext x E Q;unfold jI Gv;simp only [OW,cy]
def OA {c:DT}{a b:DE}:zS c a b=P6 c a b:=by
 funext x E Q;unfold zS P6;simp only [cy]
def KR {c:DT}{a b:DS}:dG c a b=Nf c a b:=by
 funext D E;unfold dG Nf;simp only [cy]
def u5 {i:Nat}{e:DE}:aX i e=LP i e:=by
 funext D E;unfold aX LP;simp only [dU,Bb]
def OS {e:DE}:iE e=oE e:=by
 funext x E Q;unfold iE oE;simp only [dU,bI];rfl
def MY {e:DE}:xD e=Qv e:=by
 funext x E Q;unfold xD Qv;simp only [dU,CW]
end Dv
namespace L2
open PySem PySem.Spec PyProof.Rows
abbrev Key:=Sum Int Str
def qC:Key->Value->Bool
 | .inl k,v=>Value.isInt k v
 | .inr x,v=>Value.isStrOf x v
def Q7 (w:World):Key->Int
 | .inl k=>hashInt k
 | .inr x=>hashStr w x
def cX:∀ {k:Key}{v:Value},qC k v=true->(∃ i t,k=Sum.inl i/\v=Value.int i t)\/(∃ x t,k=Sum.inr x/\v=Value.str x t)
 | .inl i,v,h=>by
  obtain ⟨t,e⟩:=Value.isInt_shape (k:=i) (v:=v) h;exact .inl ⟨i,t,rfl,e⟩
 | .inr x,v,h=>by
  obtain ⟨t,e⟩:=Value.isStrOf_shape (x:=x) (v:=v) h;exact .inr ⟨x,t,rfl,e⟩
def Ep (i:Int)(t:Tok):qC (.inl i) (.int i t)=true:=by simp [qC,Value.isInt]
def EB (x:Str)(t:Tok):qC (.inr x) (.str x t)=true:=by simp [qC,Value.isStrOf]
def MB (a b:Int):decide ((Sum.inl a:Key)=Sum.inl b)=(a == b):=by
 by_cases e:a=b
 ·subst e;simp
 ·have h:¬ (Sum.inl a:Key)=Sum.inl b:=fun q=>e (Sum.inl.inj q)
  rw [Si h];exact (beq_eq_false_iff_ne.mpr e).symm
def ME (a b:Str):decide ((Sum.inr a:Key)=Sum.inr b)=decide (a=b):=by
 by_cases e:a=b
 ·subst e;simp
 ·have h:¬ (Sum.inr a:Key)=Sum.inr b:=fun q=>e (Sum.inr.inj q)
  rw [Si h,Si e]
def MD (a:Int) (b:Str):decide ((Sum.inl a:Key)=Sum.inr b)=false:=Si (fun q=>nomatch q)
def Mt (a:Str) (b:Int):decide ((Sum.inr a:Key)=Sum.inl b)=false:=Si (fun q=>nomatch q)
def cT (prog:Program)(w:World):PySem.KeyKind prog w Key where
 is:=qC
 hash:=Q7 w
 inj:=fun v a b ha hb=>by
  rcases cX ha with ⟨i,t,rfl,rfl⟩ | ⟨x,t,rfl,rfl⟩
  ·rcases cX hb with ⟨j,u,rfl,e⟩ | ⟨y,u,rfl,e⟩
   ·injection e with e1 _;rw [e1]
   ·exact nomatch e
  ·rcases cX hb with ⟨j,u,rfl,e⟩ | ⟨y,u,rfl,e⟩
   ·exact nomatch e
   ·injection e with e1 _;rw [e1]
 byValue:=fun k v h=>by
  rcases cX h with ⟨i,t,rfl,rfl⟩ | ⟨x,t,rfl,rfl⟩ <;> rfl
 pyHash:=fun hv h=>by
  rcases cX hv with ⟨i,t,rfl,rfl⟩ | ⟨x,t,rfl,rfl⟩
  ·exact wpAny_pyHash_int h
  ·exact wpAny_pyHash_str h
 eqBool:=fun hu hv h=>by
  rcases cX hu with ⟨i,t,rfl,rfl⟩ | ⟨x,t,rfl,rfl⟩
  ·rcases cX hv with ⟨j,u,rfl,rfl⟩ | ⟨y,u,rfl,rfl⟩
   ·rw [MB] at h;exact wpAny_eqBool_int h
   ·rw [MD] at h;exact SeqAt.EqAt.int_str i t y u _ _ _ _ h
  ·rcases cX hv with ⟨j,u,rfl,rfl⟩ | ⟨y,u,rfl,rfl⟩
   ·rw [Mt] at h;exact SeqAt.EqAt.str_int x t j u _ _ _ _ h
   ·rw [ME] at h;exact wpAny_eqBool_str h
 «strs»:=fun k x t v h=>by
  rcases cX h with ⟨i,u,rfl,e⟩ | ⟨y,u,rfl,e⟩
  ·exact nomatch e
  ·injection e with e1 _
   subst e1;cases v <;> rfl
def An (prog:Program)(w:World) (i:Int)(t:Tok):(cT prog w).is (.inl i) (.int i t)=true:=Ep i t
def z6 (prog:Program)(w:World) (x:Str)(t:Tok):(cT prog w).is (.inr x) (.str x t)=true:=EB x t
set_option genInjectivity true in
inductive V where
 | br | bl (b:Bool) | int (i:Int) | str (x:Str) | mV (b:Array UInt8) | Bu (b:UInt64) | ref (a:Addr) | ty (n:String)
 deriving DecidableEq
def RelV:V->Value->Prop
 | .br,u=>u=Value.none
 | .bl b,u=>u=Value.bool b
 | .int i,u=>∃ t,u=Value.int i t
 | .str x,u=>∃ t,u=Value.str x t
 | .mV b,u=>∃ t,u=Value.bytes b t
 | .Bu b,u=>∃ t,u=Value.float b t
 | .ref a,u=>u=Value.ref a
 | .ty n,u=>u=Value.type n
abbrev Vals:List V->XU->Prop:=Paired RelV
theorem Vals.length {xs:List V}{us:XU}(r:Vals xs us):xs.length=us.length:=Paired.length r
theorem Vals.get:∀ {xs:List V}{us:XU}{i:Nat}{x:V},Vals xs us->xs[i]?=some x->∃ u,us[i]?=some u/\RelV x u
 | _,_,_,_,.nil,e=>by simp at e
 | _,_,0,_,.cons r _,e=>by simp at e;subst e;exact ⟨_,rfl,r⟩
 | _,_,i + 1,x,.cons _ t,e=>by
  obtain ⟨u,h1,h2⟩:=Vals.get (i:=i) (x:=x) t (by simpa using e)
  exact ⟨u,by simpa using h1,h2⟩
theorem Vals.set {x:V}{u:Value}(r:RelV x u):∀ {xs:List V}{us:XU} (i:Nat),Vals xs us->Vals (xs.set i x) (us.set i u)
 | _,_,_,.nil=>.nil
 | _,_,0,.cons _ t=>.cons r t
 | _,_,i + 1,.cons q t=>.cons q (Vals.set r i t)
theorem Vals.append:∀ {xs ys:List V}{us ws:XU},Vals xs us->Vals ys ws->Vals (xs++ys) (us++ws)
 | _,_,_,_,.nil,s=>s
 | _,_,_,_,.cons r t,s=>.cons r (Vals.append t s)
theorem Vals.take:∀ {xs:List V}{us:XU} (n:Nat),Vals xs us->Vals (xs.take n) (us.take n)
 | _,_,0,_=>.nil
 | _,_,_ + 1,.nil=>.nil
 | _,_,n + 1,.cons r t=>.cons r (Vals.take n t)
theorem Vals.drop:∀ {xs:List V}{us:XU} (n:Nat),Vals xs us->Vals (xs.drop n) (us.drop n)
 | _,_,0,r=>r
 | _,_,_ + 1,.nil=>.nil
 | _,_,n + 1,.cons _ t=>Vals.drop n t
def jQ:Option V->XQ->Prop
 | some v,some u=>RelV v u
 | none,none=>True
 | _,_=>False
def KV {κ:Type}:List (κ×V)->List (κ×Value)->Prop:=Paired fun (p:κ×V)(q:κ×Value)=>p.1=q.1/\RelV p.2 q.2
def kV:Key->V
 | .inl i=>.int i
 | .inr x=>.str x
inductive HO where
 /-- a list -/
 | lst (xs:List V)
 /-- a tuple (never changes) -/
 | tup (xs:List V)
 /-- a dict whose keys are ints and texts;one whose keys are tuples of ints and texts (the empty one is both) -/
 | dK (kvs:List (Key×V)) | dT (kvs:List (List Key×V))
 /-- a set of ints: its members,its size -/
 | set (S:Int->Bool) (n:Nat)
 /-- an instance of the class at C,its dict at dx,its attributes -/
 | ins (C dx:Addr)(fs:List (Str×V))
 /-- the dict of the instance at x -/
 | own (x:Addr)
 /-- the dict of an exception -/
 | xd (fs:List (Str×V))
 /-- a bound method,f of x -/
 | met (f x:Addr)
 /-- a range object lo,lo + 1,.. below hi -/
 | rj (lo hi:Int)
 /-- a thing that is known to the object (the script;a dict while a loop walks it): read,never written while it is so -/
 | cE (o:Obj)(u:HO)
 /-- a code object's table -/
 | vH (ps:XR)
 /-- any other thing,by what is true of its one object (a def of one's own: SetO a S n:=HO.ext fun h=>..) -/
 | ext (φ:Heap->Prop)
abbrev Hp:=Addr->Option HO
def upd (H:Hp)(a:Addr)(o:HO):Hp:=fun b=>if b=a then some o else H b
def aH {H:Hp}{a:Addr}{o:HO}:upd H a o a=some o:=by unfold upd;rw [if_pos rfl]
def ak {H:Hp}{a b:Addr}{o:HO}(h:b≠a):upd H a o b=H b:=by unfold upd;rw [if_neg h]
def BX {H:Hp}{a b:Addr}{o u:HO}(h:H a=some o)(h':H b=some u)(d:o≠u):a≠b:=by
 intro e;subst e;rw [h] at h';exact d (Option.some.inj h')
def gj {H:Hp}{a b:Addr}{o:HO}(h:H a=some o)(h':H b=none):a≠b:=by
 intro e;subst e;rw [h] at h';cases h'
section
variable (P:Program)(w:World)
def bL (H:Hp)(h:Heap)(a:Addr):HO->Prop
 | .lst xs=>xs.length<=sizeLine/\∃ (its:XU) (n:Nat),Vals xs its/\h.get? a=some { cls:=.type "list",data:=.seq its.toArray n }
 | .tup xs=>xs.length<=sizeLine/\∃ its:XU,Vals xs its/\IsTup h a its.toArray
 | .dK kvs=>kvs.length<=sizeLine/\(a == sysModules)=false/\∃ vs,KV kvs vs/\h.DictOf (cT P w) a vs
 | .dT kvs=>kvs.length<=sizeLine/\(a == sysModules)=false/\∃ xs:List (List Key×Addr×Value),
   Paired (fun (p:List Key×V)(q:List Key×Addr×Value)=>p.1=q.1/\H q.2.1=some (.tup (p.1.map kV))/\RelV p.2 q.2.2) kvs xs /\
   ∃ o es ep,h.get? a=some o/\o.ExactDict/\o.data=.dict es ep/\es.toList=xs.map (entryOfKey (tupleKind (cT P w)))/\(xs.map (·.1)).Nodup
 | .set S n=>h.SetOf (intKind P w) a S n
 | .ins C dx fs=>H dx=some (.own a)/\fs.length<=1000/\dx≠a/\h.get? a=some (PySem.W.instObj C dx) /\
   ∃ mA,h.Ns1 dx mA/\(∀ f,jQ (fs.lookup f) (mA f))/\PySem.Within mA (fs.map (·.1))
 | .own _=>∃ o,h.get? a=some o
 | .xd fs=>∃ mA,h.Ns1 a mA/\∀ f,jQ (fs.lookup f) (mA f)
 | .rj lo hi=>∃ t u v,h.get? a=some { cls:=.type "range",data:=.fields #[.int lo t,.int hi u,.int 1 v] }
 | .cE o u=>h.get? a=some o/\bL H h a u
 | .vH ps=>h.get? a=some { cls:=.none,data:=.fields ps }
 | .met f x=>h.get? a=some (PySem.W.methodObj (.ref f) (.ref x))
 | .ext φ=>φ h/\(∃ o,h.get? a=some o)/\∀ h1 h2:Heap,φ h1->(∀ o,h1.get? a=some o->h2.get? a=some o)->φ h2
def dm (H:Hp)(h:Heap):Prop:=∀ a o,H a=some o->bL P w H h a o
end
section
variable {P:Program}{w:World}{H H':Hp}{h h':Heap}{a:Addr}{o:HO}
theorem bL.lt (x:bL P w H h a o):a < h.objs.size:=by
 cases o with
 | lst xs=>obtain ⟨_,_,_,_,e⟩:=x;exact S3 e
 | tup xs=>obtain ⟨_,_,_,p⟩:=x;exact p.lt
 | dK kvs=>obtain ⟨_,_,_,_,o,_,_,e,_⟩:=x;exact S3 e
 | dT kvs=>obtain ⟨_,_,_,_,o,_,_,e,_⟩:=x;exact S3 e
 | set S n=>obtain ⟨o,_,_,_,e,_⟩:=x;exact S3 e
 | ins C dx fs=>obtain ⟨_,_,_,e,_⟩:=x;exact S3 e
 | own y=>obtain ⟨_,e⟩:=x;exact S3 e
 | xd fs=>obtain ⟨_,⟨_,_,_,e,_⟩,_⟩:=x;exact S3 e
 | rj lo hi=>obtain ⟨_,_,_,e⟩:=x;exact S3 e
 | cE ob u=>obtain ⟨e,_⟩:=x;exact S3 e
 | vH ps=>exact S3 (show h.get? a=some _ from x)
 | met f y=>exact S3 (show h.get? a=some _ from x)
 | ext φ=>obtain ⟨_,⟨_,e⟩,_⟩:=x;exact S3 e
theorem Paired.Dk {α β:Type}{F G:α->β->Prop}:∀ {l₁:List α}{l₂:List β},Paired F l₁ l₂->(∀ a b,F a b->G a b)->Paired G l₁ l₂
 | _,_,.nil,_=>.nil
 | _,_,.cons r t,f=>.cons (f _ _ r) (Paired.Dk t f)
def bL.stay (x:bL P w H h a o)(k:∀ b u,(b=a\/H b=some (.own a))->h.get? b=some u->h'.get? b=some u)
  (ho:∀ b,H b=some (.own a)->H' b=some (.own a))(ht:∀ b xs,H b=some (.tup xs)->H' b=some (.tup xs)):bL P w H' h' a o:=by
 induction o with
 | lst xs=>obtain ⟨z,its,n,r,e⟩:=x;exact ⟨z,its,n,r,k _ _ (.inl rfl) e⟩
 | tup xs=>obtain ⟨z,its,r,ob,e,c⟩:=x;exact ⟨z,its,r,ob,k _ _ (.inl rfl) e,c⟩
 | dK kvs=>obtain ⟨z,y,vs,r,ob,es,ep,e,c⟩:=x;exact ⟨z,y,vs,r,ob,es,ep,k _ _ (.inl rfl) e,c⟩
 | dT kvs =>
  obtain ⟨z,y,xs,r,ob,es,ep,e,c⟩:=x;exact ⟨z,y,xs,Paired.Dk r fun p q z=>⟨z.1,ht _ _ z.2.1,z.2.2⟩,ob,es,ep,k _ _ (.inl rfl) e,c⟩
 | set S n=>obtain ⟨ob,es,ep,t,e,c⟩:=x;exact ⟨ob,es,ep,t,k _ _ (.inl rfl) e,c⟩
 | ins C dx fs =>
  obtain ⟨d,z,ne,e,mA,⟨od,es,ep,e2,c⟩,r⟩:=x;exact ⟨ho _ d,z,ne,k _ _ (.inl rfl) e,mA,⟨od,es,ep,k _ _ (.inr d) e2,c⟩,r⟩
 | own y=>obtain ⟨ob,e⟩:=x;exact ⟨ob,k _ _ (.inl rfl) e⟩
 | xd fs=>obtain ⟨mA,⟨od,es,ep,e,c⟩,r⟩:=x;exact ⟨mA,⟨od,es,ep,k _ _ (.inl rfl) e,c⟩,r⟩
 | rj lo hi=>obtain ⟨t,u,v,e⟩:=x;exact ⟨t,u,v,k _ _ (.inl rfl) e⟩
 | cE ob u ih=>obtain ⟨e,q⟩:=x;exact ⟨k _ _ (.inl rfl) e,ih q⟩
 | vH ps =>
  have e:h.get? a=some { cls:=.none,data:=.fields ps }:=x;show h'.get? a=some { cls:=.none,data:=.fields ps };exact k a _ (.inl rfl) e
 | met f y =>
  have e:h.get? a=some (PySem.W.methodObj (.ref f) (.ref y)):=x;show h'.get? a=some (PySem.W.methodObj (.ref f) (.ref y));exact k a _ (.inl rfl) e
 | ext φ=>obtain ⟨p,⟨o,e⟩,st⟩:=x;exact ⟨st _ _ p fun o q=>k _ _ (.inl rfl) q,⟨o,k _ _ (.inl rfl) e⟩,st⟩
theorem dm.lt (x:dm P w H h)(e:H a=some o):a < h.objs.size:=(x a o e).lt
def dm.fresh (x:dm P w H h)(e:h.objs.size<=a):H a=none:=by
 cases q:H a with
 | none=>rfl
 | some u=>exact absurd (SK (x.lt q) e) (Sf _)
def dm.kept (x:dm P w H h)(k:∀ b u,h.get? b=some u->h'.get? b=some u):dm P w H h':=fun a o e =>
 (x a o e).stay (fun b u _ q=>k b u q) (fun _ q=>q) fun _ _ q=>q
def dm.laid (x:dm P w H h)(k:∀ b u,h.get? b=some u->h'.get? b=some u)(hp:h.objs.size<=a)(new:bL P w (upd H a o) h' a o):dm P w (upd H a o) h':=fun b u e=>by
 have hn:=x.fresh hp
 by_cases hb:b=a
 ·subst hb;rw [aH] at e;cases e;exact new
 ·rw [ak hb] at e;exact (x b u e).stay (fun c v _ q=>k c v q) (fun c q=>by rw [ak (gj q hn)];exact q) fun c xs q=>by rw [ak (gj q hn)];exact q
end
def Rd (H:Hp)(a:Addr)(u:HO):Prop:=H a=some u\/∃ o,H a=some (.cE o u)
def Rd.ok {P:Program}{w:World}{H:Hp}{h:Heap}{a:Addr}{u:HO}(r:Rd H a u)(x:dm P w H h):bL P w H h a u:=by
 rcases r with r | ⟨o,r⟩
 ·exact x a u r
 ·obtain ⟨_,q⟩:=x a _ r;exact q
def FA:Option HO->Prop
 | some (.lst _)=>True
 | some (.dK _)=>True
 | some (.dT _)=>True
 | some (.set _ _)=>True
 | some (.ins _ _ _)=>True
 | some (.ext _)=>True
 | _=>False
section
variable {P:Program}{w:World}{H:Hp}{h h':Heap}{x e:Addr}{o':HO}
def dm.write (ok:dm P w H h)(mu:FA (H x))(he:e=x\/H e=some (.own x))(k:∀ b u,b≠e->h.get? b=some u->h'.get? b=some u)(heo:∃ u,h'.get? e=some u)
  (new:bL P w (upd H x o') h' x o'):dm P w (upd H x o') h':=fun b u q=>by
 have nown:∀ c y,H c=some (.own y)->c≠x:=fun c y r z=>by subst z;rw [r] at mu;exact mu
 have ntup:∀ c xs,H c=some (.tup xs)->c≠x:=fun c xs r z=>by subst z;rw [r] at mu;exact mu
 by_cases hb:b=x
 ·subst hb;rw [aH] at q;cases q;exact new
 ·rw [ak hb] at q
  by_cases hbe:b=e
  ·have q':H b=some (.own x):=by
    rcases he with z | z
    ·exact absurd (hbe.trans z) hb
    ·rw [hbe];exact z
   rw [q] at q';cases q';obtain ⟨v,hv⟩:=heo;exact ⟨v,by rw [hbe];exact hv⟩
  ·refine (ok b u q).stay (fun c v hc r=>k c v ?_ r) (fun c r=>by rw [ak (nown c b r)];exact r) fun c xs r=>by rw [ak (ntup c xs r)];exact r
   rcases hc with rfl | hc
   ·exact hbe
   ·rintro rfl;rcases he with z | z
    ·exact nown c b hc z
    ·rw [hc] at z;cases z;exact hb rfl
end
structure Un (fs ex:XW)(H H':Hp)(h h':Heap):Prop where
 keep:∀ b o,h.get? b=some o->H b=none->b∉fs->b∉ex->h'.get? b=some o
 slot:∀ b o,h.get? b=some o->H b=none->b∈fs->b∉ex->∃ sl,h'.get? b=some { o with slots:=sl }
 free:∀ b o,h.get? b=some o->H b=none->b∉ex->H' b=none
 there:∀ b o,h.get? b=some o->b∉ex->∃ o',h'.get? b=some o'
 tups:∀ b xs,H b=some (.tup xs)->H' b=some (.tup xs)
 jV:∀ b o u,H b=some (.cE o u)->H' b=some (.cE o u)
 lE:∀ b ps,H b=some (.vH ps)->∃ more,H' b=some (.vH (ps++more))
section
variable {fs fs' ex ex':XW}{H H1 H2:Hp}{h h1 h2 h':Heap}{a x e:Addr}{o:HO}
def Un.any (u:Un fs ex H H1 h h1){b:Addr}{ob:Obj}(q:h.get? b=some ob)(n:H b=none)(hx:b∉ex):∃ sl,h1.get? b=some { ob with slots:=sl }:=by
 by_cases hb:b∈fs
 ·exact u.slot b ob q n hb hx
 ·exact ⟨ob.slots,u.keep b ob q n hb hx⟩
def Un.kept (k:∀ b u,h.get? b=some u->h'.get? b=some u):Un fs ex H H h h' :=
 ⟨fun b ob q _ _ _=>k b ob q,fun b ob q _ _ _=>⟨ob.slots,k b ob q⟩,fun _ _ _ n _=>n,fun b ob q _=>⟨ob,k b ob q⟩,fun _ _ q=>q,fun _ _ _ q=>q,fun _ ps q=>⟨#[],by rw [q];simp⟩⟩
def Un.refl:Un fs ex H H h h:=Un.kept fun _ _ q=>q
def Un.laid (k:∀ b u,h.get? b=some u->h'.get? b=some u)(hp:h.objs.size<=a)(hn:H a=none):Un fs ex H (upd H a o) h h' where
 keep:=fun b u q _ _ _=>k b u q
 slot:=fun b u q _ _ _=>⟨u.slots,k b u q⟩
 free:=fun b u q n _=>by rw [ak (S8 (SK (S3 q) hp))];exact n
 there:=fun b u q _=>⟨u,k b u q⟩
 tups:=fun b xs q=>by rw [ak (gj q hn)];exact q
 jV:=fun b u xs q=>by rw [ak (gj q hn)];exact q
 lE:=fun b ps q=>⟨#[],by rw [ak (gj q hn),q];simp⟩
def Un.write (mu:FA (H x))(he:e=x\/H e=some (.own x))(k:∀ b u,b≠e->h.get? b=some u->h'.get? b=some u)(heo:∃ u,h'.get? e=some u):Un fs ex H (upd H x o) h h':=by
 have hx:∀ b,H b=none->b≠x:=fun b n z=>by subst z;rw [n] at mu;exact mu
 have hb:∀ b,H b=none->b≠e:=fun b n z=>by
  subst z;rcases he with r | r
  ·exact hx b n r
  ·rw [n] at r;cases r
 have hm:∀ b u,H b=some u->¬ FA (some u)->b≠x:=fun b u q nm z=>by subst z;rw [q] at mu;exact nm mu
 refine ⟨fun b u q n _ _=>k b u (hb b n) q,fun b u q n _ _=>⟨u.slots,k b u (hb b n) q⟩,fun b u q n _=>by rw [ak (hx b n)];exact n,fun b u q _=>?_,
  fun b xs q=>by rw [ak (hm b _ q fun z=>z)];exact q,fun b u xs q=>by rw [ak (hm b _ q fun z=>z)];exact q,fun b ps q=>⟨#[],by rw [ak (hm b _ q fun z=>z),q];simp⟩⟩
 by_cases hbe:b=e
 ·subst hbe;exact heo
 ·exact ⟨u,k b u hbe q⟩
end
def JA (h:Heap)(H:Hp):XW:=(List.range h.objs.size).filter fun a=>(H a).isSome
def oA (h:Heap)(H:Hp):Heap:=PySem.W.hideAll h (JA h H)
def EA (h:Heap)(H:Hp):(oA h H).objs.size=h.objs.size:=PySem.W.hideAll_size _ _
def GF {h:Heap}{H:Hp}{b:Addr}{o:Obj}(e:h.get? b=some o)(n:H b=none):(oA h H).get? b=some o :=
 PySem.W.hideAll_get _ e fun hm=>by
  have q:(H b).isSome=true:=(TR.mp hm).2;rw [n] at q;simp at q
def Lo {h:Heap}{H:Hp}{b:Addr}{o:Obj}(e:(oA h H).get? b=some o):h.get? b=some o/\H b=none:=by
 have e':h.get? b=some o:=PySem.W.of_hideAll (JA h H) e;refine ⟨e',?_⟩;cases q:H b with
 | none=>rfl
 | some x =>
  have hm:b∈JA h H:=TR.mpr ⟨SN.mpr (S3 e'),by simp [q]⟩
  have z:(oA h H).get? b=none:=PySem.W.hideAll_none (JA h H) hm;rw [z] at e;cases e
structure Mod (K:XO)(mg:XG)(base:Heap):Prop where
 Bs:K.In base
 glob:base.Ns mainGlobals mg
 blt:∃ mb,base.Ns builtinsNs mb/\∀ x:Str,x≠"__name__"->mb x=bootBuiltins x
 nolimit:base.NoLimit
structure Cx where
 prog:Program
 w:World
 K:XO
 mg:XG
 base:Heap
 A:Around
 N:Xc
 s₀:Shared
 H₀:Hp
 env:Env
 outer:List Env
 stack:List Env
 ex:XW
 fn:Str->Bool
 calm:Bool
 pn:XH
 xe:XE
def frs (l:List Env):XW:=l.filterMap (·.frame)
abbrev Cx.fs (X:Cx):XW:=frs X.outer
def jG (sc:Scope) (x:Str):Prop:=sc.names.lookup x=some .local\/sc.names.lookup x=some .cell\/sc.names.lookup x=some .free
def Loc (sc:Scope) (x:Str):Prop:=sc.names.lookup x=some .local\/sc.names.lookup x=some .cell
def Look (env:Env)(h:Heap)(m:XG) (x:Str)(u:Value):Prop :=
 (env.kindOf x=some .local/\m x=some u)\/((env.kindOf x=some .cell\/env.kindOf x=some .free)/\∃ c,env.cells.lookup x=some c/\h.IsCell c (some u))
structure Cx.Ok (X:Cx):Prop where
 mod:Mod X.K X.mg X.base
 kind:X.env.scope.kind=.function
 glob:X.env.globals=mainGlobals
 blt:X.env.builtins=builtinsNs
 above:X.s₀.heap.objs.size<=X.env.locals
 inj:∀ x y c,X.env.cells.lookup x=some c->X.env.cells.lookup y=some c->x=y
 has:∀ x,(X.env.kindOf x=some .cell\/X.env.kindOf x=some .free)->∃ c,X.env.cells.lookup x=some c
 DP:∀ x c,X.fn x=true->X.env.cells.lookup x=some c->X.s₀.heap.objs.size<=c
 hd:X.calm=true->X.A.handled=none
 frames:X.A.frames=some X.stack
 stk:X.stack=X.outer\/(X.stack=X.env::X.outer/\X.env.frame=some X.env.locals)
 P9:∀ b∈X.ex,b≠X.env.locals/\∀ x c,X.env.cells.lookup x=some c->c≠b
 bs:∀ b o,X.base.get? b=some o->X.s₀.heap.get? b=some o/\X.H₀ b=none
 vY:X.base.objs.size<=X.s₀.heap.objs.size
 uG:∀ b o,X.base.get? b=some o->b∉X.ex
 Di:∀ b∈X.ex,b∉X.fs
 lA:X.s₀.heap.FunFrames X.base X.outer
 Be:∀ b∈X.fs,X.H₀ b=none
structure Inv (X:Cx)(pins:XH)(U:List (Option V))(H:Hp)(s:Shared):Prop where
 ok:X.Ok
 os:s.os=X.s₀.os
 bare:AllBare s.gens
 base:Un X.fs X.ex X.H₀ H X.s₀.heap s.heap
 loc:∃ m,s.heap.Ns X.env.locals m/\∀ (i:Nat) (x:Str) (v:V),X.N[i]?=some x->U[i]?=some (some v)->jG X.env.scope x->∃ u,RelV v u/\Look X.env s.heap m x u
 cell:∀ x c,X.env.cells.lookup x=some c->∃ v,s.heap.IsCell c v
 free:H X.env.locals=none
 iA:∀ x c,X.env.cells.lookup x=some c->H c=none
 pin:∀ p∈X.pn++pins,s.heap.get? p.1=some p.2/\H p.1=none/\p.1≠X.env.locals/\p.1∉X.fs/\∀ v,p.2.data≠.cell v
 hok:dm X.prog X.w H s.heap
 len:U.length=X.N.length
section
variable {X:Cx}{pins:XH}{U:List (Option V)}{H H':Hp}{s:Shared}{h':Heap}
def Cx.Ok.Q5 (ok:X.Ok){b:Addr}{o:Obj}(e:X.base.get? b=some o):b∉X.fs:=fun hb=>by
 have:=(ok.lA.mem hb).1;rw [e] at this;cases this
theorem Inv.bs (I:Inv X pins U H s):∀ b o,X.base.get? b=some o->s.heap.get? b=some o/\H b=none:=fun b o e =>
 ⟨I.base.keep b o (I.ok.bs b o e).1 (I.ok.bs b o e).2 (I.ok.Q5 e) (I.ok.uG b o e),I.base.free b o (I.ok.bs b o e).1 (I.ok.bs b o e).2 (I.ok.uG b o e)⟩
def Inv.bk (I:Inv X pins U H s):∀ b o,X.base.get? b=some o->s.heap.get? b=some o:=fun b o e=>(I.bs b o e).1
theorem Inv.mod (I:Inv X pins U H s):Mod X.K X.mg X.base:=I.ok.mod
def Inv.g9 (I:Inv X pins U H s):X.K.In s.heap:=I.ok.mod.Bs.keeps I.bk
theorem Inv.lt (I:Inv X pins U H s):X.env.locals < s.heap.objs.size:=let ⟨_,hn,_⟩:=I.loc;hn.lt
def Inv.sz (I:Inv X pins U H s):X.s₀.heap.objs.size<=s.heap.objs.size:=SW I.ok.above (UR I.lt)
def Inv.Hq (I:Inv X pins U H s){a:Addr}(h:s.heap.objs.size<=a):a∉X.fs:=fun hb=>by
 obtain ⟨_,o,ho,_⟩:=I.ok.lA.mem hb;exact absurd (SK (S3 ho) (SW I.sz h)) (Sf _)
def Inv.yU (I:Inv X pins U H s):∀ x c,X.env.cells.lookup x=some c->c≠X.env.locals:=fun x c e z=>by
 obtain ⟨v,o,ho,hd⟩:=I.cell x c e;obtain ⟨m,⟨o',es,ep,ho',hd',_⟩,_⟩:=I.loc;rw [z,ho'] at ho;cases ho;rw [hd'] at hd;cases hd
theorem Inv.lA (I:Inv X pins U H s):s.heap.FunFrames X.base X.outer:=by
 have all:∀ (l:List Env),(∀ b∈frs l,b∈X.fs)->X.s₀.heap.FunFrames X.base l->s.heap.FunFrames X.base l:=by
  intro l
  induction l with
  | nil=>intro _ _;trivial
  | cons env r ih =>
   intro hs hl;obtain ⟨hk,⟨L,o,hf,hn,ho,hd⟩,hr⟩:=hl;have hL:L∈X.fs:=hs L (by unfold frs;rw [TF,hf];exact RT)
   obtain ⟨sl,e⟩:=I.base.slot L o ho (I.ok.Be L hL) hL fun z=>I.ok.Di L z hL
   exact ⟨hk,⟨L,_,hf,hn,e,hd⟩,ih (fun b hb=>hs b (by unfold frs;rw [TF,hf];exact RY _ hb)) hr⟩
 exact all X.outer (fun _ hb=>hb) I.ok.lA
theorem Inv.stack (I:Inv X pins U H s):s.heap.FunFrames X.base X.stack:=by
 rcases I.ok.stk with e | ⟨e,hf⟩
 ·rw [e];exact I.lA
 ·rw [e];obtain ⟨m,hn,_⟩:=I.loc;refine .cons (by rw [I.ok.kind];decide) hf hn ?_ I.lA
  exact V1 (SW I.ok.vY I.ok.above)
def Inv.jB (I:Inv X pins U H s):∀ b∈frs X.stack,b∈X.env.locals::X.fs:=fun b hb=>by
 rcases I.ok.stk with e | ⟨e,hf⟩
 ·rw [e] at hb;exact RY _ hb
 ·rw [e] at hb;unfold frs at hb;rw [TF,hf] at hb;exact hb
def Inv.qw (I:Inv X pins U H s):∀ b∈frs X.stack,H b=none:=fun b hb=>by
 rcases S2.mp (I.jB b hb) with e | hb
 ·rw [e];exact I.free
 ·obtain ⟨_,o,ho,_⟩:=I.ok.lA.mem hb;exact I.base.free b o ho (I.ok.Be b hb) fun z=>I.ok.Di b z hb
def Inv.step {g':Array GenState}{t':Nat}{d':Drawn}{ch:XW}(I:Inv X pins U H s)
  (hch:∀ b∈ch,(b∈X.ex\/X.s₀.heap.objs.size<=b)/\b≠X.env.locals/\(∀ x c,X.env.cells.lookup x=some c->c≠b)/\∀ p∈X.pn++pins,p.1≠b)
  (keep:∀ b o,b≠X.env.locals->b∉X.fs->b∉ch->s.heap.get? b=some o->H b=none->h'.get? b=some o)
  (slot:∀ b o,b≠X.env.locals->b∈X.fs->b∉ch->s.heap.get? b=some o->H b=none->∃ sl,h'.get? b=some { o with slots:=sl })(free:∀ b o,b∉ch->s.heap.get? b=some o->H b=none->H' b=none)
  (there:∀ b o,b∉ch->s.heap.get? b=some o->∃ o',h'.get? b=some o')
  (tups:∀ b xs,H b=some (.tup xs)->H' b=some (.tup xs))(jV:∀ b o u,H b=some (.cE o u)->H' b=some (.cE o u))(lE:∀ b ps,H b=some (.vH ps)->∃ more,H' b=some (.vH (ps++more)))
  (ns:∀ m,s.heap.Ns X.env.locals m->h'.Ns X.env.locals m)(hok:dm X.prog X.w H' h')(hg:AllBare g') :
  Inv X pins U H' { s with heap:=h',gens:=g',drawn:=d',toks:=t' }:=by
 have neL:∀ b o,X.s₀.heap.get? b=some o->b≠X.env.locals:=fun b o e=>S8 (SK (S3 e) I.ok.above)
 have neC:∀ b o,X.s₀.heap.get? b=some o->b∉X.ex->b∉ch:=fun b o e hx hb=>by
  rcases (hch b hb).1 with z | z
  ·exact hx z
  ·exact absurd (SK (S3 e) z) (Sf _)
 have cellK:∀ x c,X.env.cells.lookup x=some c->∀ v,s.heap.IsCell c v->h'.IsCell c v:=fun x c e v ⟨o,ho,hd⟩=>by
  have nch:c∉ch:=fun z=>(hch c z).2.2.1 x c e rfl
  by_cases hc:c∈X.fs
  ·obtain ⟨sl,q⟩:=slot c o (I.yU x c e) hc nch ho (I.iA x c e);exact ⟨_,q,hd⟩
  ·exact ⟨o,keep c o (I.yU x c e) hc nch ho (I.iA x c e),hd⟩
 refine ⟨I.ok,I.os,hg,⟨fun b o e n hb hx=>?_,fun b o e n hb hx=>?_,fun b o e n hx=>?_,fun b o e hx=>?_,fun b xs e=>tups b xs (I.base.tups b xs e),fun b o xs e=>jV b o xs (I.base.jV b o xs e),fun b ps e=>?_⟩,?_,fun x c e=>?_,?_,fun x c e=>?_,fun p hp=>?_,hok,I.len⟩
 ·exact keep b o (neL b o e) hb (neC b o e hx) (I.base.keep b o e n hb hx) (I.base.free b o e n hx)
 ·obtain ⟨sl,e1⟩:=I.base.slot b o e n hb hx;obtain ⟨sl',e2⟩:=slot b _ (neL b o e) hb (neC b o e hx) e1 (I.base.free b o e n hx);exact ⟨sl',e2⟩
 ·obtain ⟨o',e1⟩:=I.base.there b o e hx;exact free b o' (neC b o e hx) e1 (I.base.free b o e n hx)
 ·obtain ⟨o',e1⟩:=I.base.there b o e hx;exact there b o' (neC b o e hx) e1
 ·obtain ⟨m1,e1⟩:=I.base.lE b ps e;obtain ⟨m2,e2⟩:=lE b _ e1;exact ⟨m1++m2,by rw [e2,Array.append_assoc]⟩
 ·obtain ⟨m,hn,hl⟩:=I.loc;refine ⟨m,ns m hn,fun i x v e1 e2 e3=>?_⟩
  obtain ⟨u,r,l⟩:=hl i x v e1 e2 e3;refine ⟨u,r,?_⟩;rcases l with l | ⟨k,c,e,z⟩
  ·exact .inl l
  ·exact .inr ⟨k,c,e,cellK x c e _ z⟩
 ·obtain ⟨v,z⟩:=I.cell x c e;exact ⟨v,cellK x c e v z⟩
 ·obtain ⟨m,⟨o,_,_,ho,_⟩,_⟩:=I.loc;exact free _ o (fun z=>(hch _ z).2.1 rfl) ho I.free
 ·obtain ⟨v,o,ho,hd⟩:=I.cell x c e;exact free c o (fun z=>(hch c z).2.2.1 x c e rfl) ho (I.iA x c e)
 ·obtain ⟨e,n,ne,nf,d⟩:=I.pin p hp;have nch:p.1∉ch:=fun z=>(hch p.1 z).2.2.2 p hp rfl
  exact ⟨keep p.1 p.2 ne nf nch e n,free p.1 p.2 nch e n,ne,nf,d⟩
def Inv.un {t':Nat}(I:Inv X pins U H s)(u:Un X.fs [] H H' s.heap h')(hok:dm X.prog X.w H' h'):Inv X pins U H' { s with heap:=h',toks:=t' }:=by
 obtain ⟨m,⟨o,es,ep,ho,r⟩,_⟩:=id I.loc;obtain ⟨sl,hL⟩:=u.any ho I.free (by simp)
 exact I.step (g':=s.gens) (d':=s.drawn) (ch:=[]) (fun _ z=>nomatch z) (fun b o _ hb _ e n=>u.keep b o e n hb (by simp)) (fun b o _ hb _ e n=>u.slot b o e n hb (by simp)) (fun b o _ e n=>u.free b o e n (by simp)) (fun b o _ e=>u.there b o e (by simp)) u.tups u.jV u.lE (fun m' hm=>by
  obtain ⟨o',es',ep',ho',r'⟩:=hm;rw [ho] at ho';cases ho';exact ⟨_,es',ep',hL,r'⟩) hok I.bare
def Inv.call {g':Array GenState}{t':Nat}{d':Drawn}{ch:XW}(I:Inv X pins U H s)(u:Un (frs X.stack) ch H H' s.heap h')(hok:dm X.prog X.w H' h')(hg:AllBare g')
  (hch:∀ b∈ch,(b∈X.ex\/X.s₀.heap.objs.size<=b)/\b≠X.env.locals/\(∀ x c,X.env.cells.lookup x=some c->c≠b)/\∀ p∈X.pn++pins,p.1≠b) :
  Inv X pins U H' { s with heap:=h',gens:=g',drawn:=d',toks:=t' }:=by
 obtain ⟨m,⟨o,es,ep,ho,r⟩,_⟩:=id I.loc;obtain ⟨sl,hL⟩:=u.any ho I.free fun z=>(hch _ z).2.1 rfl
 exact I.step (ch:=ch) hch (fun b o hL hb hc e n=>u.keep b o e n (fun z=>(S2.mp (I.jB b z)).elim hL hb) hc) (fun b o _ _ hc e n=>u.any e n hc) (fun b o hc e n=>u.free b o e n hc) (fun b o hc e=>u.there b o e hc) u.tups u.jV u.lE (fun m' hm=>by
  obtain ⟨o',es',ep',ho',r'⟩:=hm;rw [ho] at ho';cases ho';exact ⟨_,es',ep',hL,r'⟩) hok hg
def Inv.turned {t':Nat}{it:Addr}(I:Inv X pins U H s)(k:∀ b o,b≠it->s.heap.get? b=some o->h'.get? b=some o)(hn:H it=none)(hL:it≠X.env.locals)
  (h1:it∈X.ex\/X.s₀.heap.objs.size<=it)(h2:∀ x c,X.env.cells.lookup x=some c->c≠it)(h3:∀ p∈X.pn++pins,p.1≠it):Inv X pins U H { s with heap:=h',toks:=t' }:=by
 have nit:∀ b u,H b=some u->b≠it:=fun b u e z=>by rw [z,hn] at e;cases e
 refine I.step (g':=s.gens) (d':=s.drawn) (ch:=[it]) (fun b hb=>?_) (fun b o _ _ hc e _=>k b o (fun z=>hc (by simp [z])) e) (fun b o _ _ hc e _=>⟨o.slots,k b o (fun z=>hc (by simp [z])) e⟩) (fun _ _ _ _ n=>n)
  (fun b o hc e=>⟨o,k b o (fun z=>hc (by simp [z])) e⟩) (fun _ _ e=>e) (fun _ _ _ e=>e) (fun b ps e=>⟨#[],by rw [e];simp⟩) (fun m hm=>?_) (fun b u e=>?_) I.bare
 ·have e:b=it:=by simpa using hb
  subst e;exact ⟨h1,hL,h2,h3⟩
 ·obtain ⟨o,es,ep,ho,r⟩:=hm;exact ⟨o,es,ep,k _ o (Ne.symm hL) ho,r⟩
 ·refine (I.hok b u e).stay (fun c v hc q=>k c v ?_ q) (fun _ q=>q) fun _ _ q=>q
  rcases hc with z | z
  ·rw [z];exact nit b u e
  ·exact nit c _ z
def Inv.tok (I:Inv X pins U H s) (t:Nat):Inv X pins U H { s with toks:=t }:=I.un (h':=s.heap) (t':=t) Un.refl I.hok
theorem Inv.kept {t':Nat}(I:Inv X pins U H s)(k:∀ b u,s.heap.get? b=some u->h'.get? b=some u):Inv X pins U H { s with heap:=h',toks:=t' }:=I.un (Un.kept k) (I.hok.kept k)
theorem Inv.laid {a:Addr}{o:HO}{t':Nat}(I:Inv X pins U H s)(k:∀ b u,s.heap.get? b=some u->h'.get? b=some u)(hp:s.heap.objs.size<=a)(new:bL X.prog X.w (upd H a o) h' a o) :
  Inv X pins U (upd H a o) { s with heap:=h',toks:=t' }:=I.un (Un.laid k hp (I.hok.fresh hp)) (I.hok.laid k hp new)
theorem Inv.write {x e:Addr}{o:HO}{t':Nat}(I:Inv X pins U H s)(mu:FA (H x))(he:e=x\/H e=some (.own x))(k:∀ b u,b≠e->s.heap.get? b=some u->h'.get? b=some u)(heo:∃ u,h'.get? e=some u)
  (new:bL X.prog X.w (upd H x o) h' x o):Inv X pins U (upd H x o) { s with heap:=h',toks:=t' }:=I.un (Un.write mu he k heo) (I.hok.write mu he k heo new)
def Inv.kh {pins':XH}(I:Inv X pins U H s)(h:∀ p∈pins',s.heap.get? p.1=some p.2/\H p.1=none/\p.1≠X.env.locals/\p.1∉X.fs/\∀ v,p.2.data≠.cell v):Inv X pins' U H s :=
 ⟨I.ok,I.os,I.bare,I.base,I.loc,I.cell,I.free,I.iA,fun p hp=>(S6.mp hp).elim (fun z=>I.pin p (List.mem_append_left _ z)) (h p),I.hok,I.len⟩
def yM {N:Xc}(hN:N.Nodup){i j:Nat}{x:Str}(a:N[i]?=some x)(b:N[j]?=some x):i=j:=by
 obtain ⟨h1,e1⟩:=U1.mp a;obtain ⟨h2,e2⟩:=U1.mp b;exact (List.getElem_inj hN).mp (e1.trans e2.symm)
def we {M:Model}{A:Around}{E:XE}{i:Nat}{x:Str}{v:V}{u:Value}{Q:Unit->Shared->Prop}(I:Inv X pins U H s)(hN:X.N.Nodup)(hi:X.N[i]?=some x)(hx:Loc X.env.scope x)(r:RelV v u)
  (h:∀ s',Inv X pins (U.set i (some v)) H s'->(∃ a,Heap.SameBut a s.heap s'.heap/\(a=X.env.locals\/X.env.cells.lookup x=some a))->Q () s')(hf:X.fn x=true\/X.env.scope.names.lookup x=some .local:=by first | exact .inl rfl | exact .inr rfl | assumption):wpAny M A (storeName X.env x u) Q E s:=by
 obtain ⟨m,hn,hl⟩:=id I.loc;have hcls:(X.env.scope.kind == .class || (X.env.scope.kind == .module && X.env.locals != X.env.globals))=false:=by rw [I.ok.kind];rfl
 have hiσ:i < U.length:=by rw [I.len];exact (U1.mp hi).1
 have yU:=I.yU;have tracked:∀ {a:Addr}{h':Heap},(∃ o,s.heap.get? a=some o/\H a=none)->Heap.SameBut a s.heap h'->dm X.prog X.w H h':=fun {a h'} ha hs b ob e=>by
  obtain ⟨_,_,hfree⟩:=ha;refine (I.hok b ob e).stay (fun c w' hc q=>(hs.2 c ?_).trans q) (fun _ q=>q) fun _ _ q=>q
  rintro rfl;rcases hc with rfl | hc
  ·rw [hfree] at e;cases e
  ·rw [hfree] at hc;cases hc
 rcases hx with hk | hk
 ·refine wpAny_storeName_local hk hn (fun h' hn' hs=>?_) hcls
  obtain ⟨oL,_,_,hoL,_⟩:=id hn;refine h _ ⟨I.ok,I.os,I.bare,⟨fun b o e n hb hx=>?_,fun b o e n hb hx=>?_,I.base.free,fun b o e hx=>?_,I.base.tups,I.base.jV,I.base.lE⟩,⟨_,hn',fun j y v' e1 e2 e3=>?_⟩,fun y c e=>?_,I.free,I.iA,fun p hp=>?_,tracked ⟨oL,hoL,I.free⟩ hs,by simpa using I.len⟩ ⟨_,hs,.inl rfl⟩
  ·exact (hs.2 b (S8 (SK (S3 e) I.ok.above))).trans (I.base.keep b o e n hb hx)
  ·obtain ⟨sl,e1⟩:=I.base.slot b o e n hb hx;exact ⟨sl,(hs.2 b (S8 (SK (S3 e) I.ok.above))).trans e1⟩
  ·obtain ⟨o',e1⟩:=I.base.there b o e hx;exact ⟨o',(hs.2 b (S8 (SK (S3 e) I.ok.above))).trans e1⟩
  ·by_cases hj:j=i
   ·subst hj;rw [hi] at e1;cases e1;rw [V2 hiσ] at e2;cases e2;exact ⟨u,r,.inl ⟨hk,by simp⟩⟩
   ·rw [V3 (Ne.symm hj)] at e2;obtain ⟨u',r',q⟩:=hl j y v' e1 e2 e3;refine ⟨u',r',?_⟩;rcases q with ⟨k,e⟩ | ⟨k,c,e,z⟩
    ·refine .inl ⟨k,?_⟩;have:y≠x:=fun e=>hj (yM hN e1 (e ▸ hi))
     simp [this,e]
    ·exact .inr ⟨k,c,e,z.sameBut hs (yU y c e)⟩
  ·obtain ⟨w',z⟩:=I.cell y c e;exact ⟨w',z.sameBut hs (yU y c e)⟩
  ·obtain ⟨e,n,ne,nf,d⟩:=I.pin p hp;exact ⟨(hs.2 p.1 ne).trans e,n,ne,nf,d⟩
 ·have hfn:X.fn x=true:=by
   rcases hf with z | z
   ·exact z
   ·rw [z] at hk;cases hk
  obtain ⟨c,hc⟩:=I.ok.has x (.inl hk);obtain ⟨w',z⟩:=I.cell x c hc;refine wpAny_storeName_cell I.ok.kind hk hc z (fun h' hc' hs=>?_)
  obtain ⟨oc,hoc,hocd⟩:=id z;refine h { s with heap:=h' } ⟨I.ok,I.os,I.bare,⟨fun b o e n hb hx=>?_,fun b o e n hb hx=>?_,I.base.free,fun b o e hx=>?_,I.base.tups,I.base.jV,I.base.lE⟩,⟨m,hn.sameBut hs (Ne.symm (yU x c hc)),fun j y v' e1 e2 e3=>?_⟩,fun y c' e=>?_,I.free,I.iA,fun p hp=>?_,tracked ⟨oc,hoc,I.iA x c hc⟩ hs,by simpa using I.len⟩ ⟨c,hs,.inr hc⟩
  ·exact (hs.2 b (S8 (SK (S3 e) (I.ok.DP x c hfn hc)))).trans (I.base.keep b o e n hb hx)
  ·obtain ⟨sl,e1⟩:=I.base.slot b o e n hb hx;exact ⟨sl,(hs.2 b (S8 (SK (S3 e) (I.ok.DP x c hfn hc)))).trans e1⟩
  ·obtain ⟨o',e1⟩:=I.base.there b o e hx;exact ⟨o',(hs.2 b (S8 (SK (S3 e) (I.ok.DP x c hfn hc)))).trans e1⟩
  ·by_cases hj:j=i
   ·subst hj;rw [hi] at e1;cases e1;rw [V2 hiσ] at e2;cases e2;exact ⟨u,r,.inr ⟨.inl hk,c,hc,hc'⟩⟩
   ·rw [V3 (Ne.symm hj)] at e2;obtain ⟨u',r',q⟩:=hl j y v' e1 e2 e3;refine ⟨u',r',?_⟩;rcases q with q | ⟨k,c',e,z'⟩
    ·exact .inl q
    ·refine .inr ⟨k,c',e,z'.sameBut hs ?_⟩;rintro rfl;exact hj (yM hN e1 (I.ok.inj _ _ _ e hc ▸ hi))
  ·by_cases hcc:c'=c
   ·subst hcc;exact ⟨_,hc'⟩
   ·obtain ⟨w2,z2⟩:=I.cell y c' e;exact ⟨w2,z2.sameBut hs hcc⟩
  ·obtain ⟨e,n,ne,nf,d⟩:=I.pin p hp;refine ⟨(hs.2 p.1 ?_).trans e,n,ne,nf,d⟩;intro q;rw [q,hoc] at e;have q':oc=p.2:=Option.some.inj e;exact d w' (by rw [<- q'];exact hocd)
def sd {M:Model}{A:Around}{E:XE}{i:Nat}{x:Str}{v:V}{u:Value}{Q:Unit->Shared->Prop}(I:Inv X pins U H s)(hN:X.N.Nodup)(hi:X.N[i]?=some x)(hx:Loc X.env.scope x)(r:RelV v u)
  (h:∀ s',Inv X pins (U.set i (some v)) H s'->Q () s')(hf:X.fn x=true\/X.env.scope.names.lookup x=some .local:=by first | exact .inl rfl | exact .inr rfl | assumption):wpAny M A (storeName X.env x u) Q E s :=
 we I hN hi hx r (fun s' I' _=>h s' I') hf
def Inv.Dh {s':Shared}{ch:XW}(I:Inv X pins U H s)(ho:s'.os=s.os)(u:Un (frs X.stack) ch H H' s.heap s'.heap)(hok:dm X.prog X.w H' s'.heap)(hg:AllBare s'.gens)
  (hch:∀ b∈ch,(b∈X.ex\/X.s₀.heap.objs.size<=b)/\b≠X.env.locals/\(∀ x c,X.env.cells.lookup x=some c->c≠b)/\∀ p∈X.pn++pins,p.1≠b):Inv X pins U H' s':=by
 obtain ⟨h',g',d',t',o'⟩:=s';have e:o'=s.os:=ho;subst e;exact I.call (g':=g') (t':=t') (d':=d') u hok hg hch
end
abbrev XK:=Value->XT->Hp->Prop
abbrev St:=List (Option V)
abbrev VK:=V->Hp->Prop
abbrev TE:=St->Hp->VK->Prop
abbrev TT:=St->Hp->(Bool->Hp->Prop)->Prop
abbrev TA:=St->Hp->(List V->Hp->Prop)->Prop
structure Ends where
 nx:St->Hp->Prop
 rt:VK
 bk:St->Hp->Prop:=fun _ _=>False
 ct:St->Hp->Prop:=fun _ _=>False
abbrev TS:=Ends->St->Hp->Prop
def EP (X:Cx)(pins:XH)(U:St)(Q:VK)(u:Value)(s':Shared):Prop:=∃ v H',Inv X pins U H' s'/\RelV v u/\Q v H'
def TP (X:Cx)(pins:XH)(U:St)(Q:Bool->Hp->Prop)(b:Bool)(s':Shared):Prop:=∃ H',Inv X pins U H' s'/\Q b H'
def AP (X:Cx)(pins:XH)(U:St)(Q:List V->Hp->Prop)(us:XU)(s':Shared):Prop:=∃ vs H',Inv X pins U H' s'/\Vals vs us/\Q vs H'
def SP (X:Cx)(pins:XH)(D:Ends)(f:Flow)(s':Shared):Prop :=
 match f with
 | .next=>∃ σ' H',Inv X pins σ' H' s'/\D.nx σ' H'
 | .brk=>∃ σ' H',Inv X pins σ' H' s'/\D.bk σ' H'
 | .cont=>∃ σ' H',Inv X pins σ' H' s'/\D.ct σ' H'
 | .ret u=>∃ v σ' H',Inv X pins σ' H' s'/\RelV v u/\D.rt v H'
def PE (X:Cx)(e:Expr)(t:TE):Prop :=
 ∀ (pins:XH)(s:Shared)(U:St)(H:Hp)(Q:VK),Inv X pins U H s->t U H Q->wpAny (model X.prog X.w) X.A (eval e X.env) (EP X pins U Q) X.xe s
def PT (X:Cx)(e:Expr)(t:TT):Prop :=
 ∀ (pins:XH)(s:Shared)(U:St)(H:Hp)(Q:Bool->Hp->Prop),Inv X pins U H s->t U H Q->wpAny (model X.prog X.w) X.A (isTrue e X.env (eval e X.env)) (TP X pins U Q) X.xe s
def PW (X:Cx)(e:Expr)(t:TT):Prop :=
 ∀ (whole:Sem Value)(pins:XH)(s:Shared)(U:St)(H:Hp)(Q:Bool->Hp->Prop),Inv X pins U H s->t U H Q->wpAny (model X.prog X.w) X.A (isTrue e X.env whole) (TP X pins U Q) X.xe s
def PW.pt {X:Cx}{e:Expr}{t:TT}(h:PW X e t):PT X e t:=h _
def PA (X:Cx)(es:XY)(t:TA):Prop :=
 ∀ (pos:Pos)(pins:XH)(s:Shared)(U:St)(H:Hp)(Q:List V->Hp->Prop),Inv X pins U H s->t U H Q->wpAny (model X.prog X.w) X.A (spliced (backTo pos (starEach es X.env))) (AP X pins U Q) X.xe s
def PS (X:Cx)(st:Stmt)(t:TS):Prop :=
 ∀ (pins:XH)(s:Shared)(U:St)(H:Hp)(D:Ends),Inv X pins U H s->t D U H->wpAny (model X.prog X.w) X.A (exec st X.env) (SP X pins D) X.xe s
def oQ (X:Cx)(st:XZ)(t:TS):Prop :=
 ∀ (pins:XH)(s:Shared)(U:St)(H:Hp)(D:Ends),Inv X pins U H s->t D U H->wpAny (model X.prog X.w) X.A (execs st X.env) (SP X pins D) X.xe s
def aM {α:Type}{t:Sem α}{Q Q':α->Shared->Prop}{M:Model}{A:Around}{E:XE}{s:Shared}(h:wpAny M A t Q E s)(hQ:∀ a s,Q a s->Q' a s):wpAny M A t Q' E s:=Ss h hQ fun _ _ x=>x
section
variable {X:Cx}
inductive IX (i:Nat)(U:St)(H:Hp)(Q:VK):Prop
 | mk:∀ v,(U[i]?=some (some v))->(Q v H)->IX i U H Q
def jf (i:Nat):TE:=fun U H Q=>IX i U H Q
def tC (v:V):TE:=fun _ H Q=>Q v H
def fm {i:Nat}{x:Str}{pos:Pos}(hN:X.N[i]?=some x)(hv:jG X.env.scope x)(hd:(x == ("__debug__":Str))=false:=by decide)(hcd:(x == ("__classdict__":Str))=false:=by decide):PE X (.Name x pos) (jf i):=by
 intro pins s U H Q I h;obtain ⟨v,e,h⟩:=h;obtain ⟨m,hn,hl⟩:=I.loc;obtain ⟨u,r,l⟩:=hl i x v hN e hv;have fin:EP X pins U Q u s:=⟨v,H,I,r,h⟩;rcases l with ⟨hk,hm⟩ | ⟨hk,c,hc,hcell⟩
 ·exact wpAny_Name (wpAny_loadName_local I.ok.kind hk hn hm fin) hd
 ·rcases hk with hk | hk
  ·exact wpAny_Name (wpAny_loadName_cell I.ok.kind hk hc hcell fin) hd
  ·exact wpAny_Name (wpAny_loadName_free I.ok.kind hk hc hcell fin hcd) hd
def OD {i j pos}:PE X (.Constant (.int i) j pos) (tC (.int i)):=fun _ _ _ H _ I h=>wpAny_Constant_int ⟨.int i,H,I.tok _,⟨_,rfl⟩,h⟩
def OT {b j pos}:PE X (.Constant (.bool b) j pos) (tC (.bl b)):=fun _ _ _ H _ I h=>Constant_bool ⟨.bl b,H,I,rfl,h⟩
def Ml {j pos}:PE X (.Constant .none j pos) (tC .br):=fun _ _ _ H _ I h=>Constant_none ⟨.br,H,I,rfl,h⟩
def Gg {x j pos}:PE X (.Constant (.str x) j pos) (tC (.str x)):=fun _ _ _ H _ I h=>Calls.Constant_str ⟨.str x,H,I.tok _,⟨_,rfl⟩,h⟩
def Gl (X:Cx) (x:Str):Prop:=X.env.kindOf x=some .globalImplicit
def Bl {E:XE}{pins:XH}{s:Shared}{U:St}{H:Hp}{x:Str}{u:Value}{pos:Pos}{Q:XE}(I:Inv X pins U H s)(hg:Gl X x)(hm:X.mg x=some u)(h:Q u s)
  (hd:(x == ("__debug__":Str))=false:=by decide):wpAny (model X.prog X.w) X.A (eval (.Name x pos) X.env) Q E s :=
 Calls.Name_function_global I.ok.kind hg (Calls.loadGlobal_global (by rw [I.ok.glob];exact I.mod.glob.keeps I.bk) hm h) hd
def jE {E:XE}{pins:XH}{s:Shared}{U:St}{H:Hp}{x:Str}{u:Value}{pos:Pos}{Q:XE}(I:Inv X pins U H s)(hg:Gl X x)(hm:X.mg x=none)(hv:bootBuiltins x=some u)(h:Q u s)
  (hn:x≠"__name__":=by decide)(hd:(x == ("__debug__":Str))=false:=by decide):wpAny (model X.prog X.w) X.A (eval (.Name x pos) X.env) Q E s:=by
 obtain ⟨mb,h1,h2⟩:=I.mod.blt;exact Calls.Name_function_global I.ok.kind hg (Calls.loadGlobal_builtin (by rw [I.ok.glob];exact I.mod.glob.keeps I.bk) hm (by rw [I.ok.blt];exact h1.keeps I.bk) ((h2 x hn).trans hv) h) hd
def Lw {x:Str}{v:V}{u:Value}{pos:Pos}(hg:Gl X x)(hm:X.mg x=none)(hv:bootBuiltins x=some u)(r:RelV v u)(hn:x≠"__name__":=by decide)(hd:(x == ("__debug__":Str))=false:=by decide):PE X (.Name x pos) (tC v) :=
 fun _ _ _ H _ I h=>jE I hg hm hv ⟨v,H,I,r,h⟩ hn hd
variable {a b:Expr}{ta tb:TE}{pos:Pos}
variable {tA tB':TT}{rest:XY}
def QD (t u:TT):TT:=fun U H Q=>t U H fun c H1=>if c=true then u U H1 Q else Q false H1
def RK (t u:TT):TT:=fun U H Q=>t U H fun c H1=>if c=true then Q true H1 else u U H1 Q
def QV (t:TT):TT:=fun U H Q=>t U H fun c H1=>Q (!c) H1
def pw_and1 (ha:PT X a tA):PW X (.BoolOp .And [a] pos) tA:=by
 intro wh pins s U H Q I h;refine isTrue_and (aM (ha pins s U H Q I h) fun c s1 e=>?_)
 cases c with
 | true=>exact isTrue_and_nil e
 | false=>exact e
def pw_or1 (ha:PT X a tA):PW X (.BoolOp .Or [a] pos) tA:=by
 intro wh pins s U H Q I h;refine isTrue_or (aM (ha pins s U H Q I h) fun c s1 e=>?_)
 cases c with
 | false=>exact isTrue_or_nil e
 | true=>exact e
def pw_and (ha:PT X a tA)(hb:PW X (.BoolOp .And (b::rest) pos) tB'):PW X (.BoolOp .And (a::b::rest) pos) (QD tA tB'):=by
 intro wh pins s U H Q I h;refine isTrue_and (aM (ha pins s U H _ I h) fun c s1 ⟨H1,I1,q1⟩=>?_)
 cases c with
 | true=>exact hb wh pins s1 U H1 Q I1 q1
 | false=>exact ⟨H1,I1,q1⟩
def pw_or (ha:PT X a tA)(hb:PW X (.BoolOp .Or (b::rest) pos) tB'):PW X (.BoolOp .Or (a::b::rest) pos) (RK tA tB'):=by
 intro wh pins s U H Q I h;refine isTrue_or (aM (ha pins s U H _ I h) fun c s1 ⟨H1,I1,q1⟩=>?_)
 cases c with
 | true=>exact ⟨H1,I1,q1⟩
 | false=>exact hb wh pins s1 U H1 Q I1 q1
def Ew (ha:PT X a tA):PT X (.UnaryOp .Not a pos) (QV tA):=by
 intro pins s U H Q I h;exact isTrue_not (ha pins s U H (fun c H1=>Q (!c) H1) I h)
inductive IB (tb:TE)(U:St)(Q:VK) (x:V)(H1:Hp):Prop
 | mk:∀ c,(x=.bl c)->(if c=true then Q (.bl true) H1 else tb U H1 Q)->IB tb U Q x H1
def Rf (ta tb:TE):TE:=fun U H Q=>ta U H fun x H1=>IB tb U Q x H1
def MQ {op}{t:TE}(h:PE X a t):PE X (.BoolOp op [a] pos) t:=fun pins s U H Q I hw=>BoolOp_one (h pins s U H Q I hw)
def O9 (ha:PE X a ta)(hb:PE X (.BoolOp .Or (b::rest) pos) tb):PE X (.BoolOp .Or (a::b::rest) pos) (Rf ta tb):=by
 intro pins s U H Q I h;refine BoolOp_or (aM (ha pins s U H _ I h) fun v s1 ⟨x,H1,I1,r1,q1⟩=>?_)
 obtain ⟨c,rfl,q1⟩:=q1;cases r1;refine UB ?_;cases c with
 | false=>exact hb pins s1 U H1 Q I1 q1
 | true=>exact ⟨.bl true,H1,I1,rfl,q1⟩
def RM (t:TT)(ta tb:TE):TE:=fun U H Q=>t U H fun c H1=>if c=true then ta U H1 Q else tb U H1 Q
def GY {c:Expr}(hc:PT X c tA)(ha:PE X a ta)(hb:PE X b tb):PE X (.IfExp c a b pos) (RM tA ta tb):=by
 intro pins s U H Q I h;refine wpAny_IfExp (aM (hc pins s U H _ I h) fun d s1 ⟨H1,I1,q1⟩=>?_)
 cases d with
 | true=>exact ha pins s1 U H1 Q I1 q1
 | false=>exact hb pins s1 U H1 Q I1 q1
end
def bF (K:XO)(H:Hp)(a:Addr)(xs:List V):Prop :=
 Rd H a (.lst xs) \/
  ∃ (o:Obj)(its:XR) (n:Nat),K.lookup a=some o/\o.cls=.type "list"/\o.dict=none/\o.data=.seq its n/\its.size<=sizeLine/\Vals xs its.toList
def cJ (K:XO)(H:Hp)(a:Addr)(xs:List V):Prop :=
 Rd H a (.tup xs) \/
  ∃ (o:Obj)(its:XR) (n:Nat),K.lookup a=some o/\o.cls=.type "tuple"/\o.data=.seq its n/\its.size<=sizeLine/\Vals xs its.toList
def Qz:Value->Option V
 | .none=>some .br
 | .bool b=>some (.bl b)
 | .int i _=>some (.int i)
 | .str x _=>some (.str x)
 | .bytes b _=>some (.mV b)
 | .float b _=>some (.Bu b)
 | .ref a=>some (.ref a)
 | .type n=>some (.ty n)
 | _=>none
def RelV.abs {x:V}{u:Value}(r:RelV x u):Qz u=some x:=by
 cases x with
 | br=>cases r;rfl
 | bl _=>cases r;rfl
 | int _=>obtain ⟨t,rfl⟩:=r;rfl
 | str _=>obtain ⟨t,rfl⟩:=r;rfl
 | mV _=>obtain ⟨t,rfl⟩:=r;rfl
 | Bu _=>obtain ⟨t,rfl⟩:=r;rfl
 | ref _=>cases r;rfl
 | ty _=>cases r;rfl
theorem RelV.inj {x y:V}{u:Value}(r:RelV x u)(q:RelV y u):x=y:=Option.some.inj (r.abs.symm.trans q.abs)
theorem Vals.inj {xs ys:List V}{us:XU}(h:Vals xs us)(h':Vals ys us):xs=ys:=by
 induction h generalizing ys with
 | nil=>cases h';rfl
 | cons r t ih=>cases h' with | cons r' t'=>rw [r.inj r',ih t']
section
variable {X:Cx}{pins:XH}{U:St}{H:Hp}{s:Shared}{a:Addr}{xs ys:List V}
def bF.of {K:XO}(h:H a=some (.lst xs)):bF K H a xs:=.inl (.inl h)
def cJ.of {K:XO}(h:H a=some (.tup xs)):cJ K H a xs:=.inl (.inl h)
def Inv.list (I:Inv X pins U H s)(h:bF X.K H a xs):∃ its:XU,Vals xs its/\PlainL s.heap a its.toArray/\xs.length<=sizeLine:=by
 rcases h with h | ⟨o,its,n,hk,hc,hd,hs,hz,r⟩
 ·obtain ⟨z,its,n,r,e⟩:=h.ok I.hok;exact ⟨its,r,⟨_,n,e,rfl,rfl,rfl⟩,z⟩
 ·refine ⟨its.toList,r,⟨o,n,I.g9 a o hk,hc,hd,by simpa using hs⟩,?_⟩
  have e:=r.length;simp only [TU] at e;lia
def Inv.tuple (I:Inv X pins U H s)(h:cJ X.K H a xs):∃ its:XU,Vals xs its/\IsTup s.heap a its.toArray/\xs.length<=sizeLine:=by
 rcases h with h | ⟨o,its,n,hk,hc,hs,hz,r⟩
 ·obtain ⟨z,its,r,p⟩:=h.ok I.hok;exact ⟨its,r,p,z⟩
 ·refine ⟨its.toList,r,⟨o,I.g9 a o hk,hc,n,by simpa using hs⟩,?_⟩
  have e:=r.length;simp only [TU] at e;lia
def Inv.nC (I:Inv X pins U H s)(h:bF X.K H a xs)(h':bF X.K H a ys):xs=ys:=by
 obtain ⟨its,r,⟨o,n,e,_,_,d⟩,_⟩:=I.list h;obtain ⟨its',r',⟨o',n',e',_,_,d'⟩,_⟩:=I.list h';rw [e] at e';cases e';rw [d] at d';injection d' with d1 _
 have:its=its':=by simpa using congrArg Array.toList d1
 subst this;exact r.inj r'
def Inv.EG (I:Inv X pins U H s)(h:cJ X.K H a xs)(h':cJ X.K H a ys):xs=ys:=by
 obtain ⟨its,r,⟨o,e,_,n,d⟩,_⟩:=I.tuple h;obtain ⟨its',r',⟨o',e',_,n',d'⟩,_⟩:=I.tuple h';rw [e] at e';cases e';rw [d] at d';injection d' with d1 _
 have:its=its':=by simpa using congrArg Array.toList d1
 subst this;exact r.inj r'
end
section
variable {X:Cx}{pins:XH}{U:St}{H:Hp}{s:Shared}{E:XE}
end
section
variable {X:Cx}{st:Stmt}{rest:XZ}{t u:TS}{e:Expr}{te:TE}{pos:Pos}
def Pp:TS:=fun D U H=>D.nx U H
def QO (t u:TS):TS:=fun D U H=>t { D with nx:=u D } U H
def JQ:oQ X [] Pp:=fun _ _ U H _ I h=>VX ⟨U,H,I,h⟩
def xY (h1:PS X st t)(h2:oQ X rest u):oQ X (st::rest) (QO t u):=by
 intro pins s U H D I h;refine wpAny_execs_cons (aM (h1 pins s U H { D with nx:=u D } I h) fun f s1 q=>?_)
 cases f with
 | next =>
  obtain ⟨σ',H',I',q⟩:=q;exact h2 pins s1 σ' H' D I' q
 | ret v=>exact q
 | brk=>exact q
 | cont=>exact q
def Ls (h1:PS X st t):oQ X [st] t:=by
 intro pins s U H D I h;refine wpAny_execs_cons (aM (h1 pins s U H D I h) fun f s1 q=>?_)
 cases f with
 | next=>exact VX q
 | ret v=>exact q
 | brk=>exact q
 | cont=>exact q
def Inv.quiet {pins:XH}{U:St}{H:Hp}{s:Shared}(I:Inv X pins U H s):interactive X.env=false:=by simp [interactive,I.ok.kind]
def PR (te:TE):TS:=fun D U H=>te U H fun _ H1=>D.nx U H1
def K1 (he:PE X e te)(hs:swapsWith e none pos.line X.env=pure false:=by rfl):PS X (.Expr e pos) (PR te):=by
 intro pins s U H D I h;exact wpAny_Expr_any (aM (he pins s U H _ I h) fun v s1 ⟨x,H1,I1,r1,q1⟩=>⟨U,H1,I1,q1⟩) I.quiet hs
def QF (te:TE):TS:=fun D U H=>te U H D.rt
def EI (he:PE X e te):PS X (.Return (some e) pos) (QF te):=by
 intro pins s U H D I h;exact wpAny_Return_some (aM (he pins s U H _ I h) fun v s1 ⟨x,H1,I1,r1,q1⟩=>⟨x,U,H1,I1,r1,q1⟩)
def QG (c:TT)(t u:TS):TS:=fun D U H=>c U H fun b H1=>if b=true then t D U H1 else u D U H1
def OZ {c:Expr}{a b:XZ}{tc:TT}(hc:PT X c tc)(ha:oQ X a t)(hb:oQ X b u):PS X (.If c a b pos) (QG tc t u):=by
 intro pins s U H D I h;refine wpAny_If (aM (hc pins s U H _ I h) fun d s1 ⟨H1,I1,q1⟩=>?_)
 cases d with
 | true=>exact ha pins s1 U H1 D I1 q1
 | false=>exact hb pins s1 U H1 D I1 q1
end
abbrev TG:=V->St->Hp->(St->Hp->Prop)->Prop
abbrev qZ:=List V->St->Hp->(St->Hp->Prop)->Prop
def PG (X:Cx)(target:Expr)(t:TG):Prop :=
 ∀ (pins:XH)(s:Shared)(U:St)(H:Hp) (v:V)(u:Value)(Q:St->Hp->Prop),Inv X pins U H s->RelV v u->t v U H Q ->
  wpAny (model X.prog X.w) X.A (assign target X.env u) (fun _ s'=>∃ σ' H',Inv X pins σ' H' s'/\Q σ' H') X.xe s
def Gn (X:Cx)(ts:XY)(t:qZ):Prop :=
 ∀ (pins:XH)(s:Shared)(U:St)(H:Hp)(vs:List V)(us:XU)(Q:St->Hp->Prop),Inv X pins U H s->Vals vs us->t vs U H Q ->
  wpAny (model X.prog X.w) X.A (assignInOrder ((assignEach ts X.env).map (·.2)) us) (fun _ s'=>∃ σ' H',Inv X pins σ' H' s'/\Q σ' H') X.xe s
abbrev CS:=V->V->V->Hp->(Hp->Prop)->Prop
def Ib (X:Cx)(t:CS):Prop :=
 ∀ (pins:XH)(s:Shared)(U:St)(H:Hp) (o i v:V)(ov iv u:Value)(Q:Hp->Prop),Inv X pins U H s->RelV o ov->RelV i iv->RelV v u->t o i v H Q ->
  wpAny (model X.prog X.w) X.A (setItem ov iv u) (fun _ s'=>∃ H',Inv X pins U H' s'/\Q H') X.xe s
abbrev Iu:=V->V->Hp->VK->Prop
def Qk (X:Cx)(op:Operator)(t:Iu):Prop :=
 ∀ (pins:XH)(s:Shared)(U:St)(H:Hp) (x y:V)(v u:Value)(Q:VK),Inv X pins U H s->RelV x v->RelV y u->t x y H Q ->
  wpAny (model X.prog X.w) X.A (inplaceOp op v u) (EP X pins U Q) X.xe s
section
variable {X:Cx}{pos:Pos}
def qA (i:Nat):TG:=fun v U H Q=>Q (U.set i (some v)) H
def Bo {i:Nat}{x:Str}(hN:X.N.Nodup)(hi:X.N[i]?=some x)(hx:Loc X.env.scope x)(hf:X.fn x=true\/X.env.scope.names.lookup x=some .local:=by first | exact .inl rfl | exact .inr rfl | assumption):PG X (.Name x pos) (qA i):=by
 intro pins s U H v u Q I r h;exact wpAny_assign_Name (sd I hN hi hx r (fun s' I'=>⟨_,H,I',h⟩) hf)
def Oj:qZ:=fun vs U H Q=>vs=[]/\Q U H
inductive D0 (t:TG)(u:qZ)(vs:List V)(U:St)(H:Hp)(Q:(St->Hp->Prop)):Prop
 | mk:∀ v r,(vs=v::r)->(t v U H fun σ' H'=>u r σ' H' Q)->D0 t u vs U H Q
def JD (t:TG)(u:qZ):qZ:=fun vs U H Q=>D0 t u vs U H Q
def Kr:Gn X [] Oj:=by
 intro pins s U H vs us Q I r h;obtain ⟨e,h⟩:=h;subst e;cases r;exact assignInOrder_nil ⟨U,H,I,h⟩
def Ht {e:Expr}{es:XY}{t:TG}{u:qZ}(h1:PG X e t)(h2:Gn X es u)
  (hs:(assignEach (e::es) X.env).map (·.2)=assign e X.env::(assignEach es X.env).map (·.2):=by rfl):Gn X (e::es) (JD t u):=by
 intro pins s U H vs us Q I r h;obtain ⟨v,vr,e1,h⟩:=h;subst e1;cases r with
 | cons r rr =>
  rw [hs];refine assignInOrder_cons (aM (h1 pins s U H _ _ _ I r h) fun _ s1 ⟨σ1,H1,I1,q1⟩=>?_)
  exact h2 pins s1 σ1 H1 _ _ Q I1 rr q1
inductive JI (K:XO) (n:Nat)(t:qZ) (v:V)(U:St)(H:Hp)(Q:(St->Hp->Prop)):Prop
 | mk:∀ a xs,(v=.ref a)->(cJ K H a xs)->(xs.length=n)->(t xs U H Q)->JI K n t v U H Q
def jK (K:XO) (n:Nat)(t:qZ):TG:=fun v U H Q=>JI K n t v U H Q
def Ny {es:XY}{k:Nat}{t:qZ}{n:Nat}(hc:X.calm=true)(h:Gn X es t)
  (hn:(assignEach es X.env).length=n:=by rfl)(hst:(assignEach es X.env).findIdx? (·.1)=none:=by rfl):PG X (.Tuple es k pos) (jK X.K n t):=by
 intro pins s U H v u Q I r hw;obtain ⟨a,xs,e1,hq,hl,hw⟩:=hw;subst e1;cases r;obtain ⟨its,rv,ht,hz⟩:=I.tuple hq;refine assign_Tuple_tuple (I.ok.hd hc) ht (by simp [hn,<- hl,rv.length]) hst fun h' hx=>?_
 have I1:Inv X pins U H { s with heap:=h' }:=I.kept (t':=s.toks) fun b o e=>hx b o (S8 (S3 e)) e
 exact h pins _ U H xs _ Q I1 (by simpa using rv) hw
def nE (to ti:TE)(t:CS):TG:=fun v U H Q=>to U H fun o H1=>ti U H1 fun i H2=>t o i v H2 fun H3=>Q U H3
def N5 {o i:Expr}{to ti:TE}{t:CS}(ho:PE X o to)(hi:PE X i ti)(hs:Ib X t)
  (ha:∀ v,assign (.Subscript o i pos) X.env v=(do
   let ov <- holding [v] (eval o X.env)
   let iv <- holding [v,ov] (eval i X.env)
   standAt pos
   holding [v,ov,iv] (setItem ov iv v)
   release [v,ov,iv] []):=by intro _;rfl):PG X (.Subscript o i pos) (nE to ti t):=by
 intro pins s U H v u Q I r h;rw [ha];refine R8 (Sx (aM (ho pins s U H _ I h) fun ov s1 ⟨x,H1,I1,r1,q1⟩=>?_))
 refine R8 (Sx (aM (hi pins s1 U H1 _ I1 q1) fun iv s2 ⟨y,H2,I2,r2,q2⟩=>?_))
 refine R8 (VY (R8 (Sx (aM (hs pins s2 U H2 x y v ov iv u _ I2 r1 r2 r q2) fun _ s3 ⟨H3,I3,q3⟩=>?_))))
 exact wpAny_release ⟨U,H3,I3,q3⟩
def GN (te:TE)(g:TG):TS:=fun D U H=>te U H fun x H1=>g x U H1 D.nx
def Dq {tg e:Expr}{te:TE}{g:TG}(he:PE X e te)(hg:PG X tg g)(hs:swapsWithSole [tg] e pos.line X.env=pure false:=by rfl)(hw:swappedStores [tg] e X.env=pure none:=by rfl)
  (h1:(assignEach [tg] X.env).map (·.2)=[assign tg X.env]:=by rfl):PS X (.Assign [tg] e pos) (GN te g):=by
 intro pins s U H D I h;refine wpAny_Assign_stores (aM (he pins s U H _ I h) fun v s1 ⟨x,H1,I1,r1,q1⟩=>?_) hs hw
 rw [h1];exact aM (hg pins s1 U H1 x v _ I1 r1 q1) fun _ s2 q=>q
def Nq {i:Nat}{x:Str}{e:Expr}{te:TE}{pos':Pos}(hN:X.N.Nodup)(hi:X.N[i]?=some x)(hx:Loc X.env.scope x)(he:PE X e te)(hs:swapsWith e (some (.Name x pos')) pos.line X.env=pure false:=by rfl)(hf:X.fn x=true\/X.env.scope.names.lookup x=some .local:=by first | exact .inl rfl | exact .inr rfl | assumption) :
  PS X (.Assign [.Name x pos'] e pos) (GN te (qA i)):=by
 intro pins s U H D I h;refine wpAny_Assign_Name (aM (he pins s U H _ I h) fun v s1 ⟨y,H1,I1,r1,q1⟩=>?_) hs
 exact sd I1 hN hi hx r1 (fun s2 I2=>⟨_,H1,I2,q1⟩) hf
def QI (i:Nat)(te:TE)(ti:Iu):TS:=fun D U H=>∃ x,U[i]?=some (some x)/\te U H fun y H1=>ti x y H1 fun z H2=>D.nx (U.set i (some z)) H2
def Oz {i:Nat}{x:Str}{e:Expr}{te:TE}{op:Operator}{ti:Iu}{pos':Pos}(hN:X.N.Nodup)(hi:X.N[i]?=some x)(hx:Loc X.env.scope x)(he:PE X e te)(ho:Qk X op ti)(hf:X.fn x=true\/X.env.scope.names.lookup x=some .local:=by first | exact .inl rfl | exact .inr rfl | assumption) :
  PS X (.AugAssign (.Name x pos') op e pos) (QI i te ti):=by
 intro pins s U H D I h;obtain ⟨v,e1,h⟩:=h;obtain ⟨m,hn,hl⟩:=I.loc;have vis:jG X.env.scope x:=by rcases hx with k | k;exact .inl k;exact .inr (.inl k)
 obtain ⟨u,r,l⟩:=hl i x v hi e1 vis;refine wpAny_AugAssign_Name ?_;have go:wpAny (model X.prog X.w) X.A (eval e X.env) (fun w s₂=>wpAny (model X.prog X.w) X.A (inplaceOp op u w) (fun r s₃=>wpAny (model X.prog X.w) X.A (storeName X.env x r) (fun _=>SP X pins D .next) X.xe s₃) X.xe s₂) X.xe s:=by
  refine aM (he pins s U H _ I h) fun w s1 ⟨y,H1,I1,r1,q1⟩=>?_
  refine aM (ho pins s1 U H1 v y u w _ I1 r r1 q1) fun z s2 ⟨zv,H2,I2,r2,q2⟩=>?_
  exact sd I2 hN hi hx r2 (fun s3 I3=>⟨_,H2,I3,q2⟩) hf
 rcases l with ⟨hk,hm⟩ | ⟨hk,c,hc,hcell⟩
 ·exact wpAny_loadName_local I.ok.kind hk hn hm go
 ·rcases hk with hk | hk
  ·exact wpAny_loadName_cell I.ok.kind hk hc hcell go
  ·rcases hx with k | k
   ·have:X.env.scope.names.lookup x=some .free:=hk;rw [k] at this;cases this
   ·have:X.env.scope.names.lookup x=some .free:=hk;rw [k] at this;cases this
end
section
variable {X:Cx}{pos:Pos}
def Ob (c:TT)(tb:TS):TS:=fun D U H=>∃ W:Nat->St->Hp->Prop,(∃ m,W m U H)/\∀ m U H,W m U H ->
 c U H fun b H1=>if b=true then ∃ N:St->Hp->Prop,(∀ σ' H',N σ' H'->∃ m',m' < m/\W m' σ' H')/\tb { D with nx:=N,ct:=N,bk:=D.nx } U H1 else D.nx U H1
def G5 {c:Expr}{body:XZ}{tc:TT}{tb:TS}(hp:PassesOwn (model X.prog X.w) X.A X.env X.xe)(hc:PT X c tc)(hb:oQ X body tb):PS X (.While c body [] pos) (Ob tc tb):=by
 intro pins s U H D I h;obtain ⟨W,⟨m0,w0⟩,turn⟩:=h;refine wpAny_While (codeAny_whileLoop (fun n s'=>∃ σ' H',Inv X pins σ' H' s'/\W n σ' H') ?_ m0 ⟨U,H,I,w0⟩)
 rintro n s1 ⟨σ1,H1,I1,w1⟩;refine US hp (aM (hc pins s1 σ1 H1 _ I1 (turn n σ1 H1 w1)) fun b s2 ⟨H2,I2,q2⟩=>?_)
 cases b with
 | true =>
  obtain ⟨N,hN,q2⟩:=q2;rw [if_pos rfl];refine US hp (aM (hb pins s2 σ1 H2 _ I2 q2) fun f s3 q3=>?_)
  cases f with
  | next =>
   obtain ⟨σ3,H3,I3,n3⟩:=q3;obtain ⟨m',hm,w3⟩:=hN σ3 H3 n3;exact ⟨m',hm,σ3,H3,I3,w3⟩
  | cont =>
   obtain ⟨σ3,H3,I3,n3⟩:=q3;obtain ⟨m',hm,w3⟩:=hN σ3 H3 n3;exact ⟨m',hm,σ3,H3,I3,w3⟩
  | brk=>exact q3
  | ret v=>exact q3
 | false =>
  rw [if_neg SQ];exact VX ⟨σ1,H2,I2,q2⟩
end
structure It where
 go:Nat->Hp->Prop
 qR:Nat->Hp->V->Hp->Prop
 stop:Nat->Hp->Prop
def eS (X:Cx)(pins:XH)(H:Hp)(b:Addr):Prop :=
 H b=none/\b≠X.env.locals/\b∉X.fs/\(b∈X.ex\/X.s₀.heap.objs.size<=b)/\(∀ x c,X.env.cells.lookup x=some c->c≠b)/\∀ p∈X.pn++pins,p.1≠b
def Inv.p9 {X:Cx}{pins:XH}{U:St}{H H':Hp}{s:Shared}{b:Addr}(I:Inv X pins U H s)(hb:s.heap.objs.size<=b)(hn:H' b=none):eS X pins H' b:=by
 refine ⟨hn,Tp (SK I.lt hb),I.Hq hb,.inr (SW I.sz hb),fun x c e z=>?_,fun p hp z=>?_⟩
 ·obtain ⟨v,q⟩:=I.cell x c e;exact absurd (SK q.lt (by rw [z];exact hb)) (Sf _)
 ·exact absurd (SK (S3 (I.pin p hp).1) (by rw [z];exact hb)) (Sf _)
structure Turn (P:Program)(w:World)(K:XO)(tg:Expr)(J:It)(fp:XW)(it:Addr)(tn:Nat->Heap->Prop):Prop where
 mem:it∈fp
 obj:∀ i h,tn i h->∀ b∈fp,∃ o,h.get? b=some o/\∀ v,o.data≠.cell v
 keep:∀ i h h',tn i h->(∀ b∈fp,∀ o,h.get? b=some o->h'.get? b=some o)->tn i h'
 item:∀ (X:Cx),X.prog=P->X.w=w->X.K=K->X.calm=true->∀ (i:Nat)(pins:XH)(s:Shared)(U:St)(H:Hp)(E:XE),Inv X pins U H s->(∀ b∈fp,eS X pins H b)->tn i s.heap->J.go i H ->
  wpAny (model P w) X.A (pyNext (.ref it)) (fun r s1=>∃ u,r=some u /\
   wpAny (model P w) X.A (letOwnedTupleGo tg (.ref it) u) (fun _ s2=>∃ x H',Inv X pins U H' s2/\RelV x u/\J.qR i H x H'/\tn (i + 1) s2.heap/\∀ b∈fp,H' b=none) E s1) E s
 done:∀ (X:Cx),X.prog=P->X.w=w->X.K=K->X.calm=true->∀ (i:Nat)(pins:XH)(s:Shared)(U:St)(H:Hp)(E:XE),Inv X pins U H s->(∀ b∈fp,eS X pins H b)->tn i s.heap->J.stop i H ->
  wpAny (model P w) X.A (pyNext (.ref it)) (fun r s1=>r=none/\Inv X pins U H s1) E s
 self:∀ (A:Around) (i:Nat)(s:Shared)(Q:XE)(E:XE),tn i s.heap->Q (.ref it) s->wpAny (model P w) A (pyIter (.ref it)) Q E s
abbrev TI:=St->Hp->(It->Hp->Prop)->Prop
def IJ (X:Cx)(pins:XH)(U:St)(tg:Expr)(R:It->Hp->Prop)(itv:Value)(s2:Shared):Prop :=
 ∃ (it:Addr)(fp:XW)(tn:Nat->Heap->Prop)(J:It)(H':Hp),itv=.ref it/\Inv X pins U H' s2/\Turn X.prog X.w X.K tg J fp it tn/\tn 0 s2.heap/\(∀ b∈fp,eS X pins H' b)/\R J H'
def PI (X:Cx)(tg iter:Expr)(wi:TI):Prop :=
 ∀ (pins:XH)(s:Shared)(U:St)(H:Hp)(R:It->Hp->Prop),Inv X pins U H s->wi U H R ->
  wpAny (model X.prog X.w) X.A (eval iter X.env) (fun v s1=>wpAny (model X.prog X.w) X.A (pyIter v) (IJ X pins U tg R) X.xe s1) X.xe s
def wW {M:Model}{A:Around}{E:XE}{s:Shared}{tg:Expr}{it:Addr}{u:Value}{o:Obj}{n:String}{vs:XR}{Q:Unit->Shared->Prop}(ho:s.heap.get? it=some o)(hc:o.cls=.type n)(hd:o.data=.fields vs)
  (hn:["enumerate","zip","dict_itemiterator","dict_reverseitemiterator","odict_iterator","itertools.zip_longest","itertools.pairwise"].contains n=false)(hQ:Q () s):wpAny M A (letOwnedTupleGo tg (.ref it) u) Q E s:=by
 unfold letOwnedTupleGo;cases tg <;> first
  | exact R9 hQ
  | (cases u <;> first
    | exact R9 hQ
    | (refine R8 (wpAny_load ho ?_)
       rw [hc,hd];show wpAny M A (if (["enumerate","zip","dict_itemiterator","dict_reverseitemiterator","odict_iterator","itertools.zip_longest","itertools.pairwise"].contains n && vs[0]? == some (rawInt _))=true then _ else _) Q E s
       rw [if_neg (by intro h;rw [hn,V4] at h;cases h)]
       exact R9 hQ))
def IW (K:XO)(a:Addr):It :=
 ⟨fun i H=>∃ xs x,bF K H a xs/\xs[i]?=some x,fun i H x H'=>H'=H/\∀ xs,bF K H a xs->xs[i]?=some x,fun i H=>∃ xs,bF K H a xs/\xs.length<=i⟩
def Jv (K:XO)(a:Addr):It :=
 ⟨fun i H=>∃ xs x,cJ K H a xs/\xs[i]?=some x,fun i H x H'=>H'=H/\∀ xs,cJ K H a xs->xs[i]?=some x,fun i H=>∃ xs,cJ K H a xs/\xs.length<=i⟩
def Dl (lo:Int) (n:Nat):It:=⟨fun i _=>i < n,fun i H x H'=>H'=H/\x=.int (lo + i),fun i _=>n<=i⟩
def EV {P:Program}{w:World}{K:XO}{tg:Expr}(a it:Addr):Turn P w K tg (IW K a) [it] it (fun i h=>h.IsListIter it a i) where
 mem:=by simp
 obj:=fun i h st b hb=>by
  have e:b=it:=by simpa using hb
  subst e;obtain ⟨o,e,c,d⟩:=st;exact ⟨o,e,fun v z=>by rw [d] at z;cases z⟩
 keep:=fun i h h' st k=>st.at fun o e=>k it (by simp) o e
 item:=by
  intro X hP hw hK hc i pins s U H E I hf st hg;subst hP hw hK;obtain ⟨xs,x,hq,hx⟩:=hg;obtain ⟨its,rv,p,hz⟩:=I.list hq;obtain ⟨u,hu,ru⟩:=rv.get hx;obtain ⟨f0,f1,f2,f3,f4,f5⟩:=hf it (by simp)
  refine wpAny_pyNext_list_item st p.isList (x:=u) (by simpa using hu) fun h' st' sb=>?_
  have I1:Inv X pins U H { s with heap:=h' }:=I.turned (t':=s.toks) (fun b o hb e=>(sb.2 b hb).trans e) f0 f1 f3 f4 f5
  obtain ⟨o,e,c,d⟩:=id st';exact ⟨u,rfl,wW (s:={ s with heap:=h' }) e c d (by decide) ⟨x,H,I1,ru,⟨rfl,fun ys hy=>by rw [I.nC hy hq];exact hx⟩,st',fun b hb=>(hf b hb).1⟩⟩
 done:=by
  intro X hP hw hK hc i pins s U H E I hf st hg;subst hP hw hK;obtain ⟨xs,hq,hx⟩:=hg;obtain ⟨its,rv,p,hz⟩:=I.list hq;obtain ⟨f0,f1,f2,f3,f4,f5⟩:=hf it (by simp)
  have hl:=rv.length;exact wpAny_pyNext_list_end (I.ok.hd hc) st p.isList (by simp;lia) fun h' eb=>⟨rfl,I.turned (t':=s.toks) (fun b o hb e=>eb b o hb e) f0 f1 f3 f4 f5⟩
 self:=fun _ _ _ _ _ st h=>wpAny_pyIter_listiter st h
def Cf {P:Program}{w:World}{K:XO}{tg:Expr}(a it:Addr):Turn P w K tg (Jv K a) [it] it (fun i h=>h.IsTupleIter it a i) where
 mem:=by simp
 obj:=fun i h st b hb=>by
  have e:b=it:=by simpa using hb
  subst e;obtain ⟨o,e,c,d⟩:=st;exact ⟨o,e,fun v z=>by rw [d] at z;cases z⟩
 keep:=fun i h h' st k=>st.at fun o e=>k it (by simp) o e
 item:=by
  intro X hP hw hK hc i pins s U H E I hf st hg;subst hP hw hK;obtain ⟨xs,x,hq,hx⟩:=hg;obtain ⟨its,rv,p,hz⟩:=I.tuple hq;obtain ⟨u,hu,ru⟩:=rv.get hx;obtain ⟨f0,f1,f2,f3,f4,f5⟩:=hf it (by simp)
  refine wpAny_pyNext_tuple_item st (show s.heap.IsTuple a its.toArray from p) (x:=u) (by simpa using hu) fun h' st' sb=>?_
  have I1:Inv X pins U H { s with heap:=h' }:=I.turned (t':=s.toks) (fun b o hb e=>(sb.2 b hb).trans e) f0 f1 f3 f4 f5
  obtain ⟨o,e,c,d⟩:=id st';exact ⟨u,rfl,wW (s:={ s with heap:=h' }) e c d (by decide) ⟨x,H,I1,ru,⟨rfl,fun ys hy=>by rw [I.EG hy hq];exact hx⟩,st',fun b hb=>(hf b hb).1⟩⟩
 done:=by
  intro X hP hw hK hc i pins s U H E I hf st hg;subst hP hw hK;obtain ⟨xs,hq,hx⟩:=hg;obtain ⟨its,rv,p,hz⟩:=I.tuple hq;obtain ⟨f0,f1,f2,f3,f4,f5⟩:=hf it (by simp)
  have hl:=rv.length;exact wpAny_pyNext_tuple_end (I.ok.hd hc) st (show s.heap.IsTuple a its.toArray from p) (by simp;lia) fun h' eb=>⟨rfl,I.turned (t':=s.toks) (fun b o hb e=>eb b o hb e) f0 f1 f3 f4 f5⟩
 self:=fun _ _ _ _ _ st h=>wpAny_pyIter_tupleiter st h
def De {P:Program}{w:World}{K:XO}{tg:Expr}(it:Addr) (lo:Int) (n:Nat):Turn P w K tg (Dl lo n) [it] it (fun i h=>IsRangeIter h it (lo + (i:Nat) * 1) ((n:Int) - (i:Nat)) 1) where
 mem:=by simp
 obj:=fun i h st b hb=>by
  have e:b=it:=by simpa using hb
  subst e;exact ⟨_,st,fun v z=>by
   have z':Data.fields _=Data.cell v:=z;cases z'⟩
 keep:=fun i h h' st k=>k it (by simp) _ st
 item:=by
  intro X hP hw hK hc i pins s U H E I hf st hg;subst hP hw hK;obtain ⟨f0,f1,f2,f3,f4,f5⟩:=hf it (by simp)
  have W:=Walks.range (prog:=X.prog) (w:=X.w) (I.ok.hd hc) it lo 1 n;refine W.item i s _ _ hg st fun v h' tk hv st' kk=>?_
  obtain ⟨t,rfl⟩:=hv;have I1:Inv X pins U H { s with heap:=h',toks:=tk }:=I.turned (fun b o hb e=>kk b o (by simpa using hb) e) f0 f1 f3 f4 f5
  refine ⟨_,rfl,wW (s:={ s with heap:=h',toks:=tk }) (n:="range_iterator") st' rfl rfl (by decide) ⟨.int (lo + i),H,I1,⟨t,?_⟩,⟨rfl,rfl⟩,st',fun b hb=>(hf b hb).1⟩⟩
  rw [Int.mul_one]
 done:=by
  intro X hP hw hK hc i pins s U H E I hf st hg;subst hP hw hK;obtain ⟨f0,f1,f2,f3,f4,f5⟩:=hf it (by simp)
  exact wpAny_pyNext_range_end (I.ok.hd hc) st (by have:n<=i:=hg;lia) fun h' eb=>⟨rfl,I.turned (t':=s.toks) (fun b o hb e=>eb b o hb e) f0 f1 f3 f4 f5⟩
 self:=fun _ _ _ _ _ st h=>wpAny_pyIter_rangeiter st h
section
variable {X:Cx}{tg:Expr}
def xP {pins:XH}{U:St}{H:Hp}{s:Shared}{R:It->Hp->Prop}{E:XE}{lo hi:Int}{t u v:Tok}{tk:Nat}(I:Inv X pins U H s)(h1:-(2 ^ 62)<=lo)(h2:lo < 2 ^ 62)(h3:-(2 ^ 62)<=hi)(h4:hi < 2 ^ 62)
  (q:R (Dl lo (hi - lo).toNat) H):wpAny (model X.prog X.w) X.A (pyIter (.ref s.heap.objs.size)) (IJ X pins U tg R) E { s with heap:=s.heap.push { cls:=.type "range",data:=.fields #[.int lo t,.int hi u,.int 1 v] },toks:=tk }:=by
 refine wpAny_pyIter_range (IsRange.new ..) (small_one h1 h2 h3 h4) ?_;have I1:Inv X pins U H { s with heap:=s.heap.push { cls:=.type "range",data:=.fields #[.int lo t,.int hi u,.int 1 v] },toks:=tk }:=I.kept fun b o e=>S5 _ e
 refine ⟨(s.heap.push { cls:=.type "range",data:=.fields #[.int lo t,.int hi u,.int 1 v] }).objs.size,[(s.heap.push { cls:=.type "range",data:=.fields #[.int lo t,.int hi u,.int 1 v] }).objs.size],_,_,H,rfl,
  I1.kept (t':=tk) fun b o e=>S5 _ e,De _ lo (hi - lo).toNat,?_,fun b hb=>?_,q⟩
 ·have e1:lo + ((0:Nat):Int) * 1=lo:=by simp
  have e2:(((hi - lo).toNat:Nat):Int) - ((0:Nat):Int)=Builtin.Range.rangeSize lo hi 1:=by rw [rangeSize_one];split <;> lia
  show IsRangeIter _ _ (lo + ((0:Nat):Int) * 1) ((((hi - lo).toNat:Nat):Int) - ((0:Nat):Int)) 1;rw [e1,e2];exact SY _ rfl
 ·have e:b=(s.heap.push { cls:=.type "range",data:=.fields #[.int lo t,.int hi u,.int 1 v] }).objs.size:=by simpa using hb
  subst e;exact I1.p9 (RW _) (I1.hok.fresh (RW _))
inductive Gf (R:(It->Hp->Prop))(vs:List V)(H1:Hp):Prop
 | mk:∀ j:Int,(vs=[.int j])->(-(2 ^ 62)<=j)->(j < 2 ^ 62)->(R (Dl 0 j.toNat) H1)->Gf R vs H1
def PM (ta:TA):TI:=fun U H R=>ta U H fun vs H1=>Gf R vs H1
inductive Ei (R:(It->Hp->Prop))(vs:List V)(H1:Hp):Prop
 | mk:∀ i j:Int,(vs=[.int i,.int j])->((-(2 ^ 62)<=i/\i < 2 ^ 62/\-(2 ^ 62)<=j/\j < 2 ^ 62))->(R (Dl i (j - i).toNat) H1)->Ei R vs H1
def PZ (ta:TA):TI:=fun U H R=>ta U H fun vs H1=>Ei R vs H1
def Fb {a:Expr}{ta:TA}{p pos:Pos}(hg:Gl X "range")(hm:X.mg "range"=none)(ha:PA X [a] ta)(hs:starEach [a] X.env=[(false,eval a X.env)]:=by rfl):PI X tg (.Call (.Name "range" p) [a] [] pos) (PM ta):=by
 intro pins s U H R I h;refine Call_ (jE I hg hm boot_range (V5 (aM (ha pos pins s U H _ I h) fun us s1 ⟨vs,H1,I1,r1,q1⟩=>?_) hs rfl))
 obtain ⟨j,e,q1,q2,q⟩:=q1;subst e;cases r1 with
 | cons r rr =>
  cases rr;obtain ⟨t,rfl⟩:=r;exact call_range_1 (xP I1 (by lia) (by lia) q1 q2 (by simpa using q))
def Gj {a b:Expr}{ta:TA}{p pos:Pos}(hg:Gl X "range")(hm:X.mg "range"=none)(ha:PA X [a,b] ta)(hs:starEach [a,b] X.env=[(false,eval a X.env),(false,eval b X.env)]:=by rfl)(hs2:starEach [b] X.env=[(false,eval b X.env)]:=by rfl) :
  PI X tg (.Call (.Name "range" p) [a,b] [] pos) (PZ ta):=by
 intro pins s U H R I h;refine Call_ (jE I hg hm boot_range (V5 (aM (ha pos pins s U H _ I h) fun us s1 ⟨vs,H1,I1,r1,q1⟩=>?_) (by rw [hs,hs2]) (by rw [hs2];rfl)))
 obtain ⟨i,j,e,⟨q1,q2,q3,q4⟩,q⟩:=q1;subst e;cases r1 with
 | cons r rr =>
  cases rr with
  | cons r' rr =>
   cases rr;obtain ⟨t,rfl⟩:=r;obtain ⟨t',rfl⟩:=r';exact call_range_2 (xP I1 q1 q2 q3 q4 q)
def QM (wi:TI)(g:TG)(tb:TS):TS:=fun D U H=>wi U H fun J H1=>∃ W:Nat->Nat->St->Hp->Prop,(∃ m,W 0 m U H1)/\∀ i m U H,W i m U H ->
 (J.stop i H/\D.nx U H)\/(J.go i H/\∃ N:St->Hp->Prop,(∀ σ' H',N σ' H'->∃ m',m' < m/\W (i + 1) m' σ' H')/\∀ x H',J.qR i H x H'->g x U H' fun σ2 H2=>tb { D with nx:=N,ct:=N,bk:=D.nx } σ2 H2)
def gE (fp:XW)(h:Heap):XH:=fp.filterMap fun b=>(h.get? b).map fun o=>(b,o)
def f9 {fp:XW}{h:Heap}{b:Addr}{o:Obj}(hb:b∈fp)(e:h.get? b=some o):(b,o)∈gE fp h:=VZ.mpr ⟨b,hb,by rw [e];rfl⟩
def pM {fp:XW}{h:Heap}{p:Addr×Obj}(hp:p∈gE fp h):p.1∈fp/\h.get? p.1=some p.2:=by
 obtain ⟨b,hb,e⟩:=VZ.mp hp;cases q:h.get? b with
 | none=>rw [q] at e;cases e
 | some o =>
  rw [q] at e;have e':(b,o)=p:=Option.some.inj e;subst e';exact ⟨hb,q⟩
def Inv.pinned {pins:XH}{U:St}{H:Hp}{s:Shared}{fp:XW}(I:Inv X pins U H s)(hf:∀ b∈fp,eS X pins H b)(ho:∀ b∈fp,∃ o,s.heap.get? b=some o/\∀ v,o.data≠.cell v):Inv X (pins++gE fp s.heap) U H s :=
 I.kh fun p hp=>(S6.mp hp).elim (fun z=>I.pin p (T5 _ z)) fun z=>by
  obtain ⟨hb,e⟩:=pM z;obtain ⟨f0,f1,f2,_⟩:=hf p.1 hb;obtain ⟨o,e',d⟩:=ho p.1 hb;rw [e] at e';cases e';exact ⟨e,f0,f1,f2,d⟩
def Inv.sA {pins pl:XH}{U:St}{H:Hp}{s:Shared}(I:Inv X (pins++pl) U H s):Inv X pins U H s:=I.kh fun p hp=>I.pin p (T5 _ (List.mem_append_left _ hp))
def LD {iter:Expr}{body:XZ}{wi:TI}{g:TG}{tb:TS}{pos:Pos}(hp:PassesOwn (model X.prog X.w) X.A X.env X.xe)(hc:X.calm=true)(hi:PI X tg iter wi)(hg:PG X tg g)(hb:oQ X body tb)
  (hs:∀ x,foldedSetIterable iter X.env x=pure x:=by intro _;rfl):PS X (.For tg iter body [] pos) (QM wi g tb):=by
 intro pins s U H D I h;refine wpAny_For (aM (hi pins s U H _ I h) fun v s1 h1=>aM h1 fun itv s2 h2=>?_) hs
 obtain ⟨it,fp,tn,J,H2,e,I2,T,st2,f2,W,⟨m0,w0⟩,turn⟩:=h2;subst e
 -- what stays true of the iterator's objects through the loop
 have stat:∀ {H':Hp},(∀ b∈fp,H' b=none)->∀ b∈fp,eS X pins H' b:=fun hn b hb=>⟨hn b hb,(f2 b hb).2⟩
 refine codeAny_forLoop_any (fun n s'=>∃ i σ' H',Inv X pins σ' H' s'/\tn i s'.heap/\(∀ b∈fp,H' b=none)/\W i n σ' H') ?_ m0 ⟨0,U,H2,I2,st2,fun b hb=>(f2 b hb).1,w0⟩
 rintro n s3 ⟨i,σ3,H3,I3,st3,fr3,w3⟩;rcases turn i n σ3 H3 w3 with ⟨stop,qn⟩ | ⟨go,N,hN,step⟩
 ·refine US hp (aM (T.done X rfl rfl rfl hc i pins s3 σ3 H3 X.xe I3 (stat fr3) st3 stop) fun r s4 ⟨hr,I4⟩=>?_)
  subst hr;exact VX ⟨σ3,H3,I4,qn⟩
 ·refine US hp (aM (T.item X rfl rfl rfl hc i pins s3 σ3 H3 X.xe I3 (stat fr3) st3 go) fun r s4 ⟨u,hr,h4⟩=>?_)
  subst hr;refine US hp (aM h4 fun _ s5 ⟨x,H5,I5,r5,y5,st5,fr5⟩=>?_)
  have I5':=I5.pinned (stat fr5) (T.obj _ _ st5);refine US hp (aM (hg _ s5 σ3 H5 x u _ I5' r5 (step x H5 y5)) fun _ s6 ⟨σ6,H6,I6,q6⟩=>?_)
  refine US hp (aM (hb _ s6 σ6 H6 _ I6 q6) fun f s7 q7=>?_)
  have again:∀ {σ7:St}{H7:Hp},Inv X (pins++gE fp s5.heap) σ7 H7 s7->N σ7 H7->∃ m,m < n/\∃ i σ' H',Inv X pins σ' H' s7/\tn i s7.heap/\(∀ b∈fp,H' b=none)/\W i m σ' H':=fun {σ7 H7} I7 n7=>by
   obtain ⟨m',hm,w7⟩:=hN σ7 H7 n7;refine ⟨m',hm,i + 1,σ7,H7,I7.sA,T.keep _ _ _ st5 fun b hb o e=>(I7.pin (b,o) (T5 _ (T5 _ (f9 hb e)))).1,fun b hb=>?_,w7⟩
   obtain ⟨o,e,d⟩:=T.obj _ _ st5 b hb;exact (I7.pin (b,o) (T5 _ (T5 _ (f9 hb e)))).2.1
  cases f with
  | next=>obtain ⟨σ7,H7,I7,n7⟩:=q7;exact again I7 n7
  | cont=>obtain ⟨σ7,H7,I7,n7⟩:=q7;exact again I7 n7
  | brk=>obtain ⟨σ7,H7,I7,q7⟩:=q7;exact ⟨σ7,H7,I7.sA,q7⟩
  | ret v=>obtain ⟨x7,σ7,H7,I7,r7,q7⟩:=q7;exact ⟨x7,σ7,H7,I7.sA,r7,q7⟩
end
abbrev R2:=V->V->Hp->VK->Prop
def bO (X:Cx)(f:Value->Value->Sem Value)(r:R2):Prop :=
 ∀ (pins:XH)(s:Shared)(U:St)(H:Hp) (x y:V)(v u:Value)(Q:VK),Inv X pins U H s->RelV x v->RelV y u->r x y H Q ->
  wpAny (model X.prog X.w) X.A (f v u) (EP X pins U Q) X.xe s
def Je (X:Cx)(f:Value->Sem Value)(r:V->Hp->VK->Prop):Prop :=
 ∀ (pins:XH)(s:Shared)(U:St)(H:Hp) (x:V)(v:Value)(Q:VK),Inv X pins U H s->RelV x v->r x H Q ->
  wpAny (model X.prog X.w) X.A (f v) (EP X pins U Q) X.xe s
def cF (X:Cx)(f:Value)(r:List V->Hp->VK->Prop):Prop :=
 ∀ (pins:XH)(s:Shared)(U:St)(H:Hp)(xs:List V)(us:XU)(Q:VK),Inv X pins U H s->Vals xs us->r xs H Q ->
  wpAny (model X.prog X.w) X.A (call f us) (EP X pins U Q) X.xe s
def QN (X:Cx)(r:V->Hp->(Bool->Hp->Prop)->Prop):Prop :=
 ∀ (pins:XH)(s:Shared)(U:St)(H:Hp) (x:V)(v:Value)(Q:Bool->Hp->Prop),Inv X pins U H s->RelV x v->r x H Q ->
  wpAny (model X.prog X.w) X.A (truthy v) (TP X pins U Q) X.xe s
def Na (r:R2)(ta tb:TE):TE:=fun U H Q=>ta U H fun x H1=>tb U H1 fun y H2=>r x y H2 Q
def RC (r:V->Hp->VK->Prop)(ta:TE):TE:=fun U H Q=>ta U H fun x H1=>r x H1 Q
inductive Qi (C:Int->Int->Prop)(g:Int->Int->V) (x:V) (y:V)(H:Hp)(Q:VK):Prop
 | mk:∀ i j,(x=.int i)->(y=.int j)->(C i j)->(Q (g i j) H)->Qi C g x y H Q
def rI (C:Int->Int->Prop)(g:Int->Int->V):R2:=fun x y H Q=>Qi C g x y H Q
inductive M9 (g:Int->Int->V) (x:V) (y:V)(H:Hp)(Q:VK):Prop
 | mk:∀ i j,(x=.int i)->(y=.int j)->(Q (g i j) H)->M9 g x y H Q
def lK (g:Int->Int->V):R2:=fun x y H Q=>M9 g x y H Q
inductive Qg (g:Int->V) (x:V)(H:Hp)(Q:VK):Prop
 | mk:∀ i,(x=.int i)->(Q (g i) H)->Qg g x H Q
def rU (g:Int->V):V->Hp->VK->Prop:=fun x H Q=>Qg g x H Q
section
variable {X:Cx}{a b c:Expr}{ta tb tc:TE}{pos:Pos}
def HQ (ha:PE X a ta)(hb:PE X b tb){pins:XH}{s:Shared}{U:St}{H:Hp}{R:V->V->Hp->Prop}(I:Inv X pins U H s)
  (h:ta U H fun x H1=>tb U H1 fun y H2=>R x y H2){Q:XE}{f:Value->Value->Sem Value}
  (hf:∀ v u s2 x y H2,Inv X pins U H2 s2->RelV x v->RelV y u->R x y H2->wpAny (model X.prog X.w) X.A (f v u) Q X.xe s2) :
  wpAny (model X.prog X.w) X.A (eval a X.env) (fun v s₁=>wpAny (model X.prog X.w) X.A (eval b X.env) (fun u s₂=>wpAny (model X.prog X.w) X.A (f v u) Q X.xe s₂) X.xe s₁) X.xe s:=by
 refine aM (ha pins s U H _ I h) fun v s1 ⟨x,H1,I1,r1,q1⟩=>?_
 refine aM (hb pins s1 U H1 _ I1 q1) fun u s2 ⟨y,H2,I2,r2,q2⟩=>?_
 exact hf v u s2 x y H2 I2 r1 r2 q2
def Pf {op:Operator}{r:R2}(ho:bO X (binaryOp op) r)(ha:PE X a ta)(hb:PE X b tb):PE X (.BinOp a op b pos) (Na r ta tb):=by
 intro pins s U H Q I h;exact wpAny_BinOp (HQ ha hb I h fun v u s2 x y H2 I2 rx ry q=>ho pins s2 U H2 x y v u Q I2 rx ry q)
def PN {op:UnaryOp}{r:V->Hp->VK->Prop}(ho:Je X (unaryOp op) r)(ha:PE X a ta):PE X (.UnaryOp op a pos) (RC r ta):=by
 intro pins s U H Q I h;exact UnaryOp_ (aM (ha pins s U H _ I h) fun v s1 ⟨x,H1,I1,r1,q1⟩=>ho pins s1 U H1 x v Q I1 r1 q1)
def Jd {f:Value->Value->Sem Value}{C:Int->Int->Prop}{g:Int->Int->Int}
  (rule:∀ (i j:Int)(t u:Tok)(s:Shared)(Q:XE)(E:XE),C i j->Q (.int (g i j) s.toks) { s with toks:=s.toks + 1 }->wpAny (model X.prog X.w) X.A (f (.int i t) (.int j u)) Q E s) :
  bO X f (rI C fun i j=>.int (g i j)):=by
 intro pins s U H x y v u Q I rx ry h;obtain ⟨i,j,rfl,rfl,hc,q⟩:=h;obtain ⟨t,rfl⟩:=rx;obtain ⟨t',rfl⟩:=ry;exact rule i j t t' s _ _ hc ⟨.int (g i j),H,I.tok _,⟨_,rfl⟩,q⟩
def L8 {f:Value->Value->Sem Value}{g:Int->Int->Int}
  (rule:∀ (i j:Int)(t u:Tok)(s:Shared)(Q:XE)(E:XE),Q (.int (g i j) s.toks) { s with toks:=s.toks + 1 }->wpAny (model X.prog X.w) X.A (f (.int i t) (.int j u)) Q E s) :
  bO X f (lK fun i j=>.int (g i j)):=by
 intro pins s U H x y v u Q I rx ry h;obtain ⟨i,j,rfl,rfl,q⟩:=h;obtain ⟨t,rfl⟩:=rx;obtain ⟨t',rfl⟩:=ry;exact rule i j t t' s _ _ ⟨.int (g i j),H,I.tok _,⟨_,rfl⟩,q⟩
def CV {f:Value->Value->Sem Value}{g:XJ}
  (rule:∀ (i j:Int)(t u:Tok)(s:Shared)(Q:XE)(E:XE),Q (.bool (g i j)) s->wpAny (model X.prog X.w) X.A (f (.int i t) (.int j u)) Q E s) :
  bO X f (lK fun i j=>.bl (g i j)):=by
 intro pins s U H x y v u Q I rx ry h;obtain ⟨i,j,rfl,rfl,q⟩:=h;obtain ⟨t,rfl⟩:=rx;obtain ⟨t',rfl⟩:=ry;exact rule i j t t' s _ _ ⟨.bl (g i j),H,I,rfl,q⟩
def Ia (i j:Int):Prop:=0<=j/\j<=1000000/\i.natAbs < 2 ^ 64
def jU (i j:Int):Prop:=(-(2 ^ 64) < i/\i < 2 ^ 64)\/(-(2 ^ 64) < j/\j < 2 ^ 64)
def jU.ok {i j:Int}(h:jU i j):IntMulOk i j:=by
 rcases h with ⟨h1,h2⟩ | ⟨h1,h2⟩
 ·exact .of_left (intBits_le_64 h1 h2)
 ·exact .of_right (intBits_le_64 h1 h2)
def MS:bO X (binaryOp .Add) (lK fun i j=>.int (i + j)):=L8 fun _ _ _ _ _ _ _ q=>add_int q
def Ol:bO X (binaryOp .Sub) (lK fun i j=>.int (i - j)):=L8 fun _ _ _ _ _ _ _ q=>sub_int q
def NL:bO X (binaryOp .Mult) (rI jU fun i j=>.int (i * j)):=Jd fun _ _ _ _ _ _ _ hc q=>mul_int q hc.ok
def LK:bO X (binaryOp .Mod) (rI (fun _ j=>0 < j) fun i j=>.int (i % j)):=Jd fun i j _ _ _ _ _ hc q=>by
 have h1:(0:Int) < j:=hc;exact mod_int' (by lia) (by rw [Int.fmod_eq_emod_of_nonneg i (by lia)];exact q)
def Me:bO X (binaryOp .Pow) (rI Ia fun i j=>.int (i ^ j.toNat)):=Jd fun _ _ _ _ _ _ _ hc q=>pow_int_small hc.1 hc.2.1 hc.2.2 q
def Rq {f:Value->Sem Value}{g:Int->Int}
  (rule:∀ (i:Int)(t:Tok)(s:Shared)(Q:XE)(E:XE),Q (.int (g i) s.toks) { s with toks:=s.toks + 1 }->wpAny (model X.prog X.w) X.A (f (.int i t)) Q E s) :
  Je X f (rU fun i=>.int (g i)):=by
 intro pins s U H x v Q I rx h;obtain ⟨i,rfl,q⟩:=h;obtain ⟨t,rfl⟩:=rx;exact rule i t s _ _ ⟨.int (g i),H,I.tok _,⟨_,rfl⟩,q⟩
def N7:Je X (unaryOp .USub) (rU fun i=>.int (-i)):=Rq fun _ _ _ _ _ q=>neg_int q
end
def HM:V->V->Bool
 | .br,.br=>true | .br,.int _=>true | .int _,.br=>true | .br,.bl _=>true | .bl _,.br=>true | .br,.str _=>true | .str _,.br=>true
 | .int _,.int _=>true | .bl _,.bl _=>true | .str _,.str _=>true | .mV _,.mV _=>true
 | .int _,.str _=>true | .str _,.int _=>true | .bl _,.str _=>true | .str _,.bl _=>true
 | _,_=>false
def Qd:R2:=fun x y H Q=>HM x y=true/\Q (.bl (decide (x=y))) H
def Qp:R2:=fun x y H Q=>HM x y=true/\Q (.bl (!decide (x=y))) H
def Bx {i j:Int}:decide (V.int i=V.int j)=(i == j):=by
 rw [U0];simp
def FO {i j:Bool}:decide (V.bl i=V.bl j)=(i == j):=by
 rw [U0];simp
def AX {i j:Str}:decide (V.str i=V.str j)=(i == j):=by
 rw [U0];simp
def BD {i j:Array UInt8}:decide (V.mV i=V.mV j)=(i.toList == j.toList):=by
 rw [U0];cases i;cases j;simp
section
variable {X:Cx}{a b c:Expr}{ta tb tc:TE}{pos:Pos}
def aY {pins:XH}{U:St}{H:Hp}{s:Shared}{Q:VK}{k k':Bool}(I:Inv X pins U H s)(q:Q (.bl k) H)(e:k=k'):EP X pins U Q (.bool k') s:=by
 subst e;exact ⟨.bl k,H,I,rfl,q⟩
def O4:bO X (compareOp .Eq) Qd:=by
 intro pins s U H x y v u Q I rx ry h;obtain ⟨hs,q⟩:=h;cases x with
 | br =>
  cases rx;cases y with
  | br=>cases ry;exact PySem.EqNone.eq_none_none (aY I q (by simp))
  | bl j=>cases ry;exact PySem.EqNone.eq_none_bool (aY I q (by simp))
  | int j=>obtain ⟨t',rfl⟩:=ry;exact PySem.EqNone.eq_none_int (aY I q (by simp))
  | str j=>obtain ⟨t',rfl⟩:=ry;exact PySem.EqNone.eq_none_str (aY I q (by simp))
  | _=>exact absurd (show false=true from hs) SQ
 | bl i =>
  cases rx;cases y with
  | br=>cases ry;exact PySem.EqNone.eq_bool_none (aY I q (by simp))
  | bl j=>cases ry;exact eq_bool (aY I q FO)
  | str j=>obtain ⟨t',rfl⟩:=ry;exact PySem.EqMixed.eq_bool_str (aY I q (by simp))
  | _=>exact absurd (show false=true from hs) SQ
 | int i =>
  obtain ⟨t,rfl⟩:=rx;cases y with
  | br=>cases ry;exact PySem.EqNone.eq_int_none (aY I q (by simp))
  | int j=>obtain ⟨t',rfl⟩:=ry;exact eq_int (aY I q Bx)
  | str j=>obtain ⟨t',rfl⟩:=ry;exact PySem.EqMixed.eq_int_str (aY I q (by simp))
  | _=>exact absurd (show false=true from hs) SQ
 | str i =>
  obtain ⟨t,rfl⟩:=rx;cases y with
  | br=>cases ry;exact PySem.EqNone.eq_str_none (aY I q (by simp))
  | bl j=>cases ry;exact PySem.EqMixed.eq_str_bool (aY I q (by simp))
  | int j=>obtain ⟨t',rfl⟩:=ry;exact PySem.EqMixed.eq_str_int (aY I q (by simp))
  | str j=>obtain ⟨t',rfl⟩:=ry;exact eq_str (aY I q AX)
  | _=>exact absurd (show false=true from hs) SQ
 | mV i =>
  obtain ⟨t,rfl⟩:=rx;cases y with
  | mV j=>obtain ⟨t',rfl⟩:=ry;exact PySem.W.eq_bytes (aY I q BD)
  | _=>exact absurd (show false=true from hs) SQ
 | _=>cases y <;> exact absurd (show false=true from hs) SQ
def Pq:bO X (compareOp .NotEq) Qp:=by
 intro pins s U H x y v u Q I rx ry h;obtain ⟨hs,q⟩:=h;cases x with
 | br =>
  cases rx;cases y with
  | br=>cases ry;exact PySem.EqNone.ne_none_none (aY I q (by simp))
  | bl j=>cases ry;exact PySem.EqNone.ne_none_bool (aY I q (by simp))
  | int j=>obtain ⟨t',rfl⟩:=ry;exact PySem.EqNone.ne_none_int (aY I q (by simp))
  | str j=>obtain ⟨t',rfl⟩:=ry;exact PySem.EqNone.ne_none_str (aY I q (by simp))
  | _=>exact absurd (show false=true from hs) SQ
 | bl i =>
  cases rx;cases y with
  | br=>cases ry;exact PySem.EqNone.ne_bool_none (aY I q (by simp))
  | bl j=>cases ry;exact ne_bool (aY I q (congrArg not FO))
  | str j=>obtain ⟨t',rfl⟩:=ry;exact PySem.EqMixed.ne_bool_str (aY I q (by simp))
  | _=>exact absurd (show false=true from hs) SQ
 | int i =>
  obtain ⟨t,rfl⟩:=rx;cases y with
  | br=>cases ry;exact PySem.EqNone.ne_int_none (aY I q (by simp))
  | int j=>obtain ⟨t',rfl⟩:=ry;exact ne_int (aY I q (congrArg not Bx))
  | str j=>obtain ⟨t',rfl⟩:=ry;exact PySem.EqMixed.ne_int_str (aY I q (by simp))
  | _=>exact absurd (show false=true from hs) SQ
 | str i =>
  obtain ⟨t,rfl⟩:=rx;cases y with
  | br=>cases ry;exact PySem.EqNone.ne_str_none (aY I q (by simp))
  | bl j=>cases ry;exact PySem.EqMixed.ne_str_bool (aY I q (by simp))
  | int j=>obtain ⟨t',rfl⟩:=ry;exact PySem.EqMixed.ne_str_int (aY I q (by simp))
  | str j=>obtain ⟨t',rfl⟩:=ry;exact ne_str (aY I q (congrArg not AX))
  | _=>exact absurd (show false=true from hs) SQ
 | mV i =>
  obtain ⟨t,rfl⟩:=rx;cases y with
  | mV j=>obtain ⟨t',rfl⟩:=ry;exact PySem.W.ne_bytes (aY I q (congrArg not BD))
  | _=>exact absurd (show false=true from hs) SQ
 | _=>cases y <;> exact absurd (show false=true from hs) SQ
def tU:bO X (compareOp .Lt) (lK fun i j=>.bl (decide (i < j))):=CV fun _ _ _ _ _ _ _ q=>lt_int q
def ID:bO X (compareOp .LtE) (lK fun i j=>.bl (decide (i<=j))):=CV fun _ _ _ _ _ _ _ q=>le_int q
def IY:bO X (compareOp .Gt) (lK fun i j=>.bl (decide (j < i))):=CV fun _ _ _ _ _ _ _ q=>gt_int q
def OX:bO X (compareOp .GtE) (lK fun i j=>.bl (decide (j<=i))):=CV fun _ _ _ _ _ _ _ q=>ge_int q
def E8:bO X (compareOp .Is) (fun x y H Q=>y=.br/\Q (.bl (decide (x=.br))) H):=by
 intro pins s U H x y v u Q I rx ry h;obtain ⟨rfl,q⟩:=h;cases ry;refine is_none_gen (aY I q ?_);cases x <;> first
  | (cases rx;rfl)
  | (obtain ⟨t,rfl⟩:=rx;rfl)
def KJ:bO X (compareOp .IsNot) (fun x y H Q=>y=.br/\Q (.bl (!decide (x=.br))) H):=by
 intro pins s U H x y v u Q I rx ry h;obtain ⟨rfl,q⟩:=h;cases ry;refine isnot_none_gen (aY I q ?_);cases x <;> first
  | (cases rx;rfl)
  | (obtain ⟨t,rfl⟩:=rx;rfl)
def bO.or {f:Value->Value->Sem Value}{r r':R2}(h:bO X f r)(h':bO X f r'):bO X f (fun x y H Q=>r x y H Q\/r' x y H Q):=by
 intro pins s U H x y v u Q I rx ry q;rcases q with q | q
 ·exact h pins s U H x y v u Q I rx ry q
 ·exact h' pins s U H x y v u Q I rx ry q
def gF (b:Expr){op:CmpOp}(h:op≠.In:=by decide)(h2:op≠.NotIn:=by decide):behindInMarks op b=false:=by
 have e1:(op == CmpOp.In)=false:=by cases op <;> first | rfl | exact absurd rfl h
 have e2:(op == CmpOp.NotIn)=false:=by cases op <;> first | rfl | exact absurd rfl h2
 cases b <;> simp [behindInMarks,e1,e2]
def Kc {op:CmpOp}{r:R2}(ho:bO X (compareOp op) r)(ha:PE X a ta)(hb:PE X b tb)(hm:behindInMarks op b=false):PE X (.Compare a [op] [b] pos) (Na r ta tb):=by
 intro pins s U H Q I h;exact wpAny_Compare1 (HQ ha hb I h fun v u s2 x y H2 I2 rx ry q=>ho pins s2 U H2 x y v u Q I2 rx ry q) hm
inductive Fq (Q:(Bool->Hp->Prop)) (x:V)(H':Hp):Prop
 | mk:∀ k,(x=.bl k)->(Q k H')->Fq Q x H'
def P0 (t:TE):TT:=fun U H Q=>t U H fun x H'=>Fq Q x H'
def Et (r r':R2)(ta tb tc:TE):TE:=fun U H Q=>ta U H fun x H1=>tb U H1 fun y H2=>r x y H2 fun z H3=>∃ k,z=.bl k /\
 (if k=true then tc U H3 fun w' H4=>r' y w' H4 Q else Q (.bl false) H3)
def Hh {op op':CmpOp}{r r':R2}(ho:bO X (compareOp op) r)(ho':bO X (compareOp op') r')(ha:PE X a ta)(hb:PE X b tb)(hc:PE X c tc)
  (hm:lastMarks [op,op'] [b,c]=false:=by with_unfolding_all rfl):PE X (.Compare a [op,op'] [b,c] pos) (Et r r' ta tb tc):=by
 intro pins s U H Q I h;refine Compare_chain (aM (ha pins s U H _ I h) fun v s1 ⟨x,H1,I1,r1,q1⟩=>chain_link (aM (hb pins s1 U H1 _ I1 q1) fun u s2 ⟨y,H2,I2,r2,q2⟩ =>
  aM (ho pins s2 U H2 x y v u _ I2 r1 r2 q2) fun d s3 ⟨z,H3,I3,r3,k,e,q3⟩=>?_)) hm
 subst e;cases r3;refine UB ?_;cases k with
 | false=>exact ite_ff ⟨.bl false,H3,I3,rfl,q3⟩
 | true=>exact ite_tt (chain_last (aM (hc pins s3 U H3 _ I3 q3) fun w' s4 ⟨z',H4,I4,r4,q4⟩=>ho' pins s4 U H4 y z' u w' Q I4 r2 r4 q4))
def Hv {op op':CmpOp}{r r':R2}(ho:bO X (compareOp op) r)(ho':bO X (compareOp op') r')(ha:PE X a ta)(hb:PE X b tb)(hc:PE X c tc)
  (hm:lastMarks [op,op'] [b,c]=false:=by with_unfolding_all rfl):PT X (.Compare a [op,op'] [b,c] pos) (P0 (Et r r' ta tb tc)):=by
 intro pins s U H Q I h;refine isTrue_chain (aM (ha pins s U H _ I h) fun v s1 ⟨x,H1,I1,r1,q1⟩=>test_link (aM (hb pins s1 U H1 _ I1 q1) fun u s2 ⟨y,H2,I2,r2,q2⟩ =>
  aM (ho pins s2 U H2 x y v u _ I2 r1 r2 q2) fun d s3 ⟨z,H3,I3,r3,k,e,q3⟩=>?_)) hm
 subst e;cases r3;refine UB ?_;cases k with
 | false =>
  obtain ⟨k',e',q'⟩:=q3;cases e';exact ite_ff ⟨H3,I3,q'⟩
 | true =>
  refine ite_tt (test_last (aM (hc pins s3 U H3 _ I3 q3) fun w' s4 ⟨z',H4,I4,r4,q4⟩=>aM (ho' pins s4 U H4 y z' u w' _ I4 r2 r4 q4) fun d' s5 ⟨z2,H5,I5,r5,k2,e2,q5⟩=>?_))
  subst e2;cases r5;exact UB ⟨H5,I5,q5⟩
def sJ (K:XO) (x:V)(H:Hp)(k:Bool):Prop :=
 match x with
 | .br=>k=false
 | .bl b=>k=b
 | .int i=>k=(i != 0)
 | .str y=>y.length<=sizeLine/\k=((y.length:Int) != 0)
 | .mV y=>y.size<=sizeLine/\k=((y.size:Int) != 0)
 | .ref p=>(∃ xs,bF K H p xs/\k=!xs.isEmpty)\/(∃ xs,cJ K H p xs/\k=!xs.isEmpty)\/∃ kvs,H p=some (.dK kvs)/\k=!kvs.isEmpty
 | _=>False
def Dc {κ:Type}{kvs:List (κ×V)}{vs:List (κ×Value)}(r:KV kvs vs):(!vs.isEmpty)=!kvs.isEmpty:=by
 cases r <;> rfl
def sX {xs:List V}{its:XU}(r:Vals xs its):(!its.toArray.isEmpty)=!xs.isEmpty:=by
 cases r <;> simp
def mT:(sizeLine:Nat) < 2 ^ 63:=by rw [sizeLine_eq];decide
def zy:QN X (fun x H Q=>∃ k,sJ X.K x H k/\Q k H):=by
 intro pins s U H x v Q I rx h;obtain ⟨k,e,q⟩:=h;have hl:=mT;have hs:sizeLine=16777216:=sizeLine_eq;cases x with
 | br =>
  cases rx;have e':k=false:=e;subst e';exact truthy_none ⟨H,I,q⟩
 | bl b =>
  cases rx;have e':k=b:=e;subst e';exact UB ⟨H,I,q⟩
 | int i =>
  obtain ⟨t,rfl⟩:=rx;have e':k=(i != 0):=e;subst e';exact PySem.P.truthy_int ⟨H,I,q⟩
 | str y =>
  obtain ⟨t,rfl⟩:=rx;obtain ⟨hy,e'⟩:y.length<=sizeLine/\k=((y.length:Int) != 0):=e;subst e';exact PySem.P.truthy_str (by lia) ⟨H,I.tok _,q⟩
 | mV y =>
  obtain ⟨t,rfl⟩:=rx;obtain ⟨hy,e'⟩:y.size<=sizeLine/\k=((y.size:Int) != 0):=e;subst e';exact PySem.W.truthy_bytes (by lia) ⟨H,I.tok _,q⟩
 | ref p =>
  cases rx;have e':(∃ xs,bF X.K H p xs/\k=!xs.isEmpty)\/(∃ xs,cJ X.K H p xs/\k=!xs.isEmpty)\/∃ kvs,H p=some (.dK kvs)/\k=!kvs.isEmpty:=e;rcases e' with ⟨xs,hx,e'⟩ | ⟨xs,hx,e'⟩ | ⟨kvs,hx,e'⟩
  ·subst e';obtain ⟨its,r,pl,hz⟩:=I.list hx;have hlen:=r.length;exact wpAny_truthy_list pl.isList (by simp only [SD];lia) ⟨H,I.tok _,by rw [sX r];exact q⟩
  ·subst e';obtain ⟨its,r,pl,hz⟩:=I.tuple hx;have hlen:=r.length;exact truthy_tuple pl (by simp only [SD];lia) ⟨H,I.tok _,by rw [sX r];exact q⟩
  ·subst e';obtain ⟨hz,hS,vs,r,m⟩:kvs.length<=sizeLine/\(p == sysModules)=false/\∃ vs,KV kvs vs/\s.heap.DictOf (cT X.prog X.w) p vs:=I.hok p _ hx;have hlen:kvs.length=vs.length:=Paired.length r;exact wpAny_truthy_dict hS m (by lia) ⟨H,I.tok _,by rw [Dc r];exact q⟩
 | _=>exact (show False from e).elim
def zD (ha:PE X a ta)(he:∀ whole,isTrue a X.env whole=(do let v <- whole;standAt a.pos;holding [v] (truthy v))) :
  PT X a (fun U H Q=>ta U H fun x H'=>∃ k,sJ X.K x H' k/\Q k H'):=by
 intro pins s U H Q I h;exact isTrue_plain (aM (ha pins s U H _ I h) fun v s1 ⟨x,H1,I1,r1,q1⟩=>zy pins s1 U H1 x v Q I1 r1 q1) (he _)
def Cg:bO X (binaryOp .Add) (fun x y H Q=>∃ i j,x=.str i/\y=.str j/\i.length + j.length<=sizeLine/\Q (.str (i++j)) H):=by
 intro pins s U H x y v u Q I rx ry h;obtain ⟨i,j,rfl,rfl,hz,q⟩:=h;obtain ⟨t,rfl⟩:=rx;obtain ⟨t',rfl⟩:=ry;exact add_str (fun t' tk=>⟨.str (i++j),H,I.tok _,⟨_,rfl⟩,q⟩) hz
def vals1 {x:V}{us:XU}(r:Vals [x] us):∃ u,us=[u]/\RelV x u:=by
 cases r with
 | cons r1 r2=>cases r2;exact ⟨_,rfl,r1⟩
def vals2 {x y:V}{us:XU}(r:Vals [x,y] us):∃ u w',us=[u,w']/\RelV x u/\RelV y w':=by
 cases r with
 | cons r1 r2 =>
  cases r2 with
  | cons r3 r4=>cases r4;exact ⟨_,_,rfl,r1,r3⟩
def Hs:cF X (.builtin "abs") (fun xs H Q=>∃ i,xs=[.int i]/\Q (.int (if i < 0 then -i else i)) H):=by
 intro pins s U H xs us Q I r h;obtain ⟨i,rfl,q⟩:=h;obtain ⟨u,rfl,t,rfl⟩:=vals1 r;exact call_abs_int fun u tk=>⟨.int (if i < 0 then -i else i),H,I.tok _,⟨_,rfl⟩,q⟩
def ED (hc:X.calm=true):cF X (.builtin "max") (fun xs H Q=>∃ i j,xs=[.int i,.int j]/\Q (.int (if j > i then j else i)) H):=by
 intro pins s U H xs us Q I r h;obtain ⟨i,j,rfl,q⟩:=h;obtain ⟨u,w',rfl,⟨t,rfl⟩,⟨t',rfl⟩⟩:=vals2 r;refine max_two_ints (I.ok.hd hc) fun h' tk k=>⟨_,H,I.kept k,?_,q⟩
 by_cases hj:j > i
 ·rw [if_pos hj,if_pos hj];exact ⟨_,rfl⟩
 ·rw [if_neg hj,if_neg hj];exact ⟨_,rfl⟩
def EY (hc:X.calm=true):cF X (.builtin "min") (fun xs H Q=>∃ i j,xs=[.int i,.int j]/\Q (.int (if j < i then j else i)) H):=by
 intro pins s U H xs us Q I r h;obtain ⟨i,j,rfl,q⟩:=h;obtain ⟨u,w',rfl,⟨t,rfl⟩,⟨t',rfl⟩⟩:=vals2 r;refine min_two_ints (I.ok.hd hc) fun h' tk k=>⟨_,H,I.kept k,?_,q⟩
 by_cases hj:j < i
 ·rw [if_pos hj,if_pos hj];exact ⟨_,rfl⟩
 ·rw [if_neg hj,if_neg hj];exact ⟨_,rfl⟩
def D5:cF X (.type "int") (fun xs H Q=>(∃ i,xs=[.int i]/\Q (.int i) H)\/∃ k,xs=[.bl k]/\Q (.int (if k then 1 else 0)) H):=by
 intro pins s U H xs us Q I r h;rcases h with ⟨i,rfl,q⟩ | ⟨k,rfl,q⟩
 ·obtain ⟨u,rfl,t,rfl⟩:=vals1 r;exact call_int_int ⟨.int i,H,I,⟨_,rfl⟩,q⟩
 ·obtain ⟨u,rfl,r1⟩:=vals1 r;cases r1;exact call_int_bool ⟨.int (if k then 1 else 0),H,I.tok _,⟨_,rfl⟩,q⟩
end
structure HK (h:Heap)(x dx C:Addr)(mA:XG):Prop where
 obj:h.get? x=some (PySem.W.instObj C dx)
 ns:h.Ns1 dx mA
 ne:dx≠x
def Ej {h:Heap}{dx:Addr}{mA:XG}(n:h.Ns1 dx mA):∃ od,h.get? dx=some od/\∀ name,PySem.W.lookIn name od=some (mA name):=by
 obtain ⟨o,es,ep,ho,hd,hk,_,hm⟩:=n;refine ⟨o,ho,fun name=>?_⟩
 have e:=hm name;unfold nsFind findBy at e;rw [<- W8] at e;unfold PySem.W.lookIn;rw [hd];dsimp only;split
 ·rename_i y q;rw [q] at e;exact congrArg some e
 ·rename_i q;rw [q] at e;have a:es.toList.any (·.refKey)=false:=by
   rw [W9];intro y hy;obtain ⟨z,t,hkey⟩:=hk y (Array.mem_toList_iff.mp hy);simp [DictEntry.refKey,hkey]
  have a':¬ es.toList.any (·.refKey)=true:=by rw [a];exact SQ
  rw [if_neg a'];exact congrArg some e
def HK.look {h:Heap}{x dx C:Addr}{mA:XG}(I:HK h x dx C mA):∃ od,PySem.W.InstAt h x (PySem.W.instObj C dx) C (some od)/\∀ name,PySem.W.lookIn name od=some (mA name) :=
 let ⟨od,ho,hl⟩:=Ej I.ns
 ⟨od,⟨I.obj,rfl,rfl,ho⟩,hl⟩
section
variable {prog:Program}{w:World}{A:Around}{E:XE}{s:Shared}{K:XO}{x dx C f:Addr}{mA:XG}{name:Str}{v:Value}
end
def jQ.some_of {v:V}{o:XQ}(r:jQ (some v) o):∃ u,o=some u/\RelV v u:=by
 cases o with
 | none=>exact (show False from r).elim
 | some u=>exact ⟨u,rfl,r⟩
section
variable {P:Program}{w:World}{H H':Hp}{h h':Heap}{a C dx:Addr}{fs fs':List (Str×V)}
def ig (hok:dm P w H h)(e:H a=some (.ins C dx fs)):∃ mA,HK h a dx C mA/\(∀ f,jQ (fs.lookup f) (mA f))/\PySem.Within mA (fs.map (·.1))/\fs.length<=1000/\H dx=some (.own a):=by
 obtain ⟨d,z,ne,ob,mA,n,r,q⟩:=(show bL P w H h a (.ins C dx fs) from hok a _ e)
 exact ⟨mA,⟨ob,n,ne⟩,r,q,z,d⟩
end
structure M6 (K:XO)(C:Addr):Prop where
 pg:PySem.W.plainGet K C Str.empty=true
 hd:PySem.W.hasDictIn K C=true
 po:PySem.W.plainOver K C=true
 sa:PySem.W.findIn K (.ref C) "__setattr__"=some (some (.builtin "object.__setattr__"))
def M6.get {K:XO}{C:Addr}(c:M6 K C) (f:Str):PySem.W.plainGet K C f=true:=c.pg
section
variable {X:Cx}{pins:XH}{U:St}{H:Hp}{s:Shared}{a C dx:Addr}{fs:List (Str×V)}{f:Str}{v:V}{A:Around}{E:XE}
end
section
variable {X:Cx}{o e value:Expr}{f:Str}{pos pos' tpos:Pos}{ta tv:TE}
end
section
variable {X:Cx}{pins:XH}{U:St}{H:Hp}{s:Shared}{A:Around}{E:XE}{Q:XE}{c:Value}{b:Bool}
inductive gw (K:XO)(H:Hp):V->Value->Prop where
 | br:gw K H .br (.type "NoneType")
 | bl (x:Bool):gw K H (.bl x) (.type "bool")
 | int (i:Int):gw K H (.int i) (.type "int")
 | str (x:Str):gw K H (.str x) (.type "str")
 | Bu (x:UInt64):gw K H (.Bu x) (.type "float")
 | lst {a:Addr}{xs:List V}(e:H a=some (.lst xs)):gw K H (.ref a) (.type "list")
 | cE {a:Addr}{o:Obj}{xs:List V}(e:H a=some (.cE o (.lst xs))):gw K H (.ref a) (.type "list")
 | kl {a:Addr}{its:XR}{n:Nat}(e:K.lookup a=some { cls:=.type "list",data:=.seq its n }):gw K H (.ref a) (.type "list")
 | tup {a:Addr}{xs:List V}(e:H a=some (.tup xs)):gw K H (.ref a) (.type "tuple")
 | dK {a:Addr}{kvs:List (Key×V)}(e:H a=some (.dK kvs)):gw K H (.ref a) (.type "dict")
 | dT {a:Addr}{kvs:List (List Key×V)}(e:H a=some (.dT kvs)):gw K H (.ref a) (.type "dict")
 | ins {a C dx:Addr}{fs:List (Str×V)}(e:H a=some (.ins C dx fs))(cl:M6 K C)(ha:PySem.W.findIn K (.ref C) "__class__"=some (some (.builtin "object.__class__")))
   (hn:PySem.W.specialIn K (.builtin "object.__class__") "__get__"=some (some (.builtin "getset_descriptor.__get__")))(htk:PySem.W.takesIn K (.builtin "object.__class__")=some true)
   (hm:PySem.W.mroIn K C (.type "object")=some true):gw K H (.ref a) (.ref C)
def Gd {x:V}{u t:Value}(I:Inv X pins U H s)(rx:RelV x u)(ty:gw X.K H x t)(e:PySem.W.kitOne X.K t c=some b)(h:∀ tk,Q (.bool b) { s with toks:=tk }) :
  wpAny (model X.prog X.w) A (call (.builtin "isinstance") [u,c]) Q E s:=by
 cases ty with
 | br=>cases (show u=Value.none from rx);exact TY PySem.W.kitx_none I.g9 Tq e (fun z=>nomatch z) h
 | bl y=>cases (show u=Value.bool y from rx);exact TY PySem.W.kitx_bool I.g9 Tq e (fun z=>nomatch z) h
 | int i=>obtain ⟨t,q⟩:=(show ∃ t,u=Value.int i t from rx);cases q;exact TY PySem.W.kitx_int I.g9 Tq e (fun z=>nomatch z) h
 | str y=>obtain ⟨t,q⟩:=(show ∃ t,u=Value.str y t from rx);cases q;exact TY PySem.W.kitx_str I.g9 Tq e (fun z=>nomatch z) h
 | Bu y=>obtain ⟨t,q⟩:=(show ∃ t,u=Value.float y t from rx);cases q;exact TY PySem.W.kitx_float I.g9 Tq e (fun z=>nomatch z) h
 | @lst a xs ea =>
  cases (show u=Value.ref a from rx)
  obtain ⟨_,_,n,_,h1⟩:=(show bL X.prog X.w H s.heap a (.lst xs) from I.hok a _ ea)
  exact TY WA I.g9 ⟨_,h1,rfl⟩ e (fun z=>nomatch z) h
 | @cE a ob xs ea =>
  cases (show u=Value.ref a from rx)
  obtain ⟨_,_,_,n,_,h1⟩:=(show bL X.prog X.w H s.heap a (.cE ob (.lst xs)) from I.hok a _ ea)
  exact TY WA I.g9 ⟨_,h1,rfl⟩ e (fun z=>nomatch z) h
 | @kl a its n ea =>
  cases (show u=Value.ref a from rx)
  exact TY WA I.g9 ⟨_,I.g9 a _ ea,rfl⟩ e (fun z=>nomatch z) h
 | @tup a xs ea =>
  cases (show u=Value.ref a from rx)
  obtain ⟨_,_,_,p⟩:=(show bL X.prog X.w H s.heap a (.tup xs) from I.hok a _ ea)
  obtain ⟨o,h1,h2,_⟩:=p;exact TY PySem.W.kitx_tuple I.g9 ⟨o,h1,h2⟩ e (fun z=>nomatch z) h
 | @dK a kvs ea =>
  cases (show u=Value.ref a from rx)
  obtain ⟨_,_,vs,_,p⟩:=(show bL X.prog X.w H s.heap a (.dK kvs) from I.hok a _ ea)
  obtain ⟨o,es,ep,h1,h2,_⟩:=p;exact TY PySem.W.kitx_dict I.g9 ⟨o,h1,h2.1⟩ e (fun z=>nomatch z) h
 | @dT a kvs ea =>
  cases (show u=Value.ref a from rx)
  obtain ⟨_,_,xs,_,o,es,ep,h1,h2,_⟩:=(show bL X.prog X.w H s.heap a (.dT kvs) from I.hok a _ ea)
  exact TY PySem.W.kitx_dict I.g9 ⟨o,h1,h2.1⟩ e (fun z=>nomatch z) h
 | @ins a C dx fs ea cl ha hn htk hm =>
  cases (show u=Value.ref a from rx)
  obtain ⟨mA,O,_⟩:=ig I.hok ea;obtain ⟨od,J,_⟩:=O.look;exact TY (PySem.W.kitx_own (cl.get _) cl.hd ha hn htk hm) I.g9 J e (fun z=>nomatch z) h
end
structure ef (k:Nat)(A:Around):Prop where
 hd:A.handled=none
 dp:A.depth + 3 * k + 5 < recursionLimit
 un:A.units + 16 * k + 200 < cLine
def ef.mono {j k:Nat}{A:Around}(r:ef k A)(h:j<=k):ef j A:=⟨r.hd,by have:=r.dp;lia,by have:=r.un;lia⟩
theorem ef.deeper {k:Nat}{A:Around}(r:ef (k + 1) A)(env:Env):ef k (A.deeper env) :=
 ⟨r.hd,by have:=r.dp;show A.depth + 1 + 3 * k + 5 < _;lia,by have:=r.un;show A.units + 3 + 16 * k + 200 < _;lia⟩
theorem ef.depth {k:Nat}{A:Around}(r:ef k A):A.depth < recursionLimit:=by have:=r.dp;lia
theorem ef.units {k:Nat}{A:Around}(r:ef k A):A.units + 64 < cLine:=by have:=r.un;lia
def uK:TA:=fun _ H Q=>Q [] H
def qF (ta:TE)(tr:TA):TA:=fun U H Q=>ta U H fun x H1=>tr U H1 fun xs H2=>Q (x::xs) H2
section
variable {X:Cx}{e:Expr}{es:XY}{te:TE}{t:TA}{pos:Pos}
def gH:PA X [] uK:=fun _ _ _ _ H Q I h=>Calls.spliced_nil ⟨[],H,I,.nil,h⟩
def eT (ha:PE X e te)(hr:PA X es t)(hs:starEach (e::es) X.env=(false,eval e X.env)::starEach es X.env:=by rfl):PA X (e::es) (qF te t):=by
 intro pos pins s U H Q I h;rw [hs];show wpAny _ _ (spliced ((false,eval e X.env)::backTo pos (starEach es X.env))) _ _ s;refine Calls.spliced_cons (aM (ha pins s U H _ I h) fun u s1 ⟨x,H1,I1,r1,q1⟩=>?_)
 exact aM (hr pos pins s1 U H1 _ I1 q1) fun us s2 ⟨xs,H2,I2,r2,q2⟩=>⟨x::xs,H2,I2,.cons r1 r2,q2⟩
def Q6 (t:TA):TE:=fun U H Q=>t U H fun xs H1=>xs.length<=sizeLine/\∀ p,H1 p=none->Q (.ref p) (upd H1 p (.tup xs))
def Qy (t:TA):TE:=fun U H Q=>t U H fun xs H1=>xs.length<=sizeLine/\∀ p,H1 p=none->Q (.ref p) (upd H1 p (.lst xs))
def M0 {x1}(h:PA X es t):PE X (.Tuple es x1 pos) (Q6 t):=by
 intro pins s U H Q I hq;refine wpAny_Tuple_spliced (aM (h pos pins s U H _ I hq) fun us s1 ⟨xs,H1,I1,r,z,q⟩=>⟨by rw [<- r.length];exact z,?_⟩)
 have hf:H1 s1.heap.objs.size=none:=I1.hok.fresh (RW _);refine ⟨.ref s1.heap.objs.size,upd H1 s1.heap.objs.size (.tup xs),I1.laid (t':=s1.toks) (fun b u e=>S5 _ e) (RW _) ?_,rfl,q _ hf⟩
 exact ⟨z,us,r,⟨_,SY _ rfl,rfl,_,rfl⟩⟩
def DV (h:PA X es t):PE X (.List es pos) (Qy t):=by
 intro pins s U H Q I hq;refine wpAny_List_spliced (aM (h pos pins s U H _ I hq) fun us s1 ⟨xs,H1,I1,r,z,q⟩=>⟨by rw [<- r.length];exact z,?_⟩)
 have hf:H1 s1.heap.objs.size=none:=I1.hok.fresh (RW _);refine ⟨.ref s1.heap.objs.size,upd H1 s1.heap.objs.size (.lst xs),I1.laid (t':=s1.toks) (fun b u e=>S5 _ e) (RW _) ?_,rfl,q _ hf⟩
 exact ⟨z,us,0,r,SY _ rfl⟩
end
abbrev Sp:=List V->Hp->VK->XK->Prop
abbrev lM:=List Env->Hp->Shared->XK->Value->Shared->Prop
structure BV (P:Program)(w:World)(K:XO)(mg:XG)(base:Heap)(A:Around)(outer:List Env)(s:Shared)(H:Hp):Prop where
 frames:A.frames=some outer
 mod:Mod K mg base
 bs:∀ b o,base.get? b=some o->s.heap.get? b=some o/\H b=none
 vY:base.objs.size<=s.heap.objs.size
 lA:s.heap.FunFrames base outer
 Be:∀ b∈frs outer,H b=none
 hok:dm P w H s.heap
 bare:AllBare s.gens
def CE (outer:List Env)(P:Program)(w:World)(H:Hp)(s:Shared)(Q:VK)(u:Value)(s':Shared):Prop :=
 ∃ v H',s'.os=s.os/\AllBare s'.gens/\Un (frs outer) [] H H' s.heap s'.heap/\dm P w H' s'.heap/\RelV v u/\Q v H'
def CR (CX:lM)(outer:List Env)(P:Program)(w:World)(H:Hp)(s:Shared)(Q:VK)(E:XK)(r:Result)(s':Shared):Prop :=
 match r with
 | .ok (.ret u)=>CE outer P w H s Q u s'
 | .ok _=>False
 | .error e=>CX outer H s E e s'
structure gn (P:Program)(w:World)(K:XO)(mg:XG)(base:Heap)(CX:lM) (k:Nat)(f:Addr)(fd:FuncData)(ps:Xc)(sp:Sp):Prop where
 len:∀ vs H Q E,sp vs H Q E->vs.length=ps.length
 run:∀ (A:Around)(outer:List Env)(s:Shared)(H:Hp)(args:Args)(us:XU)(vs:List V)(Q:VK)(E:XK),ef k A->BV P w K mg base A outer s H->BindsTo s fd args (ps.zip us)->Vals vs us->sp vs H Q E ->
  codeAny (model P w) A (.call (.ref f) args) (CR CX outer P w H s Q E) s
def gn.imp {P:Program}{w:World}{K:XO}{mg:XG}{base:Heap}{CX:lM}{k:Nat}{f:Addr}{fd:FuncData}{ps:Xc}{sp sp':Sp}(F:gn P w K mg base CX k f fd ps sp)
  (h:∀ vs H Q E,sp' vs H Q E->sp vs H Q E):gn P w K mg base CX k f fd ps sp' :=
 ⟨fun vs H Q E q=>F.len vs H Q E (h _ _ _ _ q),fun A outer s H args us vs Q E hr he hb hv hs=>F.run A outer s H args us vs Q E hr he hb hv (h _ _ _ _ hs)⟩
section
variable {X:Cx}{pins:XH}{U:St}{H:Hp}{s s':Shared}
def Inv.Rc (I:Inv X pins U H s):BV X.prog X.w X.K X.mg X.base X.A X.stack s H :=
 ⟨I.ok.frames,I.ok.mod,I.bs,SW I.ok.vY I.sz,I.stack,I.qw,I.hok,I.bare⟩
def Inv.after {Q:VK}{u:Value}(I:Inv X pins U H s)(h:CE X.stack X.prog X.w H s Q u s'):EP X pins U Q u s':=by
 obtain ⟨v,H',os,bare,un,hok,r,q⟩:=h;obtain ⟨hh,g,d,t,os'⟩:=s';obtain rfl:os'=s.os:=os;exact ⟨v,H',I.call (h':=hh) (g':=g) (d':=d) (t':=t) (ch:=[]) un hok bare (fun b z=>absurd z (by simp)),r,q⟩
end
def Pg (sp:Sp)(dvs:List V)(E:XK)(t:TA):TE:=fun U H Q=>t U H fun vs H1=>sp (vs++dvs) H1 Q E
def Binds (K:XO)(fd:FuncData)(ps:Xc)(ds:XU):Prop :=
 ∀ (s:Shared)(us:XU),K.In s.heap->(us++ds).length=ps.length->BindsTo s fd ⟨us,[]⟩ (ps.zip (us++ds))
def Binds.all {K:XO}{fd:FuncData}{ps:Xc}(h:∀ us:XU,us.length=ps.length->bindArgs fd ⟨us,[]⟩=pure (ps.zip us)):Binds K fd ps []:=fun s us _ hl=>by
 rw [Sy] at hl ⊢;exact .of_eq (h us hl)
def Passes (CX:lM)(X:Cx)(E:XK):Prop:=∀ (pins:XH)(U:St)(H:Hp)(s:Shared)(e:Value)(s':Shared),Inv X pins U H s->CX X.stack H s E e s'->X.xe e s'
section
variable {X:Cx}{CX:lM}{k:Nat}{f C:Addr}{fd:FuncData}{ps:Xc}{sp:Sp}{dvs:List V}{ds:XU}{E:XK}{x m:Str}{p pos apos:Pos}{e o:Expr}{es:XY}{ta:TE}{t:TA}
def MU {pins:XH}{U:St}{H:Hp}{s:Shared}{Q:VK}{us:XU}{vs:List V}(F:gn X.prog X.w X.K X.mg X.base CX k f fd ps sp)(hr:ef k X.A)(hb:Binds X.K fd ps ds)(hd:Vals dvs ds)(hx:Passes CX X E)
  (I:Inv X pins U H s)(r:Vals vs us)(h:sp (vs++dvs) H Q E):wpAny (model X.prog X.w) X.A (call (.ref f) us) (EP X pins U Q) X.xe s:=by
 have r2:Vals (vs++dvs) (us++ds):=r.append hd;have hl:(us++ds).length=ps.length:=by rw [<- r2.length];exact F.len _ _ _ _ h
 refine wpAny_call (V6 (F.run X.A X.stack s H ⟨us,[]⟩ (us++ds) (vs++dvs) Q E hr I.Rc (hb s us I.g9 hl) r2 h) fun r s' hq=>?_)
 cases r with
 | error e=>exact hx pins U H s e s' I hq
 | ok fl =>
  cases fl with
  | ret u=>exact I.after hq
  | next=>exact False.elim hq
  | brk=>exact False.elim hq
  | cont=>exact False.elim hq
def Ku (F:gn X.prog X.w X.K X.mg X.base CX k f fd ps sp)(hr:ef k X.A)(hg:Gl X x)(hm:X.mg x=some (.ref f))(hk:PySem.W.keepIn X.K (.ref f)=true)(hb:Binds X.K fd ps ds)(hd:Vals dvs ds)(hx:Passes CX X E)
  (ha:PA X (e::es) t)(hdb:(x == ("__debug__":Str))=false:=by decide)(he:starEach (e::es) X.env=(false,eval e X.env)::starEach es X.env:=by rfl)(hpl:(backTo pos (starEach es X.env)).any (·.1)=false:=by rfl) :
  PE X (.Call (.Name x p) (e::es) [] pos) (Pg sp dvs E t):=by
 intro pins s U H Q I h;refine Va (Bl I hg hm ?_ hdb);refine PySem.W.callWith_K (h₀:=X.base) I.ok.mod.Bs hk (aM (ha pos pins s U H _ I h) fun us s1 ⟨vs,H1,I1,r,q⟩=>⟨I1.g9,?_⟩) he hpl
 exact MU F hr hb hd hx I1 r q
end
def PK (X:Cx)(kws:List Keyword)(t:TA):Prop :=
 ∀ (pos:Pos)(pins:XH)(s:Shared)(U:St)(H:Hp)(Q:List V->Hp->Prop),Inv X pins U H s->t U H Q->wpAny (model X.prog X.w) X.A (evalAll ((backToKw pos (keywordEach kws X.env)).map (·.2))) (AP X pins U Q) X.xe s
section
variable {X:Cx}{CX:lM}{k:Nat}{f C:Addr}{fd:FuncData}{ps ks:Xc}{sp:Sp}{E:XK}{x m:Str}{p pos apos kpos:Pos}{e o:Expr}{es:XY}{kws:List Keyword}{te ta:TE}{t tk:TA}{nm:Option Str}
def Oq:PK X [] uK:=fun _ _ _ _ H Q I h=>wpAny_evalAll_nil ⟨[],H,I,.nil,h⟩
def JX (ha:PE X e te)(hr:PK X kws t):PK X (⟨nm,e,kpos⟩:: kws) (qF te t):=by
 intro pos pins s U H Q I h;show wpAny _ _ (evalAll ((do let v <- eval e X.env;standAt pos;pure v)::(backToKw pos (keywordEach kws X.env)).map (·.2))) _ _ s
 refine wpAny_evalAll_cons (R8 (aM (ha pins s U H _ I h) fun u s1 ⟨x,H1,I1,r1,q1⟩=>R8 (VY (R9 ?_))))
 exact aM (hr pos pins s1 U H1 _ I1 q1) fun us s2 ⟨xs,H2,I2,r2,q2⟩=>⟨x::xs,H2,I2,.cons r1 r2,q2⟩
variable {g:XU->XU->XU}{gV:List V->List V->List V}
end
structure aJ (N P:Xc)(sc:Scope):Prop where
 kind:sc.kind=.function
 co:sc.isCoroutine=false
 gen:sc.isGenerator=false
 nd:N.Nodup
 pre:N.take P.length=P
 par:∀ x∈P,sc.names.lookup x=some .local\/sc.names.lookup x=some .cell
 yV:∀ y∈sc.names,y.2≠.free
theorem vF {kindOf:Str->Option NameKind}{x:Str}:∀ {binds:List (Str×Value)}{m:XG},(∀ v,(x,v)∉binds)->bindL kindOf binds m x=m x
 | [],_,_=>rfl
 | (n,v)::r,m,h=>by
  unfold bindL;rw [vF fun w hw=>h w (RY _ hw)]
  split
  ·have:x≠n:=by rintro rfl;exact h v RT
   simp [this]
  ·rfl
theorem wB {kindOf:Str->Option NameKind}{x:Str}:∀ {binds:List (Str×Value)}{m:XG},(∀ v,(x,v)∉binds)->bindC kindOf binds m x=m x
 | [],_,_=>rfl
 | (n,v)::r,m,h=>by
  unfold bindC;rw [wB fun w hw=>h w (RY _ hw)]
  split
  ·rfl
  ·have:x≠n:=by rintro rfl;exact h v RT
   simp [this]
theorem vE {kindOf:Str->Option NameKind}{x:Str}{v:Value}:∀ {P:Xc}{vs:XU}{i:Nat}{m:XG},P.Nodup->P[i]?=some x->vs[i]?=some v->kindOf x=some .local ->
  bindL kindOf (P.zip vs) m x=some v
 | [],_,_,_,_,h,_,_=>by simp at h
 | _::_,[],_,_,_,_,h,_=>by simp at h
 | p::P,w::vs,0,m,nd,h1,h2,hk=>by
  simp at h1 h2;subst h1;subst h2;show bindL kindOf ((p,w)::P.zip vs) m p=_;unfold bindL;rw [vF fun v hv=>(Sj.mp nd).1 (Vb hv).1,if_pos hk]
  simp
 | p::P,w::vs,i + 1,m,nd,h1,h2,hk=>by
  show bindL kindOf ((p,w)::P.zip vs) m x=_;unfold bindL;exact vE (i:=i) (Sj.mp nd).2 (by simpa using h1) (by simpa using h2) hk
theorem vJ {kindOf:Str->Option NameKind}{x:Str}{v:Value}:∀ {P:Xc}{vs:XU}{i:Nat}{m:XG},P.Nodup->P[i]?=some x->vs[i]?=some v->kindOf x≠some .local ->
  bindC kindOf (P.zip vs) m x=some v
 | [],_,_,_,_,h,_,_=>by simp at h
 | _::_,[],_,_,_,_,h,_=>by simp at h
 | p::P,w::vs,0,m,nd,h1,h2,hk=>by
  simp at h1 h2;subst h1;subst h2;show bindC kindOf ((p,w)::P.zip vs) m p=_;unfold bindC;rw [wB fun v hv=>(Sj.mp nd).1 (Vb hv).1,if_neg hk]
  simp
 | p::P,w::vs,i + 1,m,nd,h1,h2,hk=>by
  show bindC kindOf ((p,w)::P.zip vs) m x=_;unfold bindC;exact vJ (i:=i) (Sj.mp nd).2 (by simpa using h1) (by simpa using h2) hk
def start (N:Xc)(vs:List V):St:=vs.map some++List.replicate (N.length - vs.length) none
def gp (CX:lM)(P:Program)(w:World)(K:XO)(mg:XG)(base:Heap)(N:Xc) (qual:Str)(scope:Scope)(f:Addr)(cd:Value)(A:Around)(outer:List Env)(s:Shared)(H:Hp)(E:XK):Cx where
 prog:=P
 w:=w
 K:=K
 mg:=mg
 base:=base
 A:=A.deeper (envOfC qual scope s.heap.objs.size f cd)
 N:=N
 s₀:=s
 H₀:=H
 env:=envOfC qual scope s.heap.objs.size f cd
 outer:=outer
 stack:=envOfC qual scope s.heap.objs.size f cd::outer
 ex:=[]
 calm:=true
 fn:=fun _=>true
 pn:=[]
 xe:=fun e s'=>wpAny (model P w) (A.deeper (envOfC qual scope s.heap.objs.size f cd)) (leaving (envOfC qual scope s.heap.objs.size f cd) e) (fun _ s''=>CX outer H s E e s'') (fun e' s''=>CX outer H s E e' s'') s'
def z0 {sc:Scope}{n:Nat}{x:Str}(h:sc.names.lookup x=some .cell):∃ c,(cellsFrom n sc.names []).lookup x=some c:=by
 have q:=PySem.W.cellsFrom_some sc.names n [] (.inl h);exact Option.isSome_iff_exists.mp q
def DZ {CX:lM}{P:Program}{w:World}{K:XO}{mg:XG}{base:Heap}{N ps:Xc}{qual:Str}{scope:Scope}{f:Addr}{cd:Value}{A:Around}{outer:List Env}{s s1:Shared}{H:Hp}{E:XK}{us:XU}{vs:List V}
  (S:aJ N ps scope)(hd:A.handled=none)(e0:BV P w K mg base A outer s H)(hl:vs.length=ps.length)(r:Vals vs us)
  (x:InCallC s s.heap.objs.size (bindL (envOfC qual scope s.heap.objs.size f cd).kindOf (ps.zip us) fun _=>none) (cellsFrom (s.heap.objs.size + 1) scope.names []) (bindC (envOfC qual scope s.heap.objs.size f cd).kindOf (ps.zip us) fun _=>none) s1) :
  Inv (gp CX P w K mg base N qual scope f cd A outer s H E) [] (start N vs) H s1:=by
 have hpl:ps.length<=N.length:=by have:=congrArg List.length S.pre;rw [U3] at this;lia
 obtain ⟨h1,tk,rfl,hk⟩:=x.done;have noA:∀ b:Addr,b∉(gp CX P w K mg base N qual scope f cd A outer s H E).ex:=fun b z=>absurd (show b∈([]:XW) from z) (by simp)
 refine ⟨⟨e0.mod,S.kind,rfl,rfl,RW _,fun y z c h1 h2=>?_,fun y hy=>?_,fun y c _ h=>?_,fun _=>hd,Around.frames_deeper e0.frames,.inr ⟨rfl,rfl⟩,fun b z=>absurd z (noA b),e0.bs,e0.vY,fun b _ _=>noA b,fun b z=>absurd z (noA b),e0.lA,e0.Be⟩,
  rfl,e0.bare,Un.kept hk,⟨_,x.toInCall.ns,fun i y v h1 h2 h3=>?_⟩,fun y c h=>⟨_,x.cell y c h⟩,e0.hok.fresh (RW _),fun y c h=>?_,fun p hp=>absurd (show p∈([]:XH) from hp) (by simp),e0.hok.kept hk,?_⟩
 ·exact name_of_addr x.apart (V7 h1) (V7 h2)
 ·have hy:scope.names.lookup y=some .cell\/scope.names.lookup y=some .free:=hy;rcases hy with hy | hy
  ·exact z0 hy
  ·exact absurd rfl (S.yV _ (V7 hy))
 ·exact UR (x.above y c (V7 h))
 ·have hi:i < vs.length:=by
   unfold start at h2
   by_cases hi:i < vs.length
   ·exact hi
   ·rw [UC (by simpa using hi)] at h2
    rw [WB] at h2;split at h2 <;> cases h2
  have ha:vs[i]?=some v:=by
   unfold start at h2;rw [UT (by simpa using hi),S7] at h2
   cases e:vs[i]? with
   | none=>rw [e] at h2;cases h2
   | some a=>rw [e] at h2;cases h2;rfl
  obtain ⟨u,hu,rv⟩:=r.get ha;have hp:ps[i]?=some y:=by
   rw [<- S.pre,List.getElem?_take_of_lt (by lia)];exact h1
  have ndP:ps.Nodup:=by rw [<- S.pre];exact S.nd.sublist (List.take_sublist _ _)
  refine ⟨u,rv,?_⟩;rcases S.par y (SR hp) with k | k
  ·exact .inl ⟨k,vE ndP hp hu k⟩
  ·obtain ⟨c,e⟩:=z0 (n:=s.heap.objs.size + 1) k;refine .inr ⟨.inl k,c,e,?_⟩;have q:=x.cell y c e;rw [vJ ndP hp hu (by show scope.names.lookup y≠_;rw [k];decide)] at q
   exact q
 ·exact e0.hok.fresh (UR (x.above y c (V7 h)))
 ·unfold start;show _=N.length;rw [SJ,RX,TZ];lia
def PJ {CX:lM}{P:Program}{w:World}{K:XO}{mg:XG}{base:Heap}{k:Nat}{f:Addr}{name qual:Str}{params:Arguments}{body:XZ}{scope:Scope}{dV kV doc pm cdv ct oc:Value}{an od:XT}
  {osl:XD}{N ps:Xc}{sp:Sp}(lk:K.lookup f=some ⟨oc,od,.func (PySem.W.fnOf name qual params body scope dV kV doc pm an cdv ct),osl⟩)(hcd:PySem.W.codeIn K cdv qual=true)(S:aJ N ps scope)
  (len:∀ vs H Q E,sp vs H Q E->vs.length=ps.length)
  (hbody:∀ (A:Around)(outer:List Env)(s:Shared)(H:Hp)(vs:List V)(Q:VK)(E:XK),ef k (A.deeper (envOfC qual scope s.heap.objs.size f cdv))->sp vs H Q E ->
   ∃ t,oQ (gp CX P w K mg base N qual scope f cdv A outer s H E) body t/\t { nx:=fun _ H'=>Q .br H',rt:=Q } (start N vs) H) :
  gn P w K mg base CX (k + 1) f (PySem.W.fnOf name qual params body scope dV kV doc pm an cdv ct) ps sp:=by
 refine ⟨len,fun A outer s H args us vs Q E hr e0 hb r hsp=>?_⟩
 have hl:=len _ _ _ _ hsp;have KX:K.In s.heap:=e0.mod.Bs.keeps fun b o e=>(e0.bs b o e).1
 have lim:s.heap.NoLimit:=e0.mod.nolimit.keeps fun b o e=>(e0.bs b o e).1
 have hkind:∀ y∈ps.zip us,scope.names.lookup y.1=some .local\/(scope.names.lookup y.1=some .cell/\((cellsFrom (s.heap.objs.size + 1) scope.names []).lookup y.1).isSome=true):=fun ⟨n,v⟩ hy=>by
  rcases S.par n (Vb hy).1 with q | q
  ·exact .inl q
  ·exact .inr ⟨q,PySem.W.cellsFrom_some _ _ _ (.inl q)⟩
 refine codeAny_call_function hr.depth (KX _ _ lk) rfl S.co S.gen rfl (PySem.W.codeRec_of KX hcd) (hb _ _ _ _ ?_);refine wpAny_newFunctionEnv_cells S.kind hkind fun env he s1 x=>?_
 subst he;refine ⟨lim.keeps x.toInCall.keep,codeAny_func ?_⟩;obtain ⟨t,ht,hq⟩:=hbody A outer s H vs Q E (hr.deeper _) hsp;have I:Inv (gp CX P w K mg base N qual scope f cdv A outer s H E) [] (start N vs) H s1:=DZ S hr.hd e0 hl r x;refine Ss (ht [] s1 (start N vs) H _ I hq) (fun fl s' hs=>?_) fun e s' hs=>hs
 have fin:∀ {σ':St}{H':Hp}{v:V}{u:Value},Inv (gp CX P w K mg base N qual scope f cdv A outer s H E) [] σ' H' s'->RelV v u->Q v H'->CE outer P w H s Q u s' :=
  fun {σ' H' v u} J rv q=>⟨v,H',J.os,J.bare,J.base,J.hok,rv,q⟩
 cases fl with
 | ret u =>
  obtain ⟨v,σ',H',J,rv,q⟩:=hs;exact fin J rv q
 | next =>
  obtain ⟨σ',H',J,q⟩:=hs;exact fin (v:=V.br) (u:=Value.none) J rfl q
 | brk =>
  obtain ⟨_,_,_,q⟩:=hs;exact False.elim q
 | cont =>
  obtain ⟨_,_,_,q⟩:=hs;exact False.elim q
section
variable {X:Cx}{x:Str}{p pos:Pos}{e:Expr}{es:XY}{t:TA}{id T:String}{r:List V->Hp->VK->Prop}
def Qh (r:List V->Hp->VK->Prop)(t:TA):TE:=fun U H Q=>t U H fun vs H1=>r vs H1 Q
def rJ (hc:cF X (.builtin id) r)(hg:Gl X x)(hm:X.mg x=none)(hv:bootBuiltins x=some (.builtin id))(ha:PA X (e::es) t)(hn:x≠"__name__":=by decide)(hdb:(x == ("__debug__":Str))=false:=by decide)
  (he:starEach (e::es) X.env=(false,eval e X.env)::starEach es X.env:=by rfl)(hpl:(backTo pos (starEach es X.env)).any (·.1)=false:=by rfl):PE X (.Call (.Name x p) (e::es) [] pos) (Qh r t):=by
 intro pins s U H Q I h;refine Va (jE I hg hm hv ?_ hn hdb);exact PyProof.Rows.callWith_builtin1 (aM (ha pos pins s U H _ I h) fun us s1 ⟨vs,H1,I1,r1,q1⟩=>hc pins s1 U H1 vs us Q I1 r1 q1) he hpl
def jD (hc:cF X (.type T) r)(hg:Gl X x)(hm:X.mg x=none)(hv:bootBuiltins x=some (.type T))(ha:PA X (e::es) t)(hn:x≠"__name__":=by decide)(hdb:(x == ("__debug__":Str))=false:=by decide)
  (he:starEach (e::es) X.env=(false,eval e X.env)::starEach es X.env:=by rfl)(hpl:(backTo pos (starEach es X.env)).any (·.1)=false:=by rfl):PE X (.Call (.Name x p) (e::es) [] pos) (Qh r t):=by
 intro pins s U H Q I h;refine Va (jE I hg hm hv ?_ hn hdb);exact V5 (aM (ha pos pins s U H _ I h) fun us s1 ⟨vs,H1,I1,r1,q1⟩=>hc pins s1 U H1 vs us Q I1 r1 q1) he hpl
end
end L2
namespace HT
open PySem PyProof.Rows
section
open PySem.SeqAt
open PySem.AutoSeq1 (wpAny_loadPart')
open PySem.MeetsSeq PySem.MeetsSeq2 PySem.MeetsSeq3
end
section
variable {prog:Program}{w:World}{A:Around}{E:XE}{s:Shared}
def J3 {t b:Addr}{vs ws:XU}{Q:XE}(ht:IsTup s.heap t vs.toArray)(hb:IsTup s.heap b ws.toArray)(hv:vs≠[])
  (h1:ws=[]->Q (.ref t) s)(h2:ws≠[]->Q (.ref s.heap.objs.size) { s with heap:=s.heap.push { cls:=.type "tuple",data:=.seq (vs++ws).toArray } })
  (hsz:vs.length + ws.length<=sizeLine):wpAny (model prog w) A (binaryOp .Add (.ref t) (.ref b)) Q E s:=by
 obtain ⟨⟨cls,dd,data,sl⟩,ho,hc,n,hd⟩:=id ht;obtain ⟨⟨cls2,dd2,data2,sl2⟩,ho2,hc2,n2,hd2⟩:=id hb;simp only at hc hd hc2 hd2;subst hc hd hc2 hd2;have e:vs.toArray++ws.toArray=(vs++ws).toArray:=by simp
 by_cases hw:ws=[]
 ·exact concat_meets ⟨_,ho,rfl⟩ ⟨_,ho2,rfl⟩ noFill_tuple_add seq_tuple_add PySem.F.slot_tuple_add PySem.F.entry_tuple_add (PySem.F.args_tuple_add_2 _ _)
   (tuple_addW1 t b vs.toArray ws.toArray n n2 dd dd2 sl sl2 (by simpa using hv) (by simp [hw])) ⟨ho,ho2,h1 hw⟩
 ·refine concat_meets ⟨_,ho,rfl⟩ ⟨_,ho2,rfl⟩ noFill_tuple_add seq_tuple_add PySem.F.slot_tuple_add PySem.F.entry_tuple_add (PySem.F.args_tuple_add_2 _ _)
   (tuple_addW2 t b vs.toArray ws.toArray n n2 dd dd2 sl sl2 (by simpa using hv) (by simpa using hw) (by rw [SD,SD];exact hsz)) ⟨ho,ho2,?_⟩
  rw [e];exact h2 hw
def aO (n d:Nat):Option Int->Nat
 | none=>d
 | some v=>if v < 0 then (v + (n:Int)).toNat else min v.toNat n
def qE (n d k:Nat):aO n d (some (k:Int))=min k n:=by
 show (if (k:Int) < 0 then ((k:Int) + (n:Int)).toNat else min (k:Int).toNat n)=min k n
 rw [if_neg (by lia),Uj]
def NT (n d:Nat)(hd:d<=n)(o:Option Int):aO n d o<=n:=by
 cases o with
 | none=>exact hd
 | some v =>
  show (if v < 0 then (v + (n:Int)).toNat else min v.toNat n)<=n
  by_cases hv:v < 0
  ·rw [if_pos hv];lia
  ·rw [if_neg hv];exact WC _ _
def BJ (v:Int) (n d:Nat):(if v < 0 then max (v + (n:Int)) 0 else min v (n:Int))=((aO n d (some v):Nat):Int):=by
 show (if v < 0 then max (v + (n:Int)) 0 else min v (n:Int))=(((if v < 0 then (v + (n:Int)).toNat else min v.toNat n):Nat):Int)
 by_cases hv:v < 0
 ·simp only [if_pos hv];lia
 ·simp only [if_neg hv];lia
def BU (lo hi:Option Int) (n:Nat):Builtin.Slice.sliceAdjust lo hi 1 (n:Int)=(((aO n 0 lo:Nat):Int),((aO n n hi:Nat):Int)):=by
 have h1:¬ ((1:Int) < 0):=by lia
 unfold Builtin.Slice.sliceAdjust;simp only [h1,U4];refine Prod.ext ?_ ?_
 ·cases lo with
  | none=>rfl
  | some v=>exact BJ v n 0
 ·cases hi with
  | none=>rfl
  | some v=>exact BJ v n n
def Cv (i j:Nat):Builtin.Slice.slicePlaces (i:Int) (j:Int) 1=j - i:=by
 unfold Builtin.Slice.slicePlaces;have h1:(1:Int) > 0:=by lia
 simp only [h1,if_true,Int.ediv_one];split <;> lia
def uv {v:Value}{o:Option Int}{Q:Option Int->Shared->Prop}(p:IsPart v o)(h:Q o s):wpAny (model prog w) A (Builtin.Slice.slicePartIndex v) Q E s:=by
 cases p with
 | none=>exact slicePart_none h
 | int i t=>exact slicePart_int h
def kE {sl:Addr}{vl vu:Value}{lo hi:Option Int}{n:Nat}{Q:Int×Int×Nat->Shared->Prop}(hs:s.heap.IsSliceOf sl vl vu .none)(pl:IsPart vl lo)(pu:IsPart vu hi)
  (h:Q (((aO n 0 lo:Nat):Int),1,aO n n hi - aO n 0 lo) s):wpAny (model prog w) A (Builtin.Slice.sliceApplied (.ref sl) (pure (n:Int))) Q E s:=by
 obtain ⟨os,hos,hcs,hds⟩:=id hs;unfold Builtin.Slice.sliceApplied Builtin.Slice.sliceFields;refine R8 (R8 (UD hos hds (x:=vl) rfl (R8 (UD hos hds (x:=vu) rfl (R8 (UD hos hds (x:=.none) rfl (R9 ?_)))))));refine R8 (slicePart_none ?_);show wpAny _ _ (if ((1:Int) == 0)=true then _ else _) _ _ s
 rw [if_neg (by decide)]
 refine R8 (uv pl (R8 (uv pu (R8 (R9 ?_)))));show wpAny _ _ (match Builtin.Slice.sliceAdjust lo hi 1 (n:Int) with | (lo,hi)=>pure (lo,(1:Int),Builtin.Slice.slicePlaces lo hi 1)) _ _ s
 rw [BU lo hi n];show wpAny _ _ (pure (((aO n 0 lo:Nat):Int),(1:Int),Builtin.Slice.slicePlaces ((aO n 0 lo:Nat):Int) ((aO n n hi:Nat):Int) 1)) _ _ s;rw [Cv];exact R9 h
def GI (xs:XR) (i k:Nat):((List.range k).filterMap fun (m:Nat)=>xs[((i:Int) + (m:Int) * 1).toNat]?).toArray=((xs.toList.drop i).take k).toArray:=by
 have e:(fun (m:Nat)=>xs[((i:Int) + (m:Int) * 1).toNat]?)=fun m=>xs[i + m]?:=by
  funext m;have:((i:Int) + (m:Int) * 1).toNat=i + m:=by lia
  rw [this]
 rw [e];have:=pick_run xs i k;rw [List.filterMap_map] at this;have e2:((fun x=>xs[x]?) ∘ fun x=>i + x)=fun m=>xs[i + m]?:=rfl
 rw [e2] at this;rw [this]
def qJ {t sl:Addr}{items:XR}{vl vu:Value}{lo hi:Option Int}{Q:XE}(ht:IsTup s.heap t items)(hs:s.heap.IsSliceOf sl vl vu .none)(pl:IsPart vl lo)(pu:IsPart vu hi)
  (hw:¬ (aO items.size 0 lo=0/\aO items.size items.size hi=items.size))
  (h:Q (.ref s.heap.objs.size) { s with heap:=s.heap.push { cls:=.type "tuple",data:=.seq ((items.toList.drop (aO items.size 0 lo)).take (aO items.size items.size hi - aO items.size 0 lo)).toArray } })
  (hsz:items.size<=sizeLine):wpAny (model prog w) A (getItem (.ref t) (.ref sl)) Q E s:=by
 have htake:sizeOk (.seq ((items.toList.drop (aO items.size 0 lo)).take (aO items.size items.size hi - aO items.size 0 lo)).toArray):=by
  show ((items.toList.drop (aO items.size 0 lo)).take (aO items.size items.size hi - aO items.size 0 lo)).toArray.size<=sizeLine;rw [SD,U3,UU,TU];exact SW (WC _ _) (SW (Nat.sub_le _ _) hsz)
 have hj:aO items.size items.size hi<=items.size:=NT _ _ (RW _) hi;obtain ⟨os,hos,hcs,hds⟩:=id hs;have hTs:s.TypeIs (.ref sl) "slice":=⟨os,hos,hcs⟩;unfold getItem
 try with_reducible refine Sx ?_
 first | refine R8 (R9 ?_) | skip
 refine R8 (wpAny_sequenceKey ht.typeIs (by decide) ?_)
 refine R8 (Uk (name:=Str.ofString "__getitem__") ht.typeIs Vc
  (TX Vc ht.typeIs entry_tuple_getitem ?_ (args_tuple_getitem _ _)))
 show wpAny _ _ (Builtin.Tuple.tupleItemsOf (.ref t) >>= _) _ _ s;refine R8 (tupleItemsOf_ ht ?_);refine R8 (Ul hTs ?_);rw [if_pos (by decide)]
 refine R8 (kE hs pl pu ?_);have hno:¬ ((((aO items.size 0 lo:Nat):Int) == 0 && (1:Int) == 1 && (aO items.size items.size hi - aO items.size 0 lo) == items.size)=true):=by
  intro q;rw [S4,S4] at q;have q1:((aO items.size 0 lo:Nat):Int)=0:=UW q.1.1;have q2:aO items.size items.size hi - aO items.size 0 lo=items.size:=UW q.2;exact hw ⟨by lia,by lia⟩
 show wpAny _ _ (if (((aO items.size 0 lo:Nat):Int) == 0 && (1:Int) == 1 && (aO items.size items.size hi - aO items.size 0 lo) == items.size)=true then _ else _) _ _ s
 rw [if_neg hno,GI]
 first
  | exact R8 (m:=Builtin.Tuple.tupleExact _) (T7 (R9 ⟨_,rfl,R9 h⟩) htake)
  | exact R8 (m:=Builtin.Tuple.tupleExact _) (T7 (R8 (R9 (R9 ⟨_,rfl,R9 h⟩))) htake)
  | exact R8 (R8 (m:=Builtin.Tuple.tupleExact _) (T7 (R9 (R9 ⟨_,rfl,R9 h⟩)) htake))
  | exact R8 (R8 (m:=Builtin.Tuple.tupleExact _) (T7 (R9 ⟨_,rfl,R9 h⟩) htake))
end
end HT
namespace L2
open PySem PySem.Spec PyProof.Rows
abbrev TO:=St->Hp->(Option Int->Hp->Prop)->Prop
def PO (X:Cx)(e:Option Expr)(t:TO):Prop :=
 ∀ (pins:XH)(s:Shared)(U:St)(H:Hp)(Q:Option Int->Hp->Prop),Inv X pins U H s->t U H Q ->
  wpAny (model X.prog X.w) X.A (evalPart e X.env) (fun u s'=>∃ o H',Inv X pins U H' s'/\IsPart u o/\Q o H') X.xe s
def Lz:TO:=fun _ H Q=>Q none H
def OR (t:TE):TO:=fun U H Q=>t U H fun x H1=>∃ i,x=.int i/\Q (some i) H1
def intsAre_of {ns:Xb}:∀ {us:XU},Vals (ns.map V.int) us->IntsAre us ns:=by
 induction ns with
 | nil=>intro us r;rw [V8] at r;cases r;exact .nil
 | cons n ns ih =>
  intro us r;rw [SO] at r;cases r with
  | cons r1 r2 =>
   obtain ⟨t,e⟩:=r1;subst e;exact .cons n t (ih r2)
section
variable {X:Cx}{e:Expr}{te:TE}{lo hi:Option Expr}{tl th:TO}{pos p2:Pos}
def A0:PO X none Lz:=by
 intro pins s U H Q I h;rw [evalPart_none];exact R9 ⟨none,H,I,.none,h⟩
def AQ (h:PE X e te):PO X (some e) (OR te):=by
 intro pins s U H Q I hw;rw [evalPart_some];refine aM (h pins s U H _ I hw) fun u s1 ⟨x,H1,I1,r1,q1⟩=>?_
 obtain ⟨i,rfl,q⟩:=q1;obtain ⟨t,rfl⟩:=r1;exact ⟨some i,H1,I1,.int i t,q⟩
def EZ (X:Cx)(r:V->Option Int->Option Int->Hp->VK->Prop):Prop :=
 ∀ (pins:XH)(s:Shared)(U:St)(H:Hp) (x:V)(v vl vu:Value)(lo hi:Option Int)(sl:Addr)(Q:VK),Inv X pins U H s->RelV x v->s.heap.IsSliceOf sl vl vu .none->IsPart vl lo->IsPart vu hi->r x lo hi H Q ->
  ∃ T id,typeLookup (.type T) "__getitem__"=pure (some (.builtin id))/\s.TypeIs v T/\wpAny (model X.prog X.w) X.A (getItem v (.ref sl)) (EP X pins U Q) X.xe s
def Rt (r:V->Option Int->Option Int->Hp->VK->Prop)(te:TE)(tl th:TO):TE:=fun U H Q=>te U H fun x H1=>tl U H1 fun l H2=>th U H2 fun u H3=>r x l u H3 Q
def zR {r:V->Option Int->Option Int->Hp->VK->Prop}(hr:EZ X r)(he:PE X e te)(hl:PO X lo tl)(hu:PO X hi th):PE X (.Subscript e (.Slice lo hi none p2) pos) (Rt r te tl th):=by
 intro pins s U H Q I h;refine Subscript_ (aM (he pins s U H _ I h) fun v s1 ⟨x,H1,I1,r1,q1⟩=>?_)
 refine wpAny_Slice (aM (hl pins s1 U H1 _ I1 q1) fun vl s2 ⟨l,H2,I2,pl,q2⟩=>aM (hu pins s2 U H2 _ I2 q2) fun vu s3 ⟨u,H3,I3,pu,q3⟩=>?_)
 rw [evalPart_none];refine R9 ?_;have I4:Inv X pins U H3 { s3 with heap:=s3.heap.push { cls:=.type "slice",data:=.fields #[vl,vu,.none] } }:=I3.kept (t':=s3.toks) fun b ob q=>S5 _ q
 obtain ⟨T,id,hT,ht,hg⟩:=hr pins { s3 with heap:=s3.heap.push { cls:=.type "slice",data:=.fields #[vl,vu,.none] } } U H3 x v vl vu l u s3.heap.objs.size Q I4 r1 (Heap.IsSliceOf.new ..) pl pu q3
 show wpAny (model X.prog X.w) X.A (subscriptTail e (.Slice lo hi none p2) v (.ref s3.heap.objs.size)) (EP X pins U Q) X.xe { s3 with heap:=s3.heap.push { cls:=.type "slice",data:=.fields #[vl,vu,.none] } }
 exact tail_any (ops:=[.ref s3.heap.objs.size,v]) ht hT hg (by with_unfolding_all rfl)
def nK (xs:List V)(lo hi:Option Int):List V:=(xs.drop (HT.aO xs.length 0 lo)).take (HT.aO xs.length xs.length hi - HT.aO xs.length 0 lo)
def rA (xs:List V)(lo hi:Option Int):(nK xs lo hi).length<=xs.length:=by
 unfold nK;rw [U3,UU];exact SW (WC _ _) (Nat.sub_le _ _)
def QJ (K:XO):V->Option Int->Option Int->Hp->VK->Prop:=fun x lo hi H Q=>∃ a xs,x=.ref a/\cJ K H a xs /\
 ¬ (HT.aO xs.length 0 lo=0/\HT.aO xs.length xs.length hi=xs.length)/\∀ p,H p=none->Q (.ref p) (upd H p (.tup (nK xs lo hi)))
def Ov:EZ X (QJ X.K):=by
 intro pins s U H x v vl vu lo hi sl Q I rx hs pl pu h;obtain ⟨a,xs,rfl,hx,hw,q⟩:=h;cases rx;obtain ⟨its,r,ht,hz⟩:=I.tuple hx;have hlen:its.toArray.size=xs.length:=by rw [SD];exact r.length.symm
 refine ⟨"tuple",_,Ww,ht.typeIs,?_⟩;refine HT.qJ ht hs pl pu (by rw [hlen];exact hw) ?_ (by rw [hlen];exact hz)
 rw [hlen];refine ⟨.ref s.heap.objs.size,_,I.laid (t':=s.toks) (o:=.tup (nK xs lo hi)) (fun b ob q=>S5 _ q) (RW _) ?_,rfl,q _ (I.hok.fresh (RW _))⟩
 exact ⟨SW (rA xs lo hi) hz,_,(r.drop (HT.aO xs.length 0 lo)).take (HT.aO xs.length xs.length hi - HT.aO xs.length 0 lo),IsTup.new _ _⟩
def Jw (K:XO):R2:=fun x y H Q=>∃ a b xs ys,x=.ref a/\y=.ref b/\cJ K H a xs/\cJ K H b ys/\xs≠[]/\xs.length + ys.length<=sizeLine /\
 (ys=[]->Q (.ref a) H)/\(ys≠[]->∀ p,H p=none->Q (.ref p) (upd H p (.tup (xs++ys))))
def Vals.uQ {xs:List V}{us:XU}(r:Vals xs us):us=[]↔xs=[]:=by
 cases r with
 | nil=>simp
 | cons _ _=>simp
def Lg:bO X (binaryOp .Add) (Jw X.K):=by
 intro pins s U H x y v u Q I rx ry h;obtain ⟨a,b,xs,ys,rfl,rfl,ha,hb,hx,hz,q1,q2⟩:=h;cases rx;cases ry;obtain ⟨its,r1,p1,_⟩:=I.tuple ha;obtain ⟨its2,r2,p2,_⟩:=I.tuple hb;refine HT.J3 p1 p2 (fun z=>hx (r1.uQ.mp z)) (fun z=>⟨.ref a,H,I,rfl,q1 (r2.uQ.mp z)⟩) (fun z=>?_) (by rw [<- r1.length,<- r2.length];exact hz)
 refine ⟨.ref s.heap.objs.size,_,I.laid (t':=s.toks) (o:=.tup (xs++ys)) (fun b ob q=>S5 _ q) (RW _) ?_,rfl,q2 (fun w=>z (r2.uQ.mpr w)) _ (I.hok.fresh (RW _))⟩
 exact ⟨by rw [SJ];exact hz,_,r1.append r2,IsTup.new _ _⟩
end
def oK (n:Nat) (i:Int):Option Nat:=if 0<=i then (if i < n then some i.toNat else none) else if -(n:Int)<=i then some (i + n).toNat else none
def eF {α:Type}(xs:List α) (i:Int):Option α:=(oK xs.length i).bind fun j=>xs[j]?
def A8 {n:Nat}{i:Int}{j:Nat}(h:oK n i=some j):seqIndex? i n=some j/\j < n/\-(n:Int)<=i/\i < n:=by
 unfold oK at h
 by_cases h0:0<=i
 ·rw [if_pos h0] at h
  by_cases h1:i < n
  ·rw [if_pos h1] at h;have e:i.toNat=j:=Option.some.inj h;exact ⟨by rw [seqIndex_of h0 h1,e],by lia,by lia,h1⟩
  ·rw [if_neg h1] at h;cases h
 ·rw [if_neg h0] at h
  by_cases h1:-(n:Int)<=i
  ·rw [if_pos h1] at h;have e:(i + n).toNat=j:=Option.some.inj h;exact ⟨by rw [seqIndex_neg (by lia) h1,e],by lia,h1,by lia⟩
  ·rw [if_neg h1] at h;cases h
def vA {α:Type}{xs:List α}{i:Int}{v:α}(h:eF xs i=some v):∃ j,seqIndex? i xs.length=some j/\xs[j]?=some v/\j < xs.length/\-(xs.length:Int)<=i/\i < xs.length:=by
 unfold eF at h;cases e:oK xs.length i with
 | none=>rw [e] at h;cases h
 | some j =>
  rw [e] at h;obtain ⟨h1,h2,h3,h4⟩:=A8 e;exact ⟨j,h1,h,h2,h3,h4⟩
def mR (b:Expr):Prop:=∀ o i,subscripted b false o i=operate [o,i] (getItem o i)
def oR (X:Cx)(r:R2):Prop :=
 ∀ (value slice:Expr)(pins:XH)(s:Shared)(U:St)(H:Hp) (x y:V)(v u:Value)(Q:VK),Inv X pins U H s->RelV x v->RelV y u->r x y H Q ->
  subscripted slice false v u=operate [v,u] (getItem v u)->wpAny (model X.prog X.w) X.A (subscriptTail value slice v u) (EP X pins U Q) X.xe s
def N4 (X:Cx)(id:String)(r:V->List V->Hp->VK->Prop):Prop :=
 ∀ (pins:XH)(s:Shared)(U:St)(H:Hp) (x:V)(xs:List V)(v:Value)(us:XU)(Q:VK),Inv X pins U H s->RelV x v->Vals xs us->r x xs H Q ->
  wpAny (model X.prog X.w) X.A (call (.builtin id) (v::us)) (EP X pins U Q) X.xe s
section
variable {X:Cx}{a b:Expr}{ta tb:TE}{pos:Pos}
def oR.or {r r':R2}(h:oR X r)(h':oR X r'):oR X (fun x y H Q=>r x y H Q\/r' x y H Q):=by
 intro value slice pins s U H x y v u Q I rx ry q hs;rcases q with q | q
 ·exact h value slice pins s U H x y v u Q I rx ry q hs
 ·exact h' value slice pins s U H x y v u Q I rx ry q hs
def IU {r:R2}(hr:oR X r)(ha:PE X a ta)(hb:PE X b tb)(hs:mR b):PE X (.Subscript a b pos) (Na r ta tb):=by
 intro pins s U H Q I h;exact Subscript_ (HQ ha hb I h fun v u s2 x y H2 I2 rx ry q=>hr a b pins s2 U H2 x y v u Q I2 rx ry q (hs _ _))
inductive Ja (K:XO) (x:V) (y:V)(H:Hp)(Q:VK):Prop
 | mk:∀ p xs i v,(x=.ref p)->(y=.int i)->(bF K H p xs)->(eF xs i=some v)->(Q v H)->Ja K x y H Q
def M4 (K:XO):R2:=fun x y H Q=>Ja K x y H Q
inductive Iv (K:XO) (x:V) (y:V)(H:Hp)(Q:VK):Prop
 | mk:∀ p xs i v,(x=.ref p)->(y=.int i)->(cJ K H p xs)->(eF xs i=some v)->(Q v H)->Iv K x y H Q
def LS (K:XO):R2:=fun x y H Q=>Iv K x y H Q
inductive IM (x:V) (y:V)(H:Hp)(Q:VK):Prop
 | mk:∀ z i c,(x=.str z)->(y=.int i)->(z.length<=sizeLine)->(eF z.cps.toList i=some c)->(Q (.str ⟨#[c]⟩) H)->IM x y H Q
def LU:R2:=fun x y H Q=>IM x y H Q
def J9:oR X (M4 X.K):=by
 intro value slice pins s U H x y v u Q I rx ry h hs;obtain ⟨p,xs,i,z,rfl,rfl,hq,he,q⟩:=h;cases rx;obtain ⟨t,rfl⟩:=ry;obtain ⟨its,r,pl,hz⟩:=I.list hq;obtain ⟨j,h1,h2,h3,h4,h5⟩:=vA he;obtain ⟨w,ew,rw'⟩:=r.get h2;have hl:=r.length;have hn:=mT;have fin:EP X pins U Q w s:=⟨z,H,I,rw',q⟩
 by_cases h0:0<=i
 ·have hj:i.toNat=j:=by
   rw [seqIndex_of h0 h5] at h1;exact Option.some.inj h1
  exact item_listR pl.isList h0 (by lia) (by rw [hj];simpa using ew) fin hs
 ·have hj:(i + (its.toArray.size:Int)).toNat=j:=by
   rw [seqIndex_neg (by lia) h4] at h1
   rw [SD,<- hl];exact Option.some.inj h1
  exact subscriptTail_builtinR (x:=w) pl.isList.typeIs slot_list_getitem.lookup
   (wpAny_getItem_list_neg (Q:=fun r s'=>r=w/\EP X pins U Q r s') pl.isList (by lia) (by rw [SD] <;> lia) (by lia) (by rw [hj];simpa using ew) ⟨rfl,fin⟩) hs
def MO:oR X (LS X.K):=by
 intro value slice pins s U H x y v u Q I rx ry h hs;obtain ⟨p,xs,i,z,rfl,rfl,hq,he,q⟩:=h;cases rx;obtain ⟨t,rfl⟩:=ry;obtain ⟨its,r,pl,hz⟩:=I.tuple hq;obtain ⟨j,h1,h2,h3,h4,h5⟩:=vA he;obtain ⟨w,ew,rw'⟩:=r.get h2;have hl:=r.length;have hn:=mT;have fin:EP X pins U Q w s:=⟨z,H,I,rw',q⟩;exact subscriptTail_builtinR (x:=w) pl.typeIs slot_tuple_getitem.lookup
  (getItem_tuple (j:=j) (Q:=fun r s'=>r=w/\EP X pins U Q r s') pl (by lia) (by lia) (by rw [SD,<- hl];exact h1) (by simpa using ew) ⟨rfl,fin⟩) hs
def Nr:oR X LU:=by
 intro value slice pins s U H x y v u Q I rx ry h hs;obtain ⟨z,i,c,rfl,rfl,hz,he,q⟩:=h;obtain ⟨t,rfl⟩:=rx;obtain ⟨t',rfl⟩:=ry;obtain ⟨j,h1,h2,h3,h4,h5⟩:=vA he;have hl:z.cps.toList.length=z.length:=by simp [Str.length]
 rw [hl] at h1 h4 h5;have hn:=mT;exact tail_any (typeIs_str s z t) slot_str_getitem.lookup (getItem_str (c:=c) (by
  have e1:decide (i < -(2 ^ 63:Int))=false:=Si (by lia)
  have e2:decide (i >= 2 ^ 63)=false:=Si (by lia)
  rw [e1,e2,Bool.or_false]) (by rw [h1];simpa using h2) ⟨.str ⟨#[c]⟩,H,I.tok _,⟨_,rfl⟩,q⟩) hs
def NN (K:XO):R2:=fun x y H Q=>M4 K x y H Q\/LS K x y H Q\/LU x y H Q
def DJ:oR X (NN X.K):=J9.or (MO.or Nr)
def Df (its:XU) (n j:Nat)(u:Value):Obj.mapSeq (·.setIfInBounds j u) { cls:=.type "list",data:=.seq its.toArray n }={ cls:=.type "list",data:=.seq (its.set j u).toArray n }:=by
 simp [Obj.mapSeq]
theorem Inv.lst {pins:XH}{U:St}{H:Hp}{s:Shared}{p:Addr}{xs:List V}(I:Inv X pins U H s)(h:H p=some (.lst xs)) :
  ∃ (its:XU) (n:Nat),Vals xs its/\s.heap.get? p=some { cls:=.type "list",data:=.seq its.toArray n }/\xs.length<=sizeLine:=by
 obtain ⟨z,its,n,r,e⟩:=I.hok p _ h;exact ⟨its,n,r,e,z⟩
def Inv.Oi {pins:XH}{U:St}{H:Hp}{s:Shared}{p:Addr}{xs ys:List V}{its its':XU}{n n':Nat}{f:Obj->Obj}(I:Inv X pins U H s)(h:H p=some (.lst xs))
  (ho:s.heap.get? p=some { cls:=.type "list",data:=.seq its.toArray n })(hf:f { cls:=.type "list",data:=.seq its.toArray n }={ cls:=.type "list",data:=.seq its'.toArray n' })(r:Vals ys its')(hz:ys.length<=sizeLine) (t:Nat) :
  Inv X pins U (upd H p (.lst ys)) { s with heap:=s.heap.update p f,toks:=t }:=by
 have e:(s.heap.update p f).get? p=some { cls:=.type "list",data:=.seq its'.toArray n' }:=by
  rw [Tc f ho (by rw [hf] <;> rfl),hf]
 refine I.write (x:=p) (e:=p) (by rw [h];trivial) (.inl rfl) (fun b u hb q=>(Sz _ _ (Ne.symm hb)).trans q) ⟨_,e⟩ ?_
 exact ⟨hz,its',n',r,e⟩
inductive ER (o:V) (i:V) (v:V)(H:Hp)(Q:(Hp->Prop)):Prop
 | mk:∀ p xs k j,(o=.ref p)->(i=.int k)->(H p=some (.lst xs))->(oK xs.length k=some j)->(Q (upd H p (.lst (xs.set j v))))->ER o i v H Q
def JB:V->V->V->Hp->(Hp->Prop)->Prop:=fun o i v H Q=>ER o i v H Q
def set_list:Ib X JB:=by
 intro pins s U H o i v ov iv u Q I ro ri rv h;obtain ⟨p,xs,k,j,rfl,rfl,hp,hj,q⟩:=h;cases ro;obtain ⟨t,rfl⟩:=ri;obtain ⟨its,n,r,ho,hz⟩:=I.lst hp;obtain ⟨h1,h2,h3,h4⟩:=A8 hj;have hl:=r.length;have hn:=mT;have I':Inv X pins U (upd H p (.lst (xs.set j v))) { s with heap:=s.heap.update p (Obj.mapSeq (·.setIfInBounds j u)) } :=
  I.Oi hp ho (Df its n j u) (r.set rv j) (by rw [Sw];exact hz) s.toks
 by_cases h0:0<=k
 ·have hk:k.toNat=j:=by
   rw [seqIndex_of h0 h4] at h1;exact Option.some.inj h1
  exact PySem.W.ki_setAt ho h0 (by lia) (by rw [SD,<- hl];exact h4) (by rw [hk];exact ⟨_,I',q⟩)
 ·have hk:(k + (its.toArray.size:Int)).toNat=j:=by
   rw [seqIndex_neg (by lia) h3] at h1
   rw [SD,<- hl];exact Option.some.inj h1
  exact PySem.W.ki_setBack ho (by lia) (by rw [SD,<- hl];exact h3) (by lia) (by rw [hk];exact ⟨_,I',q⟩)
def yo (lo hi:Option Int) (n:Nat):(sliceBounds lo hi none n).1=((HT.aO n 0 lo:Nat):Int)/\(sliceBounds lo hi none n).2.1=((HT.aO n n hi:Nat):Int)/\(sliceBounds lo hi none n).2.2=1:=by
 have one:∀ i:Int,(sliceBounds (some i) none none n).1=((HT.aO n 0 (some i):Nat):Int):=fun i=>by
  simp only [sliceBounds,HT.aO,Option.getD_none,show (1:Int) > 0 by decide,if_true]
  by_cases h:i < 0
  ·simp only [h,if_true] <;> lia
  ·simp only [h,U4] <;> lia
 refine ⟨?_,?_,rfl⟩
 ·cases lo with
  | none=>simp [sliceBounds,HT.aO]
  | some i=>exact one i
 ·cases hi with
  | none=>simp [sliceBounds,HT.aO]
  | some i=>exact one i
def wG (its:XU)(lo hi:Option Int):slicePick its.toArray lo hi none=((its.drop (HT.aO its.length 0 lo)).take (HT.aO its.length its.length hi - HT.aO its.length 0 lo)).toArray:=by
 obtain ⟨h1,h2,h3⟩:=yo lo hi its.toArray.size;unfold slicePick;rw [h1,h2,h3];simp only [sliceRange_one,pick_run,SD] <;> rfl
inductive Ir (K:XO) (x:V)(lo:Option Int)(hi:Option Int)(H:Hp)(Q:VK):Prop
 | mk:∀ a xs,(x=.ref a)->(bF K H a xs)->(∀ p,H p=none->Q (.ref p) (upd H p (.lst (nK xs lo hi))))->Ir K x lo hi H Q
def LF (K:XO):V->Option Int->Option Int->Hp->VK->Prop:=fun x lo hi H Q=>Ir K x lo hi H Q
def JJ:EZ X (LF X.K):=by
 intro pins s U H x v vl vu lo hi sl Q I rx hs pl pu h;obtain ⟨a,xs,rfl,hx,q⟩:=h;cases rx;obtain ⟨its,r,ht,hz⟩:=I.list hx;have hlen:=r.length;refine ⟨"list",_,slot_list_getitem.lookup,ht.isList.typeIs,?_⟩;refine wpAny_getItem_list_slice ht.isList hs pl pu .none (by simp) ?_ (by rw [SD] <;> lia)
 rw [wG,<- hlen];refine ⟨.ref s.heap.objs.size,_,I.laid (t':=s.toks) (o:=.lst (nK xs lo hi)) (fun b ob q=>S5 _ q) (RW _) ?_,rfl,q _ (I.hok.fresh (RW _))⟩
 exact ⟨SW (rA xs lo hi) hz,_,0,(r.drop (HT.aO xs.length 0 lo)).take (HT.aO xs.length xs.length hi - HT.aO xs.length 0 lo),SY _ rfl⟩
def xw:cF X (.builtin "len") (fun xs H Q=>∃ p ys,xs=[.ref p]/\(bF X.K H p ys\/cJ X.K H p ys)/\Q (.int ys.length) H):=by
 intro pins s U H xs us Q I r h;obtain ⟨p,ys,rfl,hq,q⟩:=h;obtain ⟨u,rfl,rx⟩:=vals1 r;cases rx;have hn:=mT;rcases hq with hq | hq
 ·obtain ⟨its,r',pl,hz⟩:=I.list hq;have hlen:=r'.length;exact Calls.call_len_list pl.isList (by simp only [SD] <;> lia) ⟨.int ys.length,H,I.tok _,⟨s.toks + 1,by rw [SD,hlen]⟩,q⟩
 ·obtain ⟨its,r',pl,hz⟩:=I.tuple hq;have hlen:=r'.length;exact len_tuple pl (by simp only [SD] <;> lia) ⟨.int ys.length,H,I.tok _,⟨s.toks + 1,by rw [SD,hlen]⟩,q⟩
def cF.or {f:Value}{r r':List V->Hp->VK->Prop}(h:cF X f r)(h':cF X f r'):cF X f (fun xs H Q=>r xs H Q\/r' xs H Q):=by
 intro pins s U H xs us Q I rs q;rcases q with q | q
 ·exact h pins s U H xs us Q I rs q
 ·exact h' pins s U H xs us Q I rs q
def zj:cF X (.type "list") (fun xs H Q=>∃ p ys,xs=[.ref p]/\(bF X.K H p ys\/cJ X.K H p ys)/\∀ l,H l=none->Q (.ref l) (upd H l (.lst ys))):=by
 intro pins s U H xs us Q I r h;obtain ⟨p,ys,rfl,hq,q⟩:=h;obtain ⟨u,rfl,rx⟩:=vals1 r;cases rx;have fin:∀ (its:XU),Vals ys its->ys.length<=sizeLine->∀ (h':Heap) (c':Nat),(∀ b o',s.heap.get? b=some o'->h'.get? b=some o') ->
   h'.get? s.heap.objs.size=some { cls:=.type "list",dict:=none,data:=.seq its.toArray c',slots:=#[] }->EP X pins U Q (.ref s.heap.objs.size) { s with heap:=h' }:=fun its r' hz h' c' kp e =>
  ⟨.ref s.heap.objs.size,_,I.laid (t':=s.toks) kp (RW _) (show bL X.prog X.w _ h' _ (.lst ys) from ⟨hz,its,c',r',e⟩),rfl,q _ (I.hok.fresh (RW _))⟩
 rcases hq with hq | hq
 ·obtain ⟨its,r',pl,hz⟩:=I.list hq;have hlen:=r'.length;obtain ⟨o,ho,hc,n,hd⟩:=pl.isList;exact call_list_seq p (.inl rfl) ho hc hd (fun h' c' kp e=>fin its r' hz h' c' kp e) (by simp only [SD] <;> lia)
 ·obtain ⟨its,r',pl,hz⟩:=I.tuple hq;have hlen:=r'.length;obtain ⟨o,ho,hc,n,hd⟩:=pl;exact call_list_seq p (.inr rfl) ho hc hd (fun h' c' kp e=>fin its r' hz h' c' kp e) (by simp only [SD] <;> lia)
def oO:cF X (.type "tuple") (fun xs H Q=>∃ p ys,xs=[.ref p]/\((bF X.K H p ys/\∀ l,H l=none->Q (.ref l) (upd H l (.tup ys)))\/(cJ X.K H p ys/\Q (.ref p) H))):=by
 intro pins s U H xs us Q I r h;obtain ⟨p,ys,rfl,h⟩:=h;obtain ⟨u,rfl,rx⟩:=vals1 r;cases rx;rcases h with ⟨hq,q⟩ | ⟨hq,q⟩
 ·obtain ⟨its,r',pl,hz⟩:=I.list hq;have hlen:=r'.length;refine call_tuple_list pl.isList (fun h' kp=>?_) (by simp only [SD] <;> lia)
  have I1:Inv X pins U H { s with heap:=h' }:=I.kept (t':=s.toks) kp
  have I2:Inv X pins U (upd H h'.objs.size (.tup ys)) { s with heap:=h'.push { cls:=.type "tuple",data:=.seq its.toArray } } :=
   I1.laid (t':=s.toks) (fun b o e=>S5 _ e) (RW _) (show bL X.prog X.w _ _ _ (.tup ys) from ⟨hz,its,r',IsTup.new _ _⟩)
  exact ⟨.ref h'.objs.size,_,I2,rfl,q _ (I1.hok.fresh (RW _))⟩
 ·obtain ⟨its,r',pl,hz⟩:=I.tuple hq;exact call_tuple_same pl ⟨.ref p,H,I,rfl,q⟩
def L7 (K:XO)(T:String) (x:V)(H:Hp):Prop:=match x with
 | .str _=>T="str"
 | .int _=>T="int"
 | .ref p=>(T="list"/\∃ xs,bF K H p xs)\/(T="tuple"/\∃ o,K.lookup p=some o/\o.cls=.type "tuple"/\o.dict=none) \/
   (T="dict"/\((∃ kvs,H p=some (.dK kvs))\/∃ kvs,H p=some (.dT kvs)))\/(T="set"/\∃ S n,H p=some (.set S n))
 | _=>False
def Fv {pins:XH}{U:St}{H:Hp}{s:Shared}{T:String}{x:V}{v:Value}(I:Inv X pins U H s)(r:RelV x v)(ty:L7 X.K T x H) :
  s.TypeIs v T/\∀ a,v=.ref a->∃ ob,s.heap.get? a=some ob/\ob.dict=none:=by
 cases x with
 | str z =>
  obtain ⟨t,rfl⟩:=r;cases (show T="str" from ty)
  exact ⟨typeIs_str s z t,fun _ e=>nomatch e⟩
 | int i =>
  obtain ⟨t,rfl⟩:=r;cases (show T="int" from ty)
  exact ⟨typeIs_int s i t,fun _ e=>nomatch e⟩
 | ref p =>
  cases r;rcases ty with ⟨rfl,xs,hq⟩ | ⟨rfl,o,hk,hc,hd⟩ | ⟨rfl,hk⟩ | ⟨rfl,S,n,hk⟩
  ·obtain ⟨its,_,pl,_⟩:=I.list hq;refine ⟨pl.isList.typeIs,fun a e=>?_⟩
   cases e;obtain ⟨o,n,e,c,hd,_⟩:=pl;exact ⟨o,e,hd⟩
  ·refine ⟨⟨o,I.g9 p o hk,hc⟩,fun a e=>?_⟩
   cases e;exact ⟨o,I.g9 _ o hk,hd⟩
  ·have z:∃ o,s.heap.get? p=some o/\o.ExactDict:=by
    rcases hk with ⟨kvs,hk⟩ | ⟨kvs,hk⟩
    ·obtain ⟨_,_,_,_,o,_,_,e,ex,_⟩:=I.hok p _ hk;exact ⟨o,e,ex⟩
    ·obtain ⟨_,_,_,_,o,_,_,e,ex,_⟩:=I.hok p _ hk;exact ⟨o,e,ex⟩
   obtain ⟨o,e,ex⟩:=z;refine ⟨⟨o,e,ex.1⟩,fun a e2=>?_⟩
   cases e2;exact ⟨o,e,ex.2.1⟩
  ·obtain ⟨o,_,_,_,e,ex,_⟩:=I.hok p _ hk;refine ⟨⟨o,e,ex.1⟩,fun a e2=>?_⟩
   cases e2;exact ⟨o,e,ex.2.1⟩
 | _=>exact False.elim ty
def QX (K:XO)(T:String)(r:V->List V->Hp->VK->Prop)(to:TE):TE:=fun U H Q=>to U H fun x H1=>L7 K T x H1/\r x [] H1 Q
def Rm (K:XO)(T:String)(r:V->List V->Hp->VK->Prop)(to:TE)(t:TA):TE:=fun U H Q=>to U H fun x H1=>L7 K T x H1/\t U H1 fun xs H2=>r x xs H2 Q
variable {o e:Expr}{es:XY}{to:TE}{t:TA}{name:Str}{apos cpos:Pos}{T id:String}{r:V->List V->Hp->VK->Prop}
def NP (pa:PlainAttrs T)(slot:Slot T name id)(hty:typeOf (.builtin id)=pure (.type "method_descriptor"))(hm:N4 X id r)(ho:PE X o to)
  (hbase:attributeBase o name X.env (eval o X.env)=eval o X.env:=by rfl)(hline:(apos.endLine == cpos.line)=true:=by rfl):PE X (.Call (.Attribute o name apos) [] [] cpos) (QX X.K T r to):=by
 intro pins s U H Q I h;refine wpAny_Call_method0_late hbase hline (aM (ho pins s U H _ I h) fun v s1 ⟨x,H1,I1,r1,ty,q1⟩=>?_)
 obtain ⟨h1,h2⟩:=Fv I1 r1 ty;exact ⟨T,id,pa,slot,hty,h1,h2,WD rfl (PySem.evalArgs_none (hm pins s1 U H1 x [] v [] Q I1 r1 .nil q1))⟩
def w9 (pa:PlainAttrs T)(slot:Slot T name id)(hty:typeOf (.builtin id)=pure (.type "method_descriptor"))(hm:N4 X id r)(ho:PE X o to)(ha:PA X (e::es) t)
  (hbase:attributeBase o name X.env (eval o X.env)=eval o X.env:=by rfl)
  (hfew:((backTo cpos (starEach (e::es) X.env)).all (fun x=>!x.1) && (backToKw cpos (keywordEach [] X.env)).all (fun x=>x.1.isSome)
   && decide ((e::es).length + ([]:List Keyword).length + (if ([]:List Keyword).isEmpty then 0 else 1) < 30))=true:=by rfl)
  (hline:(apos.endLine == cpos.line)=true:=by rfl)(hs:starEach (e::es) X.env=(false,eval e X.env)::starEach es X.env:=by rfl)(hplain:(backTo cpos (starEach es X.env)).any (·.1)=false:=by rfl) :
  PE X (.Call (.Attribute o name apos) (e::es) [] cpos) (Rm X.K T r to t):=by
 intro pins s U H Q I h;refine wpAny_Call_method_late hbase hfew hline rfl (aM (ho pins s U H _ I h) fun v s1 ⟨x,H1,I1,r1,ty,q1⟩=>?_)
 obtain ⟨h1,h2⟩:=Fv I1 r1 ty;refine ⟨T,id,pa,slot,hty,h1,h2,?_⟩;have hA:=ha cpos pins s1 U H1 _ I1 q1;rw [hs] at hA ⊢;refine WD (by show (false || (backTo cpos (starEach es X.env)).any (·.1))=false;rw [hplain] <;> rfl) (Calls.evalArgs_plain ?_)
 exact aM hA fun us s2 ⟨vs,H2,I2,r2,q2⟩=>hm pins s2 U H2 x vs v us Q I2 r1 r2 q2
/- xs.append(e),list.index on a module's tuple .. are MtR facts of 06m -/
end
def vP (X:Cx)(id:String)(r:V->List V->Hp->VK->Prop):Prop :=
 ∀ (pins:XH)(s:Shared)(U:St)(H:Hp) (x:V)(xs:List V)(v:Value)(us:XU)(Q:VK),Inv X pins U H s->RelV x v->Vals xs us->r x xs H Q ->
  wpAny (model X.prog X.w) X.A (call (.builtin id) (v::us)) (EP X pins U Q) X.xe s
def Vals.one {x:V}{us:XU}(h:Vals [x] us):∃ u,us=[u]/\RelV x u:=by
 cases h with | cons r t=>cases t;exact ⟨_,rfl,r⟩
def Vals.two {x y:V}{us:XU}(h:Vals [x,y] us):∃ u v,us=[u,v]/\RelV x u/\RelV y v:=by
 cases h with | cons r t=>cases t with | cons q t=>cases t;exact ⟨_,_,rfl,r,q⟩
def Vals.zero:∀ {us:XU},Vals [] us->us=[]
 | _,.nil=>rfl
theorem Vals.dropLast {xs:List V}{us:XU}(h:Vals xs us):Vals xs.dropLast us.dropLast:=by
 induction h with
 | nil=>exact .nil
 | cons r t ih =>
  cases t with
  | nil=>exact .nil
  | cons q t'=>exact .cons r ih
theorem Vals.eraseIdx:∀ {xs:List V}{us:XU} (i:Nat),Vals xs us->Vals (xs.eraseIdx i) (us.eraseIdx i)
 | _,_,_,.nil=>.nil
 | _,_,0,.cons _ t=>t
 | _,_,i + 1,.cons r t=>.cons r (Vals.eraseIdx i t)
theorem Vals.rep {xs:List V}{us:XU}(h:Vals xs us):∀ k:Nat,Vals (List.replicate k xs).flatten (List.replicate k us).flatten
 | 0=>.nil
 | k + 1=>by
  rw [UX,UX,Um,Um];exact Vals.append h (Vals.rep h k)
def CZ {α:Type}(l:List α):l.eraseIdx (l.length - 1)=l.dropLast:=by
 induction l with
 | nil=>rfl
 | cons a r ih =>
  cases r with
  | nil=>rfl
  | cons b r =>
   have e:(a::b::r).length - 1=((b::r).length - 1) + 1:=by
    have h1:(a::b::r).length=r.length + 2:=rfl;have h2:(b::r).length=r.length + 1:=rfl;lia
   rw [e,Vd,ih]
   all_goals rfl
theorem wu {α:Type}:∀ (l:List α) (i:Nat),(l.eraseIdx i).length<=l.length
 | [],_=>RW _
 | _::_,0=>UY _
 | _::r,i + 1=>Ve (wu r i)
theorem foldl_rep (its:XU):∀ (k:Nat)(acc:XU),
  List.foldl (fun x1 x2=>x1++x2) acc.toArray (List.replicate k its.toArray)=(acc++(List.replicate k its).flatten).toArray
 | 0,acc=>by simp
 | k + 1,acc=>by
  have e:acc.toArray++its.toArray=(acc++its).toArray:=by simp
  have e2:(acc++its)++(List.replicate k its).flatten=acc++(List.replicate (k + 1) its).flatten:=by
   rw [UX,Um,Sh]
  rw [<- e2,<- foldl_rep its k (acc++its),<- e,UX,List.foldl_cons]
section
variable {X:Cx}{pins:XH}{U:St}{H:Hp}{s:Shared}{l b:Addr}{xs ys zs:List V}
def Inv.CQ {its its':XU}{n:Nat}{f:XR->XR}{t':Nat}(I:Inv X pins U H s)(hH:H l=some (.lst xs))
  (e:s.heap.get? l=some { cls:=.type "list",data:=.seq its.toArray n })(hf:f its.toArray=its'.toArray)(hv:Vals ys its')(hz:ys.length<=sizeLine) :
  Inv X pins U (upd H l (.lst ys)) { s with heap:=s.heap.update l (Obj.mapSeq f),toks:=t' }:=by
 have q:=PySem.IsL.update e f;rw [hf] at q;refine I.write (x:=l) (e:=l) (by rw [hH];exact trivial) (.inl rfl) (fun b' u hb hu=>(Sz s.heap (Obj.mapSeq f) (Ne.symm hb)).trans hu) ⟨_,q⟩ ?_
 exact ⟨hz,its',_,hv,q⟩
def Inv.MN {its:XU}{t':Nat}(I:Inv X pins U H s)(hv:Vals ys its)(hz:ys.length<=sizeLine) :
  Inv X pins U (upd H s.heap.objs.size (.lst ys)) { s with heap:=s.heap.push { cls:=.type "list",data:=.seq its.toArray },toks:=t' } :=
 I.laid (fun _ _ q=>S5 _ q) (RW _) ⟨hz,its,0,hv,SY _ rfl⟩
theorem Inv.fresh (I:Inv X pins U H s):H s.heap.objs.size=none:=I.hok.fresh (RW _)
def Inv.Cp (I:Inv X pins U H s)(hH:H l=some (.lst xs)):xs.length<=sizeLine/\∃ (its:XU) (n:Nat),Vals xs its/\xs.length=its.length/\s.heap.get? l=some { cls:=.type "list",data:=.seq its.toArray n }:=by
 obtain ⟨z,its,n,r,e⟩:=I.hok l _ hH;exact ⟨z,its,n,r,r.length,e⟩
def yy {n:Nat}(h:n<=sizeLine):Builtin.List.listTooLong n=false:=by
 unfold Builtin.List.listTooLong;exact Si (by lia)
end
section
variable {X:Cx}
def Bf:V->List V->Hp->VK->Prop:=fun x vs H Q=>∃ l xs y,x=.ref l/\vs=[y]/\H l=some (.lst xs)/\xs.length < sizeLine/\Q .br (upd H l (.lst (xs++[y])))
def iu:vP X "list.append" Bf:=by
 intro pins s U H x vs v us Q I rx rv h;obtain ⟨l,xs,y,rfl,rfl,hH,hz,q⟩:=h;cases rx;obtain ⟨u,rfl,ru⟩:=rv.one;obtain ⟨z,its,n,r,hl,e⟩:=I.Cp hH;refine Uo F.slot_list_append ⟨_,e,rfl⟩ F.entry_list_append (F.args_list_append_2 _ _) (PySem.list_append l its.toArray n u (by rw [SD];lia)) ⟨e,?_⟩
 refine ⟨.br,_,I.CQ (its':=its++[u]) hH e (by simp) (r.append (.cons ru .nil)) ?_,rfl,q⟩
 rw [SJ,UZ];lia
inductive IK (x:V)(vs:List V)(H:Hp)(Q:VK):Prop
 | mk:∀ l xs y,(x=.ref l)->(vs=[])->(H l=some (.lst xs))->(xs[xs.length - 1]?=some y)->(Q y (upd H l (.lst xs.dropLast)))->IK x vs H Q
def HW:V->List V->Hp->VK->Prop:=fun x vs H Q=>IK x vs H Q
def LX:vP X "list.pop" HW:=by
 intro pins s U H x vs v us Q I rx rv h;obtain ⟨l,xs,y,rfl,rfl,hH,hy,q⟩:=h;cases rx;have hus:=rv.zero;subst hus;obtain ⟨z,its,n,r,hl,e⟩:=I.Cp hH;obtain ⟨u,hu,ru⟩:=r.get hy;have hy':its.toArray[its.toArray.size - 1]?=some u:=by
  show its.toArray[its.length - 1]?=some u;rw [<- Sk,<- hl];exact hu
 refine Uo F.slot_list_pop ⟨_,e,rfl⟩ F.entry_list_pop (F.args_list_pop_1 _) (MeetsSeq.list_pop_last l its.toArray n u hy' (by rw [SD];lia)) ⟨e,?_⟩
 refine ⟨y,_,I.CQ (its':=its.dropLast) hH e ?_ r.dropLast ?_,ru,q⟩
 ·show its.toArray.eraseIdxIfInBounds (its.toArray.size - 1)=its.dropLast.toArray;rw [SD,Wx,CZ]
 ·rw [List.length_dropLast];lia
inductive BC (x:V)(vs:List V)(H:Hp)(Q:VK):Prop
 | mk:∀ l xs i k y,(x=.ref l)->(vs=[.int i])->(H l=some (.lst xs))->(-(2 ^ 63)<=i)->(i < 2 ^ 63)->(seqIndex? i xs.length=some k)->(xs[k]?=some y)->(Q y (upd H l (.lst (xs.eraseIdx k))))->BC x vs H Q
def yD:V->List V->Hp->VK->Prop:=fun x vs H Q=>BC x vs H Q
def G0:vP X "list.pop" yD:=by
 intro pins s U H x vs v us Q I rx rv h;obtain ⟨l,xs,i,k,y,rfl,rfl,hH,h1,h2,hk,hy,q⟩:=h;cases rx;obtain ⟨u,rfl,ru⟩:=rv.one;obtain ⟨t,rfl⟩:=ru;obtain ⟨z,its,n,r,hl,e⟩:=I.Cp hH;obtain ⟨w,hw,rw'⟩:=r.get hy;refine Uo F.slot_list_pop ⟨_,e,rfl⟩ F.entry_list_pop (F.args_list_pop_2 _ _)
  (MeetsSeq.list_pop_at l its.toArray n i t k w (fitsIndex_both h1 h2) (by rw [SD,<- hl];exact hk) (by rw [<- Sk];exact hw) (by rw [SD];lia)) ⟨e,?_⟩
 refine ⟨y,_,I.CQ (its':=its.eraseIdx k) hH e ?_ (r.eraseIdx k) ?_,rw',q⟩
 ·show its.toArray.eraseIdxIfInBounds k=(its.eraseIdx k).toArray;rw [Wx]
 ·have:=wu xs k;lia
def len_rep {α:Type}(xs:List α) (k:Nat):(List.replicate k xs).flatten.length=k * xs.length:=by
 induction k with
 | zero=>simp
 | succ k ih=>rw [UX,Um,SJ,ih,Nat.succ_mul,Vf]
end
section
variable {prog:Program}{w:World}{A:Around}{E:XE}{s:Shared}
end
section
variable {X:Cx}
end
section
variable {κ:Type} [DecidableEq κ]
def b8 (kvs:List (κ×V))(k:κ):Option V:=(kvs.find? fun kv=>decide (kv.1=k)).map (·.2)
def putK (kvs:List (κ×V))(k:κ) (v:V):List (κ×V) :=
 if (kvs.any fun kv=>decide (kv.1=k))=true then kvs.map (fun kv=>if kv.1=k then (kv.1,v) else kv) else kvs++[(k,v)]
def rV {p:κ×V}{r:List (κ×V)}{k:κ}(e:p.1=k):b8 (p::r) k=some p.2:=by simp [b8,Uq,e]
def rL {p:κ×V}{r:List (κ×V)}{k:κ}(e:¬ p.1=k):b8 (p::r) k=b8 r k:=by simp [b8,Uq,e]
theorem r9 (k:κ):∀ kvs:List (κ×V),(kvs.any fun kv=>decide (kv.1=k))=(b8 kvs k).isSome
 | []=>rfl
 | p::r=>by
  rw [Ua]
  by_cases e:p.1=k
  ·simp only [rV e,Sa e,Bool.true_or,Option.isSome_some]
  ·rw [rL e,Si e,Bool.false_or];exact r9 k r
def qP (kvs:List (κ×V))(k:κ) (v:V):(putK kvs k v).length<=kvs.length + 1:=by
 unfold putK;split
 ·rw [RX];lia
 ·rw [SJ,Sb,List.length_nil];lia
def jQ.jJ {o:Option V}{u:XQ}(r:jQ o u):o.isSome=u.isSome:=by
 cases o with
 | none=>cases u with
  | none=>rfl
  | some _=>exact (show False from r).elim
 | some _=>cases u with
  | none=>exact (show False from r).elim
  | some _=>rfl
def KV.val {kvs:List (κ×V)}{vs:List (κ×Value)}(r:KV kvs vs)(k:κ):jQ (b8 kvs k) (valueAt vs k):=by
 unfold KV at r
 induction r with
 | nil=>exact Tq
 | @cons p q ps qs h t ih =>
  obtain ⟨h1,h2⟩:=h
  by_cases e:p.1=k
  ·have e':q.1=k:=h1.symm.trans e;have b:valueAt (q::qs) k=some q.2:=by simp [valueAt,Uq,e']
   rw [rV e,b];exact h2
  ·have e':¬ q.1=k:=fun z=>e (h1.trans z)
   have b:valueAt (q::qs) k=valueAt qs k:=by simp [valueAt,Uq,e']
   rw [rL e,b];exact ih
theorem KV.any {kvs:List (κ×V)}{vs:List (κ×Value)}(r:KV kvs vs)(k:κ):(kvs.any fun kv=>decide (kv.1=k))=vs.any fun kv=>decide (kv.1=k):=by
 unfold KV at r
 induction r with
 | nil=>rfl
 | cons h t ih=>rw [Ua,Ua,ih,h.1]
def KV.repl {kvs:List (κ×V)}{vs:List (κ×Value)}(r:KV kvs vs)(k:κ){y:V}{u:Value}(ry:RelV y u) :
  KV (kvs.map fun kv=>if kv.1=k then (kv.1,y) else kv) (vs.map fun kv=>if kv.1=k then (kv.1,u) else kv):=by
 unfold KV at r ⊢
 induction r with
 | nil=>exact .nil
 | @cons p q ps qs h t ih =>
  rw [SO,SO];refine .cons ?_ ih;obtain ⟨h1,h2⟩:=h
  by_cases e:p.1=k
  ·rw [if_pos e,if_pos (h1.symm.trans e)];exact ⟨h1,ry⟩
  ·rw [if_neg e,if_neg (fun z=>e (h1.trans z))];exact ⟨h1,h2⟩
def KV.put {kvs:List (κ×V)}{vs:List (κ×Value)}(r:KV kvs vs)(k:κ){y:V}{u:Value}(ry:RelV y u):KV (putK kvs k y) (stored vs k u):=by
 unfold putK stored;rw [r.any k]
 by_cases e:(vs.any fun kv=>decide (kv.1=k))=true
 ·rw [if_pos e,if_pos e];exact r.repl k ry
 ·rw [if_neg e,if_neg e];exact Paired.snoc r ⟨rfl,ry⟩
theorem KV.length {kvs:List (κ×V)}{vs:List (κ×Value)}(r:KV kvs vs):kvs.length=vs.length:=Paired.length r
end
def wZ {P:Program}{w:World}{k:Key}{u:Value}(r:RelV (kV k) u):(cT P w).is k u=true:=by
 cases k with
 | inl i=>obtain ⟨t,e⟩:=(show ∃ t,u=Value.int i t from r);subst e;exact An P w i t
 | inr x=>obtain ⟨t,e⟩:=(show ∃ t,u=Value.str x t from r);subst e;exact z6 P w x t
theorem vL {P:Program}{w:World}:∀ {ks:List Key}{us:XU},Vals (ks.map kV) us->ItemsAre (cT P w) ks us
 | [],_,r=>by rw [V8] at r;cases r;exact .nil
 | k::ks,_,r=>by
  rw [SO] at r;cases r with
  | cons h t=>exact .cons (wZ h) (vL t)
abbrev KT (H:Hp):List (List Key×V)->List (List Key×Addr×Value)->Prop:=Paired fun p q=>p.1=q.1/\H q.2.1=some (.tup (p.1.map kV))/\RelV p.2 q.2.2
def KT.val {H:Hp}{kvs:List (List Key×V)}{xs:List (List Key×Addr×Value)}(r:KT H kvs xs)(k:List Key):jQ (b8 kvs k) ((atKey xs k).map (·.2)):=by
 induction r with
 | nil=>exact Tq
 | @cons p q ps qs h t ih =>
  obtain ⟨h1,_,h2⟩:=h
  by_cases e:p.1=k
  ·have e':q.1=k:=h1.symm.trans e;have b:atKey (q::qs) k=some q.2:=by simp [atKey,Uq,e']
   rw [rV e,b];exact h2
  ·have e':¬ q.1=k:=fun z=>e (h1.trans z)
   have b:atKey (q::qs) k=atKey qs k:=by simp [atKey,Uq,e']
   rw [rL e,b];exact ih
def KT.repl {H:Hp}{kvs:List (List Key×V)}{xs:List (List Key×Addr×Value)}(r:KT H kvs xs)(k:List Key){y:V}{u:Value}(ry:RelV y u) :
  KT H (kvs.map fun kv=>if kv.1=k then (kv.1,y) else kv) (xs.map (putAt k u)):=by
 induction r with
 | nil=>exact .nil
 | @cons p q ps qs h t ih =>
  rw [SO,SO];refine .cons ?_ ih;obtain ⟨h1,h2,h3⟩:=h;unfold putAt
  by_cases e:p.1=k
  ·rw [if_pos e,if_pos (h1.symm.trans e)];exact ⟨h1,h2,ry⟩
  ·rw [if_neg e,if_neg (fun z=>e (h1.trans z))];exact ⟨h1,h2,h3⟩
def KT.put {H:Hp}{kvs:List (List Key×V)}{xs:List (List Key×Addr×Value)}(r:KT H kvs xs)(k:List Key){b:Addr}{y:V}{u:Value}(hb:H b=some (.tup (k.map kV)))(ry:RelV y u) :
  KT H (putK kvs k y) (storedH xs k b u):=by
 have e:(kvs.any fun kv=>decide (kv.1=k))=(atKey xs k).isSome:=by
  rw [r9,(r.val k).jJ,Option.isSome_map]
 unfold putK storedH;rw [e]
 by_cases q:(atKey xs k).isSome=true
 ·rw [if_pos q,if_pos q];exact r.repl k ry
 ·rw [if_neg q,if_neg q];exact Paired.snoc r ⟨rfl,hb,ry⟩
def KT.keeps {H H':Hp}{kvs:List (List Key×V)}{xs:List (List Key×Addr×Value)}(r:KT H kvs xs)(ht:∀ b ys,H b=some (.tup ys)->H' b=some (.tup ys)):KT H' kvs xs :=
 Paired.Dk r fun _ _ z=>⟨z.1,ht _ _ z.2.1,z.2.2⟩
section
variable {P:Program}{w:World}{H:Hp}{h:Heap}{a:Addr}
def Jx {u:HO}(ok:dm P w H h)(e:Rd H a u):bL P w H h a u:=e.ok ok
def ue {kvs:List (Key×V)}(ok:dm P w H h)(e:Rd H a (.dK kvs)):kvs.length<=sizeLine/\(a == sysModules)=false/\∃ vs,KV kvs vs/\h.DictOf (cT P w) a vs :=
 show bL P w H h a (.dK kvs) from Jx ok e
def O7 {kvs:List (Key×V)}(ok:dm P w H h)(e:H a=some (.dK kvs)):kvs.length<=sizeLine/\(a == sysModules)=false/\∃ vs,KV kvs vs/\h.DictOf (cT P w) a vs:=ue ok (.inl e)
def qq {ks:List Key}(ok:dm P w H h)(e:H a=some (.tup (ks.map kV))):(tupleKind (cT P w)).is h ks a:=by
 obtain ⟨_,its,r,o,h1,h2,n,h3⟩:=(show bL P w H h a (.tup (ks.map kV)) from ok a _ e)
 exact ⟨o,its.toArray,n,h1,h2,h3,by simpa using vL r⟩
def wV {kvs:List (List Key×V)}(ok:dm P w H h)(e:Rd H a (.dT kvs)):kvs.length<=sizeLine/\(a == sysModules)=false /\
  ∃ xs,KT H kvs xs/\h.DictOfH (tupleKind (cT P w)) a xs:=by
 obtain ⟨z,y,xs,r,o,es,ep,h1,h2,h3,h4,h5⟩:=(show bL P w H h a (.dT kvs) from Jx ok e)
 refine ⟨z,y,xs,r,o,es,ep,h1,h2,h3,h4,fun x hx=>?_,h5⟩
 have all:∀ {l:List (List Key×V)}{m:List (List Key×Addr×Value)},KT H l m->∀ x∈m,(tupleKind (cT P w)).is h x.1 x.2.1:=by
  intro l m q
  induction q with
  | nil=>intro x hx;exact nomatch hx
  | @cons p q ps qs hq t ih =>
   intro x hx;rcases S2.mp hx with e | hx
   ·subst e;exact qq ok (by rw [<- hq.1];exact hq.2.1)
   ·exact ih x hx
 exact all r x hx
def IF {kvs:List (List Key×V)}(ok:dm P w H h)(e:H a=some (.dT kvs)):kvs.length<=sizeLine/\(a == sysModules)=false /\
  ∃ xs,KT H kvs xs/\h.DictOfH (tupleKind (cT P w)) a xs:=wV ok (.inl e)
end
def jr (H:Hp)(a:Addr) (y:V)(r:Option V):Prop :=
 (∃ kvs k,Rd H a (.dK kvs)/\y=kV k/\r=b8 kvs k)\/∃ kvs k b,Rd H a (.dT kvs)/\y=.ref b/\H b=some (.tup (k.map kV))/\r=b8 kvs k
def qp (H:Hp)(a:Addr) (y v:V)(H':Hp):Prop :=
 (∃ kvs k,H a=some (.dK kvs)/\y=kV k/\kvs.length < sizeLine/\H'=upd H a (.dK (putK kvs k v))) \/
 ∃ kvs k b,H a=some (.dT kvs)/\y=.ref b/\H b=some (.tup (k.map kV))/\kvs.length < sizeLine/\H'=upd H a (.dT (putK kvs k v))
theorem jr.k {H:Hp}{a:Addr}{kvs:List (Key×V)}{k:Key}(e:H a=some (.dK kvs)):jr H a (kV k) (b8 kvs k):=.inl ⟨kvs,k,.inl e,rfl,rfl⟩
def jr.t {H:Hp}{a b:Addr}{kvs:List (List Key×V)}{k:List Key}(e:H a=some (.dT kvs))(eb:H b=some (.tup (k.map kV))):jr H a (.ref b) (b8 kvs k):=.inr ⟨kvs,k,b,.inl e,rfl,eb,rfl⟩
theorem qp.k {H:Hp}{a:Addr}{kvs:List (Key×V)}{k:Key}{v:V}(e:H a=some (.dK kvs))(hl:kvs.length < sizeLine):qp H a (kV k) v (upd H a (.dK (putK kvs k v))):=.inl ⟨kvs,k,e,rfl,hl,rfl⟩
def qp.t {H:Hp}{a b:Addr}{kvs:List (List Key×V)}{k:List Key}{v:V}(e:H a=some (.dT kvs))(eb:H b=some (.tup (k.map kV)))(hl:kvs.length < sizeLine) :
  qp H a (.ref b) v (upd H a (.dT (putK kvs k v))):=.inr ⟨kvs,k,b,e,rfl,eb,hl,rfl⟩
section
variable {X:Cx}{pins:XH}{U:St}{H:Hp}{s:Shared}{a:Addr}{y v:V}{u r:Value}{o:Option V}{A:Around}{E:XE}
def Inv.big (I:Inv X pins U H s):sysModules < s.heap.objs.size:=by
 have h:mainGlobals < s.heap.objs.size:=(I.mod.glob.keeps I.bk).lt;exact Nat.lt_trans (by decide) h
def F8 {Q:XE}(hu:A.units + 1 < cLine)(I:Inv X pins U H s)(g:jr H a y (some v))(ry:RelV y u)(h:∀ w' s',Inv X pins U H s'->RelV v w'->Q w' s') :
  wpAny (model X.prog X.w) A (getItem (.ref a) u) Q E s:=by
 rcases g with ⟨kvs,k,e,ey,l⟩ | ⟨kvs,k,b,e,ey,eb,l⟩
 ·subst ey;obtain ⟨z,hd,vs,rel,dd⟩:=ue I.hok e;obtain ⟨w',hw,rw'⟩:=jQ.some_of (v:=v) (o:=valueAt vs k) (by rw [l];exact rel.val k)
  exact wpAny_getItem_of (wZ ry) dd.mapOf hw (h w' _ (I.tok _) rw')
 ·subst ey;cases (show u=Value.ref b from ry)
  obtain ⟨z,hd,xs,rel,dd⟩:=wV I.hok e;obtain ⟨w',hw,rw'⟩:=jQ.some_of (v:=v) (o:=(atKey xs k).map (·.2)) (by rw [l];exact rel.val k)
  obtain ⟨p,hp,hp2⟩:=T8.mp hw;refine wpAny_getItem_heap (Vg hu) (qq I.hok eb) dd hp ?_;rw [hp2];exact h w' _ (I.tok _) rw'
def Rb {Q:XE}(hu:A.units + 1 < cLine)(I:Inv X pins U H s)(g:jr H a y o)(ry:RelV y u)(h:∀ s',Inv X pins U H s'->Q (.bool o.isSome) s') :
  wpAny (model X.prog X.w) A (compareOp .In u (.ref a)) Q E s:=by
 rcases g with ⟨kvs,k,e,ey,l⟩ | ⟨kvs,k,b,e,ey,eb,l⟩
 ·subst ey;obtain ⟨z,hd,vs,rel,dd⟩:=ue I.hok e;refine wpAny_in_of (wZ ry) hd dd.mapOf ?_;rw [<- (rel.val k).jJ,<- l];exact h _ (I.tok _)
 ·subst ey;cases (show u=Value.ref b from ry)
  obtain ⟨z,hd,xs,rel,dd⟩:=wV I.hok e;refine wpAny_in_heap (Vg hu) (qq I.hok eb) hd dd ?_;have q:=(rel.val k).jJ;rw [Option.isSome_map] at q;rw [<- q,<- l];exact h _ (I.tok _)
def vh {h':Heap}{t':Nat}{ob:HO}(I:Inv X pins U H s)(mu:FA (H a))(hs:Heap.SameBut a s.heap h')(he:∃ q,h'.get? a=some q)(new:bL X.prog X.w (upd H a ob) h' a ob) :
  Inv X pins U (upd H a ob) { s with heap:=h',toks:=t' } :=
 I.write (x:=a) (e:=a) mu (.inl rfl) (fun b q hb z=>(hs.2 b hb).trans z) he new
def Ng {P:Program}{w:World}{H':Hp}{h':Heap}{kvs:List (Key×V)}{vs:List (Key×Value)}(z:kvs.length<=sizeLine)(hd:(a == sysModules)=false)(rel:KV kvs vs)(dd:h'.DictOf (cT P w) a vs) :
  bL P w H' h' a (.dK kvs):=⟨z,hd,vs,rel,dd⟩
def EW {H':Hp}{Q:Unit->Shared->Prop}(hu:A.units + 1 < cLine)(I:Inv X pins U H s)(g:qp H a y v H')(ry:RelV y u)(rv:RelV v r)(h:∀ s',Inv X pins U H' s'->Q () s') :
  wpAny (model X.prog X.w) A (setItem (.ref a) u r) Q E s:=by
 rcases g with ⟨kvs,k,e,ey,l,eH⟩ | ⟨kvs,k,b,e,ey,eb,l,eH⟩
 ·subst ey eH;obtain ⟨z,hd,vs,rel,dd⟩:=O7 I.hok e;have hz:vs.length<=sizeLine:=by rw [<- rel.length];exact z
  have hl:(putK kvs k v).length<=sizeLine:=by have:=qP kvs k v;lia
  refine wpAny_setItem_pairs (hsz:=hz) (wZ ry) dd fun h' dd' hs=>h _ ?_
  have he:∃ q,h'.get? a=some q:=let ⟨q,_,_,hq,_⟩:=dd';⟨q,hq⟩
  exact vh I (by rw [e];exact Tq) hs he (Ng hl hd (rel.put k rv) dd')
 ·subst ey eH;cases (show u=Value.ref b from ry)
  obtain ⟨z,hd,xs,rel,dd⟩:=IF I.hok e;have hz:xs.length<=sizeLine:=by rw [<- Paired.length rel];exact z
  have hl:(putK kvs k v).length<=sizeLine:=by have:=qP kvs k v;lia
  refine wpAny_setItem_heap (hsz:=hz) (Vg hu) (qq I.hok eb) dd fun h' dd' hs=>h _ ?_
  obtain ⟨q,es,ep,hq,h2,h3,h4,_,h5⟩:=dd';refine vh I (by rw [e];exact Tq) hs ⟨q,hq⟩ ⟨hl,hd,_,(rel.put k eb rv).keeps fun c ys ec=>?_,q,es,ep,hq,h2,h3,h4,h5⟩
  rw [ak (BX ec e (fun z=>nomatch z))]
  exact ec
end
section
variable {X:Cx}{pins:XH}{U:St}{H:Hp}{s:Shared}{a:Addr}{kvs:List (Key×V)}{k:Key}{u:Value}{A:Around}{E:XE}
def P4 {Q:XE}(I:Inv X pins U H s)(e:Rd H a (.dK kvs))(h:∀ t s',Inv X pins U H s'->Q (.int kvs.length t) s'):wpAny (model X.prog X.w) A (call (.builtin "len") [.ref a]) Q E s:=by
 obtain ⟨z,hd,vs,rel,dd⟩:=ue I.hok e;refine call_len_dict hd dd (by rw [<- rel.length];rw [sizeLine_eq] at z;lia) ?_
 rw [<- rel.length];exact h _ _ (I.tok _)
end
def z8 {X:Cx}{pins:XH}{U:St}{H:Hp}{s:Shared}{a:Addr}{y:V}{o:Option V}(I:Inv X pins U H s)(g:jr H a y o):s.TypeIs (.ref a) "dict":=by
 rcases g with ⟨kvs,k,e,_,_⟩ | ⟨kvs,k,b,e,_,_,_⟩
 ·obtain ⟨_,_,vs,_,dd⟩:=ue I.hok e;exact dd.typeIs
 ·obtain ⟨_,_,xs,_,dd⟩:=wV I.hok e;exact dd.typeIs
section
variable {X:Cx}{o i e value:Expr}{pos pos' tpos:Pos}{td ty tv:TE}
end
def GK {P:Program}{w:World}{H:Hp}(h:Heap)(hb:sysModules < h.objs.size):bL P w H (h.push { cls:=.type "dict",data:=.dict #[] }) h.objs.size (.dT []) :=
 ⟨Sd _,beq_eq_false_iff_ne.mpr (Ne.symm (S8 hb)),[],.nil,_,#[],0,SY _ rfl,⟨rfl,rfl,rfl⟩,rfl,rfl,Tr⟩
def Nh:TE:=fun _ H Q=>∀ p,H p=none->Q (.ref p) (upd H p (.dT []))
section
variable {X:Cx}{pos:Pos}
def Gy:PE X (.Dict [] [] pos) Nh:=fun pins s U H Q I h =>
 wpAny_Dict_empty ⟨.ref s.heap.objs.size,_,I.laid (a:=s.heap.objs.size) (o:=.dT []) (t':=s.toks) (fun _ _ q=>S5 _ q) (RW _) (GK s.heap I.big),rfl,h _ (I.hok.fresh (RW _))⟩
end
section
variable {X:Cx}{pins:XH}{U:St}{H:Hp}{s:Shared}{a:Addr}{y d:V}{u r:Value}{o:Option V}{A:Around}{E:XE}
end
section
variable {X:Cx}{o e f:Expr}{apos cpos:Pos}{td ty tx:TE}
end
section
variable {X:Cx}{pins:XH}{U:St}{H:Hp}{s:Shared}{a:Addr}{kvs:List (Key×V)}{A:Around}{E:XE}
end
section
variable {X:Cx}{pins:XH}{U:St}{H:Hp}{s:Shared}{a:Addr}{y:V}{u:Value}{A:Around}{E:XE}
end
end L2
namespace Qw
open PySem PySem.W PySem.Calls PyProof.Rows
def uA {P:Params}{h:Heap}:∀ (ns:Xb)(vs:XU),WellAll P h vs (ns.map WData.int)->IntsAre vs ns:=by
 intro ns
 induction ns with
 | nil =>
  intro vs w;rw [V8] at w;cases w;exact .nil
 | cons n ns ih =>
  intro vs w;rw [SO] at w;cases w with
  | cons a b =>
   cases a;exact .cons _ _ (ih _ b)
def DX {l:OpenLaw}{n:Nat}(hn:l.most=some n){P:Params}{h:Heap}{args:List WData}{vals:XU}
  (hpre:l.row.toRowW.claim.pre args=true)(hwl:WellAll P h vals args) :
  ∃ a vs ns,vals=[Value.ref a]/\args=[WData.list (ns.map WData.int)]/\h.get? a=some { cls:=.type "list",data:=.seq vs.toArray }/\IntsAre vs ns/\ns.length<=n:=by
 have hsh:WShape.hasAll [] args [.list .int]=true:=(pre_splitW hpre).1;have hc:l.pre.holds [] { args:=args }=true:=(pre_splitW hpre).2;obtain ⟨d,r,rfl,h1,h2⟩:=hasAllW_cons hsh;obtain rfl:=hasAllW_nil h2;obtain ⟨xs,rfl,h3⟩:=hasW_list h1;obtain ⟨ns,rfl⟩:=items_int h3;have hlen:ns.length<=n:=by
  unfold OpenLaw.pre at hc;have h4:(WTm.not (.lt (.lit (.int (n:Int))) (.len (.arg 0)))).holds [] { args:=[.list (ns.map .int)] }=true:=by
   have h4:=(holds_andW hc).1;rw [hn] at h4;exact h4
  have h5:=condW_of h4 (w_not (w_lt w_lit (w_len_list (w_arg rfl))));rw [RX] at h5;refine Nat.le_of_not_lt fun q=>?_
  have q':(n:Int) < ((ns.length:Nat):Int):=by lia
  first
   | (rw [Sa q'] at h5;exact absurd h5 (by decide))
   | (simp at h5;lia)
 cases hwl with
 | cons w1 w2 =>
  cases w2;cases w1 with
  | list ho hall=>exact ⟨_,_,ns,rfl,rfl,ho,uA ns _ hall,hlen⟩
def DB (l:OpenLaw)(args:List WData):l.row.toRowW.claim.post args (.bool true) args=true :=
 postW_of (r:=l.row.toRowW) (X:=(true == true))
  (show WShape.has [] (.bool true) .bool=true by first | rfl | decide | simp [WShape.has,WShape.arms,WShape.armsAll])
  (show (WTm.eq .res (.lit (.bool true))).value [] { args:=args,res:=some (.bool true),after:=args }=some (.bool (true == true)) from w_eq_bool (w_res rfl) w_lit) rfl
def Ar {l:OpenLaw}{n:Nat}{q:Program}{loose:Xc}{XP:(XG)->Heap->Prop}{YP:World->Heap->Prop}{d:DefRec}
  (hn:l.most=some n)(hdf:d.params.defaults=[])
  (call:∀ (w:World)(s₀ s₁:Shared)(mg mb:XG)(fa:Addr)(o:Obj)(pm cd doc:Value)(a:Addr)(vs:XU)(ns:Xb),
   Ground q loose [] XP w s₀ mg mb s₁.heap->YP w s₁.heap ->
   s₁.heap.get? fa=some o->o.data=.func (docDef d.name d.params d.body d.scope pm cd doc)->s₁.heap.CodeRec cd d.name->mg d.name=some (.ref fa) ->
   s₁.heap.get? a=some { cls:=.type "list",data:=.seq vs.toArray }->IntsAre vs ns->ns.length<=n->s₁.gens=#[] ->
   codeAny (model l.prog w) callerA (.call (.ref fa) ⟨[.ref a],[]⟩) (fun r s'=>r=.ok (.ret (.bool true))/\OldK s₁.heap s'.heap/\s'.os=s₁.os/\AllBare s'.gens) s₁) :
  WalkO q loose XP YP l.row.toRowW d [] (fun f vs=>PySem.call f vs):=by
 intro w s₀ s₁ mg mb G Xk fa o pm cd doc dV kV ho hd hcd hD hmg hg args vals as hpre hlay hrd hwl hlo;obtain rfl:dV=.none:=Dflts.none hD hdf;obtain rfl:kV=.none:=Dflts.noKw hD;obtain ⟨a,vs,ns,rfl,rfl,hobj,hints,hlen⟩:=DX hn hpre hwl;refine enter_call (V6 (call w s₀ s₁ mg mb fa o pm cd doc a vs ns G Xk ho (fd_plain hd) hcd hmg hobj hints hlen hg) fun r s' hq=>?_)
 obtain ⟨rfl,h2,h3,h4⟩:=hq;exact ⟨.inl ⟨.bool true,.bool true,[],rfl,fun _=>rfl,.bool true,DB l _,fun _=>⟨List.Pairwise.nil,fun _ hm=>(nomatch hm)⟩⟩,h2,h3,h4⟩
section
variable {prog:Program}{w:World}{A:Around}{E:XE}{s:Shared}{K:Frag}
end
end Qw
namespace L2
open PySem PySem.Spec PyProof.Rows
theorem wo:∀ {vs:XU}{ns:Xb},IntsAre vs ns->Vals (ns.map V.int) vs
 | _,_,.nil=>.nil
 | _,_,.cons n t h=>.cons ⟨t,rfl⟩ (wo h)
def Gx (H:Hp):Prop:=∀ b,H b=none\/∃ o xs,H b=some (.cE o (.lst xs))
end L2
/- THE LAST THEOREM (shape;LID,My.* are yours):
   My.Adr: a structure of the addresses that your layer names (classes,functions);My.Txt K t: a structure (Prop) of the equations over K;
   My.txt_mk:{K} {implicit addresses ..}(e1:nsIn K mainGlobals "law"=some (some (.ref f)))(e2:K.lookup f=some ⟨oc,od,.func (fnOf "law" "law" params body scope dV kV doc pm an cdv ct),sl⟩)(e3:codeIn K cdv "law"=true) ..:∃ t,My.Txt K t
set_option maxRecDepth 100000 in
set_option maxHeartbeats 0 in
theorem PySem.Challenge.cw_LID_holds : PySem.Challenge.rw_LID.Holds := by
 w_on;o_law;k_head;(case hw=>w_witness2)
 k_fill
 refine L2.walk_of (l:=PySem.Challenge.rw_LID) (n:=63) (k:=40) (x:="script") (CX:=fun w=>..) (sp:=fun _=>My.sp_law) rfl (by decide) rfl ⟨rfl,by decide,by decide⟩ (fun w h Y=>PySem.W.kIn_of Y) ?F ?S ?C
 case F =>
  intro w mg fa h KX G hmg;have T:∃ t,My.Txt (L2.KOf KX) t:=by
   dsimp only [L2.KOf]                          -- K must stand as «<heap const> w.params» for k_is
   refine' My.txt_mk ?e1 ?e2 ?e3 ..
   (case e1=>PySem.W.k_is)                    -- in the order: a name -> its address -> its object -> its parts
   (case e2=>PySem.W.k_is)
   ..
  obtain ⟨t,T⟩:=T;have e0:=hmg.symm.trans (PySem.W.mg_of KX G T.law);cases e0                                       -- fa is the law's own address;exact ⟨_,fun s u=>.of_eq rfl,fun base kb nb=>My.law_fn T kb nb⟩     -- if «.of_eq rfl» comes too early: refine' ⟨_,?b,fun base kb nb=>My.law_fn T kb nb⟩;exact fun s u=>.of_eq rfl
 case S=>exact fun w H a ns hl hO hS=>..
 case C=>exact ..
(the tactic k_is has no namespace: write k_is) -/
namespace L2
open PySem PySem.Spec PyProof.Rows
def kg (s:Stmt):Arguments:=match s with
 | .FunctionDef _ a _ _ _ _ _ _ _ _=>a
 | _=>{ posonlyargs:=[],args:=[],vararg:=none,kwonlyargs:=[],kw_defaults:=[],kwarg:=none,defaults:=[] }
def iy (s:Stmt):XZ:=match s with
 | .FunctionDef _ _ b _ _ _ _ _ _ _=>b
 | _=>[]
def au (s:Stmt):Scope:=match s with
 | .FunctionDef _ _ _ _ _ _ sc _ _ _=>sc
 | _=>{ kind:=.function,names:=[],isGenerator:=false,isCoroutine:=false }
abbrev E0:XK:=fun _ _ _=>False
structure uB (K:XO) (x qual:Str)(st:Stmt)(f:Addr)(fd:FuncData):Prop where
 ex:∃ (oc:Value)(od:XT)(kV doc pm:Value)(an:XT)(cdv ct:Value)(osl:XD),
  fd=PySem.W.fnOf x qual (kg st) (iy st) (au st) .none kV doc pm an cdv ct/\K.lookup f=some ⟨oc,od,.func fd,osl⟩/\PySem.W.codeIn K cdv qual=true
 kp:PySem.W.keepIn K (.ref f)=true
section
variable {P:Program}{w:World}{K:XO}{mg:XG}{base:Heap}
def uB.binds {x qual:Str}{st:Stmt}{f:Addr}{fd:FuncData}{ps:Xc}(F:uB K x qual st f fd)
  (h:∀ (kV doc pm:Value)(an:XT)(cdv ct:Value)(us:XU),us.length=ps.length->bindArgs (PySem.W.fnOf x qual (kg st) (iy st) (au st) .none kV doc pm an cdv ct) ⟨us,[]⟩=pure (ps.zip us)):Binds K fd ps []:=by
 obtain ⟨oc,od,kV,doc,pm,an,cdv,ct,osl,rfl,lk,hcd⟩:=F.ex;exact .all (h kV doc pm an cdv ct)
def MV {x qual:Str}{st:Stmt}{f:Addr}{oc:Value}{od an:XT}{osl:XD}{kV doc pm cdv ct:Value}(l:K.lookup f=some ⟨oc,od,.func (PySem.W.fnOf x qual (kg st) (iy st) (au st) .none kV doc pm an cdv ct),osl⟩)
  (c:PySem.W.codeIn K cdv qual=true)(k:PySem.W.keepIn K (.ref f)=true):uB K x qual st f (PySem.W.fnOf x qual (kg st) (iy st) (au st) .none kV doc pm an cdv ct):=⟨⟨oc,od,kV,doc,pm,an,cdv,ct,osl,rfl,l,c⟩,k⟩
end
section
variable {X:Cx}
def D3:cF X (.builtin "len") (fun xs H Q=>∃ a kvs,xs=[V.ref a]/\H a=some (.dK kvs)/\Q (.int kvs.length) H):=by
 intro pins s U H xs us Q I r h;obtain ⟨a,kvs,rfl,ha,q⟩:=h;obtain ⟨u,rfl,ru⟩:=vals1 r;cases ru;exact P4 I (.inl ha) fun t s' I'=>⟨.int kvs.length,H,I',⟨t,rfl⟩,q⟩
end
def p7 {A B:Prop}(h:B):if false=true then A else B:=by
 rw [if_neg SQ];exact h
def pZ {A B:Prop}(h:A):if true=true then A else B:=by
 rw [if_pos rfl];exact h
def ai (H H':Hp):Prop:=∀ b o,H b=some o->H' b=some o
def ai.refl (H:Hp):ai H H:=fun _ _ h=>h
def ai.trans {H H1 H2:Hp}(a:ai H H1)(b:ai H1 H2):ai H H2:=fun c o h=>b c o (a c o h)
def ai.free {H H':Hp}(e:ai H H'){l:Addr}(h:H' l=Option.none):H l=Option.none:=by
 cases q:H l with
 | none=>rfl
 | some o =>
  rw [e l o q] at h;cases h
section
variable {κ:Type} [DecidableEq κ]
end
def b7 (cells:List (Str×Addr)):List (Str×NameKind)->List (Str×Addr)->List (Str×Addr)
 | [],acc=>acc
 | (n,k)::r,acc=>b7 cells r (if (k == NameKind.free)=true then (n,(cells.lookup n).getD 0)::acc else acc)
theorem mL {c:Addr}:∀ (names:List (Str×NameKind))(acc:List (Str×Addr)),(b7 cells names acc).lookup y=some c ->
  ((y,NameKind.free)∈names/\(cells.lookup y).getD 0=c)\/acc.lookup y=some c
 | [],_,h=>.inr h
 | (n,k)::r,acc,h=>by
  rcases mL r _ h with ⟨a,b⟩ | z
  ·exact .inl ⟨RY _ a,b⟩
  ·clear h
   by_cases e:(k == NameKind.free)=true
   ·rw [if_pos e] at z;rw [Su] at z;cases q:(y == n) with
    | true =>
     rw [q] at z;have ek:k=NameKind.free:=by simpa using e
     have en:y=n:=by simpa using q
     subst ek en;exact .inl ⟨RT,Option.some.inj z⟩
    | false =>
     rw [q] at z;exact .inr z
   ·rw [if_neg e] at z;exact .inr z
theorem ff:∀ (names:List (Str×NameKind))(acc:List (Str×Addr)),((y,NameKind.free)∈names\/∃ c,acc.lookup y=some c)->∃ c,(b7 cells names acc).lookup y=some c
 | [],_,h=>by
  rcases h with h | h
  ·cases h
  ·exact h
 | (n,k)::r,acc,h=>by
  refine ff r _ ?_;rcases h with h | ⟨c,h⟩
  ·rcases S2.mp h with e | h
   ·cases e;refine .inr ⟨(cells.lookup y).getD 0,?_⟩;rw [if_pos (by decide),Su,Vh]
   ·exact .inl h
  ·by_cases e:(k == NameKind.free)=true
   ·rw [if_pos e,Su];cases q:(y == n) with
    | true=>exact .inr ⟨_,rfl⟩
    | false=>exact .inr ⟨c,h⟩
   ·rw [if_neg e];exact .inr ⟨c,h⟩
def lR (h:∀ n,(n,NameKind.free)∈scope.names->∃ c,env.cells.lookup n=some c):closureFor scope env=pure (b7 env.cells scope.names []):=by
 have key:∀ (names:List (Str×NameKind))(cs:List (Str×Addr)),(∀ n,(n,NameKind.free)∈names->∃ c,env.cells.lookup n=some c) ->
   (forIn names cs fun (x:Str×NameKind)(r:List (Str×Addr))=>(if (x.2 == NameKind.free)=true then (cellOf env x.1 >>= fun a=>pure (ForInStep.yield ((x.1,a)::r))) else pure (ForInStep.yield r):Sem _))=pure (b7 env.cells names cs):=by
  intro names
  induction names with
  | nil=>intro cs _;rfl
  | cons p r ih =>
   intro cs hp;obtain ⟨n,k⟩:=p;rw [List.forIn_cons]
   by_cases e:(k == NameKind.free)=true
   ·have ek:k=NameKind.free:=by simpa using e
    obtain ⟨c,hc⟩:=hp n (by rw [ek];exact RT)
    rw [if_pos e];have e2:cellOf env n=pure c:=by unfold cellOf;rw [hc]
    show ((cellOf env n >>= fun a=>pure (ForInStep.yield ((n,a)::cs))) >>= _)=_
    rw [e2];show (forIn r ((n,c)::cs) _:Sem _)=_;rw [ih _ fun n' h'=>hp n' (RY _ h')]
    show _=pure (b7 env.cells r (if (k == NameKind.free)=true then (n,(env.cells.lookup n).getD 0)::cs else cs))
    rw [if_pos e,hc];rfl
   ·rw [if_neg e];show (forIn r cs _:Sem _)=_;rw [ih _ fun n' h'=>hp n' (RY _ h')]
    show _=pure (b7 env.cells r (if (k == NameKind.free)=true then (n,(env.cells.lookup n).getD 0)::cs else cs))
    rw [if_neg e]
 unfold closureFor;have e:=key scope.names [] h;show ((forIn scope.names [] fun (x:Str×NameKind)(r:List (Str×Addr))=>(if (x.2 == NameKind.free)=true then (cellOf env x.1 >>= fun a=>pure (ForInStep.yield ((x.1,a)::r))) else pure (ForInStep.yield r):Sem _)) >>= fun r=>pure r)=_
 rw [e];rfl
theorem dh {α:Type}{y:Str}{k:α}:∀ {l:List (Str×α)},l.lookup y=some k->(y,k)∈l
 | [],h=>by cases h
 | (n,j)::r,h=>by
  rw [Su] at h;cases q:(y == n) with
  | true =>
   rw [q] at h;have en:y=n:=by simpa using q
   cases h;rw [en];exact RT
  | false =>
   rw [q] at h;exact RY _ (dh h)
theorem nN {env:Env}{x:Str}{k:NameKind}:∀ {names:List (Str×NameKind)},names.lookup x=some k ->
  (relabel { (default:Scope) with names:=names } env).names.lookup x=some k\/(k=.free/\(relabel { (default:Scope) with names:=names } env).names.lookup x=some .cell)
 | [],h=>by cases h
 | (n,j)::r,h=>by
  have ih:=@nN env x k r;rw [Su] at h;show List.lookup x ((if (j == NameKind.free && env.scope.kind == .function && env.kindOf n == some .cell)=true then (n,NameKind.cell) else (n,j))::_)=_\/(_/\List.lookup x ((if (j == NameKind.free && env.scope.kind == .function && env.kindOf n == some .cell)=true then (n,NameKind.cell) else (n,j))::_)=_)
  cases q:(x == n) with
  | true =>
   rw [q] at h;cases h
   by_cases e:(k == NameKind.free && env.scope.kind == .function && env.kindOf n == some .cell)=true
   ·rw [if_pos e,Su,q];refine .inr ⟨?_,rfl⟩;have z:=(S4 _ _ ▸ (S4 _ _ ▸ e).1:_/\_).1
    simpa using z
   ·rw [if_neg e,Su,q];exact .inl rfl
  | false =>
   rw [q] at h
   by_cases e:(j == NameKind.free && env.scope.kind == .function && env.kindOf n == some .cell)=true
   ·rw [if_pos e,Su,q];exact ih h
   ·rw [if_neg e,Su,q];exact ih h
theorem rF {env:Env}{x:Str}{k:NameKind}:∀ {names:List (Str×NameKind)},(relabel { (default:Scope) with names:=names } env).names.lookup x=some k->names.lookup x=some k\/(names.lookup x=some .free/\k=.cell)
 | [],h=>by cases h
 | (n,j)::r,h=>by
  have ih:=@rF env x k r;have h:List.lookup x ((if (j == NameKind.free && env.scope.kind == .function && env.kindOf n == some .cell)=true then (n,NameKind.cell) else (n,j))::(relabel { (default:Scope) with names:=r } env).names)=some k:=h
  rw [Su];cases q:(x == n) with
  | true =>
   by_cases e:(j == NameKind.free && env.scope.kind == .function && env.kindOf n == some .cell)=true
   ·rw [if_pos e,Su,q] at h;cases h;have z:=(S4 _ _ ▸ (S4 _ _ ▸ e).1:_/\_).1;exact .inr ⟨by simpa using z,rfl⟩
   ·rw [if_neg e,Su,q] at h;exact .inl h
  | false =>
   by_cases e:(j == NameKind.free && env.scope.kind == .function && env.kindOf n == some .cell)=true
   ·rw [if_pos e,Su,q] at h;exact ih h
   ·rw [if_neg e,Su,q] at h;exact ih h
def caps (ix:Xa)(U:St):St:=ix.map fun i=>(U[i]?).join
def Cx.block (X:Cx)(scope:Scope)(C:Addr)(NB:Xc)(s2:Shared)(H2:Hp)(fp:XW):Cx :=
 { X with N:=NB,s₀:=s2,H₀:=H2,env:=compEnvC scope (b7 X.env.cells scope.names []) C X.env,outer:=X.stack,ex:=fp,fn:=fun _=>false,pn:=[],xe:=fun _ _=>False }
def pA (X:Cx)(ifs:XY)(t:TT):Prop :=
 ∀ (pins:XH)(s:Shared)(U:St)(H:Hp)(Q:Bool->Hp->Prop),Inv X pins U H s->t U H Q ->
  wpAny (model X.prog X.w) X.A (forIn ifs true fun c r=>if r=true then do let ok <- isTrue c X.env (eval c X.env);pure (ForInStep.yield ok) else pure (ForInStep.yield r)) (TP X pins U Q) X.xe s
def QA:TT:=fun _ H Q=>Q true H
def J7:pA X [] QA:=fun _ _ _ H _ I h=>wpAny_tests_nil ⟨H,I,h⟩
def Lk (h:PT X c t):pA X [c] t:=fun pins s U H Q I hw=>wpAny_tests_one (h pins s U H Q I hw)
abbrev eu (its:XU) (n:Nat):Obj:={ cls:=.type "list",data:=.seq its.toArray n }
section
variable {X:Cx}{scope:Scope}{x:Str}{NB:Xc}{ix:Xa}{pins:XH}{U:St}{H2:Hp}{s2:Shared}{fp:XW}
def yz (ix:Xa)(U:St):(caps ix U).length=ix.length:=by unfold caps;rw [RX]
end
section
variable {X:Cx}{scope:Scope}{x:Str}{NB:Xc}{ix:Xa}{pins:XH}{U:St}{H2:Hp}{s2:Shared}{fp:XW}
def EC {C D:Addr}{n:Nat}(I2:Inv X pins U H2 s2)(f2:∀ b∈fp,eS X pins H2 b)(hD:s2.heap.objs.size<=D)
  (I4:Inv (X.block scope C NB s2 H2 fp) [(D,eu its n)] σB H' s4)(rv:Vals ys its)(hz:ys.length<=sizeLine):Inv X pins U (upd H' D (.lst ys)) s4:=by
 have hp:=I4.pin (D,eu its n) (by show _∈[]++[(D,eu its n)];simp)
 have hfree:H' D=none:=hp.2.1;have neD:∀ b o,s2.heap.get? b=some o->b≠D:=fun b o e=>S8 (SK (S3 e) hD)
 have neT:∀ b o,H2 b=some o->b≠D:=fun b o e=>S8 (SK (I2.hok.lt e) hD)
 have u:Un (frs X.stack) fp H2 H' s2.heap s4.heap:=I4.base;refine I2.Dh (ch:=fp) I4.os ⟨u.keep,u.slot,fun b o e n hx=>?_,u.there,fun b xs e=>?_,fun b o v e=>?_,fun b ps e=>?_⟩ (fun b o e=>?_) I4.bare fun b hb=>?_
 ·rw [ak (neD b o e)];exact u.free b o e n hx
 ·rw [ak (neT b _ e)];exact u.tups b xs e
 ·rw [ak (neT b _ e)];exact u.jV b o v e
 ·rw [ak (neT b _ e)];exact u.lE b ps e
 ·by_cases hb:b=D
  ·subst hb;rw [aH] at e;cases e;exact ⟨hz,its,n,rv,hp.1⟩
  ·rw [ak hb] at e;have ne:∀ {c:Addr}{w:HO},H' c=some w->c≠D:=fun {c w} q z=>by rw [z,hfree] at q;cases q
   exact (I4.hok b o e).stay (fun _ _ _ q=>q) (fun c q=>by rw [ak (ne q)];exact q) fun c xs q=>by rw [ak (ne q)];exact q
 ·obtain ⟨_,g1,g2,g3,g4,g5⟩:=f2 b hb;exact ⟨g3,g1,g4,g5⟩
end
end L2
namespace L2
open PySem PySem.Spec PyProof.Rows PySem.W
def oM (a C:Addr)(dd:XT):Heap->Prop:=fun h=>∃ (t0:Addr)(v1 v2 v3 v4 v5:Value)(sl:XD),h.get? a=some ⟨.ref C,dd,.fields #[.ref t0,v1,v2,v3,v4,v5],sl⟩
def FL {a C:Addr}(x:oM a C dd h):bL P w H h a (.ext (oM a C dd)):=by
 obtain ⟨t0,v1,v2,v3,v4,v5,sl,e⟩:=id x;exact ⟨x,⟨_,e⟩,fun h1 h2 ⟨t0,v1,v2,v3,v4,v5,sl,e⟩ k=>⟨t0,v1,v2,v3,v4,v5,sl,k _ e⟩⟩
def six (newId:String)(l:List (XQ)):Bool:=l.length == 6 && (match (l[4]?:Option (XQ)) with | some (some (Value.builtin n))=>n == newId | _=>false)
def Bm (K:Frag)(C:Addr)(bmB:XU):XU->Bool
 | .ref C'::bm=>C' == C && tailIn K bmB bm
 | _=>false
def gD (K:Frag)(C:Addr)(bmB:XU)(newId:String)(r:XQ):Bool:=match K.lookup C with
 | some ob=>(match ob.cls with | .type t=>t == "type" | _=>false) && (match ob.data with
  | .cls cd=>(Bm K C bmB cd.mro && six newId ob.slots.toList) && !cd.hasDel && (nsOkIn K cd.ns && nsIn K cd.ns "__init__" == some r)
  | _=>false)
 | none=>false
def ML (h:six newId l=true):∃ k0 k1 k2 k3 k5,l=[k0,k1,k2,k3,some (.builtin newId),k5]:=by
 unfold six at h;rw [S4] at h;obtain ⟨h1,h2⟩:=h;have h1:l.length=6:=UW h1;rcases l with _ | ⟨k0,_ | ⟨k1,_ | ⟨k2,_ | ⟨k3,_ | ⟨k4,_ | ⟨k5,_ | ⟨k6,l⟩⟩⟩⟩⟩⟩⟩
 case cons.cons.cons.cons.cons.cons.nil =>
  cases k4 with
  | none=>cases h2
  | some v =>
   cases v with
   | builtin n=>exact ⟨k0,k1,k2,k3,k5,by rw [show n=newId from UW h2]⟩
   | _=>cases h2
 case cons.cons.cons.cons.cons.cons.cons=>cases h1
 all_goals cases h1
def BP {K:Frag}{C:Addr}{bmB l:XU}(h:Bm K C bmB l=true):∃ bm,l=.ref C::bm/\tailIn K bmB bm=true:=by
 cases l with
 | nil=>cases h
 | cons v bm =>
  cases v with
  | ref a =>
   have h:(a == C && tailIn K bmB bm)=true:=h;rw [S4] at h;exact ⟨bm,by rw [show a=C from UW h.1],h.2⟩
  | _=>cases h
structure Q2 (C:Addr)(bmB:XU)(newId:String)(r:XQ)(h:Heap):Prop where
 obj:∃ bm N nm q bs hdct sn sub ab col dd k0 k1 k2 k3 k5 mN,h.get? C=some (excClassObj nm q C N bs bm hdct sn sub ab col dd k0 k1 k2 k3 k5 newId)/\h.Ns N mN/\mN "__init__"=r/\OwnTail h bmB bm
def Cq {K:Frag}{h:Heap}{N:Addr}{mg:XG}(X:K.In h)(G:h.Ns N mg)(e:nsIn K N n=some r):mg n=r:=by
 obtain ⟨o,es,ep,ho,hd,_,hf⟩:=G;unfold nsIn at e;split at e
 ·rename_i c d es' n' sl q;have z:=X _ _ q;rw [ho] at z;cases z;cases hd;split at e
  ·rename_i en he;rw [<- hf];unfold nsFind findBy;rw [<- W8,he]
   first
    | (cases e;rfl)
    | (split at e <;> cases e <;> rfl)
  ·rename_i he;rw [<- hf];unfold nsFind findBy;rw [<- W8,he];split at e
   ·cases e
   ·cases e;rfl
 ·cases e
def KN {K:Frag}{C:Addr}(X:K.In h)(q:gD K C bmB newId r=true):Q2 C bmB newId r h:=by
 unfold gD at q;cases ho:K.lookup C with
 | none =>
  rw [ho] at q;cases q
 | some ob =>
  rw [ho] at q;obtain ⟨cls,dd,data,sl⟩:=ob;dsimp only at q;rw [S4] at q;obtain ⟨q0,q⟩:=q;have hc:cls=.type "type":=by
   cases cls with
   | type t=>exact congrArg Value.type (UW q0)
   | _=>cases q0
  subst hc;cases data with
  | cls cd =>
   dsimp only at q;rw [S4,S4,S4,S4] at q;obtain ⟨⟨⟨q1,q2⟩,hdel⟩,hok,hni⟩:=q;obtain ⟨bm,hm,ht⟩:=BP q1;obtain ⟨l⟩:=sl;obtain ⟨k0,k1,k2,k3,k5,hs⟩:=ML q2;have hs:l=_:=hs;obtain ⟨nm,bs,mro,ns,qn,hd,sn,sub,ab,col,del⟩:=cd;dsimp only at hm hdel hok hni;have hdel:del=false:=by cases del <;> first | rfl | cases hdel
   have hni:=UW hni;subst hm hdel hs;have G:h.Ns ns (h.nsMap ns):=.of_isNs (isNs_of_in X hok);exact ⟨bm,ns,nm,qn,bs,hd,sn,sub,ab,col,dd,k0,k1,k2,k3,k5,_,X _ _ ho,G,Cq X G hni,tail_of_in X ht⟩
  | _=>cases q
def Ip {a:Addr}(x:bL P w H h a o):∃ ob,h.get? a=some ob:=by
 cases o with
 | lst xs=>obtain ⟨_,_,_,_,e⟩:=x;exact ⟨_,e⟩
 | tup xs=>obtain ⟨_,_,_,ob,e,_⟩:=x;exact ⟨_,e⟩
 | dK kvs=>obtain ⟨_,_,_,_,ob,_,_,e,_⟩:=x;exact ⟨_,e⟩
 | dT kvs=>obtain ⟨_,_,_,_,ob,_,_,e,_⟩:=x;exact ⟨_,e⟩
 | set S n=>obtain ⟨ob,_,_,_,e,_⟩:=x;exact ⟨_,e⟩
 | ins C dx fs=>obtain ⟨_,_,_,e,_⟩:=x;exact ⟨_,e⟩
 | own y=>exact x
 | xd fs=>obtain ⟨_,⟨od,_,_,e,_⟩,_⟩:=x;exact ⟨_,e⟩
 | rj lo hi=>obtain ⟨_,_,_,e⟩:=x;exact ⟨_,e⟩
 | cE ob u=>obtain ⟨e,_⟩:=x;exact ⟨_,e⟩
 | vH ps=>exact ⟨_,x⟩
 | met f y=>exact ⟨_,x⟩
 | ext φ=>obtain ⟨_,e,_⟩:=x;exact e
section
variable {X:Cx}{pins:XH}{U:St}{H:Hp}{s:Shared}{h':Heap}
def Inv.ji (I:Inv X pins U H s){a:Addr}(hn:s.heap.get? a=none):H a=none:=by
 cases z:H a with
 | none=>rfl
 | some o =>
  obtain ⟨ob,e⟩:=Ip (I.hok a o z);rw [hn] at e;cases e
def Inv.xj {a:Addr}{t':Nat}(I:Inv X pins U H s)(k:∀ b u,s.heap.get? b=some u->h'.get? b=some u)(hn:s.heap.get? a=none)(new:bL X.prog X.w (upd H a o) h' a o) :
  Inv X pins U (upd H a o) { s with heap:=h',toks:=t' }:=by
 have hf:=I.ji hn;have neA:∀ b u,s.heap.get? b=some u->b≠a:=fun b u e z=>by rw [z,hn] at e;cases e
 have neT:∀ b u,H b=some u->b≠a:=fun b u e z=>by rw [z,hf] at e;cases e
 refine I.un ⟨fun b u e _ _ _=>k b u e,fun b u e _ _ _=>⟨u.slots,k b u e⟩,fun b u e n _=>by rw [ak (neA b u e)];exact n,fun b u e _=>⟨u,k b u e⟩,fun b xs e=>by rw [ak (neT b _ e)];exact e,
  fun b u v e=>by rw [ak (neT b _ e)];exact e,fun b ps e=>⟨#[],by rw [ak (neT b _ e),e];simp⟩⟩ fun b u e=>?_
 by_cases hb:b=a
 ·subst hb;rw [aH] at e;cases e;exact new
 ·rw [ak hb] at e;exact (I.hok b u e).stay (fun c v _ q=>k c v q) (fun c q=>by rw [ak (neT c _ q)];exact q) fun c xs q=>by rw [ak (neT c _ q)];exact q
end
abbrev vM:XU:=[.type "ValueError",.type "Exception",.type "BaseException",.type "object"]
section
variable {X:Cx}{x:Str}{p pos:Pos}{e:Expr}{es:XY}{t:TA}{C:Addr}
variable {CX:lM}{k:Nat}{f:Addr}{fd:FuncData}{ps:Xc}{sp:Sp}{E:XK}
end
end L2
namespace SM
open PySem PySem.SetTable
def run (M:Nat) (b:Nat):Nat->Nat×Nat
 | 0=>(b % M,b)
 | k + 1=>(((run M b k).1 * 5 + 1 + (run M b k).2 / 32) % M,(run M b k).2 / 32)
theorem qU (M b:Nat):∀ k,(run M b k).2=b / 32 ^ k
 | 0=>by simp [run]
 | k + 1=>by
  show (run M b k).2 / 32=_;rw [qU M b k,Nat.div_div_eq_div_mul,Nat.pow_succ]
def yt {M b:Nat}(hM:0 < M):∀ k,(run M b k).1 < M
 | 0=>Ub _ hM
 | k + 1=>Ub _ hM
def t9 (M i:Nat):Nat:=(i * 5 + 1) % M
def iV (M:Nat):Nat->Nat->Nat
 | i,0=>i
 | i,r + 1=>t9 M (iV M i r)
theorem qz (M i a:Nat):∀ b,iV M i (a + b)=iV M (iV M i a) b
 | 0=>rfl
 | b + 1=>by
  show t9 M (iV M i (a + b))=t9 M (iV M (iV M i a) b);rw [qz M i a b]
def Hz (M:Nat):Nat->Nat->Xa
 | _,0=>[]
 | i,r + 1=>i::Hz M (t9 M i) r
theorem v9 (M i:Nat):∀ r,iV M (t9 M i) r=iV M i (r + 1)
 | 0=>rfl
 | r + 1=>by
  show t9 M (iV M (t9 M i) r)=t9 M (iV M i (r + 1));rw [v9 M i r]
theorem zC (M:Nat):∀ (n i j:Nat),j∈Hz M i n->∃ r,r < n/\iV M i r=j
 | 0,_,_,h=>by cases h
 | n + 1,i,j,h=>by
  rcases S2.mp h with e | h
  ·exact ⟨0,Ur _,e.symm⟩
  ·obtain ⟨r,hr,e⟩:=zC M n _ j h;exact ⟨r + 1,Nat.succ_lt_succ hr,by rw [<- v9];exact e⟩
def full (M:Nat):Bool:=(List.range M).all (fun j=>(Hz M 0 M).contains j) && decide (iV M 0 M=0)
def Fe:full 8=true:=by decide +kernel
def JO:full 32=true:=by decide +kernel
def HG:full 128=true:=by decide +kernel
def GH:full 512=true:=by decide +kernel
def v7 {M:Nat}(h:full M=true){j:Nat}(hj:j < M):∃ r,r < M/\iV M 0 r=j:=by
 unfold full at h;rw [S4] at h;have z:=SH.mp h.1 j (SN.mpr hj);exact zC M M 0 j (by simpa using z)
def yr {M:Nat}(h:full M=true){i j:Nat}(hi:i < M)(hj:j < M):∃ r,r < M/\iV M i r=j:=by
 obtain ⟨a,ha,ea⟩:=v7 h hi;obtain ⟨b,hb,eb⟩:=v7 h hj;have back:iV M 0 M=0:=by
  unfold full at h;rw [S4] at h;exact SV h.2
 by_cases q:a<=b
 ·refine ⟨b - a,by lia,?_⟩
  rw [<- ea,<- qz,show a + (b - a)=b by lia,eb]
 ·refine ⟨M - a + b,by lia,?_⟩
  rw [<- ea,<- qz,show a + (M - a + b)=M + b by lia,qz,back,eb]
theorem uW {M b k:Nat}(hb:b < 2 ^ 64)(hk:12<=k):∀ r,(run M b (k + r)).1=iV M (run M b k).1 r
 | 0=>rfl
 | r + 1=>by
  show ((run M b (k + r)).1 * 5 + 1 + (run M b (k + r)).2 / 32) % M=t9 M (iV M (run M b k).1 r);rw [uW hb hk r,qU];have e:b / 32 ^ (k + r) / 32=0:=by
   rw [Nat.div_div_eq_div_mul,<- Nat.pow_succ];refine Nat.div_eq_of_lt (SK hb ?_);have h1:(32:Nat) ^ 13<=32 ^ (k + r).succ:=Nat.pow_le_pow_right (by decide) (by lia)
   exact SW (by decide) h1
  rw [e,Nat.add_zero];rfl
def oH (m:Nat)(p:Probe):Probe :=
 if p.more > 0 then { p with j:=p.j + 1,more:=p.more - 1 } else
 { p with j:=(leap m p.i p.perturb).1,more:=runEnd m (leap m p.i p.perturb).1 - (leap m p.i p.perturb).1,i:=(leap m p.i p.perturb).1,perturb:=(leap m p.i p.perturb).2 }
def Rj (m:Nat) (h:Int):Probe:={ j:=bits h % (m + 1),more:=runEnd m (bits h % (m + 1)) - bits h % (m + 1),i:=bits h % (m + 1),perturb:=bits h,dummy:=none }
def pr (m:Nat) (h:Int):Nat->Probe
 | 0=>Rj m h
 | n + 1=>oH m (pr m h n)
def AR (h:Int):bits h < 2 ^ 64:=by
 unfold bits;have:=Us h (show (0:Int) < 2 ^ 64 by decide)
 have h0:=Ut h (show (2 ^ 64:Int)≠0 by decide)
 lia
theorem zI (m:Nat) (h:Int):∀ n,(pr m h n).dummy=none
 | 0=>rfl
 | n + 1=>by
  show (oH m (pr m h n)).dummy=none;unfold oH;split <;> exact zI m h n
def qv (m:Nat) (h:Int) (n k:Nat):Prop:=pr m h n={ j:=(run (m + 1) (bits h) k).1,more:=runEnd m (run (m + 1) (bits h) k).1 - (run (m + 1) (bits h) k).1,i:=(run (m + 1) (bits h) k).1,perturb:=(run (m + 1) (bits h) k).2,dummy:=none }
theorem tM {m:Nat}{h:Int}{n k:Nat}(a:qv m h n k):∀ r,r<=runEnd m (run (m + 1) (bits h) k).1 - (run (m + 1) (bits h) k).1 ->
  pr m h (n + r)={ j:=(run (m + 1) (bits h) k).1 + r,more:=runEnd m (run (m + 1) (bits h) k).1 - (run (m + 1) (bits h) k).1 - r,i:=(run (m + 1) (bits h) k).1,perturb:=(run (m + 1) (bits h) k).2,dummy:=none }
 | 0,_=>a
 | r + 1,hr=>by
  show oH m (pr m h (n + r))=_;rw [tM a r (by lia)]
  unfold oH;rw [if_pos (show runEnd m (run (m + 1) (bits h) k).1 - (run (m + 1) (bits h) k).1 - r > 0 by lia)]
  congr 1
def vD (m i:Nat):runEnd m i - i<=9:=by
 unfold runEnd;split <;> lia
def HU {m:Nat}{h:Int}{n k:Nat}(a:qv m h n k):∃ n',n'<=n + 10/\qv m h n' (k + 1):=by
 have z:=tM a _ (RW _);refine ⟨n + (runEnd m (run (m + 1) (bits h) k).1 - (run (m + 1) (bits h) k).1) + 1,by have:=vD m (run (m + 1) (bits h) k).1;lia,?_⟩
 show oH m (pr m h (n + (runEnd m (run (m + 1) (bits h) k).1 - (run (m + 1) (bits h) k).1)))=_;rw [z];unfold oH;rw [if_neg (show ¬ (runEnd m (run (m + 1) (bits h) k).1 - (run (m + 1) (bits h) k).1 - (runEnd m (run (m + 1) (bits h) k).1 - (run (m + 1) (bits h) k).1) > 0) by lia)]
 rfl
theorem Dy (m:Nat) (h:Int):∀ k,∃ n,n<=10 * k/\qv m h n k
 | 0=>⟨0,Sd _,rfl⟩
 | k + 1=>by
  obtain ⟨n,hn,a⟩:=Dy m h k;obtain ⟨n',hn',a'⟩:=HU a;exact ⟨n',by lia,a'⟩
def M1 {m:Nat}(hf:full (m + 1)=true) (h:Int){j:Nat}(hj:j<=m):∃ n,n < 10 * turns m/\(pr m h n).j=j:=by
 obtain ⟨r,hr,e⟩:=yr hf (yt (b:=bits h) (Ur m) 12) (WH hj);obtain ⟨n,hn,a⟩:=Dy m h (12 + r);refine ⟨n,?_,?_⟩
 ·unfold turns;lia
 ·rw [a];show (run (m + 1) (bits h) (12 + r)).1=j;rw [uW (AR h) (RW _),e]
def gM (xs:Array Nat):Prop:=∀ (i k x y:Nat),i < k->xs[i]?=some x->xs[k]?=some y->x < y
def gM.inj (h:gM xs){i k x:Nat}(a:xs[i]?=some x)(b:xs[k]?=some x):i=k:=by
 rcases UE i k with z | z | z
 ·exact absurd (h i k x x z a b) (Sf _)
 ·exact z
 ·exact absurd (h k i x x z b a) (Sf _)
def uf {α:Type}{xs:Array α}{i:Nat}{x:α}(h:xs[i]?=some x):i < xs.size:=(V9.mp h).1
theorem su (hr:gM xs) (j:Nat):∀ (fuel lo hi:Nat),lo<=hi->hi<=xs.size->hi - lo<=fuel->(∀ i x,xs[i]?=some x->i < lo->x < j)->(∀ i x,xs[i]?=some x->hi<=i->j<=x) ->
  below.go xs j fuel lo hi<=xs.size/\∀ i x,xs[i]?=some x->(i < below.go xs j fuel lo hi↔x < j)
 | 0,lo,hi,h1,h2,h3,h4,h5=>by
  have e:lo=hi:=by lia
  subst e;unfold below.go;refine ⟨h2,fun i x hx=>⟨h4 i x hx,fun lt=>?_⟩⟩
  by_cases q:i < lo
  ·exact q
  ·exact absurd lt (Uc.mpr (h5 i x hx (Uc.mp q)))
 | fuel + 1,lo,hi,h1,h2,h3,h4,h5=>by
  unfold below.go
  by_cases q:lo < hi
  ·rw [if_pos q];have hm:(lo + hi) / 2 < xs.size:=by lia
   have gm:xs[(lo + hi) / 2]?=some xs[(lo + hi) / 2]:=TH hm;have gd:xs.getD ((lo + hi) / 2) j=xs[(lo + hi) / 2]:=by rw [U5,gm];rfl
   dsimp only;rw [gd]
   by_cases c:xs[(lo + hi) / 2] < j
   ·rw [if_pos c];refine su hr j fuel _ hi (by lia) h2 (by lia) (fun i x hx hi'=>?_) h5
    by_cases e:i=(lo + hi) / 2
    ·subst e;rw [gm] at hx;cases hx;exact c
    ·exact Nat.lt_trans (hr i _ x _ (by lia) hx gm) c
   ·rw [if_neg c];refine su hr j fuel lo _ (by lia) (by lia) (by lia) h4 fun i x hx hi'=>?_
    by_cases e:i=(lo + hi) / 2
    ·subst e;rw [gm] at hx;cases hx;exact Uc.mp c
    ·exact SW (Uc.mp c) (UR (hr _ i _ x (by lia) gm hx))
  ·rw [if_neg q];have e:lo=hi:=by lia
   subst e;refine ⟨h2,fun i x hx=>⟨h4 i x hx,fun lt=>?_⟩⟩
   by_cases q:i < lo
   ·exact q
   ·exact absurd lt (Uc.mpr (h5 i x hx (Uc.mp q)))
def iP {xs:Array Nat}(hr:gM xs) (j:Nat):below xs j<=xs.size/\∀ i x,xs[i]?=some x->(i < below xs j↔x < j) :=
 su hr j xs.size 0 xs.size (Sd _) (RW _) (by lia) (fun _ _ _ h=>absurd h (Tt _)) fun i x hx h=>absurd (uf hx) (Uc.mpr h)
def below_at {xs:Array Nat}(hr:gM xs){i j:Nat}(h:xs[i]?=some j):below xs j=i:=by
 obtain ⟨h1,h2⟩:=iP hr j;have a:¬ i < below xs j:=fun q=>Sf _ ((h2 i j h).mp q)
 by_cases e:below xs j=i
 ·exact e
 ·have lt:below xs j < i:=by lia
  have hb:below xs j < xs.size:=Nat.lt_trans lt (uf h);have gb:xs[below xs j]?=some xs[below xs j]:=TH hb;have:=hr _ _ _ _ lt gb h;exact absurd ((h2 _ _ gb).mpr this) (Sf _)
def EM {t:SetTable}(hr:gM t.place){i j:Nat}(h:t.place[i]?=some j):t.slot j=.live i:=by
 unfold slot;dsimp only;rw [below_at hr h,h,if_pos (by simp)]
def CH {t:SetTable}(hr:gM t.place)(hd:t.dummies=#[]){j:Nat}(h:∀ i:Nat,t.place[i]?≠some j):t.slot j=.empty:=by
 unfold slot;dsimp only;rw [if_neg (by simpa using h _)]
 have:has t.dummies j=false:=by
  unfold has;rw [hd];simp
 rw [this];rfl
def Fd {xs:Array Nat}(hr:gM xs){m:Nat}(hs:xs.size<=m):∃ j,j<=m/\∀ i:Nat,xs[i]?≠some j:=by
 refine Vi fun no=>?_
 have all:∀ j,j<=m->∃ i:Nat,xs[i]?=some j:=fun j hj=>Vi fun q=>no ⟨j,hj,fun i e=>q ⟨i,e⟩⟩
 have ge:∀ j,j<=m->∀ i:Nat,xs[i]?=some j->j<=i:=by
  intro j
  induction j with
  | zero=>intro _ i _;exact Sd _
  | succ j ih =>
   intro hj i hi;obtain ⟨i0,h0⟩:=all j (by lia)
   have l0:=ih (by lia) i0 h0
   rcases UE i0 i with z | z | z
   ·lia
   ·subst z;rw [h0] at hi;have:=Option.some.inj hi;lia
   ·have:=hr i i0 _ _ z hi h0;lia
 obtain ⟨i,hi⟩:=all m (RW _);have h1:=ge m (RW _) i hi;have h2:=uf hi;lia
def ig {α:Type}{xs:Array α}{p:Nat}(hp:p<=xs.size)(x:α) (i:Nat):(insertAt xs p x)[i]?=if i < p then xs[i]? else if i=p then some x else xs[i - 1]?:=by
 unfold insertAt;have s1:(xs.extract 0 p).size=p:=by rw [VA];lia
 have s2:((xs.extract 0 p).push x).size=p + 1:=by rw [Array.size_push,s1]
 rw [Array.getElem?_append,s2]
 by_cases h1:i < p
 ·rw [if_pos (by lia),if_pos h1,Array.getElem?_push,s1,if_neg (by lia),WI,if_pos (by lia),Vj]
 ·rw [if_neg h1]
  by_cases h2:i=p
  ·subst h2;rw [if_pos (by lia),if_pos rfl,Array.getElem?_push,s1,if_pos rfl]
  ·rw [if_neg (by lia),if_neg h2,WI]
   by_cases h3:i - (p + 1) < xs.size - p
   ·rw [if_pos (by lia),show p + (i - (p + 1))=i - 1 by lia]
   ·rw [if_neg (by lia)]
    exact (VB (by lia)).symm
def lg {α:Type}{xs:Array α}{p:Nat}(hp:p<=xs.size)(x:α):(insertAt xs p x).size=xs.size + 1:=by
 unfold insertAt;rw [Array.size_append,Array.size_push,VA,VA];lia
abbrev Ent:=Int×Value
def In (t:SetTable) (j:Nat):Prop:=∃ i:Nat,t.place[i]?=some j
def Way (t:SetTable) (h:Int) (m:Nat):Prop:=∀ m',m' < m->In t (pr t.mask h m').j
structure TB (t:SetTable)(es:Array Ent):Prop where
 sz:t.place.size=es.size
 ri:gM t.place
 le:∀ i j:Nat,t.place[i]?=some j->j<=t.mask
 du:t.dummies=#[]
 fu:full (t.mask + 1)=true
 od:t.mask % 2=1
 nf:t.place.size<=t.mask
 rc:∀ (i j:Nat)(e:Ent),t.place[i]?=some j->es[i]?=some e->∃ m,m < 10 * turns t.mask/\(pr t.mask e.1 m).j=j/\Way t e.1 m
section
variable {t:SetTable}{es:Array Ent}
theorem TB.fits (T:TB t es):t.fits es.size=true:=by
 unfold SetTable.fits fill;rw [T.sz,T.du];have:=T.nf;rw [T.sz] at this
 simpa using this
def TB.first (T:TB t es) (h:Int):∃ N,N < 10 * turns t.mask/\¬ In t (pr t.mask h N).j/\Way t h N:=by
 obtain ⟨j,hj,hn⟩:=Fd T.ri T.nf;obtain ⟨n,hlt,e⟩:=M1 T.fu h hj;have key:∀ n,¬ In t (pr t.mask h n).j->∃ N,N<=n/\¬ In t (pr t.mask h N).j/\Way t h N:=by
  intro n
  induction n using Nat.strongRecOn with
  | ind n ih =>
   intro hq
   by_cases w:Way t h n
   ·exact ⟨n,RW _,hq,w⟩
   ·obtain ⟨m',q⟩:=Classical.not_forall.mp w;obtain ⟨lt,q⟩:=Classical.not_imp.mp q;obtain ⟨N,a,b,c⟩:=ih m' lt q;exact ⟨N,by lia,b,c⟩
 obtain ⟨N,a,b,c⟩:=key n (by rw [e];rintro ⟨i,hi⟩;exact hn i hi)
 exact ⟨N,by lia,b,c⟩
theorem Ba (hr:gM t.place)(hd:t.dummies=#[]){hashAt:Nat->Int}{h:Int}{N:Nat}(hN:¬ In t (pr t.mask h N).j)(hw:Way t h N):∀ (fuel n:Nat),n<=N->N - n < fuel ->
  (probe.go t hashAt h fuel (pr t.mask h n)=some (.empty (pr t.mask h N).j none)/\∀ m i:Nat,n<=m->m < N->t.place[i]?=some (pr t.mask h m).j->hashAt i≠h) \/
  (∃ m i:Nat,n<=m/\m < N/\t.place[i]?=some (pr t.mask h m).j/\hashAt i=h/\probe.go t hashAt h fuel (pr t.mask h n)=some (.candidate (pr t.mask h m).j i (pr t.mask h (m + 1)))/\∀ m' i':Nat,n<=m'->m' < m->t.place[i']?=some (pr t.mask h m').j->hashAt i'≠h)
 | 0,n,h1,h2=>absurd h2 (Tt _)
 | fuel + 1,n,h1,h2=>by
  unfold probe.go
  by_cases e:n=N
  ·subst e;rw [CH hr hd (fun i q=>hN ⟨i,q⟩)]
   refine .inl ⟨?_,fun m i a b=>by lia⟩
   show some (Met.empty (pr t.mask h n).j (pr t.mask h n).dummy)=_;rw [zI]
  ·obtain ⟨i,hi⟩:=hw n (by lia)
   rw [EM hr hi];dsimp only
   by_cases q:hashAt i=h
   ·rw [if_pos (by rw [q];exact Vh h)]
    exact .inr ⟨n,i,RW _,by lia,hi,q,rfl,fun m' i' a b=>by lia⟩
   ·rw [if_neg (by simpa using q)]
    show (probe.go t hashAt h fuel (pr t.mask h (n + 1))=_/\_)\/_;have other:∀ i':Nat,t.place[i']?=some (pr t.mask h n).j->hashAt i'≠h:=fun i' hi'=>by
     rw [hr.inj hi' hi];exact q
    rcases Ba hr hd (hashAt:=hashAt) hN hw fuel (n + 1) (by lia) (by lia) with ⟨a,b⟩ | ⟨m,i',c1,c2,c3,c4,c5,c6⟩
    ·refine .inl ⟨a,fun m i' u v x=>?_⟩
     by_cases z:m=n
     ·subst z;exact other i' x
     ·exact b m i' (by lia) v x
    ·refine .inr ⟨m,i',by lia,c2,c3,c4,c5,fun m' i'' u v x=>?_⟩
     by_cases z:m'=n
     ·subst z;exact other i'' x
     ·exact c6 m' i'' (by lia) v x
theorem TB.freeSlot (T:TB t es){h:Int}{N:Nat}(hl:N < 10 * turns t.mask)(hN:¬ In t (pr t.mask h N).j)(hw:Way t h N):t.freeSlot h=some ((pr t.mask h N).j,false):=by
 unfold SetTable.freeSlot;have z:=Ba T.ri T.du (hashAt:=fun _=>h + 1) hN hw (10 * turns t.mask) 0 (Sd _) (by lia)
 have e:t.probe (fun _=>h + 1) h (t.probeStart h)=some (.empty (pr t.mask h N).j none):=by
  rcases z with ⟨a,_⟩ | ⟨m,i,_,_,_,c,_⟩
  ·exact a
  ·exact absurd c (by lia)
 rw [e];rfl
def GV (hr:gM xs) (j:Nat):below xs j<=xs.size:=(iP hr j).1
theorem TB.put (T:TB t es){N:Nat}(hl:N < 10 * turns t.mask)(hN:¬ In t (pr t.mask e.1 N).j)(hw:Way t e.1 N)(room:es.size + 1<=t.mask)(hjm:(pr t.mask e.1 N).j<=t.mask) :
  TB (t.put (pr t.mask e.1 N).j).1 (insertAt es (t.put (pr t.mask e.1 N).j).2 e):=by
 obtain ⟨hb,hs⟩:=iP T.ri (pr t.mask e.1 N).j;have hb2:below t.place (pr t.mask e.1 N).j<=es.size:=by rw [<- T.sz];exact hb
 have nd:has t.dummies (pr t.mask e.1 N).j=false:=by
  unfold has;rw [T.du];simp
 have ep:(t.put (pr t.mask e.1 N).j).1={ t with place:=insertAt t.place (below t.place (pr t.mask e.1 N).j) (pr t.mask e.1 N).j }:=by
  unfold SetTable.put;dsimp only;rw [nd];rfl
 have ep2:(t.put (pr t.mask e.1 N).j).2=below t.place (pr t.mask e.1 N).j:=rfl;rw [ep,ep2];generalize hp:below t.place (pr t.mask e.1 N).j=p at *;generalize hj:(pr t.mask e.1 N).j=j at *;have g:=ig hb j
 -- what was there is there
 have up:∀ (i x:Nat),t.place[i]?=some x->∃ i':Nat,(insertAt t.place p j)[i']?=some x:=fun i x hx=>by
  by_cases q:i < p
  ·exact ⟨i,by rw [g,if_pos q];exact hx⟩
  ·exact ⟨i + 1,by rw [g,if_neg (by lia),if_neg (by lia)];exact hx⟩
 have mine:(insertAt t.place p j)[p]?=some j:=by rw [g,if_neg (Sf _),if_pos rfl]
 have down:∀ (i x:Nat),(insertAt t.place p j)[i]?=some x->(i < p/\t.place[i]?=some x)\/(i=p/\x=j)\/(p < i/\t.place[i - 1]?=some x):=fun i x hx=>by
  rw [g] at hx
  by_cases q:i < p
  ·rw [if_pos q] at hx;exact .inl ⟨q,hx⟩
  ·rw [if_neg q] at hx
   by_cases q2:i=p
   ·rw [if_pos q2] at hx;exact .inr (.inl ⟨q2,(Option.some.inj hx).symm⟩)
   ·rw [if_neg q2] at hx;exact .inr (.inr ⟨by lia,hx⟩)
 have inUp:∀ x,In t x->In { t with place:=insertAt t.place p j } x:=fun x ⟨i,hi⟩=>up i x hi
 have noJ:∀ (i:Nat),t.place[i]?≠some j:=fun i q=>hN ⟨i,q⟩
 constructor
 ·show (insertAt t.place p j).size=_;rw [lg hb,lg hb2,T.sz]
 ·intro i k x y hik hx hy;rcases down i x hx with ⟨a1,a2⟩ | ⟨a1,a2⟩ | ⟨a1,a2⟩ <;> rcases down k y hy with ⟨b1,b2⟩ | ⟨b1,b2⟩ | ⟨b1,b2⟩
  ·exact T.ri i k x y hik a2 b2
  ·rw [b2];exact (hs i x a2).mp a1
  ·exact T.ri i (k - 1) x y (by lia) a2 b2
  ·lia
  ·lia
  ·rw [a2];have c:¬ y < j:=fun z=>by
    have:=(hs (k - 1) y b2).mpr z;lia
   have d:y≠j:=fun z=>noJ _ (z ▸ b2)
   lia
  ·lia
  ·lia
  ·exact T.ri (i - 1) (k - 1) x y (by lia) a2 b2
 ·intro i x hx;rcases down i x hx with ⟨_,a2⟩ | ⟨_,a2⟩ | ⟨_,a2⟩
  ·exact T.le _ _ a2
  ·rw [a2];exact hjm
  ·exact T.le _ _ a2
 ·exact T.du
 ·exact T.fu
 ·exact T.od
 ·show (insertAt t.place p j).size<=t.mask;rw [lg hb,T.sz];exact room
 ·intro i x f hx hf;have gf:=ig hb2 e i;rw [gf] at hf;have old:∀ i0:Nat,t.place[i0]?=some x->es[i0]?=some f->∃ m,m < 10 * turns t.mask/\(pr t.mask f.1 m).j=x/\Way { t with place:=insertAt t.place p j } f.1 m:=fun i0 u v=>by
   obtain ⟨m,c1,c2,c3⟩:=T.rc i0 x f u v;exact ⟨m,c1,c2,fun m' l=>inUp _ (c3 m' l)⟩
  rcases down i x hx with ⟨a1,a2⟩ | ⟨a1,a2⟩ | ⟨a1,a2⟩
  ·rw [if_pos a1] at hf;exact old i a2 hf
  ·rw [if_neg (by lia),if_pos a1] at hf
   cases hf;exact ⟨N,hl,by rw [a2];exact hj,fun m' l=>inUp _ (hw m' l)⟩
  ·rw [if_neg (by lia),if_neg (by lia)] at hf
   exact old (i - 1) a2 hf
end
def n5 {m i:Nat}(hi:i<=m):i + (runEnd m i - i)<=m:=by
 unfold runEnd;split <;> lia
theorem IE (m:Nat) (h:Int):∀ n,(pr m h n).j + (pr m h n).more<=m
 | 0=>by
  have z:bits h % (m + 1) < m + 1:=Ub (bits h) (Ur m);show bits h % (m + 1) + (runEnd m (bits h % (m + 1)) - bits h % (m + 1))<=m;exact n5 (by lia)
 | n + 1=>by
  have ih:=IE m h n;show (oH m (pr m h n)).j + (oH m (pr m h n)).more<=m;unfold oH;split
  ·dsimp only;lia
  ·dsimp only;have:(leap m (pr m h n).i (pr m h n).perturb).1 < m + 1:=Ub _ (Ur m);exact n5 (by lia)
def w6 (m:Nat) (h:Int) (n:Nat):(pr m h n).j<=m:=by
 have:=IE m h n;lia
def heads {m:Nat}(hf:full (m + 1)=true) (h:Int){j:Nat}(hj:j<=m):∃ k,k < turns m/\(run (m + 1) (bits h) k).1=j:=by
 obtain ⟨r,hr,e⟩:=yr hf (yt (b:=bits h) (Ur m) 12) (WH hj);refine ⟨12 + r,?_,?_⟩
 ·unfold turns;lia
 ·rw [uW (AR h) (RW _),e]
abbrev Own:=Array (Option Nat)
def Tk (o:Own) (j:Nat):Prop:=∃ k,o[j]?=some (some k)
def yT (m:Nat)(o:Own) (h:Int) (n:Nat):Prop:=∀ n',n' < n->Tk o (pr m h n').j
def getD_none {m:Nat}(hs:o.size=m + 1){j:Nat}(hj:j<=m):(o.getD j (some 0)).isNone=true↔¬ Tk o j:=by
 have g:o[j]?=some o[j]:=TH (by lia)
 rw [U5,g];show (o[j]).isNone=true↔_;constructor
 ·rintro q ⟨k,e⟩;rw [g] at e;rw [Option.some.inj e] at q;cases q
 ·intro q;cases z:o[j] with
  | none=>rfl
  | some k=>exact absurd ⟨k,by rw [g,z]⟩ q
theorem wA {m:Nat}{h:Int}(hs:o.size=m + 1):∀ (fuel k n:Nat),qv m h n k->n<=10 * k->yT m o h n->(∃ k',k<=k'/\k' < k + fuel/\¬ Tk o (run (m + 1) (bits h) k').1) ->
  ∃ N,N < 10 * (k + fuel)/\layClean.free m o fuel (run (m + 1) (bits h) k).1 (run (m + 1) (bits h) k).2=some (pr m h N).j/\¬ Tk o (pr m h N).j/\yT m o h N
 | 0,k,n,_,_,_,⟨k',a,b,_⟩=>by lia
 | fuel + 1,k,n,a,hn,hw,⟨k',q1,q2,q3⟩=>by
  have hi:(run (m + 1) (bits h) k).1<=m:=by have:=yt (M:=m + 1) (b:=bits h) (Ur m) k;lia
  have hre:=n5 hi;have hle9:=vD m (run (m + 1) (bits h) k).1;have hge:(run (m + 1) (bits h) k).1<=runEnd m (run (m + 1) (bits h) k).1:=by unfold runEnd;split <;> lia
  have pos:∀ r,r<=runEnd m (run (m + 1) (bits h) k).1 - (run (m + 1) (bits h) k).1->(pr m h (n + r)).j=(run (m + 1) (bits h) k).1 + r:=fun r hr=>by rw [tM a r hr]
  unfold layClean.free;cases f:(List.range (runEnd m (run (m + 1) (bits h) k).1 + 1 - (run (m + 1) (bits h) k).1)).find? (fun k_1=>(o.getD ((run (m + 1) (bits h) k).1 + k_1) (some 0)).isNone) with
  | some r =>
   obtain ⟨p1,i,hi',e1,e2⟩:=List.find?_eq_some_iff_getElem.mp f;rw [List.getElem_range] at e1;subst e1;have hlen:i < runEnd m (run (m + 1) (bits h) k).1 + 1 - (run (m + 1) (bits h) k).1:=by simpa using hi'
   refine ⟨n + i,by lia,?_,?_,fun n' l=>?_⟩
   ·rw [pos i (by lia)]
   ·rw [pos i (by lia)]
    exact (getD_none hs (by lia)).mp p1
   ·by_cases c:n' < n
    ·exact hw n' c
    ·have e3:=e2 (n' - n) (by lia)
     rw [List.getElem_range] at e3;have e4:(!(o.getD ((run (m + 1) (bits h) k).1 + (n' - n)) (some 0)).isNone)=true:=e3;have z:¬ (o.getD ((run (m + 1) (bits h) k).1 + (n' - n)) (some 0)).isNone=true:=fun q=>by
      rw [q] at e4;cases e4
     have z2:=fun q=>z ((getD_none hs (by lia)).mpr q)
     have z3:=Classical.not_not.mp z2;rw [show n'=n + (n' - n) by lia,pos (n' - n) (by lia)]
     exact z3
  | none =>
   have no:∀ r,r<=runEnd m (run (m + 1) (bits h) k).1 - (run (m + 1) (bits h) k).1->Tk o ((run (m + 1) (bits h) k).1 + r):=fun r hr=>by
    have z:=List.find?_eq_none.mp f r (SN.mpr (by lia))
    exact Classical.not_not.mp fun q=>z ((getD_none hs (by lia)).mpr q)
   have z:=tM a _ (RW _);have a':qv m h (n + (runEnd m (run (m + 1) (bits h) k).1 - (run (m + 1) (bits h) k).1) + 1) (k + 1):=by
    show oH m (pr m h (n + (runEnd m (run (m + 1) (bits h) k).1 - (run (m + 1) (bits h) k).1)))=_;rw [z];unfold oH;rw [if_neg (show ¬ (runEnd m (run (m + 1) (bits h) k).1 - (run (m + 1) (bits h) k).1 - (runEnd m (run (m + 1) (bits h) k).1 - (run (m + 1) (bits h) k).1) > 0) by lia)]
    rfl
   have w':yT m o h (n + (runEnd m (run (m + 1) (bits h) k).1 - (run (m + 1) (bits h) k).1) + 1):=fun n' l=>by
    by_cases c:n' < n
    ·exact hw n' c
    ·rw [show n'=n + (n' - n) by lia,pos (n' - n) (by lia)]
     exact no _ (by lia)
   have later:k + 1<=k':=by
    rcases Sq k k' with c | c
    ·exact c
    ·have e:k'=k:=by lia
     subst e;exact absurd (by simpa using no 0 (Sd _)) q3
   obtain ⟨N,c1,c2,c3,c4⟩:=wA hs fuel (k + 1) _ a' (by lia) w' ⟨k',later,by lia,q3⟩
   exact ⟨N,by lia,c2,c3,c4⟩
def bQ (o:Own) (M:Nat):XM:=(List.range M).filterMap fun j=>(o.getD j none).map (j,·)
structure j5 (m:Nat)(hs:Xb)(o:Own):Prop where
 sz:o.size=m + 1
 pm:((bQ o (m + 1)).map (·.2)).Perm (List.range hs.length)
 rc:∀ (j k:Nat) (h:Int),o[j]?=some (some k)->hs[k]?=some h->∃ n,n < 10 * turns m/\(pr m h n).j=j/\yT m o h n
 kl:∀ j k:Nat,o[j]?=some (some k)->k < hs.length
def rC {M j:Nat}(hj:j < M):List.range M=List.range j++j::List.range' (j + 1) (M - j - 1):=by
 rw [WJ,WJ,show (j::List.range' (j + 1) (M - j - 1))=List.range' j (M - j - 1 + 1) from rfl]
 have e:=List.range'_append (s:=0) (m:=j) (n:=M - j - 1 + 1) (step:=1);rw [Nat.one_mul,Vj] at e;rw [e,show j + (M - j - 1 + 1)=M by lia]
def rW {o:Own}{j x:Nat}(hj:j < o.size):(o.setIfInBounds j v).getD x none=if x=j then v else o.getD x none:=by
 rw [U5,U5,WK]
 by_cases e:j=x
 ·subst e;rw [if_pos rfl,if_pos hj,if_pos rfl];rfl
 ·rw [if_neg e,if_neg (fun z=>e z.symm)]
theorem rM {f g:Nat->Option (Nat×Nat)}:∀ {l:Xa},(∀ x∈l,f x=g x)->l.filterMap f=l.filterMap g
 | [],_=>rfl
 | a::r,h=>by
  rw [TF,TF,h a RT,rM fun x hx=>h x (RY _ hx)]
def GS {m j k:Nat}(hs:o.size=m + 1)(hj:j<=m)(hn:¬ Tk o j):∃ A B,bQ o (m + 1)=A++B/\bQ (o.setIfInBounds j (some k)) (m + 1)=A++(j,k)::B:=by
 have hnone:o.getD j none=none:=by
  have g:o[j]?=some o[j]:=TH (by lia)
  rw [U5,g];show o[j]=none;cases z:o[j] with
  | none=>rfl
  | some k=>exact absurd ⟨k,by rw [g,z]⟩ hn
 refine ⟨(List.range j).filterMap fun x=>(o.getD x none).map (x,·),(List.range' (j + 1) (m + 1 - j - 1)).filterMap fun x=>(o.getD x none).map (x,·),?_,?_⟩
 ·unfold bQ;rw [rC (M:=m + 1) (j:=j) (by lia),VC,TF,hnone]
  rfl
 ·unfold bQ;rw [rC (M:=m + 1) (j:=j) (by lia),VC,TF,rW (by lia),if_pos rfl]
  show _++(j,k)::_=_;congr 1
  ·refine rM fun x hx=>?_
   have:=SN.mp hx;rw [rW (by lia),if_neg (by lia)]
  ·congr 1;refine rM fun x hx=>?_
   have:=(List.mem_range'_1.mp hx).1;rw [rW (by lia),if_neg (by lia)]
def EX {j k x:Nat}(h:Tk o x)(hn:¬ Tk o j):Tk (o.setIfInBounds j (some k)) x:=by
 obtain ⟨k',e⟩:=h;refine ⟨k',?_⟩;have ne:j≠x:=fun z=>hn ⟨k',by rw [z];exact e⟩
 rw [WK,if_neg ne];exact e
def j5.more {m:Nat}{h:Int}{N:Nat}(O:j5 m hs o)(hl:N < 10 * turns m)(hn:¬ Tk o (pr m h N).j)(hw:yT m o h N):j5 m (hs++[h]) (o.setIfInBounds (pr m h N).j (some hs.length)):=by
 have hj:=w6 m h N;have hjs:(pr m h N).j < o.size:=by rw [O.sz];lia
 have set:∀ x,(o.setIfInBounds (pr m h N).j (some hs.length))[x]?=if (pr m h N).j=x then some (some hs.length) else o[x]?:=fun x=>by
  rw [WK]
  by_cases e:(pr m h N).j=x
  ·rw [if_pos e,if_pos hjs,if_pos e]
  ·rw [if_neg e,if_neg e]
 refine ⟨by rw [Array.size_setIfInBounds,O.sz],?_,fun j k g hk hg=>?_,fun j k hk=>?_⟩
 ·obtain ⟨A,B,e1,e2⟩:=GS (k:=hs.length) O.sz hj hn;have p:=O.pm;rw [e1,Sg] at p;rw [e2,Sg,SO,SJ,UZ,List.range_succ];exact (List.perm_middle.trans (List.Perm.cons _ p)).trans (List.perm_append_singleton _ _).symm
 ·rw [set] at hk
  by_cases e:(pr m h N).j=j
  ·rw [if_pos e] at hk;cases hk;rw [UC (RW _),Nat.sub_self] at hg;cases hg;exact ⟨N,hl,e,fun n' l=>EX (hw n' l) hn⟩
  ·rw [if_neg e] at hk;have kl:=O.kl j k hk;rw [UT kl] at hg;obtain ⟨n,c1,c2,c3⟩:=O.rc j k g hk hg;exact ⟨n,c1,c2,fun n' l=>EX (c3 n' l) hn⟩
 ·rw [SJ,UZ];rw [set] at hk
  by_cases e:(pr m h N).j=j
  ·rw [if_pos e] at hk;cases hk;lia
  ·rw [if_neg e] at hk;have:=O.kl j k hk;lia
theorem Fy {f:Nat->Option (Nat×Nat)}:∀ {l:Xa},(∀ x∈l,∃ y,f x=some y)->(l.filterMap f).length=l.length
 | [],_=>rfl
 | a::r,h=>by
  obtain ⟨y,e⟩:=h a RT;rw [TF,e];show ((r.filterMap f).length + 1)=r.length + 1;rw [Fy fun x hx=>h x (RY _ hx)]
def mW {o:Own}{j k:Nat}:o.getD j none=some k↔o[j]?=some (some k):=by
 rw [U5];cases z:o[j]? with
 | none=>exact ⟨fun q=>(nomatch q),fun q=>(nomatch q)⟩
 | some v=>exact ⟨fun q=>congrArg some q,fun q=>Option.some.inj q⟩
def j5.room {m:Nat}{hs:Xb}(O:j5 m hs o)(hl:hs.length<=m):∃ j,j<=m/\¬ Tk o j:=by
 refine Vi fun no=>?_
 have all:∀ j,j<=m->Tk o j:=fun j hj=>Vi fun q=>no ⟨j,hj,q⟩
 have e:=O.pm.length_eq;rw [RX,SA] at e;unfold bQ at e;rw [Fy (fun x hx=>by
  obtain ⟨k,hk⟩:=all x (by have:=SN.mp hx;lia)
  exact ⟨(x,k),by rw [mW.mpr hk];rfl⟩),SA] at e
 lia
def qu (m:Nat)(acc:Option (Own×Nat)) (h:Int):Option (Own×Nat):=do
 let (owner,k) <- acc
 let j <- layClean.free m owner (turns m) (bits h % (m + 1)) (bits h)
 pure (owner.setIfInBounds j (some k),k + 1)
theorem yE {m:Nat}(hf:full (m + 1)=true):∀ (hs2 hs1:Xb)(o:Own),j5 m hs1 o->hs1.length + hs2.length<=m->∃ o',hs2.foldl (qu m) (some (o,hs1.length))=some (o',(hs1++hs2).length)/\j5 m (hs1++hs2) o'
 | [],hs1,o,O,_=>⟨o,by rw [Sy];rfl,by rw [Sy];exact O⟩
 | h::r,hs1,o,O,hl=>by
  rw [Sb] at hl;obtain ⟨j0,hj0,n0⟩:=O.room (by lia)
  obtain ⟨k',hk',e'⟩:=heads hf h hj0;obtain ⟨N,c1,c2,c3,c4⟩:=wA (h:=h) O.sz (turns m) 0 0 rfl (RW _) (fun _ l=>absurd l (Tt _)) ⟨k',Sd _,by lia,by rw [e'];exact n0⟩
  have O2:=O.more (by lia) c3 c4
  obtain ⟨o',e1,O3⟩:=yE hf r (hs1++[h]) _ O2 (by rw [SJ,UZ];lia)
  have st:qu m (some (o,hs1.length)) h=some (o.setIfInBounds (pr m h N).j (some hs1.length),hs1.length + 1):=by
   show (layClean.free m o (turns m) (bits h % (m + 1)) (bits h)).bind _=_;have c2:layClean.free m o (turns m) (bits h % (m + 1)) (bits h)=some (pr m h N).j:=c2;rw [c2];rfl
  rw [Sh] at e1 O3;refine ⟨o',?_,O3⟩;rw [List.foldl_cons,st];rw [SJ,UZ] at e1;exact e1
def rN {n j:Nat}:(Array.replicate n (none:Option Nat)).getD j none=none:=by
 rw [U5,Array.getElem?_replicate];split <;> rfl
def E7 (m:Nat):j5 m [] (Array.replicate (m + 1) none):=by
 refine ⟨by rw [Array.size_replicate],?_,fun j k h hk=>?_,fun j k hk=>?_⟩
 ·have e:bQ (Array.replicate (m + 1) none) (m + 1)=[]:=by
   unfold bQ;rw [List.filterMap_eq_nil_iff];intro x _;rw [rN];rfl
  rw [e];exact List.Perm.refl _
 ·have:=mW.mpr hk;rw [rN] at this;cases this
 ·have:=mW.mpr hk;rw [rN] at this;cases this
def Ai {m:Nat}(hf:full (m + 1)=true)(hl:hs.size<=m):∃ o,layClean m hs=some o/\j5 m hs.toList o:=by
 obtain ⟨o,e,O⟩:=yE hf hs.toList [] _ (E7 m) (by simpa using hl)
 refine ⟨o,?_,O⟩;have e2:layClean m hs=(hs.foldl (qu m) (some (Array.replicate (m + 1) none,0))).map (·.1):=rfl;have e:hs.toList.foldl (qu m) (some (Array.replicate (m + 1) none,0))=some (o,([]++hs.toList).length):=e;rw [e2,<- Array.foldl_toList,e];rfl
def rY {o:Own}{M j k:Nat}:(j,k)∈bQ o M↔j < M/\o[j]?=some (some k):=by
 unfold bQ;rw [VZ];constructor
 ·rintro ⟨x,hx,e⟩;cases z:o.getD x none with
  | none=>rw [z] at e;cases e
  | some k' =>
   rw [z] at e;cases e;exact ⟨SN.mp hx,mW.mp z⟩
 ·rintro ⟨h1,h2⟩;exact ⟨j,SN.mpr h1,by rw [mW.mpr h2];rfl⟩
theorem rG {o:Own}:∀ (l:Xa),((l.filterMap fun j=>(o.getD j none).map (j,·)).map (·.1))=l.filter fun j=>(o.getD j none).isSome
 | []=>rfl
 | a::r=>by
  rw [TF,U6];cases z:o.getD a none with
  | none=>exact rG r
  | some k =>
   show a::_=a::_;rw [<- rG r]
def FJ (o:Own) (M:Nat):gM ((bQ o M).map (·.1)).toArray:=by
 intro i k x y hik hx hy;have p:((bQ o M).map (·.1)).Pairwise (· < ·):=by
  unfold bQ;rw [rG];exact (WM).filter _
 rw [WN] at hx hy;obtain ⟨h1,e1⟩:=U1.mp hx;obtain ⟨h2,e2⟩:=U1.mp hy;rw [<- e1,<- e2];exact Tf.mp p i k h1 h2 hik
theorem FH {α β:Type}{f:α->Option β}{g:α->β}:∀ {l:List α},(∀ x∈l,f x=some (g x))->l.filterMap f=l.map g
 | [],_=>rfl
 | a::r,h=>by
  rw [TF,h a RT,SO,FH fun x hx=>h x (RY _ hx)]
def HH {t:SetTable}{es:Array Ent}{wanted:Nat}(hf:full (sizeAbove wanted - 1 + 1)=true)(ho:(sizeAbove wanted - 1) % 2=1)(hl:es.size<=sizeAbove wanted - 1) :
  ∃ es' t',relayAll t es wanted=(es',t',false)/\TB t' es'/\es'.toList.Perm es.toList/\t'.led=t.led/\t'.plain=t.plain/\t'.mask=sizeAbove wanted - 1:=by
 obtain ⟨o,e,O⟩:=Ai hf (hs:=es.map (·.1)) (by simpa using hl)
 generalize hm:sizeAbove wanted - 1=m at *;have hn:(es.map (·.1)).toList.length=es.size:=by simp
 have pm:=O.pm;rw [hn] at pm;have order_lt:∀ k∈(bQ o (m + 1)).map (·.2),k < es.size:=fun k hk=>SN.mp (pm.mem_iff.mp hk)
 have hg:∀ k∈(bQ o (m + 1)).map (·.2),es[k]?=some (es.getD k (0,.none)):=fun k hk=>by
  have:=order_lt k hk;rw [U5,TH this];rfl
 have esL:(((bQ o (m + 1)).map (·.2)).toArray.filterMap (es[·]?)).toList=((bQ o (m + 1)).map (·.2)).map fun k=>es.getD k (0,.none):=by
  rw [Array.toList_filterMap];exact FH hg
 have len:(bQ o (m + 1)).length=es.size:=by
  have:=pm.length_eq;rw [RX,SA] at this;exact this
 have es'sz:(((bQ o (m + 1)).map (·.2)).toArray.filterMap (es[·]?)).size=es.size:=by
  rw [<- TU,esL,RX,RX,len]
 have rel:t.relaid (es.map (·.1)) wanted=some ({ mask:=m,place:=((bQ o (m + 1)).map (·.1)).toArray,dummies:=#[],finger:=t.finger,led:=t.led,moves:=t.movedTo m,plain:=t.plain },((bQ o (m + 1)).map (·.2)).toArray):=by
  unfold relaid laid;rw [hm];show (layClean m (es.map (·.1))).bind _=_;rw [e];rfl
 have psz:((bQ o (m + 1)).map (·.1)).toArray.size=es.size:=by rw [SD,RX,len]
 have T:TB { mask:=m,place:=((bQ o (m + 1)).map (·.1)).toArray,dummies:=#[],finger:=t.finger,led:=t.led,moves:=t.movedTo m,plain:=t.plain } (((bQ o (m + 1)).map (·.2)).toArray.filterMap (es[·]?)):=by
  have at_:∀ (i j:Nat),((bQ o (m + 1)).map (·.1)).toArray[i]?=some j->∃ k,(bQ o (m + 1))[i]?=some (j,k):=fun i j h=>by
   rw [WN,S7] at h;cases z:(bQ o (m + 1))[i]? with
   | none=>rw [z] at h;cases h
   | some p =>
    rw [z] at h;obtain ⟨a,b⟩:=p;cases h;exact ⟨b,rfl⟩
  have inj:∀ j k:Nat,o[j]?=some (some k)->j<=m->In { mask:=m,place:=((bQ o (m + 1)).map (·.1)).toArray,dummies:=#[],finger:=t.finger,led:=t.led,moves:=t.movedTo m,plain:=t.plain } j:=fun j k h hj=>by
   obtain ⟨i,hi⟩:=U7 (rY.mpr ⟨WH hj,h⟩);refine ⟨i,?_⟩;show ((bQ o (m + 1)).map (·.1)).toArray[i]?=some j;rw [WN,S7,hi];rfl
  refine ⟨by rw [es'sz];exact psz,FJ o (m + 1),fun i j h=>?_,rfl,hf,ho,by show _<=m;rw [psz];exact hl,fun i j f h hf'=>?_⟩
  ·obtain ⟨k,hk⟩:=at_ i j h;have:=(rY.mp (SR hk)).1;show j<=m;lia
  ·obtain ⟨k,hk⟩:=at_ i j h;have mem:=rY.mp (SR hk);have f1:(((bQ o (m + 1)).map (·.2)).toArray.filterMap (es[·]?)).toList[i]?=some f:=by rw [Sk];exact hf'
   rw [esL,S7,S7,hk] at f1;have f2:es.getD k (0,.none)=f:=Option.some.inj f1;have Bs:k∈(bQ o (m + 1)).map (·.2):=S0.mpr ⟨_,SR hk,rfl⟩;have f3:=hg k Bs;rw [f2] at f3;have f4:(es.map (·.1)).toList[k]?=some f.1:=by
    rw [Sk,Array.getElem?_map,f3];rfl
   obtain ⟨n,c1,c2,c3⟩:=O.rc j k f.1 mem.2 f4;refine ⟨n,c1,c2,fun n' l=>?_⟩
   obtain ⟨k',z⟩:=c3 n' l;exact inj _ k' z (w6 m f.1 n')
 refine ⟨_,_,?_,T,?_,rfl,rfl,rfl⟩
 ·unfold relayAll;rw [rel];dsimp only;rw [if_pos];rw [S4];refine ⟨?_,T.fits⟩;unfold coversAll;exact List.isPerm_iff.mpr pm
 ·rw [esL];have p2:=pm.map fun k=>es.getD k (0,.none)
  refine p2.trans (List.Perm.of_eq ?_);refine To fun i=>?_
  rw [S7]
  by_cases q:i < es.size
  ·rw [Sv q,Sk,TH q];show some (es.getD i (0,.none))=_;rw [U5,TH q];rfl
  ·rw [Sn (by rw [SA];lia),Sk,VB (by lia)]
   rfl
def KW:full 16=true:=by decide +kernel
def KL:full 64=true:=by decide +kernel
def HB:full 256=true:=by decide +kernel
def z7:∀ n,n<=127->[8,16,32,64,128,256,512].contains (sizeAbove (grown n))=true/\n < sizeAbove (grown n):=by decide +kernel
def K7 {n:Nat}(hn:n<=127):full (sizeAbove (grown n) - 1 + 1)=true/\(sizeAbove (grown n) - 1) % 2=1/\n<=sizeAbove (grown n) - 1:=by
 obtain ⟨h1,h2⟩:=z7 n hn;generalize sizeAbove (grown n)=z at *;have:z=8\/z=16\/z=32\/z=64\/z=128\/z=256\/z=512:=by simpa using h1
 rcases this with rfl | rfl | rfl | rfl | rfl | rfl | rfl
 ·exact ⟨Fe,rfl,by lia⟩
 ·exact ⟨KW,rfl,by lia⟩
 ·exact ⟨JO,rfl,by lia⟩
 ·exact ⟨KL,rfl,by lia⟩
 ·exact ⟨HG,rfl,by lia⟩
 ·exact ⟨HB,rfl,by lia⟩
 ·exact ⟨GH,rfl,by lia⟩
section
variable {prog:Program}{w:World}{K:Type} [DecidableEq K]{knd:KeyKind prog w K}{A:Around}{E:XE}{s:Shared}{t:SetTable}{es:Array Ent}
def uL {p:Nat}(hp:p<=es.size)(e f:Ent):f∈(insertAt es p e).toList↔f=e\/f∈es.toList:=by
 constructor
 ·intro h;obtain ⟨i,hi⟩:=U7 h;rw [Sk,ig hp] at hi
  by_cases c:i < p
  ·rw [if_pos c] at hi;exact .inr (SR (by rw [Sk];exact hi))
  ·rw [if_neg c] at hi
   by_cases c2:i=p
   ·rw [if_pos c2] at hi;exact .inl (Option.some.inj hi).symm
   ·rw [if_neg c2] at hi;exact .inr (SR (by rw [Sk];exact hi))
 ·intro h;rcases h with rfl | h
  ·refine SR (i:=p) ?_;rw [Sk,ig hp,if_neg (Sf _),if_pos rfl]
  ·obtain ⟨i,hi⟩:=U7 h;rw [Sk] at hi
   by_cases c:i < p
   ·refine SR (i:=i) ?_;rw [Sk,ig hp,if_pos c,hi]
   ·refine SR (i:=i + 1) ?_;rw [Sk,ig hp,if_neg (by lia),if_neg (by lia),Nat.add_sub_cancel,hi]
def Fj:∀ n,n<=127->n * 5 < (sizeAbove (grown n) - 1) * 3/\sizeAbove (grown n)<=512:=by decide +kernel
end
end SM
namespace L2
open PySem PySem.Spec PyProof.Rows
section
variable {X:Cx}
theorem vo:∀ {xs:List V}{us:XU},Vals xs us->∀ (i:Nat)(u:Value),us[i]?=some u->∃ x,xs[i]?=some x/\RelV x u
 | _,_,.nil,i,u,h=>by cases h
 | _,_,.cons h r,0,u,e=>by
  cases e;exact ⟨_,rfl,h⟩
 | _,_,.cons h r,i + 1,u,e=>vo r i u e
end
end L2
namespace L2
open PySem PySem.Spec PyProof.Rows PySem.SeqAt PySem.W
mutual
inductive lU (K:XO)(H:Hp):V->PyData->Prop
 | br:lU K H .br .none
 | bl (b:Bool):lU K H (.bl b) (.bool b)
 | int (i:Int):lU K H (.int i) (.int i)
 | str (x:Str):lU K H (.str x) (.str x)
 | lst {a:Addr}{xs:List V}{ds:XS}:bF K H a xs->sN K H xs ds->lU K H (.ref a) (.list ds)
 | tup {a:Addr}{xs:List V}{ds:XS}:cJ K H a xs->sN K H xs ds->lU K H (.ref a) (.tuple ds)
inductive sN (K:XO)(H:Hp):List V->XS->Prop
 | nil:sN K H [] []
 | cons {x:V}{d:PyData}{xs:List V}{ds:XS}:lU K H x d->sN K H xs ds->sN K H (x::xs) (d::ds)
end
section
variable {X:Cx}{pins:XH}{U:St}{H:Hp}{s:Shared}
mutual
theorem Inv.reads (I:Inv X pins U H s):∀ {v:V}{d:PyData}{u:Value},lU X.K H v d->RelV v u->∃ as,Reads s.heap u d as
 | _,_,_,.br,r=>by cases r;exact ⟨_,.none⟩
 | _,_,_,.bl b,r=>by cases r;exact ⟨_,.bool b⟩
 | _,_,_,.int i,r=>by obtain ⟨t,rfl⟩:=r;exact ⟨_,.int i t⟩
 | _,_,_,.str x,r=>by obtain ⟨t,rfl⟩:=r;exact ⟨_,.str x t⟩
 | _,_,_,.lst hq hs,r=>by
  cases r;obtain ⟨its,rv,p,_⟩:=I.list hq;obtain ⟨as,ra⟩:=I.readsAll hs rv;obtain ⟨o,ho,hc,n,hd⟩:=p.isList;exact ⟨_,.list ho hc hd (by simpa using ra)⟩
 | _,_,_,.tup hq hs,r=>by
  cases r;obtain ⟨its,rv,p,_⟩:=I.tuple hq;obtain ⟨as,ra⟩:=I.readsAll hs rv;obtain ⟨o,ho,hc,n,hd⟩:=(show s.heap.IsTuple _ its.toArray from p)
  exact ⟨_,.tuple ho hc hd (by simpa using ra)⟩
theorem Inv.readsAll (I:Inv X pins U H s):∀ {vs:List V}{ds:XS}{us:XU},sN X.K H vs ds->Vals vs us->∃ as,ReadsAll s.heap us ds as
 | _,_,_,.nil,r=>by cases r;exact ⟨_,.nil⟩
 | _,_,_,.cons h hs,r=>by
  cases r with
  | cons r1 r2 =>
   obtain ⟨as,ra⟩:=I.reads h r1;obtain ⟨bs,rb⟩:=I.readsAll hs r2;exact ⟨_,.cons ra rb⟩
end
inductive Jo (K:XO)(neg:Bool) (x:V) (y:V)(H:Hp)(Q:VK):Prop
 | mk:∀ d e,(lU K H x d)->(lU K H y e)->(shaped d=true)->(shaped e=true)->(noMix d e=true)->(Q (.bl (if neg then !same d e else same d e)) H)->Jo K neg x y H Q
def HX (K:XO)(neg:Bool):R2:=fun x y H Q=>Jo K neg x y H Q
def Ms (hu:X.A.units + 64 < cLine):bO X (compareOp .Eq) (HX X.K false):=by
 intro pins s U H x y v u Q I rx ry h;obtain ⟨d,e,h1,h2,s1,s2,nm,q⟩:=h;obtain ⟨as,ra⟩:=I.reads h1 rx;obtain ⟨bs,rb⟩:=I.reads h2 ry;exact eq_dataH_same ra rb s1 s2 hu nm ⟨.bl _,H,I,rfl,q⟩
def Og (hu:X.A.units + 64 < cLine):bO X (compareOp .NotEq) (HX X.K true):=by
 intro pins s U H x y v u Q I rx ry h;obtain ⟨d,e,h1,h2,s1,s2,nm,q⟩:=h;obtain ⟨as,ra⟩:=I.reads h1 rx;obtain ⟨bs,rb⟩:=I.reads h2 ry;exact ne_dataH_same ra rb s1 s2 hu nm ⟨.bl _,H,I,rfl,q⟩
end
end L2
namespace L2
open PySem PySem.Spec PyProof.Rows PySem.W Builtin Builtin.ObjectAttr
section
variable {prog:Program}{w:World}{A:Around}{E:XE}{s:Shared}{K:Frag}{x C:Addr}{ox:Obj}{od:Option Obj}{name:Str}{v:Value}{tk:Tok}{fill expr:Bool}
end
section
variable {X:Cx}{pins:XH}{U:St}{H:Hp}{s:Shared}{a C:Addr}
end
section
variable {X:Cx}{pins:XH}{U:St}{H:Hp}{s:Shared}{a C:Addr}{dd:XT}
def Hg:cF X (.builtin "isinstance") (fun xs H Q=>∃ x c t b,xs=[x,c]/\gw X.K H x t/\(∀ u,RelV c u->kitOne X.K t u=some b)/\Q (.bl b) H):=by
 intro pins s U H xs us Q I r h;obtain ⟨x,c,t,b,rfl,ty,k,q⟩:=h;obtain ⟨u1,u2,rfl,ru1,ru2⟩:=r.two;exact Gd I ru1 ty (k u2 ru2) fun tk=>⟨.bl b,H,I.tok tk,rfl,q⟩
variable {o e value:Expr}{f y:Str}{pos pos' yp apos:Pos}{ta tv:TE}{es:XY}{t:TA}
end
end L2
namespace L2
open PySem PySem.Spec PyProof.Rows
def cj {a:Addr}(h:H a=none):ai H (upd H a o):=fun b u e=>by rw [ak (gj e h)];exact e
end L2
namespace Dv
open PySem L2 PySem.W
def aZ:Key->PyData
 | .inl i=>.int i
 | .inr x=>.str x
def cg (K:Frag)(H:Hp)(a:Addr)(xs:List V):Prop:=Rd H a (.lst xs)\/∃ (its:XU) (n:Nat),K.lookup a=some { cls:=.type "list",data:=.seq its.toArray n }/\its.length<=sizeLine/\Vals xs its
def Rd.mono {a:Addr}(s:ai H H'):Rd H a u->Rd H' a u
 | .inl h=>.inl (s _ _ h)
 | .inr ⟨o,h⟩=>.inr ⟨o,s _ _ h⟩
theorem cg.mono {a:Addr}(s:ai H H'):cg K H a xs->cg K H' a xs
 | .inl h=>.inl (Rd.mono s h)
 | .inr h=>.inr h
def cg.sq {a:Addr}(h:cg K H a xs):bF K H a xs:=by
 rcases h with h | ⟨its,n,hk,hl,r⟩
 ·exact .inl h
 ·exact .inr ⟨_,its.toArray,n,hk,rfl,rfl,rfl,by rw [SD];exact hl,by simpa using r⟩
theorem cg.get {a:Addr}(I:L2.Inv X pins U H s)(h:cg X.K H a xs):xs.length<=sizeLine/\∃ its n,Vals xs its/\s.heap.get? a=some { cls:=.type "list",data:=.seq its.toArray n }:=by
 rcases h with h | ⟨its,n,hk,hl,r⟩
 ·obtain ⟨z,its,n,r,e⟩:=h.ok I.hok;exact ⟨z,its,n,r,e⟩
 ·exact ⟨by rw [r.length];exact hl,its,n,r,I.g9 a _ hk⟩
mutual
inductive Rp (K:Frag)(H:Hp):V->PyData->Prop
 | br:Rp K H .br .none
 | bl (b:Bool):Rp K H (.bl b) (.bool b)
 | int (i:Int):Rp K H (.int i) (.int i)
 | str (x:Str):Rp K H (.str x) (.str x)
 | lst {a:Addr}{xs:List V}{ds:XS}:cg K H a xs->aA K H xs ds->Rp K H (.ref a) (.list ds)
 | tup {a:Addr}{xs:List V}{ds:XS}:H a=some (.tup xs)->aA K H xs ds->Rp K H (.ref a) (.tuple ds)
 | dk {a:Addr}{kvs:List (Key×V)}{ds:XA}:H a=some (.dK kvs)->eX K H kvs ds->Rp K H (.ref a) (.dict ds)
 | dt {a:Addr}{kvs:List (List Key×V)}{ds:XA}:H a=some (.dT kvs)->eW K H kvs ds->Rp K H (.ref a) (.dict ((.none,.none)::ds))
inductive aA (K:Frag)(H:Hp):List V->XS->Prop
 | nil:aA K H [] []
 | cons {x:V}{d:PyData}{xs:List V}{ds:XS}:Rp K H x d->aA K H xs ds->aA K H (x::xs) (d::ds)
inductive eX (K:Frag)(H:Hp):List (Key×V)->List (PyData×PyData)->Prop
 | nil:eX K H [] []
 | cons {k:Key}{v:V}{d:PyData}{kvs:List (Key×V)}{ds:XA}:Rp K H v d->eX K H kvs ds->eX K H ((k,v)::kvs) ((aZ k,d)::ds)
inductive eW (K:Frag)(H:Hp):List (List Key×V)->List (PyData×PyData)->Prop
 | nil:eW K H [] []
 | cons {k:List Key}{v:V}{d:PyData}{kvs:List (List Key×V)}{ds:XA}:Rp K H v d->eW K H kvs ds->eW K H ((k,v)::kvs) ((.tuple (k.map aZ),d)::ds)
end
mutual
theorem Rp.mono (s:ai H H'):∀ {v:V}{d:PyData},Rp K H v d->Rp K H' v d
 | _,_,.br=>.br
 | _,_,.bl b=>.bl b
 | _,_,.int i=>.int i
 | _,_,.str x=>.str x
 | _,_,.lst h r=>.lst (cg.mono s h) (r.mono s)
 | _,_,.tup h r=>.tup (s _ _ h) (r.mono s)
 | _,_,.dk h r=>.dk (s _ _ h) (r.mono s)
 | _,_,.dt h r=>.dt (s _ _ h) (r.mono s)
theorem aA.mono (s:ai H H'):∀ {vs:List V}{ds:XS},aA K H vs ds->aA K H' vs ds
 | _,_,.nil=>.nil
 | _,_,.cons h r=>.cons (h.mono s) (r.mono s)
theorem eX.mono (s:ai H H'):∀ {kvs:List (Key×V)}{ds:XA},eX K H kvs ds->eX K H' kvs ds
 | _,_,.nil=>.nil
 | _,_,.cons h r=>.cons (h.mono s) (r.mono s)
theorem eW.mono (s:ai H H'):∀ {kvs:List (List Key×V)}{ds:XA},eW K H kvs ds->eW K H' kvs ds
 | _,_,.nil=>.nil
 | _,_,.cons h r=>.cons (h.mono s) (r.mono s)
end
def nd:PyData->Bool
 | .list ds=>nds ds
 | .tuple ds=>nds ds
 | .dict _=>false
 | _=>true
where nds:XS->Bool
 | []=>true
 | d::ds=>nd d && nds ds
mutual
theorem Rp.pJ:∀ {v:V}{d:PyData},Rp K H v d->nd d=true->lU K H v d
 | _,_,.br,_=>.br
 | _,_,.bl b,_=>.bl b
 | _,_,.int i,_=>.int i
 | _,_,.str x,_=>.str x
 | _,_,.lst h r,e=>.lst h.sq (r.pJ (by rw [nd] at e;exact e))
 | _,_,.tup h r,e=>.tup (cJ.of h) (r.pJ (by rw [nd] at e;exact e))
 | _,_,.dk _ _,e=>by rw [nd] at e;cases e
 | _,_,.dt _ _,e=>by rw [nd] at e;cases e
theorem aA.pJ:∀ {vs:List V}{ds:XS},aA K H vs ds->nd.nds ds=true->sN K H vs ds
 | _,_,.nil,_=>.nil
 | _,_,.cons h r,e=>by
  rw [nd.nds,S4] at e;exact .cons (h.pJ e.1) (r.pJ e.2)
end
def lG (H H':Hp):Prop:=∀ a xs,H a=some (.tup xs)->H' a=some (.tup xs)
mutual
theorem Rp.lf (s:lG H H'):∀ {v:V}{d:PyData},Rp K H v d->Dv.lf d=true->Rp K H' v d
 | _,_,.br,_=>.br
 | _,_,.bl b,_=>.bl b
 | _,_,.int i,_=>.int i
 | _,_,.str x,_=>.str x
 | _,_,.lst h r,e=>by rw [Dv.lf] at e;cases e
 | _,_,.tup h r,e=>by
  rw [Dv.lf] at e;exact .tup (s _ _ h) (r.lf s e)
 | _,_,.dk _ _,e=>by rw [Dv.lf] at e;cases e
 | _,_,.dt _ _,e=>by rw [Dv.lf] at e;cases e
theorem aA.lf (s:lG H H'):∀ {vs:List V}{ds:XS},aA K H vs ds->Dv.lf.lfs ds=true->aA K H' vs ds
 | _,_,.nil,_=>.nil
 | _,_,.cons h r,e=>by
  rw [Dv.lf.lfs,S4] at e;exact .cons (h.lf s e.1) (r.lf s e.2)
end
section
variable {K:Frag}{H:Hp}
theorem aA.len:∀ {vs:List V}{ds:XS},aA K H vs ds->vs.length=ds.length
 | _,_,.nil=>rfl
 | _,_,.cons _ r=>congrArg (· + 1) r.len
theorem aA.get:∀ {vs:List V}{ds:XS}{i:Nat}{d:PyData},aA K H vs ds->ds[i]?=some d->∃ v,vs[i]?=some v/\Rp K H v d
 | _,_,_,_,.nil,e=>by simp at e
 | _,_,0,_,.cons h _,e=>by simp at e;subst e;exact ⟨_,rfl,h⟩
 | _,_,i + 1,_,.cons _ r,e=>r.get (i:=i) (by simpa using e)
theorem aA.NU:∀ {vs:List V}{ds:XS}{i:Nat}{v:V},aA K H vs ds->vs[i]?=some v->∃ d,ds[i]?=some d/\Rp K H v d
 | _,_,_,_,.nil,e=>by simp at e
 | _,_,0,_,.cons h _,e=>by simp at e;subst e;exact ⟨_,rfl,h⟩
 | _,_,i + 1,_,.cons _ r,e=>r.NU (i:=i) (by simpa using e)
theorem aA.app:∀ {vs us:List V}{ds es:XS},aA K H vs ds->aA K H us es->aA K H (vs++us) (ds++es)
 | _,_,_,_,.nil,s=>s
 | _,_,_,_,.cons h r,s=>.cons h (r.app s)
def aA.snoc (r:aA K H vs ds)(h:Rp K H v d):aA K H (vs++[v]) (ds++[d]):=r.app (.cons h .nil)
theorem aA.take:∀ {vs:List V}{ds:XS} (n:Nat),aA K H vs ds->aA K H (vs.take n) (ds.take n)
 | _,_,0,_=>.nil
 | _,_,_ + 1,.nil=>.nil
 | _,_,n + 1,.cons h r=>.cons h (r.take n)
theorem aA.drop:∀ {vs:List V}{ds:XS} (n:Nat),aA K H vs ds->aA K H (vs.drop n) (ds.drop n)
 | _,_,0,r=>r
 | _,_,_ + 1,.nil=>.nil
 | _,_,n + 1,.cons _ r=>r.drop n
theorem aA.set (h:Rp K H v d):∀ {vs:List V}{ds:XS} (i:Nat),aA K H vs ds->aA K H (vs.set i v) (ds.set i d)
 | _,_,_,.nil=>.nil
 | _,_,0,.cons _ r=>.cons h r
 | _,_,i + 1,.cons g r=>.cons g (r.set h i)
theorem aA.rev:∀ {vs:List V}{ds:XS},aA K H vs ds->aA K H vs.reverse ds.reverse
 | _,_,.nil=>.nil
 | _,_,.cons h r=>by rw [List.reverse_cons,List.reverse_cons];exact r.rev.snoc h
end
inductive eK (K:Frag)(H Hm:Hp):List V->XS->XW->Prop
 | nil:eK K H Hm [] [] []
 | lB {x:V}{d:PyData}{xs:List V}{ds:XS}{fp:XW}:Bv d=false->Rp K Hm x d->eK K H Hm xs ds fp->eK K H Hm (x::xs) (d::ds) fp
 | own {b:Addr}{ys:List V}{es:XS}{xs:List V}{ds:XS}{fp:XW}:H b=some (.lst ys)->aA K Hm ys es->b∉fp->eK K H Hm xs ds fp->eK K H Hm (.ref b::xs) (.list es::ds) (b::fp)
inductive jC (K:Frag)(H Hm:Hp):List (List Key×V)->List (PyData×PyData)->XW->Prop
 | nil:jC K H Hm [] [] []
 | own {k:List Key}{b:Addr}{ys:List V}{es:XS}{kvs:List (List Key×V)}{ds:XA}{fp:XW}:H b=some (.lst ys)->aA K Hm ys es->b∉fp->jC K H Hm kvs ds fp->jC K H Hm ((k,.ref b)::kvs) ((.tuple (k.map aZ),.list es)::ds) (b::fp)
inductive Own (K:Frag)(H Hm:Hp):Kd->V->PyData->XW->Prop
 | sh {v:V}{d:PyData}:Rp K Hm v d->Own K H Hm .sh v d []
 | ow {p:Bool}{a:Addr}{xs:List V}{ds:XS}:H a=some (.lst xs)->aA K Hm xs ds->Own K H Hm (.ow p) (.ref a) (.list ds) [a]
 | dp {p:Bool}{a:Addr}{xs:List V}{ds:XS}{fp:XW}:H a=some (.lst xs)->a∉fp->eK K H Hm xs ds fp->Own K H Hm (.dp p) (.ref a) (.list ds) (a::fp)
 | dk {p:Bool}{a:Addr}{kvs:List (Key×V)}{ds:XA}:H a=some (.dK kvs)->eX K Hm kvs ds->Own K H Hm (.dk p) (.ref a) (.dict ds) [a]
 | dt {p:Bool}{a:Addr}{kvs:List (List Key×V)}{ds:XA}:H a=some (.dT kvs)->eW K Hm kvs ds->Own K H Hm (.dt p) (.ref a) (.dict ((.none,.none)::ds)) [a]
 | st {p:Bool}{a:Addr}{kvs:List (List Key×V)}{ds:XA}{fp:XW}:H a=some (.dT kvs)->a∉fp->jC K H Hm kvs ds fp->Own K H Hm (.st p) (.ref a) (.dict ((.none,.none)::ds)) (a::fp)
section
variable {K:Frag}{H H' Hm Hm':Hp}
def eK.step (s:ai Hm Hm'){xs:List V}{ds:XS}{fp:XW}(i:eK K H Hm xs ds fp):(∀ a∈fp,H' a=H a)->eK K H' Hm' xs ds fp:=by
 induction i with
 | nil=>exact fun _=>.nil
 | lB e r _ ih=>exact fun h=>.lB e (r.mono s) (ih h)
 | own e r n _ ih=>exact fun h=>.own ((h _ RT).trans e) (r.mono s) n (ih fun a ha=>h a (RY _ ha))
def eK.live (i:eK K H Hm xs ds fp):∀ a∈fp,∃ ys,H a=some (.lst ys):=by
 induction i with
 | nil=>exact fun _ h=>absurd h Se
 | lB _ _ _ ih=>exact ih
 | own e _ _ _ ih =>
  intro a h;rcases S2.mp h with rfl | h
  ·exact ⟨_,e⟩
  ·exact ih a h
def jC.step (s:ai Hm Hm'){xs:List (List Key×V)}{ds:XA}{fp:XW}(i:jC K H Hm xs ds fp):(∀ a∈fp,H' a=H a)->jC K H' Hm' xs ds fp:=by
 induction i with
 | nil=>exact fun _=>.nil
 | own e r n _ ih=>exact fun h=>.own ((h _ RT).trans e) (r.mono s) n (ih fun a ha=>h a (RY _ ha))
def jC.live (i:jC K H Hm xs ds fp):∀ a∈fp,∃ ys,H a=some (.lst ys):=by
 induction i with
 | nil=>exact fun _ h=>absurd h Se
 | own e _ _ _ ih =>
  intro a h;rcases S2.mp h with rfl | h
  ·exact ⟨_,e⟩
  ·exact ih a h
theorem Own.step {k:Kd}{v:V}{d:PyData}{fp:XW}(o:Own K H Hm k v d fp)(s:ai Hm Hm')(h:∀ a∈fp,H' a=H a):Own K H' Hm' k v d fp:=by
 cases o with
 | sh r=>exact .sh (r.mono s)
 | ow e r=>exact .ow ((h _ RT).trans e) (r.mono s)
 | dp e n t=>exact .dp ((h _ RT).trans e) n (t.step s fun a ha=>h a (RY _ ha))
 | dk e r=>exact .dk ((h _ RT).trans e) (r.mono s)
 | dt e r=>exact .dt ((h _ RT).trans e) (r.mono s)
 | st e n t=>exact .st ((h _ RT).trans e) n (t.step s fun a ha=>h a (RY _ ha))
def qW (u:HO):Prop:=∀ xs,u≠.tup xs
def kr:qW (.lst xs):=fun _ z=>by cases z
def vZ:qW (.dK xs):=fun _ z=>by cases z
def qL:qW (.dT xs):=fun _ z=>by cases z
theorem Own.live (o:Own K H Hm k v d fp):∀ a∈fp,∃ u,H a=some u/\qW u:=by
 intro a ha;cases o with
 | sh _=>cases ha
 | ow e _=>rw [RZ.mp ha];exact ⟨_,e,by first | exact kr | exact vZ | exact qL⟩
 | dp e _ t =>
  rcases S2.mp ha with rfl | ha
  ·exact ⟨_,e,by first | exact kr | exact vZ | exact qL⟩
  ·obtain ⟨ys,e⟩:=t.live a ha;exact ⟨_,e,by first | exact kr | exact vZ | exact qL⟩
 | dk e _=>rw [RZ.mp ha];exact ⟨_,e,by first | exact kr | exact vZ | exact qL⟩
 | dt e _=>rw [RZ.mp ha];exact ⟨_,e,by first | exact kr | exact vZ | exact qL⟩
 | st e _ t =>
  rcases S2.mp ha with rfl | ha
  ·exact ⟨_,e,by first | exact kr | exact vZ | exact qL⟩
  ·obtain ⟨ys,e⟩:=t.live a ha;exact ⟨_,e,by first | exact kr | exact vZ | exact qL⟩
def eK.Ry (s:ai Hm Hm')(i:eK K H Hm xs ds fp):(∀ a∈fp,Hm' a=H a)->aA K Hm' xs ds:=by
 induction i with
 | nil=>exact fun _=>.nil
 | lB _ r _ ih=>exact fun h=>.cons (r.mono s) (ih h)
 | own e r _ _ ih=>exact fun h=>.cons (.lst (.inl (.inl ((h _ RT).trans e))) (r.mono s)) (ih fun a ha=>h a (RY _ ha))
def Own.rp (o:Own K H Hm k v d fp)(hk:k.rd=true)(s:ai Hm Hm')(h:∀ a∈fp,Hm' a=H a):Rp K Hm' v d:=by
 cases o with
 | sh r=>exact r.mono s
 | ow e r=>exact .lst (.inl (.inl ((h _ RT).trans e))) (r.mono s)
 | dp e _ t=>exact .lst (.inl (.inl ((h _ RT).trans e))) (t.Ry s fun a ha=>h a (RY _ ha))
 | dk e r=>exact .dk ((h _ RT).trans e) (r.mono s)
 | dt e r=>exact .dt ((h _ RT).trans e) (r.mono s)
 | st _ _ _=>cases hk
def aA.yN (s:lG Hm Hm')(r:aA K Hm xs ds)(h:ds.all Dv.lf=true):aA K Hm' xs ds:=r.lf s (by rw [vj];exact h)
theorem eK.flat (s:lG Hm Hm'):∀ {xs:List V}{ds:XS}{fp:XW},eK K H Hm xs ds fp->(ds.all fun d=>match d with | .list es=>es.all Dv.lf | d=>Dv.lf d)=true->eK K H Hm' xs ds fp
 | _,_,_,.nil,_=>.nil
 | _,_,_,.lB (d:=d) e r t,h=>by
  rw [SG,S4] at h;refine .lB e (r.lf s ?_) (t.flat s h.2);have h1:=h.1;cases d <;> first | exact h1 | cases e
 | _,_,_,.own e r n t,h=>by
  rw [SG,S4] at h;exact .own e (r.yN s h.1) n (t.flat s h.2)
theorem eX.flat (s:lG Hm Hm'):∀ {kvs:List (Key×V)}{ds:XA},eX K Hm kvs ds->(ds.all fun kv=>Dv.lf kv.2)=true->eX K Hm' kvs ds
 | _,_,.nil,_=>.nil
 | _,_,.cons r t,h=>by
  rw [SG,S4] at h;exact .cons (r.lf s h.1) (t.flat s h.2)
theorem eW.flat (s:lG Hm Hm'):∀ {kvs:List (List Key×V)}{ds:XA},eW K Hm kvs ds->(ds.all fun kv=>Dv.lf kv.2)=true->eW K Hm' kvs ds
 | _,_,.nil,_=>.nil
 | _,_,.cons r t,h=>by
  rw [SG,S4] at h;exact .cons (r.lf s h.1) (t.flat s h.2)
theorem Own.flat (o:Own K H Hm k v d fp)(s:lG Hm Hm')(h:Dv.flat k d=true):Own K H Hm' k v d fp:=by
 cases o with
 | sh r=>exact .sh (r.lf s h)
 | ow e r=>exact .ow e (r.yN s h)
 | dp e n t=>exact .dp e n (t.flat s h)
 | dk e r=>exact .dk e (r.flat s h)
 | dt e r =>
  have h:(Dv.lf .none && _)=true:=h;rw [S4] at h;exact .dt e (r.flat s h.2)
 | st _ _ _=>cases h
end
def OE (o p:Option HO):Prop:=o=p\/(p=none/\∃ xs,o=some (.tup xs))
def OE.rfl':OE o o:=.inl rfl
def OE.trans (h:OE a b)(k:OE b c):OE a c:=by
 rcases h with rfl | ⟨rfl,h⟩
 ·exact k
 ·rcases k with rfl | ⟨rfl,_⟩
  ·exact .inr ⟨rfl,h⟩
  ·exact .inr ⟨rfl,h⟩
def OE.off {a:Addr}(h:OE (Hm a) p)(hp:p=none)(s:ai Hm H)(hu:H a=some u)(nt:qW u):Hm a=none:=by
 rcases h with e | ⟨_,xs,e⟩
 ·rw [e,hp]
 ·have:=s _ _ e;rw [hu] at this;cases this;exact absurd rfl (nt xs)
structure Gh where
 H0:Hp
 eY:Hp
 pins:List (Nat×Addr)
def Gh.M (g:Gh):XW:=g.pins.map (·.2)
structure Rl (K:Frag)(g:Gh)(E:En)(U:St)(H Hm:Hp)(F:Nat->XW):Prop where
 len:E.length=U.length
 sub:ai Hm H
 slot:∀ i k d,E[i]?=some (some (k,d))->∃ v,U[i]?=some (some v)/\Own K H Hm k v d (F i)
 off:∀ i a,a∈F i->Hm a=none
 bJ:∀ i a,a∈F i->∃ u,H a=some u/\qW u
 aQ:∀ i j a,a∈F i->a∈F j->i=j
 fr:∀ p o,p∉g.M->g.H0 p=some o->H p=some o
 new:∀ i a,a∈F i->a∈g.M\/g.H0 a=none
 pin:∀ q∈g.pins,U[q.1]?=some (some (.ref q.2))/\∃ ds,E[q.1]?=some (some (.ow true,.list ds))
 old:∀ a,g.H0 a≠none->OE (Hm a) (g.eY a)
structure Tm (K:Frag)(g:Gh)(F:Nat->XW)(H Hm:Hp)(k:Kd) (v:V)(d:PyData)(fp:XW):Prop where
 own:Own K H Hm k v d fp
 off:∀ a∈fp,Hm a=none
 aQ:∀ a∈fp,∀ i,a∉F i
 new:∀ a∈fp,g.H0 a=none
section
variable {K:Frag}{g:Gh}{E:En}{U:St}{H H' Hm Hm':Hp}{F:Nat->XW}
def Rl.grow (R:Rl K g E U H Hm F)(h:ai H H')(s:ai Hm Hm')(b:ai Hm' H')(o:∀ i a,a∈F i->Hm' a=none)(od:∀ a,g.H0 a≠none->OE (Hm' a) (Hm a)):Rl K g E U H' Hm' F where
 len:=R.len
 sub:=b
 slot:=fun i k d e=>by
  obtain ⟨v,h1,h2⟩:=R.slot i k d e;refine ⟨v,h1,h2.step s fun a ha=>?_⟩
  obtain ⟨u,hu,_⟩:=h2.live a ha;rw [hu];exact h _ _ hu
 off:=o
 bJ:=fun i a ha=>let ⟨u,hu,n⟩:=R.bJ i a ha;⟨u,h _ _ hu,n⟩
 aQ:=R.aQ
 fr:=fun p o hp ho=>h _ _ (R.fr p o hp ho)
 new:=R.new
 pin:=R.pin
 old:=fun a ha=>(od a ha).trans (R.old a ha)
def Rl.more (R:Rl K g E U H Hm F)(s:ai Hm Hm')(b:ai Hm' H)(o:∀ i a,a∈F i->Hm' a=none)(od:∀ a,g.H0 a≠none->OE (Hm' a) (Hm a)):Rl K g E U H Hm' F:=R.grow (ai.refl _) s b o od
def Rl.CJ (R:Rl K g E U H Hm F)(hq:q∈g.pins):F q.1=[q.2]:=by
 obtain ⟨h1,ds,h2⟩:=R.pin q hq;obtain ⟨v,h3,h4⟩:=R.slot _ _ _ h2;rw [h1] at h3;cases h3;generalize F q.1=fi at h4;cases h4;rfl
def Rl.notM (R:Rl K g E U H Hm F){i:Nat}(e:E[i]?=some (some (k,d)))(hk:k.pin=false){a:Addr}(ha:a∈F i):g.H0 a=none:=by
 rcases R.new i a ha with m | m
 ·obtain ⟨q,hq,rfl⟩:=S0.mp m;have:=R.aQ i q.1 q.2 ha (by rw [R.CJ hq];exact RT)
  obtain ⟨_,ds,h2⟩:=R.pin q hq;rw [<- this,e] at h2;cases h2;cases hk
 ·exact m
def Rl.PY (R:Rl K g E U H Hm F){a:Addr}(ha:a∈g.M):H a≠none:=fun z=>by
 obtain ⟨q,hq,rfl⟩:=S0.mp ha;obtain ⟨u,hu,_⟩:=R.bJ q.1 q.2 (by rw [R.CJ hq];exact RT)
 rw [z] at hu;cases hu
def Rl.uz (R:Rl K g E U H Hm F){a:Addr}(ha:g.H0 a≠none):H a≠none:=fun z=>by
 by_cases m:a∈g.M
 ·exact R.PY m z
 ·cases e:g.H0 a with
  | none=>exact ha e
  | some o=>rw [R.fr a o m e] at z;cases z
def Rl.fresh (R:Rl K g E U H Hm F){p:Addr}(h:H p=none){i:Nat}:p∉F i:=fun z=>by
 obtain ⟨u,hu,_⟩:=R.bJ i p z;rw [h] at hu;cases hu
def Rl.nA (R:Rl K g E U H Hm F){p:Addr}(h:H p=none):Hm p=none:=by
 cases e:Hm p with
 | none=>rfl
 | some o=>rw [R.sub _ _ e] at h;cases h
def Rl.fF (R:Rl K g E U H Hm F){p:Addr}(h:H p=none):g.H0 p=none:=by
 cases e:g.H0 p with
 | none=>rfl
 | some o=>exact absurd h (R.uz (by rw [e];simp))
end
open Classical in
def lend (Hm H:Hp)(fp:XW):Hp:=fun a=>if a∈fp then H a else Hm a
open Classical in
def back (Hm:Hp)(fp:XW):Hp:=fun a=>if a∈fp then none else Hm a
section
variable {Hm H:Hp}{fp:XW}{a:Addr}
def dR (h:a∈fp):lend Hm H fp a=H a:=by unfold lend;rw [if_pos h]
def cN (h:a∉fp):lend Hm H fp a=Hm a:=by unfold lend;rw [if_neg h]
def jb (h:a∈fp):back Hm fp a=none:=by unfold back;rw [if_pos h]
def dg (h:a∉fp):back Hm fp a=Hm a:=by unfold back;rw [if_neg h]
def ic (n:∀ a∈fp,Hm a=none):ai Hm (lend Hm H fp):=fun b o e=>by
 have:b∉fp:=fun z=>by rw [n b z] at e;cases e
 rw [cN this];exact e
def i9 (s:ai Hm H):ai (lend Hm H fp) H:=fun b o e=>by
 by_cases h:b∈fp
 ·rw [dR h] at e;exact e
 ·rw [cN h] at e;exact s _ _ e
def z4 (s:ai Hm H):ai (back Hm fp) H:=fun b o e=>by
 by_cases h:b∈fp
 ·rw [jb h] at e;cases e
 ·rw [dg h] at e;exact s _ _ e
end
section
variable {K:Frag}{g:Gh}{E:En}{U:St}{H H' Hm Hm':Hp}{F:Nat->XW}{k:Kd}{v:V}{d:PyData}{fp:XW}
def Tm.cE (T:Tm K g F H Hm k v d fp)(R:Rl K g E U H Hm F)(hk:k.fz=true):∃ Hm',ai Hm Hm'/\Rl K g E U H Hm' F/\Rp K Hm' v d:=by
 have up:=ic (Hm:=Hm) (H:=H) T.off;refine ⟨lend Hm H fp,up,R.more up (i9 R.sub) (fun i a ha=>?_) fun a ha=>.inl (cN fun z=>ha (T.new a z)),T.own.rp (by cases k <;> first | rfl | cases hk) up fun a ha=>dR ha⟩
 rw [cN fun z=>T.aQ a z i ha]
 exact R.off i a ha
def aK {α:Type}{l:List α}{i:Nat}{a:α}(h:i < l.length):(l.set i a)[i]?=some a:=by rw [Uh];simp [h]
def ao {α:Type}{l:List α}{i j:Nat}{a:α}(h:i≠j):(l.set i a)[j]?=l[j]?:=by rw [Uh];simp [h]
def Rl.put (R:Rl K g E U H Hm F)(T:Tm K g F H Hm k v d fp){i:Nat}(o:bZ E i=true):Rl K g (E.set i (some (k,d))) (U.set i (some v)) H Hm (fun j=>if j=i then fp else F j) where
 len:=by rw [Sw,Sw];exact R.len
 sub:=R.sub
 slot:=fun j k' d' e=>by
  by_cases c:j=i
  ·subst c;have hl:j < E.length:=by
    rcases Sq j E.length with h | h
    ·exact h
    ·rw [Sn (by rw [Sw];exact h)] at e;cases e
   rw [aK hl] at e;cases e;exact ⟨v,aK (R.len ▸ hl),by rw [if_pos rfl];exact T.own⟩
  ·rw [ao (Ne.symm c)] at e;obtain ⟨u,h1,h2⟩:=R.slot j k' d' e;exact ⟨u,by rw [ao (Ne.symm c)];exact h1,by rw [if_neg c];exact h2⟩
 off:=fun j a ha=>by
  by_cases c:j=i
  ·rw [if_pos c] at ha;exact T.off a ha
  ·rw [if_neg c] at ha;exact R.off j a ha
 bJ:=fun j a ha=>by
  by_cases c:j=i
  ·rw [if_pos c] at ha;exact T.own.live a ha
  ·rw [if_neg c] at ha;exact R.bJ j a ha
 aQ:=fun j l a h1 h2=>by
  by_cases c:j=i
  ·rw [if_pos c] at h1
   by_cases c':l=i
   ·rw [c,c']
   ·rw [if_neg c'] at h2;exact absurd h2 (T.aQ a h1 l)
  ·rw [if_neg c] at h1
   by_cases c':l=i
   ·rw [if_pos c'] at h2;exact absurd h1 (T.aQ a h2 j)
   ·rw [if_neg c'] at h2;exact R.aQ j l a h1 h2
 fr:=R.fr
 new:=fun j a ha=>by
  by_cases c:j=i
  ·rw [if_pos c] at ha;exact .inr (T.new a ha)
  ·rw [if_neg c] at ha;exact R.new j a ha
 pin:=fun q hq=>by
  obtain ⟨h1,ds,h2⟩:=R.pin q hq;have c:i≠q.1:=fun z=>by
   unfold bZ at o;rw [z,h2] at o;cases o
  exact ⟨by rw [ao c];exact h1,ds,by rw [ao c];exact h2⟩
 old:=R.old
theorem Tm.sh (h:Rp K Hm v d):Tm K g F H Hm .sh v d []:=⟨.sh h,(fun _ z=>by cases z),(fun _ z=>by cases z),fun _ z=>by cases z⟩
def Rl.chg (R:Rl K g E U H Hm F){i:Nat}{p:Bool}{ds es:XS}{ys:List V}(e:E[i]?=some (some (.ow p,.list ds)))(r:aA K Hm ys es):∃ a xs,U[i]?=some (some (.ref a))/\H a=some (.lst xs)/\aA K Hm xs ds/\Hm a=none/\Rl K g (E.set i (some (.ow p,.list es))) U (upd H a (.lst ys)) Hm F:=by
 obtain ⟨v,h1,h2⟩:=R.slot i _ _ e;generalize hf:F i=fi at h2;cases h2 with
 | @ow _ a xs _ ha hr =>
  have ma:a∈F i:=by rw [hf];exact RT
  have na:=R.off i a ma;have up:∀ b,b≠a->upd H a (.lst ys) b=H b:=fun b hb=>ak hb
  have li:i < E.length:=by
   rcases Sq i E.length with h | h
   ·exact h
   ·rw [Sn h] at e;cases e
  refine ⟨a,xs,h1,ha,hr,na,?_⟩;exact {
   len:=by rw [Sw];exact R.len
   sub:=fun b o hb=>by
    have:b≠a:=fun z=>by rw [z,na] at hb;cases hb
    rw [up b this];exact R.sub b o hb
   slot:=fun j k' d' e'=>by
    by_cases c:j=i
    ·subst c;rw [aK li] at e';cases e';exact ⟨_,h1,by rw [hf];exact .ow aH r⟩
    ·rw [ao (Ne.symm c)] at e';obtain ⟨u,g1,g2⟩:=R.slot j k' d' e';refine ⟨u,g1,g2.step (ai.refl _) fun b hb=>up b fun z=>c (R.aQ j i a (z ▸ hb) ma)⟩
   off:=R.off
   bJ:=fun j b hb=>by
    by_cases c:b=a
    ·rw [c];exact ⟨_,aH,kr⟩
    ·rw [up b c];exact R.bJ j b hb
   aQ:=R.aQ
   fr:=fun q o hq ho=>by
    have:q≠a:=fun z=>by
     rcases R.new i a ma with y | y
     ·exact hq (z ▸ y)
     ·rw [z,y] at ho;cases ho
    rw [up q this];exact R.fr q o hq ho
   new:=R.new
   pin:=fun q hq=>by
    obtain ⟨g1,ds',g2⟩:=R.pin q hq
    by_cases c:i=q.1
    ·rw [<- c] at g1 g2 ⊢;rw [e] at g2;cases g2;exact ⟨g1,es,aK li⟩
    ·exact ⟨g1,ds',by rw [ao c];exact g2⟩
   old:=R.old }
theorem Rl.cY (R:Rl K g E U H Hm F){i:Nat}{E':En}{d:PyData}{k:Kd}(e:E[i]?=some (some (k,d)))(h:Dv.cY E i=some E'):∃ v Hm' F',U[i]?=some (some v)/\ai Hm Hm'/\Rl K g E' U H Hm' F'/\Rp K Hm' v d:=by
 unfold Dv.cY at h;rw [e] at h;have h:(if k.fz=true then some (E.set i (some (.sh,d))) else none)=some E':=h
 by_cases hk:k.fz=true
 ·rw [if_pos hk] at h;cases h;obtain ⟨v,h1,h2⟩:=R.slot i k d e;have up:=ic (Hm:=Hm) (H:=H) (fp:=F i) (R.off i);have rp:=h2.rp (by cases k <;> first | rfl | cases hk) up fun a ha=>dR ha
  have li:i < E.length:=by
   rcases Sq i E.length with h | h
   ·exact h
   ·rw [Sn h] at e;cases e
  refine ⟨v,lend Hm H (F i),fun j=>if j=i then [] else F j,h1,up,?_,rp⟩
  exact {
   len:=by rw [Sw];exact R.len
   sub:=i9 R.sub
   slot:=fun j k' d' e'=>by
    by_cases c:j=i
    ·subst c;rw [aK li] at e';cases e';exact ⟨v,h1,by rw [if_pos rfl];exact .sh rp⟩
    ·rw [ao (Ne.symm c)] at e';obtain ⟨u,g1,g2⟩:=R.slot j k' d' e';exact ⟨u,g1,by rw [if_neg c];exact g2.step up fun _ _=>rfl⟩
   off:=fun j a ha=>by
    by_cases c:j=i
    ·rw [if_pos c] at ha;cases ha
    ·rw [if_neg c] at ha;rw [cN fun z=>c (R.aQ j i a ha z)]
     exact R.off j a ha
   bJ:=fun j a ha=>by
    by_cases c:j=i
    ·rw [if_pos c] at ha;cases ha
    ·rw [if_neg c] at ha;exact R.bJ j a ha
   aQ:=fun j l a g1 g2=>by
    by_cases c:j=i
    ·rw [if_pos c] at g1;cases g1
    ·rw [if_neg c] at g1
     by_cases c':l=i
     ·rw [if_pos c'] at g2;cases g2
     ·rw [if_neg c'] at g2;exact R.aQ j l a g1 g2
   fr:=R.fr
   new:=fun j a ha=>by
    by_cases c:j=i
    ·rw [if_pos c] at ha;cases ha
    ·rw [if_neg c] at ha;exact R.new j a ha
   pin:=fun q hq=>by
    obtain ⟨g1,ds',g2⟩:=R.pin q hq;have c:i≠q.1:=fun z=>by
     rw [<- z,e] at g2;cases g2;cases hk
    exact ⟨g1,ds',by rw [ao c];exact g2⟩
   old:=fun a ha=>by
    rw [cN fun z=>ha (R.notM e (by cases k <;> first | rfl | (rename_i p;cases p <;> first | rfl | cases hk) | cases hk) z)]
    exact R.old a ha }
 ·rw [if_neg hk] at h;cases h
end
end Dv
namespace L2
open PySem PySem.Spec PyProof.Rows
def lO (h:Heap)(e C T:Addr)(dd:XT):Prop :=
 ∃ (t0:Addr)(v2 v3 v4 v5:Value)(sl:XD)(oT:Obj)(ts:XR),h.get? e=some ⟨.ref C,dd,.fields #[.ref t0,.ref T,v2,v3,v4,v5],sl⟩/\T≠e/\h.get? T=some oT/\oT.data=.fields ts/\ts[3]?=some .none
structure Way (fs:XW)(e T:Addr)(h h':Heap):Prop where
 keep:∀ b o,b≠e->b≠T->b∉fs->h.get? b=some o->h'.get? b=some o
 slot:∀ b o,b≠e->b≠T->h.get? b=some o->∃ sl,h'.get? b=some { o with slots:=sl }
section
variable {M:Model}{A:Around}{E:XE}{s:Shared}
def wj {L e C t0 T0:Addr}{hadNext:Bool}
  (hfr:A.frames=some (env::outer))(hl:s.heap.FunFrames base (env::outer))(hf:env.frame=some L)(he:s.heap.get? e=some ⟨.ref C,dd,.fields #[.ref t0,w1,v2,v3,v4,v5],sl0⟩)
  (q:∀ h' T,s.heap.get? T=none->Way (frs (env::outer)) e T s.heap h'->lO h' e C T dd->Q () { s with heap:=h' }) :
  wpAny M A (do let a <- frameOf env;let pl <- entryPlaceOf L hadNext;let b <- EntryCells.newEntry head a .none (rawInt L) .none pl;setField (.ref e) 1 b) (fun _ s'=>wpAny M A (setFlight (.ref e) none) Q E s') E s:=by
 have ene:e∉frs (env::outer):=fun hm=>by
  obtain ⟨_,o,ho,hnf⟩:=hl.mem hm;rw [he] at ho;cases ho;exact hnf _ rfl
 refine R8 (wpAny_frameOf_fun hfr hl hf fun h1 hs1=>R8 (wpAny_entryPlaceOf fun pl hpl=>?_))
 unfold EntryCells.newEntry newFields;refine R8 (T7 ?_ (hpl.sizeOk5 _ _ _ _ _));have he1:h1.get? e=some ⟨.ref C,dd,.fields #[.ref t0,w1,v2,v3,v4,v5],sl0⟩:=(hs1.2.1 e ene).trans he;generalize hO:({ cls:=.type "traceback",dict:=none,data:=.fields ([head,.ref L,.none,rawInt L,.none]++(if pl.isEmpty then List.replicate 6 Value.none else pl)).toArray }:Obj)=oT
 have he2:=S5 (h:=h1) oT he1;refine UG he2 rfl (by show 1 < 6;decide) ?_
 have ne:h1.objs.size≠e:=Tp (S3 he1);have hdT:oT.data=.fields ([head,.ref L,.none,rawInt L,.none]++(if pl.isEmpty then List.replicate 6 Value.none else pl)).toArray:=by rw [<- hO]
 have fr:oT.isFreed=false:=by rw [<- hO];rfl
 have he3:((h1.push oT).update e (Obj.mapFields (·.setIfInBounds 1 (Value.ref h1.objs.size)))).get? e=some ⟨.ref C,dd,.fields #[.ref t0,.ref h1.objs.size,v2,v3,v4,v5],sl0⟩:=Tc _ he2 rfl;have hT3:((h1.push oT).update e (Obj.mapFields (·.setIfInBounds 1 (Value.ref h1.objs.size)))).get? h1.objs.size=some oT:=(Sz _ _ (Ne.symm ne)).trans (SY h1 fr);unfold setFlight;refine R8 (UD he3 rfl (x:=.ref h1.objs.size) rfl ?_);rw [if_pos (show (Value.ref h1.objs.size != Value.none)=true by simp)]
 have sz:s.heap.objs.size=h1.objs.size:=hs1.1.symm;refine UG hT3 hdT (by simp only [SD,SJ,Sb,List.length_nil] <;> lia) (q _ h1.objs.size ?_ ⟨fun b o b1 b2 b3 hb=>?_,fun b o b1 b2 hb=>?_⟩ ?_)
 ·exact V1 (VD sz)
 ·have hb1:h1.get? b=some o:=(hs1.2.1 b b3).trans hb;rw [Sz _ _ (Ne.symm b2),Sz _ _ (Ne.symm b1)];exact S5 _ hb1
 ·obtain ⟨sl,hb1⟩:=hs1.2.2 b o hb;refine ⟨sl,?_⟩;rw [Sz _ _ (Ne.symm b2),Sz _ _ (Ne.symm b1)];exact S5 _ hb1
 ·have dt:=UH hdT (·.setIfInBounds 3 ((none:XT).elim Value.none fun f=>rawInt f))
  refine ⟨t0,v2,v3,v4,v5,sl0,_,_,?_,ne,Tc _ hT3 (VE dt),dt,?_⟩
  ·rw [Sz _ _ ne];exact he3
  ·first | (simp;done) | (rcases hpl with rfl | ⟨_,_,_,_,_,_,_,rfl⟩ <;> simp)
def leave_new {L e C t0:Addr}
  (hfr:A.frames=some (env::outer))(hl:s.heap.FunFrames base (env::outer))(hf:env.frame=some L)(he:s.heap.get? e=some ⟨.ref C,dd,.fields #[.ref t0,.none,v2,v3,v4,v5],sl0⟩)
  (q:∀ h' T,s.heap.get? T=none->Way (frs (env::outer)) e T s.heap h'->lO h' e C T dd->Q () { s with heap:=h' }):wpAny M A (leaving env (.ref e)) Q E s:=by
 unfold leaving noteFrame;simp only [hf];refine R8 (R8 (UD he rfl (x:=.none) rfl ?_));rw [if_neg (show ¬ ((Value.none != Value.none)=true) by decide)]
 exact wj (T0:=e) hfr hl hf he q
def Hy {L e C T:Addr}
  (hfr:A.frames=some (env::outer))(hl:s.heap.FunFrames base (env::outer))(hf:env.frame=some L)(ho:lO s.heap e C T dd)
  (q:∀ h' T2,s.heap.get? T2=none->(∀ b o,b≠e->b≠T->b≠T2->b∉frs (env::outer)->s.heap.get? b=some o->h'.get? b=some o)->(∀ b o,b≠e->b≠T->b≠T2->s.heap.get? b=some o->∃ sl,h'.get? b=some { o with slots:=sl })->lO h' e C T2 dd->Q () { s with heap:=h' }):wpAny M A (leaving env (.ref e)) Q E s:=by
 obtain ⟨t0,v2,v3,v4,v5,sl0,oT,ts,he,hTe,hT,hdT,h3⟩:=ho;unfold leaving noteFrame;simp only [hf];refine R8 (R8 (UD he rfl (x:=.ref T) rfl ?_));rw [if_pos (show (Value.ref T != Value.none)=true by simp)]
 refine R8 (UD hT hdT h3 ?_);rw [if_neg (show ¬ ((Value.none == rawInt L)=true) by simp [rawInt])]
 refine R8 (UG hT hdT (V9.mp h3).1 ?_);have other:∀ b,b≠T->(s.heap.update T (Obj.mapFields (·.setIfInBounds 3 Value.none))).get? b=s.heap.get? b:=fun b hb=>Sz _ _ (Ne.symm hb)
 have noRec:∀ b o,s.heap.get? b=some o->(∀ vs,o.data≠.fields vs)->b≠T:=fun b o hb hnf z=>by
  rw [z,hT] at hb;cases hb;exact hnf ts hdT
 refine wj (s:={ s with heap:=s.heap.update T (Obj.mapFields (·.setIfInBounds 3 Value.none)) }) (T0:=T) hfr (hl.of_keeps fun b o hb hnf=>⟨o,(other b (noRec b o hb hnf)).trans hb,rfl⟩) hf ((other e (Ne.symm hTe)).trans he) fun h' T2 n2 W O=>?_
 have n2':s.heap.get? T2=none:=by
  cases c:s.heap.get? T2 with
  | none=>rfl
  | some o =>
   exfalso
   by_cases z:T2=T
   ·subst z;rw [Tc _ hT (VE (UH hdT _))] at n2;cases n2
   ·rw [show ({ s with heap:=s.heap.update T (Obj.mapFields (·.setIfInBounds 3 Value.none)) }:Shared).heap.get? T2=s.heap.get? T2 from other T2 z,c] at n2
    cases n2
 exact q h' T2 n2' (fun b o b1 b2 b3 b4 hb=>W.keep b o b1 b3 b4 ((other b b2).trans hb)) (fun b o b1 b2 b3 hb=>W.slot b o b1 b3 ((other b b2).trans hb)) O
end
end L2
namespace L2
open PySem PySem.Spec PyProof.Rows PySem.W
def fN (P:Program)(w:World):lM:=fun outer H s E e s' =>
 ∃ a C T H',e=.ref a/\s'.os=s.os/\AllBare s'.gens/\Un (frs outer) [] H H' s.heap s'.heap/\dm P w H' s'.heap/\lO s'.heap a C T none/\s.heap.get? T=none/\H' T=none/\s.heap.get? a=none/\H' a=some (.ext (oM a C none))/\E (.ref C) (some a) H'
def lO.RO {e C T:Addr}(o:lO h e C T dd):oM e C dd h:=by
 obtain ⟨t0,v2,v3,v4,v5,sl,_,_,he,_⟩:=o;exact ⟨t0,_,v2,v3,v4,v5,sl,he⟩
def K8 {P:Program}{w:World}{H:Hp}{h h':Heap}{a C:Addr}{fs:XW}{N:Addr->Prop}(ok:dm P w H h)(ha:H a=some (.ext (oM a C none)))(hN:∀ b,N b->H b=none)(hf:∀ b∈fs,H b=none)
  (k:∀ b o,b≠a->¬ N b->b∉fs->h.get? b=some o->h'.get? b=some o)(x:oM a C none h'):dm P w H h':=fun b u e=>by
 by_cases z:b=a
 ·subst z;rw [ha] at e;cases e;exact FL x
 ·have nn:∀ c v,H c=some v->¬ N c/\c∉fs:=fun c v q=>⟨fun y=>(by rw [hN c y] at q;cases q),fun y=>(by rw [hf c y] at q;cases q)⟩
  refine (ok b u e).stay (fun c v hc r=>k c v ?_ ?_ ?_ r) (fun c r=>r) fun c xs r=>r
  ·rcases hc with y | y
   ·rw [y];exact z
   ·intro q;rw [q,ha] at y;cases y
  ·rcases hc with y | y
   ·rw [y];exact (nn b u e).1
   ·exact (nn c _ y).1
  ·rcases hc with y | y
   ·rw [y];exact (nn b u e).2
   ·exact (nn c _ y).2
section
variable {CX:lM}{P:Program}{w:World}{K:Frag}{mg:XG}{base:Heap}{N:Xc}{qual:Str}{scope:Scope}{f:Addr}{cd:Value}{A:Around}{outer:List Env}{s0:Shared}{H0:Hp}{E:XK}
def Bt {pins:XH}{U:St}{H:Hp}{s:Shared}{a C T:Addr}{h':Heap}{Nw:Addr->Prop}(I:Inv (gp CX P w K mg base N qual scope f cd A outer s0 H0 E) pins U H s)(ha:H a=some (.ext (oM a C none)))(na:s0.heap.get? a=none)
  (hN:∀ b,Nw b->H b=none)(hN0:∀ b,Nw b->s0.heap.get? b=none)(hT:Nw T)
  (k:∀ b o,b≠a->¬ Nw b->b∉frs (envOfC qual scope s0.heap.objs.size f cd::outer)->s.heap.get? b=some o->h'.get? b=some o)(sl:∀ b o,b≠a->¬ Nw b->s.heap.get? b=some o->∃ sl,h'.get? b=some { o with slots:=sl })
  (O:lO h' a C T none)(q:E (.ref C) (some a) H):fN P w outer H0 s0 E (.ref a) { s with heap:=h' }:=by
 have B:Un (frs outer) [] H0 H s0.heap s.heap:=I.base;have old:∀ b o,s0.heap.get? b=some o->b≠a/\¬ Nw b:=fun b o e=>⟨(fun z=>by rw [z,na] at e;cases e),fun z=>by rw [hN0 b z] at e;cases e⟩
 have notloc:∀ b o,s0.heap.get? b=some o->b∉frs outer->b∉frs (envOfC qual scope s0.heap.objs.size f cd::outer):=fun b o e nb z=>by
  have z2:b∈(envOfC qual scope s0.heap.objs.size f cd).frame.toList++frs outer:=by
   have:frs (envOfC qual scope s0.heap.objs.size f cd::outer)=s0.heap.objs.size::frs outer:=rfl;rw [this] at z;exact z
  rcases S6.mp z2 with y | y
  ·have y:some s0.heap.objs.size=some b:=by
    have y0:(envOfC qual scope s0.heap.objs.size f cd).frame=some b:=by simpa using y
    exact y0
   have y:s0.heap.objs.size=b:=Option.some.inj y;exact absurd (S3 e) (by rw [<- y];exact Sf _)
  ·exact nb y
 refine ⟨a,C,T,H,rfl,I.os,I.bare,⟨fun b o e n nf nx=>?_,fun b o e n nf nx=>?_,fun b o e n nx=>B.free b o e n nx,fun b o e nx=>?_,B.tups,B.jV,B.lE⟩,?_,O,hN0 T hT,hN T hT,na,ha,q⟩
 ·exact k b o (old b o e).1 (old b o e).2 (notloc b o e nf) (B.keep b o e n nf nx)
 ·obtain ⟨sl1,e1⟩:=B.slot b o e n nf nx;obtain ⟨sl2,e2⟩:=sl b _ (old b o e).1 (old b o e).2 e1;exact ⟨sl2,e2⟩
 ·obtain ⟨o1,e1⟩:=B.there b o e nx;obtain ⟨sl2,e2⟩:=sl b _ (old b o e).1 (old b o e).2 e1;exact ⟨_,e2⟩
 ·exact K8 I.hok ha hN (I.qw) (fun b o b1 b2 b3 e=>k b o b1 b2 b3 e) O.RO
def NF {a C t0:Addr}(I:Inv (gp (fN P w) P w K mg base N qual scope f cd A outer s0 H0 E) pins U H s)(ha:H a=some (.ext (oM a C none)))
  (he:s.heap.get? a=some ⟨.ref C,none,.fields #[.ref t0,.none,v2,v3,v4,v5],sl0⟩)(na:s0.heap.get? a=none)(q:E (.ref C) (some a) H):(gp (fN P w) P w K mg base N qual scope f cd A outer s0 H0 E).xe (.ref a) s:=by
 refine leave_new (base:=base) (L:=s0.heap.objs.size) I.ok.frames I.stack rfl he fun h' T nT W O=>?_
 have nT0:s0.heap.get? T=none:=by
  cases c:s0.heap.get? T with
  | none=>rfl
  | some o =>
   obtain ⟨o1,e1⟩:=I.base.there T o c (by show T∉([]:XW);simp)
   rw [e1] at nT;cases nT
 exact Bt (Nw:=fun b=>b=T) I ha na (fun b z=>by rw [z];exact I.ji nT) (fun b z=>by rw [z];exact nT0) rfl (fun b o b1 b2 b3 e=>W.keep b o b1 b2 b3 e) (fun b o b1 b2 e=>W.slot b o b1 b2 e) O q
def aN:Passes (fN P w) (gp (fN P w) P w K mg base N qual scope f cd A outer s0 H0 E) E:=by
 intro pins U H s e s' I h;obtain ⟨a,C,T,H',rfl,os,bare,un,hok,O,nT,hT,na,ha,q⟩:=h;have I':=I.Dh (s':=s') (ch:=[]) os un hok bare fun b z=>absurd z (by simp)
 have up:∀ b,s.heap.get? b=none->s0.heap.get? b=none:=fun b n=>by
  cases c:s0.heap.get? b with
  | none=>rfl
  | some o =>
   obtain ⟨o1,e1⟩:=I.base.there b o c (by show b∉([]:XW);simp)
   rw [e1] at n;cases n
 refine Hy (base:=base) (L:=s0.heap.objs.size) I'.ok.frames I'.stack rfl O fun h' T2 n2 k sl O2=>?_
 have nT2:s0.heap.get? T2=none:=by
  cases c:s0.heap.get? T2 with
  | none=>rfl
  | some o =>
   obtain ⟨o1,e1⟩:=I'.base.there T2 o c (by show T2∉([]:XW);simp)
   rw [e1] at n2;cases n2
 refine Bt (Nw:=fun b=>b=T\/b=T2) I' ha (up a na) (fun b z=>?_) (fun b z=>?_) (.inr rfl) (fun b o b1 b2 b3 e=>k b o b1 (fun z=>b2 (.inl z)) (fun z=>b2 (.inr z)) b3 e) (fun b o b1 b2 e=>sl b o b1 (fun z=>b2 (.inl z)) (fun z=>b2 (.inr z)) e) O2 q
 ·rcases z with rfl | rfl
  ·exact hT
  ·exact I'.ji n2
 ·rcases z with rfl | rfl
  ·exact up _ nT
  ·exact nT2
end
section
variable {P:Program}{w:World}{K:Frag}{mg:XG}{base:Heap}{N:Xc}{qual:Str}{scope:Scope}{f:Addr}{cd:Value}{A:Around}{outer:List Env}{s0:Shared}{H0:Hp}{E:XK}
def My (C:Addr)(E:XK)(t:TA):TS:=fun _ U H=>t U H fun vs H1=>vs.length<=sizeLine/\∀ a,H1 a=none->E (.ref C) (some a) (upd H1 a (.ext (oM a C none)))
def Ig {C:Addr}
  (hc:gD K C vM "ValueError.__new__" none=true)(hg:Gl (gp (fN P w) P w K mg base N qual scope f cd A outer s0 H0 E) x)(hm:mg x=some (.ref C))
  (ha:PA (gp (fN P w) P w K mg base N qual scope f cd A outer s0 H0 E) (e::es) t)(hdb:(x == ("__debug__":Str))=false:=by decide)
  (he:starEach (e::es) (envOfC qual scope s0.heap.objs.size f cd)=(false,eval e (envOfC qual scope s0.heap.objs.size f cd))::starEach es (envOfC qual scope s0.heap.objs.size f cd):=by rfl)
  (hpl:(backTo cpos (starEach es (envOfC qual scope s0.heap.objs.size f cd))).any (·.1)=false:=by rfl) :
  PS (gp (fN P w) P w K mg base N qual scope f cd A outer s0 H0 E) (.Raise (some (.Call (.Name x np) (e::es) [] cpos)) none pos) (My C E t):=by
 intro pins s U H D I h;obtain ⟨bm,N0,nm,qn,bs,hd,sn,sub,ab,col,dd,k0,k1,k2,k3,k5,mN,hC,hN,hni,T⟩:=(KN I.ok.mod.Bs hc).obj;refine wpAny_Raise_call_subT (C:=C) (nm:=nm) (q:=qn) (N:=N0) (bs:=bs) (bm:=bm) (hdct:=hd) (sn:=sn) (sub:=sub) (ab:=ab) (col:=col) (dd:=dd) (k0:=k0) (k1:=k1) (k2:=k2) (k3:=k3) (k5:=k5)
  PySem.F.excBase_ValueError (mN:=mN) (T.hasType (by decide)) (I.ok.hd rfl) (by show (backTo cpos (starEach (e::es) (envOfC qual scope s0.heap.objs.size f cd))).any (·.1)=false;rw [he];show (false || (backTo cpos (starEach es (envOfC qual scope s0.heap.objs.size f cd))).any (·.1))=false;rw [hpl];rfl) hni (Bl I hg hm ⟨rfl,?_⟩ hdb)
 have go:=ha cpos pins s U H _ I h;show wpAny (model P w) _ (evalArgs (.ref C) true (backTo cpos (starEach (e::es) (envOfC qual scope s0.heap.objs.size f cd))) []) _ _ _;have go':wpAny (model P w) _ (spliced (backTo cpos (starEach (e::es) (envOfC qual scope s0.heap.objs.size f cd)))) _ _ _:=go;rw [he] at go' ⊢;refine Calls.evalArgs_plain (aM go' fun us s1 ⟨vs,H1,I1,r,hz,q⟩=>?_)
 have kp:∀ b o,base.get? b=some o->s1.heap.get? b=some o:=I1.bk;refine ⟨rfl,by rw [<- r.length];exact hz,kp _ _ hC,hN.keeps kp,T.keeps kp,fun h' a M=>?_⟩
 obtain ⟨hp,g,dr,tk,os⟩:=s1;obtain ⟨keeps,new,t0,hx,_,_⟩:=M;have I2:=I1.xj (a:=a) (o:=.ext (oM a C none)) (t':=tk) keeps new (FL ⟨_,_,_,_,_,_,_,hx⟩);have na:s0.heap.get? a=none:=by
  cases c:s0.heap.get? a with
  | none=>rfl
  | some o =>
   obtain ⟨o1,e1⟩:=I1.base.there a o c (by show a∉([]:XW);simp)
   rw [e1] at new;cases new
 exact NF I2 (aH) hx na (q a (I1.ji new))
end
section
variable {P:Program}{w:World}{K:XO}{mg:XG}{base:Heap}
def uB.Rr {x qual:Str}{st:Stmt}{f:Addr}{fd:FuncData}{N ps:Xc}{k:Nat}{sp:Sp}(F:uB K x qual st f fd)(S:aJ N ps (au st))(len:∀ vs H Q E,sp vs H Q E->vs.length=ps.length)
  (hbody:∀ (cdv:Value)(A:Around)(outer:List Env)(s:Shared)(H:Hp)(vs:List V)(Q:VK)(E:XK),ef k (A.deeper (envOfC qual (au st) s.heap.objs.size f cdv))->sp vs H Q E ->
   ∃ t,oQ (gp (fN P w) P w K mg base N qual (au st) f cdv A outer s H E) (iy st) t/\t { nx:=fun _ H'=>Q .br H',rt:=Q } (start N vs) H):gn P w K mg base (fN P w) (k + 1) f fd ps sp:=by
 obtain ⟨oc,od,kV,doc,pm,an,cdv,ct,osl,rfl,lk,hcd⟩:=F.ex;refine PJ lk hcd S len fun A outer s H vs Q E hr hsp=>?_
 obtain ⟨t,h,q⟩:=hbody cdv A outer s H vs Q E hr hsp;exact ⟨t,h,q⟩
def bR (P:Program)(w:World)(K:XO)(mg:XG)(base:Heap) (k:Nat) (x:Str)(ps:Xc)(sp:Sp):Prop :=
 ∃ f fd,mg x=some (.ref f)/\PySem.W.keepIn K (.ref f)=true/\Binds K fd ps []/\gn P w K mg base (fN P w) k f fd ps sp
end
end L2
namespace Dv
open PySem L2 PySem.W
def WE (X:Cx)(e:Expr):TE:=fun U H Q=>∀ (pins:XH)(s:Shared),Inv X pins U H s->wpAny (model X.prog X.w) X.A (eval e X.env) (EP X pins U Q) X.xe s
def bg:PE X e (WE X e):=fun pins s _ _ _ I h=>h pins s I
def WE.of (h:PE X e t)(q:t U H Q):WE X e U H Q:=fun pins s I=>h pins s U H Q I q
def WT (X:Cx)(e:Expr):TT:=fun U H Q=>∀ (pins:XH)(s:Shared),Inv X pins U H s->wpAny (model X.prog X.w) X.A (isTrue e X.env (eval e X.env)) (TP X pins U Q) X.xe s
def jA:PT X e (WT X e):=fun pins s _ _ _ I h=>h pins s I
def WT.of (h:PT X e t)(q:t U H Q):WT X e U H Q:=fun pins s I=>h pins s U H Q I q
def vX (X:Cx):XY->TA
 | [],_,H,Q=>Q [] H
 | e::es,U,H,Q=>WE X e U H fun v H1=>vX X es U H1 fun vs H2=>Q (v::vs) H2
def sel (Y:Xa)(U:St):St:=Y.map fun i=>(U[i]?).join
def cV {j i:Nat}(h:Y[j]?=some i)(e:U[i]?=some (some v)):(sel Y U)[j]?=some (some v):=by
 unfold sel;rw [S7,h];show some (U[i]?).join=_;rw [e];rfl
def XL (X:Cx)(Ex:XK)(x:XC)(g:Gh):Prop:=∀ (c:Str)(d:PyData)(C a:Addr)(H':Hp),X.mg c=some (.ref C)->x c d->(∀ p o,p∉g.M->g.H0 p=some o->H' p=some o)->H' a=some (.ext (oM a C none))->g.H0 a=none->Ex (.ref C) (some a) H'
def XL.no:XL X Ex xF g:=fun _ _ _ _ _ _ z=>z.elim
def SE (X:Cx)(Ex:XK)(Y:Xa)(e:Expr)(d:DE):Prop :=
 ∀ (g:Gh)(x:XC)(E:En)(U:St)(H Hm:Hp)(F:Nat->XW)(P:Xd)(Q:VK),XL X Ex x g->Rl X.K g E U H Hm F->d x E P ->
  (∀ E' k v u H' Hm' F' fp,P E' k v->Rl X.K g E' U H' Hm' F'->ai Hm Hm'->Tm X.K g F' H' Hm' k u v fp->Q u H')->WE X e (sel Y U) H Q
def ST (X:Cx)(Ex:XK)(Y:Xa)(e:Expr)(d:DT):Prop :=
 ∀ (g:Gh)(x:XC)(E:En)(U:St)(H Hm:Hp)(F:Nat->XW)(P:Xh)(Q:Bool->Hp->Prop),XL X Ex x g->Rl X.K g E U H Hm F->d x E P ->
  (∀ E' b H' Hm' F',P E' b->Rl X.K g E' U H' Hm' F'->ai Hm Hm'->Q b H')->WT X e (sel Y U) H Q
inductive aS (X:Cx)(Ex:XK)(Y:Xa):XY->List Arg->Prop
 | nil:aS X Ex Y [] []
 | pk {e:Expr}{es:XY}{as:List Arg}{i j:Nat}:PE X e (jf j)->Y[j]?=some i->aS X Ex Y es as->aS X Ex Y (e::es) (.pk i::as)
 | ev {e:Expr}{es:XY}{as:List Arg}{d:DE}:SE X Ex Y e d->aS X Ex Y es as->aS X Ex Y (e::es) (.ev d::as)
inductive Got (K:Frag)(U:St)(Hm:Hp):List Arg->List (Option PyData)->List V->Prop
 | nil:Got K U Hm [] [] []
 | pk {i:Nat}{v:V}{as:List Arg}{os:Xe}{vs:List V}:U[i]?=some (some v)->Got K U Hm as os vs->Got K U Hm (.pk i::as) (none::os) (v::vs)
 | ev {e:DE}{v:V}{d:PyData}{as:List Arg}{os:Xe}{vs:List V}:Rp K Hm v d->Got K U Hm as os vs->Got K U Hm (.ev e::as) (some d::os) (v::vs)
def lT {F:Nat->XW}(R:Rl K g E U H Hm F){i:Nat}(h:here E i=true):∃ v,U[i]?=some (some v):=by
 unfold here at h;split at h
 ·rename_i kd e;obtain ⟨v,h1,_⟩:=R.slot i kd.1 kd.2 e;exact ⟨v,h1⟩
 ·cases h
section
variable {X:Cx}{Ex:XK}{Y:Xa}{g:Gh}{x:XC}{U:St}
def m8 (hx:XL X Ex x g)(S:aS X Ex Y es as):∀ {E:En}{H Hm:Hp}{F:Nat->XW}{P:En->List (Option PyData)->Prop}{Q:List V->Hp->Prop},Rl X.K g E U H Hm F->jY as x E P ->
  (∀ E' os vs H' Hm' F',P E' os->Rl X.K g E' U H' Hm' F'->ai Hm Hm'->Got X.K U Hm' as os vs->Q vs H')->vX X es (sel Y U) H Q:=by
 induction S with
 | nil=>exact fun R h q=>q _ _ _ _ _ _ h R (ai.refl _) .nil
 | @pk e es as i j hp hj _ ih =>
  intro E H Hm F P Q R h q
  replace h:bK (here E i) _:=h
  rw [dU] at h;obtain ⟨h1,h2⟩:=h;obtain ⟨v,hv⟩:=lT R h1;refine WE.of hp ⟨v,cV hj hv,ih R h2 fun E' os vs H' Hm' F' p R' s G=>q _ _ _ _ _ _ p R' s (.pk hv G)⟩
 | @ev e es as d hd _ ih =>
  intro E H Hm F P Q R h q;refine hd g x E U H Hm F _ _ hx R h fun E1 k v u H1 Hm1 F1 fp p R1 s1 T=>?_
  replace p:bK k.fz _:=p
  rw [dU] at p;obtain ⟨hk,p⟩:=p;obtain ⟨Hm2,s2,R2,r⟩:=T.cE R1 hk;exact ih R2 p fun E' os vs H' Hm' F' p' R' s' G=>q _ _ _ _ _ _ p' R' (s1.trans (s2.trans s')) (.ev (r.mono s') G)
def vm {F:Nat->XW}(R:Rl K g E U H Hm F)(s:ai Hm Hm1):∀ {as:List Arg}{os:Xe}{vs:List V}{ds:XS},Got K U Hm as os vs->fill as E os=some ds->(∀ i∈ir as,∀ a∈F i,Hm1 a=H a)->aA K Hm1 vs ds:=by
 intro as os vs ds G
 induction G generalizing ds with
 | nil=>intro h _;cases h;exact .nil
 | @pk i v as os vs hv G ih =>
  intro h n;rw [fill] at h;split at h
  ·rename_i k d e
   by_cases hk:k.rd=true
   ·rw [if_pos hk] at h;cases hf:fill as E os with
    | none=>rw [hf] at h;cases h
    | some es =>
     rw [hf] at h;cases h;obtain ⟨v',h1,h2⟩:=R.slot i k d e;rw [hv] at h1;cases h1;exact .cons (h2.rp hk s (n i RT)) (ih hf fun j hj=>n j (RY _ hj))
   ·rw [if_neg hk] at h;cases h
  ·cases h
 | @ev d v u as os vs r G ih =>
  intro h n;rw [fill] at h;cases hf:fill as E os with
  | none=>rw [hf] at h;cases h
  | some es =>
   rw [hf] at h;cases h;exact .cons (r.mono s) (ih hf n)
theorem nV:∀ {is:Xa}{E E2:En},dY is E=some E2->E2.length=E.length/\∀ j,(j∉is->E2[j]?=E[j]?)/\(j∈is->∃ k d,E[j]?=some (some (k,d))/\k.fz=true/\E2[j]?=some (some (.sh,d)))
 | [],E,E2,h=>by
  cases h;exact ⟨rfl,fun j=>⟨fun _=>rfl,fun z=>by cases z⟩⟩
 | i::r,E,E2,h=>by
  have h:(cY E i).bind (dY r)=some E2:=h;cases hf:cY E i with
  | none=>rw [hf] at h;cases h
  | some E1 =>
   rw [hf] at h;obtain ⟨l1,g1⟩:=nV (is:=r) (E:=E1) (E2:=E2) h;unfold cY at hf;split at hf
   ·rename_i k d e
    by_cases hk:k.fz=true
    ·rw [if_pos hk] at hf;cases hf;have li:i < E.length:=by
      rcases Sq i E.length with h | h
      ·exact h
      ·rw [Sn h] at e;cases e
     rw [Sw] at l1;refine ⟨l1,fun j=>⟨fun n=>?_,fun m=>?_⟩⟩
     ·have n1:j≠i:=fun z=>n (z ▸ RT)
      rw [(g1 j).1 fun z=>n (RY _ z),ao (Ne.symm n1)]
     ·by_cases c:j=i
      ·subst c
       by_cases m':j∈r
       ·obtain ⟨k2,d2,e2,_,e3⟩:=(g1 j).2 m';rw [aK li] at e2;cases e2;exact ⟨k,d,e,hk,e3⟩
       ·exact ⟨k,d,e,hk,by rw [(g1 j).1 m',aK li]⟩
      ·have m':j∈r:=(S2.mp m).resolve_left c;obtain ⟨k2,d2,e2,h2,e3⟩:=(g1 j).2 m';rw [ao (Ne.symm c)] at e2;exact ⟨k2,d2,e2,h2,e3⟩
    ·rw [if_neg hk] at hf;cases hf
   ·cases hf
def x9 {F:Nat->XW}(R:Rl K g E U H Hm F)(hE:(if flat k v=true then some E else dY is E)=some E2)
  (sH:ai H H')(s1:ai (lend Hm H (is.flatMap F)) Hm2)(s2:ai Hm2 H')(old:∀ a,H a≠none->OE (Hm2 a) (lend Hm H (is.flatMap F) a))(o:Own K H' Hm2 k u v fp)(fr:∀ a∈fp,H a=none/\Hm2 a=none) :
  ∃ Hm' F',Rl K g E2 U H' Hm' F'/\ai Hm Hm'/\Tm K g F' H' Hm' k u v fp:=by
 have mem:∀ {a i},a∈F i->i∈is->a∈is.flatMap F:=fun ha hi=>So.mpr ⟨_,hi,ha⟩
 have off:∀ a∈is.flatMap F,Hm a=none:=fun a ha=>by
  obtain ⟨i,_,h⟩:=So.mp ha;exact R.off i a h
 have up:ai Hm (lend Hm H (is.flatMap F)):=ic off;have bJ:∀ {i a},a∈F i->H a≠none:=fun ha z=>by
  obtain ⟨u,hu,_⟩:=R.bJ _ _ ha;rw [z] at hu;cases hu
 have nfp:∀ a∈fp,∀ i,a∉F i:=fun a ha i=>R.fresh (fr a ha).1
 by_cases hf:flat k v=true
 ·rw [if_pos hf] at hE;cases hE;refine ⟨back Hm2 (is.flatMap F),F,R.grow sH (fun b o e=>?_) (z4 s2) (fun i a ha=>?_) (fun a ha=>?_),fun b o e=>?_,⟨o.flat (fun a xs h=>?_) hf,fun a ha=>?_,nfp,fun a ha=>R.fF (fr a ha).1⟩⟩
  ·rw [dg fun z=>by rw [off b z] at e;cases e]
   exact s1 _ _ (up _ _ e)
  ·by_cases c:a∈is.flatMap F
   ·exact jb c
   ·rw [dg c];obtain ⟨w,hw,nt⟩:=R.bJ i a ha;exact (old a (bJ ha)).off (by rw [cN c];exact R.off i a ha) s2 (sH _ _ hw) nt
  ·by_cases c:a∈is.flatMap F
   ·rw [jb c,off a c];exact .inl rfl
   ·have h:=old a (R.uz ha);rw [cN c] at h;rw [dg c];exact h
  ·rw [dg fun z=>by rw [off b z] at e;cases e]
   exact s1 _ _ (up _ _ e)
  ·have c:a∉is.flatMap F:=fun z=>by
    obtain ⟨i,_,hi⟩:=So.mp z;obtain ⟨w,hw,nt⟩:=R.bJ i a hi;have e2:Hm2 a=some w:=s1 _ _ (by rw [dR z];exact hw)
    rw [e2] at h;cases h;exact nt xs rfl
   rw [dg c];exact h
  ·by_cases c:a∈is.flatMap F
   ·exact jb c
   ·rw [dg c];exact (fr a ha).2
 ·rw [if_neg hf] at hE;obtain ⟨l2,g2⟩:=nV hE;have R':Rl K g E2 U H' Hm2 (fun j=>if j∈is then [] else F j):={
   len:=l2.trans R.len
   sub:=s2
   slot:=fun j k' d' e'=>by
    by_cases c:j∈is
    ·obtain ⟨k0,d0,e0,hk0,e1⟩:=(g2 j).2 c;rw [e1] at e';cases e';obtain ⟨v',h1,h2⟩:=R.slot j k0 _ e0;refine ⟨v',h1,?_⟩;rw [if_pos c];exact .sh ((h2.rp (by cases k0 <;> first | rfl | cases hk0) up fun a ha=>dR (mem ha c)).mono s1)
    ·rw [(g2 j).1 c] at e';obtain ⟨v',h1,h2⟩:=R.slot j k' d' e';refine ⟨v',h1,?_⟩;rw [if_neg c];refine h2.step (up.trans s1) fun a ha=>?_
     obtain ⟨w,hw,_⟩:=h2.live a ha;rw [hw];exact sH _ _ hw
   off:=fun j a ha=>by
    by_cases c:j∈is
    ·rw [if_pos c] at ha;cases ha
    ·rw [if_neg c] at ha;obtain ⟨w,hw,nt⟩:=R.bJ j a ha;refine (old a (bJ ha)).off ?_ s2 (sH _ _ hw) nt;rw [cN]
     ·exact R.off j a ha
     ·intro z;obtain ⟨i,hi,h⟩:=So.mp z;exact c (R.aQ i j a h ha ▸ hi)
   bJ:=fun j a ha=>by
    by_cases c:j∈is
    ·rw [if_pos c] at ha;cases ha
    ·rw [if_neg c] at ha;obtain ⟨w,hw,nt⟩:=R.bJ j a ha;exact ⟨w,sH _ _ hw,nt⟩
   aQ:=fun j l a h1 h2=>by
    by_cases c:j∈is
    ·rw [if_pos c] at h1;cases h1
    ·rw [if_neg c] at h1
     by_cases c':l∈is
     ·rw [if_pos c'] at h2;cases h2
     ·rw [if_neg c'] at h2;exact R.aQ j l a h1 h2
   fr:=fun p o hp ho=>sH _ _ (R.fr p o hp ho)
   new:=fun j a ha=>by
    by_cases c:j∈is
    ·rw [if_pos c] at ha;cases ha
    ·rw [if_neg c] at ha;exact R.new j a ha
   pin:=fun q hq=>by
    obtain ⟨h1,ds',h2⟩:=R.pin q hq;have c:q.1∉is:=fun z=>by
     obtain ⟨k0,d0,e0,hk0,_⟩:=(g2 q.1).2 z;rw [h2] at e0;cases e0;cases hk0
    exact ⟨h1,ds',by rw [(g2 q.1).1 c];exact h2⟩
   old:=fun a ha=>by
    refine (old a (R.uz ha)).trans ?_;rw [cN]
    ·exact R.old a ha
    ·intro z;obtain ⟨i,hi,h⟩:=So.mp z;obtain ⟨k0,d0,e0,hk0,_⟩:=(g2 i).2 hi;exact ha (R.notM e0 (by cases k0 <;> first | rfl | (rename_i p;cases p <;> first | rfl | cases hk0) | cases hk0) h) }
  refine ⟨Hm2,_,R',up.trans s1,⟨o,fun a ha=>(fr a ha).2,fun a ha i=>?_,fun a ha=>R.fF (fr a ha).1⟩⟩
  by_cases c:i∈is
  ·rw [if_pos c];simp
  ·rw [if_neg c];exact nfp a ha i
def cO (K:Frag)(f:DR)(r:List V->Hp->VK->Prop):Prop :=
 ∀ (H Hm:Hp)(vs:List V)(ds:XS)(P:Xg)(Q:VK),ai Hm H->aA K Hm vs ds->f ds P ->
  (∀ k v u H' Hm' fp,P k v->ai H H'->ai Hm Hm'->ai Hm' H'->(∀ a,H a≠none->OE (Hm' a) (Hm a))->Own K H' Hm' k u v fp->(∀ a∈fp,H a=none/\Hm' a=none)->Q u H')->r vs H Q
def eZ (S:aS X Ex Y es as)(hr:∀ U H Q,vX X es U H (fun vs H1=>r vs H1 Q)->WE X e U H Q)(D:cO X.K f r):SE X Ex Y e (ah f as):=by
 intro g x E U H Hm F P Q hx R h q;refine hr _ _ _ (m8 hx S R h fun E1 os vs H1 Hm1 F1 p R1 s1 G=>?_)
 replace p:yG f as E1 os P:=p
 unfold yG at p;rw [<- bI,fP] at p;obtain ⟨ds,hf,hg⟩:=p;have off:∀ a∈(ir as).flatMap F1,Hm1 a=none:=fun a ha=>by
  obtain ⟨i,_,h⟩:=So.mp ha;exact R1.off i a h
 have up:=ic (Hm:=Hm1) (H:=H1) off;refine D H1 (lend Hm1 H1 ((ir as).flatMap F1)) vs ds _ Q (i9 R1.sub) (vm R1 up G hf fun i hi a ha=>dR (So.mpr ⟨i,hi,ha⟩)) hg fun k v u H' Hm2 fp p sH sM sS old o fr=>?_
 replace p:aL (rS as E1 k v) _:=p
 rw [<- bI,AB] at p;obtain ⟨E2,ha,p⟩:=p;obtain ⟨Hm',F',R',s',T⟩:=x9 R1 (is:=ir as) (zE ha) sH sM sS old o fr;exact q _ _ _ _ _ _ _ _ p R' (s1.trans s') T
end
end Dv
namespace L2
open PySem PySem.Spec PyProof.Rows
section
variable {X:Cx}
def BQ (i j:Int):Prop:=0 < j/\j < 115792089237316195423570985008687907853269984665640564039457584007913129639936
def G7:bO X (binaryOp .FloorDiv) (rI BQ fun i j=>.int (i / j)):=Jd fun i j _ _ _ _ _ hc q=>by
 have h1:(0:Int) < j:=hc.1;have h2:j < 115792089237316195423570985008687907853269984665640564039457584007913129639936:=hc.2;refine floordiv_int (by lia) (by rw [Int.fdiv_eq_ediv_of_nonneg i (by lia)];exact q) (.inl (PyProof.noPylong_of_log2 ?_))
 have:j.natAbs.log2 < 256:=(Nat.log2_lt (by lia)).mpr (by
  have:(2:Nat) ^ 256=115792089237316195423570985008687907853269984665640564039457584007913129639936:=by decide
  lia)
 lia
end
end L2
namespace SM
open PySem PySem.SetTable
section
variable {prog:Program}{w:World}{K:Type} [DecidableEq K]{knd:KeyKind prog w K}{A:Around}{E:XE}{s:Shared}{t:SetTable}{es:Array Ent}
def C0 (knd:KeyKind prog w K)(e:Ent)(k:K):Prop:=knd.is k e.2=true/\e.1=knd.hash k/\e.2.scannable=true
structure SP (knd:KeyKind prog w K)(es:Array Ent)(ks:List K):Prop where
 ok:∀ e∈es.toList,∃ k,k∈ks/\C0 knd e k
 on:∀ k∈ks,∃ e,e∈es.toList/\C0 knd e k
 len:es.size=ks.length
structure lZ (knd:KeyKind prog w K)(o:Obj)(ks:List K):Prop where
 ex:o.ExactSet
 tb:∃ es ep t,o.data=.set es ep t/\TB t es/\es.size * 5 < t.mask * 3/\t.mask<=511/\t.plain=true/\t.led=(!(w.params.followText "set-order"))/\SP knd es ks
def SP.elems (S:SP knd es ks):ElemsOf knd es.toList:=fun e he=>by
 obtain ⟨k,_,h1,h2,h3⟩:=S.ok e he;exact ⟨⟨k,h1,h2⟩,h3⟩
def SP.perm (S:SP knd es ks)(p:es'.toList.Perm es.toList):SP knd es' ks:=by
 refine ⟨fun e he=>S.ok e (p.mem_iff.mp he),fun k hk=>?_,?_⟩
 ·obtain ⟨e,h1,h2⟩:=S.on k hk;exact ⟨e,p.mem_iff.mpr h1,h2⟩
 ·have:=p.length_eq;rw [TU,TU] at this;rw [this,S.len]
def SP.put {p:Nat}(S:SP knd es ks)(hp:p<=es.size)(hk:knd.is k x=true)(hs:x.scannable=true):SP knd (insertAt es p (knd.hash k,x)) (ks++[k]):=by
 refine ⟨fun e he=>?_,fun k' hk'=>?_,by rw [lg hp,S.len,SJ,UZ]⟩
 ·rcases (uL hp _ _).mp he with rfl | he
  ·exact ⟨k,by simp,hk,rfl,hs⟩
  ·obtain ⟨k',h1,h2⟩:=S.ok e he;exact ⟨k',by simp [h1],h2⟩
 ·rcases S6.mp hk' with h1 | h1
  ·obtain ⟨e,h2,h3⟩:=S.on k' h1;exact ⟨e,(uL hp _ _).mpr (.inr h2),h3⟩
  ·have:k'=k:=by simpa using h1
   subst this;exact ⟨_,(uL hp _ _).mpr (.inl rfl),hk,rfl,hs⟩
def SP.find (S:SP knd es ks):(k∈ks->∃ j,List.findIdx? (fun e=>knd.is k e.2) es.toList=some j)/\(k∉ks->List.findIdx? (fun e=>knd.is k e.2) es.toList=none):=by
 constructor
 ·intro h;obtain ⟨e,h1,h2,_⟩:=S.on k h;cases z:List.findIdx? (fun e=>knd.is k e.2) es.toList with
  | none =>
   have:=List.findIdx?_eq_none_iff.mp z e h1;rw [h2] at this;cases this
  | some j=>exact ⟨j,rfl⟩
 ·intro h;refine List.findIdx?_eq_none_iff.mpr fun e he=>?_
  obtain ⟨k',h1,h2,_⟩:=S.ok e he;cases z:knd.is k e.2 with
  | false=>rfl
  | true=>exact absurd (knd.inj e.2 k k' z h2 ▸ h1) h
def JW {N:Nat}{h:Int}(T:TB t es)(hl:N < 10 * turns t.mask)(hN:¬ In t (pr t.mask h N).j)(hw:Way t h N)(room:es.size + 1<=t.mask) :
  layNew t es h x=(insertAt es (t.put (pr t.mask h N).j).2 (h,x),(t.put (pr t.mask h N).j).1,false,false):=by
 have T1:=T.put (e:=(h,x)) hl hN hw room (w6 t.mask h N);have f:=T1.fits;unfold layNew;rw [T.freeSlot hl hN hw];dsimp only at f ⊢;unfold orStandIn;rw [f];rfl
def KD {a:Addr}(ha:s.heap.get? a=some o)(S:lZ knd o ks)(hk:knd.is k x=true)(hsc:x.scannable=true)(hpl:plainKind x=true)(few:ks.length + 1<=127)
  (q0:k∈ks->Q false s)(q1:k∉ks->∀ h' o',Heap.SameBut a s.heap h'->h'.get? a=some o'->lZ knd o' (ks++[k])->Q true { s with heap:=h' }) :
  wpAny (model prog w) A (setAddHashed a x (knd.hash k)) Q E s:=by
 obtain ⟨ex,es,ep,t,hd,T,nf,hm,pl,ld,sp⟩:=S;have bnd:es.size < scanBound:=by
  have z:scanBound=4096:=rfl;have:=sp.len;lia
 unfold setAddHashed setAddHashedIn;refine Sx (R8 (Vk ha hd T.fits ?_));dsimp only;rw [byScan_of hsc bnd sp.elems,if_pos rfl];unfold setAddByScan;refine R8 ?_;refine R8 (TJ ?_);refine R8 (wpAny_setScan_of hk ha hd T.fits sp.elems ?_)
 by_cases c:k∈ks
 ·obtain ⟨j,hj⟩:=sp.find.1 c;rw [hj];dsimp only;exact R9 (R9 (q0 c))
 ·rw [sp.find.2 c];dsimp only;obtain ⟨N,hl,hN,hw⟩:=T.first (knd.hash k);have hj:=w6 t.mask (knd.hash k) N;have T1:=T.put (e:=(knd.hash k,x)) hl hN hw (by lia) hj
  have hp:(t.put (pr t.mask (knd.hash k) N).j).2<=es.size:=by rw [<- T.sz];exact GV T.ri _
  have S1:=sp.put (x:=x) hp hk hsc;have z1:=lg hp ((knd.hash k,x):Ent);have m1:(t.put (pr t.mask (knd.hash k) N).j).1.mask=t.mask:=rfl;have m2:(t.put (pr t.mask (knd.hash k) N).j).1.plain=t.plain:=rfl;have m3:(t.put (pr t.mask (knd.hash k) N).j).1.led=t.led:=rfl;rw [JW T hl hN hw (by lia)]
  dsimp only at T1 ⊢;generalize (t.put (pr t.mask (knd.hash k) N).j).1=t1 at *;generalize (t.put (pr t.mask (knd.hash k) N).j).2=p1 at *;have len1:es.size + 1<=127:=by rw [sp.len];exact few
  refine R8 (R9 ?_);rw [if_pos (m2.trans pl)];refine R8 ?_;rw [hashByValue_scannable 8 hsc,hpl];refine R9 ?_;rw [if_pos rfl];refine R8 (wpAny_storeSet_of ha hd ?_ ?_)
  ·have po:=putSet_of (insertAt es p1 (knd.hash k,x)) t1 hd;have g1:(s.heap.update a (Obj.putSet (insertAt es p1 (knd.hash k,x)) t1)).get? a=some { o with data:=.set (insertAt es p1 (knd.hash k,x)) (ep + 1) t1 }:=by
    rw [Tc _ ha (by rw [po];rfl),po]
   have sb:=Ti s.heap a (Obj.putSet (insertAt es p1 (knd.hash k,x)) t1);generalize s.heap.update a (Obj.putSet (insertAt es p1 (knd.hash k,x)) t1)=h1 at *;split
   ·obtain ⟨g2,g3,g4⟩:=K7 (n:=es.size + 1) len1;obtain ⟨g5,g6⟩:=Fj (es.size + 1) len1;rw [z1];obtain ⟨es3,t3,e3,T3,p3,l3,pl3,m3'⟩:=HH (t:=t1) (es:=insertAt es p1 (knd.hash k,x)) (wanted:=grown (es.size + 1)) g2 g3 (by rw [z1];exact g4)
    rw [e3];dsimp only;have l4:=p3.length_eq;rw [TU,TU,z1] at l4;refine R8 (R9 ?_);refine R8 (wpAny_storeSet_of (s:={ s with heap:=h1 }) g1 rfl ?_ (by rw [l4];exact SW len1 (by decide)))
    have po3:=putSet_of (o:={ o with data:=.set (insertAt es p1 (knd.hash k,x)) (ep + 1) t1 }) es3 t3 rfl
    refine R9 (R9 (q1 c _ _ ⟨?_,fun y hy=>?_⟩ (Tc _ g1 (by rw [po3];rfl)) ?_))
    ·exact (Ti h1 a (Obj.putSet es3 t3)).1.trans sb.1
    ·exact ((Ti h1 a (Obj.putSet es3 t3)).2 y hy).trans (sb.2 y hy)
    ·rw [po3];exact ⟨ex,es3,_,t3,rfl,T3,by rw [l4,m3'];exact g5,by rw [m3'];lia,pl3.trans (m2.trans pl),l3.trans (m3.trans ld),S1.perm p3⟩
   ·next nt =>
    refine R9 (R9 (q1 c _ _ sb g1 ⟨ex,_,_,t1,rfl,T1,?_,by lia,m2.trans pl,m3.trans ld,S1⟩))
    have e1:¬ (t1.fill * 5 >= t1.mask * 3):=fun q=>nt (by
     unfold tooFull;rw [Sa q];rfl)
    have e2:t1.fill=(insertAt es p1 (knd.hash k,x)).size:=by
     unfold fill;rw [T1.sz,T1.du];rfl
    rw [e2] at e1;lia
  ·rw [z1];exact SW len1 (by decide)
end
section
variable {prog:Program}{w:World}{K:Type} [DecidableEq K]{knd:KeyKind prog w K}{A:Around}
def eO (f:Nat->K):Nat->List K
 | 0=>[]
 | i + 1=>if f i∈eO f i then eO f i else eO f i++[f i]
theorem yI (f:Nat->K):∀ i,(eO f i).length<=i
 | 0=>RW _
 | i + 1=>by
  have ih:=yI f i;unfold eO;split
  ·lia
  ·rw [SJ,UZ];lia
theorem yh (f:Nat->K)(k:K):∀ i,k∈eO f i↔∃ j,j < i/\f j=k
 | 0=>⟨fun h=>(nomatch h),fun ⟨j,h,_⟩=>absurd h (Tt _)⟩
 | i + 1=>by
  have ih:=yh f k i;have up:(∃ j,j < i + 1/\f j=k)↔(∃ j,j < i/\f j=k)\/f i=k:=by
   constructor
   ·rintro ⟨j,h,e⟩;rcases Nat.lt_succ_iff_lt_or_eq.mp h with h | h
    ·exact .inl ⟨j,h,e⟩
    ·subst h;exact .inr e
   ·rintro (⟨j,h,e⟩ | e)
    ·exact ⟨j,UI h,e⟩
    ·exact ⟨i,Ud i,e⟩
  rw [up,<- ih,show eO f (i + 1)=if f i∈eO f i then eO f i else eO f i++[f i] from rfl]
  split
  ·next c =>
   exact ⟨.inl,fun h=>h.elim id fun e=>e ▸ c⟩
  ·rw [S6,RZ];exact ⟨fun h=>h.elim .inl fun e=>.inr e.symm,fun h=>h.elim .inl fun e=>.inr e.symm⟩
def D6:lZ knd { cls:=.type "set",dict:=none,data:=.set #[] 0 (.fresh 0 0 (!(w.params.followText "set-order"))) } []:=by
 refine ⟨⟨rfl,rfl,rfl⟩,#[],0,_,rfl,⟨rfl,?_,?_,rfl,Fe,(by decide:7 % 2=1),Sd _,?_⟩,(by decide:0 * 5 < 7 * 3),(by decide:7<=511),rfl,rfl,⟨?_,?_,rfl⟩⟩
 ·intro i k x y _ hx;cases hx
 ·intro i j h;cases h
 ·intro i j e h;cases h
 ·intro e he;cases he
 ·intro k hk;cases hk
section
variable {R:Result->Shared->Prop}{I:Addr}{fp wr:XW}{G:Array GenState->Array GenState->Prop}{n:Nat}{P:Nat->Value->Prop}{St:Nat->Shared->Prop}
def Dj (W:PySem.WalksS prog w A.in1 I fp wr G n P St)(Z:Addr)(out:Z∉fp)(f:Nat->K)(is:∀ i v,P i v->knd.is (f i) v=true/\v.scannable=true/\plainKind v=true)(few:n<=126):∀ (d i:Nat)(s:Shared),n - i=d->i<=n->St i s->(∃ o,s.heap.get? Z=some o/\lZ knd o (eO f i)) ->
   (∀ s',PySem.Moved (Z::wr) G s s'->(∃ o,s'.heap.get? Z=some o/\lZ knd o (eO f n))->R (.ok (.ret .none)) s')->codeAny (model prog w) A (.builtin "set.update.loop" ⟨[.ref Z,.ref I],[]⟩) R s:=by
 have zw:Z∉wr:=fun h=>out (W.sub _ h)
 have more:∀ b∈wr,b∈Z::wr:=fun b hb=>RY _ hb
 intro d
 induction d with
 | zero =>
  intro i s hd hi st so fin;have e:i=n:=by lia
  subst e;refine Tu Wy ?_;rw [UJ Vl _];refine R8 (m:=pyNext (.ref I)) (W.done s _ _ st fun s' mv=>?_)
  obtain ⟨o,ho,so⟩:=so;exact R9 (fin s' (mv.mono more) ⟨o,mv.heap Z o zw ho,so⟩)
 | succ d ih =>
  intro i s hd hi st so fin;have lt:i < n:=by lia
  refine Tu Wy ?_;rw [UJ Vl _];refine R8 (m:=pyNext (.ref I)) (W.item i s _ _ lt st fun v s' hP st' mv=>?_)
  obtain ⟨kb,ks,kp⟩:=is i v hP;obtain ⟨o,ho,so⟩:=so;have ho':=mv.heap Z o zw ho;refine R8 (m:=holding [v] (setAdd Z v)) (Sx ?_);unfold setAdd;refine Sx (R8 (knd.pyHash kb ?_));have ml:=yI f i;have up:∀ (h':Heap)(o':Obj),Heap.SameBut Z s'.heap h'->h'.get? Z=some o'->lZ knd o' (eO f (i + 1))->∀ {tk:Nat},s'.toks<=tk->codeAny (model prog w) A (.builtin "set.update.loop" ⟨[.ref Z,.ref I],[]⟩) R { s' with heap:=h',toks:=tk }:=fun h' o' sb ho2 so2 {tk} tl=>by
   refine ih (i + 1) _ (by lia) lt (W.frame _ s' _ _ st' tl fun c hc oc ec=>?_) ⟨o',ho2,so2⟩ fun s2 mv2 so3=>?_
   ·rw [sb.2 c (fun q=>out (q ▸ hc))]
    exact ec
   ·refine fin s2 (PySem.Moved.trans W.gtrans ((mv.mono more).then_heap tl fun c oc hc ec=>?_) mv2) so3
    rw [sb.2 c (fun q=>hc (by rw [q];exact RT))]
    exact ec
  refine KD (s:={ s' with toks:=s'.toks + 1 }) (A:=A.in1) ho' so kb ks kp (by lia) (fun hin=>?_) fun hout h' o' sb ho2 so2=>?_
  ·refine R9 ⟨UK Vl _,?_⟩;refine up s'.heap o ⟨rfl,fun _ _=>rfl⟩ ho' ?_ (U8 _ _)
   rw [eO,if_pos hin];exact so
  ·refine R9 ⟨UK Vl _,?_⟩;refine up h' o' sb ho2 ?_ (U8 _ _);rw [eO,if_neg hout];exact so2
end
end
section
variable {prog:Program}{w:World}{K:Type} [DecidableEq K]{knd:KeyKind prog w K}{A:Around}{E:XE}{s:Shared}
abbrev gG (w:World):Obj:={ cls:=.type "set",dict:=none,data:=.set #[] 0 (.fresh 0 0 (!(w.params.followText "set-order"))) }
def Ij (l:Value)(q:Q (.ref s.heap.objs.size) { s with heap:=s.heap.push (gG w) }) :
  codeAny (model prog w) A (.call (.builtin "set.__new__") ⟨[.type "set",l],[]⟩) (wants Q E) s:=by
 refine codeAny_of_tree (?_:_)
 show wpAny _ A.in1 (do
  checkBuiltinCall "set.__new__" ⟨[.type "set",l],[]⟩
  again (.builtin "set.__new__" ⟨[.type "set",l],[]⟩)) _ _ s
 refine R8 (Uu (F.newCall_set_1 l) (R9 ⟨UK F.plain_set_new _,Tu F.entry_set_new (?_:_)⟩))
 rw [UJ F.plain_set_new (_:Args)];unfold Builtin.«set.__new__»;unfold Builtin.Frozenset.newClass;have sub0:=sub_set_self;obtain ⟨hp,g,d,tk,os⟩:=s;dsimp only
 wp_walk
 refine VF (R9 (?_:_))
 dsimp only;simp only [newObj];refine R8 (wpAny_alloc (R9 (?_:_)))
 exact R9 q
def yO {l:Addr}{f:Nat->K}(hh:A.handled=none)(hl:s.heap.IsList l its)(few:its.size<=126)(is:∀ i v,its[i]?=some v->knd.is (f i) v=true/\v.scannable=true/\plainKind v=true)
  (q:∀ (h':Heap) (tk:Nat)(o:Obj),(∀ b o',s.heap.get? b=some o'->h'.get? b=some o')->h'.get? s.heap.objs.size=some o->lZ knd o (eO f its.size)->Q (.ref s.heap.objs.size) { s with heap:=h',toks:=tk }) :
  wpAny (model prog w) A (call (.type "set") [.ref l]) Q E s:=by
 obtain ⟨cc,tl,hmro⟩:=F.called_set.mro;have made':=F.called_set.made;have sub':=F.called_set.sub;refine wpAny_call (codeAny_of_tree (?_:wpAny _ _ (callAny (.type "set") _) _ _ _));refine R9 ⟨Code.quiet_builtin _ (by decide +kernel),Tu F.entry_type_call (?_:_)⟩
 rw [Around.under_plain (weight_type_call_type "set" [.ref l] []) rfl];have no':=F.called_set.notType;have can':=F.called_set.canCreate;have chk':=F.typeCall_set_1 (.ref l)
 repeat (any_goals (first | assumption | wp_step))
 refine V6 (Ij (.ref l) (E:=E) (Q:=fun ob s1=>ob=.ref s.heap.objs.size/\s1={ s with heap:=s.heap.push (gG w) }) ⟨rfl,rfl⟩) fun r s1 hr1=>?_
 cases r with
 | error e=>exact hr1
 | ok fl =>
  cases fl with
  | ret ob =>
   obtain ⟨rfl,rfl⟩:=hr1;have zs:(s.heap.push (gG w)).get? s.heap.objs.size=some (gG w):=SY _ rfl;have ty:Shared.TypeIs { s with heap:=s.heap.push (gG w) } (.ref s.heap.objs.size) "set":=⟨_,zs,rfl⟩
   have li':=F.called_set.init.lookup;have bi':=F.called_set.init.bind (.ref s.heap.objs.size)
   repeat (any_goals (first | assumption | wp_step))
   refine V6 (codeAny_call_builtin (R:=wants (fun r s2=>r=.none/\∃ h' tk o,s2={ s with heap:=h',toks:=tk }/\(∀ b o',s.heap.get? b=some o'->h'.get? b=some o')/\h'.get? s.heap.objs.size=some o/\lZ knd o (eO f its.size)) E) F.called_set.init.plain F.entry_set_init (check_set_init_1 ty ?_)) fun r2 s2 hr2=>?_
   ·obtain ⟨ol,hol,hcl,nl,hdl⟩:=hl;obtain ⟨ocl,odi,oda,osl⟩:=ol;simp only at hcl hdl;subst hcl;subst hdl;have hol2:(s.heap.push (gG w)).get? l=some { cls:=.type "list",dict:=odi,data:=.seq its nl,slots:=osl }:=S5 _ hol;have sl1:=F.sub_list_set;have sl2:=F.sub_list_frozenset;have nd':(Value.type "list" == Value.type "dict")=false:=by decide
    have hl1:(s.heap.push (gG w)).IsList l its:=⟨_,hol2,rfl,nl,rfl⟩;unfold Builtin.«set.__init__» noKeywords Builtin.Frozenset.updateFrom;generalize hPI:pyIter=PI
    wp_walk
    subst hPI;refine WO hl1 (R8 (wpAny_runValue ?_));have lz:l < s.heap.objs.size:=S3 hol;have h3:A.in1.in1.in1.handled=none:=by simp [hh]
    have nI:l≠(s.heap.push (gG w)).objs.size:=by
     rw [UL];exact S8 (UI lz)
    have out:s.heap.objs.size∉[(s.heap.push (gG w)).objs.size,l]:=by
     rw [UL];simp only [S2,Se,Tv,not_or];exact ⟨S8 (Ud _),Tp lz⟩
    refine Dj (knd:=knd) (Walks.list h3 _ l nI its).toS s.heap.objs.size out f is few its.size 0 _ rfl (Sd _) ⟨⟨_,SY _ rfl,rfl,rfl⟩,hl1.push _⟩ ⟨gG w,S5 _ zs,D6⟩ ?fin
    case fin =>
     intro s' mv so;obtain ⟨h',g',d',tk',os'⟩:=s';obtain rfl:g'=s.gens:=mv.gens;obtain rfl:d'=s.drawn:=mv.drawn;obtain rfl:os'=s.os:=mv.os;obtain ⟨o,ho,so⟩:=so;refine R9 (?_:wpAny _ _ _ _ _ _);refine id (?_:wpAny _ _ (ret Value.none) _ _ _);refine R9 ⟨rfl,h',tk',o,rfl,fun b o' hb=>?_,ho,so⟩
     have bz:=S3 hb;refine mv.heap b o' ?_ (S5 _ (S5 _ hb));rw [UL];simp only [S2,Se,Tv,not_or];exact ⟨S8 bz,S8 (UI bz)⟩
   ·cases r2 with
    | error e=>exact hr2
    | ok fl2 =>
     cases fl2 with
     | ret r =>
      obtain ⟨rfl,h',tk,o,rfl,kp,ho,so⟩:=hr2
      repeat (any_goals (first | assumption | wp_step))
      exact q h' tk o kp ho so
     | _=>exact hr2.elim
  | _=>exact hr1.elim
end
def CF (hr:gM xs):below xs 0=0:=by
 obtain ⟨h1,h2⟩:=iP hr 0;rcases Nat.eq_zero_or_pos (below xs 0) with z | z
 ·exact z
 ·have hi:0 < xs.size:=by lia
  have:=(h2 0 xs[0] (TH hi)).mp z;lia
def BZ (hr:gM xs){i j:Nat}(h:xs[i]?=some j):below xs (j + 1)=i + 1:=by
 obtain ⟨h1,h2⟩:=iP hr (j + 1);have a:=(h2 i j h).mpr (Ud j);rcases Sq (i + 1) (below xs (j + 1)) with z | z
 ·have hi:i + 1 < xs.size:=by lia
  have e:=TH hi;have b:=(h2 (i + 1) _ e).mp z;have c:=hr i (i + 1) j _ (Ud i) h e;lia
 ·lia
theorem uw {α:Type}:∀ (l:List α) (i:Nat)(h:i < l.length),(l[i]::l.eraseIdx i).Perm l
 | x::l,0,_=>List.Perm.refl _
 | x::l,i + 1,h=>by
  have hi:i < l.length:=by simpa using h
  have ih:=uw l i hi;refine List.Perm.trans (List.Perm.swap x l[i] (l.eraseIdx i)) (List.Perm.cons x ih)
theorem BB {α:Type}(next:Nat->Nat):∀ (fuel k:Nat)(left:List α)(out:Array α),left.length=fuel->(pickOrder.go next fuel k left out).toList.Perm (out.toList++left)
 | 0,k,left,out,h=>by
  have:left=[]:=WQ.mp h;subst this;unfold pickOrder.go;simp
 | fuel + 1,k,left,out,h=>by
  unfold pickOrder.go;have lt:next k % left.length < left.length:=Ub _ (by lia)
  rw [S9 lt];dsimp only;refine (BB next fuel (k + 1) _ _ (by rw [List.length_eraseIdx_of_lt lt];lia)).trans ?_
  rw [VG,Sh];refine Tw _ ?_;exact uw _ _ lt
def E9 {α:Type}(next:Nat->Nat)(xs:Array α):(pickOrder next xs).toList.Perm xs.toList:=by
 have:=BB next xs.size 0 xs.toList #[] (by simp)
 simpa [pickOrder] using this
def dD (w:World)(a:Addr) (ep:Nat)(es:Array Ent):Array Ent:=if w.params.followText "set-order"=true then pickOrder (w.params.setOrder a ep) es else es
def zH (w:World)(a:Addr) (ep:Nat)(es:Array Ent):(dD w a ep es).toList.Perm es.toList:=by
 unfold dD;split
 ·exact E9 _ _
 ·exact List.Perm.refl _
def rX (w:World)(a:Addr) (ep:Nat)(es:Array Ent):(dD w a ep es).size=es.size:=by
 have:=(zH w a ep es).length_eq
 simpa using this
def iY:Slot "set_iterator" "__next__" "set_iterator.__next__" :=
 .of (owner:="set_iterator") (n:="__next__") (by
   rw [typeLookup_type,builtinLookup_eq_fast]
   kernel_rfl) (by decide +kernel) (by decide +kernel) (by decide +kernel)
  (by
   first
   | exact .inl (by decide +kernel)
   | exact .inr (by decide +kernel)) (by
   rw [isSubtype_type]
   kernel_rfl)
def zB:Slot "set_iterator" "__iter__" "set_iterator.__iter__" :=
 .of (owner:="set_iterator") (n:="__iter__") (by
   rw [typeLookup_type,builtinLookup_eq_fast]
   kernel_rfl) (by decide +kernel) (by decide +kernel) (by decide +kernel)
  (by
   first
   | exact .inl (by decide +kernel)
   | exact .inr (by decide +kernel)) (by
   rw [isSubtype_type]
   kernel_rfl)
def AG:entryFor table "set_iterator.__next__"=some Builtin.«set_iterator.__next__»:=entryFor_of_tree (by kernel_rfl)
def yj (a:Value):argsOk "set_iterator.__next__" ⟨[a],[]⟩:=by
 unfold argsOk
 kernel_rfl
def GU (a:Value):argsOk "set_iterator.__iter__" ⟨[a],[]⟩:=by
 unfold argsOk
 kernel_rfl
def KC:entryFor table "set.__iter__"=some Builtin.«frozenset.__iter__» :=
 entryFor_alias (id':="frozenset.__iter__") (by kernel_rfl) rfl (by decide +kernel) (by kernel_rfl)
def Lf:entryFor table "set_iterator.__iter__"=some Builtin.«dict_keyiterator.__iter__» :=
 entryFor_alias (id':="dict_keyiterator.__iter__") (by kernel_rfl) rfl (by decide +kernel) (by kernel_rfl)
def oi (h:Heap)(it a:Addr) (slot i n ep:Nat):Prop:=∃ o,h.get? it=some o/\o.cls=.type "set_iterator"/\o.data=.fields #[.int slot 0,.int i 0,.ref a,.int n 0,.int ep 0]
def gg (w:World)(h:Heap)(a:Addr)(es:Array Ent) (ep:Nat):Prop:=∃ o t,h.get? a=some o/\o.ExactSet/\o.data=.set es ep t/\t.fits es.size=true/\gM t.place/\t.place.size=es.size/\t.plain=true/\t.led=(!(w.params.followText "set-order"))
def oi.ty {s:Shared}{it a:Addr}{slot i n ep:Nat}(x:oi s.heap it a slot i n ep):s.TypeIs (.ref it) "set_iterator":=by
 obtain ⟨o,h1,h2,_⟩:=x;exact ⟨o,h1,h2⟩
section
variable {prog:Program}{w:World}{A:Around}{E:XE}{s:Shared}{es:Array Ent}{ep:Nat}{a it:Addr}
def G9 (S:gg w s.heap a es ep)(q:Q (.ref s.heap.objs.size) { s with heap:=s.heap.push { cls:=.type "set_iterator",data:=.fields #[.int 0 0,.int 0 0,.ref a,.int es.size 0,.int ep 0] } }) :
  wpAny (model prog w) A (pyIter (.ref a)) Q E s:=by
 obtain ⟨o,t,ho,ex,hd,fit,ri,sz,pl,ld⟩:=S;have ty:s.TypeIs (.ref a) "set":=⟨o,ho,ex.1⟩;refine WR ty F.slot_set_iter (TX F.slot_set_iter ty KC ?_ (F.args_set_iter_1 _));unfold Builtin.«frozenset.__iter__»;refine R8 (m:=Builtin.Frozenset.slot0 "__iter__" _) (R9 (?_:_))
 unfold Builtin.Frozenset.sizeOf;refine R8 (R8 (wpAny_setEntries_of ho hd fit (R9 (?_:_))))
 unfold setDrawn;refine R8 ?_;refine R8 (Vk ho hd fit ?_);dsimp only;unfold setsByText;refine R8 (R8 (VF (R9 (?_:_))))
 refine R9 ?_;have nd:¬ ((!(w.params.followText "set-order") && (!t.plain && decide (es.size > 1)))=true):=by
  rw [pl];simp
 refine Vm (fun z=>absurd z nd) fun _=>?_
 refine R8 (R9 (?_:_))
 refine R8 (wpAny_setEpoch_of ho hd fit ?_);unfold newFields;refine R8 (T7 (R9 ⟨_,rfl,"set_iterator",_,⟨_,SY _ rfl,rfl⟩,iY.lookup,?_⟩))
 simpa [rawInt] using q
def Ka {slot i n:Nat}{Q:XE}(hit:oi s.heap it a slot i n ep)(q:Q (.ref it) s):wpAny (model prog w) A (pyIter (.ref it)) Q E s:=by
 refine WR hit.ty zB (TX zB hit.ty Lf ?_ (GU _));show wpAny _ _ (ret (.ref it)) _ _ s;exact R9 ⟨_,rfl,"set_iterator",_,hit.ty,iY.lookup,q⟩
def xO {slot i:Nat}(S:gg w s.heap a es ep)(hs:w.params.followText "set-order"=false->∀ o es' ep' t,s.heap.get? a=some o->o.data=.set es' ep' t->below t.place slot=i)
  (q0:(dD w a ep es)[i]?=none->Q none s)(q1:∀ e slot',(dD w a ep es)[i]?=some e->(w.params.followText "set-order"=false->∀ o es' ep' t,s.heap.get? a=some o->o.data=.set es' ep' t->below t.place slot'=i + 1)->Q (some (e.2,slot')) s) :
  wpAny (model prog w) A (setNext a slot i ep) Q E s:=by
 obtain ⟨o,t,ho,ex,hd,fit,ri,sz,pl,ld⟩:=S;unfold setNext;refine R8 (Vk ho hd fit ?_);dsimp only;unfold setsByText;refine R8 (R8 (VF (R9 (?_:_))))
 show wpAny _ _ (if w.params.followText "set-order"=true then _ else _) _ _ _
 cases c:w.params.followText "set-order" with
 | true =>
  rw [if_pos rfl];rw [if_neg (by simp)]
  refine R8 ?_;unfold setWalk;refine R8 (Vk ho hd fit ?_);dsimp only;unfold setsByText;refine R8 (R8 (VF (R9 (?_:_))))
  show wpAny _ _ (if w.params.followText "set-order"=true then _ else _) _ _ _
  rw [if_pos c];refine R8 (VF (R9 (?_:_)))
  refine R9 ?_;have eo:dD w a ep es=pickOrder (w.params.setOrder a ep) es:=by
   unfold dD;rw [if_pos c]
  rw [eo] at q0 q1;show Q (((pickOrder (w.params.setOrder a ep) es)[i]?).map fun e=>(e.2,slot)) s
  cases z:(pickOrder (w.params.setOrder a ep) es)[i]? with
  | none=>exact q0 z
  | some e=>exact q1 e slot z (fun h=>by rw [c] at h;cases h)
 | false =>
  rw [if_neg SQ];have nd:¬ ((!t.plain && decide (es.size > 1))=true):=by
   rw [pl];simp
  refine Vm (fun z=>absurd z nd) fun _=>?_
  have nl:¬ ((!t.led && !es.isEmpty)=true):=by
   rw [ld,c];simp
  refine R8 (?_:wpAny _ _ (if (!t.led && !es.isEmpty)=true then (unsupported "set:maker-not-led":Sem Unit) else pure ()) _ _ _)
  rw [if_neg nl];refine R9 (R9 (?_:_))
  have eo:dD w a ep es=es:=by
   unfold dD;rw [if_neg (by rw [c];exact SQ)]
  rw [eo] at q0 q1;rw [hs c o es ep t ho hd];cases z:es[i]? with
  | none=>exact q0 z
  | some e =>
   have hi:i < t.place.size:=by
    rw [sz];exact uf z
   have zp:=TH hi;rw [zp];obtain ⟨eh,ev⟩:=e;refine q1 (eh,ev) _ z fun _ o' es' ep' t' h1 h2=>?_
   rw [ho] at h1;cases h1;rw [hd] at h2;cases h2;exact BZ ri zp
end
section
variable {prog:Program}{w:World}{A:Around}{E:XE}{s:Shared}{es:Array Ent}{ep:Nat}{a it:Addr}
def Jk (w:World)(h:Heap)(a:Addr) (slot i:Nat):Prop:=w.params.followText "set-order"=false->∀ o es' ep' t,h.get? a=some o->o.data=.set es' ep' t->below t.place slot=i
theorem gg.sz (S:gg w s.heap a es ep)(h:P es s):wpAny (model prog w) A (setEntries a) P E s:=by
 obtain ⟨o,t,ho,ex,hd,fit,ri,sz,pl,ld⟩:=S;exact wpAny_setEntries_of ho hd fit h
def next_item {slot i:Nat}(ne:a≠it)(hit:oi s.heap it a slot i es.size ep)(S:gg w s.heap a es ep)(F:Jk w s.heap a slot i)(he:(dD w a ep es)[i]?=some e)
  (q:∀ h' slot',oi h' it a slot' (i + 1) es.size ep->Jk w h' a slot' (i + 1)->Heap.SameBut it s.heap h'->Q (some e.2) { s with heap:=h' }):wpAny (model prog w) A (pyNext (.ref it)) Q E s:=by
 obtain ⟨o,ho,hc,hd⟩:=id hit;unfold pyNext;refine R8 (VH (Uk (name:=Str.ofString "__next__") hit.ty iY
  (TX iY hit.ty AG ?_ (yj _))))
 unfold Builtin.«set_iterator.__next__»;refine R8 (m:=slotArgs "__next__" 0 _) (R9 (?_:_))
 refine R8 (Vn ho hd ?_);dsimp only;refine R8 (S.sz ?_);rw [if_neg (by simp)]
 simp only [Uj];refine R8 (xO S F (fun z=>by rw [he] at z;cases z) fun e' slot' z hF=>?_)
 rw [he] at z;cases z;dsimp only;refine R8 (UG ho hd (by simp) ?_)
 have g1:=Tc (Obj.mapFields (·.setIfInBounds 0 (rawInt (slot':Int)))) ho (VE (UH hd _));have d1:=UH hd (·.setIfInBounds 0 (rawInt (slot':Int)));have sb1:=Ti s.heap it (Obj.mapFields (·.setIfInBounds 0 (rawInt (slot':Int))));generalize s.heap.update it (Obj.mapFields (·.setIfInBounds 0 (rawInt (slot':Int))))=h1 at *;refine R8 (UG (s:={ s with heap:=h1 }) g1 d1 (by simp) ?_)
 have g2:=Tc (Obj.mapFields (·.setIfInBounds 1 (rawInt ((i:Int) + 1)))) g1 (VE (UH d1 _));have d2:=UH d1 (·.setIfInBounds 1 (rawInt ((i:Int) + 1)));have sb2:=Ti h1 it (Obj.mapFields (·.setIfInBounds 1 (rawInt ((i:Int) + 1))));generalize h1.update it (Obj.mapFields (·.setIfInBounds 1 (rawInt ((i:Int) + 1))))=h2 at *;have sb:Heap.SameBut it s.heap h2:=sb1.trans sb2;refine R9 ⟨_,rfl,R9 (q h2 slot' ⟨_,g2,?_,?_⟩ (fun c o' es' ep' t h1 h2'=>?_) sb)⟩
 ·rw [WU,WU];exact hc
 ·rw [d2];simp [rawInt]
 ·rw [sb.2 a ne] at h1;exact hF c o' es' ep' t h1 h2'
def next_end {slot i:Nat}(hh:A.handled=none)(hit:oi s.heap it a slot i es.size ep)(S:gg w s.heap a es ep)(F:Jk w s.heap a slot i)(he:(dD w a ep es)[i]?=none)
  (q:∀ h',Heap.ExtBut it s.heap h'->Q none { s with heap:=h' }):wpAny (model prog w) A (pyNext (.ref it)) Q E s:=by
 obtain ⟨o,ho,hc,hd⟩:=id hit;unfold pyNext;refine R8 (VH (Uk (name:=Str.ofString "__next__") hit.ty iY
  (TX iY hit.ty AG ?_ (yj _))))
 unfold Builtin.«set_iterator.__next__»;refine R8 (m:=slotArgs "__next__" 0 _) (R9 (?_:_))
 refine R8 (Vn ho hd ?_);dsimp only;refine R8 (S.sz ?_);rw [if_neg (by simp)]
 simp only [Uj];refine R8 (xO S F (fun z=>?_) fun e' slot' z hF=>by rw [he] at z;cases z)
 dsimp only;refine R8 (UG ho hd (by simp) ?_)
 refine R8 (m:=newExc (.type "StopIteration") []) ?_;simp only [newExc,newTuple];refine R8 (T7 ?_ (by size_fits))
 refine R8 (m:=firstArgMember _ _) (Uu (a:=Value.none) (by
  first
  | rfl
  | (simp only [firstArgMember];rfl)) ?_)
 refine T7 (?_:_) (by size_fits)
 simp only [raiseNew];refine R8 (wpAny_handled (?_:_))
 rw [show A.in1.handled=none from hh]
 refine R8 (R9 (wpAny_throw (?_:_)))
 refine R8 (WV (T:="StopIteration") (b:=true) ⟨_,SY _ rfl,rfl⟩ isSubtype_stop (?_:_))
 exact R9 (q _ (((Ti ..).extBut.push _).push _))
def gg.at (S:gg w h a es ep)(k:∀ o,h.get? a=some o->h'.get? a=some o):gg w h' a es ep:=by
 obtain ⟨o,t,ho,r⟩:=S;exact ⟨o,t,k o ho,r⟩
def Iq (hh:A.handled=none)(I a:Addr)(ne:a≠I)(es:Array Ent) (ep:Nat) :
  Walks prog w A I [I,a] [I] es.size (fun i v=>∃ e,(dD w a ep es)[i]?=some e/\v=e.2) (fun i h=>(∃ slot,oi h I a slot i es.size ep/\Jk w h a slot i)/\gg w h a es ep) where
 sub:=fun b hb=>by
  simp at hb;simp [hb]
 frame:=fun i h h' st hk=>by
  obtain ⟨⟨slot,⟨o,ho,r⟩,F⟩,S⟩:=st;refine ⟨⟨slot,⟨o,hk I (by simp) o ho,r⟩,fun c o' es' ep' t h1 h2=>?_⟩,S.at fun o e=>hk a (by simp) o e⟩
  obtain ⟨ob,tb,hob,r2⟩:=S;have:=hk a (by simp) ob hob
  rw [this] at h1;cases h1;exact F c _ es' ep' t hob h2
 item:=fun i s Q E hi st hQ=>by
  obtain ⟨⟨slot,hit,F⟩,S⟩:=st;have hi':i < (dD w a ep es).size:=by
   rw [rX];exact hi
  have he:=TH hi';refine next_item ne hit S F he fun h' slot' hit' F' sb=>?_
  exact hQ _ h' s.toks ⟨_,he,rfl⟩ ⟨⟨slot',hit',F'⟩,S.at fun o e=>by rw [sb.2 a ne];exact e⟩ fun b o hb e=>by rw [sb.2 b (fun z=>hb (by simp [z]))];exact e
 done:=fun s Q E st hQ=>by
  obtain ⟨⟨slot,hit,F⟩,S⟩:=st;refine next_end hh hit S F (VB (by rw [rX];exact RW _)) fun h' eb=>hQ h' s.toks fun b o hb e=>eb b o (fun z=>hb (by simp [z])) e
 self:=fun i s Q E st hQ=>by
  obtain ⟨⟨slot,hit,F⟩,S⟩:=st;exact Ka hit hQ
end
end SM
namespace L2
open PySem PySem.Spec PyProof.Rows
theorem iB:∀ {us:XU}{ns:Xb},IntsAre us ns->Vals (ns.map V.int) us
 | _,_,.nil=>.nil
 | _,_,.cons k t r=>.cons ⟨t,rfl⟩ (iB r)
section
variable {X:Cx}
def xA:cF X (.builtin "sorted") (fun xs H Q=>∃ (a:Addr)(ns:Xb),xs=[.ref a]/\bF X.K H a (ns.map V.int)/\ns.length < 64/\∀ (ms:Xb)(p:Addr),ms.Perm ns->ms.Pairwise (·<=·)->H p=none->Q (.ref p) (upd H p (.lst (ms.map V.int)))):=by
 intro pins s U H xs us Q I r h;obtain ⟨a,ns,rfl,hq,hl,q⟩:=h;obtain ⟨u,rfl,ru⟩:=r.one;cases ru;obtain ⟨its,rv,p,_⟩:=I.list hq;have hlen:its.length=ns.length:=by rw [<- rv.length,RX]
 refine sorted_ints p.isList (intsAre_of rv) (by lia) fun out ms h1 h2 h3=>?_
 obtain ⟨e,he⟩:=sortedAll_at s.heap its out;have new:s.heap.get? (s.heap.objs.size + 1)=none:=V1 (UY _);have rm:=iB h1;have ml:ms.length=ns.length:=h2.length_eq;have I2:=I.xj (a:=s.heap.objs.size + 1) (o:=.lst (ms.map V.int)) (t':=s.toks) (h':=sortedAll s.heap its out) (fun b o hb=>sortedAll_old hb) new
  ⟨by rw [RX,ml];exact UR (SK hl (by decide)),out.toList,e,rm,by simpa using he⟩
 exact ⟨.ref (s.heap.objs.size + 1),_,I2,rfl,q ms _ h2 h3 (I.ji new)⟩
end
end L2
namespace SM
open PySem PySem.SetTable PySem.W PyProof.Rows
section
variable {prog:Program}{w:World}{A:Around}{E:XE}{s:Shared}{es:Array Ent}{ep:Nat}{a it:Addr}
def HS (ty:s.TypeIs (.ref a) "set")(q:Q false s):wpAny (model prog w) A (Builtin.List.listLengthHint (.ref a)) Q E s:=by
 unfold Builtin.List.listLengthHint;refine R8 (wpAny_specialOf ty F.slot_set_len.lookup (?_:_))
 generalize hid:("set.__len__":String)=idl
 wp_delta
 rw [show splitId idl=some ("set","__len__") from by
  subst hid;decide +kernel]
 subst hid;refine R8 (WV (T:="set") (b:=true) ty (by
  rw [isSubtype_type]
  kernel_rfl) (?_:_))
 refine Vm (fun z=>absurd z (by decide)) (fun _=>(?_:_))
 refine Vm (fun _=>(?_:_)) (fun z=>absurd (by decide +kernel) z)
 refine R8 (Ul ty (?_:_))
 exact R9 q
def Lp (a:Addr)(es:Array Ent) (ep:Nat):KdlSrc prog w "set" a a es.size (fun i v=>∃ e,(dD w a ep es)[i]?=some e/\v=e.2) (fun h=>gg w h a es ep) where
 type:=fun s S=>by
  obtain ⟨o,t,ho,ex,_⟩:=S;exact ⟨o,ho,ex.1⟩
 there:=fun h S=>by
  obtain ⟨o,t,ho,_⟩:=S;exact ⟨S3 ho,S3 ho⟩
 keep:=fun h h' S hk=>S.at fun o e=>hk a (.inl rfl) o e
 notList:=by decide
 notTuple:=by decide
 hint:=fun A E s Q S q=>by
  obtain ⟨o,t,ho,ex,_⟩:=S;exact HS ⟨o,ho,ex.1⟩ q
 iter:=fun A s hh S=>by
  refine ⟨_,_,fun E Q q=>G9 S q,Iq hh _ a ?_ es ep,⟨⟨0,⟨_,SY _ rfl,rfl,rfl⟩,fun c o' es' ep' t h1 h2=>?_⟩,S.at fun o e=>S5 _ e⟩⟩
  ·obtain ⟨o,t,ho,_⟩:=S;exact S8 (S3 ho)
  ·obtain ⟨o,t,ho,ex,hd,fit,ri,r⟩:=S;rw [S5 _ ho] at h1;cases h1;rw [hd] at h2;cases h2;exact CF ri
def Af (hh:A.handled=none)(S:gg w s.heap a es ep)(few:es.size<=126)
  (q:∀ h' tk,(∀ b o,s.heap.get? b=some o->h'.get? b=some o)->s.heap.objs.size < h'.objs.size->Q ((dD w a ep es).toList.map (·.2)) { s with heap:=h',toks:=tk }):wpAny (model prog w) A (collect (.ref a)) Q E s:=by
 unfold collect;refine R8 (wpAny_runValue (Tu entry_proto_collect' (?_:_)))
 show wpAny _ _ (do
  again (.builtin "list.__iadd__" ⟨[<- newList [],.ref a],[]⟩)) _ _ s
 refine R8 (Vo (R9 ⟨Code.quiet_builtin _ (by decide +kernel),Tu entry_list_iadd' (?_:_)⟩))
 rw [UJ (by decide +kernel) _]
 refine id (?_:wpAny _ _ (Builtin.List.listExtendWith (.ref s.heap.objs.size) (.ref a) (.ref s.heap.objs.size)) _ _ _);have az:a < s.heap.objs.size:=by
  obtain ⟨o,t,ho,_⟩:=S;exact S3 ho
 have ne:=Tp az;refine kdl_extend (prog:=prog) (R:=fun r s'=>match r with
  | .ok (.ret v)=>wpAny (model prog w) A (match v with
   | .ref a=>do
    let o <- load a
    match o.data with
    | .seq xs _=>pure xs.toList
    | _=>unsupported "internal:collect"
   | _=>unsupported "internal:collect") Q E s'
  | .ok _=>False
  | .error e=>E e s') (s:={ s with heap:=s.heap.push (seqObj "list" #[] 0) }) (A:=A) (Lp a es ep) ?_ (S.at fun o e=>S5 _ e) s.heap.objs.size ne ne (.ref s.heap.objs.size) 0 (SY _ rfl) (fun h' tk acc c kp hS its=>?_) (SW few (by decide))
 ·exact hh
 ·have e:acc.toList=(dD w a ep es).toList.map (·.2):=by
   refine To fun j=>?_
   obtain ⟨z1,z2⟩:=its;rw [S7,Sk,Sk];cases z:acc[j]? with
   | none =>
    have:=Array.getElem?_eq_none_iff.mp z;rw [VB (by rw [rX];lia)]
    rfl
   | some v =>
    obtain ⟨e,h1,h2⟩:=z2 j v z;rw [h1,h2];rfl
  refine id (?_:wpAny _ _ (do
   let o <- load s.heap.objs.size
   match o.data with
   | .seq xs _=>pure xs.toList
   | _=>unsupported "internal:collect") _ _ _)
  refine R8 (wpAny_load hS (?_:_))
  refine R9 ?_;rw [e];exact q h' tk (fun b o hb=>kp b o (S8 (S3 hb)) (S5 _ hb)) (S3 hS)
end
end SM
namespace L2
open PySem PySem.Spec PyProof.Rows
def uC (P:Program)(w:World)(a:Addr)(ks:Xb):HO:=.ext fun h=>∃ o,h.get? a=some o/\SM.lZ (intKind P w) o ks
section
variable {X:Cx}
end
end L2
namespace SM
theorem Bp {K:Type} [DecidableEq K](f:Nat->K):∀ i,(eO f i).Nodup
 | 0=>Tr
 | i + 1=>by
  have ih:=Bp f i;unfold eO;split
  ·exact ih
  ·next c =>
   refine UM.mpr ⟨ih,Sj.mpr ⟨Se,Tr⟩,fun x hx y hy e=>?_⟩
   cases RZ.mp hy;exact c (e ▸ hx)
end SM
namespace L2
open PySem PySem.Spec PyProof.Rows
section
variable {X:Cx}
def D7 (hc:X.calm=true):cF X (.type "set") (fun xs H Q=>∃ (a:Addr)(ns:Xb),xs=[.ref a]/\bF X.K H a (ns.map V.int)/\ns.length<=126/\∀ (p:Addr)(ks:Xb),H p=none->(∀ x,x∈ks↔x∈ns)->ks.Nodup->Q (.ref p) (upd H p (uC X.prog X.w p ks))):=by
 intro pins s U H xs us Q I r h;obtain ⟨a,ns,rfl,hq,few,q⟩:=h;obtain ⟨u,rfl,ru⟩:=vals1 r;cases ru;obtain ⟨its,rv,p,_⟩:=I.list hq;have hlen:its.length=ns.length:=by rw [<- rv.length,RX]
 refine SM.yO (knd:=intKind X.prog X.w) (f:=fun i=>ns.getD i 0) (I.ok.hd hc) p.isList (by simp [hlen];lia) (fun i v hv=>?_) fun h' tk o kp ho st=>?_
 ·have hv':its[i]?=some v:=by simpa using hv
  obtain ⟨x,hx,rx⟩:=vo rv i v hv';rw [S7] at hx;cases z:ns[i]? with
  | none =>
   rw [z] at hx;cases hx
  | some n =>
   rw [z] at hx;cases hx;obtain ⟨t,rfl⟩:=rx;rw [TM,z];exact ⟨intKind_is _ _ n t,rfl,rfl⟩
 ·rw [SD,hlen] at st;refine ⟨.ref s.heap.objs.size,_,I.laid (t':=tk) kp (RW _) (o:=uC X.prog X.w s.heap.objs.size (SM.eO (fun i=>ns.getD i 0) ns.length)) ?_,rfl,q _ _ (I.hok.fresh (RW _)) (fun x=>?_) (SM.Bp _ _)⟩
  ·refine ⟨⟨o,ho,st⟩,⟨o,ho⟩,fun h1 h2 z k=>?_⟩
   obtain ⟨o,z1,z2⟩:=z;exact ⟨o,k o z1,z2⟩
  ·rw [SM.yh];constructor
   ·rintro ⟨j,h1,rfl⟩;rw [TM,S9 h1];exact U9 h1
   ·intro h;obtain ⟨j,h1,h2⟩:=WX h;refine ⟨j,h1,?_⟩;rw [TM,S9 h1];exact h2
end
end L2
namespace TS
open PySem PyProof.Rows
def uM:Bool->Keyed->Array Keyed->Nat->Nat->Nat->StateT SortSt Sem (Option Nat):=sortPriv% PySem.Builtin.gallop
def yW:Array Keyed->Array Keyed->StateT SortSt Sem (Array Keyed):=sortPriv% PySem.Builtin.mergeLo
def yi:Array Keyed->Array Keyed->StateT SortSt Sem (Array Keyed):=sortPriv% PySem.Builtin.mergeHi
section
variable {prog:Program}{w:World}{A:Around}{E:XE}{s:Shared}
def jg (prog:Program)(w:World)(A:Around)(s:Shared)(kd:SortKind)(P:Value->Prop):Prop:=∀ (E:XE) x y,P x->P y->∀ Q:Bool->Shared->Prop,(∀ b,Q b s)->wpAny (model prog w) A (keyLt' kd x y) Q E s
def Good (P:Value->Prop)(xs:Array Keyed):Prop:=∀ (i:Nat)(p:Keyed),xs[i]?=some p->P p.1
variable {kd:SortKind}{P:Value->Prop}
def ask {st:SortSt}(L:jg prog w A s kd P)(hk:kindOf st=kd)(hx:P x.1)(hy:P y.1)(h:∀ b,Q (some b) st):wpS (model prog w) A E s (lt' x y) Q st:=by
 rw [lt'_eq];refine RU (wpS_get ?_);rw [hk];refine RU (UN (VH (L _ _ _ hx hy _ fun b=>⟨rfl,?_⟩)))
 exact RV (h b)
def j8 {st:SortSt}{i:Nat}(hi:i < xs.size)(h:∀ p,xs[i]?=some p->Q p st):wpS (model prog w) A E s (elem' xs i) Q st:=by
 rw [elem'_eq,TH hi];exact RV (h _ (TH hi))
def pH {st:SortSt}{left:Bool}{base n hint:Nat}(L:jg prog w A s kd P)(hk:kindOf st=kd)(hy:P key.1)(G:Good P xs)(hn:base + n<=xs.size)(hh:hint < n)(h:∀ k,k<=n->Q (some k) st) :
  wpS (model prog w) A E s (uM left key xs base n hint) Q st:=by
 have rD:∀ (i:Nat){R:Option Bool->SortSt->Prop},i < n->(∀ b,R (some b) st)->wpS (model prog w) A E s (do
   let x <- elem' xs (base + i)
   if left then lt' x key else return (<- lt' key x).map (!·)) R st:=fun i R hi hR=>by
  refine RU (j8 (by lia) fun p hp=>?_)
  cases left with
  | true=>exact ask L hk (G _ _ hp) hy hR
  | false=>exact RU (ask L hk hy (G _ _ hp) fun b=>RV (hR _))
 unfold uM;refine RU (rD hint hh fun b=>?_)
 dsimp only;split
 all_goals
  refine RU (Sl (Sm (I:=fun _ c st'=>st'=st/\c.1=none) (Q:=fun c st'=>st'=st/\c.1=none) ?step (fun _ _ q=>q) ⟨rfl,rfl⟩) ?post)
  case step =>
   rintro x ⟨o,a,c⟩ st' _ _ ⟨rfl,rfl⟩;dsimp only;split
   ·exact RV ⟨rfl,rfl⟩
   ·refine RU (rD _ (by lia) fun b'=>?_)
    dsimp only;split
    ·exact RV ⟨rfl,rfl⟩
    ·exact RV ⟨rfl,rfl⟩
  case post =>
   rintro ⟨o,a,c⟩ st' ⟨rfl,rfl⟩;dsimp only;refine RU (Sl (Sm (I:=fun _ c st''=>st''=st'/\c.1=none/\c.2.2<=n) (Q:=fun c st''=>st''=st'/\c.1=none/\c.2.2<=n) ?step2 (fun _ _ q=>q) ⟨rfl,rfl,by dsimp only;lia⟩) ?post2)
   case step2 =>
    rintro x ⟨o,a,c⟩ st'' _ _ ⟨rfl,rfl,le⟩;dsimp only at le ⊢;split
    ·exact RV ⟨rfl,rfl,le⟩
    ·refine RU (rD _ (by lia) fun b'=>?_)
     dsimp only;split
     ·exact RV ⟨rfl,rfl,le⟩
     ·exact RV ⟨rfl,rfl,by dsimp only;lia⟩
   case post2 =>
    rintro ⟨o,a,c⟩ st'' ⟨rfl,rfl,le⟩;dsimp only;exact RV (h _ le)
end
def Pm (xs ys out:Array Keyed) (ia ib:Nat):Prop:=out.toList.Perm (xs.toList.take ia++ys.toList.take ib)
section
variable {xs ys out:Array Keyed}{ia ib k:Nat}
def yK (zs:Array Keyed) (i k:Nat):zs.toList.take (i + k)=zs.toList.take i++(zs.extract i (i + k)).toList:=by
 rw [WY,List.take_add,WZ];congr 2;lia
def Pm.x (h:Pm xs ys out ia ib) (k:Nat):Pm xs ys (out++xs.extract ia (ia + k)) (ia + k) ib:=by
 unfold Pm at *;rw [T4,yK xs ia k,Sh];refine (h.append_right _).trans ?_;rw [Sh];exact Tw _ UO
def Pm.y (h:Pm xs ys out ia ib) (k:Nat):Pm xs ys (out++ys.extract ib (ib + k)) ia (ib + k):=by
 unfold Pm at *;rw [T4,yK ys ib k,<- Sh];exact h.append_right _
def rO {zs out:Array Keyed}{i:Nat}(hp:zs[i]?=some p):out.push p=out++zs.extract i (i + 1):=by
 obtain ⟨hi,e⟩:=V9.mp hp;have:zs.extract i (i + 1)=#[p]:=by
  rw [<- e];apply Array.ext
  ·simp;lia
  ·intro j h1 h2;have:j=0:=by
    simp at h2;exact h2
   subst this;simp
 rw [this];rfl
def Pm.px {p:Keyed}(h:Pm xs ys out ia ib)(hp:xs[ia]?=some p):Pm xs ys (out.push p) (ia + 1) ib:=by
 rw [rO hp];exact h.x 1
def Pm.py {p:Keyed}(h:Pm xs ys out ia ib)(hp:ys[ib]?=some p):Pm xs ys (out.push p) ia (ib + 1):=by
 rw [rO hp];exact h.y 1
def yl (zs:Array Keyed) (i:Nat):zs.toList=zs.toList.take i++(zs.extract i).toList:=by
 rw [WY,WZ];have:List.take (zs.size - i) (List.drop i zs.toList)=List.drop i zs.toList:=Uv (by simp)
 rw [this,Vp]
def Pm.done (h:Pm xs ys out ia ib):(out++xs.extract ia++ys.extract ib).toList.Perm (xs.toList++ys.toList):=by
 unfold Pm at h;rw [T4,T4,yl xs ia,yl ys ib];refine ((h.append_right _).append_right _).trans ?_;simp only [Sh];refine Tw _ ?_;rw [<- Sh,<- Sh];exact VI _ UO
def Pm.last (h:Pm xs ys out ia ib):(out++ys.extract ib++xs.extract ia).toList.Perm (xs.toList++ys.toList):=by
 refine List.Perm.trans ?_ h.done;rw [T4,T4,T4,T4,Sh,Sh];exact Tw _ UO
end
def lH (st st':SortSt):Prop:=kindOf st'=kindOf st/\arrOf st'=arrOf st/\pendingOf st'=pendingOf st/\failedOf st'=failedOf st
inductive MP (st:SortSt)(xs ys:Array Keyed) (x:Nat):Option (Array Keyed)×Array Keyed×Nat×Nat×Nat->SortSt->Prop
 | mk:∀ (out:Array Keyed) (ia ib mg:Nat)(st':SortSt),lH st st'->Pm xs ys out ia ib->ia + 1 < xs.size->ib < ys.size->x + 1<=ia + ib->MP st xs ys x (none,out,ia,ib,mg) st'
inductive Cd (st:SortSt)(xs ys:Array Keyed):Option (Array Keyed)×Array Keyed×Nat×Nat×Nat->SortSt->Prop
 | mk:∀ (r out:Array Keyed) (ia ib mg:Nat)(st':SortSt),lH st st'->r.toList.Perm (xs.toList++ys.toList)->Cd st xs ys (some r,out,ia,ib,mg) st'
inductive IC (st:SortSt)(xs ys:Array Keyed) (n y:Nat):Option (Array Keyed)×Array Keyed×Nat×Nat×Nat×Nat->SortSt->Prop
 | mk:∀ (out:Array Keyed) (ia ib ac bc:Nat),Pm xs ys out ia ib->ia + 1 < xs.size->ib < ys.size->y + n<=ia + ib->IC st xs ys n y (none,out,ia,ib,ac,bc) st
inductive sE (st:SortSt)(xs ys:Array Keyed) (n:Nat):Option (Array Keyed)×Array Keyed×Nat×Nat×Nat×Nat->SortSt->Prop
 | dn:∀ (r out:Array Keyed) (ia ib ac bc:Nat),r.toList.Perm (xs.toList++ys.toList)->sE st xs ys n (some r,out,ia,ib,ac,bc) st
 | go:∀ (out:Array Keyed) (ia ib ac bc:Nat),Pm xs ys out ia ib->ia + 1 < xs.size->ib < ys.size->n + 1<=ia + ib->sE st xs ys n (none,out,ia,ib,ac,bc) st
inductive LG (st:SortSt)(xs ys:Array Keyed) (n:Nat):Option (Array Keyed)×Array Keyed×Nat×Nat×Nat×Nat×Nat->SortSt->Prop
 | mk:∀ (out:Array Keyed) (ia ib mg ac bc:Nat)(st':SortSt),lH st st'->Pm xs ys out ia ib->ia + 1 < xs.size->ib < ys.size->n<=ia + ib->LG st xs ys n (none,out,ia,ib,mg,ac,bc) st'
inductive nU (st:SortSt)(xs ys:Array Keyed) (n:Nat):Option (Array Keyed)×Array Keyed×Nat×Nat×Nat×Nat×Nat->SortSt->Prop
 | dn:∀ (r out:Array Keyed) (ia ib mg ac bc:Nat)(st':SortSt),lH st st'->r.toList.Perm (xs.toList++ys.toList)->nU st xs ys n (some r,out,ia,ib,mg,ac,bc) st'
 | go:∀ (out:Array Keyed) (ia ib mg ac bc:Nat)(st':SortSt),lH st st'->Pm xs ys out ia ib->ia + 1 < xs.size->ib < ys.size->n<=ia + ib->nU st xs ys n (none,out,ia,ib,mg,ac,bc) st'
section
variable {prog:Program}{w:World}{A:Around}{E:XE}{s:Shared}{kd:SortKind}{P:Value->Prop}
def eE {M:Model}{U α:Type}{a b:Nat}{m1 m2:StateT U Sem α}{Q:α->U->Prop}{st:U}(h1:a=b->wpS M A E s m1 Q st)(h2:a≠b->wpS M A E s m2 Q st):wpS M A E s (if (a == b)=true then m1 else m2) Q st:=by
 by_cases e:a=b
 ·rw [if_pos (beq_iff_eq.mpr e)];exact h1 e
 ·rw [if_neg (fun z=>e (beq_iff_eq.mp z))]
  exact h2 e
def cK {M:Model}{U α:Type}{c:Prop} [Decidable c]{m1 m2:StateT U Sem α}{Q:α->U->Prop}{st:U}(h1:c->wpS M A E s m1 Q st)(h2:¬ c->wpS M A E s m2 Q st):wpS M A E s (if c then m1 else m2) Q st:=by
 by_cases e:c
 ·rw [if_pos e];exact h1 e
 ·rw [if_neg e];exact h2 e
def cB {α:Type}{st:SortSt}{zs:Array Keyed}{i:Nat}{f:Keyed->StateT SortSt Sem α}{Q:α->SortSt->Prop}(hi:i < zs.size)(h:∀ p,zs[i]?=some p->wpS (model prog w) A E s (f p) Q st):wpS (model prog w) A E s (elem' zs i >>= f) Q st:=RU (j8 hi h)
def xR {α:Type}{st:SortSt}{x y:Keyed}{f:Option Bool->StateT SortSt Sem α}{Q:α->SortSt->Prop}(L:jg prog w A s kd P)(hk:kindOf st=kd)(hx:P x.1)(hy:P y.1)(h:∀ b,wpS (model prog w) A E s (f (some b)) Q st):wpS (model prog w) A E s (lt' x y >>= f) Q st:=RU (ask L hk hx hy h)
def nX {α:Type}{st:SortSt}{left:Bool}{key:Keyed}{xs:Array Keyed}{base n hint:Nat}{f:Option Nat->StateT SortSt Sem α}{Q:α->SortSt->Prop}(L:jg prog w A s kd P)(hk:kindOf st=kd)(hy:P key.1)(G:Good P xs)(hn:base + n<=xs.size)(hh:hint < n)(h:∀ k,k<=n->wpS (model prog w) A E s (f (some k)) Q st):wpS (model prog w) A E s (uM left key xs base n hint >>= f) Q st:=RU (pH L hk hy G hn hh h)
def PF {st:SortSt}{xs ys:Array Keyed}{Q:Array Keyed->SortSt->Prop}(L:jg prog w A s kd P)(hk:kindOf st=kd)(G1:Good P xs)(G2:Good P ys)(h1:1<=xs.size)(h2:1<=ys.size)(h:∀ zs st',lH st st'->zs.toList.Perm (xs.toList++ys.toList)->Q zs st') :
  wpS (model prog w) A E s (yW xs ys) Q st:=by
 unfold yW;refine RU (UN (TJ ⟨rfl,?_⟩));dsimp only;refine cB (by lia) fun p hp=>?_
 have pm0:Pm xs ys #[p] 0 1:=by
  have:Pm xs ys #[] 0 0:=List.Perm.refl _;exact this.py hp
 have g0:lH st st:=⟨rfl,rfl,rfl,rfl⟩;refine eE (fun e1=>RV (h _ _ g0 pm0.done)) (fun e1=>?_)
 refine eE (fun e2=>RV (h _ _ g0 pm0.last)) (fun e2=>?_)
 refine RU (wpS_get ?_);refine RU (Sl (Sm (I:=MP st xs ys) (Q:=Cd st xs ys) ?step ?fin (.mk _ _ _ _ _ g0 pm0 (by lia) (by lia) (by lia))) ?post)
 case post =>
  rintro _ st' ⟨r,out,ia,ib,mg,_,g,pr⟩;dsimp only;exact RV (h _ _ g pr)
 case fin =>
  rintro _ st' ⟨out,ia,ib,mg,_,_,_,a,b,c⟩;lia
 case step =>
  rintro x _ st' _ _ ⟨out,ia,ib,mg,_,g,pm,a1,b1,c1⟩;dsimp only;have hk':kindOf st'=kd:=g.1.trans hk;refine RU (Sl (Sm (I:=IC st' xs ys (ia + ib)) (Q:=sE st' xs ys (ia + ib)) ?step1 ?fin1 (.mk _ _ _ _ _ pm a1 b1 (by lia))) ?post1)
  case fin1 =>
   rintro _ _ ⟨out2,ia2,ib2,ac,bc,_,a,b,c⟩;lia
  case step1 =>
   rintro y _ _ _ _ ⟨out2,ia2,ib2,ac,bc,pm2,a2,b2,c2⟩;dsimp only;refine cB (by lia) fun p1 hp1=>?_
   refine cB (by lia) fun p2 hp2=>?_
   refine xR L hk' (G2 _ _ hp1) (G1 _ _ hp2) fun b=>?_
   dsimp only;cases b with
   | true =>
    rw [if_pos rfl];refine cB (by lia) fun p3 hp3=>?_
    have pm3:=pm2.py hp3;refine eE (fun e3=>RV (sE.dn _ _ _ _ _ _ pm3.done)) (fun e3=>?_)
    refine cK (fun e4=>?_) (fun e4=>?_)
    ·exact RV (sE.go _ _ _ _ _ pm3 a2 (by lia) (by lia))
    ·exact RV (IC.mk _ _ _ _ _ pm3 a2 (by lia) (by lia))
   | false =>
    rw [if_neg SQ];refine cB (by lia) fun p3 hp3=>?_
    have pm3:=pm2.px hp3;refine eE (fun e3=>RV (sE.dn _ _ _ _ _ _ pm3.last)) (fun e3=>?_)
    refine cK (fun e4=>?_) (fun e4=>?_)
    ·exact RV (sE.go _ _ _ _ _ pm3 (by lia) b2 (by lia))
    ·exact RV (IC.mk _ _ _ _ _ pm3 (by lia) b2 (by lia))
  case post1 =>
   rintro _ _ (⟨r,out2,ia2,ib2,ac,bc,pr⟩ | ⟨out2,ia2,ib2,ac,bc,pm2,a2,b2,c2⟩)
   ·exact RV (Cd.mk _ _ _ _ _ _ g pr)
   ·dsimp only;refine RU (UN (TJ ⟨rfl,?_⟩));refine RU (Sl (Sm (I:=fun _=>LG st xs ys (ia2 + ib2)) (Q:=nU st xs ys (ia2 + ib2)) ?step2 (fun c st3 q=>by cases q;exact .go _ _ _ _ _ _ _ ‹_› ‹_› ‹_› ‹_› ‹_›) (.mk _ _ _ _ _ _ _ g pm2 a2 b2 (RW _))) ?post2)
    case step2 =>
     rintro y _ st3 _ _ ⟨out3,ia3,ib3,mg3,ac3,bc3,_,g3,pm3,a3,b3,c3⟩;dsimp only;have hk3:kindOf st3=kd:=g3.1.trans hk;refine cK (fun e5=>?b1) (fun e5=>?b2)
     generalize mg3 - 1=v;clear e5;revert v;refine ?key
     case b2=>exact ?key mg3
     intro v;refine RU (TN ?_);refine cB (by lia) fun p1 hp1=>?_
     refine nX L hk3 (G2 _ _ hp1) G1 (by lia) (by lia) fun k hk1=>?_
     dsimp only;refine cK (fun k0=>?c1) (fun k0=>?c2)
     have pm4:=pm3.x k;refine eE (fun e6=>RV (nU.dn _ _ _ _ _ _ _ _ g3 pm4.last)) (fun e6=>?_)
     refine eE (fun e7=>RV (nU.dn _ _ _ _ _ _ _ _ g3 pm4.done)) (fun e7=>?_)
     generalize out3++xs.extract ia3 (ia3 + k)=o at pm4 ⊢;have n1:ia3 + k + 1 < xs.size:=by lia
     have n0:ia3<=ia3 + k:=by lia
     revert n0 n1 pm4;clear e6 e7 k0;generalize ia3 + k=n;clear hk1;generalize k=d;revert o n d;refine ?key2
     case c2=>exact ?key2 out3 ia3 k pm3 a3 (RW _)
     intro o n d pm4 n1 n0;refine cB (by lia) fun p2 hp2=>?_
     have pm5:=pm4.py hp2;refine eE (fun e8=>RV (nU.dn _ _ _ _ _ _ _ _ g3 pm5.done)) (fun e8=>?_)
     refine cB (by lia) fun p3 hp3=>?_
     refine nX L hk3 (G1 _ _ hp3) G2 (by lia) (by lia) fun k2 hk2=>?_
     dsimp only;refine cK (fun k20=>?d1) (fun k20=>?d2)
     have pm6:=pm5.y k2;refine eE (fun e9=>RV (nU.dn _ _ _ _ _ _ _ _ g3 pm6.done)) (fun e9=>?_)
     generalize o.push _++ys.extract (ib3 + 1) (ib3 + 1 + k2)=o2 at pm6 ⊢;have m1:ib3 + 1 + k2 < ys.size:=by lia
     have m0:ib3 + 1<=ib3 + 1 + k2:=by lia
     revert m0 m1 pm6;clear e9 k20;generalize ib3 + 1 + k2=m;clear hk2;generalize k2=d2;revert o2 m d2;refine ?key3
     case d2=>exact ?key3 _ _ _ pm5 (by lia) (RW _)
     intro o2 m d2 pm6 m1 m0;refine cB (by lia) fun p4 hp4=>?_
     have pm7:=pm6.px hp4;refine eE (fun e10=>RV (nU.dn _ _ _ _ _ _ _ _ g3 pm7.last)) (fun e10=>?_)
     refine cK (fun _=>?_) (fun _=>?_)
     ·exact RV (nU.go _ _ _ _ _ _ _ g3 pm7 (by lia) (by lia) (by lia))
     ·exact RV (LG.mk _ _ _ _ _ _ _ g3 pm7 (by lia) (by lia) (by lia))
    case post2 =>
     rintro _ st3 (⟨r,out3,ia3,ib3,mg3,ac3,bc3,_,g3,pr⟩ | ⟨out3,ia3,ib3,mg3,ac3,bc3,_,g3,pm3,a3,b3,c3⟩)
     ·exact RV (Cd.mk _ _ _ _ _ _ g3 pr)
     ·dsimp only;refine RU (TN ?_);exact RV (MP.mk _ _ _ _ _ g3 pm3 a3 b3 (by lia))
end
def Pr (xs ys out:Array Keyed) (na nb:Nat):Prop:=out.toList.Perm (xs.toList.drop na++ys.toList.drop nb)
section
variable {xs ys out:Array Keyed}{na nb k:Nat}
def jk (zs:Array Keyed){i n:Nat}(h:i<=n):zs.toList.drop i=(zs.extract i n).toList++zs.toList.drop n:=by
 obtain ⟨d,rfl⟩:=Nat.exists_eq_add_of_le h;rw [WY,WZ,VJ,<- List.drop_drop];exact (Vp d _).symm
def Pr.x (h:Pr xs ys out na nb)(hk:k<=na):Pr xs ys (out++(xs.extract k na).reverse) k nb:=by
 unfold Pr at *;rw [T4,jk xs hk,Wa,Sh];refine (h.append_right _).trans ?_;refine UO.trans ?_;exact VI _ (Wb _)
def Pr.y (h:Pr xs ys out na nb)(hk:k<=nb):Pr xs ys (out++(ys.extract k nb).reverse) na k:=by
 unfold Pr at *;rw [T4,jk ys hk,Wa];refine (h.append_right _).trans ?_;rw [Sh];refine Tw _ ?_;refine UO.trans ?_;exact VI _ (Wb _)
def zX {zs out:Array Keyed}{i:Nat}(h1:1<=i)(hp:zs[i - 1]?=some p):out.push p=out++(zs.extract (i - 1) i).reverse:=by
 have e:=rO (out:=#[]) hp;rw [show i - 1 + 1=i by lia] at e
 have e2:zs.extract (i - 1) i=#[p]:=by
  rw [Array.empty_append] at e;exact e.symm
 rw [e2];rfl
def Pr.px {p:Keyed}(h:Pr xs ys out na nb)(h1:1<=na)(hp:xs[na - 1]?=some p):Pr xs ys (out.push p) (na - 1) nb:=by
 rw [zX h1 hp];exact h.x (by lia)
def Pr.py {p:Keyed}(h:Pr xs ys out na nb)(h1:1<=nb)(hp:ys[nb - 1]?=some p):Pr xs ys (out.push p) na (nb - 1):=by
 rw [zX h1 hp];exact h.y (by lia)
def Pr.done (h:Pr xs ys out na nb):(xs.extract 0 na++ys.extract 0 nb++out.reverse).toList.Perm (xs.toList++ys.toList):=by
 unfold Pr at h;have e1:=jk xs (Sd na);have e2:=jk ys (Sd nb);rw [Vq] at e1 e2;rw [T4,T4,Wa]
 conv=>rhs;rw [e1,e2]
 rw [Sh,Sh];refine Tw _ ?_;refine (Tw _ ((Wb _).trans h)).trans ?_;rw [<- Sh,<- Sh];exact VI _ UO
def Pr.first (h:Pr xs ys out na nb):(ys.extract 0 nb++xs.extract 0 na++out.reverse).toList.Perm (xs.toList++ys.toList):=by
 refine List.Perm.trans ?_ h.done;rw [T4,T4,T4,T4];exact VI _ UO
end
inductive NJ (st:SortSt)(xs ys:Array Keyed) (x:Nat):Option (Array Keyed)×Nat×Nat×Array Keyed×Nat->SortSt->Prop
 | mk:∀ (na nb:Nat)(out:Array Keyed) (mg:Nat)(st':SortSt),lH st st'->Pr xs ys out na nb->1<=na->2<=nb->na<=xs.size->nb<=ys.size->na + nb + x + 1<=xs.size + ys.size->NJ st xs ys x (none,na,nb,out,mg) st'
inductive BL (st:SortSt)(xs ys:Array Keyed):Option (Array Keyed)×Nat×Nat×Array Keyed×Nat->SortSt->Prop
 | mk:∀ (r:Array Keyed) (na nb:Nat)(out:Array Keyed) (mg:Nat)(st':SortSt),lH st st'->r.toList.Perm (xs.toList++ys.toList)->BL st xs ys (some r,na,nb,out,mg) st'
inductive IG (st:SortSt)(xs ys:Array Keyed) (n y:Nat):Option (Array Keyed)×Nat×Nat×Array Keyed×Nat×Nat->SortSt->Prop
 | mk:∀ (na nb:Nat)(out:Array Keyed) (ac bc:Nat),Pr xs ys out na nb->1<=na->2<=nb->na<=xs.size->nb<=ys.size->na + nb + y<=n->IG st xs ys n y (none,na,nb,out,ac,bc) st
inductive rE (st:SortSt)(xs ys:Array Keyed) (n:Nat):Option (Array Keyed)×Nat×Nat×Array Keyed×Nat×Nat->SortSt->Prop
 | dn:∀ (r:Array Keyed) (na nb:Nat)(out:Array Keyed) (ac bc:Nat),r.toList.Perm (xs.toList++ys.toList)->rE st xs ys n (some r,na,nb,out,ac,bc) st
 | go:∀ (na nb:Nat)(out:Array Keyed) (ac bc:Nat),Pr xs ys out na nb->1<=na->2<=nb->na<=xs.size->nb<=ys.size->na + nb + 1<=n->rE st xs ys n (none,na,nb,out,ac,bc) st
inductive N2 (st:SortSt)(xs ys:Array Keyed) (n:Nat):Option (Array Keyed)×Nat×Nat×Array Keyed×Nat×Nat×Nat->SortSt->Prop
 | mk:∀ (na nb:Nat)(out:Array Keyed) (mg ac bc:Nat)(st':SortSt),lH st st'->Pr xs ys out na nb->1<=na->2<=nb->na<=xs.size->nb<=ys.size->na + nb<=n->N2 st xs ys n (none,na,nb,out,mg,ac,bc) st'
inductive oq (st:SortSt)(xs ys:Array Keyed) (n:Nat):Option (Array Keyed)×Nat×Nat×Array Keyed×Nat×Nat×Nat->SortSt->Prop
 | dn:∀ (r:Array Keyed) (na nb:Nat)(out:Array Keyed) (mg ac bc:Nat)(st':SortSt),lH st st'->r.toList.Perm (xs.toList++ys.toList)->oq st xs ys n (some r,na,nb,out,mg,ac,bc) st'
 | go:∀ (na nb:Nat)(out:Array Keyed) (mg ac bc:Nat)(st':SortSt),lH st st'->Pr xs ys out na nb->1<=na->2<=nb->na<=xs.size->nb<=ys.size->na + nb<=n->oq st xs ys n (none,na,nb,out,mg,ac,bc) st'
section
variable {prog:Program}{w:World}{A:Around}{E:XE}{s:Shared}{kd:SortKind}{P:Value->Prop}
def Po {st:SortSt}(L:jg prog w A s kd P)(hk:kindOf st=kd)(G1:Good P xs)(G2:Good P ys)(h1:1<=xs.size)(h2:1<=ys.size)(h:∀ zs st',lH st st'->zs.toList.Perm (xs.toList++ys.toList)->Q zs st') :
  wpS (model prog w) A E s (yi xs ys) Q st:=by
 unfold yi;refine RU (UN (TJ ⟨rfl,?_⟩));dsimp only;refine cB (by lia) fun p hp=>?_
 have pm0:Pr xs ys #[p] (xs.size - 1) ys.size:=by
  have z:Pr xs ys #[] xs.size ys.size:=by
   unfold Pr;rw [Vr (by simp),Vr (by simp)]
   exact List.Perm.refl _
  exact z.px h1 hp
 have g0:lH st st:=⟨rfl,rfl,rfl,rfl⟩;refine eE (fun e1=>RV (h _ _ g0 pm0.done)) (fun e1=>?_)
 refine eE (fun e2=>RV (h _ _ g0 pm0.first)) (fun e2=>?_)
 refine RU (wpS_get ?_);refine RU (Sl (Sm (I:=NJ st xs ys) (Q:=BL st xs ys) ?step ?fin (.mk _ _ _ _ _ g0 pm0 (by lia) (by lia) (by lia) (by lia) (by lia))) ?post)
 case post =>
  rintro _ st' ⟨r,na,nb,out,mg,_,g,pr⟩;dsimp only;exact RV (h _ _ g pr)
 case fin =>
  rintro _ st' ⟨na,nb,out,mg,_,_,_,a,b,c,d,e⟩;lia
 case step =>
  rintro x _ st' _ _ ⟨na,nb,out,mg,_,g,pm,a1,b1,c1,d1,f1⟩;dsimp only;have hk':kindOf st'=kd:=g.1.trans hk;refine RU (Sl (Sm (I:=IG st' xs ys (na + nb)) (Q:=rE st' xs ys (na + nb)) ?step1 ?fin1 (.mk _ _ _ _ _ pm a1 b1 c1 d1 (by lia))) ?post1)
  case fin1 =>
   rintro _ _ ⟨na2,oF,out2,ac,bc,_,a,b,c,d,e⟩;lia
  case step1 =>
   rintro y _ _ _ _ ⟨na2,oF,out2,ac,bc,pm2,a2,b2,c2,d2,f2⟩;dsimp only;refine cB (by lia) fun p1 hp1=>?_
   refine cB (by lia) fun p2 hp2=>?_
   refine xR L hk' (G2 _ _ hp1) (G1 _ _ hp2) fun b=>?_
   dsimp only;cases b with
   | true =>
    rw [if_pos rfl];refine cB (by lia) fun p3 hp3=>?_
    have pm3:=pm2.px (by lia) hp3
    refine eE (fun e3=>RV (rE.dn _ _ _ _ _ _ pm3.done)) (fun e3=>?_)
    refine cK (fun e4=>?_) (fun e4=>?_)
    ·exact RV (rE.go _ _ _ _ _ pm3 (by lia) (by lia) (by lia) (by lia) (by lia))
    ·exact RV (IG.mk _ _ _ _ _ pm3 (by lia) (by lia) (by lia) (by lia) (by lia))
   | false =>
    rw [if_neg SQ];refine cB (by lia) fun p3 hp3=>?_
    have pm3:=pm2.py (by lia) hp3
    refine eE (fun e3=>RV (rE.dn _ _ _ _ _ _ pm3.first)) (fun e3=>?_)
    refine cK (fun e4=>?_) (fun e4=>?_)
    ·exact RV (rE.go _ _ _ _ _ pm3 (by lia) (by lia) (by lia) (by lia) (by lia))
    ·exact RV (IG.mk _ _ _ _ _ pm3 (by lia) (by lia) (by lia) (by lia) (by lia))
  case post1 =>
   rintro _ _ (⟨r,na2,oF,out2,ac,bc,pr⟩ | ⟨na2,oF,out2,ac,bc,pm2,a2,b2,c2,d2,f2⟩)
   ·exact RV (BL.mk _ _ _ _ _ _ g pr)
   ·dsimp only;refine RU (UN (TJ ⟨rfl,?_⟩));refine RU (Sl (Sm (I:=fun _=>N2 st xs ys (na2 + oF)) (Q:=oq st xs ys (na2 + oF)) ?step2 (fun c st3 q=>by cases q;exact .go _ _ _ _ _ _ _ ‹_› ‹_› ‹_› ‹_› ‹_› ‹_› ‹_›) (.mk _ _ _ _ _ _ _ g pm2 a2 b2 c2 d2 (RW _))) ?post2)
    case step2 =>
     rintro y _ st3 _ _ ⟨na3,nb3,out3,mg3,ac3,bc3,_,g3,pm3,a3,b3,c3,d3,f3⟩;dsimp only;have hk3:kindOf st3=kd:=g3.1.trans hk;refine cK (fun e5=>?b1) (fun e5=>?b2)
     generalize mg3 - 1=v;clear e5;revert v;refine ?key
     case b2=>exact ?key mg3
     intro v;refine RU (TN ?_);refine cB (by lia) fun p1 hp1=>?_
     refine nX L hk3 (G2 _ _ hp1) G1 (by lia) (by lia) fun k hk1=>?_
     dsimp only;refine cK (fun k0=>?c1) (fun k0=>?c2)
     have pm4:=pm3.x hk1;refine eE (fun e7=>RV (oq.dn _ _ _ _ _ _ _ _ g3 pm4.done)) (fun e7=>?_)
     generalize out3++(xs.extract k na3).reverse=o at pm4 ⊢;generalize na3 - k=d;have n1:1<=k:=by lia
     revert n1 pm4;clear e7 k0;revert hk1;generalize k=n;revert d o n;refine ?key2
     case c2=>exact ?key2 out3 (na3 - k) na3 (RW _) pm3 (by lia)
     intro o d n hk1 pm4 n1;refine cB (by lia) fun p2 hp2=>?_
     have pm5:=pm4.py (by lia) hp2
     refine eE (fun e8=>RV (oq.dn _ _ _ _ _ _ _ _ g3 pm5.first)) (fun e8=>?_)
     refine cB (by lia) fun p3 hp3=>?_
     refine nX L hk3 (G1 _ _ hp3) G2 (by lia) (by lia) fun k2 hk2=>?_
     dsimp only;refine cK (fun k20=>?d1) (fun k20=>?d2)
     have pm6:=pm5.y hk2;refine eE (fun e9=>RV (oq.dn _ _ _ _ _ _ _ _ g3 pm6.first)) (fun e9=>?_)
     refine eE (fun e9'=>RV (oq.dn _ _ _ _ _ _ _ _ g3 pm6.done)) (fun e9'=>?_)
     have n2:2<=k2:=by lia
     revert n2 pm6;generalize o.push _++(ys.extract k2 (nb3 - 1)).reverse=o2;generalize nb3 - 1 - k2=d2;clear e9 e9' k20;revert hk2;generalize k2=m;revert d2 o2 m;refine ?key3
     case d2=>exact ?key3 _ _ _ (RW _) pm5 (by lia)
     intro o2 d2 m hm pm6 n2;refine cB (by lia) fun p4 hp4=>?_
     have pm7:=pm6.px (by lia) hp4
     refine eE (fun e10=>RV (oq.dn _ _ _ _ _ _ _ _ g3 pm7.done)) (fun e10=>?_)
     refine cK (fun _=>?_) (fun _=>?_)
     ·exact RV (oq.go _ _ _ _ _ _ _ g3 pm7 (by lia) (by lia) (by lia) (by lia) (by lia))
     ·exact RV (N2.mk _ _ _ _ _ _ _ g3 pm7 (by lia) (by lia) (by lia) (by lia) (by lia))
    case post2 =>
     rintro _ st3 (⟨r,na3,nb3,out3,mg3,ac3,bc3,_,g3,pr⟩ | ⟨na3,nb3,out3,mg3,ac3,bc3,_,g3,pm3,a3,b3,c3,d3,f3⟩)
     ·exact RV (BL.mk _ _ _ _ _ _ g3 pr)
     ·dsimp only;refine RU (TN ?_);exact RV (NJ.mk _ _ _ _ _ g3 pm3 a3 b3 c3 d3 (by lia))
end
structure SB (kd:SortKind)(xs0:Array Keyed)(st:SortSt):Prop where
 perm:(arrOf st).Perm xs0
 kind:kindOf st=kd
 ok:failedOf st=none
theorem SB.size {kd:SortKind}{st:SortSt}(B:SB kd xs0 st):(arrOf st).size=xs0.size:=B.perm.size_eq
def Good.perm (G:Good P ys)(p:xs.Perm ys):Good P xs:=fun i q h=>by
 have m:q∈xs.toList:=SR (by rw [Sk];exact h)
 have m2:q∈ys.toList:=(Wc.mp p).mem_iff.mp m;obtain ⟨j,hj⟩:=U7 m2;rw [Sk] at hj;exact G j q hj
section
variable {prog:Program}{w:World}{A:Around}{E:XE}{s:Shared}{kd:SortKind}{P:Value->Prop}{xs0:Array Keyed}
def fU {st:SortSt}{i j:Nat}(L:jg prog w A s kd P)(G:Good P xs0)(B:SB kd xs0 st)(hi:i < xs0.size)(hj:j < xs0.size)(h:∀ b,Q (some b) st):wpS (model prog w) A E s (ltAt' i j) Q st:=by
 rw [ltAt'_eq];refine RU (wpS_get ?_);have G':=G.perm B.perm;refine RU (j8 (by rw [B.size];exact hi) fun p hp=>?_)
 refine RU (j8 (by rw [B.size];exact hj) fun q hq=>?_)
 exact ask L B.kind (G' _ _ hp) (G' _ _ hq) h
def iT {st:SortSt}{i j:Nat}(B:SB kd xs0 st)(h:∀ st',SB kd xs0 st'->pendingOf st'=pendingOf st->Q () st'):wpS (model prog w) A E s (reverseSlice' i j) Q st:=by
 rw [reverseSlice'_eq];exact TN (h _ ⟨(mirror_perm _ _ _ _).trans B.perm,B.kind,B.ok⟩ rfl)
def G4 {st:SortSt}{lo nrem:Nat}(L:jg prog w A s kd P)(G:Good P xs0)(B:SB kd xs0 st)(h1:1<=nrem)(hn:lo + nrem<=xs0.size)(h:∀ m st',SB kd xs0 st'->pendingOf st'=pendingOf st->1<=m->m<=nrem->Q (some m) st') :
  wpS (model prog w) A E s (countRun' lo nrem) Q st:=by
 unfold countRun';refine RU (Sl (Sm (I:=fun x c st'=>st'=st/\c.1=none/\c.2=x) (Q:=fun c st'=>st'=st/\c.1=none/\1<=c.2/\c.2<=nrem) ?step ?fin ⟨rfl,rfl,rfl⟩) ?post)
 case step =>
  rintro x ⟨o,n⟩ st' a b ⟨rfl,rfl,rfl⟩;dsimp only;refine RU (fU L G B (by dsimp only at a b;lia) (by dsimp only at a b;lia) fun c=>?_)
  dsimp only;refine cK (fun _=>RV ⟨rfl,rfl,by dsimp only at a b ⊢;lia,by dsimp only at a b ⊢;lia⟩) (fun _=>RV ⟨rfl,rfl,rfl⟩)
 case fin =>
  rintro ⟨o,n⟩ st' ⟨rfl,rfl,e⟩;dsimp only at e;exact ⟨rfl,rfl,by dsimp only;lia,by dsimp only;lia⟩
 case post =>
  rintro ⟨o,n⟩ st' ⟨rfl,rfl,n1,n2⟩;dsimp only at n1 n2 ⊢;refine eE (fun e=>RV (h _ _ B rfl n1 n2)) (fun e=>?_)
  refine cK (fun n0=>?_) (fun n0=>?_)
  ·refine RU (fU L G B (by lia) (by lia) fun c=>?_)
   dsimp only;refine cK (fun _=>RV (h _ _ B rfl n1 n2)) (fun _=>?_)
   refine RU (iT B fun st6 B6 p6=>?_)
   refine RU (UN (TJ ⟨rfl,?_⟩));refine RU (Sl (Sm (I:=fun x c st2=>SB kd xs0 st2/\pendingOf st2=pendingOf st'/\c.1=none/\c.2.1=x) (Q:=fun c st2=>SB kd xs0 st2/\pendingOf st2=pendingOf st'/\c.1=none/\1<=c.2.1/\c.2.1<=nrem) ?step1 ?fin1 ⟨B6,p6,rfl,rfl⟩) ?post1)
   case step1 =>
    rintro x ⟨o,m,q⟩ st2 a b ⟨B2,p2,rfl,rfl⟩;dsimp only at a b ⊢;refine RU (fU L G B2 (by lia) (by lia) fun c=>?_)
    dsimp only;refine cK (fun _=>?_) (fun _=>?_)
    ·refine cK (fun _=>?_) (fun _=>?_)
     ·exact RU (iT B2 fun st3 B3 p3=>RV ⟨B3,p3.trans p2,rfl,rfl⟩)
     ·exact RV ⟨B2,p2,rfl,rfl⟩
    ·refine RU (fU L G B2 (by lia) (by lia) fun c2=>?_)
     dsimp only;refine cK (fun _=>?_) (fun _=>?_)
     ·exact RV ⟨B2,p2,rfl,by dsimp only;lia,by dsimp only;lia⟩
     ·exact RV ⟨B2,p2,rfl,rfl⟩
   case fin1 =>
    rintro ⟨o,m,q⟩ st2 ⟨B2,p2,rfl,e2⟩;dsimp only at e2;exact ⟨B2,p2,rfl,by dsimp only;lia,by dsimp only;lia⟩
   case post1 =>
    rintro ⟨o,m,q⟩ st2 ⟨B2,p2,rfl,m1,m2⟩;dsimp only at m1 m2 ⊢;refine cK (fun _=>?_) (fun _=>?_)
    ·refine RU (iT B2 fun st3 B3 p3=>?_)
     refine RU (iT B3 fun st4 B4 p4=>?_)
     refine RU (Sl (Sm (I:=fun x c st5=>st5=st4/\c.1=none/\c.2=x) (Q:=fun c st5=>st5=st4/\c.1=none/\1<=c.2/\c.2<=nrem) ?stepL2 ?finL2 ⟨rfl,rfl,rfl⟩) ?postL2)
     case stepL2 =>
      rintro x ⟨o,m⟩ st5 a b ⟨rfl,rfl,rfl⟩;dsimp only at a b ⊢;refine RU (fU L G B4 (by lia) (by lia) fun c=>?_)
      dsimp only;refine cK (fun _=>RV ⟨rfl,rfl,by dsimp only;lia,by dsimp only;lia⟩) (fun _=>RV ⟨rfl,rfl,rfl⟩)
     case finL2 =>
      rintro ⟨o,m⟩ st5 ⟨rfl,rfl,e2⟩;dsimp only at e2;exact ⟨rfl,rfl,by dsimp only;lia,by dsimp only;lia⟩
     case postL2 =>
      rintro ⟨o,m⟩ st5 ⟨rfl,rfl,k1,k2⟩;dsimp only at k1 k2 ⊢;exact RV (h _ _ B4 (p4.trans (p3.trans p2)) k1 k2)
    ·refine RU (iT B2 fun st4 B4 p4=>?_)
     refine RU (Sl (Sm (I:=fun x c st5=>st5=st4/\c.1=none/\c.2=x) (Q:=fun c st5=>st5=st4/\c.1=none/\1<=c.2/\c.2<=nrem) ?stepL3 ?finL3 ⟨rfl,rfl,rfl⟩) ?postL3)
     case stepL3 =>
      rintro x ⟨o,m⟩ st5 a b ⟨rfl,rfl,rfl⟩;dsimp only at a b ⊢;refine RU (fU L G B4 (by lia) (by lia) fun c=>?_)
      dsimp only;refine cK (fun _=>RV ⟨rfl,rfl,by dsimp only;lia,by dsimp only;lia⟩) (fun _=>RV ⟨rfl,rfl,rfl⟩)
     case finL3 =>
      rintro ⟨o,m⟩ st5 ⟨rfl,rfl,e2⟩;dsimp only at e2;exact ⟨rfl,rfl,by dsimp only;lia,by dsimp only;lia⟩
     case postL3 =>
      rintro ⟨o,m⟩ st5 ⟨rfl,rfl,k1,k2⟩;dsimp only at k1 k2 ⊢;exact RV (h _ _ B4 (p4.trans p2) k1 k2)
  ·have p6:pendingOf st'=pendingOf st':=rfl;refine RU (UN (TJ ⟨rfl,?_⟩));refine RU (Sl (Sm (I:=fun x c st2=>SB kd xs0 st2/\pendingOf st2=pendingOf st'/\c.1=none/\c.2.1=x) (Q:=fun c st2=>SB kd xs0 st2/\pendingOf st2=pendingOf st'/\c.1=none/\1<=c.2.1/\c.2.1<=nrem) ?step4 ?fin4 ⟨B,p6,rfl,rfl⟩) ?post4)
   case step4 =>
    rintro x ⟨o,m,q⟩ st2 a b ⟨B2,p2,rfl,rfl⟩;dsimp only at a b ⊢;refine RU (fU L G B2 (by lia) (by lia) fun c=>?_)
    dsimp only;refine cK (fun _=>?_) (fun _=>?_)
    ·refine cK (fun _=>?_) (fun _=>?_)
     ·exact RU (iT B2 fun st3 B3 p3=>RV ⟨B3,p3.trans p2,rfl,rfl⟩)
     ·exact RV ⟨B2,p2,rfl,rfl⟩
    ·refine RU (fU L G B2 (by lia) (by lia) fun c2=>?_)
     dsimp only;refine cK (fun _=>?_) (fun _=>?_)
     ·exact RV ⟨B2,p2,rfl,by dsimp only;lia,by dsimp only;lia⟩
     ·exact RV ⟨B2,p2,rfl,rfl⟩
   case fin4 =>
    rintro ⟨o,m,q⟩ st2 ⟨B2,p2,rfl,e2⟩;dsimp only at e2;exact ⟨B2,p2,rfl,by dsimp only;lia,by dsimp only;lia⟩
   case post4 =>
    rintro ⟨o,m,q⟩ st2 ⟨B2,p2,rfl,m1,m2⟩;dsimp only at m1 m2 ⊢;refine cK (fun _=>?_) (fun _=>?_)
    ·refine RU (iT B2 fun st3 B3 p3=>?_)
     refine RU (iT B3 fun st4 B4 p4=>?_)
     refine RU (Sl (Sm (I:=fun x c st5=>st5=st4/\c.1=none/\c.2=x) (Q:=fun c st5=>st5=st4/\c.1=none/\1<=c.2/\c.2<=nrem) ?stepL5 ?finL5 ⟨rfl,rfl,rfl⟩) ?postL5)
     case stepL5 =>
      rintro x ⟨o,m⟩ st5 a b ⟨rfl,rfl,rfl⟩;dsimp only at a b ⊢;refine RU (fU L G B4 (by lia) (by lia) fun c=>?_)
      dsimp only;refine cK (fun _=>RV ⟨rfl,rfl,by dsimp only;lia,by dsimp only;lia⟩) (fun _=>RV ⟨rfl,rfl,rfl⟩)
     case finL5 =>
      rintro ⟨o,m⟩ st5 ⟨rfl,rfl,e2⟩;dsimp only at e2;exact ⟨rfl,rfl,by dsimp only;lia,by dsimp only;lia⟩
     case postL5 =>
      rintro ⟨o,m⟩ st5 ⟨rfl,rfl,k1,k2⟩;dsimp only at k1 k2 ⊢;exact RV (h _ _ B4 (p4.trans (p3.trans p2)) k1 k2)
    ·refine RU (iT B2 fun st4 B4 p4=>?_)
     refine RU (Sl (Sm (I:=fun x c st5=>st5=st4/\c.1=none/\c.2=x) (Q:=fun c st5=>st5=st4/\c.1=none/\1<=c.2/\c.2<=nrem) ?stepL6 ?finL6 ⟨rfl,rfl,rfl⟩) ?postL6)
     case stepL6 =>
      rintro x ⟨o,m⟩ st5 a b ⟨rfl,rfl,rfl⟩;dsimp only at a b ⊢;refine RU (fU L G B4 (by lia) (by lia) fun c=>?_)
      dsimp only;refine cK (fun _=>RV ⟨rfl,rfl,by dsimp only;lia,by dsimp only;lia⟩) (fun _=>RV ⟨rfl,rfl,rfl⟩)
     case finL6 =>
      rintro ⟨o,m⟩ st5 ⟨rfl,rfl,e2⟩;dsimp only at e2;exact ⟨rfl,rfl,by dsimp only;lia,by dsimp only;lia⟩
     case postL6 =>
      rintro ⟨o,m⟩ st5 ⟨rfl,rfl,k1,k2⟩;dsimp only at k1 k2 ⊢;exact RV (h _ _ B4 (p4.trans p2) k1 k2)
def OB {st:SortSt}{lo n k:Nat}(L:jg prog w A s kd P)(G:Good P xs0)(B:SB kd xs0 st)(hn:lo + n<=xs0.size)(h:∀ st',SB kd xs0 st'->pendingOf st'=pendingOf st->Q true st') :
  wpS (model prog w) A E s (binarySort' lo n k) Q st:=by
 unfold binarySort';refine RU (Sl (Sm (I:=fun x c st'=>SB kd xs0 st'/\pendingOf st'=pendingOf st/\c.1=none) (Q:=fun c st'=>SB kd xs0 st'/\pendingOf st'=pendingOf st/\c.1=none) ?step (fun _ _ q=>q) ⟨B,rfl,rfl⟩) ?post)
 case post =>
  rintro ⟨o,u⟩ st' ⟨B1,p1,rfl⟩;exact RV (h _ B1 p1)
 case step =>
  rintro x ⟨o,u⟩ st' a b ⟨B1,p1,rfl⟩;dsimp only;refine RU (Sl (Sm (I:=fun y c st2=>st2=st'/\c.1=none/\c.2.2<=x) (Q:=fun c st2=>st2=st'/\c.1=none/\c.2.2<=x) ?step1 (fun _ _ q=>q) ⟨rfl,rfl,RW _⟩) ?post1)
  case step1 =>
   rintro y ⟨o,l,r⟩ st2 _ _ ⟨rfl,rfl,le⟩;dsimp only at le ⊢;refine cK (fun _=>RV ⟨rfl,rfl,le⟩) (fun lr=>?_)
   refine RU (fU L G B1 (by lia) (by lia) fun c=>?_)
   dsimp only;refine cK (fun _=>RV ⟨rfl,rfl,by dsimp only;lia⟩) (fun _=>RV ⟨rfl,rfl,le⟩)
  case post1 =>
   rintro ⟨o,l,r⟩ st2 ⟨rfl,rfl,le⟩;dsimp only;refine RU (TN ?_);exact RV ⟨⟨(bubble_perm _ _ _).trans B1.perm,B1.kind,B1.ok⟩,p1,rfl⟩
end
theorem zq (sa:Nat):∀ (l:List Keyed) (i:Nat)(a:Array Keyed),sa + i + l.length<=a.size->((l.zipIdx i).foldl (fun a (x:Keyed×Nat)=>a.setIfInBounds (sa + x.2) x.1) a).toList=a.toList.take (sa + i)++(l++a.toList.drop (sa + i + l.length))
 | [],i,a,h=>by simp
 | p::r,i,a,h=>by
  have hl:(p::r).length=r.length + 1:=rfl;rw [hl] at h;rw [List.zipIdx_cons,List.foldl_cons,zq sa r (i + 1) _ (by rw [Array.size_setIfInBounds];lia)]
  rw [Array.toList_setIfInBounds];have lt:sa + i < a.toList.length:=by simp;lia
  have e1:(a.toList.set (sa + i) p).take (sa + (i + 1))=a.toList.take (sa + i)++[p]:=by
   rw [show sa + (i + 1)=sa + i + 1 by lia,VL,List.take_set_of_le (RW _),V2 lt]
   rfl
  have e2:(a.toList.set (sa + i) p).drop (sa + (i + 1) + r.length)=a.toList.drop (sa + i + (p::r).length):=by
   rw [List.drop_set_of_lt (by lia),hl]
   congr 1;lia
  rw [e1,e2];simp
def seg (a:Array Keyed){i j k:Nat}(h1:i<=j)(h2:j<=k):a.toList=a.toList.take i++((a.extract i j).toList++((a.extract j k).toList++a.toList.drop k)):=by
 have e1:=jk a h1;have e2:=jk a h2;rw [<- e2,<- e1,Vp]
section
variable {prog:Program}{w:World}{A:Around}{E:XE}{s:Shared}{kd:SortKind}{P:Value->Prop}{xs0:Array Keyed}
theorem Good.extract (G:Good P xs) (i j:Nat):Good P (xs.extract i j):=fun k p h=>by
 rw [WI] at h;split at h
 ·exact G _ _ h
 ·cases h
def GP {st:SortSt}{i sa na pw sb nb pb:Nat}(L:jg prog w A s kd P)(G:Good P xs0)(B:SB kd xs0 st)(e1:(pendingOf st)[i]?=some (sa,na,pw))(e2:(pendingOf st)[i + 1]?=some (sb,nb,pb))(c:sb=sa + na)(n1:1<=na)(n2:1<=nb)(le:sb + nb<=xs0.size)
  (h:∀ st',SB kd xs0 st'->pendingOf st'=((pendingOf st).setIfInBounds i (sa,na + nb,pw)).eraseIdxIfInBounds (i + 1)->Q true st'):wpS (model prog w) A E s (mergeAt' i) Q st:=by
 have G':=G.perm B.perm;have sz:=B.size;unfold mergeAt';refine RU (wpS_get ?_);dsimp only;rw [e1,e2];dsimp only;refine RU (?_:wpS _ _ _ _ (set _) _ _);unfold wpS;rw [StateT.run_set];refine R9 ⟨rfl,?_⟩;refine RU (j8 (by rw [sz];lia) fun p hp=>?_)
 have B1:SB kd xs0 (SortSt.mk' (kindOf st) (arrOf st) (((pendingOf st).setIfInBounds i (sa,na + nb,pw)).eraseIdxIfInBounds (i + 1)) (gallopOf st) (failedOf st)):=⟨B.perm,B.kind,B.ok⟩;refine RU (pH L B.kind (G' _ _ hp) G' (show sa + na<=(arrOf st).size by lia) (by lia) fun k hk=>?_)
 dsimp only;refine eE (fun _=>RV (h _ B1 rfl)) (fun e3=>?_)
 refine RU (j8 (show sa + k + (na - k) - 1 < (arrOf st).size by lia) fun p2 hp2=>?_)
 refine RU (pH L B.kind (G' _ _ hp2) G' (show sb + nb<=(arrOf st).size by lia) (by lia) fun k2 hk2=>?_)
 dsimp only;refine eE (fun _=>RV (h _ B1 rfl)) (fun e4=>?_)
 have x1:((arrOf st).extract (sa + k) sb).size=sb - (sa + k):=by
  rw [VA];lia
 have x2:((arrOf st).extract sb (sb + k2)).size=k2:=by
  rw [VA];lia
 have fin:∀ zs:Array Keyed,zs.toList.Perm (((arrOf st).extract (sa + k) sb).toList++((arrOf st).extract sb (sb + k2)).toList)->(zs.toList.zipIdx.foldl (fun a (x:Keyed×Nat)=>a.setIfInBounds (sa + k + x.2) x.1) (arrOf st)).Perm xs0:=fun zs pm=>by
  have zl:zs.toList.length=sb + k2 - (sa + k):=by
   rw [pm.length_eq,SJ,TU,TU,x1,x2];lia
  refine Array.Perm.trans (Wc.mpr ?_) B.perm;rw [zq (sa + k) zs.toList 0 (arrOf st) (by lia)]
  have e:=seg (arrOf st) (show sa + k<=sb by lia) (show sb<=sb + k2 by lia)
  rw [Nat.add_zero,show sa + k + zs.toList.length=sb + k2 by lia]
  conv=>rhs;rw [e]
  refine Tw _ ?_;rw [<- Sh];exact pm.append_right _
 refine cK (fun _=>?_) (fun _=>?_)
 ·refine RU (PF L B.kind (G'.extract _ _) (G'.extract _ _) (show 1<=((arrOf st).extract (sa + k) sb).size by lia) (show 1<=((arrOf st).extract sb (sb + k2)).size by lia) fun zs st2 g pm=>?_)
  obtain ⟨g1,g2,g3,g4⟩:=g;refine RU (TN ?_);refine RU (wpS_get ?_);refine RV ?_;have e:(failedOf st2).isNone=true:=by
   rw [g4];show (failedOf st).isNone=true;rw [B.ok];rfl
  show Q (failedOf st2).isNone _;rw [e];refine h _ ⟨?_,g1.trans B.kind,g4.trans B.ok⟩ g3;show (zs.toList.zipIdx.foldl (fun a (x:Keyed×Nat)=>a.setIfInBounds (sa + k + x.2) x.1) (arrOf st2)).Perm xs0
  rw [g2];exact fin zs pm
 ·refine RU (Po L B.kind (G'.extract _ _) (G'.extract _ _) (show 1<=((arrOf st).extract (sa + k) sb).size by lia) (show 1<=((arrOf st).extract sb (sb + k2)).size by lia) fun zs st2 g pm=>?_)
  obtain ⟨g1,g2,g3,g4⟩:=g;refine RU (TN ?_);refine RU (wpS_get ?_);refine RV ?_;have e:(failedOf st2).isNone=true:=by
   rw [g4];show (failedOf st).isNone=true;rw [B.ok];rfl
  show Q (failedOf st2).isNone _;rw [e];refine h _ ⟨?_,g1.trans B.kind,g4.trans B.ok⟩ g3;show (zs.toList.zipIdx.foldl (fun a (x:Keyed×Nat)=>a.setIfInBounds (sa + k + x.2) x.1) (arrOf st2)).Perm xs0
  rw [g2];exact fin zs pm
end
def Cont:Nat->List (Nat×Nat×Nat)->Nat->Prop
 | f,[],lo=>f=lo
 | f,(s,n,_)::r,lo=>s=f/\1<=n/\Cont (f + n) r lo
theorem Cont.le:∀ {l:List (Nat×Nat×Nat)}{f lo:Nat},Cont f l lo->f<=lo
 | [],f,lo,h=>VD h
 | (s,n,p)::r,f,lo,⟨_,h1,h⟩=>by
  have:=Cont.le h;lia
theorem Cont.two:∀ {l:List (Nat×Nat×Nat)}{f lo:Nat} (i:Nat),Cont f l lo->i + 1 < l.length->∃ sa na pw sb nb pb,l[i]?=some (sa,na,pw)/\l[i + 1]?=some (sb,nb,pb)/\sb=sa + na/\1<=na/\1<=nb/\sb + nb<=lo
 | (s,n,p)::(s2,n2,p2)::r,f,lo,0,⟨h1,h2,h3,h4,h5⟩,_=>⟨s,n,p,s2,n2,p2,rfl,rfl,by lia,h2,h4,by have:=h5.le;lia⟩
 | (s,n,p)::r,f,lo,i + 1,⟨_,_,h⟩,hl=>Cont.two i h (by simpa using hl)
 | [],_,_,_,_,hl=>by simp at hl
 | [_],_,_,0,_,hl=>by simp at hl
theorem Cont.merge:∀ {l:List (Nat×Nat×Nat)}{f lo:Nat} (i:Nat){sa na pw sb nb pb:Nat},Cont f l lo->l[i]?=some (sa,na,pw)->l[i + 1]?=some (sb,nb,pb)->Cont f ((l.set i (sa,na + nb,pw)).eraseIdx (i + 1)) lo
 | (s,n,p)::(s2,n2,p2)::r,f,lo,0,sa,na,pw,sb,nb,pb,⟨h1,h2,h3,h4,h5⟩,e1,e2=>by
  cases e1;cases e2;refine ⟨h1,by lia,?_⟩
  rw [<- Nat.add_assoc];exact h5
 | (s,n,p)::r,f,lo,i + 1,sa,na,pw,sb,nb,pb,⟨h1,h2,h⟩,e1,e2=>⟨h1,h2,Cont.merge i h e1 e2⟩
 | [],_,_,_,_,_,_,_,_,_,_,e1,_=>by cases e1
 | [_],_,_,0,_,_,_,_,_,_,_,_,e2=>by cases e2
theorem Cont.mod (pw:Nat):∀ {l:List (Nat×Nat×Nat)}{f lo:Nat} (j:Nat),Cont f l lo->Cont f (l.modify j fun x=>(x.1,x.2.1,pw)) lo
 | [],f,lo,j,h=>by
  rw [List.modify_nil];exact h
 | (s,n,p)::r,f,lo,0,⟨h1,h2,h⟩=>⟨h1,h2,h⟩
 | (s,n,p)::r,f,lo,j + 1,⟨h1,h2,h⟩=>⟨h1,h2,Cont.mod pw j h⟩
theorem Cont.push {n:Nat}(hn:1<=n):∀ {l:List (Nat×Nat×Nat)}{f lo:Nat},Cont f l lo->Cont f (l++[(lo,n,0)]) (lo + n)
 | [],f,lo,h=>⟨h.symm,hn,by show f + n=lo + n;rw [show f=lo from h]⟩
 | (s,m,p)::r,f,lo,⟨h1,h2,h⟩=>⟨h1,h2,Cont.push hn h⟩
section
variable {prog:Program}{w:World}{A:Around}{E:XE}{s:Shared}{kd:SortKind}{P:Value->Prop}{xs0:Array Keyed}
def rH {st:SortSt}{i lo:Nat}(L:jg prog w A s kd P)(G:Good P xs0)(B:SB kd xs0 st)(C:Cont 0 (pendingOf st).toList lo)(le:lo<=xs0.size)(hi:i + 1 < (pendingOf st).size)
  (h:∀ st',SB kd xs0 st'->Cont 0 (pendingOf st').toList lo->Q true st'):wpS (model prog w) A E s (mergeAt' i) Q st:=by
 obtain ⟨sa,na,pw,sb,nb,pb,e1,e2,c,n1,n2,l2⟩:=C.two i (by simpa using hi)
 refine GP L G B (by rw [<- Sk];exact e1) (by rw [<- Sk];exact e2) c n1 n2 (by lia) fun st' B' p'=>h st' B' ?_
 rw [p',Array.toList_eraseIdxIfInBounds,Array.toList_setIfInBounds];exact C.merge i e1 e2
def Kp {st:SortSt}(L:jg prog w A s kd P)(G:Good P xs0)(B:SB kd xs0 st)(p0:pendingOf st=#[])(h:∀ st',SB kd xs0 st'->Q () st'):wpS (model prog w) A E s sortRuns' Q st:=by
 rw [sortRuns'_eq];refine RU (wpS_get ?_);dsimp only;rw [B.size];refine RU (Sl (Sm (I:=fun x c st'=>SB kd xs0 st'/\c.1=none/\Cont 0 (pendingOf st').toList c.2/\c.2<=xs0.size) (Q:=fun c st'=>SB kd xs0 st'/\c.1=none/\Cont 0 (pendingOf st').toList c.2/\c.2<=xs0.size) ?step (fun _ _ q=>q) ⟨B,rfl,by rw [p0];rfl,Sd _⟩) ?post)
 case step =>
  rintro x ⟨o,lo⟩ st' _ _ ⟨B1,rfl,C1,l1⟩;dsimp only at C1 l1 ⊢;refine cK (fun _=>RV ⟨B1,rfl,C1,l1⟩) (fun ge=>?_)
  refine RU (G4 L G B1 (by lia) (by lia) fun m st2 B2 p2 m1 m2=>?_)
  dsimp only;have C2:Cont 0 (pendingOf st2).toList lo:=by rw [p2];exact C1
  refine cK (fun lt=>?_) (fun lt=>?_)
  ·refine RU (UN (TJ ⟨rfl,?_⟩));generalize hf:min (xs0.size - lo) (minRun' xs0.size xs0.size 0)=force;have f1:1<=force:=by lia
   have f2:lo + force<=xs0.size:=by lia
   refine RU (OB L G B2 f2 fun st3 B3 p3=>?_)
   have C3:Cont 0 (pendingOf st3).toList lo:=by rw [p3];exact C2
   refine cK (fun z=>absurd z (by decide)) (fun _=>?_)
   refine RU (wpS_get ?_);cases hb:(pendingOf st3).back? with
   | none =>
    dsimp only;refine RU (TN ?_);refine RV ⟨⟨B3.perm,B3.kind,B3.ok⟩,rfl,?_,f2⟩;show Cont 0 ((pendingOf st3).push (lo,force,0)).toList (lo + force);rw [VG];exact C3.push f1
   | some t =>
    obtain ⟨s1,n1',q1⟩:=t;dsimp only;refine RU (Sl (Sm (I:=fun y c st4=>SB kd xs0 st4/\c.1=none/\Cont 0 (pendingOf st4).toList lo) (Q:=fun c st4=>SB kd xs0 st4/\c.1=none/\Cont 0 (pendingOf st4).toList lo) ?step1 (fun _ _ q=>q) ⟨B3,rfl,C3⟩) ?post1)
    case step1 =>
     rintro y ⟨o,u⟩ st4 _ _ ⟨B4,rfl,C4⟩;refine RU (wpS_get ?_);cases hm:(if (pendingOf st4).size > 1 then (pendingOf st4)[(pendingOf st4).size - 2]? else none) with
     | none=>exact RV ⟨B4,rfl,C4⟩
     | some t =>
      obtain ⟨f1,f2,older⟩:=t;dsimp only;refine cK (fun _=>RV ⟨B4,rfl,C4⟩) (fun _=>?_)
      have s2:(pendingOf st4).size > 1:=by
       by_cases z:(pendingOf st4).size > 1
       ·exact z
       ·rw [if_neg z] at hm;cases hm
      refine RU (rH L G B4 C4 l1 (by lia) fun st5 B5 C5=>?_)
      exact cK (fun z=>absurd z (by decide)) (fun _=>RV ⟨B5,rfl,C5⟩)
    case post1 =>
     rintro ⟨o,u⟩ st4 ⟨B4,rfl,C4⟩;dsimp only;refine RU (TN ?_);refine RU (TN ?_);refine RV ⟨⟨B4.perm,B4.kind,B4.ok⟩,rfl,?_,f2⟩;refine id (?_:Cont 0 (((pendingOf st4).modify ((pendingOf st4).size - 1) fun x=>(x.1,x.2.1,_)).push (lo,force,0)).toList (lo + force))
     rw [VG,Array.toList_modify];exact (C4.mod _ _).push f1
  ·have f2:lo + m<=xs0.size:=by lia
   refine RU (wpS_get ?_);cases hb:(pendingOf st2).back? with
   | none =>
    dsimp only;refine RU (TN ?_);refine RV ⟨⟨B2.perm,B2.kind,B2.ok⟩,rfl,?_,f2⟩;show Cont 0 ((pendingOf st2).push (lo,m,0)).toList (lo + m);rw [VG];exact C2.push m1
   | some t =>
    obtain ⟨s1,n1',q1⟩:=t;dsimp only;refine RU (Sl (Sm (I:=fun y c st4=>SB kd xs0 st4/\c.1=none/\Cont 0 (pendingOf st4).toList lo) (Q:=fun c st4=>SB kd xs0 st4/\c.1=none/\Cont 0 (pendingOf st4).toList lo) ?step2 (fun _ _ q=>q) ⟨B2,rfl,C2⟩) ?post2)
    case step2 =>
     rintro y ⟨o,u⟩ st4 _ _ ⟨B4,rfl,C4⟩;refine RU (wpS_get ?_);cases hm:(if (pendingOf st4).size > 1 then (pendingOf st4)[(pendingOf st4).size - 2]? else none) with
     | none=>exact RV ⟨B4,rfl,C4⟩
     | some t =>
      obtain ⟨f1,f2,older⟩:=t;dsimp only;refine cK (fun _=>RV ⟨B4,rfl,C4⟩) (fun _=>?_)
      have s2:(pendingOf st4).size > 1:=by
       by_cases z:(pendingOf st4).size > 1
       ·exact z
       ·rw [if_neg z] at hm;cases hm
      refine RU (rH L G B4 C4 l1 (by lia) fun st5 B5 C5=>?_)
      exact cK (fun z=>absurd z (by decide)) (fun _=>RV ⟨B5,rfl,C5⟩)
    case post2 =>
     rintro ⟨o,u⟩ st4 ⟨B4,rfl,C4⟩;dsimp only;refine RU (TN ?_);refine RU (TN ?_);refine RV ⟨⟨B4.perm,B4.kind,B4.ok⟩,rfl,?_,f2⟩;refine id (?_:Cont 0 (((pendingOf st4).modify ((pendingOf st4).size - 1) fun x=>(x.1,x.2.1,_)).push (lo,m,0)).toList (lo + m))
     rw [VG,Array.toList_modify];exact (C4.mod _ _).push m1
 case post =>
  rintro ⟨o,lo⟩ st' ⟨B1,rfl,C1,l1⟩;dsimp only at C1 l1 ⊢;refine RU (Sl (Sm (I:=fun y c st4=>SB kd xs0 st4/\c.1=none/\Cont 0 (pendingOf st4).toList lo) (Q:=fun c st4=>SB kd xs0 st4/\c.1=none/\Cont 0 (pendingOf st4).toList lo) ?stepE (fun _ _ q=>q) ⟨B1,rfl,C1⟩) ?postE)
  case stepE =>
   rintro y ⟨o,u⟩ st4 _ _ ⟨B4,rfl,C4⟩;refine RU (wpS_get ?_);refine cK (fun _=>RV ⟨B4,rfl,C4⟩) (fun gt=>?_)
   refine RU (rH L G B4 C4 l1 (by (repeat' split) <;> lia) fun st5 B5 C5=>?_)
   exact cK (fun z=>absurd z (by decide)) (fun _=>RV ⟨B5,rfl,C5⟩)
  case postE =>
   rintro ⟨o,u⟩ st4 ⟨B4,rfl,C4⟩;dsimp only;exact RV (h _ B4)
end
def IsPair (h:Heap)(v:Value):Prop:=∃ (a:Addr)(o:Obj) (i j:Int)(t u:Tok) (n:Nat),v=.ref a/\h.get? a=some o/\o.cls=.type "tuple"/\o.data=.seq #[.int i t,.int j u] n
section
variable {prog:Program}{w:World}{A:Around}{E:XE}{s:Shared}
def MC (b:Bool){i j:Int}(h:∀ c,Q c s):wpAny (model prog w) A (oneLt' b (.int i t) (.int j u)) Q E s:=by
 cases b with
 | true=>exact oneLt_int (h _)
 | false =>
  rw [oneLt'_eq];rw [if_neg SQ];refine R8 (?_:wpAny _ _ (compareOp .Lt (.int i t) (.int j u)) _ _ _);exact lt_int (UB (h _))
def BN:jg prog w A s (tuples' true) (IsPair s.heap):=by
 rintro E x y ⟨a,o,i,j,t,u,n,rfl,ho,hc,hd⟩ ⟨a2,o2,i2,j2,t2,u2,n2,rfl,ho2,hc2,hd2⟩ Q h;refine R8 (Vs ho hd ?_);refine R8 (Vs ho2 hd2 ?_);dsimp only;refine R8 ?_;refine wpAny_forIn_list _ (fun rest r s'=>s'=s/\r.1=none/\∀ x∈rest,∃ (i j:Int)(t u:Tok),x.1=(Value.int i t,Value.int j u)) _ ?_ ?_ _ _ ⟨rfl,rfl,fun x hx=>?_⟩
 ·rintro ⟨⟨p,q⟩,k⟩ rest ⟨r,⟨⟩⟩ s' ⟨rfl,rfl,hall⟩;obtain ⟨i3,j3,t3,u3,e⟩:=hall _ RT;dsimp only at e;cases e;dsimp only;refine R8 ((intKind prog w).eqBool (a:=i3) (b:=j3) (intKind_is _ _ i3 t3) (intKind_is _ _ j3 u3) ?_);cases decide (i3=j3) with
  | true=>exact R9 ⟨rfl,rfl,fun x hx=>hall x (RY _ hx)⟩
  | false=>exact R8 (MC _ fun c=>R9 (R9 (h c)))
 ·rintro ⟨r,⟨⟩⟩ s' ⟨rfl,rfl,_⟩;exact R9 (h _)
 ·have hx':x=((Value.int i t,Value.int i2 t2),0)\/x=((Value.int j u,Value.int j2 u2),1):=by simpa using hx
  rcases hx' with rfl | rfl
  ·exact ⟨_,_,_,_,rfl⟩
  ·exact ⟨_,_,_,_,rfl⟩
def Cn (hv:IsPair s.heap v)(h:∀ i t,Q (some (.int i t)) s):wpAny (model prog w) A (firstOfTuple' v) Q E s:=by
 obtain ⟨a,o,i,j,t,u,n,rfl,ho,hc,hd⟩:=hv;unfold firstOfTuple';refine R8 (Ul (T:="tuple") ⟨o,ho,hc⟩ ?_);rw [if_neg (by decide)]
 refine R8 (Vs ho hd (R9 ?_));exact h i t
theorem firsts:∀ {vs:XU},(∀ v∈vs,IsPair s.heap v)->(∀ os:List (XQ),os.length=vs.length->(∀ o∈os,∃ i t,o=some (Value.int i t))->Q os s)->wpAny (model prog w) A (vs.mapM firstOfTuple') Q E s
 | [],_,h=>by
  rw [List.mapM_nil];exact R9 (h [] rfl fun o ho=>(nomatch ho))
 | v::r,hv,h=>by
  rw [List.mapM_cons];refine R8 (Cn (hv v RT) fun i t=>?_)
  refine R8 (firsts (fun x hx=>hv x (RY _ hx)) fun os ol oh=>?_)
  refine R9 (h _ (by simp [ol]) fun o ho=>?_)
  rcases S2.mp ho with rfl | ho
  ·exact ⟨i,t,rfl⟩
  ·exact oh o ho
def B9 {Q:SortKind->Shared->Prop}(h0:vs≠[])(hv:∀ v∈vs,IsPair s.heap v)(h:Q (tuples' true) s):wpAny (model prog w) A (keyKind' vs.toArray) Q E s:=by
 rw [keyKind'_eq,List.mapM_toArray];rw [map_eq_pure_bind,bind_assoc];refine R8 (firsts hv fun os ol oh=>?_)
 rw [pure_bind];have all:os.toArray.all (·.isSome)=true:=by
  rw [List.all_toArray,SH];intro o ho;obtain ⟨i,t,rfl⟩:=oh o ho;rfl
 rw [if_pos all];refine R8 (TJ ?_);have inte:∃ us:XU,os.toArray.filterMap id=us.toArray/\us≠[]/\∃ ns,IntsAre us ns:=by
  have go:∀ os:List (XQ),(∀ o∈os,∃ i t,o=some (Value.int i t))->∃ us ns,os.filterMap id=us/\us.length=os.length/\IntsAre us ns:=fun os=>by
   induction os with
   | nil=>exact fun _=>⟨[],[],rfl,rfl,.nil⟩
   | cons o r ih =>
    intro hh;obtain ⟨i,t,rfl⟩:=hh o RT;obtain ⟨us,ns,e,l,I⟩:=ih fun x hx=>hh x (RY _ hx)
    exact ⟨.int i t::us,i::ns,by simp [e],by simp [l],.cons i t I⟩
  obtain ⟨us,ns,e,l,I⟩:=go os oh;refine ⟨us,?_,fun z=>h0 ?_,ns,I⟩
  ·rw [List.filterMap_toArray,e]
  ·rw [z] at l;have:vs.length=0:=by
    rw [<- ol,<- l];rfl
   exact WQ.mp this
 obtain ⟨us,e,un,ns,I⟩:=inte;rw [e,oneTypeOnly'_eq,List.mapM_toArray,mapM_typeOf_ints I];simp only [map_pure,pure_bind];obtain ⟨u0,ur,rfl⟩:=List.exists_cons_of_ne_nil un;have hall:((List.map (fun _=>Value.type "int") (u0::ur)).toArray.all fun x=>x == Value.type "int")=true:=by
  simp only [List.all_toArray,VM,SH];intro _ _;rfl
 have h1:(List.map (fun _=>Value.type "int") (u0::ur)).toArray[0]?=some (Value.type "int"):=by simp
 rw [h1];simp only [hall,if_true,pure_bind];exact R9 h
end
def IsPair.keep {a:Addr}(p:IsPair h v)(ha:h.get? a=some c)(hc:c.cls=.type "list")(k:∀ b o,b≠a->h.get? b=some o->h'.get? b=some o):IsPair h' v:=by
 obtain ⟨b,o,i,j,t,u,n,rfl,ho,hco,hd⟩:=p;refine ⟨b,o,i,j,t,u,n,rfl,k b o (fun z=>?_) ho,hco,hd⟩
 rw [z,ha] at ho;cases ho;rw [hc] at hco;injection hco with z
 exact absurd z (by decide)
section
variable {prog:Program}{w:World}{A:Around}{E:XE}{s:Shared}
def CC {a:Addr}{n:Nat}(ho:s.heap.get? a=some (seqObj "list" vs.toArray n))(hv:∀ v∈vs,IsPair s.heap v)(few:vs.length<=1000)
  (h:∀ us:XR,us.toList.Perm vs->R (.done (.ret .none)) { s with heap:=sortedHeap s.heap a vs us }):wpAny (model prog w) A (Builtin.«list.sort» ⟨[.ref a],[]⟩) R E s:=by
 have line:(1000:Nat)<=sizeLine:=by decide
 have az:a < s.heap.objs.size:=S3 ho;rw [list_sort_plain (a:Addr)];refine R8 (Vs ho rfl (?_:_))
 refine R8 (listUpdate_at ho rfl (?_:_) (by simp;lia) (by simp))
 obtain ⟨ep,g1⟩:∃ ep,(s.heap.update a (Obj.mapSeq fun _=>#[])).get? a=some (seqObj "list" #[] ep):=⟨_,get?_update_seq ho fun _=>#[]⟩
 refine R8 (seqEpoch_at g1 rfl (?_:_))
 refine R8 (wpAny_newTuple (?_:_) (by simp;lia))
 refine R8 (Vo (?_:_))
 refine Sx (?_:_)
 have g6:(((s.heap.update a (Obj.mapSeq fun _=>#[])).push (seqObj "tuple" vs.toArray 0)).push (seqObj "list" #[] 0)).get? a=some (seqObj "list" #[] ep):=S5 _ (S5 _ g1)
 have keep:∀ b o,b≠a->s.heap.get? b=some o->(((s.heap.update a (Obj.mapSeq fun _=>#[])).push (seqObj "tuple" vs.toArray 0)).push (seqObj "list" #[] 0)).get? b=some o:=fun b o hb e=>S5 _ (S5 _ ((Sz _ _ (Ne.symm hb)).trans e))
 have hv6:∀ v∈vs,IsPair (((s.heap.update a (Obj.mapSeq fun _=>#[])).push (seqObj "tuple" vs.toArray 0)).push (seqObj "list" #[] 0)) v:=fun v m=>(hv v m).keep ho rfl keep
 refine id (?_:wpAny (model prog w) A _ R E { s with heap:=((s.heap.update a (Obj.mapSeq fun _=>#[])).push (seqObj "tuple" vs.toArray 0)).push (seqObj "list" #[] 0) })
 dsimp only;have psz:(vs.toArray.zip vs.toArray).size=vs.length:=by simp
 have out:∀ zs:Array Keyed,zs.Perm (vs.toArray.zip vs.toArray)->(zs.map (·.2)).toList.Perm vs:=fun zs p=>by
  have p2:=(Wc.mp p).map (·.2);rw [Array.toList_map];refine p2.trans ?_;have:((vs.toArray.zip vs.toArray).toList.map (·.2))=vs:=by
   rw [Array.toList_zip];simp [List.map_snd_zip]
  rw [this]
 by_cases h2:vs.toArray.size < 2
 ·rw [if_pos h2,if_pos h2];refine R8 (R9 (?_:_))
  rw [StateT.run_pure];refine R8 (R9 (?_:_))
  dsimp only;refine R8 (seqEpoch_at g6 rfl (?_:_))
  have o1:=out (vs.toArray.zip vs.toArray) (Array.Perm.refl _);have l1:=o1.length_eq;rw [TU] at l1;refine R8 (listUpdate_at g6 rfl (?_:_) (by simp) (SW (VD l1) (by lia)))
  simp only [bne_self_eq_false,VN,U4];refine R9 (?_:_)
  exact h _ o1
 ·rw [if_neg h2,if_neg h2];have ne:vs≠[]:=fun z=>h2 (by rw [z];decide)
  refine R8 (B9 (s:={ s with heap:=((s.heap.update a (Obj.mapSeq fun _=>#[])).push (seqObj "tuple" vs.toArray 0)).push (seqObj "list" #[] 0) }) ne hv6 (?_:_))
  refine R8 (Ss (Kp (kd:=tuples' true) (P:=IsPair (((s.heap.update a (Obj.mapSeq fun _=>#[])).push (seqObj "tuple" vs.toArray 0)).push (seqObj "list" #[] 0))) (xs0:=vs.toArray.zip vs.toArray) (s:={ s with heap:=((s.heap.update a (Obj.mapSeq fun _=>#[])).push (seqObj "tuple" vs.toArray 0)).push (seqObj "list" #[] 0) }) (Q:=fun _ st'=>SB (tuples' true) (vs.toArray.zip vs.toArray) st') BN (fun k p hp=>?_) ⟨Array.Perm.refl _,rfl,rfl⟩ rfl fun st' B=>B) ?_ fun _ _ e=>e)
  ·have m:p∈(vs.toArray.zip vs.toArray).toList:=SR (by rw [Sk];exact hp)
   rw [Array.toList_zip] at m;exact hv6 _ (Vb m).1
  ·rintro ⟨⟨⟩,st'⟩ s' ⟨rfl,B⟩;dsimp only;refine R8 (seqEpoch_at g6 rfl (?_:_))
   have o1:=out _ B.perm;have l1:=o1.length_eq;rw [TU] at l1;refine R8 (listUpdate_at g6 rfl (?_:_) (by simp) (SW (VD l1) (by lia)))
   rw [B.ok];simp only [bne_self_eq_false,VN,U4];refine R9 (?_:_)
   exact h _ o1
end
end TS
namespace L2
open PySem PySem.Spec PyProof.Rows
def DF (p:us.Perm its):∀ {ys:List V},Vals ys its->∃ zs,zs.Perm ys/\Vals zs us:=by
 induction p with
 | nil=>exact fun {ys} r=>⟨ys,List.Perm.refl _,r⟩
 | cons x _ ih =>
  intro ys r;cases r with
  | cons h r =>
   obtain ⟨zs,p1,r1⟩:=ih r;exact ⟨_::zs,p1.cons _,.cons h r1⟩
 | swap x y l =>
  intro ys r;cases r with
  | cons h r =>
   cases r with
   | cons h2 r=>exact ⟨_::_::_,List.Perm.swap _ _ _,.cons h2 (.cons h r)⟩
 | trans _ _ ih1 ih2 =>
  intro ys r;obtain ⟨zs,p1,r1⟩:=ih2 r;obtain ⟨ws,p2,r2⟩:=ih1 r1;exact ⟨ws,p2.trans p1,r2⟩
section
variable {X:Cx}
inductive Bg (K:XO)(xs:List V)(H:Hp)(Q:VK):Prop
 | mk:∀ (a:Addr)(ys:List V),(xs=[.ref a])->(bF K H a ys)->((∀ y∈ys,∃ (b:Addr) (i j:Int),y=.ref b/\cJ K H b [.int i,.int j]))->(ys.length<=1000)->(∀ (zs:List V)(p:Addr),zs.Perm ys->H p=none->Q (.ref p) (upd H p (.lst zs)))->Bg K xs H Q
def EH (K:XO):List V->Hp->VK->Prop:=fun xs H Q=>Bg K xs H Q
def zF:cF X (.builtin "sorted") (EH X.K):=by
 intro pins s U H xs us Q I r h;obtain ⟨a,ys,rfl,hq,tu,few,q⟩:=h;obtain ⟨u,rfl,ru⟩:=r.one;cases ru;obtain ⟨its,rv,p,_⟩:=I.list hq;have hlen:its.length=ys.length:=rv.length.symm;have hv:∀ v∈its,TS.IsPair s.heap v:=fun v m=>by
  obtain ⟨i,hi⟩:=U7 m;have go:∀ {ys:List V}{its:XU},Vals ys its->∀ (i:Nat)(u:Value),its[i]?=some u->∃ x,ys[i]?=some x/\RelV x u:=fun {ys its} r=>by
   induction r with
   | nil=>exact fun i u h=>(nomatch h)
   | cons h _ ih =>
    intro i u e;cases i with
    | zero =>
     cases e;exact ⟨_,rfl,h⟩
    | succ i=>exact ih i u e
  obtain ⟨x,hx,rx⟩:=go rv i v hi;obtain ⟨b,i1,j1,rfl,sb⟩:=tu x (SR hx);cases rx;obtain ⟨its2,r2,⟨o2,e2,c2,n2,d2⟩,_⟩:=I.tuple sb;cases r2 with
  | cons ra r3 =>
   cases r3 with
   | cons rb r4 =>
    cases r4;obtain ⟨t,rfl⟩:=ra;obtain ⟨u,rfl⟩:=rb;exact ⟨b,o2,i1,j1,t,u,n2,rfl,e2,c2,d2⟩
 have line:(1000:Nat)<=sizeLine:=by decide
 refine Calls.call_function_entry kind_sorted plain_sorted entry_sorted (args_sorted1 _) (?_:_)
 unfold Builtin.«sorted»;refine R8 (m:=checkCount "sorted" 1 1 _) (R9 (?_:_))
 refine R8 (collect_list p.isList (?_:_) (by lia))
 refine R8 (Vo (?_:_) (by lia))
 have sz:((s.heap.push (seqObj "list" #[] 0)).update s.heap.objs.size (Obj.mapSeq (·++its.toArray))).objs.size=s.heap.objs.size + 1:=by
  rw [Heap.size_update];exact size_push' _ _
 have g0:(((s.heap.push (seqObj "list" #[] 0)).update s.heap.objs.size (Obj.mapSeq (·++its.toArray))).push (seqObj "list" its.toArray 0)).get? (s.heap.objs.size + 1)=some (seqObj "list" its.toArray 0):=by
  rw [<- sz];exact SY _ rfl
 have old:∀ b o,s.heap.get? b=some o->(((s.heap.push (seqObj "list" #[] 0)).update s.heap.objs.size (Obj.mapSeq (·++its.toArray))).push (seqObj "list" its.toArray 0)).get? b=some o:=fun b o e=>S5 _ ((Sz _ _ (Tp (S3 e))).trans (S5 _ e))
 refine id (?_:wpAny _ _ _ _ _ { s with heap:=((s.heap.push (seqObj "list" #[] 0)).update s.heap.objs.size (Obj.mapSeq (·++its.toArray))).push (seqObj "list" its.toArray 0) })
 rw [sz];have hv2:∀ v∈its,TS.IsPair (((s.heap.push (seqObj "list" #[] 0)).update s.heap.objs.size (Obj.mapSeq (·++its.toArray))).push (seqObj "list" its.toArray 0)) v:=fun v m=>by
  obtain ⟨b,o,i,j,t,u,n,e,ho,r⟩:=hv v m;exact ⟨b,o,i,j,t,u,n,e,old b o ho,r⟩
 refine R8 (Sx (TX slot_list_sort ⟨_,g0,rfl⟩ entry_list_sort (TS.CC g0 hv2 (by lia) fun out pm=>⟨_,rfl,(?_:_)⟩) (args_list_sort _)))
 obtain ⟨n,hn⟩:=sortedHeap_at (vs:=its) (out:=out) g0;obtain ⟨zs,pz,rz⟩:=DF pm rv;have new:s.heap.get? (s.heap.objs.size + 1)=none:=V1 (UY _);have I2:=I.xj (a:=s.heap.objs.size + 1) (o:=.lst zs) (t':=s.toks) (h':=sortedHeap (((s.heap.push (seqObj "list" #[] 0)).update s.heap.objs.size (Obj.mapSeq (·++its.toArray))).push (seqObj "list" its.toArray 0)) (s.heap.objs.size + 1) its out) (fun b o hb=>by
   have lt:=S3 hb;rw [sortedHeap_old (S8 (UI lt)) (by rw [size_push',sz];exact UI (UI lt))]
   exact old b o hb) new
  ⟨by rw [pz.length_eq];lia,out.toList,n,rz,by simpa using hn⟩
 exact R9 ⟨_,rfl,.ref (s.heap.objs.size + 1),_,I2,rfl,q zs _ pz (I.ji new)⟩
end
abbrev qx:Obj:={ cls:=.type "cell",data:=.cell none }
def Cx.aW (X:Cx)(scope:Scope) (x:Str)(C c:Addr)(NB:Xc)(s2:Shared)(H2:Hp)(fp:XW):Cx :=
 { X with N:=NB,s₀:=s2,H₀:=H2,env:=compEnvC scope ((x,c)::b7 X.env.cells scope.names []) C X.env,outer:=X.stack,ex:=fp,fn:=fun y=>y == x,pn:=[],xe:=fun _ _=>False }
section
variable {M:Model}{A:Around}{E:XE}{s:Shared}{X:Cx}{scope:Scope}{x:Str}{NB:Xc}{ix:Xa}
end
section
variable {X:Cx}{scope:Scope}{x:Str}{NB:Xc}{ix:Xa}{pins:XH}{U:St}{H2:Hp}{s2:Shared}{fp:XW}
def rQ (I2:Inv X pins U H2 s2){c:Addr}(e:X.env.cells.lookup y=some c):c < s2.heap.objs.size:=by
 obtain ⟨v,q⟩:=I2.cell y c e;exact q.lt
end
section
variable {X:Cx}{scope:Scope}{x:Str}{NB:Xc}{ix:Xa}{pins:XH}{U:St}{H2:Hp}{s2:Shared}{fp:XW}
def Cc {C c D:Addr}{n:Nat}(I2:Inv X pins U H2 s2)(f2:∀ b∈fp,eS X pins H2 b)(hD:s2.heap.objs.size<=D)
  (I4:Inv (X.aW scope x C c NB s2 H2 fp) [(D,eu its n)] σB H' s4)(rv:Vals ys its)(hz:ys.length<=sizeLine):Inv X pins U (upd H' D (.lst ys)) s4:=by
 have hp:=I4.pin (D,eu its n) (by show _∈[]++[(D,eu its n)];simp)
 have hfree:H' D=none:=hp.2.1;have neD:∀ b o,s2.heap.get? b=some o->b≠D:=fun b o e=>S8 (SK (S3 e) hD)
 have neT:∀ b o,H2 b=some o->b≠D:=fun b o e=>S8 (SK (I2.hok.lt e) hD)
 have u:Un (frs X.stack) fp H2 H' s2.heap s4.heap:=I4.base;refine I2.Dh (ch:=fp) I4.os ⟨u.keep,u.slot,fun b o e n hx=>?_,u.there,fun b xs e=>?_,fun b o v e=>?_,fun b ps e=>?_⟩ (fun b o e=>?_) I4.bare fun b hb=>?_
 ·rw [ak (neD b o e)];exact u.free b o e n hx
 ·rw [ak (neT b _ e)];exact u.tups b xs e
 ·rw [ak (neT b _ e)];exact u.jV b o v e
 ·rw [ak (neT b _ e)];exact u.lE b ps e
 ·by_cases hb:b=D
  ·subst hb;rw [aH] at e;cases e;exact ⟨hz,its,n,rv,hp.1⟩
  ·rw [ak hb] at e;have ne:∀ {c:Addr}{w:HO},H' c=some w->c≠D:=fun {c w} q z=>by rw [z,hfree] at q;cases q
   exact (I4.hok b o e).stay (fun _ _ _ q=>q) (fun c q=>by rw [ak (ne q)];exact q) fun c xs q=>by rw [ak (ne q)];exact q
 ·obtain ⟨_,g1,g2,g3,g4,g5⟩:=f2 b hb;exact ⟨g3,g1,g4,g5⟩
end
def LO (K:XO)(a:Addr):It :=
 ⟨fun i H=>∃ xs x,bF K H a xs/\xs[i]?=some x,fun i H v H'=>∃ T,H T=none/\v=.ref T/\∀ xs,bF K H a xs->∃ x,xs[i]?=some x/\H'=upd H T (.tup [.int i,x]),fun i H=>∃ xs,bF K H a xs/\xs.length<=i⟩
def D4 {P:Program}{w:World}{K:XO}{elts:XY}{x1:Nat}{pos:Pos}(a e it:Addr)(hne:e≠it) :
  Turn P w K (.Tuple elts x1 pos) (LO K a) [e,it] e (fun i h=>(∃ old,IsEnum h e it i old)/\h.IsListIter it a i) where
 mem:=by simp
 obj:=fun i h st b hb=>by
  obtain ⟨⟨old,he⟩,o,e1,c,d⟩:=st;rcases S2.mp hb with z | z
  ·subst z;exact ⟨_,he,fun v q=>by cases q⟩
  ·have z:b=it:=by simpa using z
   subst z;exact ⟨o,e1,fun v q=>by rw [d] at q;cases q⟩
 keep:=fun i h h' st k=>by
  obtain ⟨⟨old,he⟩,li⟩:=st;exact ⟨⟨old,k e (by simp) _ he⟩,li.at fun o q=>k it (by simp) o q⟩
 item:=by
  intro X hP hw hK hc i pins s U H E I hf st hg;subst hP hw hK;obtain ⟨xs,x,hq,hx⟩:=hg;obtain ⟨its,rv,p,hz⟩:=I.list hq;obtain ⟨u,hu,ru⟩:=rv.get hx;obtain ⟨⟨old,he⟩,hit⟩:=st;have fe:=hf e (by simp)
  have fi:=hf it (by simp)
  refine wpAny_pyNext_enum_item he hit p.isList (x:=u) (by simpa using hu) hne fun h1 heo hit1 ht1 hz1 hk1=>⟨_,rfl,?_⟩
  refine wpAny_letOwnedTupleGo_enum heo fun h2 he2 hs2=>?_
  have elt:e < s.heap.objs.size:=S3 he;have ht2:h2.get? s.heap.objs.size=some { cls:=.type "tuple",data:=.seq #[.int i s.toks,u] }:=(hs2.2 _ (Tp elt)).trans ht1;have hfr:H s.heap.objs.size=none:=I.hok.fresh (RW _);have k2:∀ b o,b≠e->b≠it->s.heap.get? b=some o->h2.get? b=some o:=fun b o b1 b2 q=>hs2.extBut b o b1 (hk1 b o b1 b2 q)
  have neT:∀ b o,H b=some o->b≠s.heap.objs.size:=fun b o q z=>by rw [z,hfr] at q;cases q
  have neS:∀ b o,s.heap.get? b=some o->b≠s.heap.objs.size:=fun b o q=>S8 (S3 q)
  have nt:∀ b o,H b=some o->b≠e/\b≠it:=fun b o q=>⟨(fun z=>by rw [z,fe.1] at q;cases q),(fun z=>by rw [z,fi.1] at q;cases q)⟩
  have nin:∀ b,b∉[e,it]->b≠e/\b≠it:=fun b hb=>⟨fun z=>hb (by simp [z]),fun z=>hb (by simp [z])⟩
  have I2:Inv X pins U (upd H s.heap.objs.size (.tup [.int i,x])) { s with heap:=h2,toks:=s.toks + 1 }:=by
   refine I.step (g':=s.gens) (d':=s.drawn) (ch:=[e,it]) (fun b hb=>?_) (fun b o _ _ hc' q _=>k2 b o (nin b hc').1 (nin b hc').2 q) (fun b o _ _ hc' q _=>⟨o.slots,k2 b o (nin b hc').1 (nin b hc').2 q⟩)
    (fun b o _ q n=>by rw [ak (neS b o q)];exact n) (fun b o hc' q=>⟨o,k2 b o (nin b hc').1 (nin b hc').2 q⟩) (fun b ys q=>by rw [ak (neT b _ q)];exact q) (fun b o v q=>by rw [ak (neT b _ q)];exact q)
    (fun b ps q=>⟨#[],by rw [ak (neT b _ q),q];simp⟩) (fun m hm=>?_) (fun b o q=>?_) I.bare
   ·rcases S2.mp hb with z | z
    ·subst z;exact ⟨fe.2.2.2.1,fe.2.1,fe.2.2.2.2.1,fe.2.2.2.2.2⟩
    ·have z:b=it:=by simpa using z
     subst z;exact ⟨fi.2.2.2.1,fi.2.1,fi.2.2.2.2.1,fi.2.2.2.2.2⟩
   ·obtain ⟨o,es,ep,ho,r⟩:=hm;exact ⟨o,es,ep,k2 _ o (Ne.symm fe.2.1) (Ne.symm fi.2.1) ho,r⟩
   ·by_cases z:b=s.heap.objs.size
    ·subst z;rw [aH] at q;cases q;exact ⟨(by show 2<=sizeLine;decide),[.int i s.toks,u],.cons ⟨_,rfl⟩ (.cons ru .nil),_,ht2,rfl,_,rfl⟩
    ·rw [ak z] at q;refine (I.hok b o q).stay (fun c v hc' r=>k2 c v ?_ ?_ r) (fun c r=>by rw [ak (neT c _ r)];exact r) fun c ys r=>by rw [ak (neT c _ r)];exact r
     ·rcases hc' with y | y
      ·rw [y];exact (nt b o q).1
      ·exact (nt c _ y).1
     ·rcases hc' with y | y
      ·rw [y];exact (nt b o q).2
      ·exact (nt c _ y).2
  refine ⟨.ref s.heap.objs.size,_,I2,rfl,⟨s.heap.objs.size,hfr,rfl,fun ys hy=>⟨x,by rw [I.nC hy hq];exact hx,rfl⟩⟩,⟨⟨_,he2⟩,?_⟩,fun b hb=>?_⟩
  ·exact hit1.at fun o q=>hs2.extBut it o (Ne.symm hne) q
  ·rcases S2.mp hb with z | z
   ·subst z;rw [ak (S8 elt)];exact fe.1
   ·have z:b=it:=by simpa using z
    subst z;obtain ⟨o,q,_⟩:=id hit;rw [ak (S8 (S3 q))];exact fi.1
 done:=by
  intro X hP hw hK hc i pins s U H E I hf st hg;subst hP hw hK;obtain ⟨xs,hq,hx⟩:=hg;obtain ⟨its,rv,p,hz⟩:=I.list hq;obtain ⟨⟨old,he⟩,hit⟩:=st;obtain ⟨f0,f1,f2,f3,f4,f5⟩:=hf it (by simp)
  have hl:=rv.length;exact wpAny_pyNext_enum_end (I.ok.hd hc) he hit p.isList (by simp;lia) fun h' eb=>⟨rfl,I.turned (t':=s.toks) (fun b o hb q=>eb b o hb q) f0 f1 f3 f4 f5⟩
 self:=fun _ _ _ _ _ st h=>by
  obtain ⟨⟨old,he⟩,_⟩:=st;exact wpAny_pyIter_enum he h
section
variable {X:Cx}
inductive Ea (K:XO)(R:(It->Hp->Prop))(vs:List V)(H1:Hp):Prop
 | mk:∀ a,(vs=[.ref a])->((∃ xs,bF K H1 a xs))->(R (LO K a) H1)->Ea K R vs H1
def OQ (K:XO)(ta:TA):TI:=fun U H R=>ta U H fun vs H1=>Ea K R vs H1
def KA {elts:XY}{x1:Nat}{tp p pos:Pos}{e:Expr}{ta:TA}(hg:Gl X "enumerate")(hm:X.mg "enumerate"=none)(ha:PA X [e] ta)(hs:starEach [e] X.env=[(false,eval e X.env)]:=by rfl) :
  PI X (.Tuple elts x1 tp) (.Call (.Name "enumerate" p) [e] [] pos) (OQ X.K ta):=by
 intro pins s U H R I h;refine Call_ (jE I hg hm boot_enumerate (V5 (aM (ha pos pins s U H _ I h) fun us s1 ⟨vs,H1,I1,r1,q1⟩=>?_) hs rfl))
 obtain ⟨a,ev,⟨xs,hq⟩,q⟩:=q1;subst ev;obtain ⟨u,rfl,ru⟩:=r1.one;cases ru;obtain ⟨its,rv,pl,hz⟩:=I1.list hq;refine call_enumerate_list pl.isList fun h' he hit hsz hk=>?_
 refine wpAny_pyIter_enum he ?_;have I2:Inv X pins U H1 { s1 with heap:=h' }:=I1.kept (t':=s1.toks) hk
 refine ⟨s1.heap.objs.size + 1,[s1.heap.objs.size + 1,s1.heap.objs.size],_,_,H1,rfl,I2,D4 a _ _ (Nat.succ_ne_self _),⟨⟨_,he⟩,hit⟩,fun b hb=>?_,q⟩
 have hb:s1.heap.objs.size<=b:=by
  rcases S2.mp hb with z | z
  ·rw [z];exact UY _
  ·have z:b=s1.heap.objs.size:=by simpa using z
   rw [z];exact RW _
 exact I1.p9 hb (I1.hok.fresh hb)
end
section
variable {prog:Program}{w:World}{A:Around}{R:Result->Shared->Prop}{s:Shared}
abbrev oF (prog:Program)(w:World)(A:Around)(env:Env)(R:Result->Shared->Prop):XE:=notedBy (model prog w) A env fun e s'=>R (.error e) s'
end
section
variable {X:Cx}{scope:Scope}{x y0:Str}{NB:Xc}{ix:Xa}{pins:XH}{U:St}{H2:Hp}{s2:Shared}{fp:XW}
end
section
variable {X:Cx}{scope:Scope}{x y0:Str}{NB:Xc}{ix:Xa}{pins:XH}{U:St}{H2:Hp}{s2:Shared}{fp:XW}
end
def Nb (K:XO)(a b:Addr):It :=
 ⟨fun i H=>∃ xs ys x y,bF K H a xs/\bF K H b ys/\xs[i]?=some x/\ys[i]?=some y,fun i H v H'=>∃ T,H T=none/\v=.ref T/\∀ xs ys,bF K H a xs->bF K H b ys->∃ x y,xs[i]?=some x/\ys[i]?=some y/\H'=upd H T (.tup [x,y]),
  fun i H=>∃ xs ys,bF K H a xs/\bF K H b ys/\(xs.length<=i\/ys.length<=i)⟩
def HE {P:Program}{w:World}{K:XO}{elts:XY}{x1:Nat}{pos:Pos}(a b z TI TO i1 i2:Addr)(D:PySem.ZipApart z TI TO i1 i2 a b) :
  Turn P w K (.Tuple elts x1 pos) (Nb K a b) [z,TI,TO,i1,i2] z (fun i h=>PySem.IsZip h z TI TO .none/\PySem.IsPair h TI (.ref i1) (.ref i2)/\(∃ u v,PySem.IsPair h TO u v)/\h.IsListIter i1 a i/\h.IsListIter i2 b i) where
 mem:=by simp
 obj:=fun i h st c hc=>by
  obtain ⟨h1,h2,⟨u,v,h3⟩,h4,h5⟩:=st;simp only [S2,Se,Tv] at hc;rcases hc with rfl | rfl | rfl | rfl | rfl
  ·exact ⟨_,h1,fun v q=>by cases q⟩
  ·exact ⟨_,h2,fun v q=>by cases q⟩
  ·exact ⟨_,h3,fun v q=>by cases q⟩
  ·obtain ⟨o,e1,_,d⟩:=h4;exact ⟨o,e1,fun v q=>by rw [d] at q;cases q⟩
  ·obtain ⟨o,e1,_,d⟩:=h5;exact ⟨o,e1,fun v q=>by rw [d] at q;cases q⟩
 keep:=fun i h h' st k=>by
  obtain ⟨h1,h2,⟨u,v,h3⟩,h4,h5⟩:=st;exact ⟨k z (by simp) _ h1,k TI (by simp) _ h2,⟨u,v,k TO (by simp) _ h3⟩,h4.at fun o q=>k i1 (by simp) o q,h5.at fun o q=>k i2 (by simp) o q⟩
 item:=by
  intro X hP hw hK hc i pins s U H E I hf st hg;subst hP hw hK;obtain ⟨xs,ys,x,y,hq,hq2,hx,hy⟩:=hg;obtain ⟨its,rv,p,_⟩:=I.list hq;obtain ⟨its2,rv2,p2,_⟩:=I.list hq2;obtain ⟨u,hu,ru⟩:=rv.get hx;obtain ⟨u2,hu2,ru2⟩:=rv2.get hy;obtain ⟨h1,h2,⟨ua,ub,h3⟩,h4,h5⟩:=st;have fz:=hf z (by simp)
  have fI:=hf TI (by simp)
  have fO:=hf TO (by simp)
  have f1:=hf i1 (by simp)
  have f2:=hf i2 (by simp)
  refine PySem.wpAny_pyNext_zip_item D h1 h2 h3 h4 h5 p.isList p2.isList (x:=u) (y:=u2) (by simpa using hu) (by simpa using hu2) fun hA a1 a2 a3 a4 a5 a6 a7=>⟨_,rfl,?_⟩
  refine PySem.wpAny_letOwnedTupleGo_zip a1 fun hB b1 hs=>?_
  have zlt:z < s.heap.objs.size:=S3 h1;have ht2:hB.get? s.heap.objs.size=some { cls:=.type "tuple",data:=.seq #[u,u2] }:=(hs.2 _ (Tp zlt)).trans a5;have hfr:H s.heap.objs.size=none:=I.hok.fresh (RW _);have k2:∀ c o,c≠z->c≠TO->c≠i1->c≠i2->s.heap.get? c=some o->hB.get? c=some o:=fun c o c1 c2 c3 c4 q=>hs.extBut c o c1 (a7 c o c1 c2 c3 c4 q)
  have neT:∀ c o,H c=some o->c≠s.heap.objs.size:=fun c o q z=>by rw [z,hfr] at q;cases q
  have neS:∀ c o,s.heap.get? c=some o->c≠s.heap.objs.size:=fun c o q=>S8 (S3 q)
  have nt:∀ c o,H c=some o->c≠z/\c≠TO/\c≠i1/\c≠i2:=fun c o q=>⟨(fun e=>by rw [e,fz.1] at q;cases q),(fun e=>by rw [e,fO.1] at q;cases q),(fun e=>by rw [e,f1.1] at q;cases q),(fun e=>by rw [e,f2.1] at q;cases q)⟩
  have nin:∀ c,c∉[z,TO,i1,i2]->c≠z/\c≠TO/\c≠i1/\c≠i2:=fun c hc=>⟨fun e=>hc (by simp [e]),fun e=>hc (by simp [e]),fun e=>hc (by simp [e]),fun e=>hc (by simp [e])⟩
  have kk:∀ c o,(c≠z/\c≠TO/\c≠i1/\c≠i2)->s.heap.get? c=some o->hB.get? c=some o:=fun c o n q=>k2 c o n.1 n.2.1 n.2.2.1 n.2.2.2 q
  have I2:Inv X pins U (upd H s.heap.objs.size (.tup [x,y])) { s with heap:=hB }:=by
   refine I.step (g':=s.gens) (d':=s.drawn) (t':=s.toks) (ch:=[z,TO,i1,i2]) (fun c hc=>?_) (fun c o _ _ hc' q _=>kk c o (nin c hc') q) (fun c o _ _ hc' q _=>⟨o.slots,kk c o (nin c hc') q⟩)
    (fun c o _ q n=>by rw [ak (neS c o q)];exact n) (fun c o hc' q=>⟨o,kk c o (nin c hc') q⟩) (fun c ys q=>by rw [ak (neT c _ q)];exact q) (fun c o v q=>by rw [ak (neT c _ q)];exact q)
    (fun c ps q=>⟨#[],by rw [ak (neT c _ q),q];simp⟩) (fun m hm=>?_) (fun c o q=>?_) I.bare
   ·simp only [S2,Se,Tv] at hc;rcases hc with rfl | rfl | rfl | rfl
    ·exact ⟨fz.2.2.2.1,fz.2.1,fz.2.2.2.2.1,fz.2.2.2.2.2⟩
    ·exact ⟨fO.2.2.2.1,fO.2.1,fO.2.2.2.2.1,fO.2.2.2.2.2⟩
    ·exact ⟨f1.2.2.2.1,f1.2.1,f1.2.2.2.2.1,f1.2.2.2.2.2⟩
    ·exact ⟨f2.2.2.2.1,f2.2.1,f2.2.2.2.2.1,f2.2.2.2.2.2⟩
   ·obtain ⟨o,es,ep,ho,r⟩:=hm;exact ⟨o,es,ep,kk _ o ⟨Ne.symm fz.2.1,Ne.symm fO.2.1,Ne.symm f1.2.1,Ne.symm f2.2.1⟩ ho,r⟩
   ·by_cases e:c=s.heap.objs.size
    ·subst e;rw [aH] at q;cases q;exact ⟨(by show 2<=sizeLine;decide),[u,u2],.cons ru (.cons ru2 .nil),_,ht2,rfl,_,rfl⟩
    ·rw [ak e] at q;refine (I.hok c o q).stay (fun d v hd r=>kk d v ?_ r) (fun d r=>by rw [ak (neT d _ r)];exact r) fun d ys r=>by rw [ak (neT d _ r)];exact r
     rcases hd with y | y
     ·rw [y];exact nt c o q
     ·exact nt d _ y
  refine ⟨.ref s.heap.objs.size,_,I2,rfl,⟨s.heap.objs.size,hfr,rfl,fun xs2 ys2 hx2 hy2=>⟨x,y,by rw [I.nC hx2 hq];exact hx,by rw [I.nC hy2 hq2];exact hy,rfl⟩⟩,⟨b1,?_,⟨_,_,hs.extBut _ _ D.TOz a2⟩,a3.at fun o q=>hs.extBut _ _ D.i1z q,a4.at fun o q=>hs.extBut _ _ D.i2z q⟩,fun c hc=>?_⟩
  ·exact k2 _ _ D.TIz D.TITO D.TIi1 D.TIi2 h2
  ·have old:∀ c,(∃ o,s.heap.get? c=some o)->H c=none->upd H s.heap.objs.size (.tup [x,y]) c=none:=fun c ⟨o,q⟩ hn=>by rw [ak (neS c o q)];exact hn
   simp only [S2,Se,Tv] at hc;rcases hc with rfl | rfl | rfl | rfl | rfl
   ·exact old _ ⟨_,h1⟩ fz.1
   ·exact old _ ⟨_,h2⟩ fI.1
   ·exact old _ ⟨_,h3⟩ fO.1
   ·obtain ⟨o,q,_⟩:=id h4;exact old _ ⟨o,q⟩ f1.1
   ·obtain ⟨o,q,_⟩:=id h5;exact old _ ⟨o,q⟩ f2.1
 done:=by
  intro X hP hw hK hc i pins s U H E I hf st hg;subst hP hw hK;obtain ⟨xs,ys,hq,hq2,hx⟩:=hg;obtain ⟨its,rv,p,_⟩:=I.list hq;obtain ⟨its2,rv2,p2,_⟩:=I.list hq2;obtain ⟨h1,h2,⟨ua,ub,h3⟩,h4,h5⟩:=st;have hl:=rv.length;have hl2:=rv2.length;have fz:=hf z (by simp)
  have fO:=hf TO (by simp)
  have f1:=hf i1 (by simp)
  have f2:=hf i2 (by simp)
  refine PySem.wpAny_pyNext_zip_end (I.ok.hd hc) D h1 h2 h3 h4 h5 p.isList p2.isList (hx.imp (fun e=>by simp;lia) (fun e=>by simp;lia)) fun hA k=>⟨rfl,?_⟩
  have nin:∀ c,c∉[z,TO,i1,i2]->c≠z/\c≠TO/\c≠i1/\c≠i2:=fun c hc=>⟨fun e=>hc (by simp [e]),fun e=>hc (by simp [e]),fun e=>hc (by simp [e]),fun e=>hc (by simp [e])⟩
  have kk:∀ c o,(c≠z/\c≠TO/\c≠i1/\c≠i2)->s.heap.get? c=some o->hA.get? c=some o:=fun c o n q=>k c o n.1 n.2.1 n.2.2.1 n.2.2.2 q
  have nt:∀ c o,H c=some o->c≠z/\c≠TO/\c≠i1/\c≠i2:=fun c o q=>⟨(fun e=>by rw [e,fz.1] at q;cases q),(fun e=>by rw [e,fO.1] at q;cases q),(fun e=>by rw [e,f1.1] at q;cases q),(fun e=>by rw [e,f2.1] at q;cases q)⟩
  refine I.step (g':=s.gens) (d':=s.drawn) (t':=s.toks) (ch:=[z,TO,i1,i2]) (fun c hc=>?_) (fun c o _ _ hc' q _=>kk c o (nin c hc') q) (fun c o _ _ hc' q _=>⟨o.slots,kk c o (nin c hc') q⟩)
   (fun c o _ q n=>n) (fun c o hc' q=>⟨o,kk c o (nin c hc') q⟩) (fun c ys q=>q) (fun c o v q=>q) (fun c ps q=>⟨#[],by rw [q];simp⟩) (fun m hm=>?_) (fun c o q=>?_) I.bare
  ·simp only [S2,Se,Tv] at hc;rcases hc with rfl | rfl | rfl | rfl
   ·exact ⟨fz.2.2.2.1,fz.2.1,fz.2.2.2.2.1,fz.2.2.2.2.2⟩
   ·exact ⟨fO.2.2.2.1,fO.2.1,fO.2.2.2.2.1,fO.2.2.2.2.2⟩
   ·exact ⟨f1.2.2.2.1,f1.2.1,f1.2.2.2.2.1,f1.2.2.2.2.2⟩
   ·exact ⟨f2.2.2.2.1,f2.2.1,f2.2.2.2.2.1,f2.2.2.2.2.2⟩
  ·obtain ⟨o,es,ep,ho,r⟩:=hm;exact ⟨o,es,ep,kk _ o ⟨Ne.symm fz.2.1,Ne.symm fO.2.1,Ne.symm f1.2.1,Ne.symm f2.2.1⟩ ho,r⟩
  ·refine (I.hok c o q).stay (fun d v hd r=>kk d v ?_ r) (fun d r=>r) fun d ys r=>r
   rcases hd with y | y
   ·rw [y];exact nt c o q
   ·exact nt d _ y
 self:=fun _ _ _ _ _ st h=>PySem.wpAny_pyIter_zip st.1 h
section
variable {X:Cx}
inductive Jh (K:XO)(R:(It->Hp->Prop))(vs:List V)(H1:Hp):Prop
 | mk:∀ a b,(vs=[.ref a,.ref b])->((∃ xs,bF K H1 a xs))->((∃ ys,bF K H1 b ys))->(R (Nb K a b) H1)->Jh K R vs H1
def GJ (K:XO)(ta:TA):TI:=fun U H R=>ta U H fun vs H1=>Jh K R vs H1
def Nm {x1:Nat}(hg:Gl X "zip")(hm:X.mg "zip"=none)(ha:PA X [e1,e2] ta)(hs:starEach [e1,e2] X.env=[(false,eval e1 X.env),(false,eval e2 X.env)]:=by rfl)(hs2:starEach [e2] X.env=[(false,eval e2 X.env)]:=by rfl) :
  PI X (.Tuple elts x1 tp) (.Call (.Name "zip" p) [e1,e2] [] pos) (GJ X.K ta):=by
 intro pins s U H R I h;refine Call_ (jE I hg hm PyProof.Rows.boot_zip (V5 (aM (ha pos pins s U H _ I h) fun us s1 ⟨vs,H1,I1,r1,q1⟩=>?_) (by rw [hs,hs2]) (by rw [hs2];rfl)))
 obtain ⟨a,b,ev,⟨xs,hq⟩,⟨ys,hq2⟩,q⟩:=q1;subst ev;obtain ⟨u1,u2,rfl,ru1,ru2⟩:=r1.two;cases ru1;cases ru2;obtain ⟨its,rv,pl,_⟩:=I1.list hq;obtain ⟨its2,rv2,pl2,_⟩:=I1.list hq2;have la:a < s1.heap.objs.size:=by
  obtain ⟨o,ho,_⟩:=pl.isList;exact S3 ho
 have lb:b < s1.heap.objs.size:=by
  obtain ⟨o,ho,_⟩:=pl2.isList;exact S3 ho
 refine PySem.call_zip_2 pl.isList pl2.isList fun h' hz h2 h3 h4 h5 hsz hk=>?_
 refine PySem.wpAny_pyIter_zip hz ?_;have I2:Inv X pins U H1 { s1 with heap:=h' }:=I1.kept (t':=s1.toks) hk
 have ga:∀ k:Nat,a≠s1.heap.objs.size + k:=fun k=>S8 (SK la (U8 _ _))
 have gb:∀ k:Nat,b≠s1.heap.objs.size + k:=fun k=>S8 (SK lb (U8 _ _))
 have D:PySem.ZipApart (s1.heap.objs.size + 4) (s1.heap.objs.size + 2) (s1.heap.objs.size + 3) s1.heap.objs.size (s1.heap.objs.size + 1) a b:=by
  constructor <;> first | exact ga 4 | exact ga 3 | exact ga 1 | exact ga 0 | exact gb 4 | exact gb 3 | exact gb 1 | exact gb 0 | exact S8 (by lia) | exact Tp (by lia)
 refine ⟨s1.heap.objs.size + 4,[s1.heap.objs.size + 4,s1.heap.objs.size + 2,s1.heap.objs.size + 3,s1.heap.objs.size,s1.heap.objs.size + 1],_,_,H1,rfl,I2,HE a b _ _ _ _ _ D,⟨hz,h2,⟨_,_,h3⟩,h4,h5⟩,fun c hc=>?_,q⟩
 have hb:s1.heap.objs.size<=c:=by
  simp only [S2,Se,Tv] at hc;rcases hc with rfl | rfl | rfl | rfl | rfl
  ·exact U8 _ _
  ·exact U8 _ _
  ·exact U8 _ _
  ·exact RW _
  ·exact U8 _ _
 exact I1.p9 hb (I1.hok.fresh hb)
theorem vd:∀ {ns:Xb}{us:XU},Vals (ns.map V.int) us->∃ ps:List (Int×Tok),us=ps.map (fun p=>Value.int p.1 p.2)/\ns=ps.map (·.1)
 | [],_,.nil=>⟨[],rfl,rfl⟩
 | n::ns,_,.cons h r=>by
  obtain ⟨t,rfl⟩:=h;obtain ⟨ps,rfl,rfl⟩:=vd r;exact ⟨(n,t)::ps,rfl,rfl⟩
end
end L2
namespace L2
open PySem PySem.Spec PyProof.Rows PySem.W
section
variable {X:Cx}
def DA (hc:X.calm=true):cF X (.builtin "min") (fun xs H Q=>∃ (a:Addr)(ns:Xb),xs=[.ref a]/\bF X.K H a (ns.map V.int)/\ns≠[]/\∀ M,M∈ns->(∀ n∈ns,M<=n)->Q (.int M) H):=by
 intro pins s U H xs us Q I r h;obtain ⟨a,ns,rfl,hq,ne,q⟩:=h;obtain ⟨u,rfl,ru⟩:=vals1 r;cases ru;obtain ⟨its,rv,p,_⟩:=I.list hq;obtain ⟨ps,rfl,rfl⟩:=vd rv;have hl:s.heap.IsList a (intItems ps.toArray):=by
  have:=p.isList
  simpa [intItems] using this
 refine min_intList (I.ok.hd hc) hl (by simpa using List.length_pos_iff.mpr (fun e=>ne (by rw [e];rfl))) fun v h' tk hv hk=>?_
 obtain ⟨t,rfl⟩:=intItems_at hv;obtain ⟨g1,g2⟩:=argBest_lt (numAt ps.toArray) (ps.toArray.size - 1);have pos:0 < ps.length:=List.length_pos_iff.mpr fun e=>ne (by rw [e];rfl)
 refine ⟨.int _,H,I.kept (t':=tk) hk,⟨_,rfl⟩,q _ ?_ fun n hn=>?_⟩
 ·rw [numAt_eq];exact getD_mem (by simp at g1 ⊢;lia)
 ·obtain ⟨j,hj,rfl⟩:=mem_getD hn;rw [RX] at hj;have e:(ps.map (·.1)).getD j 0=numAt ps.toArray j:=by rw [numAt_eq]
  rw [e];exact g2 j (by simp;lia)
end
end L2
namespace Dv
open PySem L2 PySem.W
section
variable {K:Frag}{H Hm:Hp}{P:Xg}{Q:VK}
def bE (K:Frag)(H Hm:Hp)(P:Xg)(Q:VK):Prop:=∀ k v u H' Hm' fp,P k v->ai H H'->ai Hm Hm'->ai Hm' H'->(∀ a,H a≠none->OE (Hm' a) (Hm a))->Own K H' Hm' k u v fp->(∀ a∈fp,H a=none/\Hm' a=none)->Q u H'
def bE.sc (q:bE K H Hm P Q)(s:ai Hm H)(p:P .sh v)(r:Rp K Hm u v):Q u H:=q _ _ _ _ _ [] p (ai.refl _) (ai.refl _) s (fun _ _=>.inl rfl) (.sh r) fun _ z=>by cases z
def jt (s:ai Hm H){p:Addr}(h:H p=none):Hm p=none:=by
 cases e:Hm p with
 | none=>rfl
 | some o=>rw [s _ _ e] at h;cases h
def bE.nl (q:bE K H Hm P Q)(s:ai Hm H){p:Addr}(pp:P (.ow false) (.list ds))(hp:H p=none)(r:aA K Hm xs ds):Q (.ref p) (upd H p (.lst xs)) :=
 q _ _ _ _ Hm [p] pp (cj hp) (ai.refl _) (s.trans (cj hp)) (fun _ _=>.inl rfl) (.ow aH r) fun a ha=>by rw [RZ.mp ha];exact ⟨hp,jt s hp⟩
def bE.nt (q:bE K H Hm P Q)(s:ai Hm H){p:Addr}(pp:P .sh (.tuple ds))(hp:H p=none)(r:aA K Hm xs ds):Q (.ref p) (upd H p (.tup xs)):=by
 have n:=jt s hp;have s2:=cj (o:=.tup xs) n;refine q _ _ _ _ (upd Hm p (.tup xs)) [] pp (cj hp) s2 (fun b o e=>?_) (fun a ha=>.inl (ak fun z=>ha (z ▸ hp))) (.sh (.tup aH (r.mono s2))) fun _ z=>by cases z
 by_cases c:b=p
 ·rw [c,aH] at e ⊢;exact e
 ·rw [ak c] at e ⊢;exact s _ _ e
end
def r2 (r:R2):List V->Hp->VK->Prop:=fun vs H Q=>match vs with
 | [x,y]=>r x y H Q
 | _=>False
def r1 (r:V->Hp->VK->Prop):List V->Hp->VK->Prop:=fun vs H Q=>match vs with
 | [x]=>r x H Q
 | _=>False
def dM (h:aA K H vs [a]):∃ x,vs=[x]/\Rp K H x a:=by
 cases h with
 | cons h t=>cases t;exact ⟨_,rfl,h⟩
def cL (h:aA K H vs [a,b]):∃ x y,vs=[x,y]/\Rp K H x a/\Rp K H y b:=by
 cases h with
 | cons h t =>
  obtain ⟨y,rfl,h2⟩:=dM t;exact ⟨_,_,rfl,h,h2⟩
def QH (h:aA K H vs [a,b,c]):∃ x y z,vs=[x,y,z]/\Rp K H x a/\Rp K H y b/\Rp K H z c:=by
 cases h with
 | cons h t =>
  obtain ⟨y,z,rfl,h2,h3⟩:=cL t;exact ⟨_,_,_,rfl,h,h2,h3⟩
def bO.or (h:bO X f r)(k:bO X f s):bO X f fun x y H Q=>r x y H Q\/s x y H Q:=fun pins st U H x y v u Q I a b z=>z.elim (h pins st U H x y v u Q I a b) (k pins st U H x y v u Q I a b)
section
variable {X:Cx}{Ex:XK}{Y:Xa}
def ni (ho:bO X (binaryOp op) r)(D:cO X.K f (r2 r))(S:aS X Ex Y [a,b] as):SE X Ex Y (.BinOp a op b pos) (ah f as):=eZ (r:=r2 r) S (fun U H Q h=>WE.of (Pf ho bg bg) h) D
def OU (ho:Je X (unaryOp op) r)(D:cO X.K f (r1 r))(S:aS X Ex Y [a] as):SE X Ex Y (.UnaryOp op a pos) (ah f as):=eZ (r:=r1 r) S (fun U H Q h=>WE.of (PN ho bg) h) D
def sP (ho:bO X (compareOp op) r)(hm:behindInMarks op b=false)(D:cO X.K f (r2 r))(S:aS X Ex Y [a,b] as):SE X Ex Y (.Compare a [op] [b] pos) (ah f as):=eZ (r:=r2 r) S (fun U H Q h=>WE.of (Kc ho bg bg hm) h) D
def O6 (ho:oR X r)(hs:mR b)(D:cO X.K f (r2 r))(S:aS X Ex Y [a,b] as):SE X Ex Y (.Subscript a b pos) (ah f as):=eZ (r:=r2 r) S (fun U H Q h=>WE.of (IU ho bg bg hs) h) D
end
def nZ (g:Int->Int->PyData):DR:=fun ds P=>match ds with
 | [.int a,.int b]=>P .sh (g a b)
 | _=>False
def w5 (C:Int->Int->Prop)(g:Int->Int->PyData):DR:=fun ds P=>match ds with
 | [.int a,.int b]=>C a b/\P .sh (g a b)
 | _=>False
def uT {Z:Prop}{f:Int->Int->Prop}(h:match ds with | [PyData.int a,.int b]=>f a b | _=>False)(k:∀ a b,ds=[.int a,.int b]->f a b->Z):Z:=by
 split at h
 ·exact k _ _ rfl h
 ·exact h.elim
def kB {g:Int->Int->PyData}{gv:Int->Int->V}(hg:∀ a b Hm,Rp K Hm (gv a b) (g a b)):cO K (nZ g) (r2 (lK gv)):=by
 intro H Hm vs ds P Q s r h q;refine uT h fun a b e p=>?_
 subst e;obtain ⟨x,y,rfl,h1,h2⟩:=cL r;cases h1;cases h2;exact ⟨a,b,rfl,rfl,bE.sc q s p (hg a b Hm)⟩
def u9 {g:Int->Int->PyData}{gv:Int->Int->V}(hg:∀ a b Hm,Rp K Hm (gv a b) (g a b)):cO K (w5 C g) (r2 (rI C gv)):=by
 intro H Hm vs ds P Q s r h q;refine uT h fun a b e p=>?_
 subst e;obtain ⟨x,y,rfl,h1,h2⟩:=cL r;cases h1;cases h2;exact ⟨a,b,rfl,rfl,p.1,bE.sc q s p.2 (hg a b Hm)⟩
inductive DU (K:Frag) (x:V) (y:V)(H:Hp)(Q:VK):Prop
 | mk:∀ l b xs zs,(x=.ref l)->(y=.ref b)->(cg K H l xs)->(cg K H b zs)->(xs.length + zs.length<=sizeLine)->(∀ p,H p=none->Q (.ref p) (upd H p (.lst (xs++zs))))->DU K x y H Q
def IP (K:Frag):R2:=fun x y H Q=>DU K x y H Q
section
variable {X:Cx}
def Km:bO X (binaryOp .Add) (IP X.K):=by
 intro pins s U H x y v u Q I rx ry h;obtain ⟨l,b,xs,zs,rfl,rfl,hH,hB,hz,q⟩:=h;cases rx;cases ry;obtain ⟨z,its,n,r,e⟩:=hH.get I;obtain ⟨z2,its2,n2,r2,e2⟩:=hB.get I;have hl:=r.length;have hl2:=r2.length;refine PySem.P.add_list e e2 ?_ (by rw [SD,SD];lia)
 have ea:its.toArray++its2.toArray=(its++its2).toArray:=by simp
 rw [ea];exact ⟨.ref _,_,I.MN (t':=s.toks) (r.append r2) (by rw [SJ];lia),rfl,q _ I.fresh⟩
end
def dP:DR:=fun ds P=>match ds with
 | [.int a,.int b]=>P .sh (.int (a + b))
 | [.list a,.list b]=>a.length + b.length<=sizeLine/\P (.ow false) (.list (a++b))
 | [.tuple a,.tuple b]=>(a≠[]/\a.length + b.length<=sizeLine)/\P .sh (.tuple (a++b))
 | [.str a,.str b]=>a.length + b.length<=sizeLine/\P .sh (.str (a++b))
 | _=>False
def JF (K:Frag):R2:=fun x y H Q=>(((lK fun i j=>.int (i + j)) x y H Q\/IP K x y H Q)\/Jw K x y H Q)\/∃ i j,x=.str i/\y=.str j/\i.length + j.length<=sizeLine/\Q (.str (i++j)) H
def K2:bO X (binaryOp .Add) (JF X.K):=((MS.or Km).or Lg).or Cg
def JU:cO K dP (r2 (JF K)):=by
 intro H Hm vs ds P Q s r h q;unfold dP at h;split at h
 ·obtain ⟨x,y,rfl,h1,h2⟩:=cL r;cases h1;cases h2;exact .inl (.inl (.inl ⟨_,_,rfl,rfl,bE.sc q s h (.int _)⟩))
 ·obtain ⟨x,y,rfl,h1,h2⟩:=cL r;cases h1 with
  | lst a1 r1 =>
   cases h2 with
   | lst a2 r2=>exact .inl (.inl (.inr ⟨_,_,_,_,rfl,rfl,cg.mono s a1,cg.mono s a2,by rw [r1.len,r2.len];exact h.1,fun p hp=>bE.nl q s h.2 hp (r1.app r2)⟩))
 ·obtain ⟨x,y,rfl,h1,h2⟩:=cL r;cases h1 with
  | @tup a xs ds1 a1 r1 =>
   cases h2 with
   | @tup b ys ds2 a2 r2 =>
    refine .inl (.inr ⟨_,_,_,_,rfl,rfl,cJ.of (s _ _ a1),cJ.of (s _ _ a2),fun z=>h.1.1 ?_,by rw [r1.len,r2.len];exact h.1.2,fun z=>?_,fun _ p hp=>bE.nt q s h.2 hp (r1.app r2)⟩)
    ·subst z;cases r1;rfl
    ·subst z;cases r2;refine bE.sc q s h.2 ?_;rw [Sy];exact .tup a1 r1
 ·obtain ⟨x,y,rfl,h1,h2⟩:=cL r;cases h1;cases h2;exact .inr ⟨_,_,rfl,rfl,h.1,bE.sc q s h.2 (.str _)⟩
 ·exact h.elim
inductive Eh (K:Frag) (x:V) (y:V)(H:Hp)(Q:VK):Prop
 | mk:∀ l k xs,(x=.ref l)->(y=.int k)->(cg K H l xs)->(-(2 ^ 63)<=k)->(k < 2 ^ 63)->(xs.length * k.toNat<=sizeLine)->(∀ p,H p=none->Q (.ref p) (upd H p (.lst (List.replicate k.toNat xs).flatten)))->Eh K x y H Q
def Jj (K:Frag):R2:=fun x y H Q=>Eh K x y H Q
section
variable {X:Cx}
open PyProof.Rows in
def Kw:bO X (binaryOp .Mult) (Jj X.K):=by
 intro pins s U H x y v u Q I rx ry h;obtain ⟨l,k,xs,rfl,rfl,hH,h1,h2,hz,q⟩:=h;cases rx;obtain ⟨t,rfl⟩:=ry;obtain ⟨z,its,n,r,e⟩:=hH.get I;have hl:=r.length;have hlen:its.toArray.size * k.toNat<=sizeLine:=by rw [SD,<- hl];exact hz
 have hcap:¬ its.toArray.size * k.toNat > (2 ^ 63 - 1) / 8:=by
  have:(sizeLine:Nat)<=(2 ^ 63 - 1) / 8:=by decide
  lia
 have hfit:¬ (!Builtin.List.listFitsIndex k)=true:=by
  rw [fitsIndex_both h1 h2];exact SQ
 have hlong:¬ Builtin.List.listTooLong (its.toArray.size * k.toNat)=true:=by
  rw [yy hlen];exact SQ
 have hnew:List.foldl (fun x1 x2=>x1++x2) #[] (List.replicate (if its.toArray.isEmpty=true then 0 else k.toNat) its.toArray)=(List.replicate k.toNat its).flatten.toArray:=by
  have f0:∀ m:Nat,List.foldl (fun x1 x2=>x1++x2) #[] (List.replicate m its.toArray)=(List.replicate m its).flatten.toArray:=fun m=>by
   have:=foldl_rep its m [];rw [List.nil_append] at this;exact this
  rw [f0];cases its with
  | nil=>simp
  | cons a r'=>rw [if_neg (by simp)]
 refine wpAny_binaryOp_repeat_ref (T:="list") (U:="int") (by decide) ⟨_,e,rfl⟩ (fun s'=>typeIs_int s' k t) noFill_list_mul F.fills_int_mul F.slot_int_rmul repeat_list F.slot_int_index.lookup
  (Uo F.slot_int_rmul (typeIs_int s k t) F.entry_int_rmul (F.args_int_rmul_2 _ _) (int___rmul___int_list k t l its.toArray n)
   ⟨e,rfl,⟨_,e,rfl⟩,Uo F.slot_list_mul ⟨_,e,rfl⟩ F.entry_list_mul (F.args_list_mul_2 _ _) (AutoListH.list___mul___list_int_3 l its.toArray n k t hfit hcap hlong) ⟨e,?_⟩⟩)
 rw [hnew];exact ⟨.ref _,_,I.MN (t':=s.toks) (r.rep k.toNat) (by rw [len_rep,Nat.mul_comm];exact hz),rfl,q _ I.fresh⟩
end
theorem aA.rep (r:aA K H xs ds):∀ n:Nat,aA K H (List.replicate n xs).flatten (List.replicate n ds).flatten
 | 0=>.nil
 | n + 1=>by rw [UX,UX,Um,Um];exact r.app (r.rep n)
def i8:DR:=fun ds P=>match ds with
 | [.int a,.int b]=>jU a b/\P .sh (.int (a * b))
 | [.list a,.int k]=>(-(2 ^ 63)<=k/\k < 2 ^ 63/\a.length * k.toNat<=sizeLine)/\P (.ow false) (.list (List.replicate k.toNat a).flatten)
 | _=>False
def II (K:Frag):R2:=fun x y H Q=>(rI jU fun i j=>.int (i * j)) x y H Q\/Jj K x y H Q
def Kh:bO X (binaryOp .Mult) (II X.K):=NL.or Kw
def KH:cO K i8 (r2 (II K)):=by
 intro H Hm vs ds P Q s r h q;unfold i8 at h;split at h
 ·obtain ⟨x,y,rfl,h1,h2⟩:=cL r;cases h1;cases h2;exact .inl ⟨_,_,rfl,rfl,h.1,bE.sc q s h.2 (.int _)⟩
 ·obtain ⟨x,y,rfl,h1,h2⟩:=cL r;cases h2;cases h1 with
  | lst a1 r1=>exact .inr ⟨_,_,_,rfl,rfl,cg.mono s a1,h.1.1,h.1.2.1,by rw [r1.len];exact h.1.2.2,fun p hp=>bE.nl q s h.2 hp (r1.rep _)⟩
 ·exact h.elim
end Dv
namespace L2
open PySem PySem.Spec PyProof.Rows
section
variable {prog:Program}{w:World}{A:Around}{E:XE}{s:Shared}
def wI {t sl:Addr}{items:XR}{vl vu:Value}{lo hi:Option Int}{Q:XE}(ht:IsTup s.heap t items)(hs:s.heap.IsSliceOf sl vl vu .none)(pl:IsPart vl lo)(pu:IsPart vu hi)
  (w0:HT.aO items.size 0 lo=0)(w1:HT.aO items.size items.size hi=items.size)(h:Q (.ref t) s):wpAny (model prog w) A (getItem (.ref t) (.ref sl)) Q E s:=by
 obtain ⟨os,hos,hcs,hds⟩:=id hs;have hTs:s.TypeIs (.ref sl) "slice":=⟨os,hos,hcs⟩;unfold getItem;refine Sx (?_:_)
 refine R8 (wpAny_sequenceKey ht.typeIs (by decide) (?_:_))
 refine R8 (Uk (name:=Str.ofString "__getitem__") ht.typeIs Vc
  (TX Vc ht.typeIs entry_tuple_getitem (?_:_) (args_tuple_getitem _ _)))
 refine id (?_:wpAny _ _ (Builtin.Tuple.tupleItemsOf (.ref t) >>= _) _ _ s);refine R8 (tupleItemsOf_ ht (?_:_))
 refine R8 (Ul hTs (?_:_))
 rw [if_pos (by decide)]
 refine R8 (HT.kE hs pl pu (?_:_))
 have yes:(((HT.aO items.size 0 lo:Nat):Int) == 0 && (1:Int) == 1 && (HT.aO items.size items.size hi - HT.aO items.size 0 lo) == items.size)=true:=by
  rw [w0,w1,Nat.sub_zero];simp
 refine id (?_:wpAny _ _ (if (((HT.aO items.size 0 lo:Nat):Int) == 0 && (1:Int) == 1 && (HT.aO items.size items.size hi - HT.aO items.size 0 lo) == items.size)=true then _ else _) _ _ s)
 rw [if_pos yes];refine R8 (m:=Builtin.Tuple.tupleIsExact _) (R8 (Ul ht.typeIs (R9 (?_:_))))
 rw [if_pos (by decide)]
 refine R8 (TJ (?_:_))
 exact R9 ⟨_,rfl,R9 h⟩
end
section
variable {X:Cx}
def Jz (K:XO):V->Option Int->Option Int->Hp->VK->Prop:=fun x lo hi H Q=>∃ a xs,x=.ref a/\cJ K H a xs /\
 (HT.aO xs.length 0 lo=0/\HT.aO xs.length xs.length hi=xs.length->Q (.ref a) H)/\(¬ (HT.aO xs.length 0 lo=0/\HT.aO xs.length xs.length hi=xs.length)->∀ p,H p=none->Q (.ref p) (upd H p (.tup (nK xs lo hi))))
def Li:EZ X (Jz X.K):=by
 intro pins s U H x v vl vu lo hi sl Q I rx hs pl pu h;obtain ⟨a,xs,rfl,hx,q1,q2⟩:=h
 by_cases c:HT.aO xs.length 0 lo=0/\HT.aO xs.length xs.length hi=xs.length
 ·cases rx;obtain ⟨its,r,ht,hz⟩:=I.tuple hx;have hlen:its.toArray.size=xs.length:=by rw [SD];exact r.length.symm
  refine ⟨"tuple",_,Ww,ht.typeIs,?_⟩;exact wI ht hs pl pu (by rw [hlen];exact c.1) (by rw [hlen];exact c.2) ⟨.ref a,H,I,rfl,q1 c⟩
 ·exact Ov pins s U H (.ref a) v vl vu lo hi sl Q I rx hs pl pu ⟨a,xs,rfl,hx,c,q2 c⟩
end
end L2
namespace Dv
open PySem L2 PySem.W
def dl:Nat->PyData->Bool
 | _,.none=>true
 | _,.int _=>true
 | _,.str x=>PyData.strOk x
 | n + 1,.list ds=>ds.all (dl n)
 | n + 1,.tuple ds=>ds.all (dl n)
 | _,_=>false
theorem mQ:∀ {ds:XS},(∀ d∈ds,d.canLay0=true)->PyData.canLayAll0 ds=true
 | [],_=>rfl
 | d::ds,h=>by
  rw [PyData.canLayAll0,h d RT,mQ fun e he=>h e (RY _ he)]
  rfl
theorem p8 {n:Nat}:∀ {ds:XS},(∀ d∈ds,d.depth<=n)->PyData.depthAll ds<=n
 | [],_=>by rw [PyData.depthAll];exact Sd _
 | d::ds,h=>by
  rw [PyData.depthAll];exact Nat.max_le.mpr ⟨h d RT,p8 fun e he=>h e (RY _ he)⟩
theorem iz:∀ {n:Nat}{d:PyData},dl n d=true->d.canLay0=true/\d.depth<=n
 | _,.none,_=>⟨rfl,Sd _⟩
 | _,.int _,_=>⟨rfl,Sd _⟩
 | n,.str x,h=>⟨by cases n <;> exact h,Sd _⟩
 | n + 1,.list ds,h=>by
  have h:ds.all (dl n)=true:=h;rw [SH] at h;refine ⟨by rw [PyData.canLay0];exact mQ fun d hd=>(iz (h d hd)).1,?_⟩
  rw [PyData.depth];have:=p8 (n:=n) (ds:=ds) fun d hd=>(iz (h d hd)).2
  lia
 | n + 1,.tuple ds,h=>by
  have h:ds.all (dl n)=true:=h;rw [SH] at h;refine ⟨by rw [PyData.canLay0];exact mQ fun d hd=>(iz (h d hd)).1,?_⟩
  rw [PyData.depth];have:=p8 (n:=n) (ds:=ds) fun d hd=>(iz (h d hd)).2
  lia
 | 0,.list _,h=>by cases h
 | 0,.tuple _,h=>by cases h
 | n,.bool _,h=>by cases n <;> cases h
 | n,.dict _,h=>by cases n <;> cases h
theorem qf:∀ {ds:XS},(∀ d∈ds,nd d=true)->nd.nds ds=true
 | [],_=>rfl
 | d::ds,h=>by
  rw [nd.nds,h d RT,qf fun e he=>h e (RY _ he)]
  rfl
theorem lQ:∀ {n:Nat}{d:PyData},dl n d=true->nd d=true
 | _,.none,_=>rfl
 | _,.int _,_=>rfl
 | _,.str _,_=>rfl
 | _,.bool _,_=>rfl
 | n + 1,.list ds,h=>by
  have h:ds.all (dl n)=true:=h;rw [SH] at h;rw [nd];exact qf fun d hd=>lQ (h d hd)
 | n + 1,.tuple ds,h=>by
  have h:ds.all (dl n)=true:=h;rw [SH] at h;rw [nd];exact qf fun d hd=>lQ (h d hd)
 | 0,.list _,h=>by cases h
 | 0,.tuple _,h=>by cases h
 | n,.dict _,h=>by cases n <;> cases h
theorem pT (hf:∀ a b,f a=true->f b=true->SeqAt.noMix a b=true):∀ {xs ys:XS},xs.all f=true->ys.all f=true->SeqAt.noMixAll xs ys=true
 | [],[],_,_=>rfl
 | [],_::_,_,_=>rfl
 | _::_,[],_,_=>rfl
 | x::xs,y::ys,h1,h2=>by
  rw [SG,S4] at h1 h2;rw [SeqAt.noMixAll,hf x y h1.1 h2.1,pT hf h1.2 h2.2];rfl
def Er:∀ (n:Nat)(a b:PyData),dl n a=true->dl n b=true->SeqAt.noMix a b=true:=by
 intro n
 induction n with
 | zero =>
  intro a b ha hb;cases a <;> first | (cases ha;done) | (cases b <;> first | (cases hb;done) | rfl)
 | succ n ih =>
  intro a b ha hb;cases a with
  | list xs =>
   cases b with
   | list ys=>rw [SeqAt.noMix];exact pT ih ha hb
   | dict _=>cases hb
   | bool _=>cases hb
   | _=>rfl
  | tuple xs =>
   cases b with
   | tuple ys=>rw [SeqAt.noMix];exact pT ih ha hb
   | dict _=>cases hb
   | bool _=>cases hb
   | _=>rfl
  | dict _=>cases ha
  | bool _=>cases ha
  | _=>cases b <;> first | (cases hb;done) | rfl
def Es {n:Nat}(ha:dl n a=true)(hb:dl n b=true):PyData.eqv a b=decide (a=b):=by
 rw [<- SeqAt.same_eq_eqv a b (Er n a b ha hb),U0,PyProof.Rows.same_iff,TQ]
def wc {n:Nat}(h:dl n d=true)(l:n<=60):SeqAt.shaped d=true:=by
 obtain ⟨h1,h2⟩:=iz h;unfold SeqAt.shaped;rw [h1,Sa (SW h2 (by lia))]
 rfl
def Jf (a b:PyData)(P:Bool->Prop):Prop:=match a,b with
 | .int a,.int b=>P (decide (a=b))
 | .str a,.str b=>P (decide (a=b))
 | .bool a,.bool b=>P (decide (a=b))
 | .none,.none=>P true
 | a,b=>(dl 8 a=true/\dl 8 b=true)/\P (decide (a=b))
def m6:DR:=fun ds P=>match ds with
 | [a,b]=>Jf a b fun c=>P .sh (.bool c)
 | _=>False
def lX:DR:=fun ds P=>match ds with
 | [a,b]=>Jf a b fun c=>P .sh (.bool !c)
 | _=>False
def sG (K:Frag)(neg:Bool):R2:=fun x y H Q=>HX K neg x y H Q\/(if neg then Qp x y H Q else Qd x y H Q)
section
variable {X:Cx}
def FT (hu:X.A.units + 64 < cLine):bO X (compareOp .Eq) (sG X.K false):=(Ms hu).or (O4 (X:=X))
def MT (hu:X.A.units + 64 < cLine):bO X (compareOp .NotEq) (sG X.K true):=(Og hu).or (Pq (X:=X))
end
def FQ (neg:Bool)(s:ai Hm H)(h1:Rp K Hm x a)(h2:Rp K Hm y b)(h:Jf a b Pb)(q:∀ c,Pb c->Q (.bl (if neg then !c else c)) H):sG K neg x y H Q:=by
 have gen:dl 8 a=true/\dl 8 b=true->Pb (decide (a=b))->sG K neg x y H Q:=fun hd p=>by
  refine .inl ⟨a,b,(h1.mono s).pJ (lQ hd.1),(h2.mono s).pJ (lQ hd.2),wc hd.1 (by decide),wc hd.2 (by decide),Er 8 a b hd.1 hd.2,?_⟩
  have e:Spec.same a b=decide (a=b):=by rw [U0,PyProof.Rows.same_iff,TQ]
  rw [e];exact q _ p
 have sc:HM x y=true->Pb (decide (x=y))->sG K neg x y H Q:=fun hs p=>by
  refine .inr ?_;cases neg with
  | true=>exact ⟨hs,q _ p⟩
  | false=>exact ⟨hs,q _ p⟩
 unfold Jf at h;split at h
 ·cases h1;cases h2;refine sc rfl ?_
  simpa using h
 ·cases h1;cases h2;refine sc rfl ?_
  simpa using h
 ·cases h1;cases h2;refine sc rfl ?_
  simpa using h
 ·cases h1;cases h2;exact gen ⟨rfl,rfl⟩ (by simpa using h)
 ·exact gen h.1 h.2
def Eg:cO K m6 (r2 (sG K false)):=by
 intro H Hm vs ds P Q s r h q;unfold m6 at h;split at h
 ·obtain ⟨x,y,rfl,h1,h2⟩:=cL r;exact FQ false s h1 h2 h fun c p=>bE.sc q s p (.bl _)
 ·exact h.elim
def Nv:cO K lX (r2 (sG K true)):=by
 intro H Hm vs ds P Q s r h q;unfold lX at h;split at h
 ·obtain ⟨x,y,rfl,h1,h2⟩:=cL r;exact FQ true s h1 h2 h fun c p=>bE.sc q s p (.bl _)
 ·exact h.elim
def cG (neg:Bool):DR:=fun ds P=>match ds with
 | [a,.none]=>P .sh (.bool (if neg then !decide (a=.none) else decide (a=.none)))
 | _=>False
def BE (h:Rp K H x d):decide (x=.br)=decide (d=.none):=by
 cases h <;> simp
def AL:cO K (cG false) (r2 fun x y H Q=>y=.br/\Q (.bl (decide (x=.br))) H):=by
 intro H Hm vs ds P Q s r h q;unfold cG at h;split at h
 ·obtain ⟨x,y,rfl,h1,h2⟩:=cL r;cases h2;refine ⟨rfl,?_⟩;rw [BE h1];exact bE.sc q s h (.bl _)
 ·exact h.elim
def Ie:cO K (cG true) (r2 fun x y H Q=>y=.br/\Q (.bl (!decide (x=.br))) H):=by
 intro H Hm vs ds P Q s r h q;unfold cG at h;split at h
 ·obtain ⟨x,y,rfl,h1,h2⟩:=cL r;cases h2;refine ⟨rfl,?_⟩;rw [BE h1];exact bE.sc q s h (.bl _)
 ·exact h.elim
def EU (neg:Bool):DR:=fun ds P=>match ds with
 | [d,.list xs]=>(xs.all (dl 8)=true/\dl 8 d=true)/\P .sh (.bool (if neg then !decide (d∈xs) else decide (d∈xs)))
 | [d,.tuple xs]=>(xs.all (dl 8)=true/\dl 8 d=true)/\P .sh (.bool (if neg then !decide (d∈xs) else decide (d∈xs)))
 | _=>False
inductive Jp (K:Frag)(neg:Bool) (x:V) (y:V)(H:Hp)(Q:VK):Prop
 | mk:∀ (d:PyData)(xs:XS),(lU K H x d)->((lU K H y (.list xs)\/lU K H y (.tuple xs)))->(PyData.canLayAll0 xs=true)->(d.canLay0=true)->(d.depth<=60)->(Q (.bl (if neg then !xs.any fun y=>PyData.eqv y d else xs.any fun y=>PyData.eqv y d)) H)->Jp K neg x y H Q
def Hi (K:Frag)(neg:Bool):R2:=fun x y H Q=>Jp K neg x y H Q
section
variable {X:Cx}
def L5 (hu:X.A.units + 64 < cLine):bO X (compareOp .In) (Hi X.K false):=by
 intro pins s U H x y v u Q I rx ry h;obtain ⟨d,xs,hx,hy,l1,l2,dp,q⟩:=h;obtain ⟨bs,rb⟩:=I.reads hx rx;rcases hy with hy | hy
 ·obtain ⟨as,ra⟩:=I.reads hy ry;exact SeqAt.in_list_reads ra rb l1 l2 (by lia) ⟨.bl _,H,I,rfl,q⟩
 ·obtain ⟨as,ra⟩:=I.reads hy ry;exact SeqAt.in_tuple_reads ra rb l1 l2 (by lia) ⟨.bl _,H,I,rfl,q⟩
end
def AM {n:Nat}{xs:XS}(h:xs.all (dl n)=true)(hd:dl n d=true):(xs.any fun y=>PyData.eqv y d)=decide (d∈xs):=by
 rw [U0,Wd,TQ];rw [SH] at h;constructor
 ·rintro ⟨y,hy,e⟩;rw [Es (h y hy) hd,TQ] at e;exact e ▸ hy
 ·intro m;exact ⟨d,m,by rw [Es hd hd];simp⟩
def Oo {K:Frag}(neg:Bool):cO K (EU neg) (r2 (Hi K neg)):=by
 intro H Hm vs ds P Q s r h q;unfold EU at h;split at h
 ·rename_i d xs;obtain ⟨x,y,rfl,h1,h2⟩:=cL r;obtain ⟨⟨ha,hd⟩,p⟩:=h;refine ⟨d,xs,(h1.mono s).pJ (lQ hd),.inl ((h2.mono s).pJ (by rw [nd];exact qf fun d hd=>lQ (SH.mp ha d hd))),mQ fun e he=>(iz (SH.mp ha e he)).1,(iz hd).1,SW (iz hd).2 (by decide),?_⟩
  rw [AM ha hd];exact bE.sc q s p (.bl _)
 ·rename_i d xs;obtain ⟨x,y,rfl,h1,h2⟩:=cL r;obtain ⟨⟨ha,hd⟩,p⟩:=h;refine ⟨d,xs,(h1.mono s).pJ (lQ hd),.inr ((h2.mono s).pJ (by rw [nd];exact qf fun d hd=>lQ (SH.mp ha d hd))),mQ fun e he=>(iz (SH.mp ha e he)).1,(iz hd).1,SW (iz hd).2 (by decide),?_⟩
  rw [AM ha hd];exact bE.sc q s p (.bl _)
 ·exact h.elim
def Gm:DR:=fun ds P=>match ds with
 | [.list xs,.int i]=>∃ d,eF xs i=some d/\P .sh d
 | [.tuple xs,.int i]=>∃ d,eF xs i=some d/\P .sh d
 | _=>False
theorem aA.eF (r:aA K H vs ds){i:Int}(h:L2.eF ds i=some d):∃ v,L2.eF vs i=some v/\Rp K H v d:=by
 unfold L2.eF at h ⊢;rw [r.len];cases e:oK ds.length i with
 | none=>rw [e] at h;cases h
 | some j =>
  rw [e] at h;exact r.get h
def zJ:cO K Gm (r2 (NN K)):=by
 intro H Hm vs ds P Q s r h q;unfold Gm at h;split at h
 ·obtain ⟨x,y,rfl,h1,h2⟩:=cL r;obtain ⟨d,e,p⟩:=h;cases h2;cases h1 with
  | lst a1 r1 =>
   obtain ⟨v,e2,rv⟩:=r1.eF e;exact .inl ⟨_,_,_,v,rfl,rfl,(cg.mono s a1).sq,e2,bE.sc q s p rv⟩
 ·obtain ⟨x,y,rfl,h1,h2⟩:=cL r;obtain ⟨d,e,p⟩:=h;cases h2;cases h1 with
  | tup a1 r1 =>
   obtain ⟨v,e2,rv⟩:=r1.eF e;exact .inr (.inl ⟨_,_,_,v,rfl,rfl,cJ.of (s _ _ a1),e2,bE.sc q s p rv⟩)
 ·exact h.elim
def cutD (xs:XS)(lo hi:Option Int):XS:=(xs.drop (HT.aO xs.length 0 lo)).take (HT.aO xs.length xs.length hi - HT.aO xs.length 0 lo)
def aA.cut (r:aA K H vs ds)(lo hi:Option Int):aA K H (nK vs lo hi) (cutD ds lo hi):=by
 unfold nK cutD;rw [r.len];exact (r.drop _).take _
def El (d:PyData)(lo hi:Option Int)(P:Xg):Prop:=match d with
 | .list xs=>P (.ow false) (.list (cutD xs lo hi))
 | .tuple xs=>P .sh (.tuple (cutD xs lo hi))
 | _=>False
def lJ (bl bh:Bool):DR:=fun ds P=>match bl,bh,ds with
 | false,false,[d]=>El d none none P
 | true,false,[d,.int a]=>El d (some a) none P
 | false,true,[d,.int b]=>El d none (some b) P
 | true,true,[d,.int a,.int b]=>El d (some a) (some b) P
 | _,_,_=>False
def u7 (K:Frag):V->Option Int->Option Int->Hp->VK->Prop:=fun x lo hi H Q=>LF K x lo hi H Q\/Jz K x lo hi H Q
def Ih:EZ X (u7 X.K):=fun pins s U H x v vl vu lo hi sl Q I rx hs pl pu h=>h.elim (JJ pins s U H x v vl vu lo hi sl Q I rx hs pl pu) (Li pins s U H x v vl vu lo hi sl Q I rx hs pl pu)
def FW (bl bh:Bool)(K:Frag):List V->Hp->VK->Prop:=fun vs H Q=>match bl,bh,vs with
 | false,false,[x]=>u7 K x none none H Q
 | true,false,[x,a]=>∃ i,a=.int i/\u7 K x (some i) none H Q
 | false,true,[x,b]=>∃ i,b=.int i/\u7 K x none (some i) H Q
 | true,true,[x,a,b]=>∃ i,a=.int i/\∃ j,b=.int j/\u7 K x (some i) (some j) H Q
 | _,_,_=>False
def Ce (h:HT.aO xs.length 0 lo=0/\HT.aO xs.length xs.length hi=xs.length):cutD xs lo hi=xs:=by
 unfold cutD;rw [h.1,h.2,Vq,Nat.sub_zero,Tj]
def sV (q:bE K H Hm P Q)(s:ai Hm H)(h1:Rp K Hm x d)(h:El d lo hi P):u7 K x lo hi H Q:=by
 cases h1 with
 | lst a1 r1=>exact .inl ⟨_,_,rfl,(cg.mono s a1).sq,fun p hp=>bE.nl q s h hp (r1.cut lo hi)⟩
 | tup a1 r1 =>
  refine .inr ⟨_,_,rfl,cJ.of (s _ _ a1),fun w=>?_,fun _ p hp=>bE.nt q s h hp (r1.cut lo hi)⟩
  rw [r1.len] at w;have h:P .sh (.tuple (cutD _ lo hi)):=h;rw [Ce w] at h;exact bE.sc q s h (.tup a1 r1)
 | _=>exact h.elim
def zf (bl bh:Bool):cO K (lJ bl bh) (FW bl bh K):=by
 intro H Hm vs ds P Q s r h q;unfold lJ at h;split at h
 ·obtain ⟨x,rfl,h1⟩:=dM r;exact sV q s h1 h
 ·obtain ⟨x,y,rfl,h1,h2⟩:=cL r;cases h2;exact ⟨_,rfl,sV q s h1 h⟩
 ·obtain ⟨x,y,rfl,h1,h2⟩:=cL r;cases h2;exact ⟨_,rfl,sV q s h1 h⟩
 ·obtain ⟨x,y,z,rfl,h1,h2,h3⟩:=QH r;cases h2;cases h3;exact ⟨_,rfl,_,rfl,sV q s h1 h⟩
 ·exact h.elim
section
variable {X:Cx}{Ex:XK}{Y:Xa}{a l u:Expr}{pos p2:Pos}{as:List Arg}
def N6 (S:aS X Ex Y [a,l] as):SE X Ex Y (.Subscript a (.Slice (some l) none none p2) pos) (ah (lJ true false) as):=eZ (r:=FW true false X.K) S (fun U H Q h=>WE.of (zR Ih bg (AQ bg) A0) h) (zf _ _)
def Ef (S:aS X Ex Y [a,u] as):SE X Ex Y (.Subscript a (.Slice none (some u) none p2) pos) (ah (lJ false true) as):=eZ (r:=FW false true X.K) S (fun U H Q h=>WE.of (zR Ih bg A0 (AQ bg)) h) (zf _ _)
open PyProof.Rows in
def NK (h:vX X [a,l,u] U H fun vs H1=>FW true true X.K vs H1 Q):WE X (.Subscript a (.Slice (some l) (some u) none p2) pos) U H Q:=by
 intro pins s I;refine Subscript_ (aM (h pins s I) fun v s1 ⟨x,H1,I1,r1,q1⟩=>?_)
 refine wpAny_Slice ?_;rw [evalPart_some];refine aM (q1 pins s1 I1) fun vl s2 ⟨y,H2,I2,pl,q2⟩=>?_
 rw [evalPart_some];refine aM (q2 pins s2 I2) fun vu s3 ⟨z,H3,I3,pu,q3⟩=>?_
 obtain ⟨i,rfl,j,rfl,q3⟩:=q3;obtain ⟨t1,rfl⟩:=pl;obtain ⟨t2,rfl⟩:=pu;rw [evalPart_none];refine R9 ?_;have I4:Inv X pins U H3 { s3 with heap:=s3.heap.push { cls:=.type "slice",data:=.fields #[.int i t1,.int j t2,.none] } }:=I3.kept (t':=s3.toks) fun b ob q=>S5 _ q
 obtain ⟨T,id,hT,ht,hg⟩:=Ih pins { s3 with heap:=s3.heap.push { cls:=.type "slice",data:=.fields #[.int i t1,.int j t2,.none] } } U H3 x v (.int i t1) (.int j t2) (some i) (some j) s3.heap.objs.size Q I4 r1 (Heap.IsSliceOf.new ..) (.int i t1) (.int j t2) q3
 show wpAny (model X.prog X.w) X.A (subscriptTail a (.Slice (some l) (some u) none p2) v (.ref s3.heap.objs.size)) (EP X pins U Q) X.xe { s3 with heap:=s3.heap.push { cls:=.type "slice",data:=.fields #[.int i t1,.int j t2,.none] } }
 exact tail_any (ops:=[.ref s3.heap.objs.size,v]) ht hT hg (by with_unfolding_all rfl)
def M7 (S:aS X Ex Y [a,l,u] as):SE X Ex Y (.Subscript a (.Slice (some l) (some u) none p2) pos) (ah (lJ true true) as):=eZ (r:=FW true true X.K) S (fun U H Q h=>NK h) (zf _ _)
end
end Dv
namespace L2
open PySem PySem.Spec PyProof.Rows
section
variable {X:Cx}
def FZ (hc:X.calm=true):cF X (.builtin "any") (fun xs H Q=>∃ (a:Addr)(bs:XX),xs=[.ref a]/\bF X.K H a (bs.map V.bl)/\Q (.bl (bs.any id)) H):=by
 intro pins s U H xs us Q I r h;obtain ⟨a,bs,rfl,hq,q⟩:=h;obtain ⟨u,rfl,ru⟩:=vals1 r;cases ru;obtain ⟨its,rv,p,_⟩:=I.list hq;have hl:=p.isList;have hlt:a < s.heap.objs.size:=by
  obtain ⟨o,ho,_⟩:=id hl;exact S3 ho
 have hh:X.A.in1.handled=none:=by simp [I.ok.hd hc]
 refine call_any_walk (WO hl ?_);refine ⟨_,_,_,_,_,_,fun i=>bs.getD i false,rfl,Walks.list hh _ a (S8 hlt) its.toArray,⟨⟨_,SY _ rfl,rfl,rfl⟩,hl.push _⟩,fun i v s' Q' E' hP hQ=>?_,fun h' tk hk=>?_⟩
 ·have hP':its[i]?=some v:=by simpa using hP
  obtain ⟨x,hx,rx⟩:=vo rv i v hP';rw [S7] at hx;cases e:bs[i]? with
  | none=>rw [e] at hx;cases hx
  | some b =>
   rw [e] at hx;cases hx;cases rx;have e2:bs.getD i false=b:=by rw [TM,e];rfl
   dsimp only at hQ;rw [e2] at hQ;exact UB hQ
 ·have kp:∀ b o,s.heap.get? b=some o->h'.get? b=some o:=fun b o hb=>hk b o (by
   have:=S3 hb;simp only [RZ];exact S8 this) (S5 _ hb)
  have len:its.toArray.size=bs.length:=by rw [SD,<- rv.length,RX]
  refine ⟨.bl _,H,I.kept (t':=tk) kp,rfl,?_⟩;have e:(List.range its.toArray.size).any (fun i=>bs.getD i false)=bs.any id:=by
   rw [len,U0,Wd,Wd];constructor
   ·rintro ⟨i,hi,h⟩;have hi':=SN.mp hi;rw [TM,S9 hi'] at h;exact ⟨_,U9 hi',h⟩
   ·rintro ⟨b,hb,h⟩;obtain ⟨i,hi⟩:=U7 hb;refine ⟨i,SN.mpr (U1.mp hi).1,?_⟩;rw [TM,hi];exact h
  rw [e];exact q
end
section
variable {X:Cx}
def Ae:cF X (.type "range") (fun xs H Q=>∃ j:Int,xs=[.int j]/\∀ p,H p=none->Q (.ref p) (upd H p (.rj 0 j))):=by
 intro pins s U H xs us Q I r h;obtain ⟨j,rfl,q⟩:=h;obtain ⟨u,rfl,ru⟩:=vals1 r;obtain ⟨t,rfl⟩:=ru;refine call_range_1 (?_:_)
 exact ⟨.ref s.heap.objs.size,_,I.laid (o:=.rj 0 j) (fun b o e=>S5 _ e) (RW _) ⟨_,_,_,SY _ rfl⟩,rfl,q _ (I.hok.fresh (RW _))⟩
def CA (hc:X.calm=true):cF X (.type "list") (fun xs H Q=>∃ (a:Addr) (j:Int),xs=[.ref a]/\H a=some (.rj 0 j)/\0<=j/\j<=1000/\∀ l,H l=none->Q (.ref l) (upd H l (.lst (((List.range j.toNat).map fun i:Nat=>(i:Int)).map V.int)))):=by
 intro pins s U H xs us Q I r h;obtain ⟨a,j,rfl,ha,j0,j1,q⟩:=h;obtain ⟨u,rfl,ru⟩:=vals1 r;cases ru;obtain ⟨t,u,v,e⟩:=I.hok a _ ha;refine call_list_range (n:=j.toNat) (I.ok.hd hc) e (small_one (by decide) (by decide) (by lia) (by lia)) (by rw [rangeSize_one];split <;> lia) (by lia) fun h' tk acc c kp hS its=>?_
 obtain ⟨z1,z2⟩:=its;have rv:Vals (((List.range j.toNat).map fun i:Nat=>(i:Int)).map V.int) acc.toList:=by
  have go:∀ (l:XU) (k:Nat),(∀ (i:Nat)(v:Value),l[i]?=some v->∃ t:Tok,v=Value.int ((k + i:Nat):Int) t)->Vals (((List.range' k l.length).map fun i:Nat=>(i:Int)).map V.int) l:=fun l=>by
   induction l with
   | nil=>exact fun k _=>.nil
   | cons x l ih =>
    intro k h;obtain ⟨t,e⟩:=h 0 x rfl;refine .cons ⟨t,by simpa using e⟩ (ih (k + 1) fun i v hv=>?_)
    obtain ⟨t,e⟩:=h (i + 1) v hv;exact ⟨t,by rw [e,Nat.add_assoc,Vf 1 i]⟩
  have:=go acc.toList 0 fun i v hv=>by
   obtain ⟨t,e⟩:=z2 i v (by simpa using hv)
   exact ⟨t,by rw [e];simp⟩
  rw [WJ]
  simpa [z1] using this
 exact ⟨.ref s.heap.objs.size,_,I.laid (t':=tk) kp (RW _) (o:=.lst _) ⟨by rw [RX,RX,SA];exact SW (show j.toNat<=1000 by lia) (by decide),acc.toList,c,rv,by simpa using hS⟩,rfl,q _ (I.hok.fresh (RW _))⟩
end
end L2
namespace L2
open PySem PySem.Spec PyProof.Rows PySem.W
def cQ {α:Type}(c:Xa)(x:α):List (List Nat×List α)->List (List Nat×List α)
 | []=>[(c,[x])]
 | (d,xs)::gs=>if d=c then (d,xs++[x])::gs else (d,xs)::cQ c x gs
def gZ {α:Type}(l:List (List Nat×α)):List (List Nat×List α):=l.foldl (fun gs q=>cQ q.1 q.2 gs) []
def lP {α:Type}(l:List (List Nat×α))(q:List Nat×α):gZ (l++[q])=cQ q.1 q.2 (gZ l):=by
 unfold gZ;rw [List.foldl_append];rfl
theorem yL {α:Type}(c:Xa)(x:α):∀ gs:List (List Nat×List α),(cQ c x gs).length<=gs.length + 1/\∀ n,(∀ g∈gs,g.2.length<=n)->∀ g∈cQ c x gs,g.2.length<=n + 1
 | []=>⟨RW _,fun n _ g hg=>by cases RZ.mp hg;exact Ve (Sd _)⟩
 | (d,xs)::gs=>by
  obtain ⟨h1,h2⟩:=yL c x gs
  by_cases e:d=c
  ·have e2:cQ c x ((d,xs)::gs)=(d,xs++[x])::gs:=if_pos e;rw [e2];refine ⟨UY _,fun n hn g hg=>?_⟩
   rcases S2.mp hg with rfl | hg
   ·have:=hn _ RT;rw [SJ];exact Ve this
   ·exact VO (hn g (RY _ hg))
  ·have e2:cQ c x ((d,xs)::gs)=(d,xs)::cQ c x gs:=if_neg e;rw [e2];refine ⟨Ve h1,fun n hn g hg=>?_⟩
   rcases S2.mp hg with rfl | hg
   ·exact VO (hn _ RT)
   ·exact h2 n (fun g hg=>hn g (RY _ hg)) g hg
theorem rR {α:Type}:∀ (n:Nat)(l:List (List Nat×α)),(gZ (l.take n)).length<=n/\∀ g∈gZ (l.take n),g.2.length<=n
 | 0,l=>by
  rw [List.take_zero];exact ⟨RW _,fun g hg=>(nomatch hg)⟩
 | n + 1,l=>by
  obtain ⟨h1,h2⟩:=rR n l;rw [VL];cases e:l[n]? with
  | none =>
   rw [Vt,Sy];exact ⟨VO h1,fun g hg=>VO (h2 g hg)⟩
  | some q =>
   rw [Vu,lP];obtain ⟨h3,h4⟩:=yL q.1 q.2 (gZ (l.take n));exact ⟨by lia,h4 n h2⟩
theorem vW {α:Type}(c:Xa)(x:α):∀ gs:List (List Nat×List α),(gs.map (·.1)).Nodup->((cQ c x gs).map (·.1)).Nodup/\∀ d,d∈(cQ c x gs).map (·.1)↔d∈gs.map (·.1)\/d=c
 | [],_=>⟨Sj.mpr ⟨Se,Tr⟩,fun d=>by simp [cQ]⟩
 | (e,xs)::gs,h=>by
  obtain ⟨n1,n2⟩:=Sj.mp h;obtain ⟨h1,h2⟩:=vW c x gs n2
  by_cases k:e=c
  ·have e2:cQ c x ((e,xs)::gs)=(e,xs++[x])::gs:=if_pos k;rw [e2];refine ⟨h,fun d=>?_⟩
   show d∈e::gs.map (·.1)↔d∈e::gs.map (·.1)\/d=c;constructor
   ·exact .inl
   ·rintro (z | rfl)
    ·exact z
    ·rw [k];exact RT
  ·have e2:cQ c x ((e,xs)::gs)=(e,xs)::cQ c x gs:=if_neg k;rw [e2];refine ⟨Sj.mpr ⟨fun z=>?_,h1⟩,fun d=>?_⟩
   ·rcases (h2 e).mp z with z | z
    ·exact n1 z
    ·exact k z
   ·show d∈e::(cQ c x gs).map (·.1)↔d∈e::gs.map (·.1)\/d=c;rw [S2,S2,h2 d];constructor
    ·rintro (z | z | z)
     ·exact .inl (.inl z)
     ·exact .inl (.inr z)
     ·exact .inr z
    ·rintro ((z | z) | z)
     ·exact .inl z
     ·exact .inr (.inl z)
     ·exact .inr (.inr z)
section
variable {X:Cx}{a:Expr}{ta:TE}{pos:Pos}
def JR (ha:PE X a ta):PE X (.UnaryOp .Not a pos) (fun U H Q=>ta U H fun x H1=>∃ k,sJ X.K x H1 k/\Q (.bl (!k)) H1):=by
 intro pins s U H Q I h;refine UnaryOp_ (aM (ha pins s U H _ I h) fun v s1 ⟨x,H1,I1,r1,k,tk,q1⟩=>?_)
 refine not_of (aM (zy pins s1 U H1 x v (fun b H2=>Q (.bl (!b)) H2) I1 r1 ⟨k,tk,q1⟩) fun b s2 ⟨H2,I2,q2⟩=>?_)
 exact ⟨.bl (!b),H2,I2,rfl,q2⟩
end
end L2
namespace Dv
open PySem L2 PySem.W
section
variable {X:Cx}{Ex:XK}{Y:Xa}
def Ct (h:PE X e (tC u))(r:∀ Hm,Rp X.K Hm u v):SE X Ex Y e (dC v):=fun g x E U H Hm F P Q hx R p q=>WE.of h (q _ _ _ _ _ _ _ [] p R (ai.refl _) (Tm.sh (r Hm)))
def Oe {i j:Nat}(h:PE X e (jf j))(hj:Y[j]?=some i):SE X Ex Y e (bN i):=by
 intro g x E U H Hm F P Q hx R p q
 replace p:DY E i P:=p
 unfold DY at p;split at p
 rotate_left
 ·exact p.elim
 rename_i k d e1;rw [<- bI,AO] at p;obtain ⟨E',e2,p⟩:=p;obtain ⟨v,Hm',F',h1,s,R',r⟩:=R.cY e1 e2;exact WE.of h ⟨v,cV hj h1,q _ _ _ _ _ _ _ [] p R' s (Tm.sh r)⟩
def bT (X:Cx)(Ex:XK)(Y:Xa)(e:Expr)(d:DE):Prop :=
 ∀ (g:Gh)(x:XC)(E:En)(U:St)(H Hm:Hp)(F:Nat->XW)(P:Xd)(Q:Bool->Hp->Prop),XL X Ex x g->Rl X.K g E U H Hm F->d x E P ->
  (∀ E' k v H' Hm' F',P E' k v->Rl X.K g E' U H' Hm' F'->ai Hm Hm'->∃ b,kI v=some b/\Q b H')->WT X e (sel Y U) H Q
def bT.st {e:Expr}{d:DE}(h:bT X Ex Y e d):ST X Ex Y e (cu d):=by
 rw [Kq];exact fun g x E U H Hm F P Q hx R p q=>h g x E U H Hm F _ Q hx R p fun E' k v H' Hm' F' ⟨b,e1,p⟩ R' s=>⟨b,e1,q _ _ _ _ _ p R' s⟩
theorem Rp.kI {b:Bool}(r:Rp K H u v)(h:Dv.kI v=some b):sJ K u H b:=by
 cases r with
 | br=>cases h;rfl
 | bl c=>cases h;rfl
 | int i =>
  cases h;show (!decide (i=0))=(i != 0);rw [bne,Bool.beq_eq_decide_eq]
 | str _=>cases h
 | lst a r1 =>
  cases h;refine .inl ⟨_,a.sq,?_⟩;cases r1 <;> rfl
 | tup a r1 =>
  cases h;refine .inr (.inl ⟨_,cJ.of a,?_⟩);cases r1 <;> rfl
 | dk _ _=>cases h
 | dt _ _=>cases h
theorem Own.kI {b:Bool}(o:Own K H Hm k u v fp)(s:ai Hm H)(h:Dv.kI v=some b):sJ K u H b:=by
 by_cases hk:k.rd=true
 ·exact (o.rp (Hm':=H) hk s fun _ _=>rfl).kI h
 ·cases o <;> first | exact absurd rfl hk | cases h
def SE.AZ (h:SE X Ex Y e d)(he:∀ whole,isTrue e X.env whole=(do let v <- whole;standAt e.pos;holding [v] (truthy v))):bT X Ex Y e d:=by
 intro g x E U H Hm F P Q hx R p q;refine WT.of (zD bg he) (h g x E U H Hm F P _ hx R p fun E' k v u H' Hm' F' fp p' R' s T=>?_)
 obtain ⟨b,e1,q'⟩:=q _ _ _ _ _ _ p' R' s;exact ⟨b,T.own.kI R'.sub e1,q'⟩
def Mk (ho:bO X (compareOp op) r)(hm:behindInMarks op b=false)(h:vX X [a,b] U H fun vs H1=>r2 r vs H1 fun x H'=>∃ k,sJ X.K x H' k/\Q k H'):WT X (.Compare a [op] [b] pos) U H Q:=by
 intro pins s I;refine wpAny_isTrue_Compare1 (aM (h pins s I) fun v s1 ⟨x,H1,I1,r1,q1⟩=>aM (q1 pins s1 I1) fun u s2 ⟨y,H2,I2,r2,q2⟩=>aM (ho pins s2 U H2 x y v u _ I2 r1 r2 q2) fun c s3 ⟨z,H3,I3,r3,q3⟩=>?_) hm
 exact zy pins s3 U H3 z c Q I3 r3 q3
def Mw (S:aS X Ex Y es as)(hr:∀ U H (Q:Bool->Hp->Prop),vX X es U H (fun vs H1=>r vs H1 fun x H'=>∃ k,sJ X.K x H' k/\Q k H')->WT X e U H Q)(D:cO X.K f r):bT X Ex Y e (ah f as):=by
 intro g x E U H Hm F P Q hx R h q;refine hr _ _ _ (m8 hx S R h fun E1 os vs H1 Hm1 F1 p R1 s1 G=>?_)
 replace p:yG f as E1 os P:=p
 unfold yG at p;rw [<- bI,fP] at p;obtain ⟨ds,hf,hg⟩:=p;have off:∀ a∈(ir as).flatMap F1,Hm1 a=none:=fun a ha=>by
  obtain ⟨i,_,h⟩:=So.mp ha;exact R1.off i a h
 have up:=ic (Hm:=Hm1) (H:=H1) off;refine D H1 (lend Hm1 H1 ((ir as).flatMap F1)) vs ds _ _ (i9 R1.sub) (vm R1 up G hf fun i hi a ha=>dR (So.mpr ⟨i,hi,ha⟩)) hg fun k v u H' Hm2 fp p sH sM sS old o fr=>?_
 replace p:aL (rS as E1 k v) _:=p
 rw [<- bI,AB] at p;obtain ⟨E2,ha,p⟩:=p;obtain ⟨Hm',F',R',s',T⟩:=x9 R1 (is:=ir as) (zE ha) sH sM sS old o fr;obtain ⟨b,e1,q'⟩:=q _ _ _ _ _ _ p R' (s1.trans s');exact ⟨b,o.kI sS e1,q'⟩
def iw (ho:bO X (compareOp op) r)(hm:behindInMarks op b=false)(D:cO X.K f (r2 r))(S:aS X Ex Y [a,b] as):bT X Ex Y (.Compare a [op] [b] pos) (ah f as):=Mw S (fun U H Q h=>Mk ho hm h) D
theorem Own.bool {c:Bool}(o:Own K H Hm k u (.bool c) fp):u=.bl c:=by
 cases o with
 | sh r=>cases r;rfl
theorem Own.int {i:Int}(o:Own K H Hm k u (.int i) fp):u=.int i:=by
 cases o with
 | sh r=>cases r;rfl
def MJ (h:SE X Ex Y a d):SE X Ex Y (.BoolOp op [a] pos) d:=fun g x E U H Hm F P Q hx R p q=>WE.of (MQ bg) (h g x E U H Hm F P Q hx R p q)
def PV {a b:Expr}{rest:XY}{pos:Pos}{d e:DE}(ha:SE X Ex Y a d)(hb:SE X Ex Y (.BoolOp .Or (b::rest) pos) e):SE X Ex Y (.BoolOp .Or (a::b::rest) pos) (pQ d e):=by
 rw [Ge];intro g x E U H Hm F P Q hx R p q;refine WE.of (O9 bg bg) (ha g x E U H Hm F _ _ hx R p fun E1 k v u H1 Hm1 F1 fp p1 R1 s1 T=>?_)
 obtain ⟨c,rfl,p1⟩:=p1;refine ⟨c,T.own.bool,?_⟩;cases c with
 | true=>exact pZ (q _ _ _ _ _ _ _ [] p1 R1 s1 (Tm.sh (.bl true)))
 | false=>exact p7 (hb g x E1 U H1 Hm1 F1 P Q hx R1 p1 fun E' k v u H' Hm' F' fp p' R' s' T'=>q _ _ _ _ _ _ _ _ p' R' (s1.trans s') T')
def OH (ha:SE X Ex Y a d):SE X Ex Y (.UnaryOp .Not a pos) (pK d):=by
 rw [AF];intro g x E U H Hm F P Q hx R p q;refine WE.of (JR bg) (ha g x E U H Hm F _ _ hx R p fun E1 k v u H1 Hm1 F1 fp p1 R1 s1 T=>?_)
 obtain ⟨c,hc,p1⟩:=p1;exact ⟨c,T.own.kI R1.sub hc,q _ _ _ _ _ _ _ [] p1 R1 s1 (Tm.sh (.bl _))⟩
def By (ha:bT X Ex Y a d):bT X Ex Y (.UnaryOp .Not a pos) (pK d):=by
 rw [AF];intro g x E U H Hm F P Q hx R p q;refine WT.of (Ew jA) (ha g x E U H Hm F _ _ hx R p fun E1 k v H1 Hm1 F1 p1 R1 s1=>?_)
 obtain ⟨c,hc,p1⟩:=p1;obtain ⟨b,e1,q'⟩:=q _ _ _ _ _ _ p1 R1 s1;refine ⟨c,hc,?_⟩;cases e1;exact q'
def WW (X:Cx)(e:Expr):TT:=fun U H Q=>∀ (whole:Sem Value)(pins:XH)(s:Shared),Inv X pins U H s->wpAny (model X.prog X.w) X.A (isTrue e X.env whole) (TP X pins U Q) X.xe s
def pw_ww:PW X e (WW X e):=fun wh pins s _ _ _ I h=>h wh pins s I
def WW.of (h:PW X e t)(q:t U H Q):WW X e U H Q:=fun wh pins s I=>h wh pins s U H Q I q
def qj (X:Cx)(Ex:XK)(Y:Xa)(e:Expr)(d:DE):Prop :=
 ∀ (g:Gh)(x:XC)(E:En)(U:St)(H Hm:Hp)(F:Nat->XW)(P:Xd)(Q:Bool->Hp->Prop),XL X Ex x g->Rl X.K g E U H Hm F->d x E P ->
  (∀ E' k v H' Hm' F',P E' k v->Rl X.K g E' U H' Hm' F'->ai Hm Hm'->∃ b,kI v=some b/\Q b H')->WW X e (sel Y U) H Q
def qj.AZ (h:qj X Ex Y e d):bT X Ex Y e d:=fun g x E U H Hm F P Q hx R p q=>WT.of (PW.pt pw_ww) (h g x E U H Hm F P Q hx R p q)
def qt (h:bT X Ex Y a d):qj X Ex Y (.BoolOp op [a] pos) d:=fun g x E U H Hm F P Q hx R p q=>by
 cases op with
 | And=>exact WW.of (pw_and1 jA) (h g x E U H Hm F P Q hx R p q)
 | Or=>exact WW.of (pw_or1 jA) (h g x E U H Hm F P Q hx R p q)
def Ks {a b:Expr}{rest:XY}{pos:Pos}{d e:DE}(ha:bT X Ex Y a d)(hb:qj X Ex Y (.BoolOp .And (b::rest) pos) e):qj X Ex Y (.BoolOp .And (a::b::rest) pos) (xE d e):=by
 rw [JY];intro g x E U H Hm F P Q hx R p q;refine WW.of (pw_and jA pw_ww) (ha g x E U H Hm F _ _ hx R p fun E1 k v H1 Hm1 F1 p1 R1 s1=>?_)
 obtain ⟨c,rfl,p1⟩:=p1;refine ⟨c,rfl,?_⟩;cases c with
 | true=>exact pZ (hb g x E1 U H1 Hm1 F1 P Q hx R1 p1 fun E' k v H' Hm' F' p' R' s'=>q _ _ _ _ _ _ p' R' (s1.trans s'))
 | false =>
  obtain ⟨b,e1,q'⟩:=q _ _ _ _ _ _ p1 R1 s1;cases e1;exact p7 q'
def oV {a b:Expr}{rest:XY}{pos:Pos}{d e:DE}(ha:bT X Ex Y a d)(hb:qj X Ex Y (.BoolOp .Or (b::rest) pos) e):qj X Ex Y (.BoolOp .Or (a::b::rest) pos) (pQ d e):=by
 rw [Ge];intro g x E U H Hm F P Q hx R p q;refine WW.of (pw_or jA pw_ww) (ha g x E U H Hm F _ _ hx R p fun E1 k v H1 Hm1 F1 p1 R1 s1=>?_)
 obtain ⟨c,rfl,p1⟩:=p1;refine ⟨c,rfl,?_⟩;cases c with
 | true =>
  obtain ⟨b,e1,q'⟩:=q _ _ _ _ _ _ p1 R1 s1;cases e1;exact pZ q'
 | false=>exact p7 (hb g x E1 U H1 Hm1 F1 P Q hx R1 p1 fun E' k v H' Hm' F' p' R' s'=>q _ _ _ _ _ _ p' R' (s1.trans s'))
def Ii (ho:bO X (compareOp op) (lK fun i j=>.bl (f i j)))(ho':bO X (compareOp op') (lK fun i j=>.bl (f' i j)))(hm:lastMarks [op,op'] [b,c]=false)
  (ha:SE X Ex Y a da)(hb:SE X Ex Y b db)(hc:SE X Ex Y c dc):SE X Ex Y (.Compare a [op,op'] [b,c] pos) (jI f f' da db dc):=by
 rw [vC];intro g x E U H Hm F P Q hx R p q;refine WE.of (Hh ho ho' bg bg bg hm) (ha g x E U H Hm F _ _ hx R p fun E1 k1 v1 u1 H1 Hm1 F1 fp1 p1 R1 s1 T1=>?_)
 obtain ⟨i,rfl,p1⟩:=p1;cases T1.own.int;refine hb g x E1 U H1 Hm1 F1 _ _ hx R1 p1 fun E2 k2 v2 u2 H2 Hm2 F2 fp2 p2 R2 s2 T2=>?_
 obtain ⟨j,rfl,p2⟩:=p2;cases T2.own.int;refine ⟨i,j,rfl,rfl,f i j,rfl,?_⟩
 by_cases z:f i j=true
 ·rw [if_pos z] at p2 ⊢;refine hc g x E2 U H2 Hm2 F2 _ _ hx R2 p2 fun E3 k3 v3 u3 H3 Hm3 F3 fp3 p3 R3 s3 T3=>?_
  obtain ⟨k,rfl,p3⟩:=p3;cases T3.own.int;exact ⟨j,k,rfl,rfl,q _ _ _ _ _ _ _ [] p3 R3 (s1.trans (s2.trans s3)) (Tm.sh (.bl _))⟩
 ·rw [if_neg z] at p2 ⊢;exact q _ _ _ _ _ _ _ [] p2 R2 (s1.trans s2) (Tm.sh (.bl _))
def vI (ho:bO X (compareOp op) (lK fun i j=>.bl (f i j)))(ho':bO X (compareOp op') (lK fun i j=>.bl (f' i j)))(hm:lastMarks [op,op'] [b,c]=false)
  (ha:SE X Ex Y a da)(hb:SE X Ex Y b db)(hc:SE X Ex Y c dc):bT X Ex Y (.Compare a [op,op'] [b,c] pos) (jI f f' da db dc):=by
 rw [vC];intro g x E U H Hm F P Q hx R p q;refine WT.of (Hv ho ho' bg bg bg hm) (ha g x E U H Hm F _ _ hx R p fun E1 k1 v1 u1 H1 Hm1 F1 fp1 p1 R1 s1 T1=>?_)
 obtain ⟨i,rfl,p1⟩:=p1;cases T1.own.int;refine hb g x E1 U H1 Hm1 F1 _ _ hx R1 p1 fun E2 k2 v2 u2 H2 Hm2 F2 fp2 p2 R2 s2 T2=>?_
 obtain ⟨j,rfl,p2⟩:=p2;cases T2.own.int;refine ⟨i,j,rfl,rfl,f i j,rfl,?_⟩
 by_cases z:f i j=true
 ·rw [if_pos z] at p2 ⊢;refine hc g x E2 U H2 Hm2 F2 _ _ hx R2 p2 fun E3 k3 v3 u3 H3 Hm3 F3 fp3 p3 R3 s3 T3=>?_
  obtain ⟨k,rfl,p3⟩:=p3;cases T3.own.int;obtain ⟨b',e1,q'⟩:=q _ _ _ _ _ _ p3 R3 (s1.trans (s2.trans s3));cases e1;exact ⟨j,k,rfl,rfl,_,rfl,q'⟩
 ·rw [if_neg z] at p2 ⊢;obtain ⟨b',e1,q'⟩:=q _ _ _ _ _ _ p2 R2 (s1.trans s2);cases e1;exact ⟨_,rfl,q'⟩
def CL (hc:ST X Ex Y c t)(ha:SE X Ex Y a d)(hb:SE X Ex Y b e):SE X Ex Y (.IfExp c a b pos) (zS t d e):=by
 rw [OA];intro g x E U H Hm F P Q hx R p q;refine WE.of (GY jA bg bg) (hc g x E U H Hm F _ _ hx R p fun E1 b H1 Hm1 F1 p1 R1 s1=>?_)
 cases b with
 | true=>exact pZ (ha g x E1 U H1 Hm1 F1 P Q hx R1 (by simpa using p1) fun E' k v u H' Hm' F' fp p' R' s' T'=>q _ _ _ _ _ _ _ _ p' R' (s1.trans s') T')
 | false=>exact p7 (hb g x E1 U H1 Hm1 F1 P Q hx R1 (by simpa using p1) fun E' k v u H' Hm' F' fp p' R' s' T'=>q _ _ _ _ _ _ _ _ p' R' (s1.trans s') T')
def QC {i j:Nat}(h:PE X e (jf j))(hj:Y[j]?=some i)(he:∀ whole,isTrue e X.env whole=(do let v <- whole;standAt e.pos;holding [v] (truthy v))):ST X Ex Y e (AJ i):=by
 intro g x E U H Hm F P Q hx R p q
 replace p:DO E i P:=p
 unfold DO at p;split at p
 rotate_left
 ·exact p.elim
 rename_i k d e1;rw [dU,<- B0] at p;obtain ⟨hk,b,ht,p⟩:=p;obtain ⟨v,h1,h2⟩:=R.slot i k d e1;exact WT.of (zD h he) ⟨v,cV hj h1,b,h2.kI R.sub ht,q _ _ _ _ _ p R (ai.refl _)⟩
def yZ (ha:ST X Ex Y a t):ST X Ex Y (.UnaryOp .Not a pos) (zW t):=by
 intro g x E U H Hm F P Q hx R p q;exact WT.of (Ew jA) (ha g x E U H Hm F _ _ hx R p fun E1 b H1 Hm1 F1 p1 R1 s1=>q _ _ _ _ _ p1 R1 s1)
end
def noStar:Expr->Bool
 | .Starred ..=>false
 | _=>true
def bx (h:noStar e=true):starEach (e::es) env=(false,eval e env)::starEach es env:=by
 cases e <;> first | rfl | cases h
theorem gW:∀ {es:XY},es.all noStar=true->(backTo pos (starEach es env)).any (·.1)=false
 | [],_=>rfl
 | e::es,h=>by
  rw [SG,S4] at h;rw [bx h.1];show (false || (backTo pos (starEach es env)).any (·.1))=false;rw [gW h.2];rfl
section
variable {X:Cx}{Ex:XK}{Y:Xa}
theorem d7:∀ {es:XY},es.all noStar=true->PA X es (vX X es)
 | [],_=>gH
 | e::es,h=>by
  rw [SG,S4] at h;exact eT bg (d7 h.2) (bx h.1)
def fR {x:Str}{id:String}{p pos:Pos}{e:Expr}{es:XY}{as:List Arg}{f:DR}{r:List V->Hp->VK->Prop}(hc:cF X (.builtin id) r)(D:cO X.K f r)(hg:Gl X x)(hm:X.mg x=none)(hv:bootBuiltins x=some (.builtin id))(hn:x≠"__name__")(hd:(x == ("__debug__":Str))=false)
  (ns:(e::es).all noStar=true)(S:aS X Ex Y (e::es) as):SE X Ex Y (.Call (.Name x p) (e::es) [] pos) (ah f as) :=
 eZ S (fun U H Q h=>WE.of (rJ hc hg hm hv (d7 ns) hn hd (bx (by rw [SG,S4] at ns;exact ns.1)) (gW (by rw [SG,S4] at ns;exact ns.2))) h) D
def pO (hc:cF X (.type T) r)(D:cO X.K f r)(hg:Gl X x)(hm:X.mg x=none)(hv:bootBuiltins x=some (.type T))(hn:x≠"__name__")(hd:(x == ("__debug__":Str))=false)
  (ns:(e::es).all noStar=true)(S:aS X Ex Y (e::es) as):SE X Ex Y (.Call (.Name x p) (e::es) [] pos) (ah f as) :=
 eZ S (fun U H Q h=>WE.of (jD hc hg hm hv (d7 ns) hn hd (bx (by rw [SG,S4] at ns;exact ns.1)) (gW (by rw [SG,S4] at ns;exact ns.2))) h) D
def dQ:DR:=fun ds P=>ds.length<=sizeLine/\P (.ow false) (.list ds)
def jK:DR:=fun ds P=>ds.length<=sizeLine/\P .sh (.tuple ds)
def KP:cO K dQ fun xs H Q=>xs.length<=sizeLine/\∀ p,H p=none->Q (.ref p) (upd H p (.lst xs)):=fun H Hm vs ds P Q s r h q=>⟨by rw [r.len];exact h.1,fun p hp=>bE.nl q s h.2 hp r⟩
def Lq:cO K jK fun xs H Q=>xs.length<=sizeLine/\∀ p,H p=none->Q (.ref p) (upd H p (.tup xs)):=fun H Hm vs ds P Q s r h q=>⟨by rw [r.len];exact h.1,fun p hp=>bE.nt q s h.2 hp r⟩
def Mu (ns:es.all noStar=true)(S:aS X Ex Y es as):SE X Ex Y (.List es pos) (ah dQ as):=eZ S (fun U H Q h=>WE.of (DV (d7 ns)) h) KP
def Nj {k:Nat}(ns:es.all noStar=true)(S:aS X Ex Y es as):SE X Ex Y (.Tuple es k pos) (ah jK as):=eZ S (fun U H Q h=>WE.of (M0 (d7 ns)) h) Lq
def Hr:DR:=fun ds P=>match ds with
 | [.list xs]=>P .sh (.int xs.length)
 | [.tuple xs]=>P .sh (.int xs.length)
 | _=>False
def KO:cO K Hr fun xs H Q=>∃ p ys,xs=[.ref p]/\(bF K H p ys\/cJ K H p ys)/\Q (.int ys.length) H:=by
 intro H Hm vs ds P Q s r h q;unfold Hr at h;split at h
 ·obtain ⟨x,rfl,h1⟩:=dM r;cases h1 with
  | lst a r1=>exact ⟨_,_,rfl,.inl (cg.mono s a).sq,by rw [r1.len];exact bE.sc q s h (.int _)⟩
 ·obtain ⟨x,rfl,h1⟩:=dM r;cases h1 with
  | tup a r1=>exact ⟨_,_,rfl,.inr (cJ.of (s _ _ a)),by rw [r1.len];exact bE.sc q s h (.int _)⟩
 ·exact h.elim
def f7:DR:=fun ds P=>match ds with
 | [.list xs]=>P (.ow false) (.list xs)
 | [.tuple xs]=>P (.ow false) (.list xs)
 | _=>False
def Hx:cO K f7 fun xs H Q=>∃ p ys,xs=[.ref p]/\(bF K H p ys\/cJ K H p ys)/\∀ l,H l=none->Q (.ref l) (upd H l (.lst ys)):=by
 intro H Hm vs ds P Q s r h q;unfold f7 at h;split at h
 ·obtain ⟨x,rfl,h1⟩:=dM r;cases h1 with
  | lst a r1=>exact ⟨_,_,rfl,.inl (cg.mono s a).sq,fun p hp=>bE.nl q s h hp r1⟩
 ·obtain ⟨x,rfl,h1⟩:=dM r;cases h1 with
  | tup a r1=>exact ⟨_,_,rfl,.inr (cJ.of (s _ _ a)),fun p hp=>bE.nl q s h hp r1⟩
 ·exact h.elim
def nj:DR:=fun ds P=>match ds with
 | [.list xs]=>P .sh (.tuple xs)
 | [.tuple xs]=>P .sh (.tuple xs)
 | _=>False
def ES:cO K nj fun xs H Q=>∃ p ys,xs=[.ref p]/\((bF K H p ys/\∀ l,H l=none->Q (.ref l) (upd H l (.tup ys)))\/(cJ K H p ys/\Q (.ref p) H)):=by
 intro H Hm vs ds P Q s r h q;unfold nj at h;split at h
 ·obtain ⟨x,rfl,h1⟩:=dM r;cases h1 with
  | lst a r1=>exact ⟨_,_,rfl,.inl ⟨(cg.mono s a).sq,fun p hp=>bE.nt q s h hp r1⟩⟩
 ·obtain ⟨x,rfl,h1⟩:=dM r;cases h1 with
  | tup a r1=>exact ⟨_,_,rfl,.inr ⟨cJ.of (s _ _ a),bE.sc q s h (.tup a r1)⟩⟩
 ·exact h.elim
def t6:DR:=nZ fun i j=>.int (if j < i then j else i)
def t7:DR:=nZ fun i j=>.int (if j > i then j else i)
def IS {f:Int->Int->Int}:cO K (nZ fun i j=>.int (f i j)) fun xs H Q=>∃ i j,xs=[.int i,.int j]/\Q (.int (f i j)) H:=by
 intro H Hm vs ds P Q s r h q;refine uT h fun a b e p=>?_
 subst e;obtain ⟨x,y,rfl,h1,h2⟩:=cL r;cases h1;cases h2;exact ⟨a,b,rfl,bE.sc q s p (.int _)⟩
def yf:DR:=fun ds P=>match ds with
 | [.int i]=>P .sh (.int (if i < 0 then -i else i))
 | _=>False
def Ly:cO K yf fun xs H Q=>∃ i,xs=[.int i]/\Q (.int (if i < 0 then -i else i)) H:=by
 intro H Hm vs ds P Q s r h q;unfold yf at h;split at h
 ·obtain ⟨x,rfl,h1⟩:=dM r;cases h1;exact ⟨_,rfl,bE.sc q s h (.int _)⟩
 ·exact h.elim
def mY:DR:=fun ds P=>match ds with
 | [.int i]=>P .sh (.int i)
 | [.bool k]=>P .sh (.int (if k then 1 else 0))
 | _=>False
def EK:cO K mY fun xs H Q=>(∃ i,xs=[.int i]/\Q (.int i) H)\/∃ k,xs=[.bl k]/\Q (.int (if k then 1 else 0)) H:=by
 intro H Hm vs ds P Q s r h q;unfold mY at h;split at h
 ·obtain ⟨x,rfl,h1⟩:=dM r;cases h1;exact .inl ⟨_,rfl,bE.sc q s h (.int _)⟩
 ·obtain ⟨x,rfl,h1⟩:=dM r;cases h1;exact .inr ⟨_,rfl,bE.sc q s h (.int _)⟩
 ·exact h.elim
theorem lF:∀ {vs:List V}{ns:Xb},aA K H vs (ns.map PyData.int)->vs=ns.map V.int
 | _,[],h=>by cases h;rfl
 | _,n::ns,h=>by
  cases h with
  | cons h t=>cases h;rw [lF t];rfl
theorem lu:∀ (ns:Xb),aA K H (ns.map V.int) (ns.map PyData.int)
 | []=>.nil
 | n::ns=>.cons (.int n) (lu ns)
theorem wg:∀ {vs:List V}{ns:XX},aA K H vs (ns.map PyData.bool)->vs=ns.map V.bl
 | _,[],h=>by cases h;rfl
 | _,n::ns,h=>by
  cases h with
  | cons h t=>cases h;rw [wg t];rfl
def fJ (h:Rp K H x (.list ds)):∃ a xs,x=.ref a/\cg K H a xs/\aA K H xs ds:=by
 cases h with
 | lst a r=>exact ⟨_,_,rfl,a,r⟩
def wU:DR:=fun ds P=>∃ ns:Xb,ds=[.list (ns.map .int)]/\ns≠[]/\∀ M,M∈ns->(∀ n∈ns,M<=n)->P .sh (.int M)
def GL:cO K wU fun xs H Q=>∃ (a:Addr)(ns:Xb),xs=[.ref a]/\bF K H a (ns.map V.int)/\ns≠[]/\∀ M,M∈ns->(∀ n∈ns,M<=n)->Q (.int M) H:=by
 rintro H Hm vs ds P Q s r ⟨ns,rfl,hn,h⟩ q;obtain ⟨x,rfl,h1⟩:=dM r;obtain ⟨a,xs,rfl,ha,r1⟩:=fJ h1;cases lF r1;exact ⟨a,ns,rfl,(cg.mono s ha).sq,hn,fun M m1 m2=>bE.sc q s (h M m1 m2) (.int _)⟩
def BW:DR:=fun ds P=>∃ bs:XX,ds=[.list (bs.map .bool)]/\P .sh (.bool (bs.any id))
def Lc:cO K BW fun xs H Q=>∃ (a:Addr)(bs:XX),xs=[.ref a]/\bF K H a (bs.map V.bl)/\Q (.bl (bs.any id)) H:=by
 rintro H Hm vs ds P Q s r ⟨ns,rfl,h⟩ q;obtain ⟨x,rfl,h1⟩:=dM r;obtain ⟨a,xs,rfl,ha,r1⟩:=fJ h1;cases wg r1;exact ⟨a,ns,rfl,(cg.mono s ha).sq,bE.sc q s h (.bl _)⟩
def pC:DR:=fun ds P=>∃ ns:Xb,ds=[.list (ns.map .int)]/\ns.length < 64/\∀ ms:Xb,ms.Perm ns->ms.Pairwise (·<=·)->P (.ow false) (.list (ms.map .int))
def Fx:cO K pC fun xs H Q=>∃ (a:Addr)(ns:Xb),xs=[.ref a]/\bF K H a (ns.map V.int)/\ns.length < 64/\∀ (ms:Xb)(p:Addr),ms.Perm ns->ms.Pairwise (·<=·)->H p=none->Q (.ref p) (upd H p (.lst (ms.map V.int))):=by
 rintro H Hm vs ds P Q s r ⟨ns,rfl,hn,h⟩ q;obtain ⟨x,rfl,h1⟩:=dM r;obtain ⟨a,xs,rfl,ha,r1⟩:=fJ h1;cases lF r1;exact ⟨a,ns,rfl,(cg.mono s ha).sq,hn,fun ms p m1 m2 hp=>bE.nl q s (h ms m1 m2) hp (lu ms)⟩
def pD (p:Int×Int):PyData:=.tuple [.int p.1,.int p.2]
inductive AK (vs:List V)(H:Hp)(Q:VK):Prop
 | mk:∀ j:Int,(vs=[.int j])->(∀ p,H p=none->0<=j/\j<=1000/\∀ l,upd H p (.rj 0 j) l=none->Q (.ref l) (upd (upd H p (.rj 0 j)) l (.lst (((List.range j.toNat).map fun i:Nat=>(i:Int)).map V.int))))->AK vs H Q
def EE:List V->Hp->VK->Prop:=fun vs H Q=>AK vs H Q
def kP:DR:=fun ds P=>match ds with
 | [.int j]=>(0<=j/\j<=1000)/\P (.ow false) (.list (jZ 0 j.toNat))
 | _=>False
def KU (n:Nat):aA K H (((List.range n).map fun i:Nat=>(i:Int)).map V.int) (jZ 0 n):=by
 have:=lu (K:=K) (H:=H) ((List.range n).map fun i:Nat=>(i:Int))
 rw [SX (l:=List.range n) (g:=PyData.int)] at this;unfold jZ;rw [show (fun i:Nat=>PyData.int (0 + i))=PyData.int ∘ fun i:Nat=>(i:Int) from funext fun i=>by simp]
 exact this
def EO:cO K kP EE:=by
 intro H Hm vs ds P Q s r h q;unfold kP at h;split at h
 ·obtain ⟨x,rfl,h1⟩:=dM r;cases h1;rename_i j;refine ⟨j,rfl,fun p hp=>⟨h.1.1,h.1.2,fun l hl=>?_⟩⟩
  have s1:=cj (o:=.rj 0 j) hp;have s2:=cj (o:=.lst (((List.range j.toNat).map fun i:Nat=>(i:Int)).map V.int)) hl
  refine q _ _ _ _ Hm [l] h.2 (s1.trans s2) (ai.refl _) (s.trans (s1.trans s2)) (fun _ _=>.inl rfl) (.ow aH (KU _)) fun a ha=>?_
  rw [RZ.mp ha];have:H l=none:=s1.free hl;exact ⟨this,jt s this⟩
 ·exact h.elim
def HN (hc:X.calm=true)(g1:Gl X "list")(m1:X.mg "list"=none)(g2:Gl X "range")(m2:X.mg "range"=none)(ns:noStar a=true)(S:aS X Ex Y [a] as) :
  SE X Ex Y (.Call (.Name "list" p1) [.Call (.Name "range" p2) [a] [] pos2] [] pos) (ah kP as) :=
 eZ (r:=EE) S (fun U H Q h=>WE.of (jD (CA hc) g1 m1 PyProof.Rows.boot_list (eT (jD Ae g2 m2 PyProof.Rows.boot_range (d7 (es:=[a]) (by rw [SG,ns];rfl)) (by decide) (by decide) (bx ns) (by rfl)) gH)) (by
  refine fun pins s I=>aM (h pins s I) fun v s1 ⟨x,H1,I1,r1,j,e,q⟩=>⟨x,H1,I1,r1,?_⟩
  cases e;refine ⟨j,rfl,fun p hp=>?_⟩
  obtain ⟨q1,q2,q3⟩:=q p hp;exact ⟨p,j,rfl,aH,q1,q2,q3⟩)) EO
end
inductive Ag (K:Frag)(H Hm:Hp):XX->List V->XS->XW->Prop
 | nil:Ag K H Hm [] [] [] []
 | sh {ms:XX}{vs:List V}{ds:XS}{as:XW}{v:V}{d:PyData}:Rp K Hm v d->Ag K H Hm ms vs ds as->Ag K H Hm (false::ms) (v::vs) (d::ds) as
 | mu {ms:XX}{vs:List V}{ds:XS}{as:XW}{a:Addr}{xs:List V}{es:XS}:H a=some (.lst xs)->aA K Hm xs es->Hm a=none->a∉as->Ag K H Hm ms vs ds as->Ag K H Hm (true::ms) (.ref a::vs) (.list es::ds) (a::as)
inductive Bk (K:Frag)(H Hm:Hp):XW->XS->Prop
 | nil:Bk K H Hm [] []
 | cons {a:Addr}{xs:List V}{es:XS}{as:XW}{us:XS}:H a=some (.lst xs)->aA K Hm xs es->Hm a=none->Bk K H Hm as us->Bk K H Hm (a::as) (.list es::us)
def cC (mg:XG)(K:Frag)(ms:XX)(sp:bq):Sp:=fun vs H Q Ex=>∃ (ds:XS)(as:XW)(Hm:Hp)(P:XS->Kd->PyData->Prop)(x:XC),ai Hm H/\Ag K H Hm ms vs ds as/\sp ds P x /\
 (∀ us k r u H' Hm' fp,P us k r->ai Hm Hm'->ai Hm' H'->(∀ p o,p∉as->H p=some o->H' p=some o)->(∀ a,a∉as->H a≠none->OE (Hm' a) (Hm a))->Bk K H' Hm' as us->Own K H' Hm' k u r fp->(∀ a∈fp,H a=none/\Hm' a=none)->Q u H') /\
 (∀ c d C a H',mg c=some (.ref C)->x c d->(∀ p o,p∉as->H p=some o->H' p=some o)->H' a=some (.ext (oM a C none))->H a=none->Ex (.ref C) (some a) H')
section
variable {K:Frag}{g:Gh}{U:St}
def Pc {F:Nat->XW}(R:Rl K g E U H Hm F)(s:ai Hm Hm1):∀ {ms:XX}{as:List Arg}{os:Xe}{vs:List V}{ds:XS},Got K U Hm as os vs->fill as E os=some ds->shape ms as=true->(lent ms as).Nodup ->
  (∀ i∈lent ms as,∃ p es,E[i]?=some (some (.ow p,.list es)))->(∀ i∈kept ms as,∀ a∈F i,Hm1 a=H a)->(∀ i∈lent ms as,∀ a∈F i,Hm1 a=none) ->
  ∃ ix:List (Nat×Addr),ix.map (·.1)=lent ms as/\Ag K H Hm1 ms vs ds (ix.map (·.2))/\∀ q∈ix,U[q.1]?=some (some (.ref q.2))/\F q.1=[q.2]:=by
 intro ms as os vs ds G
 induction G generalizing ms ds with
 | nil =>
  intro h sh nd hl hk hn;cases ms with
  | nil=>cases h;exact ⟨[],rfl,.nil,fun _ z=>by cases z⟩
  | cons b ms=>cases b <;> cases sh
 | @pk i v as os vs hv G ih =>
  intro h sh nd hl hk hn;cases ms with
  | nil=>cases sh
  | cons b ms =>
   cases b with
   | false =>
    rw [fill] at h;split at h
    ·rename_i k d e
     by_cases hr:k.rd=true
     ·rw [if_pos hr] at h;cases hf:fill as E os with
      | none=>rw [hf] at h;cases h
      | some es =>
       rw [hf] at h;cases h;obtain ⟨v',h1,h2⟩:=R.slot i k d e;rw [hv] at h1;cases h1;obtain ⟨ix,e1,e2,e3⟩:=ih (ms:=ms) hf sh nd hl (fun j hj=>hk j (RY _ hj)) hn
       exact ⟨ix,e1,.sh (h2.rp hr s (hk i RT)) e2,e3⟩
     ·rw [if_neg hr] at h;cases h
    ·cases h
   | true =>
    rw [fill] at h;obtain ⟨p,es0,e0⟩:=hl i RT;rw [e0] at h;have h:(if (Kd.ow p).rd=true then (fill as E os).map (PyData.list es0::·) else none)=some _:=h
    rw [if_pos (show (Kd.ow p).rd=true from rfl)] at h
    cases hf:fill as E os with
    | none=>rw [hf] at h;cases h
    | some es =>
     rw [hf] at h;cases h;obtain ⟨v',h1,h2⟩:=R.slot i _ _ e0;rw [hv] at h1;cases h1;have nd':=Sj.mp (show (i::lent ms as).Nodup from nd)
     obtain ⟨ix,e1,e2,e3⟩:=ih (ms:=ms) hf sh nd'.2 (fun j hj=>hl j (RY _ hj)) hk (fun j hj=>hn j (RY _ hj))
     have hFi:=hn i RT;generalize hF:F i=fi at h2 hFi;cases h2 with
     | @ow _ a xs _ ha hr =>
      refine ⟨(i,a)::ix,?_,.mu ha (hr.mono s) (hFi a RT) ?_ e2,?_⟩
      ·show i::ix.map (·.1)=i::lent ms as;rw [e1]
      ·intro m;obtain ⟨q,hq,rfl⟩:=S0.mp m;have:=R.aQ i q.1 q.2 (by rw [hF];exact RT) (by rw [(e3 q hq).2];exact RT)
       exact nd'.1 (e1 ▸ (this ▸ S0.mpr ⟨q,hq,rfl⟩))
      ·intro q hq;rcases S2.mp hq with rfl | hq
       ·exact ⟨hv,hF⟩
       ·exact e3 q hq
 | @ev d0 v u as os vs r G ih =>
  intro h sh nd hl hk hn;cases ms with
  | nil=>cases sh
  | cons b ms =>
   cases b with
   | true=>cases sh
   | false =>
    rw [fill] at h;cases hf:fill as E os with
    | none=>rw [hf] at h;cases h
    | some es =>
     rw [hf] at h;cases h;obtain ⟨ix,e1,e2,e3⟩:=ih (ms:=ms) hf sh nd hl hk hn;exact ⟨ix,e1,.sh (r.mono s) e2,e3⟩
theorem nY:∀ {ms:XX}{as:List Arg}{us:XS}{E E2:En},rK ms as us E=some E2->(lent ms as).Nodup->E2.length=E.length/\(∀ j,j∉lent ms as->E2[j]?=E[j]?)/\(lent ms as).length=us.length /\
  ∀ (n i:Nat)(u:PyData),(lent ms as)[n]?=some i->us[n]?=some u->∃ p es es',u=.list es'/\E[i]?=some (some (.ow p,.list es))/\E2[i]?=some (some (.ow p,.list es'))
 | [],[],[],E,E2,h,_=>by cases h;exact ⟨rfl,fun _ _=>rfl,rfl,fun _ _ _ z=>by cases z⟩
 | [],[],_::_,E,E2,h,_=>by cases h
 | [],_::_,_,E,E2,h,_=>by cases h
 | false::ms,.pk j::r,us,E,E2,h,nd=>nY (ms:=ms) (as:=r) (us:=us) h nd
 | false::ms,.ev _::r,us,E,E2,h,nd=>nY (ms:=ms) (as:=r) (us:=us) h nd
 | false::ms,[],us,E,E2,h,_=>by cases h
 | true::ms,[],us,E,E2,h,_=>by cases h
 | true::ms,.ev _::r,us,E,E2,h,_=>by cases h
 | true::ms,.pk i::r,[],E,E2,h,_=>by cases h
 | true::ms,.pk i::r,u::us,E,E2,h,nd=>by
  rw [rK] at h;obtain ⟨n1,n2⟩:=Sj.mp (show (i::lent ms r).Nodup from nd)
  split at h
  ·rename_i p es e
   by_cases hu:Bv u=true
   ·rw [if_pos hu] at h;cases u with
    | list es' =>
     have li:i < E.length:=by
      rcases Sq i E.length with h | h
      ·exact h
      ·rw [Sn h] at e;cases e
     obtain ⟨l1,g1,l2,g2⟩:=nY (ms:=ms) (as:=r) (us:=us) h n2;rw [Sw] at l1;refine ⟨l1,fun j hj=>?_,congrArg (· + 1) l2,fun n j v h1 h2=>?_⟩
     ·have hj':j∉lent ms r:=fun z=>hj (RY _ z)
      have hne:i≠j:=fun z=>hj (z ▸ RT)
      rw [g1 j hj',ao hne]
     ·cases n with
      | zero =>
       cases h1;cases h2;exact ⟨p,es,es',rfl,e,by rw [g1 i n1,aK li]⟩
      | succ n =>
       have h1:(lent ms r)[n]?=some j:=h1;have h2:us[n]?=some v:=h2;obtain ⟨p',fs,fs',e1,e2,e3⟩:=g2 n j v h1 h2;have hne:i≠j:=fun z=>n1 (z ▸ SR h1)
       rw [ao hne] at e2;exact ⟨p',fs,fs',e1,e2,e3⟩
    | _=>cases hu
   ·rw [if_neg hu] at h;cases h
  ·cases h
theorem Bk.get:∀ {as:XW}{us:XS}{n:Nat}{a:Addr},Bk K H Hm as us->as[n]?=some a->∃ xs es,us[n]?=some (.list es)/\H a=some (.lst xs)/\aA K Hm xs es/\Hm a=none
 | _,_,_,_,.nil,h=>by simp at h
 | _,_,0,_,.cons h1 h2 h3 _,h=>by simp at h;subst h;exact ⟨_,_,rfl,h1,h2,h3⟩
 | _,_,n + 1,_,.cons _ _ _ t,h=>t.get (n:=n) (by simpa using h)
def B8 {E E2 E3:En}{H H' Hm Hm2:Hp}{F:Nat->XW}{is:Xa}{ix:List (Nat×Addr)}{us:XS}{k:Kd}{u:V}{v:PyData}{fp:XW}(R:Rl K g E U H Hm F)
  (hix:∀ q∈ix,U[q.1]?=some (some (.ref q.2))/\F q.1=[q.2])(hik:∀ q∈ix,q.1∉is)(l2:E2.length=E.length)(hs:∀ j,j∉ix.map (·.1)->E2[j]?=E[j]?)
  (hu:∀ q∈ix,∃ p es xs' es',PyData.list es'∈us/\E[q.1]?=some (some (.ow p,.list es))/\E2[q.1]?=some (some (.ow p,.list es'))/\H' q.2=some (.lst xs')/\aA K Hm2 xs' es'/\Hm2 q.2=none)
  (hE:(if (flat k v && us.all (flat (.ow false)))=true then some E2 else dY is E2)=some E3)(s1:ai (lend Hm H (is.flatMap F)) Hm2)(s2:ai Hm2 H')(sH:∀ p o,p∉ix.map (·.2)->H p=some o->H' p=some o)
  (old:∀ a,a∉ix.map (·.2)->H a≠none->OE (Hm2 a) (lend Hm H (is.flatMap F) a))(o:Own K H' Hm2 k u v fp)(fr:∀ a∈fp,H a=none/\Hm2 a=none) :
  ∃ Hm' F',Rl K g E3 U H' Hm' F'/\ai Hm Hm'/\Tm K g F' H' Hm' k u v fp:=by
 have mem:∀ {a i},a∈F i->i∈is->a∈is.flatMap F:=fun ha hi=>So.mpr ⟨_,hi,ha⟩
 have off:∀ a∈is.flatMap F,Hm a=none:=fun a ha=>by
  obtain ⟨i,_,h⟩:=So.mp ha;exact R.off i a h
 have up:ai Hm (lend Hm H (is.flatMap F)):=ic off;have bJ:∀ {i a},a∈F i->H a≠none:=fun ha z=>by
  obtain ⟨u,hu,_⟩:=R.bJ _ _ ha;rw [z] at hu;cases hu
 have own:∀ q∈ix,q.2∈F q.1:=fun q hq=>by rw [(hix q hq).2];exact RT
 have lentF:∀ {i a},a∈F i->a∈ix.map (·.2)->i∈ix.map (·.1):=fun {i a} ha m=>by
  obtain ⟨q,hq,rfl⟩:=S0.mp m;exact S0.mpr ⟨q,hq,(R.aQ i q.1 q.2 ha (own q hq)).symm⟩
 have lis:∀ a,a∈ix.map (·.2)->a∉is.flatMap F:=fun a m z=>by
  obtain ⟨q,hq,rfl⟩:=S0.mp m;obtain ⟨i,hi,h⟩:=So.mp z;exact hik q hq (R.aQ i q.1 q.2 h (own q hq) ▸ hi)
 have nfp:∀ a∈fp,∀ i,a∉F i:=fun a ha i=>R.fresh (fr a ha).1
 have m2:∀ {a},H a≠none->a∉is.flatMap F->(a∉ix.map (·.2)/\OE (Hm2 a) (Hm a))\/(a∈ix.map (·.2)/\Hm2 a=none):=fun {a} h c=>by
  by_cases z:a∈ix.map (·.2)
  ·obtain ⟨q,hq,rfl⟩:=S0.mp z;obtain ⟨_,_,_,_,_,_,_,_,_,e⟩:=hu q hq;exact .inr ⟨z,e⟩
  ·refine .inl ⟨z,?_⟩;have h':=old a z h;rw [cN c] at h';exact h'
 have offI:∀ {i a},a∈F i->a∉is.flatMap F->Hm2 a=none:=fun {i a} ha c=>by
  rcases m2 (bJ ha) c with ⟨z,e⟩ | ⟨_,e⟩
  ·obtain ⟨w,hw,nt⟩:=R.bJ i a ha;exact e.off (R.off i a ha) s2 (sH a w z hw) nt
  ·exact e
 have od:∀ {a},g.H0 a≠none->a∉is.flatMap F->OE (Hm2 a) (g.eY a):=fun {a} h c=>by
  rcases m2 (R.uz h) c with ⟨_,e⟩ | ⟨z,e⟩
  ·exact e.trans (R.old a h)
  ·obtain ⟨q,hq,rfl⟩:=S0.mp z;have h':=R.old _ h;rw [R.off q.1 q.2 (own q hq)] at h';rw [e];exact h'
 have hliv:∀ {i a},a∈F i->∃ w,H' a=some w/\qW w:=fun {i a} ha=>by
  by_cases z:a∈ix.map (·.2)
  ·obtain ⟨q,hq,rfl⟩:=S0.mp z;obtain ⟨_,_,_,_,_,_,_,e,_,_⟩:=hu q hq;exact ⟨_,e,kr⟩
  ·obtain ⟨w,hw,nt⟩:=R.bJ i a ha;exact ⟨w,sH a w z hw,nt⟩
 have keepH:∀ {j a},j∉ix.map (·.1)->a∈F j->H' a=H a:=fun {j a} hj ha=>by
  obtain ⟨w,hw,_⟩:=R.bJ j a ha;rw [hw];exact sH a w (fun z=>hj (lentF ha z)) hw
 have frm:∀ p o,p∉g.M->g.H0 p=some o->H' p=some o:=fun p o hp ho=>by
  refine sH p o (fun z=>?_) (R.fr p o hp ho)
  obtain ⟨q,hq,rfl⟩:=S0.mp z;rcases R.new q.1 q.2 (own q hq) with y | y
  ·exact hp y
  ·rw [y] at ho;cases ho
 have pinn:∀ {E4:En},(∀ j,j∉is->E4[j]?=E2[j]?)->(∀ j∈is,E4[j]?=E2[j]?\/∃ k d,E2[j]?=some (some (k,d))/\k.fz=true)->∀ q∈g.pins,U[q.1]?=some (some (.ref q.2))/\∃ ds,E4[q.1]?=some (some (.ow true,.list ds)):=fun {E4} h4 h5 q hq=>by
  obtain ⟨h1,ds',h2⟩:=R.pin q hq;refine ⟨h1,?_⟩;have e2:∃ ds,E2[q.1]?=some (some (.ow true,.list ds)):=by
   by_cases z:q.1∈ix.map (·.1)
   ·obtain ⟨q',hq',e⟩:=S0.mp z;obtain ⟨p,es,xs',es',_,g1,g2,_⟩:=hu q' hq';rw [e,h2] at g1;cases g1;exact ⟨es',e ▸ g2⟩
   ·exact ⟨ds',by rw [hs _ z];exact h2⟩
  obtain ⟨ds,e2⟩:=e2
  by_cases z:q.1∈is
  ·rcases h5 _ z with y | ⟨k0,d0,y,yk⟩
   ·exact ⟨ds,y.trans e2⟩
   ·rw [e2] at y;cases y;cases yk
  ·exact ⟨ds,(h4 _ z).trans e2⟩
 by_cases hf:(flat k v && us.all (flat (.ow false)))=true
 ·rw [if_pos hf] at hE;cases hE;rw [S4,SH] at hf;have st:lG Hm2 (back Hm2 (is.flatMap F)):=fun a xs h=>by
   have c:a∉is.flatMap F:=fun z=>by
    obtain ⟨i,_,hi⟩:=So.mp z;obtain ⟨w,hw,nt⟩:=R.bJ i a hi;have e2:Hm2 a=some w:=s1 _ _ (by rw [dR z];exact hw)
    rw [e2] at h;cases h;exact nt xs rfl
   rw [dg c];exact h
  have upB:ai Hm (back Hm2 (is.flatMap F)):=fun b o e=>by
   rw [dg fun z=>by rw [off b z] at e;cases e]
   exact s1 _ _ (up _ _ e)
  have R':Rl K g E2 U H' (back Hm2 (is.flatMap F)) F:={
   len:=l2.trans R.len
   sub:=z4 s2
   slot:=fun j k' d' e'=>by
    by_cases z:j∈ix.map (·.1)
    ·obtain ⟨q,hq,rfl⟩:=S0.mp z;obtain ⟨p,es,xs',es',mu,g1,g2,g3,g4,_⟩:=hu q hq;rw [g2] at e';cases e';obtain ⟨h1,h2⟩:=hix q hq;exact ⟨_,h1,by rw [h2];exact .ow g3 (g4.yN st (hf.2 _ mu))⟩
    ·rw [hs j z] at e';obtain ⟨v',h1,h2⟩:=R.slot j k' d' e';exact ⟨v',h1,h2.step upB fun a ha=>keepH z ha⟩
   off:=fun i a ha=>by
    by_cases c:a∈is.flatMap F
    ·exact jb c
    ·rw [dg c];exact offI ha c
   bJ:=fun i a ha=>hliv ha
   aQ:=R.aQ
   fr:=frm
   new:=R.new
   pin:=pinn (fun j _=>rfl) fun j _=>.inl rfl
   old:=fun a ha=>by
    by_cases c:a∈is.flatMap F
    ·have h':=R.old a ha;rw [off a c] at h';rw [jb c];exact h'
    ·rw [dg c];exact od ha c }
  refine ⟨_,F,R',upB,⟨o.flat st hf.1,fun a ha=>?_,nfp,fun a ha=>R.fF (fr a ha).1⟩⟩
  by_cases c:a∈is.flatMap F
  ·exact jb c
  ·rw [dg c];exact (fr a ha).2
 ·rw [if_neg hf] at hE;obtain ⟨l3,g3⟩:=nV hE;have R':Rl K g E3 U H' Hm2 (fun j=>if j∈is then [] else F j):={
   len:=l3.trans (l2.trans R.len)
   sub:=s2
   slot:=fun j k' d' e'=>by
    by_cases c:j∈is
    ·obtain ⟨k0,d0,e0,hk0,e1⟩:=(g3 j).2 c;rw [e1] at e';cases e';have z:j∉ix.map (·.1):=fun z=>by
      obtain ⟨q,hq,rfl⟩:=S0.mp z;exact hik q hq c
     rw [hs j z] at e0;obtain ⟨v',h1,h2⟩:=R.slot j k0 _ e0;refine ⟨v',h1,?_⟩;rw [if_pos c];exact .sh ((h2.rp (by cases k0 <;> first | rfl | cases hk0) up fun a ha=>dR (mem ha c)).mono s1)
    ·rw [(g3 j).1 c] at e';rw [if_neg c]
     by_cases z:j∈ix.map (·.1)
     ·obtain ⟨q,hq,rfl⟩:=S0.mp z;obtain ⟨p,es,xs',es',mu,g1,g2,g4,g5,_⟩:=hu q hq;rw [g2] at e';cases e';obtain ⟨h1,h2⟩:=hix q hq;exact ⟨_,h1,by rw [h2];exact .ow g4 g5⟩
     ·rw [hs j z] at e';obtain ⟨v',h1,h2⟩:=R.slot j k' d' e';exact ⟨v',h1,h2.step (up.trans s1) fun a ha=>keepH z ha⟩
   off:=fun j a ha=>by
    by_cases c:j∈is
    ·rw [if_pos c] at ha;cases ha
    ·rw [if_neg c] at ha;exact offI ha fun z=>by
      obtain ⟨i,hi,h⟩:=So.mp z;exact c (R.aQ i j a h ha ▸ hi)
   bJ:=fun j a ha=>by
    by_cases c:j∈is
    ·rw [if_pos c] at ha;cases ha
    ·rw [if_neg c] at ha;exact hliv ha
   aQ:=fun j l a h1 h2=>by
    by_cases c:j∈is
    ·rw [if_pos c] at h1;cases h1
    ·rw [if_neg c] at h1
     by_cases c':l∈is
     ·rw [if_pos c'] at h2;cases h2
     ·rw [if_neg c'] at h2;exact R.aQ j l a h1 h2
   fr:=frm
   new:=fun j a ha=>by
    by_cases c:j∈is
    ·rw [if_pos c] at ha;cases ha
    ·rw [if_neg c] at ha;exact R.new j a ha
   pin:=pinn (fun j hj=>(g3 j).1 hj) fun j hj=>by
    obtain ⟨k0,d0,e0,hk0,_⟩:=(g3 j).2 hj;exact .inr ⟨k0,d0,e0,hk0⟩
   old:=fun a ha=>by
    refine od ha fun z=>?_
    obtain ⟨i,hi,h⟩:=So.mp z;obtain ⟨k0,d0,e0,hk0,_⟩:=(g3 i).2 hi;have zi:i∉ix.map (·.1):=fun z=>by
     obtain ⟨q,hq,rfl⟩:=S0.mp z;exact hik q hq hi
    rw [hs i zi] at e0;exact ha (R.notM e0 (by cases k0 <;> first | rfl | (rename_i p;cases p <;> first | rfl | cases hk0) | cases hk0) h) }
  refine ⟨Hm2,_,R',up.trans s1,⟨o,fun a ha=>(fr a ha).2,fun a ha i=>?_,fun a ha=>R.fF (fr a ha).1⟩⟩
  by_cases c:i∈is
  ·rw [if_pos c];simp
  ·rw [if_neg c];exact nfp a ha i
end
section
variable {X:Cx}{Ex:XK}{Y:Xa}
def KQ {x:Str}{k:Nat}{ps:Xc}{ms:XX}{sp:bq}{p pos:Pos}{e:Expr}{es:XY}{as:List Arg}(F:bR X.prog X.w X.K X.mg X.base k x ps (cC X.mg X.K ms sp))(hp:Passes (fN X.prog X.w) X Ex)(hr:ef k X.A)(hg:Gl X x)(hd:(x == ("__debug__":Str))=false)
  (ns:(e::es).all noStar=true)(S:aS X Ex Y (e::es) as):SE X Ex Y (.Call (.Name x p) (e::es) [] pos) (aC sp ms as):=by
 intro g xc E U H Hm Fo P Q hx R h q;obtain ⟨f,fd,h1,h2,h3,h4⟩:=F;refine WE.of (Ku (E:=Ex) h4 hr hg h1 h2 h3 .nil hp (d7 ns) hd (bx (by rw [SG,S4] at ns;exact ns.1)) (gW (by rw [SG,S4] at ns;exact ns.2))) ?_
 refine m8 hx S R h fun E1 os vs H1 Hm1 F1 p R1 s1 G=>?_
 replace p:DH sp ms as xc E1 os P:=p
 unfold DH at p;rw [<- bI,fP] at p;obtain ⟨ds,hf,p⟩:=p;rw [dU,Ic] at p;obtain ⟨hl,hsp⟩:=p;unfold zb at hl;rw [S4,S4,TQ,SH] at hl;obtain ⟨⟨l1,l2⟩,l3⟩:=hl;have hlent:∀ i∈lent ms as,i∉kept ms as/\∃ p es,E1[i]?=some (some (.ow p,.list es)):=fun i hi=>by
  have:=l3 i hi;rw [S4] at this;refine ⟨fun z=>?_,?_⟩
  ·have y:=this.1;rw [We,V0] at y;simp [z] at y
  ·have y:=this.2;split at y
   ·rename_i p es e;exact ⟨p,es,e⟩
   ·cases y
 have off:∀ a∈(kept ms as).flatMap F1,Hm1 a=none:=fun a ha=>by
  obtain ⟨i,_,h⟩:=So.mp ha;exact R1.off i a h
 have up:=ic (Hm:=Hm1) (H:=H1) off;obtain ⟨ix,e1,e2,e3⟩:=Pc R1 up (ms:=ms) G hf l1 l2 (fun i hi=>(hlent i hi).2) (fun i hi a ha=>dR (So.mpr ⟨i,hi,ha⟩)) fun i hi a ha=>by
  rw [cN fun z=>by
   obtain ⟨j,hj,h⟩:=So.mp z;exact (hlent i hi).1 (R1.aQ j i a h ha ▸ hj)]
  exact R1.off i a ha
 show cC X.mg X.K ms sp (vs++[]) H1 Q Ex;rw [Sy];refine ⟨ds,ix.map (·.2),lend Hm1 H1 ((kept ms as).flatMap F1),_,xc,i9 R1.sub,e2,hsp,fun us k r u H' Hm' fp p sM sS fr old bk o new=>?_,fun c d C a H' hC hxc fr ha hn=>?_⟩
 ·replace p:Gb ms as E1 us k r P:=p
  unfold Gb at p;rw [<- bI,vz] at p;obtain ⟨E2,hu,p⟩:=p;rw [<- bI,Hj] at p;obtain ⟨E3,ha,p⟩:=p;obtain ⟨u1,u2,u3,u4⟩:=nY hu l2;have hu':∀ q∈ix,∃ p es xs' es',PyData.list es'∈us/\E1[q.1]?=some (some (.ow p,.list es))/\E2[q.1]?=some (some (.ow p,.list es'))/\H' q.2=some (.lst xs')/\aA X.K Hm' xs' es'/\Hm' q.2=none:=fun q hq=>by
   obtain ⟨n,hn⟩:=U7 hq;have hn1:(lent ms as)[n]?=some q.1:=by rw [<- e1,S7,hn];rfl
   have hn2:(ix.map (·.2))[n]?=some q.2:=by rw [S7,hn];rfl
   obtain ⟨xs',es',g1,g2,g3,g4⟩:=bk.get hn2;obtain ⟨p',es,es'',g5,g6,g7⟩:=u4 n q.1 _ hn1 g1;cases g5;exact ⟨p',es,xs',es',SR g1,g6,g7,g2,g3,g4⟩
  obtain ⟨Hm'',F'',R'',s'',T⟩:=B8 R1 (is:=kept ms as) (ix:=ix) (us:=us) e3 (fun q hq=>(hlent q.1 (e1 ▸ S0.mpr ⟨q,hq,rfl⟩)).1) u1 (fun j hj=>u2 j (e1 ▸ hj)) hu' (zE ha) sM sS fr old o new
  exact q _ _ _ _ _ _ _ _ p R'' (s1.trans s'') T
 ·refine hx c d C a H' hC hxc (fun p o hp ho=>?_) ha (R1.fF hn)
  refine fr p o (fun z=>?_) (R1.fr p o hp ho)
  obtain ⟨q,hq,rfl⟩:=S0.mp z;rcases R1.new q.1 q.2 (by rw [(e3 q hq).2];exact RT) with y | y
  ·exact hp y
  ·rw [y] at ho;cases ho
end
def WS (X:Cx)(st:Stmt):TS:=fun D U H=>∀ (pins:XH)(s:Shared),Inv X pins U H s->wpAny (model X.prog X.w) X.A (exec st X.env) (SP X pins D) X.xe s
def q9 (X:Cx)(st:XZ):TS:=fun D U H=>∀ (pins:XH)(s:Shared),Inv X pins U H s->wpAny (model X.prog X.w) X.A (execs st X.env) (SP X pins D) X.xe s
def Dg:PS X st (WS X st):=fun pins s _ _ _ I h=>h pins s I
def jo:oQ X st (q9 X st):=fun pins s _ _ _ I h=>h pins s I
def WS.of (h:PS X st t)(q:t D U H):WS X st D U H:=fun pins s I=>h pins s U H D I q
def q9.of (h:oQ X st t)(q:t D U H):q9 X st D U H:=fun pins s I=>h pins s U H D I q
def bD {α:Type}{l:List α}{i:Nat}{a:α}(h:l[i]?=some a):i < l.length:=by
 rcases Sq i l.length with z | z
 ·exact z
 ·rw [Sn z] at h;cases h
def mZ {Y:Xa}{U:St}{j i:Nat}{v:Option V}(nd:Y.Nodup)(h:Y[j]?=some i)(hi:i < U.length):(sel Y U).set j v=sel Y (U.set i v):=by
 have lj:j < Y.length:=bD h;refine To fun k=>?_
 by_cases c:k=j
 ·subst c;rw [aK (by unfold sel;rw [RX];exact lj)]
  unfold sel;rw [S7,h];show some v=some ((U.set i v)[i]?).join;rw [aK hi];rfl
 ·rw [ao (Ne.symm c)];unfold sel;rw [S7,S7];cases e:Y[k]? with
  | none=>rfl
  | some m =>
   have ne:i≠m:=fun z=>c (by
    have h1:=U1.mp e;have h2:=U1.mp h;obtain ⟨l1,e1⟩:=h1;obtain ⟨l2,e2⟩:=h2;exact (List.getElem_inj nd).mp (e1.trans (z.symm.trans e2.symm)))
   show some (U[m]?).join=some ((U.set i v)[m]?).join;rw [ao ne]
abbrev aT (X:Cx):Xa:=List.range X.N.length
def Qc (X:Cx)(Ex:XK)(w:TS)(d:DS):Prop :=
 ∀ (g:Gh)(D':gJ)(E:En)(U:St)(H Hm:Hp)(F:Nat->XW)(D:Ends),XL X Ex D'.xc g->Rl X.K g E U H Hm F->d D' E ->
  (∀ E' σ' H' Hm' F',D'.nx E'->Rl X.K g E' σ' H' Hm' F'->ai Hm Hm'->D.nx (sel (aT X) σ') H') ->
  (∀ E' k v u σ' H' Hm' F' fp,D'.rt E' k v->Rl X.K g E' σ' H' Hm' F'->Tm X.K g F' H' Hm' k u v fp->D.rt u H')->w D (sel (aT X) U) H
abbrev S1 (X:Cx)(Ex:XK)(st:Stmt)(d:DS):Prop:=Qc X Ex (WS X st) d
abbrev SS (X:Cx)(Ex:XK)(st:XZ)(d:DS):Prop:=Qc X Ex (q9 X st) d
section
variable {X:Cx}{Ex:XK}
def cR:SS X Ex [] d9:=fun g D' E U H Hm F D hx R h nx rt=>q9.of JQ (nx _ _ _ _ _ h R (ai.refl _))
def aj {st:Stmt}{rest:XZ}{a b:DS}(h1:S1 X Ex st a)(h2:SS X Ex rest b):SS X Ex (st::rest) (ay a b):=by
 intro g D' E U H Hm F D hx R h nx rt;refine q9.of (xY Dg jo) (h1 g { D' with nx:=b D' } E U H Hm F _ hx R h (fun E1 σ1 H1 Hm1 F1 p1 R1 s1=>?_) rt)
 exact h2 g D' E1 σ1 H1 Hm1 F1 D hx R1 p1 (fun E2 σ2 H2 Hm2 F2 p2 R2 s2=>nx _ _ _ _ _ p2 R2 (s1.trans s2)) rt
def zo {st:Stmt}{rest:XZ}{a b:DS}(h1:S1 X Ex st a)(h2:SS X Ex rest b):SS X Ex (st::rest) (uR a b):=by
 intro g D' E U H Hm F D hx R h nx rt;obtain ⟨J,h,hJ⟩:=h;refine q9.of (xY Dg jo) (h1 g { D' with nx:=J } E U H Hm F _ hx R h (fun E1 σ1 H1 Hm1 F1 p1 R1 s1=>?_) rt)
 exact h2 g D' E1 σ1 H1 Hm1 F1 D hx R1 (hJ E1 p1) (fun E2 σ2 H2 Hm2 F2 p2 R2 s2=>nx _ _ _ _ _ p2 R2 (s1.trans s2)) rt
def aq (h1:S1 X Ex st a):SS X Ex [st] a:=fun g D' E U H Hm F D hx R h nx rt=>q9.of (Ls Dg) (h1 g D' E U H Hm F D hx R h nx rt)
def Qx (hc:ST X Ex (aT X) c t)(ha:SS X Ex a d)(hb:SS X Ex b2 e):S1 X Ex (.If c a b2 pos) (dG t d e):=by
 rw [KR];intro g D' E U H Hm F D hx R h nx rt;refine WS.of (OZ jA jo jo) (hc g D'.xc E U H Hm F _ (fun b H1=>if b=true then q9 X a D _ H1 else q9 X b2 D _ H1) hx R h fun E1 b H1 Hm1 F1 p1 R1 s1=>?_)
 cases b with
 | true=>exact pZ (ha g D' E1 U H1 Hm1 F1 D hx R1 (by simpa using p1) (fun E2 σ2 H2 Hm2 F2 p2 R2 s2=>nx _ _ _ _ _ p2 R2 (s1.trans s2)) rt)
 | false=>exact p7 (hb g D' E1 U H1 Hm1 F1 D hx R1 (by simpa using p1) (fun E2 σ2 H2 Hm2 F2 p2 R2 s2=>nx _ _ _ _ _ p2 R2 (s1.trans s2)) rt)
def O5 (h:SE X Ex (aT X) e d):S1 X Ex (.Return (some e) pos) (bP d):=fun g D' E U H Hm F D hx R p nx rt=>WS.of (EI bg) (h g D'.xc E U H Hm F _ _ hx R p fun E' k v u H' Hm' F' fp p' R' s' T=>rt _ _ _ _ _ _ _ _ _ p' R' T)
def MX (h:SE X Ex (aT X) e d)(hs:swapsWith e none pos.line X.env=pure false):S1 X Ex (.Expr e pos) (cW d):=fun g D' E U H Hm F D hx R p nx rt=>WS.of (K1 bg hs) (h g D'.xc E U H Hm F _ _ hx R p fun E' k v u H' Hm' F' fp p' R' s' T=>nx _ _ _ _ _ p' R' s')
def Rl.move {K:Frag}{g:Gh}{E:En}{U:St}{H Hm:Hp}{F:Nat->XW}(R:Rl K g E U H Hm F){i:Nat}{k:Kd}{d:PyData}(e:E[i]?=some (some (k,d)))(hk:k.pin=false):∃ v F',U[i]?=some (some v)/\Rl K g (E.set i none) U H Hm F'/\Tm K g F' H Hm k v d (F i):=by
 obtain ⟨v,h1,h2⟩:=R.slot i k d e;have li:=bD e;refine ⟨v,fun j=>if j=i then [] else F j,h1,?_,⟨h2,R.off i,fun a ha j=>?_,fun a ha=>R.notM e hk ha⟩⟩
 ·exact {
   len:=by rw [Sw];exact R.len
   sub:=R.sub
   slot:=fun j k' d' e'=>by
    by_cases c:j=i
    ·subst c;rw [aK li] at e';cases e'
    ·rw [ao (Ne.symm c)] at e';obtain ⟨u,g1,g2⟩:=R.slot j k' d' e';exact ⟨u,g1,by rw [if_neg c];exact g2⟩
   off:=fun j a ha=>by
    by_cases c:j=i
    ·rw [if_pos c] at ha;cases ha
    ·rw [if_neg c] at ha;exact R.off j a ha
   bJ:=fun j a ha=>by
    by_cases c:j=i
    ·rw [if_pos c] at ha;cases ha
    ·rw [if_neg c] at ha;exact R.bJ j a ha
   aQ:=fun j l a g1 g2=>by
    by_cases c:j=i
    ·rw [if_pos c] at g1;cases g1
    ·rw [if_neg c] at g1
     by_cases c':l=i
     ·rw [if_pos c'] at g2;cases g2
     ·rw [if_neg c'] at g2;exact R.aQ j l a g1 g2
   fr:=R.fr
   new:=fun j a ha=>by
    by_cases c:j=i
    ·rw [if_pos c] at ha;cases ha
    ·rw [if_neg c] at ha;exact R.new j a ha
   pin:=fun q hq=>by
    obtain ⟨g1,ds',g2⟩:=R.pin q hq;have c:i≠q.1:=fun z=>by
     rw [<- z,e] at g2;cases g2;cases hk
    exact ⟨g1,ds',by rw [ao c];exact g2⟩
   old:=R.old }
 ·by_cases c:j=i
  ·rw [if_pos c];simp
  ·rw [if_neg c];exact fun z=>c (R.aQ j i a z ha)
def jh {n i:Nat}(h:i < n):(List.range n)[i]?=some i:=Sv h
def N9 {i:Nat}(h:PE X e (jf i))(hi:i < X.N.length):S1 X Ex (.Return (some e) pos) (lS i):=by
 intro g D' E U H Hm F D hx R p nx rt
 replace p:Ds E i D'.rt:=p
 unfold Ds at p;split at p
 rotate_left
 ·exact p.elim
 rename_i k d e1;rw [dU] at p;obtain ⟨hk,p⟩:=p;have hk:k.pin=false:=by simpa using hk
 obtain ⟨v,F',h1,R',T⟩:=R.move e1 hk;exact WS.of (EI h) ⟨v,cV (jh hi) h1,rt _ _ _ _ _ _ _ _ _ p R' T⟩
def jq {i:Nat}(h:bZ E i=true):i < E.length:=by
 rcases Sq i E.length with z | z
 ·exact z
 ·unfold bZ at h;rw [Sn z] at h;cases h
def P1 {i:Nat}{x:Str}{e:Expr}{pos pos':Pos}{d:DE}(hN:X.N.Nodup)(hi:X.N[i]?=some x)(hl:Loc X.env.scope x)(hs:swapsWith e (some (.Name x pos')) pos.line X.env=pure false)(hf:X.fn x=true\/X.env.scope.names.lookup x=some .local)(h:SE X Ex (aT X) e d):S1 X Ex (.Assign [.Name x pos'] e pos) (aX i d):=by
 rw [u5];intro g D' E U H Hm F D hx R p nx rt;refine WS.of (Nq hN hi hl bg hs hf) (h g D'.xc E U H Hm F _ _ hx R p fun E' k v u H' Hm' F' fp p' R' s' T=>?_)
 show D.nx ((sel (aT X) U).set i (some u)) H';rw [mZ Tz (jh (bD hi)) (R'.len ▸ jq p'.1)];exact nx _ _ _ _ _ p'.2 (R'.put T p'.1) s'
inductive k7 (X:Cx)(Y:Xa):XY->Xa->Prop
 | nil:k7 X Y [] []
 | cons {x:Str}{p:Pos}{j i:Nat}{ts:XY}{is:Xa}:X.N[j]?=some x->Y[j]?=some i->Loc X.env.scope x->(X.fn x=true\/X.env.scope.names.lookup x=some .local)->k7 X Y ts is->k7 X Y (.Name x p::ts) (i::is)
inductive fK (X:Cx)(Y:Xa):Expr->Tg->Prop
 | nm {x:Str}{p:Pos}{j i:Nat}:X.N[j]?=some x->Y[j]?=some i->Loc X.env.scope x->(X.fn x=true\/X.env.scope.names.lookup x=some .local)->fK X Y (.Name x p) (.nm i)
 | tp {ts:XY}{k:Nat}{p:Pos}{is:Xa}:k7 X Y ts is->fK X Y (.Tuple ts k p) (.tp is)
def Rw (X:Cx)(Y:Xa)(tg:Tg)(G:TG):Prop:=∀ {g:Gh}{d:PyData}{v:V}{E E2:En}{U:St}{H Hm:Hp}{F:Nat->XW}{Q:St->Hp->Prop},cP tg d E=some E2->Rp X.K Hm v d->Rl X.K g E U H Hm F->(∀ σ' F',Rl X.K g E2 σ' H Hm F'->(∀ j,j∉tg.slots->σ'[j]?=U[j]?)->Q (sel Y σ') H)->G v (sel Y U) H Q
def Io (hN:X.N.Nodup)(nd:Y.Nodup)(h:k7 X Y ts is):∃ G:qZ,Gn X ts G/\(assignEach ts X.env).length=is.length/\(assignEach ts X.env).findIdx? (·.1)=none /\
  ∀ {g:Gh}{ds:XS}{vs:List V}{E E2:En}{U:St}{H Hm:Hp}{F:Nat->XW}{Q:St->Hp->Prop},bS is ds E=some E2->aA X.K Hm vs ds->Rl X.K g E U H Hm F->(∀ σ' F',Rl X.K g E2 σ' H Hm F'->(∀ j,j∉is->σ'[j]?=U[j]?)->Q (sel Y σ') H)->vs.length=is.length/\G vs (sel Y U) H Q:=by
 induction h with
 | nil =>
  refine ⟨Oj,Kr,rfl,rfl,fun {g ds vs E E2 U H Hm F Q} h r R q=>?_⟩
  cases ds with
  | nil =>
   cases h;cases r;exact ⟨rfl,rfl,q _ _ R fun _ _=>rfl⟩
  | cons _ _=>cases h
 | @cons x p j i ts is h1 h2 h3 h4 _ ih =>
  obtain ⟨G,g1,g2,g3,g4⟩:=ih;refine ⟨JD (qA j) G,Ht (Bo hN h1 h3 h4) g1,?_,?_,fun {g ds vs E E2 U H Hm F Q} h r R q=>?_⟩
  ·show (assignEach ts X.env).length + 1=_;rw [g2];rfl
  ·show List.findIdx? (·.1) ((false,assign (.Name x p) X.env)::assignEach ts X.env)=none;rw [List.findIdx?_cons,g3];rfl
  ·cases ds with
   | nil=>cases h
   | cons d ds =>
    rw [bS] at h
    by_cases o:bZ E i=true
    ·rw [if_pos o] at h;cases r with
     | cons r1 r2 =>
      obtain ⟨l,k⟩:=g4 h r2 (R.put (Tm.sh r1) o) fun σ' F' R' a=>q σ' F' R' fun j' hj=>by
       have ne:i≠j':=fun z=>hj (z ▸ RT)
       exact (a j' fun z=>hj (RY _ z)).trans (ao ne)
      refine ⟨congrArg (· + 1) l,_,_,rfl,?_⟩;show G _ ((sel Y U).set j (some _)) H Q;rw [mZ nd h2 (R.len ▸ jq o)];exact k
    ·rw [if_neg o] at h;cases h
def t8 (hc:X.calm=true)(hN:X.N.Nodup)(nd:Y.Nodup)(h:fK X Y e tg):∃ G,PG X e G/\Rw X Y tg G:=by
 cases h with
 | @nm x p j i h1 h2 h3 h4 =>
  refine ⟨qA j,Bo hN h1 h3 h4,fun {g d v E E2 U H Hm F Q} h r R q=>?_⟩
  have h:bS [i] [d] E=some E2:=h;rw [bS] at h
  by_cases o:bZ E i=true
  ·rw [if_pos o] at h;cases h;show Q ((sel Y U).set j (some v)) H;rw [mZ nd h2 (R.len ▸ jq o)];exact q _ _ (R.put (Tm.sh r) o) fun j' hj=>ao (show i≠j' from fun z=>hj (z ▸ RT))
  ·rw [if_neg o] at h;cases h
 | @tp ts k p is h =>
  obtain ⟨G,g1,g2,g3,g4⟩:=Io hN nd h;refine ⟨_,Ny hc g1 g2 g3,fun {g d v E E2 U H Hm F Q} h r R q=>?_⟩
  cases d with
  | tuple ds =>
   have h:bS is ds E=some E2:=h;cases r with
   | tup a r =>
    obtain ⟨l,k⟩:=g4 h r R q;exact ⟨_,_,rfl,cJ.of (R.sub _ _ a),l,k⟩
  | _=>cases h
def ON {k:Nat}(hc:X.calm=true)(hN:X.N.Nodup)(ht:k7 X (aT X) ts is)(hs:swapsWithSole [.Tuple ts k p] e pos.line X.env=pure false)(hw:swappedStores [.Tuple ts k p] e X.env=pure none)(h:SE X Ex (aT X) e d):S1 X Ex (.Assign [.Tuple ts k p] e pos) (sF is d):=by
 intro g D' E U H Hm F D hx R pp nx rt;obtain ⟨G,g1,g2⟩:=t8 hc hN Tz (fK.tp (k:=k) (p:=p) ht);refine WS.of (Dq bg g1 hs hw) (h g D'.xc E U H Hm F _ _ hx R pp fun E' k v u H' Hm' F' fp p' R' s' T=>?_)
 replace p':bK k.fz _:=p'
 rw [dU] at p';obtain ⟨hk,p'⟩:=p';unfold Jb at p';split at p'
 rotate_left
 ·exact p'.elim
 rename_i ds;rw [<- bI,Fg] at p';obtain ⟨E2,e2,p'⟩:=p';have e2:cP (.tp is) (.tuple ds) E'=some E2:=e2;obtain ⟨Hm2,s2,R2,r2⟩:=T.cE R' hk;exact g2 e2 r2 R2 fun σ' F' R3 _=>nx _ _ _ _ _ p' R3 (s'.trans s2)
def J6 (hp:PassesOwn (model X.prog X.w) X.A X.env X.xe)(hc:ST X Ex (aT X) c t)(hb:SS X Ex b d):S1 X Ex (.While c b [] pos) (sU t d):=by
 intro g D' E U H Hm F D hx R h nx rt;obtain ⟨W,⟨m0,w0⟩,step⟩:=h;refine WS.of (G5 hp jA jo) ⟨fun m τ H'=>∃ E' σ' Hm' F',W m E'/\Rl X.K g E' σ' H' Hm' F'/\ai Hm Hm'/\τ=sel (aT X) σ',⟨m0,E,U,Hm,F,w0,R,ai.refl _,rfl⟩,?_⟩
 rintro m τ H1 ⟨E1,σ1,Hm1,F1,w1,R1,s1,rfl⟩;refine hc g D'.xc E1 σ1 H1 Hm1 F1 _ _ hx R1 (step m E1 w1) fun E2 b2 H2 Hm2 F2 p2 R2 s2=>?_
 cases b2 with
 | true =>
  refine pZ ⟨fun τ H'=>∃ m',m' < m/\∃ E' σ' Hm' F',W m' E'/\Rl X.K g E' σ' H' Hm' F'/\ai Hm Hm'/\τ=sel (aT X) σ',fun _ _ z=>z,?_⟩
  exact hb g { D' with nx:=fun E'=>∃ m',m' < m/\W m' E' } E2 σ1 H2 Hm2 F2 _ hx R2 (by simpa using p2) (fun E3 σ3 H3 Hm3 F3 p3 R3 s3=>by
   obtain ⟨m',hm,w3⟩:=p3;exact ⟨m',hm,E3,σ3,Hm3,F3,w3,R3,s1.trans (s2.trans s3),rfl⟩) rt
 | false=>exact p7 (nx _ _ _ _ _ (by simpa using p2) R2 (s1.trans s2))
def wz (K:Frag)(J:It)(xs:XS)(eY:Hp):Prop:=∀ (i:Nat)(H Hm:Hp),ai eY Hm->ai Hm H ->
 (∀ d,xs[i]?=some d->J.go i H/\∀ x H',J.qR i H x H'->∃ Hm',ai Hm Hm'/\ai Hm' H'/\ai H H'/\(∀ a,H a≠none->OE (Hm' a) (Hm a))/\Rp K Hm' x d)/\(xs.length<=i->J.stop i H)
def SI (X:Cx)(Ex:XK)(Y:Xa)(tg e:Expr)(d:DI):Prop:=∃ wi:TI,PI X tg e wi /\
 ∀ (g:Gh)(x:XC)(E:En)(U:St)(H Hm:Hp)(F:Nat->XW)(P:En->XS->Prop)(R:It->Hp->Prop),XL X Ex x g->Rl X.K g E U H Hm F->d x E P ->
  (∀ E' xs J H' Hm' F',P E' xs->Rl X.K g E' U H' Hm' F'->ai Hm Hm'->wz X.K J xs Hm'->R J H')->wi (sel Y U) H R
def Rl.turn {F:Nat->XW}(R:Rl K g E U H Hm F)(s1:ai Hm Hm')(s2:ai Hm' H')(s3:ai H H')(old:∀ a,H a≠none->OE (Hm' a) (Hm a)):Rl K g E U H' Hm' F :=
 R.grow s3 s1 s2 (fun i a ha=>by
  obtain ⟨u,hu,nt⟩:=R.bJ i a ha;exact (old a (by rw [hu];simp)).off (R.off i a ha) s2 (s3 _ _ hu) nt) fun a ha=>old a (R.uz ha)
def O8 (hp:PassesOwn (model X.prog X.w) X.A X.env X.xe)(hc:X.calm=true)(hN:X.N.Nodup)(hi:SI X Ex (aT X) tg it di)(ht:fK X (aT X) tg t)(hb:SS X Ex b d)
  (hs:∀ x,foldedSetIterable it X.env x=pure x):S1 X Ex (.For tg it b [] pos) (iH di t d):=by
 intro g D' E U H Hm F D hx R h nx rt;obtain ⟨wi,hpi,hw⟩:=hi;obtain ⟨G,g1,g2⟩:=t8 hc hN Tz ht;refine WS.of (LD hp hc hpi g1 jo hs) (hw g D'.xc E U H Hm F _ _ hx R h fun E1 xs J H1 Hm1 F1 p1 R1 s1 it1=>?_)
 obtain ⟨I,i0,step,fin⟩:=p1;refine ⟨fun i m τ H'=>m=xs.length - i/\i<=xs.length/\∃ E' σ' Hm' F',I i E'/\Rl X.K g E' σ' H' Hm' F'/\ai Hm1 Hm'/\τ=sel (aT X) σ',⟨xs.length,by simp,Sd _,E1,U,Hm1,F1,i0,R1,ai.refl _,rfl⟩,?_⟩
 rintro i m τ H2 ⟨rfl,hi,E2,σ2,Hm2,F2,i2,R2,s2,rfl⟩;obtain ⟨go,stop⟩:=it1 i H2 Hm2 s2 R2.sub
 by_cases c:i < xs.length
 ·obtain ⟨go,qR⟩:=go xs[i] (S9 c);refine .inr ⟨go,fun τ H'=>i + 1<=xs.length/\∃ E' σ' Hm' F',I (i + 1) E'/\Rl X.K g E' σ' H' Hm' F'/\ai Hm1 Hm'/\τ=sel (aT X) σ',fun τ H' z=>⟨xs.length - (i + 1),by lia,rfl,z⟩,fun x H3 y=>?_⟩
  obtain ⟨Hm3,t1,t2,t3,old,r⟩:=qR x H3 y;have R3:=R2.turn t1 t2 t3 old;obtain ⟨E4,e4,p4⟩:=step i xs[i] E2 (S9 c) i2;refine g2 e4 r R3 fun σ4 F4 R4 _=>?_
  exact hb g { D' with nx:=I (i + 1) } E4 σ4 H3 Hm3 F4 _ hx R4 p4 (fun E5 σ5 H5 Hm5 F5 p5 R5 s5=>⟨c,E5,σ5,Hm5,F5,p5,R5,s2.trans (t1.trans s5),rfl⟩) rt
 ·have e:i=xs.length:=by lia
  subst e;exact .inl ⟨stop (RW _),nx _ _ _ _ _ (fin E2 i2) R2 (s1.trans s2)⟩
end
end Dv
namespace L2
open PySem PySem.Spec PyProof.Rows
def je (elt:Expr)(gens:XF)(scope:Scope)(pos:Pos) (k:Nat)(acc:Value)(env:Env)(fin:Sem Fin):Sem Fin:=match gens[k]? with
 | some g'=>do
  let x <- eval g'.iter env
  standAt g'.iter.pos
  let x <- foldedSetIterable g'.iter env x
  let y <- holding [x] (pyIter x)
  let _ <- runOwn (.compStart (.ListComp elt gens scope pos) k y acc env) env
  fin
 | none=>do
  (do let _ <- call (.builtin "list.append") [acc,<- eval elt env])
  fin
def compTurn_gen {k:Nat}(hk:gens[k]?=some ⟨tg,iter,ifs,0⟩)(ha:∀ g∈gens,g.is_async=0)(it acc:Value)(env:Env) :
  compTurn (.ListComp elt gens scope pos) k it acc env=(do
   standAt iter.pos
   match <- pyNext it with
   | none=>pure (.done .next)
   | some v =>
    letOwnedTupleGo tg it v
    assign tg env v
    let mut ok:=true
    for c in ifs do
     if ok then ok <- isTrue c env (eval c env)
    if ok then je elt gens scope pos (k + 1) acc env (again (.compLoop (.ListComp elt gens scope pos) k it acc env))
    else again (.compLoop (.ListComp elt gens scope pos) k it acc env)):=by
 unfold compTurn je;simp only [hk];cases h:gens[k + 1]? with
 | none=>rfl
 | some g' =>
  have e:=ha g' (SR h);obtain ⟨t,i,f,a⟩:=g';dsimp only at e;subst e;rfl
section
variable {prog:Program}{w:World}{A:Around}{R:Result->Shared->Prop}{s:Shared}{elt tg iter:Expr}{gens:XF}{ifs:XY}{scope:Scope}{pos:Pos}{k:Nat}
def uy (hk:gens[k]?=some ⟨tg,iter,ifs,0⟩)(ha:∀ g∈gens,g.is_async=0)(I:Nat->Shared->Prop)
  (turn:∀ n s,I n s->wpAny (model prog w) A (pyNext it) (fun r s1=>match r with
   | none=>R (.ok .next) s1
   | some v=>wpAny (model prog w) A (letOwnedTupleGo tg it v) (fun _ s0=>wpAny (model prog w) A (assign tg env v) (fun _ s2=>wpAny (model prog w) A (forIn ifs true fun c r=>if r=true then do let ok <- isTrue c env (eval c env);pure (ForInStep.yield ok) else pure (ForInStep.yield r)) (fun ok s3 =>
      if ok=true then ∀ (fin:Sem Fin)(Qf:Fin->Shared->Prop),(∀ s5,(∃ m,m < n/\I m s5)->wpAny (model prog w) A fin Qf (oF prog w A env R) s5)->wpAny (model prog w) A (je elt gens scope pos (k + 1) acc env fin) Qf (oF prog w A env R) s3
      else ∃ m,m < n/\I m s3) (oF prog w A env R) s2) (oF prog w A env R) s0) (oF prog w A env R) s1) (oF prog w A env R) s)
  (n:Nat)(h:I n s):codeAny (model prog w) A (.compLoop (.ListComp elt gens scope pos) k it acc env) R s:=by
 refine codeAny_loop rfl I (fun n s hI=>?_) n h
 refine (wpAny_noted (?_:_):wpAny _ A ((compTurn (.ListComp elt gens scope pos) k it acc env).onRaise (fun x=>do noteFrame x env;theTreesLotGoes x)) _ _ s)
 rw [compTurn_gen hk ha];refine R8 (VY (R8 (Ss (turn n s hI) (fun r s1 h1=>?_) fun _ _ z=>z)))
 cases r with
 | none=>exact R9 h1
 | some v =>
  refine R8 (Ss h1 (fun _ s0 h0=>R8 (Ss h0 (fun _ s2 h2=>R8 (Ss h2 (fun ok s3 h3=>?_) fun _ _ z=>z)) fun _ _ z=>z)) fun _ _ z=>z)
  cases ok with
  | false=>exact R9 ⟨rfl,h3⟩
  | true=>exact h3 _ _ fun s5 h5=>R9 ⟨rfl,h5⟩
end
def mS (N:Xc)(fs scope:Scope)(vs NB:Xc)(ix:Xa):Bool :=
 decide (scope.kind=.function) && scope.names.all (fun y=>decide (y.2≠.cell)) && scope.names.all (fun y=>decide (y.2≠.local) || decide (scope.names.lookup y.1=some .local)) &&
 scope.names.all (fun y=>decide (y.2≠.free) || (decide (fs.names.lookup y.1=some .cell) || decide (fs.names.lookup y.1=some .free))) &&
 decide (NB=vs++ix.map fun i=>N.getD i "") && decide NB.Nodup && ix.all fun i=>match N[i]? with | some y=>decide (scope.names.lookup y=some .free) | none=>false
structure cM (X:Cx)(scope:Scope)(vs NB:Xc)(ix:Xa):Prop where
 kind:scope.kind=.function
 cell:∀ y∈scope.names,y.2≠.cell
 names:∀ y∈scope.names,y.2=.local->scope.names.lookup y.1=some .local
 free:∀ y,(y,NameKind.free)∈scope.names->(X.env.kindOf y=some .cell\/X.env.kindOf y=some .free)
 nb:NB=vs++ix.map fun i=>X.N.getD i ""
 nd:NB.Nodup
 cap:∀ i∈ix,∃ y,X.N[i]?=some y/\scope.names.lookup y=some .free
def cM.of (h:mS N fs scope vs NB ix=true)(hN:X.N=N:=by rfl)(hf:X.env.scope=fs:=by rfl):cM X scope vs NB ix:=by
 subst hN hf;unfold mS at h;simp only [S4] at h;obtain ⟨⟨⟨⟨⟨⟨h1,h2⟩,h3⟩,h4⟩,h6⟩,h7⟩,h8⟩:=h;refine ⟨SV h1,fun y hy=>SV (SH.mp h2 y hy),fun y hy e=>?_,fun y hy=>?_,SV h6,SV h7,fun i hi=>?_⟩
 ·have z:=SH.mp h3 y hy;rw [UP] at z;rcases z with z | z
  ·exact absurd e (SV z)
  ·exact SV z
 ·have z:=SH.mp h4 _ hy;rw [UP,UP] at z;rcases z with z | z | z
  ·exact absurd rfl (SV z)
  ·exact .inl (SV z)
  ·exact .inr (SV z)
 ·have z:=SH.mp h8 i hi;cases e:X.N[i]? with
  | none=>rw [e] at z;cases z
  | some y=>rw [e] at z;exact ⟨y,rfl,SV z⟩
section
variable {X:Cx}{scope:Scope}{vs:Xc}{NB:Xc}{ix:Xa}{pins:XH}{U:St}{H2:Hp}{s2:Shared}{fp:XW}
def cM.clos (B:cM X scope vs NB ix)(I2:Inv X pins U H2 s2):closureFor scope X.env=pure (b7 X.env.cells scope.names []) :=
 lR fun n hn=>I2.ok.has n (B.free n hn)
def cM.look (B:cM X scope vs NB ix)(I2:Inv X pins U H2 s2){c:Addr}(h:(b7 X.env.cells scope.names []).lookup y=some c):X.env.cells.lookup y=some c:=by
 rcases mL _ _ h with ⟨m,e⟩ | e
 ·obtain ⟨c',hc⟩:=I2.ok.has y (B.free y m);rw [hc] at e ⊢;exact congrArg some e
 ·cases e
def Eo (B:cM X scope vs NB ix)(I2:Inv X pins U H2 s2){C:Addr}(hC:s2.heap.objs.size<=C)(f2:∀ b∈fp,eS X pins H2 b)(ft:∀ b∈fp,b < s2.heap.objs.size):(X.block scope C NB s2 H2 fp).Ok where
 mod:=I2.ok.mod
 kind:=B.kind
 glob:=I2.ok.glob
 blt:=I2.ok.blt
 above:=hC
 inj:=fun a b c h1 h2=>I2.ok.inj a b c (B.look I2 h1) (B.look I2 h2)
 has:=fun y hy=>by
  have key:∀ k,(relabel scope X.env).names.lookup y=some k->(k=.cell\/k=.free)->∃ c,(b7 X.env.cells scope.names []).lookup y=some c:=fun k hk kk=>by
   rcases rF (names:=scope.names) hk with e | ⟨e,_⟩
   ·rcases kk with rfl | rfl
    ·exact absurd rfl (B.cell _ (dh e))
    ·exact ff _ _ (.inl (dh e))
   ·exact ff _ _ (.inl (dh e))
  rcases hy with e | e
  ·exact key _ e (.inl rfl)
  ·exact key _ e (.inr rfl)
 DP:=fun _ _ z=>by cases z
 hd:=I2.ok.hd
 frames:=I2.ok.frames
 stk:=.inl rfl
 P9:=fun b hb=>⟨S8 (SK (ft b hb) hC),fun y c e=>(f2 b hb).2.2.2.2.1 y c (B.look I2 e)⟩
 bs:=I2.bs
 vY:=SW I2.ok.vY I2.sz
 uG:=fun b o e hb=>by
  rcases (f2 b hb).2.2.2.1 with z | z
  ·exact I2.ok.uG b o e z
  ·exact absurd (SK (S3 (I2.ok.bs b o e).1) z) (Sf _)
 Di:=fun b hb z=>by
  rcases S2.mp (I2.jB b z) with e | e
  ·exact (f2 b hb).2.1 e
  ·exact (f2 b hb).2.2.1 e
 lA:=I2.stack
 Be:=I2.qw
def BS (B:cM X scope vs NB ix)(I2:Inv X pins U H2 s2){C D:Addr}{tk:Nat}(hC:s2.heap.objs.size<=C)(hD:s2.heap.objs.size<=D)(hDC:D≠C)(f2:∀ b∈fp,eS X pins H2 b)(ft:∀ b∈fp,b < s2.heap.objs.size)
  (old:∀ b o,s2.heap.get? b=some o->h1.get? b=some o)(hn:h1.Ns C m)(ho:h1.get? D=some oD)(hcl:∀ v,oD.data≠.cell v) :
  Inv (X.block scope C NB s2 H2 fp) [(D,oD)] (List.replicate vs.length none++caps ix U) H2 { s2 with heap:=h1,toks:=tk } where
 ok:=Eo B I2 hC f2 ft
 os:=rfl
 bare:=I2.bare
 base:=Un.kept old
 loc:=by
  refine ⟨m,hn,fun i y v e1 e2 _=>?_⟩
  have e1:NB[i]?=some y:=e1
  by_cases li:i < vs.length
  ·rw [UT (by rw [TZ];exact li),WB,if_pos li] at e2
   cases e2
  ·obtain ⟨j,rfl⟩:∃ j,i=vs.length + j:=⟨i - vs.length,by lia⟩
   have e2:(caps ix U)[j]?=some (some v):=by
    rw [UC (by rw [TZ];lia),TZ,VJ] at e2
    exact e2
   rw [B.nb] at e1;have e1:(ix.map fun i=>X.N.getD i "")[j]?=some y:=by
    rw [UC (by lia),VJ] at e1
    exact e1
   rw [S7] at e1;unfold caps at e2;rw [S7] at e2;cases q:ix[j]? with
   | none=>rw [q] at e1;cases e1
   | some i =>
    rw [q] at e1 e2;obtain ⟨z,hz,fz⟩:=B.cap i (SR q);have ey:y=z:=by
     have w:X.N.getD i ""=y:=Option.some.inj e1;rw [<- w,TM,hz];rfl
    subst ey;have e2:(U[i]?).join=some v:=Option.some.inj e2;have es:U[i]?=some (some v):=by
     cases w:U[i]? with
     | none=>rw [w] at e2;cases e2
     | some o=>rw [w] at e2;exact congrArg some e2
    have fk:=B.free y (dh fz);have vis:jG X.env.scope y:=.inr fk;obtain ⟨mm,_,hl⟩:=I2.loc;obtain ⟨u,ru,lk⟩:=hl i y v hz es vis;refine ⟨u,ru,.inr ⟨?_,?_⟩⟩
    ·rcases nN (env:=X.env) (names:=scope.names) fz with e | ⟨_,e⟩
     ·exact .inr e
     ·exact .inl e
    ·rcases lk with ⟨lk,_⟩ | ⟨_,c,hc,hcell⟩
     ·rcases fk with fk | fk
      ·rw [lk] at fk;cases fk
      ·rw [lk] at fk;cases fk
     ·obtain ⟨c',hc'⟩:=ff (cells:=X.env.cells) scope.names [] (.inl (dh fz));have e3:=B.look I2 hc';rw [hc] at e3;cases e3;obtain ⟨oc,g1,g2⟩:=hcell;exact ⟨c,hc',oc,old _ _ g1,g2⟩
 cell:=fun y c e=>by
  obtain ⟨v,o,g1,g2⟩:=I2.cell y c (B.look I2 e);exact ⟨v,o,old _ _ g1,g2⟩
 free:=I2.hok.fresh hC
 iA:=fun y c e=>I2.iA y c (B.look I2 e)
 pin:=fun p hp=>by
  have e:p=(D,oD):=by simpa [Cx.block] using hp
  subst e;refine ⟨ho,I2.hok.fresh hD,hDC,fun z=>?_,hcl⟩
  rcases S2.mp (I2.jB D z) with e | e
  ·have e:D=X.env.locals:=e;exact absurd (SK I2.lt (e ▸ hD)) (Sf _)
  ·exact I2.Hq hD e
 hok:=I2.hok.kept old
 len:=by
  show (List.replicate vs.length none++caps ix U).length=NB.length;rw [B.nb,SJ,SJ,yz,RX,TZ]
end
abbrev TL:=List V->St->Hp->(List V->St->Hp->Prop)->Prop
def PL (X:Cx)(D:Addr)(elt:Expr)(gens:XF)(scope:Scope)(pos:Pos) (k:Nat)(t:TL):Prop :=
 X.s₀.heap.objs.size<=D->(∀ y c,X.env.cells.lookup y=some c->c≠D)->(∀ e s',X.xe e s'->False) ->
 ∀ (pins:XH)(s:Shared)(U:St)(H:Hp)(ys:List V)(its:XU) (nn:Nat)(Q:List V->St->Hp->Prop)(fin:Sem Fin)(Qf:Fin->Shared->Prop)(E:XE),
  (∀ p∈X.pn++pins,p.1≠D)->Inv X ((D,eu its nn)::pins) U H s->Vals ys its->ys.length<=sizeLine->t ys U H Q ->
  (∀ s' ys' its' nn' σ' H',Inv X ((D,eu its' nn')::pins) σ' H' s'->Vals ys' its'->ys'.length<=sizeLine->Q ys' σ' H'->wpAny (model X.prog X.w) X.A fin Qf E s') ->
  wpAny (model X.prog X.w) X.A (je elt gens scope pos k (.ref D) X.env fin) Qf E s
def I0 (te:TE):TL:=fun ys U H Q=>te U H fun v H1=>ys.length < sizeLine/\Q (ys++[v]) U H1
def Ca (J:It)(g:TG)(tt:TT)(tr:TL)(ys0:List V)(σ0:St)(H1:Hp)(Q:List V->St->Hp->Prop):Prop :=
 ∃ W:Nat->Nat->List V->St->Hp->Prop,(∃ m,W 0 m ys0 σ0 H1)/\∀ i m ys U H,W i m ys U H ->
  (J.stop i H/\Q ys U H)\/(J.go i H/\∃ N:List V->St->Hp->Prop,(∀ ys' σ' H',N ys' σ' H'->∃ m',m' < m/\W (i + 1) m' ys' σ' H') /\
   ∀ x H',J.qR i H x H'->g x U H' fun σ2 H2=>tt σ2 H2 fun b H3=>if b=true then tr ys σ2 H3 N else N ys σ2 H3)
section
variable {X:Cx}{D:Addr}{elt tg iter:Expr}{gens:XF}{ifs:XY}{scope:Scope}{pos:Pos}{k:Nat}
def A9 (he:PE X elt te)(hk:gens[k]?=none:=by rfl):PL X D elt gens scope pos k (I0 te):=by
 intro hD hc hx pins s U H ys its nn Q fin Qf E hp I rv hz h hf;unfold je;rw [hk];refine R8 (R8 (Ss (he _ s U H _ I h) (fun y s8 ⟨yv,H8,I8,r8,hlt,n8⟩=>R8 ?_) fun e s' z=>(hx e s' z).elim))
 have pD:=I8.pin (D,eu its nn) (T5 _ RT);refine append_at (hsz:=by rw [SD,<- rv.length];exact hz) pD.1 fun h9 hs9 hD9=>R9 ?_
 have I8n:Inv X pins U H8 s8:=I8.kh fun p hp'=>I8.pin p (T5 _ (RY _ hp'))
 have I9:=I8n.turned (h':=h9) (t':=s8.toks) (it:=D) (fun b o hb e=>hs9.extBut b o hb e) pD.2.1 pD.2.2.1 (.inr hD) hc hp
 have e9:eu (its++[y]) (nn + 1)={ cls:=.type "list",data:=.seq (its.toArray.push y) (nn + 1) }:=by
  show ({ cls:=.type "list",data:=.seq (its++[y]).toArray (nn + 1) }:Obj)=_;rw [List.push_toArray]
 have I10:Inv X ((D,eu (its++[y]) (nn + 1))::pins) U H8 { s8 with heap:=h9 }:=by
  refine I9.kh fun p hp'=>?_
  rcases S2.mp hp' with rfl | hp'
  ·exact ⟨hD9.trans (congrArg some e9.symm),pD.2.1,pD.2.2.1,pD.2.2.2.1,fun v q=>by cases q⟩
  ·exact I9.pin p (T5 _ hp')
 exact hf _ (ys++[yv]) (its++[y]) (nn + 1) U H8 I10 (Vals.append rv (.cons r8 .nil)) (by rw [SJ];exact hlt) n8
end
section
variable {X:Cx}{scope:Scope}{vs:Xc}{NB:Xc}{ix:Xa}
def m7 (wi:TI) (n:Nat)(ix:Xa)(g:TG)(tt:TT)(tr:TL):TE:=fun U H Q=>wi U H fun J H1=>Ca J g tt tr [] (List.replicate n none++caps ix U) H1 fun ys _ H'=>∀ p,H' p=none->Q (.ref p) (upd H' p (.lst ys))
def sW {elt tg iter:Expr}{ifs:XY}{rest:XF}{pos:Pos}{g:TG}{tt:TT}{tr:TL}{J:It}{it:Addr}{tn:Nat->Heap->Prop}{fp:XW}{pins:XH}{U:St}{H2:Hp}{s2:Shared}{E:XE}{RR:Value->Addr->Result->Shared->Prop}{Qr:VK}(B:cM X scope vs NB ix)(hc:X.calm=true)
  (hg:∀ (C:Addr)(s:Shared)(H:Hp)(fp:XW),PG (X.block scope C NB s H fp) tg g)(ht:∀ (C:Addr)(s:Shared)(H:Hp)(fp:XW),pA (X.block scope C NB s H fp) ifs tt)
  (hr:∀ (C:Addr)(s:Shared)(H:Hp)(fp:XW)(D:Addr),PL (X.block scope C NB s H fp) D elt (⟨tg,iter,ifs,0⟩:: rest) scope pos 1 tr)
  (ha:∀ g∈rest,g.is_async=0)(I2:Inv X pins U H2 s2)(T:Turn X.prog X.w X.K tg J fp it tn)(st2:tn 0 s2.heap)(f2:∀ b∈fp,eS X pins H2 b)(h:Ca J g tt tr [] (List.replicate vs.length none++caps ix U) H2 fun ys _ H'=>∀ p,H' p=none->Qr (.ref p) (upd H' p (.lst ys)))
  (hRR:∀ (D C:Addr)(Hf:Hp)(s':Shared)(m':XG),Inv X pins U Hf s'->s'.heap.Ns C m'->eS X pins Hf C->Qr (.ref D) Hf->RR (.ref D) C (.ok .next) s') :
  wpAny (model X.prog X.w) X.A (newList []) (fun acc s3=>wpAny (model X.prog X.w) X.A (newFunctionEnv scope X.env.globals (b7 X.env.cells scope.names []) [] X.env.qual none .none (some X.env)) (fun cenv s4 =>
   codeAny (model X.prog X.w) X.A (.compStart (.ListComp elt (⟨tg,iter,ifs,0⟩:: rest) scope pos) 0 (.ref it) acc { cenv with scope:=relabel scope X.env }) (RR acc cenv.locals) s4) E s3) E s2:=by
 obtain ⟨W,⟨m0,w0⟩,turn⟩:=h;have ha':∀ g∈(⟨tg,iter,ifs,0⟩:Comprehension)::rest,g.is_async=0:=fun g hg=>by
  rcases S2.mp hg with rfl | hg
  ·rfl
  ·exact ha g hg
 refine T7 (wpAny_newFunctionEnv B.cell (by intro y hy;simp at hy) (fun h1 hns hsb=>?_) B.kind)
 dsimp only at hns hsb ⊢;generalize eG:s2.heap.push { cls:=.type "list",dict:=none,data:=.seq ([]:XU).toArray }=G at hns hsb ⊢;have hC:G.objs.size=s2.heap.objs.size + 1:=by rw [<- eG,UL]
 have hDC:s2.heap.objs.size≠G.objs.size:=by rw [hC];exact S8 (Ud _)
 have hCle:s2.heap.objs.size<=G.objs.size:=by rw [hC];exact UY _
 have old:∀ b o,s2.heap.get? b=some o->h1.get? b=some o:=fun b o e=>by
  have lt:=S3 e;exact hsb.extBut b o (S8 (SK lt hCle)) (S5 _ (eG ▸ S5 _ e))
 have hacc:h1.get? s2.heap.objs.size=some (eu [] 0):=hsb.extBut _ _ hDC (S5 _ (eG ▸ SY _ rfl));have ft:∀ b∈fp,b < s2.heap.objs.size:=fun b hb=>by
  obtain ⟨o,e,_⟩:=T.obj _ _ st2 b hb;exact S3 e
 have cD:∀ y c,(X.block scope G.objs.size NB s2 H2 fp).env.cells.lookup y=some c->c≠s2.heap.objs.size:=fun y c e z=>by
  obtain ⟨w,q⟩:=I2.cell y c (B.look I2 e);exact Sf _ (z ▸ q.lt)
 have loop:∀ s3:Shared,s3={ s2 with heap:=h1,toks:=s2.toks + ([]:List (Str×Value)).length } ->
   codeAny (model X.prog X.w) X.A (.compLoop (.ListComp elt (⟨tg,iter,ifs,0⟩:: rest) scope pos) 0 (.ref it) (.ref s2.heap.objs.size) (compEnvC scope (b7 X.env.cells scope.names []) G.objs.size X.env))
    (RR (.ref s2.heap.objs.size) G.objs.size) s3:=by
  rintro s3 rfl;have I3:=BS (tk:=s2.toks + ([]:List (Str×Value)).length) B I2 hCle (RW _) hDC f2 ft old hns hacc (fun v q=>by cases q)
  have st3:tn 0 h1:=T.keep _ _ _ st2 fun b _ o e=>old b o e
  have fy:∀ {H':Hp}{oD:Obj},(∀ b∈fp,H' b=none)->∀ b∈fp,eS (X.block scope G.objs.size NB s2 H2 fp) [(s2.heap.objs.size,oD)] H' b:=fun {H' oD} hn b hb=>by
   refine ⟨hn b hb,S8 (SK (ft b hb) hCle),fun z=>?_,.inl hb,fun y c e=>(f2 b hb).2.2.2.2.1 y c (B.look I2 e),fun p hp=>?_⟩
   ·rcases S2.mp (I2.jB b z) with e | e
    ·exact (f2 b hb).2.1 e
    ·exact (f2 b hb).2.2.1 e
   ·have e:p=(s2.heap.objs.size,oD):=by simpa [Cx.block] using hp
    subst e;exact Ne.symm (S8 (ft b hb))
  refine uy (k:=0) rfl ha' (fun n s'=>∃ i ys its nn σ' H',W i n ys σ' H'/\Inv (X.block scope G.objs.size NB s2 H2 fp) [(s2.heap.objs.size,eu its nn)] σ' H' s'/\tn i s'.heap/\(∀ b∈fp,H' b=none)/\Vals ys its/\ys.length<=sizeLine)
   ?_ m0 ⟨0,[],[],0,_,H2,w0,I3,st3,fun b hb=>(f2 b hb).1,.nil,Sd _⟩
  rintro n s' ⟨i,ys,its,nn,σ',H',w',I',st',fr',rv,hz⟩;rcases turn i n ys σ' H' w' with ⟨stop,q⟩ | ⟨go,Nx,hNx,step⟩
  ·refine Ss (T.done (X.block scope G.objs.size NB s2 H2 fp) rfl rfl rfl hc i _ s' _ H' (fun _ _=>False) I' (fy fr') st' stop) (fun r s4 ⟨hr',I4⟩=>?_) fun _ _ z=>z.elim
   subst hr';have I5:=EC I2 f2 (RW _) I4 rv hz;obtain ⟨m4,hn4,_⟩:=I4.loc;have hfree:H' s2.heap.objs.size=none:=(I4.pin (s2.heap.objs.size,eu its nn) (by show _∈[]++[(s2.heap.objs.size,eu its nn)];simp)).2.1
   have fC:eS X pins (upd H' s2.heap.objs.size (.lst ys)) G.objs.size:=I2.p9 hCle (by
    rw [ak (Ne.symm hDC)];exact I4.free)
   exact hRR _ _ _ s4 m4 I5 hn4 fC (q _ hfree)
  ·refine Ss (T.item (X.block scope G.objs.size NB s2 H2 fp) rfl rfl rfl hc i _ s' _ H' (fun _ _=>False) I' (fy fr') st' go) (fun r s4 ⟨u,hr',h4⟩=>?_) fun _ _ z=>z.elim
   subst hr';refine Ss h4 (fun _ s4 ⟨v,H5,I5,r5,y5,st5,fr5⟩=>?_) fun _ _ z=>z.elim
   have pIt:∀ b∈fp,∃ o,s4.heap.get? b=some o/\∀ v,o.data≠.cell v:=T.obj _ _ st5;have I5':=I5.pinned (fy fr5) pIt;refine Ss (hg _ _ _ _ _ s4 σ' H5 v u _ I5' r5 (step v H5 y5)) (fun _ s6 ⟨σ6,H6,I6,q6⟩=>?_) fun _ _ z=>z.elim
   refine Ss (ht _ _ _ _ _ s6 σ6 H6 _ I6 q6) (fun b s7 ⟨H7,I7,q7⟩=>?_) fun _ _ z=>z.elim
   have stays:∀ {s9:Shared}{H9:Hp}{σ9:St}{oD:Obj},Inv (X.block scope G.objs.size NB s2 H2 fp) ((s2.heap.objs.size,oD)::gE fp s4.heap) σ9 H9 s9->tn (i + 1) s9.heap/\(∀ b∈fp,H9 b=none)/\Inv (X.block scope G.objs.size NB s2 H2 fp) [(s2.heap.objs.size,oD)] σ9 H9 s9:=fun {s9 H9 σ9 oD} I9=>by
    refine ⟨T.keep _ _ _ st5 fun b hb o e=>(I9.pin (b,o) (T5 _ (RY _ (f9 hb e)))).1,fun b hb=>?_,I9.kh fun p hp'=>I9.pin p (T5 _ ?_)⟩
    ·obtain ⟨o,e,d⟩:=pIt b hb;exact (I9.pin (b,o) (T5 _ (RY _ (f9 hb e)))).2.1
    ·rw [RZ.mp hp'];exact RT
   cases b with
   | false =>
    rw [if_neg SQ] at q7 ⊢;obtain ⟨m',hm,w7⟩:=hNx _ _ _ q7;obtain ⟨g1,g2,g3⟩:=stays I7;exact ⟨m',hm,i + 1,ys,its,nn,σ6,H7,w7,g3,g1,g2,rv,hz⟩
   | true =>
    rw [if_pos rfl] at q7 ⊢;intro fin' Qf' hf';refine hr _ _ _ _ s2.heap.objs.size (RW _) cD (fun _ _ z=>z) (gE fp s4.heap) s7 σ6 H7 ys its nn Nx fin' Qf' _ (fun p hp'=>?_) I7 rv hz q7 fun s8 ys8 its8 nn8 σ8 H8 I8 rv8 hz8 n8=>?_
    ·have hp'':p∈gE fp s4.heap:=hp';exact S8 (ft _ (pM hp'').1)
    ·obtain ⟨m',hm,w8⟩:=hNx _ _ _ n8;obtain ⟨g1,g2,g3⟩:=stays I8;exact hf' s8 ⟨m',hm,i + 1,ys8,its8,nn8,σ8,H8,w8,g3,g1,g2,rv8,hz8⟩
 exact codeAny_compStart_list (loop _ rfl) (T.self _ 0 _ _ _ (T.keep _ _ _ st2 fun b _ o e=>old b o e) (loop _ rfl))
def Hu {elt tg iter:Expr}{ifs:XY}{rest:XF}{pos:Pos}{wi:TI}{g:TG}{tt:TT}{tr:TL}(B:cM X scope vs NB ix)(hc:X.calm=true)(hi:PI X tg iter wi)
  (hg:∀ (C:Addr)(s:Shared)(H:Hp)(fp:XW),PG (X.block scope C NB s H fp) tg g)(ht:∀ (C:Addr)(s:Shared)(H:Hp)(fp:XW),pA (X.block scope C NB s H fp) ifs tt)
  (hr:∀ (C:Addr)(s:Shared)(H:Hp)(fp:XW)(D:Addr),PL (X.block scope C NB s H fp) D elt (⟨tg,iter,ifs,0⟩:: rest) scope pos 1 tr)
  (ha:∀ g∈rest,g.is_async=0:=by decide)(hs:∀ v,foldedSetIterable iter X.env v=pure v:=by intro _;rfl):PE X (.ListComp elt (⟨tg,iter,ifs,0⟩:: rest) scope pos) (m7 wi vs.length ix g tt tr):=by
 intro pins s U H Q I h;rw [eval_ListComp];refine Wf (use:=none) rfl hs (B.clos I) B.kind B.names (aM (hi pins s U H _ I h) fun v s1 h1=>aM h1 fun itv s2 h2=>?_)
 obtain ⟨it,fp,tn,J,H2,e,I2,T,st2,f2,w⟩:=h2;subst e;refine sW (Qr:=Q) (RR:=fun acc C=>compPost (model X.prog X.w) X.A X.xe none (EP X pins U Q) acc C) B hc hg ht hr ha I2 T st2 f2 w fun D C Hf s' m' I' hn' fC q=>?_
 refine ⟨m',hn',fun h'' hs''=>⟨.ref D,Hf,?_,rfl,q⟩⟩
 obtain ⟨c0,c1,c2,c3,c4,c5⟩:=fC;exact I'.turned (it:=C) (t':=s'.toks) (fun b o hb e=>hs''.extBut b o hb e) c0 c1 c3 c4 c5
def yP {elt tg iter:Expr}{ifs:XY}{rest:XF}{pos py spos:Pos}{wi:TI}{g:TG}{tt:TT}{tr:TL}{j:Nat}{y:Str}(hN:X.N.Nodup)(hj:X.N[j]?=some y)(hy:X.env.scope.names.lookup y=some .local)(B:cM X scope vs NB ix)(hc:X.calm=true)(hi:PI X tg iter wi)
  (hg:∀ (C:Addr)(s:Shared)(H:Hp)(fp:XW),PG (X.block scope C NB s H fp) tg g)(ht:∀ (C:Addr)(s:Shared)(H:Hp)(fp:XW),pA (X.block scope C NB s H fp) ifs tt)
  (hr:∀ (C:Addr)(s:Shared)(H:Hp)(fp:XW)(D:Addr),PL (X.block scope C NB s H fp) D elt (⟨tg,iter,ifs,0⟩:: rest) scope pos 1 tr)
  (hsw:swapsWith (.ListComp elt (⟨tg,iter,ifs,0⟩:: rest) scope pos) (some (.Name y py)) spos.line X.env=pure true)
  (ha:∀ g∈rest,g.is_async=0:=by decide)(hs:∀ v,foldedSetIterable iter X.env v=pure v:=by intro _;rfl):PS X (.Assign [.Name y py] (.ListComp elt (⟨tg,iter,ifs,0⟩:: rest) scope pos) spos) (GN (m7 wi vs.length ix g tt tr) (qA j)):=by
 intro pins s U H Dn I h;rw [exec_Assign_Name_used _ _ _ _ hsw];refine R8 (VY (R8 ?_));show wpAny (model X.prog X.w) X.A (comprehension (.ListComp elt (⟨tg,iter,ifs,0⟩:: rest) scope pos) scope X.env _ (newList []) false (eval iter X.env) (some (assign (.Name y py) X.env)) >>= fun _=>pure ()) _ _ s
 refine R8 (aM (Wf (use:=some (assign (.Name y py) X.env)) (Q:=fun _ s'=>SP X pins Dn .next s') rfl hs (B.clos I) B.kind B.names (aM (hi pins s U H _ I h) fun v s1 h1=>aM h1 fun itv s2 h2=>?_)) fun _ s' q=>R9 (R9 q))
 obtain ⟨it,fp,tn,J,H2,e,I2,T,st2,f2,w⟩:=h2;subst e;refine sW (Qr:=fun x H1=>qA j x U H1 Dn.nx) (RR:=fun acc C=>compPost (model X.prog X.w) X.A X.xe (some (assign (.Name y py) X.env)) (fun _ s'=>SP X pins Dn .next s') acc C) B hc hg ht hr ha I2 T st2 f2 w fun D C Hf s' m' I' hn' fC q=>?_
 obtain ⟨c0,c1,c2,c3,c4,c5⟩:=fC;show wpAny (model X.prog X.w) X.A (assign (.Name y py) X.env (.ref D)) _ _ s';refine wpAny_assign_Name (we I' hN hj (.inl hy) (v:=.ref D) rfl (fun s'' I'' ⟨a,sb,ha⟩=>?_) (.inr hy))
 have hCa:C≠a:=by
  rcases ha with e | e
  ·rw [e];exact c1
  ·exact fun z=>c4 y a e z.symm
 refine ⟨m',hn'.sameBut sb hCa,fun h3 hs3=>⟨_,Hf,?_,q⟩⟩
 exact I''.turned (it:=C) (t':=s''.toks) (fun b o hb e=>hs3.extBut b o hb e) c0 c1 c3 c4 c5
end
end L2
namespace Dv
open PySem L2 PySem.W
section
variable {X:Cx}{Ex:XK}{Y:Xa}{tg:Expr}
def HL {a:Addr}(h:cg K eY a xs)(r:aA K eY xs ds):wz K (IW K a) ds eY:=by
 intro i H Hm s1 s2;have q:bF K H a xs:=(cg.mono (s1.trans s2) h).sq;refine ⟨fun d e=>?_,fun l=>⟨xs,q,by rw [r.len];exact l⟩⟩
 obtain ⟨v,e1,r1⟩:=r.get e;refine ⟨⟨xs,v,q,e1⟩,fun x H' y=>?_⟩
 obtain ⟨rfl,y⟩:=y;have:=y xs q;rw [e1] at this;cases this;exact ⟨Hm,ai.refl _,s2,ai.refl _,fun _ _=>.inl rfl,r1.mono s1⟩
def Kg {a:Addr}(h:eY a=some (.tup xs))(r:aA K eY xs ds):wz K (Jv K a) ds eY:=by
 intro i H Hm s1 s2;have q:cJ K H a xs:=cJ.of (s2 _ _ (s1 _ _ h));refine ⟨fun d e=>?_,fun l=>⟨xs,q,by rw [r.len];exact l⟩⟩
 obtain ⟨v,e1,r1⟩:=r.get e;refine ⟨⟨xs,v,q,e1⟩,fun x H' y=>?_⟩
 obtain ⟨rfl,y⟩:=y;have:=y xs q;rw [e1] at this;cases this;exact ⟨Hm,ai.refl _,s2,ai.refl _,fun _ _=>.inl rfl,r1.mono s1⟩
def JZ {lo:Int}{n i:Nat}(h:(jZ lo n)[i]?=some d):i < n/\d=.int (lo + i):=by
 unfold jZ at h;rw [S7] at h
 by_cases c:i < n
 ·rw [Sv c] at h;cases h;exact ⟨c,rfl⟩
 ·rw [Sn (by rw [SA];lia)] at h
  cases h
def AD {lo:Int}{n:Nat}:wz K (Dl lo n) (jZ lo n) eY:=by
 intro i H Hm s1 s2;refine ⟨fun d e=>?_,fun l=>?_⟩
 ·obtain ⟨l,rfl⟩:=JZ e;refine ⟨l,fun x H' y=>?_⟩
  obtain ⟨rfl,rfl⟩:=y;exact ⟨Hm,ai.refl _,s2,ai.refl _,fun _ _=>.inl rfl,.int _⟩
 ·unfold jZ at l;rw [RX,SA] at l;exact l
def xK {T:Addr}(s:ai Hm H)(hT:H T=none)(r1:Rp K Hm x a)(r2:Rp K Hm y b):∃ Hm',ai Hm Hm'/\ai Hm' (upd H T (.tup [x,y]))/\ai H (upd H T (.tup [x,y]))/\(∀ a,H a≠none->OE (Hm' a) (Hm a))/\Rp K Hm' (.ref T) (.tuple [a,b]):=by
 have n:=jt s hT;have s2:=cj (o:=.tup [x,y]) n;refine ⟨upd Hm T (.tup [x,y]),s2,fun b o e=>?_,cj hT,fun a ha=>.inl (ak fun z=>ha (z ▸ hT)),.tup aH (.cons (r1.mono s2) (.cons (r2.mono s2) .nil))⟩
 by_cases c:b=T
 ·rw [c,aH] at e ⊢;exact e
 ·rw [ak c] at e ⊢;exact s _ _ e
def Fi {i:Nat}(h:(ju ds)[i]?=some d):∃ e,ds[i]?=some e/\d=.tuple [.int i,e]:=by
 unfold ju at h;rw [S7,List.getElem?_zipIdx] at h;cases e:ds[i]? with
 | none=>rw [e] at h;cases h
 | some a =>
  rw [e] at h;simp at h;exact ⟨a,rfl,h.symm⟩
def EJ (ds:XS):(ju ds).length=ds.length:=by unfold ju;rw [RX,List.length_zipIdx]
def GA {a:Addr}(h:cg K eY a xs)(r:aA K eY xs ds):wz K (LO K a) (ju ds) eY:=by
 intro i H Hm s1 s2;have q:bF K H a xs:=(cg.mono (s1.trans s2) h).sq;refine ⟨fun d e=>?_,fun l=>⟨xs,q,by rw [r.len,<- EJ];exact l⟩⟩
 obtain ⟨d0,e0,rfl⟩:=Fi e;obtain ⟨v,e1,r1⟩:=r.get e0;refine ⟨⟨xs,v,q,e1⟩,fun x H' y=>?_⟩
 obtain ⟨T,hT,rfl,y⟩:=y;obtain ⟨x',e2,rfl⟩:=y xs q;rw [e1] at e2;cases e2;exact xK s2 hT (.int _) (r1.mono s1)
open PyProof.Rows in
def Ke {a:Addr}(I:Inv X pins U H s)(hq:bF X.K H a xs)(q:R (IW X.K a) H):wpAny (model X.prog X.w) X.A (pyIter (.ref a)) (IJ X pins U tg R) E s:=by
 obtain ⟨its,rv,p,hz⟩:=I.list hq;refine WO p.isList ?_;refine ⟨s.heap.objs.size,[s.heap.objs.size],_,_,H,rfl,I.kept (t':=s.toks) fun b o e=>S5 _ e,EV a _,⟨_,SY _ rfl,rfl,rfl⟩,fun b hb=>?_,q⟩
 have e:b=s.heap.objs.size:=by simpa using hb
 subst e;exact I.p9 (RW _) (I.hok.fresh (RW _))
open PyProof.Rows in
def LH {a:Addr}(I:Inv X pins U H s)(hq:cJ X.K H a xs)(q:R (Jv X.K a) H):wpAny (model X.prog X.w) X.A (pyIter (.ref a)) (IJ X pins U tg R) E s:=by
 obtain ⟨its,rv,p,hz⟩:=I.tuple hq;refine wpAny_pyIter_tuple (show s.heap.IsTuple a its.toArray from p) ?_
 refine ⟨s.heap.objs.size,[s.heap.objs.size],_,_,H,rfl,I.kept (t':=s.toks) fun b o e=>S5 _ e,Cf a _,⟨_,SY _ rfl,rfl,rfl⟩,fun b hb=>?_,q⟩
 have e:b=s.heap.objs.size:=by simpa using hb
 subst e;exact I.p9 (RW _) (I.hok.fresh (RW _))
def fM (h:SE X Ex Y e d):SI X Ex Y tg e (iE d):=by
 rw [OS];refine ⟨fun U H R=>WE X e U H fun x H1=>(∃ a,x=.ref a/\(∃ xs,bF X.K H1 a xs)/\R (IW X.K a) H1)\/∃ a,x=.ref a/\(∃ xs,cJ X.K H1 a xs)/\R (Jv X.K a) H1,?_,?_⟩
 ·intro pins s U H R I h;refine aM (h pins s I) fun v s1 ⟨x,H1,I1,r1,q1⟩=>?_
  rcases q1 with ⟨a,rfl,⟨xs,hq⟩,q⟩ | ⟨a,rfl,⟨xs,hq⟩,q⟩
  ·cases r1;exact Ke I1 hq q
  ·cases r1;exact LH I1 hq q
 ·intro g x E U H Hm F P R hx Rl p q;refine h g x E U H Hm F _ _ hx Rl p fun E' k v u H' Hm' F' fp p' R' s' T=>?_
  obtain ⟨hk,ds,e1,p'⟩:=p';obtain ⟨Hm2,s2,R2,r2⟩:=T.cE R' hk;cases r2 with
  | lst a r =>
   cases e1;exact .inl ⟨_,rfl,⟨_,(cg.mono R2.sub a).sq⟩,q _ _ _ _ _ _ p' R2 (s'.trans s2) (HL a r)⟩
  | tup a r =>
   cases e1;exact .inr ⟨_,rfl,⟨_,cJ.of (R2.sub _ _ a)⟩,q _ _ _ _ _ _ p' R2 (s'.trans s2) (Kg a r)⟩
  | _=>cases e1
def pG:XS->Option (XS)
 | [.int j]=>@ite _ (-(2 ^ 62)<=j/\j < 2 ^ 62) (Classical.propDecidable _) (some (jZ 0 j.toNat)) none
 | _=>none
def Dp:XS->Option (XS)
 | [.int i,.int j]=>@ite _ (-(2 ^ 62)<=i/\i < 2 ^ 62/\-(2 ^ 62)<=j/\j < 2 ^ 62) (Classical.propDecidable _) (some (jZ i (j - i).toNat)) none
 | _=>none
def zh {g:Gh}{U:St}{E:En}{H Hm:Hp}{F:Nat->XW}{as:List Arg}{os:Xe}{vs:List V}{ds:XS}{K:Frag}(R:Rl K g E U H Hm F)(G:Got K U Hm as os vs)(h:fill as E os=some ds):aA K H vs ds:=vm R R.sub G h fun _ _ _ _=>rfl
def P5 (hg:Gl X "range")(hm:X.mg "range"=none)(ns:noStar a=true)(S:aS X Ex Y [a] as):SI X Ex Y tg (.Call (.Name "range" p) [a] [] pos) (nh pG as):=by
 refine ⟨_,Fb hg hm (d7 (es:=[a]) (by rw [SG,ns];rfl)) (bx ns),fun g x E U H Hm F P R hx Rl p q=>?_⟩
 refine m8 hx S Rl p fun E1 os vs H1 Hm1 F1 p1 R1 s1 G=>?_
 replace p1:aL (c7 as E1 os) _:=p1
 rw [<- bI,fP] at p1;obtain ⟨ds,hf,p1⟩:=p1;rw [<- bI] at p1;obtain ⟨xs,hg',p1⟩:=p1;have r:=zh R1 G hf;unfold pG at hg';split at hg'
 ·rename_i j;obtain ⟨v,rfl,r1⟩:=dM r;cases r1;split at hg'
  ·rename_i c;cases hg';exact ⟨j,rfl,c.1,c.2,q _ _ _ _ _ _ p1 R1 s1 AD⟩
  ·cases hg'
 ·cases hg'
def OP (hg:Gl X "range")(hm:X.mg "range"=none)(ns:noStar a=true)(ns2:noStar b=true)(S:aS X Ex Y [a,b] as):SI X Ex Y tg (.Call (.Name "range" p) [a,b] [] pos) (nh Dp as):=by
 refine ⟨_,Gj hg hm (d7 (es:=[a,b]) (by rw [SG,SG,ns,ns2];rfl)) ((bx ns).trans (by rw [bx ns2];rfl)) (bx ns2),fun g x E U H Hm F P R hx Rl p q=>?_⟩
 refine m8 hx S Rl p fun E1 os vs H1 Hm1 F1 p1 R1 s1 G=>?_
 replace p1:aL (c7 as E1 os) _:=p1
 rw [<- bI,fP] at p1;obtain ⟨ds,hf,p1⟩:=p1;rw [<- bI] at p1;obtain ⟨xs,hg',p1⟩:=p1;have r:=zh R1 G hf;unfold Dp at hg';split at hg'
 ·rename_i i j;obtain ⟨v,w,rfl,r1,r2⟩:=cL r;cases r1;cases r2;split at hg'
  ·rename_i c;cases hg';exact ⟨i,j,rfl,c,q _ _ _ _ _ _ p1 R1 s1 AD⟩
  ·cases hg'
 ·cases hg'
def Pe {x1:Nat}(hg:Gl X "enumerate")(hm:X.mg "enumerate"=none)(ns:noStar e=true)(h:SE X Ex Y e d):SI X Ex Y (.Tuple elts x1 tp) (.Call (.Name "enumerate" p) [e] [] pos) (xD d):=by
 rw [MY];refine ⟨_,KA hg hm (d7 (es:=[e]) (by rw [SG,ns];rfl)) (bx ns),fun g x E U H Hm F P R hx Rl p q=>?_⟩
 refine h g x E U H Hm F _ _ hx Rl p fun E' k v u H' Hm' F' fp p' R' s' T=>?_
 obtain ⟨hk,ds,rfl,p'⟩:=p';obtain ⟨Hm2,s2,R2,r2⟩:=T.cE R' hk;obtain ⟨a,xs,rfl,ha,r⟩:=fJ r2;exact ⟨a,rfl,⟨xs,(cg.mono R2.sub ha).sq⟩,q _ _ _ _ _ _ p' R2 (s'.trans s2) (GA ha r)⟩
def GD {ds es:XS}{i:Nat}(h:((ds.zip es).map fun p=>PyData.tuple [p.1,p.2])[i]?=some d):∃ a b,ds[i]?=some a/\es[i]?=some b/\d=.tuple [a,b]:=by
 rw [S7] at h;cases e:(ds.zip es)[i]? with
 | none=>rw [e] at h;cases h
 | some p =>
  rw [e] at h;cases h;obtain ⟨h1,h2⟩:=List.getElem?_zip_eq_some.mp e;exact ⟨_,_,h1,h2,rfl⟩
def JV {a b:Addr}{ds:XS}(h:cg K eY a xs)(h2:cg K eY b ys)(r:aA K eY xs ds)(r2:aA K eY ys es):wz K (Nb K a b) ((ds.zip es).map fun p=>.tuple [p.1,p.2]) eY:=by
 intro i H Hm s1 s2;have q:bF K H a xs:=(cg.mono (s1.trans s2) h).sq;have q2:bF K H b ys:=(cg.mono (s1.trans s2) h2).sq;refine ⟨fun d e=>?_,fun l=>⟨xs,ys,q,q2,?_⟩⟩
 ·obtain ⟨d1,d2,e1,e2,rfl⟩:=GD e;obtain ⟨v1,f1,g1⟩:=r.get e1;obtain ⟨v2,f2,g2⟩:=r2.get e2;refine ⟨⟨xs,ys,v1,v2,q,q2,f1,f2⟩,fun x H' y=>?_⟩
  obtain ⟨T,hT,rfl,y⟩:=y;obtain ⟨x1,z1,hx,hz2,rfl⟩:=y xs ys q q2;rw [f1] at hx;cases hx;rw [f2] at hz2;cases hz2;exact xK s2 hT (g1.mono s1) (g2.mono s1)
 ·rw [RX,List.length_zip] at l;have:=r.len;have:=r2.len;lia
def PD {x1:Nat}(hg:Gl X "zip")(hm:X.mg "zip"=none)(ns:noStar e1=true)(ns2:noStar e2=true)(h1:SE X Ex Y e1 d1)(h2:SE X Ex Y e2 d2):SI X Ex Y (.Tuple elts x1 tp) (.Call (.Name "zip" p) [e1,e2] [] pos) (Jl d1 d2):=by
 refine ⟨_,Nm hg hm (d7 (es:=[e1,e2]) (by rw [SG,SG,ns,ns2];rfl)) ((bx ns).trans (by rw [bx ns2];rfl)) (bx ns2),fun g x E U H Hm F P R hx Rl p q=>?_⟩
 refine h1 g x E U H Hm F _ _ hx Rl p fun E1 k v u H1 Hm1 F1 fp p1 R1 s1 T=>?_
 replace p1:bK k.fz _:=p1
 rw [dU] at p1;obtain ⟨hk,p1⟩:=p1;obtain ⟨Hm2,s2,R2,r2⟩:=T.cE R1 hk;refine h2 g x E1 U H1 Hm2 F1 _ _ hx R2 p1 fun E3 k3 v3 u3 H3 Hm3 F3 fp3 p3 R3 s3 T3=>?_
 replace p3:bK k3.fz _:=p3
 rw [dU,<- CW] at p3;obtain ⟨hk3,ds,rfl,p3⟩:=p3;rw [<- CW] at p3;obtain ⟨es,rfl,p3⟩:=p3;obtain ⟨Hm4,s4,R4,r4⟩:=T3.cE R3 hk3;have r2':=r2.mono (s3.trans s4);obtain ⟨a,xs,rfl,ha,ra⟩:=fJ r2';obtain ⟨b,ys,rfl,hb,rb⟩:=fJ r4;exact ⟨a,b,rfl,⟨xs,(cg.mono R4.sub ha).sq⟩,⟨ys,(cg.mono R4.sub hb).sq⟩,q _ _ _ _ _ _ p3 R4 (s1.trans (s2.trans (s3.trans s4))) (JV ha hb ra rb)⟩
end
def WG (X:Cx)(tg:Expr):TG:=fun v U H Q=>∀ (pins:XH)(s:Shared)(u:Value),Inv X pins U H s->RelV v u->wpAny (model X.prog X.w) X.A (assign tg X.env u) (fun _ s'=>∃ σ' H',Inv X pins σ' H' s'/\Q σ' H') X.xe s
def WG.of (h:PG X tg t)(q:t v U H Q):WG X tg v U H Q:=fun pins s u I r=>h pins s U H v u Q I r q
def vK (X:Cx)(ifs:XY):TT:=fun U H Q=>∀ (pins:XH)(s:Shared),Inv X pins U H s->wpAny (model X.prog X.w) X.A (forIn ifs true fun c r=>if r=true then do let ok <- isTrue c X.env (eval c X.env);pure (ForInStep.yield ok) else pure (ForInStep.yield r)) (TP X pins U Q) X.xe s
def vK.of (h:pA X ifs t)(q:t U H Q):vK X ifs U H Q:=fun pins s I=>h pins s U H Q I q
def WL (X:Cx)(D:Addr)(elt:Expr)(gens:XF)(scope:Scope)(pos:Pos) (k:Nat):TL:=fun ys U H Q =>
 X.s₀.heap.objs.size<=D->(∀ y c,X.env.cells.lookup y=some c->c≠D)->(∀ e s',X.xe e s'->False) ->
 ∀ (pins:XH)(s:Shared)(its:XU) (nn:Nat)(fin:Sem Fin)(Qf:Fin->Shared->Prop)(E:XE),
  (∀ p∈X.pn++pins,p.1≠D)->Inv X ((D,eu its nn)::pins) U H s->Vals ys its->ys.length<=sizeLine ->
  (∀ s' ys' its' nn' σ' H',Inv X ((D,eu its' nn')::pins) σ' H' s'->Vals ys' its'->ys'.length<=sizeLine->Q ys' σ' H'->wpAny (model X.prog X.w) X.A fin Qf E s') ->
  wpAny (model X.prog X.w) X.A (je elt gens scope pos k (.ref D) X.env fin) Qf E s
def WL.of {D:Addr}{k:Nat}(h:PL X D elt gens scope pos k t)(q:t ys U H Q):WL X D elt gens scope pos k ys U H Q:=fun h1 h2 h3 pins s its nn fin Qf E hp I rv hz hf=>h h1 h2 h3 pins s U H ys its nn Q fin Qf E hp I rv hz q hf
def Agree (cs:Xa)(U σ':St):Prop:=U.length=σ'.length/\∀ j,j∉cs->σ'[j]?=U[j]?
def Agree.refl (cs:Xa)(U:St):Agree cs U U:=⟨rfl,fun _ _=>rfl⟩
theorem Agree.trans (h:Agree cs a b)(k:Agree cs b c):Agree cs a c:=⟨h.1.trans k.1,fun j hj=>(k.2 j hj).trans (h.2 j hj)⟩
theorem Agree.symm (h:Agree cs a b):Agree cs b a:=⟨h.1.symm,fun j hj=>(h.2 j hj).symm⟩
section
variable {K:Frag}{g:Gh}{E E0:En}{U σ':St}{H Hm:Hp}{F:Nat->XW}
def Rl.O0 (R:Rl K g E U H Hm F){i:Nat}(o:bZ E i=true)(v:Option V):Rl K g (E.set i none) (U.set i v) H Hm (fun j=>if j=i then [] else F j) where
 len:=by rw [Sw,Sw];exact R.len
 sub:=R.sub
 slot:=fun j k' d' e'=>by
  by_cases c:j=i
  ·subst c;rw [aK (jq o)] at e';cases e'
  ·rw [ao (Ne.symm c)] at e';obtain ⟨u,g1,g2⟩:=R.slot j k' d' e';exact ⟨u,by rw [ao (Ne.symm c)];exact g1,by rw [if_neg c];exact g2⟩
 off:=fun j a ha=>by
  by_cases c:j=i
  ·rw [if_pos c] at ha;cases ha
  ·rw [if_neg c] at ha;exact R.off j a ha
 bJ:=fun j a ha=>by
  by_cases c:j=i
  ·rw [if_pos c] at ha;cases ha
  ·rw [if_neg c] at ha;exact R.bJ j a ha
 aQ:=fun j l a g1 g2=>by
  by_cases c:j=i
  ·rw [if_pos c] at g1;cases g1
  ·rw [if_neg c] at g1
   by_cases c':l=i
   ·rw [if_pos c'] at g2;cases g2
   ·rw [if_neg c'] at g2;exact R.aQ j l a g1 g2
 fr:=R.fr
 new:=fun j a ha=>by
  by_cases c:j=i
  ·rw [if_pos c] at ha;cases ha
  ·rw [if_neg c] at ha;exact R.new j a ha
 pin:=fun q hq=>by
  obtain ⟨g1,ds',g2⟩:=R.pin q hq;have c:i≠q.1:=fun z=>by
   unfold bZ at o;rw [z,g2] at o;cases o
  exact ⟨by rw [ao c];exact g1,ds',by rw [ao c];exact g2⟩
 old:=R.old
theorem Rl.bC:∀ {cs:Xa}{E E0:En}{U:St}{F:Nat->XW},Rl K g E U H Hm F->Dv.bC cs E=some E0->∃ σ' F',Rl K g E0 σ' H Hm F'/\Agree cs U σ'/\(∀ c∈cs,σ'[c]?=some none/\E0[c]?=some none)
 | [],E,E0,U,F,R,h=>by
  cases h;exact ⟨U,F,R,Agree.refl _ _,fun _ z=>by cases z⟩
 | c::cs,E,E0,U,F,R,h=>by
  rw [Dv.bC] at h
  by_cases o:bZ E c=true
  ·rw [if_pos o] at h;have R1:=R.O0 o none;obtain ⟨σ',F',R',a,n⟩:=Rl.bC (cs:=cs) R1 h;have lc:=jq o;have keep:∀ {l:Xa}{E E0:En},Dv.bC l E=some E0->∀ j,j∉l->E0[j]?=E[j]?:=by
    intro l
    induction l with
    | nil=>intro E E0 h j _;cases h;rfl
    | cons i l ih =>
     intro E E0 h j hj;rw [Dv.bC] at h
     by_cases o:bZ E i=true
     ·rw [if_pos o] at h;have ne:i≠j:=fun z=>hj (z ▸ RT)
      exact (ih h j fun z=>hj (RY _ z)).trans (ao ne)
     ·rw [if_neg o] at h;cases h
   refine ⟨σ',F',R',⟨by rw [<- a.1,Sw],fun j hj=>?_⟩,fun d hd=>?_⟩
   ·have ne:c≠j:=fun z=>hj (z ▸ RT)
    exact (a.2 j fun z=>hj (RY _ z)).trans (ao ne)
   ·by_cases m:d∈cs
    ·exact n d m
    ·have e:d=c:=(S2.mp hd).resolve_right m;subst e;exact ⟨(a.2 d m).trans (aK (R.len ▸ lc)),(keep h d m).trans (aK lc)⟩
  ·rw [if_neg o] at h;cases h
def Rl.agree (R:Rl K g E U H Hm F)(a:Agree cs U σ')(n:∀ c∈cs,E[c]?=some none):Rl K g E σ' H Hm F where
 len:=R.len.trans a.1
 sub:=R.sub
 slot:=fun j k d e=>by
  obtain ⟨v,h1,h2⟩:=R.slot j k d e;refine ⟨v,?_,h2⟩;rw [a.2 j fun z=>by rw [n j z] at e;cases e]
  exact h1
 off:=R.off
 bJ:=R.bJ
 aQ:=R.aQ
 fr:=R.fr
 new:=R.new
 pin:=fun q hq=>by
  obtain ⟨g1,ds',g2⟩:=R.pin q hq;refine ⟨?_,ds',g2⟩;rw [a.2 q.1 fun z=>by rw [n q.1 z] at g2;cases g2]
  exact g1
 old:=R.old
end
inductive iR (X:Cx)(Ex:XK)(Y:Xa):XY->DT->Prop
 | nil:iR X Ex Y [] fZ
 | one {e:Expr}{t:DT}:ST X Ex Y e t->iR X Ex Y [e] t
def iR.ok (h:iR X Ex Y ifs t){F:Nat->XW}(hx:XL X Ex x g)(R:Rl X.K g E U H Hm F)(p:t x E P)
  (q:∀ E' b H' Hm' F',P E' b->Rl X.K g E' U H' Hm' F'->ai Hm Hm'->Q b H'):vK X ifs (sel Y U) H Q:=by
 cases h with
 | nil=>exact vK.of J7 (q _ _ _ _ _ p R (ai.refl _))
 | one h=>exact vK.of (Lk jA) (h g x E U H Hm F P Q hx R p q)
def SL (X:Cx)(Y cs:Xa)(D:Addr)(elt:Expr)(gens:XF)(scope:Scope)(pos:Pos) (k:Nat)(dc:DC):Prop :=
 ∀ (g:Gh)(E:En)(U:St)(H Hm:Hp)(F:Nat->XW)(ys:List V)(dys:XS)(P:XS->En->Prop)(Q:List V->St->Hp->Prop),Rl X.K g E U H Hm F->aA X.K Hm ys dys->dc xF dys E P ->
  (∀ E' dys' ys' σ' H' Hm' F',P dys' E'->Rl X.K g E' σ' H' Hm' F'->ai Hm Hm'->aA X.K Hm' ys' dys'->Agree cs U σ'->Q ys' (sel Y σ') H')->WL X D elt gens scope pos k ys (sel Y U) H Q
section
variable {X:Cx}{Ex:XK}{Y cs:Xa}{D:Addr}{elt tg iter:Expr}{ifs:XY}{gens:XF}{scope:Scope}{pos:Pos}{k:Nat}
def Ld (h:SE X Ex Y elt d)(hk:gens[k]?=none):SL X Y cs D elt gens scope pos k (cA sizeLine d):=by
 intro g E U H Hm F ys dys P Q R r p q;refine WL.of (A9 bg hk) (h g xF E U H Hm F _ _ XL.no R p fun E1 k1 v u H1 Hm1 F1 fp p1 R1 s1 T=>?_)
 obtain ⟨hk,hl,p1⟩:=p1;obtain ⟨Hm2,s2,R2,r2⟩:=T.cE R1 hk;exact ⟨by rw [r.len];exact hl,q _ _ _ _ _ _ _ p1 R2 (s1.trans s2) ((r.mono (s1.trans s2)).snoc r2) (Agree.refl _ _)⟩
def yq {xs:XS}{t:Tg}{c:DT}{r:DC}{G:TG}{tt:TT}{tr:TL}{I:Nat->XS->En->Prop}{U:St}{F1:Nat->XW}{Q:List V->St->Hp->Prop}
  (hts:∀ i∈t.slots,i∈cs)(it1:wz K J xs Hm1)(R1:Rl K g E1 U H1 Hm1 F1)(r0:aA K Hm1 ys dys)(i0:I 0 dys E1)
  (hG:∀ {d:PyData}{v:V}{E E2:En}{U:St}{H Hm:Hp}{F:Nat->XW}{Q:St->Hp->Prop},cP t d E=some E2->Rp K Hm v d->Rl K g E U H Hm F->(∀ σ' F',Rl K g E2 σ' H Hm F'->(∀ j,j∉t.slots->σ'[j]?=U[j]?)->Q (sel Y σ') H)->G v (sel Y U) H Q)
  (hT:∀ {E:En}{U:St}{H Hm:Hp}{F:Nat->XW}{P:Xh}{Q:Bool->Hp->Prop},Rl K g E U H Hm F->c xF E P->(∀ E' b H' Hm' F',P E' b->Rl K g E' U H' Hm' F'->ai Hm Hm'->Q b H')->tt (sel Y U) H Q)
  (hR:∀ {E:En}{U:St}{H Hm:Hp}{F:Nat->XW}{ys:List V}{dys:XS}{P:XS->En->Prop}{Q:List V->St->Hp->Prop},Rl K g E U H Hm F->aA K Hm ys dys->r xF dys E P->(∀ E' dys' ys' σ' H' Hm' F',P dys' E'->Rl K g E' σ' H' Hm' F'->ai Hm Hm'->aA K Hm' ys' dys'->Agree cs U σ'->Q ys' (sel Y σ') H')->tr ys (sel Y U) H Q)
  (step:∀ i d ys E,xs[i]?=some d->I i ys E->∃ E2,cP t d E=some E2/\c xF E2 fun E3 b=>if b=true then r xF ys E3 (I (i + 1)) else I (i + 1) ys E3)
  (fin:∀ E' dys' ys' σ' H' Hm' F',I xs.length dys' E'->Rl K g E' σ' H' Hm' F'->ai Hm1 Hm'->aA K Hm' ys' dys'->Agree cs U σ'->Q ys' (sel Y σ') H'):Ca J G tt tr ys (sel Y U) H1 Q:=by
 refine ⟨fun i m ys τ H'=>m=xs.length - i/\i<=xs.length/\∃ E' dys' σ' Hm' F',I i dys' E'/\Rl K g E' σ' H' Hm' F'/\ai Hm1 Hm'/\aA K Hm' ys dys'/\Agree cs U σ'/\τ=sel Y σ',⟨xs.length,by simp,Sd _,E1,dys,U,Hm1,F1,i0,R1,ai.refl _,r0,Agree.refl _ _,rfl⟩,?_⟩
 rintro i m ys τ H2 ⟨rfl,hi,E2,dys2,σ2,Hm2,F2,i2,R2,s2,r2,a2,rfl⟩;obtain ⟨go,stop⟩:=it1 i H2 Hm2 s2 R2.sub
 by_cases c':i < xs.length
 ·obtain ⟨go,qR⟩:=go xs[i] (S9 c');refine .inr ⟨go,fun ys τ H'=>i + 1<=xs.length/\∃ E' dys' σ' Hm' F',I (i + 1) dys' E'/\Rl K g E' σ' H' Hm' F'/\ai Hm1 Hm'/\aA K Hm' ys dys'/\Agree cs U σ'/\τ=sel Y σ',fun ys τ H' z=>⟨xs.length - (i + 1),by lia,rfl,z⟩,fun x H3 y=>?_⟩
  obtain ⟨Hm3,t1,t2,t3,old,rx⟩:=qR x H3 y;have R3:=R2.turn t1 t2 t3 old;obtain ⟨E4,e4,p4⟩:=step i xs[i] dys2 E2 (S9 c') i2;refine hG e4 rx R3 fun σ4 F4 R4 ag=>?_
  have a4:Agree cs U σ4:=a2.trans ⟨by rw [<- R3.len,<- R4.len];exact (show E2.length=E4.length from R3.len.trans (by
   have h1:=R3.len;have h2:=R4.len;have:E4.length=E2.length:=by
    have go:∀ {is:Xa}{ds:XS}{E E':En},bS is ds E=some E'->E'.length=E.length:=by
     intro is
     induction is with
     | nil=>intro ds E E' h;cases ds with | nil=>cases h;rfl | cons _ _=>cases h
     | cons j is ih =>
      intro ds E E' h;cases ds with
      | nil=>cases h
      | cons d ds =>
       rw [bS] at h
       by_cases o:bZ E j=true
       ·rw [if_pos o] at h;rw [ih h,Sw]
       ·rw [if_neg o] at h;cases h
    cases t with
    | nm j=>exact go (is:=[j]) e4
    | tp js =>
     cases hd:xs[i] with
     | tuple ds=>rw [hd] at e4;exact go (is:=js) e4
     | _=>rw [hd] at e4;cases e4
   lia)),fun j hj=>ag j fun z=>hj (hts j z)⟩
  refine hT R4 p4 fun E5 b H5 Hm5 F5 p5 R5 s5=>?_
  cases b with
  | true =>
   refine pZ (hR R5 (r2.mono (t1.trans s5)) (by simpa using p5) fun E6 dys6 ys6 σ6 H6 Hm6 F6 p6 R6 s6 r6 a6=>?_)
   exact ⟨c',E6,dys6,σ6,Hm6,F6,p6,R6,s2.trans (t1.trans (s5.trans s6)),r6,a4.trans a6,rfl⟩
  | false=>exact p7 ⟨c',E5,dys2,σ4,Hm5,F5,by simpa using p5,R5,s2.trans (t1.trans s5),r2.mono (t1.trans s5),a4,rfl⟩
 ·have e:i=xs.length:=by lia
  subst e;exact .inl ⟨stop (RW _),fin _ _ _ _ _ _ _ i2 R2 s2 r2 a2⟩
def GG:caps ix (sel Y U)=ix.map fun i=>(((Y[i]?).map fun m=>(U[m]?).join)).join:=by
 unfold caps sel;refine Tn fun i _=>?_
 rw [S7]
def bH (Y cs ix:Xa):Xa:=cs++ix.map fun i=>(Y[i]?).getD 0
def uZ (hix:∀ i∈ix,i < Y.length)(aQ:∀ c∈cs,c∉Y)(a:Agree cs U σ0)(n:∀ c∈cs,σ0[c]?=some none):List.replicate cs.length none++caps ix (sel Y U)=sel (bH Y cs ix) σ0:=by
 unfold bH;rw [GG];unfold sel;rw [Sg,SX];congr 1
 ·refine (List.eq_replicate_iff.mpr ⟨RX ..,fun x hx=>?_⟩).symm
  obtain ⟨c,hc,rfl⟩:=S0.mp hx;rw [n c hc];rfl
 ·refine Tn fun i hi=>?_
  have l:=hix i hi;show ((Y[i]?).map fun m=>(U[m]?).join).join=(σ0[(Y[i]?).getD 0]?).join
  rw [S9 l];show (U[Y[i]]?).join=(σ0[Y[i]]?).join;rw [a.2 Y[i] fun z=>aQ _ z (U9 l)]
def A4 {rest:XF}{vs NB:Xc}{ix:Xa}{di:DI}{t:Tg}{c:DT}{r:DC}(B:cM X scope vs NB ix)(hc:X.calm=true)(hcs:cs.length=vs.length)(hix:∀ i∈ix,i < Y.length)(aQ:∀ c∈cs,c∉Y)(nd:(bH Y cs ix).Nodup)
  (hi:SI X Ex Y tg iter di)(ht:∀ (C:Addr)(s:Shared)(H:Hp)(fp:XW),fK (X.block scope C NB s H fp) (bH Y cs ix) tg t)(hts:∀ i∈t.slots,i∈cs)(hif:∀ (C:Addr)(s:Shared)(H:Hp)(fp:XW),iR (X.block scope C NB s H fp) E0 (bH Y cs ix) ifs c)
  (hr:∀ (C:Addr)(s:Shared)(H:Hp)(fp:XW)(D:Addr),SL (X.block scope C NB s H fp) (bH Y cs ix) cs D elt (⟨tg,iter,ifs,0⟩:: rest) scope pos 1 r)
  (ha:∀ g∈rest,g.is_async=0)(hs:∀ v,foldedSetIterable iter X.env v=pure v){w:(V->Hp->Prop)->St->Hp->Prop}
  (hw:∀ {wi:TI}{G:TG}{tt:TT}{tr:TL}{U:St}{H:Hp}{Q:VK},PI X tg iter wi->(∀ (C:Addr)(s:Shared)(H:Hp)(fp:XW),PG (X.block scope C NB s H fp) tg G)->(∀ (C:Addr)(s:Shared)(H:Hp)(fp:XW),pA (X.block scope C NB s H fp) ifs tt) ->
   (∀ (C:Addr)(s:Shared)(H:Hp)(fp:XW)(D:Addr),PL (X.block scope C NB s H fp) D elt (⟨tg,iter,ifs,0⟩:: rest) scope pos 1 tr)->m7 wi vs.length ix G tt tr U H Q->w Q U H)
  (g:Gh)(x:XC)(E:En)(U:St)(H Hm:Hp)(F:Nat->XW)(P:Xd)(Q:VK)(hx:XL X Ex x g)(R:Rl X.K g E U H Hm F)(p:bU cs di t c r x E P)
  (q:∀ E' k v u H' Hm' F' fp,P E' k v->Rl X.K g E' U H' Hm' F'->ai Hm Hm'->Tm X.K g F' H' Hm' k u v fp->Q u H'):w Q (sel Y U) H:=by
 obtain ⟨wi,hpi,hwi⟩:=hi;refine hw (wi:=wi) (G:=fun v U H Q=>∀ (C:Addr)(s:Shared)(H2:Hp)(fp:XW),WG (X.block scope C NB s H2 fp) tg v U H Q) (tt:=fun U H Q=>∀ (C:Addr)(s:Shared)(H2:Hp)(fp:XW),vK (X.block scope C NB s H2 fp) ifs U H Q)
  (tr:=fun ys U H Q=>∀ (C:Addr)(s:Shared)(H2:Hp)(fp:XW)(D:Addr),WL (X.block scope C NB s H2 fp) D elt (⟨tg,iter,ifs,0⟩:: rest) scope pos 1 ys U H Q) hpi (fun C s H2 fp pins s' U H v u Q I r h=>h C s H2 fp pins s' u I r) (fun C s H2 fp pins s' U H Q I h=>h C s H2 fp pins s' I)
  (fun C s H2 fp D h1 h2 h3 pins s' U H ys its nn Q fin Qf E hp I rv hz h hf=>h C s H2 fp D h1 h2 h3 pins s' its nn fin Qf E hp I rv hz hf) ?_
 refine hwi g x E U H Hm F _ _ hx R p fun E1 xs J H1 Hm1 F1 p1 R1 s1 it1=>?_
 obtain ⟨E0',I,hcl,i0,step,fin⟩:=p1;obtain ⟨σ0,F0,R0,a0,n0⟩:=R1.bC hcl;rw [<- hcs,uZ hix aQ a0 fun c hc=>(n0 c hc).1]
 refine yq (cs:=cs) (t:=t) (c:=c) (r:=r) hts it1 R0 .nil i0 (fun h1 h2 h3 h4 C s H2 fp=>?_) (fun h1 h2 h3 C s H2 fp=>(hif C s H2 fp).ok XL.no h1 h2 h3) (fun h1 h2 h3 h4 C s H2 fp D=>hr C s H2 fp D g _ _ _ _ _ _ _ _ _ h1 h2 h3 h4) step fun E' dys' ys' σ' H' Hm' F' i R' s' r' a' p hp=>?_
 ·obtain ⟨G,g1,g2⟩:=t8 (X:=X.block scope C NB s H2 fp) hc B.nd nd (ht C s H2 fp);exact WG.of g1 (g2 h1 h2 h3 h4)
 ·obtain ⟨E2,hcl2,p2⟩:=fin _ _ i;obtain ⟨σ2,F2,R2,a2,n2⟩:=R'.bC hcl2;have R3:=R2.agree (cs:=cs) ((a0.trans a').trans a2).symm fun c hc=>(n2 c hc).2
  have s2:=cj (o:=.lst ys') hp;have R4:=R3.grow (H':=upd H' p (.lst ys')) s2 (ai.refl _) (R3.sub.trans s2) (fun i a ha=>R3.off i a ha) fun _ _=>.inl rfl
  refine q _ _ _ _ _ Hm' F2 [p] p2 R4 (s1.trans s') ⟨.ow aH r',fun a ha=>?_,fun a ha i=>?_,fun a ha=>?_⟩
  ·rw [RZ.mp ha];exact R3.nA hp
  ·rw [RZ.mp ha];exact R3.fresh hp
  ·rw [RZ.mp ha];exact R3.fF hp
end
end Dv
namespace L2
open PySem PySem.Spec PyProof.Rows
structure dB (X:Cx)(scope:Scope) (x:Str)(vs NB:Xc)(ix:Xa):Prop where
 kind:scope.kind=.function
 cell:∀ y∈scope.names,y.2=.cell->y.1=x
 names:∀ y∈scope.names,y.2=.local->scope.names.lookup y.1=some .local
 free:∀ y,(y,NameKind.free)∈scope.names->(X.env.kindOf y=some .cell\/X.env.kindOf y=some .free)
 yV:(x,NameKind.free)∉scope.names
 var:scope.names.lookup x=some .cell
 nb:NB=vs++ix.map fun i=>X.N.getD i ""
 nd:NB.Nodup
 cap:∀ i∈ix,∃ y,X.N[i]?=some y/\scope.names.lookup y=some .free
 cf:∀ (n:Nat)(acc:List (Str×Addr)),cellsFrom n scope.names acc=(x,n)::acc
 pc:∀ h:Heap,pushCells h scope.names=h.push qx
section
variable {M:Model}{A:Around}{E:XE}{s:Shared}{X:Cx}{scope:Scope}{x:Str}{vs NB:Xc}{ix:Xa}
def QW {g:Addr}(B:dB X scope x vs NB ix)
  (q:Q { scope:=scope,locals:=s.heap.objs.size,globals:=g,cells:=(x,s.heap.objs.size + 1)::cl,qual:=ql,func:=none,code:=env.code,frame:=env.frame,builtins:=env.builtins } { s with heap:=(s.heap.push { cls:=.type "dict",data:=.dict #[] }).push qx }) :
  wpAny M A (newFunctionEnv scope g cl [] ql none .none (some env)) Q E s:=by
 simp only [newFunctionEnv,Option.isSome_some,if_true];refine R8 (wpAny_alloc (?_:_))
 refine R8 (wpAny_layCells _ (fun name kind cells=>by cases hkc:kind == NameKind.cell <;> simp [hkc]) _ _ _ _ (?_:_))
 rw [B.cf,B.pc];rw [show ({ s with heap:=s.heap.push { cls:=.type "dict",data:=.dict #[] } }:Shared).heap.objs.size=s.heap.objs.size + 1 from UL ..]
 rw [List.forIn_nil];exact R8 (R9 (R9 q))
end
section
variable {X:Cx}{scope:Scope}{x:Str}{vs NB:Xc}{ix:Xa}{pins:XH}{U:St}{H2:Hp}{s2:Shared}{fp:XW}
def dB.clos (B:dB X scope x vs NB ix)(I2:Inv X pins U H2 s2):closureFor scope X.env=pure (b7 X.env.cells scope.names []) :=
 lR fun n hn=>I2.ok.has n (B.free n hn)
def dB.look (B:dB X scope x vs NB ix)(I2:Inv X pins U H2 s2){c c':Addr}(h:((x,c)::b7 X.env.cells scope.names []).lookup y=some c'):(y=x/\c'=c)\/X.env.cells.lookup y=some c':=by
 rw [Su] at h;cases q:(y == x) with
 | true =>
  rw [q] at h;exact .inl ⟨by simpa using q,(Option.some.inj h).symm⟩
 | false =>
  rw [q] at h;rcases mL _ _ h with ⟨m,e⟩ | e
  ·obtain ⟨c2,hc⟩:=I2.ok.has y (B.free y m);rw [hc] at e ⊢;exact .inr (congrArg some e)
  ·cases e
def dB.apart (B:dB X scope x vs NB ix)(I2:Inv X pins U H2 s2){c c' b:Addr}(hc:s2.heap.objs.size<=c)(h:((x,c)::b7 X.env.cells scope.names []).lookup y=some c')(hb:b < s2.heap.objs.size)(nb:∀ z d,X.env.cells.lookup z=some d->d≠b):c'≠b:=by
 rcases B.look I2 h with ⟨_,rfl⟩ | e
 ·exact Tp (SK hb hc)
 ·exact nb y c' e
def D9 (B:dB X scope x vs NB ix)(I2:Inv X pins U H2 s2){C c:Addr}(hC:s2.heap.objs.size<=C)(hc:s2.heap.objs.size<=c)(f2:∀ b∈fp,eS X pins H2 b)(ft:∀ b∈fp,b < s2.heap.objs.size):(X.aW scope x C c NB s2 H2 fp).Ok where
 mod:=I2.ok.mod
 kind:=B.kind
 glob:=I2.ok.glob
 blt:=I2.ok.blt
 above:=hC
 inj:=fun a b d h1 h2=>by
  rcases B.look I2 h1 with ⟨e1,e2⟩ | e1 <;> rcases B.look I2 h2 with ⟨e3,e4⟩ | e3
  ·rw [e1,e3]
  ·exact absurd (SK (rQ I2 e3) (e2 ▸ hc)) (Sf _)
  ·exact absurd (SK (rQ I2 e1) (e4 ▸ hc)) (Sf _)
  ·exact I2.ok.inj a b d e1 e3
 has:=fun y hy=>by
  show ∃ d,((x,c)::b7 X.env.cells scope.names []).lookup y=some d;rw [Su];cases q:(y == x) with
  | true=>exact ⟨c,rfl⟩
  | false =>
   have nx:y≠x:=fun z=>by rw [z,Vh] at q;cases q
   have key:∀ k,(relabel scope X.env).names.lookup y=some k->(k=.cell\/k=.free)->∃ d,(b7 X.env.cells scope.names []).lookup y=some d:=fun k hk kk=>by
    rcases rF (names:=scope.names) hk with e | ⟨e,_⟩
    ·rcases kk with rfl | rfl
     ·exact absurd (B.cell _ (dh e) rfl) nx
     ·exact ff _ _ (.inl (dh e))
    ·exact ff _ _ (.inl (dh e))
   rcases hy with e | e
   ·exact key _ e (.inl rfl)
   ·exact key _ e (.inr rfl)
 DP:=fun y d z e=>by
  rcases B.look I2 e with ⟨_,rfl⟩ | e
  ·exact hc
  ·have z:(y == x)=true:=z;have yx:y=x:=by simpa using z
   have h:((x,c)::b7 X.env.cells scope.names []).lookup y=some d:=‹_›;rw [Su,z] at h;cases h;exact hc
 hd:=I2.ok.hd
 frames:=I2.ok.frames
 stk:=.inl rfl
 P9:=fun b hb=>⟨S8 (SK (ft b hb) hC),fun y d e=>B.apart I2 hc e (ft b hb) (f2 b hb).2.2.2.2.1⟩
 bs:=I2.bs
 vY:=SW I2.ok.vY I2.sz
 uG:=fun b o e hb=>by
  rcases (f2 b hb).2.2.2.1 with z | z
  ·exact I2.ok.uG b o e z
  ·exact absurd (SK (S3 (I2.ok.bs b o e).1) z) (Sf _)
 Di:=fun b hb z=>by
  rcases S2.mp (I2.jB b z) with e | e
  ·exact (f2 b hb).2.1 e
  ·exact (f2 b hb).2.2.1 e
 lA:=I2.stack
 Be:=I2.qw
def CB (B:dB X scope x vs NB ix)(I2:Inv X pins U H2 s2){C c D:Addr}{tk:Nat}(hC:s2.heap.objs.size<=C)(hD:s2.heap.objs.size<=D)(hDC:D≠C)(hc:s2.heap.objs.size<=c)(hcc:h1.IsCell c none)(f2:∀ b∈fp,eS X pins H2 b)(ft:∀ b∈fp,b < s2.heap.objs.size)
  (old:∀ b o,s2.heap.get? b=some o->h1.get? b=some o)(hn:h1.Ns C m)(ho:h1.get? D=some oD)(hcl:∀ v,oD.data≠.cell v) :
  Inv (X.aW scope x C c NB s2 H2 fp) [(D,oD)] (List.replicate vs.length none++caps ix U) H2 { s2 with heap:=h1,toks:=tk } where
 ok:=D9 B I2 hC hc f2 ft
 os:=rfl
 bare:=I2.bare
 base:=Un.kept old
 loc:=by
  refine ⟨m,hn,fun i y v e1 e2 _=>?_⟩
  have e1:NB[i]?=some y:=e1
  by_cases li:i < vs.length
  ·rw [UT (by rw [TZ];exact li),WB,if_pos li] at e2
   cases e2
  ·obtain ⟨j,rfl⟩:∃ j,i=vs.length + j:=⟨i - vs.length,by lia⟩
   have e2:(caps ix U)[j]?=some (some v):=by
    rw [UC (by rw [TZ];lia),TZ,VJ] at e2
    exact e2
   rw [B.nb] at e1;have e1:(ix.map fun i=>X.N.getD i "")[j]?=some y:=by
    rw [UC (by lia),VJ] at e1
    exact e1
   rw [S7] at e1;unfold caps at e2;rw [S7] at e2;cases q:ix[j]? with
   | none=>rw [q] at e1;cases e1
   | some i =>
    rw [q] at e1 e2;obtain ⟨z,hz,fz⟩:=B.cap i (SR q);have ey:y=z:=by
     have w:X.N.getD i ""=y:=Option.some.inj e1;rw [<- w,TM,hz];rfl
    subst ey;have e2:(U[i]?).join=some v:=Option.some.inj e2;have es:U[i]?=some (some v):=by
     cases w:U[i]? with
     | none=>rw [w] at e2;cases e2
     | some o=>rw [w] at e2;exact congrArg some e2
    have fk:=B.free y (dh fz);have vis:jG X.env.scope y:=.inr fk;obtain ⟨mm,_,hl⟩:=I2.loc;obtain ⟨u,ru,lk⟩:=hl i y v hz es vis;refine ⟨u,ru,.inr ⟨?_,?_⟩⟩
    ·rcases nN (env:=X.env) (names:=scope.names) fz with e | ⟨_,e⟩
     ·exact .inr e
     ·exact .inl e
    ·rcases lk with ⟨lk,_⟩ | ⟨_,d,hd,hcell⟩
     ·rcases fk with fk | fk
      ·rw [lk] at fk;cases fk
      ·rw [lk] at fk;cases fk
     ·obtain ⟨c',hc'⟩:=ff (cells:=X.env.cells) scope.names [] (.inl (dh fz));have nx:(y == x)=false:=by
       cases q:(y == x) with
       | false=>rfl
       | true =>
        have e:y=x:=by simpa using q
        exact absurd (e ▸ dh fz) B.yV
      have hc2:((x,c)::b7 X.env.cells scope.names []).lookup y=some c':=by
       rw [Su,nx];exact hc'
      have e3:X.env.cells.lookup y=some c':=by
       rcases B.look I2 hc2 with ⟨e,_⟩ | e
       ·rw [e,Vh] at nx;cases nx
       ·exact e
      rw [hd] at e3;cases e3;obtain ⟨oc,g1,g2⟩:=hcell;exact ⟨d,hc2,oc,old _ _ g1,g2⟩
 cell:=fun y d e=>by
  rcases B.look I2 e with ⟨_,rfl⟩ | e
  ·exact ⟨none,hcc⟩
  ·obtain ⟨v,o,g1,g2⟩:=I2.cell y d e;exact ⟨v,o,old _ _ g1,g2⟩
 free:=I2.hok.fresh hC
 iA:=fun y d e=>by
  rcases B.look I2 e with ⟨_,rfl⟩ | e
  ·exact I2.hok.fresh hc
  ·exact I2.iA y d e
 pin:=fun p hp=>by
  have e:p=(D,oD):=by simpa [Cx.aW] using hp
  subst e;refine ⟨ho,I2.hok.fresh hD,hDC,fun z=>?_,hcl⟩
  rcases S2.mp (I2.jB D z) with e | e
  ·have e:D=X.env.locals:=e;exact absurd (SK I2.lt (e ▸ hD)) (Sf _)
  ·exact I2.Hq hD e
 hok:=I2.hok.kept old
 len:=by
  show (List.replicate vs.length none++caps ix U).length=NB.length;rw [B.nb,SJ,SJ,yz,RX,TZ]
end
section
variable {X:Cx}{scope:Scope}{x:Str}{vs:Xc}{NB:Xc}{ix:Xa}
def Cb {elt tg iter:Expr}{ifs:XY}{rest:XF}{pos:Pos}{g:TG}{tt:TT}{tr:TL}{J:It}{it:Addr}{tn:Nat->Heap->Prop}{fp:XW}{pins:XH}{U:St}{H2:Hp}{s2:Shared}{E:XE}{RR:Value->Addr->Result->Shared->Prop}{Qr:VK}(B:dB X scope x vs NB ix)(hc:X.calm=true)
  (hg:∀ (C c:Addr)(s:Shared)(H:Hp)(fp:XW),PG (X.aW scope x C c NB s H fp) tg g)(ht:∀ (C c:Addr)(s:Shared)(H:Hp)(fp:XW),pA (X.aW scope x C c NB s H fp) ifs tt)
  (hr:∀ (C c:Addr)(s:Shared)(H:Hp)(fp:XW)(D:Addr),PL (X.aW scope x C c NB s H fp) D elt (⟨tg,iter,ifs,0⟩:: rest) scope pos 1 tr)
  (ha:∀ g∈rest,g.is_async=0)(I2:Inv X pins U H2 s2)(T:Turn X.prog X.w X.K tg J fp it tn)(st2:tn 0 s2.heap)(f2:∀ b∈fp,eS X pins H2 b)(h:Ca J g tt tr [] (List.replicate vs.length none++caps ix U) H2 fun ys _ H'=>∀ p,H' p=none->Qr (.ref p) (upd H' p (.lst ys)))
  (hRR:∀ (D C:Addr)(Hf:Hp)(s':Shared)(m':XG),Inv X pins U Hf s'->s'.heap.Ns C m'->eS X pins Hf C->Qr (.ref D) Hf->RR (.ref D) C (.ok .next) s') :
  wpAny (model X.prog X.w) X.A (newList []) (fun acc s3=>wpAny (model X.prog X.w) X.A (newFunctionEnv scope X.env.globals (b7 X.env.cells scope.names []) [] X.env.qual none .none (some X.env)) (fun cenv s4 =>
   codeAny (model X.prog X.w) X.A (.compStart (.ListComp elt (⟨tg,iter,ifs,0⟩:: rest) scope pos) 0 (.ref it) acc { cenv with scope:=relabel scope X.env }) (RR acc cenv.locals) s4) E s3) E s2:=by
 obtain ⟨W,⟨m0,w0⟩,turn⟩:=h;have ha':∀ g∈(⟨tg,iter,ifs,0⟩:Comprehension)::rest,g.is_async=0:=fun g hg=>by
  rcases S2.mp hg with rfl | hg
  ·rfl
  ·exact ha g hg
 refine T7 (QW B ?_);dsimp only;generalize eG:s2.heap.push { cls:=.type "list",dict:=none,data:=.seq ([]:XU).toArray }=G;obtain ⟨h1,eh1⟩:∃ h1,h1=(G.push { cls:=.type "dict",data:=.dict #[] }).push { cls:=.type "cell",data:=.cell none }:=⟨_,rfl⟩;rw [<- eh1];have hC:G.objs.size=s2.heap.objs.size + 1:=by rw [<- eG,UL]
 have hDC:s2.heap.objs.size≠G.objs.size:=by rw [hC];exact S8 (Ud _)
 have hCle:s2.heap.objs.size<=G.objs.size:=by rw [hC];exact UY _
 have up:∀ b o,G.get? b=some o->h1.get? b=some o:=fun b o e=>by
  rw [eh1];exact S5 _ (S5 _ e)
 have old:∀ b o,s2.heap.get? b=some o->h1.get? b=some o:=fun b o e=>up b o (eG ▸ S5 _ e)
 have hacc:h1.get? s2.heap.objs.size=some (eu [] 0):=up _ _ (eG ▸ SY _ rfl);have hns:h1.Ns G.objs.size (fun _=>none):=by
  rw [eh1];exact (Heap.Ns.new G (.type "dict")).keeps fun b o e=>S5 _ e
 have hcc:h1.IsCell (G.objs.size + 1) none:=by
  rw [eh1];refine ⟨qx,?_,rfl⟩;have e:=SY (G.push { cls:=.type "dict",data:=.dict #[] }) (o:=qx) rfl;rw [UL] at e;exact e
 have hcle:s2.heap.objs.size<=G.objs.size + 1:=VO hCle;have ft:∀ b∈fp,b < s2.heap.objs.size:=fun b hb=>by
  obtain ⟨o,e,_⟩:=T.obj _ _ st2 b hb;exact S3 e
 have cD:∀ y c,(X.aW scope x G.objs.size (G.objs.size + 1) NB s2 H2 fp).env.cells.lookup y=some c->c≠s2.heap.objs.size:=fun y c e z=>by
  rcases B.look I2 e with ⟨_,e4⟩ | e4
  ·rw [e4,hC] at z;exact absurd z (Tp (UI (Ud _)))
  ·exact Sf _ (z ▸ rQ I2 e4)
 have loop:∀ s3:Shared,s3={ s2 with heap:=h1 } ->
   codeAny (model X.prog X.w) X.A (.compLoop (.ListComp elt (⟨tg,iter,ifs,0⟩:: rest) scope pos) 0 (.ref it) (.ref s2.heap.objs.size) (compEnvC scope ((x,G.objs.size + 1)::b7 X.env.cells scope.names []) G.objs.size X.env))
    (RR (.ref s2.heap.objs.size) G.objs.size) s3:=by
  rintro s3 rfl;have I3:=CB (tk:=s2.toks) B I2 hCle (RW _) hDC hcle hcc f2 ft old hns hacc (fun v q=>by cases q)
  have st3:tn 0 h1:=T.keep _ _ _ st2 fun b _ o e=>old b o e
  have fy:∀ {H':Hp}{oD:Obj},(∀ b∈fp,H' b=none)->∀ b∈fp,eS (X.aW scope x G.objs.size (G.objs.size + 1) NB s2 H2 fp) [(s2.heap.objs.size,oD)] H' b:=fun {H' oD} hn b hb=>by
   refine ⟨hn b hb,S8 (SK (ft b hb) hCle),fun z=>?_,.inl hb,fun y c e=>B.apart I2 hcle e (ft b hb) (f2 b hb).2.2.2.2.1,fun p hp=>?_⟩
   ·rcases S2.mp (I2.jB b z) with e | e
    ·exact (f2 b hb).2.1 e
    ·exact (f2 b hb).2.2.1 e
   ·have e:p=(s2.heap.objs.size,oD):=by simpa [Cx.aW] using hp
    subst e;exact Ne.symm (S8 (ft b hb))
  refine uy (k:=0) rfl ha' (fun n s'=>∃ i ys its nn σ' H',W i n ys σ' H'/\Inv (X.aW scope x G.objs.size (G.objs.size + 1) NB s2 H2 fp) [(s2.heap.objs.size,eu its nn)] σ' H' s'/\tn i s'.heap/\(∀ b∈fp,H' b=none)/\Vals ys its/\ys.length<=sizeLine)
   ?_ m0 ⟨0,[],[],0,_,H2,w0,I3,st3,fun b hb=>(f2 b hb).1,.nil,Sd _⟩
  rintro n s' ⟨i,ys,its,nn,σ',H',w',I',st',fr',rv,hz⟩;rcases turn i n ys σ' H' w' with ⟨stop,q⟩ | ⟨go,Nx,hNx,step⟩
  ·refine Ss (T.done (X.aW scope x G.objs.size (G.objs.size + 1) NB s2 H2 fp) rfl rfl rfl hc i _ s' _ H' (fun _ _=>False) I' (fy fr') st' stop) (fun r s4 ⟨hr',I4⟩=>?_) fun _ _ z=>z.elim
   subst hr';have I5:=Cc I2 f2 (RW _) I4 rv hz;obtain ⟨m4,hn4,_⟩:=I4.loc;have hfree:H' s2.heap.objs.size=none:=(I4.pin (s2.heap.objs.size,eu its nn) (by show _∈[]++[(s2.heap.objs.size,eu its nn)];simp)).2.1
   have fC:eS X pins (upd H' s2.heap.objs.size (.lst ys)) G.objs.size:=I2.p9 hCle (by
    rw [ak (Ne.symm hDC)];exact I4.free)
   exact hRR _ _ _ s4 m4 I5 hn4 fC (q _ hfree)
  ·refine Ss (T.item (X.aW scope x G.objs.size (G.objs.size + 1) NB s2 H2 fp) rfl rfl rfl hc i _ s' _ H' (fun _ _=>False) I' (fy fr') st' go) (fun r s4 ⟨u,hr',h4⟩=>?_) fun _ _ z=>z.elim
   subst hr';refine Ss h4 (fun _ s4 ⟨v,H5,I5,r5,y5,st5,fr5⟩=>?_) fun _ _ z=>z.elim
   have pIt:∀ b∈fp,∃ o,s4.heap.get? b=some o/\∀ v,o.data≠.cell v:=T.obj _ _ st5;have I5':=I5.pinned (fy fr5) pIt;refine Ss (hg _ _ _ _ _ _ s4 σ' H5 v u _ I5' r5 (step v H5 y5)) (fun _ s6 ⟨σ6,H6,I6,q6⟩=>?_) fun _ _ z=>z.elim
   refine Ss (ht _ _ _ _ _ _ s6 σ6 H6 _ I6 q6) (fun b s7 ⟨H7,I7,q7⟩=>?_) fun _ _ z=>z.elim
   have stays:∀ {s9:Shared}{H9:Hp}{σ9:St}{oD:Obj},Inv (X.aW scope x G.objs.size (G.objs.size + 1) NB s2 H2 fp) ((s2.heap.objs.size,oD)::gE fp s4.heap) σ9 H9 s9->tn (i + 1) s9.heap/\(∀ b∈fp,H9 b=none)/\Inv (X.aW scope x G.objs.size (G.objs.size + 1) NB s2 H2 fp) [(s2.heap.objs.size,oD)] σ9 H9 s9:=fun {s9 H9 σ9 oD} I9=>by
    refine ⟨T.keep _ _ _ st5 fun b hb o e=>(I9.pin (b,o) (T5 _ (RY _ (f9 hb e)))).1,fun b hb=>?_,I9.kh fun p hp'=>I9.pin p (T5 _ ?_)⟩
    ·obtain ⟨o,e,d⟩:=pIt b hb;exact (I9.pin (b,o) (T5 _ (RY _ (f9 hb e)))).2.1
    ·rw [RZ.mp hp'];exact RT
   cases b with
   | false =>
    rw [if_neg SQ] at q7 ⊢;obtain ⟨m',hm,w7⟩:=hNx _ _ _ q7;obtain ⟨g1,g2,g3⟩:=stays I7;exact ⟨m',hm,i + 1,ys,its,nn,σ6,H7,w7,g3,g1,g2,rv,hz⟩
   | true =>
    rw [if_pos rfl] at q7 ⊢;intro fin' Qf' hf';refine hr _ _ _ _ _ s2.heap.objs.size (RW _) cD (fun _ _ z=>z) (gE fp s4.heap) s7 σ6 H7 ys its nn Nx fin' Qf' _ (fun p hp'=>?_) I7 rv hz q7 fun s8 ys8 its8 nn8 σ8 H8 I8 rv8 hz8 n8=>?_
    ·have hp'':p∈gE fp s4.heap:=hp';exact S8 (ft _ (pM hp'').1)
    ·obtain ⟨m',hm,w8⟩:=hNx _ _ _ n8;obtain ⟨g1,g2,g3⟩:=stays I8;exact hf' s8 ⟨m',hm,i + 1,ys8,its8,nn8,σ8,H8,w8,g3,g1,g2,rv8,hz8⟩
 exact codeAny_compStart_list (loop _ rfl) (T.self _ 0 _ _ _ (T.keep _ _ _ st2 fun b _ o e=>old b o e) (loop _ rfl))
def GQ {elt tg iter:Expr}{ifs:XY}{rest:XF}{pos:Pos}{wi:TI}{g:TG}{tt:TT}{tr:TL}(B:dB X scope x vs NB ix)(hc:X.calm=true)(hi:PI X tg iter wi)
  (hg:∀ (C c:Addr)(s:Shared)(H:Hp)(fp:XW),PG (X.aW scope x C c NB s H fp) tg g)(ht:∀ (C c:Addr)(s:Shared)(H:Hp)(fp:XW),pA (X.aW scope x C c NB s H fp) ifs tt)
  (hr:∀ (C c:Addr)(s:Shared)(H:Hp)(fp:XW)(D:Addr),PL (X.aW scope x C c NB s H fp) D elt (⟨tg,iter,ifs,0⟩:: rest) scope pos 1 tr)
  (ha:∀ g∈rest,g.is_async=0:=by decide)(hs:∀ v,foldedSetIterable iter X.env v=pure v:=by intro _;rfl):PE X (.ListComp elt (⟨tg,iter,ifs,0⟩:: rest) scope pos) (m7 wi vs.length ix g tt tr):=by
 intro pins s U H Q I h;rw [eval_ListComp];refine Wf (use:=none) rfl hs (B.clos I) B.kind B.names (aM (hi pins s U H _ I h) fun v s1 h1=>aM h1 fun itv s2 h2=>?_)
 obtain ⟨it,fp,tn,J,H2,e,I2,T,st2,f2,w⟩:=h2;subst e;refine Cb (Qr:=Q) (RR:=fun acc C=>compPost (model X.prog X.w) X.A X.xe none (EP X pins U Q) acc C) B hc hg ht hr ha I2 T st2 f2 w fun D C Hf s' m' I' hn' fC q=>?_
 refine ⟨m',hn',fun h'' hs''=>⟨.ref D,Hf,?_,rfl,q⟩⟩
 obtain ⟨c0,c1,c2,c3,c4,c5⟩:=fC;exact I'.turned (it:=C) (t':=s'.toks) (fun b o hb e=>hs''.extBut b o hb e) c0 c1 c3 c4 c5
end
end L2
namespace Dv
open PySem L2 PySem.W
section
variable {X:Cx}{Ex:XK}{Y cs:Xa}{elt tg iter:Expr}{ifs:XY}{scope:Scope}{pos:Pos}
def HP {cx:Str}{rest:XF}{vs NB:Xc}{ix:Xa}{di:DI}{t:Tg}{c:DT}{r:DC}(B:dB X scope cx vs NB ix)(hc:X.calm=true)(hcs:cs.length=vs.length)(hix:∀ i∈ix,i < Y.length)(aQ:∀ c∈cs,c∉Y)(nd:(bH Y cs ix).Nodup)
  (hi:SI X Ex Y tg iter di)(ht:∀ (C c':Addr)(s:Shared)(H:Hp)(fp:XW),fK (X.aW scope cx C c' NB s H fp) (bH Y cs ix) tg t)(hts:∀ i∈t.slots,i∈cs)(hif:∀ (C c':Addr)(s:Shared)(H:Hp)(fp:XW),iR (X.aW scope cx C c' NB s H fp) E0 (bH Y cs ix) ifs c)
  (hr:∀ (C c':Addr)(s:Shared)(H:Hp)(fp:XW)(D:Addr),SL (X.aW scope cx C c' NB s H fp) (bH Y cs ix) cs D elt (⟨tg,iter,ifs,0⟩:: rest) scope pos 1 r)
  (ha:∀ g∈rest,g.is_async=0)(hs:∀ v,foldedSetIterable iter X.env v=pure v){w:(V->Hp->Prop)->St->Hp->Prop}
  (hw:∀ {wi:TI}{G:TG}{tt:TT}{tr:TL}{U:St}{H:Hp}{Q:VK},PI X tg iter wi->(∀ (C c':Addr)(s:Shared)(H:Hp)(fp:XW),PG (X.aW scope cx C c' NB s H fp) tg G)->(∀ (C c':Addr)(s:Shared)(H:Hp)(fp:XW),pA (X.aW scope cx C c' NB s H fp) ifs tt) ->
   (∀ (C c':Addr)(s:Shared)(H:Hp)(fp:XW)(D:Addr),PL (X.aW scope cx C c' NB s H fp) D elt (⟨tg,iter,ifs,0⟩:: rest) scope pos 1 tr)->m7 wi vs.length ix G tt tr U H Q->w Q U H)
  (g:Gh)(x:XC)(E:En)(U:St)(H Hm:Hp)(F:Nat->XW)(P:Xd)(Q:VK)(hx:XL X Ex x g)(R:Rl X.K g E U H Hm F)(p:bU cs di t c r x E P)
  (q:∀ E' k v u H' Hm' F' fp,P E' k v->Rl X.K g E' U H' Hm' F'->ai Hm Hm'->Tm X.K g F' H' Hm' k u v fp->Q u H'):w Q (sel Y U) H:=by
 obtain ⟨wi,hpi,hwi⟩:=hi;refine hw (wi:=wi) (G:=fun v U H Q=>∀ (C c':Addr)(s:Shared)(H2:Hp)(fp:XW),WG (X.aW scope cx C c' NB s H2 fp) tg v U H Q) (tt:=fun U H Q=>∀ (C c':Addr)(s:Shared)(H2:Hp)(fp:XW),vK (X.aW scope cx C c' NB s H2 fp) ifs U H Q)
  (tr:=fun ys U H Q=>∀ (C c':Addr)(s:Shared)(H2:Hp)(fp:XW)(D:Addr),WL (X.aW scope cx C c' NB s H2 fp) D elt (⟨tg,iter,ifs,0⟩:: rest) scope pos 1 ys U H Q) hpi (fun C c' s H2 fp pins s' U H v u Q I r h=>h C c' s H2 fp pins s' u I r) (fun C c' s H2 fp pins s' U H Q I h=>h C c' s H2 fp pins s' I)
  (fun C c' s H2 fp D h1 h2 h3 pins s' U H ys its nn Q fin Qf E hp I rv hz h hf=>h C c' s H2 fp D h1 h2 h3 pins s' its nn fin Qf E hp I rv hz hf) ?_
 refine hwi g x E U H Hm F _ _ hx R p fun E1 xs J H1 Hm1 F1 p1 R1 s1 it1=>?_
 obtain ⟨E0',I,hcl,i0,step,fin⟩:=p1;obtain ⟨σ0,F0,R0,a0,n0⟩:=R1.bC hcl;rw [<- hcs,uZ hix aQ a0 fun c hc=>(n0 c hc).1]
 refine yq (cs:=cs) (t:=t) (c:=c) (r:=r) hts it1 R0 .nil i0 (fun h1 h2 h3 h4 C c' s H2 fp=>?_) (fun h1 h2 h3 C c' s H2 fp=>(hif C c' s H2 fp).ok XL.no h1 h2 h3) (fun h1 h2 h3 h4 C c' s H2 fp D=>hr C c' s H2 fp D g _ _ _ _ _ _ _ _ _ h1 h2 h3 h4) step fun E' dys' ys' σ' H' Hm' F' i R' s' r' a' p hp=>?_
 ·obtain ⟨G,g1,g2⟩:=t8 (X:=X.aW scope cx C c' NB s H2 fp) hc B.nd nd (ht C c' s H2 fp);exact WG.of g1 (g2 h1 h2 h3 h4)
 ·obtain ⟨E2,hcl2,p2⟩:=fin _ _ i;obtain ⟨σ2,F2,R2,a2,n2⟩:=R'.bC hcl2;have R3:=R2.agree (cs:=cs) ((a0.trans a').trans a2).symm fun c hc=>(n2 c hc).2
  have s2:=cj (o:=.lst ys') hp;have R4:=R3.grow (H':=upd H' p (.lst ys')) s2 (ai.refl _) (R3.sub.trans s2) (fun i a ha=>R3.off i a ha) fun _ _=>.inl rfl
  refine q _ _ _ _ _ Hm' F2 [p] p2 R4 (s1.trans s') ⟨.ow aH r',fun a ha=>?_,fun a ha i=>?_,fun a ha=>?_⟩
  ·rw [RZ.mp ha];exact R3.nA hp
  ·rw [RZ.mp ha];exact R3.fresh hp
  ·rw [RZ.mp ha];exact R3.fF hp
def LM {rest:XF}{vs NB:Xc}{ix:Xa}{di:DI}{t:Tg}{c:DT}{r:DC}(B:cM X scope vs NB ix)(hc:X.calm=true)(hcs:cs.length=vs.length)(hix:∀ i∈ix,i < Y.length)(aQ:∀ c∈cs,c∉Y)(nd:(bH Y cs ix).Nodup)
  (hi:SI X Ex Y tg iter di)(ht:∀ (C:Addr)(s:Shared)(H:Hp)(fp:XW),fK (X.block scope C NB s H fp) (bH Y cs ix) tg t)(hts:∀ i∈t.slots,i∈cs)(hif:∀ (C:Addr)(s:Shared)(H:Hp)(fp:XW),iR (X.block scope C NB s H fp) E0 (bH Y cs ix) ifs c)
  (hr:∀ (C:Addr)(s:Shared)(H:Hp)(fp:XW)(D:Addr),SL (X.block scope C NB s H fp) (bH Y cs ix) cs D elt (⟨tg,iter,ifs,0⟩:: rest) scope pos 1 r)(ha:∀ g∈rest,g.is_async=0)(hs:∀ v,foldedSetIterable iter X.env v=pure v):SE X Ex Y (.ListComp elt (⟨tg,iter,ifs,0⟩:: rest) scope pos) (bU cs di t c r):=fun g x E U H Hm F P Q hx R p q =>
 A4 B hc hcs hix aQ nd hi ht hts hif hr ha hs (w:=fun Q U H=>WE X (.ListComp elt (⟨tg,iter,ifs,0⟩:: rest) scope pos) U H Q) (fun h1 h2 h3 h4 h5=>WE.of (Hu B hc h1 h2 h3 h4 ha hs) h5) g x E U H Hm F P Q hx R p q
def Pu {j:Nat}{y:Str}{py spos:Pos}(hN:X.N.Nodup)(hj:X.N[j]?=some y)(hy:X.env.scope.names.lookup y=some .local){rest:XF}{vs NB:Xc}{ix:Xa}{di:DI}{t:Tg}{c:DT}{r:DC}(B:cM X scope vs NB ix)(hc:X.calm=true)(hcs:cs.length=vs.length)(hix:∀ i∈ix,i < (aT X).length)(aQ:∀ c∈cs,c∉aT X)(nd:(bH (aT X) cs ix).Nodup)
  (hi:SI X Ex (aT X) tg iter di)(ht:∀ (C:Addr)(s:Shared)(H:Hp)(fp:XW),fK (X.block scope C NB s H fp) (bH (aT X) cs ix) tg t)(hts:∀ i∈t.slots,i∈cs)(hif:∀ (C:Addr)(s:Shared)(H:Hp)(fp:XW),iR (X.block scope C NB s H fp) E0 (bH (aT X) cs ix) ifs c)
  (hr:∀ (C:Addr)(s:Shared)(H:Hp)(fp:XW)(D:Addr),SL (X.block scope C NB s H fp) (bH (aT X) cs ix) cs D elt (⟨tg,iter,ifs,0⟩:: rest) scope pos 1 r)(ha:∀ g∈rest,g.is_async=0)(hs:∀ v,foldedSetIterable iter X.env v=pure v)
  (hsw:swapsWith (.ListComp elt (⟨tg,iter,ifs,0⟩:: rest) scope pos) (some (.Name y py)) spos.line X.env=pure true):S1 X Ex (.Assign [.Name y py] (.ListComp elt (⟨tg,iter,ifs,0⟩:: rest) scope pos) spos) (aX j (bU cs di t c r)):=by
 rw [u5];intro g D' E U H Hm F D hx R p nx rt;refine A4 B hc hcs hix aQ nd hi ht hts hif hr ha hs (w:=fun Q τ H=>(Q=fun u H1=>D.nx (τ.set j (some u)) H1)->WS X (.Assign [.Name y py] (.ListComp elt (⟨tg,iter,ifs,0⟩:: rest) scope pos) spos) D τ H)
  (fun h1 h2 h3 h4 h5 e=>by
   subst e;exact WS.of (yP hN hj hy B hc h1 h2 h3 h4 hsw ha hs) h5) g D'.xc E U H Hm F _ _ hx R p (fun E' k v u H' Hm' F' fp p' R' s' T=>?_) rfl
 rw [mZ Tz (jh (bD hj)) (R'.len ▸ jq p'.1)];exact nx _ _ _ _ _ p'.2 (R'.put T p'.1) s'
def L0 {cx:Str}{rest:XF}{vs NB:Xc}{ix:Xa}{di:DI}{t:Tg}{c:DT}{r:DC}(B:dB X scope cx vs NB ix)(hc:X.calm=true)(hcs:cs.length=vs.length)(hix:∀ i∈ix,i < Y.length)(aQ:∀ c∈cs,c∉Y)(nd:(bH Y cs ix).Nodup)
  (hi:SI X Ex Y tg iter di)(ht:∀ (C c':Addr)(s:Shared)(H:Hp)(fp:XW),fK (X.aW scope cx C c' NB s H fp) (bH Y cs ix) tg t)(hts:∀ i∈t.slots,i∈cs)(hif:∀ (C c':Addr)(s:Shared)(H:Hp)(fp:XW),iR (X.aW scope cx C c' NB s H fp) E0 (bH Y cs ix) ifs c)
  (hr:∀ (C c':Addr)(s:Shared)(H:Hp)(fp:XW)(D:Addr),SL (X.aW scope cx C c' NB s H fp) (bH Y cs ix) cs D elt (⟨tg,iter,ifs,0⟩:: rest) scope pos 1 r)(ha:∀ g∈rest,g.is_async=0)(hs:∀ v,foldedSetIterable iter X.env v=pure v):SE X Ex Y (.ListComp elt (⟨tg,iter,ifs,0⟩:: rest) scope pos) (bU cs di t c r):=fun g x E U H Hm F P Q hx R p q =>
 HP B hc hcs hix aQ nd hi ht hts hif hr ha hs (w:=fun Q U H=>WE X (.ListComp elt (⟨tg,iter,ifs,0⟩:: rest) scope pos) U H Q) (fun h1 h2 h3 h4 h5=>WE.of (GQ B hc h1 h2 h3 h4 ha hs) h5) g x E U H Hm F P Q hx R p q
end
def Bj (K:Frag)(f:DM)(r:V->List V->Hp->VK->Prop):Prop:=∀ (H Hm:Hp)(a:Addr)(xs:List V)(ds:XS)(vs:List V)(args:XS)(P:XS->PyData->Prop)(Q:VK),H a=some (.lst xs)->Hm a=none->ai Hm H->aA K Hm xs ds->aA K Hm vs args->f ds args P ->
 (∀ ys new u v,P new v->aA K Hm ys new->Rp K Hm u v->Q u (upd H a (.lst ys)))->r (.ref a) vs H Q
theorem Fp:∀ {es:List DE}{os:Xe}{vs:List V}{ds:XS},Got K U Hm (es.map .ev) os vs->fill (es.map .ev) E os=some ds->aA K Hm vs ds
 | [],_,_,_,.nil,h=>by cases h;exact .nil
 | e::es,_,_,_,.ev (os:=os) r G,h=>by
  have h:(fill (es.map .ev) E os).map (_::·)=some _:=h;cases hf:fill (es.map .ev) E os with
  | none=>rw [hf] at h;cases h
  | some ds =>
   rw [hf] at h;cases h;exact .cons r (Fp G hf)
inductive qN (X:Cx)(Ex:XK)(Y:Xa):XY->List DE->Prop
 | nil:qN X Ex Y [] []
 | cons {e:Expr}{d:DE}{es:XY}{ds:List DE}:SE X Ex Y e d->qN X Ex Y es ds->qN X Ex Y (e::es) (d::ds)
def qN.as (h:qN X Ex Y es ds):aS X Ex Y es (ds.map .ev):=by
 induction h with
 | nil=>exact .nil
 | cons h _ ih=>exact .ev h ih
def Ey (ns:es.all noStar=true)(l:es.length < 30):((backTo cpos (starEach es env)).all (fun x=>!x.1) && (backToKw cpos (keywordEach [] env)).all (fun x=>x.1.isSome) && decide (es.length + ([]:List Keyword).length + (if ([]:List Keyword).isEmpty then 0 else 1) < 30))=true:=by
 have h:=gW (pos:=cpos) (env:=env) ns;rw [W9] at h;rw [S4,S4,SH];refine ⟨⟨fun x hx=>by simpa using h x hx,rfl⟩,Sa ?_⟩
 show es.length + 0 + 0 < 30;lia
section
variable {X:Cx}{Ex:XK}{Y:Xa}
def HA {i:Nat}(h:jd E i=true):∃ p ds,E[i]?=some (some (.ow p,.list ds)):=by
 unfold jd at h;split at h
 ·rename_i p ds e;exact ⟨p,ds,e⟩
 ·cases h
def PC {x name:Str}{id:String}{p apos cpos:Pos}{es:XY}{ds:List DE}{f:DM}{r:V->List V->Hp->VK->Prop}{i j:Nat}(hm:vP X id r)(D:Bj X.K f r)(slot:Slot "list" name id)(hty:typeOf (.builtin id)=pure (.type "method_descriptor"))
  (hv:PE X (.Name x p) (jf j))(hj:Y[j]?=some i)(ns:es.all noStar=true)(l30:es.length < 30)(hline:(apos.endLine == cpos.line)=true)(S:qN X Ex Y es ds):SE X Ex Y (.Call (.Attribute (.Name x p) name apos) es [] cpos) (tH f i ds):=by
 intro g xc E U H Hm F P Q hx R h q
 replace h:bK (jd E i) _:=h
 rw [dU] at h;obtain ⟨ho,h⟩:=h;obtain ⟨p0,ds0,e0⟩:=HA ho;obtain ⟨v,h1,h2⟩:=R.slot i _ _ e0;have hs1:=cV hj h1;have fin:∀ a xs0,v=.ref a->H a=some (.lst xs0)->vX X es (sel Y U) H fun vs H2=>r (.ref a) vs H2 Q:=fun a xs0 ev _=>by
  subst ev;refine m8 hx S.as R h fun E1 os vs H1 Hm1 F1 p1 R1 s1 G=>?_
  replace p1:DQ f i (ds.map .ev) E1 os P:=p1
  unfold DQ at p1;rw [<- bI,fP] at p1;obtain ⟨args,hf,p1⟩:=p1;split at p1
  rotate_left
  ·exact p1.elim
  rename_i p1' ds1 e1;have ra:=Fp G hf;obtain ⟨v',g1,g2⟩:=R1.slot i _ _ e1;rw [h1] at g1;cases g1;generalize hfi:F1 i=fi at g2;cases g2 with
  | @ow _ _ xs1 _ ha1 hr1 =>
   refine D H1 Hm1 a xs1 ds1 vs args _ Q ha1 (R1.off i a (by rw [hfi];exact RT)) R1.sub hr1 ra p1 fun ys new u v p2 ry ru=>?_
   obtain ⟨a',xs',k1,k2,k3,k4,R2⟩:=R1.chg e1 ry;rw [h1] at k1;cases k1;exact q _ _ _ _ _ _ _ [] p2 R2 s1 (Tm.sh ru)
 generalize hfi:F i=fi at h2;cases h2 with
 | @ow _ a xs _ ha hr =>
  cases es with
  | nil=>exact WE.of (NP Vv slot hty hm hv rfl hline) ⟨_,hs1,.inl ⟨rfl,_,bF.of ha⟩,fin a xs rfl ha⟩
  | cons e es =>
   have ns':=ns;rw [SG,S4] at ns';exact WE.of (w9 Vv slot hty hm hv (d7 ns) rfl (Ey ns l30) hline (bx ns'.1) (gW ns'.2)) ⟨_,hs1,.inl ⟨rfl,_,bF.of ha⟩,fin a xs rfl ha⟩
def fG:DM:=fun ds args P=>match args with
 | [d]=>ds.length < sizeLine/\P (ds++[d]) .none
 | _=>False
def iK:Bj K fG Bf:=by
 intro H Hm a xs ds vs args P Q ha _ s r ra h q;unfold fG at h;split at h
 ·obtain ⟨x,rfl,h1⟩:=dM ra;exact ⟨a,xs,x,rfl,rfl,ha,by rw [r.len];exact h.1,q _ _ _ _ h.2 (r.snoc h1) .br⟩
 ·exact h.elim
def Lj:DM:=fun ds args P=>match args with
 | [.list es]=>ds.length + es.length<=sizeLine/\P (ds++es) .none
 | _=>False
theorem aA.dropLast (r:aA K H vs ds):aA K H vs.dropLast ds.dropLast:=by
 rw [List.dropLast_eq_take,List.dropLast_eq_take,r.len];exact r.take _
theorem aA.erase:∀ {vs:List V}{ds:XS} (i:Nat),aA K H vs ds->aA K H (vs.eraseIdx i) (ds.eraseIdx i)
 | _,_,_,.nil=>.nil
 | _,_,0,.cons _ r=>r
 | _,_,i + 1,.cons h r=>.cons h (r.erase i)
def vB:DM:=fun ds args P=>match args with
 | []=>∃ d,ds[ds.length - 1]?=some d/\P ds.dropLast d
 | [.int i]=>(-(2 ^ 63)<=i/\i < 2 ^ 63)/\∃ n d,seqIndex? i ds.length=some n/\ds[n]?=some d/\P (ds.eraseIdx n) d
 | _=>False
def BG:vP X "list.pop" fun x vs H Q=>HW x vs H Q\/yD x vs H Q:=fun pins s U H x xs v us Q I a b z=>z.elim (LX pins s U H x xs v us Q I a b) (G0 pins s U H x xs v us Q I a b)
def AW:Bj K vB fun x vs H Q=>HW x vs H Q\/yD x vs H Q:=by
 intro H Hm a xs ds vs args P Q ha _ s r ra h q;unfold vB at h;split at h
 ·cases ra;obtain ⟨d,e,h⟩:=h;obtain ⟨v,ev,rv⟩:=r.get e;refine .inl ⟨a,xs,v,rfl,rfl,ha,by rw [r.len];exact ev,q _ _ _ _ h r.dropLast rv⟩
 ·obtain ⟨x,rfl,h1⟩:=dM ra;cases h1;obtain ⟨⟨b1,b2⟩,n,d,e1,e2,h⟩:=h;obtain ⟨v,ev,rv⟩:=r.get e2;exact .inr ⟨a,xs,_,n,v,rfl,rfl,ha,b1,b2,by rw [r.len];exact e1,ev,q _ _ _ _ h (r.erase n) rv⟩
 ·exact h.elim
end
def nR:aZ a=aZ b↔a=b:=by
 cases a <;> cases b <;> simp [aZ]
theorem wk:∀ {a b:List Key},a.map aZ=b.map aZ↔a=b
 | [],[]=>by simp
 | [],_::_=>by simp
 | _::_,[]=>by simp
 | a::as,b::bs=>by simp [nR,wk (a:=as) (b:=bs)]
def sj {a b:List Key}:PyData.tuple (a.map aZ)=.tuple (b.map aZ)↔a=b:=by
 rw [PyData.tuple.injEq];exact wk
def qB (h:qg w=true):∃ k,w=aZ k:=by
 cases w with
 | int i=>exact ⟨.inl i,rfl⟩
 | str x=>exact ⟨.inr x,rfl⟩
 | _=>cases h
theorem jF:∀ {ks:XS},ks.all qg=true->∃ k:List Key,ks=k.map aZ
 | [],_=>⟨[],rfl⟩
 | w::ks,h=>by
  rw [SG,S4] at h;obtain ⟨k,rfl⟩:=qB h.1;obtain ⟨l,rfl⟩:=jF h.2;exact ⟨k::l,rfl⟩
section
variable {K:Frag}{H:Hp}
def tN (r:Rp K H u (aZ k)):u=kV k:=by
 cases k with
 | inl i =>
  have r:Rp K H u (.int i):=r;cases r;rfl
 | inr x =>
  have r:Rp K H u (.str x):=r;cases r;rfl
theorem sr:∀ {us:List V}{k:List Key},aA K H us (k.map aZ)->us=k.map kV
 | _,[],r=>by cases r;rfl
 | _,k::ks,r=>by
  cases r with
  | cons h t=>rw [tN h,sr t];rfl
def uO {k:List Key}(r:Rp K H u (.tuple (k.map aZ))):∃ b,u=.ref b/\H b=some (.tup (k.map kV)):=by
 cases r with
 | tup a r=>exact ⟨_,rfl,by rw [<- sr r];exact a⟩
theorem eX.len:∀ {kvs:List (Key×V)}{ds:XA},eX K H kvs ds->kvs.length=ds.length
 | _,_,.nil=>rfl
 | _,_,.cons _ r=>congrArg (· + 1) r.len
theorem eW.len:∀ {kvs:List (List Key×V)}{ds:XA},eW K H kvs ds->kvs.length=ds.length
 | _,_,.nil=>rfl
 | _,_,.cons _ r=>congrArg (· + 1) r.len
theorem eX.val:∀ {kvs:List (Key×V)}{ds:XA},eX K H kvs ds->(eN ds (aZ k)=none/\b8 kvs k=none)\/∃ v d,b8 kvs k=some v/\eN ds (aZ k)=some d/\Rp K H v d
 | _,_,.nil=>.inl ⟨rfl,rfl⟩
 | _,_,.cons (k:=k') (v:=v) (d:=d) (kvs:=kvs) (ds:=ds) h r=>by
  by_cases c:k'=k
  ·subst c;exact .inr ⟨v,d,by unfold b8;rw [VP (by simp)];rfl,by unfold eN;rw [VP (by simp)];rfl,h⟩
  ·have c':¬ aZ k'=aZ k:=fun z=>c (nR.mp z)
   have e1:b8 ((k',v)::kvs) k=b8 kvs k:=by unfold b8;rw [VQ (by simpa using c)]
   have e2:eN ((aZ k',d)::ds) (aZ k)=eN ds (aZ k):=by unfold eN;rw [VQ (by simpa using c')]
   rw [e1,e2];exact r.val
theorem eW.val:∀ {kvs:List (List Key×V)}{ds:XA},eW K H kvs ds->(eN ds (.tuple (k.map aZ))=none/\b8 kvs k=none)\/∃ v d,b8 kvs k=some v/\eN ds (.tuple (k.map aZ))=some d/\Rp K H v d
 | _,_,.nil=>.inl ⟨rfl,rfl⟩
 | _,_,.cons (k:=k') (v:=v) (d:=d) (kvs:=kvs) (ds:=ds) h r=>by
  by_cases c:k'=k
  ·subst c;exact .inr ⟨v,d,by unfold b8;rw [VP (by simp)];rfl,by unfold eN;rw [VP (by simp)];rfl,h⟩
  ·have c':¬ PyData.tuple (k'.map aZ)=.tuple (k.map aZ):=fun z=>c (sj.mp z)
   have e1:b8 ((k',v)::kvs) k=b8 kvs k:=by unfold b8;rw [VQ (by simpa using c)]
   have e2:eN ((.tuple (k'.map aZ),d)::ds) (.tuple (k.map aZ))=eN ds (.tuple (k.map aZ)):=by unfold eN;rw [VQ (by simpa using c')]
   rw [e1,e2];exact r.val
theorem eX.any:∀ {kvs:List (Key×V)}{ds:XA},eX K H kvs ds->(kvs.any fun kv=>decide (kv.1=k))=ds.any fun kv=>decide (kv.1=aZ k)
 | _,_,.nil=>rfl
 | _,_,.cons (k:=k') h r=>by
  rw [Ua,Ua,r.any,decide_eq_decide.mpr (nR (a:=k') (b:=k)).symm]
theorem eW.any {k:List Key}:∀ {kvs:List (List Key×V)}{ds:XA},eW K H kvs ds->(kvs.any fun kv=>decide (kv.1=k))=ds.any fun kv=>decide (kv.1=.tuple (k.map aZ))
 | _,_,.nil=>rfl
 | _,_,.cons (k:=k') h r=>by
  rw [Ua,Ua,r.any,decide_eq_decide.mpr (sj (a:=k') (b:=k)).symm]
theorem eX.app (k:Key)(h:Rp K H v d):∀ {kvs:List (Key×V)}{ds:XA},eX K H kvs ds->eX K H (kvs++[(k,v)]) (ds++[(aZ k,d)])
 | _,_,.nil=>.cons h .nil
 | _,_,.cons g r=>.cons g (r.app k h)
theorem eW.app (k:List Key)(h:Rp K H v d):∀ {kvs:List (List Key×V)}{ds:XA},eW K H kvs ds->eW K H (kvs++[(k,v)]) (ds++[(.tuple (k.map aZ),d)])
 | _,_,.nil=>.cons h .nil
 | _,_,.cons g r=>.cons g (r.app k h)
def eX.put (k:Key)(h:Rp K H v d)(r:eX K H kvs ds):eX K H (putK kvs k v) (putD ds (aZ k) d):=by
 unfold putK putD;rw [r.any (k:=k)];split
 ·have go:∀ {kvs:List (Key×V)}{ds:XA},eX K H kvs ds->eX K H (kvs.map fun kv=>if kv.1=k then (kv.1,v) else kv) (ds.map fun kv=>if kv.1=aZ k then (kv.1,d) else kv):=by
   intro kvs
   induction kvs with
   | nil=>intro ds r;cases r;exact .nil
   | cons p kvs ih =>
    intro ds r;cases r with
    | @cons k' v' d' _ ds g r =>
     rw [SO,SO]
     by_cases c:k'=k
     ·rw [if_pos c,if_pos (congrArg aZ c)];exact .cons h (ih r)
     ·rw [if_neg c,if_neg fun z=>c (nR.mp z)]
      exact .cons g (ih r)
  exact go r
 ·exact r.app k h
def eW.put (k:List Key)(h:Rp K H v d)(r:eW K H kvs ds):eW K H (putK kvs k v) (putD ds (.tuple (k.map aZ)) d):=by
 unfold putK putD;rw [r.any (k:=k)];split
 ·have go:∀ {kvs:List (List Key×V)}{ds:XA},eW K H kvs ds->eW K H (kvs.map fun kv=>if kv.1=k then (kv.1,v) else kv) (ds.map fun kv=>if kv.1=.tuple (k.map aZ) then (kv.1,d) else kv):=by
   intro kvs
   induction kvs with
   | nil=>intro ds r;cases r;exact .nil
   | cons p kvs ih =>
    intro ds r;cases r with
    | @cons k' v' d' _ ds g r =>
     rw [SO,SO]
     by_cases c:k'=k
     ·rw [if_pos c,if_pos (by rw [c])]
      exact .cons h (ih r)
     ·rw [if_neg c,if_neg fun z=>c (sj.mp z)]
      exact .cons g (ih r)
  exact go r
 ·exact r.app k h
end
section
variable {X:Cx}{Ex:XK}{Y:Xa}
inductive Iz (neg:Bool) (x:V) (y:V)(H:Hp)(Q:VK):Prop
 | mk:∀ a o,(y=.ref a)->(jr H a x o)->(Q (.bl (if neg then !o.isSome else o.isSome)) H)->Iz neg x y H Q
def Oa (neg:Bool):R2:=fun x y H Q=>Iz neg x y H Q
def Oh (hu:X.A.units + 64 < cLine):bO X (compareOp .In) (Oa false):=by
 intro pins s U H x y v u Q I rx ry h;obtain ⟨a,o,rfl,g,q⟩:=h;cases ry;exact Rb (by lia) I g rx fun s3 I3=>⟨.bl o.isSome,H,I3,rfl,q⟩
def jS (neg:Bool):DR:=fun ds P=>match ds with
 | [.tuple ks,.dict ((.none,.none)::kvs)]=>ks.all qg=true/\P .sh (.bool (if neg then !(eN kvs (.tuple ks)).isSome else (eN kvs (.tuple ks)).isSome))
 | [w,.dict kvs]=>(qg w=true/\tE kvs=true)/\P .sh (.bool (if neg then !(eN kvs w).isSome else (eN kvs w).isSome))
 | ds=>EU neg ds P
def Mp (K:Frag)(neg:Bool):R2:=fun x y H Q=>Hi K neg x y H Q\/Oa neg x y H Q
def FP (hu:X.A.units + 64 < cLine):bO X (compareOp .In) (Mp X.K false):=bO.or (L5 hu) (Oh hu)
def sD (r:Rp K H u (.dict kvs))(h:tE kvs=true):∃ a es,u=.ref a/\H a=some (.dK es)/\eX K H es kvs:=by
 cases r with
 | dk a r=>exact ⟨_,_,rfl,a,r⟩
 | dt a r=>cases h
def EN (r:Rp K H u (.dict ((.none,.none)::kvs))):∃ a es,u=.ref a/\H a=some (.dT es)/\eW K H es kvs:=by
 generalize e:((PyData.none,PyData.none)::kvs)=ds at r;cases r with
 | dk a r =>
  cases r with
  | nil=>cases e
  | @cons k _ _ _ _ _ _=>cases k <;> cases e
 | dt a r=>cases e;exact ⟨_,_,rfl,a,r⟩
def BH (neg:Bool):cO K (jS neg) (r2 (Mp K neg)):=by
 intro H Hm vs ds P Q s r h q;unfold jS at h;split at h
 ·rename_i ks kvs;obtain ⟨x,y,rfl,h1,h2⟩:=cL r;obtain ⟨k,rfl⟩:=jF h.1;obtain ⟨b,rfl,hb⟩:=uO h1;obtain ⟨a,es,rfl,ha,rt⟩:=EN h2;refine .inr ⟨a,_,rfl,jr.t (s _ _ ha) (s _ _ hb),?_⟩;have e:(b8 es k).isSome=(eN kvs (.tuple (k.map aZ))).isSome:=by
   rcases rt.val (k:=k) with ⟨e1,e2⟩ | ⟨v,d,e1,e2,_⟩
   ·rw [e1,e2];rfl
   ·rw [e1,e2];rfl
  rw [e];exact bE.sc q s h.2 (.bl _)
 ·rename_i w kvs _;obtain ⟨x,y,rfl,h1,h2⟩:=cL r;obtain ⟨⟨hk,hp⟩,h⟩:=h;obtain ⟨k,rfl⟩:=qB hk;cases tN h1;obtain ⟨a,es,rfl,ha,rt⟩:=sD h2 hp;refine .inr ⟨a,_,rfl,jr.k (s _ _ ha),?_⟩;have e:(b8 es k).isSome=(eN kvs (aZ k)).isSome:=by
   rcases rt.val (k:=k) with ⟨e1,e2⟩ | ⟨v,d,e1,e2,_⟩
   ·rw [e1,e2];rfl
   ·rw [e1,e2];rfl
  rw [e];exact bE.sc q s h (.bl _)
 ·rcases vs with _ | ⟨x,_ | ⟨y,_ | ⟨z,t⟩⟩⟩
  ·cases r;exact (show False from h).elim
  ·cases r with | cons _ r=>cases r;exact (by unfold EU at h;simpa using h:False).elim
  ·exact .inl (Oo neg H Hm _ _ P Q s r h q)
  ·cases r with | cons _ r=>cases r with | cons _ r=>cases r;exact (by unfold EU at h;simpa using h:False).elim
inductive IZ (x:V) (y:V)(H:Hp)(Q:VK):Prop
 | mk:∀ a v,(x=.ref a)->(jr H a y (some v))->(Q v H)->IZ x y H Q
def Of:R2:=fun x y H Q=>IZ x y H Q
def Kf (hu:X.A.units + 64 < cLine):oR X Of:=by
 intro value slice pins s U H x y v u Q I rx ry h hs;obtain ⟨a,w,rfl,g,q⟩:=h;cases rx;exact PyProof.Rows.tail_any (z8 I g) PySem.F.slot_dict_getitem.lookup (F8 (by lia) I g ry fun w' s3 I3 rw'=>⟨w,H,I3,rw',q⟩) hs
def atK (xs:XS) (i:Int):Option PyData:=match i with
 | .ofNat n=>xs[n]?
 | .negSucc n=>eF xs (.negSucc n)
def uo {xs:XS}{i:Int}:atK xs i=eF xs i:=by
 cases i with
 | ofNat n =>
  unfold atK eF oK;show xs[n]?=_;rw [if_pos (show (0:Int)<=Int.ofNat n from VW n)]
  by_cases h:n < xs.length
  ·rw [if_pos (show Int.ofNat n < (xs.length:Int) from Ui.mpr h)];rfl
  ·rw [if_neg (show ¬ Int.ofNat n < (xs.length:Int) from fun z=>h (Ui.mp z))]
   exact Sn (Nat.le_of_not_lt h)
 | negSucc n=>rfl
def aR:DR:=fun ds P=>match ds with
 | [.list xs,.int i]=>aL (atK xs i) (P .sh)
 | [.tuple xs,.int i]=>aL (atK xs i) (P .sh)
 | [.dict ((.none,.none)::kvs),.tuple ks]=>ks.all qg=true/\∃ d,eN kvs (.tuple ks)=some d/\P .sh d
 | [.dict kvs,w]=>(qg w=true/\tE kvs=true)/\∃ d,eN kvs w=some d/\P .sh d
 | ds=>Gm ds P
def Np (K:Frag):R2:=fun x y H Q=>NN K x y H Q\/Of x y H Q
def QT (hu:X.A.units + 64 < cLine):oR X (Np X.K):=DJ.or (Kf hu)
def KZ:cO K aR (r2 (Np K)):=by
 intro H Hm vs ds P Q s r h q;unfold aR at h;split at h
 ·rename_i xs i;rw [uo,<- bI] at h;obtain ⟨x,y,rfl,_,_⟩:=cL r;exact .inl (zJ H Hm _ _ P Q s r h q)
 ·rename_i xs i;rw [uo,<- bI] at h;obtain ⟨x,y,rfl,_,_⟩:=cL r;exact .inl (zJ H Hm _ _ P Q s r h q)
 ·rename_i kvs ks;obtain ⟨x,y,rfl,h2,h1⟩:=cL r;obtain ⟨hk,d,hv,h⟩:=h;obtain ⟨k,rfl⟩:=jF hk;obtain ⟨b,rfl,hb⟩:=uO h1;obtain ⟨a,es,rfl,ha,rt⟩:=EN h2;rcases rt.val (k:=k) with ⟨e1,e2⟩ | ⟨v,d',e1,e2,rv⟩
  ·rw [e1] at hv;cases hv
  ·rw [e2] at hv;cases hv;exact .inr ⟨a,v,rfl,by rw [<- e1];exact jr.t (s _ _ ha) (s _ _ hb),bE.sc q s h rv⟩
 ·rename_i kvs w _;obtain ⟨x,y,rfl,h2,h1⟩:=cL r;obtain ⟨⟨hk,hp⟩,d,hv,h⟩:=h;obtain ⟨k,rfl⟩:=qB hk;cases tN h1;obtain ⟨a,es,rfl,ha,rt⟩:=sD h2 hp;rcases rt.val (k:=k) with ⟨e1,e2⟩ | ⟨v,d',e1,e2,rv⟩
  ·rw [e1] at hv;cases hv
  ·rw [e2] at hv;cases hv;exact .inr ⟨a,v,rfl,by rw [<- e1];exact jr.k (s _ _ ha),bE.sc q s h rv⟩
 ·rcases vs with _ | ⟨x,_ | ⟨y,_ | ⟨z,t⟩⟩⟩
  ·cases r;exact (show False from h).elim
  ·cases r with | cons _ r=>cases r;exact (by unfold Gm at h;simpa using h:False).elim
  ·exact .inl (zJ H Hm _ _ P Q s r h q)
  ·cases r with | cons _ r=>cases r with | cons _ r=>cases r;exact (by unfold Gm at h;simpa using h:False).elim
def dO:DR:=fun ds P=>match ds with
 | [.dict kvs]=>tE kvs=true/\P .sh (.int kvs.length)
 | ds=>Hr ds P
def HC:cO K dO fun xs H Q=>(∃ p ys,xs=[.ref p]/\(bF K H p ys\/cJ K H p ys)/\Q (.int ys.length) H)\/∃ a kvs,xs=[V.ref a]/\H a=some (.dK kvs)/\Q (.int kvs.length) H:=by
 intro H Hm vs ds P Q s r h q;unfold dO at h;split at h
 ·obtain ⟨x,rfl,h1⟩:=dM r;obtain ⟨a,es,rfl,ha,rt⟩:=sD h1 h.1;exact .inr ⟨a,es,rfl,s _ _ ha,by rw [rt.len];exact bE.sc q s h.2 (.int _)⟩
 ·exact .inl (KO H Hm _ _ P Q s r h q)
def Rl.GR {F:Nat->XW}(R:Rl K g E U H Hm F){i:Nat}{a:Addr}(e:E[i]?=some (some (k,d)))(hF:F i=[a])(hv:U[i]?=some (some (.ref a)))(new:Own K (upd H a o) Hm k (.ref a) d' [a])(nt:qW o)(hp:k=.ow true->∃ ds,d'=.list ds) :
  Rl K g (E.set i (some (k,d'))) U (upd H a o) Hm F:=by
 have ma:a∈F i:=by rw [hF];exact RT
 have na:=R.off i a ma;have up:∀ b,b≠a->upd H a o b=H b:=fun b hb=>ak hb
 have li:=bD e;exact {
  len:=by rw [Sw];exact R.len
  sub:=fun b u hb=>by
   have:b≠a:=fun z=>by rw [z,na] at hb;cases hb
   rw [up b this];exact R.sub b u hb
  slot:=fun j k' d'' e'=>by
   by_cases c:j=i
   ·subst c;rw [aK li] at e';cases e';exact ⟨_,hv,by rw [hF];exact new⟩
   ·rw [ao (Ne.symm c)] at e';obtain ⟨u,g1,g2⟩:=R.slot j k' d'' e';refine ⟨u,g1,g2.step (ai.refl _) fun b hb=>up b fun z=>c (R.aQ j i a (z ▸ hb) ma)⟩
  off:=R.off
  bJ:=fun j b hb=>by
   by_cases c:b=a
   ·rw [c];exact ⟨_,aH,nt⟩
   ·rw [up b c];exact R.bJ j b hb
  aQ:=R.aQ
  fr:=fun q u hq ho=>by
   have:q≠a:=fun z=>by
    rcases R.new i a ma with y | y
    ·exact hq (z ▸ y)
    ·rw [z,y] at ho;cases ho
   rw [up q this];exact R.fr q u hq ho
  new:=R.new
  pin:=fun q hq=>by
   obtain ⟨g1,ds',g2⟩:=R.pin q hq
   by_cases c:i=q.1
   ·rw [<- c] at g1 g2 ⊢;rw [e] at g2;cases g2;obtain ⟨ds,rfl⟩:=hp rfl;exact ⟨g1,ds,aK li⟩
   ·exact ⟨g1,ds',by rw [ao c];exact g2⟩
  old:=R.old }
def Jr:CS:=fun o i v H Q=>JB o i v H Q\/∃ a H',o=.ref a/\qp H a i v H'/\Q H'
def OY (hu:X.A.units + 64 < cLine):Ib X Jr:=by
 intro pins s U H o i v ov iv u Q I ro ri rv h;rcases h with h | ⟨a,H',rfl,g,q⟩
 ·exact set_list pins s U H o i v ov iv u Q I ro ri rv h
 ·cases ro;exact EW (by lia) I g ri rv fun s' I'=>⟨H',I',q⟩
def LA {F:Nat->XW}{i:Nat}(R:Rl K g E U H Hm F)(ho:U[i]?=some (some o))(rw':Rp K Hm wv w)(rv:Rp K Hm vv v)(h:i7.setI E i w v Qe)
  (q:∀ E' H',Qe E'->Rl K g E' U H' Hm F->Q H'):Jr o wv vv H Q:=by
 unfold i7.setI at h;split at h
 ·rename_i p ds a e;rw [<- bI,zT] at h;obtain ⟨n,hn,h⟩:=h;cases rw';obtain ⟨v',h1,h2⟩:=R.slot i _ _ e;rw [ho] at h1;cases h1;generalize hfi:F i=fi at h2;cases h2 with
  | @ow _ b xs _ ha hr =>
   refine .inl ⟨b,xs,a,n,rfl,rfl,ha,by rw [hr.len];exact hn,q _ _ h ?_⟩
   exact R.GR e hfi ho (.ow aH (hr.set rv n)) kr fun _=>⟨_,rfl⟩
 ·rename_i p kvs _ e;obtain ⟨⟨hk,hl⟩,h⟩:=h;obtain ⟨k,rfl⟩:=qB hk;cases tN rw';obtain ⟨v',h1,h2⟩:=R.slot i _ _ e;rw [ho] at h1;cases h1;generalize hfi:F i=fi at h2;cases h2 with
  | @dk _ b es _ ha hr =>
   refine .inr ⟨b,_,rfl,qp.k ha (by rw [hr.len];exact hl),q _ _ h ?_⟩
   exact R.GR e hfi ho (.dk aH (hr.put k rv)) vZ fun z=>by cases z
 ·rename_i p kv kvs ks e;obtain ⟨⟨hk,hl⟩,h⟩:=h;obtain ⟨k,rfl⟩:=jF hk;obtain ⟨c,rfl,hc⟩:=uO rw';obtain ⟨v',h1,h2⟩:=R.slot i _ _ e;rw [ho] at h1;cases h1;generalize hfi:F i=fi at h2;cases h2 with
  | @dt _ b es _ ha hr =>
   refine .inr ⟨b,_,rfl,qp.t ha (R.sub _ _ hc) (by rw [hr.len];exact hl),q _ _ h ?_⟩
   exact R.GR e hfi ho (.dt aH (hr.put k rv)) qL fun z=>by cases z
 ·exact h.elim
def Px {i jx:Nat}(hu:X.A.units + 64 < cLine)(hv:PE X (.Name x p) (jf jx))(hj:(aT X)[jx]?=some i)(hs:swapsWithSole [.Subscript (.Name x p) j pos'] e pos.line X.env=pure false)
  (ha:∀ v,assign (.Subscript (.Name x p) j pos') X.env v=(do
   let ov <- holding [v] (eval (.Name x p) X.env)
   let iv <- holding [v,ov] (eval j X.env)
   standAt pos'
   holding [v,ov,iv] (setItem ov iv v)
   release [v,ov,iv] []))(hd:SE X Ex (aT X) e de)(hd2:SE X Ex (aT X) j dj):S1 X Ex (.Assign [.Subscript (.Name x p) j pos'] e pos) (i7 i dj de):=by
 intro g D' E U H Hm F D hx R pp nx rt;refine WS.of (Dq bg (N5 hv bg (OY hu) ha) hs) (hd g D'.xc E U H Hm F _ _ hx R pp fun E1 k v u H1 Hm1 F1 fp p1 R1 s1 T=>?_)
 replace p1:bK k.fz _:=p1
 rw [dU,dU] at p1;obtain ⟨hk,hh,p1⟩:=p1;obtain ⟨Hm2,s2,R2,r2⟩:=T.cE R1 hk;obtain ⟨o,ho⟩:=lT R2 hh;refine ⟨o,cV hj ho,hd2 g D'.xc E1 U H1 Hm2 F1 _ _ hx R2 p1 fun E3 k3 v3 u3 H3 Hm3 F3 fp3 p3 R3 s3 T3=>?_⟩
 replace p3:bK k3.fz _:=p3
 rw [dU] at p3;obtain ⟨hk3,p3⟩:=p3;obtain ⟨Hm4,s4,R4,r4⟩:=T3.cE R3 hk3;exact LA R4 ho r4 (r2.mono (s3.trans s4)) p3 fun E' H' q R'=>nx _ _ _ _ _ q R' (s1.trans (s2.trans (s3.trans s4)))
end
def ini:XX->XS->En
 | true::ms,d::ds=>some (.ow true,d)::ini ms ds
 | false::ms,d::ds=>some (.sh,d)::ini ms ds
 | _,_=>[]
def fc:XX->En->Option (XS)
 | [],_=>some []
 | true::ms,some (.ow true,.list es)::E=>(fc ms E).map (.list es::·)
 | false::ms,_::E=>fc ms E
 | _,_=>none
def fD:XX->Nat->XW->List (Nat×Addr)
 | true::ms,n,a::as=>(n,a)::fD ms (n + 1) as
 | false::ms,n,as=>fD ms (n + 1) as
 | _,_,_=>[]
def gh:XX->XW->List (XW)
 | true::ms,a::as=>[a]::gh ms as
 | false::ms,as=>[]::gh ms as
 | _,_=>[]
section
variable {K:Frag}{H Hm:Hp}
def Ag.yX (h:Ag K H Hm ms vs ds as):vs.length=ms.length:=by
 induction h with
 | nil=>rfl
 | sh _ _ ih=>rw [Sb,Sb,ih]
 | mu _ _ _ _ _ ih=>rw [Sb,Sb,ih]
def Ag.QB (h:Ag K H Hm ms vs ds as):(ini ms ds).length=vs.length:=by
 induction h with
 | nil=>rfl
 | sh _ _ ih=>rw [ini,Sb,Sb,ih]
 | mu _ _ _ _ _ ih=>rw [ini,Sb,Sb,ih]
def Ag.pins (h:Ag K H Hm ms vs ds as):∀ n,(fD ms n as).map (·.2)=as:=by
 induction h with
 | nil=>exact fun _=>rfl
 | sh _ _ ih=>exact fun n=>ih (n + 1)
 | @mu _ _ _ _ a _ _ _ _ _ _ _ ih=>exact fun n=>congrArg (a::·) (ih (n + 1))
def Ag.slot (h:Ag K H Hm ms vs ds as):∀ {i:Nat}{k:Kd}{d:PyData},(ini ms ds)[i]?=some (some (k,d))->∃ v,vs[i]?=some v/\Own K H Hm k v d ((gh ms as)[i]?.getD []):=by
 induction h with
 | nil=>intro i k d e;simp [ini] at e
 | @sh ms vs ds as v d r _ ih =>
  intro i k d' e;rw [ini] at e;cases i with
  | zero =>
   cases e;exact ⟨v,rfl,.sh r⟩
  | succ i=>exact ih e
 | @mu ms vs ds as a xs es h1 h2 h3 h4 _ ih =>
  intro i k d' e;rw [ini] at e;cases i with
  | zero =>
   cases e;exact ⟨_,rfl,.ow h1 h2⟩
  | succ i=>exact ih e
def Ag.JC (h:Ag K H Hm ms vs ds as):(∀ (i:Nat) a,a∈(gh ms as)[i]?.getD []->a∈as/\Hm a=none/\∃ xs,H a=some (.lst xs))/\∀ (i j:Nat) a,a∈(gh ms as)[i]?.getD []->a∈(gh ms as)[j]?.getD []->i=j:=by
 induction h with
 | nil=>exact ⟨fun i a h=>by simp [gh] at h,fun i j a h=>by simp [gh] at h⟩
 | @sh ms vs ds as v d r _ ih =>
  refine ⟨fun i a h=>?_,fun i j a h1 h2=>?_⟩
  ·rw [gh] at h;cases i with
   | zero=>simp at h
   | succ i=>exact ih.1 i a h
  ·rw [gh] at h1 h2;cases i with
   | zero=>simp at h1
   | succ i =>
    cases j with
    | zero=>simp at h2
    | succ j=>exact congrArg (· + 1) (ih.2 i j a h1 h2)
 | @mu ms vs ds as a xs es g1 g2 g3 g4 _ ih =>
  refine ⟨fun i b h=>?_,fun i j b h1 h2=>?_⟩
  ·rw [gh] at h;cases i with
   | zero =>
    have h:b∈[a]:=h;rw [RZ] at h;subst h;exact ⟨RT,g3,xs,g1⟩
   | succ i =>
    obtain ⟨y1,y2⟩:=ih.1 i b h;exact ⟨RY _ y1,y2⟩
  ·rw [gh] at h1 h2;cases i with
   | zero =>
    have h1:b∈[a]:=h1;rw [RZ] at h1;subst h1;cases j with
    | zero=>rfl
    | succ j=>exact absurd (ih.1 j b h2).1 g4
   | succ i =>
    cases j with
    | zero =>
     have h2:b∈[a]:=h2;rw [RZ] at h2;subst h2;exact absurd (ih.1 i b h1).1 g4
    | succ j=>exact congrArg (· + 1) (ih.2 i j b h1 h2)
def Ag.pin (h:Ag K H Hm ms vs ds as):∀ n,∀ q∈fD ms n as,∃ i,q.1=n + i/\vs[i]?=some (.ref q.2)/\∃ es,(ini ms ds)[i]?=some (some (.ow true,.list es)):=by
 induction h with
 | nil=>exact fun n q h=>by cases h
 | @sh ms vs ds as v d r _ ih =>
  intro n q h;obtain ⟨i,e,h1,h2⟩:=ih (n + 1) q h;exact ⟨i + 1,by lia,h1,h2⟩
 | @mu ms vs ds as a xs es g1 g2 g3 g4 _ ih =>
  intro n q h;have h:q∈(n,a)::fD ms (n + 1) as:=h;rcases S2.mp h with rfl | h
  ·exact ⟨0,rfl,rfl,es,rfl⟩
  ·obtain ⟨i,e,h1,h2⟩:=ih (n + 1) q h;exact ⟨i + 1,by lia,h1,h2⟩
def Ag.back {H' Hm':Hp}{E:En}(h:Ag K H Hm ms vs ds as):∀ {n:Nat}{us:XS},(∀ q∈fD ms n as,∃ es xs,E[q.1]?=some (some (.ow true,.list es))/\H' q.2=some (.lst xs)/\aA K Hm' xs es/\Hm' q.2=none)->fc ms (E.drop n)=some us->Bk K H' Hm' as us:=by
 induction h with
 | nil=>intro n us _ e;cases e;exact .nil
 | @sh ms vs ds as v d r _ ih =>
  intro n us hq e;cases hE:E.drop n with
  | nil=>rw [hE] at e;cases e
  | cons o E' =>
   rw [hE] at e;refine ih (n:=n + 1) hq ?_;rw [show E.drop (n + 1)=E' from by rw [<- List.tail_drop,hE];rfl]
   exact e
 | @mu ms vs ds as a xs es g1 g2 g3 g4 _ ih =>
  intro n us hq e;obtain ⟨es',xs',e1,e2,e3,e4⟩:=hq (n,a) RT;cases hE:E.drop n with
  | nil=>rw [hE] at e;cases e
  | cons o E' =>
   have ho:o=some (.ow true,.list es'):=by
    have:=Wg (xs:=E) (i:=n) (j:=0);rw [hE,Nat.add_zero] at this;have e1:E[n]?=_:=e1;rw [e1] at this;exact Option.some.inj this
   subst ho;rw [hE] at e;have e:(fc ms E').map (PyData.list es'::·)=some us:=e;cases hb:fc ms E' with
   | none=>rw [hb] at e;cases e
   | some us' =>
    rw [hb] at e;cases e;refine .cons e2 e3 e4 (ih (n:=n + 1) (fun q hq'=>hq q (RY _ hq')) ?_)
    rw [show E.drop (n + 1)=E' from by rw [<- List.tail_drop,hE];rfl]
    exact hb
def Gi {n:Nat}(h:n<=U.length):sel (List.range n) U=U.take n:=by
 refine To fun i=>?_
 unfold sel;rw [S7,List.getElem?_take]
 by_cases c:i < n
 ·rw [Sv c,if_pos c];have l:i < U.length:=by lia
  rw [S9 l];show some ((U[i]?).join)=some U[i];rw [S9 l];rfl
 ·rw [if_neg c,Sn (by rw [SA];lia)]
  rfl
def Ag.rl (h:Ag K H Hm ms vs ds as)(s:ai Hm H) (m:Nat):Rl K ⟨H,Hm,fD ms 0 as⟩ (ini ms ds++List.replicate m none) (vs.map some++List.replicate m none) H Hm (fun i=>(gh ms as)[i]?.getD []):=by
 have hM:Gh.M ⟨H,Hm,fD ms 0 as⟩=as:=h.pins 0;have inE:∀ {i:Nat}{k:Kd}{d:PyData},(ini ms ds++List.replicate m none)[i]?=some (some (k,d))->(ini ms ds)[i]?=some (some (k,d)):=fun {i k d} e=>by
  rcases Sq i (ini ms ds).length with l | l
  ·rwa [UT l] at e
  ·rw [UC l] at e;have:=SR e;have:=List.eq_of_mem_replicate this;cases this
 have inV:∀ {i:Nat}{v:V},vs[i]?=some v->(vs.map some++List.replicate m none)[i]?=some (some v):=fun {i v} e=>by
  have l:=bD e;rw [UT (by rw [RX];exact l),S7,e]
  rfl
 exact {
  len:=by rw [SJ,SJ,h.QB,RX,TZ,TZ]
  sub:=s
  slot:=fun i k d e=>by
   obtain ⟨v,h1,h2⟩:=h.slot (inE e);exact ⟨v,inV h1,h2⟩
  off:=fun i a ha=>(h.JC.1 i a ha).2.1
  bJ:=fun i a ha=>by
   obtain ⟨_,_,xs,e⟩:=h.JC.1 i a ha;exact ⟨_,e,kr⟩
  aQ:=fun i j a h1 h2=>h.JC.2 i j a h1 h2
  fr:=fun p o _ e=>e
  new:=fun i a ha=>.inl (by rw [hM];exact (h.JC.1 i a ha).1)
  pin:=fun q hq=>by
   obtain ⟨i,e,h1,es,h2⟩:=h.pin 0 q hq;rw [Vj] at e;rw [e];refine ⟨inV h1,es,?_⟩;rw [UT (bD h2)];exact h2
  old:=fun _ _=>.inl rfl }
end
section
variable {P:Program}{w:World}{K:Frag}{mg:XG}{base:Heap}
def aU (ms:XX)(Q:XS->Kd->PyData->Prop)(x:XC):gJ where
 nx:=fun E=>aL (fc ms E) fun us=>Q us .sh .none
 rt:=fun E k v=>aL (fc ms E) fun us=>Q us k v
 xc:=x
def bA {f:Addr}{N ps:Xc}{k:Nat}{ms:XX}{sp:bq}{d:DS}{m:Nat}(F:uB K x qual st f fd)(S:aJ N ps (au st))(hl:ms.length=ps.length)(hm:N.length<=ps.length + m)
  (hb:∀ (cdv:Value)(A:Around)(outer:List Env)(s:Shared)(H:Hp)(Ex:XK),ef k (A.deeper (PyProof.Rows.envOfC qual (au st) s.heap.objs.size f cdv))->SS (gp (fN P w) P w K mg base N qual (au st) f cdv A outer s H Ex) Ex (iy st) d)
  (hd:∀ (ds:XS)(Q:XS->Kd->PyData->Prop)(x:XC),sp ds Q x->d (aU ms Q x) (ini ms ds++List.replicate m none)):gn P w K mg base (fN P w) (k + 1) f fd ps (cC mg K ms sp):=by
 refine F.Rr S (fun vs H Q E h=>?_) (fun cdv A outer s H vs Q E hr h=>?_)
 ·obtain ⟨ds,as,Hm,P',x,_,ag,_⟩:=h;rw [ag.yX,hl]
 ·obtain ⟨ds,as,Hm,P',xc,sm,ag,hsp,ret,exn⟩:=h;refine ⟨_,jo,?_⟩;have R:=ag.rl sm m;have hpre:N.length >= vs.length:=by
   rw [ag.yX,hl];have:=congrArg List.length S.pre;rw [U3] at this;lia
  have hsel:L2.start N vs=sel (List.range N.length) (vs.map some++List.replicate m none):=by
   have hv:vs.length=ps.length:=by rw [ag.yX,hl]
   rw [Gi (by rw [SJ,RX,TZ];lia)]
   unfold L2.start;rw [List.take_append,RX,Uv (by rw [RX];exact hpre),List.take_replicate]
   congr 2;lia
  rw [hsel];have hM:Gh.M ⟨H,Hm,fD ms 0 as⟩=as:=ag.pins 0;have fin:∀ {E':En}{k:Kd}{v:PyData}{u:V}{σ':St}{H' Hm':Hp}{F':Nat->XW}{fp:XW},(aL (fc ms E') fun us=>P' us k v)->Rl K ⟨H,Hm,fD ms 0 as⟩ E' σ' H' Hm' F'->Tm K ⟨H,Hm,fD ms 0 as⟩ F' H' Hm' k u v fp->Q u H':=by
   intro E' k v u σ' H' Hm' F' fp p R' T;rw [<- bI] at p;obtain ⟨us,hus,p⟩:=p;refine ret us k v u H' Hm' fp p (fun a o e=>?_) R'.sub (fun p o hp e=>R'.fr p o (by rw [hM];exact hp) e) (fun a _ ha=>R'.old a ha) ?_ T.own fun a ha=>⟨T.new a ha,T.off a ha⟩
   ·have:H a≠none:=fun z=>by rw [sm _ _ e] at z;cases z
    rcases R'.old a this with e' | ⟨e',_⟩
    ·exact e'.trans e
    ·have e':Hm a=none:=e';rw [e] at e';cases e'
   ·refine ag.back (E:=E') (n:=0) (fun q hq=>?_) (by rw [Vq];exact hus)
    obtain ⟨h1,es,h2⟩:=R'.pin q hq;obtain ⟨v',h3,h4⟩:=R'.slot _ _ _ h2;have hF:=R'.CJ hq;rw [h1] at h3;cases h3;rw [hF] at h4;cases h4 with
    | ow e1 e2=>exact ⟨es,_,h2,e1,e2,R'.off q.1 q.2 (by rw [hF];exact RT)⟩
  refine hb cdv A outer s H E hr ⟨H,Hm,fD ms 0 as⟩ (aU ms P' xc) _ _ H Hm _ _ (fun c d' C a H' hC hx fr ha hn=>exn c d' C a H' hC hx (fun p o hp ho=>fr p o (by rw [hM];exact hp) ho) ha hn) R (hd ds P' xc hsp) (fun E' σ' H' Hm' F' p R' _=>?_) (fun E' k v u σ' H' Hm' F' fp p R' T=>fin p R' T)
  exact fin (k:=.sh) (v:=.none) (u:=.br) p R' (Tm.sh .br)
end
end Dv
namespace L2
open PySem PySem.Spec PyProof.Rows
section
variable {prog:Program}{w:World}{A:Around}{R:Result->Shared->Prop}{it:Addr}{fp wr:XW}{n:Nat}{P:Nat->Value->Prop}{Z:Nat->Heap->Prop}
def JG:(toString "min"++toString ".loop":String)="min.loop":=by decide
def Lr (Wk:Walks prog w A.in1 it fp wr n P Z)(bt:Nat->Nat->Bool)(cm:CmpOf prog w A.in1 .Lt P bt)(B:Addr)(nB:B∉fp)(kw:List (Str×Value)) :
  ∀ (d j:Nat)(t:Shared)(vb:Value) (c:Nat),n - (j + 1)=d->j + 1<=n->Z (j + 1) t.heap->P (argBest bt j) vb->t.heap.get? B=some { cls:=.type "list",dict:=none,data:=.seq #[vb,vb] c,slots:=#[] } ->
  (∀ v h1 tk,P (argBest bt (n - 1)) v->(∀ b o,b∉wr->b≠B->t.heap.get? b=some o->h1.get? b=some o)->R (.ok (.ret v)) { t with heap:=h1,toks:=tk }) ->
  codeAny (model prog w) A (.builtin "min.loop" ⟨[.ref it,.none,.ref B],kw⟩) R t:=by
 have nBw:B∉wr:=fun z=>nB (Wk.sub _ z)
 intro d
 induction d with
 | zero =>
  intro j t vb c ed lj zt pb eB hR;have en:j + 1=n:=by lia
  refine Tu Vw (id (by
   rw [UJ UA _];show wpAny _ A.in1 (seqItems? (.ref B) >>= _) _ _ t;refine R8 (Vx eB rfl (id (show wpAny _ A.in1 (tryCatch (pyNext (.ref it)) _ >>= _) _ _ t from R8 (VR (Wk.done t _ _ (en ▸ zt) fun h1 tk k1=>?_)))))
   have eB1:=k1 B _ nBw eB;show wpAny _ A.in1 (updateSeq B (fun _=>#[]) >>= _) _ _ _
   refine R8 (id (wpAny_updateSeq eB1 rfl (R8 (wpAny_letGo (R9 ?_)))));exact hR vb _ tk (by rw [<- en];exact pb) fun b o bw bB e=>(Sz _ _ (Ne.symm bB)).trans (k1 b o bw e)))
 | succ d ih =>
  intro j t vb c ed lj zt pb eB hR;have lt:j + 1 < n:=by lia
  refine Tu Vw (id (by
   rw [UJ UA _];show wpAny _ A.in1 (seqItems? (.ref B) >>= _) _ _ t;refine R8 (Vx eB rfl (id (show wpAny _ A.in1 (tryCatch (pyNext (.ref it)) _ >>= _) _ _ t from R8 (VR (Wk.item (j + 1) t _ _ lt zt fun v h1 tk pv z1 k1=>?_)))))
   have eB1:=k1 B _ nBw eB;show wpAny _ A.in1 (tryCatch (holding [v,v] (richCompare .Lt v vb >>= _)) _ >>= _) _ _ _;refine R8 (VR (Sx (R8 (cm (j + 1) (argBest bt j) v vb _ _ _ pv pb (R8 (Sx (UB (R8 (wpAny_letGo (R9 ?_))))))))));cases hb:bt (j + 1) (argBest bt j) with
   | true =>
    rw [if_pos rfl];refine R8 (id (wpAny_updateSeq eB1 rfl (R8 (wpAny_letGo ?_))));rw [JG];refine R9 ⟨UK UA _,ih (j + 1) _ v _ (by lia) lt (Wk.frame _ _ _ z1 fun b bf o e=>?_) (by rw [argBest,hb,if_pos rfl];exact pv) (Tc _ eB1 rfl) fun v2 h2 tk2 pv2 k2=>?_⟩
    ·exact (Sz _ _ (fun z:B=b=>nB (by rw [z];exact bf))).trans e
    ·exact hR v2 h2 tk2 pv2 fun b o bw bB e=>k2 b o bw bB ((Sz _ _ (Ne.symm bB)).trans (k1 b o bw e))
   | false =>
    rw [if_neg SQ];refine R8 (wpAny_letGo ?_);rw [JG];refine R9 ⟨UK UA _,ih (j + 1) _ vb c (by lia) lt z1 (by rw [argBest,hb,if_neg SQ];exact pb) eB1 fun v2 h2 tk2 pv2 k2=>?_⟩
    exact hR v2 h2 tk2 pv2 fun b o bw bB e=>k2 b o bw bB (k1 b o bw e)))
def Cr (Wk:Walks prog w A.in1 it fp wr n P Z)(bt:Nat->Nat->Bool)(cm:CmpOf prog w A.in1 .Lt P bt)(B:Addr)(nB:B∉fp)(kw:List (Str×Value))(pos:0 < n){c:Nat}(zt:Z 0 t.heap)
  (eB:t.heap.get? B=some { cls:=.type "list",dict:=none,data:=.seq #[] c,slots:=#[] })
  (hR:∀ v h1 tk,P (argBest bt (n - 1)) v->(∀ b o,b∉wr->b≠B->t.heap.get? b=some o->h1.get? b=some o)->R (.ok (.ret v)) { t with heap:=h1,toks:=tk }) :
  codeAny (model prog w) A (.builtin "min.loop" ⟨[.ref it,.none,.ref B],kw⟩) R t:=by
 have nBw:B∉wr:=fun z=>nB (Wk.sub _ z)
 refine Tu Vw (id (by
  rw [UJ UA _];show wpAny _ A.in1 (seqItems? (.ref B) >>= _) _ _ t;refine R8 (Vx eB rfl (id (show wpAny _ A.in1 (tryCatch (pyNext (.ref it)) _ >>= _) _ _ t from R8 (VR (Wk.item 0 t _ _ pos zt fun v h1 tk pv z1 k1=>?_)))))
  have eB1:=k1 B _ nBw eB;show wpAny _ A.in1 (updateSeq B (fun _=>#[v,v]) >>= _) _ _ _
  refine R8 (id (wpAny_updateSeq eB1 rfl ?_));rw [JG];refine R9 ⟨UK UA _,Lr Wk bt cm B nB kw _ 0 _ v _ rfl pos (Wk.frame _ _ _ z1 fun b bf o e=>?_) pv (Tc _ eB1 rfl) fun v2 h2 tk2 pv2 k2=>?_⟩
  ·exact (Sz _ _ (fun z:B=b=>nB (by rw [z];exact bf))).trans e
  ·exact hR v2 h2 tk2 pv2 fun b o bw bB e=>k2 b o bw bB ((Sz _ _ (Ne.symm bB)).trans (k1 b o bw e))))
def Gk (Wk:Walks prog w A.in1 it fp wr 0 P Z)(B:Addr)(nB:B∉fp) (k0:Str)(d:Value){c:Nat}(zt:Z 0 t.heap)
  (eB:t.heap.get? B=some { cls:=.type "list",dict:=none,data:=.seq #[] c,slots:=#[] })
  (hR:∀ h1 tk,(∀ b o,b∉wr->t.heap.get? b=some o->h1.get? b=some o)->R (.ok (.ret d)) { t with heap:=h1,toks:=tk }) :
  codeAny (model prog w) A (.builtin "min.loop" ⟨[.ref it,.none,.ref B],[(k0,d)]⟩) R t:=by
 refine Tu Vw (id (by
  rw [UJ UA _];show wpAny _ A.in1 (seqItems? (.ref B) >>= _) _ _ t;refine R8 (Vx eB rfl (id (show wpAny _ A.in1 (tryCatch (pyNext (.ref it)) _ >>= _) _ _ t from R8 (VR (Wk.done t _ _ zt fun h1 tk k1=>?_)))))
  show wpAny _ A.in1 (rule _ >>= _) _ _ _;exact R8 (TJ (R9 (hR h1 tk k1)))))
end
section
variable {prog:Program}{w:World}{A:Around}{E:XE}{s:Shared}{l:Addr}{xs:Array (Int×Tok)}
def DN (a d:Value):argsOk "min" ⟨[a],[("default",d)]⟩:=by unfold argsOk;kernel_rfl
def Ed (hh:A.handled=none)(hl:s.heap.IsList l (intItems xs))
  (h0:xs.size=0->∀ h' tk,(∀ b o,s.heap.get? b=some o->h'.get? b=some o)->Q d { s with heap:=h',toks:=tk })
  (h:0 < xs.size->∀ v h' tk,(intItems xs)[argBest (fun i j=>decide (numAt xs i < numAt xs j)) (xs.size - 1)]?=some v->(∀ b o,s.heap.get? b=some o->h'.get? b=some o)->Q v { s with heap:=h',toks:=tk }) :
  wpAny (model prog w) A (call (.builtin "min") [.ref l] [("default",d)]) Q E s:=by
 refine wpAny_call (codeAny_call_builtin F.plain_min F.entry_min ?_);have go:wpAny (model prog w) A.in1 (Builtin.«min» ⟨[.ref l],[("default",d)]⟩) (fun fin t=>match fin with
   | .done f=>(match (Except.ok f:Result) with | .ok (.ret v)=>Q v t | .ok _=>False | .error e=>E e t)
   | .again c=>c.quiet=true/\codeAny (model prog w) A c (fun r t=>match r with | .ok (.ret v)=>Q v t | .ok _=>False | .error e=>E e t) t) E s:=by
  show wpAny _ A.in1 (Builtin.Builtins.bindParams "min" ["key","default"] 0 ⟨[],[("default",d)]⟩ >>= _) _ _ s;refine R8 (Uu (show Builtin.Builtins.bindParams "min" ["key","default"] 0 ⟨[],[("default",d)]⟩=pure [none,some d] from rfl) (R8 (R9 (id (R8 (iter_intList hl fun t e st hfp hlI=>R8 (T7 ?_)))))))
  subst e;have nS:(s.heap.push { cls:=.type "list_iterator",data:=.fields #[.ref l,.int 0 0] }).objs.size∉[s.heap.objs.size,l]:=fun hm=>Sf _ (hfp _ hm)
  have Wk:=Walks.list (prog:=prog) (w:=w) (A:=A.in1) hh s.heap.objs.size l hlI (intItems xs);rw [JG]
  by_cases c:xs.size=0
  ·have e0:(intItems xs).size=0:=by simpa [intItems] using c
   rw [e0] at Wk;refine R9 ⟨UK UA _,Gk Wk _ nS _ d (Wk.frame _ _ _ st fun b _ o e=>S5 _ e) (SY _ rfl) fun h1 tk k1=>?_⟩
   exact h0 c h1 tk fun b o e=>k1 b o (fun hm=>absurd (RZ.mp hm ▸ S3 e) (Sf _)) (S5 _ (S5 _ e))
  ·have pos:0 < (intItems xs).size:=by
    have:(intItems xs).size=xs.size:=by simp [intItems]
    lia
   refine R9 ⟨UK UA _,Cr Wk _ (CmpOf.ints_lt (numAt xs) (fun _ _=>intItems_at)) _ nS _ pos (Wk.frame _ _ _ st fun b _ o e=>S5 _ e) (SY _ rfl) fun v h1 tk pv k1=>?_⟩
   refine h (by lia) v h1 tk (by simpa [intItems] using pv) fun b o e=>?_
   have l1:=S3 e;refine k1 b o (fun hm=>absurd (RZ.mp hm ▸ l1) (Sf _)) (fun z=>?_) (S5 _ (S5 _ e))
   rw [z] at l1;rw [UL] at l1;exact Sf _ (Nat.lt_of_succ_lt l1)
 simp only [checkBuiltinCall,F.kind_min];cases hsig:Manifest.signature? "min" with
 | none=>exact R9 go
 | some sig =>
  have ha:=DN (.ref l) d;have ha':Bind.checkArgs "min" sig ⟨[.ref l],[("default",d)]⟩=pure ():=by simpa only [argsOk,hsig] using ha
  simp only [ha'];exact R9 go
end
section
variable {X:Cx}
def Pj (K:XO)(ta td:TE):TE:=fun U H Q=>qF ta uK U H fun vs H1=>qF td uK U H1 fun zs H2=>∃ (a:Addr)(ns:Xb) (d:V),vs=[.ref a]/\zs=[d]/\bF K H2 a (ns.map V.int)/\(ns=[]->Q d H2)/\(∀ M,M∈ns->(∀ n∈ns,M<=n)->Q (.int M) H2)
def JP (hc:X.calm=true)(hg:Gl X "min")(hm:X.mg "min"=none)(ha:PE X e ta)(hd:PE X d td)
  (hs:starEach [e] X.env=[(false,eval e X.env)]:=by rfl):PE X (.Call (.Name "min" p) [e] [⟨some "default",d,kp⟩] pos) (Pj X.K ta td):=by
 intro pins s U H Q I h;refine Va (jE I hg hm Wh ?_ (by decide) (by decide))
 refine PyProof.Rows.callWith_kw (e:=e) (rest:=[]) (kws:=[⟨some "default",d,kp⟩]) ?_ (by rw [hs];rfl) (by rw [hs];rfl) rfl rfl
 have one:PA X [e] (qF ta uK):=eT ha gH hs;have two:PK X [⟨some "default",d,kp⟩] (qF td uK):=JX hd Oq;refine aM (one pos pins s U H _ I h) fun us s1 ⟨vs,H1,I1,r1,q1⟩=>?_
 refine aM (two pos pins s1 U H1 _ I1 q1) fun ws s2 ⟨zs,H2,I2,r2,a,ns,dv,e1,e2,hq,q0,q⟩=>?_
 subst e1 e2;obtain ⟨u,rfl,ru⟩:=vals1 r1;obtain ⟨u2,rfl,ru2⟩:=vals1 r2;cases ru;obtain ⟨its,rv,pl,_⟩:=I2.list hq;obtain ⟨ps,rfl,rfl⟩:=vd rv;have hl:s2.heap.IsList a (intItems ps.toArray):=by
  have:=pl.isList
  simpa [intItems] using this
 refine Ed (I2.ok.hd hc) hl (fun e0 h' tk k=>⟨dv,H2,I2.kept (t':=tk) k,ru2,q0 ?_⟩) fun pos v h' tk hv k=>?_
 ·have:ps=[]:=VS (by simpa using e0)
  rw [this];rfl
 ·obtain ⟨t,rfl⟩:=intItems_at hv;obtain ⟨g1,g2⟩:=argBest_lt (numAt ps.toArray) (ps.toArray.size - 1);have pos':0 < ps.length:=by simpa using pos
  refine ⟨.int _,H2,I2.kept (t':=tk) k,⟨_,rfl⟩,q _ ?_ fun n hn=>?_⟩
  ·rw [numAt_eq];exact getD_mem (by simp at g1 ⊢;lia)
  ·obtain ⟨j,hj,rfl⟩:=mem_getD hn;rw [RX] at hj;rw [show (ps.map (·.1)).getD j 0=numAt ps.toArray j by rw [numAt_eq]]
   exact g2 j (by simp;lia)
end
end L2
namespace Dv
open PySem L2 PySem.W
section
variable {X:Cx}{Ex:XK}{Y:Xa}
def xI {i:Int} {j}:SE X Ex Y (.Constant (.int i) j pos) (dC (.int i)):=Ct OD fun _=>.int i
def xS {j}:SE X Ex Y (.Constant (.str x) j pos) (dC (.str x)):=Ct Gg fun _=>.str x
def xB {b:Bool} {j}:SE X Ex Y (.Constant (.bool b) j pos) (dC (.bool b)):=Ct OT fun _=>.bl b
def xN {j}:SE X Ex Y (.Constant .none j pos) (dC .none):=Ct Ml fun _=>.br
def xV (j:Nat){i:Nat}(hN:X.N[j]?=some x:=by rfl)(hv:jG X.env.scope x:=by first | exact Or.inl rfl | exact Or.inr (Or.inl rfl) | exact Or.inr (Or.inr rfl))(hj:Y[j]?=some i:=by rfl)(hd:(x == ("__debug__":Str))=false:=by decide)
  (hcd:(x == ("__classdict__":Str))=false:=by decide):SE X Ex Y (.Name x pos) (bN i):=Oe (fm hN hv hd hcd) hj
def a0:aS X Ex Y [] []:=.nil
def aP (j:Nat){i:Nat}(S:aS X Ex Y es as)(hN:X.N[j]?=some x:=by rfl)(hv:jG X.env.scope x:=by first | exact Or.inl rfl | exact Or.inr (Or.inl rfl) | exact Or.inr (Or.inr rfl))(hj:Y[j]?=some i:=by rfl)(hd:(x == ("__debug__":Str))=false:=by decide)
  (hcd:(x == ("__classdict__":Str))=false:=by decide):aS X Ex Y (.Name x pos::es) (.pk i::as):=.pk (fm hN hv hd hcd) hj S
def aE (h:SE X Ex Y e d)(S:aS X Ex Y es as):aS X Ex Y (e::es) (.ev d::as):=.ev h S
def nE:DR:=nZ fun i j=>.int (i - j)
def jL:DR:=w5 (fun _ j=>0 < j) fun i j=>.int (i % j)
def uF:DR:=w5 BQ fun i j=>.int (i / j)
def HF:DR:=w5 Ia fun i j=>.int (i ^ j.toNat)
def Fw:DR:=nZ fun i j=>.bool (decide (i < j))
def Rh:DR:=nZ fun i j=>.bool (decide (i<=j))
def vR:DR:=nZ fun i j=>.bool (decide (j < i))
def Ni:DR:=nZ fun i j=>.bool (decide (j<=i))
def za:DR:=fun ds P=>match ds with
 | [.int a]=>P .sh (.int (-a))
 | _=>False
def Lb:cO K za (r1 (rU fun i=>.int (-i))):=by
 intro H Hm vs ds P Q s r h q;unfold za at h;split at h
 ·obtain ⟨x,rfl,h1⟩:=dM r;cases h1;exact ⟨_,rfl,bE.sc q s h (.int _)⟩
 ·exact h.elim
variable {a b:Expr}{pos:Pos}{as:List Arg}
def gU (S:aS X Ex Y [a,b] as):SE X Ex Y (.BinOp a .Add b pos) (ah dP as):=ni K2 JU S
def xo (S:aS X Ex Y [a,b] as):SE X Ex Y (.BinOp a .Sub b pos) (ah nE as):=ni Ol (kB fun _ _ _=>.int _) S
def oZ (S:aS X Ex Y [a,b] as):SE X Ex Y (.BinOp a .Mult b pos) (ah i8 as):=ni Kh KH S
def l9 (S:aS X Ex Y [a,b] as):SE X Ex Y (.BinOp a .Mod b pos) (ah jL as):=ni LK (u9 fun _ _ _=>.int _) S
def C8 (S:aS X Ex Y [a,b] as):SE X Ex Y (.BinOp a .FloorDiv b pos) (ah uF as):=ni G7 (u9 fun _ _ _=>.int _) S
def QS (S:aS X Ex Y [a,b] as):SE X Ex Y (.BinOp a .Pow b pos) (ah HF as):=ni Me (u9 fun _ _ _=>.int _) S
def Q8 (S:aS X Ex Y [a] as):SE X Ex Y (.UnaryOp .USub a pos) (ah za as):=OU N7 Lb S
def RG (S:aS X Ex Y [a,b] as):SE X Ex Y (.Compare a [.Gt] [b] pos) (ah vR as):=sP IY (gF _) (kB fun _ _ _=>.bl _) S
def Qs (hu:X.A.units + 64 < cLine)(S:aS X Ex Y [a,b] as):SE X Ex Y (.Compare a [.Eq] [b] pos) (ah m6 as):=sP (FT hu) (gF _) Eg S
def Qt (S:aS X Ex Y [a,b] as):SE X Ex Y (.Compare a [.Is] [b] pos) (ah (cG false) as):=sP E8 (gF _) AL S
def Qo (hu:X.A.units + 64 < cLine)(S:aS X Ex Y [a,b] as)(hm:behindInMarks .In b=false:=by rfl):SE X Ex Y (.Compare a [.In] [b] pos) (ah (jS false) as):=sP (FP hu) hm (BH false) S
def MM (S:aS X Ex Y [a,b] as):bT X Ex Y (.Compare a [.Lt] [b] pos) (ah Fw as):=iw tU (gF _) (kB fun _ _ _=>.bl _) S
def Jm (S:aS X Ex Y [a,b] as):bT X Ex Y (.Compare a [.Gt] [b] pos) (ah vR as):=iw IY (gF _) (kB fun _ _ _=>.bl _) S
def Rk (S:aS X Ex Y [a,b] as):bT X Ex Y (.Compare a [.GtE] [b] pos) (ah Ni as):=iw OX (gF _) (kB fun _ _ _=>.bl _) S
def Ji (hu:X.A.units + 64 < cLine)(S:aS X Ex Y [a,b] as):bT X Ex Y (.Compare a [.Eq] [b] pos) (ah m6 as):=iw (FT hu) (gF _) Eg S
def DG (hu:X.A.units + 64 < cLine)(S:aS X Ex Y [a,b] as):bT X Ex Y (.Compare a [.NotEq] [b] pos) (ah lX as):=iw (MT hu) (gF _) Nv S
def LN (S:aS X Ex Y [a,b] as):bT X Ex Y (.Compare a [.Is] [b] pos) (ah (cG false) as):=iw E8 (gF _) AL S
def QY (S:aS X Ex Y [a,b] as):bT X Ex Y (.Compare a [.IsNot] [b] pos) (ah (cG true) as):=iw KJ (gF _) Ie S
def Qu (hu:X.A.units + 64 < cLine)(S:aS X Ex Y [a,b] as)(hm:behindInMarks .In b=false:=by rfl):bT X Ex Y (.Compare a [.In] [b] pos) (ah (jS false) as):=iw (FP hu) hm (BH false) S
def tB (h:SE X Ex Y e d)(he:∀ whole,isTrue e X.env whole=(do let v <- whole;standAt e.pos;holding [v] (truthy v)):=by intro _;rfl):bT X Ex Y e d:=h.AZ he
def tV (j:Nat){i:Nat}(hN:X.N[j]?=some x:=by rfl)(hv:jG X.env.scope x:=by first | exact Or.inl rfl | exact Or.inr (Or.inl rfl) | exact Or.inr (Or.inr rfl))(hj:Y[j]?=some i:=by rfl)(hd:(x == ("__debug__":Str))=false:=by decide)
  (hcd:(x == ("__classdict__":Str))=false:=by decide):ST X Ex Y (.Name x pos) (AJ i):=QC (fm hN hv hd hcd) hj fun _=>rfl
def bW (hu:X.A.units + 64 < cLine)(S:aS X Ex Y [a,b] as)(hs:mR b:=by intro _ _;rfl):SE X Ex Y (.Subscript a b pos) (ah aR as):=O6 (QT hu) hs KZ S
variable {p:Pos}
def jm (hm:X.mg "len"=none)(S:aS X Ex Y [a] as)(hg:Gl X "len":=by rfl)(ns:noStar a=true:=by rfl):SE X Ex Y (.Call (.Name "len" p) [a] [] pos) (ah dO as):=fR (xw.or D3) HC hg hm PySem.boot_len (by decide) (by decide) (by rw [SG,ns];rfl) S
def lV (hm:X.mg "list"=none)(S:aS X Ex Y [a] as)(hg:Gl X "list":=by rfl)(ns:noStar a=true:=by rfl):SE X Ex Y (.Call (.Name "list" p) [a] [] pos) (ah f7 as):=pO zj Hx hg hm PyProof.Rows.boot_list (by decide) (by decide) (by rw [SG,ns];rfl) S
def MR (hm:X.mg "tuple"=none)(S:aS X Ex Y [a] as)(hg:Gl X "tuple":=by rfl)(ns:noStar a=true:=by rfl):SE X Ex Y (.Call (.Name "tuple" p) [a] [] pos) (ah nj as):=pO oO ES hg hm PyProof.Rows.boot_tuple (by decide) (by decide) (by rw [SG,ns];rfl) S
def G6 (hm:X.mg "min"=none)(S:aS X Ex Y [a,b] as)(hc:X.calm=true:=by rfl)(hg:Gl X "min":=by rfl)(ns:noStar a=true:=by rfl)(ns2:noStar b=true:=by rfl):SE X Ex Y (.Call (.Name "min" p) [a,b] [] pos) (ah t6 as):=fR (EY hc) IS hg hm Wh (by decide) (by decide) (by rw [SG,SG,ns,ns2];rfl) S
def HD (hm:X.mg "max"=none)(S:aS X Ex Y [a,b] as)(hc:X.calm=true:=by rfl)(hg:Gl X "max":=by rfl)(ns:noStar a=true:=by rfl)(ns2:noStar b=true:=by rfl):SE X Ex Y (.Call (.Name "max" p) [a,b] [] pos) (ah t7 as):=fR (ED hc) IS hg hm PyProof.Rows.boot_max (by decide) (by decide) (by rw [SG,SG,ns,ns2];rfl) S
def OV (hm:X.mg "min"=none)(S:aS X Ex Y [a] as)(hc:X.calm=true:=by rfl)(hg:Gl X "min":=by rfl)(ns:noStar a=true:=by rfl):SE X Ex Y (.Call (.Name "min" p) [a] [] pos) (ah wU as):=fR (DA hc) GL hg hm Wh (by decide) (by decide) (by rw [SG,ns];rfl) S
def QK (hm:X.mg "abs"=none)(S:aS X Ex Y [a] as)(hg:Gl X "abs":=by rfl)(ns:noStar a=true:=by rfl):SE X Ex Y (.Call (.Name "abs" p) [a] [] pos) (ah yf as):=fR Hs Ly hg hm PyProof.Rows.boot_abs (by decide) (by decide) (by rw [SG,ns];rfl) S
def Q3 (hm:X.mg "int"=none)(S:aS X Ex Y [a] as)(hg:Gl X "int":=by rfl)(ns:noStar a=true:=by rfl):SE X Ex Y (.Call (.Name "int" p) [a] [] pos) (ah mY as):=pO D5 EK hg hm Wi (by decide) (by decide) (by rw [SG,ns];rfl) S
def QE (hm:X.mg "any"=none)(S:aS X Ex Y [a] as)(hc:X.calm=true:=by rfl)(hg:Gl X "any":=by rfl)(ns:noStar a=true:=by rfl):SE X Ex Y (.Call (.Name "any" p) [a] [] pos) (ah BW as):=fR (FZ hc) Lc hg hm PyProof.Rows.boot_any (by decide) (by decide) (by rw [SG,ns];rfl) S
def Ec (hm:X.mg "sorted"=none)(S:aS X Ex Y [a] as)(hg:Gl X "sorted":=by rfl)(ns:noStar a=true:=by rfl):SE X Ex Y (.Call (.Name "sorted" p) [a] [] pos) (ah pC as):=fR xA Fx hg hm Wj (by decide) (by decide) (by rw [SG,ns];rfl) S
def Eu (h1:X.mg "list"=none)(h2:X.mg "range"=none)(S:aS X Ex Y [a] as)(hc:X.calm=true:=by rfl)(g1:Gl X "list":=by rfl)(g2:Gl X "range":=by rfl)(ns:noStar a=true:=by rfl):SE X Ex Y (.Call (.Name "list" p) [.Call (.Name "range" p2) [a] [] pos2] [] pos) (ah kP as):=HN hc g1 h1 g2 h2 ns S
def fL (S:aS X Ex Y es as)(ns:es.all noStar=true:=by rfl):SE X Ex Y (.List es pos) (ah dQ as):=Mu ns S
def uX {k:Nat}(S:aS X Ex Y es as)(ns:es.all noStar=true:=by rfl):SE X Ex Y (.Tuple es k pos) (ah jK as):=Nj ns S
variable {tg:Expr}
def zZ (hm:X.mg "range"=none)(S:aS X Ex Y [a] as)(hg:Gl X "range":=by rfl)(ns:noStar a=true:=by rfl):SI X Ex Y tg (.Call (.Name "range" p) [a] [] pos) (nh pG as):=P5 hg hm ns S
def RN (hm:X.mg "range"=none)(S:aS X Ex Y [a,b] as)(hg:Gl X "range":=by rfl)(ns:noStar a=true:=by rfl)(ns2:noStar b=true:=by rfl):SI X Ex Y tg (.Call (.Name "range" p) [a,b] [] pos) (nh Dp as):=OP hg hm ns ns2 S
def Mh {x1:Nat}(hm:X.mg "enumerate"=none)(h:SE X Ex Y a d)(hg:Gl X "enumerate":=by rfl)(ns:noStar a=true:=by rfl):SI X Ex Y (.Tuple elts x1 tp) (.Call (.Name "enumerate" p) [a] [] pos) (xD d):=Pe hg hm ns h
def GJ {x1:Nat}(hm:X.mg "zip"=none)(h:SE X Ex Y a d)(h2:SE X Ex Y b d2)(hg:Gl X "zip":=by rfl)(ns:noStar a=true:=by rfl)(ns2:noStar b=true:=by rfl):SI X Ex Y (.Tuple elts x1 tp) (.Call (.Name "zip" p) [a,b] [] pos) (Jl d d2):=PD hg hm ns ns2 h h2
def gN (j:Nat){i:Nat}(hN:X.N[j]?=some x:=by rfl)(hj:Y[j]?=some i:=by rfl)(hl:Loc X.env.scope x:=by first | exact Or.inl rfl | exact Or.inr rfl)(hf:X.fn x=true\/X.env.scope.names.lookup x=some .local:=by first | exact Or.inl rfl | exact Or.inr rfl):fK X Y (.Name x p) (.nm i):=.nm hN hj hl hf
def g0:k7 X Y [] []:=.nil
def gC (j:Nat){i:Nat}(t:k7 X Y ts is)(hN:X.N[j]?=some x:=by rfl)(hj:Y[j]?=some i:=by rfl)(hl:Loc X.env.scope x:=by first | exact Or.inl rfl | exact Or.inr rfl)(hf:X.fn x=true\/X.env.scope.names.lookup x=some .local:=by first | exact Or.inl rfl | exact Or.inr rfl):k7 X Y (.Name x p::ts) (i::is):=.cons hN hj hl hf t
def gT {k:Nat}(t:k7 X Y ts is):fK X Y (.Tuple ts k p) (.tp is):=.tp t
def j6:Passes (fN X.prog X.w) X E0:=by
 rintro pins U H s e s' I ⟨_,_,_,_,_,_,_,_,_,_,_,_,_,_,z⟩;exact z.elim
def aG {k k':Nat}(F:bR X.prog X.w X.K X.mg X.base k x ps (cC X.mg X.K ms sp))(hp:Passes (fN X.prog X.w) X Ex)(hr:ef k' X.A)(S:aS X Ex Y (e::es) as)(hk:k<=k':=by decide)(hg:Gl X x:=by rfl)(hd:(x == ("__debug__":Str))=false:=by decide)
  (ns:(e::es).all noStar=true:=by rfl):SE X Ex Y (.Call (.Name x p) (e::es) [] pos) (aC sp ms as):=KQ F hp (hr.mono hk) hg hd ns S
def bV (h:SE X Ex (aT X) a d):S1 X Ex (.Return (some a) pos) (bP d):=O5 h
def tT (i:Nat)(hN:X.N[i]?=some x:=by rfl)(hv:jG X.env.scope x:=by first | exact Or.inl rfl | exact Or.inr (Or.inl rfl) | exact Or.inr (Or.inr rfl))(hd:(x == ("__debug__":Str))=false:=by decide)
  (hcd:(x == ("__classdict__":Str))=false:=by decide):S1 X Ex (.Return (some (.Name x p)) pos) (lS i):=N9 (fm hN hv hd hcd) (bD hN)
def d8 (h:SE X Ex (aT X) a d)(hs:swapsWith a none pos.line X.env=pure false:=by rfl):S1 X Ex (.Expr a pos) (cW d):=MX h hs
def bM (i:Nat)(hN:X.N.Nodup)(h:SE X Ex (aT X) a d)(hi:X.N[i]?=some x:=by rfl)(hl:Loc X.env.scope x:=by first | exact Or.inl rfl | exact Or.inr rfl)(hs:swapsWith a (some (.Name x p)) pos.line X.env=pure false:=by rfl)(hf:X.fn x=true\/X.env.scope.names.lookup x=some .local:=by first | exact Or.inl rfl | exact Or.inr rfl) :
  S1 X Ex (.Assign [.Name x p] a pos) (aX i d):=P1 hN hi hl hs hf h
def CG {k:Nat}(hN:X.N.Nodup)(ht:k7 X (aT X) ts is)(h:SE X Ex (aT X) a d)(hc:X.calm=true:=by rfl)(hs:swapsWithSole [.Tuple ts k p] a pos.line X.env=pure false:=by rfl)(hw:swappedStores [.Tuple ts k p] a X.env=pure none:=by rfl):S1 X Ex (.Assign [.Tuple ts k p] a pos) (sF is d):=ON hc hN ht hs hw h
def xx (i:Nat)(hu:X.A.units + 64 < cLine)(hd:SE X Ex (aT X) a de)(hd2:SE X Ex (aT X) b dj)(hN:X.N[i]?=some x:=by rfl)(hv:jG X.env.scope x:=by first | exact Or.inl rfl | exact Or.inr (Or.inl rfl) | exact Or.inr (Or.inr rfl))(hs:swapsWithSole [.Subscript (.Name x p) b pos'] a pos.line X.env=pure false:=by rfl)
  (ha:∀ v,assign (.Subscript (.Name x p) b pos') X.env v=(do
   let ov <- holding [v] (eval (.Name x p) X.env)
   let iv <- holding [v,ov] (eval b X.env)
   standAt pos'
   holding [v,ov,iv] (setItem ov iv v)
   release [v,ov,iv] []):=by intro _;rfl)(hb:(x == ("__debug__":Str))=false:=by decide)(hcd:(x == ("__classdict__":Str))=false:=by decide):S1 X Ex (.Assign [.Subscript (.Name x p) b pos'] a pos) (i7 i dj de):=Px hu (fm hN hv hb hcd) (jh (bD hN)) hs ha hd hd2
def iW (hc:ST X Ex (aT X) a t)(ha:SS X Ex u d)(hb:SS X Ex v e):S1 X Ex (.If a u v pos) (dG t d e):=Qx hc ha hb
def Gu (hp:PassesOwn (model X.prog X.w) X.A X.env X.xe)(hc:ST X Ex (aT X) a t)(hb:SS X Ex u d):S1 X Ex (.While a u [] pos) (sU t d):=J6 hp hc hb
def mP (hp:PassesOwn (model X.prog X.w) X.A X.env X.xe)(hN:X.N.Nodup)(hi:SI X Ex (aT X) tg a di)(ht:fK X (aT X) tg t)(hb:SS X Ex u d)(hc:X.calm=true:=by rfl)(hs:∀ x,foldedSetIterable a X.env x=pure x:=by intro _;rfl):S1 X Ex (.For tg a u [] pos) (iH di t d):=O8 hp hc hN hi ht hb hs
end
section
variable {X:Cx}{Ex:XK}{Y:Xa}
def e0:qN X Ex Y [] []:=.nil
def eC (h:SE X Ex Y e d)(t:qN X Ex Y es ds):qN X Ex Y (e::es) (d::ds):=.cons h t
def xM (j:Nat){i:Nat}{x name:Str}{id:String}{p apos cpos:Pos}{es:XY}{ds:List DE}{f:DM}{r:V->List V->Hp->VK->Prop}(hm:vP X id r)(D:Bj X.K f r)(slot:Slot "list" name id)(hty:typeOf (.builtin id)=pure (.type "method_descriptor"))(S:qN X Ex Y es ds)
  (hN:X.N[j]?=some x:=by rfl)(hv:jG X.env.scope x:=by first | exact Or.inl rfl | exact Or.inr (Or.inl rfl) | exact Or.inr (Or.inr rfl))(hj:Y[j]?=some i:=by rfl)(ns:es.all noStar=true:=by rfl)(l30:decide (es.length < 30)=true:=by rfl)(hline:(apos.endLine == cpos.line)=true:=by rfl)(hd:(x == ("__debug__":Str))=false:=by decide)
  (hcd:(x == ("__classdict__":Str))=false:=by decide):SE X Ex Y (.Call (.Attribute (.Name x p) name apos) es [] cpos) (tH f i ds):=PC hm D slot hty (fm hN hv hd hcd) hj ns (SV l30) hline S
def kM:Xa->Bool
 | []=>true
 | a::r=>!r.contains a && kM r
theorem ie:∀ {l:Xa},kM l=true->l.Nodup
 | [],_=>Tr
 | a::r,h=>by
  rw [kM,S4,We,V0,decide_eq_false_iff_not] at h;exact Sj.mpr ⟨h.1,ie h.2⟩
def vg (Y cs ix:Xa)(vs:Xc)(sl:Xa):Bool:=(cs.length == vs.length) && ix.all (fun i=>Nat.blt i Y.length) && cs.all (fun c=>!Y.contains c) && kM (bH Y cs ix) && sl.all (fun i=>cs.contains i)
def uh (h:vg Y cs ix vs sl=true):cs.length=vs.length/\(∀ i∈ix,i < Y.length)/\(∀ c∈cs,c∉Y)/\(bH Y cs ix).Nodup/\∀ i∈sl,i∈cs:=by
 unfold vg at h;rw [S4,S4,S4,S4,SH,SH,SH,beq_iff_eq] at h;obtain ⟨⟨⟨⟨h1,h2⟩,h3⟩,h4⟩,h5⟩:=h;refine ⟨h1,fun i hi=>by simpa using h2 i hi,fun c hc z=>?_,ie h4,fun i hi=>?_⟩
 ·have:=h3 c hc;rw [We,V0,decide_eq_false_iff_not] at this;exact this z
 ·have:=h5 i hi;rw [V0,TQ] at this;exact this
def Jq (r:XF):Bool:=r.all fun g=>g.is_async == 0
def zV (h:Jq r=true):∀ g∈r,g.is_async=0:=fun g hg=>by
 have:=SH.mp h g hg
 simpa using this
variable {cs:Xa}{elt tg iter:Expr}{ifs:XY}{scope:Scope}{pos:Pos}
def g8 {rest:XF}{vs NB:Xc}{ix:Xa}{di:DI}{t:Tg}{c:DT}{r:DC}(B:mS X.N X.env.scope scope vs NB ix=true)(hi:SI X Ex Y tg iter di)(ht:∀ (C:Addr)(s:Shared)(H:Hp)(fp:XW),fK (X.block scope C NB s H fp) (bH Y cs ix) tg t)
  (hif:∀ (C:Addr)(s:Shared)(H:Hp)(fp:XW),iR (X.block scope C NB s H fp) E0 (bH Y cs ix) ifs c)(hr:∀ (C:Addr)(s:Shared)(H:Hp)(fp:XW)(D:Addr),SL (X.block scope C NB s H fp) (bH Y cs ix) cs D elt (⟨tg,iter,ifs,0⟩:: rest) scope pos 1 r)
  (hc:X.calm=true:=by rfl)(ck:vg Y cs ix vs t.slots=true:=by rfl)(ha:Jq rest=true:=by rfl)(hs:∀ v,foldedSetIterable iter X.env v=pure v:=by intro _;rfl):SE X Ex Y (.ListComp elt (⟨tg,iter,ifs,0⟩:: rest) scope pos) (bU cs di t c r) :=
 let ⟨h1,h2,h3,h4,h5⟩:=uh ck
 LM (cM.of B) hc h1 h2 h3 h4 hi ht h5 hif hr (zV ha) hs
def QZ {j:Nat}{y:Str}{py spos:Pos}{rest:XF}{vs NB:Xc}{ix:Xa}{di:DI}{t:Tg}{c:DT}{r:DC}(hN:X.N.Nodup)(B:mS X.N X.env.scope scope vs NB ix=true)(hi:SI X Ex (aT X) tg iter di)(ht:∀ (C:Addr)(s:Shared)(H:Hp)(fp:XW),fK (X.block scope C NB s H fp) (bH (aT X) cs ix) tg t)
  (hif:∀ (C:Addr)(s:Shared)(H:Hp)(fp:XW),iR (X.block scope C NB s H fp) E0 (bH (aT X) cs ix) ifs c)(hr:∀ (C:Addr)(s:Shared)(H:Hp)(fp:XW)(D:Addr),SL (X.block scope C NB s H fp) (bH (aT X) cs ix) cs D elt (⟨tg,iter,ifs,0⟩:: rest) scope pos 1 r)
  (hj:X.N[j]?=some y:=by rfl)(hy:X.env.scope.names.lookup y=some .local:=by rfl)(hsw:swapsWith (.ListComp elt (⟨tg,iter,ifs,0⟩:: rest) scope pos) (some (.Name y py)) spos.line X.env=pure true:=by rfl)
  (hc:X.calm=true:=by rfl)(ck:vg (aT X) cs ix vs t.slots=true:=by rfl)(ha:Jq rest=true:=by rfl)(hs:∀ v,foldedSetIterable iter X.env v=pure v:=by intro _;rfl):S1 X Ex (.Assign [.Name y py] (.ListComp elt (⟨tg,iter,ifs,0⟩:: rest) scope pos) spos) (aX j (bU cs di t c r)) :=
 let ⟨h1,h2,h3,h4,h5⟩:=uh ck
 Pu hN hj hy (cM.of B) hc h1 h2 h3 h4 hi ht h5 hif hr (zV ha) hs hsw
def uU (N:Xc)(fs scope:Scope) (x:Str)(vs NB:Xc)(ix:Xa):Bool :=
 decide (scope.kind=.function) && scope.names.all (fun y=>decide (y.2≠.cell) || decide (y.1=x)) && scope.names.all (fun y=>decide (y.2≠.local) || decide (scope.names.lookup y.1=some .local)) &&
 scope.names.all (fun y=>decide (y.2≠.free) || (decide (y.1≠x) && (decide (fs.names.lookup y.1=some .cell) || decide (fs.names.lookup y.1=some .free)))) && decide (scope.names.lookup x=some .cell) &&
 decide (NB=vs++ix.map fun i=>N.getD i "") && decide NB.Nodup && ix.all fun i=>match N[i]? with | some y=>decide (scope.names.lookup y=some .free) | none=>false
def dB.of (h:uU X.N X.env.scope scope x vs NB ix=true)(cf:∀ (n:Nat)(acc:List (Str×Addr)),cellsFrom n scope.names acc=(x,n)::acc)(pc:∀ h:Heap,pushCells h scope.names=h.push qx):dB X scope x vs NB ix:=by
 unfold uU at h;simp only [S4] at h;obtain ⟨⟨⟨⟨⟨⟨⟨h1,h2⟩,h3⟩,h4⟩,h5⟩,h6⟩,h7⟩,h8⟩:=h;refine ⟨SV h1,fun y hy e=>?_,fun y hy e=>?_,fun y hy=>?_,fun hy=>?_,SV h5,SV h6,SV h7,fun i hi=>?_,cf,pc⟩
 ·have z:=SH.mp h2 y hy;rw [UP] at z;exact z.elim (fun z=>absurd e (SV z)) fun z=>SV z
 ·have z:=SH.mp h3 y hy;rw [UP] at z;exact z.elim (fun z=>absurd e (SV z)) fun z=>SV z
 ·have z:=SH.mp h4 _ hy;rw [UP,S4,UP] at z;exact z.elim (fun z=>absurd rfl (SV z)) fun z=>z.2.imp SV SV
 ·have z:=SH.mp h4 _ hy;rw [UP,S4] at z;exact z.elim (fun z=>absurd rfl (SV z)) fun z=>absurd rfl (SV z.1)
 ·have z:=SH.mp h8 i hi;split at z
  ·rename_i y e;exact ⟨y,e,SV z⟩
  ·cases z
def G8 {cx:Str}{rest:XF}{vs NB:Xc}{ix:Xa}{di:DI}{t:Tg}{c:DT}{r:DC}(B:uU X.N X.env.scope scope cx vs NB ix=true)(hi:SI X Ex Y tg iter di)(ht:∀ (C c':Addr)(s:Shared)(H:Hp)(fp:XW),fK (X.aW scope cx C c' NB s H fp) (bH Y cs ix) tg t)
  (hif:∀ (C c':Addr)(s:Shared)(H:Hp)(fp:XW),iR (X.aW scope cx C c' NB s H fp) E0 (bH Y cs ix) ifs c)(hr:∀ (C c':Addr)(s:Shared)(H:Hp)(fp:XW)(D:Addr),SL (X.aW scope cx C c' NB s H fp) (bH Y cs ix) cs D elt (⟨tg,iter,ifs,0⟩:: rest) scope pos 1 r)
  (cf:∀ (n:Nat)(acc:List (Str×Addr)),cellsFrom n scope.names acc=(cx,n)::acc:=by intro _ _;rfl)(pc:∀ h:Heap,pushCells h scope.names=h.push qx:=by intro _;rfl)
  (hc:X.calm=true:=by rfl)(ck:vg Y cs ix vs t.slots=true:=by rfl)(ha:Jq rest=true:=by rfl)(hs:∀ v,foldedSetIterable iter X.env v=pure v:=by intro _;rfl):SE X Ex Y (.ListComp elt (⟨tg,iter,ifs,0⟩:: rest) scope pos) (bU cs di t c r) :=
 let ⟨h1,h2,h3,h4,h5⟩:=uh ck
 L0 (dB.of B cf pc) hc h1 h2 h3 h4 hi ht h5 hif hr (zV ha) hs
def dH {D:Addr}{k:Nat}(h:SE X E0 Y elt d)(hk:gens[k]?=none:=by rfl):SL X Y cs D elt gens scope pos k (cA sizeLine d):=Ld h hk
def v8:PyData->Option String
 | .none=>some "NoneType"
 | .bool _=>some "bool"
 | .int _=>some "int"
 | .str _=>some "str"
 | .list _=>some "list"
 | .tuple _=>some "tuple"
 | .dict _=>none
def iZ (c t:String):Bool:=t == c || (c == "int" && t == "bool")
def zx (c:String):DR:=fun ds P=>match ds with
 | [d]=>aL (v8 d) fun t=>P .sh (.bool (iZ c t))
 | _=>False
def tys:List String:=["NoneType","bool","int","str","list","tuple"]
def zY (K:Frag)(cs:List String):Bool:=cs.all fun c=>tys.all fun t=>kitOne K (.type t) (.type c) == some (iZ c t)
def Nd {K:Frag}{cs:List String}(h:zY K cs=true){c t:String}(hc:c∈cs)(ht:t∈tys):kitOne K (.type t) (.type c)=some (iZ c t):=by
 have:=SH.mp (SH.mp h c hc) t ht
 simpa using this
def O1 (s:ai Hm H)(r:Rp K Hm v d)(h:v8 d=some t):gw K H v (.type t)/\t∈tys:=by
 cases r with
 | br=>cases h;exact ⟨.br,by decide⟩
 | bl b=>cases h;exact ⟨.bl b,by decide⟩
 | int i=>cases h;exact ⟨.int i,by decide⟩
 | str x=>cases h;exact ⟨.str x,by decide⟩
 | lst a _ =>
  cases h;refine ⟨?_,by decide⟩
  rcases a with (a | ⟨o,a⟩) | ⟨its,n,a,_⟩
  ·exact .lst (s _ _ a)
  ·exact .cE (s _ _ a)
  ·exact .kl a
 | tup a _=>cases h;exact ⟨.tup (s _ _ a),by decide⟩
 | dk _ _=>cases h
 | dt _ _=>cases h
def Nt {css:List String}(kf:zY X.K css=true)(hc:css.contains c=true)(hm:X.mg "isinstance"=none)(hm2:X.mg x=none)(hv:bootBuiltins x=some (.type c))(hg:Gl X "isinstance")(hg2:Gl X x)(hn:x≠"__name__")(hd:(x == ("__debug__":Str))=false)(ns:noStar a=true)(S:aS X Ex Y [a] as) :
  SE X Ex Y (.Call (.Name "isinstance" p) [a,.Name x p2] [] pos) (ah (zx c) as):=by
 refine eZ (r:=fun vs H Q=>∃ v t,vs=[v]/\gw X.K H v (.type t)/\t∈tys/\Q (.bl (iZ c t)) H) S (fun U H Q h=>WE.of (rJ Hg hg hm PyProof.Rows.boot_isinstance (eT bg (eT (Lw (v:=.ty c) hg2 hm2 hv rfl hn hd) gH) (bx ns)) (by decide) (by decide) (bx ns) (by rfl)) ?_) ?_
 ·refine fun pins s I=>aM (h pins s I) fun v s1 ⟨y,H1,I1,r1,w,t,e,ty,ht,q⟩=>⟨y,H1,I1,r1,?_⟩
  cases e;refine ⟨_,_,_,_,rfl,ty,fun u hu=>?_,q⟩
  cases hu;exact Nd kf (by simpa using hc) ht
 ·intro H Hm vs ds P Q s r h q;unfold zx at h;split at h
  ·obtain ⟨v,rfl,h1⟩:=dM r;rw [<- bI] at h;obtain ⟨t,e,h⟩:=h;obtain ⟨ty,ht⟩:=O1 s h1 e;exact ⟨v,t,rfl,ty,ht,bE.sc q s h (.bl _)⟩
  ·exact h.elim
def Il (kf:zY X.K css=true)(hm:X.mg "isinstance"=none)(hm2:X.mg x=none)(hv:bootBuiltins x=some (.type c))(S:aS X Ex Y [a] as)(hc:css.contains c=true:=by decide)(hg:Gl X "isinstance":=by rfl)(hg2:Gl X x:=by rfl)(hn:x≠"__name__":=by decide)(hd:(x == ("__debug__":Str))=false:=by decide)(ns:noStar a=true:=by rfl) :
  SE X Ex Y (.Call (.Name "isinstance" p) [a,.Name x p2] [] pos) (ah (zx c) as):=Nt kf hc hm hm2 hv hg hg2 hn hd ns S
def xg:DR:=fun ds P=>∃ (ns:Xb)(d:PyData),ds=[.list (ns.map .int),d]/\(ns=[]->P .sh d)/\∀ M,M∈ns->(∀ n∈ns,M<=n)->P .sh (.int M)
def KY (hc:X.calm=true)(hg:Gl X "min")(hm:X.mg "min"=none)(ns:noStar a=true)(S:aS X Ex Y [a,b] as):SE X Ex Y (.Call (.Name "min" p) [a] [⟨some "default",b,kp⟩] pos) (ah xg as):=by
 refine eZ (r:=fun vs H Q=>∃ (l:Addr)(ns:Xb) (d:V),vs=[.ref l,d]/\bF X.K H l (ns.map V.int)/\(ns=[]->Q d H)/\(∀ M,M∈ns->(∀ n∈ns,M<=n)->Q (.int M) H)) S (fun U H Q h=>WE.of (JP hc hg hm bg bg (bx ns)) ?_) ?_
 ·refine fun pins s I=>aM (h pins s I) fun v s1 ⟨y,H1,I1,r1,q1⟩=>⟨y,H1,I1,r1,fun pins2 s2 I2=>aM (q1 pins2 s2 I2) fun v2 s3 ⟨y2,H2,I3,r2,l,ns,d,e,q⟩=>⟨y2,H2,I3,r2,?_⟩⟩
  cases e;exact ⟨l,ns,y2,rfl,rfl,q⟩
 ·rintro H Hm vs ds P Q s r ⟨ns,d,rfl,h1,h2⟩ q;obtain ⟨x,y,rfl,r1,r2⟩:=cL r;obtain ⟨a,xs,rfl,ha,r1⟩:=fJ r1;cases lF r1;exact ⟨a,ns,y,rfl,(cg.mono s ha).sq,fun e=>bE.sc q s (h1 e) r2,fun M m1 m2=>bE.sc q s (h2 M m1 m2) (.int _)⟩
def PU (hm:X.mg "min"=none)(S:aS X Ex Y [a,b] as)(hc:X.calm=true:=by rfl)(hg:Gl X "min":=by rfl)(ns:noStar a=true:=by rfl):SE X Ex Y (.Call (.Name "min" p) [a] [⟨some "default",b,kp⟩] pos) (ah xg as):=KY hc hg hm ns S
end
end Dv
namespace Dv
open PySem L2 PySem.W
open Classical in
def Gh.gY (g:Gh)(H:Hp)(fp:XW):Gh:=⟨fun a=>if a∈fp then H a else g.H0 a,fun a=>if a∈fp then none else g.eY a,g.pins⟩
section
variable {K:Frag}{g:Gh}{E:En}{U:St}{H H' Hm Hm':Hp}{F:Nat->XW}{fp:XW}
def nk {a:Addr}(h:a∈fp):(g.gY H fp).H0 a=H a:=by unfold Gh.gY;exact if_pos h
def gQ {a:Addr}(h:a∉fp):(g.gY H fp).H0 a=g.H0 a:=by unfold Gh.gY;exact if_neg h
def ET {a:Addr}(h:a∈fp):(g.gY H fp).eY a=none:=by unfold Gh.gY;exact if_pos h
def Bq {a:Addr}(h:a∉fp):(g.gY H fp).eY a=g.eY a:=by unfold Gh.gY;exact if_neg h
structure k9 (g:Gh)(F:Nat->XW)(H Hm:Hp)(fp:XW):Prop where
 Az:∀ a∈fp,∃ u,H a=some u/\qW u
 off:∀ a∈fp,Hm a=none
 aQ:∀ a∈fp,∀ i,a∉F i
 new:∀ a∈fp,g.H0 a=none
def k9.bJ (A:k9 g F H Hm fp):∀ a∈fp,H a≠none:=fun a ha z=>by
 obtain ⟨u,hu,_⟩:=A.Az a ha;rw [z] at hu;cases hu
def k9.notM (A:k9 g F H Hm fp)(R:Rl K g E U H Hm F):∀ a∈fp,a∉g.M:=fun a ha m=>by
 obtain ⟨q,hq,rfl⟩:=S0.mp m;exact A.aQ _ ha q.1 (by rw [R.CJ hq];exact RT)
theorem Rl.gY (R:Rl K g E U H Hm F)(A:k9 g F H Hm fp):Rl K (g.gY H fp) E U H Hm F where
 len:=R.len
 sub:=R.sub
 slot:=R.slot
 off:=R.off
 bJ:=R.bJ
 aQ:=R.aQ
 fr:=fun p o hp ho=>by
  by_cases c:p∈fp
  ·rw [nk c] at ho;exact ho
  ·rw [gQ c] at ho;exact R.fr p o hp ho
 new:=fun i a ha=>by
  have c:a∉fp:=fun z=>A.aQ a z i ha
  rw [gQ c];exact R.new i a ha
 pin:=R.pin
 old:=fun a ha=>by
  by_cases c:a∈fp
  ·rw [ET c];exact .inl (A.off a c)
  ·rw [gQ c] at ha;rw [Bq c];exact R.old a ha
def Rl.yg {F':Nat->XW}(A:k9 g F H Hm fp)(nM:∀ a∈fp,a∉g.M)(R:Rl K (g.gY H fp) E' σ' H' Hm' F'):Rl K g E' σ' H' Hm' F'/\k9 g F' H' Hm' fp/\∀ a∈fp,H' a=H a:=by
 have keep:∀ a∈fp,H' a=H a:=fun a ha=>by
  cases e:H a with
  | none=>exact absurd e (A.bJ a ha)
  | some o=>exact R.fr a o (nM a ha) (by rw [nk ha];exact e)
 refine ⟨?_,⟨fun a ha=>by rw [keep a ha];exact A.Az a ha,fun a ha=>?_,fun a ha i z=>?_,A.new⟩,keep⟩
 ·exact {
   len:=R.len
   sub:=R.sub
   slot:=R.slot
   off:=R.off
   bJ:=R.bJ
   aQ:=R.aQ
   fr:=fun p o hp ho=>by
    have c:p∉fp:=fun z=>by rw [A.new p z] at ho;cases ho
    exact R.fr p o hp (by rw [gQ c];exact ho)
   new:=fun i a ha=>by
    rcases R.new i a ha with m | m
    ·exact .inl m
    ·by_cases c:a∈fp
     ·exact .inr (A.new a c)
     ·rw [gQ c] at m;exact .inr m
   pin:=R.pin
   old:=fun a ha=>by
    have c:a∉fp:=fun z=>ha (A.new a z)
    have h':=R.old a (by rw [gQ c];exact ha)
    rw [Bq c] at h';exact h' }
 ·have h':=R.old a (by rw [nk ha];exact A.bJ a ha)
  obtain ⟨u,hu,nt⟩:=A.Az a ha;exact h'.off (ET ha) R.sub (by rw [keep a ha];exact hu) nt
 ·rcases R.new i a z with m | m
  ·exact nM a ha m
  ·rw [nk ha] at m;exact A.bJ a ha m
theorem eK.snoc {xs:List V}{ds:XS}{b:Addr}{ys:List V}{es:XS}(e:H b=some (.lst ys))(r:aA K Hm ys es):∀ {xs:List V}{ds:XS}{fp:XW},eK K H Hm xs ds fp->b∉fp->eK K H Hm (xs++[.ref b]) (ds++[.list es]) (fp++[b])
 | _,_,_,.nil,n=>.own e r n .nil
 | _,_,_,.lB h1 h2 t,n=>.lB h1 h2 (t.snoc (xs:=xs) (ds:=ds) e r n)
 | _,_,_,.own h1 h2 h3 t,n=>.own h1 h2 (fun z=>by
   rcases S6.mp z with z | z
   ·exact h3 z
   ·exact n (RZ.mp z ▸ RT)) (t.snoc (xs:=xs) (ds:=ds) e r fun z=>n (RY _ z))
theorem eK.get:∀ {xs:List V}{ds:XS}{fp:XW}{m:Nat},eK K H Hm xs ds fp->ds[m]?=some (.list es)->∃ b ys,xs[m]?=some (.ref b)/\H b=some (.lst ys)/\aA K Hm ys es/\b∈fp
 | _,_,_,_,.nil,h=>by simp at h
 | _,_,_,0,.lB e _ _,h=>by
  simp at h;rw [h] at e;cases e
 | _,_,_,m + 1,.lB _ _ t,h=>t.get (m:=m) (by simpa using h)
 | _,_,_,0,.own e r _ _,h=>by
  simp at h;subst h;exact ⟨_,_,rfl,e,r,RT⟩
 | _,_,_,m + 1,.own _ _ _ t,h=>by
  obtain ⟨b,ys,h1,h2,h3,h4⟩:=t.get (m:=m) (by simpa using h)
  exact ⟨b,ys,h1,h2,h3,RY _ h4⟩
theorem eK.put {b:Addr}(r:aA K Hm ys new):∀ {xs:List V}{ds:XS}{fp:XW}{m:Nat},eK K H Hm xs ds fp->xs[m]?=some (.ref b)->(∃ es,ds[m]?=some (.list es))->eK K (upd H b (.lst ys)) Hm xs (ds.set m (.list new)) fp
 | _,_,_,_,.nil,h,_=>by simp at h
 | _,_,_,0,.lB e _ _,_,⟨es,h⟩=>by
  simp at h;rw [h] at e;cases e
 | _,_,_,m + 1,.lB e h2 t,h,⟨es,h'⟩=>.lB e h2 (t.put (m:=m) r (by simpa using h) ⟨es,by simpa using h'⟩)
 | _,_,_,0,.own (b:=b') e r' n t,h,_=>by
  simp at h;subst h;exact .own aH r n (t.step (ai.refl _) fun a ha=>ak fun z=>n (z ▸ ha))
 | _,_,_,m + 1,.own (b:=b') (fp:=fp) e r' n t,h,⟨es,h'⟩=>by
  have h:_:=h;obtain ⟨b2,ys2,g1,g2,g3,g4⟩:=t.get (m:=m) (es:=es) (by simpa using h')
  simp at h;rw [h] at g1;cases g1;refine .own (by rw [ak (show b'≠b from fun z=>n (by rw [z];exact g4))];exact e) r' n (t.put (m:=m) r h ⟨es,by simpa using h'⟩)
def Rl.Q9 (R:Rl K g E U H Hm F){i:Nat}{b:Addr}(e:E[i]?=some (some (k,d)))(hv:U[i]?=some (some v))(hb:b∈F i)(new:Own K (upd H b o) Hm k v d' (F i))(nt:qW o)(hp:k=.ow true->∃ ds,d'=.list ds) :
  Rl K g (E.set i (some (k,d'))) U (upd H b o) Hm F:=by
 have na:=R.off i b hb;have up:∀ c,c≠b->upd H b o c=H c:=fun c hc=>ak hc
 have li:=bD e;exact {
  len:=by rw [Sw];exact R.len
  sub:=fun c u hc=>by
   have:c≠b:=fun z=>by rw [z,na] at hc;cases hc
   rw [up c this];exact R.sub c u hc
  slot:=fun j k' d'' e'=>by
   by_cases c:j=i
   ·subst c;rw [aK li] at e';cases e';exact ⟨_,hv,new⟩
   ·rw [ao (Ne.symm c)] at e';obtain ⟨u,g1,g2⟩:=R.slot j k' d'' e';refine ⟨u,g1,g2.step (ai.refl _) fun a ha=>up a fun z=>c (R.aQ j i b (z ▸ ha) hb)⟩
  off:=R.off
  bJ:=fun j a ha=>by
   by_cases c:a=b
   ·rw [c];exact ⟨_,aH,nt⟩
   ·rw [up a c];exact R.bJ j a ha
  aQ:=R.aQ
  fr:=fun q u hq ho=>by
   have:q≠b:=fun z=>by
    rcases R.new i b hb with y | y
    ·exact hq (z ▸ y)
    ·rw [z,y] at ho;cases ho
   rw [up q this];exact R.fr q u hq ho
  new:=R.new
  pin:=fun q hq=>by
   obtain ⟨g1,ds',g2⟩:=R.pin q hq
   by_cases c:i=q.1
   ·rw [<- c] at g1 g2 ⊢;rw [e] at g2;cases g2;obtain ⟨ds,rfl⟩:=hp rfl;exact ⟨g1,ds,aK li⟩
   ·exact ⟨g1,ds',by rw [ao c];exact g2⟩
  old:=R.old }
def K3 (h:cP t d E=some E'):E'.length=E.length:=by
 have go:∀ {is:Xa}{ds:XS}{E E':En},bS is ds E=some E'->E'.length=E.length:=by
  intro is
  induction is with
  | nil=>intro ds E E' h;cases ds with | nil=>cases h;rfl | cons _ _=>cases h
  | cons j is ih =>
   intro ds E E' h;cases ds with
   | nil=>cases h
   | cons d ds =>
    rw [bS] at h
    by_cases o:bZ E j=true
    ·rw [if_pos o] at h;rw [ih h,Sw]
    ·rw [if_neg o] at h;cases h
 cases t with
 | nm j=>exact go (is:=[j]) h
 | tp js =>
  cases d with
  | tuple ds=>exact go (is:=js) h
  | _=>cases h
end
section
variable {X:Cx}{Ex:XK}{Y cs:Xa}{elt tg iter:Expr}{ifs:XY}{scope:Scope}{pos:Pos}
def Ik {vs:Xc}{t:Tg}(B:cM X scope vs NB ix)(hc:X.calm=true)(hcs:cs.length=vs.length)(hix:∀ i∈ix,i < Y.length)(aQ:∀ c∈cs,c∉Y)(nd:(bH Y cs ix).Nodup)
  (hi:SI X Ex Y tg iter di)(ht:∀ (C:Addr)(s:Shared)(H:Hp)(fp:XW),fK (X.block scope C NB s H fp) (bH Y cs ix) tg t)(hts:∀ i∈t.slots,i∈cs)(hif:∀ (C:Addr)(s:Shared)(H:Hp)(fp:XW),iR (X.block scope C NB s H fp) E0 (bH Y cs ix) ifs c)
  (hr:∀ (C:Addr)(s:Shared)(H:Hp)(fp:XW),SE (X.block scope C NB s H fp) E0 (bH Y cs ix) elt e)
  (hs:∀ v,foldedSetIterable iter X.env v=pure v){w:(V->Hp->Prop)->St->Hp->Prop}
  (hw:∀ {wi:TI}{G:TG}{tt:TT}{tr:TL}{U:St}{H:Hp}{Q:VK},PI X tg iter wi->(∀ (C:Addr)(s:Shared)(H:Hp)(fp:XW),PG (X.block scope C NB s H fp) tg G)->(∀ (C:Addr)(s:Shared)(H:Hp)(fp:XW),pA (X.block scope C NB s H fp) ifs tt) ->
   (∀ (C:Addr)(s:Shared)(H:Hp)(fp:XW)(D:Addr),PL (X.block scope C NB s H fp) D elt (⟨tg,iter,ifs,0⟩:: []) scope pos 1 tr)->m7 wi vs.length ix G tt tr U H Q->w Q U H)
  (g:Gh)(x:XC)(E:En)(U:St)(H Hm:Hp)(F:Nat->XW)(P:Xd)(Q:VK)(hx:XL X Ex x g)(R:Rl X.K g E U H Hm F)(p:pP sizeLine cs di t c e x E P)
  (q:∀ E' k v u H' Hm' F' fp,P E' k v->Rl X.K g E' U H' Hm' F'->ai Hm Hm'->Tm X.K g F' H' Hm' k u v fp->Q u H'):w Q (sel Y U) H:=by
 obtain ⟨wi,hpi,hwi⟩:=hi;refine hw (wi:=wi) (G:=fun v U H Q=>∀ (C:Addr)(s:Shared)(H2:Hp)(fp:XW),WG (X.block scope C NB s H2 fp) tg v U H Q) (tt:=fun U H Q=>∀ (C:Addr)(s:Shared)(H2:Hp)(fp:XW),vK (X.block scope C NB s H2 fp) ifs U H Q)
  (tr:=I0 fun U H Q=>∀ (C:Addr)(s:Shared)(H2:Hp)(fp:XW),WE (X.block scope C NB s H2 fp) elt U H Q) hpi (fun C s H2 fp pins s' U H v u Q I r h=>h C s H2 fp pins s' u I r) (fun C s H2 fp pins s' U H Q I h=>h C s H2 fp pins s' I)
  (fun C s H2 fp D=>A9 (fun pins s' U H Q I h=>h C s H2 fp pins s' I)) ?_
 refine hwi g x E U H Hm F _ _ hx R p fun E1 xs J H1 Hm1 F1 p1 R1 s1 it1=>?_
 obtain ⟨E0',I,hcl,i0,step,fin⟩:=p1;obtain ⟨σ0,F0,R0,a0,n0⟩:=R1.bC hcl;rw [<- hcs,uZ hix aQ a0 fun c hc=>(n0 c hc).1]
 refine ⟨fun i m ys τ H'=>m=xs.length - i/\i<=xs.length/\∃ E' dys' σ' Hm' F' fp,I i dys' E'/\Rl X.K g E' σ' H' Hm' F'/\ai Hm1 Hm'/\eK X.K H' Hm' ys dys' fp/\k9 g F' H' Hm' fp/\Agree cs σ0 σ'/\τ=sel (bH Y cs ix) σ',
  ⟨xs.length,by simp,Sd _,E0',[],σ0,Hm1,F0,[],i0,R0,ai.refl _,.nil,⟨(fun _ z=>by cases z),(fun _ z=>by cases z),(fun _ z=>by cases z),fun _ z=>by cases z⟩,Agree.refl _ _,rfl⟩,?_⟩
 rintro i m ys τ H2 ⟨rfl,hi,E2,dys2,σ2,Hm2,F2,fp,i2,R2,s2,r2,A2,a2,rfl⟩;obtain ⟨go,stop⟩:=it1 i H2 Hm2 s2 R2.sub
 by_cases c':i < xs.length
 ·obtain ⟨go,qR⟩:=go xs[i] (S9 c');refine .inr ⟨go,fun ys τ H'=>i + 1<=xs.length/\∃ E' dys' σ' Hm' F' fp,I (i + 1) dys' E'/\Rl X.K g E' σ' H' Hm' F'/\ai Hm1 Hm'/\eK X.K H' Hm' ys dys' fp/\k9 g F' H' Hm' fp/\Agree cs σ0 σ'/\τ=sel (bH Y cs ix) σ',fun ys τ H' z=>⟨xs.length - (i + 1),by lia,rfl,z⟩,fun x H3 y C s H9 fp9=>?_⟩
  obtain ⟨Hm3,t1,t2,t3,old,rx⟩:=qR x H3 y;have R3:=R2.turn t1 t2 t3 old;have k3:∀ a∈fp,H3 a=H2 a:=fun a ha=>by
   cases e:H2 a with
   | none=>exact absurd e (A2.bJ a ha)
   | some o=>exact t3 _ _ e
  have A3:k9 g F2 H3 Hm3 fp:=⟨fun a ha=>by rw [k3 a ha];exact A2.Az a ha,fun a ha=>by
   obtain ⟨u,hu,nt⟩:=A2.Az a ha;exact (old a (A2.bJ a ha)).off (A2.off a ha) t2 (t3 _ _ hu) nt,A2.aQ,A2.new⟩
  have r3:=r2.step (H':=H3) t1 k3;have nM:=A3.notM R3;obtain ⟨E4,e4,p4⟩:=step i xs[i] dys2 E2 (S9 c') i2;obtain ⟨G,g1,g2⟩:=t8 (X:=X.block scope C NB s H9 fp9) hc B.nd nd (ht C s H9 fp9);refine WG.of g1 (g2 (g:=g.gY H3 fp) e4 rx (R3.gY A3) fun σ4 F4 R4 ag=>?_)
  have a4:Agree cs σ0 σ4:=a2.trans ⟨by rw [<- R3.len,<- R4.len,K3 e4],fun j hj=>ag j fun z=>hj (hts j z)⟩
  intro C2 s2' H92 fp92;refine (hif C2 s2' H92 fp92).ok XL.no R4 p4 fun E5 b H5 Hm5 F5 p5 R5 s5=>?_
  cases b with
  | true =>
   refine pZ fun C3 s3' H93 fp93=>?_
   refine hr C3 s3' H93 fp93 (g.gY H3 fp) xF E5 σ4 H5 Hm5 F5 _ _ XL.no R5 (by rw [if_pos rfl] at p5;exact p5) fun E6 k6 v6 u6 H6 Hm6 F6 fp6 p6 R6 s6 T6=>?_
   obtain ⟨⟨pb,rfl⟩,hl,p6⟩:=p6;obtain ⟨R6',A6,k6⟩:=Rl.yg A3 nM R6;have T1:=T6.own;have hlen:ys.length=dys2.length:=by
    have:∀ {xs:List V}{ds:XS}{fp:XW}{H Hm:Hp},eK X.K H Hm xs ds fp->xs.length=ds.length:=by
     intro xs ds fp H Hm h
     induction h with
     | nil=>rfl
     | lB _ _ _ ih=>rw [Sb,Sb,ih]
     | own _ _ _ _ ih=>rw [Sb,Sb,ih]
    exact this r2
   cases T1 with
   | @ow _ b zs es hb rz =>
    have nb:b∉fp:=fun z=>by
     have:=T6.new b RT;rw [nk z] at this;exact A3.bJ b z this
    have r6:=(r3.step (H':=H6) (s5.trans s6) k6).snoc (xs:=[]) (ds:=[]) hb rz nb;refine ⟨by rw [hlen];exact hl,c',E6,_,σ4,Hm6,F6,fp++[b],p6,R6',s2.trans (t1.trans (s5.trans s6)),r6,⟨fun a ha=>?_,fun a ha=>?_,fun a ha=>?_,fun a ha=>?_⟩,a4,rfl⟩
    ·rcases S6.mp ha with ha | ha
     ·exact A6.Az a ha
     ·rw [RZ.mp ha];exact ⟨_,hb,kr⟩
    ·rcases S6.mp ha with ha | ha
     ·exact A6.off a ha
     ·rw [RZ.mp ha];exact T6.off b RT
    ·rcases S6.mp ha with ha | ha
     ·exact A6.aQ a ha
     ·rw [RZ.mp ha];exact T6.aQ b RT
    ·rcases S6.mp ha with ha | ha
     ·exact A6.new a ha
     ·rw [RZ.mp ha];have:=T6.new b RT;rw [gQ nb] at this;exact this
  | false =>
   obtain ⟨R5',A5,k5⟩:=Rl.yg A3 nM R5;exact p7 ⟨c',E5,dys2,σ4,Hm5,F5,fp,by simpa using p5,R5',s2.trans (t1.trans s5),r3.step (H':=H5) s5 k5,A5,a4,rfl⟩
 ·have e:i=xs.length:=by lia
  subst e;refine .inl ⟨stop (RW _),fun p hp=>?_⟩
  obtain ⟨E3,hcl2,p2⟩:=fin _ _ i2;obtain ⟨σ3,F3,R3p,a3,n3⟩:=(R2.gY A2).bC hcl2;obtain ⟨R3,A3,_⟩:=Rl.yg A2 (A2.notM R2) R3p;have R3':=R3.agree (cs:=cs) ((a0.trans a2).trans a3).symm fun c hc=>(n3 c hc).2
  have s3:=cj (o:=.lst ys) hp;have R4:=R3'.grow (H':=upd H2 p (.lst ys)) s3 (ai.refl _) (R3'.sub.trans s3) (fun i a ha=>R3'.off i a ha) fun _ _=>.inl rfl
  have np:p∉fp:=fun z=>A2.bJ p z hp
  refine q _ _ _ _ _ Hm2 F3 (p::fp) p2 R4 (s1.trans s2) ⟨.dp aH np (r2.step (H':=upd H2 p (.lst ys)) (ai.refl _) fun a ha=>ak fun z=>np (z ▸ ha)),fun a ha=>?_,fun a ha i=>?_,fun a ha=>?_⟩
  ·rcases S2.mp ha with rfl | ha
   ·exact R3'.nA hp
   ·exact A2.off a ha
  ·rcases S2.mp ha with rfl | ha
   ·exact R3'.fresh hp
   ·exact A3.aQ a ha i
  ·rcases S2.mp ha with rfl | ha
   ·exact R3'.fF hp
   ·exact A2.new a ha
end
section
variable {X:Cx}{Ex:XK}{Y cs:Xa}{elt tg iter:Expr}{ifs:XY}{scope:Scope}{pos:Pos}
def Ra {j:Nat}(hN:X.N.Nodup)(B:mS X.N X.env.scope scope vs NB ix=true)(hi:SI X Ex (aT X) tg iter di)(ht:∀ (C:Addr)(s:Shared)(H:Hp)(fp:XW),fK (X.block scope C NB s H fp) (bH (aT X) cs ix) tg t)
  (hif:∀ (C:Addr)(s:Shared)(H:Hp)(fp:XW),iR (X.block scope C NB s H fp) E0 (bH (aT X) cs ix) ifs c)(hr:∀ (C:Addr)(s:Shared)(H:Hp)(fp:XW),SE (X.block scope C NB s H fp) E0 (bH (aT X) cs ix) elt e)
  (hj:X.N[j]?=some y:=by rfl)(hy:X.env.scope.names.lookup y=some .local:=by rfl)(hsw:swapsWith (.ListComp elt [⟨tg,iter,ifs,0⟩] scope pos) (some (.Name y py)) spos.line X.env=pure true:=by rfl)
  (hc:X.calm=true:=by rfl)(ck:vg (aT X) cs ix vs t.slots=true:=by rfl)(hs:∀ v,foldedSetIterable iter X.env v=pure v:=by intro _;rfl):S1 X Ex (.Assign [.Name y py] (.ListComp elt [⟨tg,iter,ifs,0⟩] scope pos) spos) (aX j (pP sizeLine cs di t c e)):=by
 obtain ⟨h1,h2,h3,h4,h5⟩:=uh ck;have B':cM X scope vs NB ix:=cM.of B;have ha:∀ g∈([]:XF),g.is_async=0:=fun _ z=>by cases z
 rw [u5];intro g D' E U H Hm F D hx R p nx rt;refine Ik B' hc h1 h2 h3 h4 hi ht h5 hif hr hs (w:=fun Q τ H=>(Q=fun u H1=>D.nx (τ.set j (some u)) H1)->WS X (.Assign [.Name y py] (.ListComp elt [⟨tg,iter,ifs,0⟩] scope pos) spos) D τ H)
  (fun g1 g2 g3 g4 g5 e=>by
   subst e;exact WS.of (yP hN hj hy B' hc g1 g2 g3 g4 hsw ha hs) g5) g D'.xc E U H Hm F _ _ hx R p (fun E' k v u H' Hm' F' fp p' R' s' T=>?_) rfl
 rw [mZ Tz (jh (bD hj)) (R'.len ▸ jq p'.1)];exact nx _ _ _ _ _ p'.2 (R'.put T p'.1) s'
def zu {i n:Nat}(h:cY E n=some E')(ne:i≠n):E'[i]?=E[i]?:=by
 unfold cY at h;split at h
 ·split at h
  ·cases h;exact ao (Ne.symm ne)
  ·cases h
 ·cases h
def MK {x y name:Str}{id:String}{p yp sp apos cpos:Pos}{jx:Expr}{f:DM}{r:V->List V->Hp->VK->Prop}{dj:DE}{i j n jn:Nat}(hm:vP X id r)(D:Bj X.K f r)(slot:Slot "list" name id)(hty:typeOf (.builtin id)=pure (.type "method_descriptor"))
  (hv:PE X (.Name x p) (jf j))(hj:Y[j]?=some i)(hy:PE X (.Name y yp) (jf jn))(hjn:Y[jn]?=some n)(hs:mR jx)(hd:SE X Ex Y jx dj)(hline:(apos.endLine == cpos.line)=true) :
  SE X Ex Y (.Call (.Attribute (.Subscript (.Name x p) jx sp) name apos) [.Name y yp] [] cpos) (zz f i dj n):=by
 intro g xc E U H Hm F P Q hx R h q;obtain ⟨hh,h⟩:=h;obtain ⟨o,ho⟩:=lT R hh;refine WE.of (w9 Vv slot hty hm (bg (e:=.Subscript (.Name x p) jx sp)) (d7 (es:=[.Name y yp]) rfl) rfl (Ey rfl (show 1 < 30 by decide)) hline rfl rfl) ?_
 refine WE.of (IU DJ hv bg hs) ⟨o,cV hj ho,?_⟩;refine hd g xc E U H Hm F _ _ hx R h fun E1 k1 w u1 H1 Hm1 F1 fp1 p1 R1 s1 T1=>?_
 obtain ⟨a,pp,ds,m,es,k,d,E2,rfl,e1,hix,hes,en,ne,hf,p1⟩:=p1;cases T1.own.int;obtain ⟨v',h1,h2⟩:=R1.slot i _ _ e1;rw [ho] at h1;cases h1;obtain ⟨vn,Hm2,F2,hvn,s2,R2,rn⟩:=R1.cY en hf;have e2:E2[i]?=some (some (.dp pp,.list ds)):=(zu hf ne).trans e1;obtain ⟨v2,h3,h4⟩:=R2.slot i _ _ e2;rw [ho] at h3;cases h3;generalize hfi:F2 i=fi at h4;cases h4 with
 | @dp _ a0 xs _ fq ha0 n0 it0 =>
  obtain ⟨b,ys,hxm,hb,ry,mb⟩:=it0.get hes;have hlen:xs.length=ds.length:=by
   have:∀ {xs:List V}{ds:XS}{fp:XW}{H Hm:Hp},eK X.K H Hm xs ds fp->xs.length=ds.length:=by
    intro xs ds fp H Hm h
    induction h with
    | nil=>rfl
    | lB _ _ _ ih=>rw [Sb,Sb,ih]
    | own _ _ _ _ ih=>rw [Sb,Sb,ih]
   exact this it0
  refine .inl ⟨_,xs,a,.ref b,rfl,rfl,bF.of ha0,?_,.inl ⟨rfl,_,bF.of hb⟩,?_⟩
  ·show (oK xs.length a).bind (fun j=>xs[j]?)=some (.ref b)
   rw [hlen,show oK ds.length a=some m from hix]
   exact hxm
  ·refine WE.of hy ⟨vn,cV hjn hvn,?_⟩;show r (.ref b) [vn] H1 Q;have mbF:b∈F2 i:=by rw [hfi];exact RY _ mb
   refine D H1 Hm2 b ys es [vn] [d] _ Q hb (R2.off i b mbF) R2.sub ry (.cons rn .nil) p1 fun ys' new u v p2 ry' ru=>?_
   have nab:a0≠b:=fun z=>n0 (z ▸ mb)
   have R3:=R2.Q9 (o:=.lst ys') (d':=.list (ds.set m (.list new))) e2 ho mbF (by
    rw [hfi];exact .dp (by rw [ak nab];exact ha0) n0 (it0.put ry' hxm ⟨es,hes⟩)) kr fun z=>by cases z
   exact q _ _ _ _ _ _ _ [] p2 R3 (s1.trans s2) (Tm.sh ru)
def P7 (j jn:Nat){i n:Nat}{x y name:Str}{id:String}{p yp sp apos cpos:Pos}{jx:Expr}{f:DM}{r:V->List V->Hp->VK->Prop}{dj:DE}(hm:vP X id r)(D:Bj X.K f r)(slot:Slot "list" name id)(hty:typeOf (.builtin id)=pure (.type "method_descriptor"))(hd:SE X Ex Y jx dj)
  (hN:X.N[j]?=some x:=by rfl)(hv:jG X.env.scope x:=by first | exact Or.inl rfl | exact Or.inr (Or.inl rfl) | exact Or.inr (Or.inr rfl))(hj:Y[j]?=some i:=by rfl)(hNn:X.N[jn]?=some y:=by rfl)(hvn:jG X.env.scope y:=by first | exact Or.inl rfl | exact Or.inr (Or.inl rfl) | exact Or.inr (Or.inr rfl))(hjn:Y[jn]?=some n:=by rfl)(hs:mR jx:=by intro _ _;rfl)(hline:(apos.endLine == cpos.line)=true:=by rfl)
  (hb:(x == ("__debug__":Str))=false:=by decide)(hcd:(x == ("__classdict__":Str))=false:=by decide)(hbn:(y == ("__debug__":Str))=false:=by decide)(hcn:(y == ("__classdict__":Str))=false:=by decide) :
  SE X Ex Y (.Call (.Attribute (.Subscript (.Name x p) jx sp) name apos) [.Name y yp] [] cpos) (zz f i dj n):=MK hm D slot hty (fm hN hv hb hcd) hj (fm hNn hvn hbn hcn) hjn hs hd hline
end
section
variable {P:Program}{w:World}{K:Frag}{mg:XG}{base:Heap}{N:Xc}{qual:Str}{scope:Scope}{f:Addr}{cd:Value}{A:Around}{outer:List Env}{s0:Shared}{H0:Hp}{Ex:XK}
def qG {j}(h:∃ C,mg x=some (.ref C)/\gD K C vM "ValueError.__new__" none=true)(hg:Gl (gp (fN P w) P w K mg base N qual scope f cd A outer s0 H0 Ex) x:=by rfl)(hdb:(x == ("__debug__":Str))=false:=by decide) :
  S1 (gp (fN P w) P w K mg base N qual scope f cd A outer s0 H0 Ex) Ex (.Raise (some (.Call (.Name x np) [.Constant (.str y) j p] [] cpos)) none pos) (ng x):=by
 obtain ⟨C,h⟩:=h;intro g D' E U H Hm F D hx R hp nx rt;refine WS.of (Ig h.2 hg h.1 (eT Gg gH) hdb) ⟨by show 1<=sizeLine;decide,fun a ha=>?_⟩
 exact hx x .none C a _ h.1 hp (fun p o hp ho=>cj ha _ _ (R.fr p o hp ho)) aH (R.fF ha)
end
end Dv
namespace Dv
open PySem L2
def Jc (most:Nat)(E:En) (i:Nat)(v:PyData)(Q:Xi):Prop:=match E[i]?,v with
 | some (some (.ow p,.list ds)),.list es=>ds.length + es.length<=most/\Q (E.set i (some (.ow p,.list (ds++es))))
 | _,_=>False
universe u
def aI {a b:Prop}(x:a)(y:b):a/\b:=⟨x,y⟩
theorem rr0:dC v x E Q=Q E .sh v:=rfl
theorem rr1:bN i x (o::E) Q=DY (o::E) i Q:=rfl
theorem rr2:ah r as x (o::E) Q=jY as x (o::E) fun E1 os=>yG r as E1 os Q:=rfl
theorem rr3:aC sp ms as x (o::E) Q=jY as x (o::E) fun E1 os=>DH sp ms as x E1 os Q:=rfl
theorem rr4:cu d x (o::E) Q=d x (o::E) fun E' _ v=>ud v (Q E'):=rfl
theorem rr5:AJ i x (o::E) Q=DO (o::E) i Q:=rfl
theorem rr6:zW t x (o::E) Q=t x (o::E) fun E' b=>Q E' (!b):=rfl
theorem rr7:xE a b x (o::E) Q=a x (o::E) fun E1 _ v=>AS v fun c=>dJ c (b x E1 Q) (Q E1 .sh (.bool false)):=rfl
theorem rr8:pQ a b x (o::E) Q=a x (o::E) fun E1 _ v=>AS v fun c=>dJ c (Q E1 .sh (.bool true)) (b x E1 Q):=rfl
theorem rr9:pK a x (o::E) Q=a x (o::E) fun E1 _ v=>ud v fun c=>Q E1 .sh (.bool !c):=rfl
theorem rr10:jI f f' a b c x (o::E) Q=a x (o::E) fun E1 _ u=>qT u fun i=>b x E1 fun E2 _ v=>qT v fun j=>dJ (f i j) (c x E2 fun E3 _ w=>qT w fun k=>Q E3 .sh (.bool (f' j k))) (Q E2 .sh (.bool false)):=rfl
theorem rr11:zS c a b x (o::E) Q=c x (o::E) fun E1 t=>dJ t (a x E1 Q) (b x E1 Q):=rfl
theorem rr12:d9 D E=D.nx E:=rfl
theorem rr13:ay a b D (o::E)=a { D with nx:=b D } (o::E):=rfl
theorem rr14:dG c a b D (o::E)=c D.xc (o::E) fun E1 t=>dJ t (a D E1) (b D E1):=rfl
theorem rr15:aX i e D (o::E)=e D.xc (o::E) fun E' k v=>bK (rZ E' i) (D.nx (E'.set i (some (k,v)))):=rfl
theorem rr16:sF is e D (o::E)=e D.xc (o::E) fun E' k v=>bK k.fz (Jb is v E' D.nx):=rfl
theorem rr17:bP e D (o::E)=e D.xc (o::E) D.rt:=rfl
theorem rr18:lS i D (o::E)=Ds (o::E) i D.rt:=rfl
theorem rr19:tH f i es x (o::E) Q=bK (jd (o::E) i) (jY (es.map .ev) x (o::E) fun E1 os=>DQ f i (es.map .ev) E1 os Q):=rfl
theorem rr20:i7 i j e D (o::E)=e D.xc (o::E) fun E1 k v=>bK k.fz (bK (here E1 i) (j D.xc E1 fun E2 k2 w=>bK k2.fz (i7.setI E2 i w v D.nx))):=rfl
theorem rr21:QU f i e D (o::E)=bK (here (o::E) i) (e D.xc (o::E) fun E1 _ v=>Mq f E1 i v D.nx):=rfl
theorem rr22:ng c D E=D.xc c .none:=rfl
theorem rr23:cW e D (o::E)=e D.xc (o::E) fun E' _ _=>D.nx E':=rfl
theorem rr24:fZ x E Q=Q E true:=rfl
theorem rr25:iE e x (o::E) Q=e x (o::E) fun E' k v=>bK k.fz (JH v fun xs=>Q E' xs):=rfl
theorem rr26:nh g as x (o::E) Q=jY as x (o::E) fun E1 os=>aL (c7 as E1 os) fun ds=>aL (g ds) fun xs=>Q E1 xs:=rfl
theorem rr27:xD e x (o::E) Q=e x (o::E) fun E' k v=>bK k.fz (vQ v fun ds=>Q E' (ju ds)):=rfl
theorem rr28:Jl a b x (o::E) Q=a x (o::E) fun E1 k v=>bK k.fz (b x E1 fun E2 k2 v2=>bK k2.fz (vQ v fun ds=>vQ v2 fun es=>Q E2 ((ds.zip es).map fun p=>.tuple [p.1,p.2]))):=rfl
theorem rr29:cA most e x ys (o::E) Q=e x (o::E) fun E1 k v=>k.fz=true/\ys.length < most/\Q (ys++[v]) E1:=rfl
theorem rr30:jY [] x E Q=Q E []:=rfl
theorem rr31:jY (.pk i::r) x (o::E) Q=bK (here (o::E) i) (jY r x (o::E) fun E' os=>Q E' (none::os)):=rfl
theorem rr32:jY (.ev d::r) x (o::E) Q=d x (o::E) fun E1 k v=>bK k.fz (jY r x E1 fun E' os=>Q E' (some v::os)):=rfl
theorem rr33:c7 [] E []=some []:=rfl
theorem rr34:∀ {i:Nat}{r:List Arg}{o:Xf}{E:En}{os:Xe},c7 (.pk i::r) (o::E) (none::os)=match (o::E)[i]? with
  | some (some (k,d))=>dJ k.rd ((c7 r (o::E) os).map (d::·)) none
  | _=>none:=rfl
theorem rr35:∀ {d:DE}{v:PyData}{r:List Arg}{E:En}{os:Xe},c7 (.ev d::r) E (some v::os)=(c7 r E os).map (v::·):=rfl
theorem rr36:aL (some a) Q=Q a:=rfl
theorem rr37:aL none Q=False:=rfl
theorem rr38:here (o::E) i=match (o::E)[i]? with
  | some (some _)=>true
  | _=>false:=rfl
theorem rr39:b9 (some (k,d))=!k.pin:=rfl
theorem rr40:b9 none=true:=rfl
theorem rr41:jd (o::E) i=match (o::E)[i]? with
  | some (some (.ow _,.list _))=>true
  | _=>false:=rfl
theorem rr42:jM (o::E) i=match (o::E)[i]? with
  | some (some (.sh,_))=>true
  | _=>false:=rfl
theorem rr43:rP (o::E) i=match (o::E)[i]? with
  | some (some (k,d))=>dJ k.fz (some ((o::E).set i (some (.sh,d)))) none
  | _=>none:=rfl
theorem rr44:jz [] E=some E:=rfl
theorem rr45:jz (i::r) E=(rP E i).bind (jz r):=rfl
theorem rr46:DY (o::E) i Q=match (o::E)[i]? with
  | some (some (_,d))=>aL (rP (o::E) i) fun E'=>Q E' .sh d
  | _=>False:=rfl
theorem rr47:Ds (o::E) i Q=match (o::E)[i]? with
  | some (some (k,d))=>bK (!k.pin) (Q ((o::E).set i none) k d)
  | _=>False:=rfl
theorem rr48:DO (o::E) i Q=match (o::E)[i]? with
  | some (some (k,d))=>bK k.rd (ud d (Q (o::E)))
  | _=>False:=rfl
theorem rr49:∀ {r:DR}{as:List Arg}{o:Xf}{E:En}{os:Xe}{Q:Xd},yG r as (o::E) os Q=aL (c7 as (o::E) os) fun ds=>r ds fun k v=>aL (rS as (o::E) k v) fun E2=>Q E2 k v:=rfl
theorem rr50:∀ {sp:bq}{ms:XX}{as:List Arg}{x:XC}{o:Xf}{E:En}{os:Xe}{Q:Xd},DH sp ms as x (o::E) os Q=aL (c7 as (o::E) os) fun ds=>bK (tK ms as (o::E)) (sp ds (fun us k v=>Gb ms as (o::E) us k v Q) x):=rfl
theorem rr51:∀ {f:DM}{i:Nat}{as:List Arg}{o:Xf}{E:En}{os:Xe}{Q:Xd},DQ f i as (o::E) os Q=aL (c7 as (o::E) os) fun args=>match (o::E)[i]? with
  | some (some (.ow p,.list ds))=>f ds args fun new v=>Q ((o::E).set i (some (.ow p,.list new))) .sh v
  | _=>False:=rfl
theorem rr52:Mq f (o::E) i v Q=match (o::E)[i]? with
  | some (some (_,.int a))=>qT v fun b=>Q ((o::E).set i (some (.sh,.int (f a b))))
  | _=>False:=rfl
theorem rr53:ud (.bool b) Q=Q b:=rfl
theorem rr54:AS (.bool b) Q=Q b:=rfl
theorem rr55:qT (.int i) Q=Q i:=rfl
theorem rr56:ud (.list ds) Q=Q (!ds.isEmpty):=rfl
theorem rr57:JH (.list ds) Q=Q ds:=rfl
theorem rr58:JH (.tuple ds) Q=Q ds:=rfl
theorem rr59:vQ (.list ds) Q=Q ds:=rfl
theorem rr60:rS as (o::E) k v=dJ ((ir as).all (jM (o::E)) || flat k v) (some (o::E)) (jz (ir as) (o::E)):=rfl
theorem rr61:ir []=[]:=rfl
theorem rr62:ir (.pk i::r)=i::ir r:=rfl
theorem rr63:ir (.ev d::r)=ir r:=rfl
theorem rr64:Kd.fz .sh=true:=rfl
theorem rr65:Kd.fz (.ow false)=true:=rfl
theorem rr66:Kd.fz (.dp false)=true:=rfl
theorem rr67:Kd.fz (.dk false)=true:=rfl
theorem rr68:Kd.fz (.dt false)=true:=rfl
theorem rr69:Kd.rd .sh=true:=rfl
theorem rr70:Kd.rd (.ow p)=true:=rfl
theorem rr71:Kd.rd (.dp p)=true:=rfl
theorem rr72:Kd.rd (.dk p)=true:=rfl
theorem rr73:Kd.rd (.dt p)=true:=rfl
theorem rr74:Kd.pin .sh=false:=rfl
theorem rr75:Kd.pin (.ow p)=p:=rfl
theorem rr76:Kd.pin (.dp p)=p:=rfl
theorem rr77:Kd.pin (.dk p)=p:=rfl
theorem rr78:Kd.pin (.dt p)=p:=rfl
theorem rr79:flat .sh v=lf v:=rfl
theorem rr80:lf (.int i)=true:=rfl
theorem rr81:lf (.bool b)=true:=rfl
theorem rr82:lf (.str s)=true:=rfl
theorem rr83:lf .none=true:=rfl
theorem rr84:(aU ms Q x).xc=x:=rfl
theorem rr85:(aU ms Q x).nx (o::E)=aL (fc ms (o::E)) fun us=>Q us .sh .none:=rfl
theorem rr86:(aU ms Q x).rt (o::E) k v=aL (fc ms (o::E)) fun us=>Q us k v:=rfl
theorem rr87:fc [] E=some []:=rfl
theorem rr88:fc (true::ms) (some (.ow true,.list es)::E)=(fc ms E).map (.list es::·):=rfl
theorem rr89:fc (false::ms) (o::E)=fc ms E:=rfl
theorem rr90:ini (true::ms) (d::ds)=some (.ow true,d)::ini ms ds:=rfl
theorem rr91:ini (false::ms) (d::ds)=some (.sh,d)::ini ms ds:=rfl
theorem rr92:ini [] []=[]:=rfl
theorem rr93:List.replicate (n + 1) (none:Xf)=none::List.replicate n none:=rfl
theorem rr94:List.replicate 0 (none:Xf)=[]:=rfl
theorem rr95:∀ {α β:Type}{f:α->β}{a:α},(some a).map f=some (f a):=rfl
theorem rr96:∀ {α β:Type}{f:α->Option β}{a:α},(some a).bind f=f a:=rfl
theorem rr97:∀ {α:Type}{p:α->Bool},[].all p=true:=rfl
theorem rr98:∀ {α:Type}{p:α->Bool}{a:α}{l:List α},(a::l).all p=(p a && l.all p):=rfl
theorem rr99:(true && b)=b:=rfl
theorem rr100:(false && b)=false:=rfl
theorem rr101:(true || b)=true:=rfl
theorem rr102:(false || b)=b:=rfl
theorem rr103:((!true)=false):=rfl
theorem rr104:((!false)=true):=rfl
theorem rr105:∀ {α:Type}{l:List α},([]:List α)++l=l:=rfl
theorem rr106:∀ {α:Type}{a:α}{l m:List α},(a::l)++m=a::(l++m):=rfl
theorem rr107:rZ (o::E) i=match (o::E)[i]? with
  | some o=>b9 o
  | none=>false:=rfl
theorem rr108:bK true P=P:=rfl
theorem rr109:bK false P=False:=rfl
theorem rr110:∀ {α:Sort u}{a b:α},dJ true a b=a:=rfl
theorem rr111:∀ {α:Sort u}{a b:α},dJ false a b=b:=rfl
theorem rr112:Jb is (.tuple ds) E Q=aL (stK is ds E) Q:=rfl
theorem rr113:stK [] [] E=some E:=rfl
theorem rr114:stK (i::is) (d::ds) (o::E)=dJ (rZ (o::E) i) (stK is ds ((o::E).set i (some (.sh,d)))) none:=rfl
theorem rr115:lY i []=false:=rfl
theorem rr116:lY i (j::l)=(i == j || lY i l):=rfl
theorem rr117:pL [] ks E=true:=rfl
theorem rr118:pL (i::r) ks E=((!lY i ks && !lY i r && jd E i) && pL r ks E):=rfl
theorem rr119:∀ {α:Type}{o:α}{E:List α},(o::E)[0]?=some o:=rfl
theorem rr120:∀ {α:Type}{o:α}{E:List α}{n:Nat},(o::E)[n + 1]?=E[n]?:=rfl
theorem rr121:∀ {α:Type}{o a:α}{E:List α},(o::E).set 0 a=a::E:=rfl
theorem rr122:∀ {α:Type}{o a:α}{E:List α}{n:Nat},(o::E).set (n + 1) a=o::E.set n a:=rfl
def dv:=aI @rr0 <| aI @rr1 <| aI @rr2 <| aI @rr3 <| aI @rr4 <| aI @rr5 <| aI @rr6 <| aI @rr7 <| aI @rr8 <| aI @rr9 <| aI @rr10 <| aI @rr11 <| aI @rr12 <| aI @rr13 <| aI @rr14 <| aI @rr15 <| aI @rr16 <| aI @rr17 <| aI @rr18 <| aI @rr19 <| aI @rr20 <| aI @rr21 <| aI @rr22 <| aI @rr23 <| aI @rr24 <| aI @rr25 <| aI @rr26 <| aI @rr27 <| aI @rr28 <| aI @rr29 <| aI @rr30 <| aI @rr31 <| aI @rr32 <| aI @rr33 <| aI @rr34 <| aI @rr35 <| aI @rr36 <| aI @rr37 <| aI @rr38 <| aI @rr39 <| aI @rr40 <| aI @rr41 <| aI @rr42 <| aI @rr43 <| aI @rr44 <| aI @rr45 <| aI @rr46 <| aI @rr47 <| aI @rr48 <| aI @rr49 <| aI @rr50 <| aI @rr51 <| aI @rr52 <| aI @rr53 <| aI @rr54 <| aI @rr55 <| aI @rr56 <| aI @rr57 <| aI @rr58 <| aI @rr59 <| aI @rr60 <| aI @rr61 <| aI @rr62 <| aI @rr63 <| aI @rr64 <| aI @rr65 <| aI @rr66 <| aI @rr67 <| aI @rr68 <| aI @rr69 <| aI @rr70 <| aI @rr71 <| aI @rr72 <| aI @rr73 <| aI @rr74 <| aI @rr75 <| aI @rr76 <| aI @rr77 <| aI @rr78 <| aI @rr79 <| aI @rr80 <| aI @rr81 <| aI @rr82 <| aI @rr83 <| aI @rr84 <| aI @rr85 <| aI @rr86 <| aI @rr87 <| aI @rr88 <| aI @rr89 <| aI @rr90 <| aI @rr91 <| aI @rr92 <| aI @rr93 <| aI @rr94 <| aI @rr95 <| aI @rr96 <| aI @rr97 <| aI @rr98 <| aI @rr99 <| aI @rr100 <| aI @rr101 <| aI @rr102 <| aI @rr103 <| aI @rr104 <| aI @rr105 <| aI @rr106 <| aI @rr107 <| aI @rr108 <| aI @rr109 <| aI @rr112 <| aI @rr113 <| aI @rr114 <| aI @rr115 <| aI @rr116 <| aI @rr117 <| aI @rr118 <| aI @rr119 <| aI @rr120 <| aI @rr121 <| @rr122
def dw :
 (∀ {o:Xf}{E:En}{i:Nat},bZ (o::E) i=match (o::E)[i]? with
  | some o=>b9 o
  | none=>false) /\
 (∀ {P:Prop},(True/\P)=P) /\
 (∀ {P:Prop},(P/\True)=P) /\
 (∀ {α:Type}{a:α},(a=a)=True) /\
 (∀ {b:Bool},(b || true)=true) /\
 (∀ {α:Type}{a b:α},(if True then a else b)=a) /\
 (∀ {α:Type}{a b:α},(if False then a else b)=b) /\
 (∀ {p:Prop} [Decidable p],(decide p=true)=p) /\
 ((true=false)=False) /\
 ((false=true)=False) /\
 (∀ {b:Bool},((!b)=true)=(b=false)) /\
 (∀ {p:Prop} [Decidable p],(decide p=false)=¬ p) /\
 (type_of% @dU) /\
 (∀ {α:Type}{p:Prop} [Decidable p]{a b:α},dJ (decide p) a b=if p then a else b) /\
 (∀ {p:Prop} [Decidable p]{a b:Prop},dJ (decide p) a b=if p then a else b) /\
 (∀ {b:Bool}{p q:Prop},dJ b p q=if b=true then p else q) /\
 (∀ {α:Type}{b:Bool}{p q:α},dJ b p q=if b=true then p else q) :=
 ⟨(by intro o E i;unfold bZ b9;generalize (o::E)[i]?=z;rcases z with _ | _ | ⟨k,d⟩ <;> rfl),(by intros;simp),(by intros;simp),(by intros;simp),(by intros;simp),(by intros;simp),(by intros;simp),(by intros;simp),(by intros;simp),(by intros;simp),(by intros;simp),(by intros;simp),@dU,(by intros;rw [cy];simp only [TQ]),(by intros;rw [cy];simp only [TQ]),(by intros;exact cy),(by intros;exact cy)⟩
def RJ {x:PyData}{l:XS}:eF (x::l) 0=some x:=by
 unfold eF oK;simp
def RH {x y:PyData}{l:XS}:eF (x::y::l) 1=some y:=by
 unfold eF oK;simp;rw [if_pos (by lia)]
 rfl
def RL {n:Nat}:kZ (n + 1) 0=some 0:=by
 unfold kZ;simp
def Qn {n:Nat}:kZ (n + 2) 1=some 1:=by
 unfold kZ;simp;lia
theorem rr123:dP [.int a,.int b] P=P .sh (.int (a + b)):=rfl
theorem rr124:dP [.list a,.list b] P=(a.length + b.length<=sizeLine/\P (.ow false) (.list (a++b))):=rfl
theorem rr125:dP [.tuple a,.tuple b] P=((a≠[]/\a.length + b.length<=sizeLine)/\P .sh (.tuple (a++b))):=rfl
theorem rr126:nE [.int a,.int b] P=P .sh (.int (a - b)):=rfl
theorem rr127:i8 [.int a,.int b] P=(jU a b/\P .sh (.int (a * b))):=rfl
theorem rr128:i8 [.list a,.int k] P=((-(2 ^ 63)<=k/\k < 2 ^ 63/\a.length * k.toNat<=sizeLine)/\P (.ow false) (.list (List.replicate k.toNat a).flatten)):=rfl
theorem rr129:jL [.int a,.int b] P=(0 < b/\P .sh (.int (a % b))):=rfl
theorem rr130:uF [.int a,.int b] P=(BQ a b/\P .sh (.int (a / b))):=rfl
theorem rr131:HF [.int a,.int b] P=(Ia a b/\P .sh (.int (a ^ b.toNat))):=rfl
theorem rr132:Fw [.int a,.int b] P=P .sh (.bool (decide (a < b))):=rfl
theorem rr133:Rh [.int a,.int b] P=P .sh (.bool (decide (a<=b))):=rfl
theorem rr134:vR [.int a,.int b] P=P .sh (.bool (decide (b < a))):=rfl
theorem rr135:Ni [.int a,.int b] P=P .sh (.bool (decide (b<=a))):=rfl
theorem rr136:za [.int a] P=P .sh (.int (-a)):=rfl
theorem rr137:m6 [.int a,.int b] P=P .sh (.bool (decide (a=b))):=rfl
theorem rr138:m6 [.str a,.str b] P=P .sh (.bool (decide (a=b))):=rfl
theorem rr139:lX [.int a,.int b] P=P .sh (.bool !(decide (a=b))):=rfl
theorem rr140:lX [.str a,.str b] P=P .sh (.bool !(decide (a=b))):=rfl
theorem rr141:m6 [.list a,.list b] P=((dl 8 (.list a)=true/\dl 8 (.list b)=true)/\P .sh (.bool (decide (PyData.list a=.list b)))):=rfl
theorem rr142:lX [.list a,.list b] P=((dl 8 (.list a)=true/\dl 8 (.list b)=true)/\P .sh (.bool !(decide (PyData.list a=.list b)))):=rfl
theorem rr143:aR [.list xs,.int i] P=aL (atK xs i) (P .sh):=rfl
theorem rr144:aR [.tuple xs,.int i] P=aL (atK xs i) (P .sh):=rfl
theorem rr145:dO [.list xs] P=P .sh (.int xs.length):=rfl
theorem rr146:dO [.tuple xs] P=P .sh (.int xs.length):=rfl
theorem rr147:f7 [.list xs] P=P (.ow false) (.list xs):=rfl
theorem rr148:f7 [.tuple xs] P=P (.ow false) (.list xs):=rfl
theorem rr149:nj [.list xs] P=P .sh (.tuple xs):=rfl
theorem rr150:nj [.tuple xs] P=P .sh (.tuple xs):=rfl
theorem rr151:t6 [.int a,.int b] P=P .sh (.int (if b < a then b else a)):=rfl
theorem rr152:t7 [.int a,.int b] P=P .sh (.int (if b > a then b else a)):=rfl
theorem rr153:yf [.int a] P=P .sh (.int (if a < 0 then -a else a)):=rfl
theorem rr154:mY [.int a] P=P .sh (.int a):=rfl
theorem rr155:mY [.bool b] P=P .sh (.int (if b=true then 1 else 0)):=rfl
theorem rr156:kP [.int j] P=((0<=j/\j<=1000)/\P (.ow false) (.list (jZ 0 j.toNat))):=rfl
theorem rr157:dQ ds P=(ds.length<=sizeLine/\P (.ow false) (.list ds)):=rfl
theorem rr158:jK ds P=(ds.length<=sizeLine/\P .sh (.tuple ds)):=rfl
theorem rr159:lJ false false [.list xs] P=P (.ow false) (.list (cutD xs none none)):=rfl
theorem rr160:lJ true false [.list xs,.int a] P=P (.ow false) (.list (cutD xs (some a) none)):=rfl
theorem rr161:lJ false true [.list xs,.int b] P=P (.ow false) (.list (cutD xs none (some b))):=rfl
theorem rr162:lJ true true [.list xs,.int a,.int b] P=P (.ow false) (.list (cutD xs (some a) (some b))):=rfl
theorem rr163:lJ false true [.tuple xs,.int b] P=P .sh (.tuple (cutD xs none (some b))):=rfl
theorem rr164:pG [.int j]=@ite _ (-(2 ^ 62)<=j/\j < 2 ^ 62) (Classical.propDecidable _) (some (jZ 0 j.toNat)) none:=rfl
theorem rr165:Dp [.int i,.int j]=@ite _ (-(2 ^ 62)<=i/\i < 2 ^ 62/\-(2 ^ 62)<=j/\j < 2 ^ 62) (Classical.propDecidable _) (some (jZ i (j - i).toNat)) none:=rfl
theorem rr166:zx c [d] P=aL (v8 d) fun t=>P .sh (.bool (iZ c t)):=rfl
theorem rr167:v8 (.int i)=some "int":=rfl
theorem rr168:v8 (.tuple i)=some "tuple":=rfl
theorem rr169:v8 (.list i)=some "list":=rfl
theorem rr170:v8 (.bool b)=some "bool":=rfl
theorem rr171:v8 .none=some "NoneType":=rfl
theorem rr172:iZ "int" "int"=true:=rfl
theorem rr173:iZ "int" "tuple"=false:=rfl
theorem rr174:iZ "tuple" "int"=false:=rfl
theorem rr175:iZ "tuple" "tuple"=true:=rfl
theorem rr176:iZ "bool" "int"=false:=rfl
theorem rr177:iZ "list" "list"=true:=rfl
theorem rr178:iZ "int" "NoneType"=false:=rfl
theorem rr179:iZ "tuple" "NoneType"=false:=rfl
theorem rr180:fG ds [d] P=(ds.length < sizeLine/\P (ds++[d]) .none):=rfl
theorem rr181:Lj ds [.list es] P=(ds.length + es.length<=sizeLine/\P (ds++es) .none):=rfl
theorem rr182:vB ds [] P=∃ d,ds[ds.length - 1]?=some d/\P ds.dropLast d:=rfl
theorem rr183:vB ds [.int i] P=((-(2 ^ 63)<=i/\i < 2 ^ 63)/\∃ n d,seqIndex? i ds.length=some n/\ds[n]?=some d/\P (ds.eraseIdx n) d):=rfl
theorem rr184:cP (.nm i) d E=bS [i] [d] E:=rfl
theorem rr185:cP (.tp is) (.tuple ds) E=bS is ds E:=rfl
theorem rr186:bS [] [] E=some E:=rfl
theorem rr187:bC [] E=some E:=rfl
theorem rr188:i7.setI (o::E) i w v Q=match (o::E)[i]?,w with
  | some (some (.ow p,.list ds)),.int a=>aL (xZ ds.length a) fun n=>Q ((o::E).set i (some (.ow p,.list (ds.set n v))))
  | some (some (.dk p,.dict kvs)),w=>(qg w=true/\kvs.length < 16777216)/\Q ((o::E).set i (some (.dk p,.dict (putD kvs w v))))
  | some (some (.dt p,.dict (_::kvs))),.tuple ks=>(ks.all qg=true/\kvs.length < 16777216)/\Q ((o::E).set i (some (.dt p,.dict ((.none,.none)::putD kvs (.tuple ks) v))))
  | _,_=>False:=rfl
theorem rr189:Gb ms as (o::E) us k v Q=aL (jW ms as us (o::E)) fun E2=>aL (tX ms as us E2 k v) fun E3=>Q E3 k v:=rfl
theorem rr190:jW [] [] [] E=some E:=rfl
theorem rr191:jW (false::ms) (a::r) us E=jW ms r us E:=rfl
theorem rr192:jW (true::ms) (.pk i::r) (u::us) (o::E)=match (o::E)[i]? with
  | some (some (.ow p,.list _))=>dJ (Bv u) (jW ms r us ((o::E).set i (some (.ow p,u)))) none
  | _=>none:=rfl
theorem rr193:Bv (.list l)=true:=rfl
theorem rr194:tX ms as us (o::E) k v=dJ ((kept ms as).all (jM (o::E)) || (flat k v && us.all (flat (.ow false)))) (some (o::E)) (jz (kept ms as) (o::E)):=rfl
theorem rr195:kept [] []=[]:=rfl
theorem rr196:kept (false::ms) (.pk i::r)=i::kept ms r:=rfl
theorem rr197:kept (false::ms) (.ev d::r)=kept ms r:=rfl
theorem rr198:kept (true::ms) (a::r)=kept ms r:=rfl
theorem rr199:tK ms as (o::E)=(shape ms as && pL (lent ms as) (kept ms as) (o::E)):=rfl
theorem rr200:lent [] []=[]:=rfl
theorem rr201:lent (true::ms) (.pk i::r)=i::lent ms r:=rfl
theorem rr202:lent (false::ms) (a::r)=lent ms r:=rfl
theorem rr203:shape [] []=true:=rfl
theorem rr204:shape (true::ms) (.pk i::r)=shape ms r:=rfl
theorem rr205:shape (false::ms) (a::r)=shape ms r:=rfl
theorem rr206:∀ {α:Type},([]:List α).length=0:=rfl
theorem rr207:∀ {α:Type}{a:α}{l:List α},(a::l).length=l.length + 1:=rfl
theorem rr208:sizeLine=16777216:=rfl
theorem rr209:∀ {f:DE->Arg},List.map f []=[]:=rfl
theorem rr210:∀ {f:DE->Arg}{a:DE}{l:List DE},List.map f (a::l)=f a::List.map f l:=rfl
theorem rr211:atK (x::l) 0=some x:=rfl
theorem rr212:atK (x::y::l) 1=some y:=rfl
theorem rr213:xZ (n + 1) 0=some 0:=rfl
theorem rr214:xZ (n + 2) 1=some 1:=rfl
theorem rr215:xZ (n + 1 + 1) 1=some 1:=rfl
def Ru:(∀ {x:PyData}{l:XS},eF (x::l) 0=some x)/\(∀ {x y:PyData}{l:XS},eF (x::y::l) 1=some y)/\(∀ {n:Nat},kZ (n + 1) 0=some 0)/\(∀ {n:Nat},kZ (n + 2) 1=some 1)/\(∀ {n:Nat},kZ (n + 1 + 1) 1=some 1)/\(∀ {P:Xg},cG false [.none,.none] P=P .sh (.bool true))/\(∀ {P:Xg},cG true [.none,.none] P=P .sh (.bool false))/\(∀ {i:Int}{P:Xg},cG false [.int i,.none] P=P .sh (.bool false))/\(∀ {i:Int}{P:Xg},cG true [.int i,.none] P=P .sh (.bool true))/\(∀ {i:XS}{P:Xg},cG false [.tuple i,.none] P=P .sh (.bool false))/\(∀ {i:XS}{P:Xg},cG true [.tuple i,.none] P=P .sh (.bool true))/\(∀ {d:PyData}{xs:XS}{P:Xg},jS false [d,.list xs] P=((xs.all (dl 8)=true/\dl 8 d=true)/\P .sh (.bool (decide (d∈xs)))))/\(∀ {d:PyData}{xs:XS}{P:Xg},jS true [d,.list xs] P=((xs.all (dl 8)=true/\dl 8 d=true)/\P .sh (.bool !(decide (d∈xs)))))/\(∀ {d:PyData}{xs:XS}{P:Xg},jS false [d,.tuple xs] P=((xs.all (dl 8)=true/\dl 8 d=true)/\P .sh (.bool (decide (d∈xs)))))/\(∀ {d:PyData}{xs:XS}{P:Xg},jS true [d,.tuple xs] P=((xs.all (dl 8)=true/\dl 8 d=true)/\P .sh (.bool !(decide (d∈xs)))))/\(∀ {i:Nat}{is:Xa}{d:PyData}{ds:XS}{o:Xf}{E:En},bS (i::is) (d::ds) (o::E)=if bZ (o::E) i then bS is ds ((o::E).set i (some (.sh,d))) else none)/\(∀ {i:Nat}{r:Xa}{o:Xf}{E:En},bC (i::r) (o::E)=if bZ (o::E) i then bC r ((o::E).set i none) else none)/\(∀ {i:Nat},List.contains [] i=false)/\(∀ {i j:Nat}{l:Xa},List.contains (j::l) i=(i == j || List.contains l i))/\(∀ {α:Type},(([]:List α).Nodup)=True)/\(∀ {i:Nat},([i]:Xa).Nodup=True)/\type_of% @uo/\type_of% @zT :=
 ⟨RJ,RH,RL,Qn,Qn,(by simp [cG]),(by simp [cG]),(by simp [cG]),(by simp [cG]),(by simp [cG]),(by simp [cG]),(by intro d xs P;cases d <;> rfl),(by intro d xs P;cases d <;> rfl),(by intro d xs P;cases d <;> rfl),(by intro d xs P;cases d <;> rfl),rfl,rfl,(by intros;simp),(by intros;rw [List.contains_cons]),(by intros;simp),(by intros;simp),@uo,@zT⟩
def dx:=aI @rr123 <| aI @rr124 <| aI @rr125 <| aI @rr126 <| aI @rr127 <| aI @rr128 <| aI @rr129 <| aI @rr130 <| aI @rr131 <| aI @rr132 <| aI @rr133 <| aI @rr134 <| aI @rr135 <| aI @rr136 <| aI @rr137 <| aI @rr138 <| aI @rr139 <| aI @rr140 <| aI @rr141 <| aI @rr142 <| aI @rr143 <| aI @rr144 <| aI @rr145 <| aI @rr146 <| aI @rr147 <| aI @rr148 <| aI @rr149 <| aI @rr150 <| aI @rr151 <| aI @rr152 <| aI @rr153 <| aI @rr154 <| aI @rr155 <| aI @rr156 <| aI @rr157 <| aI @rr158 <| aI @rr159 <| aI @rr160 <| aI @rr161 <| aI @rr162 <| aI @rr163 <| aI @rr164 <| aI @rr165 <| aI @rr166 <| aI @rr167 <| aI @rr168 <| aI @rr169 <| aI @rr170 <| aI @rr171 <| aI @rr172 <| aI @rr173 <| aI @rr174 <| aI @rr175 <| aI @rr176 <| aI @rr177 <| aI @rr178 <| aI @rr179 <| aI @rr180 <| aI @rr181 <| aI @rr182 <| aI @rr183 <| aI @rr184 <| aI @rr185 <| aI @rr186 <| aI @rr187 <| aI @rr188 <| aI @rr189 <| aI @rr190 <| aI @rr191 <| aI @rr192 <| aI @rr193 <| aI @rr194 <| aI @rr195 <| aI @rr196 <| aI @rr197 <| aI @rr198 <| aI @rr199 <| aI @rr200 <| aI @rr201 <| aI @rr202 <| aI @rr203 <| aI @rr204 <| aI @rr205 <| aI @rr206 <| aI @rr207 <| aI @rr208 <| aI @rr209 <| aI @rr210 <| aI @rr211 <| aI @rr212 <| aI @rr213 <| aI @rr214 <| aI @rr215 <| @Ru
end Dv
namespace L2
open PySem PySem.Spec PyProof.Rows
def Dw {K:XO}{mb:XG}{CX:lM}{k:Nat}{fa a:Addr}{sp:Sp}{s₁:Shared}{vs:XU}{ns:Xb}
  (KX:K.In s₁.heap)(hns:s₁.heap.Ns mainGlobals mg)(hb:s₁.heap.Ns builtinsNs mb)(hbb:∀ x:Str,x≠"__name__"->mb x=bootBuiltins x)(hlim:s₁.heap.NoLimit)(hg:s₁.gens=#[])
  (ha:s₁.heap.get? a=some { cls:=.type "list",data:=.seq vs.toArray })(hi:IntsAre vs ns)(hl:ns.length<=sizeLine)(hr:ef k callerA)
  (F:∀ base:Heap,K.In base->base.Ns mainGlobals mg->gn P w K mg base CX k fa fd [x] sp)(hbind:∀ (s:Shared)(u:Value),BindsTo s fd ⟨[u],[]⟩ [(x,u)])
  (hsp:∀ H:Hp,Gx H->Dv.cg K H a (ns.map V.int)->sp [.ref a] H (fun v _=>v=.bl true) fun _ _ _=>False)
  (hCX:∀ H e s',CX [] H s₁ (fun _ _ _=>False) e s'->False) :
  codeAny (model P w) callerA (.call (.ref fa) ⟨[.ref a],[]⟩) (fun r s'=>r=.ok (.ret (.bool true))/\OldK s₁.heap s'.heap/\s'.os=s₁.os/\AllBare s'.gens) s₁:=by
 have rv:=wo hi;have yX:=hi.length
 -- from an abstract heap in which nothing but the script may be tracked
 have core:∀ H:Hp,Gx H->Dv.cg K H a (ns.map V.int)->dm P w H s₁.heap->(∀ b,H b≠none->b=a)->(H a≠none->K.lookup a=none) ->
   codeAny (model P w) callerA (.call (.ref fa) ⟨[.ref a],[]⟩) (fun r s'=>r=.ok (.ret (.bool true))/\OldK s₁.heap s'.heap/\s'.os=s₁.os/\AllBare s'.gens) s₁:=by
  intro H hO hS hok hA hK;have base_of:∀ {b:Addr}{o:Obj},s₁.heap.get? b=some o->H b=none->(oA s₁.heap H).get? b=some o:=fun e n=>GF e n
  have noA:∀ {b:Addr}{o:Obj}{es:XI}{ep:Nat},s₁.heap.get? b=some o->o.data=.dict es ep->H b=none:=fun {b o es ep} e d=>by
   cases q:H b with
   | none=>rfl
   | some u =>
    have e':b=a:=hA b (by rw [q];simp)
    subst e';rw [ha] at e;cases e;have d':Data.seq vs.toArray _=Data.dict es ep:=d;cases d'
  have nsK:∀ {b:Addr}{m:XG},s₁.heap.Ns b m->(oA s₁.heap H).Ns b m:=fun {b m} ⟨o,es,ep,e,d,r⟩=>⟨o,es,ep,base_of e (noA e d),d,r⟩
  have hKb:K.In (oA s₁.heap H):=fun b o e=>base_of (KX b o e) (by
   cases q:H b with
   | none=>rfl
   | some u =>
    have e':b=a:=hA b (by rw [q];simp)
    subst e';rw [hK (by rw [q];simp)] at e;cases e)
  have hM:Mod K mg (oA s₁.heap H):=⟨hKb,nsK hns,⟨mb,nsK hb,hbb⟩,let ⟨mc,h1,h2⟩:=hlim;⟨mc,nsK h1,h2⟩⟩
  have e0:BV P w K mg (oA s₁.heap H) callerA [] s₁ H:=⟨rfl,hM,fun b o e=>Lo e,VD (EA _ _),trivial,fun b hb=>absurd (show b∈([]:XW) from hb) (by simp),hok,.of_eq hg⟩
  refine V6 ((F _ hKb (nsK hns)).run callerA [] s₁ H ⟨[.ref a],[]⟩ [.ref a] [.ref a] _ _ hr e0 (hbind s₁ (.ref a)) (.cons rfl .nil) (hsp H hO hS)) fun r s' h=>?_
  cases r with
  | error e=>exact (hCX H e s' h).elim
  | ok fl =>
   cases fl with
   | next=>exact False.elim h
   | brk=>exact False.elim h
   | cont=>exact False.elim h
   | ret u =>
    obtain ⟨v,H',os,bare,un,hok',r',q⟩:=h;have q':v=.bl true:=q;subst q';obtain rfl:u=Value.bool true:=r';refine ⟨rfl,OldK.of_keep fun b o e=>?_,os,bare⟩
    cases q:H b with
    | none=>exact un.keep b o e q (by intro z;exact absurd (show b∈([]:XW) from z) (by simp)) (by simp)
    | some u =>
     rcases hO b with z | ⟨ob,xs,z⟩
     ·rw [q] at z;cases z
     ·have z2:=un.jV b ob _ z;obtain ⟨e1,_⟩:=hok b _ z;obtain ⟨e2,_⟩:=hok' b _ z2;rw [e] at e1;cases e1;exact e2
 cases hk:K.lookup a with
 | some o =>
  -- the script is one of the module's own objects
  have e:=KX a o hk;rw [ha] at e;cases e;refine core (fun _=>none) (fun _=>.inl rfl) (.inr ⟨vs,_,hk,by rw [yX];exact hl,rv⟩) (fun b u z=>by have z':(none:Option HO)=some u:=z;cases z') (fun b z=>absurd rfl z) fun z=>absurd rfl z
 | none =>
  refine core (fun b=>if b=a then some (.cE { cls:=.type "list",data:=.seq vs.toArray } (.lst (ns.map V.int))) else none) (fun b=>?_) (.inl (.inr ⟨{ cls:=.type "list",data:=.seq vs.toArray },if_pos rfl⟩)) (fun b u z=>?_) (fun b z=>?_) fun _=>hk
  ·by_cases hb:b=a
   ·exact .inr ⟨_,_,if_pos hb⟩
   ·exact .inl (if_neg hb)
  ·by_cases hb:b=a
   ·have z':=(if_pos hb).symm.trans z;cases z';subst hb;exact ⟨ha,by rw [RX];exact hl,vs,_,rv,ha⟩
   ·have z':=(if_neg hb).symm.trans z;cases z'
  ·by_cases hb:b=a
   ·exact hb
   ·exact absurd (if_neg hb) z
def NC {l:PySem.W.OpenLaw}{n k:Nat}{YP:World->Heap->Prop}{d:DefRec}{K:Params->XO}{CX:World->lM}{sp:World->Sp}
  (hn:l.most=some n)(hn2:n<=sizeLine)(hdf:d.params.defaults=[])(hr:ef k callerA)
  (hY:∀ (w:World)(h:Heap),YP w h->(K w.params).In h)
  (F:∀ (w:World)(mg:XG)(fa:Addr)(h:Heap),(K w.params).In h->h.Ns mainGlobals mg->mg d.name=some (.ref fa) ->
   ∃ fd:FuncData,(∀ (s:Shared)(u:Value),BindsTo s fd ⟨[u],[]⟩ [(x,u)]) /\
    ∀ base:Heap,(K w.params).In base->base.Ns mainGlobals mg->gn l.prog w (K w.params) mg base (CX w) k fa fd [x] (sp w))
  (hsp:∀ (w:World)(H:Hp)(a:Addr)(ns:Xb),ns.length<=n->Gx H->Dv.cg (K w.params) H a (ns.map V.int)->sp w [.ref a] H (fun v _=>v=.bl true) fun _ _ _=>False)
  (hCX:∀ (w:World)(H:Hp)(s:Shared)(e:Value)(s':Shared),CX w [] H s (fun _ _ _=>False) e s'->False) :
  PySem.W.WalkO q loose XP YP l.row.toRowW d [] (fun f vs=>PySem.call f vs):=by
 refine Qw.Ar hn hdf fun w s₀ s₁ mg mb fa o pm cd doc a vs ns G Xk ho hd hcd hmg hobj hints hlen hg=>?_
 have KX:=hY w _ Xk;obtain ⟨fd,hb,hF⟩:=F w mg fa _ KX G.T.g hmg;exact Dw KX G.T.g G.T.b G.T.builtins G.T.nolimit hg hobj hints (SW hlen hn2) hr hF hb (fun H hO hS=>hsp w H a ns hlen hO hS) fun H e s'=>hCX w H s₁ e s'
end L2
namespace Dv
open PySem L2 PySem.W
inductive A7 (K:Frag)(vs:List V)(H:Hp)(Q:VK):Prop
 | mk:∀ (a:Addr)(ns:Xb),(vs=[.ref a])->(cg K H a (ns.map V.int))->(ns.length<=63)->(∀ H',Q (.bl true) H')->A7 K vs H Q
def FI (K:Frag):Sp:=fun vs H Q _E3=>A7 K vs H Q
def uP:bq:=fun ds Q x=>∃ ns:Xb,ds=[.list (ns.map .int)]/\ns.length<=63/\Q [] .sh (.bool true)
def K5 (h:FI K vs H Q E):cC mg K [false] uP vs H Q E:=by
 obtain ⟨a,ns,rfl,r,hl,q⟩:=h;refine ⟨[.list (ns.map .int)],[],H,fun _ _ r=>r=.bool true,xF,ai.refl _,.sh (.lst r (lu ns)) .nil,⟨ns,rfl,hl,rfl⟩,fun us k r u H' Hm' fp e _ _ _ _ _ o _=>?_,fun _ _ _ _ _ _ z=>z.elim⟩
 cases e;cases o with
 | sh h=>cases h;exact q H'
def Fc {l:OpenLaw}{YP:World->Heap->Prop}{d:DefRec}{K:Params->Frag}{k:Nat}(hn:l.most=some 63)(hdf:d.params.defaults=[])(hr:ef k callerA)
  (hY:∀ (w:World)(h:Heap),YP w h->(K w.params).In h)
  (F:∀ (w:World)(mg:XG)(fa:Addr)(h:Heap),(K w.params).In h->h.Ns mainGlobals mg->mg d.name=some (.ref fa) ->
   ∃ fd:FuncData,(∀ (s:Shared)(u:Value),BindsTo s fd ⟨[u],[]⟩ [("script",u)])/\∀ base:Heap,(K w.params).In base->base.Ns mainGlobals mg->gn l.prog w (K w.params) mg base (fN l.prog w) k fa fd ["script"] (cC mg (K w.params) [false] uP)) :
  WalkO q loose XP YP l.row.toRowW d [] (fun f vs=>PySem.call f vs) :=
 L2.NC (n:=63) (k:=k) (x:="script") (CX:=fun w=>fN l.prog w) (sp:=fun w=>FI (K w.params)) hn (by decide) hdf hr hY (fun w mg fa h h1 h2 h3=>by
  obtain ⟨fd,hb,hF⟩:=F w mg fa h h1 h2 h3;exact ⟨fd,hb,fun base g1 g2=>(hF base g1 g2).imp fun vs H Q E z=>K5 z⟩) (fun _ _ a ns hl _ hS=>⟨a,ns,rfl,hS,hl,fun _=>rfl⟩) fun w H s e s' z=>by
  obtain ⟨_,_,_,_,_,_,_,_,_,_,_,_,_,_,z⟩:=z;exact z.elim
def um:DR:=fun ds P=>∃ ps:XN,ds=[.list (ps.map pD)]/\ps.length<=1000/\∀ qs:XN,qs.Perm ps->P (.ow false) (.list (qs.map pD))
def GX:∀ {zs ys:List V},zs.Perm ys->∀ {ps:XN},aA K H ys (ps.map pD)->∃ qs:XN,qs.Perm ps/\aA K H zs (qs.map pD):=by
 intro zs ys h
 induction h with
 | nil=>intro ps r;exact ⟨ps,.refl _,r⟩
 | cons x _ ih =>
  intro ps r;cases ps with
  | nil=>cases r
  | cons p ps =>
   cases r with
   | cons h t =>
    obtain ⟨qs,pq,r'⟩:=ih t;exact ⟨p::qs,pq.cons _,.cons h r'⟩
 | swap x y l =>
  intro ps r
  match ps,r with
  | p::p2::ps,.cons h (.cons h2 t)=>exact ⟨p2::p::ps,List.Perm.swap _ _ _,.cons h2 (.cons h t)⟩
 | trans _ _ ih1 ih2 =>
  intro ps r;obtain ⟨q1,p1,r1⟩:=ih2 r;obtain ⟨q2,p2,r2⟩:=ih1 r1;exact ⟨q2,p2.trans p1,r2⟩
def Dt:cO K um (EH K):=by
 rintro H Hm vs ds P Q s r ⟨ps,rfl,hn,h⟩ q;obtain ⟨x,rfl,h1⟩:=dM r;obtain ⟨a,xs,rfl,ha,r1⟩:=fJ h1;have l1:xs.length=ps.length:=by rw [r1.len,RX]
 refine ⟨a,xs,rfl,(cg.mono s ha).sq,fun y hy=>?_,by rw [l1];exact hn,fun zs p pm hp=>?_⟩
 ·obtain ⟨i,hi⟩:=U7 hy;obtain ⟨d,e,r'⟩:=r1.NU hi;rw [S7] at e;obtain ⟨p,_,rfl⟩:=T8.mp e;cases r' with
  | tup b r2 =>
   obtain ⟨x,y,rfl,h2,h3⟩:=cL r2;cases h2;cases h3;exact ⟨_,_,_,rfl,cJ.of (s _ _ b)⟩
 ·obtain ⟨qs,pq,r'⟩:=GX pm r1;exact bE.nl q s (h qs pq) hp r'
section
variable {X:Cx}{Ex:XK}{Y:Xa}{a:Expr}{p pos:Pos}{as:List Arg}
def LI (hm:X.mg "sorted"=none)(S:aS X Ex Y [a] as)(hg:Gl X "sorted":=by rfl)(ns:noStar a=true:=by rfl):SE X Ex Y (.Call (.Name "sorted" p) [a] [] pos) (ah um as):=fR zF Dt hg hm Wj (by decide) (by decide) (by rw [SG,ns];rfl) S
end
end Dv
namespace Dv
open PySem L2 PySem.W PyProof.Rows
def wJ {M:Model}{A:Around}{E:XE}{s:Shared}{a b:Value}{T id:String}{Q:XE}(ha:s.TypeIs a T)(hb:s.TypeIs b T)(hl:typeLookup (.type T) (dunderI "add")=pure (some (.builtin id)))(hi:isSeqSlotId id=true)(hfill:fillsNumberSlot (.type T) "add"=pure false)
  (hc:wpAny M A (call (.builtin id) [a,b]) Q E s):wpAny M A (inplaceOp .Add a b) Q E s:=by
 unfold inplaceOp;refine Sx ?_;have hfi:fillsInplaceSlot (.type T) "add" (Operator.Add == .Add)=pure false:=by
  unfold fillsInplaceSlot;show (typeLookup (.type T) (dunderI "add") >>= fun fi=>pure (fi.isSome && !isSeqSlot fi))=pure false
  rw [hl];show (pure ((some (Value.builtin id)).isSome && !isSeqSlotId id):Sem Bool)=pure false;rw [hi];rfl
 have hsi:seqSlot? (.type T) (dunderI "add")=pure (some (.builtin id)):=PySem.seqSlot_of hl hi;refine R8 (Ul ha (R8 (Uu hfi ?_)));show wpAny M A (if false=true then _ else _) Q E s
 rw [if_neg SQ];refine R8 (binaryOp1_none (nm:="add") ha hb hfill ?_);refine R8 (Uu hsi ?_);exact R8 (TJ hc)
def Ri (K:Frag):Iu:=fun x y H Q=>∃ l b xs zs,x=.ref l/\y=.ref b/\H l=some (.lst xs)/\cg K H b zs/\xs.length + zs.length<=sizeLine/\Q (.ref l) (upd H l (.lst (xs++zs)))
section
variable {X:Cx}{Ex:XK}
def Lu:Qk X .Add (Ri X.K):=by
 intro pins s U H x y v u Q I rx ry h;obtain ⟨l,b,xs,zs,rfl,rfl,hH,hB,hz,q⟩:=h;cases rx;cases ry;obtain ⟨z,its,n,r,hl,e⟩:=I.Cp hH;obtain ⟨z2,its2,n2,r2,e2⟩:=hB.get I;have hl2:=r2.length;have hsz:its.toArray.size + its2.toArray.size<=sizeLine:=by rw [SD,SD];lia
 have hlong:¬ (!its.toArray.isEmpty && Builtin.List.listTooLong (its.toArray.size + its2.toArray.size))=true:=by
  rw [yy hsz,Bool.and_false];exact SQ
 refine wJ (T:="list") ⟨_,e,rfl⟩ ⟨_,e2,rfl⟩ F.slot_list_iadd.lookup (by decide +kernel) noFill_list_add ?_
 refine Uo F.slot_list_iadd ⟨_,e,rfl⟩ F.entry_list_iadd (F.args_list_iadd_2 _ _)
  (AutoSeq1.list___iadd___list_list_0 l its.toArray n b its2.toArray n2 hlong (by rw [SD];lia) (by lia)) ⟨e,e2,?_⟩
 refine ⟨.ref l,_,I.CQ (its':=its++its2) hH e (by simp) (r.append r2) ?_,rfl,q⟩
 rw [SJ];lia
def Ph {i:Nat}(hN:X.N.Nodup)(hi:X.N[i]?=some x)(hl:Loc X.env.scope x)(hf:X.fn x=true\/X.env.scope.names.lookup x=some .local)(h:SE X Ex (aT X) e d):S1 X Ex (.AugAssign (.Name x pos') .Add e pos) (zK sizeLine i d):=by
 intro g D' E U H Hm F D hx R p nx rt;obtain ⟨hh,p⟩:=p;have hh':here E i=true:=by
  unfold jd at hh;unfold here;split at hh
  ·rename_i q;rw [q]
  ·cases hh
 obtain ⟨v0,hv0⟩:=lT R hh';refine WS.of (Oz hN hi hl bg Lu hf) ⟨v0,cV (jh (bD hi)) hv0,h g D'.xc E U H Hm F _ _ hx R p fun E' k v u H' Hm' F' fp p' R' s' T=>?_⟩
 obtain ⟨fz,pp,ds,es,e1,rfl,hlen,p'⟩:=p';obtain ⟨Hm2,up,R2,rp⟩:=T.cE R' fz;obtain ⟨b,zs,rfl,hb,rz⟩:=fJ rp;obtain ⟨v1,h1,h2⟩:=R2.slot i _ _ e1;rw [hv0] at h1;cases h1;generalize hfi:F' i=fi at h2;cases h2 with
 | @ow _ a xs _ ha rx =>
  obtain ⟨a',xs',g1,g2,g3,g4,R3⟩:=R2.chg (es:=ds++es) e1 (rx.app rz);rw [hv0] at g1;cases g1;rw [ha] at g2;cases g2;refine ⟨a,b,xs,zs,rfl,rfl,ha,cg.mono R2.sub hb,by rw [rx.len,rz.len];exact hlen,?_⟩
  show D.nx ((sel (aT X) U).set i (some (.ref a))) _;have hsel:(sel (aT X) U).set i (some (.ref a))=sel (aT X) U:=by
   refine To fun j=>?_
   rw [Uh]
   by_cases c:i=j
   ·subst c;have:=cV (jh (bD hi)) hv0;rw [if_pos rfl,this,if_pos];rcases Sq i (sel (aT X) U).length with z | z
    ·exact z
    ·rw [Sn z] at this;cases this
   ·rw [if_neg c]
  rw [hsel];exact nx _ _ _ _ _ p' R3 (s'.trans up)
def Rg (i:Nat)(hN:X.N.Nodup)(h:SE X Ex (aT X) e d)(hi:X.N[i]?=some x:=by rfl)(hl:Loc X.env.scope x:=by first | exact Or.inl rfl | exact Or.inr rfl)(hf:X.fn x=true\/X.env.scope.names.lookup x=some .local:=by first | exact Or.inl rfl | exact Or.inr rfl):S1 X Ex (.AugAssign (.Name x pos') .Add e pos) (zK sizeLine i d):=Ph hN hi hl hf h
end
end Dv
namespace Dv
open PySem L2 PySem.W
section
variable {K:Frag}{g:Gh}{E:En}{U:St}{H H' Hm Hm':Hp}{F:Nat->XW}
def Rl.wR (R:Rl K g E U H Hm F){p:Addr}(A:k9 g F H Hm [p]):Rl K g E U (upd H p o) Hm F where
 len:=R.len
 sub:=fun b u e=>by
  have:b≠p:=fun z=>by rw [z,A.off p RT] at e;cases e
  rw [ak this];exact R.sub _ _ e
 slot:=fun i k d e=>by
  obtain ⟨v,h1,h2⟩:=R.slot i k d e;exact ⟨v,h1,h2.step (ai.refl _) fun a ha=>ak fun z=>A.aQ p RT i (z ▸ ha)⟩
 off:=R.off
 bJ:=fun i a ha=>by
  obtain ⟨u,hu,n⟩:=R.bJ i a ha;have ne:a≠p:=fun z=>A.aQ p RT i (z ▸ ha)
  exact ⟨u,by rw [ak ne];exact hu,n⟩
 aQ:=R.aQ
 fr:=fun q o hq ho=>by
  have:q≠p:=fun z=>by rw [z,A.new p RT] at ho;cases ho
  rw [ak this];exact R.fr q o hq ho
 new:=R.new
 pin:=R.pin
 old:=R.old
end
section
variable {X:Cx}{Ex:XK}{Y:Xa}
end
section
variable {X:Cx}{Ex:XK}{Y:Xa}
end
end Dv
namespace SM
open PySem
section
variable {prog:Program}{w:World}{K:Type} [DecidableEq K]{knd:HeapKind prog w K}{A:Around}{E:XE}{s:Shared}{d a:Addr}{k:K}{xs:List (K×Addr×Value)}
def Ez (hu:knd.room A)(hkey:knd.is s.heap k a)(hm:s.heap.DictOfH knd d xs)(hsz:xs.length<=sizeLine)
  (old:∀ p,atKey xs k=some p->Q p.2 { s with toks:=s.toks + knd.draws k })
  (new:atKey xs k=none->∀ h',h'.DictOfH knd d (storedH xs k a dv)->Heap.SameBut d s.heap h'->Q dv { s with heap:=h',toks:=s.toks + knd.draws k }):wpAny (model prog w) A (dictSetDefault d (.ref a) dv) Q E s:=by
 obtain ⟨o,es,ep,ho,hc,hd,he,his,hn⟩:=hm;unfold dictSetDefault
 try with_reducible refine Sx ?_
 refine R8 (knd.pyHash hu hkey (?_:_))
 refine R8 (wpAny_dictFind_heap (s:={ s with toks:=s.toks + knd.draws k }) hu hkey ho hd he his hn (fun hno=>?_) fun j p hj=>?_)
 ·have hnot:k∉xs.map (·.1):=not_mem_keys_of_get hno;have hat:=atKey_none_of_get hno;refine R8 (TJ (R8 (wpAny_updateDictKeys (hz:=by have e:=size_of_entries he;lia) (s:={ s with toks:=s.toks + knd.draws k }) ho hd (R9 (new hat _ ⟨_,_,ep + 1,Tc _ ho (Obj.isFreed_of_dict (Obj.data_mapDictKeys hd _)),hc.mapDictKeys _,Obj.data_mapDictKeys hd _,?_,?_,?_⟩ (Ti ..))))))
  ·rw [storedH_new hat];simp [he,entryOfKey]
  ·rw [storedH_new hat];intro x hx;rcases S6.mp hx with hx | hx
   ·exact knd.keeps (his x hx) ho hd (Ti ..)
   ·have e:x=(k,a,dv):=by simpa using hx
    subst e;exact knd.keeps hkey ho hd (Ti ..)
  ·rw [storedH_new hat,Sg,UM];refine ⟨hn,by simp,fun x hx y hy e=>?_⟩
   have e2:y=k:=by simpa using hy
   exact hnot (by rw [<- e2,<- e];exact hx)
 ·have hat:=atKey_of_get hn hj;refine R8 (Vy (s:={ s with toks:=s.toks + knd.draws k }) ho hd (?_:_))
  rw [entry_at he j,hj];exact R8 (TJ (R9 (old p hat)))
def tL (hu:knd.room A.in1)(hkey:knd.is s.heap k a)(hd0:(d == sysModules)=false)(hm:s.heap.DictOfH knd d xs)(hsz:xs.length<=sizeLine)
  (old:∀ p,atKey xs k=some p->Q p.2 { s with toks:=s.toks + knd.draws k })
  (new:atKey xs k=none->∀ h',h'.DictOfH knd d (storedH xs k a dv)->Heap.SameBut d s.heap h'->Q dv { s with heap:=h',toks:=s.toks + knd.draws k }):wpAny (model prog w) A (call (.builtin "dict.setdefault") [.ref d,.ref a,dv]) Q E s:=by
 refine TX F.slot_dict_setdefault hm.typeIs F.entry_dict_setdefault (?_:_) (F.args_dict_setdefault_3 _ _ _)
 unfold Builtin.«dict.setdefault»;refine R8 (?_:_)
 unfold Builtin.Dict.keyAndDefault;refine R8 (wpAny_notOrdered_dict hm.typeIs (?_:_))
 refine id (?_:wpAny _ _ (pure (d,Value.ref a,some dv)) _ _ s);refine R9 (?_:_)
 refine id (?_:wpAny _ _ (if (d == sysModules)=true then _ else (dictSetDefault d (.ref a) dv >>= _)) _ _ s)
 rw [if_neg (by rw [hd0];exact SQ)]
 exact R8 (Ez hu hkey hm hsz (fun p hp=>R9 ⟨p.2,rfl,old p hp⟩) fun hn h' hm' hs'=>R9 ⟨dv,rfl,new hn h' hm' hs'⟩)
end
end SM
namespace L2
open PySem PySem.Spec PyProof.Rows
section
variable {X:Cx}
def Pa:V->List V->Hp->VK->Prop:=fun x vs H Q=>∃ (a b:Addr)(kvs:List (List Key×V))(k:List Key) (v:V),x=.ref a/\vs=[.ref b,v]/\H a=some (.dT kvs)/\H b=some (.tup (k.map kV))/\kvs.length < sizeLine /\
 match b8 kvs k with
 | some u=>Q u H
 | none=>Q v (upd H a (.dT (kvs++[(k,v)])))
def JS (hu:X.A.units + 8 < cLine):N4 X "dict.setdefault" Pa:=by
 intro pins s U H x vs v us Q I rx rv h;obtain ⟨a,b,kvs,k,y,rfl,rfl,ha,hb,hl,q⟩:=h;cases rx;obtain ⟨u1,u2,rfl,ru1,ru2⟩:=rv.two;cases ru1;obtain ⟨z,hd,xs,rel,dd⟩:=IF I.hok ha;have hz:xs.length<=sizeLine:=by rw [<- Paired.length rel];exact z
 have rv2:=rel.val k;refine SM.tL (Vg (by lia)) (qq I.hok hb) hd dd hz (fun p hp=>?_) fun hn h' dd' hs=>?_
 ·rw [hp] at rv2;cases e:b8 kvs k with
  | none=>rw [e] at rv2;exact absurd rv2.jJ (by simp)
  | some u =>
   rw [e] at rv2 q;obtain ⟨w',hw,rw'⟩:=jQ.some_of (v:=u) (o:=some p.2) rv2;cases hw;exact ⟨u,H,I.tok _,rw',q⟩
 ·rw [hn] at rv2;cases e:b8 kvs k with
  | some u=>rw [e] at rv2;exact absurd rv2.jJ (by simp)
  | none =>
   rw [e] at q;have ep:putK kvs k y=kvs++[(k,y)]:=by
    unfold putK;rw [if_neg];rw [r9,e];decide
   have rp:=rel.put k hb ru2;rw [ep] at rp;obtain ⟨qo,es,ep',hq,h2,h3,h4,_,h5⟩:=dd';refine ⟨y,_,vh I (ob:=.dT (kvs++[(k,y)])) (by rw [ha];exact Tq) hs ⟨qo,hq⟩ ⟨by rw [SJ];exact hl,hd,_,rp.keeps fun c ys ec=>?_,qo,es,ep',hq,h2,h3,h4,h5⟩,ru2,q⟩
   rw [ak (BX ec ha (fun z=>nomatch z))]
   exact ec
end
end L2
namespace SM
open PySem
def zc (h:Heap)(d:Addr)(es:XI) (ep:Nat):Prop:=∃ o,h.get? d=some o/\o.ExactDict/\o.data=.dict es ep
section
variable {prog:Program}{w:World}{A:Around}{E:XE}{s:Shared}{es:XI}{ep:Nat}{v d it:Addr}{i:Nat}
def zc.ty (h:zc s.heap d es ep):s.TypeIs (.ref d) "dict":=by
 obtain ⟨o,ho,hc,_⟩:=h;exact ⟨o,ho,hc.1⟩
def K0 (hd:(d == sysModules)=false)(hm:zc s.heap d es ep)(q:Q (.ref s.heap.objs.size) { s with heap:=s.heap.push { cls:=.type "dict_values",data:=.fields #[.ref d] } }) :
  wpAny (model prog w) A (call (.builtin "dict.values") [.ref d]) Q E s:=by
 refine TX F.slot_dict_values hm.ty F.entry_dict_values (?_:_) (F.args_dict_values_1 _)
 unfold Builtin.«dict.values»;refine R8 (?_:_)
 unfold Builtin.Dict.noArgs;refine R8 (wpAny_notOrdered_dict hm.ty (?_:_))
 refine id (?_:wpAny _ _ (pure d) _ _ s);refine R9 (?_:_)
 refine id (?_:wpAny _ _ (Builtin.Dict.showsAll d >>= _) _ _ s);unfold Builtin.Dict.showsAll;rw [if_neg (by rw [hd];exact SQ)]
 refine R8 (R9 (?_:_))
 exact R8 (T7 (R9 ⟨_,rfl,q⟩))
def Dz (hv:s.heap.IsValuesView v d)(hm:zc s.heap d es ep)
  (q:Q (.ref s.heap.objs.size) { s with heap:=s.heap.push { cls:=.type "dict_valueiterator",data:=.fields #[.ref d,.int 0 0,.int es.size 0,.int ep 0] } }):wpAny (model prog w) A (pyIter (.ref v)) Q E s:=by
 obtain ⟨ov,v1,v2,v3⟩:=id hv;obtain ⟨o,m1,m2,m3⟩:=id hm;refine WR hv.typeIs F.slot_dict_values_iter (TX F.slot_dict_values_iter hv.typeIs F.entry_dict_values_iter (?_:_) (F.args_dict_values_iter_1 _))
 unfold Builtin.«dict_values.__iter__»;refine R8 (R9 (?_:_))
 refine R8 (?_:_)
 unfold Builtin.Dict_items.dictOf;refine R8 (UD v1 v3 (x:=.ref d) rfl (R9 (?_:_)))
 refine R8 (?_:_)
 unfold Builtin.Dict_items.newIterator;refine R8 (Vy m1 m3 (?_:_))
 refine R8 (wpAny_dictEpoch m1 m3 (?_:_))
 have own0:Builtin.Dict_items.ownsTuple "dict_valueiterator"=false:=by decide
 simp only [own0,VN,U4];refine T7 (R9 ⟨_,rfl,"dict_valueiterator",_,⟨_,SY _ rfl,rfl⟩,Vz.lookup,(?_:_)⟩)
 simpa [rawInt] using q
def GZ (ht:s.heap.IsValIter it d i es.size ep)(hm:zc s.heap d es ep)(hx:es[i]?=some e)
  (q:∀ h',h'.IsValIter it d (i + 1) es.size ep->Heap.SameBut it s.heap h'->Q (some e.val) { s with heap:=h' }):wpAny (model prog w) A (pyNext (.ref it)) Q E s:=by
 obtain ⟨o,t1,t2,t3⟩:=id ht;obtain ⟨od,m1,m2,m3⟩:=id hm;unfold pyNext;refine R8 (VH (Uk (name:=Str.ofString "__next__") ht.typeIs Vz
  (TX Vz ht.typeIs Wz (?_:_) (X0 _))))
 refine R8 (R9 (?_:_))
 refine R8 (?_:_)
 refine R8 (?_:_)
 first | refine R8 (W0 ht.typeIs (R9 (?_:_))) | refine R8 (W2 ht.typeIs (R9 (?_:_)))
 refine R8 (Vn t1 t3 (?_:_))
 have own0:Builtin.Dict_items.ownsTuple "dict_valueiterator"=false:=by decide
 simp only [own0,VN,U4];refine id (?_:wpAny _ _ (if (Value.ref d == Value.none)=true then _ else _) _ _ s)
 have nn:¬ ((Value.ref d == Value.none)=true):=fun z=>SQ z
 rw [if_neg nn];refine R8 (R9 (?_:_))
 refine R8 (Vy m1 m3 (?_:_))
 rw [if_neg (by simp)]
 refine R8 (R9 (?_:_))
 refine R8 (wpAny_dictEpoch m1 m3 (?_:_))
 rw [if_neg (by simp)]
 refine R9 (?_:_)
 have lt:i < es.size:=(V9.mp hx).1;have ev:es[i]=e:=(V9.mp hx).2;simp only [show ¬ ((i:Int) < 0) from Int.not_lt.mpr (VW i),U4,Uj,TH lt]
 refine R8 (?_:_)
 first | refine R8 (W0 ht.typeIs (R9 (?_:_))) | refine R8 (W2 ht.typeIs (R9 (?_:_)))
 refine R8 (Wl ht.typeIs (?_:_))
 refine id (?_:wpAny _ _ (setField (.ref it) 1 (rawInt ((i:Int) + 1)) >>= _) _ _ s);refine R8 (UG t1 t3 (by simp) (?_:_))
 have ht':(s.heap.update it (Obj.mapFields (·.setIfInBounds 1 (rawInt ((i:Int) + 1))))).IsValIter it d (i + 1) es.size ep :=
  ⟨_,Tc _ t1 (VE (UH t3 _)),(WU ..).trans t2,by rw [UH t3];simp [rawInt]⟩
 generalize hU:s.heap.update it (Obj.mapFields (·.setIfInBounds 1 (rawInt ((i:Int) + 1))))=Xj at ht' ⊢;refine R8 (Sx (?_:_))
 refine R8 (Wl (s:={ s with heap:=Xj }) ht'.typeIs (?_:_))
 refine R8 (Wl (s:={ s with heap:=Xj }) ht'.typeIs (?_:_))
 refine id (?_:wpAny _ _ (pure es[i].val) _ _ _);refine R9 (R9 ⟨_,rfl,R9 (?_:_)⟩)
 rw [ev];exact q Xj ht' (hU ▸ Ti ..)
def Ab (hh:A.handled=none)(ht:s.heap.IsValIter it d i es.size ep)(hm:zc s.heap d es ep)(hx:es.size<=i)
  (q:∀ h',Heap.ExtBut it s.heap h'->Q none { s with heap:=h' }):wpAny (model prog w) A (pyNext (.ref it)) Q E s:=by
 obtain ⟨o,t1,t2,t3⟩:=id ht;obtain ⟨od,m1,m2,m3⟩:=id hm;unfold pyNext;refine R8 (VH (Uk (name:=Str.ofString "__next__") ht.typeIs Vz
  (TX Vz ht.typeIs Wz (?_:_) (X0 _))))
 refine R8 (R9 (?_:_))
 refine R8 (?_:_)
 refine R8 (?_:_)
 first | refine R8 (W0 ht.typeIs (R9 (?_:_))) | refine R8 (W2 ht.typeIs (R9 (?_:_)))
 refine R8 (Vn t1 t3 (?_:_))
 have own0:Builtin.Dict_items.ownsTuple "dict_valueiterator"=false:=by decide
 simp only [own0,VN,U4];refine id (?_:wpAny _ _ (if (Value.ref d == Value.none)=true then _ else _) _ _ s)
 have nn:¬ ((Value.ref d == Value.none)=true):=fun z=>SQ z
 rw [if_neg nn];refine R8 (R9 (?_:_))
 refine R8 (Vy m1 m3 (?_:_))
 rw [if_neg (by simp)]
 refine R8 (R9 (?_:_))
 refine R8 (wpAny_dictEpoch m1 m3 (?_:_))
 rw [if_neg (by simp)]
 refine R9 (?_:_)
 simp only [show ¬ ((i:Int) < 0) from Int.not_lt.mpr (VW i),U4,Uj,VB hx]
 refine R8 (?_:_)
 first | refine R8 (W0 ht.typeIs (R9 (?_:_))) | refine R8 (W2 ht.typeIs (R9 (?_:_)))
 refine id (?_:wpAny _ _ (setField (.ref it) 0 .none >>= _) _ _ s);refine R8 (UG t1 t3 (by simp) (?_:_))
 refine id (?_:wpAny _ _ (newExc (.type "StopIteration") [] >>= _) _ _ _);refine R8 (?_:_)
 simp only [newTuple,newExc];refine R8 (T7 (?_:_) (by size_fits))
 refine R8 (m:=firstArgMember _ _) (Uu (a:=Value.none) (by first | rfl | (simp only [firstArgMember];rfl)) (?_:_))
 refine T7 (?_:_) (by size_fits)
 simp only [raiseNew];refine R8 (wpAny_handled (?_:_))
 rw [show A.in1.handled=none from hh]
 refine R8 (R9 (wpAny_throw (?_:_)))
 refine R8 (WV (T:="StopIteration") (b:=true) ⟨_,SY _ rfl,rfl⟩ isSubtype_stop (?_:_))
 exact R9 (q _ (((Ti ..).extBut.push _).push _))
end
end SM
namespace L2
open PySem PySem.Spec PyProof.Rows
def Mg (a:Addr)(o:Obj):It :=
 ⟨fun i H=>∃ kvs x,H a=some (.cE o (.dT kvs))/\kvs[i]?=some x,fun i H x H'=>H'=H/\∀ kvs,H a=some (.cE o (.dT kvs))->(kvs[i]?).map (·.2)=some x,fun i H=>∃ kvs,H a=some (.cE o (.dT kvs))/\kvs.length<=i⟩
theorem vU {α β:Type}{F:α->β->Prop}:∀ {l:List α}{m:List β},Paired F l m->∀ {i:Nat}{x:α},l[i]?=some x->∃ y,m[i]?=some y/\F x y
 | _,_,.nil,_,_,h=>nomatch h
 | _,_,.cons r _,0,_,h=>by
  cases h;exact ⟨_,rfl,r⟩
 | _,_,.cons _ t,i + 1,_,h=>vU t (i:=i) h
section
variable {X:Cx}{pins:XH}{U:St}{H:Hp}{s:Shared}
def FU (I:Inv X pins U H s){a:Addr}{o:Obj}{kvs:List (List Key×V)}(h:H a=some (.cE o (.dT kvs))):∃ es ep,o.data=.dict es ep/\SM.zc s.heap a es ep/\es.size=kvs.length/\∀ (i:Nat)(x:List Key×V),kvs[i]?=some x->∃ e:DictEntry,es[i]?=some e/\RelV x.2 e.val:=by
 obtain ⟨ho,_,_,xs,rel,o2,es,ep,h1,h2,h3,h4,_⟩:=(show bL X.prog X.w H s.heap a (.cE o (.dT kvs)) from I.hok a _ h)
 have e:o2=o:=by
  rw [ho] at h1;exact (Option.some.inj h1).symm
 subst e;refine ⟨es,ep,h3,⟨o2,ho,h2,h3⟩,?_,fun i x hx=>?_⟩
 ·have:=congrArg List.length h4;rw [TU,RX] at this;rw [this,Paired.length rel]
 ·obtain ⟨y,hy,r⟩:=vU rel hx;have:es.toList[i]?=some (entryOfKey (tupleKind (cT X.prog X.w)) y):=by rw [h4,S7,hy];rfl
  rw [Sk] at this;exact ⟨_,this,r.2.2⟩
end
def Ga {P:Program}{w:World}{K:XO}{tg:Expr}(a it:Addr)(o:Obj){es:XI}{ep:Nat}(ho:o.data=.dict es ep):Turn P w K tg (Mg a o) [it] it (fun i h=>h.IsValIter it a i es.size ep) where
 mem:=by simp
 obj:=fun i h st b hb=>by
  have e:b=it:=by simpa using hb
  subst e;obtain ⟨o,e,c,d⟩:=st;exact ⟨o,e,fun v z=>by rw [d] at z;cases z⟩
 keep:=fun i h h' st k=>by
  obtain ⟨o,e,r⟩:=st;exact ⟨o,k it (by simp) o e,r⟩
 item:=by
  intro X hP hw hK hc i pins s U H E I hf st hg;subst hP hw hK;obtain ⟨kvs,x,hq,hx⟩:=hg;obtain ⟨es2,ep2,d2,ea,sz,val⟩:=FU I hq;rw [ho] at d2;cases d2;obtain ⟨e,he,re⟩:=val i x hx;obtain ⟨f0,f1,f2,f3,f4,f5⟩:=hf it (by simp)
  refine SM.GZ st ea he fun h' st' sb=>?_
  have I1:Inv X pins U H { s with heap:=h' }:=I.turned (t':=s.toks) (fun b o hb e=>(sb.2 b hb).trans e) f0 f1 f3 f4 f5
  obtain ⟨o,e,c,d⟩:=id st';refine ⟨_,rfl,wW (s:={ s with heap:=h' }) e c d (by decide) ⟨x.2,H,I1,re,⟨rfl,fun kvs2 h2=>?_⟩,st',fun b hb=>(hf b hb).1⟩⟩
  rw [hq] at h2;cases h2;rw [hx];rfl
 done:=by
  intro X hP hw hK hc i pins s U H E I hf st hg;subst hP hw hK;obtain ⟨kvs,hq,hx⟩:=hg;obtain ⟨es2,ep2,d2,ea,sz,val⟩:=FU I hq;rw [ho] at d2;cases d2;obtain ⟨f0,f1,f2,f3,f4,f5⟩:=hf it (by simp)
  exact SM.Ab (I.ok.hd hc) st ea (by lia) fun h' eb=>⟨rfl,I.turned (t':=s.toks) (fun b o hb e=>eb b o hb e) f0 f1 f3 f4 f5⟩
 self:=fun _ _ _ _ _ st h=>wpAny_pyIter_valiter st h
inductive FF (R:(It->Hp->Prop)) (x:V)(H1:Hp):Prop
 | mk:∀ a kvs,(x=.ref a)->(H1 a=some (.dT kvs))->(∀ o,R (Mg a o) (upd H1 a (.cE o (.dT kvs))))->FF R x H1
def OM (tl:TE):TI:=fun U H R=>tl U H fun x H1=>FF R x H1
section
variable {X:Cx}{tg:Expr}
def JT {l:Expr}{tl:TE}{apos cpos:Pos}(hl:PE X l tl)(hbase:attributeBase l "values" X.env (eval l X.env)=eval l X.env:=by rfl)(hline:(apos.endLine == cpos.line)=true:=by rfl):PI X tg (.Call (.Attribute l "values" apos) [] [] cpos) (OM tl):=by
 intro pins s U H R I h;refine wpAny_Call_method0_late hbase hline (aM (hl pins s U H _ I h) fun v s1 ⟨x,H1,I1,r1,q1⟩=>?_)
 obtain ⟨a,kvs,e,ha,q⟩:=q1;subst e;cases r1;obtain ⟨z,hd,xs,rel,o,es,ep,h1,h2,h3,h4,h5⟩:=(show bL X.prog X.w H1 s1.heap a (.dT kvs) from I1.hok a _ ha)
 have If:Inv X pins U (upd H1 a (.cE o (.dT kvs))) s1:=by
  have:=I1.write (x:=a) (e:=a) (o:=.cE o (.dT kvs)) (h':=s1.heap) (t':=s1.toks) (by rw [ha];trivial) (.inl rfl) (fun _ _ _ e=>e) ⟨o,h1⟩ ⟨h1,z,hd,xs,Paired.Dk rel fun p q r=>⟨r.1,by rw [ak (BX r.2.1 ha (fun z=>nomatch z))];exact r.2.1,r.2.2⟩,o,es,ep,h1,h2,h3,h4,h5⟩
  exact this
 refine ⟨"dict","dict.values",F.plainAttrs_dict,F.slot_dict_values,F.type_dict_values,⟨o,h1,h2.1⟩,fun b e=>?_,WD rfl (PySem.evalArgs_none (SM.K0 hd ⟨o,h1,h2,h3⟩ ?_))⟩
 ·cases e;exact ⟨o,h1,h2.2.1⟩
 have hv:(s1.heap.push { cls:=.type "dict_values",data:=.fields #[.ref a] }).IsValuesView s1.heap.objs.size a:=⟨_,SY _ rfl,rfl,rfl⟩;have I2:Inv X pins U (upd H1 a (.cE o (.dT kvs))) { s1 with heap:=s1.heap.push { cls:=.type "dict_values",data:=.fields #[.ref a] } }:=If.kept (t':=s1.toks) fun b o e=>S5 _ e
 refine SM.Dz (s:={ s1 with heap:=s1.heap.push { cls:=.type "dict_values",data:=.fields #[.ref a] } }) hv ⟨o,S5 _ h1,h2,h3⟩ ?_
 generalize s1.heap.push { cls:=.type "dict_values",data:=.fields #[.ref a] }=hp at hv I2 ⊢;refine ⟨hp.objs.size,[hp.objs.size],_,_,_,rfl,I2.kept (t':=s1.toks) fun b o e=>S5 _ e,Ga a _ o h3,⟨_,SY _ rfl,rfl,rfl⟩,fun b hb=>?_,q o⟩
 have e:b=hp.objs.size:=by simpa using hb
 subst e;exact I2.p9 (RW _) (I2.hok.fresh (RW _))
end
end L2
namespace Dv
open PySem L2 PySem.W
def CN:DE:=fun _ E Q=>Q E (.st false) (.dict [(.none,.none)])
def jP:XA->PyData->PyData->List (PyData×PyData)
 | [],k,d=>[(k,.list [d])]
 | (k',v)::r,k,d=>if k'=k then (k',match v with | .list es=>.list (es++[d]) | v=>v)::r else (k',v)::jP r k d
def Mc:PyData->Nat
 | .list es=>es.length
 | _=>0
def HZ (i jc n:Nat):DE:=fun _ E Q=>∃ kvs kc ks k d E2,E[i]?=some (some (.st false,.dict ((.none,.none)::kvs)))/\E[jc]?=some (some (kc,.list ks))/\kc.rd=true/\ks.all qg=true/\E[n]?=some (some (k,d))/\i≠n/\cY E n=some E2/\kvs.length < sizeLine/\(kvs.all fun kv=>decide (Mc kv.2 < sizeLine))=true/\Q (E2.set i (some (.st false,.dict ((.none,.none)::jP kvs (.tuple ks) d)))) .sh .none
def HR (i:Nat):DI:=fun _ E Q=>∃ kvs,E[i]?=some (some (.st false,.dict ((.none,.none)::kvs)))/\Q (E.set i none) (kvs.map (·.2))
section
variable {K:Frag}{H H' Hm Hm':Hp}
def jC.len (i:jC K H Hm xs ds fp):xs.length=ds.length:=by
 induction i with
 | nil=>rfl
 | own _ _ _ _ ih=>exact congrArg (· + 1) ih
def DW {k k':List Key}(h:PyData.tuple (k.map aZ)=.tuple (k'.map aZ)):k=k':=by
 replace h:=PyData.tuple.inj h
 induction k generalizing k' with
 | nil=>cases k' with | nil=>rfl | cons _ _=>cases h
 | cons a k ih =>
  cases k' with
  | nil=>cases h
  | cons b k' =>
   rw [SO,SO,Uw] at h;rw [ih h.2];have h1:=h.1;cases a <;> cases b <;> first | (cases h1;rfl) | cases h1
theorem jC.find (k:List Key):∀ {xs:List (List Key×V)}{ds:XA}{fp:XW},jC K H Hm xs ds fp ->
  (b8 xs k=none/\∀ (H':Hp) d e x,H' e=some (.lst [x])->Rp K Hm x d->(∀ a∈fp,H' a=H a)->e∉fp->jC K H' Hm (xs++[(k,.ref e)]) (jP ds (.tuple (k.map aZ)) d) (fp++[e])) \/
  ∃ b ys,b8 xs k=some (.ref b)/\b∈fp/\H b=some (.lst ys)/\(∃ kv∈ds,ys.length=Mc kv.2)/\∀ (H':Hp) x d,Rp K Hm x d->H' b=some (.lst (ys++[x]))->(∀ a∈fp,a≠b->H' a=H a)->jC K H' Hm xs (jP ds (.tuple (k.map aZ)) d) fp
 | _,_,_,.nil=>.inl ⟨rfl,fun _ d e x he r _ n=>.own he (.cons r .nil) Se .nil⟩
 | _,_,_,.own (k:=k') (b:=b) (ys:=ys) (es:=es) (kvs:=kvs) (ds:=ds) (fp:=fp) hb r nb t=>by
  by_cases c:k'=k
  ·subst c;refine .inr ⟨b,ys,?_,RT,hb,⟨_,RT,r.len⟩,fun H' x d rx h1 h2=>?_⟩
   ·unfold b8;rw [VP (by simp)]
    rfl
   ·unfold jP;rw [if_pos rfl];exact .own h1 (r.snoc rx) nb (t.step (ai.refl _) fun a ha=>h2 a (RY _ ha) fun z=>nb (z ▸ ha))
  ·have ne:PyData.tuple (k'.map aZ)≠.tuple (k.map aZ):=fun z=>c (DW z)
   have ev:b8 ((k',V.ref b)::kvs) k=b8 kvs k:=by
    unfold b8;rw [VQ (by simpa using c)]
   rcases t.find k with ⟨e1,h⟩ | ⟨b',ys',e1,m1,e2,⟨kv,m2,e3⟩,h⟩
   ·refine .inl ⟨ev.trans e1,fun H' d e x h1 rx h2 n=>?_⟩
    unfold jP;rw [if_neg ne];refine .own ((h2 _ RT).trans hb) r (fun z=>?_) (h H' d e x h1 rx (fun a ha=>h2 a (RY _ ha)) fun z=>n (RY _ z))
    rcases S6.mp z with z | z
    ·exact nb z
    ·exact n (RZ.mp z ▸ RT)
   ·refine .inr ⟨b',ys',ev.trans e1,RY _ m1,e2,⟨kv,RY _ m2,e3⟩,fun H' x d rx h1 h2=>?_⟩
    have nbb:b≠b':=fun z=>nb (z ▸ m1)
    unfold jP;rw [if_neg ne];exact .own ((h2 b RT nbb).trans hb) r nb (h H' x d rx h1 fun a ha hn=>h2 a (RY _ ha) hn)
def jC.vals (s:ai Hm Hm')(i:jC K H Hm xs ds fp):(∀ a∈fp,Hm' a=H a)->aA K Hm' (xs.map (·.2)) (ds.map (·.2)):=by
 induction i with
 | nil=>exact fun _=>.nil
 | own e r _ _ ih=>exact fun h=>.cons (.lst (.inl (.inl ((h _ RT).trans e))) (r.mono s)) (ih fun a ha=>h a (RY _ ha))
end
section
variable {X:Cx}{Ex:XK}{Y:Xa}{pos:Pos}{tg:Expr}
def Pd:SE X Ex Y (.Dict [] [] pos) CN:=by
 intro g x E U H Hm F P Q hx R p q;refine WE.of Gy fun a ha=>?_
 have s2:=cj (o:=.dT []) ha;have R2:=R.grow (H':=upd H a (.dT [])) s2 (ai.refl _) (R.sub.trans s2) (fun i b hb=>R.off i b hb) fun _ _=>.inl rfl
 refine q _ _ _ _ _ Hm F [a] p R2 (ai.refl _) ⟨.st aH Se .nil,fun b hb=>?_,fun b hb i=>?_,fun b hb=>?_⟩
 ·rw [RZ.mp hb];exact R.nA ha
 ·rw [RZ.mp hb];exact R.fresh ha
 ·rw [RZ.mp hb];exact R.fF ha
def set_same {U:St}{i:Nat}(h:U[i]?=some (some v)):U.set i (some v)=U:=by
 refine To fun j=>?_
 rw [Uh]
 by_cases c:i=j
 ·subst c;rw [if_pos rfl,h,if_pos (bD h)]
 ·rw [if_neg c]
def L3 {ap1 cpos2 ap2 cpos3:Pos}{i j jc jj n jn:Nat}(hu:X.A.units + 64 < cLine)(hg:Gl X "tuple")(hm:X.mg "tuple"=none)(hv:PE X (.Name x p) (jf j))(hj:Y[j]?=some i)(hc:PE X (.Name c cp) (jf jj))(hjc:Y[jj]?=some jc)
  (hy:PE X (.Name y yp) (jf jn))(hjn:Y[jn]?=some n)(l1:(ap1.endLine == cpos2.line)=true)(l2:(ap2.endLine == cpos3.line)=true) :
  SE X Ex Y (.Call (.Attribute (.Call (.Attribute (.Name x p) "setdefault" ap1) [.Call (.Name "tuple" tp) [.Name c cp] [] cpos1,.List [] lp] [] cpos2) "append" ap2) [.Name y yp] [] cpos3) (HZ i jc n):=by
 intro g xc E U H Hm F P Q hx R h q;obtain ⟨kvd,kc,ks,k0,d,E2,e1,ec,hkc,hks,en,ne,hf,hl,hl2,pq⟩:=h;obtain ⟨vn,Hm2,F2,hvn,s2,R2,rn⟩:=R.cY en hf;have e2:E2[i]?=some (some (.st false,.dict ((.none,.none)::kvd))):=(zu hf ne).trans e1;obtain ⟨v,F3,hv3,R3,T3⟩:=R2.move e2 rfl;obtain ⟨vc,hvc,oc⟩:=R.slot jc _ _ ec;have rc:Rp X.K H vc (.list ks):=oc.rp hkc R.sub fun _ _=>rfl
 obtain ⟨k,rfl⟩:=jF hks;generalize hfi:F2 i=fi at T3;obtain ⟨own,toff,tdis,tnew⟩:=T3;have li:=bD e2;have op:bZ (E2.set i none) i=true:=by
  unfold bZ;rw [aK li]
 cases own with
 | @st _ a kvs _ fp ha na tis =>
 cases rc with
 | @lst ca xs _ hca rxs =>
 have exs:=sr rxs;subst exs;refine WE.of (w9 Vv Ux Uy iu (w9 PySem.F.plainAttrs_dict PySem.F.slot_dict_setdefault PySem.F.type_dict_setdefault (JS (by lia)) hv (eT (jD oO hg hm PyProof.Rows.boot_tuple (eT hc gH)) (eT (DV gH) gH)) rfl rfl l1 rfl rfl) (eT hy gH) rfl rfl l2 rfl rfl) ?_
 refine ⟨_,cV hj hv3,.inr (.inr (.inl ⟨rfl,.inr ⟨_,ha⟩⟩)),_,cV hjc hvc,ca,_,rfl,.inl ⟨hca.sq,fun tp htp=>⟨Sd _,fun e he=>?_⟩⟩⟩
 have tt:=cj (o:=.tup (k.map kV)) htp;have te:=cj (o:=.lst []) he;have st:=tt.trans te;have etp:upd (upd H tp (.tup (k.map kV))) e (.lst []) tp=some (.tup (k.map kV)):=te _ _ aH;have ee:upd (upd H tp (.tup (k.map kV))) e (.lst []) e=some (.lst []):=aH;have ne0:H e=none:=by
  cases z:H e with
  | none=>rfl
  | some o=>rw [tt _ _ z] at he;cases he
 generalize upd (upd H tp (.tup (k.map kV))) e (.lst [])=H2 at st etp ee;have R4:=R3.grow st (ai.refl _) (R3.sub.trans st) R3.off fun _ _=>.inl rfl
 have ha2:=st _ _ ha;have lv:∀ b∈fp,H2 b=H b:=fun b hb=>by
  obtain ⟨ys,h⟩:=tis.live b hb;rw [h];exact st _ _ h
 have tis2:=tis.step (H':=H2) (ai.refl Hm2) lv;have nae:a≠e:=fun z=>by rw [z,ne0] at ha;cases ha
 have nfe:e∉fp:=fun z=>by
  obtain ⟨ys,h⟩:=tis.live e z;rw [ne0] at h;cases h
 refine ⟨a,tp,kvs,k,.ref e,rfl,rfl,ha2,etp,by rw [tis.len];exact hl,?_⟩
 rcases tis2.find k with ⟨ev,h⟩ | ⟨b,ys,ev,mb,hb,⟨kv,mk,lk⟩,h⟩
 ·rw [ev];have ee3:upd H2 a (.dT (kvs++[(k,.ref e)])) e=some (.lst []):=by rw [ak nae.symm];exact ee
  refine ⟨.inl ⟨rfl,_,bF.of ee3⟩,_,cV hjn hvn,e,[],vn,rfl,rfl,ee3,by show 0 < sizeLine;decide,?_⟩
  have A1:k9 g F3 H2 Hm2 [a]:=⟨fun b hb=>by rw [RZ.mp hb];exact ⟨_,ha2,qL⟩,fun b hb=>by rw [RZ.mp hb];exact toff a RT,fun b hb i=>by rw [RZ.mp hb];exact tdis a RT i,fun b hb=>by rw [RZ.mp hb];exact tnew a RT⟩
  have R5:=R4.wR (o:=.dT (kvs++[(k,.ref e)])) A1;have A2:k9 g F3 (upd H2 a (.dT (kvs++[(k,.ref e)]))) Hm2 [e]:=⟨fun b hb=>by rw [RZ.mp hb];exact ⟨_,ee3,kr⟩,fun b hb=>by rw [RZ.mp hb];exact R3.nA ne0,fun b hb i=>by rw [RZ.mp hb];exact R3.fresh ne0,fun b hb=>by rw [RZ.mp hb];exact R3.fF ne0⟩
  have R6:=R5.wR (o:=.lst [vn]) A2;have T6:Tm X.K g F3 (upd (upd H2 a (.dT (kvs++[(k,.ref e)]))) e (.lst [vn])) Hm2 (.st false) (.ref a) (.dict ((.none,.none)::jP kvd (.tuple (k.map aZ)) d)) (a::(fp++[e])):=by
   refine ⟨.st (by rw [ak nae,aH]) (fun z=>?_) (h _ d e vn aH rn (fun b hb=>?_) nfe),fun b hb=>?_,fun b hb i=>?_,fun b hb=>?_⟩
   ·rcases S6.mp z with z | z
    ·exact na z
    ·exact nae (RZ.mp z)
   ·rw [ak (fun z:b=e=>nfe (z ▸ hb)),ak fun z:b=a=>na (z ▸ hb)]
   ·rcases S2.mp hb with rfl | hb
    ·exact toff _ RT
    ·rcases S6.mp hb with hb | hb
     ·exact toff _ (RY _ hb)
     ·rw [RZ.mp hb];exact R3.nA ne0
   ·rcases S2.mp hb with rfl | hb
    ·exact tdis _ RT i
    ·rcases S6.mp hb with hb | hb
     ·exact tdis _ (RY _ hb) i
     ·rw [RZ.mp hb];exact R3.fresh ne0
   ·rcases S2.mp hb with rfl | hb
    ·exact tnew _ RT
    ·rcases S6.mp hb with hb | hb
     ·exact tnew _ (RY _ hb)
     ·rw [RZ.mp hb];exact R3.fF ne0
  have R7:=R6.put T6 op;rw [List.set_set,set_same hv3] at R7;exact q _ _ _ _ _ _ _ [] pq R7 s2 (Tm.sh .br)
 ·rw [ev];have ly:ys.length < sizeLine:=by
   rw [lk];exact SV (SH.mp hl2 kv mk)
  refine ⟨.inl ⟨rfl,_,bF.of hb⟩,_,cV hjn hvn,b,ys,vn,rfl,rfl,hb,ly,?_⟩;have A1:k9 g F3 H2 Hm2 [b]:=⟨fun c hc=>by rw [RZ.mp hc];exact ⟨_,hb,kr⟩,fun c hc=>by rw [RZ.mp hc];exact toff b (RY _ mb),fun c hc i=>by rw [RZ.mp hc];exact tdis b (RY _ mb) i,fun c hc=>by rw [RZ.mp hc];exact tnew b (RY _ mb)⟩
  have R6:=R4.wR (o:=.lst (ys++[vn])) A1;have T6:Tm X.K g F3 (upd H2 b (.lst (ys++[vn]))) Hm2 (.st false) (.ref a) (.dict ((.none,.none)::jP kvd (.tuple (k.map aZ)) d)) (a::fp):=
   ⟨.st (by rw [ak (fun z:a=b=>na (z ▸ mb))];exact ha2) na (h _ vn d rn aH fun c _ hc=>ak hc),toff,tdis,tnew⟩
  have R7:=R6.put T6 op;rw [List.set_set,set_same hv3] at R7;exact q _ _ _ _ _ _ _ [] pq R7 s2 (Tm.sh .br)
def Q0 (j jj jn:Nat){i jc n:Nat}(hu:X.A.units + 64 < cLine)(hm:X.mg "tuple"=none)(hg:Gl X "tuple":=by rfl)(hN:X.N[j]?=some x:=by rfl)(hv:jG X.env.scope x:=by first | exact Or.inl rfl | exact Or.inr (Or.inl rfl) | exact Or.inr (Or.inr rfl))(hj:Y[j]?=some i:=by rfl)
  (hNc:X.N[jj]?=some c:=by rfl)(hvc:jG X.env.scope c:=by first | exact Or.inl rfl | exact Or.inr (Or.inl rfl) | exact Or.inr (Or.inr rfl))(hjc:Y[jj]?=some jc:=by rfl)(hNn:X.N[jn]?=some y:=by rfl)(hvn:jG X.env.scope y:=by first | exact Or.inl rfl | exact Or.inr (Or.inl rfl) | exact Or.inr (Or.inr rfl))(hjn:Y[jn]?=some n:=by rfl)
  (l1:(ap1.endLine == cpos2.line)=true:=by rfl)(l2:(ap2.endLine == cpos3.line)=true:=by rfl)(b1:(x == ("__debug__":Str))=false:=by decide)(b2:(x == ("__classdict__":Str))=false:=by decide)(b3:(c == ("__debug__":Str))=false:=by decide)(b4:(c == ("__classdict__":Str))=false:=by decide)(b5:(y == ("__debug__":Str))=false:=by decide)(b6:(y == ("__classdict__":Str))=false:=by decide) :
  SE X Ex Y (.Call (.Attribute (.Call (.Attribute (.Name x p) "setdefault" ap1) [.Call (.Name "tuple" tp) [.Name c cp] [] cpos1,.List [] lp] [] cpos2) "append" ap2) [.Name y yp] [] cpos3) (HZ i jc n):=L3 hu hg hm (fm hN hv b1 b2) hj (fm hNc hvc b3 b4) hjc (fm hNn hvn b5 b6) hjn l1 l2
def Im {a:Addr}(h:eY a=some (.cE o (.dT kvs)))(r:aA K eY (kvs.map (·.2)) ds):wz K (Mg a o) ds eY:=by
 intro i H Hm s1 s2;have q:H a=some (.cE o (.dT kvs)):=s2 _ _ (s1 _ _ h);have hlen:=r.len;rw [RX] at hlen;refine ⟨fun d e=>?_,fun l=>⟨kvs,q,by lia⟩⟩
 obtain ⟨v,e1,r1⟩:=r.get e;rw [S7] at e1;obtain ⟨kv,e2,rfl⟩:=T8.mp e1;refine ⟨⟨kvs,kv,q,e2⟩,fun x H' y=>?_⟩
 obtain ⟨rfl,y⟩:=y;have:=y kvs q;rw [e2] at this;cases this;exact ⟨Hm,ai.refl _,s2,ai.refl _,fun _ _=>.inl rfl,r1.mono s1⟩
def Mj {i j:Nat}(hv:PE X (.Name x p) (jf j))(hj:Y[j]?=some i)(hline:(apos.endLine == cpos.line)=true):SI X Ex Y tg (.Call (.Attribute (.Name x p) "values" apos) [] [] cpos) (HR i):=by
 refine ⟨_,JT hv rfl hline,?_⟩;intro g xc E U H Hm F P RR hx R h q;obtain ⟨kvd,e1,pq⟩:=h;obtain ⟨v,F3,hv3,R3,T3⟩:=R.move e1 rfl;generalize hfi:F i=fi at T3;obtain ⟨own,toff,tdis,tnew⟩:=T3;cases own with
 | @st _ a kvs _ fp ha na tis =>
 refine ⟨_,cV hj hv3,a,kvs,rfl,ha,fun o=>?_⟩
 have A1:k9 g F3 H Hm [a]:=⟨fun b hb=>by rw [RZ.mp hb];exact ⟨_,ha,qL⟩,fun b hb=>by rw [RZ.mp hb];exact toff a RT,fun b hb i=>by rw [RZ.mp hb];exact tdis a RT i,fun b hb=>by rw [RZ.mp hb];exact tnew a RT⟩
 have R5:=R3.wR (o:=.cE o (.dT kvs)) A1;have tis2:=tis.step (H':=upd H a (.cE o (.dT kvs))) (ai.refl Hm) fun b hb=>ak fun z=>na (z ▸ hb)
 have ha5:upd H a (.cE o (.dT kvs)) a=some (.cE o (.dT kvs)):=aH;generalize upd H a (.cE o (.dT kvs))=H5 at R5 tis2 ha5 ⊢;have up:=ic (Hm:=Hm) (H:=H5) toff;have R6:=R5.more up (i9 R5.sub) (fun j b hb=>by rw [cN fun z=>tdis b z j hb];exact R5.off j b hb) fun b hb=>.inl (cN fun z=>hb (tnew b z))
 exact q _ _ _ _ (lend Hm H5 (a::fp)) _ pq R6 up (Im ((dR RT).trans ha5) (tis2.vals up fun b hb=>dR (RY _ hb)))
def Od (j:Nat){i:Nat}(hN:X.N[j]?=some x:=by rfl)(hv:jG X.env.scope x:=by first | exact Or.inl rfl | exact Or.inr (Or.inl rfl) | exact Or.inr (Or.inr rfl))(hj:Y[j]?=some i:=by rfl)(hline:(apos.endLine == cpos.line)=true:=by rfl)(b1:(x == ("__debug__":Str))=false:=by decide)(b2:(x == ("__classdict__":Str))=false:=by decide) :
  SI X Ex Y tg (.Call (.Attribute (.Name x p) "values" apos) [] [] cpos) (HR i):=Mj (fm hN hv b1 b2) hj hline
end
def Rec (K:Frag) (x:Str)(st:Stmt):Prop:=∃ (f:Addr)(fd:FuncData),nsIn K mainGlobals x=some (some (.ref f))/\uB K x x st f fd
def Mf {K:Frag}{x:Str}{st:Stmt}{f:Addr}{oc:Value}{od an:XT}{osl:XD}{kV doc pm cdv ct:Value}(n:nsIn K mainGlobals x=some (some (.ref f)))(l:K.lookup f=some ⟨oc,od,.func (fnOf x x (kg st) (iy st) (au st) .none kV doc pm an cdv ct),osl⟩)
  (c:codeIn K cdv x=true)(k:keepIn K (.ref f)=true):Rec K x st:=⟨f,_,n,MV l c k⟩
def xU (K:Frag) (x:Str):Prop:=∃ C,nsIn K mainGlobals x=some (some (.ref C))/\gD K C vM "ValueError.__new__" none=true
def Ky {K:Frag}{x:Str}{C:Addr}(h1:nsIn K mainGlobals x=some (some (.ref C)))(h2:gD K C vM "ValueError.__new__" none=true):xU K x:=⟨C,h1,h2⟩
def aV {P:Program}{w:World}{K:Frag}{base:Heap}{mg:XG}{k:Nat}{x:Str}{ps:Xc}{sp:Sp}{st:Stmt}(N:∃ h:Heap,K.In h/\h.Ns mainGlobals mg)(r:Rec K x st)
  (b:∀ (kV doc pm:Value)(an:XT)(cdv ct:Value)(us:XU),us.length=ps.length->bindArgs (fnOf x x (kg st) (iy st) (au st) .none kV doc pm an cdv ct) ⟨us,[]⟩=pure (ps.zip us))
  (ok:∀ {f:Addr}{fd:FuncData},uB K x x st f fd->gn P w K mg base (fN P w) k f fd ps sp):bR P w K mg base k x ps sp:=by
 obtain ⟨f,fd,n,F⟩:=r;obtain ⟨h,X,G⟩:=N;exact ⟨f,fd,mg_of X G n,F.kp,F.binds b,ok F⟩
end Dv
namespace SM
open PySem PySem.SetTable PySem.W PyProof.Rows
section
variable {prog:Program}{w:World}{A:Around}{E:XE}{s:Shared}{es:Array Ent}{ep:Nat}{a it:Addr}
def Av (hh:A.handled=none)(ho:s.heap.get? a=some o)(T:lZ (intKind prog w) o ks)(few:ks.length<=63)
  (q:∀ (h':Heap) (tk:Nat)(p:Addr)(out:XR)(ms:Xb) (n:Nat),(∀ b o',s.heap.get? b=some o'->h'.get? b=some o')->s.heap.get? p=none->h'.get? p=some (seqObj "list" out n)->L2.Vals (ms.map L2.V.int) out.toList->(∀ x,x∈ms↔x∈ks)->ms.length=ks.length->ms.Pairwise (·<=·)->Q (.ref p) { s with heap:=h',toks:=tk }) :
  wpAny (model prog w) A (call (.builtin "sorted") [.ref a]) Q E s:=by
 obtain ⟨ex,es,ep,t,hd,TBt,_,_,pl,ld,sp⟩:=T;have S:gg w s.heap a es ep:=⟨o,t,ho,ex,hd,TBt.fits,TBt.ri,TBt.sz,pl,ld⟩;have el:=sp.len;refine Calls.call_function_entry kind_sorted plain_sorted entry_sorted (args_sorted1 _) (?_:_)
 unfold Builtin.«sorted»;refine R8 (m:=checkCount "sorted" 1 1 _) (R9 (?_:_))
 refine R8 (Af (by simpa using hh) S (by lia) fun h' tk kp sz=>?_)
 have pe:=zH w a ep es;have eint:∀ l:List Ent,(∀ e∈l,∃ k,k∈ks/\C0 (intKind prog w) e k)->∃ ns:Xb,IntsAre (l.map (·.2)) ns/\∀ x,x∈ns↔∃ e∈l,C0 (intKind prog w) e x:=fun l=>by
  induction l with
  | nil=>exact fun _=>⟨[],.nil,fun x=>⟨fun h=>(nomatch h),fun ⟨e,h,_⟩=>(nomatch h)⟩⟩
  | cons e l ih =>
   intro h;obtain ⟨ns,h1,h2⟩:=ih fun e' he'=>h e' (RY _ he')
   obtain ⟨k,_,h3,h4,h5⟩:=h e RT;obtain ⟨tk,h6⟩:=Value.isInt_shape h3;obtain ⟨eh,ev⟩:=e;dsimp only at h4 h6;subst h6;refine ⟨k::ns,.cons k tk h1,fun x=>?_⟩
   rw [S2,h2 x];constructor
   ·rintro (rfl | ⟨e',h7,h8⟩)
    ·exact ⟨_,RT,h3,h4,h5⟩
    ·exact ⟨e',RY _ h7,h8⟩
   ·rintro ⟨e',h7,h8⟩;rcases S2.mp h7 with rfl | h7
    ·exact .inl ((intKind prog w).inj _ _ _ h8.1 h3)
    ·exact .inr ⟨e',h7,h8⟩
 obtain ⟨ns,hI,hns⟩:=eint (dD w a ep es).toList fun e he=>sp.ok e (pe.mem_iff.mp he)
 have vl:((dD w a ep es).toList.map (·.2)).length=ks.length:=by
  rw [RX,pe.length_eq]
  simpa using el
 have mem:∀ x,x∈ns↔x∈ks:=fun x=>by
  rw [hns x];constructor
  ·rintro ⟨e,h1,h2⟩;obtain ⟨k,h3,h4⟩:=sp.ok e (pe.mem_iff.mp h1);exact (intKind prog w).inj _ _ _ h2.1 h4.1 ▸ h3
  ·intro h;obtain ⟨e,h1,h2⟩:=sp.on x h;exact ⟨e,pe.mem_iff.mpr h1,h2⟩
 generalize (dD w a ep es).toList.map (·.2)=vs at *;refine R8 (Vo (hsz:=SW (show vs.length<=63 by lia) (by decide)) (?_:_))
 have g0:(h'.push (seqObj "list" vs.toArray 0)).get? h'.objs.size=some (seqObj "list" vs.toArray 0):=SY _ rfl;refine R8 (Sx (TX slot_list_sort ⟨_,g0,rfl⟩ entry_list_sort (list_sort_tree g0 hI (by lia) fun out ms a1 a2 a3=>⟨_,rfl,(?_:_)⟩) (args_list_sort _)))
 obtain ⟨n,hn⟩:=sortedHeap_at (vs:=vs) (out:=out) g0;have hlen:ns.length=ks.length:=by
  rw [<- vl];exact (L2.iB hI).length.symm ▸ (by simp)
 refine R9 ⟨_,rfl,q _ _ h'.objs.size out ms n (fun b o' hb=>?_) (V1 (UR sz)) hn (L2.iB a1) (fun x=>by rw [a2.mem_iff,mem x]) (a2.length_eq.trans hlen) a3⟩
 have hb':=kp b o' hb;have lt:=S3 hb';rw [sortedHeap_old (S8 lt) (by rw [size_push'];exact UI lt)]
 exact S5 _ hb'
end
end SM
namespace L2
open PySem PySem.Spec PyProof.Rows
section
variable {X:Cx}
def wM (hc:X.calm=true):cF X (.builtin "sorted") (fun xs H Q=>∃ (a:Addr)(ks:Xb),xs=[.ref a]/\H a=some (uC X.prog X.w a ks)/\ks.length<=63/\∀ (ms:Xb)(p:Addr),(∀ x,x∈ms↔x∈ks)->ms.length=ks.length->ms.Pairwise (·<=·)->H p=none->Q (.ref p) (upd H p (.lst (ms.map V.int)))):=by
 intro pins s U H xs us Q I r h;obtain ⟨a,ks,rfl,ha,few,q⟩:=h;obtain ⟨u,rfl,ru⟩:=vals1 r;cases ru;obtain ⟨⟨o,z1,z2⟩,_⟩:=I.hok a _ ha;refine SM.Av (I.ok.hd hc) z1 z2 few fun h' tk p out ms n kp new hp rm mem ml srt=>?_
 have I2:=I.xj (a:=p) (o:=.lst (ms.map V.int)) (t':=tk) (h':=h') kp new
  ⟨by rw [RX,ml];exact SW few (by decide),out.toList,n,rm,by simpa using hp⟩
 exact ⟨.ref p,_,I2,rfl,q ms _ mem ml srt (I.ji new)⟩
end
end L2
namespace Dv
open PySem L2 PySem.W
def ya:DR:=fun ds P=>∃ ns:Xb,ds=[.list (ns.map .int)]/\ns.length<=63/\∀ ms:Xb,(∀ x,x∈ms↔x∈ns)->ms.Pairwise (· < ·)->P (.ow false) (.list (ms.map .int))
def BA (s:ai H H2){a:Addr}(h:H2 a=none):H a=none:=by
 cases e:H a with
 | none=>rfl
 | some o=>rw [s _ _ e] at h;cases h
def bE.up (q:bE K H Hm P Q)(s:ai H H2):bE K H2 Hm P Q:=fun k v u H' Hm' fp pp s1 s2 s3 od o fr =>
 q k v u H' Hm' fp pp (s.trans s1) s2 s3 (fun a ha=>od a fun z=>ha (BA s z)) o fun a ha=>⟨BA s (fr a ha).1,(fr a ha).2⟩
theorem xC {α:Type} [DecidableEq α]:∀ {l:List α},¬ l.Nodup->∃ k:List α,k.length + 1=l.length/\∀ x∈l,x∈k
 | [],h=>absurd Tr h
 | a::l,h=>by
  by_cases c:a∈l
  ·exact ⟨l,rfl,fun x hx=>(S2.mp hx).elim (fun e=>e ▸ c) id⟩
  ·obtain ⟨k,h1,h2⟩:=xC (l:=l) fun z=>h (Sj.mpr ⟨c,z⟩)
   refine ⟨a::k,by rw [Sb,Sb,h1],fun x hx=>?_⟩
   rcases S2.mp hx with rfl | hx
   ·exact RT
   ·exact RY _ (h2 x hx)
theorem zg {α:Type} [DecidableEq α]:∀ {l k:List α},l.Nodup->(∀ x∈l,x∈k)->l.length<=k.length
 | [],_,_,_=>Sd _
 | a::l,k,h,s=>by
  obtain ⟨h1,h2⟩:=Sj.mp h;have m:=s a RT;have:=zg (l:=l) (k:=k.erase a) h2 fun x hx=>(Wm (fun z:x=a=>h1 (z ▸ hx))).mpr (s x (RY _ hx))
  rw [Wn m] at this;have:=VT m;rw [Sb];lia
def Pw {α:Type} [DecidableEq α]{l k:List α}(h:k.Nodup)(s:∀ x∈k,x∈l)(e:l.length=k.length):l.Nodup:=by
 by_cases c:l.Nodup
 ·exact c
 ·obtain ⟨l',h1,h2⟩:=xC c;have:=zg h fun x hx=>h2 x (s x hx)
  lia
section
variable {X:Cx}{Ex:XK}{Y:Xa}{a:Expr}{as:List Arg}{p p2 pos pos2:Pos}
abbrev Ju (X:Cx):List V->Hp->VK->Prop:=fun xs H Q=>∃ (a:Addr)(ns:Xb),xs=[.ref a]/\bF X.K H a (ns.map V.int)/\ns.length<=126/\∀ (p:Addr)(ks:Xb),H p=none->(∀ x,x∈ks↔x∈ns)->ks.Nodup->Q (.ref p) (upd H p (uC X.prog X.w p ks))
abbrev IT (X:Cx):List V->Hp->VK->Prop:=fun xs H Q=>∃ (a:Addr)(ks:Xb),xs=[.ref a]/\H a=some (uC X.prog X.w a ks)/\ks.length<=63/\∀ (ms:Xb)(p:Addr),(∀ x,x∈ms↔x∈ks)->ms.length=ks.length->ms.Pairwise (·<=·)->H p=none->Q (.ref p) (upd H p (.lst (ms.map V.int)))
def DK:cO X.K ya fun vs H Q=>Ju X vs H fun v H1=>IT X [v] H1 Q:=by
 rintro H Hm vs ds P Q s r ⟨ns,rfl,hn,h⟩ q;obtain ⟨x,rfl,h1⟩:=dM r;obtain ⟨a,xs,rfl,ha,r1⟩:=fJ h1;cases lF r1;refine ⟨a,ns,rfl,(cg.mono s ha).sq,by lia,fun p ks hp hm nd=>?_⟩
 refine ⟨p,ks,rfl,aH,SW (zg nd fun x hx=>(hm x).mp hx) hn,fun ms p' m1 m2 m3 hp'=>?_⟩
 have sH:=cj (o:=uC X.prog X.w p ks) hp;refine bE.nl (bE.up q sH) (s.trans sH) (h ms (fun x=>(m1 x).trans (hm x)) ?_) hp' (lu ms)
 have nm:=Pw nd (fun x hx=>(m1 x).mpr hx) m2
 exact (m3.and nm).imp fun ⟨u,v⟩=>by lia
def NI (hm:X.mg "sorted"=none)(hm2:X.mg "set"=none)(S:aS X Ex Y [a] as)(hc:X.calm=true:=by rfl)(hg:Gl X "sorted":=by rfl)(hg2:Gl X "set":=by rfl)(ns:noStar a=true:=by rfl):SE X Ex Y (.Call (.Name "sorted" p) [.Call (.Name "set" p2) [a] [] pos2] [] pos) (ah ya as) :=
 eZ (r:=fun vs H Q=>Ju X vs H fun v H1=>IT X [v] H1 Q) S (fun U H Q h=>WE.of (rJ (wM hc) hg hm Wj (eT (jD (D7 hc) hg2 hm2 PyProof.Rows.boot_set (d7 (es:=[a]) (by rw [SG,ns];rfl)) (by decide) (by decide) (bx ns) (gW rfl)) gH) (by decide) (by decide) rfl rfl) h) DK
end
end Dv
namespace PB
open PySem L2 Dv
def gu:DS:=ay (sF [1,2] (bN 0)) (ay (aX 3 (pP sizeLine [6] (nh pG [.pk 1]) (.nm 6) (fZ) (ah dQ []))) (ay (iH (iE (bN 2)) (.tp [4,5]) (ay (cW (zz fG 3 (bN 4) 5)) (cW (zz fG 3 (bN 5) 4)))) (lS 3)))
def ja (YC:bq):DS:=ay (aX 2 (aC YC [false] [.pk 0])) (ay (aX 3 (ah i8 [.ev (ah dQ [.ev (dC .none)]),.ev (ah aR [.pk 0,.ev (dC (.int 0))])])) (ay (i7 3 (bN 1) (dC (.int 0))) (ay (aX 4 (ah dQ [.pk 1])) (ay (sU (AJ 4) (ay (aX 5 (ah dQ [])) (ay (iH (iE (bN 4)) (.nm 6) (iH (iE (ah aR [.pk 2,.pk 6])) (.nm 7) (dG (cu (ah (cG false) [.ev (ah aR [.pk 3,.pk 7]),.ev (dC .none)])) (ay (i7 3 (bN 7) (ah dP [.ev (ah aR [.pk 3,.pk 6]),.ev (dC (.int 1))])) (cW (tH fG 5 [bN 7]))) (d9)))) (aX 4 (bN 5))))) (lS 3)))))
def gx:DS:=dG (zW (cu (jI (fun i j=>decide (i<=j)) (fun i j=>decide (i < j)) (dC (.int 0)) (bN 1) (ah aR [.pk 0,.ev (dC (.int 0))])))) (ng "NoPlace") (d9)
def mw (YH Xq:bq):DS:=ay (cW (aC YH [false,false] [.pk 0,.pk 1])) (bP (aC Xq [false,false] [.pk 0,.pk 1]))
def kW:DS:=bP (ah t6 [.ev (ah aR [.pk 0,.ev (ah aR [.pk 1,.ev (dC (.int 0))])]),.ev (ah aR [.pk 0,.ev (ah aR [.pk 1,.ev (dC (.int 1))])])])
def mD:DS:=ay (sF [2,3] (bN 0)) (ay (aX 4 (zS (cu (ah m6 [.pk 1,.ev (dC (.str "ties"))])) (ah dQ []) (ah kP [.pk 2]))) (ay (aX 5 (zS (cu (ah m6 [.pk 1,.ev (dC (.str "places"))])) (ah dQ []) (ah f7 [.pk 3]))) (bP (ah dP [.pk 4,.pk 5]))))
def mz:DS:=ay (aX 2 (ah za [.ev (dC (.int 1))])) (ay (iH (iE (bN 1)) (.nm 3) (ay (dG (zW (cu (jI (fun i j=>decide (i < j)) (fun i j=>decide (i < j)) (bN 2) (bN 3) (ah aR [.pk 0,.ev (dC (.int 0))])))) (bP (dC (.bool false))) (d9)) (aX 2 (bN 3)))) (bP (dC (.bool true))))
def fh (Xl:bq):DS:=dG (zW (cu (aC Xl [false,false] [.pk 0,.pk 1]))) (ng "NoLooks") (d9)
def nF:DS:=ay (dG (cu (ah (zx "int") [.pk 1])) (bP (jI (fun i j=>decide (i<=j)) (fun i j=>decide (i < j)) (dC (.int 0)) (bN 1) (ah aR [.pk 0,.ev (dC (.int 0))]))) (d9)) (bP (ah (jS false) [.pk 1,.ev (ah aR [.pk 0,.ev (dC (.int 1))])]))
def gz (Xs:bq):DS:=dG (zW (cu (aC Xs [false,false] [.pk 0,.pk 1]))) (ng "NoThing") (d9)
def mO (YB:bq):DS:=ay (dG (cu (ah (zx "int") [.pk 1])) (bP (ah aR [.pk 0,.pk 1])) (d9)) (bP (aC YB [false,false] [.pk 0,.pk 1]))
def nQ (Xp YL:bq):DS:=ay (aX 3 (bU [4] (iE (bN 1)) (.nm 4) (fZ) (cA sizeLine (aC Xp [false,false] [.pk 0,.pk 4])))) (bP (bU [4] (iE (bN 2)) (.nm 4) (fZ) (cA sizeLine (bU [5] (iE (bN 3)) (.nm 5) (fZ) (cA sizeLine (aC YL [false,false] [.pk 5,.pk 4]))))))
def oY (YK YI Xn:bq):DS:=ay (cW (aC YK [false,false] [.pk 0,.pk 1])) (ay (cW (aC YI [false,false] [.pk 0,.pk 2])) (bP (ah aR [.ev (aC Xn [false,false,false] [.pk 0,.pk 1,.ev (ah dQ [.pk 2])]),.ev (dC (.int 0))])))
def kR (YL:bq):DS:=bP (bU [3,4] (xD (bN 0)) (.tp [3,4]) (cu (ah lX [.ev (aC YL [false,false] [.pk 4,.pk 1]),.ev (aC YL [false,false] [.pk 4,.pk 2])])) (cA sizeLine (bN 3)))
def nL (Xp:bq):DS:=bP (bU [1] (nh pG [.ev (ah aR [.pk 0,.ev (dC (.int 0))])]) (.nm 1) (fZ) (cA sizeLine (aC Xp [false,false] [.pk 0,.pk 1])))
def kC (YI YD Xo:bq):DS:=ay (cW (aC YI [false,false] [.pk 0,.pk 1])) (ay (cW (aC YI [false,false] [.pk 0,.pk 2])) (bP (aC YD [false,false,false] [.ev (aC Xo [false] [.pk 0]),.pk 1,.pk 2])))
def nO (YK YM Xn:bq):DS:=ay (cW (aC YK [false,false] [.pk 0,.pk 1])) (ay (aX 3 (aC YM [false,false] [.pk 0,.pk 2])) (ay (aX 4 (CN)) (ay (iH (Jl (bN 3) (aC Xn [false,false,false] [.pk 0,.pk 1,.pk 3])) (.tp [5,6]) (cW (HZ 4 6 5))) (bP (bU [7] (HR 4) (.nm 7) (cu (ah vR [.ev (ah dO [.pk 7]),.ev (dC (.int 1))])) (cA sizeLine (bN 7)))))))
def nJ (X8:bq):DS:=bP (pK (aC X8 [false,false,false] [.pk 0,.pk 1,.pk 2]))
def qi:DS:=ay (sF [1,2] (bN 0)) (bP (ah m6 [.ev (ah dO [.pk 2]),.ev (ah nE [.pk 1,.ev (dC (.int 1))])]))
def gS (Xu:bq):DS:=dG (zW (cu (aC Xu [false] [.pk 0]))) (ng "NoTree") (d9)
def jl:DS:=ay (aX 3 (ah dQ [])) (ay (aX 4 (ah dQ [.ev (ah jK [.pk 1,.pk 2])])) (ay (sU (AJ 4) (ay (sF [5,6] (tH vB 4 [])) (ay (cW (tH fG 3 [bN 6])) (zK sizeLine 4 (bU [7] (iE (ah aR [.pk 0,.pk 6])) (.nm 7) (cu (ah lX [.pk 7,.pk 5])) (cA sizeLine (ah jK [.pk 6,.pk 7]))))))) (bP (ah pC [.pk 3]))))
def mC (YJ YH YC YF:bq):DS:=ay (cW (aC YJ [false] [.pk 0])) (ay (cW (aC YH [false,false] [.pk 0,.pk 1])) (ay (aX 2 (aC YC [false] [.pk 0])) (bP (bU [3] (iE (ah aR [.pk 2,.pk 1])) (.nm 3) (fZ) (cA sizeLine (aC YF [false,false,false] [.pk 2,.pk 1,.pk 3]))))))
def lC (YJ X8:bq):DS:=ay (cW (aC YJ [false] [.pk 0])) (ay (aX 3 (aC X8 [false,false,false] [.pk 0,.pk 1,.pk 2])) (bP (zS (AJ 3) (ah jK [.ev (ah aR [.ev (ah aR [.pk 3,.ev (dC (.int 0))]),.ev (dC (.int 0))]),.ev (ah aR [.ev (ah aR [.pk 3,.ev (dC (.int 0))]),.ev (dC (.int 1))])]) (dC .none))))
def gA (YG:bq):DS:=bP (ah pC [.ev (bU [3] (iE (aC YG [false,false] [.pk 0,.pk 2])) (.nm 3) (fZ) (cA sizeLine (ah dO [.ev (bU [4] (iE (bN 1)) (.nm 4) (cu (ah (jS false) [.pk 4,.pk 3])) (cA sizeLine (bN 4)))])))])
def iO (YJ YK YM YA:bq):DS:=ay (cW (aC YJ [false] [.pk 0])) (ay (cW (aC YK [false,false] [.pk 0,.pk 1])) (ay (dG (cu (ah Fw [.ev (ah dO [.ev (aC YM [false,false] [.pk 0,.pk 2])]),.ev (dC (.int 2))])) (bP (dC .none)) (d9)) (ay (aX 3 (bU [4] (nh pG [.ev (ah aR [.pk 0,.ev (dC (.int 0))])]) (.nm 4) (fZ) (cA sizeLine (aC YA [false,false,false] [.pk 0,.pk 1,.pk 4])))) (ay (dG (cu (ah m6 [.pk 2,.ev (dC (.str "all"))])) (bP (ah wU [.ev (bU [4] (iE (bN 3)) (.nm 4) (fZ) (cA sizeLine (ah aR [.pk 4,.ev (dC (.int 0))])))])) (d9)) (bP (ah xg [.ev (bU [4] (iE (bN 3)) (.nm 4) (cu (ah vR [.ev (ah dO [.pk 4]),.ev (dC (.int 1))])) (cA sizeLine (ah dP [.ev (ah aR [.pk 4,.ev (dC (.int 0))]),.ev (ah aR [.pk 4,.ev (dC (.int 1))])]))),.ev (ah dO [.pk 1])]))))))
end PB
namespace Dv
open PySem L2
def xG (xs:XS)(tg:Tg)(b:DS)(D:gJ)(E1:En):Prop:=∃ I:Nat->En->Prop,I 0 E1/\(∀ i d E,xs[i]?=some d->I i E->∃ E2,cP tg d E=some E2/\b { D with nx:=I (i + 1) } E2)/\∀ E,I xs.length E->D.nx E
def yQ (cs:Xa)(xs:XS)(tg:Tg)(c:DT)(r:DC)(E1:En)(Q:Xd):Prop:=∃ (E0:En)(I:Nat->XS->En->Prop),bC cs E1=some E0/\I 0 [] E0/\(∀ i d ys E,xs[i]?=some d->I i ys E->∃ E2,cP tg d E=some E2/\c xF E2 fun E3 b=>if b=true then r xF ys E3 (I (i + 1)) else I (i + 1) ys E3)/\∀ ys E,I xs.length ys E->∃ E2,bC cs E=some E2/\Q E2 (.ow false) (.list ys)
def Mz (most:Nat)(cs:Xa)(xs:XS)(tg:Tg)(c:DT)(e:DE)(E1:En)(Q:Xd):Prop:=∃ (E0:En)(I:Nat->XS->En->Prop),bC cs E1=some E0/\I 0 [] E0/\(∀ i d ys E,xs[i]?=some d->I i ys E->∃ E2,cP tg d E=some E2/\c xF E2 fun E3 b=>if b=true then e xF E3 (fun E4 k v=>(∃ p,k=.ow p)/\ys.length < most/\I (i + 1) (ys++[v]) E4) else I (i + 1) ys E3)/\∀ ys E,I xs.length ys E->∃ E2,bC cs E=some E2/\Q E2 (.dp false) (.list ys)
def Ql (xs:XS)(tg:Tg)(c:DT)(r:DC)(x:XC)(ys:XS)(E1:En)(Q:XS->En->Prop):Prop:=∃ I:Nat->XS->En->Prop,I 0 ys E1/\(∀ i d ys E,xs[i]?=some d->I i ys E->∃ E2,cP tg d E=some E2/\c x E2 fun E3 b=>if b=true then r x ys E3 (I (i + 1)) else I (i + 1) ys E3)/\∀ ys E,I xs.length ys E->Q ys E
theorem dyr0:∀ {it:DI}{tg:Tg}{b:DS}{D:gJ}{o:Xf}{E:En},iH it tg b D (o::E)=it D.xc (o::E) fun E1 xs=>xG xs tg b D E1:=rfl
theorem dyr1:∀ {cs:Xa}{it:DI}{tg:Tg}{c:DT}{r:DC}{x:XC}{o:Xf}{E:En}{Q:Xd},bU cs it tg c r x (o::E) Q=it x (o::E) fun E1 xs=>yQ cs xs tg c r E1 Q:=rfl
theorem dyr2:∀ {most:Nat}{cs:Xa}{it:DI}{tg:Tg}{c:DT}{e:DE}{x:XC}{o:Xf}{E:En}{Q:Xd},pP most cs it tg c e x (o::E) Q=it x (o::E) fun E1 xs=>Mz most cs xs tg c e E1 Q:=rfl
theorem dyr3:∀ {it:DI}{tg:Tg}{c:DT}{r:DC}{x:XC}{ys:XS}{o:Xf}{E:En}{Q:XS->En->Prop},Qq it tg c r x ys (o::E) Q=it x (o::E) fun E1 xs=>Ql xs tg c r x ys E1 Q:=rfl
def dy :
 (∀ {it:DI}{tg:Tg}{b:DS}{D:gJ}{o:Xf}{E:En},iH it tg b D (o::E)=it D.xc (o::E) fun E1 xs=>xG xs tg b D E1) /\
 (∀ {cs:Xa}{it:DI}{tg:Tg}{c:DT}{r:DC}{x:XC}{o:Xf}{E:En}{Q:Xd},bU cs it tg c r x (o::E) Q=it x (o::E) fun E1 xs=>yQ cs xs tg c r E1 Q) /\
 (∀ {most:Nat}{cs:Xa}{it:DI}{tg:Tg}{c:DT}{e:DE}{x:XC}{o:Xf}{E:En}{Q:Xd},pP most cs it tg c e x (o::E) Q=it x (o::E) fun E1 xs=>Mz most cs xs tg c e E1 Q) /\
 (∀ {it:DI}{tg:Tg}{c:DT}{r:DC}{x:XC}{ys:XS}{o:Xf}{E:En}{Q:XS->En->Prop},Qq it tg c r x ys (o::E) Q=it x (o::E) fun E1 xs=>Ql xs tg c r x ys E1 Q):=⟨rfl,rfl,rfl,rfl⟩
def J5 {a b:DS}{D:gJ}{E:En}(h:ay a b D E):uR a b D E:=⟨b D,h,fun _ z=>z⟩
theorem uY {i:Nat}{z:Xf}:∀ {cs:Xa}{E E0:En},i∉cs->bC cs (E.set i none)=some E0->bC cs (E.set i z)=some (E0.set i z)
 | [],E,E0,_,h=>by
  have h:E.set i none=E0:=Option.some.inj h;show some _=some _;rw [<- h,List.set_set]
 | c::cs,E,E0,n,h=>by
  have nc:i≠c:=fun e=>n (e ▸ RT)
  have ns:i∉cs:=fun m=>n (RY _ m)
  have ho:∀ y:Xf,bZ (E.set i y) c=bZ E c:=fun y=>by
   unfold bZ;rw [V3 nc]
  unfold bC at h ⊢;rw [ho] at h ⊢;split at h
  ·rename_i hc;rw [if_pos hc];rw [List.set_comm _ _ nc] at h ⊢;exact uY ns h
  ·cases h
theorem yR:∀ {cs:Xa}{ds:XS}{E E' E0:En},cs.Nodup->bC cs E=some E0->bC cs E'=some E0->bS cs ds E=bS cs ds E'
 | [],ds,E,E',E0,_,h,h'=>by
  have h:E=E0:=Option.some.inj h;have h':E'=E0:=Option.some.inj h';rw [h,h']
 | c::cs,[],E,E',E0,_,h,h'=>rfl
 | c::cs,d::ds,E,E',E0,nd,h,h'=>by
  have n1:=(Sj.mp nd).1;unfold bC at h h';unfold bS;split at h
  ·rename_i hc;split at h'
   ·rename_i hc';rw [if_pos hc,if_pos hc'];exact yR (Sj.mp nd).2 (uY n1 h) (uY n1 h')
   ·cases h'
  ·cases h
def AY {cs:Xa}{ds:XS}{E E' E0:En}(nd:kM cs=true)(h:bC cs E=some E0)(h':bC cs E'=some E0):bS cs ds E=bS cs ds E':=yR (ie nd) h h'
def sC {tg:Tg}{cs:Xa}{d:PyData}{E E' E0:En}(hs:tg.slots=cs)(nd:kM cs=true)(h:bC cs E=some E0)(h':bC cs E'=some E0):cP tg d E=cP tg d E':=by
 subst hs;cases tg with
 | nm i=>exact AY nd h h'
 | tp is =>
  cases d with
  | tuple ds=>exact AY nd h h'
  | _=>rfl
theorem j9:∀ {cs:Xa}{E E0:En},cs.Nodup->bC cs E=some E0->bC cs E0=some E0/\∀ c∈cs,E0[c]?=some none
 | [],E,E0,_,h=>⟨rfl,fun _ z=>by cases z⟩
 | c::cs,E,E0,nd,h=>by
  have n1:=(Sj.mp nd).1;have n2:=(Sj.mp nd).2;unfold bC at h;split at h
  ·rename_i hc;obtain ⟨h1,h2⟩:=j9 n2 h;have hlen:c < E.length:=by
    unfold bZ at hc;rcases Sq c E.length with z | z
    ·exact z
    ·rw [Sn z] at hc;cases hc
   have hcl:∀ {cs:Xa}{E E0:En},c∉cs->bC cs E=some E0->E0[c]?=E[c]?:=by
    intro cs
    induction cs with
    | nil=>intro E E0 _ h;cases h;rfl
    | cons a cs ih =>
     intro E E0 n h;unfold bC at h;split at h
     ·rw [ih (fun m=>n (RY _ m)) h,V3 (fun e=>n (by rw [e];exact RT))]
     ·cases h
   have e0:E0[c]?=some none:=by rw [hcl n1 h,V2 hlen]
   refine ⟨?_,fun x hx=>?_⟩
   ·unfold bC;rw [if_pos (by unfold bZ;rw [e0])]
    have:E0.set c none=E0:=by
     refine To fun j=>?_
     by_cases e:c=j
     ·subst e;have:c < E0.length:=by
       rcases Sq c E0.length with z | z
       ·exact z
       ·rw [Sn z] at e0;cases e0
      rw [V2 this,e0]
     ·rw [V3 e]
    rw [this];exact h1
   ·cases hx with
    | head=>exact e0
    | tail _ m=>exact h2 x m
  ·cases h
def av {α:Type}{l:List α}{i:Nat}{a:α}(ha:l[i]?=some a):i < l.length:=by
 rcases Sq i l.length with z | z
 ·exact z
 ·rw [Sn z] at ha;cases ha
def take_snoc {α:Type}{l:List α}{i:Nat}{a:α}(ha:l[i]?=some a):l.take (i + 1)=l.take i++[a]:=by rw [List.take_add_one,ha];rfl
def NV {α:Type}{l:List α}{enc:α->PyData}{cs:Xa}{tg:Tg}{e:DE}{most:Nat}{E1 E0:En}{Q:Xd}(g:α->PyData)(h0:bC cs E1=some E0)(h2:∀ a,a∈l->∀ I:En->PyData->Prop,(∀ E4,bC cs E4=some E0->I E4 (g a))->∃ E2,cP tg (enc a) E0=some E2/\e xF E2 (fun E4 k v=>(∃ p,k=.ow p)/\I E4 v))
  (h3:Q E0 (.dp false) (.list (l.map g)))(hl:l.length<=most)(hs:tg.slots=cs:=by rfl)(nd:kM cs=true:=by rfl):Mz most cs (l.map enc) tg fZ e E1 Q:=by
 obtain ⟨hc0,_⟩:=j9 (ie nd) h0;refine ⟨E0,fun i ys E=>ys=(l.take i).map g/\bC cs E=some E0,h0,⟨rfl,hc0⟩,?_,?_⟩
 ·rintro i d ys E hd ⟨rfl,hE⟩;rw [S7] at hd;obtain ⟨a,ha,rfl⟩:=T8.mp hd;have hi:=av ha;obtain ⟨E2,hE2,hb⟩:=h2 a (SR ha) (fun E4 v=>((l.take i).map g).length < most/\((l.take i).map g++[v]=(l.take (i + 1)).map g/\bC cs E4=some E0)) (fun E4 hE4=>by
   refine ⟨?_,?_,hE4⟩
   ·rw [RX,U3];lia
   ·rw [take_snoc ha,Sg];rfl)
  exact ⟨E2,(sC hs nd hE hc0).trans hE2,hb⟩
 ·rintro ys E ⟨rfl,hE⟩;rw [RX,Tj];exact ⟨E0,hE,h3⟩
def lW {α:Type}{l:List α}{enc:α->PyData}{tg:Tg}{b:DS}{D:gJ}{E1:En}(I:Nat->En->Prop)(h0:I 0 E1)(hs:∀ i a E,l[i]?=some a->I i E->∃ E2,cP tg (enc a) E=some E2/\b { D with nx:=I (i + 1) } E2)(he:∀ E,I l.length E->D.nx E):xG (l.map enc) tg b D E1:=by
 refine ⟨I,h0,fun i d E hd hi=>?_,by rw [RX];exact he⟩
 rw [S7] at hd;obtain ⟨a,ha,rfl⟩:=T8.mp hd;exact hs i a E ha hi
def IA {α:Type}{l:List α}{enc:α->PyData}{cs:Xa}{tg:Tg}{c:DT}{r:DC}{E1:En}{Q:Xd}(E0:En)(I:Nat->XS->En->Prop)(h0:bC cs E1=some E0)(h1:I 0 [] E0)(hs:∀ i a ys E,l[i]?=some a->I i ys E->∃ E2,cP tg (enc a) E=some E2/\c xF E2 fun E3 b=>if b=true then r xF ys E3 (I (i + 1)) else I (i + 1) ys E3)
  (he:∀ ys E,I l.length ys E->∃ E2,bC cs E=some E2/\Q E2 (.ow false) (.list ys)):yQ cs (l.map enc) tg c r E1 Q:=by
 refine ⟨E0,I,h0,h1,fun i d ys E hd hi=>?_,by rw [RX];exact he⟩
 rw [S7] at hd;obtain ⟨a,ha,rfl⟩:=T8.mp hd;exact hs i a ys E ha hi
def Gp {n i k:Nat}(h:(List.range n)[i]?=some k):i < n/\k=i:=by
 have hi:=av h;rw [SA] at hi;rw [Sv hi] at h;cases h;exact ⟨hi,rfl⟩
def OC {n:Nat}{enc:Nat->PyData}{tg:Tg}{b:DS}{D:gJ}{E1:En}(I:Nat->En->Prop)(h0:I 0 E1)(hs:∀ i E,i < n->I i E->∃ E2,cP tg (enc i) E=some E2/\b { D with nx:=I (i + 1) } E2)(he:∀ E,I n E->D.nx E):xG ((List.range n).map enc) tg b D E1 :=
 lW I h0 (fun i a E ha hi=>by obtain ⟨l,rfl⟩:=Gp ha;exact hs a E l hi) (by rw [SA];exact he)
def AV {α:Type}{l:List α}{enc:α->PyData}{cs:Xa}{tg:Tg}{e:DE}{most:Nat}{E1 E0:En}{Q:Xd}(S:Xi)(g:α->PyData)(h0:bC cs E1=some E0)(hS:S E0)(h2:∀ a,a∈l->∀ E0',S E0'->∀ I:En->PyData->Prop,(∀ E4 E5,bC cs E4=some E5->S E5->I E4 (g a))->∃ E2,cP tg (enc a) E0'=some E2/\e xF E2 (fun E4 k v=>k.fz=true/\I E4 v))
  (h3:∀ E0',S E0'->Q E0' (.ow false) (.list (l.map g)))(hl:l.length<=most)(hs:tg.slots=cs:=by rfl)(nd:kM cs=true:=by rfl):yQ cs (l.map enc) tg fZ (cA most e) E1 Q:=by
 obtain ⟨hc0,_⟩:=j9 (ie nd) h0;refine ⟨E0,fun i ys E=>ys=(l.take i).map g/\∃ E5,bC cs E=some E5/\S E5,h0,⟨rfl,E0,hc0,hS⟩,?_,?_⟩
 ·rintro i d ys E hd ⟨rfl,E5,hE,hS5⟩;rw [S7] at hd;obtain ⟨a,ha,rfl⟩:=T8.mp hd;have hi:=av ha;obtain ⟨hc5,_⟩:=j9 (ie nd) hE;obtain ⟨E2,hE2,hb⟩:=h2 a (SR ha) E5 hS5 (fun E4 v=>((l.take i).map g).length < most/\((l.take i).map g++[v]=(l.take (i + 1)).map g/\∃ E5,bC cs E4=some E5/\S E5)) (fun E4 E6 hE4 hS6=>by
   refine ⟨?_,?_,E6,hE4,hS6⟩
   ·rw [RX,U3];lia
   ·rw [take_snoc ha,Sg];rfl)
  exact ⟨E2,(sC hs nd hE hc5).trans hE2,hb⟩
 ·rintro ys E ⟨rfl,E5,hE,hS5⟩;rw [RX,Tj];exact ⟨E5,hE,h3 E5 hS5⟩
def K4 {α:Type}{l:List α}{enc:α->PyData}{cs:Xa}{tg:Tg}{c:DT}{e:DE}{most:Nat}{E1 E0:En}{Q:Xd}(S:Xi)(g:α->Option PyData)(h0:bC cs E1=some E0)(hS:S E0)(h2:∀ a,a∈l->∀ E0',S E0'->∀ I:En->Option PyData->Prop,(∀ E4 E5,bC cs E4=some E5->S E5->I E4 (g a))->∃ E2,cP tg (enc a) E0'=some E2/\c xF E2 fun E3 b=>if b=true then e xF E3 (fun E4 k v=>k.fz=true/\I E4 (some v)) else I E3 none)
  (h3:∀ E0',S E0'->Q E0' (.ow false) (.list (l.filterMap g)))(hl:l.length<=most)(hs:tg.slots=cs:=by rfl)(nd:kM cs=true:=by rfl):yQ cs (l.map enc) tg c (cA most e) E1 Q:=by
 obtain ⟨hc0,_⟩:=j9 (ie nd) h0;refine ⟨E0,fun i ys E=>ys=(l.take i).filterMap g/\∃ E5,bC cs E=some E5/\S E5,h0,⟨rfl,E0,hc0,hS⟩,?_,?_⟩
 ·rintro i d ys E hd ⟨rfl,E5,hE,hS5⟩;rw [S7] at hd;obtain ⟨a,ha,rfl⟩:=T8.mp hd;have hi:=av ha;obtain ⟨hc5,_⟩:=j9 (ie nd) hE;have hlen:((l.take i).filterMap g).length < most:=by
   have:=List.length_filterMap_le g (l.take i);rw [U3] at this;lia
  obtain ⟨E2,hE2,hb⟩:=h2 a (SR ha) E5 hS5 (fun E4 o=>match o with
   | some v=>((l.take i).filterMap g).length < most/\((l.take i).filterMap g++[v]=(l.take (i + 1)).filterMap g/\∃ E5,bC cs E4=some E5/\S E5)
   | none=>(l.take i).filterMap g=(l.take (i + 1)).filterMap g/\∃ E5,bC cs E4=some E5/\S E5) (fun E4 E6 hE4 hS6=>by
   cases hg:g a with
   | none =>
    refine ⟨?_,E6,hE4,hS6⟩;rw [take_snoc ha,VC,TF,hg];exact (Sy _).symm
   | some v =>
    refine ⟨hlen,?_,E6,hE4,hS6⟩;rw [take_snoc ha,VC,TF,hg];rfl)
  exact ⟨E2,(sC hs nd hE hc5).trans hE2,hb⟩
 ·rintro ys E ⟨rfl,E5,hE,hS5⟩;rw [RX,Tj];exact ⟨E5,hE,h3 E5 hS5⟩
def iM {α:Type}{l:List α}{enc:α->PyData}{cs:Xa}{tg:Tg}{e:DE}{most:Nat}{E1 E0:En}{Q:Xd}(g:α->PyData)(h0:bC cs E1=some E0)(h2:∀ a,a∈l->∀ I:En->PyData->Prop,(∀ E4,bC cs E4=some E0->I E4 (g a))->∃ E2,cP tg (enc a) E0=some E2/\e xF E2 (fun E4 k v=>k.fz=true/\I E4 v))
  (h3:Q E0 (.ow false) (.list (l.map g)))(hl:l.length<=most)(hs:tg.slots=cs:=by rfl)(nd:kM cs=true:=by rfl):yQ cs (l.map enc) tg fZ (cA most e) E1 Q :=
 AV (·=E0) g h0 rfl (fun a ha E0' e I hI=>by subst e;exact h2 a ha I fun E4 h=>hI E4 _ h rfl) (fun E0' e=>by subst e;exact h3) hl hs nd
def kN {α:Type}{l:List α}{enc:α->PyData}{cs:Xa}{tg:Tg}{c:DT}{e:DE}{most:Nat}{E1 E0:En}{Q:Xd}(g:α->Option PyData)(h0:bC cs E1=some E0)(h2:∀ a,a∈l->∀ I:En->Option PyData->Prop,(∀ E4,bC cs E4=some E0->I E4 (g a))->∃ E2,cP tg (enc a) E0=some E2/\c xF E2 fun E3 b=>if b=true then e xF E3 (fun E4 k v=>k.fz=true/\I E4 (some v)) else I E3 none)
  (h3:Q E0 (.ow false) (.list (l.filterMap g)))(hl:l.length<=most)(hs:tg.slots=cs:=by rfl)(nd:kM cs=true:=by rfl):yQ cs (l.map enc) tg c (cA most e) E1 Q :=
 K4 (·=E0) g h0 rfl (fun a ha E0' e I hI=>by subst e;exact h2 a ha I fun E4 h=>hI E4 _ h rfl) (fun E0' e=>by subst e;exact h3) hl hs nd
abbrev iD (n:Nat):PyData:=.int (n:Int)
abbrev nD (l:Xa):PyData:=.list (l.map iD)
abbrev fE (e:Nat×Nat):PyData:=.tuple [iD e.1,iD e.2]
abbrev wD (m:Nat)(es:XM):PyData:=.tuple [iD m,.tuple (es.map fE)]
def MH {n:Nat}:jZ 0 n=(List.range n).map iD:=by
 unfold jZ;refine Tn fun i _=>?_
 rw [Int.zero_add]
def Ot {n:Nat}:jZ 1 n=(List.range n).map fun i=>iD (i + 1):=by
 unfold jZ;refine Tn fun i _=>?_
 show PyData.int _=PyData.int _;congr 1;lia
def ye {xs:XS}{i:Nat}:eF xs (i:Int)=xs[i]?:=by
 unfold eF oK;rw [if_pos (by lia)]
 split
 ·exact rfl
 ·rw [Sn (by lia)];rfl
def FD {n i:Nat}(h:i < n):kZ n (i:Int)=some i:=by
 unfold kZ;rw [if_pos (by lia),if_pos (by lia)]
 rfl
def ve {n i:Nat}{Q:Nat->Prop}(h:i < n)(q:Q i):aL (kZ n (i:Int)) Q:=by rw [FD h];exact q
def sQ {α β:Type}{o:Option α}{f:α->β}{Q:β->Prop}:aL (o.map f) Q=aL o fun a=>Q (f a):=by cases o <;> rfl
def qe {α:Type}{l:List α}{f:α->PyData}{i:Nat}{Q:PyData->Prop}:aL (eF (l.map f) (i:Int)) Q=aL l[i]? fun a=>Q (f a):=by rw [ye,S7,sQ]
def Em {α:Type}{l:List α}{f:α->PyData}{a:Nat}:cutD (l.map f) (some (a:Int)) none=(l.drop a).map f:=by
 unfold cutD;have e1:HT.aO (l.map f).length 0 (some (a:Int))=min a (l.map f).length:=HT.qE _ _ a;have e2:HT.aO (l.map f).length (l.map f).length none=(l.map f).length:=rfl;rw [e1,e2,RX,<- List.map_drop,<- List.map_take];congr 1;rw [Uv (by rw [UU];lia)]
 rcases Uz a l.length with h | h
 ·rw [Ue h]
 ·rw [Ug h,Wo,Vr h]
def xu {α:Type}{l:List α}{f:α->PyData}{b:Nat}:cutD (l.map f) none (some (b:Int))=(l.take b).map f:=by
 unfold cutD;have e1:HT.aO (l.map f).length (l.map f).length (some (b:Int))=min b (l.map f).length:=HT.qE _ _ b;have e2:HT.aO (l.map f).length 0 none=0:=rfl;rw [e1,e2,RX,Vq,Nat.sub_zero,<- List.map_take];congr 1;rcases Uz b l.length with h | h
 ·rw [Ue h]
 ·rw [Ug h,Tj,Uv h]
def xQ {α:Type}{l:List α}{f:α->PyData}{a b:Nat}:cutD (l.map f) (some (a:Int)) (some (b:Int))=((l.take b).drop a).map f:=by
 unfold cutD;have e1:HT.aO (l.map f).length 0 (some (a:Int))=min a (l.map f).length:=HT.qE _ _ a;have e2:HT.aO (l.map f).length (l.map f).length (some (b:Int))=min b (l.map f).length:=HT.qE _ _ b;rw [e1,e2,RX,<- List.map_drop,<- List.map_take];congr 1;rw [List.drop_take];rcases Uz a l.length with h | h
 ·rw [Ue h];rcases Uz b l.length with g | g
  ·rw [Ue g]
  ·rw [Ug g,Uv (by rw [UU];lia),Uv (by rw [UU];lia)]
 ·rw [Ug h,Wo,Vr h,List.take_nil,List.take_nil]
def sf {α:Type}{l:List α}{f:α->PyData}:ju (l.map f)=l.zipIdx.map fun p=>.tuple [iD p.2,f p.1]:=by
 unfold ju;rw [List.zipIdx_map,SX];rfl
theorem zip_map {α β:Type}{l:List α}{m:List β}{f:α->PyData}{g:β->PyData}:((l.map f).zip (m.map g)).map (fun p=>PyData.tuple [p.1,p.2])=(l.zip m).map fun p=>.tuple [f p.1,g p.2]:=by
 rw [List.zip_map,SX];rfl
def Bh {α:Type}{l:List α}{f:α->PyData}{Q:PyData->Prop}:aL (eF (l.map f) 0) Q=aL l[0]? fun a=>Q (f a):=qe (i:=0)
def Bc {α:Type}{l:List α}{f:α->PyData}{Q:PyData->Prop}:aL (eF (l.map f) 1) Q=aL l[1]? fun a=>Q (f a):=qe (i:=1)
def c9 {α:Type}{o:Option α}{a:α}{Q:α->Prop}(h:o=some a)(q:Q a):aL o Q:=by rw [h];exact q
def xX {a b:Nat}:(a:Int) % (b:Int)=((a % b:Nat):Int):=(Int.natCast_emod a b).symm
def y9 {a b:Nat}:(a:Int) / (b:Int)=((a / b:Nat):Int):=(Int.natCast_ediv a b).symm
def Bd {a b:Nat}:((a:Int) < (b:Int))=(a < b):=propext Ui
def Ax {a b:Nat}:((a:Int)<=(b:Int))=(a<=b):=propext Int.ofNat_le
def cast_eq {a b:Nat}:((a:Int)=(b:Int))=(a=b):=propext Int.ofNat_inj
def cast_pos {a:Nat}:((0:Int) < (a:Int))=(0 < a):=propext Int.natCast_pos
def Iw {a b:Nat}:(if b < a then (b:Int) else (a:Int))=((min a b:Nat):Int):=by split <;> lia
def Jg {a b:Nat}:(if a < b then (b:Int) else (a:Int))=((max a b:Nat):Int):=by split <;> lia
def JE {a b:Nat}:(if b > a then (b:Int) else (a:Int))=((max a b:Nat):Int):=by split <;> lia
def tW {ds:XS}:lf (.tuple ds)=ds.all lf:=vj ds
def AA {p:Bool}{ds:XS}:flat (.ow p) (.list ds)=ds.all lf:=rfl
def rT {α β:Type}{l:List α}{f:α->β}{p:β->Bool}:(l.map f).all p=l.all fun a=>p (f a):=by rw [VM];rfl
def Dm {α:Type}{l:List α}:(l.all fun _=>true)=true:=by rw [SH];exact fun _ _=>rfl
def CO {n:Nat}:lf (iD n)=true:=rfl
def zQ {e:Nat×Nat}:lf (fE e)=true:=rfl
def IL {m:Nat}{es:XM}:lf (wD m es)=true:=by
 rw [tW];show (lf (iD m) && (lf (.tuple (es.map fE)) && true))=true;rw [tW,rT];simp [CO,zQ]
def Qa:type_of% @tW/\type_of% @AA/\type_of% @rT/\type_of% @Dm/\type_of% @CO/\type_of% @zQ/\type_of% @IL/\(decide True=true)/\(∀ {ds:XS},lf (.list ds)=false)/\(∀ {α:Type}{l m:List α}{p:α->Bool},(l++m).all p=(l.all p && m.all p)):=⟨@tW,@AA,@rT,@Dm,@CO,@zQ,@IL,rfl,rfl,(by intros;exact List.all_append)⟩
def dz:(type_of% Qa)/\type_of% @MH/\type_of% @Ot/\type_of% @qe/\type_of% @Bh/\type_of% @Bc/\type_of% @sQ/\type_of% @Em/\type_of% @xu/\type_of% @xQ/\type_of% @sf/\type_of% @zip_map/\type_of% @xX/\type_of% @y9/\type_of% @Bd/\type_of% @Ax/\type_of% @cast_eq/\type_of% @cast_pos/\type_of% @bI/\type_of% @Iw/\type_of% @Jg/\type_of% @JE /\
 (∀ {α β:Type}{f:α->β}{l:List α},(l.map f).length=l.length)/\(∀ {n:Nat},(List.range n).length=n)/\(∀ {n:Nat},(n:Int).toNat=n) :=
 ⟨Qa,@MH,@Ot,@qe,@Bh,@Bc,@sQ,@Em,@xu,@xQ,@sf,@zip_map,@xX,@y9,@Bd,@Ax,@cast_eq,@cast_pos,@bI,@Iw,@Jg,@JE,(by intros;exact RX ..),(by intros;exact SA),(by intros;exact Uj _)⟩
def jv {α β:Type}(f:α->β){l:List α}:∀ {m:List β},m.Perm (l.map f)->∃ l':List α,l'.Perm l/\m=l'.map f:=by
 have:∀ {a b:List β},a.Perm b->∀ l:List α,b=l.map f->∃ l':List α,l'.Perm l/\a=l'.map f:=by
  intro a b h
  induction h with
  | nil=>intro l e;exact ⟨l,.refl _,e⟩
  | cons x _ ih =>
   intro l e;cases l with
   | nil=>cases e
   | cons y l =>
    rw [SO,Uw] at e;obtain ⟨l',p,e'⟩:=ih l e.2;exact ⟨y::l',p.cons _,by rw [e.1,e',SO]⟩
  | swap x y z =>
   intro l e
   match l,e with
   | [],e=>cases e
   | [_],e=>rw [SO,Uw] at e;cases e.2
   | u::v::l,e =>
    rw [SO,SO,Uw,Uw] at e;exact ⟨v::u::l,List.Perm.swap _ _ _,by rw [SO,SO,e.1,e.2.1,e.2.2]⟩
  | trans _ _ ih1 ih2 =>
   intro l e;obtain ⟨l1,p1,e1⟩:=ih2 l e;obtain ⟨l2,p2,e2⟩:=ih1 l1 e1;exact ⟨l2,p2.trans p1,e2⟩
 intro m h;exact this h l rfl
def AE {ns:Xa}{P:Xg}(h:ns.length < 64)(q:∀ ms:Xa,ms.Perm ns->ms.Pairwise (·<=·)->P (.ow false) (nD ms)):pC [nD ns] P:=by
 refine ⟨ns.map (fun n:Nat=>(n:Int)),by rw [SX];rfl,by rw [RX];exact h,fun ms p s=>?_⟩
 obtain ⟨l,hl,rfl⟩:=jv _ p;rw [Wq] at s;have:=q l hl (List.Pairwise.imp (S:=(·<=·)) (fun {a b} h=>by lia) s)
 rw [SX];exact this
def KG {ps:XM}{P:Xg}(h:ps.length<=1000)(q:∀ qs:XM,qs.Perm ps->P (.ow false) (.list (qs.map fE))):um [.list (ps.map fE)] P:=by
 refine ⟨ps.map (fun e:Nat×Nat=>((e.1:Int),(e.2:Int))),by rw [SX];rfl,by rw [RX];exact h,fun ms p=>?_⟩
 obtain ⟨l,hl,rfl⟩:=jv _ p;have:=q l hl;rw [SX];exact this
def La {ns:Xa}{P:Xg}(h:ns≠[])(q:∀ m:Nat,m∈ns->(∀ n∈ns,m<=n)->P .sh (iD m)):wU [nD ns] P:=by
 refine ⟨ns.map (fun n:Nat=>(n:Int)),by rw [SX];rfl,fun e=>h (W3.mp e),fun M hM le=>?_⟩
 obtain ⟨m,hm,rfl⟩:=S0.mp hM;exact q m hm fun n hn=>by have:=le _ (S0.mpr ⟨n,hn,rfl⟩);lia
def LB {ns:Xa}{d:PyData}{P:Xg}(h:ns=[]->P .sh d)(q:∀ m:Nat,m∈ns->(∀ n∈ns,m<=n)->P .sh (iD m)):xg [nD ns,d] P:=by
 refine ⟨ns.map (fun n:Nat=>(n:Int)),d,by rw [SX];rfl,fun e=>h (W3.mp e),fun M hM le=>?_⟩
 obtain ⟨m,hm,rfl⟩:=S0.mp hM;exact q m hm fun n hn=>by have:=le _ (S0.mpr ⟨n,hn,rfl⟩);lia
def OF {bs:XX}{P:Xg}(q:P .sh (.bool (bs.any id))):BW [.list (bs.map .bool)] P:=⟨bs,rfl,q⟩
def xT {a b:Nat}:iD a=iD b↔a=b:=⟨fun h=>by cases h;rfl,fun h=>by rw [h]⟩
end Dv
namespace Gr
inductive R (E:Nat->Nat->Prop) (p:Nat):Nat->Nat->Prop
 | zero:R E p 0 p
 | step {d x y:Nat}:R E p d x->E x y->R E p (d + 1) y
def m5 (E:Nat->Nat->Prop) (p x d:Nat):Prop:=R E p d x/\∀ e,e < d->¬ R E p e x
section
variable {E:Nat->Nat->Prop}{p:Nat}
def m5.eq {x d e:Nat}(h:m5 E p x d)(g:m5 E p x e):d=e:=by
 rcases UE d e with l | l | l
 ·exact absurd h.1 (g.2 d l)
 ·exact l
 ·exact absurd g.1 (h.2 e l)
theorem FN:∀ (n:Nat){x d:Nat},d<=n->R E p d x->∃ e,e<=d/\m5 E p x e
 | 0,x,d,l,h=>by
  obtain rfl:d=0:=by lia
  exact ⟨0,RW _,h,fun e he=>absurd he (Tt e)⟩
 | n + 1,x,d,l,h=>by
  by_cases c:∃ e,e < d/\R E p e x
  ·obtain ⟨e,he,hr⟩:=c;obtain ⟨e',h1,h2⟩:=FN n (show e<=n by lia) hr
   exact ⟨e',by lia,h2⟩
  ·exact ⟨d,RW _,h,fun e he hr=>c ⟨e,he,hr⟩⟩
open Classical in
def dst (E:Nat->Nat->Prop) (p x:Nat):Nat:=if h:∃ d,m5 E p x d then Classical.choose h else 0
def tG {x d:Nat}(h:m5 E p x d):dst E p x=d:=by
 have h':∃ d,m5 E p x d:=⟨d,h⟩;unfold dst;rw [dif_pos h'];exact (Classical.choose_spec h').eq h
def MG {x d:Nat}(h:R E p d x):m5 E p x (dst E p x):=by
 obtain ⟨e,_,g⟩:=FN d (RW _) h;rw [tG g];exact g
def R.trans {q:Nat}{d e x:Nat}(h:R E p d q)(g:R E q e x):R E p (d + e) x:=by
 induction g with
 | zero=>exact h
 | step _ s ih=>exact ih.step s
def R.head {q d x:Nat}(h:E p q)(g:R E q d x):R E p (1 + d) x:=R.trans (R.step .zero h) g
def R.symm (sy:∀ x y,E x y->E y x){d x:Nat}(h:R E p d x):R E x d p:=by
 induction h with
 | zero=>exact .zero
 | step _ s ih =>
  have:=R.head (sy _ _ s) ih;rwa [Vf] at this
structure m9 (E:Nat->Nat->Prop) (p r:Nat)(f:Nat->Option Nat)(dN:Xa):Prop where
 sound:∀ x d,f x=some d->m5 E p x d
 upto:∀ x d,d<=r->R E p d x->∃ e,f x=some e
 low:∀ x d,f x=some d->d<=r
 dN:∀ x,x∈dN↔f x=some r
structure gi (E:Nat->Nat->Prop) (r:Nat)(f:Nat->Option Nat)(dN:Xa)(g:Nat->Option Nat)(reached:Xa):Prop where
 ext:∀ x d,f x=some d->g x=some d
 new:∀ x d,g x=some d->f x=some d\/(f x=none/\d=r + 1/\∃ h,h∈dN/\E h x)
 got:∀ x,x∈reached↔(f x=none/\g x=some (r + 1))
def m9.start:m9 E p 0 (fun x=>if x=p then some 0 else none) [p]:=by
 refine ⟨fun x d h=>?_,fun x d l h=>?_,fun x d h=>?_,fun x=>?_⟩
 ·by_cases c:x=p
  ·rw [if_pos c] at h;cases h;rw [c];exact ⟨.zero,fun e he=>absurd he (Tt e)⟩
  ·rw [if_neg c] at h;cases h
 ·obtain rfl:d=0:=by lia
  cases h;exact ⟨0,if_pos rfl⟩
 ·by_cases c:x=p
  ·rw [if_pos c] at h;cases h;exact RW _
  ·rw [if_neg c] at h;cases h
 ·rw [RZ];constructor
  ·intro e;exact if_pos e
  ·intro h
   by_cases c:x=p
   ·exact c
   ·rw [if_neg c] at h;cases h
def gi.start {r:Nat}{f:Nat->Option Nat}:gi E r f dN f []:=by
 refine ⟨fun x d h=>h,fun x d h=>.inl h,fun x=>?_⟩
 constructor
 ·intro h;cases h
 ·rintro ⟨h1,h2⟩;rw [h1] at h2;cases h2
def gi.put {r:Nat}{f g:Nat->Option Nat}{h y:Nat}(B:gi E r f dN g reached)(he:h∈dN)(hy:E h y)(n:g y=none):gi E r f dN (fun x=>if x=y then some (r + 1) else g x) (reached++[y]):=by
 have fy:f y=none:=by
  cases e:f y with
  | none=>rfl
  | some d =>
   rw [B.ext y d e] at n;cases n
 refine ⟨fun x d e=>?_,fun x d e=>?_,fun x=>?_⟩
 ·by_cases c:x=y
  ·rw [c,fy] at e;cases e
  ·show (if x=y then _ else _)=_
   rw [if_neg c];exact B.ext x d e
 ·by_cases c:x=y
  ·rw [if_pos c] at e;cases e;rw [c];exact .inr ⟨fy,rfl,h,he,hy⟩
  ·rw [if_neg c] at e;exact B.new x d e
 ·rw [S6,RZ,B.got x];constructor
  ·rintro (⟨h1,h2⟩ | rfl)
   ·refine ⟨h1,?_⟩
    by_cases c:x=y
    ·exact if_pos c
    ·show (if x=y then _ else _)=_
     rw [if_neg c];exact h2
   ·exact ⟨fy,if_pos rfl⟩
  ·rintro ⟨h1,h2⟩
   by_cases c:x=y
   ·exact .inr c
   ·rw [if_neg c] at h2;exact .inl ⟨h1,h2⟩
theorem gi.none {r:Nat}{f g:Nat->Option Nat}(B:gi E r f dN g reached){x:Nat}(h:g x=.none):f x=.none:=by
 cases e:f x with
 | none=>rfl
 | some d =>
  rw [B.ext x d e] at h;cases h
def gi.at {r:Nat}{f g:Nat->Option Nat}(B:gi E r f dN g reached)(A:m9 E p r f dN){h:Nat}(he:h∈dN):g h=some r:=B.ext h r ((A.dN h).mp he)
def m9.next {r:Nat}{f g:Nat->Option Nat}{dN reached:Xa}(A:m9 E p r f dN)(B:gi E r f dN g reached)(all:∀ h,h∈dN->∀ x,E h x->g x≠none):m9 E p (r + 1) g reached:=by
 refine ⟨fun x d e=>?_,fun x d l h=>?_,fun x d e=>?_,fun x=>?_⟩
 ·rcases B.new x d e with h | ⟨h1,rfl,h,he,hx⟩
  ·exact A.sound x d h
  ·have rh:=(A.sound h r ((A.dN h).mp he)).1;refine ⟨rh.step hx,fun e he hr=>?_⟩
   obtain ⟨d,hd⟩:=A.upto x e (by lia) hr
   rw [h1] at hd;cases hd
 ·by_cases c:d<=r
  ·obtain ⟨e,he⟩:=A.upto x d c h;exact ⟨e,B.ext x e he⟩
  ·obtain rfl:d=r + 1:=by lia
   cases h with
   | @step _ y _ hy hyx =>
    obtain ⟨e,he⟩:=A.upto y r (RW _) hy;have el:=A.low y e he
    by_cases ce:e=r
    ·have:=all y ((A.dN y).mpr (ce ▸ he)) x hyx;cases e':g x with
     | none=>exact absurd e' this
     | some d=>exact ⟨d,rfl⟩
    ·obtain ⟨e',he'⟩:=A.upto x (e + 1) (by lia) ((A.sound y e he).1.step hyx)
     exact ⟨e',B.ext x e' he'⟩
 ·rcases B.new x d e with h | ⟨_,rfl,_⟩
  ·have:=A.low x d h;lia
  ·exact RW _
 ·rw [B.got x];constructor
  ·exact fun h=>h.2
  ·intro h;refine ⟨?_,h⟩;rcases B.new x (r + 1) h with h' | ⟨h',_⟩
   ·have:=A.low x _ h';lia
   ·exact h'
def m9.done {r:Nat}{f:Nat->Option Nat}(A:m9 E p r f []):∀ {d x:Nat},R E p d x->∃ e,f x=some e:=by
 intro d x h
 induction h with
 | zero=>exact A.upto p 0 (Sd _) .zero
 | @step d x y _ hxy ih =>
  obtain ⟨e,he⟩:=ih;have el:=A.low x e he;have ne:e≠r:=fun c=>by
   have:=(A.dN x).mpr (c ▸ he);cases this
  exact A.upto y (e + 1) (by lia) ((A.sound x e he).1.step hxy)
def m9.val {r:Nat}{f:Nat->Option Nat}(A:m9 E p r f []){x d:Nat}(h:R E p d x):f x=some (dst E p x):=by
 obtain ⟨e,he⟩:=A.done h;rw [he,tG (A.sound x e he)]
end
def cnt (f:Nat->Option Nat):Nat->Nat
 | 0=>0
 | m + 1=>cnt f m + (if f m=none then 1 else 0)
theorem xW {f g:Nat->Option Nat}(h:∀ x,g x=none->f x=none):∀ m,cnt g m<=cnt f m
 | 0=>RW _
 | m + 1=>by
  have:=xW h m;unfold cnt
  by_cases c:g m=none
  ·rw [if_pos c,if_pos (h m c)];lia
  ·rw [if_neg c];lia
theorem FG {f g:Nat->Option Nat}(h:∀ x,g x=none->f x=none){y:Nat}(fy:f y=none)(gy:g y≠none):∀ m,y < m->cnt g m < cnt f m
 | 0,l=>absurd l (Tt _)
 | m + 1,l=>by
  unfold cnt
  by_cases c:y=m
  ·have:=xW h m;rw [<- c,if_neg gy,if_pos fy,c];lia
  ·have:=FG h fy gy m (by lia)
   by_cases c:g m=none
   ·rw [if_pos c,if_pos (h m c)];lia
   ·rw [if_neg c];lia
def aF (es:XM) (x y:Nat):Prop:=(x,y)∈es\/(y,x)∈es
def cH (x y:Nat)(h:aF es x y):aF es y x:=h.elim .inr .inl
def cU (m:Nat)(es:XM):Prop:=∀ p,p < m->∀ x,x < m->∃ d,R (aF es) p d x
def Kz {m:Nat}(h:∀ k,0 < k->k < m->∃ p,p < k/\(p,k)∈es):cU m es:=by
 have z:∀ n x,x < n->x < m->∃ d,R (aF es) x d 0:=by
  intro n
  induction n with
  | zero=>exact fun x h _=>absurd h (Tt _)
  | succ n ih =>
   intro x hx hm
   by_cases c:x=0
   ·rw [c];exact ⟨0,.zero⟩
   ·obtain ⟨q,hq,he⟩:=h x (by lia) hm
    obtain ⟨d,hd⟩:=ih q (by lia) (by lia)
    exact ⟨1 + d,R.head (.inr he) hd⟩
 intro p hp x hx;obtain ⟨d,hd⟩:=z (p + 1) p (by lia) hp
 obtain ⟨e,he⟩:=z (x + 1) x (by lia) hx
 exact ⟨d + e,hd.trans (he.symm cH)⟩
def zG {m:Nat}{nm:Nat->Nat}(h:cU m es)(onto:∀ x,x < m->∃ a,a < m/\nm a=x)(e:∀ a b,(a,b)∈es->aF fs (nm a) (nm b)):cU m fs:=by
 intro p hp x hx;obtain ⟨a,ha,rfl⟩:=onto p hp;obtain ⟨b,hb,rfl⟩:=onto x hx;obtain ⟨d,hd⟩:=h a ha b hb;have go:∀ {d b:Nat},R (aF es) a d b->R (aF fs) (nm a) d (nm b):=by
  intro d b hd
  induction hd with
  | zero=>exact .zero
  | step _ s ih =>
   refine R.step ih ?_;rcases s with s | s
   ·exact e _ _ s
   ·exact cH _ _ (e _ _ s)
 exact ⟨d,go hd⟩
theorem fT:∀ (m:Nat)(l:Xa),l.Nodup->(∀ x∈l,x < m)->l.length<=m
 | 0,[],_,_=>RW _
 | 0,x::_,_,h=>absurd (h x (RT ..)) (Tt _)
 | m + 1,l,nd,h=>by
  have h1:(l.erase m).length<=m:=fT m (l.erase m) (nd.sublist (List.erase_sublist ..)) fun x hx=>by
   have:=(nd.mem_erase_iff.mp hx);have:=h x this.2;lia
  have h2:l.length<=(l.erase m).length + 1:=by
   rw [List.length_erase];split <;> lia
  lia
def nb (x:Nat)(e:Nat×Nat):Option Nat:=if e.1=x then some e.2 else if e.2=x then some e.1 else none
def cZ (es:XM) (x:Nat):Xa:=es.filterMap (nb x)
def uS {x y:Nat}(h:nb x e=some y):e=(x,y)\/e=(y,x):=by
 obtain ⟨a,b⟩:=e;unfold nb at h
 by_cases c:a=x
 ·rw [if_pos c] at h;cases h;rw [c];exact .inl rfl
 ·rw [if_neg c] at h
  by_cases c2:b=x
  ·rw [if_pos c2] at h;cases h;rw [c2];exact .inr rfl
  ·rw [if_neg c2] at h;cases h
def cS {x y:Nat}:y∈cZ es x↔aF es x y:=by
 unfold cZ;rw [VZ];constructor
 ·rintro ⟨e,he,h⟩;rcases uS h with rfl | rfl
  ·exact .inl he
  ·exact .inr he
 ·rintro (h | h)
  ·exact ⟨_,h,if_pos rfl⟩
  ·refine ⟨_,h,?_⟩;show (if y=x then some x else if x=x then some y else none)=some y
   by_cases c:y=x
   ·rw [if_pos c,c]
   ·rw [if_neg c,if_pos rfl]
def Kl {x:Nat}:cZ (es++fs) x=cZ es x++cZ fs x:=VC ..
structure Good (m:Nat)(es:XM):Prop where
 lt:∀ e∈es,e.1 < e.2/\e.2 < m
 nd:es.Nodup
def Good.cI {m:Nat}(g:Good m es){x y:Nat}(h:aF es x y):x < m/\y < m:=by
 rcases h with h | h
 ·have:x < y/\y < m:=g.lt _ h;lia
 ·have:y < x/\x < m:=g.lt _ h;lia
def Good.qk {m:Nat}(g:Good m es) (x:Nat):(cZ es x).Nodup:=by
 unfold cZ List.Nodup;rw [List.pairwise_filterMap];refine W4 ?_ g.nd;intro a b ha hb ne y hy z hz e;subst e;rcases uS hy with rfl | rfl <;> rcases uS hz with rfl | rfl
 ·exact ne rfl
 ·have h1:x < y/\y < m:=g.lt _ ha;have h2:y < x/\x < m:=g.lt _ hb;lia
 ·have h1:y < x/\x < m:=g.lt _ ha;have h2:x < y/\y < m:=g.lt _ hb;lia
 ·exact ne rfl
def Good.qD {m:Nat}(g:Good m es) (x:Nat):(cZ es x).length<=m:=fT m _ (g.qk x) fun y hy=>(g.cI (cS.mp hy)).2
def Good.perm {m:Nat}(p:fs.Perm es)(g:Good m es):Good m fs:=⟨fun e h=>g.lt e (p.mem_iff.mp h),p.nodup_iff.mpr g.nd⟩
def Ft {m:Nat}(p:fs.Perm es)(h:cU m es):cU m fs:=zG (nm:=id) h (fun x hx=>⟨x,hx,rfl⟩) fun a b h=>.inl (p.mem_iff.mpr h)
def vG (ms:Xa)(e:Nat×Nat):Nat×Nat:=(min (ms.getD e.1 0) (ms.getD e.2 0),max (ms.getD e.1 0) (ms.getD e.2 0))
def getD_inj {ms:Xa}(nd:ms.Nodup){a b:Nat}(ha:a < ms.length)(hb:b < ms.length)(e:ms.getD a 0=ms.getD b 0):a=b:=by
 rw [TM,TM,S9 ha,S9 hb] at e;have e':ms[a]=ms[b]:=e;rcases UE a b with l | l | l
 ·exact absurd e' (Tf.mp nd a b ha hb l)
 ·exact l
 ·exact absurd e'.symm (Tf.mp nd b a hb ha l)
def Cz {m:Nat}{ps:XM}{ms:Xa}(pm:ms.Perm (List.range m))(g:Good m ps):Good m (ps.map (vG ms)):=by
 have nd:ms.Nodup:=pm.nodup_iff.mpr Tz;have ln:ms.length=m:=by rw [pm.length_eq,SA]
 have lt:∀ a,a < m->ms.getD a 0 < m:=fun a ha=>by
  have h:a < ms.length:=by lia
  rw [TM,S9 h];exact SN.mp (pm.mem_iff.mp (U9 h))
 refine ⟨fun e he=>?_,?_⟩
 ·obtain ⟨⟨a,b⟩,hp,rfl⟩:=S0.mp he;have h:a < b/\b < m:=g.lt _ hp;have h1:=lt a (by lia)
  have h2:=lt b (by lia)
  have ne:ms.getD a 0≠ms.getD b 0:=fun e=>by
   have:=getD_inj nd (by lia) (by lia) e
   lia
  show min (ms.getD a 0) (ms.getD b 0) < max (ms.getD a 0) (ms.getD b 0)/\max (ms.getD a 0) (ms.getD b 0) < m;lia
 ·refine W5 _ ?_ (W4 (S:=fun x y=>x≠y/\(x.1 < x.2/\x.2 < m)/\(y.1 < y.2/\y.2 < m)) (fun {a b} ha hb h=>⟨h,g.lt _ ha,g.lt _ hb⟩) g.nd)
  rintro ⟨a,b⟩ ⟨c,d⟩ ⟨ne,h1,h2⟩ e;have h1:a < b/\b < m:=h1;have h2:c < d/\d < m:=h2;have e1:min (ms.getD a 0) (ms.getD b 0)=min (ms.getD c 0) (ms.getD d 0):=congrArg Prod.fst e;have e2:max (ms.getD a 0) (ms.getD b 0)=max (ms.getD c 0) (ms.getD d 0):=congrArg Prod.snd e;have e3:(ms.getD a 0=ms.getD c 0/\ms.getD b 0=ms.getD d 0)\/(ms.getD a 0=ms.getD d 0/\ms.getD b 0=ms.getD c 0):=by lia
  rcases e3 with ⟨p,q⟩ | ⟨p,q⟩
  ·have r1:=getD_inj nd (by lia) (by lia) p
   have r2:=getD_inj nd (by lia) (by lia) q
   subst r1;subst r2;exact ne rfl
  ·have r1:=getD_inj nd (by lia) (by lia) p
   have r2:=getD_inj nd (by lia) (by lia) q
   lia
def B7 {m:Nat}(pm:ms.Perm (List.range m))(h:cU m ps):cU m (ps.map (vG ms)):=by
 refine zG (nm:=fun a=>ms.getD a 0) h (fun x hx=>?_) fun a b he=>?_
 ·obtain ⟨i,hi⟩:=U7 (pm.mem_iff.mpr (SN.mpr hx));have li:=(U1.mp hi).1;rw [pm.length_eq,SA] at li;refine ⟨i,li,?_⟩;show ms.getD i 0=x;rw [TM,hi];rfl
 ·have hm:vG ms (a,b)∈ps.map (vG ms):=S0.mpr ⟨_,he,rfl⟩;show aF _ (ms.getD a 0) (ms.getD b 0);have e:vG ms (a,b)=(min (ms.getD a 0) (ms.getD b 0),max (ms.getD a 0) (ms.getD b 0)):=rfl;rw [e] at hm;rcases Uz (ms.getD a 0) (ms.getD b 0) with l | l
  ·rw [Ue l,Wr l] at hm;exact .inl hm
  ·rw [Ug l,Nat.max_eq_left l] at hm;exact .inr hm
section
variable {E:Nat->Nat->Prop}{p:Nat}
def m5.pred {x d:Nat}(h:m5 E p x (d + 1)):∃ y,m5 E p y d/\E y x:=by
 obtain ⟨h1,h2⟩:=h;cases h1 with
 | @step _ y _ hy hyx =>
  refine ⟨y,⟨hy,fun e he hr=>?_⟩,hyx⟩
  exact h2 (e + 1) (by lia) (hr.step hyx)
end
def eV:Nat->Nat
 | 0=>0
 | b + 1=>eV b + b
def xr {a b:Nat}(h:a<=b):eV a<=eV b:=by
 induction b with
 | zero =>
  obtain rfl:a=0:=by lia
  exact RW _
 | succ b ih =>
  by_cases c:a=b + 1
  ·rw [c];exact RW _
  ·exact SW (ih (by lia)) (U8 _ _)
theorem AU:∀ m,2 * eV m<=m * m
 | 0=>RW _
 | m + 1=>by
  have:=AU m;show 2 * (eV m + m)<=(m + 1) * (m + 1);rw [Nat.mul_add,Nat.add_mul,Nat.mul_add];lia
def ix (e:Nat×Nat):Nat:=eV e.2 + e.1
def NS (he:e.1 < e.2)(hf:f.1 < f.2)(h:ix e=ix f):e=f:=by
 obtain ⟨a,b⟩:=e;obtain ⟨c,d⟩:=f;unfold ix at h;dsimp only at he hf h;have key:∀ {a b c d:Nat},a < b->b < d->eV b + a < eV d + c:=fun {a b c d} h1 h2=>by
  have:=xr (a:=b + 1) (b:=d) (by lia)
  have e:eV (b + 1)=eV b + b:=rfl;lia
 rcases UE b d with l | l | l
 ·have:=key (c:=c) he l;lia
 ·subst l;rw [show a=c by lia]
 ·have:=key (c:=a) hf l;lia
def GO {m:Nat}(g:Good m ps):2 * ps.length<=m * m:=by
 have h:=fT (eV m) (ps.map ix) ?_ ?_
 ·rw [RX] at h;have:=AU m;lia
 ·unfold List.Nodup;rw [Wq];exact W4 (fun {e f} he hf ne h=>ne (NS (g.lt e he).1 (g.lt f hf).1 h)) g.nd
 ·intro x hx;obtain ⟨e,he,rfl⟩:=S0.mp hx;have l:=g.lt e he;have:=xr (a:=e.2 + 1) (b:=m) (by lia)
  have e2:eV (e.2 + 1)=eV e.2 + e.2:=rfl;unfold ix;lia
end Gr
local macro_rules | `(tactic| bv_omega) => do let ls ← (List.range 216).toArray.mapM fun k => `(Lean.Parser.Tactic.simpLemma| $(Lean.mkIdent (.str `Dv s!"rr{k}")):ident); `(tactic| dsimp only [$ls,*, Dv.dyr0, Dv.dyr1, Dv.dyr2, Dv.dyr3, Nat.reduceBEq])
local macro_rules | `(tactic| rfl') => `(tactic| ((try bv_omega); try simp only [Dv.dv, Dv.dw, Dv.dx, Dv.dy, Dv.dz, Nat.reduceBEq]))
local macro_rules | `(tactic| simp! [$xs,*]) => `(tactic| ((try bv_omega); try simp only [Dv.dv, Dv.dw, Dv.dx, Dv.dy, Dv.dz, Nat.reduceBEq, $xs,*]))
namespace PB
open PySem L2 Dv
def Aw {α:Type}{m k:Nat}{f:Nat->α}{v:α}:((List.range m).map f).set k v=(List.range m).map fun i=>if i=k then v else f i:=by
 refine To fun j=>?_
 rw [Uh,RX,SA,S7,S7]
 by_cases h:j < m
 ·rw [Sv h]
  by_cases c:k=j
  ·subst c;rw [if_pos rfl,if_pos h];simp
  ·rw [if_neg c];simp [Ne.symm c]
 ·rw [Sn (by rw [SA];lia)]
  by_cases c:k=j
  ·subst c;rw [if_pos rfl,if_neg h];rfl
  ·rw [if_neg c];rfl
def Kn {α:Type}{m k:Nat}{f:Nat->α}(h:k < m):((List.range m).map f)[k]?=some (f k):=by rw [S7,Sv h];rfl
def P8 (f:DM) (i n:Nat)(E1:En)(w:PyData)(Q:Xd):Prop:=∃ a p ds m es k d E2,w=.int a/\E1[i]?=some (some (.dp p,.list ds))/\kZ ds.length a=some m/\ds[m]?=some (.list es)/\E1[n]?=some (some (k,d))/\i≠n/\cY E1 n=some E2/\f es [d] fun new v=>Q (E2.set i (some (.dp p,.list (ds.set m (.list new))))) .sh v
def EF {i n:Nat}:zz f i j n x (o::E) Q=(here (o::E) i=true/\j x (o::E) fun E1 _ w=>P8 f i n E1 w Q):=rfl
def Eb {i n a m:Nat}{p:Bool}{E:En}{g:Nat->XS}{Q:Xd}(h1:E[i]?=some (some (.dp p,.list ((List.range m).map fun i=>.list (g i)))))(h2:E[n]?=some (some (.sh,d)))(ne:i≠n)(ha:a < m)(hs:(g a).length < 16777216)(q:Q (E.set i (some (.dp p,.list ((List.range m).map fun k=>.list (if k=a then g k++[d] else g k))))) .sh .none):P8 fG i n E (iD a) Q:=by
 refine ⟨a,p,_,a,g a,.sh,d,E,rfl,h1,?_,Kn ha,h2,ne,?_,?_⟩
 ·rw [RX,SA];exact FD ha
 ·have:=yH (E:=E) (is:=[n]) (by simp [jM,h2])
  unfold dY at this;cases e:cY E n with
  | none=>rw [e] at this;cases this
  | some E2=>rw [e] at this;exact this
 ·refine ⟨hs,?_⟩;show Q (E.set i (some (.dp p,.list (((List.range m).map fun i=>PyData.list (g i)).set a (.list (g a++[d])))))) .sh .none
  rw [Aw];have e:((List.range m).map fun k=>if k=a then PyData.list (g a++[d]) else .list (g k))=(List.range m).map fun k=>PyData.list (if k=a then g k++[d] else g k):=by
   refine Tn fun k _=>?_
   by_cases c:k=a
   ·rw [if_pos c,if_pos c,c]
   ·rw [if_neg c,if_neg c]
  rw [e];exact q
abbrev tR (m:Nat)(es:XM):PyData:=.list ((List.range m).map fun i=>nD (Gr.cZ es i))
def vt:bq:=fun ds Q x=>∃ m es,ds=[wD m es]/\m<=60/\Gr.Good m es/\Q [] (.dp false) (tR m es)
def Nk:∀ ds Q x,vt ds Q x->gu (aU [false] Q x) (ini [false] ds++List.replicate 6 none):=by
 rintro _ Q x ⟨m,es,rfl,hm,gd,q⟩;unfold gu;rfl';rw [if_pos (by lia)]
 refine c9 rfl (NV (fun _=>PyData.list []) rfl (fun a ha I hI=>?_) ?_ (by rw [SA];lia))
 ·rfl';exact ⟨by lia,⟨false,rfl⟩,hI _ rfl⟩
 ·rfl';refine lW (fun i E=>∃ o4 o5:Xf,E=[some (.sh,wD m es),some (.sh,iD m),some (.sh,.tuple (es.map fE)),some (.dp false,tR m (es.take i)),o4,o5,none]/\b9 o4=true/\b9 o5=true) ⟨none,none,rfl,rfl,rfl⟩ ?_ ?_
  ·rintro i ⟨a,b⟩ _ hi ⟨o4,o5,rfl,ho4,ho5⟩;have hab:=gd.lt _ (SR hi);have hab:a < b/\b < m:=hab;simp! [ho4,ho5,EF];have hn:∀ k,(Gr.cZ (es.take i) k).length < 1000:=fun k=>by
    have g2:Gr.Good m (es.take i):=⟨fun e he=>gd.lt e (List.mem_of_mem_take he),W6 (List.take_sublist _ _) gd.nd⟩
    have:=g2.qD k;lia
   refine Eb (g:=fun k=>(Gr.cZ (es.take i) k).map iD) rfl rfl (by lia) (by lia) (by rw [RX];have:=hn a;lia) ?_
   simp! [ho4,ho5,EF];refine Eb (g:=fun k=>if k=a then (Gr.cZ (es.take i) k).map iD++[iD b] else (Gr.cZ (es.take i) k).map iD) rfl rfl (by lia) (by lia) (by rw [if_neg (by lia),RX];have:=hn b;lia) ?_
   refine ⟨some (.sh,iD a),some (.sh,iD b),?_,rfl,rfl⟩;simp only [List.set_cons_succ,List.set_cons_zero];have e:∀ k,(if k=b then (if k=a then (Gr.cZ (es.take i) k).map iD++[iD b] else (Gr.cZ (es.take i) k).map iD)++[iD a] else if k=a then (Gr.cZ (es.take i) k).map iD++[iD b] else (Gr.cZ (es.take i) k).map iD)=(Gr.cZ (es.take (i + 1)) k).map iD:=fun k=>by
    rw [take_snoc hi,Gr.Kl,Sg];unfold Gr.cZ;rw [TF,List.filterMap_nil];unfold Gr.nb;simp only
    by_cases c:k=a
    ·subst c;rw [if_neg (by lia),if_pos rfl,if_pos rfl]
     rfl
    ·by_cases c2:k=b
     ·subst c2;rw [if_pos rfl,if_neg c,if_neg (Ne.symm c),if_pos rfl];rfl
     ·rw [if_neg c2,if_neg c,if_neg (Ne.symm c),if_neg (Ne.symm c2)];exact (Sy _).symm
   rw [Tn fun k _=>congrArg PyData.list (e k)]
  ·rintro _ ⟨o4,o5,rfl,ho4,ho5⟩;rw [Tj];rfl';exact q
open Classical in
def rD (es:XM) (p x:Nat):Option Nat:=if ∃ d,Gr.R (Gr.aF es) p d x then some (Gr.dst (Gr.aF es) p x) else none
def oD:Option Nat->PyData
 | none=>.none
 | some n=>iD n
abbrev tP (f:Nat->Option Nat) (m:Nat):PyData:=.list ((List.range m).map fun x=>oD (f x))
def EL {f:Nat->Option Nat}{m y d:Nat}:(((List.range m).map fun x=>oD (f x)).set y (iD d))=(List.range m).map fun x=>oD (if x=y then some d else f x):=by
 rw [Aw];refine Tn fun k _=>?_
 by_cases c:k=y
 ·rw [if_pos c,if_pos c];rfl
 ·rw [if_neg c,if_neg c]
def N8 {m p r:Nat}{f:Nat->Option Nat}(B:Gr.m9 (Gr.aF es) p r f []) (x:Nat):f x=rD es p x:=by
 unfold rD;split
 ·rename_i h;obtain ⟨d,h⟩:=h;exact B.val h
 ·rename_i h;cases e:f x with
  | none=>rfl
  | some d=>exact absurd ⟨d,(B.sound x d e).1⟩ h
def GW {m p x:Nat}(cn:Gr.cU m es)(hp:p < m)(hx:x < m):rD es p x=some (Gr.dst (Gr.aF es) p x):=if_pos (cn p hp x hx)
def BO:bq:=fun ds Q x=>∃ m es p,ds=[wD m es,iD p]/\m<=60/\Gr.Good m es/\p < m/\Q [] (.ow false) (tP (rD es p) m)
def M8:cG false [oD o,.none] P=P .sh (.bool o.isNone):=by
 cases o <;> simp [oD,cG,dx]
def PX:lf (oD o)=true:=by cases o <;> rfl
def AI {y:Nat}:nD (l++[y])=.list (l.map iD++[iD y]):=by
 show PyData.list ((l++[y]).map iD)=_;rw [Sg];rfl
def LL:∀ ds Q x,BO ds Q x->ja vt (aU [false,false] Q x) (ini [false,false] ds++List.replicate 6 none):=by
 rintro _ Q x ⟨m,es,p,rfl,hm,gd,hp,q⟩;unfold ja;rfl';refine ⟨m,es,rfl,hm,gd,?_⟩;rfl';have e0:(List.replicate m [PyData.none]).flatten=(List.range m).map fun _=>PyData.none:=by
  clear q hp gd hm
  induction m with
  | zero=>rfl
  | succ k ih=>rw [List.replicate_succ',List.flatten_append,ih,List.range_succ,Sg];rfl
 rw [e0];refine ⟨by lia,⟨by lia,by lia,by lia⟩,ve (by rw [RX,SA];exact hp) ?_⟩
 rw [show PyData.int 0=iD 0 from rfl,show ((List.range m).map fun _=>PyData.none)=(List.range m).map fun x=>oD ((fun _=>none:Nat->Option Nat) x) from rfl,EL]
 refine ⟨by lia,?_⟩
 refine ⟨fun n E=>∃ (r:Nat)(g:Nat->Option Nat)(ed:Xa)(k2 k4:Kd)(o5 o6 o7:Xf),E=[some (.sh,wD m es),some (.sh,iD p),some (k2,tR m es),some (.ow false,tP g m),some (k4,nD ed),o5,o6,o7]/\(k2=.dp false\/k2=.sh)/\(k4=.ow false\/k4=.sh)/\b9 o5=true/\b9 o6=true/\b9 o7=true/\n=2 * Gr.cnt g m + (if ed=[] then 0 else 1)/\Gr.m9 (Gr.aF es) p r g ed/\∀ x∈ed,x < m,?_,?_⟩
 ·exact ⟨_,0,_,[p],_,_,none,none,none,rfl,.inl rfl,.inl rfl,rfl,rfl,rfl,rfl,Gr.m9.start,fun x hx=>by rw [RZ.mp hx];exact hp⟩
 rintro n _ ⟨r,g,ed,k2,k4,o5,o6,o7,rfl,hk2,hk4,ho5,ho6,ho7,rfl,B,edm⟩;simp! [Ws];refine ⟨by rcases hk4 with rfl | rfl <;> rfl,?_⟩
 cases ed with
 | nil =>
  simp! [Wt];have e:tP g m=tP (rD es p) m:=congrArg PyData.list (Tn fun x _=>congrArg oD (N8 (m:=m) B x))
  rw [e];exact q
 | cons e0 er =>
  simp! [List.isEmpty_cons,ho5];have f4:k4.fz=true:=by rcases hk4 with rfl | rfl <;> rfl
  rw [if_pos f4];refine ⟨by lia,c9 rfl ?_⟩
  have ne:e0::er≠[]:=Wu _ _;generalize e0::er=ed at B edm ne ⊢;have hE2:∀ (k2:Kd),(k2=.dp false\/k2=.sh)->k2.rd=true/\k2.fz=true:=fun k h=>by rcases h with rfl | rfl <;> exact ⟨rfl,rfl⟩
  refine lW (fun i E=>∃ (g':Nat->Option Nat)(rc:Xa)(k2:Kd)(o6 o7:Xf),E=[some (.sh,wD m es),some (.sh,iD p),some (k2,tR m es),some (.ow false,tP g' m),some (.sh,nD ed),some (.ow false,nD rc),o6,o7]/\(k2=.dp false\/k2=.sh)/\b9 o6=true/\b9 o7=true/\Gr.gi (Gr.aF es) r g ed g' rc/\(∀ j h,j < i->ed[j]?=some h->∀ x,Gr.aF es h x->g' x≠none)/\rc.Nodup/\∀ x∈rc,x < m) ⟨g,[],k2,o6,o7,rfl,hk2,ho6,ho7,.start,fun j h hj=>by lia,Tr,fun _ h=>absurd h Se⟩ ?_ ?_
  ·rintro i h _ hi ⟨g',rc,k2,o6,o7,rfl,hk2,ho6,ho7,BI,don,rcn,rcm⟩;have mh:h∈ed:=SR hi;have hm':=edm h mh;obtain ⟨rd2,fz2⟩:=hE2 k2 hk2;simp! [ho6,rd2];rw [Sv hm'];refine c9 rfl ?_;simp! [fz2];have loop:∀ k2,(k2=.dp false\/k2=.sh)->xG (List.map iD (Gr.cZ es h)) (Tg.nm 7) (dG (cu (ah (cG false) [Arg.ev (ah aR [Arg.pk 3,Arg.pk 7]),Arg.ev (dC PyData.none)])) (ay (i7 3 (bN 7) (ah dP [Arg.ev (ah aR [Arg.pk 3,Arg.pk 6]),Arg.ev (dC (PyData.int 1))])) (cW (tH fG 5 [bN 7]))) d9)
    { nx:=fun E=>∃ (g':Nat->Option Nat)(rc:Xa)(k2:Kd)(o6 o7:Xf),E=[some (.sh,wD m es),some (.sh,iD p),some (k2,tR m es),some (.ow false,tP g' m),some (.sh,nD ed),some (.ow false,nD rc),o6,o7]/\(k2=.dp false\/k2=.sh)/\b9 o6=true/\b9 o7=true/\Gr.gi (Gr.aF es) r g ed g' rc/\(∀ j h,j < i + 1->ed[j]?=some h->∀ x,Gr.aF es h x->g' x≠none)/\rc.Nodup/\∀ x∈rc,x < m,rt:=(aU [false,false] Q x).rt,xc:=x }
    [some (.sh,wD m es),some (.sh,iD p),some (k2,tR m es),some (.ow false,tP g' m),some (.sh,nD ed),some (.ow false,nD rc),some (.sh,iD h),o7]:=by
    intro k2 hk2;refine lW (fun i' E=>∃ (g':Nat->Option Nat)(rc:Xa)(o7:Xf),E=[some (.sh,wD m es),some (.sh,iD p),some (k2,tR m es),some (.ow false,tP g' m),some (.sh,nD ed),some (.ow false,nD rc),some (.sh,iD h),o7]/\b9 o7=true/\Gr.gi (Gr.aF es) r g ed g' rc/\(∀ j h,j < i->ed[j]?=some h->∀ x,Gr.aF es h x->g' x≠none)/\(∀ j y,j < i'->(Gr.cZ es h)[j]?=some y->g' y≠none)/\rc.Nodup/\∀ x∈rc,x < m) ⟨g',rc,o7,rfl,ho7,BI,don,fun j y hj=>by lia,rcn,rcm⟩ ?_ ?_
    ·rintro i' y _ hy ⟨g',rc,o7,rfl,ho7,BI,don,dni,rcn,rcm⟩;have hyE:Gr.aF es h y:=Gr.cS.mp (SR hy);have ym:y < m:=(gd.cI hyE).2;have eh:=BI.at B mh;simp! [ho7,Sv ym,Sv hm',PX,M8];cases gy:g' y with
     | some d =>
      simp only [dw,Option.isNone_some];refine ⟨g',rc,some (.sh,iD y),rfl,rfl,BI,don,fun j z hj hz=>?_,rcn,rcm⟩
      by_cases c:j=i'
      ·subst c;rw [hy] at hz;cases hz;rw [gy];simp
      ·exact dni j z (by lia) hz
     | none =>
      have e1:oD (some r)=iD r:=rfl;have e2:(r:Int) + 1=((r + 1:Nat):Int):=rfl;simp! [Option.isNone_none,eh,e1,e2];have yrc:y∉rc:=fun h'=>by
       have:=((BI.got y).mp h').2;rw [gy] at this;cases this
      have rcl:=Gr.fT m rc rcn rcm;refine ve ym ⟨by lia,_,rc++[y],some (.sh,iD y),?_,rfl,BI.put mh hyE gy,fun j h' hj he x hx=>?_,fun j z hj hz=>?_,?_,fun x hx=>?_⟩
      ·rw [EL,AI]
      ·show (if x=y then some (r + 1) else g' x)≠none
       split
       ·exact fun h=>(nomatch h)
       ·exact don j h' hj he x hx
      ·show (if z=y then some (r + 1) else g' z)≠none
       split
       ·exact fun h=>(nomatch h)
       ·rename_i c
        by_cases c2:j=i'
        ·subst c2;rw [hy] at hz;cases hz;exact absurd rfl c
        ·exact dni j z (by lia) hz
      ·exact UM.mpr ⟨rcn,Sj.mpr ⟨Se,Tr⟩,fun a ha b hb e=>by
        cases RZ.mp hb;exact yrc (e ▸ ha)⟩
      ·rcases S6.mp hx with h' | h'
       ·exact rcm x h'
       ·rw [RZ.mp h'];exact ym
    ·rintro _ ⟨g',rc,o7,rfl,ho7,BI,don,dni,rcn,rcm⟩;refine ⟨g',rc,k2,_,o7,rfl,hk2,rfl,ho7,BI,fun j h' hj hh x hx=>?_,rcn,rcm⟩
     by_cases c:j=i
     ·subst c;rw [hi] at hh;cases hh;obtain ⟨l,hl⟩:=Td.mp (Gr.cS.mpr hx);exact dni l x (av hl) hl
     ·exact don j h' (by lia) hh x hx
   split
   ·exact c9 rfl (loop _ hk2)
   ·exact c9 rfl (loop _ (.inr rfl))
  ·rintro _ ⟨g',rc,k2,o6,o7,rfl,hk2,ho6,ho7,BI,don,rcn,rcm⟩;rfl';have all:∀ h,h∈ed->∀ x,Gr.aF es h x->g' x≠none:=fun h hh=>by
    obtain ⟨j,hj⟩:=Td.mp hh;exact don j h (av hj) hj
   refine ⟨_,?_,r + 1,g',rc,k2,.sh,some (.sh,nD rc),o6,o7,rfl,hk2,.inr rfl,rfl,ho6,ho7,rfl,B.next BI all,rcm⟩;rw [if_neg ne];cases rc with
   | nil =>
    have:=Gr.xW (f:=g) (g:=g') (fun x h=>BI.none h) m
    rw [if_pos rfl];lia
   | cons y rc =>
    obtain ⟨h1,h2⟩:=(BI.got y).mp (RT ..);have:=Gr.FG (f:=g) (g:=g') (fun x h=>BI.none h) h1 (by rw [h2];exact fun h=>(nomatch h)) m (rcm y (RT ..))
    rw [if_neg (Wu _ _)];lia
structure dF (m:Nat)(es:XM):Prop where
 pos:1<=m
 le:m<=60
 gd:Gr.Good m es
 cn:Gr.cU m es
def dF.few {m:Nat}(W:dF m es):es.length<=1800:=by
 have h:=Gr.GO W.gd;have:=Nat.mul_le_mul W.le W.le;lia
abbrev aQ (es:XM) (p x:Nat):Nat:=Gr.dst (Gr.aF es) p x
abbrev tD (m:Nat)(es:XM) (p:Nat):PyData:=.list ((List.range m).map fun x=>iD (aQ es p x))
def NO {m p:Nat}(cn:Gr.cU m es)(hp:p < m):tP (rD es p) m=tD m es p:=congrArg PyData.list (Tn fun x hx=>by rw [GW cn hp (SN.mp hx)];rfl)
def vp:bq:=fun ds Q x=>∃ m es,∃ p:Int,ds=[wD m es,.int p]/\(0<=p/\p < m->Q [] .sh .none)/\(¬ (0<=p/\p < m)->x "NoPlace" .none)
def LJ:∀ ds Q x,vp ds Q x->gx (aU [false,false] Q x) (ini [false,false] ds++List.replicate 0 none):=by
 rintro _ Q x ⟨m,es,p,rfl,q,r⟩;unfold gx;rfl';split
 ·rename_i h;split
  ·rename_i h2;exact r fun z=>h2 z.2
  ·rename_i h2;exact q ⟨h,Wv h2⟩
 ·rename_i h;exact r fun z=>h z.1
def uN:bq:=fun ds Q x=>∃ m es,∃ p:Int,ds=[wD m es,.int p]/\dF m es/\(∀ k:Nat,p=k->k < m->Q [] (.ow false) (tD m es k))/\(¬ (0<=p/\p < m)->x "NoPlace" .none)
def LQ:∀ ds Q x,uN ds Q x->mw vp BO (aU [false,false] Q x) (ini [false,false] ds++List.replicate 0 none):=by
 rintro _ Q x ⟨m,es,p,rfl,W,q,r⟩;unfold mw;rfl';refine ⟨m,es,p,rfl,fun hp=>?_,r⟩
 rfl';obtain ⟨k,rfl⟩:=Int.eq_ofNat_of_zero_le hp.1;have hk:k < m:=by lia
 refine ⟨m,es,k,rfl,W.le,W.gd,hk,?_⟩;rfl';rw [NO W.cn hk];exact q k rfl hk
abbrev Th:=Nat ⊕ (Nat×Nat)
def dI:Th->PyData
 | .inl x=>iD x
 | .inr e=>fE e
def TV (m:Nat):Th->Prop
 | .inl x=>x < m
 | .inr e=>e.1 < m/\e.2 < m
def td (es:XM) (p:Nat):Th->Nat
 | .inl x=>aQ es p x
 | .inr e=>min (aQ es p e.1) (aQ es p e.2)
def sZ:lf (dI t)=true:=by cases t <;> rfl
def BK:bq:=fun ds Q x=>∃ m es p,∃ e:Nat×Nat,ds=[tD m es p,fE e]/\e.1 < m/\e.2 < m/\Q [] .sh (iD (td es p (.inr e)))
def MZ:∀ ds Q x,BK ds Q x->kW (aU [false,false] Q x) (ini [false,false] ds++List.replicate 0 none):=by
 rintro _ Q x ⟨m,es,p,e,rfl,h1,h2,q⟩;unfold kW;simp! [Sv h1,Sv h2];exact q
def vf:bq:=fun ds Q x=>∃ m es p t,ds=[tD m es p,dI t]/\TV m t/\Q [] .sh (iD (td es p t))
def Nz:∀ ds Q x,vf ds Q x->mO BK (aU [false,false] Q x) (ini [false,false] ds++List.replicate 0 none):=by
 rintro _ Q x ⟨m,es,p,t,rfl,h,q⟩;unfold mO;cases t with
 | inl k =>
  have h:k < m:=h;simp! [dI,Sv h];exact q
 | inr e =>
  simp! [dI];refine ⟨m,es,p,e,rfl,h.1,h.2,?_⟩;rfl';exact q
def aD (k:Str) (m:Nat)(es:XM):List Th:=(if k="ties" then [] else (List.range m).map Sum.inl)++(if k="places" then [] else es.map Sum.inr)
def ou {m:Nat}(g:Gr.Good m es):∀ t∈aD k m es,TV m t:=by
 intro t ht;rcases S6.mp ht with h | h
 ·split at h
  ·cases h
  ·obtain ⟨x,hx,rfl⟩:=S0.mp h;exact SN.mp hx
 ·split at h
  ·cases h
  ·obtain ⟨e,he,rfl⟩:=S0.mp h;have:=g.lt e he;exact ⟨by show e.1 < m;lia,this.2⟩
def Dr {m:Nat}(W:dF m es):(aD k m es).length<=1860:=by
 unfold aD;have:=W.few;have:=W.le;rw [SJ];split <;> split <;> simp <;> lia
def vq:bq:=fun ds Q x=>∃ m es k,ds=[wD m es,.str k]/\dF m es/\Q [] (.ow false) (.list ((aD k m es).map dI))
def Mv:∀ ds Q x,vq ds Q x->mD (aU [false,false] Q x) (ini [false,false] ds++List.replicate 4 none):=by
 rintro _ Q x ⟨m,es,k,rfl,W,q⟩;have e:(aD k m es).map dI=(if k="ties" then [] else (List.range m).map iD)++(if k="places" then [] else es.map fE):=by
  unfold aD;rw [Sg];congr 1
  ·split
   ·rfl
   ·rw [SX];rfl
  ·split
   ·rfl
   ·rw [SX];rfl
 have hm:=W.le;have hf:=W.few;unfold mD;rfl';rw [e] at q
 by_cases c1:k="ties"
 ·by_cases c2:k="places"
  ·subst c1;exact absurd c2 (by decide)
  ·simp only [if_pos c1,if_neg c2,dv,dw,dx,dy,dz,Nat.reduceBEq] at q ⊢;exact ⟨by lia,by lia,q⟩
 ·by_cases c2:k="places"
  ·simp only [if_neg c1,if_pos c2,dv,dw,dx,dy,dz,Nat.reduceBEq,Sy] at q ⊢;exact ⟨⟨by lia,by lia⟩,by lia,by lia,q⟩
  ·simp only [if_neg c1,if_neg c2,dv,dw,dx,dy,dz,Nat.reduceBEq] at q ⊢;exact ⟨⟨by lia,by lia⟩,by lia,q⟩
def rising (l:Xa):Prop:=l.Pairwise (· < ·)
def n9 {m:Nat}(h:rising l)(lt:∀ x∈l,x < m):l.length<=m:=Gr.fT m l (h.imp fun h=>S8 h) lt
structure bX (m:Nat)(ls:Xa):Prop where
 up:rising ls
 lt:∀ l∈ls,l < m
def bX.len {m:Nat}(h:bX m ls):ls.length<=m:=n9 h.up h.lt
def gK (m:Nat) (last:Int):Xb->Bool
 | []=>true
 | l::ls=>decide (last < l) && decide (l < m) && gK m l ls
def Cw:bq:=fun ds Q x=>∃ m es,∃ ls:Xb,ds=[wD m es,.list (ls.map .int)]/\Q [] .sh (.bool (gK m (-1) ls))
def Nl:∀ ds Q x,Cw ds Q x->mz (aU [false,false] Q x) (ini [false,false] ds++List.replicate 2 none):=by
 rintro _ Q x ⟨m,es,ls,rfl,q⟩;unfold mz;rfl';refine lW (fun i E=>∃ (last:Int)(o:Xf),E=[some (.sh,wD m es),some (.sh,.list (ls.map .int)),some (.sh,.int last),o]/\b9 o=true/\gK m (-1) ls=gK m last (ls.drop i)) ⟨-1,none,rfl,rfl,rfl⟩ ?_ ?_
 ·rintro i l _ hi ⟨last,o,rfl,ho,e⟩;have hd:ls.drop i=l::ls.drop (i + 1):=by
   rw [List.drop_eq_getElem_cons (av hi)];rw [S9 (av hi)] at hi;rw [Option.some.inj hi]
  rw [hd,gK] at e;simp! [ho];split
  ·rename_i h1;split
   ·rename_i h2;rw [e,Si h2,Bool.and_false,V4] at q;exact q
   ·rename_i h2;refine ⟨l,_,rfl,rfl,?_⟩;rw [e,Sa h1,Sa (Wv h2),Bool.true_and,Bool.true_and]
  ·rename_i h1;rw [e,Si h1,V4,V4] at q;exact q
 ·rintro _ ⟨last,o,rfl,ho,e⟩;rw [Wo,gK] at e;rw [e] at q;rfl';exact q
theorem vO {m:Nat}:∀ {ls:Xa}{last:Int},gK m last (ls.map fun n:Nat=>(n:Int))=true↔(ls.Pairwise (· < ·)/\(∀ l∈ls,l < m)/\∀ l∈ls,last < (l:Int))
 | [],last=>by simp [gK]
 | a::ls,last=>by
  rw [SO,gK,S4,S4,TQ,TQ,vO,VU];constructor
  ·rintro ⟨⟨h1,h2⟩,h3,h4,h5⟩;refine ⟨⟨fun b hb=>by have:=h5 b hb;lia,h3⟩,fun l hl=>?_,fun l hl=>?_⟩
   ·rcases S2.mp hl with rfl | hl
    ·lia
    ·exact h4 l hl
   ·rcases S2.mp hl with rfl | hl
    ·exact h1
    ·have:=h5 l hl;lia
  ·rintro ⟨⟨h1,h2⟩,h3,h4⟩;have:=h3 a RT;exact ⟨⟨h4 a RT,by lia⟩,h2,fun l hl=>h3 l (RY _ hl),fun l hl=>by have:=h1 l hl;lia⟩
def CU {m:Nat}(h:bX m ls):gK m (-1) (ls.map fun n:Nat=>(n:Int))=true:=vO.mpr ⟨h.up,h.lt,fun l _=>by lia⟩
def Ln:nD ls=.list ((ls.map fun n:Nat=>(n:Int)).map .int):=by
 show PyData.list _=_;rw [SX];rfl
def nW:bq:=fun ds Q x=>∃ m es,∃ ls:Xb,ds=[wD m es,.list (ls.map .int)]/\(gK m (-1) ls=true->Q [] .sh .none)/\(gK m (-1) ls=false->x "NoLooks" .none)
def Ou:∀ ds Q x,nW ds Q x->fh Cw (aU [false,false] Q x) (ini [false,false] ds++List.replicate 0 none):=by
 rintro _ Q x ⟨m,es,ls,rfl,q,r⟩;unfold fh;rfl';refine ⟨m,es,ls,rfl,?_⟩;rfl';split
 ·rename_i h;exact r h
 ·rename_i h;exact q (by simpa using h)
def xJ {m:Nat}(h:bX m ls)(q:Q [] .sh .none):nW [wD m es,nD ls] Q x:=⟨m,es,ls.map fun n:Nat=>(n:Int),by rw [Ln],fun _=>q,fun z=>by rw [CU h] at z;cases z⟩
def aB (es:XM)(ls:Xa)(t:Th):Xa:=ls.map fun p=>td es p t
def uH:bq:=fun ds Q x=>∃ m es ls,∃ ts:List Th,ds=[wD m es,nD ls,.list (ts.map dI)]/\dF m es/\(∀ p∈ls,p < m)/\ls.length<=1000/\(∀ t∈ts,TV m t)/\ts.length<=1860/\Q [] (.ow false) (.list (ts.map fun t=>nD (aB es ls t)))
def OG:∀ ds Q x,uH ds Q x->nQ uN vf (aU [false,false,false] Q x) (ini [false,false,false] ds++List.replicate 3 none):=by
 rintro _ Q x ⟨m,es,ls,ts,rfl,W,hl,fl,ht,ft,q⟩;unfold nQ;rfl';refine iM (fun p=>tD m es p) rfl (fun p hp I hI=>?_) ?_ (by lia)
 ·rfl';refine ⟨m,es,p,rfl,W,fun k e hk=>?_,fun z=>absurd ⟨by lia,by have:=hl p hp;lia⟩ z⟩
  have e:p=k:=by lia
  subst e;rfl';exact hI _ rfl
 ·rfl';refine AV (fun E=>∃ k:Kd,E=[some (.sh,wD m es),some (.sh,nD ls),some (.sh,.list (ts.map dI)),some (k,.list (ls.map fun p=>tD m es p)),none,none]/\k.fz=true) (fun t=>nD (aB es ls t)) rfl ⟨_,rfl,rfl⟩ ?_ ?_ (by lia)
  ·rintro t hti _ ⟨k,rfl,hk⟩ I hI;simp! [hk];refine iM (fun p=>iD (td es p t)) rfl (fun p hp I2 hI2=>?_) ?_ (by lia)
   ·rfl';refine ⟨m,es,p,t,rfl,ht t hti,?_⟩;rfl';exact hI2 _ rfl
   ·rfl';have e:nD (aB es ls t)=.list (ls.map fun p=>iD (td es p t)):=by
     unfold aB;show PyData.list _=_;rw [SX];rfl
    rw [e] at hI;exact hI _ _ rfl ⟨.sh,rfl,rfl⟩
  ·rintro _ ⟨k,rfl,hk⟩;rfl';exact q
inductive Any where
 | nu (i:Int) | pr (a b:Int)
def FE:Any->PyData
 | .nu i=>.int i
 | .pr a b=>.tuple [.int a,.int b]
def HY:Th->Any
 | .inl x=>.nu x
 | .inr e=>.pr e.1 e.2
def LR:FE (HY t)=dI t:=by cases t <;> rfl
def Jy (m:Nat)(es:XM):Any->Bool
 | .nu i=>decide (0<=i) && decide (i < m)
 | .pr a b=>decide (PyData.tuple [.int a,.int b]∈es.map fE)
def Mi {m:Nat}(h:t∈aD k m es):Jy m es (HY t)=true:=by
 rcases S6.mp h with h | h
 ·split at h
  ·cases h
  ·obtain ⟨x,hx,rfl⟩:=S0.mp h;have:=SN.mp hx;show (decide (0<=(x:Int)) && decide ((x:Int) < m))=true;rw [Sa (by lia),Sa (by lia)]
   rfl
 ·split at h
  ·cases h
  ·obtain ⟨e,he,rfl⟩:=S0.mp h;exact Sa (S0.mpr ⟨e,he,rfl⟩)
def OI {es:XM}:(es.all fun a=>dl 8 (fE a))=true:=by
 rw [SH];intro e _;rfl
def Dd:bq:=fun ds Q x=>∃ m es t,ds=[wD m es,FE t]/\Q [] .sh (.bool (Jy m es t))
def NQ:∀ ds Q x,Dd ds Q x->nF (aU [false,false] Q x) (ini [false,false] ds++List.replicate 0 none):=by
 rintro _ Q x ⟨m,es,t,rfl,q⟩;unfold nF;cases t with
 | nu i =>
  simp! [FE];have q:Q [] .sh (.bool (decide (0<=i) && decide (i < (m:Int)))):=q;split
  ·rename_i h;rw [Sa h,Bool.true_and] at q;exact q
  ·rename_i h;rw [Si h,V4] at q;exact q
 | pr a b =>
  simp! [FE,OI];exact ⟨rfl,q⟩
def sL:bq:=fun ds Q x=>∃ m es t,ds=[wD m es,FE t]/\(Jy m es t=true->Q [] .sh .none)/\(Jy m es t=false->x "NoThing" .none)
def LV:∀ ds Q x,sL ds Q x->gz Dd (aU [false,false] Q x) (ini [false,false] ds++List.replicate 0 none):=by
 rintro _ Q x ⟨m,es,t,rfl,q,r⟩;unfold gz;rfl';refine ⟨m,es,t,rfl,?_⟩;rfl';split
 ·rename_i h;exact r h
 ·rename_i h;exact q (by simpa using h)
def yF {m:Nat}(h:t∈aD k m es)(q:Q [] .sh .none):sL [wD m es,dI t] Q x:=⟨m,es,HY t,by rw [LR],fun _=>q,fun z=>by rw [Mi h] at z;cases z⟩
def CP:bq:=fun ds Q x=>∃ m es ls k t,ds=[wD m es,nD ls,dI t]/\dF m es/\bX m ls/\t∈aD k m es/\Q [] .sh (nD (aB es ls t))
def M5:∀ ds Q x,CP ds Q x->oY nW sL uH (aU [false,false,false] Q x) (ini [false,false,false] ds++List.replicate 0 none):=by
 rintro _ Q x ⟨m,es,ls,k,t,rfl,W,L,ht,q⟩;unfold oY;rfl';refine xJ L ?_;rfl';refine yF ht ?_;rfl';refine ⟨by lia,m,es,ls,[t],rfl,W,L.lt,by have:=L.len;have:=W.le;lia,fun u hu=>?_,by show 1<=1860;lia,?_⟩
 ·rw [RZ.mp hu];exact ou W.gd t ht
 ·simp! [SO,V8];exact q
def D8:Xa->Xa->Nat
 | a::as,b::bs=>(if a=b then 0 else 1) + D8 as bs
 | _,_=>0
def pI (cs:List (Xa)):Xa:=cs.zipIdx.flatMap fun p=>(cs.drop (p.2 + 1)).map fun o=>D8 p.1 o
def kq {n:Nat}:n∈pI cs↔∃ (i j:Nat)(a b:Xa),i < j/\cs[i]?=some a/\cs[j]?=some b/\n=D8 a b:=by
 unfold pI;rw [So];constructor
 ·rintro ⟨⟨a,i⟩,h1,h2⟩;obtain ⟨b,h3,rfl⟩:=S0.mp h2;rw [List.mem_zipIdx_iff_getElem?] at h1;obtain ⟨j,hj⟩:=Td.mp h3;rw [Wg] at hj;exact ⟨i,i + 1 + j,a,b,by lia,h1,hj,rfl⟩
 ·rintro ⟨i,j,a,b,l,h1,h2,rfl⟩;refine ⟨(a,i),List.mem_zipIdx_iff_getElem?.mpr h1,S0.mpr ⟨b,?_,rfl⟩⟩;refine Td.mpr ⟨j - (i + 1),?_⟩;rw [Wg];show cs[i + 1 + (j - (i + 1))]?=_;rw [show i + 1 + (j - (i + 1))=j from by lia]
  exact h2
def j7 (cs:List (Xa))(d:PyData):Prop:=(pI cs=[]/\d=.none)\/∃ s:Nat,d=iD s/\s∈pI cs/\∀ n∈pI cs,s<=n
theorem fj {α:Type}{f:α->PyData}{p:α->Bool}:∀ {l:List α},(l.filterMap fun t=>if p t=true then some (f t) else none)=(l.filter p).map f
 | []=>rfl
 | a::l=>by
  rw [TF,U6];cases h:p a with
  | true=>simp only [if_true];rw [fj];rfl
  | false=>simp only [if_neg (SQ)];exact fj
end PB
namespace Gr
abbrev ds (es:XM) (p x:Nat):Nat:=dst (aF es) p x
section
variable {m:Nat}{es:XM}
def cU.is (cn:cU m es){p x:Nat}(hp:p < m)(hx:x < m):m5 (aF es) p x (ds es p x):=let ⟨_,h⟩:=cn p hp x hx;MG h
def bY {p:Nat}:ds es p p=0:=tG ⟨.zero,fun e he=>absurd he (Tt e)⟩
def cU.le (cn:cU m es){p x d:Nat}(hp:p < m)(hx:x < m)(h:R (aF es) p d x):ds es p x<=d:=by
 rcases Sq d (ds es p x) with l | l
 ·exact absurd h ((cn.is hp hx).2 d l)
 ·exact l
def cU.eV (cn:cU m es){p x y:Nat}(hp:p < m)(hx:x < m)(hy:y < m):ds es p y<=ds es p x + ds es x y:=cn.le hp hy ((cn.is hp hx).1.trans (cn.is hx hy).1)
def cU.sy (cn:cU m es){p x:Nat}(hp:p < m)(hx:x < m):ds es p x=ds es x p:=by
 have h1:=cn.le hx hp ((cn.is hp hx).1.symm cH);have h2:=cn.le hp hx ((cn.is hx hp).1.symm cH);lia
def cU.zero (cn:cU m es){p x:Nat}(hp:p < m)(hx:x < m)(h:ds es p x=0):x=p:=by
 have:=(cn.is hp hx).1;rw [h] at this;cases this;rfl
def cU.yu (cn:cU m es){p x y:Nat}(hp:p < m)(hx:x < m)(hy:y < m)(h:aF es x y):ds es p y<=ds es p x + 1:=cn.le hp hy ((cn.is hp hx).1.step h)
theorem cU.pred (cn:cU m es)(gd:Good m es){p x:Nat}(hp:p < m)(hx:x < m)(h:x≠p):∃ y,y < m/\aF es x y/\ds es p y + 1=ds es p x:=by
 have hI:=cn.is hp hx;cases e:ds es p x with
 | zero=>exact absurd (cn.zero hp hx e) h
 | succ d =>
  rw [e] at hI;obtain ⟨y,hy,a⟩:=hI.pred;exact ⟨y,(gd.cI a).1,cH _ _ a,by rw [show ds es p y=d from tG hy]⟩
structure Tree (m:Nat)(es:XM):Prop where
 gd:Good m es
 cn:cU m es
 len:es.length + 1=m
def iX (x y:Nat):Nat×Nat:=(min x y,max x y)
def mX (gd:Good m es){x y:Nat}(h:aF es x y):iX x y∈es:=by
 rcases h with h | h
 ·have:=gd.lt _ h;have:x < y/\y < m:=this;have e:iX x y=(x,y):=by unfold iX;rw [Ue (by lia),Wr (by lia)]
  rw [e];exact h
 ·have:=gd.lt _ h;have:y < x/\x < m:=this;have e:iX x y=(y,x):=by unfold iX;rw [Ug (by lia),Nat.max_eq_left (by lia)]
  rw [e];exact h
def sub_len' {α:Type} [DecidableEq α]{l:List α}(nd:l.Nodup):∀ {k:List α},(∀ x∈l,x∈k)->l.length<=k.length:=by
 induction l with
 | nil=>intro k _;exact Sd _
 | cons a l ih =>
  intro k h;have ha:=h a RT;have nd':=Sj.mp nd;have:=ih nd'.2 (k:=k.erase a) fun x hx=>(Wm fun e=>nd'.1 (by rw [<- e];exact hx)).mpr (h x (RY _ hx))
  rw [Wn ha] at this;have:=VT ha;rw [Sb];lia
def Nu {α:Type} [DecidableEq α]{l k:List α}(nd:l.Nodup)(h:∀ x∈l,x∈k)(hl:k.length<=l.length):∀ x∈k,x∈l:=by
 intro x hx
 by_cases c:x∈l
 ·exact c
 ·exfalso;have:=sub_len' nd (k:=k.erase x) fun y hy=>(Wm fun e=>c (by rw [<- e];exact hy)).mpr (h y hy)
  rw [Wn hx] at this;have:=VT hx;lia
open Classical in
def Tree.dN (T:Tree m es){p:Nat}(hp:p < m):∃ par:Nat->Nat,(∀ x,x < m->x≠p->par x < m/\aF es x (par x)/\ds es p (par x) + 1=ds es p x)/\∀ x y,aF es x y->(x≠p/\y=par x)\/(y≠p/\x=par y):=by
 have ch:∀ x,∃ y,x < m->x≠p->y < m/\aF es x y/\ds es p y + 1=ds es p x:=fun x=>by
  by_cases c:x < m/\x≠p
  ·obtain ⟨y,h1,h2,h3⟩:=T.cn.pred T.gd hp c.1 c.2;exact ⟨y,fun _ _=>⟨h1,h2,h3⟩⟩
  ·exact ⟨0,fun h1 h2=>absurd ⟨h1,h2⟩ c⟩
 have ⟨par,hpar⟩:∃ par:Nat->Nat,∀ x,x < m->x≠p->par x < m/\aF es x (par x)/\ds es p (par x) + 1=ds es p x:=⟨fun x=>Classical.choose (ch x),fun x h1 h2=>Classical.choose_spec (ch x) h1 h2⟩
 refine ⟨par,hpar,fun x y h=>?_⟩
 have two:∀ {a b c d:Nat},iX a b=iX c d->(a=c/\b=d)\/(a=d/\b=c):=fun {a b c d} e=>by
  have e1:min a b=min c d:=congrArg Prod.fst e;have e2:max a b=max c d:=congrArg Prod.snd e;lia
 have mem:∀ z,z∈(List.range m).filter (fun x=>decide (x≠p))↔z < m/\z≠p:=fun z=>by rw [TR,SN,TQ]
 have nd0:((List.range m).filter fun x=>decide (x≠p)).Nodup:=W6 VV Tz
 have len:es.length<=(((List.range m).filter fun x=>decide (x≠p)).map fun x=>iX x (par x)).length:=by
  rw [RX];have:=sub_len' (l:=List.range m) Tz (k:=p::(List.range m).filter fun x=>decide (x≠p)) fun x hx=>by
   by_cases c:x=p
   ·rw [c];exact RT
   ·exact RY _ ((mem x).mpr ⟨SN.mp hx,c⟩)
  rw [SA,Sb] at this;have:=T.len;lia
 have nd:(((List.range m).filter fun x=>decide (x≠p)).map fun x=>iX x (par x)).Nodup:=by
  refine W5 _ (R:=fun a b=>a≠b/\(a < m/\a≠p)/\(b < m/\b≠p)) (fun a b hab e=>?_) (W4 (R:=fun a b=>a≠b) (fun {a b} ha hb h=>⟨h,(mem a).mp ha,(mem b).mp hb⟩) nd0)
  obtain ⟨ne,ha,hb⟩:=hab;obtain ⟨_,_,h1⟩:=hpar a ha.1 ha.2;obtain ⟨_,_,h2⟩:=hpar b hb.1 hb.2;rcases two e with ⟨z,_⟩ | ⟨z1,z2⟩
  ·exact ne z
  ·rw [z2] at h1;rw [<- z1] at h2;lia
 have inn:=Nu nd (fun e he=>by
  obtain ⟨z,hz,rfl⟩:=S0.mp he;obtain ⟨h1,h2⟩:=(mem z).mp hz;exact mX T.gd (hpar z h1 h2).2.1) len
 obtain ⟨z,hz,e⟩:=S0.mp (inn _ (mX T.gd h));have hz:=(mem z).mp hz;rcases two e with ⟨e1,e2⟩ | ⟨e1,e2⟩
 ·subst e1;exact .inl ⟨hz.2,e2.symm⟩
 ·subst e1;exact .inr ⟨hz.2,e2.symm⟩
def Tree.near (T:Tree m es){p x y:Nat}(hp:p < m)(h:aF es x y):ds es p x=ds es p y + 1\/ds es p y=ds es p x + 1:=by
 obtain ⟨par,h1,h2⟩:=T.dN hp;obtain ⟨hx,hy⟩:=T.gd.cI h;rcases h2 x y h with ⟨n,rfl⟩ | ⟨n,rfl⟩
 ·exact .inl (h1 x hx n).2.2.symm
 ·exact .inr (h1 y hy n).2.2.symm
def Tree.one (T:Tree m es){p x y z:Nat}(hp:p < m)(h:aF es x y)(g:aF es x z)(hy:ds es p x=ds es p y + 1)(hz:ds es p x=ds es p z + 1):y=z:=by
 obtain ⟨par,h1,h2⟩:=T.dN hp;obtain ⟨hx,hy'⟩:=T.gd.cI h;have hz':=(T.gd.cI g).2;have key:∀ w,aF es x w->w < m->ds es p x=ds es p w + 1->w=par x:=fun w a hw e=>by
  rcases h2 x w a with ⟨_,r⟩ | ⟨n,r⟩
  ·exact r
  ·have:=(h1 w hw n).2.2;rw [<- r] at this;lia
 rw [key y h hy' hy,key z g hz' hz]
def bG (es:XM) (p n x:Nat):Prop:=ds es n x + 1=ds es p x
def Tree.vS (T:Tree m es){p n x:Nat}(hx:x < m)(h:aF es p n):bG es p n x\/ds es n x=ds es p x + 1:=by
 obtain ⟨hp,hn⟩:=T.gd.cI h;have:=T.near hx h;unfold bG;rw [T.cn.sy hn hx,T.cn.sy hp hx];lia
def Tree.kH (T:Tree m es){p n k x:Nat}(hx:x < m)(h:aF es p n)(g:aF es p k)(hn:bG es p n x)(hk:bG es p k x):n=k:=by
 obtain ⟨hp,hn'⟩:=T.gd.cI h;have hk':=(T.gd.cI g).2;unfold bG at hn hk;rw [T.cn.sy hn' hx,T.cn.sy hp hx] at hn;rw [T.cn.sy hk' hx,T.cn.sy hp hx] at hk;exact T.one hx h g (by lia) (by lia)
def Tree.lq (T:Tree m es){p n x y:Nat}(hp:p < m)(hn:n < m)(h:aF es p n)(hb:bG es p n x)(a:aF es x y)(ne:y≠p):bG es p n y:=by
 obtain ⟨hx,hy⟩:=T.gd.cI a;unfold bG at hb ⊢;rcases T.vS hy h with z | z
 ·exact z
 ·exfalso;have h1:=T.near hp a;have h2:=T.near hn a;have e1:ds es p y + 1=ds es p x:=by lia
  have e2:ds es n y=ds es n x + 1:=by lia
  by_cases c:x=n
  ·subst c;rw [bY] at hb;exact ne (T.cn.zero hp hy (by lia))
  ·obtain ⟨z,hz,b,e3⟩:=T.cn.pred T.gd hn hx c;have h5:=T.cn.eV hp hn hz;have h6:ds es p n=1:=by
    have:=T.near hp h;rw [bY] at this;lia
   have h7:=T.near hp b;have:=T.one hp a b (by lia) (by lia)
   subst this;lia
def Tree.dn (T:Tree m es){p n:Nat}(hp:p < m)(h:aF es p n):ds es p n=1:=by
 have:=T.near hp h;rw [bY] at this;lia
def Tree.Ho (T:Tree m es){p n x:Nat}(hp:p < m)(hx:x < m)(h:aF es p n)(hb:bG es p n x)(ne:x≠n):∃ y,y < m/\aF es y x/\bG es p n y/\ds es p x=ds es p y + 1/\ds es n y + 1=ds es n x:=by
 obtain ⟨_,hn⟩:=T.gd.cI h;obtain ⟨y,hy,a,e⟩:=T.cn.pred T.gd hn hx ne;have h1:=T.cn.eV hp hn hy;have h2:=T.dn hp h;have h3:=T.near hp a;unfold bG at hb ⊢;exact ⟨y,hy,cH _ _ a,by lia,by lia,e⟩
def oz (T:Tree m es){p n:Nat}(hp:p < m)(h:aF es p n):bG es p n n:=by
 unfold bG;rw [bY,T.dn hp h]
def Tree.par (T:Tree m es){x u d v:Nat}(hx:x < m)(h:R (aF es) u d v):(ds es x v) % 2=(ds es x u + d) % 2:=by
 induction h with
 | zero=>rfl
 | step _ a ih =>
  have:=T.near hx a;lia
def Tree.walk (T:Tree m es){l w b:Nat}(hl:l < m)(a:aF es w b)(nl:¬ bG es w b l){d v:Nat}(h:R (aF es) l d v)(hv:bG es w b v):ds es l w + 1 + ds es b v<=d:=by
 obtain ⟨hw,hb⟩:=T.gd.cI a
 induction h with
 | zero=>exact absurd hv nl
 | @step d y v r c ih =>
  obtain ⟨hy,hv'⟩:=T.gd.cI c
  by_cases q:bG es w b y
  ·have:=ih q;have:=T.cn.yu hb hy hv' c;lia
  ·have e:y=w:=by
    by_cases z:y=w
    ·exact z
    ·exact absurd (T.lq hw hb a hv (cH _ _ c) z) q
   subst e;have e2:=T.kH hv' a c hv (oz T hw c);subst e2;have:=T.cn.le hl hw r;rw [bY];lia
def Tree.qy (T:Tree m es){l w b v:Nat}(hl:l < m)(hv':v < m)(a:aF es w b)(nl:¬ bG es w b l)(hv:bG es w b v):ds es l v=ds es l w + 1 + ds es b v:=by
 obtain ⟨hw,hb⟩:=T.gd.cI a;have h1:=T.walk hl a nl (T.cn.is hl hv').1 hv;have h2:=T.cn.eV hl hw hv';have h3:=T.cn.eV hw hb hv';have h4:=T.dn hw a;lia
def cb (es:XM)(ls:Xa) (p n:Nat):Nat:=(ls.filter fun l=>decide (ds es n l + 1=ds es p l)).length
def yS {ls:Xa}{p q r:Nat->Bool}(h1:∀ l∈ls,p l=true->r l=true)(h2:∀ l∈ls,q l=true->r l=true)(dj:∀ l∈ls,p l=true->q l=true->False):(ls.filter p).length + (ls.filter q).length<=(ls.filter r).length:=by
 induction ls with
 | nil=>exact RW _
 | cons a ls ih =>
  have ih:=ih (fun l hl=>h1 l (RY _ hl)) (fun l hl=>h2 l (RY _ hl)) fun l hl=>dj l (RY _ hl)
  have k1:=h1 a RT;have k2:=h2 a RT;have k3:=dj a RT;rw [U6,U6,U6];cases e1:p a <;> cases e2:q a <;> cases e3:r a <;> simp_all <;> lia
def one_le {ls:Xa}{p r:Nat->Bool}(h1:∀ l∈ls,p l=true->r l=true):(ls.filter p).length<=(ls.filter r).length:=by
 have:=yS (q:=fun _=>false) h1 (fun l _ z=>by cases z) fun l _ _ z=>by cases z
 lia
end
end Gr
namespace PB
open Dv Gr
section
variable {m:Nat}{es:XM}
def pt (es:XM)(ls:Xa)(t u:Th):Nat:=(ls.filter fun l=>decide (td es l t≠td es l u)).length
def Py:pt es ls t u<=ls.length:=W7 ..
def uV:pt es ls t u=pt es ls u t:=by
 unfold pt;congr 1;refine List.filter_congr fun l _=>?_
 by_cases c:td es l t=td es l u
 ·rw [Si (by simpa using c),Si (by simpa using c.symm)]
 ·rw [Sa c,Sa (Ne.symm c)]
def qb:D8 (aB es ls t) (aB es ls u)=pt es ls t u:=by
 unfold pt aB
 induction ls with
 | nil=>rfl
 | cons l ls ih =>
  rw [SO,SO,D8,ih,U6]
  by_cases c:td es l t=td es l u
  ·rw [if_pos c,if_neg (by simpa using c),Vj]
  ·rw [if_neg c,if_pos (by simpa using c),Sb,Vf]
def Ek (h:∀ l∈ls,td es l t≠td es l u):pt es ls t u=ls.length:=by
 unfold pt;rw [List.filter_eq_self.mpr fun l hl=>Sa (h l hl)]
theorem mid (T:Tree m es){u v:Nat}(hu:u < m)(hv:v < m):∀ {i j:Nat},ds es u v=i + j->∃ w,w < m/\ds es u w=i/\ds es w v=j
 | i,0,h=>⟨v,hv,by lia,bY⟩
 | i,j + 1,h=>by
  obtain ⟨w,hw,h1,h2⟩:=mid T hu hv (i:=i + 1) (j:=j) (by lia)
  obtain ⟨y,hy,a,e⟩:=T.cn.pred T.gd hu hw fun z=>by rw [z,bY] at h1;lia
  have h3:=T.cn.eV hy hw hv;have h4:=T.dn hy (cH _ _ a);have h5:=T.cn.eV hu hy hv;exact ⟨y,hy,by lia,by lia⟩
def wC (T:Tree m es){w a l u v:Nat}(hu:u < m)(hv:v < m)(hl:l < m)(h:aF es w a)(hb:bG es w a l)(nv:¬ bG es w a v)(hle:ds es a u<=ds es w v):ds es l u < ds es l v:=by
 obtain ⟨hw,ha⟩:=T.gd.cI h;have h1:=T.qy hv hl h nv hb;have h2:=T.cn.eV hl ha hu;rw [T.cn.sy hl ha] at h2;rw [T.cn.sy hl hv];rw [T.cn.sy hv hw] at h1;lia
def bd {w a l:Nat}(h:decide (ds es a l + 1=ds es w l)=true):bG es w a l:=SV (p:=ds es a l + 1=ds es w l) h
def Gs (T:Tree m es)(hl:∀ l∈ls,l < m){w a b:Nat}(h:aF es w a)(g:aF es w b)(ne:a≠b)(ha:∀ l∈ls,bG es w a l->td es l t≠td es l u)(hb:∀ l∈ls,bG es w b l->td es l t≠td es l u):cb es ls w a + cb es ls w b<=pt es ls t u :=
 yS (fun l h1 h2=>Sa (ha l h1 (bd h2))) (fun l h1 h2=>Sa (hb l h1 (bd h2))) fun l h1 h2 h3=>ne (T.kH (hl l h1) h g (bd h2) (bd h3))
def L6 (T:Tree m es)(hl:∀ l∈ls,l < m){w a b:Nat}(h:aF es w a)(g:aF es w b)(ne:a≠b):cb es ls w a + cb es ls w b<=ls.length:=by
 have:=yS (ls:=ls) (p:=fun l=>decide (ds es a l + 1=ds es w l)) (q:=fun l=>decide (ds es b l + 1=ds es w l)) (r:=fun _=>true) (fun _ _ _=>rfl) (fun _ _ _=>rfl) fun l h1 h2 h3=>ne (T.kH (hl l h1) h g (bd h2) (bd h3))
 exact SW this (W7 ..)
def N1 {w a:Nat}(ha:∀ l∈ls,bG es w a l->td es l t≠td es l u):cb es ls w a<=pt es ls t u:=one_le fun l h1 h2=>Sa (ha l h1 (bd h2))
def tO (T:Tree m es)(hl:∀ l∈ls,l < m){u v:Nat}(hu:u < m)(hv:v < m)(ne:u≠v):pt es ls (.inl u) (.inl v)=ls.length\/∃ w a b,aF es w a/\aF es w b/\a≠b/\cb es ls w a + cb es ls w b<=pt es ls (.inl u) (.inl v):=by
 rcases Nat.mod_two_eq_zero_or_one (ds es u v) with e | e
 ·right
  obtain ⟨k,hk⟩:∃ k,ds es u v=k + k:=⟨ds es u v / 2,by lia⟩
  have k0:k≠0:=fun z=>ne (T.cn.zero hu hv (by lia)).symm
  obtain ⟨w,hw,h1,h2⟩:=mid T hu hv hk;have nwu:w≠u:=fun z=>by rw [z,bY] at h1;lia
  have nwv:w≠v:=fun z=>by rw [z,bY] at h2;lia
  obtain ⟨a,ha,aa,ea⟩:=T.cn.pred T.gd hu hw nwu;obtain ⟨b,hb,ab,eb⟩:=T.cn.pred T.gd hv hw nwv;rw [T.cn.sy hv hw] at eb;rw [T.cn.sy hv hb] at eb;rw [T.cn.sy hu ha] at ea;rw [T.cn.sy hu hw] at ea;have nab:a≠b:=fun z=>by
   subst z;have:=T.cn.eV hu ha hv;rw [T.cn.sy hu ha] at this;rw [T.cn.sy hu hw] at h1;lia
  have bu:bG es w a u:=ea;have bv:bG es w b v:=eb;rw [T.cn.sy hu hw] at h1;refine ⟨w,a,b,aa,ab,nab,Gs T hl aa ab nab (fun l hl' hb'=>?_) fun l hl' hb'=>?_⟩
  ·have:=wC T hu hv (hl l hl') aa hb' (fun z=>nab (T.kH hv aa ab z bv)) (by lia)
   show ds es l u≠ds es l v;lia
  ·have:=wC T hv hu (hl l hl') ab hb' (fun z=>nab (T.kH hu aa ab bu z)) (by lia)
   show ds es l u≠ds es l v;lia
 ·left
  refine Ek fun l hl'=>?_
  have:=T.par (hl l hl') (T.cn.is hu hv).1;show ds es l u≠ds es l v;intro z;rw [z] at this;lia
structure wm (es:XM) (x y z t:Nat):Prop where
 xy:aF es x y
 zt:aF es z t
 fy:ds es z y=ds es z x + 1
 ft:ds es x t=ds es x z + 1
 ne:x=z->y≠t
def wm.swap (T:Tree m es){x y z t:Nat}(F:wm es x y z t):wm es z t x y:=⟨F.zt,F.xy,F.ft,F.fy,fun e z=>F.ne e.symm z.symm⟩
def tl (es:XM) (l x y:Nat):Nat:=min (ds es l x) (ds es l y)
def uD {l x y:Nat}:tl es l x y=tl es l y x:=Nat.min_comm ..
def nH (T:Tree m es){x y z t w a l j:Nat}(F:wm es x y z t)(hl:l < m)(hw:w < m)(h:aF es w a)(e0:ds es x z=j + j)(e1:ds es w z=j)(e2:ds es x w=j)(hb:bG es w a l)(hz:¬ bG es w a z)(ht:¬ bG es w a t)(ha:(j=0/\a=y)\/ds es a x + 1=j):tl es l x y < tl es l z t:=by
 obtain ⟨hx,hy⟩:=T.gd.cI F.xy;obtain ⟨hz',ht'⟩:=T.gd.cI F.zt;have ham:=(T.gd.cI h).2;have c1:=T.qy hz' hl h hz hb;have c2:=T.qy ht' hl h ht hb;have t1:=T.cn.eV hx hw ht';have ft:=F.ft;rw [T.cn.sy hz' hw,T.cn.sy hz' hl] at c1;rw [T.cn.sy ht' hw,T.cn.sy ht' hl] at c2;unfold tl;have hle:min (ds es l x) (ds es l y)<=ds es a l + (j - 1):=by
  rcases ha with ⟨j0,rfl⟩ | e
  ·rw [T.cn.sy hl ham];lia
  ·have:=T.cn.eV hl ham hx;rw [T.cn.sy hl ham] at this;lia
 lia
def Lm (T:Tree m es){x y z t:Nat}(F:wm es x y z t){j:Nat}(e:ds es x z=j + j):∃ w a b,w < m/\aF es w a/\aF es w b/\a≠b/\∀ l,l < m->(bG es w a l->tl es l x y < tl es l z t)/\(bG es w b l->tl es l z t < tl es l x y):=by
 obtain ⟨hx,hy⟩:=T.gd.cI F.xy;obtain ⟨hz,ht⟩:=T.gd.cI F.zt
 by_cases j0:j=0
 ·subst j0;have exz:=T.cn.zero hx hz e;subst exz;have nyt:=F.ne rfl;have ns:∀ c,c < m->¬ bG es z c z:=fun c _ q=>by unfold bG at q;rw [bY] at q;lia
  refine ⟨z,y,t,hz,F.xy,F.zt,nyt,fun l hl=>⟨fun hb=>?_,fun hb=>?_⟩⟩
  ·exact nH (j:=0) T F hl hz F.xy e bY bY hb (ns y hy) (fun q=>nyt (T.kH ht F.xy F.zt q (oz T hz F.zt))) (.inl ⟨rfl,rfl⟩)
  ·exact nH (j:=0) T (F.swap T) hl hz F.zt e bY bY hb (ns t ht) (fun q=>nyt (T.kH hy F.xy F.zt (oz T hz F.xy) q)) (.inl ⟨rfl,rfl⟩)
 ·obtain ⟨w,hw,h1,h2⟩:=mid T hx hz e;have nwx:w≠x:=fun q=>by rw [q,bY] at h1;lia
  have nwz:w≠z:=fun q=>by rw [q,bY] at h2;lia
  obtain ⟨a,ha,aa,ea⟩:=T.cn.pred T.gd hx hw nwx;obtain ⟨b,hb,ab,eb⟩:=T.cn.pred T.gd hz hw nwz;rw [T.cn.sy hz hb,T.cn.sy hz hw] at eb;rw [T.cn.sy hx ha] at ea;have ea':bG es w a x:=by unfold bG;rw [ea,T.cn.sy hx hw]
  have nab:a≠b:=fun q=>by
   subst q;have:=T.cn.eV hx ha hz;rw [T.cn.sy hx ha] at this;lia
  have ft:=F.ft;have fy:=F.fy;have nt:t≠w:=fun q=>by rw [q] at ft;lia
  have ny:y≠w:=fun q=>by rw [q,T.cn.sy hz hw,T.cn.sy hz hx] at fy;lia
  have bz:bG es w b z:=eb;have bt:bG es w b t:=T.lq hw hb ab bz F.zt nt;have by':bG es w a y:=T.lq hw ha aa ea' F.xy ny;refine ⟨w,a,b,hw,aa,ab,nab,fun l hl=>⟨fun q=>?_,fun q=>?_⟩⟩
  ·exact nH T F hl hw aa e h2 h1 q (fun r=>nab (T.kH hz aa ab r bz)) (fun r=>nab (T.kH ht aa ab r bt)) (.inr (by lia))
  ·exact nH T (F.swap T) hl hw ab (by rw [T.cn.sy hz hx];exact e) (by rw [T.cn.sy hw hx];exact h1) (by rw [T.cn.sy hz hw];exact h2) q (fun r=>nab (T.kH hx aa ab ea' r)) (fun r=>nab (T.kH hy aa ab by' r)) (.inr (by lia))
def J2 (T:Tree m es){x y z t:Nat}(F:wm es x y z t)(e:ds es x z % 2=1){l:Nat}(hl:l < m):tl es l x y≠tl es l z t:=by
 obtain ⟨hx,hy⟩:=T.gd.cI F.xy;obtain ⟨hz,ht⟩:=T.gd.cI F.zt;have side:∀ {x y z t:Nat},wm es x y z t->ds es x z % 2=1->ds es l x=ds es l y + 1->tl es l x y≠tl es l z t:=fun {x y z t} F e q=>by
  obtain ⟨hx,hy⟩:=T.gd.cI F.xy;obtain ⟨hz,ht⟩:=T.gd.cI F.zt;have hb:bG es x y l:=by unfold bG;rw [T.cn.sy hy hl,T.cn.sy hx hl];lia
  have fy:=F.fy;have nz:¬ bG es x y z:=fun r=>by unfold bG at r;rw [T.cn.sy hy hz,T.cn.sy hx hz] at r;lia
  have xz:z≠x:=fun r=>by rw [r,bY] at e;lia
  have nt:¬ bG es x y t:=fun r=>nz (T.lq hx hy F.xy r (cH _ _ F.zt) xz)
  have c1:=T.qy hz hl F.xy nz hb;have c2:=T.qy ht hl F.xy nt hb;rw [T.cn.sy hz hl,T.cn.sy hy hl] at c1;rw [T.cn.sy ht hl,T.cn.sy hy hl] at c2;unfold tl;lia
 rcases T.near hl F.xy with q | q
 ·exact side F e q
 ·rcases T.near hl F.zt with r | r
  ·exact Ne.symm (side (F.swap T) (by rw [T.cn.sy hz hx];exact e) r)
  ·have:=T.par hl (T.cn.is hx hz).1;unfold tl;lia
def Hw (T:Tree m es)(he:e∈es)(hf:f∈es)(ne:e≠f):∃ x y z t,wm es x y z t/\(∀ l,td es l (.inr e)=tl es l x y)/\∀ l,td es l (.inr f)=tl es l z t:=by
 have ae:aF es e.1 e.2:=.inl he;have af:aF es f.1 f.2:=.inl hf;obtain ⟨h1,h2⟩:=T.gd.cI ae;obtain ⟨h3,h4⟩:=T.gd.cI af
 -- the end of e that is nearer to f's first
 have ⟨x,y,axy,fy,te,se⟩:∃ x y,aF es x y/\ds es f.1 y=ds es f.1 x + 1/\(∀ l,td es l (.inr e)=tl es l x y)/\((x=e.1/\y=e.2)\/(x=e.2/\y=e.1)):=by
  rcases T.near h3 ae with q | q
  ·exact ⟨e.2,e.1,cH _ _ ae,q,fun l=>uD,.inr ⟨rfl,rfl⟩⟩
  ·exact ⟨e.1,e.2,ae,q,fun l=>rfl,.inl ⟨rfl,rfl⟩⟩
 obtain ⟨hx,hy⟩:=T.gd.cI axy;rcases T.near hx af with q | q
 ·refine ⟨x,y,f.2,f.1,⟨axy,cH _ _ af,?_,q,fun z1 z2=>?_⟩,te,fun l=>uD⟩
  ·have g1:=T.near h4 axy;have g2:=T.cn.eV h3 h4 hy;have g3:=T.dn h3 af;rw [T.cn.sy hx h3,T.cn.sy hx h4] at q;lia
  ·have el:=(T.gd.lt e he).1;have fl:=(T.gd.lt f hf).1;rcases se with ⟨r1,r2⟩ | ⟨r1,r2⟩
   ·lia
   ·exact ne (Prod.ext (by lia) (by lia))
 ·refine ⟨x,y,f.1,f.2,⟨axy,af,fy,q,fun z1 z2=>?_⟩,te,fun l=>rfl⟩
  have el:=(T.gd.lt e he).1;have fl:=(T.gd.lt f hf).1;rcases se with ⟨r1,r2⟩ | ⟨r1,r2⟩
  ·exact ne (Prod.ext (by lia) (by lia))
  ·lia
def yc (T:Tree m es)(hl:∀ l∈ls,l < m)(he:e∈es)(hf:f∈es)(ne:e≠f):pt es ls (.inr e) (.inr f)=ls.length\/∃ w a b,aF es w a/\aF es w b/\a≠b/\cb es ls w a + cb es ls w b<=pt es ls (.inr e) (.inr f):=by
 obtain ⟨x,y,z,t,F,te,tf⟩:=Hw T he hf ne;rcases Nat.mod_two_eq_zero_or_one (ds es x z) with q | q
 ·right
  obtain ⟨w,a,b,hw,aa,ab,nab,h⟩:=Lm T F (j:=ds es x z / 2) (by lia)
  refine ⟨w,a,b,aa,ab,nab,Gs T hl aa ab nab (fun l hl' hb=>?_) fun l hl' hb=>?_⟩
  ·rw [te,tf];have:=(h l (hl l hl')).1 hb;lia
  ·rw [te,tf];have:=(h l (hl l hl')).2 hb;lia
 ·left
  exact Ek fun l hl'=>by rw [te,tf];exact J2 T F q (hl l hl')
def vN (T:Tree m es)(hl:∀ l∈ls,l < m){u:Nat}(hu:u < m)(he:e∈es):∃ w a,aF es w a/\cb es ls w a<=pt es ls (.inl u) (.inr e):=by
 have ae:aF es e.1 e.2:=.inl he;have ⟨x,y,axy,fy,te⟩:∃ x y,aF es x y/\ds es u y=ds es u x + 1/\∀ l,td es l (.inr e)=tl es l x y:=by
  rcases T.near hu ae with q | q
  ·exact ⟨e.2,e.1,cH _ _ ae,q,fun l=>uD⟩
  ·exact ⟨e.1,e.2,ae,q,fun l=>rfl⟩
 obtain ⟨hx,hy⟩:=T.gd.cI axy;refine ⟨x,y,axy,N1 fun l hl' hb=>?_⟩
 have hlm:=hl l hl';have nu:¬ bG es x y u:=fun r=>by unfold bG at r;rw [T.cn.sy hy hu,T.cn.sy hx hu] at r;lia
 have c1:=T.qy hu hlm axy nu hb;rw [te];show ds es l u≠tl es l x y;unfold bG at hb;rw [T.cn.sy hu hlm,T.cn.sy hy hlm] at c1;rw [T.cn.sy hy hlm,T.cn.sy hx hlm] at hb;unfold tl;lia
def Jt {ls:Xa}{p q r:Nat->Bool}(h:∀ l∈ls,r l=true->p l=true\/q l=true):(ls.filter r).length<=(ls.filter p).length + (ls.filter q).length:=by
 induction ls with
 | nil=>exact RW _
 | cons a ls ih =>
  have ih:=ih fun l hl=>h l (RY _ hl)
  have k:=h a RT;rw [U6,U6,U6];cases e1:p a <;> cases e2:q a <;> cases e3:r a <;> simp_all <;> lia
def Gq {ls:Xa}{w a b:Nat}{t u:Th}(h:∀ l∈ls,td es l t≠td es l u->bG es w a l\/bG es w b l):pt es ls t u<=cb es ls w a + cb es ls w b:=Jt fun l hl hr=>(h l hl (SV hr)).imp (fun z=>Sa (p:=ds es a l + 1=ds es w l) z) fun z=>Sa (p:=ds es b l + 1=ds es w l) z
def N3 {ls:Xa}{w a:Nat}{t u:Th}(h:∀ l∈ls,td es l t≠td es l u->bG es w a l):pt es ls t u<=cb es ls w a:=by
 have:=Jt (ls:=ls) (r:=fun l=>decide (td es l t≠td es l u)) (p:=fun l=>decide (ds es a l + 1=ds es w l)) (q:=fun _=>false) fun l hl hr=>.inl (Sa (p:=ds es a l + 1=ds es w l) (h l hl (SV hr)))
 have e:(ls.filter fun _=>false)=[]:=List.filter_eq_nil_iff.mpr fun _ _ z=>by cases z
 rw [e] at this;exact this
def zO (T:Tree m es){l w a:Nat}:td es l (.inr (iX w a))=tl es l w a:=by
 show min (ds es l (min w a)) (ds es l (max w a))=min (ds es l w) (ds es l a);rcases Uz w a with h | h
 ·rw [Ue h,Wr h]
 ·rw [Ug h,Nat.max_eq_left h,Nat.min_comm]
def F9 (T:Tree m es)(hl:∀ l∈ls,l < m){w a b:Nat}(h:aF es w a)(g:aF es w b):pt es ls (.inl a) (.inl b)<=cb es ls w a + cb es ls w b:=Gq fun l hl' ne=>by
 obtain ⟨hw,ha⟩:=T.gd.cI h;have hb:=(T.gd.cI g).2;have hlm:=hl l hl';have ne:ds es l a≠ds es l b:=ne;have e1:=T.near hlm h;have e2:=T.near hlm g;unfold bG;rw [T.cn.sy ha hlm,T.cn.sy hw hlm,T.cn.sy hb hlm];lia
def JL (T:Tree m es)(hl:∀ l∈ls,l < m){w a b:Nat}(h:aF es w a)(g:aF es w b):pt es ls (.inr (iX w a)) (.inr (iX w b))<=cb es ls w a + cb es ls w b:=Gq fun l hl' ne=>by
 obtain ⟨hw,ha⟩:=T.gd.cI h;have hb:=(T.gd.cI g).2;have hlm:=hl l hl';rw [zO T,zO T] at ne;unfold tl at ne;have e1:=T.near hlm h;have e2:=T.near hlm g;unfold bG;rw [T.cn.sy ha hlm,T.cn.sy hw hlm,T.cn.sy hb hlm];lia
def MF (T:Tree m es)(hl:∀ l∈ls,l < m){w a:Nat}(h:aF es w a):pt es ls (.inl w) (.inr (iX w a))<=cb es ls w a:=N3 fun l hl' ne=>by
 obtain ⟨hw,ha⟩:=T.gd.cI h;have hlm:=hl l hl';rw [zO T] at ne;have ne:ds es l w≠tl es l w a:=ne;unfold tl at ne;have e1:=T.near hlm h;unfold bG;rw [T.cn.sy ha hlm,T.cn.sy hw hlm];lia
end
end PB
namespace Dv
open PySem L2
def MI {most i:Nat}:zK most i e D (o::E)=(jd (o::E) i=true/\e D.xc (o::E) fun E1 k v=>k.fz=true/\Jc most E1 i v D.nx):=by
 unfold zK;congr 1;congr 1;funext E1 k v;congr 1;unfold Jc;refine propext ⟨fun ⟨p,ds,es,e1,e2,h,q⟩=>by subst e2;rw [e1];exact ⟨h,q⟩,fun h=>?_⟩
 split at h
 ·rename_i p ds es e1;exact ⟨p,ds,es,e1,rfl,h.1,h.2⟩
 ·exact h.elim
def Pn {most i:Nat}{p:Bool}(h:E[i]?=some (some (.ow p,.list ds)))(hl:ds.length + es.length<=most)(q:Q (E.set i (some (.ow p,.list (ds++es))))):Jc most E i (.list es) Q:=by
 unfold Jc;rw [h];exact ⟨hl,q⟩
end Dv
namespace PB
open PySem L2 Dv Gr
def pc (m:Nat)(es:XM) (p n:Nat):Xa:=(List.range m).filter fun x=>decide (ds es n x + 1=ds es p x)
def tZ {m p n x:Nat}:x∈pc m es p n↔x < m/\bG es p n x:=by
 unfold pc;rw [TR,SN,TQ];exact Iff.rfl
def IV {m p n:Nat}:rising (pc m es p n):=List.Pairwise.filter _ WM
structure sR (m:Nat)(es:XM) (p n:Nat)(vis:Xa)(stk:XM):Prop where
 nd:(vis++stk.map (·.2)).Nodup
 vS:∀ x∈vis++stk.map (·.2),x < m/\bG es p n x
 par:∀ q∈stk,aF es q.1 q.2/\ds es p q.2=ds es p q.1 + 1
 cl:∀ x∈vis,∀ y,aF es x y->ds es p y=ds es p x + 1->y∈vis++stk.map (·.2)
 up:∀ x∈vis++stk.map (·.2),x≠n->∃ y∈vis,aF es y x/\ds es p x=ds es p y + 1
 st:n∈vis++stk.map (·.2)
def sR.start {m p n:Nat}(T:Tree m es)(h:aF es p n):sR m es p n [] [(p,n)]:=by
 obtain ⟨hp,hn⟩:=T.gd.cI h;have one:∀ x,x∈([]:Xa)++[(p,n)].map (·.2)↔x=n:=fun x=>by simp
 refine ⟨by simp,fun x hx=>?_,fun q hq=>?_,fun x hx=>absurd hx Se,fun x hx ne=>absurd ((one x).mp hx) ne,(one n).mpr rfl⟩
 ·rw [(one x).mp hx];exact ⟨hn,oz T hp h⟩
 ·rw [RZ.mp hq];exact ⟨h,by rw [bY,T.dn hp h]⟩
def sR.step {m p n l h:Nat}{es:XM}{vis:Xa}{stk:XM}(T:Tree m es)(hpn:aF es p n)(D:sR m es p n vis (stk++[(l,h)])):sR m es p n (vis++[h]) (stk++((cZ es h).filter fun y=>decide (y≠l)).map fun y=>(h,y)):=by
 obtain ⟨hp,hn⟩:=T.gd.cI hpn;have old:∀ x,x∈vis++(stk++[(l,h)]).map (·.2)↔x∈vis\/x∈stk.map (·.2)\/x=h:=fun x=>by
  rw [S6,Sg,S6];simp
 have hh:=D.vS h ((old h).mpr (.inr (.inr rfl)));have ⟨alh,elh⟩:=D.par (l,h) (S6.mpr (.inr RT));have alh:aF es l h:=alh;have elh:ds es p h=ds es p l + 1:=elh;have kid:∀ y,aF es h y->(y≠l↔ds es p y=ds es p h + 1):=fun y a=>by
  constructor
  ·intro ne;rcases T.near hp a with z | z
   ·exact absurd (T.one hp a (cH _ _ alh) z (by lia)) ne
   ·exact z
  ·rintro e rfl;lia
 have newm:∀ y,y∈(((cZ es h).filter fun y=>decide (y≠l)).map fun y=>(h,y)).map (·.2)↔aF es h y/\ds es p y=ds es p h + 1:=fun y=>by
  rw [SX];have:((fun x:Nat×Nat=>x.2) ∘ fun y=>(h,y))=id:=rfl
  rw [this,List.map_id,TR,TQ,cS];exact ⟨fun ⟨a,b⟩=>⟨a,(kid y a).mp b⟩,fun ⟨a,b⟩=>⟨a,(kid y a).mpr b⟩⟩
 have ndo:=D.nd;rw [Sg,<- Sh] at ndo;have hnot:h∉vis++stk.map (·.2):=fun z=>(UM.mp ndo).2.2 h z h (by simp) rfl
 have nvis:h∉vis:=fun z=>hnot (S6.mpr (.inl z))
 have newn:∀ y,aF es h y->ds es p y=ds es p h + 1->y∉vis++(stk++[(l,h)]).map (·.2):=fun y a e z=>by
  have yn:y≠n:=fun q=>by
   have h1:=T.dn hp hpn;have h2:=hh.2;unfold bG at h2;rw [q] at e;lia
  obtain ⟨w,hw,b,e2⟩:=D.up y z yn;have:=T.one hp (cH _ _ a) (cH _ _ b) e e2;exact nvis (this ▸ hw)
 have nw:∀ x,x∈(vis++[h])++(stk++((cZ es h).filter fun y=>decide (y≠l)).map fun y=>(h,y)).map (·.2)↔(x∈vis\/x∈stk.map (·.2)\/x=h)\/(aF es h x/\ds es p x=ds es p h + 1):=fun x=>by
  rw [S6,Sg,S6,S6,newm,RZ];constructor
  ·rintro ((a | a) | a | a)
   ·exact .inl (.inl a)
   ·exact .inl (.inr (.inr a))
   ·exact .inl (.inr (.inl a))
   ·exact .inr a
  ·rintro ((a | a | a) | a)
   ·exact .inl (.inl a)
   ·exact .inr (.inl a)
   ·exact .inl (.inr a)
   ·exact .inr (.inr a)
 refine ⟨?_,fun x hx=>?_,fun q hq=>?_,fun x hx y a e=>?_,fun x hx ne=>?_,?_⟩
 ·-- none twice
  rw [Sg,<- Sh,UM];refine ⟨?_,?_,fun a ha b hb e=>?_⟩
  ·rw [Sh];refine List.Perm.nodup_iff (Tw vis UO) |>.mpr ?_;rw [<- Sh];exact ndo
  ·rw [SX];have:((fun x:Nat×Nat=>x.2) ∘ fun y=>(h,y))=id:=rfl
   rw [this,List.map_id];exact W6 VV (T.gd.qk h)
  ·subst e;have hb:=(newm a).mp hb;refine newn a hb.1 hb.2 ((old a).mpr ?_);rcases S6.mp ha with z | z
   ·rcases S6.mp z with z | z
    ·exact .inl z
    ·exact .inr (.inr (RZ.mp z))
   ·exact .inr (.inl z)
 ·rcases (nw x).mp hx with z | ⟨a,e⟩
  ·exact D.vS x ((old x).mpr z)
  ·exact ⟨(T.gd.cI a).2,T.lq hp hn hpn hh.2 a fun q=>by rw [q,bY] at e;lia⟩
 ·rcases S6.mp hq with z | z
  ·exact D.par q (S6.mpr (.inl z))
  ·obtain ⟨y,hy,rfl⟩:=S0.mp z;have:=(newm y).mp (S0.mpr ⟨_,z,rfl⟩);exact this
 ·rw [nw];rcases S6.mp hx with z | z
  ·exact .inl ((old y).mp (D.cl x z y a e))
  ·rw [RZ.mp z] at a e;exact .inr ⟨a,e⟩
 ·rcases (nw x).mp hx with z | ⟨a,e⟩
  ·obtain ⟨y,hy,b,e⟩:=D.up x ((old x).mpr z) ne;exact ⟨y,S6.mpr (.inl hy),b,e⟩
  ·exact ⟨h,S6.mpr (.inr RT),a,e⟩
 ·rw [nw];exact .inl ((old n).mp D.st)
def sR.done {m p n:Nat}(T:Tree m es)(h:aF es p n)(D:sR m es p n vis []):vis.Perm (pc m es p n):=by
 obtain ⟨hp,hn⟩:=T.gd.cI h;have e:vis++([]:XM).map (·.2)=vis:=Sy _;have all:∀ (k x:Nat),x < m->bG es p n x->ds es n x=k->x∈vis:=by
  intro k
  induction k with
  | zero =>
   intro x hx hb e0;have:=T.cn.zero hn hx e0;subst this;have:=D.st;rw [e] at this;exact this
  | succ k ih =>
   intro x hx hb e1;obtain ⟨y,hy,a,by',e2,e3⟩:=T.Ho hp hx h hb fun q=>by rw [q,bY] at e1;lia
   have:=D.cl y (ih y hy by' (by lia)) x a e2
   rw [e] at this;exact this
 have nd:=D.nd;rw [e] at nd;have nd2:(pc m es p n).Nodup:=W6 VV Tz;refine (List.perm_ext_iff_of_nodup nd nd2).mpr fun x=>?_
 rw [tZ];constructor
 ·intro hx;have:=D.vS x (by rw [e];exact hx)
  exact this
 ·rintro ⟨hx,hb⟩;exact all _ x hx hb rfl
theorem qc:∀ {l k:Xa},l.Perm k->l.Pairwise (·<=·)->k.Pairwise (·<=·)->l=k
 | [],k,p,_,_=>(List.Perm.nil_eq p)
 | a::l,[],p,_,_=>by have:=p.length_eq;simp at this
 | a::l,b::k,p,h1,h2=>by
  have ha:a∈b::k:=p.mem_iff.mp RT;have hb:b∈a::l:=p.mem_iff.mpr RT;have e:a=b:=by
   have l1:b<=a:=by
    rcases S2.mp ha with z | z
    ·lia
    ·exact (VU.mp h2).1 a z
   have l2:a<=b:=by
    rcases S2.mp hb with z | z
    ·lia
    ·exact (VU.mp h1).1 b z
   lia
  subst e;rw [qc (List.perm_cons a |>.mp p) (VU.mp h1).2 (VU.mp h2).2]
def Ff (h:rising l):l.Pairwise (·<=·):=h.imp fun h=>UR h
def Cy:bq:=fun dd Q x=>∃ m es p n,dd=[tR m es,iD p,iD n]/\m<=60/\Tree m es/\aF es p n/\Q [] (.ow false) (nD (pc m es p n))
def MA:∀ dd Q x,Cy dd Q x->jl (aU [false,false,false] Q x) (ini [false,false,false] dd++List.replicate 5 none):=by
 rintro _ Q x ⟨m,es,p,n,rfl,hm,T,hpn,q⟩;unfold jl;rfl';refine ⟨by lia,by lia,by lia,?_⟩
 refine ⟨fun k E=>∃ (vis:Xa)(stk:XM)(o5 o6:Xf),E=[some (.sh,tR m es),some (.sh,iD p),some (.sh,iD n),some (.ow false,nD vis),some (.ow false,.list (stk.map fE)),o5,o6,none]/\b9 o5=true/\b9 o6=true/\k=m - vis.length/\sR m es p n vis stk,⟨m,[],[(p,n)],none,none,rfl,rfl,rfl,rfl,sR.start T hpn⟩,?_⟩
 rintro k _ ⟨vis,stk,o5,o6,rfl,h5,h6,rfl,D⟩;simp! [Ws];rcases List.eq_nil_or_concat stk with rfl | ⟨stk,⟨l,h⟩,rfl⟩
 ·simp! [Wt];have pm:=D.done T hpn;have hl:vis.length<=m:=by
   rw [pm.length_eq];exact n9 IV fun x hx=>(tZ.mp hx).1
  refine AE (by lia) fun ms p1 s1=>?_
  rw [qc (p1.trans pm) s1 (Ff IV)];rfl';exact q
 ·have ne:(stk++[(l,h)]).isEmpty=false:=by simp
  rw [List.concat_eq_append] at D ⊢;have e1:(List.map fE (stk++[(l,h)]))[(stk++[(l,h)]).length - 1]?=some (fE (l,h)):=by
   rw [Sg,SJ];show (stk.map fE++[fE (l,h)])[stk.length + 1 - 1]?=_;rw [Nat.add_sub_cancel,UC (by rw [RX];exact RW _),RX,Nat.sub_self]
   rfl
  have e2:(List.map fE (stk++[(l,h)])).dropLast=stk.map fE:=by rw [Sg];exact List.dropLast_concat
  have hhm:h < m/\bG es p n h:=D.vS h (by simp)
  have D2:=D.step T hpn;have hv:(vis++[h]).length<=m:=Gr.fT m _ (UM.mp D2.nd).1 fun x hx=>(D2.vS x (S6.mpr (.inl hx))).1
  rw [SJ] at hv;have hv:vis.length + 1<=m:=hv;simp! [ne,e1,e2,h5,h6,MI,Sv hhm.1];refine ⟨by lia,?_⟩
  have hst:stk.length + ((cZ es h).filter fun y=>decide (y≠l)).length<=m:=by
   have:=Gr.fT m _ (UM.mp D2.nd).2.1 fun x hx=>(D2.vS x (S6.mpr (.inr hx))).1
   rw [RX,SJ,RX] at this;exact this
  refine kN (fun y=>if decide (y≠l)=true then some (fE (h,y)) else none) rfl (fun y hy I hI=>?_) ?_ (by have:=T.gd.qD h;lia)
  ·simp only [dv,dw,dx,dy,dz,Nat.reduceBEq] at hI ⊢;split
   ·rename_i c;rw [if_pos c] at hI;exact ⟨by lia,hI _ rfl⟩
   ·rename_i c;rw [if_neg c] at hI;exact hI _ rfl
  ·rw [fj];refine ⟨rfl,Pn rfl (by rw [RX,RX];lia) ⟨m - (vis++[h]).length,by rw [SJ];show m - (vis.length + 1) < _;lia,vis++[h],_,some (.sh,iD l),some (.sh,iD h),?_,rfl,rfl,rfl,D2⟩⟩
   rw [AI,Sg,SX];rfl
def C6:bq:=fun dd Q x=>∃ m es,dd=[wD m es]/\1<=m/\Q [] .sh (.bool (decide (es.length + 1=m)))
def LW:∀ dd Q x,C6 dd Q x->qi (aU [false] Q x) (ini [false] dd++List.replicate 2 none):=by
 rintro _ Q x ⟨m,es,rfl,hm,q⟩;unfold qi;rfl';have e:decide ((es.length:Int)=(m:Int) - 1)=decide (es.length + 1=m):=by
  by_cases c:es.length + 1=m
  ·rw [Sa c,Sa (by lia)]
  ·rw [Si c,Si (by lia)]
 rw [e];exact q
def qm:bq:=fun dd Q x=>∃ m es,dd=[wD m es]/\1<=m/\(es.length + 1=m->Q [] .sh .none)/\(es.length + 1≠m->x "NoTree" .none)
def Om:∀ dd Q x,qm dd Q x->gS C6 (aU [false] Q x) (ini [false] dd++List.replicate 0 none):=by
 rintro _ Q x ⟨m,es,rfl,hm,q,r⟩;unfold gS;rfl';refine ⟨m,es,rfl,hm,?_⟩;rfl';split
 ·rename_i h;exact r h
 ·rename_i h;exact q (Wv h)
def CM:bq:=fun dd Q x=>∃ m es p,dd=[wD m es,iD p]/\dF m es/\es.length + 1=m/\p < m/\Q [] (.ow false) (.list ((cZ es p).map fun n=>nD (pc m es p n)))
def MW:∀ dd Q x,CM dd Q x->mC qm vp vt Cy (aU [false,false] Q x) (ini [false,false] dd++List.replicate 2 none):=by
 rintro _ Q x ⟨m,es,p,rfl,W,ht,hp,q⟩;have hm:=W.le;have T:Tree m es:=⟨W.gd,W.cn,ht⟩;unfold mC;rfl';refine ⟨m,es,rfl,W.pos,fun _=>?_,fun z=>absurd ht z⟩
 rfl';refine ⟨m,es,p,rfl,fun _=>?_,fun z=>absurd ⟨by lia,by lia⟩ z⟩
 rfl';refine ⟨m,es,rfl,W.le,W.gd,?_⟩;simp! [Sv hp];refine iM (fun n=>nD (pc m es p n)) rfl (fun n hn I hI=>?_) ?_ (by have:=W.gd.qD p;lia)
 ·rfl';refine ⟨m,es,p,n,rfl,W.le,T,cS.mp hn,?_⟩;rfl';exact hI _ rfl
 ·rfl';exact q
def BR (m:Nat)(es:XM)(ls:Xa) (p:Nat)(r:Xa):Prop:=∃ ns:Xa,ns.Perm (cZ es p)/\r=ns.map (cb es ls p)/\r.Pairwise (·<=·)
def C9:bq:=fun dd Q x=>∃ m es ls p,dd=[wD m es,nD ls,iD p]/\dF m es/\es.length + 1=m/\bX m ls/\p < m/\∀ r,BR m es ls p r->Q [] (.ow false) (nD r)
def NW:∀ dd Q x,C9 dd Q x->gA CM (aU [false,false,false] Q x) (ini [false,false,false] dd++List.replicate 2 none):=by
 rintro _ Q x ⟨m,es,ls,p,rfl,W,ht,L,hp,q⟩;have hm:=W.le;have hL:=L.len;have hnb:=W.gd.qD p;unfold gA;rfl';refine ⟨m,es,p,rfl,W,ht,hp,?_⟩;rfl';refine iM (fun n=>iD (cb es ls p n)) rfl (fun n hn I hI=>?_) ?_ (by lia)
 ·rfl';refine kN (fun l=>if decide (ds es n l + 1=ds es p l)=true then some (iD l) else none) rfl (fun l hl J hJ=>?_) ?_ (by lia)
  ·have hin:decide (iD l∈(pc m es p n).map iD)=decide (ds es n l + 1=ds es p l):=by
    have:iD l∈(pc m es p n).map iD↔l∈pc m es p n:=⟨fun h=>by obtain ⟨y,hy,e⟩:=S0.mp h;rw [<- xT.mp e];exact hy,fun h=>S0.mpr ⟨l,h,rfl⟩⟩
    by_cases c:ds es n l + 1=ds es p l
    ·rw [Sa c,Sa (this.mpr (tZ.mpr ⟨L.lt l hl,c⟩))]
    ·rw [Si c,Si fun z=>c (tZ.mp (this.mp z)).2]
   have dli:((pc m es p n).all fun a=>dl 8 (iD a))=true:=by rw [SH];exact fun _ _=>rfl
   simp only [dv,dw,dx,dy,dz,Nat.reduceBEq,dli] at hJ ⊢;refine ⟨rfl,?_⟩;rw [decide_eq_decide] at hin;split
   ·rename_i c;rw [if_pos (hin.mp c)] at hJ;exact hJ _ rfl
   ·rename_i c;rw [if_neg fun z=>c (hin.mpr z)] at hJ
    exact hJ _ rfl
  ·rw [fj];rfl';exact hI _ rfl
 ·rfl';have e:(cZ es p).map (fun n=>iD (cb es ls p n))=((cZ es p).map (cb es ls p)).map iD:=by rw [SX];rfl
  rw [e];refine AE (by rw [RX];lia) fun r p1 s1=>?_
  obtain ⟨ns,h1,h2⟩:=jv _ p1;exact q r ⟨ns,h1,h2,s1⟩
section
variable {m:Nat}{es:XM}{ls:Xa}
def i6 {k:Str}(gd:Good m es):(aD k m es).Nodup:=by
 unfold aD;refine UM.mpr ⟨?_,?_,fun a ha b hb e=>?_⟩
 ·split
  ·exact Tr
  ·exact W5 _ (fun a b h e=>h (by cases e;rfl)) Tz
 ·split
  ·exact Tr
  ·exact W5 _ (fun a b h e=>h (by cases e;rfl)) gd.nd
 ·subst e;split at ha
  ·cases ha
  ·obtain ⟨x,_,rfl⟩:=S0.mp ha;split at hb
   ·cases hb
   ·obtain ⟨y,_,e⟩:=S0.mp hb;cases e
def Fz {ts:List Th}(nd:ts.Nodup){s:Nat}(h1:∃ t u,t∈ts/\u∈ts/\t≠u/\pt es ls t u=s)(h2:∀ t u,t∈ts->u∈ts->t≠u->s<=pt es ls t u):j7 (ts.map (aB es ls)) (iD s):=by
 have get:∀ {i:Nat}{t:Th},ts[i]?=some t->(ts.map (aB es ls))[i]?=some (aB es ls t):=fun e=>by rw [S7,e];rfl
 refine .inr ⟨s,rfl,?_,fun n hn=>?_⟩
 ·obtain ⟨t,u,ht,hu,ne,e⟩:=h1;obtain ⟨i,hi⟩:=Td.mp ht;obtain ⟨j,hj⟩:=Td.mp hu;rcases UE i j with l | l | l
  ·exact kq.mpr ⟨i,j,_,_,l,get hi,get hj,by rw [qb,e]⟩
  ·subst l;rw [hi] at hj;cases hj;exact absurd rfl ne
  ·exact kq.mpr ⟨j,i,_,_,l,get hj,get hi,by rw [qb,uV,e]⟩
 ·obtain ⟨i,j,a,b,l,e1,e2,rfl⟩:=kq.mp hn;rw [S7] at e1 e2;obtain ⟨t,ht,rfl⟩:=T8.mp e1;obtain ⟨u,hu,rfl⟩:=T8.mp e2;rw [qb];refine h2 t u (SR ht) (SR hu) fun e=>?_
  subst e;have hi:=av ht;have hj:=av hu;rw [S9 hi] at ht;rw [S9 hj] at hu;exact (Tf.mp nd i j hi hj l) (by rw [Option.some.inj ht,Option.some.inj hu])
def str_none {ts:List Th}(h:ts.length < 2):j7 (ts.map (aB es ls)) .none:=by
 refine .inl ⟨?_,rfl⟩;cases e:pI (ts.map (aB es ls)) with
 | nil=>rfl
 | cons n l =>
  have:n∈pI (ts.map (aB es ls)):=by rw [e];exact RT
  obtain ⟨i,j,a,b,l,e1,e2,_⟩:=kq.mp this;have:=av e1;have:=av e2;rw [RX] at *;lia
def zL {ts:List Th}(nd:ts.Nodup)(h:2<=ts.length):∃ t u,t∈ts/\u∈ts/\t≠u:=⟨ts[0],ts[1],U9 _,U9 _,Tf.mp nd 0 1 (by lia) (by lia) (by lia)⟩
def rowOf (es:XM)(ls:Xa) (p:Nat):Xa:=((cZ es p).map (cb es ls p)).mergeSort
def ux (p:Nat):BR m es ls p (rowOf es ls p):=by
 obtain ⟨ns,h1,h2⟩:=jv _ (List.mergeSort_perm ((cZ es p).map (cb es ls p)) (·<=·));refine ⟨ns,h1,h2,?_⟩;have:=List.pairwise_mergeSort (le:=fun a b:Nat=>decide (a<=b)) (fun a b c h1 h2=>by simp at *;lia) (fun a b=>by simp;lia) ((cZ es p).map (cb es ls p))
 exact this.imp fun h=>by simpa using h
def OJ {p:Nat}(h:BR m es ls p r):r=rowOf es ls p:=by
 obtain ⟨ns,h1,h2,h3⟩:=h;obtain ⟨ns',g1,g2,g3⟩:=ux (m:=m) (es:=es) (ls:=ls) p;rw [h2] at h3 ⊢;rw [g2] at g3 ⊢;exact qc ((h1.trans g1.symm).map _) h3 g3
def uJ {p:Nat}:(rowOf es ls p).length=(cZ es p).length:=by
 obtain ⟨ns,h1,h2,_⟩:=ux (m:=0) (es:=es) (ls:=ls) p;rw [h2,RX,h1.length_eq]
def dW {l:Xa}{k:Nat}(h:k < l.length):l[k]?=some (l.getD k 0):=by
 rw [S9 h,TM,S9 h];rfl
def LZ (gd:Good m es){p:Nat}{x:Nat}(h:(rowOf es ls p)[0]?=some x):(∃ a,aF es p a/\x=cb es ls p a)/\∀ a,aF es p a->x<=cb es ls p a:=by
 obtain ⟨ns,h1,h2,h3⟩:=ux (m:=m) (es:=es) (ls:=ls) p;generalize rowOf es ls p=r at *;subst h2;rw [S7] at h;obtain ⟨a,ha,rfl⟩:=T8.mp h;refine ⟨⟨a,cS.mp (h1.mem_iff.mp (SR ha)),rfl⟩,fun b hb=>?_⟩
 obtain ⟨i,hi⟩:=Td.mp (h1.mem_iff.mpr (cS.mpr hb))
 by_cases c:i=0
 ·subst c;rw [ha] at hi;cases hi;exact RW _
 ·have e1:=S9 (av ha);have e2:=S9 (av hi);rw [ha] at e1;rw [hi] at e2;have:=Tf.mp h3 0 i (by rw [RX];exact av ha) (by rw [RX];exact av hi) (by lia)
  rw [UQ,UQ,<- Option.some.inj e1,<- Option.some.inj e2] at this;exact this
def CI (gd:Good m es){p x y:Nat}(h:(rowOf es ls p)[0]?=some x)(g:(rowOf es ls p)[1]?=some y):(∃ a b,aF es p a/\aF es p b/\a≠b/\x + y=cb es ls p a + cb es ls p b)/\∀ a b,aF es p a->aF es p b->a≠b->x + y<=cb es ls p a + cb es ls p b:=by
 obtain ⟨ns,h1,h2,h3⟩:=ux (m:=m) (es:=es) (ls:=ls) p;generalize rowOf es ls p=r at *;subst h2;have nd:ns.Nodup:=h1.nodup_iff.mpr (gd.qk p);rw [S7] at h g;obtain ⟨a,ha,rfl⟩:=T8.mp h;obtain ⟨b,hb,rfl⟩:=T8.mp g;have e0:=Option.some.inj (ha.symm.trans (S9 (av ha)));have e1:=Option.some.inj (hb.symm.trans (S9 (av hb)));have le:∀ i j (hi:i < ns.length)(hj:j < ns.length),i<=j->cb es ls p ns[i]<=cb es ls p ns[j]:=fun i j hi hj l=>by
  by_cases c:i=j
  ·subst c;exact RW _
  ·have:=Tf.mp h3 i j (by rw [RX];exact hi) (by rw [RX];exact hj) (by lia)
   rw [UQ,UQ] at this;exact this
 refine ⟨⟨a,b,cS.mp (h1.mem_iff.mp (SR ha)),cS.mp (h1.mem_iff.mp (SR hb)),?_,rfl⟩,fun c d hc hd ne=>?_⟩
 ·rw [e0,e1];exact Tf.mp nd 0 1 (av ha) (av hb) (by lia)
 ·obtain ⟨i,hi⟩:=Td.mp (h1.mem_iff.mpr (cS.mpr hc));obtain ⟨j,hj⟩:=Td.mp (h1.mem_iff.mpr (cS.mpr hd));have f0:=Option.some.inj (hi.symm.trans (S9 (av hi)));have f1:=Option.some.inj (hj.symm.trans (S9 (av hj)));have nij:i≠j:=fun q=>by
   subst q;rw [hi] at hj;cases hj;exact ne rfl
  rw [e0,e1,f0,f1];rcases Nat.lt_or_gt_of_ne nij with l | l
  ·have:=le 0 i (av ha) (av hi) (by lia)
   have:=le 1 j (av hb) (av hj) (by lia)
   lia
  ·have:=le 0 j (av ha) (av hj) (by lia)
   have:=le 1 i (av hb) (av hi) (by lia)
   lia
def HJ (T:Tree m es)(hl:∀ l∈ls,l < m){k:Str}(hk:k="places"\/k="ties"){t u:Th}(ht:t∈aD k m es)(hu:u∈aD k m es)(ne:t≠u):pt es ls t u=ls.length\/∃ w a b,aF es w a/\aF es w b/\a≠b/\cb es ls w a + cb es ls w b<=pt es ls t u:=by
 rcases hk with rfl | rfl
 ·have e:aD "places" m es=(List.range m).map Sum.inl:=by
   unfold aD;rw [if_neg (by decide),if_pos rfl,Sy]
  rw [e] at ht hu;obtain ⟨x,hx,rfl⟩:=S0.mp ht;obtain ⟨y,hy,rfl⟩:=S0.mp hu;exact tO T hl (SN.mp hx) (SN.mp hy) fun z=>ne (by rw [z])
 ·have e:aD "ties" m es=es.map Sum.inr:=by
   unfold aD;rw [if_pos rfl,if_neg (by decide),List.nil_append]
  rw [e] at ht hu;obtain ⟨x,hx,rfl⟩:=S0.mp ht;obtain ⟨y,hy,rfl⟩:=S0.mp hu;exact yc T hl hx hy fun z=>ne (by rw [z])
def LC (T:Tree m es)(hl:∀ l∈ls,l < m)(ht:t∈aD "all" m es)(hu:u∈aD "all" m es)(ne:t≠u):pt es ls t u=ls.length\/∃ w a,aF es w a/\cb es ls w a<=pt es ls t u:=by
 have e:aD "all" m es=(List.range m).map Sum.inl++es.map Sum.inr:=by
  unfold aD;rw [if_neg (by decide),if_neg (by decide)]
 rw [e] at ht hu;rcases S6.mp ht with h | h <;> rcases S6.mp hu with g | g <;> obtain ⟨x,hx,rfl⟩:=S0.mp h <;> obtain ⟨y,hy,rfl⟩:=S0.mp g
 ·exact (tO T hl (SN.mp hx) (SN.mp hy) fun z=>ne (by rw [z])).imp id fun ⟨w,a,b,h1,_,_,h4⟩=>⟨w,a,h1,by lia⟩
 ·exact .inr (vN T hl (SN.mp hx) hy)
 ·rw [uV];exact .inr (vN T hl (SN.mp hy) hx)
 ·exact (yc T hl hx hy fun z=>ne (by rw [z])).imp id fun ⟨w,a,b,h1,_,_,h4⟩=>⟨w,a,h1,by lia⟩
def J4 (T:Tree m es)(m2:2<=m)(L:bX m ls){s:Nat}(h1:∃ p,p < m/\(rowOf es ls p)[0]?=some s)(h2:∀ p x,p < m->(rowOf es ls p)[0]?=some x->s<=x):j7 ((aD "all" m es).map (aB es ls)) (iD s):=by
 obtain ⟨p,hp,e⟩:=h1;obtain ⟨⟨a,ha,rfl⟩,_⟩:=LZ T.gd e;have hall:aD "all" m es=(List.range m).map Sum.inl++es.map Sum.inr:=by
  unfold aD;rw [if_neg (by decide),if_neg (by decide)]
 have low:∀ t u,t∈aD "all" m es->u∈aD "all" m es->t≠u->cb es ls p a<=pt es ls t u:=fun t u ht hu ne=>by
  rcases LC T L.lt ht hu ne with z | ⟨w,b,hb,le⟩
  ·rw [z];exact W7 ..
  ·obtain ⟨hw,_⟩:=T.gd.cI hb;have hlen:0 < (rowOf es ls w).length:=by
    rw [uJ];exact VT (cS.mpr hb)
   have h3:=h2 w _ hw (S9 hlen);have h4:=(LZ T.gd (S9 hlen)).2 b hb;lia
 have mp:(Sum.inl p:Th)∈aD "all" m es:=by rw [hall];exact S6.mpr (.inl (S0.mpr ⟨p,SN.mpr hp,rfl⟩))
 have me:(Sum.inr (iX p a):Th)∈aD "all" m es:=by rw [hall];exact S6.mpr (.inr (S0.mpr ⟨_,mX T.gd ha,rfl⟩))
 refine Fz (i6 T.gd) ⟨_,_,mp,me,(by intro z;cases z),?_⟩ low
 have:=MF T L.lt ha;have:=low _ _ mp me (by intro z;cases z)
 lia
def DL (T:Tree m es){k:Str}(hk:k="places"\/k="ties"){w a b:Nat}(ha:aF es w a)(hb:aF es w b)(ne:a≠b)(L:∀ l∈ls,l < m):∃ t u,t∈aD k m es/\u∈aD k m es/\t≠u/\pt es ls t u<=cb es ls w a + cb es ls w b:=by
 have hwm:=T.gd.cI ha;have hbm:=T.gd.cI hb;rcases hk with rfl | rfl
 ·have e:aD "places" m es=(List.range m).map Sum.inl:=by
   unfold aD;rw [if_neg (by decide),if_pos rfl,Sy]
  rw [e];exact ⟨.inl a,.inl b,S0.mpr ⟨a,SN.mpr hwm.2,rfl⟩,S0.mpr ⟨b,SN.mpr hbm.2,rfl⟩,fun z=>ne (by cases z;rfl),F9 T L ha hb⟩
 ·have e:aD "ties" m es=es.map Sum.inr:=by
   unfold aD;rw [if_pos rfl,if_neg (by decide),List.nil_append]
  rw [e];refine ⟨.inr (iX w a),.inr (iX w b),S0.mpr ⟨_,mX T.gd ha,rfl⟩,S0.mpr ⟨_,mX T.gd hb,rfl⟩,fun z=>ne ?_,JL T L ha hb⟩
  have z:iX w a=iX w b:=Sum.inr.inj z;have e1:min w a=min w b:=congrArg Prod.fst z;have e2:max w a=max w b:=congrArg Prod.snd z;lia
def yb (T:Tree m es)(L:bX m ls){k:Str}(hk:k="places"\/k="ties")(h0:2<=(aD k m es).length){s:Nat}(h1:(∃ p x y,p < m/\(rowOf es ls p)[0]?=some x/\(rowOf es ls p)[1]?=some y/\s=x + y)\/((∀ p,p < m->(rowOf es ls p).length < 2)/\s=ls.length))(h2:∀ p x y,p < m->(rowOf es ls p)[0]?=some x->(rowOf es ls p)[1]?=some y->s<=x + y):j7 ((aD k m es).map (aB es ls)) (iD s):=by
 have two:∀ {w a b:Nat},aF es w a->aF es w b->a≠b->2<=(rowOf es ls w).length:=fun {w a b} ha hb ne=>by
  rw [uJ];have:=Gr.sub_len' (l:=[a,b]) (by simp [ne]) (k:=cZ es w) fun x hx=>by
   rcases S2.mp hx with rfl | hx
   ·exact cS.mpr ha
   ·rw [RZ.mp hx];exact cS.mpr hb
  exact this
 have sl:s<=ls.length:=by
  rcases h1 with ⟨p,x,y,hp,e1,e2,rfl⟩ | ⟨_,rfl⟩
  ·obtain ⟨⟨a,b,ha,hb,ne,e⟩,_⟩:=CI T.gd e1 e2;rw [e];exact L6 T L.lt ha hb ne
  ·exact RW _
 have low:∀ t u,t∈aD k m es->u∈aD k m es->t≠u->s<=pt es ls t u:=fun t u ht hu ne=>by
  rcases HJ T L.lt hk ht hu ne with z | ⟨w,a,b,ha,hb,nab,le⟩
  ·rw [z];exact sl
  ·obtain ⟨hw,_⟩:=T.gd.cI ha;have h3:=two ha hb nab;have g0:=S9 (l:=rowOf es ls w) (i:=0) (by lia)
   have g1:=S9 (l:=rowOf es ls w) (i:=1) (by lia)
   have:=h2 w _ _ hw g0 g1;have:=(CI T.gd g0 g1).2 a b ha hb nab;lia
 refine Fz (i6 T.gd) ?_ low;rcases h1 with ⟨p,x,y,hp,e1,e2,rfl⟩ | ⟨no,rfl⟩
 ·obtain ⟨⟨a,b,ha,hb,ne,e⟩,_⟩:=CI T.gd e1 e2;obtain ⟨t,u,ht,hu,ntu,le⟩:=DL (ls:=ls) T hk ha hb ne L.lt;refine ⟨t,u,ht,hu,ntu,?_⟩;have:=low t u ht hu ntu;lia
 ·obtain ⟨t,u,ht,hu,ntu⟩:=zL (i6 T.gd) h0;refine ⟨t,u,ht,hu,ntu,?_⟩;have:=low t u ht hu ntu;have:=Py (es:=es) (ls:=ls) (t:=t) (u:=u);lia
end
def x6 (k:Str):Prop:=k="places"\/k="ties"\/k="all"
def Cs:bq:=fun dd Q x=>∃ m es ls k,dd=[wD m es,nD ls,.str k]/\dF m es/\es.length + 1=m/\bX m ls/\x6 k/\∀ d,j7 ((aD k m es).map (aB es ls)) d->Q [] .sh d
def ND:∀ dd Q x,Cs dd Q x->iO qm nW vq C9 (aU [false,false,false] Q x) (ini [false,false,false] dd++List.replicate 2 none):=by
 rintro _ Q x ⟨m,es,ls,k,rfl,W,ht,L,hk,q⟩;have hm:=W.le;have hL:=L.len;have T:Tree m es:=⟨W.gd,W.cn,ht⟩;unfold iO;rfl';refine ⟨m,es,rfl,W.pos,fun _=>?_,fun z=>absurd ht z⟩
 rfl';refine xJ L ?_;rfl';refine ⟨m,es,k,rfl,W,?_⟩;rfl';split
 ·rename_i h;exact q _ (str_none (by lia))
 rename_i h0;rw [if_pos (by lia)]
 refine c9 rfl (iM (fun p=>nD (rowOf es ls p)) rfl (fun p hp I hI=>?_) ?_ (by rw [SA];lia))
 ·rfl';refine ⟨m,es,ls,p,rfl,W,ht,L,SN.mp hp,fun r hr=>?_⟩
  rw [OJ hr];rfl';exact hI _ rfl
 rfl';have yu:2<=m->∀ p,p < m->0 < (rowOf es ls p).length:=fun m2 p hp=>by
  rw [uJ];have ⟨y,hy,ne⟩:∃ y,y < m/\y≠p:=by
   by_cases c:p=0
   ·exact ⟨1,by lia,by lia⟩
   ·exact ⟨0,by lia,by lia⟩
  obtain ⟨n,hn,a,_⟩:=W.cn.pred W.gd hy hp (Ne.symm ne);exact VT (cS.mpr a)
 split
 ·rename_i hall;subst hall;have m2:2<=m:=by
   have e:(aD "all" m es).length=m + es.length:=by
    unfold aD;rw [if_neg (by decide),if_neg (by decide),SJ,RX,RX,SA]
   rw [e] at h0;lia
  refine iM (fun p=>iD ((rowOf es ls p).getD 0 0)) rfl (fun p hp I hI=>?_) ?_ (by rw [SA];lia)
  ·have hp:=SN.mp hp;simp! [dW (yu m2 p hp)];exact hI _ rfl
  ·rfl';have e:(List.range m).map (fun p=>iD ((rowOf es ls p).getD 0 0))=((List.range m).map fun p=>(rowOf es ls p).getD 0 0).map iD:=by rw [SX];rfl
   rw [e];refine La (fun z=>?_) fun s hs le=>?_
   ·have:=congrArg List.length z;rw [RX,SA] at this;simp at this;lia
   ·obtain ⟨p,hp,e1⟩:=S0.mp hs;have hp:=SN.mp hp;refine q _ (J4 T m2 L ⟨p,hp,by rw [<- e1];exact dW (yu m2 p hp)⟩ fun p' x hp' e2=>?_)
    have:=le _ (S0.mpr ⟨p',SN.mpr hp',rfl⟩);rw [dW (yu m2 p' hp')] at e2;cases e2;exact this
 ·rename_i hall;have hk':k="places"\/k="ties":=by
   rcases hk with z | z | z
   ·exact .inl z
   ·exact .inr z
   ·exact absurd z hall
  refine kN (fun p=>if decide (1 < (rowOf es ls p).length)=true then some (iD ((rowOf es ls p).getD 0 0 + (rowOf es ls p).getD 1 0)) else none) rfl (fun p hp I hI=>?_) ?_ (by rw [SA];lia)
  ·simp only [dv,dw,dx,dy,dz,Nat.reduceBEq] at hI ⊢;split
   ·rename_i c;have c:1 < (rowOf es ls p).length:=by lia
    rw [if_pos c] at hI;rw [dW (by lia:0 < (rowOf es ls p).length),dW c]
    exact hI _ rfl
   ·rename_i c;rw [if_neg (by lia)] at hI
    exact hI _ rfl
  ·rw [fj];rfl';have e:((List.range m).filter fun p=>decide (1 < (rowOf es ls p).length)).map (fun p=>iD ((rowOf es ls p).getD 0 0 + (rowOf es ls p).getD 1 0))=(((List.range m).filter fun p=>decide (1 < (rowOf es ls p).length)).map fun p=>(rowOf es ls p).getD 0 0 + (rowOf es ls p).getD 1 0).map iD:=by rw [SX];rfl
   rw [e];have mem:∀ p,p∈(List.range m).filter (fun p=>decide (1 < (rowOf es ls p).length))↔p < m/\1 < (rowOf es ls p).length:=fun p=>by rw [TR,SN,TQ]
   have h0':2<=(aD k m es).length:=by lia
   refine LB (fun z=>?_) fun s hs le=>?_
   ·refine q _ (yb T L hk' h0' (.inr ⟨fun p hp=>?_,rfl⟩) fun p x y hp e1 e2=>?_)
    ·rw [W3] at z;rcases Sq (rowOf es ls p).length 2 with c | c
     ·exact c
     ·have:=(mem p).mpr ⟨hp,c⟩;rw [z] at this;exact absurd this Se
    ·rw [W3] at z;have:=(mem p).mpr ⟨hp,by have:=av e2;lia⟩
     rw [z] at this;exact absurd this Se
   ·obtain ⟨p,hp,e1⟩:=S0.mp hs;obtain ⟨hp,c⟩:=(mem p).mp hp;refine q _ (yb T L hk' h0' (.inl ⟨p,_,_,hp,dW (by lia),dW c,e1.symm⟩) fun p' x y hp' e2 e3=>?_)
    have c':=av e3;have:=le _ (S0.mpr ⟨p',(mem p').mpr ⟨hp',c'⟩,rfl⟩);rw [dW (by lia:0 < (rowOf es ls p').length)] at e2
    rw [dW c'] at e3;cases e2;cases e3;exact this
end PB
namespace Dv
open PySem L2
def Cu {α:Type}{l:List α}{enc:α->PyData}{tg:Tg}{b:DS}{D:gJ}{E1:En}(I:Nat->En->Prop)(h0:I 0 E1)(hs:∀ (J:Xi) i a E,l[i]?=some a->(∀ E',I (i + 1) E'->J E')->I i E->∃ E2,cP tg (enc a) E=some E2/\b { D with nx:=J } E2)(he:∀ E,I l.length E->D.nx E):xG (l.map enc) tg b D E1:=lW I h0 (fun i a E ha hi=>hs (I (i + 1)) i a E ha (fun _ h=>h) hi) he
def Pz {n:Nat}{enc:Nat->PyData}{tg:Tg}{b:DS}{D:gJ}{E1:En}(I:Nat->En->Prop)(h0:I 0 E1)(hs:∀ (J:Xi) i E,i < n->(∀ E',I (i + 1) E'->J E')->I i E->∃ E2,cP tg (enc i) E=some E2/\b { D with nx:=J } E2)(he:∀ E,I n E->D.nx E):xG ((List.range n).map enc) tg b D E1:=OC I h0 (fun i E ha hi=>hs (I (i + 1)) i E ha (fun _ h=>h) hi) he
def Nn {a b:DS}{D:gJ}{E:En}(J0:Xi)(h1:∀ J:Xi,(∀ E',J0 E'->J E')->a { D with nx:=J } E)(h2:∀ B:Xi,(∀ E',B E'=b D E')->∀ E',J0 E'->B E'):uR a b D E:=⟨J0,h1 J0 fun _ h=>h,fun E' h=>h2 (b D) (fun _=>rfl) E' h⟩
end Dv
namespace L2
section
variable {α β:Type}
theorem BF (c:Xa)(x:α):∀ gs:List (List Nat×List α),(∃ g∈cQ c x gs,g.1=c/\x∈g.2)/\∀ g∈gs,∃ g'∈cQ c x gs,g'.1=g.1/\∀ y∈g.2,y∈g'.2
 | []=>⟨⟨_,RT,rfl,RT⟩,fun g hg=>(nomatch hg)⟩
 | (d,xs)::gs=>by
  obtain ⟨⟨g0,h1,h2,h3⟩,h4⟩:=BF c x gs
  by_cases e:d=c
  ·have e2:cQ c x ((d,xs)::gs)=(d,xs++[x])::gs:=if_pos e;rw [e2];refine ⟨⟨_,RT,e,S6.mpr (.inr RT)⟩,fun g hg=>?_⟩
   rcases S2.mp hg with rfl | hg
   ·exact ⟨_,RT,rfl,fun y hy=>S6.mpr (.inl hy)⟩
   ·exact ⟨g,RY _ hg,rfl,fun y hy=>hy⟩
  ·have e2:cQ c x ((d,xs)::gs)=(d,xs)::cQ c x gs:=if_neg e;rw [e2];refine ⟨⟨g0,RY _ h1,h2,h3⟩,fun g hg=>?_⟩
   rcases S2.mp hg with rfl | hg
   ·exact ⟨_,RT,rfl,fun y hy=>hy⟩
   ·obtain ⟨g',h5,h6⟩:=h4 g hg;exact ⟨g',RY _ h5,h6⟩
theorem Ay (c:Xa)(x:α):∀ gs:List (List Nat×List α),∀ g∈cQ c x gs,∀ y∈g.2,(g.1=c/\y=x)\/∃ g'∈gs,g'.1=g.1/\y∈g'.2
 | [],g,hg,y,hy=>by
  cases RZ.mp hg;exact .inl ⟨rfl,RZ.mp hy⟩
 | (d,xs)::gs,g,hg,y,hy=>by
  by_cases e:d=c
  ·have e2:cQ c x ((d,xs)::gs)=(d,xs++[x])::gs:=if_pos e;rw [e2] at hg;rcases S2.mp hg with rfl | hg
   ·rcases S6.mp hy with hy | hy
    ·exact .inr ⟨_,RT,rfl,hy⟩
    ·exact .inl ⟨e,RZ.mp hy⟩
   ·exact .inr ⟨g,RY _ hg,rfl,hy⟩
  ·have e2:cQ c x ((d,xs)::gs)=(d,xs)::cQ c x gs:=if_neg e;rw [e2] at hg;rcases S2.mp hg with rfl | hg
   ·exact .inr ⟨_,RT,rfl,hy⟩
   ·rcases Ay c x gs g hg y hy with z | ⟨g',h1,h2⟩
    ·exact .inl z
    ·exact .inr ⟨g',RY _ h1,h2⟩
structure GC (l:List (List Nat×α))(gs:List (List Nat×List α)):Prop where
 nd:(gs.map (·.1)).Nodup
 of:∀ g∈gs,∀ x∈g.2,(g.1,x)∈l
 all:∀ q∈l,∃ g∈gs,g.1=q.1/\q.2∈g.2
theorem AH (l:List (List Nat×α)):∀ n,GC (l.take n) (gZ (l.take n))
 | 0=>by
  rw [List.take_zero];exact ⟨.nil,fun _ h=>(nomatch h),fun _ h=>(nomatch h)⟩
 | n + 1=>by
  have ih:=AH l n;rw [VL];cases e:l[n]? with
  | none =>
   rw [Vt,Sy];exact ih
  | some q =>
   rw [Vu,lP];obtain ⟨h1,h2⟩:=BF q.1 q.2 (gZ (l.take n));refine ⟨(vW q.1 q.2 _ ih.nd).1,fun g hg x hx=>?_,fun p hp=>?_⟩
   ·rcases Ay q.1 q.2 _ g hg x hx with ⟨e1,e2⟩ | ⟨g',h3,h4,h5⟩
    ·rw [e1,e2];exact S6.mpr (.inr RT)
    ·rw [<- h4];exact S6.mpr (.inl (ih.of g' h3 x h5))
   ·rcases S6.mp hp with hp | hp
    ·obtain ⟨g,h3,h4,h5⟩:=ih.all p hp;obtain ⟨g',h6,h7,h8⟩:=h2 g h3;exact ⟨g',h6,h7.trans h4,h8 _ h5⟩
    ·cases RZ.mp hp;exact h1
def gc (l:List (List Nat×α)):GC l (gZ l):=by
 have:=AH l l.length;rwa [Tj] at this
def dX (f:α->Xa)(ts:List α):List (List α):=((gZ ((ts.map f).zip ts)).filter fun g=>decide (1 < g.2.length)).map (·.2)
def kL {f:α->Xa}{ts:List α}{q:List Nat×α}:q∈(ts.map f).zip ts↔q.1=f q.2/\q.2∈ts:=by
 induction ts with
 | nil=>simp
 | cons t ts ih =>
  rw [SO,List.zip_cons_cons,S2,ih,S2];constructor
  ·rintro (rfl | ⟨h1,h2⟩)
   ·exact ⟨rfl,.inl rfl⟩
   ·exact ⟨h1,.inr h2⟩
  ·rintro ⟨h1,h2 | h2⟩
   ·exact .inl (Prod.ext (by rw [h1,h2]) h2)
   ·exact .inr ⟨h1,h2⟩
def zL {r:List α}(ha:a∈r)(hb:b∈r)(ne:a≠b):1 < r.length:=by
 cases r with
 | nil=>cases ha
 | cons x r =>
  cases r with
  | nil=>exact absurd ((RZ.mp ha).trans (RZ.mp hb).symm) ne
  | cons y r=>exact Nat.succ_lt_succ (Nat.succ_pos _)
def nG {f:α->Xa}{r:List α}(h:r∈dX f ts):(∀ x∈r,x∈ts)/\1 < r.length/\∀ x∈r,∀ y∈r,f x=f y:=by
 obtain ⟨g,hg,rfl⟩:=S0.mp h;obtain ⟨hg,l⟩:=TR.mp hg;have c:=(gc ((ts.map f).zip ts)).of g hg;refine ⟨fun x hx=>(kL.mp (c x hx)).2,SV l,fun x hx y hy=>?_⟩
 rw [<- (kL.mp (c x hx)).1,<- (kL.mp (c y hy)).1]
def KI {f:α->Xa}(ha:a∈ts)(hb:b∈ts)(ne:a≠b)(e:f a=f b):∃ r∈dX f ts,∀ x∈ts,f x=f a->x∈r:=by
 have c:=gc ((ts.map f).zip ts);obtain ⟨g,hg,h1,h2⟩:=c.all (f a,a) (kL.mpr ⟨rfl,ha⟩);have all:∀ x∈ts,f x=f a->x∈g.2:=fun x hx ex=>by
  obtain ⟨g',hg',h3,h4⟩:=c.all (f x,x) (kL.mpr ⟨rfl,hx⟩);have eg:g'=g:=by
   have n:=c.nd;obtain ⟨i,li,ei⟩:=WX hg;obtain ⟨j,lj,ej⟩:=WX hg';have pw:=Tf.mp n;have key:g'.1=g.1:=by rw [h3,h1,ex]
   rcases UE i j with l | l | l
   ·have:=pw i j (by rw [RX];exact li) (by rw [RX];exact lj) l
    rw [UQ,UQ,ei,ej] at this;exact absurd key.symm this
   ·subst l;rw [<- ei,<- ej]
   ·have:=pw j i (by rw [RX];exact lj) (by rw [RX];exact li) l
    rw [UQ,UQ,ei,ej] at this;exact absurd key this
  rw [<- eg];exact h4
 exact ⟨g.2,S0.mpr ⟨g,TR.mpr ⟨hg,Sa (zL (all a ha rfl) (all b hb e.symm) ne)⟩,rfl⟩,all⟩
def JM (ha:a∈ts)(hb:b∈ts)(ne:a≠b):(∃ r∈dX f ts,a∈r/\b∈r)↔f a=f b:=by
 constructor
 ·rintro ⟨r,hr,h1,h2⟩;exact (nG hr).2.2 a h1 b h2
 ·intro e;obtain ⟨r,hr,all⟩:=KI ha hb ne e;exact ⟨r,hr,all a ha rfl,all b hb e.symm⟩
end
end L2
namespace PB
open PySem L2 Dv Gr
def JN:CN x E Q=Q E (.st false) (.dict [(.none,.none)]):=rfl
def NG {p:Bool}:Kd.pin (.st p)=p:=rfl
def ze (g:List Nat×List Th):PyData×PyData:=(.tuple (g.1.map iD),.list (g.2.map dI))
theorem AN:∀ {a b:Xa},a.map iD=b.map iD->a=b
 | [],[],_=>rfl
 | [],_::_,h=>by cases h
 | _::_,[],h=>by cases h
 | x::a,y::b,h=>by
  rw [SO,SO,Uw] at h;rw [xT.mp h.1,AN h.2]
theorem zA (c:Xa)(t:Th):∀ gs:List (List Nat×List Th),jP (gs.map ze) (.tuple (c.map iD)) (dI t)=(cQ c t gs).map ze
 | []=>rfl
 | (d,xs)::gs=>by
  rw [SO];show jP ((PyData.tuple (d.map iD),PyData.list (xs.map dI))::gs.map ze) _ _=_;unfold jP cQ
  by_cases e:d=c
  ·rw [if_pos (by rw [e]),if_pos e,SO]
   show (PyData.tuple (d.map iD),PyData.list (xs.map dI++[dI t]))::_=_;unfold ze;rw [Sg];rfl
  ·rw [if_neg (fun z=>e (AN (PyData.tuple.inj z))),if_neg e,SO,zA c t gs]
   rfl
def Js (es:XM)(ls:Xa)(ts:List Th):PyData:=.list ((dX (aB es ls) ts).map fun r=>.list (r.map dI))
def uE:bq:=fun dd Q x=>∃ m es ls k,dd=[wD m es,nD ls,.str k]/\dF m es/\bX m ls/\Q [] (.ow false) (Js es ls (aD k m es))
def NZ:∀ dd Q x,uE dd Q x->nO nW vq uH (aU [false,false,false] Q x) (ini [false,false,false] dd++List.replicate 5 none):=by
 rintro _ Q x ⟨m,es,ls,k,rfl,W,L,q⟩;have hm:=W.le;have hL:=L.len;have hlen:=Dr (k:=k) W;unfold nO;rfl';refine xJ L ?_;rfl';refine ⟨m,es,k,rfl,W,?_⟩;simp! [JN,NG];refine ⟨m,es,ls,aD k m es,rfl,W,L.lt,by lia,ou W.gd,hlen,?_⟩
 rfl';have ez:∀ ts:List Th,ts.zip ts=ts.map fun t=>(t,t):=fun ts=>by
  induction ts with
  | nil=>rfl
  | cons a ts ih=>rw [List.zip_cons_cons,ih];rfl
 rw [ez,SX];generalize aD k m es=ts at q hlen ⊢;refine Cu (fun i E=>∃ (o5 o6:Xf),E=[some (.sh,wD m es),some (.sh,nD ls),some (.sh,.str k),some (.sh,.list (ts.map dI)),some (.st false,.dict ((.none,.none)::(gZ (((ts.map (aB es ls)).zip ts).take i)).map ze)),o5,o6,none]/\b9 o5=true/\b9 o6=true) ⟨none,none,rfl,rfl,rfl⟩ ?_ ?_
 ·rintro J i t _ hi hJ ⟨o5,o6,rfl,h5,h6⟩;simp! [h5,h6,Function.comp];have li:=av hi;obtain ⟨gl,gq⟩:=rR i ((ts.map (aB es ls)).zip ts);have et:((ts.map (aB es ls)).zip ts).take (i + 1)=((ts.map (aB es ls)).zip ts).take i++[(aB es ls t,t)]:=by
   rw [VL,List.getElem?_zip_eq_some (z:=(aB es ls t,t)) |>.mpr ⟨by rw [S7,hi];rfl,hi⟩]
   rfl
  rw [et,lP] at hJ;generalize gZ (((ts.map (aB es ls)).zip ts).take i)=gs at gl gq hJ ⊢;refine ⟨gs.map ze,.sh,(aB es ls t).map iD,.sh,dI t,_,rfl,rfl,rfl,?_,rfl,by decide,rfl,?_,?_,?_⟩
  ·rw [VM];exact SH.mpr fun _ _=>rfl
  ·rw [RX];exact Nat.lt_of_le_of_lt (show _<=2000 by lia) (by decide)
  ·rw [VM];refine SH.mpr fun g hg=>Sa ?_
   show (g.2.map dI).length < sizeLine;rw [RX];exact Nat.lt_of_le_of_lt (show _<=2000 by have:=gq g hg;lia) (by decide)
  ·rw [zA];exact hJ _ ⟨_,_,rfl,rfl,rfl⟩
 ·rintro _ ⟨o5,o6,rfl,h5,h6⟩;have hz:((ts.map (aB es ls)).zip ts).length=ts.length:=by rw [List.length_zip,RX,Nat.min_self]
  rw [show ts.length=((ts.map (aB es ls)).zip ts).length from hz.symm,Tj]
  rfl';obtain ⟨gl,gq⟩:=rR ((ts.map (aB es ls)).zip ts).length ((ts.map (aB es ls)).zip ts);rw [Tj,hz] at gl;have q2:Q [] (.ow false) (.list (((gZ ((ts.map (aB es ls)).zip ts)).filter fun g=>decide (1 < g.2.length)).map fun g=>.list (g.2.map dI))):=by
   unfold Js dX at q;rw [SX] at q;exact q
  clear q gq;generalize gZ ((ts.map (aB es ls)).zip ts)=gs at gl q2 ⊢;refine ⟨gs.map ze,rfl,?_⟩;rfl';rw [SX];refine kN (fun g=>if decide (1 < g.2.length)=true then some (.list (g.2.map dI)) else none) rfl (fun g hg I hI=>?_) ?_ (by lia)
  ·show ∃ E2,cP (.nm 7) (.list (g.2.map dI)) _=some E2/\_;simp only [dv,dw,dx,dy,dz,Nat.reduceBEq] at hI ⊢;split
   ·rename_i c;rw [if_pos (by lia)] at hI
    exact hI _ rfl
   ·rename_i c;rw [if_neg (by lia)] at hI
    exact hI _ rfl
  ·rw [fj];rfl';exact q2
def Ck:bq:=fun dd Q x=>∃ m es ls k,dd=[wD m es,nD ls,.str k]/\dF m es/\bX m ls/\Q [] .sh (.bool (decide (dX (aB es ls) (aD k m es)=[])))
def L4:∀ dd Q x,Ck dd Q x->nJ uE (aU [false,false,false] Q x) (ini [false,false,false] dd++List.replicate 0 none):=by
 rintro _ Q x ⟨m,es,ls,k,rfl,W,L,q⟩;unfold nJ;rfl';refine ⟨m,es,ls,k,rfl,W,L,?_⟩;unfold Js;rfl';have e:(!!(List.map (fun r=>PyData.list (List.map dI r)) (dX (aB es ls) (aD k m es))).isEmpty)=decide (dX (aB es ls) (aD k m es)=[]):=by
  rw [Bool.not_not,Ws];cases dX (aB es ls) (aD k m es) <;> rfl
 rw [e];exact q
end PB
namespace PB
open PySem L2 Dv
def gO:DS:=ay (aX 2 (ah f7 [.ev (ah (lJ false true) [.pk 0,.pk 1])])) (ay (iH (xD (ah (lJ true true) [.pk 0,.pk 1,.ev (dC (.int 63))])) (.tp [3,4]) (i7 2 (ah jL [.pk 3,.pk 1]) (ah dP [.ev (ah i8 [.ev (ah aR [.pk 2,.ev (ah jL [.pk 3,.pk 1])]),.ev (dC (.int 31))]),.pk 4]))) (lS 2))
def iG:DS:=ay (aX 2 (dC (.int 0))) (uR (dG (cu (ah vR [.ev (ah dO [.pk 0]),.ev (dC (.int 0))])) (aX 2 (ah dP [.ev (ah aR [.pk 0,.ev (ah jL [.pk 1,.ev (ah dO [.pk 0])])]),.ev (ah uF [.pk 1,.ev (ah dO [.pk 0])])])) (d9)) (ay (aX 3 (dC (.int 0))) (uR (dG (cu (pQ (ah Fw [.pk 2,.ev (dC (.int 0))]) (ah Ni [.pk 2,.ev (ah HF [.ev (dC (.int 10)),.ev (dC (.int 18))])]))) (aX 3 (ah yf [.pk 2])) (d9)) (bP (ah dQ [.pk 3,.ev (ah jL [.ev (ah dP [.ev (ah i8 [.ev (ah jL [.pk 2,.ev (dC (.int 2147483629))]),.ev (dC (.int 69621))]),.ev (ah i8 [.ev (ah i8 [.ev (dC (.int 40009)),.ev (ah dP [.pk 1,.ev (dC (.int 1))])]),.ev (ah dP [.pk 1,.ev (dC (.int 3))])])]),.ev (dC (.int 2147483629))])])))))
def iN:DS:=ay (dG (cu (ah vR [.ev (ah aR [.pk 0,.ev (dC (.int 0))]),.ev (dC (.int 0))])) (ay (aX 2 (ah jL [.ev (ah aR [.pk 0,.ev (dC (.int 0))]),.pk 1])) (ay (i7 0 (dC (.int 0)) (ah uF [.ev (ah aR [.pk 0,.ev (dC (.int 0))]),.pk 1])) (lS 2))) (d9)) (ay (i7 0 (dC (.int 1)) (ah jL [.ev (ah dP [.ev (ah i8 [.ev (ah aR [.pk 0,.ev (dC (.int 1))]),.ev (dC (.int 48271))]),.ev (dC (.int 12820163))]),.ev (dC (.int 2147483647))])) (bP (ah jL [.ev (ah uF [.ev (ah jL [.ev (ah i8 [.ev (ah jL [.ev (ah i8 [.ev (ah aR [.pk 0,.ev (dC (.int 1))]),.ev (ah aR [.pk 0,.ev (dC (.int 1))])]),.ev (dC (.int 2147483629))]),.ev (dC (.int 69621))]),.ev (dC (.int 2147483587))]),.ev (dC (.int 8))]),.pk 1])))
def iS (X6:bq):DS:=ay (aX 3 (ah f7 [.pk 1])) (bP (bU [4] (nh pG [.pk 2]) (.nm 4) (fZ) (cA sizeLine (tH vB 3 [aC X6 [true,false] [.pk 0,.ev (ah dO [.pk 3])]]))))
def gr (X5:bq):DS:=ay (aX 3 (aC X5 [true,false,false] [.pk 0,.ev (ah kP [.pk 1]),.pk 1])) (bP (ah jK [.pk 1,.ev (ah nj [.ev (ah um [.ev (bU [4,5] (iE (bN 2)) (.tp [4,5]) (fZ) (cA sizeLine (ah jK [.ev (ah t6 [.ev (ah aR [.pk 3,.pk 4]),.ev (ah aR [.pk 3,.pk 5])]),.ev (ah t7 [.ev (ah aR [.pk 3,.pk 4]),.ev (ah aR [.pk 3,.pk 5])])])))])])]))
def iF (X6 Xz:bq):DS:=ay (aX 2 (ah dP [.ev (dC (.int 1)),.ev (aC X6 [true,false] [.pk 0,.pk 1])])) (ay (aX 3 (aC X6 [true,false] [.pk 0,.ev (dC (.int 6))])) (ay (aX 4 (ah dQ [])) (ay (iH (nh Dp [.ev (dC (.int 1)),.pk 2]) (.nm 5) (ay (aX 6 (ah dQ [.ev (ah nE [.pk 5,.ev (dC (.int 1))]),.ev (dC (.int 0)),.ev (aC X6 [true,false] [.pk 0,.pk 5]),.ev (ah t7 [.ev (dC (.int 0)),.ev (ah nE [.ev (ah nE [.pk 5,.ev (dC (.int 1))]),.ev (aC X6 [true,false] [.pk 0,.ev (dC (.int 3))])])]),.ev (aC X6 [true,false] [.pk 0,.ev (ah t6 [.pk 5,.ev (dC (.int 3))])])])) (cW (tH fG 4 [ah jK [.ev (ah aR [.ev (ah dP [.pk 6,.ev (ah dQ [.ev (ah uF [.ev (ah nE [.pk 5,.ev (dC (.int 1))]),.ev (dC (.int 2))])])]),.pk 3]),.pk 5]])))) (bP (aC Xz [true,false,false] [.pk 0,.pk 2,.pk 4])))))
def iQ:DS:=bP (bU [1] (nh pG [.ev (ah aR [.pk 0,.ev (dC (.int 0))])]) (.nm 1) (cu (ah m6 [.ev (ah dO [.ev (bU [2] (iE (ah aR [.pk 0,.ev (dC (.int 1))])) (.nm 2) (cu (ah (jS false) [.pk 1,.pk 2])) (cA sizeLine (bN 2)))]),.ev (dC (.int 1))])) (cA sizeLine (bN 1)))
def gX (X6:bq):DS:=ay (aX 2 (aC X6 [true,false] [.pk 0,.ev (dC (.int 6))])) (bP (bU [3] (nh pG [.pk 1]) (.nm 3) (cu (ah Fw [.ev (aC X6 [true,false] [.pk 0,.ev (dC (.int 6))]),.ev (ah aR [.ev (ah dQ [.ev (dC (.int 0)),.ev (dC (.int 1)),.ev (dC (.int 2)),.ev (dC (.int 3)),.ev (dC (.int 5)),.ev (dC (.int 6))]),.pk 2])])) (cA sizeLine (bN 3))))
def gR (YN YO Xr Xm YE:bq):DS:=ay (aX 3 (aC YN [false,false,false] [.pk 0,.ev (ah f7 [.pk 1]),.pk 2])) (ay (aX 4 (aC YO [false,false,false] [.pk 0,.ev (ah f7 [.pk 1]),.pk 2])) (ay (aX 5 (aC Xr [false,false,false] [.pk 0,.ev (ah f7 [.pk 1]),.pk 2])) (ay (dG (cu (pQ (pK (ah (zx "bool") [.pk 5])) (pQ (ah lX [.pk 5,.ev (ah (cG false) [.pk 3,.ev (dC .none)])]) (ah lX [.pk 5,.ev (pQ (ah (cG false) [.pk 4,.ev (dC .none)]) (ah vR [.pk 4,.ev (dC (.int 0))]))])))) (bP (dC .none)) (d9)) (uR (dG (cu (ah (cG true) [.pk 3,.ev (dC .none)])) (ay (dG (cu (ah lX [.ev (aC Xm [false,false,false] [.pk 0,.ev (ah f7 [.pk 1]),.ev (ah aR [.pk 3,.ev (dC (.int 0))])]),.ev (aC Xm [false,false,false] [.pk 0,.ev (ah f7 [.pk 1]),.ev (ah aR [.pk 3,.ev (dC (.int 1))])])])) (bP (dC .none)) (d9)) (dG (cu (ah BW [.ev (bU [6] (iE (aC YE [false,false,false] [.pk 0,.ev (ah aR [.pk 3,.ev (dC (.int 0))]),.ev (ah aR [.pk 3,.ev (dC (.int 1))])])) (.nm 6) (fZ) (cA sizeLine (ah (jS false) [.pk 6,.pk 1])))])) (bP (dC .none)) (d9))) (d9)) (lS 5)))))
def om (Xv X4 X7 X6 Xw Xy Xx:bq):DS:=ay (aX 1 (aC Xv [false,false] [.pk 0,.ev (dC (.int 4))])) (ay (iH (nh pG [.ev (ah t7 [.ev (dC (.int 1)),.ev (ah dO [.pk 1])])]) (.nm 2) (ay (aX 3 (aC X4 [false,false] [.pk 1,.pk 2])) (ay (aX 4 (aC X7 [true,false] [.pk 3,.ev (ah aR [.ev (ah dQ [.ev (dC (.int 24)),.ev (dC (.int 60))]),.ev (ah mY [.ev (ah m6 [.ev (aC X6 [true,false] [.pk 3,.ev (dC (.int 8))]),.ev (dC (.int 0))])])])])) (ay (aX 5 (aC Xw [false] [.pk 4])) (ay (aX 6 (aC X6 [true,false] [.pk 3,.ev (ah dP [.ev (ah dO [.pk 5]),.ev (dC (.int 1))])])) (iH (iE (ah dQ [.ev (aC Xy [true,false] [.pk 3,.ev (ah aR [.pk 4,.ev (dC (.int 0))])]),.pk 5,.ev (ah dP [.ev (ah (lJ false true) [.pk 5,.pk 6]),.ev (ah (lJ true false) [.pk 5,.ev (ah dP [.pk 6,.ev (dC (.int 1))])])])])) (.nm 7) (ay (aX 8 (ah ya [.ev (ah dP [.pk 7,.ev (ah dQ [.ev (aC X6 [true,false] [.pk 3,.ev (ah aR [.pk 4,.ev (dC (.int 0))])])])])])) (iH (iE (ah dQ [.ev (dC (.str "places")),.ev (dC (.str "ties")),.ev (dC (.str "all"))])) (.nm 9) (ay (aX 10 (aC Xx [false,false,false] [.pk 4,.pk 7,.pk 9])) (ay (aX 11 (aC Xx [false,false,false] [.pk 4,.pk 8,.pk 9])) (dG (cu (pQ (ah (cG false) [.pk 10,.ev (dC .none)]) (pQ (ah (cG false) [.pk 11,.ev (dC .none)]) (xE (bN 10) (pK (bN 11)))))) (bP (dC (.bool false))) (d9)))))))))))) (bP (dC (.bool true))))
abbrev j4 (a b:Int):PyData:=.list [.int a,.int b]
def jy:bq:=fun ds Q x=>∃ (a b:Int) (m:Nat),ds=[j4 a b,iD m]/\0 < m/\m < 2 ^ 200/\0<=b/\b < 2147483647/\∀ (r:Nat) a' b',r < m->0<=b'->b' < 2147483647->Q [j4 a' b'] .sh (iD r)
def K6:∀ ds Q x,jy ds Q x->iN (aU [true,false] Q x) (ini [true,false] ds++List.replicate 1 none):=by
 rintro _ Q x ⟨a,b,m,rfl,h1,h2,h3,h4,q⟩;unfold iN
 try bv_omega
 try simp only [dv,dw,dx]
 have hm:(0:Int) < m:=by lia
 have r0:∀ z:Int,∃ r:Nat,r < m/\z % (m:Int)=(r:Int):=fun z=>by
  have e1:=Ut z (by lia:(m:Int)≠0)
  have e2:=Us z hm;exact ⟨(z % m).toNat,by lia,by lia⟩
 split
 ·obtain ⟨r,hr,e⟩:=r0 a;refine ⟨hm,⟨hm,?_⟩,?_⟩
  ·have:(m:Int) < ((2 ^ 200:Nat):Int):=Ui.mpr h2;have:((2 ^ 200:Nat):Int) < 115792089237316195423570985008687907853269984665640564039457584007913129639936:=by decide
   lia
  ·rw [e];exact q r _ _ hr h3 h4
 ·have c1:0<=(b * 48271 + 12820163) % 2147483647:=Ut _ (by decide)
  have c2:(b * 48271 + 12820163) % 2147483647 < 2147483647:=Us _ (by decide)
  generalize (b * 48271 + 12820163) % 2147483647=y at *;have c3:0<=y * y % 2147483629:=Ut _ (by decide)
  have c4:y * y % 2147483629 < 2147483629:=Us _ (by decide)
  refine ⟨.inr (by clear q r0 c3 c4;lia),by decide,.inl (by clear q r0 c3 c4;lia),by decide,.inr (by clear q r0 c1 c2;lia),by decide,⟨by decide,by decide⟩,hm,?_⟩
  obtain ⟨r,hr,e⟩:=r0 (y * y % 2147483629 * 69621 % 2147483587 / 8);rw [e];exact q r _ _ hr c1 c2
def xh:bq:=fun ds Q x=>∃ (cs:Xb) (k:Nat),ds=[.list (cs.map .int),iD k]/\cs.length<=10/\k<=10/\∀ a b:Int,0<=b->b < 2147483647->Q [] (.ow false) (j4 a b)
def Ko:∀ ds Q x,xh ds Q x->iG (aU [false,false] Q x) (ini [false,false] ds++List.replicate 2 none):=by
 rintro _ Q x ⟨cs,k,rfl,h1,h2,q⟩;unfold iG
 try bv_omega
 try simp only [dv,dw,dx]
 refine ⟨fun E=>∃ cell:Int,E=[some (.sh,.list (cs.map .int)),some (.sh,iD k),some (.sh,.int cell),none],?_,?_⟩
 ·try bv_omega
  try simp only [dv,dw,dx]
  split
  ·rename_i h;rw [RX] at h ⊢;have hl:0 < cs.length:=by lia
   refine ⟨h,?_⟩;rw [<- Int.natCast_emod,qe,S9 (Ub _ hl)];exact ⟨⟨h,by lia⟩,_,rfl⟩
  ·exact ⟨0,rfl⟩
 ·rintro _ ⟨cell,rfl⟩
  try bv_omega
  try simp only [dv,dw,dx]
  refine J5 ?_
  try bv_omega
  try simp only [dv,dw,dx]
  have e1:=Ut cell (by decide:(2147483629:Int)≠0)
  have e2:=Us cell (by decide:(0:Int) < 2147483629)
  have a1:jU (cell % 2147483629) 69621:=.inr (by clear q;lia)
  clear e1 e2;have a2:jU 40009 ((k:Int) + 1):=.inl (by clear q a1;lia)
  have a3:jU (40009 * ((k:Int) + 1)) ((k:Int) + 3):=.inr (by clear q a1 a2;lia)
  have e3:=Ut (cell % 2147483629 * 69621 + 40009 * ((k:Int) + 1) * (k + 3)) (by decide:(2147483629:Int)≠0)
  have e4:=Us (cell % 2147483629 * 69621 + 40009 * ((k:Int) + 1) * (k + 3)) (by decide:(0:Int) < 2147483629)
  have fin:∀ z:Int,0 < (2147483629:Int)/\jU (cell % 2147483629) 69621/\jU 40009 ((k:Int) + 1)/\jU (40009 * ((k:Int) + 1)) ((k:Int) + 3)/\0 < (2147483629:Int)/\0 + 1 + 1<=16777216/\Q [] (Kd.ow false) (PyData.list [PyData.int z,PyData.int ((cell % 2147483629 * 69621 + 40009 * ((k:Int) + 1) * ((k:Int) + 3)) % 2147483629)]):=fun z=>⟨by decide,a1,a2,a3,by decide,by decide,q _ _ e3 (Int.lt_trans e4 (by decide))⟩
  split
  ·exact fin _
  ·refine ⟨⟨by decide,by decide,by decide⟩,?_⟩
   split
   ·exact fin _
   ·exact fin _
def tw:bq:=fun ds Q x=>∃ (ns:Xb) (m:Nat),ds=[.list (ns.map .int),iD m]/\0 < m/\m<=10/\∀ cs:Xb,cs.length<=m->Q [] (.ow false) (.list (cs.map .int))
def Gw:∀ ds Q x,tw ds Q x->gO (aU [false,false] Q x) (ini [false,false] ds++List.replicate 3 none):=by
 rintro _ Q x ⟨ns,m,rfl,h0,h1,q⟩;unfold gO
 try bv_omega
 try simp only [dv,dw,dx,dy,xu,RX,show (63:Int)=((63:Nat):Int) from rfl,xQ,sf]
 have hm:(0:Int) < m:=by lia
 refine lW (fun i E=>∃ (cs:Xb)(a b:Xf),E=[some (.sh,.list (ns.map .int)),some (.sh,iD m),some (.ow false,.list (cs.map .int)),a,b]/\b9 a=true/\b9 b=true/\cs.length=min m ns.length) ?_ ?_ ?_
 ·exact ⟨ns.take m,none,none,rfl,rfl,rfl,U3⟩
 ·rintro i ⟨d,k⟩ E hi ⟨cs,a,b,rfl,ha,hb,hl⟩;have hi:=av hi;rw [List.length_zipIdx,UU,U3] at hi;have hk:k % m < cs.length:=by have:=Ub k h0;lia
  try bv_omega
  try simp only [dv,dw,dx,ha,hb,dz]
  refine ⟨h0,c9 (S9 hk) ⟨.inr (by lia),h0,ve hk ⟨cs.set (k % m) (cs[k % m] * 31 + d),some (.sh,iD k),some (.sh,.int d),by rw [List.map_set],rfl,rfl,by rw [Sw];exact hl⟩⟩⟩
 ·rintro _ ⟨cs,a,b,rfl,ha,hb,hl⟩
  try bv_omega
  try simp only [dv,dw,dx]
  exact q cs (by lia)
def wY:bq:=fun ds Q x=>∃ (a b:Int)(ns:Xa) (k:Nat),ds=[j4 a b,nD ns,iD k]/\k<=ns.length/\ns.length<=1000/\0<=b/\b < 2147483647/\∀ (ms rest:Xa) a' b',ms.length=k->(ms++rest).Perm ns->0<=b'->b' < 2147483647->Q [j4 a' b'] (.ow false) (nD ms)
theorem ug:∀ (rs:Xa){j:Nat}(h:j < rs.length),([rs[j]]++rs.eraseIdx j).Perm rs
 | [],_,h=>by cases h
 | r::rs,0,_=>by rw [List.eraseIdx_cons_zero];exact List.Perm.refl _
 | r::rs,j + 1,h=>by
  rw [Vd];have ih:=ug rs (j:=j) (by rw [Sb] at h;lia)
  exact (List.Perm.swap _ _ _).trans (ih.cons _)
theorem vV {f:Nat->PyData}:∀ {rs:Xa}{j:Nat},(rs.map f).eraseIdx j=(rs.eraseIdx j).map f
 | [],_=>rfl
 | r::rs,0=>rfl
 | r::rs,j + 1=>by
  rw [SO,Vd,Vd,SO,vV]
def J8 {r n:Nat}(h:r < n):seqIndex? (r:Int) n=some r:=by
 unfold seqIndex?;simp;lia
def Lv:∀ ds Q x,wY ds Q x->iS jy (aU [true,false,false] Q x) (ini [true,false,false] ds++List.replicate 2 none):=by
 rintro _ Q x ⟨a,b,ns,k,rfl,h0,h1,h2,h3,q⟩;unfold iS;rfl';rw [if_pos (by lia)]
 refine c9 rfl ?_;refine IA _ (fun i ys E=>∃ (a b:Int)(ms rest:Xa)(o:Xf),ys=ms.map iD/\E=[some (.ow true,j4 a b),some (.sh,nD ns),some (.sh,iD k),some (.ow false,nD rest),o]/\b9 o=true/\ms.length=i/\(ms++rest).Perm ns/\0<=b/\b < 2147483647) rfl ⟨a,b,[],ns,_,rfl,rfl,rfl,rfl,List.Perm.refl _,h2,h3⟩ ?_ ?_
 ·rintro i j ys E hi ⟨a,b,ms,rest,o,rfl,rfl,ho,hm,hp,h2,h3⟩;have hi:=av hi;rw [SA] at hi;have hl:=hp.length_eq;rw [SJ] at hl;have hr:0 < rest.length:=by lia
  try bv_omega
  try simp only [dv,dw,dx,ho,dz]
  refine ⟨a,b,rest.length,rfl,hr,by lia,h2,h3,fun r a' b' hr' h2' h3'=>?_⟩
  try bv_omega
  try simp only [dv,dw,dx,dz]
  refine ⟨⟨by lia,by lia⟩,r,iD rest[r],J8 hr',by rw [S7,S9 hr'];rfl,by lia,a',b',ms++[rest[r]],rest.eraseIdx r,some (.sh,iD j),by rw [Sg];rfl,by rw [vV],rfl,by rw [SJ,hm];rfl,?_,h2',h3'⟩
  rw [Sh];exact (Tw ms (ug rest hr')).trans hp
 ·rintro ys E ⟨a,b,ms,rest,o,rfl,rfl,ho,hm,hp,h2,h3⟩
  try bv_omega
  try simp only [dv,dw,dx,ho,dz]
  rw [SA] at hm;exact q ms rest _ _ hm hp h2 h3
def xH {ms:Xa}{m:Nat}(pm:ms.Perm (List.range m)){a:Nat}(ha:a < m):ms[a]?=some (ms.getD a 0)/\ms.getD a 0 < m:=by
 have h:a < ms.length:=by rw [pm.length_eq,SA];exact ha
 have e:ms.getD a 0=ms[a]:=by rw [TM,S9 h];rfl
 rw [e];exact ⟨S9 h,SN.mp (pm.mem_iff.mp (U9 h))⟩
def uu:bq:=fun ds Q x=>∃ (a b:Int) (m:Nat)(ps:XM),ds=[j4 a b,iD m,.list (ps.map fE)]/\1<=m/\m<=60/\Gr.Good m ps/\Gr.cU m ps/\ps.length<=1000/\0<=b/\b < 2147483647/\∀ es a' b',dF m es->es.length=ps.length->0<=b'->b' < 2147483647->Q [j4 a' b'] .sh (wD m es)
def Hl:∀ ds Q x,uu ds Q x->gr wY (aU [true,false,false] Q x) (ini [true,false,false] ds++List.replicate 3 none):=by
 rintro _ Q x ⟨a,b,m,ps,rfl,h0,h1,gd,cn,few,h2,h3,q⟩;unfold gr;rfl';refine ⟨⟨by lia,by lia⟩,⟨a,b,List.range m,m,rfl,by rw [SA];exact RW _,by rw [SA];lia,h2,h3,fun ms rest a' b' hm hp h2 h3=>?_⟩⟩
 have pm:ms.Perm (List.range m):=by
  have:=hp.length_eq;rw [SJ,hm,SA] at this;have e:rest=[]:=VS (by lia)
  rw [e,Sy] at hp;exact hp
 rfl';refine iM (fun e=>fE (Gr.vG ms e)) rfl (fun e he I hI=>?_) ?_ (by lia)
 ·have hl:=gd.lt e he;have g1:=xH pm (by lia:e.1 < m)
  have g2:=xH pm hl.2;simp! [g1.1,g2.1];exact ⟨by lia,hI _ rfl⟩
 ·rfl';have e:ps.map (fun e=>fE (Gr.vG ms e))=(ps.map (Gr.vG ms)).map fE:=by rw [SX];rfl
  rw [e];refine KG (by rw [RX];exact few) fun qs pq=>?_
  rfl';refine ⟨by lia,q qs _ _ ⟨h0,h1,?_,?_⟩ ?_ h2 h3⟩
  ·exact Gr.Good.perm pq (Gr.Cz pm gd)
  ·exact Gr.Ft pq (Gr.B7 pm cn)
  ·rw [pq.length_eq,RX]
def wX:bq:=fun ds Q x=>∃ (a b:Int) (mo:Nat),ds=[j4 a b,iD mo]/\0 < mo/\mo<=60/\0<=b/\b < 2147483647/\∀ m es a' b',m<=mo->dF m es->es.length + 1=m->0<=b'->b' < 2147483647->Q [j4 a' b'] .sh (wD m es)
structure Up (i:Nat)(ps:XM):Prop where
 len:ps.length=i
 at':∀ (k:Nat)(e:Nat×Nat),ps[k]?=some e->e.2=k + 1/\e.1<=k
def Up.snoc {i p:Nat}(h:Up i ps)(hp:p<=i):Up (i + 1) (ps++[(p,i + 1)]):=by
 refine ⟨by rw [SJ,h.len];rfl,fun k e he=>?_⟩
 rw [List.getElem?_append] at he;split at he
 ·exact h.at' k e he
 ·rename_i hk;rw [List.getElem?_singleton] at he;split at he
  ·rename_i h0;cases he;have:=h.len;show i + 1=k + 1/\p<=k;lia
  ·cases he
def Up.mem {i:Nat}(h:Up i ps)(he:e∈ps):e.1 < e.2/\e.2<=i:=by
 obtain ⟨k,hk⟩:=Td.mp he;have:=h.at' k e hk;have:=av hk;have:=h.len;lia
def Up.good {m:Nat}(h:Up (m - 1) ps)(hm:1<=m):Gr.Good m ps:=by
 refine ⟨fun e he=>?_,?_⟩
 ·have:=h.mem he;lia
 ·refine Tf.mpr fun i j hi hj l e=>?_
  have h1:=h.at' i _ (S9 hi);have h2:=h.at' j _ (S9 hj);rw [e] at h1;lia
def Up.conn {m:Nat}(h:Up (m - 1) ps):Gr.cU m ps:=by
 refine Gr.Kz fun k h0 hk=>?_
 have hl:k - 1 < ps.length:=by rw [h.len];lia
 have:=h.at' (k - 1) _ (S9 hl);refine ⟨ps[k - 1].1,by lia,?_⟩
 have e:(ps[k - 1].1,k)=ps[k - 1]:=Prod.ext rfl (by show k=ps[k - 1].2;lia)
 rw [e];exact U9 hl
def Ll:∀ ds Q x,wX ds Q x->iF jy uu (aU [true,false] Q x) (ini [true,false] ds++List.replicate 5 none):=by
 rintro _ Q x ⟨a,b,mo,rfl,h0,h1,h2,h3,q⟩;unfold iF;rfl';refine ⟨a,b,mo,rfl,h0,by lia,h2,h3,fun r a b hr h2 h3=>?_⟩
 rfl';refine ⟨a,b,6,rfl,by lia,by lia,h2,h3,fun sh a b hsh h2 h3=>?_⟩
 rfl';refine ⟨by lia,?_⟩
 have e1:(1:Int) + (r:Int)=((r + 1:Nat):Int):=by lia
 rw [e1,if_pos (by lia)]
 refine c9 rfl ?_;have e2:(((r + 1:Nat):Int) - 1).toNat=r:=by lia
 rw [e2];refine lW (fun i E=>∃ (a b:Int)(ps:XM)(o o2:Xf),E=[some (.ow true,j4 a b),some (.sh,iD mo),some (.sh,iD (r + 1)),some (.sh,iD sh),some (.ow false,.list (ps.map fE)),o,o2]/\b9 o=true/\b9 o2=true/\Up i ps/\0<=b/\b < 2147483647) ?_ ?_ ?_
 ·exact ⟨a,b,[],none,none,rfl,rfl,rfl,⟨rfl,fun k e h=>by cases h⟩,h2,h3⟩
 ·rintro i k _ hi ⟨a,b,ps,o,o2,rfl,ho,ho2,up,h2,h3⟩;have hi':=av hi;rw [Sv (by rw [SA] at hi';exact hi')] at hi
  cases hi;rw [SA] at hi';simp! [ho];refine ⟨a,b,i + 1,rfl,by lia,by lia,h2,h3,fun r1 a b hr1 h2 h3=>?_⟩
  simp! [ho2];refine ⟨a,b,3,rfl,by lia,by lia,h2,h3,fun r2 a b hr2 h2 h3=>?_⟩
  have e3:((i + 1:Nat):Int) - 1=(i:Int):=by lia
  have e4:(if (3:Int) < ((i + 1:Nat):Int) then (3:Int) else ((i + 1:Nat):Int))=((min (i + 1) 3:Nat):Int):=by split <;> lia
  simp! [ho2,e3,e4];refine ⟨a,b,min (i + 1) 3,rfl,by lia,by lia,h2,h3,fun r3 a b hr3 h2 h3=>?_⟩
  simp! [ho2,e3,ye];refine ⟨by lia,⟨by lia,by lia⟩,by lia,by lia,?_⟩
  have hin:∀ z∈[PyData.int (i:Int),PyData.int 0,iD r1,PyData.int (if (i:Int) - (r2:Int) > 0 then (i:Int) - (r2:Int) else 0),iD r3,PyData.int ((i:Int) / 2)],∃ p:Nat,p<=i/\z=iD p:=by
   intro z hz;simp only [S2,Se,Tv] at hz;rcases hz with rfl | rfl | rfl | rfl | rfl | rfl
   ·exact ⟨i,by lia,rfl⟩
   ·exact ⟨0,by lia,rfl⟩
   ·exact ⟨r1,by lia,rfl⟩
   ·exact ⟨i - r2,by lia,by congr 1;split <;> lia⟩
   ·exact ⟨r3,by lia,rfl⟩
   ·exact ⟨i / 2,by lia,by congr 1⟩
  have hlen:[PyData.int (i:Int),PyData.int 0,iD r1,PyData.int (if (i:Int) - (r2:Int) > 0 then (i:Int) - (r2:Int) else 0),iD r3,PyData.int ((i:Int) / 2)].length=6:=rfl
  generalize [PyData.int (i:Int),PyData.int 0,iD r1,PyData.int (if (i:Int) - (r2:Int) > 0 then (i:Int) - (r2:Int) else 0),iD r3,PyData.int ((i:Int) / 2)]=L at hin hlen ⊢
  have hs:sh < L.length:=by lia
  obtain ⟨p,hp,ep⟩:=hin _ (U9 hs);refine c9 (S9 hs) ⟨by lia,by rw [up.len];lia,a,b,ps++[(p,i + 1)],_,_,by rw [ep,Sg];rfl,rfl,rfl,up.snoc hp,h2,h3⟩
 ·rintro _ ⟨a,b,ps,o,o2,rfl,ho,ho2,up,h2,h3⟩;rfl';rw [SA] at up;refine ⟨a,b,r + 1,ps,rfl,by lia,by lia,Up.good (m:=r + 1) up (by lia),Up.conn (m:=r + 1) up,by rw [up.len];lia,h2,h3,fun es a' b' W hl h2 h3=>?_⟩
  rfl';exact q _ es _ _ (by lia) W (by rw [hl,up.len]) h2 h3
def tY:bq:=fun ds Q x=>∃ (a b:Int) (m:Nat),ds=[j4 a b,iD m]/\m<=60/\0<=b/\b < 2147483647/\∀ ls a' b',bX m ls->0<=b'->b' < 2147483647->Q [j4 a' b'] (.ow false) (nD ls)
def GB:∀ ds Q x,tY ds Q x->gX jy (aU [true,false] Q x) (ini [true,false] ds++List.replicate 2 none):=by
 rintro _ Q x ⟨a,b,m,rfl,h1,h2,h3,q⟩;unfold gX;rfl';refine ⟨a,b,6,rfl,by lia,by lia,h2,h3,fun pt a b hpt h2 h3=>?_⟩
 rfl';rw [if_pos (by lia)]
 refine c9 rfl ?_;refine IA _ (fun i ys E=>∃ (a b:Int)(ls:Xa)(o:Xf),ys=ls.map iD/\E=[some (.ow true,j4 a b),some (.sh,iD m),some (.sh,iD pt),o]/\b9 o=true/\rising ls/\(∀ l∈ls,l < i)/\0<=b/\b < 2147483647) rfl ⟨a,b,[],none,rfl,rfl,rfl,List.Pairwise.nil,(fun _ h=>absurd h Se),h2,h3⟩ ?_ ?_
 ·rintro i j ys E hi ⟨a,b,ls,o,rfl,rfl,ho,hr,hl,h2,h3⟩;have hi':=av hi;rw [SA] at hi';rw [Sv hi'] at hi;cases hi;simp! [ho];refine ⟨a,b,6,rfl,by lia,by lia,h2,h3,fun r a b hr' h2 h3=>?_⟩
  simp! [ho,ye];refine ⟨by lia,?_⟩
  rw [show [PyData.int 0,PyData.int 1,PyData.int 2,PyData.int 3,PyData.int 5,PyData.int 6]=[0,1,2,3,5,6].map iD from rfl,S7,sQ]
  have hlt:pt < [0,1,2,3,5,6].length:=hpt;refine c9 (S9 hlt) ?_;rfl';split
  ·refine ⟨?_,a,b,ls++[i],_,by rw [Sg];rfl,rfl,rfl,?_,?_,h2,h3⟩
   ·have:=n9 hr hl;lia
   ·exact List.pairwise_append.mpr ⟨hr,List.pairwise_singleton ..,fun x hx y hy=>by cases RZ.mp hy;exact hl x hx⟩
   ·intro l hl';rcases S6.mp hl' with h | h
    ·have:=hl l h;lia
    ·cases RZ.mp h;lia
  ·exact ⟨a,b,ls,_,rfl,rfl,rfl,hr,(fun l h=>by have:=hl l h;lia),h2,h3⟩
 ·rintro ys E ⟨a,b,ls,o,rfl,rfl,ho,hr,hl,h2,h3⟩;simp! [ho];exact q ls _ _ ⟨hr,fun l h=>by have:=hl l h;rw [SA] at this;exact this⟩ h2 h3
end PB
namespace PB
open PySem L2 Dv Gr
def C7:bq:=fun dd Q x=>∃ m es,dd=[wD m es]/\dF m es/\Q [] (.ow false) (.list ((List.range m).map fun p=>tD m es p))
def NX:∀ dd Q x,C7 dd Q x->nL uN (aU [false] Q x) (ini [false] dd++List.replicate 1 none):=by
 rintro _ Q x ⟨m,es,rfl,W,q⟩;have hm:=W.le;unfold nL;rfl';rw [if_pos (by lia)]
 refine c9 rfl (iM (fun p=>tD m es p) rfl (fun p hp I hI=>?_) ?_ (by rw [SA];lia))
 ·have hp:=SN.mp hp;rfl';refine ⟨m,es,p,rfl,W,fun k e hk=>?_,fun z=>absurd ⟨by lia,by lia⟩ z⟩
  have e:p=k:=by lia
  subst e;rfl';exact hI _ rfl
 ·rfl';exact q
def zU (m:Nat)(es:XM)(t u:Th):Xa:=(List.range m).filter fun p=>decide (td es p t≠td es p u)
def Cj:bq:=fun dd Q x=>∃ m es t u,dd=[.list ((List.range m).map fun p=>tD m es p),dI t,dI u]/\m<=60/\TV m t/\TV m u/\Q [] (.ow false) (nD (zU m es t u))
def Oc:∀ dd Q x,Cj dd Q x->kR vf (aU [false,false,false] Q x) (ini [false,false,false] dd++List.replicate 2 none):=by
 rintro _ Q x ⟨m,es,t,u,rfl,hm,ht,hu,q⟩;unfold kR;rfl';have ez:(List.range m).zipIdx=(List.range m).map fun p=>(p,p):=by
  refine To fun i=>?_
  rw [List.getElem?_zipIdx,S7];rcases Sq i m with h | h
  ·rw [Sv h];simp
  ·rw [Sn (by rw [SA];exact h)]
   rfl
 rw [ez,SX];refine kN (fun p=>if decide (td es p t≠td es p u)=true then some (iD p) else none) rfl (fun p hp I hI=>?_) ?_ (by rw [SA];lia)
 ·simp! [Function.comp];refine ⟨m,es,p,t,rfl,ht,?_⟩;rfl';refine ⟨m,es,p,u,rfl,hu,?_⟩;simp only [dv,dw,dx,dy,dz,Nat.reduceBEq] at hI ⊢;split
  ·rename_i c;rw [if_pos c] at hI;exact hI _ rfl
  ·rename_i c;rw [if_neg c] at hI;exact hI _ rfl
 ·rw [fj];rfl';exact q
def BY:bq:=fun dd Q x=>∃ m es k t u,dd=[wD m es,dI t,dI u]/\dF m es/\t∈aD k m es/\u∈aD k m es/\Q [] (.ow false) (nD (zU m es t u))
def Ma:∀ dd Q x,BY dd Q x->kC sL Cj C7 (aU [false,false,false] Q x) (ini [false,false,false] dd++List.replicate 0 none):=by
 rintro _ Q x ⟨m,es,k,t,u,rfl,W,ht,hu,q⟩;unfold kC;rfl';refine yF ht ?_;rfl';refine yF hu ?_;rfl';refine ⟨m,es,rfl,W,?_⟩;rfl';refine ⟨m,es,t,u,rfl,W.le,ou W.gd t ht,ou W.gd u hu,?_⟩;rfl';exact q
def RQ {a b:XS}{P:Xg}:lX [.tuple a,.tuple b] P=((dl 8 (.tuple a)=true/\dl 8 (.tuple b)=true)/\P .sh (.bool !(decide (PyData.tuple a=.tuple b)))):=rfl
def RP:lX [.none,.none] P=P .sh (.bool false):=rfl
def M3 (h:j7 cs d):lf d=true:=by
 rcases h with ⟨_,rfl⟩ | ⟨s,rfl,_⟩ <;> rfl
def Pr (ts:List Th)(t u:Th):Prop:=∃ i j:Nat,i < j/\ts[i]?=some t/\ts[j]?=some u
section
variable {es:XM}{ls:Xa}{ts:List Th}
def ki {n:Nat}:n∈pI (ts.map (aB es ls))↔∃ t u,Pr ts t u/\pt es ls t u=n:=by
 rw [kq];constructor
 ·rintro ⟨i,j,a,b,l,e1,e2,rfl⟩;rw [S7] at e1 e2;obtain ⟨t,h1,rfl⟩:=T8.mp e1;obtain ⟨u,h2,rfl⟩:=T8.mp e2;exact ⟨t,u,⟨i,j,l,h1,h2⟩,qb.symm⟩
 ·rintro ⟨t,u,⟨i,j,l,h1,h2⟩,rfl⟩;exact ⟨i,j,_,_,l,by rw [S7,h1];rfl,by rw [S7,h2];rfl,qb.symm⟩
def OL:j7 (ts.map (aB es ls)) d↔((∀ t u,¬ Pr ts t u)/\d=.none)\/∃ s:Nat,d=iD s/\(∃ t u,Pr ts t u/\pt es ls t u=s)/\∀ t u,Pr ts t u->s<=pt es ls t u:=by
 unfold j7;constructor
 ·rintro (⟨e,rfl⟩ | ⟨s,rfl,h1,h2⟩)
  ·refine .inl ⟨fun t u p=>?_,rfl⟩
   have:=ki.mpr ⟨t,u,p,(rfl:pt es ls t u=_)⟩;rw [e] at this;exact absurd this Se
  ·exact .inr ⟨s,rfl,ki.mp h1,fun t u p=>h2 _ (ki.mpr ⟨t,u,p,rfl⟩)⟩
 ·rintro (⟨e,rfl⟩ | ⟨s,rfl,h1,h2⟩)
  ·refine .inl ⟨X3.mpr fun n z=>?_,rfl⟩
   obtain ⟨t,u,p,_⟩:=ki.mp z;exact e t u p
  ·refine .inr ⟨s,rfl,ki.mpr h1,fun n z=>?_⟩
   obtain ⟨t,u,p,rfl⟩:=ki.mp z;exact h2 t u p
def Br {t u:Th}:pt es ls t u=0↔aB es ls t=aB es ls u:=by
 unfold pt aB;rw [WQ,List.filter_eq_nil_iff];constructor
 ·intro h;refine Tn fun l hl=>?_
  have:=h l hl
  simpa using this
 ·intro h l hl;have:=List.map_inj_left.mp h l hl
  simpa using this
def KS (n:ls'.Nodup)(h:∀ l∈ls',l∈ls):pt es ls' t u<=pt es ls t u:=by
 unfold pt;refine Gr.sub_len' (n.sublist VV) fun x hx=>?_
 obtain ⟨h1,h2⟩:=TR.mp hx;exact TR.mpr ⟨h x h1,h2⟩
end
theorem yC {α:Type}(c:Xa)(x:α):∀ (gs:List (List Nat×List α)) g,g∈cQ c x gs->g∈gs\/g.2=[x]\/∃ g'∈gs,g.2=g'.2++[x]
 | [],g,h=>by
  cases RZ.mp h;exact .inr (.inl rfl)
 | (d,xs)::gs,g,h=>by
  unfold cQ at h;split at h
  ·rcases S2.mp h with rfl | h
   ·exact .inr (.inr ⟨_,RT,rfl⟩)
   ·exact .inl (RY _ h)
  ·rcases S2.mp h with rfl | h
   ·exact .inl RT
   ·rcases yC c x gs g h with z | z | ⟨g',z,e⟩
    ·exact .inl (RY _ z)
    ·exact .inr (.inl z)
    ·exact .inr (.inr ⟨g',RY _ z,e⟩)
theorem n6 {α:Type}(l:List (List Nat×α)):∀ n,∀ g∈gZ (l.take n),g.2.Sublist ((l.take n).map (·.2))
 | 0,g,h=>by rw [List.take_zero] at h;exact absurd h Se
 | n + 1,g,h=>by
  rw [VL] at h ⊢;rcases e:l[n]? with _ | q
  ·rw [e,Vt,Sy] at h;rw [Vt,Sy];exact n6 l n g h
  ·rw [e,Vu,lP] at h;rw [Vu,Sg];rcases yC _ _ _ g h with z | z | ⟨g',z,e⟩
   ·exact (n6 l n g z).trans (List.sublist_append_left _ _)
   ·rw [z];exact List.sublist_append_right _ _
   ·rw [e];exact (n6 l n g' z).append (List.Sublist.refl _)
def Du {α:Type}{f:α->Xa}{ts:List α}(nd:ts.Nodup){r:List α}(h:r∈dX f ts):r.Nodup:=by
 obtain ⟨g,hg,rfl⟩:=S0.mp h;have hg:=(TR.mp hg).1;have:=n6 ((ts.map f).zip ts) ((ts.map f).zip ts).length g (by rw [Tj];exact hg)
 rw [Tj] at this;have e:((ts.map f).zip ts).map (·.2)=ts:=List.map_snd_zip (by rw [RX];exact RW _)
 rw [e] at this;exact nd.sublist this
def OO {ts:List Th}{t u:Th}(ht:t∈ts)(hu:u∈ts)(ne:t≠u):Pr ts t u\/Pr ts u t:=by
 obtain ⟨i,hi⟩:=Td.mp ht;obtain ⟨j,hj⟩:=Td.mp hu;rcases UE i j with l | l | l
 ·exact .inl ⟨i,j,l,hi,hj⟩
 ·subst l;rw [hi] at hj;cases hj;exact absurd rfl ne
 ·exact .inr ⟨j,i,l,hj,hi⟩
def Pk {ts:List Th}(nd:ts.Nodup){t u:Th}(h:Pr ts t u):t≠u:=by
 obtain ⟨i,j,l,e1,e2⟩:=h;intro e;subst e;have hi:=av e1;have hj:=av e2;rw [S9 hi] at e1;rw [S9 hj] at e2;exact (Tf.mp nd i j hi hj l) (by rw [Option.some.inj e1,Option.some.inj e2])
def NH {ts:List Th}{t u:Th}(h:Pr ts t u):t∈ts/\u∈ts:=by
 obtain ⟨i,j,l,e1,e2⟩:=h;exact ⟨SR e1,SR e2⟩
def zM {es:XM}{ls:Xa}{ts:List Th}(nd:ts.Nodup):dX (aB es ls) ts=[]↔∀ t u,Pr ts t u->0 < pt es ls t u:=by
 constructor
 ·intro h t u p;rcases Nat.eq_zero_or_pos (pt es ls t u) with z | z
  ·obtain ⟨ht,hu⟩:=NH p;obtain ⟨r,hr,_⟩:=(JM ht hu (Pk nd p)).mpr (Br.mp z);rw [h] at hr;exact absurd hr Se
  ·exact z
 ·intro h;refine X3.mpr fun r hr=>?_
  obtain ⟨h1,h2,h3⟩:=nG hr;have hn:=Du nd hr
  match r,h1,h2,h3,hn with
  | a::b::r,h1,h2,h3,hn =>
   have ne:a≠b:=fun z=>(Sj.mp hn).1 (z ▸ RT)
   have ha:a∈a::b::r:=RT;have hb:b∈a::b::r:=RY _ RT;have ec:=Br.mpr (h3 a ha b hb);rcases OO (h1 a ha) (h1 b hb) ne with p | p
   ·have:=h a b p;lia
   ·have:=h b a p;rw [uV] at this;lia
def Mn {α:Type}:List (List α)->Option (α×α)
 | (a::b::_)::_=>some (a,b)
 | _=>none
def LY:Option (Th×Th)->PyData
 | some p=>.tuple [dI p.1,dI p.2]
 | none=>.none
def qY (es:XM)(ls:Xa)(ts:List Th):PyData:=LY (Mn (dX (aB es ls) ts))
def HV (nd:ts.Nodup):(dX (aB es ls) ts=[]/\Mn (dX (aB es ls) ts)=none)\/∃ t u,t∈ts/\u∈ts/\t≠u/\aB es ls t=aB es ls u/\dX (aB es ls) ts≠[]/\Mn (dX (aB es ls) ts)=some (t,u):=by
 match h:dX (aB es ls) ts with
 | []=>exact .inl ⟨rfl,rfl⟩
 | r::rs =>
  have hr:r∈dX (aB es ls) ts:=by rw [h];exact RT
  obtain ⟨h1,h2,h3⟩:=nG hr;have hn:=Du nd hr
  match r,h1,h2,h3,hn with
  | a::b::r,h1,h2,h3,hn =>
   have ne:a≠b:=fun z=>(Sj.mp hn).1 (z ▸ RT)
   have ha:a∈a::b::r:=RT;have hb:b∈a::b::r:=RY _ RT;exact .inr ⟨a,b,h1 a ha,h1 b hb,ne,h3 a ha b hb,Wu _ _,rfl⟩
def Cm:bq:=fun dd Q x=>∃ m es ls k,dd=[wD m es,nD ls,.str k]/\dF m es/\es.length + 1=m/\bX m ls/\Q [] .sh (qY es ls (aD k m es))
def Nc:∀ dd Q x,Cm dd Q x->lC qm uE (aU [false,false,false] Q x) (ini [false,false,false] dd++List.replicate 1 none):=by
 rintro _ Q x ⟨m,es,ls,k,rfl,W,ht,L,q⟩;have nd:=i6 (k:=k) W.gd;unfold lC;rfl';refine ⟨m,es,rfl,W.pos,fun _=>?_,fun z=>absurd ht z⟩
 rfl';refine ⟨m,es,ls,k,rfl,W,L,?_⟩;unfold Js;rfl';unfold qY at q;generalize aD k m es=ts at nd q ⊢
 match h:dX (aB es ls) ts with
 | [] =>
  rw [h] at q;simp! [V8,Wt];exact q
 | r::rs =>
  have hr:r∈dX (aB es ls) ts:=by rw [h];exact RT
  obtain ⟨h1,h2,h3⟩:=nG hr;rw [h] at q
  match r,h2,q with
  | a::b::r,h2,q =>
   simp! [SO,List.isEmpty_cons];exact c9 rfl (c9 rfl (c9 rfl (c9 rfl ⟨by lia,q⟩)))
def CY:bq:=fun dd Q x=>∃ m es,dd=[wD m es]/\dF m es/\∀ ls,bX m ls->Q [] (.ow false) (nD ls)
def NR:∀ dd Q x,CY dd Q x->iQ (aU [false] Q x) (ini [false] dd++List.replicate 2 none):=by
 rintro _ Q x ⟨m,es,rfl,W,q⟩;have hm:=W.le;have hes:=W.few;unfold iQ;rfl';rw [if_pos (by lia)]
 refine c9 rfl (kN (fun p=>if decide ((es.filter fun e=>decide (iD p∈[iD e.1,iD e.2])).length=1)=true then some (iD p) else none) rfl (fun p hp I hI=>?_) ?_ (by rw [SA];lia))
 ·rfl';refine kN (fun e=>if decide (iD p∈[iD e.1,iD e.2])=true then some (fE e) else none) rfl (fun e he I2 hI2=>?_) ?_ (by lia)
  ·simp only [dv,dw,dx,dy,dz,Nat.reduceBEq] at hI2 ⊢;refine ⟨⟨rfl,rfl⟩,?_⟩;split
   ·rename_i c;rw [if_pos c] at hI2;exact hI2 _ rfl
   ·rename_i c;rw [if_neg c] at hI2;exact hI2 _ rfl
  ·rw [fj];simp only [dv,dw,dx,dy,dz,Nat.reduceBEq] at hI ⊢;split
   ·rename_i c;rw [if_pos (by lia)] at hI
    exact hI _ rfl
   ·rename_i c;rw [if_neg (by lia)] at hI
    exact hI _ rfl
 ·rw [fj];rfl';refine q _ ⟨?_,fun p hp=>SN.mp (TR.mp hp).1⟩
  exact List.Pairwise.sublist VV WM
def Ci {a b:Bool}:lX [.bool a,.bool b] P=P .sh (.bool !(decide (a=b))):=rfl
def FY (nd:ts.Nodup)(hd:j7 (ts.map (aB es ls)) d):(d=.none/\dX (aB es ls) ts=[])\/∃ s:Nat,d=iD s/\(dX (aB es ls) ts=[]↔0 < s):=by
 have kn:=zM (es:=es) (ls:=ls) nd;rcases OL.mp hd with ⟨no,rfl⟩ | ⟨s,rfl,⟨t0,u0,p0,e0⟩,low⟩
 ·exact .inl ⟨rfl,kn.mpr fun t u p=>absurd p (no t u)⟩
 ·refine .inr ⟨s,rfl,?_⟩;rw [kn];constructor
  ·intro h;have:=h t0 u0 p0;lia
  ·intro h t u p;have:=low t u p;lia
def w4:bq:=fun dd Q x=>∃ m es ls k,dd=[wD m es,nD ls,.str k]/\dF m es/\es.length + 1=m/\bX m ls/\x6 k/\Q [] .sh (.bool (decide (dX (aB es ls) (aD k m es)=[])))
def K9:∀ dd Q x,w4 dd Q x->gR Cm Cs Ck CP BY (aU [false,false,false] Q x) (ini [false,false,false] dd++List.replicate 4 none):=by
 rintro _ Q x ⟨m,es,ls,k,rfl,W,ht,L,hk,q⟩;have hm:=W.le;have nd:=i6 (k:=k) W.gd;have dlc:∀ l:Xa,dl 8 (PyData.list (l.map iD))=true:=fun l=>by
  simp only [dl,VM,SH];intro _ _;rfl
 unfold gR;rfl';refine ⟨m,es,ls,k,rfl,W,ht,L,?_⟩;have tc:=HV (es:=es) (ls:=ls) nd;have lft:lf (qY es ls (aD k m es))=true:=by
  unfold qY;rcases tc with ⟨_,e⟩ | ⟨t,u,_,_,_,_,_,e⟩
  ·rw [e];rfl
  ·rw [e];cases t <;> cases u <;> rfl
 simp! [lft];refine ⟨m,es,ls,k,rfl,W,ht,L,hk,fun d hd=>?_⟩
 have lfd:=M3 hd;have sk:=FY nd hd;simp! [lft,lfd];refine ⟨m,es,ls,k,rfl,W,L,?_⟩;simp! [lft,lfd];have e1:∀ {P:Xg},cG false [qY es ls (aD k m es),.none] P=P .sh (.bool (decide (dX (aB es ls) (aD k m es)=[]))):=by
  intro P;unfold qY;rcases tc with ⟨e0,e⟩ | ⟨t,u,_,_,_,_,e0,e⟩
  ·rw [e,Sa e0];unfold LY;rfl'
  ·rw [e,Si e0];unfold LY;rfl'
 rw [if_neg (by decide)]
 simp! [e1,Ci,decide_true,Bool.not_true];rcases sk with ⟨rfl,e0⟩ | ⟨s,rfl,e0⟩
 case' inl =>
  simp! [Ci];rw [if_neg (fun z=>z e0)]
 case' inr=>simp only [dv,dw,dx,dy,dz,Nat.reduceBEq,Ci,decide_eq_decide.mpr e0,decide_true,Bool.not_true]
 all_goals
  refine Nn (fun E=>∃ o3 o4 o6:Xf,∃ c:Bool,E=[some (.sh,wD m es),some (.sh,nD ls),some (.sh,.str k),o3,o4,some (.sh,.bool c),o6]/\c=decide (dX (aB es ls) (aD k m es)=[])) (fun J1 hJ1=>?_) ?_
  ·rcases tc with ⟨_,e⟩ | ⟨t,u,ht1,hu1,ne,ec,_,e⟩
   ·have e2:qY es ls (aD k m es)=.none:=by unfold qY;rw [e];rfl
    rw [e2];rfl';exact hJ1 _ ⟨_,_,_,_,rfl,by first | rfl | exact (decide_eq_decide.mpr e0).symm⟩
   ·have e2:qY es ls (aD k m es)=.tuple [dI t,dI u]:=by unfold qY;rw [e];rfl
    rw [e2];simp! [sZ];refine ⟨m,es,ls,k,t,rfl,W,L,ht1,?_⟩;simp! [sZ];refine ⟨m,es,ls,k,u,rfl,W,L,hu1,?_⟩;rw [ec];simp! [sZ,decide_true,Bool.not_true];refine ⟨⟨dlc _,dlc _⟩,?_⟩;refine ⟨m,es,k,t,u,rfl,W,ht1,hu1,?_⟩;simp! [sZ];have no:∀ p∈zU m es t u,p∉ls:=fun p hp hl=>by
     have h1:=SV (TR.mp hp).2;exact h1 (List.map_inj_left.mp ec p hl)
    have dli:(ls.all fun a=>dl 8 (iD a))=true:=by rw [SH];exact fun _ _=>rfl
    refine iM (fun _=>PyData.bool false) rfl (fun p hp I hI=>?_) ?_ (by unfold zU;exact SW (W7 ..) (by rw [SA];lia))
    ·have hin:¬ iD p∈List.map iD ls:=fun h=>by
      obtain ⟨y,hy,e⟩:=S0.mp h;exact no p hp (xT.mp e ▸ hy)
     simp! [dli];refine ⟨rfl,?_⟩;rw [Si hin];exact hI _ rfl
    ·rfl';rw [show List.map (fun _=>PyData.bool false) (zU m es t u)=((zU m es t u).map fun _=>false).map PyData.bool by rw [SX];rfl]
     refine OF ?_;have ea:((zU m es t u).map fun _=>false).any id=false:=W9.mpr fun b hb=>by
      obtain ⟨_,_,rfl⟩:=S0.mp hb;exact SQ
     rw [ea];rfl';exact hJ1 _ ⟨_,_,_,_,rfl,by first | rfl | exact (decide_eq_decide.mpr e0).symm⟩
  ·rintro B hB _ ⟨o3,o4,o6,c,rfl,rfl⟩;rw [hB];rfl';exact q
def CT {m:Nat}{r:Nat}(L:bX m ls)(hr:r < m)(h1:∀ x,x∈ms↔x∈(ls++[r]).map (fun n:Nat=>(n:Int)))(h2:ms.Pairwise (· < ·)):∃ ls':Xa,ms=ls'.map (fun n:Nat=>(n:Int))/\bX m ls'/\∀ l∈ls,l∈ls':=by
 have e:ms=(ms.map Int.toNat).map (fun n:Nat=>(n:Int)):=by
  rw [SX];symm;rw [Tn (g:=id)]
  ·rw [List.map_id]
  ·intro x hx;obtain ⟨y,_,rfl⟩:=S0.mp ((h1 x).mp hx);rfl
 have mem:∀ l:Nat,l∈ms.map Int.toNat↔l∈ls++[r]:=fun l=>by
  constructor
  ·intro h;obtain ⟨x,hx,rfl⟩:=S0.mp h;obtain ⟨y,hy,rfl⟩:=S0.mp ((h1 x).mp hx);exact hy
  ·intro h;exact S0.mpr ⟨(l:Int),(h1 _).mpr (S0.mpr ⟨l,h,rfl⟩),rfl⟩
 refine ⟨ms.map Int.toNat,e,⟨?_,fun l hl=>?_⟩,fun l hl=>(mem l).mpr (S6.mpr (.inl hl))⟩
 ·rw [e,Wq] at h2;exact h2.imp fun h=>by lia
 ·rcases S6.mp ((mem l).mp hl) with z | z
  ·exact L.lt l z
  ·rw [RZ.mp z];exact hr
def F7 {m:Nat}(L:bX m ls)(h:ks.Sublist ls):bX m ks:=⟨L.up.sublist h,fun l hl=>L.lt l (h.subset hl)⟩
def G3 {α:Type}{l:List α}{k:Nat}:(l.take k++l.drop (k + 1)).Sublist l:=by
 have h:(l.drop (k + 1)).Sublist (l.drop k):=by
  rw [<- List.drop_drop];exact List.drop_sublist _ _
 have:=(List.Sublist.refl (l.take k)).append h;rwa [Vp] at this
def JK (nd:ts.Nodup)(n:ls.Nodup)(s:∀ l∈ls,l∈ls')(h:dX (aB es ls) ts=[]):dX (aB es ls') ts=[] :=
 (zM nd).mpr fun t u p=>SK ((zM nd).mp h t u p) (KS n s)
def Gz:∀ ds Q x,uP ds Q x->om tw xh wX jy CY tY w4 (aU [false] Q x) (ini [false] ds++List.replicate 11 none):=by
 rintro _ Q x ⟨ns,rfl,hn,q⟩;unfold om;rfl';refine ⟨ns,4,rfl,by lia,by lia,fun cs hcs=>?_⟩
 rfl';have e1:(if (cs.length:Int) > 1 then (cs.length:Int) else 1)=((max 1 cs.length:Nat):Int):=by split <;> lia
 rw [e1,if_pos (by lia)]
 refine c9 rfl ?_;simp only [dz];refine Pz (fun i E=>∃ o2 o3 o4 o5 o6 o7 o8 o9 o10 o11:Xf,E=[some (.sh,.list (ns.map .int)),some (.ow false,.list (cs.map .int)),o2,o3,o4,o5,o6,o7,o8,o9,o10,o11]/\b9 o2=true/\b9 o3=true/\b9 o4=true/\b9 o5=true/\b9 o6=true/\b9 o7=true/\b9 o8=true/\b9 o9=true/\b9 o10=true/\b9 o11=true) ⟨none,none,none,none,none,none,none,none,none,none,rfl,rfl,rfl,rfl,rfl,rfl,rfl,rfl,rfl,rfl,rfl⟩ ?_ ?_
 ·rintro J k _ hk hJ ⟨o2,o3,o4,o5,o6,o7,o8,o9,o10,o11,rfl,h2,h3,h4,h5,h6,h7,h8,h9,h10,h11⟩;simp! [h2];refine ⟨cs,k,rfl,by lia,by lia,fun a b b0 b1=>?_⟩
  simp! [h3];refine ⟨by lia,a,b,8,rfl,by lia,by lia,b0,b1,fun r a b hr b0 b1=>?_⟩
  rfl';have ⟨mo,h0,h60,em⟩:∃ mo:Nat,0 < mo/\mo<=60/\eF [PyData.int 24,PyData.int 60] (if (r:Int)=0 then 1 else 0)=some (iD mo):=by
   split
   ·exact ⟨60,by lia,by lia,rfl⟩
   ·exact ⟨24,by lia,by lia,rfl⟩
  refine c9 em ?_;refine ⟨a,b,mo,rfl,h0,h60,b0,b1,fun m es a b hm W ht b0 b1=>?_⟩
  have hpos:=W.pos;simp! [h4];refine ⟨m,es,rfl,W,fun en Le=>?_⟩
  have hen:=Le.len;simp! [h5];refine ⟨a,b,en.length + 1,rfl,by lia,by lia,b0,b1,fun at' a b hat b0 b1=>?_⟩
  simp! [h6];refine ⟨a,b,m,rfl,by lia,b0,b1,fun l1 a b L1 b0 b1=>?_⟩
  have e4:(at':Int) + 1=((at' + 1:Nat):Int):=rfl;simp! [e4];have htk:=List.length_take_le at' en;have hdr:(en.drop (at' + 1)).length<=en.length:=by rw [UU];lia
  refine ⟨by lia,by lia,?_⟩
  rw [show [nD l1,nD en,PyData.list (List.map iD (List.take at' en)++List.map iD (List.drop (at' + 1) en))]=[l1,en,en.take at'++en.drop (at' + 1)].map nD by
   show _=[nD l1,nD en,nD (en.take at'++en.drop (at' + 1))];unfold nD;rw [Sg]]
  refine Cu (fun i E=>∃ (a b:Int)(o7 o8 o9 o10 o11:Xf),E=[some (.sh,.list (ns.map .int)),some (.ow false,.list (cs.map .int)),some (.sh,iD k),some (.ow false,j4 a b),some (.sh,wD m es),some (.sh,nD en),some (.sh,iD at'),o7,o8,o9,o10,o11]/\b9 o7=true/\b9 o8=true/\b9 o9=true/\b9 o10=true/\b9 o11=true/\0<=b/\b < 2147483647) ⟨a,b,o7,o8,o9,o10,o11,rfl,h7,h8,h9,h10,h11,b0,b1⟩ ?_ ?_
  ·rintro J i ls _ hi hJ ⟨a,b,o7,o8,o9,o10,o11,rfl,h7,h8,h9,h10,h11,b0,b1⟩;have L:bX m ls:=by
    have:=SR hi;simp only [S2,Se,Tv] at this;rcases this with rfl | rfl | rfl
    ·exact L1
    ·exact Le
    ·exact F7 Le G3
   have hL:=L.len;simp! [h7];refine ⟨a,b,m,rfl,by lia,by lia,b0,b1,fun r a b hr b0 b1=>?_⟩
   rfl';refine ⟨by lia,by lia,?_⟩
   refine ⟨(ls++[r]).map (fun n:Nat=>(n:Int)),?_,by rw [RX,SJ];show ls.length + 1<=63;lia,fun ms hms1 hms2=>?_⟩
   ·rw [SX,Sg];rfl
   obtain ⟨ls',rfl,L',sub⟩:=CT L hr hms1 hms2;rw [SX];show _;have L'l:=L'.len;rw [show List.map (PyData.int ∘ fun n:Nat=>(n:Int)) ls'=ls'.map iD from rfl]
   simp! [h8];refine ⟨by lia,?_⟩
   rw [show [PyData.str "places",PyData.str "ties",PyData.str "all"]=([("places":Str),"ties","all"]:Xc).map PyData.str from rfl]
   refine Cu (fun i E=>∃ (k8:Kd)(o9 o10 o11:Xf),E=[some (.sh,.list (ns.map .int)),some (.ow false,.list (cs.map .int)),some (.sh,iD k),some (.ow false,j4 a b),some (.sh,wD m es),some (.sh,nD en),some (.sh,iD at'),some (.sh,nD ls),some (k8,nD ls'),o9,o10,o11]/\(k8=.ow false\/k8=.sh)/\b9 o9=true/\b9 o10=true/\b9 o11=true) ⟨_,o9,o10,o11,rfl,.inl rfl,h9,h10,h11⟩ ?_ ?_
   ·rintro J i kd _ hi hJ ⟨k8,o9,o10,o11,rfl,hk8,h9,h10,h11⟩;have hk:x6 kd:=by
     have:=SR hi;simp only [S2,Se,Tv] at this;exact this
    have rd8:k8.rd=true:=by rcases hk8 with rfl | rfl <;> rfl
    have nd:=i6 (k:=kd) W.gd;simp! [h9,rd8];refine ⟨m,es,ls,kd,rfl,W,ht,L,hk,?_⟩;simp! [h10,rd8];refine ⟨m,es,ls',kd,rfl,W,ht,L',hk,?_⟩;simp! [h11,rd8];have mo:=JK (es:=es) nd (L.up.imp fun h=>S8 h) sub
    have fin:=hJ _ ⟨k8,some (.sh,.str kd),some (.sh,.bool (decide (dX (aB es ls) (aD kd m es)=[]))),some (.sh,.bool (decide (dX (aB es ls') (aD kd m es)=[]))),rfl,hk8,rfl,rfl,rfl⟩;have eb:∀ {b:Bool}{P:Xg},cG false [.bool b,.none] P=P .sh (.bool false):=by
     intro b P;simp only [cG];rw [Si (fun z=>by cases z)]
     rfl
    simp! [eb];split
    ·rename_i c;rw [if_neg (fun z=>z (mo c))]
     exact fin
    ·exact fin
   ·rintro _ ⟨k8,o9,o10,o11,rfl,hk8,h9,h10,h11⟩;exact hJ _ ⟨a,b,_,_,o9,o10,o11,rfl,rfl,by rcases hk8 with rfl | rfl <;> rfl,h9,h10,h11,b0,b1⟩
  ·rintro _ ⟨a,b,o7,o8,o9,o10,o11,rfl,h7,h8,h9,h10,h11,b0,b1⟩;exact hJ _ ⟨_,_,_,_,_,_,_,_,_,_,rfl,rfl,rfl,rfl,rfl,rfl,h7,h8,h9,h10,h11⟩
 ·rintro _ ⟨o2,o3,o4,o5,o6,o7,o8,o9,o10,o11,rfl,h2,h3,h4,h5,h6,h7,h8,h9,h10,h11⟩;rfl';exact q
end PB
namespace Ow
open PySem L2 PySem.W Dv PB
def top (i:Nat):Stmt:=PySem.Challenge.pw_farhail_k22_whole_three_ways_to_know.main.body.getD i (.Pass ⟨0,0,0,0⟩)
structure Txt (K:Frag)(mg:XG):Prop where
 abs:mg "abs"=none
 any:mg "any"=none
 bool:mg "bool"=none
 enumerate:mg "enumerate"=none
 int:mg "int"=none
 isinstance:mg "isinstance"=none
 len:mg "len"=none
 list:mg "list"=none
 max:mg "max"=none
 min:mg "min"=none
 range:mg "range"=none
 set:mg "set"=none
 sorted:mg "sorted"=none
 tuple:mg "tuple"=none
 zip:mg "zip"=none
 Lx:∃ C,mg "NoLooks"=some (.ref C)/\gD K C vM "ValueError.__new__" none=true
 Kv:∃ C,mg "NoPlace"=some (.ref C)/\gD K C vM "ValueError.__new__" none=true
 Lh:∃ C,mg "NoThing"=some (.ref C)/\gD K C vM "ValueError.__new__" none=true
 Ox:∃ C,mg "NoTree"=some (.ref C)/\gD K C vM "ValueError.__new__" none=true
 kit:zY K ["bool","int"]=true
 ns:∃ h:Heap,K.In h/\h.Ns mainGlobals mg
def uc {us:XU}{n:Nat}(h:us.length=n + 1):∃ a t,t.length=n/\us=a::t:=by
 cases us with
 | nil=>cases h
 | cons a t=>exact ⟨a,t,Nat.succ.inj h,rfl⟩
def RA {us:XU}(h0:us.length=1):∃ a0,us=[a0]:=by
 obtain ⟨a0,t0,h1,rfl⟩:=uc h0;cases VS h1;exact ⟨a0,rfl⟩
def Rx {us:XU}(h0:us.length=2):∃ a0 a1,us=[a0,a1]:=by
 obtain ⟨a0,t0,h1,rfl⟩:=uc h0;obtain ⟨a1,t1,h2,rfl⟩:=uc h1;cases VS h2;exact ⟨a0,a1,rfl⟩
def Ro {us:XU}(h0:us.length=3):∃ a0 a1 a2,us=[a0,a1,a2]:=by
 obtain ⟨a0,t0,h1,rfl⟩:=uc h0;obtain ⟨a1,t1,h2,rfl⟩:=uc h1;obtain ⟨a2,t2,h3,rfl⟩:=uc h2;cases VS h3;exact ⟨a0,a1,a2,rfl⟩
local macro_rules | `(tactic| ac_nf) => `(tactic| (intro _ _ _ _ _ _ us hl; first | (obtain ⟨_, e⟩ := RA hl; subst e; rfl) | (obtain ⟨_, _, e⟩ := Rx hl; subst e; rfl) | (obtain ⟨_, _, _, e⟩ := Ro hl; subst e; rfl)))
section
variable (P:Program)(w:World)(K:Frag)(mg:XG)(base:Heap)
abbrev pR:Prop:=bR P w K mg base 1 "_law_cells" ["script","many"] (cC mg K [false,false] tw)
abbrev rB:Prop:=bR P w K mg base 1 "_law_pool" ["cells","k"] (cC mg K [false,false] xh)
abbrev gI:Prop:=bR P w K mg base 1 "_law_take" ["pool","many"] (cC mg K [true,false] jy)
abbrev qK:Prop:=bR P w K mg base 2 "_law_some" ["pool","menu","many"] (cC mg K [true,false,false] wY)
abbrev pN:Prop:=bR P w K mg base 3 "_law_named" ["pool","many","ties"] (cC mg K [true,false,false] uu)
abbrev qO:Prop:=bR P w K mg base 4 "_law_tree" ["pool","most"] (cC mg K [true,false] wX)
abbrev qQ:Prop:=bR P w K mg base 1 "_law_ends" ["web"] (cC mg K [false] CY)
abbrev pW:Prop:=bR P w K mg base 2 "_law_looks" ["pool","many"] (cC mg K [true,false] tY)
abbrev tF:Prop:=bR P w K mg base 1 "is_tree" ["web"] (cC mg K [false] C6)
abbrev eL:Prop:=bR P w K mg base 2 "refuse_no_tree" ["web"] (cC mg K [false] qm)
abbrev pY:Prop:=bR P w K mg base 1 "are_looks" ["web","looks"] (cC mg K [false,false] Cw)
abbrev c8:Prop:=bR P w K mg base 2 "refuse_wrong_looks" ["web","looks"] (cC mg K [false,false] nW)
abbrev kK:Prop:=bR P w K mg base 1 "things_of" ["web","kind"] (cC mg K [false,false] vq)
abbrev fV:Prop:=bR P w K mg base 1 "refuse_no_place" ["web","place"] (cC mg K [false,false] vp)
abbrev fW:Prop:=bR P w K mg base 1 "neighbour_lists" ["web"] (cC mg K [false] vt)
abbrev lN:Prop:=bR P w K mg base 2 "fars_or_none" ["web","place"] (cC mg K [false,false] BO)
abbrev lD:Prop:=bR P w K mg base 3 "fars_from" ["web","place"] (cC mg K [false,false] uN)
abbrev oN:Prop:=bR P w K mg base 1 "nearer_end" ["fars","tie"] (cC mg K [false,false] BK)
abbrev kU:Prop:=bR P w K mg base 2 "thing_far" ["fars","thing"] (cC mg K [false,false] vf)
abbrev l8:Prop:=bR P w K mg base 4 "codes_of" ["web","looks","things"] (cC mg K [false,false,false] uH)
abbrev mH:Prop:=bR P w K mg base 5 "likes_by" ["web","looks","kind"] (cC mg K [false,false,false] uE)
abbrev oJ:Prop:=bR P w K mg base 6 "tree_likes" ["web","looks","kind"] (cC mg K [false,false,false] Cm)
abbrev lI:Prop:=bR P w K mg base 1 "piece_behind" ["lists","place","neighbour"] (cC mg K [false,false,false] Cy)
abbrev oW:Prop:=bR P w K mg base 3 "pieces_at" ["web","place"] (cC mg K [false,false] CM)
abbrev jH:Prop:=bR P w K mg base 4 "looks_in_pieces" ["web","looks","place"] (cC mg K [false,false,false] C9)
abbrev kG:Prop:=bR P w K mg base 5 "tree_strength" ["web","looks","kind"] (cC mg K [false,false,false] Cs)
abbrev rq:Prop:=bR P w K mg base 6 "is_known" ["web","looks","kind"] (cC mg K [false,false,false] Ck)
abbrev qM:Prop:=bR P w K mg base 1 "is_thing" ["web","thing"] (cC mg K [false,false] Dd)
abbrev fS:Prop:=bR P w K mg base 2 "refuse_no_thing" ["web","thing"] (cC mg K [false,false] sL)
abbrev sY:Prop:=bR P w K mg base 5 "code_of" ["web","looks","thing"] (cC mg K [false,false,false] CP)
abbrev oS:Prop:=bR P w K mg base 3 "parters_by" ["rows","one","other"] (cC mg K [false,false,false] Cj)
abbrev qX:Prop:=bR P w K mg base 4 "far_rows" ["web"] (cC mg K [false] C7)
abbrev oB:Prop:=bR P w K mg base 5 "parters_of" ["web","one","other"] (cC mg K [false,false,false] BY)
abbrev qh:Prop:=bR P w K mg base 7 "_law_known" ["web","looks","kind"] (cC mg K [false,false,false] w4)
end
section
variable {P:Program}{w:World}{K:Frag}{mg:XG}{base:Heap}
abbrev ko:Stmt:=top 35
def kQ:aJ ["script","many","cells","k","cell"] ["script","many"] (au ko):=by ac_rfl
def zd (T:Txt K mg)(r:Rec K "_law_cells" ko):pR P w K mg base :=
 aV T.ns r (by ac_nf) fun F=>bA (m:=3) F kQ rfl (by decide) (d:=gO) (fun cdv A outer s H Ex hr=>have hu:=hr.units;aj (bM 2 kQ.nd (lV T.list (aE (Ef (aP 0 (aP 1 a0))) a0))) (aj (mP Te kQ.nd (Mh T.enumerate (M7 (aP 0 (aP 1 (aE (xI) a0))))) (gT (gC 3 (gC 4 g0))) (aq (xx 2 hu (gU (aE (oZ (aE (bW hu (aP 2 (aE (l9 (aP 3 (aP 1 a0))) a0))) (aE (xI) a0))) (aP 4 a0))) (l9 (aP 3 (aP 1 a0)))))) (aq (tT 2)))) PB.Gw
abbrev mJ:Stmt:=top 36
def gB:aJ ["cells","k","cell","rest"] ["cells","k"] (au mJ):=by ac_rfl
def Au (T:Txt K mg)(r:Rec K "_law_pool" mJ):rB P w K mg base :=
 aV T.ns r (by ac_nf) fun F=>bA (m:=2) F gB rfl (by decide) (d:=iG) (fun cdv A outer s H Ex hr=>have hu:=hr.units;aj (bM 2 gB.nd (xI)) (zo (iW (bT.st (Jm (aE (jm T.len (aP 0 a0)) (aE (xI) a0)))) (aq (bM 2 gB.nd (gU (aE (bW hu (aP 0 (aE (l9 (aP 1 (aE (jm T.len (aP 0 a0)) a0))) a0))) (aE (C8 (aP 1 (aE (jm T.len (aP 0 a0)) a0))) a0))))) (cR)) (aj (bM 3 gB.nd (xI)) (zo (iW (bT.st (qj.AZ (oV (MM (aP 2 (aE (xI) a0))) (qt (Rk (aP 2 (aE (QS (aE (xI) (aE (xI) a0))) a0))))))) (aq (bM 3 gB.nd (QK T.abs (aP 2 a0)))) (cR)) (aq (bV (fL (aP 3 (aE (l9 (aE (gU (aE (oZ (aE (l9 (aP 2 (aE (xI) a0))) (aE (xI) a0))) (aE (oZ (aE (oZ (aE (xI) (aE (gU (aP 1 (aE (xI) a0))) a0))) (aE (gU (aP 1 (aE (xI) a0))) a0))) a0))) (aE (xI) a0))) a0))))))))) PB.Ko
abbrev mF:Stmt:=top 37
def qV:aJ ["pool","many","found"] ["pool","many"] (au mF):=by ac_rfl
def Ao (T:Txt K mg)(r:Rec K "_law_take" mF):gI P w K mg base :=
 aV T.ns r (by ac_nf) fun F=>bA (m:=1) F qV rfl (by decide) (d:=iN) (fun cdv A outer s H Ex hr=>have hu:=hr.units;aj (iW (bT.st (Jm (aE (bW hu (aP 0 (aE (xI) a0))) (aE (xI) a0)))) (aj (bM 2 qV.nd (l9 (aE (bW hu (aP 0 (aE (xI) a0))) (aP 1 a0)))) (aj (xx 0 hu (C8 (aE (bW hu (aP 0 (aE (xI) a0))) (aP 1 a0))) (xI)) (aq (tT 2)))) (cR)) (aj (xx 0 hu (l9 (aE (gU (aE (oZ (aE (bW hu (aP 0 (aE (xI) a0))) (aE (xI) a0))) (aE (xI) a0))) (aE (xI) a0))) (xI)) (aq (bV (l9 (aE (C8 (aE (l9 (aE (oZ (aE (l9 (aE (oZ (aE (bW hu (aP 0 (aE (xI) a0))) (aE (bW hu (aP 0 (aE (xI) a0))) a0))) (aE (xI) a0))) (aE (xI) a0))) (aE (xI) a0))) (aE (xI) a0))) (aP 1 a0))))))) PB.K6
abbrev mG:Stmt:=top 38
def qS:aJ ["pool","menu","many","rest"] ["pool","menu","many"] (au mG):=by ac_rfl
def Am (T:Txt K mg)(h0:gI P w K mg base)(r:Rec K "_law_some" mG):qK P w K mg base :=
 aV T.ns r (by ac_nf) fun F=>bA (m:=2) F qS rfl (by decide) (d:=iS jy) (fun cdv A outer s H Ex hr=>aj (bM 3 qS.nd (lV T.list (aP 1 a0))) (aq (bV (g8 (vs:=["k"]) (NB:=["k","rest","pool"]) (ix:=[3,0]) (by rfl) (zZ T.range (aP 2 a0)) (fun _ _ _ _=>gN 0) (fun _ _ _ _=>.nil) (fun _ _ _ _ _=>dH (xM 1 BG AW PySem.F.slot_list_pop PySem.F.type_list_pop (eC (aG h0 j6 hr (aP 2 (aE (jm T.len (aP 1 a0)) a0))) e0))))))) PB.Lv
abbrev kj:Stmt:=top 39
def oX:aJ ["pool","many","ties","names"] ["pool","many","ties"] (au kj):=by ac_rfl
def yY (T:Txt K mg)(h0:qK P w K mg base)(r:Rec K "_law_named" kj):pN P w K mg base :=
 aV T.ns r (by ac_nf) fun F=>bA (m:=3) F oX rfl (by decide) (d:=gr wY) (fun cdv A outer s H Ex hr=>have hu:=hr.units;aj (bM 3 oX.nd (aG h0 aN hr (aP 0 (aE (Eu T.list T.range (aP 1 a0)) (aP 1 a0))))) (aq (bV (uX (aP 1 (aE (MR T.tuple (aE (LI T.sorted (aE (g8 (vs:=["a","b"]) (NB:=["a","b","names"]) (ix:=[3]) (by rfl) (fM (xV 2)) (fun _ _ _ _=>gT (gC 0 (gC 1 g0))) (fun _ _ _ _=>.nil) (fun _ _ _ _ _=>dH (uX (aE (G6 T.min (aE (bW hu (aP 2 (aP 0 a0))) (aE (bW hu (aP 2 (aP 1 a0))) a0))) (aE (HD T.max (aE (bW hu (aP 2 (aP 0 a0))) (aE (bW hu (aP 2 (aP 1 a0))) a0))) a0))))) a0)) a0)) a0)))))) PB.Hl
abbrev l7:Stmt:=top 40
def fH:aJ ["pool","most","many","shape","ties","k","ahead"] ["pool","most"] (au l7):=by ac_rfl
def As (T:Txt K mg)(h0:gI P w K mg base)(h1:pN P w K mg base)(r:Rec K "_law_tree" l7):qO P w K mg base :=
 aV T.ns r (by ac_nf) fun F=>bA (m:=5) F fH rfl (by decide) (d:=iF jy uu) (fun cdv A outer s H Ex hr=>have hu:=hr.units;aj (bM 2 fH.nd (gU (aE (xI) (aE (aG h0 aN hr (aP 0 (aP 1 a0))) a0)))) (aj (bM 3 fH.nd (aG h0 aN hr (aP 0 (aE (xI) a0)))) (aj (bM 4 fH.nd (fL a0)) (aj (mP Te fH.nd (RN T.range (aE (xI) (aP 2 a0))) (gN 5) (aj (bM 6 fH.nd (fL (aE (xo (aP 5 (aE (xI) a0))) (aE (xI) (aE (aG h0 aN hr (aP 0 (aP 5 a0))) (aE (HD T.max (aE (xI) (aE (xo (aE (xo (aP 5 (aE (xI) a0))) (aE (aG h0 aN hr (aP 0 (aE (xI) a0))) a0))) a0))) (aE (aG h0 aN hr (aP 0 (aE (G6 T.min (aP 5 (aE (xI) a0))) a0))) a0))))))) (aq (d8 (xM 4 iu iK Ux Uy (eC (uX (aE (bW hu (aE (gU (aP 6 (aE (fL (aE (C8 (aE (xo (aP 5 (aE (xI) a0))) (aE (xI) a0))) a0)) a0))) (aP 3 a0))) (aP 5 a0))) e0)))))) (aq (bV (aG h1 aN hr (aP 0 (aP 2 (aP 4 a0)))))))))) PB.Ll
abbrev mj:Stmt:=top 42
def Al:aJ ["web"] ["web"] (au mj):=by ac_rfl
def Aq (T:Txt K mg)(r:Rec K "_law_ends" mj):qQ P w K mg base :=
 aV T.ns r (by ac_nf) fun F=>bA (m:=2) F Al rfl (by decide) (d:=iQ) (fun cdv A outer s H Ex hr=>have hu:=hr.units;aq (bV (G8 (cx:="place") (vs:=["place"]) (NB:=["place","web"]) (ix:=[0]) (by rfl) (zZ T.range (aE (bW hu (aP 0 (aE (xI) a0))) a0)) (fun _ _ _ _ _=>gN 0) (fun _ _ _ _ _=>.one (bT.st (Ji hu (aE (jm T.len (aE (g8 (vs:=["tie"]) (NB:=["tie","place"]) (ix:=[0]) (by rfl) (fM (bW hu (aP 1 (aE (xI) a0)))) (fun _ _ _ _=>gN 0) (fun _ _ _ _=>.one (bT.st (Qu hu (aP 1 (aP 0 a0))))) (fun _ _ _ _ _=>dH (xV 0))) a0)) (aE (xI) a0))))) (fun _ _ _ _ _ _=>dH (xV 0))))) PB.NR
abbrev ku:Stmt:=top 41
def pX:aJ ["pool","many","part"] ["pool","many"] (au ku):=by ac_rfl
def yw (T:Txt K mg)(h0:gI P w K mg base)(r:Rec K "_law_looks" ku):pW P w K mg base :=
 aV T.ns r (by ac_nf) fun F=>bA (m:=2) F pX rfl (by decide) (d:=gX jy) (fun cdv A outer s H Ex hr=>have hu:=hr.units;aj (bM 2 pX.nd (aG h0 aN hr (aP 0 (aE (xI) a0)))) (aq (bV (g8 (vs:=["place"]) (NB:=["place","pool","part"]) (ix:=[0,2]) (by rfl) (zZ T.range (aP 1 a0)) (fun _ _ _ _=>gN 0) (fun _ _ _ _=>.one (bT.st (MM (aE (aG h0 j6 hr (aP 1 (aE (xI) a0))) (aE (bW hu (aE (fL (aE (xI) (aE (xI) (aE (xI) (aE (xI) (aE (xI) (aE (xI) a0))))))) (aP 2 a0))) a0))))) (fun _ _ _ _ _=>dH (xV 0)))))) PB.GB
abbrev oj:Stmt:=top 27
def tQ:aJ ["web","many","ties"] ["web"] (au oj):=by ac_rfl
def CD (T:Txt K mg)(r:Rec K "is_tree" oj):tF P w K mg base :=
 aV T.ns r (by ac_nf) fun F=>bA (m:=2) F tQ rfl (by decide) (d:=qi) (fun cdv A outer s H Ex hr=>have hu:=hr.units;aj (CG tQ.nd (gC 1 (gC 2 g0)) (xV 0)) (aq (bV (Qs hu (aE (jm T.len (aP 2 a0)) (aE (xo (aP 1 (aE (xI) a0))) a0)))))) PB.LW
abbrev gk:Stmt:=top 28
def qH:aJ ["web"] ["web"] (au gk):=by ac_rfl
def qI (T:Txt K mg)(h0:tF P w K mg base)(r:Rec K "refuse_no_tree" gk):eL P w K mg base :=
 aV T.ns r (by ac_nf) fun F=>bA (m:=0) F qH rfl (by decide) (d:=gS C6) (fun cdv A outer s H Ex hr=>aq (iW (yZ (bT.st (tB (aG h0 aN hr (aP 0 a0))))) (aq (qG T.Ox)) (cR))) PB.Om
abbrev kY:Stmt:=top 14
def iC:aJ ["web","looks","last","look"] ["web","looks"] (au kY):=by ac_rfl
def zP (T:Txt K mg)(r:Rec K "are_looks" kY):pY P w K mg base :=
 aV T.ns r (by ac_nf) fun F=>bA (m:=2) F iC rfl (by decide) (d:=mz) (fun cdv A outer s H Ex hr=>have hu:=hr.units;aj (bM 2 iC.nd (Q8 (aE (xI) a0))) (aj (mP Te iC.nd (fM (xV 1)) (gN 3) (aj (iW (yZ (bT.st (vI tU tU rfl (xV 2) (xV 3) (bW hu (aP 0 (aE (xI) a0)))))) (aq (bV (xB))) (cR)) (aq (bM 2 iC.nd (xV 3))))) (aq (bV (xB))))) PB.Nl
abbrev eU:Stmt:=top 15
def mU:aJ ["web","looks"] ["web","looks"] (au eU):=by ac_rfl
def nq (T:Txt K mg)(h0:pY P w K mg base)(r:Rec K "refuse_wrong_looks" eU):c8 P w K mg base :=
 aV T.ns r (by ac_nf) fun F=>bA (m:=0) F mU rfl (by decide) (d:=fh Cw) (fun cdv A outer s H Ex hr=>aq (iW (yZ (bT.st (tB (aG h0 aN hr (aP 0 (aP 1 a0)))))) (aq (qG T.Lx)) (cR))) PB.Ou
abbrev kX:Stmt:=top 13
def iL:aJ ["web","kind","many","ties","places","joins"] ["web","kind"] (au kX):=by ac_rfl
def zm (T:Txt K mg)(r:Rec K "things_of" kX):kK P w K mg base :=
 aV T.ns r (by ac_nf) fun F=>bA (m:=4) F iL rfl (by decide) (d:=mD) (fun cdv A outer s H Ex hr=>have hu:=hr.units;aj (CG iL.nd (gC 2 (gC 3 g0)) (xV 0)) (aj (bM 4 iL.nd (CL (bT.st (Ji hu (aP 1 (aE (xS) a0)))) (fL a0) (Eu T.list T.range (aP 2 a0)))) (aj (bM 5 iL.nd (CL (bT.st (Ji hu (aP 1 (aE (xS) a0)))) (fL a0) (lV T.list (aP 3 a0)))) (aq (bV (gU (aP 4 (aP 5 a0)))))))) PB.Mv
abbrev f6:Stmt:=top 9
def pF:aJ ["web","place"] ["web","place"] (au f6):=by ac_rfl
def pB (T:Txt K mg)(r:Rec K "refuse_no_place" f6):fV P w K mg base :=
 aV T.ns r (by ac_nf) fun F=>bA (m:=0) F pF rfl (by decide) (d:=gx) (fun cdv A outer s H Ex hr=>have hu:=hr.units;aq (iW (yZ (bT.st (vI ID tU rfl (xI) (xV 1) (bW hu (aP 0 (aE (xI) a0)))))) (aq (qG T.Kv)) (cR))) PB.LJ
abbrev fX:Stmt:=top 7
def dS:aJ ["web","many","ties","lists","one","other"] ["web"] (au fX):=by ac_rfl
def pV (T:Txt K mg)(r:Rec K "neighbour_lists" fX):fW P w K mg base :=
 aV T.ns r (by ac_nf) fun F=>bA (m:=6) F dS rfl (by decide) (d:=gu) (fun cdv A outer s H Ex hr=>aj (CG dS.nd (gC 1 (gC 2 g0)) (xV 0)) (aj (Ra (j:=3) dS.nd (vs:=["place"]) (NB:=["place"]) (ix:=[]) (by rfl) (zZ T.range (aP 1 a0)) (fun _ _ _ _=>gN 0) (fun _ _ _ _=>.nil) (fun _ _ _ _=>fL a0)) (aj (mP Te dS.nd (fM (xV 2)) (gT (gC 4 (gC 5 g0))) (aj (d8 (P7 3 5 iu iK Ux Uy (xV 4))) (aq (d8 (P7 3 4 iu iK Ux Uy (xV 5)))))) (aq (tT 3))))) PB.Nk
abbrev iJ:Stmt:=top 8
def cz:aJ ["web","place","lists","fars","edge","reached","here","there"] ["web","place"] (au iJ):=by ac_rfl
def tS (T:Txt K mg)(h0:fW P w K mg base)(r:Rec K "fars_or_none" iJ):lN P w K mg base :=
 aV T.ns r (by ac_nf) fun F=>bA (m:=6) F cz rfl (by decide) (d:=ja vt) (fun cdv A outer s H Ex hr=>have hu:=hr.units;aj (bM 2 cz.nd (aG h0 aN hr (aP 0 a0))) (aj (bM 3 cz.nd (oZ (aE (fL (aE (xN) a0)) (aE (bW hu (aP 0 (aE (xI) a0))) a0)))) (aj (xx 3 hu (xI) (xV 1)) (aj (bM 4 cz.nd (fL (aP 1 a0))) (aj (Gu Te (tV 4) (aj (bM 5 cz.nd (fL a0)) (aj (mP Te cz.nd (fM (xV 4)) (gN 6) (aq (mP Te cz.nd (fM (bW hu (aP 2 (aP 6 a0)))) (gN 7) (aq (iW (bT.st (LN (aE (bW hu (aP 3 (aP 7 a0))) (aE (xN) a0)))) (aj (xx 3 hu (gU (aE (bW hu (aP 3 (aP 6 a0))) (aE (xI) a0))) (xV 7)) (aq (d8 (xM 5 iu iK Ux Uy (eC (xV 7) e0))))) (cR)))))) (aq (bM 4 cz.nd (xV 5)))))) (aq (tT 3))))))) PB.LL
abbrev kD:Stmt:=top 10
def yJ:aJ ["web","place"] ["web","place"] (au kD):=by ac_rfl
def xm (T:Txt K mg)(h0:fV P w K mg base)(h1:lN P w K mg base)(r:Rec K "fars_from" kD):lD P w K mg base :=
 aV T.ns r (by ac_nf) fun F=>bA (m:=0) F yJ rfl (by decide) (d:=mw vp BO) (fun cdv A outer s H Ex hr=>aj (d8 (aG h0 aN hr (aP 0 (aP 1 a0)))) (aq (bV (aG h1 aN hr (aP 0 (aP 1 a0)))))) PB.LQ
abbrev jR:Stmt:=top 11
def wF:aJ ["fars","tie"] ["fars","tie"] (au jR):=by ac_rfl
def wN (T:Txt K mg)(r:Rec K "nearer_end" jR):oN P w K mg base :=
 aV T.ns r (by ac_nf) fun F=>bA (m:=0) F wF rfl (by decide) (d:=kW) (fun cdv A outer s H Ex hr=>have hu:=hr.units;aq (bV (G6 T.min (aE (bW hu (aP 0 (aE (bW hu (aP 1 (aE (xI) a0))) a0))) (aE (bW hu (aP 0 (aE (bW hu (aP 1 (aE (xI) a0))) a0))) a0))))) PB.MZ
abbrev kO:Stmt:=top 18
def xq:aJ ["fars","thing"] ["fars","thing"] (au kO):=by ac_rfl
def yd (T:Txt K mg)(h0:oN P w K mg base)(r:Rec K "thing_far" kO):kU P w K mg base :=
 aV T.ns r (by ac_nf) fun F=>bA (m:=0) F xq rfl (by decide) (d:=mO BK) (fun cdv A outer s H Ex hr=>have hu:=hr.units;aj (iW (bT.st (tB (Il T.kit T.isinstance T.int Wi (aP 1 a0)))) (aq (bV (bW hu (aP 0 (aP 1 a0))))) (cR)) (aq (bV (aG h0 aN hr (aP 0 (aP 1 a0)))))) PB.Nz
abbrev l6:Stmt:=top 19
def q8:aJ ["web","looks","things","rows"] ["web","looks","things"] (au l6):=by ac_rfl
def Aj (T:Txt K mg)(h0:lD P w K mg base)(h1:kU P w K mg base)(r:Rec K "codes_of" l6):l8 P w K mg base :=
 aV T.ns r (by ac_nf) fun F=>bA (m:=3) F q8 rfl (by decide) (d:=nQ uN vf) (fun cdv A outer s H Ex hr=>aj (bM 3 q8.nd (g8 (vs:=["look"]) (NB:=["look","web"]) (ix:=[0]) (by rfl) (fM (xV 1)) (fun _ _ _ _=>gN 0) (fun _ _ _ _=>.nil) (fun _ _ _ _ _=>dH (aG h0 j6 hr (aP 1 (aP 0 a0)))))) (aq (bV (G8 (cx:="thing") (vs:=["thing"]) (NB:=["thing","rows"]) (ix:=[3]) (by rfl) (fM (xV 2)) (fun _ _ _ _ _=>gN 0) (fun _ _ _ _ _=>.nil) (fun _ _ _ _ _ _=>dH (g8 (vs:=["fars"]) (NB:=["fars","thing"]) (ix:=[0]) (by rfl) (fM (xV 1)) (fun _ _ _ _=>gN 0) (fun _ _ _ _=>.nil) (fun _ _ _ _ _=>dH (aG h1 j6 hr (aP 0 (aP 1 a0)))))))))) PB.OG
abbrev mq:Stmt:=top 24
def jw:aJ ["web","looks","kind","things","alike","thing","code"] ["web","looks","kind"] (au mq):=by ac_rfl
def Aa (T:Txt K mg)(h0:c8 P w K mg base)(h1:kK P w K mg base)(h2:l8 P w K mg base)(r:Rec K "likes_by" mq):mH P w K mg base :=
 aV T.ns r (by ac_nf) fun F=>bA (m:=5) F jw rfl (by decide) (d:=nO nW vq uH) (fun cdv A outer s H Ex hr=>have hu:=hr.units;aj (d8 (aG h0 aN hr (aP 0 (aP 1 a0)))) (aj (bM 3 jw.nd (aG h1 aN hr (aP 0 (aP 2 a0)))) (aj (bM 4 jw.nd (Pd)) (aj (mP Te jw.nd (GJ T.zip (xV 3) (aG h2 aN hr (aP 0 (aP 1 (aP 3 a0))))) (gT (gC 5 (gC 6 g0))) (aq (d8 (Q0 4 6 5 hu T.tuple)))) (aq (bV (g8 (vs:=["group"]) (NB:=["group"]) (ix:=[]) (by rfl) (Od 4) (fun _ _ _ _=>gN 0) (fun _ _ _ _=>.one (bT.st (Jm (aE (jm T.len (aP 0 a0)) (aE (xI) a0))))) (fun _ _ _ _ _=>dH (xV 0))))))))) PB.NZ
abbrev jT:Stmt:=top 31
def oG:aJ ["web","looks","kind","likes"] ["web","looks","kind"] (au jT):=by ac_rfl
def wQ (T:Txt K mg)(h0:eL P w K mg base)(h1:mH P w K mg base)(r:Rec K "tree_likes" jT):oJ P w K mg base :=
 aV T.ns r (by ac_nf) fun F=>bA (m:=1) F oG rfl (by decide) (d:=lC qm uE) (fun cdv A outer s H Ex hr=>have hu:=hr.units;aj (d8 (aG h0 aN hr (aP 0 a0))) (aj (bM 3 oG.nd (aG h1 aN hr (aP 0 (aP 1 (aP 2 a0))))) (aq (bV (CL (tV 3) (uX (aE (bW hu (aE (bW hu (aP 3 (aE (xI) a0))) (aE (xI) a0))) (aE (bW hu (aE (bW hu (aP 3 (aE (xI) a0))) (aE (xI) a0))) a0))) (xN)))))) PB.Nc
abbrev iU:Stmt:=top 29
def dZ:aJ ["lists","place","neighbour","piece","steps","last","here"] ["lists","place","neighbour"] (au iU):=by ac_rfl
def uq (T:Txt K mg)(r:Rec K "piece_behind" iU):lI P w K mg base :=
 aV T.ns r (by ac_nf) fun F=>bA (m:=5) F dZ rfl (by decide) (d:=jl) (fun cdv A outer s H Ex hr=>have hu:=hr.units;aj (bM 3 dZ.nd (fL a0)) (aj (bM 4 dZ.nd (fL (aE (uX (aP 1 (aP 2 a0))) a0))) (aj (Gu Te (tV 4) (aj (CG dZ.nd (gC 5 (gC 6 g0)) (xM 4 BG AW PySem.F.slot_list_pop PySem.F.type_list_pop (e0))) (aj (d8 (xM 3 iu iK Ux Uy (eC (xV 6) e0))) (aq (Rg 4 dZ.nd (g8 (vs:=["there"]) (NB:=["there","here","last"]) (ix:=[6,5]) (by rfl) (fM (bW hu (aP 0 (aP 6 a0)))) (fun _ _ _ _=>gN 0) (fun _ _ _ _=>.one (bT.st (DG hu (aP 0 (aP 2 a0))))) (fun _ _ _ _ _=>dH (uX (aP 1 (aP 0 a0)))))))))) (aq (bV (Ec T.sorted (aP 3 a0))))))) PB.MA
abbrev kF:Stmt:=top 30
def qd:aJ ["web","place","lists"] ["web","place"] (au kF):=by ac_rfl
def x8 (T:Txt K mg)(h0:eL P w K mg base)(h1:fV P w K mg base)(h2:fW P w K mg base)(h3:lI P w K mg base)(r:Rec K "pieces_at" kF):oW P w K mg base :=
 aV T.ns r (by ac_nf) fun F=>bA (m:=2) F qd rfl (by decide) (d:=mC qm vp vt Cy) (fun cdv A outer s H Ex hr=>have hu:=hr.units;aj (d8 (aG h0 aN hr (aP 0 a0))) (aj (d8 (aG h1 aN hr (aP 0 (aP 1 a0)))) (aj (bM 2 qd.nd (aG h2 aN hr (aP 0 a0))) (aq (bV (g8 (vs:=["neighbour"]) (NB:=["neighbour","lists","place"]) (ix:=[2,1]) (by rfl) (fM (bW hu (aP 2 (aP 1 a0)))) (fun _ _ _ _=>gN 0) (fun _ _ _ _=>.nil) (fun _ _ _ _ _=>dH (aG h3 j6 hr (aP 1 (aP 2 (aP 0 a0))))))))))) PB.MW
abbrev fY:Stmt:=top 32
def oU:aJ ["web","looks","place"] ["web","looks","place"] (au fY):=by ac_rfl
def pS (T:Txt K mg)(h0:oW P w K mg base)(r:Rec K "looks_in_pieces" fY):jH P w K mg base :=
 aV T.ns r (by ac_nf) fun F=>bA (m:=2) F oU rfl (by decide) (d:=gA CM) (fun cdv A outer s H Ex hr=>have hu:=hr.units;aq (bV (Ec T.sorted (aE (G8 (cx:="piece") (vs:=["piece"]) (NB:=["piece","looks"]) (ix:=[1]) (by rfl) (fM (aG h0 aN hr (aP 0 (aP 2 a0)))) (fun _ _ _ _ _=>gN 0) (fun _ _ _ _ _=>.nil) (fun _ _ _ _ _ _=>dH (jm T.len (aE (g8 (vs:=["look"]) (NB:=["look","piece"]) (ix:=[0]) (by rfl) (fM (xV 1)) (fun _ _ _ _=>gN 0) (fun _ _ _ _=>.one (bT.st (Qu hu (aP 0 (aP 1 a0))))) (fun _ _ _ _ _=>dH (xV 0))) a0)))) a0)))) PB.NW
abbrev gP:Stmt:=top 33
def kT:aJ ["web","looks","kind","counts"] ["web","looks","kind"] (au gP):=by ac_rfl
def sO (T:Txt K mg)(h0:eL P w K mg base)(h1:c8 P w K mg base)(h2:kK P w K mg base)(h3:jH P w K mg base)(r:Rec K "tree_strength" gP):kG P w K mg base :=
 aV T.ns r (by ac_nf) fun F=>bA (m:=2) F kT rfl (by decide) (d:=iO qm nW vq C9) (fun cdv A outer s H Ex hr=>have hu:=hr.units;aj (d8 (aG h0 aN hr (aP 0 a0))) (aj (d8 (aG h1 aN hr (aP 0 (aP 1 a0)))) (aj (iW (bT.st (MM (aE (jm T.len (aE (aG h2 aN hr (aP 0 (aP 2 a0))) a0)) (aE (xI) a0)))) (aq (bV (xN))) (cR)) (aj (QZ (j:=3) kT.nd (vs:=["place"]) (NB:=["place","web","looks"]) (ix:=[0,1]) (by rfl) (zZ T.range (aE (bW hu (aP 0 (aE (xI) a0))) a0)) (fun _ _ _ _=>gN 0) (fun _ _ _ _=>.nil) (fun _ _ _ _ _=>dH (aG h3 j6 hr (aP 1 (aP 2 (aP 0 a0)))))) (aj (iW (bT.st (Ji hu (aP 2 (aE (xS) a0)))) (aq (bV (OV T.min (aE (g8 (vs:=["row"]) (NB:=["row"]) (ix:=[]) (by rfl) (fM (xV 3)) (fun _ _ _ _=>gN 0) (fun _ _ _ _=>.nil) (fun _ _ _ _ _=>dH (bW hu (aP 0 (aE (xI) a0))))) a0)))) (cR)) (aq (bV (PU T.min (aE (g8 (vs:=["row"]) (NB:=["row"]) (ix:=[]) (by rfl) (fM (xV 3)) (fun _ _ _ _=>gN 0) (fun _ _ _ _=>.one (bT.st (Jm (aE (jm T.len (aP 0 a0)) (aE (xI) a0))))) (fun _ _ _ _ _=>dH (gU (aE (bW hu (aP 0 (aE (xI) a0))) (aE (bW hu (aP 0 (aE (xI) a0))) a0))))) (aE (jm T.len (aP 1 a0)) a0)))))))))) PB.ND
abbrev mE:Stmt:=top 25
def z9:aJ ["web","looks","kind"] ["web","looks","kind"] (au mE):=by ac_rfl
def Ah (T:Txt K mg)(h0:mH P w K mg base)(r:Rec K "is_known" mE):rq P w K mg base :=
 aV T.ns r (by ac_nf) fun F=>bA (m:=0) F z9 rfl (by decide) (d:=nJ uE) (fun cdv A outer s H Ex hr=>aq (bV (OH (aG h0 aN hr (aP 0 (aP 1 (aP 2 a0))))))) PB.L4
abbrev mK:Stmt:=top 16
def Ac:aJ ["web","thing"] ["web","thing"] (au mK):=by ac_rfl
def Ad (T:Txt K mg)(r:Rec K "is_thing" mK):qM P w K mg base :=
 aV T.ns r (by ac_nf) fun F=>bA (m:=0) F Ac rfl (by decide) (d:=nF) (fun cdv A outer s H Ex hr=>have hu:=hr.units;aj (iW (bT.st (tB (Il T.kit T.isinstance T.int Wi (aP 1 a0)))) (aq (bV (Ii ID tU rfl (xI) (xV 1) (bW hu (aP 0 (aE (xI) a0)))))) (cR)) (aq (bV (Qo hu (aP 1 (aE (bW hu (aP 0 (aE (xI) a0))) a0)))))) PB.NQ
abbrev fQ:Stmt:=top 17
def pU:aJ ["web","thing"] ["web","thing"] (au fQ):=by ac_rfl
def qa (T:Txt K mg)(h0:qM P w K mg base)(r:Rec K "refuse_no_thing" fQ):fS P w K mg base :=
 aV T.ns r (by ac_nf) fun F=>bA (m:=0) F pU rfl (by decide) (d:=gz Dd) (fun cdv A outer s H Ex hr=>aq (iW (yZ (bT.st (tB (aG h0 aN hr (aP 0 (aP 1 a0)))))) (aq (qG T.Lh)) (cR))) PB.LV
abbrev nP:Stmt:=top 20
def CK:aJ ["web","looks","thing"] ["web","looks","thing"] (au nP):=by ac_rfl
def Co (T:Txt K mg)(h0:c8 P w K mg base)(h1:fS P w K mg base)(h2:l8 P w K mg base)(r:Rec K "code_of" nP):sY P w K mg base :=
 aV T.ns r (by ac_nf) fun F=>bA (m:=0) F CK rfl (by decide) (d:=oY nW sL uH) (fun cdv A outer s H Ex hr=>have hu:=hr.units;aj (d8 (aG h0 aN hr (aP 0 (aP 1 a0)))) (aj (d8 (aG h1 aN hr (aP 0 (aP 2 a0)))) (aq (bV (bW hu (aE (aG h2 aN hr (aP 0 (aP 1 (aE (fL (aP 2 a0)) a0)))) (aE (xI) a0))))))) PB.M5
abbrev jX:Stmt:=top 22
def wL:aJ ["rows","one","other"] ["rows","one","other"] (au jX):=by ac_rfl
def wH (T:Txt K mg)(h0:kU P w K mg base)(r:Rec K "parters_by" jX):oS P w K mg base :=
 aV T.ns r (by ac_nf) fun F=>bA (m:=2) F wL rfl (by decide) (d:=kR vf) (fun cdv A outer s H Ex hr=>have hu:=hr.units;aq (bV (g8 (vs:=["place","fars"]) (NB:=["place","fars","one","other"]) (ix:=[1,2]) (by rfl) (Mh T.enumerate (xV 0)) (fun _ _ _ _=>gT (gC 0 (gC 1 g0))) (fun _ _ _ _=>.one (bT.st (DG hu (aE (aG h0 j6 hr (aP 1 (aP 2 a0))) (aE (aG h0 j6 hr (aP 1 (aP 3 a0))) a0))))) (fun _ _ _ _ _=>dH (xV 0))))) PB.Oc
abbrev l5:Stmt:=top 21
def Ak:aJ ["web"] ["web"] (au l5):=by ac_rfl
def z5 (T:Txt K mg)(h0:lD P w K mg base)(r:Rec K "far_rows" l5):qX P w K mg base :=
 aV T.ns r (by ac_nf) fun F=>bA (m:=1) F Ak rfl (by decide) (d:=nL uN) (fun cdv A outer s H Ex hr=>have hu:=hr.units;aq (bV (g8 (vs:=["place"]) (NB:=["place","web"]) (ix:=[0]) (by rfl) (zZ T.range (aE (bW hu (aP 0 (aE (xI) a0))) a0)) (fun _ _ _ _=>gN 0) (fun _ _ _ _=>.nil) (fun _ _ _ _ _=>dH (aG h0 j6 hr (aP 1 (aP 0 a0))))))) PB.NX
abbrev jO:Stmt:=top 23
def wO:aJ ["web","one","other"] ["web","one","other"] (au jO):=by ac_rfl
def wK (T:Txt K mg)(h0:fS P w K mg base)(h1:oS P w K mg base)(h2:qX P w K mg base)(r:Rec K "parters_of" jO):oB P w K mg base :=
 aV T.ns r (by ac_nf) fun F=>bA (m:=0) F wO rfl (by decide) (d:=kC sL Cj C7) (fun cdv A outer s H Ex hr=>aj (d8 (aG h0 aN hr (aP 0 (aP 1 a0)))) (aj (d8 (aG h0 aN hr (aP 0 (aP 2 a0)))) (aq (bV (aG h1 aN hr (aE (aG h2 aN hr (aP 0 a0)) (aP 1 (aP 2 a0)))))))) PB.Ma
abbrev kJ:Stmt:=top 43
def iI:aJ ["web","looks","kind","found","strength","told"] ["web","looks","kind"] (au kJ):=by ac_rfl
def zk (T:Txt K mg)(h0:oJ P w K mg base)(h1:kG P w K mg base)(h2:rq P w K mg base)(h3:sY P w K mg base)(h4:oB P w K mg base)(r:Rec K "_law_known" kJ):qh P w K mg base :=
 aV T.ns r (by ac_nf) fun F=>bA (m:=4) F iI rfl (by decide) (d:=gR Cm Cs Ck CP BY) (fun cdv A outer s H Ex hr=>have hu:=hr.units;aj (bM 3 iI.nd (aG h0 aN hr (aP 0 (aE (lV T.list (aP 1 a0)) (aP 2 a0))))) (aj (bM 4 iI.nd (aG h1 aN hr (aP 0 (aE (lV T.list (aP 1 a0)) (aP 2 a0))))) (aj (bM 5 iI.nd (aG h2 aN hr (aP 0 (aE (lV T.list (aP 1 a0)) (aP 2 a0))))) (aj (iW (bT.st (qj.AZ (oV (By (tB (Il T.kit T.isinstance T.bool PyProof.Rows.boot_bool (aP 5 a0)))) (oV (DG hu (aP 5 (aE (Qt (aP 3 (aE (xN) a0))) a0))) (qt (DG hu (aP 5 (aE (PV (Qt (aP 4 (aE (xN) a0))) (MJ (RG (aP 4 (aE (xI) a0))))) a0)))))))) (aq (bV (xN))) (cR)) (zo (iW (bT.st (QY (aP 3 (aE (xN) a0)))) (aj (iW (bT.st (DG hu (aE (aG h3 aN hr (aP 0 (aE (lV T.list (aP 1 a0)) (aE (bW hu (aP 3 (aE (xI) a0))) a0)))) (aE (aG h3 aN hr (aP 0 (aE (lV T.list (aP 1 a0)) (aE (bW hu (aP 3 (aE (xI) a0))) a0)))) a0)))) (aq (bV (xN))) (cR)) (aq (iW (bT.st (tB (QE T.any (aE (g8 (vs:=["look"]) (NB:=["look","looks"]) (ix:=[1]) (by rfl) (fM (aG h4 aN hr (aP 0 (aE (bW hu (aP 3 (aE (xI) a0))) (aE (bW hu (aP 3 (aE (xI) a0))) a0))))) (fun _ _ _ _=>gN 0) (fun _ _ _ _=>.nil) (fun _ _ _ _ _=>dH (Qo hu (aP 0 (aP 1 a0))))) a0)))) (aq (bV (xN))) (cR)))) (cR)) (aq (tT 5))))))) PB.K9
abbrev zN:Stmt:=top 44
def fB:aJ ["script","cells","k","pool","web","ends","at","looks","more","kind","told","beyond"] ["script"] (au zN):=by ac_rfl
def Mm (T:Txt K mg)(h0:pR P w K mg base)(h1:rB P w K mg base)(h2:qO P w K mg base)(h3:gI P w K mg base)(h4:qQ P w K mg base)(h5:pW P w K mg base)(h6:qh P w K mg base){f:Addr}{fd:FuncData}(F:uB K "law" "law" zN f fd):gn P w K mg base (fN P w) 8 f fd ["script"] (cC mg K [false] uP) :=
 bA (m:=11) F fB rfl (by decide) (d:=om tw xh wX jy CY tY w4) (fun cdv A outer s H Ex hr=>have hu:=hr.units;aj (bM 1 fB.nd (aG h0 aN hr (aP 0 (aE (xI) a0)))) (aj (mP Te fB.nd (zZ T.range (aE (HD T.max (aE (xI) (aE (jm T.len (aP 1 a0)) a0))) a0)) (gN 2) (aj (bM 3 fB.nd (aG h1 aN hr (aP 1 (aP 2 a0)))) (aj (bM 4 fB.nd (aG h2 aN hr (aP 3 (aE (bW hu (aE (fL (aE (xI) (aE (xI) a0))) (aE (Q3 T.int (aE (Qs hu (aE (aG h3 aN hr (aP 3 (aE (xI) a0))) (aE (xI) a0))) a0)) a0))) a0)))) (aj (bM 5 fB.nd (aG h4 aN hr (aP 4 a0))) (aj (bM 6 fB.nd (aG h3 aN hr (aP 3 (aE (gU (aE (jm T.len (aP 5 a0)) (aE (xI) a0))) a0)))) (aq (mP Te fB.nd (fM (fL (aE (aG h5 aN hr (aP 3 (aE (bW hu (aP 4 (aE (xI) a0))) a0))) (aP 5 (aE (gU (aE (Ef (aP 5 (aP 6 a0))) (aE (N6 (aP 5 (aE (gU (aP 6 (aE (xI) a0))) a0))) a0))) a0))))) (gN 7) (aj (bM 8 fB.nd (NI T.sorted T.set (aE (gU (aP 7 (aE (fL (aE (aG h3 aN hr (aP 3 (aE (bW hu (aP 4 (aE (xI) a0))) a0))) a0)) a0))) a0))) (aq (mP Te fB.nd (fM (fL (aE (xS) (aE (xS) (aE (xS) a0))))) (gN 9) (aj (bM 10 fB.nd (aG h6 aN hr (aP 4 (aP 7 (aP 9 a0))))) (aj (bM 11 fB.nd (aG h6 aN hr (aP 4 (aP 8 (aP 9 a0))))) (aq (iW (bT.st (qj.AZ (oV (LN (aP 10 (aE (xN) a0))) (oV (LN (aP 11 (aE (xN) a0))) (qt (qj.AZ (Ks (tB (xV 10)) (qt (By (tB (xV 11))))))))))) (aq (bV (xB))) (cR))))))))))))))) (aq (bV (xB))))) PB.Gz
end
def all_mk {l:OpenLaw}{w:World}{K:Frag}{h:Heap}{mg:XG}{fa:Addr}(X:K.In h)(G:h.Ns mainGlobals mg)(hfa:mg "law"=some (.ref fa))
  (qd00:Rec K "_law_cells" ko)
  (qd01:Rec K "_law_pool" mJ)
  (qd02:Rec K "_law_take" mF)
  (qd03:Rec K "_law_some" mG)
  (qd04:Rec K "_law_named" kj)
  (qd05:Rec K "_law_tree" l7)
  (qd06:Rec K "_law_ends" mj)
  (qd07:Rec K "_law_looks" ku)
  (qd08:Rec K "is_tree" oj)
  (qd09:Rec K "refuse_no_tree" gk)
  (qd10:Rec K "are_looks" kY)
  (qd11:Rec K "refuse_wrong_looks" eU)
  (qd12:Rec K "things_of" kX)
  (qd13:Rec K "refuse_no_place" f6)
  (qd14:Rec K "neighbour_lists" fX)
  (qd15:Rec K "fars_or_none" iJ)
  (qd16:Rec K "fars_from" kD)
  (qd17:Rec K "nearer_end" jR)
  (qd18:Rec K "thing_far" kO)
  (qd19:Rec K "codes_of" l6)
  (qd20:Rec K "likes_by" mq)
  (qd21:Rec K "tree_likes" jT)
  (qd22:Rec K "piece_behind" iU)
  (qd23:Rec K "pieces_at" kF)
  (qd24:Rec K "looks_in_pieces" fY)
  (qd25:Rec K "tree_strength" gP)
  (qd26:Rec K "is_known" mE)
  (qd27:Rec K "is_thing" mK)
  (qd28:Rec K "refuse_no_thing" fQ)
  (qd29:Rec K "code_of" nP)
  (qd30:Rec K "parters_by" jX)
  (qd31:Rec K "far_rows" l5)
  (qd32:Rec K "parters_of" jO)
  (qd33:Rec K "_law_known" kJ)
  (qd34:Rec K "law" zN)
  (zabs:nsIn K mainGlobals "abs"=some none)
  (zany:nsIn K mainGlobals "any"=some none)
  (zbool:nsIn K mainGlobals "bool"=some none)
  (zenumerate:nsIn K mainGlobals "enumerate"=some none)
  (zint:nsIn K mainGlobals "int"=some none)
  (zisinstance:nsIn K mainGlobals "isinstance"=some none)
  (zlen:nsIn K mainGlobals "len"=some none)
  (zlist:nsIn K mainGlobals "list"=some none)
  (zmax:nsIn K mainGlobals "max"=some none)
  (zmin:nsIn K mainGlobals "min"=some none)
  (zrange:nsIn K mainGlobals "range"=some none)
  (zset:nsIn K mainGlobals "set"=some none)
  (zsorted:nsIn K mainGlobals "sorted"=some none)
  (ztuple:nsIn K mainGlobals "tuple"=some none)
  (zzip:nsIn K mainGlobals "zip"=some none)
  (xNoLooks:xU K "NoLooks")
  (xNoPlace:xU K "NoPlace")
  (xNoThing:xU K "NoThing")
  (xNoTree:xU K "NoTree")
  (kit:zY K ["bool","int"]=true) :
  ∃ fd:FuncData,(∀ (s:Shared)(v:Value),BindsTo s fd ⟨[v],[]⟩ [("script",v)])/\∀ base:Heap,K.In base->base.Ns mainGlobals mg->gn l.prog w K mg base (fN l.prog w) 8 fa fd ["script"] (cC mg K [false] uP):=by
 have T:Txt K mg:=⟨T9 X G zabs,T9 X G zany,T9 X G zbool,T9 X G zenumerate,T9 X G zint,T9 X G zisinstance,T9 X G zlen,T9 X G zlist,T9 X G zmax,T9 X G zmin,T9 X G zrange,T9 X G zset,T9 X G zsorted,T9 X G ztuple,T9 X G zzip,(let ⟨C,h1,h2⟩:=xNoLooks;⟨C,mg_of X G h1,h2⟩),(let ⟨C,h1,h2⟩:=xNoPlace;⟨C,mg_of X G h1,h2⟩),(let ⟨C,h1,h2⟩:=xNoThing;⟨C,mg_of X G h1,h2⟩),(let ⟨C,h1,h2⟩:=xNoTree;⟨C,mg_of X G h1,h2⟩),kit,⟨h,X,G⟩⟩
 obtain ⟨fl,fdl,nl,Fl⟩:=qd34;have e:=hfa.symm.trans (mg_of X G nl);cases e;refine ⟨fdl,?_,fun base _ _=>?_⟩
 ·obtain ⟨_,_,_,_,_,_,_,_,_,rfl,_,_⟩:=Fl.ex;exact fun s v=>.of_eq rfl
 have Hd00:=zd (P:=l.prog) (w:=w) (base:=base) T qd00;have Hd01:=Au (P:=l.prog) (w:=w) (base:=base) T qd01;have Hd02:=Ao (P:=l.prog) (w:=w) (base:=base) T qd02;have Hd03:=Am T Hd02 qd03;have Hd04:=yY T Hd03 qd04;have Hd05:=As T Hd02 Hd04 qd05;have Hd06:=Aq (P:=l.prog) (w:=w) (base:=base) T qd06;have Hd07:=yw T Hd02 qd07;have Hd08:=CD (P:=l.prog) (w:=w) (base:=base) T qd08;have Hd09:=qI T Hd08 qd09;have Hd10:=zP (P:=l.prog) (w:=w) (base:=base) T qd10;have Hd11:=nq T Hd10 qd11;have Hd12:=zm (P:=l.prog) (w:=w) (base:=base) T qd12;have Hd13:=pB (P:=l.prog) (w:=w) (base:=base) T qd13;have Hd14:=pV (P:=l.prog) (w:=w) (base:=base) T qd14;have Hd15:=tS T Hd14 qd15;have Hd16:=xm T Hd13 Hd15 qd16;have Hd17:=wN (P:=l.prog) (w:=w) (base:=base) T qd17;have Hd18:=yd T Hd17 qd18;have Hd19:=Aj T Hd16 Hd18 qd19;have Hd20:=Aa T Hd11 Hd12 Hd19 qd20;have Hd21:=wQ T Hd09 Hd20 qd21;have Hd22:=uq (P:=l.prog) (w:=w) (base:=base) T qd22;have Hd23:=x8 T Hd09 Hd13 Hd14 Hd22 qd23;have Hd24:=pS T Hd23 qd24;have Hd25:=sO T Hd09 Hd11 Hd12 Hd24 qd25;have Hd26:=Ah T Hd20 qd26;have Hd27:=Ad (P:=l.prog) (w:=w) (base:=base) T qd27;have Hd28:=qa T Hd27 qd28;have Hd29:=Co T Hd11 Hd28 Hd19 qd29;have Hd30:=wH T Hd18 qd30;have Hd31:=z5 T Hd16 qd31;have Hd32:=wK T Hd28 Hd30 Hd31 qd32;have Hd33:=zk T Hd21 Hd25 Hd26 Hd29 Hd32 qd33;exact Mm T Hd00 Hd01 Hd05 Hd02 Hd06 Hd07 Hd33 Fl
def walk {l:OpenLaw}{q:Program}{loose:Xc}{XP:(XG)->Heap->Prop}{YP:World->Heap->Prop}{d:DefRec}{K:Params->Frag}(hn:l.most=some 63)(hdf:d.params.defaults=[])
  (hY:∀ (w:World)(h:Heap),YP w h->(K w.params).In h)
  (F:∀ (w:World)(mg:XG)(fa:Addr)(h:Heap),(K w.params).In h->h.Ns mainGlobals mg->mg d.name=some (.ref fa) ->
   ∃ fd:FuncData,(∀ (s:Shared)(u:Value),BindsTo s fd ⟨[u],[]⟩ [("script",u)])/\∀ base:Heap,(K w.params).In base->base.Ns mainGlobals mg->gn l.prog w (K w.params) mg base (fN l.prog w) 8 fa fd ["script"] (cC mg (K w.params) [false] uP)) :
  WalkO q loose XP YP l.row.toRowW d [] (fun f vs=>PySem.call f vs):=Fc hn hdf ⟨rfl,by decide,by decide⟩ hY F
end Ow
open PySem PySem.W PyProof.Rows Dv
set_option maxRecDepth 100000 in
set_option maxHeartbeats 0 in
theorem PySem.Challenge.cw_farhail_k22_whole_three_ways_to_know_holds : PySem.Challenge.rw_farhail_k22_whole_three_ways_to_know.Holds := by
 w_on;o_law;k_head;(case hw=>w_witness2)
 k_fill
 refine Ow.walk (l:=PySem.Challenge.rw_farhail_k22_whole_three_ways_to_know) rfl rfl (fun w h Xk=>PySem.W.kIn_of Xk) ?F
 case F =>
  intro w mg fa h KX G hmg
  refine' Ow.all_mk KX G hmg ?_ ?_ ?_ ?_ ?_ ?_ ?_ ?_ ?_ ?_ ?_ ?_ ?_ ?_ ?_ ?_ ?_ ?_ ?_ ?_ ?_ ?_ ?_ ?_ ?_ ?_ ?_ ?_ ?_ ?_ ?_ ?_ ?_ ?_ ?_ ?_ ?_ ?_ ?_ ?_ ?_ ?_ ?_ ?_ ?_ ?_ ?_ ?_ ?_ ?_ ?_ ?_ ?_ ?_ ?_
  iterate 35
   apply Mf
   iterate 4 (first | k_is | kernel_rfl)
  iterate 15
   first | k_is | kernel_rfl
  iterate 4
   apply Ky
   iterate 2 (first | k_is | kernel_rfl)
  all_goals first | kernel_rfl | k_is
