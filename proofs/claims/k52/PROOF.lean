import PyProof.Rows.All
import PySem.PyData
import Wide.All
import OpenK.AllK
import Wide.FinOn
import Lean
import PyProof.EqAt
import PyProof.EqKinds
import PyProof.TupleCall
import PyProof.SetKind
import PyProof.TupleKey
import PyProof.IsRules
import PyProof.SetRoads
import PyProof.DictKinds
import PyProof.RaisesMany
import PyProof.RulesTry
import PyProof.ExcClass2
import KE.KTryMore
import PyProof.RulesAs
import PyProof.NsDelKeeps
import KE.KDictList
import PyProof.P3In
import PyProof.Rows.SortShellK
import PyProof.TupleOfSeq
import PyProof.WalkInts
import PyProof.SeqI3
import PyProof.SumAnyB
import PyProof.Rows.SeqWords
import PyProof.ListRange
import PyProof.DictValues
import PyProof.DictWalks
import PyProof.NeKinds
import PyProof.FactsAll.list_2
import PyProof.EvalArms
import PyProof.Rows.SetObj
import KE.KRevIter
import PyProof.Rows.IntMath
import PyProof.Draws
import PyProof.ZipIter
import PyProof.EnumMake
import PySem.Challenge.RW_farhail_k52_whole_no_shares_come_to_less
set_option linter.all false
local macro_rules | `(tactic| ac_rfl) => `(tactic| exact⟨rfl,rfl,rfl,by decide +kernel,rfl,by decide +kernel,by decide +kernel⟩)
set_option genSizeOf false
set_option genInjectivity false
section
open PySem
abbrev Vp:=List (PyData×PyData)
abbrev Vq:=Array (Option Value)
abbrev Vr:=Value->Shared->Prop
abbrev Vs:=List Comprehension
abbrev Vt:=Str->Option Value
abbrev Vu:=List (Addr×Obj)
abbrev Vv:=Array DictEntry
abbrev Vw:=Int->Int->Bool
abbrev Vx:=List (Nat×Nat)
abbrev Vy:=List (Int×Int)
abbrev Vz:=PySem.W.Frag
abbrev WA:=Option Value
abbrev WB:=Array Value
abbrev WC:=List PyData
abbrev WD:=Option Addr
abbrev WH:=List Value
abbrev WI:=List Addr
abbrev WJ:=List Bool
abbrev WK:=List Expr
abbrev WM:=List Stmt
abbrev WN:=List Nat
abbrev WO:=List Int
abbrev WQ:=List Str
end
section
open PySem PySem.Spec PyProof.Rows PySem.W
def Q9:=@wpAny_bind
def R8:=@wpS_bind
def R9:=@wpS_pure
def RA:=@List.length_map
def RB:=@Nat.le_refl
def RC:=@List.mem_cons_self
def RD:=@wpAny_pure
def RE:=@List.mem_singleton
def RG:=@List.mem_map
def RH:=@List.length_range
def RI:=@List.getElem?_range
def RJ:=@Bool.and_eq_true
def RK:=@List.mem_cons_of_mem
def RL:=@Heap.lt_size
def RM:=@List.length_append
def RN:=@List.all_cons
def RO:=@List.getElem?_map
def RP:=@List.mem_cons
def RQ:=@List.size_toArray
def RS:=@List.getElem?_eq_getElem
def RT:=@List.length_cons
def RU:=@List.map_map
def RV:=@List.getD_eq_getElem?_getD
def RW:=@List.map_append
def RX:=@List.all_eq_true
def RY:=@List.mem_append
def RZ:=@Bool.false_ne_true
def Ra:=@Heap.get?_push_of_some
def Rb:=@List.getElem?_eq_none
def Rc:=@Nat.ne_of_lt
def Rf:=@List.length_set
def Rg:=@List.mem_range
def Rh:=@List.map_cons
def Ri:=@Nat.le_trans
def Rj:=@List.mem_of_getElem?
def Rk:=@List.append_assoc
def Rm:=@PassesOwn.leaving
def Rn:=@Nat.lt_of_lt_of_le
def Ro:=@decide_eq_false
def Rq:=@List.mem_flatMap
def Rr:=@wpS_mono
def Rt:=@wpS_forRange
def Ru:=@List.map_congr_left
def Rv:=@decide_eq_true
def Rw:=@List.ext_getElem?
def Rx:=@Heap.get?_push_size
def Ry:=@Int.mul_zero
def Rz:=@List.append_nil
def S3:=@Nat.zero_le
def S4:=@List.not_mem_nil
def S5:=@List.length_nil
def S6:=@Array.toList_append
def S7:=@Nat.lt_irrefl
def S8:=@List.nodup_cons
def S9:=@Int.mul_comm
def SA:=@Nat.lt_or_ge
def SD:=@List.mem_append_right
def SG:=@List.length_drop
def SH:=@List.lookup_cons
def SJ:=@wpS_modify
def SK:=@List.take_length
def SN:=@List.range_succ
def SO:=@wpAny_mono
def SQ:=@List.length_take
def SR:=@List.length_replicate
def SV:=@List.getElem?_set
def SW:=@PySem.W.kia_one
def SX:=@wpAny_rule
def SY:=@of_decide_eq_true
def Sa:=@Int.not_lt
def Sb:=@PySem.F.slot_list_append
def Sd:=@PySem.F.type_list_append
def Se:=@mg_none_of
def Sf:=@Heap.get?_update_other
def Sg:=@or_false
def Sh:=@Int.le_trans
def Si:=@List.getElem?_set_ne
def Sj:=@wpAny_holding
def Sk:=@True.intro
def Sl:=@wpAny_newObj_type
def Sm:=@Int.le_of_eq
def Sn:=@Bool.eq_iff_iff
def So:=@if_false
def Ss:=@List.replicate_succ
def Su:=@List.nodup_nil
def Sv:=@List.getElem?_of_mem
def Sw:=@Nat.add_assoc
def Sx:=@List.length_pos_iff
def Sy:=@decide_eq_true_eq
def Sz:=@Int.mul_left_comm
def T5:=@List.mem_filter
def T7:=@List.getElem?_set_self
def T8:=@Array.length_toList
def T9:=@Int.mul_one
def TF:=@wpAny_field
def TH:=@wpAny_call_entry
def TJ:=@Option.map_eq_some_iff
def TM:=@wpS_lift
def TN:=@List.take_succ
def TQ:=@numAt_eq
def TU:=@List.nil_append
def TX:=@List.nodup_range
def TY:=@Nat.not_lt_zero
def TZ:=@List.filterMap_cons
def Tc:=@wpAny_truthy_bool
def Td:=@wpAny_passesOwn
def Te:=@eq_of_beq
def Tf:=@List.flatten_cons
def Ti:=@call_meets
def Tj:=@List.any_cons
def Tn:=@List.Perm.append_left
def To:=@List.perm_append_comm
def Tp:=@List.take_of_length_le
def Tq:=@Array.getElem?_toList
def Tr:=@Nat.le_add_right
def Tt:=@Nat.min_eq_left
def Tu:=@List.cons_append
def Tv:=@Int.mul_assoc
def Tw:=@Int.le_refl
def Tz:=@Classical.byContradiction
def U0:=@List.getElem?_eq_some_iff
def U1:=@Nat.ne_of_gt
def U3:=@PyProof.Rows.callWith_type1
def U4:=@List.getElem?_append_left
def U5:=@Heap.get?_update_self
def U6:=@List.find?_cons
def U7:=@List.take_append_drop
def U8:=@Nat.add_sub_cancel_left
def U9:=@intItems_at
def UA:=@Bool.and_false
def UB:=@List.map_take
def UC:=@List.cons.injEq
def UD:=@Nat.mul_le_mul
def UE:=@List.mem_map_of_mem
def UG:=@Int.mul_sub
def UH:=@Int.le_of_lt
def UI:=@List.contains_eq_mem
def UJ:=@Int.ofNat_lt
def UK:=@PySem.mem_of_lookup
def UL:=@List.getElem?_append_right
def UM:=@List.getElem?_replicate
def UN:=@wpAny_typeOf
def UO:=@tupleKind_room_in1
def UP:=@wpAny_setField
def UQ:=@Nat.le_of_eq
def UR:=@Array.getElem?_eq_getElem
def US:=@List.Perm.append_right
def UT:=@List.drop_zero
def UU:=@Bool.false_eq_true
def UW:=@Nat.lt_succ_of_lt
def UX:=@Nat.lt_succ_self
def UY:=@List.getElem_mem
def UZ:=@Heap.SameBut.update
def Ua:=@List.cons_ne_nil
def Ub:=@List.set_comm
def Uc:=@Nat.le_total
def Ud:=@Nat.min_eq_right
def Ue:=@Nat.mod_lt
def Ug:=@List.eq_nil_of_length_eq_zero
def Uh:=@Int.natCast_nonneg
def Ui:=@wpAny_execs_nil
def Uj:=@List.of_mem_zip
def Uk:=@Int.toNat_natCast
def Ul:=@wpAny_callSpecial?_slot
def Um:=@PyProof.Rows.slot_tuple_getitem
def Uo:=@Obj.data_mapFields
def Up:=@Array.getElem?_eq_some_iff
def Uq:=@List.drop_of_length_le
def Ur:=@Array.toList_push
def Us:=@listItems_at
def Ut:=@List.sum_append
def Uu:=@Nat.sub_zero
def Uv:=@List.getElem?_zipIdx
def Uw:=@List.find?_cons_of_pos
def Ux:=@List.find?_cons_of_neg
def Uy:=@List.nodup_append
def Uz:=@wpAny_dictEntries
def V0:=@F.slot_dict_valueiterator_next
def V1:=@wpAny_typeNameOfWhole_valiter
def V2:=@wpAny_typeNameOf_valiter
def V3:=@List.set_set
def V4:=@List.flatMap_append
def V5:=@List.flatMap_cons
def V6:=@List.flatMap_nil
def V7:=@Int.mul_nonpos_of_nonpos_of_nonneg
def V8:=@Int.zero_mul
def V9:=@Nat.mod_eq_of_lt
def VA:=@List.flatten_replicate_singleton
def VB:=@List.getElem?_inj
def VC:=@Int.mul_le_mul_of_nonneg_left
def VD:=@Heap.get?_none_of_le
def VE:=@List.mem_append_left
def VF:=@List.mem_filterMap
def VG:=@Array.find?_toList
def VH:=@PySem.W.kitx_list
def VI:=@wpAny_Call_Name_kw
def VJ:=@Nat.min_le_right
def VL:=@Calls.callWith_builtin
def VM:=@Option.isSome_map
def VN:=@Obj.isFreed_of_fields
def VO:=@Array.toList_extract
def VP:=@List.extract_eq_take_drop
def VQ:=@Array.toList_reverse
def VR:=@List.reverse_perm
def VS:=@Array.perm_iff_toList_perm
def VT:=@PyProof.Rows.boot_list
def VU:=@Bool.not_eq_true'
def VV:=@PySem.F.plainAttrs_list
def VW:=@PyProof.Rows.boot_min
def VX:=@PyProof.Rows.boot_max
def VY:=@PyProof.Rows.boot_int
def VZ:=@wpAny_isOneOf_valiter
def Va:=@List.filterMap_append
def Vb:=@List.map_eq_nil_iff
def Vd:=@Nat.lt_trichotomy
def Ve:=@Option.ne_none_iff_exists'
def Vf:=@List.mem_of_mem_drop
def Vg:=@List.mem_or_eq_of_mem_set
def Vh:=@Nat.add_mul_mod_self_left
def Vi:=@List.length_filter_le
def Vj:=@PySem.F.slot_list_extend
def Vk:=@PySem.F.type_list_extend
def Vl:=@PyProof.Rows.slot_tuple_getitem.lookup
def Vm:=@F.entry_dict_valueiterator_next
def Vn:=@F.args_dict_valueiterator_next_1
def Vo:=@Int.mul_le_mul_of_nonneg_right
end
noncomputable section
namespace PySem.W.Fast
noncomputable def tw17277086567557840959:=Nat
noncomputable def tw9871478602425796520:=Nat
noncomputable def tw9214837469250261505:=Nat
noncomputable def tw5462830921508904952:=Nat
noncomputable def tw7541774550830627584:=Nat
noncomputable def tw2626050753648496224:=Nat
noncomputable def tw16843617210123467056:=Nat
noncomputable def tw13152717887193777050:=Nat
noncomputable def tw15728072789058554957:=Nat
noncomputable def tw653573856857230796:=Nat
noncomputable def tw3327197724291161561:=Nat
noncomputable def tw5021837191266009747:=Nat
noncomputable def tw7253437774194034250:=Nat
noncomputable def tw12965314664954445986:=Nat
noncomputable def tw9931278405049037309:=Nat
noncomputable def tw17950667794500993340:=Nat
noncomputable def tw5151812535999633550:=Nat
noncomputable def tw7898810511500895888:=Nat
noncomputable def tw12735113178772469392:=Nat
noncomputable def tw3792123744781710921:=Nat
noncomputable def tw10406899471032010925:=Nat
noncomputable def tw4074279104267031253:=Nat
noncomputable def tw1214339142118446994:=Nat
noncomputable def tw4279561565274731646:=Nat
noncomputable def tw4658669430108729386:=Nat
noncomputable def tw1564756750323656329:=Nat
noncomputable def tw9115458687579654225:=Nat
noncomputable def tw5995752710222625865:=Nat
noncomputable def tw2717524149891661470:=Nat
noncomputable def tw2571016654069681318:=Nat
noncomputable def tw13669745394904395871:=Nat
noncomputable def tw4216217412575197293:=Nat
noncomputable def tw7179456460579777513:=Nat
noncomputable def tw1439811605640073803:=Nat
noncomputable def tw9667112854299500235:=Nat
noncomputable def tw12954238291342938532:=Nat
noncomputable def tw4979193230160441203:=Nat
noncomputable def tw8643772302149233100:=Nat
noncomputable def tw16885955190220375988:=Nat
noncomputable def tw10302401418259446372:=Nat
noncomputable def tw5958219000266863876:=Nat
noncomputable def tw6094589275517706661:=Nat
noncomputable def tw8108908871893365542:=Nat
noncomputable def tw14840739534359810492:=Nat
noncomputable def tw10271605069465841181:=Nat
noncomputable def tw4908087296632827230:=Nat
noncomputable def tw12570469035081155063:=Nat
noncomputable def tw13702363001987460214:=Nat
noncomputable def tw3243164463490759047:=Nat
noncomputable def tw7696647757001877540:=Nat
noncomputable def tw261721581457074753:=Nat
noncomputable def tw4432073159604027144:=Nat
noncomputable def tw2890972443113375657:=Nat
noncomputable def tw17395730731520688742:=Nat
noncomputable def tw6114840069062759582:=Nat
noncomputable def tw12939217608044778634:=Nat
noncomputable def tw8628842011057440559:=Nat
noncomputable def tw2777970194010485708:=Nat
noncomputable def tw16494692407285764158:=Nat
noncomputable def tw10108293216473411937:=Nat
noncomputable def tw15447097144816842168:=Nat
noncomputable def tw2631397589912765812:=Nat
noncomputable def tw11735522361775258936:=Nat
noncomputable def tw14713088431984687377:=Nat
noncomputable def tw12583946258973780798:=Nat
noncomputable def tw14052146839707476196:=Nat
noncomputable def tw9971787702107763540:=Nat
noncomputable def tw4597153055570020439:=Nat
noncomputable def tw7366486879897795683:=Nat
noncomputable def tw7473919938449514983:=Nat
noncomputable def tw16712608216257002927:=Nat
noncomputable def tw10023200196206253304:=Nat
noncomputable def tw3786724427922763324:=Nat
noncomputable def tw2670358524751490949:=Nat
noncomputable def tw9495110062824109298:=Nat
noncomputable def tw18247874797437076146:=Nat
noncomputable def tw13331033289947432297:=Nat
noncomputable def tw3324102742920391780:=Nat
noncomputable def tw12651571899761230539:=Nat
noncomputable def tw13581058663239474752:=Nat
noncomputable def tw3924590839611621489:=Nat
noncomputable def tw519777312667171924:=Nat
noncomputable def tw1267636594146137506:=Nat
noncomputable def tw1943320017348708114:=Nat
noncomputable def tw14842764531121067283:=Nat
noncomputable def tw16634344398059641511:=Nat
noncomputable def tw13587566998793799073:=Nat
noncomputable def tw16303062624138301608:=Nat
noncomputable def tw6705069220206403928:=Nat
noncomputable def tw6843141801445252945:=Nat
noncomputable def tw217345556478519924:=Nat
noncomputable def tw18264741670909107899:=Nat
noncomputable def tw9870172448031436644:=Nat
noncomputable def tw6173690184921897743:=Nat
noncomputable def tw2809780030594719030:=Nat
noncomputable def tw11912033413666512890:=Nat
noncomputable def tw8549330103741884238:=Nat
noncomputable def tw6569021978740137979:=Nat
noncomputable def tw8970136277312950292:=Nat
noncomputable def tw16871381935770498312:=Nat
noncomputable def tw17863765506634480638:=Nat
noncomputable def tw108234916981372404:=Nat
noncomputable def tw12684155560798993159:=Nat
noncomputable def tw9667770611846378995:=Nat
noncomputable def tw14814527979490078514:=Nat
noncomputable def tw15669576940867984777:=Nat
noncomputable def tw513412402350531501:=Nat
noncomputable def tw5714164939773336546:=Nat
noncomputable def tw4807995266366441133:=Nat
noncomputable def tw14886387610484323282:=Nat
noncomputable def tw9199441511206425641:=Nat
noncomputable def tw5041863618101249168:=Nat
noncomputable def tw9748388028956542073:=Nat
noncomputable def tw3336589859640405447:=Nat
noncomputable def tw6192991283960594611:=Nat
noncomputable def tw4471441536226938320:=Nat
noncomputable def tw10832867018854005079:=Nat
noncomputable def tw9808436284235160520:=Nat
noncomputable def tw5356773422148212519:=Nat
noncomputable def tw17211883528956407707:=Nat
noncomputable def tw1112613085675873720:=Nat
noncomputable def tw13552845622829428100:=Nat
noncomputable def tw797754016163335789:=Nat
noncomputable def tw5786545636511002923:=Nat
noncomputable def tw17667230564474197027:=Nat
noncomputable def tw9885398591385285511:=Nat
noncomputable def tw478910454213896245:=Nat
noncomputable def tw6821901679710774922:=Nat
noncomputable def tw15680105466148360795:=Nat
noncomputable def tw3883130164828150825:=Nat
noncomputable def tw5967023964620715842:=Nat
noncomputable def tw8136288293674387354:=Nat
noncomputable def tw17198989209224811107:=Nat
noncomputable def tw8758889936375307217:=Nat
noncomputable def tw8764630117648492714:=Nat
noncomputable def tw7980070783911191960:=Nat
noncomputable def tw10916887197158217852:=Nat
noncomputable def tw6148637916660109720:=Nat
noncomputable def tw11242375832376394632:=Nat
noncomputable def tw6694109795365327263:=Nat
noncomputable def tw12665445163573330370:=Nat
noncomputable def tw8955128865808129:=Nat
noncomputable def tw18122231886666090871:=Nat
noncomputable def tw18399597900333778415:=Nat
noncomputable def tw14053655706266290221:=Nat
noncomputable def tw14910797502852120810:=Nat
noncomputable def tw15255296778228404733:=Nat
noncomputable def tw7105824117162045282:=Nat
noncomputable def tw14678797979134484991:=Nat
noncomputable def tw14127414016156125386:=Nat
noncomputable def tw14246633304191290799:=Nat
noncomputable def tw15797004716113107202:=Nat
noncomputable def tw17565576182128287081:=Nat
noncomputable def tw12956162336461020735:=Nat
noncomputable def tw8847085204370257525:=Nat
noncomputable def tw661250168380338364:=Nat
noncomputable def tw11212354879187977594:=Nat
noncomputable def tw16654932450569525649:=Nat
noncomputable def tw6897343842775301913:=Nat
noncomputable def tw3001084263104710577:=Nat
end PySem.W.Fast
set_option Elab.async false
set_option linter.all false
set_option maxHeartbeats 4000000
set_option maxRecDepth 100000
namespace Dv
open PySem
inductive Kd where
 |sh|ow (p:Bool)|dp (p:Bool)|dk (p:Bool)|dt (p:Bool)|st (p:Bool)
 deriving DecidableEq
noncomputable def kq (n:Nat) (i:Int):Option Nat:=if 0<=i then(if i<n then some i.toNat else none)else if-(n:Int)<=i then some (i+n).toNat else none
noncomputable def kT:PyData->Bool
 |.int _ | .str _=>true
 |_=>false
instance Q7:DecidableEq PyData:=λa b=>Classical.propDecidable (a=b)
noncomputable def cF (kvs:Vp)(k:PyData):Option PyData:=(kvs.find? λkv=>decide (kv.1=k)).map (·.2)
noncomputable def putD (kvs:Vp)(k v:PyData):Vp:=if(kvs.any λkv=>decide (kv.1=k))=true then kvs.map (λkv=>if kv.1=k then(kv.1,v)else kv)else kvs++[(k,v)]
noncomputable def hi0:Nat:=0
noncomputable def hi1:Nat:=hi0
noncomputable def hi2:Nat:=hi1
noncomputable def Q2:Nat:=hi2
noncomputable def QK:Nat:=Q2
noncomputable def QE:Nat:=QK
noncomputable def QT:Nat:=QE
noncomputable def Qy:Nat:=QT
noncomputable def Q3:Nat:=Qy
noncomputable def QB:Nat:=Q3
noncomputable def Qa:Nat:=QB
noncomputable def Pw:Nat:=Qa
noncomputable def jE:Nat:=Pw
noncomputable abbrev En:=List (Option (Kd×PyData))
noncomputable abbrev XC:=Str->PyData->Prop
noncomputable abbrev xF:XC:=λ_ _=>False
noncomputable abbrev DE:=XC->En->(En->Kd->PyData->Prop)->Prop
noncomputable abbrev DT:=XC->En->(En->Bool->Prop)->Prop
noncomputable abbrev DI:=XC->En->(En->WC->Prop)->Prop
structure gx where
 nx:En->Prop
 rt:En->Kd->PyData->Prop
 xc:XC
noncomputable abbrev DS:=gx->En->Prop
noncomputable abbrev bC:=WC->(WC->Kd->PyData->Prop)->XC->Prop
noncomputable def lf:PyData->Bool
 |.none | .bool _ | .int _ | .str _=>true
 |.tuple ds=>lfs ds
 |.list _ | .dict _=>false
where lfs:WC->Bool
 |[]=>true
 |d::ds=>lf d&&lfs ds
theorem uo:∀ds:WC,lf.lfs ds=ds.all lf
 |[]=>by rw[lf.lfs];rfl
 |d::ds=>by rw[lf.lfs,uo ds];rfl
noncomputable def zV:PyData->Bool
 |.list _=>true
 |_=>false
noncomputable def flat:Kd->PyData->Bool
 |.sh,d=>lf d
 |.ow _,.list ds=>ds.all lf
 |.dp _,.list ds=>ds.all λd=>match d with | .list es=>es.all lf|d=>lf d
 |.dk _,.dict kvs=>kvs.all λkv=>lf kv.2
 |.dt _,.dict kvs=>kvs.all λkv=>lf kv.2
 |_,_=>false
noncomputable def Kd.fz:Kd->Bool
 |.sh | .ow false | .dp false | .dk false | .dt false=>true
 |_=>false
noncomputable def Kd.rd:Kd->Bool
 |.st _=>false
 |_=>true
noncomputable def Kd.pin:Kd->Bool
 |.ow p | .dp p | .dk p | .dt p | .st p=>p
 |.sh=>false
noncomputable def cX (E:En) (i:Nat):Option En:=match E[i]? with
 |some (some (k,d))=>if k.fz then some (E.set i (some (.sh,d)))else none
 |_=>none
noncomputable def dN:WN->En->Option En
 |[],E=>some E
 |i::r,E=>(cX E i).bind (dN r)
inductive Arg where
 |pk (i:Nat)|ev (d:DE)
noncomputable def cJ:List Arg->WN
 |[]=>[]
 |.pk i::r=>i::cJ r
 |.ev _::r=>cJ r
noncomputable def here (E:En) (i:Nat):Bool:=match E[i]? with
 |some (some _)=>true
 |_=>false
noncomputable def fill:List Arg->En->List (Option PyData)->Option (WC)
 |[],_,[]=>some []
 |.pk i::r,E,none::os=>match E[i]? with
  |some (some (k,d))=>if k.rd then(fill r E os).map (d::·)else none
  |_=>none
 |.ev _::r,E,some v::os=>(fill r E os).map (v::·)
 |_,_,_=>none
noncomputable def iH (E:En) (i:Nat):Bool:=match E[i]? with
 |some (some (.sh,_))=>true
 |_=>false
theorem yf{E:En}:∀{is:WN},is.all (iH E)=true->dN is E=some E
 |[],_=>rfl
 |i::r,h=>by
  rw[RN,RJ]at h;have e:cX E i=some E:=by
   have h1:=h.1;unfold iH at h1;unfold cX;split at h1
   .rename_i d e;rw[e];show some (E.set i (some (.sh,d)))=some E;congr 1;refine Rw λj=>?_;rw[SV];by_cases c:i=j
    .subst c;rw[if_pos rfl,e];have l:i<E.length:=by rcases SA i E.length with z|z;{exact z};rw[Rb z]at e;cases e
     rw[if_pos l]
    rw[if_neg c]
   cases h1
  show(cX E i).bind (dN r)=some E;rw[e];exact yf h.2
noncomputable def OD (as:List Arg)(E:En)(k:Kd)(v:PyData):Option En:=if((cJ as).all (iH E)||flat k v)=true then some E else dN (cJ as) E
def su{is:WN}{E E2:En}{b:Bool}(h:(if(is.all (iH E)||b)=true then some E else dN is E)=some E2):(if b=true then some E else dN is E)=some E2:=by
 cases hs:is.all (iH E)with
 |true=>rw[hs,Bool.true_or,if_pos rfl]at h;rw[yf hs,h,ite_self]
 |false=>rw[hs,Bool.false_or]at h;exact h
noncomputable abbrev DR:=WC->(Kd->PyData->Prop)->Prop
noncomputable def dC (v:PyData):DE:=λ_ E Q=>(λ_:Nat=>Q E .sh v) jE
noncomputable def q8:WJ->List Arg->WC->En->Option En
 |[],[],[],E=>some E
 |false::ms,_::r,us,E=>q8 ms r us E
 |true::ms,.pk i::r,u::us,E=>match E[i]? with
  |some (some (.ow p,.list _))=>if zV u then q8 ms r us (E.set i (some (.ow p,u)))else none
  |_=>none
 |_,_,_,_=>none
noncomputable def lent:WJ->List Arg->WN
 |true::ms,.pk i::r=>i::lent ms r
 |_::ms,_::r=>lent ms r
 |_,_=>[]
noncomputable def kept:WJ->List Arg->WN
 |false::ms,.pk i::r=>i::kept ms r
 |_::ms,_::r=>kept ms r
 |_,_=>[]
noncomputable def shape:WJ->List Arg->Bool
 |[],[]=>true
 |true::ms,.pk _::r=>shape ms r
 |false::ms,_::r=>shape ms r
 |_,_=>false
noncomputable def yw (ms:WJ)(as:List Arg)(E:En):Bool:=shape ms as&&decide (lent ms as).Nodup&&(lent ms as).all (λi=>!(kept ms as).contains i&&(match E[i]? with|some (some (.ow _,.list _))=>true|_=>false))
noncomputable def LO (ms:WJ)(as:List Arg)(us:WC)(E:En)(k:Kd)(v:PyData):Option En:=if((kept ms as).all (iH E)||(flat k v&&us.all (flat (.ow false))))=true then some E else dN (kept ms as) E
noncomputable def mD:PyData->Option Bool
 |.bool b=>some b
 |.int i=>some (!decide (i=0))
 |.none=>some false
 |.str _=>none
 |.list ds=>some !ds.isEmpty
 |.tuple ds=>some !ds.isEmpty
 |.dict _=>none
noncomputable def LF (d:DE):DT:=λx E Q=>d x E λE' _ v=>∃b,mD v=some b/\Q E' b
noncomputable def Ma (t:DT):DT:=λx E Q=>(λ_:Nat=>t x E λE' b=>Q E' (!b)) jE
noncomputable def KS (a b:DE):DE:=λx E Q=>a x E λE1 _ v=>∃c,v=.bool c/\if c=true then b x E1 Q else Q E1 .sh (.bool false)
noncomputable def OL (a b:DE):DE:=λx E Q=>a x E λE1 _ v=>∃c,v=.bool c/\if c=true then Q E1 .sh (.bool true)else b x E1 Q
noncomputable def Ei (f f':Vw)(a b c:DE):DE:=λx E Q=>a x E λE1 _ u=>∃i,u=.int i/\b x E1 λE2 _ v=>∃j,v=.int j/\if f i j=true then c x E2 λE3 _ w=>∃k,w=.int k/\Q E3 .sh (.bool (f' j k))else Q E2 .sh (.bool false)
noncomputable def Pa (c:DT)(a b:DE):DE:=λx E Q=>c x E λE1 t=>if t=true then a x E1 Q else b x E1 Q
noncomputable def c9:DS:=λD E=>(λ_:Nat=>D.nx E) jE
noncomputable def ao (a b:DS):DS:=λD E=>(λ_:Nat=>a { D with nx:=b D } E) jE
noncomputable def q9 (a b:DS):DS:=λD E=>∃J:En->Prop,a { D with nx:=J } E/\∀E',J E'->b D E'
noncomputable def M3 (c:DT)(a b:DS):DS:=λD E=>c D.xc E λE1 t=>if t=true then a D E1 else b D E1
noncomputable def bJ (E:En) (i:Nat):Bool:=match E[i]? with
 |some (some (k,_))=>!k.pin
 |some none=>true
 |none=>false
noncomputable def L5 (i:Nat)(e:DE):DS:=λD E=>e D.xc E λE' k v=>bJ E' i=true/\D.nx (E'.set i (some (k,v)))
inductive Tg where
 |nm (i:Nat)|tp (is:WN)|nt (i:Nat)(is:WN)
noncomputable def Tg.slots:Tg->WN
 |.nm i=>[i]
 |.tp is=>is
 |.nt i is=>i::is
noncomputable def bA:WN->WC->En->Option En
 |[],[],E=>some E
 |i::is,d::ds,E=>if bJ E i then bA is ds (E.set i (some (.sh,d)))else none
 |_,_,_=>none
noncomputable def b5:Tg->PyData->En->Option En
 |.nm i,d,E=>bA [i] [d] E
 |.tp is,.tuple ds,E=>bA is ds E
 |.nt i is,.tuple [d,.tuple ds],E=>bA (i::is) (d::ds) E
 |_,_,_=>none
noncomputable def cy (e:DE):DS:=λD E=>(λ_:Nat=>e D.xc E D.rt) jE
noncomputable def i6 (E:En) (i:Nat):Bool:=match E[i]? with
 |some (some (.ow _,.list _))=>true
 |_=>false
noncomputable abbrev DM:=WC->WC->(WC->PyData->Prop)->Prop
noncomputable def mJ:Vp->Bool
 | (.none,_)::_=>false
 |_=>true
noncomputable def vX (most:Nat) (i:Nat)(e:DE):DS:=λD E=>i6 E i=true/\e D.xc E λE1 k v=>k.fz=true/\∃p ds es,E1[i]?=some (some (.ow p,.list ds))/\v=.list es/\ds.length+es.length<=most/\D.nx (E1.set i (some (.ow p,.list (ds++es))))
noncomputable def wF (f:DM) (i:Nat)(j:DE) (n:Nat):DE:=λx E Q=>here E i=true/\j x E λE1 _ w=>∃a p ds m es k d E2,w=.int a/\E1[i]?=some (some (.dp p,.list ds))/\kq ds.length a=some m/\ds[m]?=some (.list es)/\E1[n]?=some (some (k,d))/\i≠n/\cX E1 n=some E2/\f es [d] λnew v=>Q (E2.set i (some (.dp p,.list (ds.set m (.list new))))) .sh v
noncomputable def yC (c:Str):DS:=λD _=>(λ_:Nat=>D.xc c .none) jE
noncomputable def cA (e:DE):DS:=λD E=>(λ_:Nat=>e D.xc E λE' _ _=>D.nx E') jE
noncomputable def cO (it:DI)(tg:Tg)(b:DS):DS:=λD E=>(λ_:Nat=>it D.xc E λE1 xs=>∃I:Nat->En->Prop,I 0 E1/\(∀i d E,xs[i]?=some d->I i E->∃E2,b5 tg d E=some E2/\b { D with nx:=I (i+1) } E2)/\∀E,I xs.length E->D.nx E) jE
noncomputable def oW (c:DT)(b:DS):DS:=λD E=>∃W:Nat->En->Prop,(∃m,W m E)/\∀m E,W m E->c D.xc E λE1 t=>if t=true then b { D with nx:=λE'=>∃m',m'<m/\W m' E' } E1 else D.nx E1
noncomputable def items:PyData->Option (WC)
 |.list ds=>some ds
 |.tuple ds=>some ds
 |_=>none
noncomputable def oE (e:DE):DI:=λx E Q=>e x E λE' k v=>k.fz=true/\∃ds,items v=some ds/\Q E' ds
noncomputable def iC (ds:WC):WC:=ds.zipIdx.map λp=>.tuple [.int p.2,p.1]
noncomputable def OS (e:DE):DI:=λx E Q=>e x E λE' k v=>k.fz=true/\∃ds,v=.list ds/\Q E' (iC ds)
noncomputable def br:WN->En->Option En
 |[],E=>some E
 |i::r,E=>if bJ E i then br r (E.set i none)else none
noncomputable abbrev DC:=XC->WC->En->(WC->En->Prop)->Prop
noncomputable def eU:DT:=λ_ E Q=>(λ_:Nat=>Q E true) jE
noncomputable def bU (most:Nat)(e:DE):DC:=λx ys E Q=>e x E λE1 k v=>k.fz=true/\ys.length<most/\Q (ys++[v]) E1
noncomputable def OO (it:DI)(tg:Tg)(c:DT)(r:DC):DC:=λx ys E Q=>(λ_:Nat=>it x E λE1 xs=>∃I:Nat->WC->En->Prop,I 0 ys E1/\(∀i d ys E,xs[i]?=some d->I i ys E->∃E2,b5 tg d E=some E2/\c x E2 λE3 b=>if b=true then r x ys E3 (I (i+1))else I (i+1) ys E3)/\∀ys E,I xs.length ys E->Q ys E) jE
noncomputable def bW (cs:WN)(it:DI)(tg:Tg)(c:DT)(r:DC):DE:=λx E Q=>(λ_:Nat=>it x E λE1 xs=>∃(E0:En)(I:Nat->WC->En->Prop),br cs E1=some E0/\I 0 [] E0/\(∀i d ys E,xs[i]?=some d->I i ys E->∃E2,b5 tg d E=some E2/\c xF E2 λE3 b=>if b=true then r xF ys E3 (I (i+1))else I (i+1) ys E3)/\∀ys E,I xs.length ys E->∃E2,br cs E=some E2/\Q E2 (.ow false) (.list ys)) jE
noncomputable def oM (most:Nat)(cs:WN)(it:DI)(tg:Tg)(c:DT)(e:DE):DE:=λx E Q=>(λ_:Nat=>it x E λE1 xs=>∃(E0:En)(I:Nat->WC->En->Prop),br cs E1=some E0/\I 0 [] E0/\(∀i d ys E,xs[i]?=some d->I i ys E->∃E2,b5 tg d E=some E2/\c xF E2 λE3 b=>if b=true then e xF E3 (λE4 k v=>(∃p,k=.ow p)/\ys.length<most/\I (i+1) (ys++[v]) E4)else I (i+1) ys E3)/\∀ys E,I xs.length ys E->∃E2,br cs E=some E2/\Q E2 (.dp false) (.list ys)) jE
noncomputable def jl (lo:Int) (n:Nat):WC:=(List.range n).map λi:Nat=>PyData.int (lo+i)
noncomputable def ay {α:Type}(o:Option α)(Q:α->Prop):Prop:=match o with
 |some a=>Q a
 |none=>False
noncomputable def cU {α:Sort u}(b:Bool)(x y:α):α:=match b with
 |true=>x
 |false=>y
noncomputable def aV:Option (Kd×PyData)->Bool
 |some (k,_)=>!k.pin
 |none=>true
noncomputable def qL (E:En) (i:Nat):Bool:=match E[i]? with
 |some o=>aV o
 |none=>false
noncomputable def bK (b:Bool)(P:Prop):Prop:=match b with
 |true=>P
 |false=>False
noncomputable def gX:List Arg->XC->En->(En->List (Option PyData)->Prop)->Prop
 |[],_,E,Q=>Q E []
 |.pk i::r,x,E,Q=>bK (here E i) (gX r x E λE' os=>Q E' (none::os))
 |.ev d::r,x,E,Q=>d x E λE1 k v=>bK k.fz (gX r x E1 λE' os=>Q E' (some v::os))
noncomputable def qJ (E:En) (i:Nat):Option En:=match E[i]? with
 |some (some (k,d))=>cU k.fz (some (E.set i (some (.sh,d)))) none
 |_=>none
noncomputable def gA:WN->En->Option En
 |[],E=>some E
 |i::r,E=>(qJ E i).bind (gA r)
noncomputable def cj:List Arg->En->List (Option PyData)->Option (WC)
 |[],_,[]=>some []
 |.pk i::r,E,none::os=>match E[i]? with
  |some (some (k,d))=>cU k.rd ((cj r E os).map (d::·)) none
  |_=>none
 |.ev _::r,E,some v::os=>(cj r E os).map (v::·)
 |_,_,_=>none
noncomputable def qI (as:List Arg)(E:En)(k:Kd)(v:PyData):Option En:=cU ((cJ as).all (iH E)||flat k v) (some E) (gA (cJ as) E)
noncomputable def De (E:En) (i:Nat)(Q:En->Kd->PyData->Prop):Prop:=match E[i]? with
 |some (some (_,d))=>ay (qJ E i) λE'=>Q E' .sh d
 |_=>False
noncomputable def xx (r:DR)(as:List Arg)(E:En)(os:List (Option PyData))(Q:En->Kd->PyData->Prop):Prop:=ay (cj as E os) λds=>r ds λk v=>ay (qI as E k v) λE2=>Q E2 k v
noncomputable def lA (i:Nat):WN->Bool
 |[]=>false
 |j::r=>i==j||lA i r
noncomputable def pB:WN->WN->En->Bool
 |[],_,_=>true
 |i::r,ks,E=>(!lA i ks&&!lA i r&&i6 E i)&&pB r ks E
noncomputable def rV (ms:WJ)(as:List Arg)(E:En):Bool:=shape ms as&&pB (lent ms as) (kept ms as) E
noncomputable def jC:WJ->List Arg->WC->En->Option En
 |[],[],[],E=>some E
 |false::ms,_::r,us,E=>jC ms r us E
 |true::ms,.pk i::r,u::us,E=>match E[i]? with
  |some (some (.ow p,.list _))=>cU (zV u) (jC ms r us (E.set i (some (.ow p,u)))) none
  |_=>none
 |_,_,_,_=>none
noncomputable def sC (ms:WJ)(as:List Arg)(us:WC)(E:En)(k:Kd)(v:PyData):Option En:=cU ((kept ms as).all (iH E)||(flat k v&&us.all (flat (.ow false)))) (some E) (gA (kept ms as) E)
noncomputable def EJ (ms:WJ)(as:List Arg)(E:En)(us:WC)(k:Kd)(v:PyData)(Q:En->Kd->PyData->Prop):Prop:=ay (jC ms as us E) λE2=>ay (sC ms as us E2 k v) λE3=>Q E3 k v
noncomputable def Ew (sp:bC)(ms:WJ)(as:List Arg)(x:XC)(E:En)(os:List (Option PyData))(Q:En->Kd->PyData->Prop):Prop:=ay (cj as E os) λds=>bK (rV ms as E) (sp ds (λus k v=>EJ ms as E us k v Q) x)
noncomputable def sJ (v:PyData)(Q:Bool->Prop):Prop:=ay (mD v) Q
noncomputable def EG (E:En) (i:Nat)(Q:En->Bool->Prop):Prop:=match E[i]? with
 |some (some (k,d))=>bK k.rd (sJ d (Q E))
 |_=>False
noncomputable def yT (v:PyData)(Q:Bool->Prop):Prop:=match v with
 |.bool b=>Q b
 |_=>False
noncomputable def qd (v:PyData)(Q:Int->Prop):Prop:=match v with
 |.int i=>Q i
 |_=>False
noncomputable def HY (v:PyData)(Q:WC->Prop):Prop:=ay (items v) Q
noncomputable def qz (v:PyData)(Q:WC->Prop):Prop:=match v with
 |.list xs=>Q xs
 |_=>False
noncomputable def CU (E:En) (i:Nat)(Q:En->Kd->PyData->Prop):Prop:=match E[i]? with
 |some (some (k,d))=>bK (!k.pin) (Q (E.set i none) k d)
 |_=>False
noncomputable def Cn (f:DM) (i:Nat)(as:List Arg)(E:En)(os:List (Option PyData))(Q:En->Kd->PyData->Prop):Prop:=ay (cj as E os) λargs=>match E[i]? with
 |some (some (.ow p,.list ds))=>f ds args λnew v=>Q (E.set i (some (.ow p,.list new))) .sh v
 |_=>False
noncomputable def Lo (f:Int->Int->Int)(E:En) (i:Nat)(v:PyData)(Q:En->Prop):Prop:=match E[i]? with
 |some (some (_,.int a))=>qd v λb=>Q (E.set i (some (.sh,.int (f a b))))
 |_=>False
noncomputable def stK:WN->WC->En->Option En
 |[],[],E=>some E
 |i::is,d::ds,E=>cU (qL E i) (stK is ds (E.set i (some (.sh,d)))) none
 |_,_,_=>none
noncomputable def HQ (is:WN)(v:PyData)(E:En)(Q:En->Prop):Prop:=match v with
 |.tuple ds=>ay (stK is ds E) Q
 |_=>False
noncomputable def xu (n:Nat) (i:Int):Option Nat:=match i with
 |.ofNat k=>cU (Nat.blt k n) (some k) none
 |.negSucc k=>kq n (.negSucc k)
noncomputable def aW (i:Nat):DE:=λ_ E Q=>De E i Q
noncomputable def aa (r:DR)(as:List Arg):DE:=λx E Q=>gX as x E λE1 os=>xx r as E1 os Q
noncomputable def aH (sp:bC)(ms:WJ)(as:List Arg):DE:=λx E Q=>gX as x E λE1 os=>Ew sp ms as x E1 os Q
noncomputable def bG (d:DE):DT:=λx E Q=>d x E λE' _ v=>sJ v (Q E')
noncomputable def Ij (i:Nat):DT:=λ_ E Q=>EG E i Q
noncomputable def jF (a b:DE):DE:=λx E Q=>a x E λE1 _ v=>yT v λc=>cU c (b x E1 Q) (Q E1 .sh (.bool false))
noncomputable def yh (a b:DE):DE:=λx E Q=>a x E λE1 _ v=>yT v λc=>cU c (Q E1 .sh (.bool true)) (b x E1 Q)
noncomputable def Qd (a:DE):DE:=λx E Q=>a x E λE1 _ v=>sJ v λc=>Q E1 .sh (.bool !c)
noncomputable def ki (f f':Vw)(a b c:DE):DE:=λx E Q=>a x E λE1 _ u=>qd u λi=>b x E1 λE2 _ v=>qd v λj=>cU (f i j) (c x E2 λE3 _ w=>qd w λk=>Q E3 .sh (.bool (f' j k))) (Q E2 .sh (.bool false))
noncomputable def uU (c:DT)(a b:DE):DE:=λx E Q=>c x E λE1 t=>cU t (a x E1 Q) (b x E1 Q)
noncomputable def cH (c:DT)(a b:DS):DS:=λD E=>c D.xc E λE1 t=>cU t (a D E1) (b D E1)
noncomputable def aB (i:Nat)(e:DE):DS:=λD E=>e D.xc E λE' k v=>bK (qL E' i) (D.nx (E'.set i (some (k,v))))
noncomputable def qN (is:WN)(e:DE):DS:=λD E=>e D.xc E λE' k v=>bK k.fz (HQ is v E' D.nx)
noncomputable def eV (i:Nat):DS:=λD E=>CU E i D.rt
noncomputable def iI (f:DM) (i:Nat)(es:List DE):DE:=λx E Q=>bK (i6 E i) (gX (es.map .ev) x E λE1 os=>Cn f i (es.map .ev) E1 os Q)
noncomputable def fF (i:Nat)(j:DE)(e:DE):DS:=λD E=>e D.xc E λE1 k v=>bK k.fz (bK (here E1 i) (j D.xc E1 λE2 k2 w=>bK k2.fz (setI E2 i w v D.nx)))
where setI (E:En) (i:Nat)(w v:PyData)(Q:En->Prop):Prop:=match E[i]?,w with
 |some (some (.ow p,.list ds)),.int a=>ay (xu ds.length a) λn=>Q (E.set i (some (.ow p,.list (ds.set n v))))
 |some (some (.dk p,.dict kvs)),w=>(kT w=true/\kvs.length<16777216)/\Q (E.set i (some (.dk p,.dict (putD kvs w v))))
 |some (some (.dt p,.dict (_::kvs))),.tuple ks=>(ks.all kT=true/\kvs.length<16777216)/\Q (E.set i (some (.dt p,.dict ((.none,.none)::putD kvs (.tuple ks) v))))
 |_,_=>False
noncomputable def PN (f:Int->Int->Int) (i:Nat)(e:DE):DS:=λD E=>bK (here E i) (e D.xc E λE1 _ v=>Lo f E1 i v D.nx)
noncomputable def iE (e:DE):DI:=λx E Q=>e x E λE' k v=>bK k.fz (HY v λds=>Q E' ds)
noncomputable def fD (g:WC->Option (WC))(as:List Arg):DI:=λx E Q=>gX as x E λE1 os=>ay (cj as E1 os) λds=>ay (g ds) λxs=>Q E1 xs
noncomputable def sG (e:DE):DI:=λx E Q=>e x E λE' k v=>bK k.fz (qz v λds=>Q E' (iC ds))
noncomputable def Ck (a b:DE):DI:=λx E Q=>a x E λE1 k v=>bK k.fz (b x E1 λE2 k2 v2=>bK k2.fz (qz v λds=>qz v2 λes=>Q E2 ((ds.zip es).map λp=>.tuple [p.1,p.2])))
def bf{α:Type}{o:Option α}{Q:α->Prop}:(∃a,o=some a/\Q a)=ay o Q:=by
 cases o with
 |none=>exact propext ⟨λ⟨a,e,_⟩=>(by cases e),λh=>h.elim⟩
 |some a=>exact propext ⟨λ⟨b,e,q⟩=>by cases e;exact q,λh=>⟨a,rfl,h⟩⟩
def dJ{b:Bool}{P:Prop}:bK b P=(b=true/\P):=by
 cases b with
 |true=>exact propext ⟨λh=>⟨rfl,h⟩,λh=>h.2⟩
 |false=>exact propext ⟨λh=>h.elim,λh=>by cases h.1⟩
universe u
def bO{α:Sort u}{b:Bool}{x y:α}:cU b x y=if b=true then x else y:=by cases b<;>rfl
def Am{E:En}{i:Nat}:qJ E i=cX E i:=by unfold qJ cX;split;{rw[bO]};rfl
theorem nO:∀{is:WN}{E:En},gA is E=dN is E
 |[],_=>rfl
 |i::r,E=>by rw[gA,dN,Am];congr 1;funext E1;exact nO
theorem dS:∀{as:List Arg}{E:En}{os:List (Option PyData)},cj as E os=fill as E os
 |[],_,[]=>rfl
 |[],_,_::_=>rfl
 |.pk i::r,E,none::os=>by rw[cj,fill,dS];split;{rw[bO]};rfl
 |.ev _::r,E,some v::os=>by rw[cj,fill,dS]
 |.pk _::_,_,[]=>rfl
 |.pk _::_,_,some _::_=>rfl
 |.ev _::_,_,[]=>rfl
 |.ev _::_,_,none::_=>rfl
def zT{as:List Arg}{E:En}{k:Kd}{v:PyData}:qI as E k v=OD as E k v:=by unfold qI OD;rw[bO,nO]
theorem tM{i:Nat}:∀{l:WN},lA i l=l.contains i
 |[]=>rfl
 |j::r=>by rw[lA,List.contains_cons,tM]
theorem zE{ks:WN}{E:En}:∀{l:WN},pB l ks E=(decide l.Nodup&&l.all λi=>!ks.contains i&&i6 E i)
 |[]=>rfl
 |i::r=>by
  rw[pB,zE,tM,tM,RN];have:decide (i::r).Nodup=(!r.contains i&&decide r.Nodup):=by rw[Sn];simp[UI]
  rw[this];cases ks.contains i<;>cases r.contains i<;>cases i6 E i<;>cases decide r.Nodup<;>rfl
def Gm{ms:WJ}{as:List Arg}{E:En}:rV ms as E=yw ms as E:=by unfold rV yw;rw[zE,Bool.and_assoc];rfl
theorem tO:∀{ms:WJ}{as:List Arg}{us:WC}{E:En},jC ms as us E=q8 ms as us E
 |[],[],[],E=>rfl
 |[],[],_::_,E=>rfl
 |[],_::_,_,E=>rfl
 |false::ms,_::r,us,E=>by rw[jC,q8,tO]
 |false::ms,[],us,E=>rfl
 |true::ms,[],us,E=>rfl
 |true::ms,.ev _::_,us,E=>rfl
 |true::ms,.pk i::r,[],E=>rfl
 |true::ms,.pk i::r,u::us,E=>by rw[jC,q8];split;{rw[bO,tO]};rfl
def Gz{ms:WJ}{as:List Arg}{us:WC}{E:En}{k:Kd}{v:PyData}:sC ms as us E k v=LO ms as us E k v:=by unfold sC LO;rw[bO,nO]
def G0{v:PyData}{Q:Bool->Prop}:(∃b,mD v=some b/\Q b)=sJ v Q:=bf
def Hh{v:PyData}{Q:Bool->Prop}:(∃b,v=.bool b/\Q b)=yT v Q:=by
 cases v with
 |bool b=>exact propext ⟨λ⟨c,e,q⟩=>by cases e;exact q,λh=>⟨b,rfl,h⟩⟩
 |_=>exact propext ⟨λ⟨c,e,_⟩=>(by cases e),λh=>h.elim⟩
def Of{v:PyData}{Q:Int->Prop}:(∃b,v=.int b/\Q b)=qd v Q:=by
 cases v with
 |int b=>exact propext ⟨λ⟨c,e,q⟩=>by cases e;exact q,λh=>⟨b,rfl,h⟩⟩
 |_=>exact propext ⟨λ⟨c,e,_⟩=>(by cases e),λh=>h.elim⟩
def Bl{v:PyData}{Q:WC->Prop}:(∃b,v=.list b/\Q b)=qz v Q:=by
 cases v with
 |list b=>exact propext ⟨λ⟨c,e,q⟩=>by cases e;exact q,λh=>⟨b,rfl,h⟩⟩
 |_=>exact propext ⟨λ⟨c,e,_⟩=>(by cases e),λh=>h.elim⟩
def Aj{E:En}{i:Nat}:qL E i=bJ E i:=by unfold bJ qL aV;generalize E[i]?=z;rcases z with _|_|⟨k,d⟩<;>rfl
theorem DH:∀{is:WN}{ds:WC}{E:En},stK is ds E=bA is ds E
 |[],[],E=>rfl
 |[],_::_,E=>rfl
 |_::_,[],E=>rfl
 |i::is,d::ds,E=>by rw[stK,bA,bO,DH,Aj]
def vO{n:Nat}{i:Int}:xu n i=kq n i:=by
 cases i with
 |ofNat k=>unfold xu kq;show cU (Nat.blt k n) (some k) none=_;rw[if_pos (show(0:Int)<=Int.ofNat k from Uh k),bO];have:(Nat.blt k n=true)=((Int.ofNat k)<(n:Int)):=propext ⟨λh=>UJ.mpr (Nat.blt_eq.mp h),λh=>Nat.blt_eq.mpr (UJ.mp h)⟩;simp only[this];rfl
 |negSucc k=>rfl
def Jx{d:DE}:bG d=LF d:=by funext x E Q;unfold bG LF;simp only[G0]
def zu{a b:DE}:jF a b=KS a b:=by funext x E Q;unfold jF KS;simp only[Hh,bO]
def Dw{a b:DE}:yh a b=OL a b:=by funext x E Q;unfold yh OL;simp only[Hh,bO]
def uW{f f':Vw}{a b c:DE}:ki f f' a b c=Ei f f' a b c:=by funext x E Q;unfold ki Ei;simp only[Of,bO]
def Kr{c:DT}{a b:DE}:uU c a b=Pa c a b:=by funext x E Q;unfold uU Pa;simp only[bO]
def JO{c:DT}{a b:DS}:cH c a b=M3 c a b:=by funext D E;unfold cH M3;simp only[bO]
def uv{i:Nat}{e:DE}:aB i e=L5 i e:=by funext D E;unfold aB L5;simp only[dJ,Aj]
def Ow{e:DE}:iE e=oE e:=by funext x E Q;unfold iE oE;simp only[dJ,bf];rfl
def MI{e:DE}:sG e=OS e:=by funext x E Q;unfold sG OS;simp only[dJ,Bl]
end Dv
namespace L2
open PySem PySem.Spec PyProof.Rows
noncomputable abbrev Key:=Sum Int Str
noncomputable def pN:Key->Value->Bool
 |.inl k,v=>Value.isInt k v
 |.inr x,v=>Value.isStrOf x v
noncomputable def PR (w:World):Key->Int
 |.inl k=>hashInt k
 |.inr x=>hashStr w x
def cM:∀{k:Key}{v:Value},pN k v=true->(∃i t,k=Sum.inl i/\v=Value.int i t)\/(∃x t,k=Sum.inr x/\v=Value.str x t)
 |.inl i,v,h=>by obtain⟨t,e⟩:=Value.isInt_shape (k:=i) (v:=v) h;exact .inl ⟨i,t,rfl,e⟩
 |.inr x,v,h=>by obtain⟨t,e⟩:=Value.isStrOf_shape (x:=x) (v:=v) h;exact .inr ⟨x,t,rfl,e⟩
def Cw(i:Int)(t:Tok):pN (.inl i) (.int i t)=true:=by simp[pN,Value.isInt]
def Cs(x:Str)(t:Tok):pN (.inr x) (.str x t)=true:=by simp[pN,Value.isStrOf]
def Lh(a b:Int):decide ((Sum.inl a:Key)=Sum.inl b)=(a==b):=by by_cases e:a=b;{subst e;simp};have h:¬(Sum.inl a:Key)=Sum.inl b:=λq=>e (Sum.inl.inj q);rw[Ro h];exact(beq_eq_false_iff_ne.mpr e).symm
def Nk(a b:Str):decide ((Sum.inr a:Key)=Sum.inr b)=decide (a=b):=by by_cases e:a=b;{subst e;simp};have h:¬(Sum.inr a:Key)=Sum.inr b:=λq=>e (Sum.inr.inj q);rw[Ro h,Ro e]
def Ll(a:Int) (b:Str):decide ((Sum.inl a:Key)=Sum.inr b)=false:=Ro (λq=>nomatch q)
def Kn(a:Str) (b:Int):decide ((Sum.inr a:Key)=Sum.inl b)=false:=Ro (λq=>nomatch q)
noncomputable def cP (prog:Program)(w:World):PySem.KeyKind prog w Key where
 is:=pN
 hash:=PR w
 inj:=λv a b ha hb=>by
  rcases cM ha with⟨i,t,rfl,rfl⟩|⟨x,t,rfl,rfl⟩
  .rcases cM hb with⟨j,u,rfl,e⟩|⟨y,u,rfl,e⟩
   .injection e with e1 _;rw[e1]
   .exact nomatch e
  .rcases cM hb with⟨j,u,rfl,e⟩|⟨y,u,rfl,e⟩
   .exact nomatch e
   .injection e with e1 _;rw[e1]
 byValue:=λk v h=>by
  rcases cM h with⟨i,t,rfl,rfl⟩|⟨x,t,rfl,rfl⟩<;>rfl
 pyHash:=λhv h=>by
  rcases cM hv with⟨i,t,rfl,rfl⟩|⟨x,t,rfl,rfl⟩
  .exact wpAny_pyHash_int h
  .exact wpAny_pyHash_str h
 eqBool:=λhu hv h=>by
  rcases cM hu with⟨i,t,rfl,rfl⟩|⟨x,t,rfl,rfl⟩
  .rcases cM hv with⟨j,u,rfl,rfl⟩|⟨y,u,rfl,rfl⟩
   .rw[Lh]at h;exact wpAny_eqBool_int h
   .rw[Ll]at h;exact SeqAt.EqAt.int_str i t y u _ _ _ _ h
  .rcases cM hv with⟨j,u,rfl,rfl⟩|⟨y,u,rfl,rfl⟩
   .rw[Kn]at h;exact SeqAt.EqAt.str_int x t j u _ _ _ _ h
   .rw[Nk]at h;exact wpAny_eqBool_str h
 «strs»:=λk x t v h=>by
  rcases cM h with⟨i,u,rfl,e⟩|⟨y,u,rfl,e⟩
  .exact nomatch e
  .injection e with e1 _
   subst e1;cases v<;>rfl
def yN(prog:Program)(w:World) (i:Int)(t:Tok):(cP prog w).is (.inl i) (.int i t)=true:=Cw i t
def yF(prog:Program)(w:World) (x:Str)(t:Tok):(cP prog w).is (.inr x) (.str x t)=true:=Cs x t
set_option genInjectivity true in
inductive V where
 |bg|bl (b:Bool)|int (i:Int)|str (x:Str)|l9 (b:Array UInt8)|zp (b:UInt64)|ref (a:Addr)|ty (n:String)
 deriving DecidableEq
noncomputable def RelV:V->Value->Prop
 |.bg,u=>u=Value.none
 |.bl b,u=>u=Value.bool b
 |.int i,u=>∃t,u=Value.int i t
 |.str x,u=>∃t,u=Value.str x t
 |.l9 b,u=>∃t,u=Value.bytes b t
 |.zp b,u=>∃t,u=Value.float b t
 |.ref a,u=>u=Value.ref a
 |.ty n,u=>u=Value.type n
noncomputable abbrev Vals:List V->WH->Prop:=Paired RelV
theorem Vals.length{xs:List V}{us:WH}(r:Vals xs us):xs.length=us.length:=Paired.length r
theorem Vals.get:∀{xs:List V}{us:WH}{i:Nat}{x:V},Vals xs us->xs[i]?=some x->∃u,us[i]?=some u/\RelV x u
 |_,_,_,_,.nil,e=>by simp at e
 |_,_,0,_,.cons r _,e=>by simp at e;subst e;exact⟨_,rfl,r⟩
 |_,_,i+1,x,.cons _ t,e=>by obtain⟨u,h1,h2⟩:=Vals.get (i:=i) (x:=x) t (by simpa using e);exact⟨u,by simpa using h1,h2⟩
theorem Vals.set{x:V}{u:Value}(r:RelV x u):∀{xs:List V}{us:WH} (i:Nat),Vals xs us->Vals (xs.set i x) (us.set i u)
 |_,_,_,.nil=>.nil
 |_,_,0,.cons _ t=>.cons r t
 |_,_,i+1,.cons q t=>.cons q (Vals.set r i t)
theorem Vals.append:∀{xs ys:List V}{us ws:WH},Vals xs us->Vals ys ws->Vals (xs++ys) (us++ws)
 |_,_,_,_,.nil,s=>s
 |_,_,_,_,.cons r t,s=>.cons r (Vals.append t s)
theorem Vals.take:∀{xs:List V}{us:WH} (n:Nat),Vals xs us->Vals (xs.take n) (us.take n)
 |_,_,0,_=>.nil
 |_,_,_+1,.nil=>.nil
 |_,_,n+1,.cons r t=>.cons r (Vals.take n t)
theorem Vals.drop:∀{xs:List V}{us:WH} (n:Nat),Vals xs us->Vals (xs.drop n) (us.drop n)
 |_,_,0,r=>r
 |_,_,_+1,.nil=>.nil
 |_,_,n+1,.cons _ t=>Vals.drop n t
noncomputable def jt:Option V->WA->Prop
 |some v,some u=>RelV v u
 |none,none=>True
 |_,_=>False
noncomputable def KV {κ:Type}:List (κ×V)->List (κ×Value)->Prop:=Paired λ(p:κ×V)(q:κ×Value)=>p.1=q.1/\RelV p.2 q.2
noncomputable def kV:Key->V
 |.inl i=>.int i
 |.inr x=>.str x
inductive HO where
 |lst (xs:List V)
 |tup (xs:List V)
 |dK (kvs:List (Key×V))|dT (kvs:List (List Key×V))
 |set (S:Int->Bool) (n:Nat)
 |ins (C dx:Addr)(fs:List (Str×V))
 |own (x:Addr)
 |xd (fs:List (Str×V))
 |met (f x:Addr)
 |qu (lo hi:Int)
 |dW (o:Obj)(u:HO)
 |uP (ps:WB)
 |ext (φ:Heap->Prop)
noncomputable abbrev Hp:=Addr->Option HO
noncomputable def upd (H:Hp)(a:Addr)(o:HO):Hp:=λb=>if b=a then some o else H b
def aC{H:Hp}{a:Addr}{o:HO}:upd H a o a=some o:=by unfold upd;rw[if_pos rfl]
def aj{H:Hp}{a b:Addr}{o:HO}(h:b≠a):upd H a o b=H b:=by unfold upd;rw[if_neg h]
def HR{H:Hp}{a b:Addr}{o u:HO}(h:H a=some o)(h':H b=some u)(d:o≠u):a≠b:=by intro e;subst e;rw[h]at h';exact d (Option.some.inj h')
def fN{H:Hp}{a b:Addr}{o:HO}(h:H a=some o)(h':H b=none):a≠b:=by intro e;subst e;rw[h]at h';cases h'
section
variable(P:Program)(w:World)
noncomputable def bE (H:Hp)(h:Heap)(a:Addr):HO->Prop
 |.lst xs=>xs.length<=sizeLine/\∃(its:WH) (n:Nat),Vals xs its/\h.get? a=some { cls:=.type "list",data:=.seq its.toArray n }
 |.tup xs=>xs.length<=sizeLine/\∃its:WH,Vals xs its/\IsTup h a its.toArray
 |.dK kvs=>kvs.length<=sizeLine/\(a==sysModules)=false/\∃vs,KV kvs vs/\h.DictOf (cP P w) a vs
 |.dT kvs=>kvs.length<=sizeLine/\(a==sysModules)=false/\∃xs:List (List Key×Addr×Value),
   Paired (λ(p:List Key×V)(q:List Key×Addr×Value)=>p.1=q.1/\H q.2.1=some (.tup (p.1.map kV))/\RelV p.2 q.2.2) kvs xs /\
   ∃o es ep,h.get? a=some o/\o.ExactDict/\o.data=.dict es ep/\es.toList=xs.map (entryOfKey (tupleKind (cP P w)))/\(xs.map (·.1)).Nodup
 |.set S n=>h.SetOf (intKind P w) a S n
 |.ins C dx fs=>H dx=some (.own a)/\fs.length<=1000/\dx≠a/\h.get? a=some (PySem.W.instObj C dx) /\
   ∃mA,h.Ns1 dx mA/\(∀f,jt (fs.lookup f) (mA f))/\PySem.Within mA (fs.map (·.1))
 |.own _=>∃o,h.get? a=some o
 |.xd fs=>∃mA,h.Ns1 a mA/\∀f,jt (fs.lookup f) (mA f)
 |.qu lo hi=>∃t u v,h.get? a=some { cls:=.type "range",data:=.fields #[.int lo t,.int hi u,.int 1 v] }
 |.dW o u=>h.get? a=some o/\bE H h a u
 |.uP ps=>h.get? a=some { cls:=.none,data:=.fields ps }
 |.met f x=>h.get? a=some (PySem.W.methodObj (.ref f) (.ref x))
 |.ext φ=>φ h/\(∃o,h.get? a=some o)/\∀h1 h2:Heap,φ h1->(∀o,h1.get? a=some o->h2.get? a=some o)->φ h2
noncomputable def cS (H:Hp)(h:Heap):Prop:=∀a o,H a=some o->bE P w H h a o
end
section
variable{P:Program}{w:World}{H H':Hp}{h h':Heap}{a:Addr}{o:HO}
theorem bE.lt(x:bE P w H h a o):a<h.objs.size:=by
 cases o with
 |lst xs=>obtain⟨_,_,_,_,e⟩:=x;exact RL e
 |tup xs=>obtain⟨_,_,_,p⟩:=x;exact p.lt
 |dK kvs=>obtain⟨_,_,_,_,o,_,_,e,_⟩:=x;exact RL e
 |dT kvs=>obtain⟨_,_,_,_,o,_,_,e,_⟩:=x;exact RL e
 |set S n=>obtain⟨o,_,_,_,e,_⟩:=x;exact RL e
 |ins C dx fs=>obtain⟨_,_,_,e,_⟩:=x;exact RL e
 |own y=>obtain⟨_,e⟩:=x;exact RL e
 |xd fs=>obtain⟨_,⟨_,_,_,e,_⟩,_⟩:=x;exact RL e
 |qu lo hi=>obtain⟨_,_,_,e⟩:=x;exact RL e
 |dW ob u=>obtain⟨e,_⟩:=x;exact RL e
 |uP ps=>exact RL (show h.get? a=some _ from x)
 |met f y=>exact RL (show h.get? a=some _ from x)
 |ext φ=>obtain⟨_,⟨_,e⟩,_⟩:=x;exact RL e
theorem Paired.Ft{α β:Type}{F G:α->β->Prop}:∀{l₁:List α}{l₂:List β},Paired F l₁ l₂->(∀a b,F a b->G a b)->Paired G l₁ l₂
 |_,_,.nil,_=>.nil
 |_,_,.cons r t,f=>.cons (f _ _ r) (Paired.Ft t f)
def bE.stay(x:bE P w H h a o)(k:∀b u,(b=a\/H b=some (.own a))->h.get? b=some u->h'.get? b=some u)(ho:∀b,H b=some (.own a)->H' b=some (.own a))(ht:∀b xs,H b=some (.tup xs)->H' b=some (.tup xs)):bE P w H' h' a o:=by
 induction o with
 |lst xs=>obtain⟨z,its,n,r,e⟩:=x;exact⟨z,its,n,r,k _ _ (.inl rfl) e⟩
 |tup xs=>obtain⟨z,its,r,ob,e,c⟩:=x;exact⟨z,its,r,ob,k _ _ (.inl rfl) e,c⟩
 |dK kvs=>obtain⟨z,y,vs,r,ob,es,ep,e,c⟩:=x;exact⟨z,y,vs,r,ob,es,ep,k _ _ (.inl rfl) e,c⟩
 |dT kvs=>obtain⟨z,y,xs,r,ob,es,ep,e,c⟩:=x;exact⟨z,y,xs,Paired.Ft r λp q z=>⟨z.1,ht _ _ z.2.1,z.2.2⟩,ob,es,ep,k _ _ (.inl rfl) e,c⟩
 |set S n=>obtain⟨ob,es,ep,t,e,c⟩:=x;exact⟨ob,es,ep,t,k _ _ (.inl rfl) e,c⟩
 |ins C dx fs=>obtain⟨d,z,ne,e,mA,⟨od,es,ep,e2,c⟩,r⟩:=x;exact⟨ho _ d,z,ne,k _ _ (.inl rfl) e,mA,⟨od,es,ep,k _ _ (.inr d) e2,c⟩,r⟩
 |own y=>obtain⟨ob,e⟩:=x;exact⟨ob,k _ _ (.inl rfl) e⟩
 |xd fs=>obtain⟨mA,⟨od,es,ep,e,c⟩,r⟩:=x;exact⟨mA,⟨od,es,ep,k _ _ (.inl rfl) e,c⟩,r⟩
 |qu lo hi=>obtain⟨t,u,v,e⟩:=x;exact⟨t,u,v,k _ _ (.inl rfl) e⟩
 |dW ob u ih=>obtain⟨e,q⟩:=x;exact⟨k _ _ (.inl rfl) e,ih q⟩
 |uP ps=>have e:h.get? a=some { cls:=.none,data:=.fields ps }:=x;show h'.get? a=some { cls:=.none,data:=.fields ps };exact k a _ (.inl rfl) e
 |met f y=>have e:h.get? a=some (PySem.W.methodObj (.ref f) (.ref y)):=x;show h'.get? a=some (PySem.W.methodObj (.ref f) (.ref y));exact k a _ (.inl rfl) e
 |ext φ=>obtain⟨p,⟨o,e⟩,st⟩:=x;exact⟨st _ _ p λo q=>k _ _ (.inl rfl) q,⟨o,k _ _ (.inl rfl) e⟩,st⟩
theorem cS.lt(x:cS P w H h)(e:H a=some o):a<h.objs.size:=(x a o e).lt
def cS.fresh(x:cS P w H h)(e:h.objs.size<=a):H a=none:=by
 cases q:H a with
 |none=>rfl
 |some u=>exact absurd (Rn (x.lt q) e) (S7 _)
def cS.kept(x:cS P w H h)(k:∀b u,h.get? b=some u->h'.get? b=some u):cS P w H h':=λa o e=>
 (x a o e).stay (λb u _ q=>k b u q) (λ_ q=>q) λ_ _ q=>q
def cS.laid(x:cS P w H h)(k:∀b u,h.get? b=some u->h'.get? b=some u)(hp:h.objs.size<=a)(new:bE P w (upd H a o) h' a o):cS P w (upd H a o) h':=λb u e=>by have hn:=x.fresh hp;by_cases hb:b=a;{subst hb;rw[aC]at e;cases e;exact new};rw[aj hb]at e;exact(x b u e).stay (λc v _ q=>k c v q) (λc q=>by rw[aj (fN q hn)];exact q) λc xs q=>by rw[aj (fN q hn)];exact q
end
noncomputable def Rd (H:Hp)(a:Addr)(u:HO):Prop:=H a=some u\/∃o,H a=some (.dW o u)
def Rd.ok{P:Program}{w:World}{H:Hp}{h:Heap}{a:Addr}{u:HO}(r:Rd H a u)(x:cS P w H h):bE P w H h a u:=by rcases r with r|⟨o,r⟩;{exact x a u r};obtain⟨_,q⟩:=x a _ r;exact q
noncomputable def Cv:Option HO->Prop
 |some (.lst _)=>True
 |some (.dK _)=>True
 |some (.dT _)=>True
 |some (.set _ _)=>True
 |some (.ins _ _ _)=>True
 |some (.ext _)=>True
 |_=>False
section
variable{P:Program}{w:World}{H:Hp}{h h':Heap}{x e:Addr}{o':HO}
def cS.write(ok:cS P w H h)(mu:Cv (H x))(he:e=x\/H e=some (.own x))(k:∀b u,b≠e->h.get? b=some u->h'.get? b=some u)(heo:∃u,h'.get? e=some u)(new:bE P w (upd H x o') h' x o'):cS P w (upd H x o') h':=λb u q=>by
 have nown:∀c y,H c=some (.own y)->c≠x:=λc y r z=>by subst z;rw[r]at mu;exact mu
 have ntup:∀c xs,H c=some (.tup xs)->c≠x:=λc xs r z=>by subst z;rw[r]at mu;exact mu
 by_cases hb:b=x;{subst hb;rw[aC]at q;cases q;exact new};rw[aj hb]at q;by_cases hbe:b=e
 .have q':H b=some (.own x):=by rcases he with z|z;{exact absurd (hbe.trans z) hb};rw[hbe];exact z
  rw[q]at q';cases q';obtain⟨v,hv⟩:=heo;exact⟨v,by rw[hbe];exact hv⟩
 refine(ok b u q).stay (λc v hc r=>k c v ?_ r) (λc r=>by rw[aj (nown c b r)];exact r) λc xs r=>by rw[aj (ntup c xs r)];exact r
 rcases hc with rfl|hc;{exact hbe};rintro rfl;rcases he with z|z;{exact nown c b hc z};rw[hc]at z;cases z;exact hb rfl
end
structure Un(fs ex:WI)(H H':Hp)(h h':Heap):Prop where
 keep:∀b o,h.get? b=some o->H b=none->b∉fs->b∉ex->h'.get? b=some o
 slot:∀b o,h.get? b=some o->H b=none->b∈fs->b∉ex->∃sl,h'.get? b=some { o with slots:=sl }
 free:∀b o,h.get? b=some o->H b=none->b∉ex->H' b=none
 there:∀b o,h.get? b=some o->b∉ex->∃o',h'.get? b=some o'
 tups:∀b xs,H b=some (.tup xs)->H' b=some (.tup xs)
 kD:∀b o u,H b=some (.dW o u)->H' b=some (.dW o u)
 lz:∀b ps,H b=some (.uP ps)->∃more,H' b=some (.uP (ps++more))
section
variable{fs fs' ex ex':WI}{H H1 H2:Hp}{h h1 h2 h':Heap}{a x e:Addr}{o:HO}
def Un.any(u:Un fs ex H H1 h h1){b:Addr}{ob:Obj}(q:h.get? b=some ob)(n:H b=none)(hx:b∉ex):∃sl,h1.get? b=some { ob with slots:=sl }:=by by_cases hb:b∈fs;{exact u.slot b ob q n hb hx};exact⟨ob.slots,u.keep b ob q n hb hx⟩
def Un.kept(k:∀b u,h.get? b=some u->h'.get? b=some u):Un fs ex H H h h':=
 ⟨λb ob q _ _ _=>k b ob q,λb ob q _ _ _=>⟨ob.slots,k b ob q⟩,λ_ _ _ n _=>n,λb ob q _=>⟨ob,k b ob q⟩,λ_ _ q=>q,λ_ _ _ q=>q,λ_ ps q=>⟨#[],by rw[q];simp⟩⟩
def Un.refl:Un fs ex H H h h:=Un.kept λ_ _ q=>q
def Un.laid(k:∀b u,h.get? b=some u->h'.get? b=some u)(hp:h.objs.size<=a)(hn:H a=none):Un fs ex H (upd H a o) h h' where
 keep:=λb u q _ _ _=>k b u q
 slot:=λb u q _ _ _=>⟨u.slots,k b u q⟩
 free:=λb u q n _=>by rw[aj (Rc (Rn (RL q) hp))];exact n
 there:=λb u q _=>⟨u,k b u q⟩
 tups:=λb xs q=>by rw[aj (fN q hn)];exact q
 kD:=λb u xs q=>by rw[aj (fN q hn)];exact q
 lz:=λb ps q=>⟨#[],by rw[aj (fN q hn),q];simp⟩
def Un.write(mu:Cv (H x))(he:e=x\/H e=some (.own x))(k:∀b u,b≠e->h.get? b=some u->h'.get? b=some u)(heo:∃u,h'.get? e=some u):Un fs ex H (upd H x o) h h':=by
 have hx:∀b,H b=none->b≠x:=λb n z=>by subst z;rw[n]at mu;exact mu
 have hb:∀b,H b=none->b≠e:=λb n z=>by subst z;rcases he with r|r;{exact hx b n r};rw[n]at r;cases r
 have hm:∀b u,H b=some u->¬Cv (some u)->b≠x:=λb u q nm z=>by subst z;rw[q]at mu;exact nm mu
 refine⟨λb u q n _ _=>k b u (hb b n) q,λb u q n _ _=>⟨u.slots,k b u (hb b n) q⟩,λb u q n _=>by rw[aj (hx b n)];exact n,λb u q _=>?_,
  λb xs q=>by rw[aj (hm b _ q λz=>z)];exact q,λb u xs q=>by rw[aj (hm b _ q λz=>z)];exact q,λb ps q=>⟨#[],by rw[aj (hm b _ q λz=>z),q];simp⟩⟩
 by_cases hbe:b=e;{subst hbe;exact heo};exact⟨u,k b u hbe q⟩
end
noncomputable def HS (h:Heap)(H:Hp):WI:=(List.range h.objs.size).filter λa=>(H a).isSome
noncomputable def nv (h:Heap)(H:Hp):Heap:=PySem.W.hideAll h (HS h H)
def D5(h:Heap)(H:Hp):(nv h H).objs.size=h.objs.size:=PySem.W.hideAll_size _ _
def Gp{h:Heap}{H:Hp}{b:Addr}{o:Obj}(e:h.get? b=some o)(n:H b=none):(nv h H).get? b=some o:=
 PySem.W.hideAll_get _ e λhm=>by have q:(H b).isSome=true:=(T5.mp hm).2;rw[n]at q;simp at q
def Jh{h:Heap}{H:Hp}{b:Addr}{o:Obj}(e:(nv h H).get? b=some o):h.get? b=some o/\H b=none:=by
 have e':h.get? b=some o:=PySem.W.of_hideAll (HS h H) e;refine⟨e',?_⟩;cases q:H b with
 |none=>rfl
 |some x=>have hm:b∈HS h H:=T5.mpr ⟨Rg.mpr (RL e'),by simp[q]⟩;have z:(nv h H).get? b=none:=PySem.W.hideAll_none (HS h H) hm;rw[z]at e;cases e
structure Mod(K:Vz)(mg:Vt)(base:Heap):Prop where
 Hg:K.In base
 glob:base.Ns mainGlobals mg
 blt:∃mb,base.Ns builtinsNs mb/\∀x:Str,x≠"__name__"->mb x=bootBuiltins x
 nolimit:base.NoLimit
structure Cx where
 prog:Program
 w:World
 K:Vz
 mg:Vt
 base:Heap
 A:Around
 N:WQ
 s₀:Shared
 H₀:Hp
 env:Env
 outer:List Env
 stack:List Env
 ex:WI
 fn:Str->Bool
 calm:Bool
 pn:Vu
 xe:Vr
noncomputable def frs (l:List Env):WI:=l.filterMap (·.frame)
noncomputable abbrev Cx.fs (X:Cx):WI:=frs X.outer
noncomputable def kK (sc:Scope) (x:Str):Prop:=sc.names.lookup x=some .local\/sc.names.lookup x=some .cell\/sc.names.lookup x=some .free
noncomputable def Loc (sc:Scope) (x:Str):Prop:=sc.names.lookup x=some .local\/sc.names.lookup x=some .cell
noncomputable def Look (env:Env)(h:Heap)(m:Vt) (x:Str)(u:Value):Prop:=
 (env.kindOf x=some .local/\m x=some u)\/((env.kindOf x=some .cell\/env.kindOf x=some .free)/\∃c,env.cells.lookup x=some c/\h.IsCell c (some u))
structure Cx.Ok(X:Cx):Prop where
 mod:Mod X.K X.mg X.base
 kind:X.env.scope.kind=.function
 glob:X.env.globals=mainGlobals
 blt:X.env.builtins=builtinsNs
 above:X.s₀.heap.objs.size<=X.env.locals
 inj:∀x y c,X.env.cells.lookup x=some c->X.env.cells.lookup y=some c->x=y
 has:∀x,(X.env.kindOf x=some .cell\/X.env.kindOf x=some .free)->∃c,X.env.cells.lookup x=some c
 HA:∀x c,X.fn x=true->X.env.cells.lookup x=some c->X.s₀.heap.objs.size<=c
 hd:X.calm=true->X.A.handled=none
 frames:X.A.frames=some X.stack
 stk:X.stack=X.outer\/(X.stack=X.env::X.outer/\X.env.frame=some X.env.locals)
 Qs:∀b∈X.ex,b≠X.env.locals/\∀x c,X.env.cells.lookup x=some c->c≠b
 bs:∀b o,X.base.get? b=some o->X.s₀.heap.get? b=some o/\X.H₀ b=none
 Ah:X.base.objs.size<=X.s₀.heap.objs.size
 AE:∀b o,X.base.get? b=some o->b∉X.ex
 FZ:∀b∈X.ex,b∉X.fs
 lC:X.s₀.heap.FunFrames X.base X.outer
 Dj:∀b∈X.fs,X.H₀ b=none
structure Inv(X:Cx)(pins:Vu)(U:List (Option V))(H:Hp)(s:Shared):Prop where
 ok:X.Ok
 os:s.os=X.s₀.os
 bare:AllBare s.gens
 base:Un X.fs X.ex X.H₀ H X.s₀.heap s.heap
 loc:∃m,s.heap.Ns X.env.locals m/\∀(i:Nat) (x:Str) (v:V),X.N[i]?=some x->U[i]?=some (some v)->kK X.env.scope x->∃u,RelV v u/\Look X.env s.heap m x u
 cell:∀x c,X.env.cells.lookup x=some c->∃v,s.heap.IsCell c v
 free:H X.env.locals=none
 jJ:∀x c,X.env.cells.lookup x=some c->H c=none
 pin:∀p∈X.pn++pins,s.heap.get? p.1=some p.2/\H p.1=none/\p.1≠X.env.locals/\p.1∉X.fs/\∀v,p.2.data≠.cell v
 hok:cS X.prog X.w H s.heap
 len:U.length=X.N.length
section
variable{X:Cx}{pins:Vu}{U:List (Option V)}{H H':Hp}{s:Shared}{h':Heap}
def Cx.Ok.Qj(ok:X.Ok){b:Addr}{o:Obj}(e:X.base.get? b=some o):b∉X.fs:=λhb=>by have:=(ok.lC.mem hb).1;rw[e]at this;cases this
theorem Inv.bs(I:Inv X pins U H s):∀b o,X.base.get? b=some o->s.heap.get? b=some o/\H b=none:=λb o e=>
 ⟨I.base.keep b o (I.ok.bs b o e).1 (I.ok.bs b o e).2 (I.ok.Qj e) (I.ok.AE b o e),I.base.free b o (I.ok.bs b o e).1 (I.ok.bs b o e).2 (I.ok.AE b o e)⟩
def Inv.bk(I:Inv X pins U H s):∀b o,X.base.get? b=some o->s.heap.get? b=some o:=λb o e=>(I.bs b o e).1
theorem Inv.mod(I:Inv X pins U H s):Mod X.K X.mg X.base:=I.ok.mod
def Inv.gW(I:Inv X pins U H s):X.K.In s.heap:=I.ok.mod.Hg.keeps I.bk
theorem Inv.lt(I:Inv X pins U H s):X.env.locals<s.heap.objs.size:=let⟨_,hn,_⟩:=I.loc;hn.lt
def Inv.sz(I:Inv X pins U H s):X.s₀.heap.objs.size<=s.heap.objs.size:=Ri I.ok.above (Nat.le_of_lt I.lt)
def Inv.Na(I:Inv X pins U H s){a:Addr}(h:s.heap.objs.size<=a):a∉X.fs:=λhb=>by obtain⟨_,o,ho,_⟩:=I.ok.lC.mem hb;exact absurd (Rn (RL ho) (Ri I.sz h)) (S7 _)
def Inv.wK(I:Inv X pins U H s):∀x c,X.env.cells.lookup x=some c->c≠X.env.locals:=λx c e z=>by obtain⟨v,o,ho,hd⟩:=I.cell x c e;obtain⟨m,⟨o',es,ep,ho',hd',_⟩,_⟩:=I.loc;rw[z,ho']at ho;cases ho;rw[hd']at hd;cases hd
theorem Inv.lC(I:Inv X pins U H s):s.heap.FunFrames X.base X.outer:=by
 have all:∀(l:List Env),(∀b∈frs l,b∈X.fs)->X.s₀.heap.FunFrames X.base l->s.heap.FunFrames X.base l:=by
  intro l;induction l with
  |nil=>intro _ _;trivial
  |cons env r ih=>intro hs hl;obtain⟨hk,⟨L,o,hf,hn,ho,hd⟩,hr⟩:=hl;have hL:L∈X.fs:=hs L (by unfold frs;rw[TZ,hf];exact RC);obtain⟨sl,e⟩:=I.base.slot L o ho (I.ok.Dj L hL) hL λz=>I.ok.FZ L z hL;exact⟨hk,⟨L,_,hf,hn,e,hd⟩,ih (λb hb=>hs b (by unfold frs;rw[TZ,hf];exact RK _ hb)) hr⟩
 exact all X.outer (λ_ hb=>hb) I.ok.lC
theorem Inv.stack(I:Inv X pins U H s):s.heap.FunFrames X.base X.stack:=by rcases I.ok.stk with e|⟨e,hf⟩;{rw[e];exact I.lC};rw[e];obtain⟨m,hn,_⟩:=I.loc;refine .cons (by rw[I.ok.kind];decide) hf hn ?_ I.lC;exact VD (Ri I.ok.Ah I.ok.above)
def Inv.oU(I:Inv X pins U H s):∀b∈frs X.stack,b∈X.env.locals::X.fs:=λb hb=>by rcases I.ok.stk with e|⟨e,hf⟩;{rw[e]at hb;exact RK _ hb};rw[e]at hb;unfold frs at hb;rw[TZ,hf]at hb;exact hb
def Inv.ux(I:Inv X pins U H s):∀b∈frs X.stack,H b=none:=λb hb=>by rcases RP.mp (I.oU b hb)with e|hb;{rw[e];exact I.free};obtain⟨_,o,ho,_⟩:=I.ok.lC.mem hb;exact I.base.free b o ho (I.ok.Dj b hb) λz=>I.ok.FZ b z hb
def Inv.step{g':Array GenState}{t':Nat}{d':Drawn}{ch:WI}(I:Inv X pins U H s)(hch:∀b∈ch,(b∈X.ex\/X.s₀.heap.objs.size<=b)/\b≠X.env.locals/\(∀x c,X.env.cells.lookup x=some c->c≠b)/\∀p∈X.pn++pins,p.1≠b)(keep:∀b o,b≠X.env.locals->b∉X.fs->b∉ch->s.heap.get? b=some o->H b=none->h'.get? b=some o)(slot:∀b o,b≠X.env.locals->b∈X.fs->b∉ch->s.heap.get? b=some o->H b=none->∃sl,h'.get? b=some { o with slots:=sl })(free:∀b o,b∉ch->s.heap.get? b=some o->H b=none->H' b=none)(there:∀b o,b∉ch->s.heap.get? b=some o->∃o',h'.get? b=some o')(tups:∀b xs,H b=some (.tup xs)->H' b=some (.tup xs))(kD:∀b o u,H b=some (.dW o u)->H' b=some (.dW o u))(lz:∀b ps,H b=some (.uP ps)->∃more,H' b=some (.uP (ps++more)))(ns:∀m,s.heap.Ns X.env.locals m->h'.Ns X.env.locals m)(hok:cS X.prog X.w H' h')(hg:AllBare g') : Inv X pins U H' { s with heap:=h',gens:=g',drawn:=d',toks:=t' }:=by
 have neL:∀b o,X.s₀.heap.get? b=some o->b≠X.env.locals:=λb o e=>Rc (Rn (RL e) I.ok.above);have neC:∀b o,X.s₀.heap.get? b=some o->b∉X.ex->b∉ch:=λb o e hx hb=>by rcases(hch b hb).1 with z|z;{exact hx z};exact absurd (Rn (RL e) z) (S7 _)
 have cellK:∀x c,X.env.cells.lookup x=some c->∀v,s.heap.IsCell c v->h'.IsCell c v:=λx c e v ⟨o,ho,hd⟩=>by have nch:c∉ch:=λz=>(hch c z).2.2.1 x c e rfl;by_cases hc:c∈X.fs;{obtain⟨sl,q⟩:=slot c o (I.wK x c e) hc nch ho (I.jJ x c e);exact⟨_,q,hd⟩};exact⟨o,keep c o (I.wK x c e) hc nch ho (I.jJ x c e),hd⟩
 refine⟨I.ok,I.os,hg,⟨λb o e n hb hx=>?_,λb o e n hb hx=>?_,λb o e n hx=>?_,λb o e hx=>?_,λb xs e=>tups b xs (I.base.tups b xs e),λb o xs e=>kD b o xs (I.base.kD b o xs e),λb ps e=>?_⟩,?_,λx c e=>?_,?_,λx c e=>?_,λp hp=>?_,hok,I.len⟩;{exact keep b o (neL b o e) hb (neC b o e hx) (I.base.keep b o e n hb hx) (I.base.free b o e n hx)};{obtain⟨sl,e1⟩:=I.base.slot b o e n hb hx;obtain⟨sl',e2⟩:=slot b _ (neL b o e) hb (neC b o e hx) e1 (I.base.free b o e n hx);exact⟨sl',e2⟩};{obtain⟨o',e1⟩:=I.base.there b o e hx;exact free b o' (neC b o e hx) e1 (I.base.free b o e n hx)};{obtain⟨o',e1⟩:=I.base.there b o e hx;exact there b o' (neC b o e hx) e1};{obtain⟨m1,e1⟩:=I.base.lz b ps e;obtain⟨m2,e2⟩:=lz b _ e1;exact⟨m1++m2,by rw[e2,Array.append_assoc]⟩};{obtain⟨m,hn,hl⟩:=I.loc;refine⟨m,ns m hn,λi x v e1 e2 e3=>?_⟩;obtain⟨u,r,l⟩:=hl i x v e1 e2 e3;refine⟨u,r,?_⟩;rcases l with l|⟨k,c,e,z⟩;{exact .inl l};exact .inr ⟨k,c,e,cellK x c e _ z⟩};{obtain⟨v,z⟩:=I.cell x c e;exact⟨v,cellK x c e v z⟩};{obtain⟨m,⟨o,_,_,ho,_⟩,_⟩:=I.loc;exact free _ o (λz=>(hch _ z).2.1 rfl) ho I.free};{obtain⟨v,o,ho,hd⟩:=I.cell x c e;exact free c o (λz=>(hch c z).2.2.1 x c e rfl) ho (I.jJ x c e)};obtain⟨e,n,ne,nf,d⟩:=I.pin p hp;have nch:p.1∉ch:=λz=>(hch p.1 z).2.2.2 p hp rfl;exact⟨keep p.1 p.2 ne nf nch e n,free p.1 p.2 nch e n,ne,nf,d⟩
def Inv.un{t':Nat}(I:Inv X pins U H s)(u:Un X.fs [] H H' s.heap h')(hok:cS X.prog X.w H' h'):Inv X pins U H' { s with heap:=h',toks:=t' }:=by
 obtain⟨m,⟨o,es,ep,ho,r⟩,_⟩:=id I.loc;obtain⟨sl,hL⟩:=u.any ho I.free (by simp);exact I.step (g':=s.gens) (d':=s.drawn) (ch:=[]) (λ_ z=>nomatch z) (λb o _ hb _ e n=>u.keep b o e n hb (by simp)) (λb o _ hb _ e n=>u.slot b o e n hb (by simp)) (λb o _ e n=>u.free b o e n (by simp)) (λb o _ e=>u.there b o e (by simp)) u.tups u.kD u.lz (λm' hm=>by
  obtain⟨o',es',ep',ho',r'⟩:=hm;rw[ho]at ho';cases ho';exact⟨_,es',ep',hL,r'⟩) hok I.bare
def Inv.call{g':Array GenState}{t':Nat}{d':Drawn}{ch:WI}(I:Inv X pins U H s)(u:Un (frs X.stack) ch H H' s.heap h')(hok:cS X.prog X.w H' h')(hg:AllBare g')(hch:∀b∈ch,(b∈X.ex\/X.s₀.heap.objs.size<=b)/\b≠X.env.locals/\(∀x c,X.env.cells.lookup x=some c->c≠b)/\∀p∈X.pn++pins,p.1≠b) : Inv X pins U H' { s with heap:=h',gens:=g',drawn:=d',toks:=t' }:=by
 obtain⟨m,⟨o,es,ep,ho,r⟩,_⟩:=id I.loc;obtain⟨sl,hL⟩:=u.any ho I.free λz=>(hch _ z).2.1 rfl;exact I.step (ch:=ch) hch (λb o hL hb hc e n=>u.keep b o e n (λz=>(RP.mp (I.oU b z)).elim hL hb) hc) (λb o _ _ hc e n=>u.any e n hc) (λb o hc e n=>u.free b o e n hc) (λb o hc e=>u.there b o e hc) u.tups u.kD u.lz (λm' hm=>by
  obtain⟨o',es',ep',ho',r'⟩:=hm;rw[ho]at ho';cases ho';exact⟨_,es',ep',hL,r'⟩) hok hg
def Inv.turned{t':Nat}{it:Addr}(I:Inv X pins U H s)(k:∀b o,b≠it->s.heap.get? b=some o->h'.get? b=some o)(hn:H it=none)(hL:it≠X.env.locals)(h1:it∈X.ex\/X.s₀.heap.objs.size<=it)(h2:∀x c,X.env.cells.lookup x=some c->c≠it)(h3:∀p∈X.pn++pins,p.1≠it):Inv X pins U H { s with heap:=h',toks:=t' }:=by
 have nit:∀b u,H b=some u->b≠it:=λb u e z=>by rw[z,hn]at e;cases e
 refine I.step (g':=s.gens) (d':=s.drawn) (ch:=[it]) (λb hb=>?_) (λb o _ _ hc e _=>k b o (λz=>hc (by simp[z])) e) (λb o _ _ hc e _=>⟨o.slots,k b o (λz=>hc (by simp[z])) e⟩) (λ_ _ _ _ n=>n)
  (λb o hc e=>⟨o,k b o (λz=>hc (by simp[z])) e⟩) (λ_ _ e=>e) (λ_ _ _ e=>e) (λb ps e=>⟨#[],by rw[e];simp⟩) (λm hm=>?_) (λb u e=>?_) I.bare
 .have e:b=it:=by simpa using hb
  subst e;exact⟨h1,hL,h2,h3⟩
 .obtain⟨o,es,ep,ho,r⟩:=hm;exact⟨o,es,ep,k _ o (Ne.symm hL) ho,r⟩
 refine(I.hok b u e).stay (λc v hc q=>k c v ?_ q) (λ_ q=>q) λ_ _ q=>q;rcases hc with z|z;{rw[z];exact nit b u e};exact nit c _ z
def Inv.tok(I:Inv X pins U H s) (t:Nat):Inv X pins U H { s with toks:=t }:=I.un (h':=s.heap) (t':=t) Un.refl I.hok
theorem Inv.kept{t':Nat}(I:Inv X pins U H s)(k:∀b u,s.heap.get? b=some u->h'.get? b=some u):Inv X pins U H { s with heap:=h',toks:=t' }:=I.un (Un.kept k) (I.hok.kept k)
theorem Inv.laid{a:Addr}{o:HO}{t':Nat}(I:Inv X pins U H s)(k:∀b u,s.heap.get? b=some u->h'.get? b=some u)(hp:s.heap.objs.size<=a)(new:bE X.prog X.w (upd H a o) h' a o) : Inv X pins U (upd H a o) { s with heap:=h',toks:=t' }:=I.un (Un.laid k hp (I.hok.fresh hp)) (I.hok.laid k hp new)
theorem Inv.write{x e:Addr}{o:HO}{t':Nat}(I:Inv X pins U H s)(mu:Cv (H x))(he:e=x\/H e=some (.own x))(k:∀b u,b≠e->s.heap.get? b=some u->h'.get? b=some u)(heo:∃u,h'.get? e=some u)(new:bE X.prog X.w (upd H x o) h' x o):Inv X pins U (upd H x o) { s with heap:=h',toks:=t' }:=I.un (Un.write mu he k heo) (I.hok.write mu he k heo new)
def Inv.mC{pins':Vu}(I:Inv X pins U H s)(h:∀p∈pins',s.heap.get? p.1=some p.2/\H p.1=none/\p.1≠X.env.locals/\p.1∉X.fs/\∀v,p.2.data≠.cell v):Inv X pins' U H s:=
 ⟨I.ok,I.os,I.bare,I.base,I.loc,I.cell,I.free,I.jJ,λp hp=>(RY.mp hp).elim (λz=>I.pin p (VE _ z)) (h p),I.hok,I.len⟩
def wV{N:WQ}(hN:N.Nodup){i j:Nat}{x:Str}(a:N[i]?=some x)(b:N[j]?=some x):i=j:=by obtain⟨h1,e1⟩:=U0.mp a;obtain⟨h2,e2⟩:=U0.mp b;exact(List.getElem_inj hN).mp (e1.trans e2.symm)
def u7{M:Model}{A:Around}{E:Vr}{i:Nat}{x:Str}{v:V}{u:Value}{Q:Unit->Shared->Prop}(I:Inv X pins U H s)(hN:X.N.Nodup)(hi:X.N[i]?=some x)(hx:Loc X.env.scope x)(r:RelV v u)(h:∀s',Inv X pins (U.set i (some v)) H s'->(∃a,Heap.SameBut a s.heap s'.heap/\(a=X.env.locals\/X.env.cells.lookup x=some a))->Q () s')(hf:X.fn x=true\/X.env.scope.names.lookup x=some .local:=by first|exact .inl rfl|exact .inr rfl|assumption):wpAny M A (storeName X.env x u) Q E s:=by
 obtain⟨m,hn,hl⟩:=id I.loc;have hcls:(X.env.scope.kind == .class||(X.env.scope.kind == .module&&X.env.locals != X.env.globals))=false:=by rw[I.ok.kind];rfl
 have hiσ:i<U.length:=by rw[I.len];exact(U0.mp hi).1
 have wK:=I.wK;have tracked:∀{a:Addr}{h':Heap},(∃o,s.heap.get? a=some o/\H a=none)->Heap.SameBut a s.heap h'->cS X.prog X.w H h':=λ{a h'} ha hs b ob e=>by obtain⟨_,_,hfree⟩:=ha;refine(I.hok b ob e).stay (λc w' hc q=>(hs.2 c ?_).trans q) (λ_ q=>q) λ_ _ q=>q;rintro rfl;rcases hc with rfl|hc;{rw[hfree]at e;cases e};rw[hfree]at hc;cases hc
 rcases hx with hk|hk;{refine wpAny_storeName_local hk hn (λh' hn' hs=>?_) hcls;obtain⟨oL,_,_,hoL,_⟩:=id hn;refine h _ ⟨I.ok,I.os,I.bare,⟨λb o e n hb hx=>?_,λb o e n hb hx=>?_,I.base.free,λb o e hx=>?_,I.base.tups,I.base.kD,I.base.lz⟩,⟨_,hn',λj y v' e1 e2 e3=>?_⟩,λy c e=>?_,I.free,I.jJ,λp hp=>?_,tracked ⟨oL,hoL,I.free⟩ hs,by simpa using I.len⟩ ⟨_,hs,.inl rfl⟩;{exact(hs.2 b (Rc (Rn (RL e) I.ok.above))).trans (I.base.keep b o e n hb hx)};{obtain⟨sl,e1⟩:=I.base.slot b o e n hb hx;exact⟨sl,(hs.2 b (Rc (Rn (RL e) I.ok.above))).trans e1⟩};{obtain⟨o',e1⟩:=I.base.there b o e hx;exact⟨o',(hs.2 b (Rc (Rn (RL e) I.ok.above))).trans e1⟩};{by_cases hj:j=i;{subst hj;rw[hi]at e1;cases e1;rw[T7 hiσ]at e2;cases e2;exact⟨u,r,.inl ⟨hk,by simp⟩⟩};rw[Si (Ne.symm hj)]at e2;obtain⟨u',r',q⟩:=hl j y v' e1 e2 e3;refine⟨u',r',?_⟩;rcases q with⟨k,e⟩|⟨k,c,e,z⟩;{refine .inl ⟨k,?_⟩;have:y≠x:=λe=>hj (wV hN e1 (e▸hi));simp[this,e]};exact .inr ⟨k,c,e,z.sameBut hs (wK y c e)⟩};{obtain⟨w',z⟩:=I.cell y c e;exact⟨w',z.sameBut hs (wK y c e)⟩};obtain⟨e,n,ne,nf,d⟩:=I.pin p hp;exact⟨(hs.2 p.1 ne).trans e,n,ne,nf,d⟩};have hfn:X.fn x=true:=by rcases hf with z|z;{exact z};rw[z]at hk;cases hk
 obtain⟨c,hc⟩:=I.ok.has x (.inl hk);obtain⟨w',z⟩:=I.cell x c hc;refine wpAny_storeName_cell I.ok.kind hk hc z (λh' hc' hs=>?_);obtain⟨oc,hoc,hocd⟩:=id z;refine h { s with heap:=h' } ⟨I.ok,I.os,I.bare,⟨λb o e n hb hx=>?_,λb o e n hb hx=>?_,I.base.free,λb o e hx=>?_,I.base.tups,I.base.kD,I.base.lz⟩,⟨m,hn.sameBut hs (Ne.symm (wK x c hc)),λj y v' e1 e2 e3=>?_⟩,λy c' e=>?_,I.free,I.jJ,λp hp=>?_,tracked ⟨oc,hoc,I.jJ x c hc⟩ hs,by simpa using I.len⟩ ⟨c,hs,.inr hc⟩;{exact(hs.2 b (Rc (Rn (RL e) (I.ok.HA x c hfn hc)))).trans (I.base.keep b o e n hb hx)};{obtain⟨sl,e1⟩:=I.base.slot b o e n hb hx;exact⟨sl,(hs.2 b (Rc (Rn (RL e) (I.ok.HA x c hfn hc)))).trans e1⟩};{obtain⟨o',e1⟩:=I.base.there b o e hx;exact⟨o',(hs.2 b (Rc (Rn (RL e) (I.ok.HA x c hfn hc)))).trans e1⟩};{by_cases hj:j=i;{subst hj;rw[hi]at e1;cases e1;rw[T7 hiσ]at e2;cases e2;exact⟨u,r,.inr ⟨.inl hk,c,hc,hc'⟩⟩};rw[Si (Ne.symm hj)]at e2;obtain⟨u',r',q⟩:=hl j y v' e1 e2 e3;refine⟨u',r',?_⟩;rcases q with q|⟨k,c',e,z'⟩;{exact .inl q};refine .inr ⟨k,c',e,z'.sameBut hs ?_⟩;rintro rfl;exact hj (wV hN e1 (I.ok.inj _ _ _ e hc▸hi))};{by_cases hcc:c'=c;{subst hcc;exact⟨_,hc'⟩};obtain⟨w2,z2⟩:=I.cell y c' e;exact⟨w2,z2.sameBut hs hcc⟩};obtain⟨e,n,ne,nf,d⟩:=I.pin p hp;refine⟨(hs.2 p.1 ?_).trans e,n,ne,nf,d⟩;intro q;rw[q,hoc]at e;have q':oc=p.2:=Option.some.inj e;exact d w' (by rw[<-q'];exact hocd)
def qO{M:Model}{A:Around}{E:Vr}{i:Nat}{x:Str}{v:V}{u:Value}{Q:Unit->Shared->Prop}(I:Inv X pins U H s)(hN:X.N.Nodup)(hi:X.N[i]?=some x)(hx:Loc X.env.scope x)(r:RelV v u)(h:∀s',Inv X pins (U.set i (some v)) H s'->Q () s')(hf:X.fn x=true\/X.env.scope.names.lookup x=some .local:=by first|exact .inl rfl|exact .inr rfl|assumption):wpAny M A (storeName X.env x u) Q E s:=
 u7 I hN hi hx r (λs' I' _=>h s' I') hf
def Inv.Iu{s':Shared}{ch:WI}(I:Inv X pins U H s)(ho:s'.os=s.os)(u:Un (frs X.stack) ch H H' s.heap s'.heap)(hok:cS X.prog X.w H' s'.heap)(hg:AllBare s'.gens)(hch:∀b∈ch,(b∈X.ex\/X.s₀.heap.objs.size<=b)/\b≠X.env.locals/\(∀x c,X.env.cells.lookup x=some c->c≠b)/\∀p∈X.pn++pins,p.1≠b):Inv X pins U H' s':=by obtain⟨h',g',d',t',o'⟩:=s';have e:o'=s.os:=ho;subst e;exact I.call (g':=g') (t':=t') (d':=d') u hok hg hch
end
noncomputable abbrev XK:=Value->WD->Hp->Prop
noncomputable abbrev St:=List (Option V)
noncomputable abbrev VK:=V->Hp->Prop
noncomputable abbrev TE:=St->Hp->VK->Prop
noncomputable abbrev TT:=St->Hp->(Bool->Hp->Prop)->Prop
noncomputable abbrev TA:=St->Hp->(List V->Hp->Prop)->Prop
structure Ends where
 nx:St->Hp->Prop
 rt:VK
 bk:St->Hp->Prop:=λ_ _=>False
 ct:St->Hp->Prop:=λ_ _=>False
noncomputable abbrev TS:=Ends->St->Hp->Prop
noncomputable def EP (X:Cx)(pins:Vu)(U:St)(Q:VK)(u:Value)(s':Shared):Prop:=∃v H',Inv X pins U H' s'/\RelV v u/\Q v H'
noncomputable def TP (X:Cx)(pins:Vu)(U:St)(Q:Bool->Hp->Prop)(b:Bool)(s':Shared):Prop:=∃H',Inv X pins U H' s'/\Q b H'
noncomputable def AP (X:Cx)(pins:Vu)(U:St)(Q:List V->Hp->Prop)(us:WH)(s':Shared):Prop:=∃vs H',Inv X pins U H' s'/\Vals vs us/\Q vs H'
noncomputable def SP (X:Cx)(pins:Vu)(D:Ends)(f:Flow)(s':Shared):Prop:=
 match f with
 |.next=>∃σ' H',Inv X pins σ' H' s'/\D.nx σ' H'
 |.brk=>∃σ' H',Inv X pins σ' H' s'/\D.bk σ' H'
 |.cont=>∃σ' H',Inv X pins σ' H' s'/\D.ct σ' H'
 |.ret u=>∃v σ' H',Inv X pins σ' H' s'/\RelV v u/\D.rt v H'
noncomputable def PE (X:Cx)(e:Expr)(t:TE):Prop:=
 ∀(pins:Vu)(s:Shared)(U:St)(H:Hp)(Q:VK),Inv X pins U H s->t U H Q->wpAny (model X.prog X.w) X.A (eval e X.env) (EP X pins U Q) X.xe s
noncomputable def PT (X:Cx)(e:Expr)(t:TT):Prop:=
 ∀(pins:Vu)(s:Shared)(U:St)(H:Hp)(Q:Bool->Hp->Prop),Inv X pins U H s->t U H Q->wpAny (model X.prog X.w) X.A (isTrue e X.env (eval e X.env)) (TP X pins U Q) X.xe s
noncomputable def PW (X:Cx)(e:Expr)(t:TT):Prop:=
 ∀(whole:Sem Value)(pins:Vu)(s:Shared)(U:St)(H:Hp)(Q:Bool->Hp->Prop),Inv X pins U H s->t U H Q->wpAny (model X.prog X.w) X.A (isTrue e X.env whole) (TP X pins U Q) X.xe s
def PW.pt{X:Cx}{e:Expr}{t:TT}(h:PW X e t):PT X e t:=h _
noncomputable def PA (X:Cx)(es:WK)(t:TA):Prop:=
 ∀(pos:Pos)(pins:Vu)(s:Shared)(U:St)(H:Hp)(Q:List V->Hp->Prop),Inv X pins U H s->t U H Q->wpAny (model X.prog X.w) X.A (spliced (backTo pos (starEach es X.env))) (AP X pins U Q) X.xe s
noncomputable def PS (X:Cx)(st:Stmt)(t:TS):Prop:=
 ∀(pins:Vu)(s:Shared)(U:St)(H:Hp)(D:Ends),Inv X pins U H s->t D U H->wpAny (model X.prog X.w) X.A (exec st X.env) (SP X pins D) X.xe s
noncomputable def nZ (X:Cx)(st:WM)(t:TS):Prop:=
 ∀(pins:Vu)(s:Shared)(U:St)(H:Hp)(D:Ends),Inv X pins U H s->t D U H->wpAny (model X.prog X.w) X.A (execs st X.env) (SP X pins D) X.xe s
def aO{α:Type}{t:Sem α}{Q Q':α->Shared->Prop}{M:Model}{A:Around}{E:Vr}{s:Shared}(h:wpAny M A t Q E s)(hQ:∀a s,Q a s->Q' a s):wpAny M A t Q' E s:=SO h hQ λ_ _ x=>x
section
variable{X:Cx}
inductive HG(i:Nat)(U:St)(H:Hp)(Q:VK):Prop
 |mk:∀v,(U[i]?=some (some v))->(Q v H)->HG i U H Q
noncomputable def kJ (i:Nat):TE:=λU H Q=>HG i U H Q
noncomputable def tC (v:V):TE:=λ_ H Q=>Q v H
def fh{i:Nat}{x:Str}{pos:Pos}(hN:X.N[i]?=some x)(hv:kK X.env.scope x)(hd:(x==("__debug__":Str))=false:=by decide)(hcd:(x==("__classdict__":Str))=false:=by decide):PE X (.Name x pos) (kJ i):=by intro pins s U H Q I h;obtain⟨v,e,h⟩:=h;obtain⟨m,hn,hl⟩:=I.loc;obtain⟨u,r,l⟩:=hl i x v hN e hv;have fin:EP X pins U Q u s:=⟨v,H,I,r,h⟩;rcases l with⟨hk,hm⟩|⟨hk,c,hc,hcell⟩;{exact wpAny_Name (wpAny_loadName_local I.ok.kind hk hn hm fin) hd};rcases hk with hk|hk;{exact wpAny_Name (wpAny_loadName_cell I.ok.kind hk hc hcell fin) hd};exact wpAny_Name (wpAny_loadName_free I.ok.kind hk hc hcell fin hcd) hd
def L0{i j pos}:PE X (.Constant (.int i) j pos) (tC (.int i)):=λ_ _ _ H _ I h=>wpAny_Constant_int ⟨.int i,H,I.tok _,⟨_,rfl⟩,h⟩
def Np{b j pos}:PE X (.Constant (.bool b) j pos) (tC (.bl b)):=λ_ _ _ H _ I h=>Constant_bool ⟨.bl b,H,I,rfl,h⟩
def MQ{j pos}:PE X (.Constant .none j pos) (tC .bg):=λ_ _ _ H _ I h=>Constant_none ⟨.bg,H,I,rfl,h⟩
def Es{x j pos}:PE X (.Constant (.str x) j pos) (tC (.str x)):=λ_ _ _ H _ I h=>Calls.Constant_str ⟨.str x,H,I.tok _,⟨_,rfl⟩,h⟩
noncomputable def Gl (X:Cx) (x:Str):Prop:=X.env.kindOf x=some .globalImplicit
def t7{E:Vr}{pins:Vu}{s:Shared}{U:St}{H:Hp}{x:Str}{u:Value}{pos:Pos}{Q:Vr}(I:Inv X pins U H s)(hg:Gl X x)(hm:X.mg x=some u)(h:Q u s)(hd:(x==("__debug__":Str))=false:=by decide):wpAny (model X.prog X.w) X.A (eval (.Name x pos) X.env) Q E s:=
 Calls.Name_function_global I.ok.kind hg (Calls.loadGlobal_global (by rw[I.ok.glob];exact I.mod.glob.keeps I.bk) hm h) hd
def ji{E:Vr}{pins:Vu}{s:Shared}{U:St}{H:Hp}{x:Str}{u:Value}{pos:Pos}{Q:Vr}(I:Inv X pins U H s)(hg:Gl X x)(hm:X.mg x=none)(hv:bootBuiltins x=some u)(h:Q u s)(hn:x≠"__name__":=by decide)(hd:(x==("__debug__":Str))=false:=by decide):wpAny (model X.prog X.w) X.A (eval (.Name x pos) X.env) Q E s:=by obtain⟨mb,h1,h2⟩:=I.mod.blt;exact Calls.Name_function_global I.ok.kind hg (Calls.loadGlobal_builtin (by rw[I.ok.glob];exact I.mod.glob.keeps I.bk) hm (by rw[I.ok.blt];exact h1.keeps I.bk) ((h2 x hn).trans hv) h) hd
def IB{x:Str}{v:V}{u:Value}{pos:Pos}(hg:Gl X x)(hm:X.mg x=some u)(r:RelV v u)(hd:(x==("__debug__":Str))=false:=by decide):PE X (.Name x pos) (tC v):=
 λ_ _ _ H _ I h=>t7 I hg hm ⟨v,H,I,r,h⟩ hd
def Ja{x:Str}{v:V}{u:Value}{pos:Pos}(hg:Gl X x)(hm:X.mg x=none)(hv:bootBuiltins x=some u)(r:RelV v u)(hn:x≠"__name__":=by decide)(hd:(x==("__debug__":Str))=false:=by decide):PE X (.Name x pos) (tC v):=
 λ_ _ _ H _ I h=>ji I hg hm hv ⟨v,H,I,r,h⟩ hn hd
variable{a b:Expr}{ta tb:TE}{pos:Pos}
variable{tA tB':TT}{rest:WK}
noncomputable def Pp (t u:TT):TT:=λU H Q=>t U H λc H1=>if c=true then u U H1 Q else Q false H1
noncomputable def QJ (t u:TT):TT:=λU H Q=>t U H λc H1=>if c=true then Q true H1 else u U H1 Q
noncomputable def Py (t:TT):TT:=λU H Q=>t U H λc H1=>Q (!c) H1
def pw_and1(ha:PT X a tA):PW X (.BoolOp .And [a] pos) tA:=by
 intro wh pins s U H Q I h;refine isTrue_and (aO (ha pins s U H Q I h) λc s1 e=>?_);cases c with
 |true=>exact isTrue_and_nil e
 |false=>exact e
def pw_or1(ha:PT X a tA):PW X (.BoolOp .Or [a] pos) tA:=by
 intro wh pins s U H Q I h;refine isTrue_or (aO (ha pins s U H Q I h) λc s1 e=>?_);cases c with
 |false=>exact isTrue_or_nil e
 |true=>exact e
def pw_and(ha:PT X a tA)(hb:PW X (.BoolOp .And (b::rest) pos) tB'):PW X (.BoolOp .And (a::b::rest) pos) (Pp tA tB'):=by
 intro wh pins s U H Q I h;refine isTrue_and (aO (ha pins s U H _ I h) λc s1 ⟨H1,I1,q1⟩=>?_);cases c with
 |true=>exact hb wh pins s1 U H1 Q I1 q1
 |false=>exact⟨H1,I1,q1⟩
def pw_or(ha:PT X a tA)(hb:PW X (.BoolOp .Or (b::rest) pos) tB'):PW X (.BoolOp .Or (a::b::rest) pos) (QJ tA tB'):=by
 intro wh pins s U H Q I h;refine isTrue_or (aO (ha pins s U H _ I h) λc s1 ⟨H1,I1,q1⟩=>?_);cases c with
 |true=>exact⟨H1,I1,q1⟩
 |false=>exact hb wh pins s1 U H1 Q I1 q1
def Lr(ha:PT X a tA):PT X (.UnaryOp .Not a pos) (Py tA):=by intro pins s U H Q I h;exact isTrue_not (ha pins s U H (λc H1=>Q (!c) H1) I h)
inductive DA(tb:TE)(U:St)(Q:VK) (x:V)(H1:Hp):Prop
 |mk:∀c,(x=.bl c)->(if c=true then tb U H1 Q else Q (.bl false) H1)->DA tb U Q x H1
noncomputable def NX (ta tb:TE):TE:=λU H Q=>ta U H λx H1=>DA tb U Q x H1
inductive Ie(tb:TE)(U:St)(Q:VK) (x:V)(H1:Hp):Prop
 |mk:∀c,(x=.bl c)->(if c=true then Q (.bl true) H1 else tb U H1 Q)->Ie tb U Q x H1
noncomputable def Pf (ta tb:TE):TE:=λU H Q=>ta U H λx H1=>Ie tb U Q x H1
def Km{op}{t:TE}(h:PE X a t):PE X (.BoolOp op [a] pos) t:=λpins s U H Q I hw=>BoolOp_one (h pins s U H Q I hw)
def Kc(ha:PE X a ta)(hb:PE X (.BoolOp .And (b::rest) pos) tb):PE X (.BoolOp .And (a::b::rest) pos) (NX ta tb):=by
 intro pins s U H Q I h;refine BoolOp_and (aO (ha pins s U H _ I h) λv s1 ⟨x,H1,I1,r1,q1⟩=>?_);obtain⟨c,rfl,q1⟩:=q1;cases r1;refine Tc ?_;cases c with
 |true=>exact hb pins s1 U H1 Q I1 q1
 |false=>exact⟨.bl false,H1,I1,rfl,q1⟩
def NN(ha:PE X a ta)(hb:PE X (.BoolOp .Or (b::rest) pos) tb):PE X (.BoolOp .Or (a::b::rest) pos) (Pf ta tb):=by
 intro pins s U H Q I h;refine BoolOp_or (aO (ha pins s U H _ I h) λv s1 ⟨x,H1,I1,r1,q1⟩=>?_);obtain⟨c,rfl,q1⟩:=q1;cases r1;refine Tc ?_;cases c with
 |false=>exact hb pins s1 U H1 Q I1 q1
 |true=>exact⟨.bl true,H1,I1,rfl,q1⟩
noncomputable def Qn (t:TT)(ta tb:TE):TE:=λU H Q=>t U H λc H1=>if c=true then ta U H1 Q else tb U H1 Q
def FA{c:Expr}(hc:PT X c tA)(ha:PE X a ta)(hb:PE X b tb):PE X (.IfExp c a b pos) (Qn tA ta tb):=by
 intro pins s U H Q I h;refine wpAny_IfExp (aO (hc pins s U H _ I h) λd s1 ⟨H1,I1,q1⟩=>?_);cases d with
 |true=>exact ha pins s1 U H1 Q I1 q1
 |false=>exact hb pins s1 U H1 Q I1 q1
end
noncomputable def bI (K:Vz)(H:Hp)(a:Addr)(xs:List V):Prop:=
 Rd H a (.lst xs) \/
  ∃(o:Obj)(its:WB) (n:Nat),K.lookup a=some o/\o.cls=.type "list"/\o.dict=none/\o.data=.seq its n/\its.size<=sizeLine/\Vals xs its.toList
noncomputable def bM (K:Vz)(H:Hp)(a:Addr)(xs:List V):Prop:=
 Rd H a (.tup xs) \/
  ∃(o:Obj)(its:WB) (n:Nat),K.lookup a=some o/\o.cls=.type "tuple"/\o.data=.seq its n/\its.size<=sizeLine/\Vals xs its.toList
noncomputable def PV:Value->Option V
 |.none=>some .bg
 |.bool b=>some (.bl b)
 |.int i _=>some (.int i)
 |.str x _=>some (.str x)
 |.bytes b _=>some (.l9 b)
 |.float b _=>some (.zp b)
 |.ref a=>some (.ref a)
 |.type n=>some (.ty n)
 |_=>none
def RelV.abs{x:V}{u:Value}(r:RelV x u):PV u=some x:=by
 cases x with
 |bg=>cases r;rfl
 |bl _=>cases r;rfl
 |int _=>obtain⟨t,rfl⟩:=r;rfl
 |str _=>obtain⟨t,rfl⟩:=r;rfl
 |l9 _=>obtain⟨t,rfl⟩:=r;rfl
 |zp _=>obtain⟨t,rfl⟩:=r;rfl
 |ref _=>cases r;rfl
 |ty _=>cases r;rfl
theorem RelV.inj{x y:V}{u:Value}(r:RelV x u)(q:RelV y u):x=y:=Option.some.inj (r.abs.symm.trans q.abs)
theorem Vals.inj{xs ys:List V}{us:WH}(h:Vals xs us)(h':Vals ys us):xs=ys:=by
 induction h generalizing ys with
 |nil=>cases h';rfl
 |cons r t ih=>cases h' with|cons r' t'=>rw[r.inj r',ih t']
section
variable{X:Cx}{pins:Vu}{U:St}{H:Hp}{s:Shared}{a:Addr}{xs ys:List V}
def bI.of{K:Vz}(h:H a=some (.lst xs)):bI K H a xs:=.inl (.inl h)
def bM.of{K:Vz}(h:H a=some (.tup xs)):bM K H a xs:=.inl (.inl h)
def Inv.list(I:Inv X pins U H s)(h:bI X.K H a xs):∃its:WH,Vals xs its/\PlainL s.heap a its.toArray/\xs.length<=sizeLine:=by rcases h with h|⟨o,its,n,hk,hc,hd,hs,hz,r⟩;{obtain⟨z,its,n,r,e⟩:=h.ok I.hok;exact⟨its,r,⟨_,n,e,rfl,rfl,rfl⟩,z⟩};refine⟨its.toList,r,⟨o,n,I.gW a o hk,hc,hd,by simpa using hs⟩,?_⟩;have e:=r.length;simp only[T8]at e;lia
def Inv.tuple(I:Inv X pins U H s)(h:bM X.K H a xs):∃its:WH,Vals xs its/\IsTup s.heap a its.toArray/\xs.length<=sizeLine:=by rcases h with h|⟨o,its,n,hk,hc,hs,hz,r⟩;{obtain⟨z,its,r,p⟩:=h.ok I.hok;exact⟨its,r,p,z⟩};refine⟨its.toList,r,⟨o,I.gW a o hk,hc,n,by simpa using hs⟩,?_⟩;have e:=r.length;simp only[T8]at e;lia
def Inv.mX(I:Inv X pins U H s)(h:bI X.K H a xs)(h':bI X.K H a ys):xs=ys:=by
 obtain⟨its,r,⟨o,n,e,_,_,d⟩,_⟩:=I.list h;obtain⟨its',r',⟨o',n',e',_,_,d'⟩,_⟩:=I.list h';rw[e]at e';cases e';rw[d]at d';injection d' with d1 _;have:its=its':=by simpa using congrArg Array.toList d1
 subst this;exact r.inj r'
def Inv.C0(I:Inv X pins U H s)(h:bM X.K H a xs)(h':bM X.K H a ys):xs=ys:=by
 obtain⟨its,r,⟨o,e,_,n,d⟩,_⟩:=I.tuple h;obtain⟨its',r',⟨o',e',_,n',d'⟩,_⟩:=I.tuple h';rw[e]at e';cases e';rw[d]at d';injection d' with d1 _;have:its=its':=by simpa using congrArg Array.toList d1
 subst this;exact r.inj r'
end
section
variable{X:Cx}{st:Stmt}{rest:WM}{t u:TS}{e:Expr}{te:TE}{pos:Pos}
noncomputable def N8:TS:=λD U H=>D.nx U H
noncomputable def Pg (t u:TS):TS:=λD U H=>t { D with nx:=u D } U H
def IU:nZ X [] N8:=λ_ _ U H _ I h=>Ui ⟨U,H,I,h⟩
def xh(h1:PS X st t)(h2:nZ X rest u):nZ X (st::rest) (Pg t u):=by
 intro pins s U H D I h;refine wpAny_execs_cons (aO (h1 pins s U H { D with nx:=u D } I h) λf s1 q=>?_);cases f with
 |next=>obtain⟨σ',H',I',q⟩:=q;exact h2 pins s1 σ' H' D I' q
 |ret v=>exact q
 |brk=>exact q
 |cont=>exact q
def IL(h1:PS X st t):nZ X [st] t:=by
 intro pins s U H D I h;refine wpAny_execs_cons (aO (h1 pins s U H D I h) λf s1 q=>?_);cases f with
 |next=>exact Ui q
 |ret v=>exact q
 |brk=>exact q
 |cont=>exact q
def Inv.quiet{pins:Vu}{U:St}{H:Hp}{s:Shared}(I:Inv X pins U H s):interactive X.env=false:=by simp[interactive,I.ok.kind]
noncomputable def Oz (te:TE):TS:=λD U H=>te U H λ_ H1=>D.nx U H1
def J1(he:PE X e te)(hs:swapsWith e none pos.line X.env=pure false:=by rfl):PS X (.Expr e pos) (Oz te):=by intro pins s U H D I h;exact wpAny_Expr_any (aO (he pins s U H _ I h) λv s1 ⟨x,H1,I1,r1,q1⟩=>⟨U,H1,I1,q1⟩) I.quiet hs
noncomputable def Pk (te:TE):TS:=λD U H=>te U H D.rt
def D3(he:PE X e te):PS X (.Return (some e) pos) (Pk te):=by intro pins s U H D I h;exact wpAny_Return_some (aO (he pins s U H _ I h) λv s1 ⟨x,H1,I1,r1,q1⟩=>⟨x,U,H1,I1,r1,q1⟩)
noncomputable def Ph (c:TT)(t u:TS):TS:=λD U H=>c U H λb H1=>if b=true then t D U H1 else u D U H1
def NF{c:Expr}{a b:WM}{tc:TT}(hc:PT X c tc)(ha:nZ X a t)(hb:nZ X b u):PS X (.If c a b pos) (Ph tc t u):=by
 intro pins s U H D I h;refine wpAny_If (aO (hc pins s U H _ I h) λd s1 ⟨H1,I1,q1⟩=>?_);cases d with
 |true=>exact ha pins s1 U H1 D I1 q1
 |false=>exact hb pins s1 U H1 D I1 q1
end
noncomputable abbrev TG:=V->St->Hp->(St->Hp->Prop)->Prop
noncomputable abbrev qv:=List V->St->Hp->(St->Hp->Prop)->Prop
noncomputable def PG (X:Cx)(target:Expr)(t:TG):Prop:=
 ∀(pins:Vu)(s:Shared)(U:St)(H:Hp) (v:V)(u:Value)(Q:St->Hp->Prop),Inv X pins U H s->RelV v u->t v U H Q->
  wpAny (model X.prog X.w) X.A (assign target X.env u) (λ_ s'=>∃σ' H',Inv X pins σ' H' s'/\Q σ' H') X.xe s
noncomputable def EF (X:Cx)(ts:WK)(t:qv):Prop:=
 ∀(pins:Vu)(s:Shared)(U:St)(H:Hp)(vs:List V)(us:WH)(Q:St->Hp->Prop),Inv X pins U H s->Vals vs us->t vs U H Q->
  wpAny (model X.prog X.w) X.A (assignInOrder ((assignEach ts X.env).map (·.2)) us) (λ_ s'=>∃σ' H',Inv X pins σ' H' s'/\Q σ' H') X.xe s
noncomputable abbrev Bo:=V->V->V->Hp->(Hp->Prop)->Prop
noncomputable def FU (X:Cx)(t:Bo):Prop:=
 ∀(pins:Vu)(s:Shared)(U:St)(H:Hp) (o i v:V)(ov iv u:Value)(Q:Hp->Prop),Inv X pins U H s->RelV o ov->RelV i iv->RelV v u->t o i v H Q->
  wpAny (model X.prog X.w) X.A (setItem ov iv u) (λ_ s'=>∃H',Inv X pins U H' s'/\Q H') X.xe s
noncomputable abbrev HD:=V->V->Hp->VK->Prop
noncomputable def ON (X:Cx)(op:Operator)(t:HD):Prop:=
 ∀(pins:Vu)(s:Shared)(U:St)(H:Hp) (x y:V)(v u:Value)(Q:VK),Inv X pins U H s->RelV x v->RelV y u->t x y H Q->
  wpAny (model X.prog X.w) X.A (inplaceOp op v u) (EP X pins U Q) X.xe s
section
variable{X:Cx}{pos:Pos}
noncomputable def qa (i:Nat):TG:=λv U H Q=>Q (U.set i (some v)) H
def uh{i:Nat}{x:Str}(hN:X.N.Nodup)(hi:X.N[i]?=some x)(hx:Loc X.env.scope x)(hf:X.fn x=true\/X.env.scope.names.lookup x=some .local:=by first|exact .inl rfl|exact .inr rfl|assumption):PG X (.Name x pos) (qa i):=by intro pins s U H v u Q I r h;exact wpAny_assign_Name (qO I hN hi hx r (λs' I'=>⟨_,H,I',h⟩) hf)
noncomputable def Fy:qv:=λvs U H Q=>vs=[]/\Q U H
inductive E8(t:TG)(u:qv)(vs:List V)(U:St)(H:Hp)(Q:(St->Hp->Prop)):Prop
 |mk:∀v r,(vs=v::r)->(t v U H λσ' H'=>u r σ' H' Q)->E8 t u vs U H Q
noncomputable def BV (t:TG)(u:qv):qv:=λvs U H Q=>E8 t u vs U H Q
def Av:EF X [] Fy:=by intro pins s U H vs us Q I r h;obtain⟨e,h⟩:=h;subst e;cases r;exact assignInOrder_nil ⟨U,H,I,h⟩
def qH{e:Expr}{es:WK}{t:TG}{u:qv}(h1:PG X e t)(h2:EF X es u)(hs:(assignEach (e::es) X.env).map (·.2)=assign e X.env::(assignEach es X.env).map (·.2):=by rfl):EF X (e::es) (BV t u):=by
 intro pins s U H vs us Q I r h;obtain⟨v,vr,e1,h⟩:=h;subst e1;cases r with
 |cons r rr=>rw[hs];refine assignInOrder_cons (aO (h1 pins s U H _ _ _ I r h) λ_ s1 ⟨σ1,H1,I1,q1⟩=>?_);exact h2 pins s1 σ1 H1 _ _ Q I1 rr q1
inductive Ig(K:Vz) (n:Nat)(t:qv) (v:V)(U:St)(H:Hp)(Q:(St->Hp->Prop)):Prop
 |mk:∀a xs,(v=.ref a)->(bM K H a xs)->(xs.length=n)->(t xs U H Q)->Ig K n t v U H Q
noncomputable def dX (K:Vz) (n:Nat)(t:qv):TG:=λv U H Q=>Ig K n t v U H Q
def yi{es:WK}{k:Nat}{t:qv}{n:Nat}(hc:X.calm=true)(h:EF X es t)(hn:(assignEach es X.env).length=n:=by rfl)(hst:(assignEach es X.env).findIdx? (·.1)=none:=by rfl):PG X (.Tuple es k pos) (dX X.K n t):=by intro pins s U H v u Q I r hw;obtain⟨a,xs,e1,hq,hl,hw⟩:=hw;subst e1;cases r;obtain⟨its,rv,ht,hz⟩:=I.tuple hq;refine assign_Tuple_tuple (I.ok.hd hc) ht (by simp[hn,<-hl,rv.length]) hst λh' hx=>?_;have I1:Inv X pins U H { s with heap:=h' }:=I.kept (t':=s.toks) λb o e=>hx b o (Rc (RL e)) e;exact h pins _ U H xs _ Q I1 (by simpa using rv) hw
noncomputable def nH (to ti:TE)(t:Bo):TG:=λv U H Q=>to U H λo H1=>ti U H1 λi H2=>t o i v H2 λH3=>Q U H3
def Mw{o i:Expr}{to ti:TE}{t:Bo}(ho:PE X o to)(hi:PE X i ti)(hs:FU X t)
  (ha:∀v,assign (.Subscript o i pos) X.env v=(do
   let ov <-holding [v] (eval o X.env)
   let iv <-holding [v,ov] (eval i X.env)
   standAt pos
   holding [v,ov,iv] (setItem ov iv v)
   release [v,ov,iv] []):=by intro _;rfl):PG X (.Subscript o i pos) (nH to ti t):=by
 intro pins s U H v u Q I r h;rw[ha];refine Q9 (Sj (aO (ho pins s U H _ I h) λov s1 ⟨x,H1,I1,r1,q1⟩=>?_))
 refine Q9 (Sj (aO (hi pins s1 U H1 _ I1 q1) λiv s2 ⟨y,H2,I2,r2,q2⟩=>?_))
 refine Q9 (wpAny_standAt (Q9 (Sj (aO (hs pins s2 U H2 x y v ov iv u _ I2 r1 r2 r q2) λ_ s3 ⟨H3,I3,q3⟩=>?_))))
 exact wpAny_release ⟨U,H3,I3,q3⟩
noncomputable def FN (te:TE)(g:TG):TS:=λD U H=>te U H λx H1=>g x U H1 D.nx
def Ez{tg e:Expr}{te:TE}{g:TG}(he:PE X e te)(hg:PG X tg g)(hs:swapsWithSole [tg] e pos.line X.env=pure false:=by rfl)(hw:swappedStores [tg] e X.env=pure none:=by rfl)(h1:(assignEach [tg] X.env).map (·.2)=[assign tg X.env]:=by rfl):PS X (.Assign [tg] e pos) (FN te g):=by intro pins s U H D I h;refine wpAny_Assign_stores (aO (he pins s U H _ I h) λv s1 ⟨x,H1,I1,r1,q1⟩=>?_) hs hw;rw[h1];exact aO (hg pins s1 U H1 x v _ I1 r1 q1) λ_ s2 q=>q
def LD{i:Nat}{x:Str}{e:Expr}{te:TE}{pos':Pos}(hN:X.N.Nodup)(hi:X.N[i]?=some x)(hx:Loc X.env.scope x)(he:PE X e te)(hs:swapsWith e (some (.Name x pos')) pos.line X.env=pure false:=by rfl)(hf:X.fn x=true\/X.env.scope.names.lookup x=some .local:=by first|exact .inl rfl|exact .inr rfl|assumption) : PS X (.Assign [.Name x pos'] e pos) (FN te (qa i)):=by intro pins s U H D I h;refine wpAny_Assign_Name (aO (he pins s U H _ I h) λv s1 ⟨y,H1,I1,r1,q1⟩=>?_) hs;exact qO I1 hN hi hx r1 (λs2 I2=>⟨_,H1,I2,q1⟩) hf
noncomputable def P6 (i:Nat)(te:TE)(ti:HD):TS:=λD U H=>∃x,U[i]?=some (some x)/\te U H λy H1=>ti x y H1 λz H2=>D.nx (U.set i (some z)) H2
def K8{i:Nat}{x:Str}{e:Expr}{te:TE}{op:Operator}{ti:HD}{pos':Pos}(hN:X.N.Nodup)(hi:X.N[i]?=some x)(hx:Loc X.env.scope x)(he:PE X e te)(ho:ON X op ti)(hf:X.fn x=true\/X.env.scope.names.lookup x=some .local:=by first|exact .inl rfl|exact .inr rfl|assumption) : PS X (.AugAssign (.Name x pos') op e pos) (P6 i te ti):=by
 intro pins s U H D I h;obtain⟨v,e1,h⟩:=h;obtain⟨m,hn,hl⟩:=I.loc;have vis:kK X.env.scope x:=by rcases hx with k|k;exact .inl k;exact .inr (.inl k)
 obtain⟨u,r,l⟩:=hl i x v hi e1 vis;refine wpAny_AugAssign_Name ?_;have go:wpAny (model X.prog X.w) X.A (eval e X.env) (λw s₂=>wpAny (model X.prog X.w) X.A (inplaceOp op u w) (λr s₃=>wpAny (model X.prog X.w) X.A (storeName X.env x r) (λ_=>SP X pins D .next) X.xe s₃) X.xe s₂) X.xe s:=by refine aO (he pins s U H _ I h) λw s1 ⟨y,H1,I1,r1,q1⟩=>?_;refine aO (ho pins s1 U H1 v y u w _ I1 r r1 q1) λz s2 ⟨zv,H2,I2,r2,q2⟩=>?_;exact qO I2 hN hi hx r2 (λs3 I3=>⟨_,H2,I3,q2⟩) hf
 rcases l with⟨hk,hm⟩|⟨hk,c,hc,hcell⟩;{exact wpAny_loadName_local I.ok.kind hk hn hm go};rcases hk with hk|hk;{exact wpAny_loadName_cell I.ok.kind hk hc hcell go};rcases hx with k|k;{have:X.env.scope.names.lookup x=some .free:=hk;rw[k]at this;cases this};have:X.env.scope.names.lookup x=some .free:=hk;rw[k]at this;cases this
end
section
variable{X:Cx}{pos:Pos}
noncomputable def J9 (c:TT)(tb:TS):TS:=λD U H=>∃W:Nat->St->Hp->Prop,(∃m,W m U H)/\∀m U H,W m U H->
 c U H λb H1=>if b=true then ∃N:St->Hp->Prop,(∀σ' H',N σ' H'->∃m',m'<m/\W m' σ' H')/\tb { D with nx:=N,ct:=N,bk:=D.nx } U H1 else D.nx U H1
def GP{c:Expr}{body:WM}{tc:TT}{tb:TS}(hp:PassesOwn (model X.prog X.w) X.A X.env X.xe)(hc:PT X c tc)(hb:nZ X body tb):PS X (.While c body [] pos) (J9 tc tb):=by
 intro pins s U H D I h;obtain⟨W,⟨m0,w0⟩,turn⟩:=h;refine wpAny_While (codeAny_whileLoop (λn s'=>∃σ' H',Inv X pins σ' H' s'/\W n σ' H') ?_ m0 ⟨U,H,I,w0⟩);rintro n s1⟨σ1,H1,I1,w1⟩;refine Td hp (aO (hc pins s1 σ1 H1 _ I1 (turn n σ1 H1 w1)) λb s2 ⟨H2,I2,q2⟩=>?_);cases b with
 |true=>
  obtain⟨N,hN,q2⟩:=q2;rw[if_pos rfl];refine Td hp (aO (hb pins s2 σ1 H2 _ I2 q2) λf s3 q3=>?_);cases f with
  |next=>obtain⟨σ3,H3,I3,n3⟩:=q3;obtain⟨m',hm,w3⟩:=hN σ3 H3 n3;exact⟨m',hm,σ3,H3,I3,w3⟩
  |cont=>obtain⟨σ3,H3,I3,n3⟩:=q3;obtain⟨m',hm,w3⟩:=hN σ3 H3 n3;exact⟨m',hm,σ3,H3,I3,w3⟩
  |brk=>exact q3
  |ret v=>exact q3
 |false=>rw[if_neg RZ];exact Ui ⟨σ1,H2,I2,q2⟩
end
structure It where
 go:Nat->Hp->Prop
 qA:Nat->Hp->V->Hp->Prop
 stop:Nat->Hp->Prop
noncomputable def iK (X:Cx)(pins:Vu)(H:Hp)(b:Addr):Prop:=
 H b=none/\b≠X.env.locals/\b∉X.fs/\(b∈X.ex\/X.s₀.heap.objs.size<=b)/\(∀x c,X.env.cells.lookup x=some c->c≠b)/\∀p∈X.pn++pins,p.1≠b
def Inv.tQ{X:Cx}{pins:Vu}{U:St}{H H':Hp}{s:Shared}{b:Addr}(I:Inv X pins U H s)(hb:s.heap.objs.size<=b)(hn:H' b=none):iK X pins H' b:=by refine⟨hn,U1 (Rn I.lt hb),I.Na hb,.inr (Ri I.sz hb),λx c e z=>?_,λp hp z=>?_⟩;{obtain⟨v,q⟩:=I.cell x c e;exact absurd (Rn q.lt (by rw[z];exact hb)) (S7 _)};exact absurd (Rn (RL (I.pin p hp).1) (by rw[z];exact hb)) (S7 _)
structure Turn(P:Program)(w:World)(K:Vz)(tg:Expr)(J:It)(fp:WI)(it:Addr)(tn:Nat->Heap->Prop):Prop where
 mem:it∈fp
 obj:∀i h,tn i h->∀b∈fp,∃o,h.get? b=some o/\∀v,o.data≠.cell v
 keep:∀i h h',tn i h->(∀b∈fp,∀o,h.get? b=some o->h'.get? b=some o)->tn i h'
 item:∀(X:Cx),X.prog=P->X.w=w->X.K=K->X.calm=true->∀(i:Nat)(pins:Vu)(s:Shared)(U:St)(H:Hp)(E:Vr),Inv X pins U H s->(∀b∈fp,iK X pins H b)->tn i s.heap->J.go i H->
  wpAny (model P w) X.A (pyNext (.ref it)) (λr s1=>∃u,r=some u /\
   wpAny (model P w) X.A (letOwnedTupleGo tg (.ref it) u) (λ_ s2=>∃x H',Inv X pins U H' s2/\RelV x u/\J.qA i H x H'/\tn (i+1) s2.heap/\∀b∈fp,H' b=none) E s1) E s
 done:∀(X:Cx),X.prog=P->X.w=w->X.K=K->X.calm=true->∀(i:Nat)(pins:Vu)(s:Shared)(U:St)(H:Hp)(E:Vr),Inv X pins U H s->(∀b∈fp,iK X pins H b)->tn i s.heap->J.stop i H->
  wpAny (model P w) X.A (pyNext (.ref it)) (λr s1=>r=none/\Inv X pins U H s1) E s
 self:∀(A:Around) (i:Nat)(s:Shared)(Q:Vr)(E:Vr),tn i s.heap->Q (.ref it) s->wpAny (model P w) A (pyIter (.ref it)) Q E s
noncomputable abbrev TI:=St->Hp->(It->Hp->Prop)->Prop
noncomputable def Ih (X:Cx)(pins:Vu)(U:St)(tg:Expr)(R:It->Hp->Prop)(itv:Value)(s2:Shared):Prop:=
 ∃(it:Addr)(fp:WI)(tn:Nat->Heap->Prop)(J:It)(H':Hp),itv=.ref it/\Inv X pins U H' s2/\Turn X.prog X.w X.K tg J fp it tn/\tn 0 s2.heap/\(∀b∈fp,iK X pins H' b)/\R J H'
noncomputable def PI (X:Cx)(tg iter:Expr)(wi:TI):Prop:=
 ∀(pins:Vu)(s:Shared)(U:St)(H:Hp)(R:It->Hp->Prop),Inv X pins U H s->wi U H R->
  wpAny (model X.prog X.w) X.A (eval iter X.env) (λv s1=>wpAny (model X.prog X.w) X.A (pyIter v) (Ih X pins U tg R) X.xe s1) X.xe s
def Bx{M:Model}{A:Around}{E:Vr}{s:Shared}{tg:Expr}{it:Addr}{u:Value}{o:Obj}{n:String}{vs:WB}{Q:Unit->Shared->Prop}(ho:s.heap.get? it=some o)(hc:o.cls=.type n)(hd:o.data=.fields vs)(hn:["enumerate","zip","dict_itemiterator","dict_reverseitemiterator","odict_iterator","itertools.zip_longest","itertools.pairwise"].contains n=false)(hQ:Q () s):wpAny M A (letOwnedTupleGo tg (.ref it) u) Q E s:=by
 unfold letOwnedTupleGo;cases tg<;>first
  |exact RD hQ
  | (cases u<;>first
    |exact RD hQ
    | (refine Q9 (wpAny_load ho ?_)
       rw[hc,hd];show wpAny M A (if(["enumerate","zip","dict_itemiterator","dict_reverseitemiterator","odict_iterator","itertools.zip_longest","itertools.pairwise"].contains n&&vs[0]? == some (rawInt _))=true then _ else _) Q E s
       rw[if_neg (by intro h;rw[hn,Bool.false_and]at h;cases h)]
       exact RD hQ))
noncomputable def G6 (K:Vz)(a:Addr):It:=
 ⟨λi H=>∃xs x,bI K H a xs/\xs[i]?=some x,λi H x H'=>H'=H/\∀xs,bI K H a xs->xs[i]?=some x,λi H=>∃xs,bI K H a xs/\xs.length<=i⟩
noncomputable def HP (K:Vz)(a:Addr):It:=
 ⟨λi H=>∃xs x,bM K H a xs/\xs[i]?=some x,λi H x H'=>H'=H/\∀xs,bM K H a xs->xs[i]?=some x,λi H=>∃xs,bM K H a xs/\xs.length<=i⟩
noncomputable def EZ (lo:Int) (n:Nat):It:=⟨λi _=>i<n,λi H x H'=>H'=H/\x=.int (lo+i),λi _=>n<=i⟩
def Dp{P:Program}{w:World}{K:Vz}{tg:Expr}(a it:Addr):Turn P w K tg (G6 K a) [it] it (λi h=>h.IsListIter it a i) where
 mem:=by simp
 obj:=λi h st b hb=>by
  have e:b=it:=by simpa using hb
  subst e;obtain⟨o,e,c,d⟩:=st;exact⟨o,e,λv z=>by rw[d]at z;cases z⟩
 keep:=λi h h' st k=>st.at λo e=>k it (by simp) o e
 item:=by
  intro X hP hw hK hc i pins s U H E I hf st hg;subst hP hw hK;obtain⟨xs,x,hq,hx⟩:=hg;obtain⟨its,rv,p,hz⟩:=I.list hq;obtain⟨u,hu,ru⟩:=rv.get hx;obtain⟨f0,f1,f2,f3,f4,f5⟩:=hf it (by simp)
  refine wpAny_pyNext_list_item st p.isList (x:=u) (by simpa using hu) λh' st' sb=>?_
  have I1:Inv X pins U H { s with heap:=h' }:=I.turned (t':=s.toks) (λb o hb e=>(sb.2 b hb).trans e) f0 f1 f3 f4 f5
  obtain⟨o,e,c,d⟩:=id st';exact⟨u,rfl,Bx (s:={ s with heap:=h' }) e c d (by decide) ⟨x,H,I1,ru,⟨rfl,λys hy=>by rw[I.mX hy hq];exact hx⟩,st',λb hb=>(hf b hb).1⟩⟩
 done:=by
  intro X hP hw hK hc i pins s U H E I hf st hg;subst hP hw hK;obtain⟨xs,hq,hx⟩:=hg;obtain⟨its,rv,p,hz⟩:=I.list hq;obtain⟨f0,f1,f2,f3,f4,f5⟩:=hf it (by simp)
  have hl:=rv.length;exact wpAny_pyNext_list_end (I.ok.hd hc) st p.isList (by simp;lia) λh' eb=>⟨rfl,I.turned (t':=s.toks) (λb o hb e=>eb b o hb e) f0 f1 f3 f4 f5⟩
 self:=λ_ _ _ _ _ st h=>wpAny_pyIter_listiter st h
def BL{P:Program}{w:World}{K:Vz}{tg:Expr}(a it:Addr):Turn P w K tg (HP K a) [it] it (λi h=>h.IsTupleIter it a i) where
 mem:=by simp
 obj:=λi h st b hb=>by
  have e:b=it:=by simpa using hb
  subst e;obtain⟨o,e,c,d⟩:=st;exact⟨o,e,λv z=>by rw[d]at z;cases z⟩
 keep:=λi h h' st k=>st.at λo e=>k it (by simp) o e
 item:=by
  intro X hP hw hK hc i pins s U H E I hf st hg;subst hP hw hK;obtain⟨xs,x,hq,hx⟩:=hg;obtain⟨its,rv,p,hz⟩:=I.tuple hq;obtain⟨u,hu,ru⟩:=rv.get hx;obtain⟨f0,f1,f2,f3,f4,f5⟩:=hf it (by simp)
  refine wpAny_pyNext_tuple_item st (show s.heap.IsTuple a its.toArray from p) (x:=u) (by simpa using hu) λh' st' sb=>?_
  have I1:Inv X pins U H { s with heap:=h' }:=I.turned (t':=s.toks) (λb o hb e=>(sb.2 b hb).trans e) f0 f1 f3 f4 f5
  obtain⟨o,e,c,d⟩:=id st';exact⟨u,rfl,Bx (s:={ s with heap:=h' }) e c d (by decide) ⟨x,H,I1,ru,⟨rfl,λys hy=>by rw[I.C0 hy hq];exact hx⟩,st',λb hb=>(hf b hb).1⟩⟩
 done:=by
  intro X hP hw hK hc i pins s U H E I hf st hg;subst hP hw hK;obtain⟨xs,hq,hx⟩:=hg;obtain⟨its,rv,p,hz⟩:=I.tuple hq;obtain⟨f0,f1,f2,f3,f4,f5⟩:=hf it (by simp)
  have hl:=rv.length;exact wpAny_pyNext_tuple_end (I.ok.hd hc) st (show s.heap.IsTuple a its.toArray from p) (by simp;lia) λh' eb=>⟨rfl,I.turned (t':=s.toks) (λb o hb e=>eb b o hb e) f0 f1 f3 f4 f5⟩
 self:=λ_ _ _ _ _ st h=>wpAny_pyIter_tupleiter st h
def AW{P:Program}{w:World}{K:Vz}{tg:Expr}(it:Addr) (lo:Int) (n:Nat):Turn P w K tg (EZ lo n) [it] it (λi h=>IsRangeIter h it (lo+(i:Nat)*1) ((n:Int)-(i:Nat)) 1) where
 mem:=by simp
 obj:=λi h st b hb=>by
  have e:b=it:=by simpa using hb
  subst e;exact⟨_,st,λv z=>by
   have z':Data.fields _=Data.cell v:=z;cases z'⟩
 keep:=λi h h' st k=>k it (by simp) _ st
 item:=by
  intro X hP hw hK hc i pins s U H E I hf st hg;subst hP hw hK;obtain⟨f0,f1,f2,f3,f4,f5⟩:=hf it (by simp)
  have W:=Walks.range (prog:=X.prog) (w:=X.w) (I.ok.hd hc) it lo 1 n;refine W.item i s _ _ hg st λv h' tk hv st' kk=>?_
  obtain⟨t,rfl⟩:=hv;have I1:Inv X pins U H { s with heap:=h',toks:=tk }:=I.turned (λb o hb e=>kk b o (by simpa using hb) e) f0 f1 f3 f4 f5
  refine⟨_,rfl,Bx (s:={ s with heap:=h',toks:=tk }) (n:="range_iterator") st' rfl rfl (by decide) ⟨.int (lo+i),H,I1,⟨t,?_⟩,⟨rfl,rfl⟩,st',λb hb=>(hf b hb).1⟩⟩
  rw[T9]
 done:=by
  intro X hP hw hK hc i pins s U H E I hf st hg;subst hP hw hK;obtain⟨f0,f1,f2,f3,f4,f5⟩:=hf it (by simp)
  exact wpAny_pyNext_range_end (I.ok.hd hc) st (by have:n<=i:=hg;lia) λh' eb=>⟨rfl,I.turned (t':=s.toks) (λb o hb e=>eb b o hb e) f0 f1 f3 f4 f5⟩
 self:=λ_ _ _ _ _ st h=>wpAny_pyIter_rangeiter st h
section
variable{X:Cx}{tg:Expr}
def vR{pins:Vu}{U:St}{H:Hp}{s:Shared}{R:It->Hp->Prop}{E:Vr}{lo hi:Int}{t u v:Tok}{tk:Nat}(I:Inv X pins U H s)(h1:-(2^62)<=lo)(h2:lo<2^62)(h3:-(2^62)<=hi)(h4:hi<2^62)(q:R (EZ lo (hi-lo).toNat) H):wpAny (model X.prog X.w) X.A (pyIter (.ref s.heap.objs.size)) (Ih X pins U tg R) E { s with heap:=s.heap.push { cls:=.type "range",data:=.fields #[.int lo t,.int hi u,.int 1 v] },toks:=tk }:=by
 refine wpAny_pyIter_range (IsRange.new ..) (small_one h1 h2 h3 h4) ?_;have I1:Inv X pins U H { s with heap:=s.heap.push { cls:=.type "range",data:=.fields #[.int lo t,.int hi u,.int 1 v] },toks:=tk }:=I.kept λb o e=>Ra _ e;refine⟨(s.heap.push { cls:=.type "range",data:=.fields #[.int lo t,.int hi u,.int 1 v] }).objs.size,[(s.heap.push { cls:=.type "range",data:=.fields #[.int lo t,.int hi u,.int 1 v] }).objs.size],_,_,H,rfl,
  I1.kept (t':=tk) λb o e=>Ra _ e,AW _ lo (hi-lo).toNat,?_,λb hb=>?_,q⟩
 .have e1:lo+((0:Nat):Int)*1=lo:=by simp
  have e2:(((hi-lo).toNat:Nat):Int)-((0:Nat):Int)=Builtin.Range.rangeSize lo hi 1:=by rw[rangeSize_one];split<;>lia
  show IsRangeIter _ _ (lo+((0:Nat):Int)*1) ((((hi-lo).toNat:Nat):Int)-((0:Nat):Int)) 1;rw[e1,e2];exact Rx _ rfl
 have e:b=(s.heap.push { cls:=.type "range",data:=.fields #[.int lo t,.int hi u,.int 1 v] }).objs.size:=by simpa using hb
 subst e;exact I1.tQ (RB _) (I1.hok.fresh (RB _))
inductive Ey(R:(It->Hp->Prop))(vs:List V)(H1:Hp):Prop
 |mk:∀j:Int,(vs=[.int j])->(-(2^62)<=j)->(j<2^62)->(R (EZ 0 j.toNat) H1)->Ey R vs H1
noncomputable def N3 (ta:TA):TI:=λU H R=>ta U H λvs H1=>Ey R vs H1
inductive Fc(R:(It->Hp->Prop))(vs:List V)(H1:Hp):Prop
 |mk:∀i j:Int,(vs=[.int i,.int j])->((-(2^62)<=i/\i<2^62/\-(2^62)<=j/\j<2^62))->(R (EZ i (j-i).toNat) H1)->Fc R vs H1
noncomputable def Ny (ta:TA):TI:=λU H R=>ta U H λvs H1=>Fc R vs H1
def Dy{a:Expr}{ta:TA}{p pos:Pos}(hg:Gl X "range")(hm:X.mg "range"=none)(ha:PA X [a] ta)(hs:starEach [a] X.env=[(false,eval a X.env)]:=by rfl):PI X tg (.Call (.Name "range" p) [a] [] pos) (N3 ta):=by
 intro pins s U H R I h;refine Call_ (ji I hg hm boot_range (U3 (aO (ha pos pins s U H _ I h) λus s1 ⟨vs,H1,I1,r1,q1⟩=>?_) hs rfl));obtain⟨j,e,q1,q2,q⟩:=q1;subst e;cases r1 with
 |cons r rr=>cases rr;obtain⟨t,rfl⟩:=r;exact call_range_1 (vR I1 (by lia) (by lia) q1 q2 (by simpa using q))
def Dk{a b:Expr}{ta:TA}{p pos:Pos}(hg:Gl X "range")(hm:X.mg "range"=none)(ha:PA X [a,b] ta)(hs:starEach [a,b] X.env=[(false,eval a X.env),(false,eval b X.env)]:=by rfl)(hs2:starEach [b] X.env=[(false,eval b X.env)]:=by rfl) : PI X tg (.Call (.Name "range" p) [a,b] [] pos) (Ny ta):=by
 intro pins s U H R I h;refine Call_ (ji I hg hm boot_range (U3 (aO (ha pos pins s U H _ I h) λus s1 ⟨vs,H1,I1,r1,q1⟩=>?_) (by rw[hs,hs2]) (by rw[hs2];rfl)));obtain⟨i,j,e,⟨q1,q2,q3,q4⟩,q⟩:=q1;subst e;cases r1 with
 |cons r rr=>
  cases rr with
  |cons r' rr=>cases rr;obtain⟨t,rfl⟩:=r;obtain⟨t',rfl⟩:=r';exact call_range_2 (vR I1 q1 q2 q3 q4 q)
noncomputable def P5 (wi:TI)(g:TG)(tb:TS):TS:=λD U H=>wi U H λJ H1=>∃W:Nat->Nat->St->Hp->Prop,(∃m,W 0 m U H1)/\∀i m U H,W i m U H->
 (J.stop i H/\D.nx U H)\/(J.go i H/\∃N:St->Hp->Prop,(∀σ' H',N σ' H'->∃m',m'<m/\W (i+1) m' σ' H')/\∀x H',J.qA i H x H'->g x U H' λσ2 H2=>tb { D with nx:=N,ct:=N,bk:=D.nx } σ2 H2)
noncomputable def j4 (fp:WI)(h:Heap):Vu:=fp.filterMap λb=>(h.get? b).map λo=>(b,o)
def jL{fp:WI}{h:Heap}{b:Addr}{o:Obj}(hb:b∈fp)(e:h.get? b=some o):(b,o)∈j4 fp h:=VF.mpr ⟨b,hb,by rw[e];rfl⟩
def uN{fp:WI}{h:Heap}{p:Addr×Obj}(hp:p∈j4 fp h):p.1∈fp/\h.get? p.1=some p.2:=by
 obtain⟨b,hb,e⟩:=VF.mp hp;cases q:h.get? b with
 |none=>rw[q]at e;cases e
 |some o=>rw[q]at e;have e':(b,o)=p:=Option.some.inj e;subst e';exact⟨hb,q⟩
def Inv.pinned{pins:Vu}{U:St}{H:Hp}{s:Shared}{fp:WI}(I:Inv X pins U H s)(hf:∀b∈fp,iK X pins H b)(ho:∀b∈fp,∃o,s.heap.get? b=some o/\∀v,o.data≠.cell v):Inv X (pins++j4 fp s.heap) U H s:=
 I.mC λp hp=>(RY.mp hp).elim (λz=>I.pin p (SD _ z)) λz=>by obtain⟨hb,e⟩:=uN z;obtain⟨f0,f1,f2,_⟩:=hf p.1 hb;obtain⟨o,e',d⟩:=ho p.1 hb;rw[e]at e';cases e';exact⟨e,f0,f1,f2,d⟩
def Inv.qZ{pins pl:Vu}{U:St}{H:Hp}{s:Shared}(I:Inv X (pins++pl) U H s):Inv X pins U H s:=I.mC λp hp=>I.pin p (SD _ (VE _ hp))
def M8{iter:Expr}{body:WM}{wi:TI}{g:TG}{tb:TS}{pos:Pos}(hp:PassesOwn (model X.prog X.w) X.A X.env X.xe)(hc:X.calm=true)(hi:PI X tg iter wi)(hg:PG X tg g)(hb:nZ X body tb)(hs:∀x,foldedSetIterable iter X.env x=pure x:=by intro _;rfl):PS X (.For tg iter body [] pos) (P5 wi g tb):=by
 intro pins s U H D I h;refine wpAny_For (aO (hi pins s U H _ I h) λv s1 h1=>aO h1 λitv s2 h2=>?_) hs
 obtain⟨it,fp,tn,J,H2,e,I2,T,st2,f2,W,⟨m0,w0⟩,turn⟩:=h2;subst e
 -- what stays true of the iterator's objects through the loop
 have stat:∀{H':Hp},(∀b∈fp,H' b=none)->∀b∈fp,iK X pins H' b:=λhn b hb=>⟨hn b hb,(f2 b hb).2⟩
 refine codeAny_forLoop_any (λn s'=>∃i σ' H',Inv X pins σ' H' s'/\tn i s'.heap/\(∀b∈fp,H' b=none)/\W i n σ' H') ?_ m0 ⟨0,U,H2,I2,st2,λb hb=>(f2 b hb).1,w0⟩
 rintro n s3⟨i,σ3,H3,I3,st3,fr3,w3⟩;rcases turn i n σ3 H3 w3 with⟨stop,qn⟩|⟨go,N,hN,step⟩
 .refine Td hp (aO (T.done X rfl rfl rfl hc i pins s3 σ3 H3 X.xe I3 (stat fr3) st3 stop) λr s4 ⟨hr,I4⟩=>?_)
  subst hr;exact Ui ⟨σ3,H3,I4,qn⟩
 .refine Td hp (aO (T.item X rfl rfl rfl hc i pins s3 σ3 H3 X.xe I3 (stat fr3) st3 go) λr s4 ⟨u,hr,h4⟩=>?_)
  subst hr;refine Td hp (aO h4 λ_ s5 ⟨x,H5,I5,r5,y5,st5,fr5⟩=>?_)
  have I5':=I5.pinned (stat fr5) (T.obj _ _ st5);refine Td hp (aO (hg _ s5 σ3 H5 x u _ I5' r5 (step x H5 y5)) λ_ s6 ⟨σ6,H6,I6,q6⟩=>?_)
  refine Td hp (aO (hb _ s6 σ6 H6 _ I6 q6) λf s7 q7=>?_)
  have again:∀{σ7:St}{H7:Hp},Inv X (pins++j4 fp s5.heap) σ7 H7 s7->N σ7 H7->∃m,m<n/\∃i σ' H',Inv X pins σ' H' s7/\tn i s7.heap/\(∀b∈fp,H' b=none)/\W i m σ' H':=λ{σ7 H7} I7 n7=>by
   obtain⟨m',hm,w7⟩:=hN σ7 H7 n7;refine⟨m',hm,i+1,σ7,H7,I7.qZ,T.keep _ _ _ st5 λb hb o e=>(I7.pin (b,o) (SD _ (SD _ (jL hb e)))).1,λb hb=>?_,w7⟩
   obtain⟨o,e,d⟩:=T.obj _ _ st5 b hb;exact(I7.pin (b,o) (SD _ (SD _ (jL hb e)))).2.1
  cases f with
  |next=>obtain⟨σ7,H7,I7,n7⟩:=q7;exact again I7 n7
  |cont=>obtain⟨σ7,H7,I7,n7⟩:=q7;exact again I7 n7
  |brk=>obtain⟨σ7,H7,I7,q7⟩:=q7;exact⟨σ7,H7,I7.qZ,q7⟩
  |ret v=>obtain⟨x7,σ7,H7,I7,r7,q7⟩:=q7;exact⟨x7,σ7,H7,I7.qZ,r7,q7⟩
end
noncomputable abbrev R2:=V->V->Hp->VK->Prop
noncomputable def bw (X:Cx)(f:Value->Value->Sem Value)(r:R2):Prop:=
 ∀(pins:Vu)(s:Shared)(U:St)(H:Hp) (x y:V)(v u:Value)(Q:VK),Inv X pins U H s->RelV x v->RelV y u->r x y H Q->
  wpAny (model X.prog X.w) X.A (f v u) (EP X pins U Q) X.xe s
noncomputable def Iw (X:Cx)(f:Value->Sem Value)(r:V->Hp->VK->Prop):Prop:=
 ∀(pins:Vu)(s:Shared)(U:St)(H:Hp) (x:V)(v:Value)(Q:VK),Inv X pins U H s->RelV x v->r x H Q->
  wpAny (model X.prog X.w) X.A (f v) (EP X pins U Q) X.xe s
noncomputable def cu (X:Cx)(f:Value)(r:List V->Hp->VK->Prop):Prop:=
 ∀(pins:Vu)(s:Shared)(U:St)(H:Hp)(xs:List V)(us:WH)(Q:VK),Inv X pins U H s->Vals xs us->r xs H Q->
  wpAny (model X.prog X.w) X.A (call f us) (EP X pins U Q) X.xe s
noncomputable def PZ (X:Cx)(r:V->Hp->(Bool->Hp->Prop)->Prop):Prop:=
 ∀(pins:Vu)(s:Shared)(U:St)(H:Hp) (x:V)(v:Value)(Q:Bool->Hp->Prop),Inv X pins U H s->RelV x v->r x H Q->
  wpAny (model X.prog X.w) X.A (truthy v) (TP X pins U Q) X.xe s
noncomputable def LZ (r:R2)(ta tb:TE):TE:=λU H Q=>ta U H λx H1=>tb U H1 λy H2=>r x y H2 Q
noncomputable def Qt (r:V->Hp->VK->Prop)(ta:TE):TE:=λU H Q=>ta U H λx H1=>r x H1 Q
inductive O1(C:Int->Int->Prop)(g:Int->Int->V) (x:V) (y:V)(H:Hp)(Q:VK):Prop
 |mk:∀i j,(x=.int i)->(y=.int j)->(C i j)->(Q (g i j) H)->O1 C g x y H Q
noncomputable def rI (C:Int->Int->Prop)(g:Int->Int->V):R2:=λx y H Q=>O1 C g x y H Q
inductive J7(g:Int->Int->V) (x:V) (y:V)(H:Hp)(Q:VK):Prop
 |mk:∀i j,(x=.int i)->(y=.int j)->(Q (g i j) H)->J7 g x y H Q
noncomputable def jW (g:Int->Int->V):R2:=λx y H Q=>J7 g x y H Q
inductive O9(g:Int->V) (x:V)(H:Hp)(Q:VK):Prop
 |mk:∀i,(x=.int i)->(Q (g i) H)->O9 g x H Q
noncomputable def rU (g:Int->V):V->Hp->VK->Prop:=λx H Q=>O9 g x H Q
section
variable{X:Cx}{a b c:Expr}{ta tb tc:TE}{pos:Pos}
def GH(ha:PE X a ta)(hb:PE X b tb){pins:Vu}{s:Shared}{U:St}{H:Hp}{R:V->V->Hp->Prop}(I:Inv X pins U H s)(h:ta U H λx H1=>tb U H1 λy H2=>R x y H2){Q:Vr}{f:Value->Value->Sem Value}(hf:∀v u s2 x y H2,Inv X pins U H2 s2->RelV x v->RelV y u->R x y H2->wpAny (model X.prog X.w) X.A (f v u) Q X.xe s2) : wpAny (model X.prog X.w) X.A (eval a X.env) (λv s₁=>wpAny (model X.prog X.w) X.A (eval b X.env) (λu s₂=>wpAny (model X.prog X.w) X.A (f v u) Q X.xe s₂) X.xe s₁) X.xe s:=by refine aO (ha pins s U H _ I h) λv s1 ⟨x,H1,I1,r1,q1⟩=>?_;refine aO (hb pins s1 U H1 _ I1 q1) λu s2 ⟨y,H2,I2,r2,q2⟩=>?_;exact hf v u s2 x y H2 I2 r1 r2 q2
def NI{op:Operator}{r:R2}(ho:bw X (binaryOp op) r)(ha:PE X a ta)(hb:PE X b tb):PE X (.BinOp a op b pos) (LZ r ta tb):=by intro pins s U H Q I h;exact wpAny_BinOp (GH ha hb I h λv u s2 x y H2 I2 rx ry q=>ho pins s2 U H2 x y v u Q I2 rx ry q)
def NL{op:UnaryOp}{r:V->Hp->VK->Prop}(ho:Iw X (unaryOp op) r)(ha:PE X a ta):PE X (.UnaryOp op a pos) (Qt r ta):=by intro pins s U H Q I h;exact UnaryOp_ (aO (ha pins s U H _ I h) λv s1 ⟨x,H1,I1,r1,q1⟩=>ho pins s1 U H1 x v Q I1 r1 q1)
def zd{f:Value->Value->Sem Value}{C:Int->Int->Prop}{g:Int->Int->Int}(rule:∀(i j:Int)(t u:Tok)(s:Shared)(Q:Vr)(E:Vr),C i j->Q (.int (g i j) s.toks) { s with toks:=s.toks+1 }->wpAny (model X.prog X.w) X.A (f (.int i t) (.int j u)) Q E s) : bw X f (rI C λi j=>.int (g i j)):=by intro pins s U H x y v u Q I rx ry h;obtain⟨i,j,rfl,rfl,hc,q⟩:=h;obtain⟨t,rfl⟩:=rx;obtain⟨t',rfl⟩:=ry;exact rule i j t t' s _ _ hc ⟨.int (g i j),H,I.tok _,⟨_,rfl⟩,q⟩
def K2{f:Value->Value->Sem Value}{g:Int->Int->Int}(rule:∀(i j:Int)(t u:Tok)(s:Shared)(Q:Vr)(E:Vr),Q (.int (g i j) s.toks) { s with toks:=s.toks+1 }->wpAny (model X.prog X.w) X.A (f (.int i t) (.int j u)) Q E s) : bw X f (jW λi j=>.int (g i j)):=by intro pins s U H x y v u Q I rx ry h;obtain⟨i,j,rfl,rfl,q⟩:=h;obtain⟨t,rfl⟩:=rx;obtain⟨t',rfl⟩:=ry;exact rule i j t t' s _ _ ⟨.int (g i j),H,I.tok _,⟨_,rfl⟩,q⟩
def BH{f:Value->Value->Sem Value}{g:Vw}(rule:∀(i j:Int)(t u:Tok)(s:Shared)(Q:Vr)(E:Vr),Q (.bool (g i j)) s->wpAny (model X.prog X.w) X.A (f (.int i t) (.int j u)) Q E s) : bw X f (jW λi j=>.bl (g i j)):=by intro pins s U H x y v u Q I rx ry h;obtain⟨i,j,rfl,rfl,q⟩:=h;obtain⟨t,rfl⟩:=rx;obtain⟨t',rfl⟩:=ry;exact rule i j t t' s _ _ ⟨.bl (g i j),H,I,rfl,q⟩
noncomputable def ya (i j:Int):Prop:=0<=j/\j<=1000000/\i.natAbs<2^64
noncomputable def uq (i j:Int):Prop:=(-(2^64)<i/\i<2^64)\/(-(2^64)<j/\j<2^64)
def uq.ok{i j:Int}(h:uq i j):IntMulOk i j:=by rcases h with⟨h1,h2⟩|⟨h1,h2⟩;{exact .of_left (intBits_le_64 h1 h2)};exact .of_right (intBits_le_64 h1 h2)
def Nj:bw X (binaryOp .Add) (jW λi j=>.int (i+j)):=K2 λ_ _ _ _ _ _ _ q=>add_int q
def MP:bw X (binaryOp .Sub) (jW λi j=>.int (i-j)):=K2 λ_ _ _ _ _ _ _ q=>sub_int q
def Mg:bw X (binaryOp .Mult) (rI uq λi j=>.int (i*j)):=zd λ_ _ _ _ _ _ _ hc q=>mul_int q hc.ok
def Mv:bw X (binaryOp .Mod) (rI (λ_ j=>0<j) λi j=>.int (i%j)):=zd λi j _ _ _ _ _ hc q=>by have h1:(0:Int)<j:=hc;exact mod_int' (by lia) (by rw[Int.fmod_eq_emod_of_nonneg i (by lia)];exact q)
def LB:bw X (binaryOp .Pow) (rI ya λi j=>.int (i^j.toNat)):=zd λ_ _ _ _ _ _ _ hc q=>pow_int_small hc.1 hc.2.1 hc.2.2 q
def Q5{f:Value->Sem Value}{g:Int->Int}(rule:∀(i:Int)(t:Tok)(s:Shared)(Q:Vr)(E:Vr),Q (.int (g i) s.toks) { s with toks:=s.toks+1 }->wpAny (model X.prog X.w) X.A (f (.int i t)) Q E s) : Iw X f (rU λi=>.int (g i)):=by intro pins s U H x v Q I rx h;obtain⟨i,rfl,q⟩:=h;obtain⟨t,rfl⟩:=rx;exact rule i t s _ _ ⟨.int (g i),H,I.tok _,⟨_,rfl⟩,q⟩
def M4:Iw X (unaryOp .USub) (rU λi=>.int (-i)):=Q5 λ_ _ _ _ _ q=>neg_int q
end
noncomputable def GV:V->V->Bool
 |.bg,.bg=>true | .bg,.int _=>true | .int _,.bg=>true | .bg,.bl _=>true | .bl _,.bg=>true | .bg,.str _=>true | .str _,.bg=>true
 |.int _,.int _=>true | .bl _,.bl _=>true | .str _,.str _=>true | .l9 _,.l9 _=>true
 |.int _,.str _=>true | .str _,.int _=>true | .bl _,.str _=>true | .str _,.bl _=>true
 |_,_=>false
noncomputable def OI:R2:=λx y H Q=>GV x y=true/\Q (.bl (decide (x=y))) H
noncomputable def OW:R2:=λx y H Q=>GV x y=true/\Q (.bl (!decide (x=y))) H
def tU{i j:Int}:decide (V.int i=V.int j)=(i==j):=by rw[Sn];simp
def Ec{i j:Bool}:decide (V.bl i=V.bl j)=(i==j):=by rw[Sn];simp
def zh{i j:Str}:decide (V.str i=V.str j)=(i==j):=by rw[Sn];simp
def An{i j:Array UInt8}:decide (V.l9 i=V.l9 j)=(i.toList==j.toList):=by rw[Sn];cases i;cases j;simp
section
variable{X:Cx}{a b c:Expr}{ta tb tc:TE}{pos:Pos}
def aY{pins:Vu}{U:St}{H:Hp}{s:Shared}{Q:VK}{k k':Bool}(I:Inv X pins U H s)(q:Q (.bl k) H)(e:k=k'):EP X pins U Q (.bool k') s:=by subst e;exact⟨.bl k,H,I,rfl,q⟩
def GY:bw X (compareOp .Eq) OI:=by
 intro pins s U H x y v u Q I rx ry h;obtain⟨hs,q⟩:=h;cases x with
 |bg=>
  cases rx;cases y with
  |bg=>cases ry;exact PySem.EqNone.eq_none_none (aY I q (by simp))
  |bl j=>cases ry;exact PySem.EqNone.eq_none_bool (aY I q (by simp))
  |int j=>obtain⟨t',rfl⟩:=ry;exact PySem.EqNone.eq_none_int (aY I q (by simp))
  |str j=>obtain⟨t',rfl⟩:=ry;exact PySem.EqNone.eq_none_str (aY I q (by simp))
  |_=>exact absurd (show false=true from hs) RZ
 |bl i=>
  cases rx;cases y with
  |bg=>cases ry;exact PySem.EqNone.eq_bool_none (aY I q (by simp))
  |bl j=>cases ry;exact eq_bool (aY I q Ec)
  |str j=>obtain⟨t',rfl⟩:=ry;exact PySem.EqMixed.eq_bool_str (aY I q (by simp))
  |_=>exact absurd (show false=true from hs) RZ
 |int i=>
  obtain⟨t,rfl⟩:=rx;cases y with
  |bg=>cases ry;exact PySem.EqNone.eq_int_none (aY I q (by simp))
  |int j=>obtain⟨t',rfl⟩:=ry;exact eq_int (aY I q tU)
  |str j=>obtain⟨t',rfl⟩:=ry;exact PySem.EqMixed.eq_int_str (aY I q (by simp))
  |_=>exact absurd (show false=true from hs) RZ
 |str i=>
  obtain⟨t,rfl⟩:=rx;cases y with
  |bg=>cases ry;exact PySem.EqNone.eq_str_none (aY I q (by simp))
  |bl j=>cases ry;exact PySem.EqMixed.eq_str_bool (aY I q (by simp))
  |int j=>obtain⟨t',rfl⟩:=ry;exact PySem.EqMixed.eq_str_int (aY I q (by simp))
  |str j=>obtain⟨t',rfl⟩:=ry;exact eq_str (aY I q zh)
  |_=>exact absurd (show false=true from hs) RZ
 |l9 i=>
  obtain⟨t,rfl⟩:=rx;cases y with
  |l9 j=>obtain⟨t',rfl⟩:=ry;exact PySem.W.eq_bytes (aY I q An)
  |_=>exact absurd (show false=true from hs) RZ
 |_=>cases y<;>exact absurd (show false=true from hs) RZ
def Ob:bw X (compareOp .NotEq) OW:=by
 intro pins s U H x y v u Q I rx ry h;obtain⟨hs,q⟩:=h;cases x with
 |bg=>
  cases rx;cases y with
  |bg=>cases ry;exact PySem.EqNone.ne_none_none (aY I q (by simp))
  |bl j=>cases ry;exact PySem.EqNone.ne_none_bool (aY I q (by simp))
  |int j=>obtain⟨t',rfl⟩:=ry;exact PySem.EqNone.ne_none_int (aY I q (by simp))
  |str j=>obtain⟨t',rfl⟩:=ry;exact PySem.EqNone.ne_none_str (aY I q (by simp))
  |_=>exact absurd (show false=true from hs) RZ
 |bl i=>
  cases rx;cases y with
  |bg=>cases ry;exact PySem.EqNone.ne_bool_none (aY I q (by simp))
  |bl j=>cases ry;exact ne_bool (aY I q (congrArg not Ec))
  |str j=>obtain⟨t',rfl⟩:=ry;exact PySem.EqMixed.ne_bool_str (aY I q (by simp))
  |_=>exact absurd (show false=true from hs) RZ
 |int i=>
  obtain⟨t,rfl⟩:=rx;cases y with
  |bg=>cases ry;exact PySem.EqNone.ne_int_none (aY I q (by simp))
  |int j=>obtain⟨t',rfl⟩:=ry;exact ne_int (aY I q (congrArg not tU))
  |str j=>obtain⟨t',rfl⟩:=ry;exact PySem.EqMixed.ne_int_str (aY I q (by simp))
  |_=>exact absurd (show false=true from hs) RZ
 |str i=>
  obtain⟨t,rfl⟩:=rx;cases y with
  |bg=>cases ry;exact PySem.EqNone.ne_str_none (aY I q (by simp))
  |bl j=>cases ry;exact PySem.EqMixed.ne_str_bool (aY I q (by simp))
  |int j=>obtain⟨t',rfl⟩:=ry;exact PySem.EqMixed.ne_str_int (aY I q (by simp))
  |str j=>obtain⟨t',rfl⟩:=ry;exact ne_str (aY I q (congrArg not zh))
  |_=>exact absurd (show false=true from hs) RZ
 |l9 i=>
  obtain⟨t,rfl⟩:=rx;cases y with
  |l9 j=>obtain⟨t',rfl⟩:=ry;exact PySem.W.ne_bytes (aY I q (congrArg not An))
  |_=>exact absurd (show false=true from hs) RZ
 |_=>cases y<;>exact absurd (show false=true from hs) RZ
def Bv:bw X (compareOp .Lt) (jW λi j=>.bl (decide (i<j))):=BH λ_ _ _ _ _ _ _ q=>lt_int q
def OC:bw X (compareOp .LtE) (jW λi j=>.bl (decide (i<=j))):=BH λ_ _ _ _ _ _ _ q=>le_int q
def HE:bw X (compareOp .Gt) (jW λi j=>.bl (decide (j<i))):=BH λ_ _ _ _ _ _ _ q=>gt_int q
def N7:bw X (compareOp .GtE) (jW λi j=>.bl (decide (j<=i))):=BH λ_ _ _ _ _ _ _ q=>ge_int q
def Kv:bw X (compareOp .Is) (λx y H Q=>y=.bg/\Q (.bl (decide (x=.bg))) H):=by
 intro pins s U H x y v u Q I rx ry h;obtain⟨rfl,q⟩:=h;cases ry;refine is_none_gen (aY I q ?_);cases x<;>first
  | (cases rx;rfl)
  | (obtain⟨t,rfl⟩:=rx;rfl)
def bw.or{f:Value->Value->Sem Value}{r r':R2}(h:bw X f r)(h':bw X f r'):bw X f (λx y H Q=>r x y H Q\/r' x y H Q):=by intro pins s U H x y v u Q I rx ry q;rcases q with q|q;{exact h pins s U H x y v u Q I rx ry q};exact h' pins s U H x y v u Q I rx ry q
def gu(b:Expr){op:CmpOp}(h:op≠.In:=by decide)(h2:op≠.NotIn:=by decide):behindInMarks op b=false:=by
 have e1:(op==CmpOp.In)=false:=by cases op<;>first|rfl|exact absurd rfl h
 have e2:(op==CmpOp.NotIn)=false:=by cases op<;>first|rfl|exact absurd rfl h2
 cases b<;>simp[behindInMarks,e1,e2]
def IJ{op:CmpOp}{r:R2}(ho:bw X (compareOp op) r)(ha:PE X a ta)(hb:PE X b tb)(hm:behindInMarks op b=false):PE X (.Compare a [op] [b] pos) (LZ r ta tb):=by intro pins s U H Q I h;exact wpAny_Compare1 (GH ha hb I h λv u s2 x y H2 I2 rx ry q=>ho pins s2 U H2 x y v u Q I2 rx ry q) hm
inductive CZ(Q:(Bool->Hp->Prop)) (x:V)(H':Hp):Prop
 |mk:∀k,(x=.bl k)->(Q k H')->CZ Q x H'
noncomputable def NY (t:TE):TT:=λU H Q=>t U H λx H'=>CZ Q x H'
noncomputable def CK (r r':R2)(ta tb tc:TE):TE:=λU H Q=>ta U H λx H1=>tb U H1 λy H2=>r x y H2 λz H3=>∃k,z=.bl k /\
 (if k=true then tc U H3 λw' H4=>r' y w' H4 Q else Q (.bl false) H3)
def Gi{op op':CmpOp}{r r':R2}(ho:bw X (compareOp op) r)(ho':bw X (compareOp op') r')(ha:PE X a ta)(hb:PE X b tb)(hc:PE X c tc)(hm:lastMarks [op,op'] [b,c]=false:=by with_unfolding_all rfl):PE X (.Compare a [op,op'] [b,c] pos) (CK r r' ta tb tc):=by
 intro pins s U H Q I h;refine Compare_chain (aO (ha pins s U H _ I h) λv s1 ⟨x,H1,I1,r1,q1⟩=>chain_link (aO (hb pins s1 U H1 _ I1 q1) λu s2 ⟨y,H2,I2,r2,q2⟩=>
  aO (ho pins s2 U H2 x y v u _ I2 r1 r2 q2) λd s3 ⟨z,H3,I3,r3,k,e,q3⟩=>?_)) hm
 subst e;cases r3;refine Tc ?_;cases k with
 |false=>exact ite_ff ⟨.bl false,H3,I3,rfl,q3⟩
 |true=>exact ite_tt (chain_last (aO (hc pins s3 U H3 _ I3 q3) λw' s4 ⟨z',H4,I4,r4,q4⟩=>ho' pins s4 U H4 y z' u w' Q I4 r2 r4 q4))
def GC{op op':CmpOp}{r r':R2}(ho:bw X (compareOp op) r)(ho':bw X (compareOp op') r')(ha:PE X a ta)(hb:PE X b tb)(hc:PE X c tc)(hm:lastMarks [op,op'] [b,c]=false:=by with_unfolding_all rfl):PT X (.Compare a [op,op'] [b,c] pos) (NY (CK r r' ta tb tc)):=by
 intro pins s U H Q I h;refine isTrue_chain (aO (ha pins s U H _ I h) λv s1 ⟨x,H1,I1,r1,q1⟩=>test_link (aO (hb pins s1 U H1 _ I1 q1) λu s2 ⟨y,H2,I2,r2,q2⟩=>
  aO (ho pins s2 U H2 x y v u _ I2 r1 r2 q2) λd s3 ⟨z,H3,I3,r3,k,e,q3⟩=>?_)) hm
 subst e;cases r3;refine Tc ?_;cases k with
 |false=>obtain⟨k',e',q'⟩:=q3;cases e';exact ite_ff ⟨H3,I3,q'⟩
 |true=>refine ite_tt (test_last (aO (hc pins s3 U H3 _ I3 q3) λw' s4 ⟨z',H4,I4,r4,q4⟩=>aO (ho' pins s4 U H4 y z' u w' _ I4 r2 r4 q4) λd' s5 ⟨z2,H5,I5,r5,k2,e2,q5⟩=>?_));subst e2;cases r5;exact Tc ⟨H5,I5,q5⟩
noncomputable def tP (K:Vz) (x:V)(H:Hp)(k:Bool):Prop:=
 match x with
 |.bg=>k=false
 |.bl b=>k=b
 |.int i=>k=(i != 0)
 |.str y=>y.length<=sizeLine/\k=((y.length:Int) != 0)
 |.l9 y=>y.size<=sizeLine/\k=((y.size:Int) != 0)
 |.ref p=>(∃xs,bI K H p xs/\k=!xs.isEmpty)\/(∃xs,bM K H p xs/\k=!xs.isEmpty)\/∃kvs,H p=some (.dK kvs)/\k=!kvs.isEmpty
 |_=>False
def Cj{κ:Type}{kvs:List (κ×V)}{vs:List (κ×Value)}(r:KV kvs vs):(!vs.isEmpty)=!kvs.isEmpty:=by cases r<;>rfl
def tE{xs:List V}{its:WH}(r:Vals xs its):(!its.toArray.isEmpty)=!xs.isEmpty:=by cases r<;>simp
def lX:(sizeLine:Nat)<2^63:=by rw[sizeLine_eq];decide
def C7:PZ X (λx H Q=>∃k,tP X.K x H k/\Q k H):=by
 intro pins s U H x v Q I rx h;obtain⟨k,e,q⟩:=h;have hl:=lX;have hs:sizeLine=16777216:=sizeLine_eq;cases x with
 |bg=>cases rx;have e':k=false:=e;subst e';exact truthy_none ⟨H,I,q⟩
 |bl b=>cases rx;have e':k=b:=e;subst e';exact Tc ⟨H,I,q⟩
 |int i=>obtain⟨t,rfl⟩:=rx;have e':k=(i != 0):=e;subst e';exact PySem.P.truthy_int ⟨H,I,q⟩
 |str y=>obtain⟨t,rfl⟩:=rx;obtain⟨hy,e'⟩:y.length<=sizeLine/\k=((y.length:Int) != 0):=e;subst e';exact PySem.P.truthy_str (by lia) ⟨H,I.tok _,q⟩
 |l9 y=>obtain⟨t,rfl⟩:=rx;obtain⟨hy,e'⟩:y.size<=sizeLine/\k=((y.size:Int) != 0):=e;subst e';exact PySem.W.truthy_bytes (by lia) ⟨H,I.tok _,q⟩
 |ref p=>cases rx;have e':(∃xs,bI X.K H p xs/\k=!xs.isEmpty)\/(∃xs,bM X.K H p xs/\k=!xs.isEmpty)\/∃kvs,H p=some (.dK kvs)/\k=!kvs.isEmpty:=e;rcases e' with⟨xs,hx,e'⟩|⟨xs,hx,e'⟩|⟨kvs,hx,e'⟩;{subst e';obtain⟨its,r,pl,hz⟩:=I.list hx;have hlen:=r.length;exact wpAny_truthy_list pl.isList (by simp only[RQ];lia) ⟨H,I.tok _,by rw[tE r];exact q⟩};{subst e';obtain⟨its,r,pl,hz⟩:=I.tuple hx;have hlen:=r.length;exact truthy_tuple pl (by simp only[RQ];lia) ⟨H,I.tok _,by rw[tE r];exact q⟩};subst e';obtain⟨hz,hS,vs,r,m⟩:kvs.length<=sizeLine/\(p==sysModules)=false/\∃vs,KV kvs vs/\s.heap.DictOf (cP X.prog X.w) p vs:=I.hok p _ hx;have hlen:kvs.length=vs.length:=Paired.length r;exact wpAny_truthy_dict hS m (by lia) ⟨H,I.tok _,by rw[Cj r];exact q⟩
 |_=>exact(show False from e).elim
def xT(ha:PE X a ta)(he:∀whole,isTrue a X.env whole=(do let v <-whole;standAt a.pos;holding [v] (truthy v))) :
  PT X a (λU H Q=>ta U H λx H'=>∃k,tP X.K x H' k/\Q k H'):=by
 intro pins s U H Q I h;exact isTrue_plain (aO (ha pins s U H _ I h) λv s1 ⟨x,H1,I1,r1,q1⟩=>C7 pins s1 U H1 x v Q I1 r1 q1) (he _)
def AG:bw X (binaryOp .Add) (λx y H Q=>∃i j,x=.str i/\y=.str j/\i.length+j.length<=sizeLine/\Q (.str (i++j)) H):=by intro pins s U H x y v u Q I rx ry h;obtain⟨i,j,rfl,rfl,hz,q⟩:=h;obtain⟨t,rfl⟩:=rx;obtain⟨t',rfl⟩:=ry;exact add_str (λt' tk=>⟨.str (i++j),H,I.tok _,⟨_,rfl⟩,q⟩) hz
def vals1{x:V}{us:WH}(r:Vals [x] us):∃u,us=[u]/\RelV x u:=by
 cases r with
 |cons r1 r2=>cases r2;exact⟨_,rfl,r1⟩
def vals2{x y:V}{us:WH}(r:Vals [x,y] us):∃u w',us=[u,w']/\RelV x u/\RelV y w':=by
 cases r with
 |cons r1 r2=>
  cases r2 with
  |cons r3 r4=>cases r4;exact⟨_,_,rfl,r1,r3⟩
def EI(hc:X.calm=true):cu X (.builtin "max") (λxs H Q=>∃i j,xs=[.int i,.int j]/\Q (.int (if j>i then j else i)) H):=by intro pins s U H xs us Q I r h;obtain⟨i,j,rfl,q⟩:=h;obtain⟨u,w',rfl,⟨t,rfl⟩,⟨t',rfl⟩⟩:=vals2 r;refine max_two_ints (I.ok.hd hc) λh' tk k=>⟨_,H,I.kept k,?_,q⟩;by_cases hj:j>i;{rw[if_pos hj,if_pos hj];exact⟨_,rfl⟩};rw[if_neg hj,if_neg hj];exact⟨_,rfl⟩
def DW(hc:X.calm=true):cu X (.builtin "min") (λxs H Q=>∃i j,xs=[.int i,.int j]/\Q (.int (if j<i then j else i)) H):=by intro pins s U H xs us Q I r h;obtain⟨i,j,rfl,q⟩:=h;obtain⟨u,w',rfl,⟨t,rfl⟩,⟨t',rfl⟩⟩:=vals2 r;refine min_two_ints (I.ok.hd hc) λh' tk k=>⟨_,H,I.kept k,?_,q⟩;by_cases hj:j<i;{rw[if_pos hj,if_pos hj];exact⟨_,rfl⟩};rw[if_neg hj,if_neg hj];exact⟨_,rfl⟩
def DX:cu X (.type "int") (λxs H Q=>(∃i,xs=[.int i]/\Q (.int i) H)\/∃k,xs=[.bl k]/\Q (.int (if k then 1 else 0)) H):=by intro pins s U H xs us Q I r h;rcases h with⟨i,rfl,q⟩|⟨k,rfl,q⟩;{obtain⟨u,rfl,t,rfl⟩:=vals1 r;exact call_int_int ⟨.int i,H,I,⟨_,rfl⟩,q⟩};obtain⟨u,rfl,r1⟩:=vals1 r;cases r1;exact call_int_bool ⟨.int (if k then 1 else 0),H,I.tok _,⟨_,rfl⟩,q⟩
end
structure FL(h:Heap)(x dx C:Addr)(mA:Vt):Prop where
 obj:h.get? x=some (PySem.W.instObj C dx)
 ns:h.Ns1 dx mA
 ne:dx≠x
def EB{h:Heap}{dx:Addr}{mA:Vt}(n:h.Ns1 dx mA):∃od,h.get? dx=some od/\∀name,PySem.W.lookIn name od=some (mA name):=by
 obtain⟨o,es,ep,ho,hd,hk,_,hm⟩:=n;refine⟨o,ho,λname=>?_⟩;have e:=hm name;unfold nsFind findBy at e;rw[<-VG]at e;unfold PySem.W.lookIn;rw[hd];dsimp only;split;{rename_i y q;rw[q]at e;exact congrArg some e};rename_i q;rw[q]at e;have a:es.toList.any (·.refKey)=false:=by rw[List.any_eq_false];intro y hy;obtain⟨z,t,hkey⟩:=hk y (Array.mem_toList_iff.mp hy);simp[DictEntry.refKey,hkey]
 have a':¬es.toList.any (·.refKey)=true:=by rw[a];exact RZ
 rw[if_neg a'];exact congrArg some e
def FL.look{h:Heap}{x dx C:Addr}{mA:Vt}(I:FL h x dx C mA):∃od,PySem.W.InstAt h x (PySem.W.instObj C dx) C (some od)/\∀name,PySem.W.lookIn name od=some (mA name):=
 let⟨od,ho,hl⟩:=EB I.ns
 ⟨od,⟨I.obj,rfl,rfl,ho⟩,hl⟩
def jt.some_of{v:V}{o:WA}(r:jt (some v) o):∃u,o=some u/\RelV v u:=by
 cases o with
 |none=>exact(show False from r).elim
 |some u=>exact⟨u,rfl,r⟩
section
variable{P:Program}{w:World}{H H':Hp}{h h':Heap}{a C dx:Addr}{fs fs':List (Str×V)}
def IQ(hok:cS P w H h)(e:H a=some (.ins C dx fs)):∃mA,FL h a dx C mA/\(∀f,jt (fs.lookup f) (mA f))/\PySem.Within mA (fs.map (·.1))/\fs.length<=1000/\H dx=some (.own a):=by obtain⟨d,z,ne,ob,mA,n,r,q⟩:=(show bE P w H h a (.ins C dx fs)from hok a _ e);exact⟨mA,⟨ob,n,ne⟩,r,q,z,d⟩
end
structure Lw(K:Vz)(C:Addr):Prop where
 pg:PySem.W.plainGet K C Str.empty=true
 hd:PySem.W.hasDictIn K C=true
 po:PySem.W.plainOver K C=true
 sa:PySem.W.findIn K (.ref C) "__setattr__"=some (some (.builtin "object.__setattr__"))
def Lw.get{K:Vz}{C:Addr}(c:Lw K C) (f:Str):PySem.W.plainGet K C f=true:=c.pg
section
variable{X:Cx}{pins:Vu}{U:St}{H:Hp}{s:Shared}{A:Around}{E:Vr}{Q:Vr}{c:Value}{b:Bool}
inductive gc(K:Vz)(H:Hp):V->Value->Prop where
 |bg:gc K H .bg (.type "NoneType")
 |bl (x:Bool):gc K H (.bl x) (.type "bool")
 |int (i:Int):gc K H (.int i) (.type "int")
 |str (x:Str):gc K H (.str x) (.type "str")
 |zp (x:UInt64):gc K H (.zp x) (.type "float")
 |lst {a:Addr}{xs:List V}(e:H a=some (.lst xs)):gc K H (.ref a) (.type "list")
 |dW {a:Addr}{o:Obj}{xs:List V}(e:H a=some (.dW o (.lst xs))):gc K H (.ref a) (.type "list")
 |kl {a:Addr}{its:WB}{n:Nat}(e:K.lookup a=some { cls:=.type "list",data:=.seq its n }):gc K H (.ref a) (.type "list")
 |tup {a:Addr}{xs:List V}(e:H a=some (.tup xs)):gc K H (.ref a) (.type "tuple")
 |dK {a:Addr}{kvs:List (Key×V)}(e:H a=some (.dK kvs)):gc K H (.ref a) (.type "dict")
 |dT {a:Addr}{kvs:List (List Key×V)}(e:H a=some (.dT kvs)):gc K H (.ref a) (.type "dict")
 |ins {a C dx:Addr}{fs:List (Str×V)}(e:H a=some (.ins C dx fs))(cl:Lw K C)(ha:PySem.W.findIn K (.ref C) "__class__"=some (some (.builtin "object.__class__")))
   (hn:PySem.W.specialIn K (.builtin "object.__class__") "__get__"=some (some (.builtin "getset_descriptor.__get__")))(htk:PySem.W.takesIn K (.builtin "object.__class__")=some true)
   (hm:PySem.W.mroIn K C (.type "object")=some true):gc K H (.ref a) (.ref C)
def Ej{x:V}{u t:Value}(I:Inv X pins U H s)(rx:RelV x u)(ty:gc X.K H x t)(e:PySem.W.kitOne X.K t c=some b)(h:∀tk,Q (.bool b) { s with toks:=tk }) : wpAny (model X.prog X.w) A (call (.builtin "isinstance") [u,c]) Q E s:=by
 cases ty with
 |bg=>cases (show u=Value.none from rx);exact SW PySem.W.kitx_none I.gW Sk e (λz=>nomatch z) h
 |bl y=>cases (show u=Value.bool y from rx);exact SW PySem.W.kitx_bool I.gW Sk e (λz=>nomatch z) h
 |int i=>obtain⟨t,q⟩:=(show ∃t,u=Value.int i t from rx);cases q;exact SW PySem.W.kitx_int I.gW Sk e (λz=>nomatch z) h
 |str y=>obtain⟨t,q⟩:=(show ∃t,u=Value.str y t from rx);cases q;exact SW PySem.W.kitx_str I.gW Sk e (λz=>nomatch z) h
 |zp y=>obtain⟨t,q⟩:=(show ∃t,u=Value.float y t from rx);cases q;exact SW PySem.W.kitx_float I.gW Sk e (λz=>nomatch z) h
 |@lst a xs ea=>cases (show u=Value.ref a from rx);obtain⟨_,_,n,_,h1⟩:=(show bE X.prog X.w H s.heap a (.lst xs)from I.hok a _ ea);exact SW VH I.gW ⟨_,h1,rfl⟩ e (λz=>nomatch z) h
 |@dW a ob xs ea=>cases (show u=Value.ref a from rx);obtain⟨_,_,_,n,_,h1⟩:=(show bE X.prog X.w H s.heap a (.dW ob (.lst xs))from I.hok a _ ea);exact SW VH I.gW ⟨_,h1,rfl⟩ e (λz=>nomatch z) h
 |@kl a its n ea=>cases (show u=Value.ref a from rx);exact SW VH I.gW ⟨_,I.gW a _ ea,rfl⟩ e (λz=>nomatch z) h
 |@tup a xs ea=>cases (show u=Value.ref a from rx);obtain⟨_,_,_,p⟩:=(show bE X.prog X.w H s.heap a (.tup xs)from I.hok a _ ea);obtain⟨o,h1,h2,_⟩:=p;exact SW PySem.W.kitx_tuple I.gW ⟨o,h1,h2⟩ e (λz=>nomatch z) h
 |@dK a kvs ea=>cases (show u=Value.ref a from rx);obtain⟨_,_,vs,_,p⟩:=(show bE X.prog X.w H s.heap a (.dK kvs)from I.hok a _ ea);obtain⟨o,es,ep,h1,h2,_⟩:=p;exact SW PySem.W.kitx_dict I.gW ⟨o,h1,h2.1⟩ e (λz=>nomatch z) h
 |@dT a kvs ea=>cases (show u=Value.ref a from rx);obtain⟨_,_,xs,_,o,es,ep,h1,h2,_⟩:=(show bE X.prog X.w H s.heap a (.dT kvs)from I.hok a _ ea);exact SW PySem.W.kitx_dict I.gW ⟨o,h1,h2.1⟩ e (λz=>nomatch z) h
 |@ins a C dx fs ea cl ha hn htk hm=>cases (show u=Value.ref a from rx);obtain⟨mA,O,_⟩:=IQ I.hok ea;obtain⟨od,J,_⟩:=O.look;exact SW (PySem.W.kitx_own (cl.get _) cl.hd ha hn htk hm) I.gW J e (λz=>nomatch z) h
end
structure dm(k:Nat)(A:Around):Prop where
 hd:A.handled=none
 dp:A.depth+3*k+5<recursionLimit
 un:A.units+16*k+200<cLine
def dm.mono{j k:Nat}{A:Around}(r:dm k A)(h:j<=k):dm j A:=⟨r.hd,by have:=r.dp;lia,by have:=r.un;lia⟩
theorem dm.deeper{k:Nat}{A:Around}(r:dm (k+1) A)(env:Env):dm k (A.deeper env):=
 ⟨r.hd,by have:=r.dp;show A.depth+1+3*k+5<_;lia,by have:=r.un;show A.units+3+16*k+200<_;lia⟩
theorem dm.depth{k:Nat}{A:Around}(r:dm k A):A.depth<recursionLimit:=by have:=r.dp;lia
theorem dm.units{k:Nat}{A:Around}(r:dm k A):A.units+64<cLine:=by have:=r.un;lia
noncomputable def P1:TA:=λ_ H Q=>Q [] H
noncomputable def Ou (ta:TE)(tr:TA):TA:=λU H Q=>ta U H λx H1=>tr U H1 λxs H2=>Q (x::xs) H2
section
variable{X:Cx}{e:Expr}{es:WK}{te:TE}{t:TA}{pos:Pos}
def lP:PA X [] P1:=λ_ _ _ _ H Q I h=>Calls.spliced_nil ⟨[],H,I,.nil,h⟩
def gU(ha:PE X e te)(hr:PA X es t)(hs:starEach (e::es) X.env=(false,eval e X.env)::starEach es X.env:=by rfl):PA X (e::es) (Ou te t):=by intro pos pins s U H Q I h;rw[hs];show wpAny _ _ (spliced ((false,eval e X.env)::backTo pos (starEach es X.env))) _ _ s;refine Calls.spliced_cons (aO (ha pins s U H _ I h) λu s1 ⟨x,H1,I1,r1,q1⟩=>?_);exact aO (hr pos pins s1 U H1 _ I1 q1) λus s2 ⟨xs,H2,I2,r2,q2⟩=>⟨x::xs,H2,I2,.cons r1 r2,q2⟩
noncomputable def Pj (t:TA):TE:=λU H Q=>t U H λxs H1=>xs.length<=sizeLine/\∀p,H1 p=none->Q (.ref p) (upd H1 p (.tup xs))
noncomputable def Qk (t:TA):TE:=λU H Q=>t U H λxs H1=>xs.length<=sizeLine/\∀p,H1 p=none->Q (.ref p) (upd H1 p (.lst xs))
def KW{x1}(h:PA X es t):PE X (.Tuple es x1 pos) (Pj t):=by intro pins s U H Q I hq;refine wpAny_Tuple_spliced (aO (h pos pins s U H _ I hq) λus s1 ⟨xs,H1,I1,r,z,q⟩=>⟨by rw[<-r.length];exact z,?_⟩);have hf:H1 s1.heap.objs.size=none:=I1.hok.fresh (RB _);refine⟨.ref s1.heap.objs.size,upd H1 s1.heap.objs.size (.tup xs),I1.laid (t':=s1.toks) (λb u e=>Ra _ e) (RB _) ?_,rfl,q _ hf⟩;exact⟨z,us,r,⟨_,Rx _ rfl,rfl,_,rfl⟩⟩
def MD(h:PA X es t):PE X (.List es pos) (Qk t):=by intro pins s U H Q I hq;refine wpAny_List_spliced (aO (h pos pins s U H _ I hq) λus s1 ⟨xs,H1,I1,r,z,q⟩=>⟨by rw[<-r.length];exact z,?_⟩);have hf:H1 s1.heap.objs.size=none:=I1.hok.fresh (RB _);refine⟨.ref s1.heap.objs.size,upd H1 s1.heap.objs.size (.lst xs),I1.laid (t':=s1.toks) (λb u e=>Ra _ e) (RB _) ?_,rfl,q _ hf⟩;exact⟨z,us,0,r,Rx _ rfl⟩
end
noncomputable abbrev Sp:=List V->Hp->VK->XK->Prop
noncomputable abbrev kW:=List Env->Hp->Shared->XK->Value->Shared->Prop
structure AD(P:Program)(w:World)(K:Vz)(mg:Vt)(base:Heap)(A:Around)(outer:List Env)(s:Shared)(H:Hp):Prop where
 frames:A.frames=some outer
 mod:Mod K mg base
 bs:∀b o,base.get? b=some o->s.heap.get? b=some o/\H b=none
 Ah:base.objs.size<=s.heap.objs.size
 lC:s.heap.FunFrames base outer
 Dj:∀b∈frs outer,H b=none
 hok:cS P w H s.heap
 bare:AllBare s.gens
noncomputable def CE (outer:List Env)(P:Program)(w:World)(H:Hp)(s:Shared)(Q:VK)(u:Value)(s':Shared):Prop:=
 ∃v H',s'.os=s.os/\AllBare s'.gens/\Un (frs outer) [] H H' s.heap s'.heap/\cS P w H' s'.heap/\RelV v u/\Q v H'
noncomputable def CR (CX:kW)(outer:List Env)(P:Program)(w:World)(H:Hp)(s:Shared)(Q:VK)(E:XK)(r:Result)(s':Shared):Prop:=
 match r with
 |.ok (.ret u)=>CE outer P w H s Q u s'
 |.ok _=>False
 |.error e=>CX outer H s E e s'
structure gf(P:Program)(w:World)(K:Vz)(mg:Vt)(base:Heap)(CX:kW) (k:Nat)(f:Addr)(fd:FuncData)(ps:WQ)(sp:Sp):Prop where
 len:∀vs H Q E,sp vs H Q E->vs.length=ps.length
 run:∀(A:Around)(outer:List Env)(s:Shared)(H:Hp)(args:Args)(us:WH)(vs:List V)(Q:VK)(E:XK),dm k A->AD P w K mg base A outer s H->BindsTo s fd args (ps.zip us)->Vals vs us->sp vs H Q E->
  codeAny (model P w) A (.call (.ref f) args) (CR CX outer P w H s Q E) s
def gf.imp{P:Program}{w:World}{K:Vz}{mg:Vt}{base:Heap}{CX:kW}{k:Nat}{f:Addr}{fd:FuncData}{ps:WQ}{sp sp':Sp}(F:gf P w K mg base CX k f fd ps sp)(h:∀vs H Q E,sp' vs H Q E->sp vs H Q E):gf P w K mg base CX k f fd ps sp':=
 ⟨λvs H Q E q=>F.len vs H Q E (h _ _ _ _ q),λA outer s H args us vs Q E hr he hb hv hs=>F.run A outer s H args us vs Q E hr he hb hv (h _ _ _ _ hs)⟩
section
variable{X:Cx}{pins:Vu}{U:St}{H:Hp}{s s':Shared}
def Inv.PU(I:Inv X pins U H s):AD X.prog X.w X.K X.mg X.base X.A X.stack s H:=
 ⟨I.ok.frames,I.ok.mod,I.bs,Ri I.ok.Ah I.sz,I.stack,I.ux,I.hok,I.bare⟩
def Inv.after{Q:VK}{u:Value}(I:Inv X pins U H s)(h:CE X.stack X.prog X.w H s Q u s'):EP X pins U Q u s':=by obtain⟨v,H',os,bare,un,hok,r,q⟩:=h;obtain⟨hh,g,d,t,os'⟩:=s';obtain rfl:os'=s.os:=os;exact⟨v,H',I.call (h':=hh) (g':=g) (d':=d) (t':=t) (ch:=[]) un hok bare (λb z=>absurd z (by simp)),r,q⟩
end
noncomputable def Oj (sp:Sp)(dvs:List V)(E:XK)(t:TA):TE:=λU H Q=>t U H λvs H1=>sp (vs++dvs) H1 Q E
noncomputable def Binds (K:Vz)(fd:FuncData)(ps:WQ)(ds:WH):Prop:=
 ∀(s:Shared)(us:WH),K.In s.heap->(us++ds).length=ps.length->BindsTo s fd ⟨us,[]⟩ (ps.zip (us++ds))
def Binds.all{K:Vz}{fd:FuncData}{ps:WQ}(h:∀us:WH,us.length=ps.length->bindArgs fd ⟨us,[]⟩=pure (ps.zip us)):Binds K fd ps []:=λs us _ hl=>by rw[Rz]at hl⊢;exact .of_eq (h us hl)
noncomputable def Passes (CX:kW)(X:Cx)(E:XK):Prop:=∀(pins:Vu)(U:St)(H:Hp)(s:Shared)(e:Value)(s':Shared),Inv X pins U H s->CX X.stack H s E e s'->X.xe e s'
section
variable{X:Cx}{CX:kW}{k:Nat}{f C:Addr}{fd:FuncData}{ps:WQ}{sp:Sp}{dvs:List V}{ds:WH}{E:XK}{x m:Str}{p pos apos:Pos}{e o:Expr}{es:WK}{ta:TE}{t:TA}
def KU{pins:Vu}{U:St}{H:Hp}{s:Shared}{Q:VK}{us:WH}{vs:List V}(F:gf X.prog X.w X.K X.mg X.base CX k f fd ps sp)(hr:dm k X.A)(hb:Binds X.K fd ps ds)(hd:Vals dvs ds)(hx:Passes CX X E)(I:Inv X pins U H s)(r:Vals vs us)(h:sp (vs++dvs) H Q E):wpAny (model X.prog X.w) X.A (call (.ref f) us) (EP X pins U Q) X.xe s:=by
 have r2:Vals (vs++dvs) (us++ds):=r.append hd;have hl:(us++ds).length=ps.length:=by rw[<-r2.length];exact F.len _ _ _ _ h
 refine wpAny_call (codeAny_mono (F.run X.A X.stack s H ⟨us,[]⟩ (us++ds) (vs++dvs) Q E hr I.PU (hb s us I.gW hl) r2 h) λr s' hq=>?_);cases r with
 |error e=>exact hx pins U H s e s' I hq
 |ok fl=>
  cases fl with
  |ret u=>exact I.after hq
  |next=>exact False.elim hq
  |brk=>exact False.elim hq
  |cont=>exact False.elim hq
def z0(F:gf X.prog X.w X.K X.mg X.base CX k f fd ps sp)(hr:dm k X.A)(hg:Gl X x)(hm:X.mg x=some (.ref f))(hk:PySem.W.keepIn X.K (.ref f)=true)(hb:Binds X.K fd ps ds)(hd:Vals dvs ds)(hx:Passes CX X E)(ha:PA X (e::es) t)(hdb:(x==("__debug__":Str))=false:=by decide)(he:starEach (e::es) X.env=(false,eval e X.env)::starEach es X.env:=by rfl)(hpl:(backTo pos (starEach es X.env)).any (·.1)=false:=by rfl) : PE X (.Call (.Name x p) (e::es) [] pos) (Oj sp dvs E t):=by intro pins s U H Q I h;refine VI (t7 I hg hm ?_ hdb);refine PySem.W.callWith_K (h₀:=X.base) I.ok.mod.Hg hk (aO (ha pos pins s U H _ I h) λus s1 ⟨vs,H1,I1,r,q⟩=>⟨I1.gW,?_⟩) he hpl;exact KU F hr hb hd hx I1 r q
end
structure aJ(N P:WQ)(sc:Scope):Prop where
 kind:sc.kind=.function
 co:sc.isCoroutine=false
 gen:sc.isGenerator=false
 nd:N.Nodup
 pre:N.take P.length=P
 par:∀x∈P,sc.names.lookup x=some .local\/sc.names.lookup x=some .cell
 Ku:∀y∈sc.names,y.2≠.free
theorem uB{kindOf:Str->Option NameKind}{x:Str}:∀{binds:List (Str×Value)}{m:Vt},(∀v,(x,v)∉binds)->bindL kindOf binds m x=m x
 |[],_,_=>rfl
 | (n,v)::r,m,h=>by
  unfold bindL;rw[uB λw hw=>h w (RK _ hw)];split
  .have:x≠n:=by rintro rfl;exact h v RC
   simp[this]
  rfl
theorem uL{kindOf:Str->Option NameKind}{x:Str}:∀{binds:List (Str×Value)}{m:Vt},(∀v,(x,v)∉binds)->bindC kindOf binds m x=m x
 |[],_,_=>rfl
 | (n,v)::r,m,h=>by
  unfold bindC;rw[uL λw hw=>h w (RK _ hw)];split;{rfl};have:x≠n:=by rintro rfl;exact h v RC
  simp[this]
theorem uF{kindOf:Str->Option NameKind}{x:Str}{v:Value}:∀{P:WQ}{vs:WH}{i:Nat}{m:Vt},P.Nodup->P[i]?=some x->vs[i]?=some v->kindOf x=some .local-> bindL kindOf (P.zip vs) m x=some v
 |[],_,_,_,_,h,_,_=>by simp at h
 |_::_,[],_,_,_,_,h,_=>by simp at h
 |p::P,w::vs,0,m,nd,h1,h2,hk=>by simp at h1 h2;subst h1;subst h2;show bindL kindOf ((p,w)::P.zip vs) m p=_;unfold bindL;rw[uB λv hv=>(S8.mp nd).1 (Uj hv).1,if_pos hk];simp
 |p::P,w::vs,i+1,m,nd,h1,h2,hk=>by show bindL kindOf ((p,w)::P.zip vs) m x=_;unfold bindL;exact uF (i:=i) (S8.mp nd).2 (by simpa using h1) (by simpa using h2) hk
theorem u9{kindOf:Str->Option NameKind}{x:Str}{v:Value}:∀{P:WQ}{vs:WH}{i:Nat}{m:Vt},P.Nodup->P[i]?=some x->vs[i]?=some v->kindOf x≠some .local-> bindC kindOf (P.zip vs) m x=some v
 |[],_,_,_,_,h,_,_=>by simp at h
 |_::_,[],_,_,_,_,h,_=>by simp at h
 |p::P,w::vs,0,m,nd,h1,h2,hk=>by simp at h1 h2;subst h1;subst h2;show bindC kindOf ((p,w)::P.zip vs) m p=_;unfold bindC;rw[uL λv hv=>(S8.mp nd).1 (Uj hv).1,if_neg hk];simp
 |p::P,w::vs,i+1,m,nd,h1,h2,hk=>by show bindC kindOf ((p,w)::P.zip vs) m x=_;unfold bindC;exact u9 (i:=i) (S8.mp nd).2 (by simpa using h1) (by simpa using h2) hk
noncomputable def start (N:WQ)(vs:List V):St:=vs.map some++List.replicate (N.length-vs.length) none
noncomputable def fX (CX:kW)(P:Program)(w:World)(K:Vz)(mg:Vt)(base:Heap)(N:WQ) (qual:Str)(scope:Scope)(f:Addr)(cd:Value)(A:Around)(outer:List Env)(s:Shared)(H:Hp)(E:XK):Cx where
 prog:=P
 w:=w
 K:=K
 mg:=mg
 base:=base
 A:=A.deeper (envOfC qual scope s.heap.objs.size f cd)
 N:=N
 s₀:=s
 H₀:=H
 env:=envOfC qual scope s.heap.objs.size f cd
 outer:=outer
 stack:=envOfC qual scope s.heap.objs.size f cd::outer
 ex:=[]
 calm:=true
 fn:=λ_=>true
 pn:=[]
 xe:=λe s'=>wpAny (model P w) (A.deeper (envOfC qual scope s.heap.objs.size f cd)) (leaving (envOfC qual scope s.heap.objs.size f cd) e) (λ_ s''=>CX outer H s E e s'') (λe' s''=>CX outer H s E e' s'') s'
def yo{sc:Scope}{n:Nat}{x:Str}(h:sc.names.lookup x=some .cell):∃c,(cellsFrom n sc.names []).lookup x=some c:=by have q:=PySem.W.cellsFrom_some sc.names n [] (.inl h);exact Option.isSome_iff_exists.mp q
def E7{CX:kW}{P:Program}{w:World}{K:Vz}{mg:Vt}{base:Heap}{N ps:WQ}{qual:Str}{scope:Scope}{f:Addr}{cd:Value}{A:Around}{outer:List Env}{s s1:Shared}{H:Hp}{E:XK}{us:WH}{vs:List V}(S:aJ N ps scope)(hd:A.handled=none)(e0:AD P w K mg base A outer s H)(hl:vs.length=ps.length)(r:Vals vs us)(x:InCallC s s.heap.objs.size (bindL (envOfC qual scope s.heap.objs.size f cd).kindOf (ps.zip us) λ_=>none) (cellsFrom (s.heap.objs.size+1) scope.names []) (bindC (envOfC qual scope s.heap.objs.size f cd).kindOf (ps.zip us) λ_=>none) s1) : Inv (fX CX P w K mg base N qual scope f cd A outer s H E) [] (start N vs) H s1:=by
 have hpl:ps.length<=N.length:=by have:=congrArg List.length S.pre;rw[SQ]at this;lia
 obtain⟨h1,tk,rfl,hk⟩:=x.done;have noA:∀b:Addr,b∉(fX CX P w K mg base N qual scope f cd A outer s H E).ex:=λb z=>absurd (show b∈([]:WI)from z) (by simp);refine⟨⟨e0.mod,S.kind,rfl,rfl,RB _,λy z c h1 h2=>?_,λy hy=>?_,λy c _ h=>?_,λ_=>hd,Around.frames_deeper e0.frames,.inr ⟨rfl,rfl⟩,λb z=>absurd z (noA b),e0.bs,e0.Ah,λb _ _=>noA b,λb z=>absurd z (noA b),e0.lC,e0.Dj⟩,
  rfl,e0.bare,Un.kept hk,⟨_,x.toInCall.ns,λi y v h1 h2 h3=>?_⟩,λy c h=>⟨_,x.cell y c h⟩,e0.hok.fresh (RB _),λy c h=>?_,λp hp=>absurd (show p∈([]:Vu)from hp) (by simp),e0.hok.kept hk,?_⟩
 .exact name_of_addr x.apart (UK h1) (UK h2)
 .have hy:scope.names.lookup y=some .cell\/scope.names.lookup y=some .free:=hy;rcases hy with hy|hy;{exact yo hy};exact absurd rfl (S.Ku _ (UK hy))
 .exact Nat.le_of_lt (x.above y c (UK h))
 .have hi:i<vs.length:=by unfold start at h2;by_cases hi:i<vs.length;{exact hi};rw[UL (by simpa using hi)]at h2;rw[UM]at h2;split at h2<;>cases h2
  have ha:vs[i]?=some v:=by
   unfold start at h2;rw[U4 (by simpa using hi),RO]at h2;cases e:vs[i]? with
   |none=>rw[e]at h2;cases h2
   |some a=>rw[e]at h2;cases h2;rfl
  obtain⟨u,hu,rv⟩:=r.get ha;have hp:ps[i]?=some y:=by rw[<-S.pre,List.getElem?_take_of_lt (by lia)];exact h1
  have ndP:ps.Nodup:=by rw[<-S.pre];exact S.nd.sublist (List.take_sublist _ _)
  refine⟨u,rv,?_⟩;rcases S.par y (Rj hp)with k|k;{exact .inl ⟨k,uF ndP hp hu k⟩};obtain⟨c,e⟩:=yo (n:=s.heap.objs.size+1) k;refine .inr ⟨.inl k,c,e,?_⟩;have q:=x.cell y c e;rw[u9 ndP hp hu (by show scope.names.lookup y≠_;rw[k];decide)]at q;exact q
 .exact e0.hok.fresh (Nat.le_of_lt (x.above y c (UK h)))
 unfold start;show _=N.length;rw[RM,RA,SR];lia
def Nr{CX:kW}{P:Program}{w:World}{K:Vz}{mg:Vt}{base:Heap}{k:Nat}{f:Addr}{name qual:Str}{params:Arguments}{body:WM}{scope:Scope}{dV kV doc pm cdv ct oc:Value}{an od:WD}{osl:Vq}{N ps:WQ}{sp:Sp}(lk:K.lookup f=some ⟨oc,od,.func (PySem.W.fnOf name qual params body scope dV kV doc pm an cdv ct),osl⟩)(hcd:PySem.W.codeIn K cdv qual=true)(S:aJ N ps scope)(len:∀vs H Q E,sp vs H Q E->vs.length=ps.length)(hbody:∀(A:Around)(outer:List Env)(s:Shared)(H:Hp)(vs:List V)(Q:VK)(E:XK),dm k (A.deeper (envOfC qual scope s.heap.objs.size f cdv))->sp vs H Q E-> ∃t,nZ (fX CX P w K mg base N qual scope f cdv A outer s H E) body t/\t { nx:=λ_ H'=>Q .bg H',rt:=Q } (start N vs) H) : gf P w K mg base CX (k+1) f (PySem.W.fnOf name qual params body scope dV kV doc pm an cdv ct) ps sp:=by
 refine⟨len,λA outer s H args us vs Q E hr e0 hb r hsp=>?_⟩;have hl:=len _ _ _ _ hsp;have KX:K.In s.heap:=e0.mod.Hg.keeps λb o e=>(e0.bs b o e).1;have lim:s.heap.NoLimit:=e0.mod.nolimit.keeps λb o e=>(e0.bs b o e).1;have hkind:∀y∈ps.zip us,scope.names.lookup y.1=some .local\/(scope.names.lookup y.1=some .cell/\((cellsFrom (s.heap.objs.size+1) scope.names []).lookup y.1).isSome=true):=λ⟨n,v⟩ hy=>by rcases S.par n (Uj hy).1 with q|q;{exact .inl q};exact .inr ⟨q,PySem.W.cellsFrom_some _ _ _ (.inl q)⟩
 refine codeAny_call_function hr.depth (KX _ _ lk) rfl S.co S.gen rfl (PySem.W.codeRec_of KX hcd) (hb _ _ _ _ ?_);refine wpAny_newFunctionEnv_cells S.kind hkind λenv he s1 x=>?_;subst he;refine⟨lim.keeps x.toInCall.keep,codeAny_func ?_⟩;obtain⟨t,ht,hq⟩:=hbody A outer s H vs Q E (hr.deeper _) hsp;have I:Inv (fX CX P w K mg base N qual scope f cdv A outer s H E) [] (start N vs) H s1:=E7 S hr.hd e0 hl r x;refine SO (ht [] s1 (start N vs) H _ I hq) (λfl s' hs=>?_) λe s' hs=>hs;have fin:∀{σ':St}{H':Hp}{v:V}{u:Value},Inv (fX CX P w K mg base N qual scope f cdv A outer s H E) [] σ' H' s'->RelV v u->Q v H'->CE outer P w H s Q u s':=
  λ{σ' H' v u} J rv q=>⟨v,H',J.os,J.bare,J.base,J.hok,rv,q⟩
 cases fl with
 |ret u=>obtain⟨v,σ',H',J,rv,q⟩:=hs;exact fin J rv q
 |next=>obtain⟨σ',H',J,q⟩:=hs;exact fin (v:=V.bg) (u:=Value.none) J rfl q
 |brk=>obtain⟨_,_,_,q⟩:=hs;exact False.elim q
 |cont=>obtain⟨_,_,_,q⟩:=hs;exact False.elim q
section
variable{X:Cx}{x:Str}{p pos:Pos}{e:Expr}{es:WK}{t:TA}{id T:String}{r:List V->Hp->VK->Prop}
noncomputable def O7 (r:List V->Hp->VK->Prop)(t:TA):TE:=λU H Q=>t U H λvs H1=>r vs H1 Q
def yu(hc:cu X (.builtin id) r)(hg:Gl X x)(hm:X.mg x=none)(hv:bootBuiltins x=some (.builtin id))(ha:PA X (e::es) t)(hn:x≠"__name__":=by decide)(hdb:(x==("__debug__":Str))=false:=by decide)(he:starEach (e::es) X.env=(false,eval e X.env)::starEach es X.env:=by rfl)(hpl:(backTo pos (starEach es X.env)).any (·.1)=false:=by rfl):PE X (.Call (.Name x p) (e::es) [] pos) (O7 r t):=by intro pins s U H Q I h;refine VI (ji I hg hm hv ?_ hn hdb);exact PyProof.Rows.callWith_builtin1 (aO (ha pos pins s U H _ I h) λus s1 ⟨vs,H1,I1,r1,q1⟩=>hc pins s1 U H1 vs us Q I1 r1 q1) he hpl
def lg(hc:cu X (.type T) r)(hg:Gl X x)(hm:X.mg x=none)(hv:bootBuiltins x=some (.type T))(ha:PA X (e::es) t)(hn:x≠"__name__":=by decide)(hdb:(x==("__debug__":Str))=false:=by decide)(he:starEach (e::es) X.env=(false,eval e X.env)::starEach es X.env:=by rfl)(hpl:(backTo pos (starEach es X.env)).any (·.1)=false:=by rfl):PE X (.Call (.Name x p) (e::es) [] pos) (O7 r t):=by intro pins s U H Q I h;refine VI (ji I hg hm hv ?_ hn hdb);exact U3 (aO (ha pos pins s U H _ I h) λus s1 ⟨vs,H1,I1,r1,q1⟩=>hc pins s1 U H1 vs us Q I1 r1 q1) he hpl
end
end L2
namespace HT
open PySem PyProof.Rows
section
variable{prog:Program}{w:World}{A:Around}{E:Vr}{s:Shared}
def JF{t b:Addr}{vs ws:WH}{Q:Vr}(ht:IsTup s.heap t vs.toArray)(hb:IsTup s.heap b ws.toArray)(hv:vs≠[])(h1:ws=[]->Q (.ref t) s)(h2:ws≠[]->Q (.ref s.heap.objs.size) { s with heap:=s.heap.push { cls:=.type "tuple",data:=.seq (vs++ws).toArray } })(hsz:vs.length+ws.length<=sizeLine):wpAny (model prog w) A (binaryOp .Add (.ref t) (.ref b)) Q E s:=by
 obtain⟨⟨cls,dd,data,sl⟩,ho,hc,n,hd⟩:=id ht;obtain⟨⟨cls2,dd2,data2,sl2⟩,ho2,hc2,n2,hd2⟩:=id hb;simp only at hc hd hc2 hd2;subst hc hd hc2 hd2;have e:vs.toArray++ws.toArray=(vs++ws).toArray:=by simp
 by_cases hw:ws=[]
 .exact concat_meets ⟨_,ho,rfl⟩ ⟨_,ho2,rfl⟩ noFill_tuple_add seq_tuple_add PySem.F.slot_tuple_add PySem.F.entry_tuple_add (PySem.F.args_tuple_add_2 _ _)
   (tuple_addW1 t b vs.toArray ws.toArray n n2 dd dd2 sl sl2 (by simpa using hv) (by simp[hw])) ⟨ho,ho2,h1 hw⟩
 refine concat_meets ⟨_,ho,rfl⟩ ⟨_,ho2,rfl⟩ noFill_tuple_add seq_tuple_add PySem.F.slot_tuple_add PySem.F.entry_tuple_add (PySem.F.args_tuple_add_2 _ _)
  (tuple_addW2 t b vs.toArray ws.toArray n n2 dd dd2 sl sl2 (by simpa using hv) (by simpa using hw) (by rw[RQ,RQ];exact hsz)) ⟨ho,ho2,?_⟩
 rw[e];exact h2 hw
noncomputable def aK (n d:Nat):Option Int->Nat
 |none=>d
 |some v=>if v<0 then(v+(n:Int)).toNat else min v.toNat n
def lY(n d k:Nat):aK n d (some (k:Int))=min k n:=by show(if(k:Int)<0 then((k:Int)+(n:Int)).toNat else min (k:Int).toNat n)=min k n;rw[if_neg (by lia),Uk]
def Mh(n d:Nat)(hd:d<=n)(o:Option Int):aK n d o<=n:=by
 cases o with
 |none=>exact hd
 |some v=>show(if v<0 then(v+(n:Int)).toNat else min v.toNat n)<=n;by_cases hv:v<0;{rw[if_pos hv];lia};rw[if_neg hv];exact VJ _ _
def yY(v:Int) (n d:Nat):(if v<0 then max (v+(n:Int)) 0 else min v (n:Int))=((aK n d (some v):Nat):Int):=by show(if v<0 then max (v+(n:Int)) 0 else min v (n:Int))=(((if v<0 then(v+(n:Int)).toNat else min v.toNat n):Nat):Int);by_cases hv:v<0;{simp only[if_pos hv];lia};simp only[if_neg hv];lia
def AX(lo hi:Option Int) (n:Nat):Builtin.Slice.sliceAdjust lo hi 1 (n:Int)=(((aK n 0 lo:Nat):Int),((aK n n hi:Nat):Int)):=by
 have h1:¬((1:Int)<0):=by lia
 unfold Builtin.Slice.sliceAdjust;simp only[h1,So];refine Prod.ext ?_ ?_
 .cases lo with
  |none=>rfl
  |some v=>exact yY v n 0
 cases hi with
 |none=>rfl
 |some v=>exact yY v n n
def BE(i j:Nat):Builtin.Slice.slicePlaces (i:Int) (j:Int) 1=j-i:=by
 unfold Builtin.Slice.slicePlaces;have h1:(1:Int)>0:=by lia
 simp only[h1,if_true,Int.ediv_one];split<;>lia
def sI{v:Value}{o:Option Int}{Q:Option Int->Shared->Prop}(p:IsPart v o)(h:Q o s):wpAny (model prog w) A (Builtin.Slice.slicePartIndex v) Q E s:=by
 cases p with
 |none=>exact slicePart_none h
 |int i t=>exact slicePart_int h
def jX{sl:Addr}{vl vu:Value}{lo hi:Option Int}{n:Nat}{Q:Int×Int×Nat->Shared->Prop}(hs:s.heap.IsSliceOf sl vl vu .none)(pl:IsPart vl lo)(pu:IsPart vu hi)(h:Q (((aK n 0 lo:Nat):Int),1,aK n n hi-aK n 0 lo) s):wpAny (model prog w) A (Builtin.Slice.sliceApplied (.ref sl) (pure (n:Int))) Q E s:=by obtain⟨os,hos,hcs,hds⟩:=id hs;unfold Builtin.Slice.sliceApplied Builtin.Slice.sliceFields;refine Q9 (Q9 (TF hos hds (x:=vl) rfl (Q9 (TF hos hds (x:=vu) rfl (Q9 (TF hos hds (x:=.none) rfl (RD ?_)))))));refine Q9 (slicePart_none ?_);show wpAny _ _ (if((1:Int)==0)=true then _ else _) _ _ s;rw[if_neg (by decide)];refine Q9 (sI pl (Q9 (sI pu (Q9 (RD ?_)))));show wpAny _ _ (match Builtin.Slice.sliceAdjust lo hi 1 (n:Int)with|(lo,hi)=>pure (lo,(1:Int),Builtin.Slice.slicePlaces lo hi 1)) _ _ s;rw[AX lo hi n];show wpAny _ _ (pure (((aK n 0 lo:Nat):Int),(1:Int),Builtin.Slice.slicePlaces ((aK n 0 lo:Nat):Int) ((aK n n hi:Nat):Int) 1)) _ _ s;rw[BE];exact RD h
def GO(xs:WB) (i k:Nat):((List.range k).filterMap λ(m:Nat)=>xs[((i:Int)+(m:Int)*1).toNat]?).toArray=((xs.toList.drop i).take k).toArray:=by
 have e:(λ(m:Nat)=>xs[((i:Int)+(m:Int)*1).toNat]?)=λm=>xs[i+m]?:=by
  funext m;have:((i:Int)+(m:Int)*1).toNat=i+m:=by lia
  rw[this]
 rw[e];have:=pick_run xs i k;rw[List.filterMap_map]at this;have e2:((λx=>xs[x]?)∘λx=>i+x)=λm=>xs[i+m]?:=rfl;rw[e2]at this;rw[this]
def qc{t sl:Addr}{items:WB}{vl vu:Value}{lo hi:Option Int}{Q:Vr}(ht:IsTup s.heap t items)(hs:s.heap.IsSliceOf sl vl vu .none)(pl:IsPart vl lo)(pu:IsPart vu hi)(hw:¬(aK items.size 0 lo=0/\aK items.size items.size hi=items.size))(h:Q (.ref s.heap.objs.size) { s with heap:=s.heap.push { cls:=.type "tuple",data:=.seq ((items.toList.drop (aK items.size 0 lo)).take (aK items.size items.size hi-aK items.size 0 lo)).toArray } })(hsz:items.size<=sizeLine):wpAny (model prog w) A (getItem (.ref t) (.ref sl)) Q E s:=by
 have htake:sizeOk (.seq ((items.toList.drop (aK items.size 0 lo)).take (aK items.size items.size hi-aK items.size 0 lo)).toArray):=by show((items.toList.drop (aK items.size 0 lo)).take (aK items.size items.size hi-aK items.size 0 lo)).toArray.size<=sizeLine;rw[RQ,SQ,SG,T8];exact Ri (VJ _ _) (Ri (Nat.sub_le _ _) hsz)
 have hj:aK items.size items.size hi<=items.size:=Mh _ _ (RB _) hi;obtain⟨os,hos,hcs,hds⟩:=id hs;have hTs:s.TypeIs (.ref sl) "slice":=⟨os,hos,hcs⟩;unfold getItem;try with_reducible refine Sj ?_
 first|refine Q9 (RD ?_)|skip
 refine Q9 (wpAny_sequenceKey ht.typeIs (by decide) ?_);refine Q9 (Ul (name:=Str.ofString "__getitem__") ht.typeIs Um
  (TH Um ht.typeIs entry_tuple_getitem ?_ (args_tuple_getitem _ _)))
 show wpAny _ _ (Builtin.Tuple.tupleItemsOf (.ref t)>>=_) _ _ s;refine Q9 (tupleItemsOf_ ht ?_);refine Q9 (UN hTs ?_);rw[if_pos (by decide)];refine Q9 (jX hs pl pu ?_);have hno:¬((((aK items.size 0 lo:Nat):Int)==0&&(1:Int)==1&&(aK items.size items.size hi-aK items.size 0 lo)==items.size)=true):=by intro q;rw[RJ,RJ]at q;have q1:((aK items.size 0 lo:Nat):Int)=0:=Te q.1.1;have q2:aK items.size items.size hi-aK items.size 0 lo=items.size:=Te q.2;exact hw ⟨by lia,by lia⟩
 show wpAny _ _ (if(((aK items.size 0 lo:Nat):Int)==0&&(1:Int)==1&&(aK items.size items.size hi-aK items.size 0 lo)==items.size)=true then _ else _) _ _ s;rw[if_neg hno,GO];first
  |exact Q9 (m:=Builtin.Tuple.tupleExact _) (Sl (RD ⟨_,rfl,RD h⟩) htake)
  |exact Q9 (m:=Builtin.Tuple.tupleExact _) (Sl (Q9 (RD (RD ⟨_,rfl,RD h⟩))) htake)
  |exact Q9 (Q9 (m:=Builtin.Tuple.tupleExact _) (Sl (RD (RD ⟨_,rfl,RD h⟩)) htake))
  |exact Q9 (Q9 (m:=Builtin.Tuple.tupleExact _) (Sl (RD ⟨_,rfl,RD h⟩) htake))
end
end HT
namespace L2
open PySem PySem.Spec PyProof.Rows
noncomputable abbrev TO:=St->Hp->(Option Int->Hp->Prop)->Prop
noncomputable def PO (X:Cx)(e:Option Expr)(t:TO):Prop:=
 ∀(pins:Vu)(s:Shared)(U:St)(H:Hp)(Q:Option Int->Hp->Prop),Inv X pins U H s->t U H Q->
  wpAny (model X.prog X.w) X.A (evalPart e X.env) (λu s'=>∃o H',Inv X pins U H' s'/\IsPart u o/\Q o H') X.xe s
noncomputable def Jj:TO:=λ_ H Q=>Q none H
noncomputable def N2 (t:TE):TO:=λU H Q=>t U H λx H1=>∃i,x=.int i/\Q (some i) H1
section
variable{X:Cx}{e:Expr}{te:TE}{lo hi:Option Expr}{tl th:TO}{pos p2:Pos}
def z8:PO X none Jj:=by intro pins s U H Q I h;rw[evalPart_none];exact RD ⟨none,H,I,.none,h⟩
def yU(h:PE X e te):PO X (some e) (N2 te):=by intro pins s U H Q I hw;rw[evalPart_some];refine aO (h pins s U H _ I hw) λu s1 ⟨x,H1,I1,r1,q1⟩=>?_;obtain⟨i,rfl,q⟩:=q1;obtain⟨t,rfl⟩:=r1;exact⟨some i,H1,I1,.int i t,q⟩
noncomputable def EM (X:Cx)(r:V->Option Int->Option Int->Hp->VK->Prop):Prop:=
 ∀(pins:Vu)(s:Shared)(U:St)(H:Hp) (x:V)(v vl vu:Value)(lo hi:Option Int)(sl:Addr)(Q:VK),Inv X pins U H s->RelV x v->s.heap.IsSliceOf sl vl vu .none->IsPart vl lo->IsPart vu hi->r x lo hi H Q->
  ∃T id,typeLookup (.type T) "__getitem__"=pure (some (.builtin id))/\s.TypeIs v T/\wpAny (model X.prog X.w) X.A (getItem v (.ref sl)) (EP X pins U Q) X.xe s
noncomputable def Qm (r:V->Option Int->Option Int->Hp->VK->Prop)(te:TE)(tl th:TO):TE:=λU H Q=>te U H λx H1=>tl U H1 λl H2=>th U H2 λu H3=>r x l u H3 Q
def wI{r:V->Option Int->Option Int->Hp->VK->Prop}(hr:EM X r)(he:PE X e te)(hl:PO X lo tl)(hu:PO X hi th):PE X (.Subscript e (.Slice lo hi none p2) pos) (Qm r te tl th):=by intro pins s U H Q I h;refine Subscript_ (aO (he pins s U H _ I h) λv s1 ⟨x,H1,I1,r1,q1⟩=>?_);refine wpAny_Slice (aO (hl pins s1 U H1 _ I1 q1) λvl s2 ⟨l,H2,I2,pl,q2⟩=>aO (hu pins s2 U H2 _ I2 q2) λvu s3 ⟨u,H3,I3,pu,q3⟩=>?_);rw[evalPart_none];refine RD ?_;have I4:Inv X pins U H3 { s3 with heap:=s3.heap.push { cls:=.type "slice",data:=.fields #[vl,vu,.none] } }:=I3.kept (t':=s3.toks) λb ob q=>Ra _ q;obtain⟨T,id,hT,ht,hg⟩:=hr pins { s3 with heap:=s3.heap.push { cls:=.type "slice",data:=.fields #[vl,vu,.none] } } U H3 x v vl vu l u s3.heap.objs.size Q I4 r1 (Heap.IsSliceOf.new ..) pl pu q3;show wpAny (model X.prog X.w) X.A (subscriptTail e (.Slice lo hi none p2) v (.ref s3.heap.objs.size)) (EP X pins U Q) X.xe { s3 with heap:=s3.heap.push { cls:=.type "slice",data:=.fields #[vl,vu,.none] } };exact tail_any (ops:=[.ref s3.heap.objs.size,v]) ht hT hg (by with_unfolding_all rfl)
noncomputable def m6 (xs:List V)(lo hi:Option Int):List V:=(xs.drop (HT.aK xs.length 0 lo)).take (HT.aK xs.length xs.length hi-HT.aK xs.length 0 lo)
def qq(xs:List V)(lo hi:Option Int):(m6 xs lo hi).length<=xs.length:=by unfold m6;rw[SQ,SG];exact Ri (VJ _ _) (Nat.sub_le _ _)
noncomputable def PY (K:Vz):V->Option Int->Option Int->Hp->VK->Prop:=λx lo hi H Q=>∃a xs,x=.ref a/\bM K H a xs /\
 ¬(HT.aK xs.length 0 lo=0/\HT.aK xs.length xs.length hi=xs.length)/\∀p,H p=none->Q (.ref p) (upd H p (.tup (m6 xs lo hi)))
def Ms:EM X (PY X.K):=by
 intro pins s U H x v vl vu lo hi sl Q I rx hs pl pu h;obtain⟨a,xs,rfl,hx,hw,q⟩:=h;cases rx;obtain⟨its,r,ht,hz⟩:=I.tuple hx;have hlen:its.toArray.size=xs.length:=by rw[RQ];exact r.length.symm
 refine⟨"tuple",_,Vl,ht.typeIs,?_⟩;refine HT.qc ht hs pl pu (by rw[hlen];exact hw) ?_ (by rw[hlen];exact hz);rw[hlen];refine⟨.ref s.heap.objs.size,_,I.laid (t':=s.toks) (o:=.tup (m6 xs lo hi)) (λb ob q=>Ra _ q) (RB _) ?_,rfl,q _ (I.hok.fresh (RB _))⟩;exact⟨Ri (qq xs lo hi) hz,_,(r.drop (HT.aK xs.length 0 lo)).take (HT.aK xs.length xs.length hi-HT.aK xs.length 0 lo),IsTup.new _ _⟩
noncomputable def Ia (K:Vz):R2:=λx y H Q=>∃a b xs ys,x=.ref a/\y=.ref b/\bM K H a xs/\bM K H b ys/\xs≠[]/\xs.length+ys.length<=sizeLine /\
 (ys=[]->Q (.ref a) H)/\(ys≠[]->∀p,H p=none->Q (.ref p) (upd H p (.tup (xs++ys))))
def Vals.tN{xs:List V}{us:WH}(r:Vals xs us):us=[]↔xs=[]:=by
 cases r with
 |nil=>simp
 |cons _ _=>simp
def IV:bw X (binaryOp .Add) (Ia X.K):=by intro pins s U H x y v u Q I rx ry h;obtain⟨a,b,xs,ys,rfl,rfl,ha,hb,hx,hz,q1,q2⟩:=h;cases rx;cases ry;obtain⟨its,r1,p1,_⟩:=I.tuple ha;obtain⟨its2,r2,p2,_⟩:=I.tuple hb;refine HT.JF p1 p2 (λz=>hx (r1.tN.mp z)) (λz=>⟨.ref a,H,I,rfl,q1 (r2.tN.mp z)⟩) (λz=>?_) (by rw[<-r1.length,<-r2.length];exact hz);refine⟨.ref s.heap.objs.size,_,I.laid (t':=s.toks) (o:=.tup (xs++ys)) (λb ob q=>Ra _ q) (RB _) ?_,rfl,q2 (λw=>z (r2.tN.mpr w)) _ (I.hok.fresh (RB _))⟩;exact⟨by rw[RM];exact hz,_,r1.append r2,IsTup.new _ _⟩
end
noncomputable def ly (n:Nat) (i:Int):Option Nat:=if 0<=i then(if i<n then some i.toNat else none)else if-(n:Int)<=i then some (i+n).toNat else none
noncomputable def cY {α:Type}(xs:List α) (i:Int):Option α:=(ly xs.length i).bind λj=>xs[j]?
def zA{n:Nat}{i:Int}{j:Nat}(h:ly n i=some j):seqIndex? i n=some j/\j<n/\-(n:Int)<=i/\i<n:=by unfold ly at h;by_cases h0:0<=i;{rw[if_pos h0]at h;by_cases h1:i<n;{rw[if_pos h1]at h;have e:i.toNat=j:=Option.some.inj h;exact⟨by rw[seqIndex_of h0 h1,e],by lia,by lia,h1⟩};rw[if_neg h1]at h;cases h};rw[if_neg h0]at h;by_cases h1:-(n:Int)<=i;{rw[if_pos h1]at h;have e:(i+n).toNat=j:=Option.some.inj h;exact⟨by rw[seqIndex_neg (by lia) h1,e],by lia,h1,by lia⟩};rw[if_neg h1]at h;cases h
def uw{α:Type}{xs:List α}{i:Int}{v:α}(h:cY xs i=some v):∃j,seqIndex? i xs.length=some j/\xs[j]?=some v/\j<xs.length/\-(xs.length:Int)<=i/\i<xs.length:=by
 unfold cY at h;cases e:ly xs.length i with
 |none=>rw[e]at h;cases h
 |some j=>rw[e]at h;obtain⟨h1,h2,h3,h4⟩:=zA e;exact⟨j,h1,h,h2,h3,h4⟩
noncomputable def lW (b:Expr):Prop:=∀o i,subscripted b false o i=operate [o,i] (getItem o i)
noncomputable def nY (X:Cx)(r:R2):Prop:=
 ∀(value slice:Expr)(pins:Vu)(s:Shared)(U:St)(H:Hp) (x y:V)(v u:Value)(Q:VK),Inv X pins U H s->RelV x v->RelV y u->r x y H Q->
  subscripted slice false v u=operate [v,u] (getItem v u)->wpAny (model X.prog X.w) X.A (subscriptTail value slice v u) (EP X pins U Q) X.xe s
noncomputable def Nf (X:Cx)(id:String)(r:V->List V->Hp->VK->Prop):Prop:=
 ∀(pins:Vu)(s:Shared)(U:St)(H:Hp) (x:V)(xs:List V)(v:Value)(us:WH)(Q:VK),Inv X pins U H s->RelV x v->Vals xs us->r x xs H Q->
  wpAny (model X.prog X.w) X.A (call (.builtin id) (v::us)) (EP X pins U Q) X.xe s
section
variable{X:Cx}{a b:Expr}{ta tb:TE}{pos:Pos}
def nY.or{r r':R2}(h:nY X r)(h':nY X r'):nY X (λx y H Q=>r x y H Q\/r' x y H Q):=by intro value slice pins s U H x y v u Q I rx ry q hs;rcases q with q|q;{exact h value slice pins s U H x y v u Q I rx ry q hs};exact h' value slice pins s U H x y v u Q I rx ry q hs
def Ik{r:R2}(hr:nY X r)(ha:PE X a ta)(hb:PE X b tb)(hs:lW b):PE X (.Subscript a b pos) (LZ r ta tb):=by intro pins s U H Q I h;exact Subscript_ (GH ha hb I h λv u s2 x y H2 I2 rx ry q=>hr a b pins s2 U H2 x y v u Q I2 rx ry q (hs _ _))
inductive HN(K:Vz) (x:V) (y:V)(H:Hp)(Q:VK):Prop
 |mk:∀p xs i v,(x=.ref p)->(y=.int i)->(bI K H p xs)->(cY xs i=some v)->(Q v H)->HN K x y H Q
noncomputable def MX (K:Vz):R2:=λx y H Q=>HN K x y H Q
inductive Ib(K:Vz) (x:V) (y:V)(H:Hp)(Q:VK):Prop
 |mk:∀p xs i v,(x=.ref p)->(y=.int i)->(bM K H p xs)->(cY xs i=some v)->(Q v H)->Ib K x y H Q
noncomputable def Mc (K:Vz):R2:=λx y H Q=>Ib K x y H Q
inductive Ho(x:V) (y:V)(H:Hp)(Q:VK):Prop
 |mk:∀z i c,(x=.str z)->(y=.int i)->(z.length<=sizeLine)->(cY z.cps.toList i=some c)->(Q (.str ⟨#[c]⟩) H)->Ho x y H Q
noncomputable def Mr:R2:=λx y H Q=>Ho x y H Q
def J5:nY X (MX X.K):=by
 intro value slice pins s U H x y v u Q I rx ry h hs;obtain⟨p,xs,i,z,rfl,rfl,hq,he,q⟩:=h;cases rx;obtain⟨t,rfl⟩:=ry;obtain⟨its,r,pl,hz⟩:=I.list hq;obtain⟨j,h1,h2,h3,h4,h5⟩:=uw he;obtain⟨w,ew,rw'⟩:=r.get h2;have hl:=r.length;have hn:=lX;have fin:EP X pins U Q w s:=⟨z,H,I,rw',q⟩;by_cases h0:0<=i
 .have hj:i.toNat=j:=by rw[seqIndex_of h0 h5]at h1;exact Option.some.inj h1
  exact item_listR pl.isList h0 (by lia) (by rw[hj];simpa using ew) fin hs
 have hj:(i+(its.toArray.size:Int)).toNat=j:=by rw[seqIndex_neg (by lia) h4]at h1;rw[RQ,<-hl];exact Option.some.inj h1
 exact subscriptTail_builtinR (x:=w) pl.isList.typeIs slot_list_getitem.lookup
  (wpAny_getItem_list_neg (Q:=λr s'=>r=w/\EP X pins U Q r s') pl.isList (by lia) (by rw[RQ]<;>lia) (by lia) (by rw[hj];simpa using ew) ⟨rfl,fin⟩) hs
def Mm:nY X (Mc X.K):=by
 intro value slice pins s U H x y v u Q I rx ry h hs;obtain⟨p,xs,i,z,rfl,rfl,hq,he,q⟩:=h;cases rx;obtain⟨t,rfl⟩:=ry;obtain⟨its,r,pl,hz⟩:=I.tuple hq;obtain⟨j,h1,h2,h3,h4,h5⟩:=uw he;obtain⟨w,ew,rw'⟩:=r.get h2;have hl:=r.length;have hn:=lX;have fin:EP X pins U Q w s:=⟨z,H,I,rw',q⟩;exact subscriptTail_builtinR (x:=w) pl.typeIs slot_tuple_getitem.lookup
  (getItem_tuple (j:=j) (Q:=λr s'=>r=w/\EP X pins U Q r s') pl (by lia) (by lia) (by rw[RQ,<-hl];exact h1) (by simpa using ew) ⟨rfl,fin⟩) hs
def Ky:nY X Mr:=by
 intro value slice pins s U H x y v u Q I rx ry h hs;obtain⟨z,i,c,rfl,rfl,hz,he,q⟩:=h;obtain⟨t,rfl⟩:=rx;obtain⟨t',rfl⟩:=ry;obtain⟨j,h1,h2,h3,h4,h5⟩:=uw he;have hl:z.cps.toList.length=z.length:=by simp[Str.length]
 rw[hl]at h1 h4 h5;have hn:=lX;exact tail_any (typeIs_str s z t) slot_str_getitem.lookup (getItem_str (c:=c) (by
  have e1:decide (i < -(2^63:Int))=false:=Ro (by lia)
  have e2:decide (i >= 2^63)=false:=Ro (by lia)
  rw[e1,e2,Bool.or_false]) (by rw[h1];simpa using h2) ⟨.str ⟨#[c]⟩,H,I.tok _,⟨_,rfl⟩,q⟩) hs
noncomputable def KZ (K:Vz):R2:=λx y H Q=>MX K x y H Q\/Mc K x y H Q\/Mr x y H Q
def C6:nY X (KZ X.K):=J5.or (Mm.or Ky)
def AR(its:WH) (n j:Nat)(u:Value):Obj.mapSeq (·.setIfInBounds j u) { cls:=.type "list",data:=.seq its.toArray n }={ cls:=.type "list",data:=.seq (its.set j u).toArray n }:=by simp[Obj.mapSeq]
theorem Inv.lst{pins:Vu}{U:St}{H:Hp}{s:Shared}{p:Addr}{xs:List V}(I:Inv X pins U H s)(h:H p=some (.lst xs)) : ∃(its:WH) (n:Nat),Vals xs its/\s.heap.get? p=some { cls:=.type "list",data:=.seq its.toArray n }/\xs.length<=sizeLine:=by obtain⟨z,its,n,r,e⟩:=I.hok p _ h;exact⟨its,n,r,e,z⟩
def Inv.Nb{pins:Vu}{U:St}{H:Hp}{s:Shared}{p:Addr}{xs ys:List V}{its its':WH}{n n':Nat}{f:Obj->Obj}(I:Inv X pins U H s)(h:H p=some (.lst xs))(ho:s.heap.get? p=some { cls:=.type "list",data:=.seq its.toArray n })(hf:f { cls:=.type "list",data:=.seq its.toArray n }={ cls:=.type "list",data:=.seq its'.toArray n' })(r:Vals ys its')(hz:ys.length<=sizeLine) (t:Nat) : Inv X pins U (upd H p (.lst ys)) { s with heap:=s.heap.update p f,toks:=t }:=by
 have e:(s.heap.update p f).get? p=some { cls:=.type "list",data:=.seq its'.toArray n' }:=by rw[U5 f ho (by rw[hf]<;>rfl),hf]
 refine I.write (x:=p) (e:=p) (by rw[h];trivial) (.inl rfl) (λb u hb q=>(Sf _ _ (Ne.symm hb)).trans q) ⟨_,e⟩ ?_;exact⟨hz,its',n',r,e⟩
inductive CW(o:V) (i:V) (v:V)(H:Hp)(Q:(Hp->Prop)):Prop
 |mk:∀p xs k j,(o=.ref p)->(i=.int k)->(H p=some (.lst xs))->(ly xs.length k=some j)->(Q (upd H p (.lst (xs.set j v))))->CW o i v H Q
noncomputable def G7:V->V->V->Hp->(Hp->Prop)->Prop:=λo i v H Q=>CW o i v H Q
def set_list:FU X G7:=by
 intro pins s U H o i v ov iv u Q I ro ri rv h;obtain⟨p,xs,k,j,rfl,rfl,hp,hj,q⟩:=h;cases ro;obtain⟨t,rfl⟩:=ri;obtain⟨its,n,r,ho,hz⟩:=I.lst hp;obtain⟨h1,h2,h3,h4⟩:=zA hj;have hl:=r.length;have hn:=lX;have I':Inv X pins U (upd H p (.lst (xs.set j v))) { s with heap:=s.heap.update p (Obj.mapSeq (·.setIfInBounds j u)) }:=
  I.Nb hp ho (AR its n j u) (r.set rv j) (by rw[Rf];exact hz) s.toks
 by_cases h0:0<=k
 .have hk:k.toNat=j:=by rw[seqIndex_of h0 h4]at h1;exact Option.some.inj h1
  exact PySem.W.ki_setAt ho h0 (by lia) (by rw[RQ,<-hl];exact h4) (by rw[hk];exact⟨_,I',q⟩)
 have hk:(k+(its.toArray.size:Int)).toNat=j:=by rw[seqIndex_neg (by lia) h3]at h1;rw[RQ,<-hl];exact Option.some.inj h1
 exact PySem.W.ki_setBack ho (by lia) (by rw[RQ,<-hl];exact h3) (by lia) (by rw[hk];exact⟨_,I',q⟩)
def yx(lo hi:Option Int) (n:Nat):(sliceBounds lo hi none n).1=((HT.aK n 0 lo:Nat):Int)/\(sliceBounds lo hi none n).2.1=((HT.aK n n hi:Nat):Int)/\(sliceBounds lo hi none n).2.2=1:=by
 have one:∀i:Int,(sliceBounds (some i) none none n).1=((HT.aK n 0 (some i):Nat):Int):=λi=>by simp only[sliceBounds,HT.aK,Option.getD_none,show(1:Int)>0 by decide,if_true];by_cases h:i<0;{simp only[h,if_true]<;>lia};simp only[h,So]<;>lia
 refine⟨?_,?_,rfl⟩
 .cases lo with
  |none=>simp[sliceBounds,HT.aK]
  |some i=>exact one i
 cases hi with
 |none=>simp[sliceBounds,HT.aK]
 |some i=>exact one i
def vA(its:WH)(lo hi:Option Int):slicePick its.toArray lo hi none=((its.drop (HT.aK its.length 0 lo)).take (HT.aK its.length its.length hi-HT.aK its.length 0 lo)).toArray:=by obtain⟨h1,h2,h3⟩:=yx lo hi its.toArray.size;unfold slicePick;rw[h1,h2,h3];simp only[sliceRange_one,pick_run,RQ]<;>rfl
inductive Hy(K:Vz) (x:V)(lo:Option Int)(hi:Option Int)(H:Hp)(Q:VK):Prop
 |mk:∀a xs,(x=.ref a)->(bI K H a xs)->(∀p,H p=none->Q (.ref p) (upd H p (.lst (m6 xs lo hi))))->Hy K x lo hi H Q
noncomputable def MG (K:Vz):V->Option Int->Option Int->Hp->VK->Prop:=λx lo hi H Q=>Hy K x lo hi H Q
def IX:EM X (MG X.K):=by intro pins s U H x v vl vu lo hi sl Q I rx hs pl pu h;obtain⟨a,xs,rfl,hx,q⟩:=h;cases rx;obtain⟨its,r,ht,hz⟩:=I.list hx;have hlen:=r.length;refine⟨"list",_,slot_list_getitem.lookup,ht.isList.typeIs,?_⟩;refine wpAny_getItem_list_slice ht.isList hs pl pu .none (by simp) ?_ (by rw[RQ]<;>lia);rw[vA,<-hlen];refine⟨.ref s.heap.objs.size,_,I.laid (t':=s.toks) (o:=.lst (m6 xs lo hi)) (λb ob q=>Ra _ q) (RB _) ?_,rfl,q _ (I.hok.fresh (RB _))⟩;exact⟨Ri (qq xs lo hi) hz,_,0,(r.drop (HT.aK xs.length 0 lo)).take (HT.aK xs.length xs.length hi-HT.aK xs.length 0 lo),Rx _ rfl⟩
def xJ:cu X (.builtin "len") (λxs H Q=>∃p ys,xs=[.ref p]/\(bI X.K H p ys\/bM X.K H p ys)/\Q (.int ys.length) H):=by intro pins s U H xs us Q I r h;obtain⟨p,ys,rfl,hq,q⟩:=h;obtain⟨u,rfl,rx⟩:=vals1 r;cases rx;have hn:=lX;rcases hq with hq|hq;{obtain⟨its,r',pl,hz⟩:=I.list hq;have hlen:=r'.length;exact Calls.call_len_list pl.isList (by simp only[RQ]<;>lia) ⟨.int ys.length,H,I.tok _,⟨s.toks+1,by rw[RQ,hlen]⟩,q⟩};obtain⟨its,r',pl,hz⟩:=I.tuple hq;have hlen:=r'.length;exact len_tuple pl (by simp only[RQ]<;>lia) ⟨.int ys.length,H,I.tok _,⟨s.toks+1,by rw[RQ,hlen]⟩,q⟩
def cu.or{f:Value}{r r':List V->Hp->VK->Prop}(h:cu X f r)(h':cu X f r'):cu X f (λxs H Q=>r xs H Q\/r' xs H Q):=by intro pins s U H xs us Q I rs q;rcases q with q|q;{exact h pins s U H xs us Q I rs q};exact h' pins s U H xs us Q I rs q
def wB:cu X (.type "list") (λxs H Q=>∃p ys,xs=[.ref p]/\(bI X.K H p ys\/bM X.K H p ys)/\∀l,H l=none->Q (.ref l) (upd H l (.lst ys))):=by
 intro pins s U H xs us Q I r h;obtain⟨p,ys,rfl,hq,q⟩:=h;obtain⟨u,rfl,rx⟩:=vals1 r;cases rx;have fin:∀(its:WH),Vals ys its->ys.length<=sizeLine->∀(h':Heap) (c':Nat),(∀b o',s.heap.get? b=some o'->h'.get? b=some o')->
   h'.get? s.heap.objs.size=some { cls:=.type "list",dict:=none,data:=.seq its.toArray c',slots:=#[] }->EP X pins U Q (.ref s.heap.objs.size) { s with heap:=h' }:=λits r' hz h' c' kp e=>
  ⟨.ref s.heap.objs.size,_,I.laid (t':=s.toks) kp (RB _) (show bE X.prog X.w _ h' _ (.lst ys)from⟨hz,its,c',r',e⟩),rfl,q _ (I.hok.fresh (RB _))⟩
 rcases hq with hq|hq;{obtain⟨its,r',pl,hz⟩:=I.list hq;have hlen:=r'.length;obtain⟨o,ho,hc,n,hd⟩:=pl.isList;exact call_list_seq p (.inl rfl) ho hc hd (λh' c' kp e=>fin its r' hz h' c' kp e) (by simp only[RQ]<;>lia)};obtain⟨its,r',pl,hz⟩:=I.tuple hq;have hlen:=r'.length;obtain⟨o,ho,hc,n,hd⟩:=pl;exact call_list_seq p (.inr rfl) ho hc hd (λh' c' kp e=>fin its r' hz h' c' kp e) (by simp only[RQ]<;>lia)
def n5:cu X (.type "tuple") (λxs H Q=>∃p ys,xs=[.ref p]/\((bI X.K H p ys/\∀l,H l=none->Q (.ref l) (upd H l (.tup ys)))\/(bM X.K H p ys/\Q (.ref p) H))):=by
 intro pins s U H xs us Q I r h;obtain⟨p,ys,rfl,h⟩:=h;obtain⟨u,rfl,rx⟩:=vals1 r;cases rx;rcases h with⟨hq,q⟩|⟨hq,q⟩
 .obtain⟨its,r',pl,hz⟩:=I.list hq;have hlen:=r'.length;refine call_tuple_list pl.isList (λh' kp=>?_) (by simp only[RQ]<;>lia);have I1:Inv X pins U H { s with heap:=h' }:=I.kept (t':=s.toks) kp;have I2:Inv X pins U (upd H h'.objs.size (.tup ys)) { s with heap:=h'.push { cls:=.type "tuple",data:=.seq its.toArray } }:=
   I1.laid (t':=s.toks) (λb o e=>Ra _ e) (RB _) (show bE X.prog X.w _ _ _ (.tup ys)from⟨hz,its,r',IsTup.new _ _⟩)
  exact⟨.ref h'.objs.size,_,I2,rfl,q _ (I1.hok.fresh (RB _))⟩
 obtain⟨its,r',pl,hz⟩:=I.tuple hq;exact call_tuple_same pl ⟨.ref p,H,I,rfl,q⟩
noncomputable def K1 (K:Vz)(T:String) (x:V)(H:Hp):Prop:=match x with
 |.str _=>T="str"
 |.int _=>T="int"
 |.ref p=>(T="list"/\∃xs,bI K H p xs)\/(T="tuple"/\∃o,K.lookup p=some o/\o.cls=.type "tuple"/\o.dict=none) \/
   (T="dict"/\((∃kvs,H p=some (.dK kvs))\/∃kvs,H p=some (.dT kvs)))\/(T="set"/\∃S n,H p=some (.set S n))
 |_=>False
def CG{pins:Vu}{U:St}{H:Hp}{s:Shared}{T:String}{x:V}{v:Value}(I:Inv X pins U H s)(r:RelV x v)(ty:K1 X.K T x H) : s.TypeIs v T/\∀a,v=.ref a->∃ob,s.heap.get? a=some ob/\ob.dict=none:=by
 cases x with
 |str z=>obtain⟨t,rfl⟩:=r;cases (show T="str" from ty);exact⟨typeIs_str s z t,λ_ e=>nomatch e⟩
 |int i=>obtain⟨t,rfl⟩:=r;cases (show T="int" from ty);exact⟨typeIs_int s i t,λ_ e=>nomatch e⟩
 |ref p=>
  cases r;rcases ty with⟨rfl,xs,hq⟩|⟨rfl,o,hk,hc,hd⟩|⟨rfl,hk⟩|⟨rfl,S,n,hk⟩;{obtain⟨its,_,pl,_⟩:=I.list hq;refine⟨pl.isList.typeIs,λa e=>?_⟩;cases e;obtain⟨o,n,e,c,hd,_⟩:=pl;exact⟨o,e,hd⟩};{refine⟨⟨o,I.gW p o hk,hc⟩,λa e=>?_⟩;cases e;exact⟨o,I.gW _ o hk,hd⟩}
  .have z:∃o,s.heap.get? p=some o/\o.ExactDict:=by rcases hk with⟨kvs,hk⟩|⟨kvs,hk⟩;{obtain⟨_,_,_,_,o,_,_,e,ex,_⟩:=I.hok p _ hk;exact⟨o,e,ex⟩};obtain⟨_,_,_,_,o,_,_,e,ex,_⟩:=I.hok p _ hk;exact⟨o,e,ex⟩
   obtain⟨o,e,ex⟩:=z;refine⟨⟨o,e,ex.1⟩,λa e2=>?_⟩;cases e2;exact⟨o,e,ex.2.1⟩
  obtain⟨o,_,_,_,e,ex,_⟩:=I.hok p _ hk;refine⟨⟨o,e,ex.1⟩,λa e2=>?_⟩;cases e2;exact⟨o,e,ex.2.1⟩
 |_=>exact False.elim ty
noncomputable def Qh (K:Vz)(T:String)(r:V->List V->Hp->VK->Prop)(to:TE):TE:=λU H Q=>to U H λx H1=>K1 K T x H1/\r x [] H1 Q
noncomputable def QG (K:Vz)(T:String)(r:V->List V->Hp->VK->Prop)(to:TE)(t:TA):TE:=λU H Q=>to U H λx H1=>K1 K T x H1/\t U H1 λxs H2=>r x xs H2 Q
variable{o e:Expr}{es:WK}{to:TE}{t:TA}{name:Str}{apos cpos:Pos}{T id:String}{r:V->List V->Hp->VK->Prop}
def Mi(pa:PlainAttrs T)(slot:Slot T name id)(hty:typeOf (.builtin id)=pure (.type "method_descriptor"))(hm:Nf X id r)(ho:PE X o to)(hbase:attributeBase o name X.env (eval o X.env)=eval o X.env:=by rfl)(hline:(apos.endLine==cpos.line)=true:=by rfl):PE X (.Call (.Attribute o name apos) [] [] cpos) (Qh X.K T r to):=by intro pins s U H Q I h;refine wpAny_Call_method0_late hbase hline (aO (ho pins s U H _ I h) λv s1 ⟨x,H1,I1,r1,ty,q1⟩=>?_);obtain⟨h1,h2⟩:=CG I1 r1 ty;exact⟨T,id,pa,slot,hty,h1,h2,VL rfl (PySem.evalArgs_none (hm pins s1 U H1 x [] v [] Q I1 r1 .nil q1))⟩
def BF(pa:PlainAttrs T)(slot:Slot T name id)(hty:typeOf (.builtin id)=pure (.type "method_descriptor"))(hm:Nf X id r)(ho:PE X o to)(ha:PA X (e::es) t)(hbase:attributeBase o name X.env (eval o X.env)=eval o X.env:=by rfl)(hfew:((backTo cpos (starEach (e::es) X.env)).all (λx=>!x.1)&&(backToKw cpos (keywordEach [] X.env)).all (λx=>x.1.isSome) && decide ((e::es).length+([]:List Keyword).length+(if([]:List Keyword).isEmpty then 0 else 1)<30))=true:=by rfl)(hline:(apos.endLine==cpos.line)=true:=by rfl)(hs:starEach (e::es) X.env=(false,eval e X.env)::starEach es X.env:=by rfl)(hplain:(backTo cpos (starEach es X.env)).any (·.1)=false:=by rfl) : PE X (.Call (.Attribute o name apos) (e::es) [] cpos) (QG X.K T r to t):=by intro pins s U H Q I h;refine wpAny_Call_method_late hbase hfew hline rfl (aO (ho pins s U H _ I h) λv s1 ⟨x,H1,I1,r1,ty,q1⟩=>?_);obtain⟨h1,h2⟩:=CG I1 r1 ty;refine⟨T,id,pa,slot,hty,h1,h2,?_⟩;have hA:=ha cpos pins s1 U H1 _ I1 q1;rw[hs]at hA⊢;refine VL (by show(false||(backTo cpos (starEach es X.env)).any (·.1))=false;rw[hplain]<;>rfl) (Calls.evalArgs_plain ?_);exact aO hA λus s2 ⟨vs,H2,I2,r2,q2⟩=>hm pins s2 U H2 x vs v us Q I2 r1 r2 q2
end
noncomputable def uI (X:Cx)(id:String)(r:V->List V->Hp->VK->Prop):Prop:=
 ∀(pins:Vu)(s:Shared)(U:St)(H:Hp) (x:V)(xs:List V)(v:Value)(us:WH)(Q:VK),Inv X pins U H s->RelV x v->Vals xs us->r x xs H Q->
  wpAny (model X.prog X.w) X.A (call (.builtin id) (v::us)) (EP X pins U Q) X.xe s
def Vals.one{x:V}{us:WH}(h:Vals [x] us):∃u,us=[u]/\RelV x u:=by cases h with|cons r t=>cases t;exact⟨_,rfl,r⟩
def Vals.two{x y:V}{us:WH}(h:Vals [x,y] us):∃u v,us=[u,v]/\RelV x u/\RelV y v:=by cases h with|cons r t=>cases t with|cons q t=>cases t;exact⟨_,_,rfl,r,q⟩
theorem Vals.rep{xs:List V}{us:WH}(h:Vals xs us):∀k:Nat,Vals (List.replicate k xs).flatten (List.replicate k us).flatten
 |0=>.nil
 |k+1=>by rw[Ss,Ss,Tf,Tf];exact Vals.append h (Vals.rep h k)
theorem foldl_rep(its:WH):∀(k:Nat)(acc:WH), List.foldl (λx1 x2=>x1++x2) acc.toArray (List.replicate k its.toArray)=(acc++(List.replicate k its).flatten).toArray
 |0,acc=>by simp
 |k+1,acc=>by
  have e:acc.toArray++its.toArray=(acc++its).toArray:=by simp
  have e2:(acc++its)++(List.replicate k its).flatten=acc++(List.replicate (k+1) its).flatten:=by rw[Ss,Tf,Rk]
  rw[<-e2,<-foldl_rep its k (acc++its),<-e,Ss,List.foldl_cons]
section
variable{X:Cx}{pins:Vu}{U:St}{H:Hp}{s:Shared}{l b:Addr}{xs ys zs:List V}
def Inv.yg{its its':WH}{n:Nat}{f:WB->WB}{t':Nat}(I:Inv X pins U H s)(hH:H l=some (.lst xs))(e:s.heap.get? l=some { cls:=.type "list",data:=.seq its.toArray n })(hf:f its.toArray=its'.toArray)(hv:Vals ys its')(hz:ys.length<=sizeLine) : Inv X pins U (upd H l (.lst ys)) { s with heap:=s.heap.update l (Obj.mapSeq f),toks:=t' }:=by have q:=PySem.IsL.update e f;rw[hf]at q;refine I.write (x:=l) (e:=l) (by rw[hH];exact trivial) (.inl rfl) (λb' u hb hu=>(Sf s.heap (Obj.mapSeq f) (Ne.symm hb)).trans hu) ⟨_,q⟩ ?_;exact⟨hz,its',_,hv,q⟩
def Inv.Mu{its:WH}{t':Nat}(I:Inv X pins U H s)(hv:Vals ys its)(hz:ys.length<=sizeLine) : Inv X pins U (upd H s.heap.objs.size (.lst ys)) { s with heap:=s.heap.push { cls:=.type "list",data:=.seq its.toArray },toks:=t' }:=
 I.laid (λ_ _ q=>Ra _ q) (RB _) ⟨hz,its,0,hv,Rx _ rfl⟩
theorem Inv.fresh(I:Inv X pins U H s):H s.heap.objs.size=none:=I.hok.fresh (RB _)
def Inv.vY(I:Inv X pins U H s)(hH:H l=some (.lst xs)):xs.length<=sizeLine/\∃(its:WH) (n:Nat),Vals xs its/\xs.length=its.length/\s.heap.get? l=some { cls:=.type "list",data:=.seq its.toArray n }:=by obtain⟨z,its,n,r,e⟩:=I.hok l _ hH;exact⟨z,its,n,r,r.length,e⟩
def nC{n:Nat}(h:n<=sizeLine):Builtin.List.listTooLong n=false:=by unfold Builtin.List.listTooLong;exact Ro (by lia)
end
section
variable{X:Cx}
noncomputable def zk:V->List V->Hp->VK->Prop:=λx vs H Q=>∃l xs y,x=.ref l/\vs=[y]/\H l=some (.lst xs)/\xs.length<sizeLine/\Q .bg (upd H l (.lst (xs++[y])))
def cG:uI X "list.append" zk:=by intro pins s U H x vs v us Q I rx rv h;obtain⟨l,xs,y,rfl,rfl,hH,hz,q⟩:=h;cases rx;obtain⟨u,rfl,ru⟩:=rv.one;obtain⟨z,its,n,r,hl,e⟩:=I.vY hH;refine Ti F.slot_list_append ⟨_,e,rfl⟩ F.entry_list_append (F.args_list_append_2 _ _) (PySem.list_append l its.toArray n u (by rw[RQ];lia)) ⟨e,?_⟩;refine⟨.bg,_,I.yg (its':=its++[u]) hH e (by simp) (r.append (.cons ru .nil)) ?_,rfl,q⟩;rw[RM,List.length_singleton];lia
def len_rep{α:Type}(xs:List α) (k:Nat):(List.replicate k xs).flatten.length=k*xs.length:=by
 induction k with
 |zero=>simp
 |succ k ih=>rw[Ss,Tf,RM,ih,Nat.succ_mul,Nat.add_comm]
end
section
variable{κ:Type} [DecidableEq κ]
noncomputable def cC (kvs:List (κ×V))(k:κ):Option V:=(kvs.find? λkv=>decide (kv.1=k)).map (·.2)
noncomputable def putK (kvs:List (κ×V))(k:κ) (v:V):List (κ×V):=
 if(kvs.any λkv=>decide (kv.1=k))=true then kvs.map (λkv=>if kv.1=k then(kv.1,v)else kv)else kvs++[(k,v)]
def qQ{p:κ×V}{r:List (κ×V)}{k:κ}(e:p.1=k):cC (p::r) k=some p.2:=by simp[cC,U6,e]
def qX{p:κ×V}{r:List (κ×V)}{k:κ}(e:¬p.1=k):cC (p::r) k=cC r k:=by simp[cC,U6,e]
theorem rE(k:κ):∀kvs:List (κ×V),(kvs.any λkv=>decide (kv.1=k))=(cC kvs k).isSome
 |[]=>rfl
 |p::r=>by rw[Tj];by_cases e:p.1=k;{simp only[qQ e,Rv e,Bool.true_or,Option.isSome_some]};rw[qX e,Ro e,Bool.false_or];exact rE k r
def qe(kvs:List (κ×V))(k:κ) (v:V):(putK kvs k v).length<=kvs.length+1:=by unfold putK;split;{rw[RA];lia};rw[RM,RT,S5];lia
def jt.eZ{o:Option V}{u:WA}(r:jt o u):o.isSome=u.isSome:=by
 cases o with
 |none=>cases u with
  |none=>rfl
  |some _=>exact(show False from r).elim
 |some _=>cases u with
  |none=>exact(show False from r).elim
  |some _=>rfl
def KV.val{kvs:List (κ×V)}{vs:List (κ×Value)}(r:KV kvs vs)(k:κ):jt (cC kvs k) (valueAt vs k):=by
 unfold KV at r;induction r with
 |nil=>exact Sk
 |@cons p q ps qs h t ih=>
  obtain⟨h1,h2⟩:=h;by_cases e:p.1=k
  .have e':q.1=k:=h1.symm.trans e;have b:valueAt (q::qs) k=some q.2:=by simp[valueAt,U6,e']
   rw[qQ e,b];exact h2
  have e':¬q.1=k:=λz=>e (h1.trans z);have b:valueAt (q::qs) k=valueAt qs k:=by simp[valueAt,U6,e']
  rw[qX e,b];exact ih
theorem KV.any{kvs:List (κ×V)}{vs:List (κ×Value)}(r:KV kvs vs)(k:κ):(kvs.any λkv=>decide (kv.1=k))=vs.any λkv=>decide (kv.1=k):=by
 unfold KV at r;induction r with
 |nil=>rfl
 |cons h t ih=>rw[Tj,Tj,ih,h.1]
def KV.repl{kvs:List (κ×V)}{vs:List (κ×Value)}(r:KV kvs vs)(k:κ){y:V}{u:Value}(ry:RelV y u) : KV (kvs.map λkv=>if kv.1=k then(kv.1,y)else kv) (vs.map λkv=>if kv.1=k then(kv.1,u)else kv):=by
 unfold KV at r⊢;induction r with
 |nil=>exact .nil
 |@cons p q ps qs h t ih=>rw[Rh,Rh];refine .cons ?_ ih;obtain⟨h1,h2⟩:=h;by_cases e:p.1=k;{rw[if_pos e,if_pos (h1.symm.trans e)];exact⟨h1,ry⟩};rw[if_neg e,if_neg (λz=>e (h1.trans z))];exact⟨h1,h2⟩
def KV.put{kvs:List (κ×V)}{vs:List (κ×Value)}(r:KV kvs vs)(k:κ){y:V}{u:Value}(ry:RelV y u):KV (putK kvs k y) (stored vs k u):=by unfold putK stored;rw[r.any k];by_cases e:(vs.any λkv=>decide (kv.1=k))=true;{rw[if_pos e,if_pos e];exact r.repl k ry};rw[if_neg e,if_neg e];exact Paired.snoc r ⟨rfl,ry⟩
theorem KV.length{kvs:List (κ×V)}{vs:List (κ×Value)}(r:KV kvs vs):kvs.length=vs.length:=Paired.length r
end
def rW{P:Program}{w:World}{k:Key}{u:Value}(r:RelV (kV k) u):(cP P w).is k u=true:=by
 cases k with
 |inl i=>obtain⟨t,e⟩:=(show ∃t,u=Value.int i t from r);subst e;exact yN P w i t
 |inr x=>obtain⟨t,e⟩:=(show ∃t,u=Value.str x t from r);subst e;exact yF P w x t
theorem uM{P:Program}{w:World}:∀{ks:List Key}{us:WH},Vals (ks.map kV) us->ItemsAre (cP P w) ks us
 |[],_,r=>by rw[List.map_nil]at r;cases r;exact .nil
 |k::ks,_,r=>by
  rw[Rh]at r;cases r with
  |cons h t=>exact .cons (rW h) (uM t)
noncomputable abbrev KT (H:Hp):List (List Key×V)->List (List Key×Addr×Value)->Prop:=Paired λp q=>p.1=q.1/\H q.2.1=some (.tup (p.1.map kV))/\RelV p.2 q.2.2
def KT.val{H:Hp}{kvs:List (List Key×V)}{xs:List (List Key×Addr×Value)}(r:KT H kvs xs)(k:List Key):jt (cC kvs k) ((atKey xs k).map (·.2)):=by
 induction r with
 |nil=>exact Sk
 |@cons p q ps qs h t ih=>
  obtain⟨h1,_,h2⟩:=h;by_cases e:p.1=k
  .have e':q.1=k:=h1.symm.trans e;have b:atKey (q::qs) k=some q.2:=by simp[atKey,U6,e']
   rw[qQ e,b];exact h2
  have e':¬q.1=k:=λz=>e (h1.trans z);have b:atKey (q::qs) k=atKey qs k:=by simp[atKey,U6,e']
  rw[qX e,b];exact ih
def KT.repl{H:Hp}{kvs:List (List Key×V)}{xs:List (List Key×Addr×Value)}(r:KT H kvs xs)(k:List Key){y:V}{u:Value}(ry:RelV y u) : KT H (kvs.map λkv=>if kv.1=k then(kv.1,y)else kv) (xs.map (putAt k u)):=by
 induction r with
 |nil=>exact .nil
 |@cons p q ps qs h t ih=>rw[Rh,Rh];refine .cons ?_ ih;obtain⟨h1,h2,h3⟩:=h;unfold putAt;by_cases e:p.1=k;{rw[if_pos e,if_pos (h1.symm.trans e)];exact⟨h1,h2,ry⟩};rw[if_neg e,if_neg (λz=>e (h1.trans z))];exact⟨h1,h2,h3⟩
def KT.put{H:Hp}{kvs:List (List Key×V)}{xs:List (List Key×Addr×Value)}(r:KT H kvs xs)(k:List Key){b:Addr}{y:V}{u:Value}(hb:H b=some (.tup (k.map kV)))(ry:RelV y u) : KT H (putK kvs k y) (storedH xs k b u):=by
 have e:(kvs.any λkv=>decide (kv.1=k))=(atKey xs k).isSome:=by rw[rE,(r.val k).eZ,VM]
 unfold putK storedH;rw[e];by_cases q:(atKey xs k).isSome=true;{rw[if_pos q,if_pos q];exact r.repl k ry};rw[if_neg q,if_neg q];exact Paired.snoc r ⟨rfl,hb,ry⟩
def KT.keeps{H H':Hp}{kvs:List (List Key×V)}{xs:List (List Key×Addr×Value)}(r:KT H kvs xs)(ht:∀b ys,H b=some (.tup ys)->H' b=some (.tup ys)):KT H' kvs xs:=
 Paired.Ft r λ_ _ z=>⟨z.1,ht _ _ z.2.1,z.2.2⟩
section
variable{P:Program}{w:World}{H:Hp}{h:Heap}{a:Addr}
def G5{u:HO}(ok:cS P w H h)(e:Rd H a u):bE P w H h a u:=e.ok ok
def pY{kvs:List (Key×V)}(ok:cS P w H h)(e:Rd H a (.dK kvs)):kvs.length<=sizeLine/\(a==sysModules)=false/\∃vs,KV kvs vs/\h.DictOf (cP P w) a vs:=
 show bE P w H h a (.dK kvs)from G5 ok e
def Oa{kvs:List (Key×V)}(ok:cS P w H h)(e:H a=some (.dK kvs)):kvs.length<=sizeLine/\(a==sysModules)=false/\∃vs,KV kvs vs/\h.DictOf (cP P w) a vs:=pY ok (.inl e)
def lU{ks:List Key}(ok:cS P w H h)(e:H a=some (.tup (ks.map kV))):(tupleKind (cP P w)).is h ks a:=by obtain⟨_,its,r,o,h1,h2,n,h3⟩:=(show bE P w H h a (.tup (ks.map kV))from ok a _ e);exact⟨o,its.toArray,n,h1,h2,h3,by simpa using uM r⟩
def rT{kvs:List (List Key×V)}(ok:cS P w H h)(e:Rd H a (.dT kvs)):kvs.length<=sizeLine/\(a==sysModules)=false /\ ∃xs,KT H kvs xs/\h.DictOfH (tupleKind (cP P w)) a xs:=by
 obtain⟨z,y,xs,r,o,es,ep,h1,h2,h3,h4,h5⟩:=(show bE P w H h a (.dT kvs)from G5 ok e);refine⟨z,y,xs,r,o,es,ep,h1,h2,h3,h4,λx hx=>?_,h5⟩;have all:∀{l:List (List Key×V)}{m:List (List Key×Addr×Value)},KT H l m->∀x∈m,(tupleKind (cP P w)).is h x.1 x.2.1:=by
  intro l m q;induction q with
  |nil=>intro x hx;exact nomatch hx
  |@cons p q ps qs hq t ih=>intro x hx;rcases RP.mp hx with e|hx;{subst e;exact lU ok (by rw[<-hq.1];exact hq.2.1)};exact ih x hx
 exact all r x hx
def HJ{kvs:List (List Key×V)}(ok:cS P w H h)(e:H a=some (.dT kvs)):kvs.length<=sizeLine/\(a==sysModules)=false /\ ∃xs,KT H kvs xs/\h.DictOfH (tupleKind (cP P w)) a xs:=rT ok (.inl e)
end
noncomputable def ic (H:Hp)(a:Addr) (y:V)(r:Option V):Prop:=
 (∃kvs k,Rd H a (.dK kvs)/\y=kV k/\r=cC kvs k)\/∃kvs k b,Rd H a (.dT kvs)/\y=.ref b/\H b=some (.tup (k.map kV))/\r=cC kvs k
noncomputable def pK (H:Hp)(a:Addr) (y v:V)(H':Hp):Prop:=
 (∃kvs k,H a=some (.dK kvs)/\y=kV k/\kvs.length<sizeLine/\H'=upd H a (.dK (putK kvs k v))) \/
 ∃kvs k b,H a=some (.dT kvs)/\y=.ref b/\H b=some (.tup (k.map kV))/\kvs.length<sizeLine/\H'=upd H a (.dT (putK kvs k v))
theorem ic.k{H:Hp}{a:Addr}{kvs:List (Key×V)}{k:Key}(e:H a=some (.dK kvs)):ic H a (kV k) (cC kvs k):=.inl ⟨kvs,k,.inl e,rfl,rfl⟩
def ic.t{H:Hp}{a b:Addr}{kvs:List (List Key×V)}{k:List Key}(e:H a=some (.dT kvs))(eb:H b=some (.tup (k.map kV))):ic H a (.ref b) (cC kvs k):=.inr ⟨kvs,k,b,.inl e,rfl,eb,rfl⟩
theorem pK.k{H:Hp}{a:Addr}{kvs:List (Key×V)}{k:Key}{v:V}(e:H a=some (.dK kvs))(hl:kvs.length<sizeLine):pK H a (kV k) v (upd H a (.dK (putK kvs k v))):=.inl ⟨kvs,k,e,rfl,hl,rfl⟩
def pK.t{H:Hp}{a b:Addr}{kvs:List (List Key×V)}{k:List Key}{v:V}(e:H a=some (.dT kvs))(eb:H b=some (.tup (k.map kV)))(hl:kvs.length<sizeLine) : pK H a (.ref b) v (upd H a (.dT (putK kvs k v))):=.inr ⟨kvs,k,b,e,rfl,eb,hl,rfl⟩
section
variable{X:Cx}{pins:Vu}{U:St}{H:Hp}{s:Shared}{a:Addr}{y v:V}{u r:Value}{o:Option V}{A:Around}{E:Vr}
def Inv.big(I:Inv X pins U H s):sysModules<s.heap.objs.size:=by have h:mainGlobals<s.heap.objs.size:=(I.mod.glob.keeps I.bk).lt;exact Nat.lt_trans (by decide) h
def EC{Q:Vr}(hu:A.units+1<cLine)(I:Inv X pins U H s)(g:ic H a y (some v))(ry:RelV y u)(h:∀w' s',Inv X pins U H s'->RelV v w'->Q w' s') : wpAny (model X.prog X.w) A (getItem (.ref a) u) Q E s:=by rcases g with⟨kvs,k,e,ey,l⟩|⟨kvs,k,b,e,ey,eb,l⟩;{subst ey;obtain⟨z,hd,vs,rel,dd⟩:=pY I.hok e;obtain⟨w',hw,rw'⟩:=jt.some_of (v:=v) (o:=valueAt vs k) (by rw[l];exact rel.val k);exact wpAny_getItem_of (rW ry) dd.mapOf hw (h w' _ (I.tok _) rw')};subst ey;cases (show u=Value.ref b from ry);obtain⟨z,hd,xs,rel,dd⟩:=rT I.hok e;obtain⟨w',hw,rw'⟩:=jt.some_of (v:=v) (o:=(atKey xs k).map (·.2)) (by rw[l];exact rel.val k);obtain⟨p,hp,hp2⟩:=TJ.mp hw;refine wpAny_getItem_heap (UO hu) (lU I.hok eb) dd hp ?_;rw[hp2];exact h w' _ (I.tok _) rw'
def Pe{Q:Vr}(hu:A.units+1<cLine)(I:Inv X pins U H s)(g:ic H a y o)(ry:RelV y u)(h:∀s',Inv X pins U H s'->Q (.bool o.isSome) s') : wpAny (model X.prog X.w) A (compareOp .In u (.ref a)) Q E s:=by rcases g with⟨kvs,k,e,ey,l⟩|⟨kvs,k,b,e,ey,eb,l⟩;{subst ey;obtain⟨z,hd,vs,rel,dd⟩:=pY I.hok e;refine wpAny_in_of (rW ry) hd dd.mapOf ?_;rw[<-(rel.val k).eZ,<-l];exact h _ (I.tok _)};subst ey;cases (show u=Value.ref b from ry);obtain⟨z,hd,xs,rel,dd⟩:=rT I.hok e;refine wpAny_in_heap (UO hu) (lU I.hok eb) hd dd ?_;have q:=(rel.val k).eZ;rw[VM]at q;rw[<-q,<-l];exact h _ (I.tok _)
def Ju{Q:Vr}(hu:A.units+1<cLine)(I:Inv X pins U H s)(g:ic H a y o)(ry:RelV y u)(h:∀s',Inv X pins U H s'->Q (.bool (!o.isSome)) s') : wpAny (model X.prog X.w) A (compareOp .NotIn u (.ref a)) Q E s:=by rcases g with⟨kvs,k,e,ey,l⟩|⟨kvs,k,b,e,ey,eb,l⟩;{subst ey;obtain⟨z,hd,vs,rel,dd⟩:=pY I.hok e;refine wpAny_notIn_of (rW ry) hd dd.mapOf ?_;rw[<-(rel.val k).eZ,<-l];exact h _ (I.tok _)};subst ey;cases (show u=Value.ref b from ry);obtain⟨z,hd,xs,rel,dd⟩:=rT I.hok e;refine wpAny_notIn_heap (UO hu) (lU I.hok eb) hd dd ?_;have q:=(rel.val k).eZ;rw[VM]at q;rw[<-q,<-l];exact h _ (I.tok _)
def ue{h':Heap}{t':Nat}{ob:HO}(I:Inv X pins U H s)(mu:Cv (H a))(hs:Heap.SameBut a s.heap h')(he:∃q,h'.get? a=some q)(new:bE X.prog X.w (upd H a ob) h' a ob) : Inv X pins U (upd H a ob) { s with heap:=h',toks:=t' }:=
 I.write (x:=a) (e:=a) mu (.inl rfl) (λb q hb z=>(hs.2 b hb).trans z) he new
def LK{P:Program}{w:World}{H':Hp}{h':Heap}{kvs:List (Key×V)}{vs:List (Key×Value)}(z:kvs.length<=sizeLine)(hd:(a==sysModules)=false)(rel:KV kvs vs)(dd:h'.DictOf (cP P w) a vs) : bE P w H' h' a (.dK kvs):=⟨z,hd,vs,rel,dd⟩
def Cq{H':Hp}{Q:Unit->Shared->Prop}(hu:A.units+1<cLine)(I:Inv X pins U H s)(g:pK H a y v H')(ry:RelV y u)(rv:RelV v r)(h:∀s',Inv X pins U H' s'->Q () s') : wpAny (model X.prog X.w) A (setItem (.ref a) u r) Q E s:=by
 rcases g with⟨kvs,k,e,ey,l,eH⟩|⟨kvs,k,b,e,ey,eb,l,eH⟩
 .subst ey eH;obtain⟨z,hd,vs,rel,dd⟩:=Oa I.hok e;have hz:vs.length<=sizeLine:=by rw[<-rel.length];exact z
  have hl:(putK kvs k v).length<=sizeLine:=by have:=qe kvs k v;lia
  refine wpAny_setItem_pairs (hsz:=hz) (rW ry) dd λh' dd' hs=>h _ ?_;have he:∃q,h'.get? a=some q:=let⟨q,_,_,hq,_⟩:=dd';⟨q,hq⟩;exact ue I (by rw[e];exact Sk) hs he (LK hl hd (rel.put k rv) dd')
 subst ey eH;cases (show u=Value.ref b from ry);obtain⟨z,hd,xs,rel,dd⟩:=HJ I.hok e;have hz:xs.length<=sizeLine:=by rw[<-Paired.length rel];exact z
 have hl:(putK kvs k v).length<=sizeLine:=by have:=qe kvs k v;lia
 refine wpAny_setItem_heap (hsz:=hz) (UO hu) (lU I.hok eb) dd λh' dd' hs=>h _ ?_;obtain⟨q,es,ep,hq,h2,h3,h4,_,h5⟩:=dd';refine ue I (by rw[e];exact Sk) hs ⟨q,hq⟩ ⟨hl,hd,_,(rel.put k eb rv).keeps λc ys ec=>?_,q,es,ep,hq,h2,h3,h4,h5⟩;rw[aj (HR ec e (λz=>nomatch z))];exact ec
end
section
variable{X:Cx}{pins:Vu}{U:St}{H:Hp}{s:Shared}{a:Addr}{kvs:List (Key×V)}{k:Key}{u:Value}{A:Around}{E:Vr}
def Nu{Q:Vr}(I:Inv X pins U H s)(e:Rd H a (.dK kvs))(h:∀t s',Inv X pins U H s'->Q (.int kvs.length t) s'):wpAny (model X.prog X.w) A (call (.builtin "len") [.ref a]) Q E s:=by obtain⟨z,hd,vs,rel,dd⟩:=pY I.hok e;refine call_len_dict hd dd (by rw[<-rel.length];rw[sizeLine_eq]at z;lia) ?_;rw[<-rel.length];exact h _ _ (I.tok _)
end
def yJ{X:Cx}{pins:Vu}{U:St}{H:Hp}{s:Shared}{a:Addr}{y:V}{o:Option V}(I:Inv X pins U H s)(g:ic H a y o):s.TypeIs (.ref a) "dict":=by rcases g with⟨kvs,k,e,_,_⟩|⟨kvs,k,b,e,_,_,_⟩;{obtain⟨_,_,vs,_,dd⟩:=pY I.hok e;exact dd.typeIs};obtain⟨_,_,xs,_,dd⟩:=rT I.hok e;exact dd.typeIs
def FH{P:Program}{w:World}{H:Hp}(h:Heap)(hb:sysModules<h.objs.size):bE P w H (h.push { cls:=.type "dict",data:=.dict #[] }) h.objs.size (.dK []):=
 ⟨S3 _,beq_eq_false_iff_ne.mpr (Ne.symm (Rc hb)),[],.nil,Heap.DictOf.new h⟩
def FP{P:Program}{w:World}{H:Hp}(h:Heap)(hb:sysModules<h.objs.size):bE P w H (h.push { cls:=.type "dict",data:=.dict #[] }) h.objs.size (.dT []):=
 ⟨S3 _,beq_eq_false_iff_ne.mpr (Ne.symm (Rc hb)),[],.nil,_,#[],0,Rx _ rfl,⟨rfl,rfl,rfl⟩,rfl,rfl,Su⟩
noncomputable def CL:TE:=λ_ H Q=>∀p,H p=none->Q (.ref p) (upd H p (.dK []))
noncomputable def C8:TE:=λ_ H Q=>∀p,H p=none->Q (.ref p) (upd H p (.dT []))
section
variable{X:Cx}{pos:Pos}
def FI:PE X (.Dict [] [] pos) CL:=λpins s U H Q I h=>
 wpAny_Dict_empty ⟨.ref s.heap.objs.size,_,I.laid (a:=s.heap.objs.size) (o:=.dK []) (t':=s.toks) (λ_ _ q=>Ra _ q) (RB _) (FH s.heap I.big),rfl,h _ (I.hok.fresh (RB _))⟩
def FJ:PE X (.Dict [] [] pos) C8:=λpins s U H Q I h=>
 wpAny_Dict_empty ⟨.ref s.heap.objs.size,_,I.laid (a:=s.heap.objs.size) (o:=.dT []) (t':=s.toks) (λ_ _ q=>Ra _ q) (RB _) (FP s.heap I.big),rfl,h _ (I.hok.fresh (RB _))⟩
end
end L2
namespace OP
open PySem PySem.W PySem.Calls PyProof.Rows
def rP{P:Params}{h:Heap}:∀(ns:WO)(vs:WH),WellAll P h vs (ns.map WData.int)->IntsAre vs ns:=by
 intro ns;induction ns with
 |nil=>intro vs w;rw[List.map_nil]at w;cases w;exact .nil
 |cons n ns ih=>
  intro vs w;rw[Rh]at w;cases w with
  |cons a b=>cases a;exact .cons _ _ (ih _ b)
def EE{l:OpenLaw}{n:Nat}(hn:l.most=some n){P:Params}{h:Heap}{args:List WData}{vals:WH}(hpre:l.row.toRowW.claim.pre args=true)(hwl:WellAll P h vals args) : ∃a vs ns,vals=[Value.ref a]/\args=[WData.list (ns.map WData.int)]/\h.get? a=some { cls:=.type "list",data:=.seq vs.toArray }/\IntsAre vs ns/\ns.length<=n:=by
 have hsh:WShape.hasAll [] args [.list .int]=true:=(pre_splitW hpre).1;have hc:l.pre.holds [] { args:=args }=true:=(pre_splitW hpre).2;obtain⟨d,r,rfl,h1,h2⟩:=hasAllW_cons hsh;obtain rfl:=hasAllW_nil h2;obtain⟨xs,rfl,h3⟩:=hasW_list h1;obtain⟨ns,rfl⟩:=items_int h3;have hlen:ns.length<=n:=by
  unfold OpenLaw.pre at hc;have h4:(WTm.not (.lt (.lit (.int (n:Int))) (.len (.arg 0)))).holds [] { args:=[.list (ns.map .int)] }=true:=by have h4:=(holds_andW hc).1;rw[hn]at h4;exact h4
  have h5:=condW_of h4 (w_not (w_lt w_lit (w_len_list (w_arg rfl))));rw[RA]at h5;refine Nat.le_of_not_lt λq=>?_;have q':(n:Int)<((ns.length:Nat):Int):=by lia
  first
   | (rw[Rv q']at h5;exact absurd h5 (by decide))
   | (simp at h5;lia)
 cases hwl with
 |cons w1 w2=>
  cases w2;cases w1 with
  |list ho hall=>exact⟨_,_,ns,rfl,rfl,ho,rP ns _ hall,hlen⟩
def Cu(l:OpenLaw)(args:List WData):l.row.toRowW.claim.post args (.bool true) args=true:=
 postW_of (r:=l.row.toRowW) (X:=(true==true))
  (show WShape.has [] (.bool true) .bool=true by first|rfl|decide|simp[WShape.has,WShape.arms,WShape.armsAll])
  (show(WTm.eq .res (.lit (.bool true))).value [] { args:=args,res:=some (.bool true),after:=args }=some (.bool (true==true))from w_eq_bool (w_res rfl) w_lit) rfl
def yM{l:OpenLaw}{n:Nat}{q:Program}{loose:WQ}{XP:(Vt)->Heap->Prop}{YP:World->Heap->Prop}{d:DefRec}(hn:l.most=some n)(hdf:d.params.defaults=[])(call:∀(w:World)(s₀ s₁:Shared)(mg mb:Vt)(fa:Addr)(o:Obj)(pm cd doc:Value)(a:Addr)(vs:WH)(ns:WO), Ground q loose [] XP w s₀ mg mb s₁.heap->YP w s₁.heap-> s₁.heap.get? fa=some o->o.data=.func (docDef d.name d.params d.body d.scope pm cd doc)->s₁.heap.CodeRec cd d.name->mg d.name=some (.ref fa)-> s₁.heap.get? a=some { cls:=.type "list",data:=.seq vs.toArray }->IntsAre vs ns->ns.length<=n->s₁.gens=#[]-> codeAny (model l.prog w) callerA (.call (.ref fa) ⟨[.ref a],[]⟩) (λr s'=>r=.ok (.ret (.bool true))/\OldK s₁.heap s'.heap/\s'.os=s₁.os/\AllBare s'.gens) s₁) : WalkO q loose XP YP l.row.toRowW d [] (λf vs=>PySem.call f vs):=by intro w s₀ s₁ mg mb G WU fa o pm cd doc dV kV ho hd hcd hD hmg hg args vals as hpre hlay hrd hwl hlo;obtain rfl:dV=.none:=Dflts.none hD hdf;obtain rfl:kV=.none:=Dflts.noKw hD;obtain⟨a,vs,ns,rfl,rfl,hobj,hints,hlen⟩:=EE hn hpre hwl;refine enter_call (codeAny_mono (call w s₀ s₁ mg mb fa o pm cd doc a vs ns G WU ho (fd_plain hd) hcd hmg hobj hints hlen hg) λr s' hq=>?_);obtain⟨rfl,h2,h3,h4⟩:=hq;exact⟨.inl ⟨.bool true,.bool true,[],rfl,λ_=>rfl,.bool true,Cu l _,λ_=>⟨List.Pairwise.nil,λ_ hm=>(nomatch hm)⟩⟩,h2,h3,h4⟩
end OP
namespace L2
open PySem PySem.Spec PyProof.Rows
theorem uJ:∀{vs:WH}{ns:WO},IntsAre vs ns->Vals (ns.map V.int) vs
 |_,_,.nil=>.nil
 |_,_,.cons n t h=>.cons ⟨t,rfl⟩ (uJ h)
noncomputable def Ff (H:Hp):Prop:=∀b,H b=none\/∃o xs,H b=some (.dW o (.lst xs))
end L2
namespace L2
open PySem PySem.Spec PyProof.Rows
noncomputable def jM (s:Stmt):Arguments:=match s with
 |.FunctionDef _ a _ _ _ _ _ _ _ _=>a
 |_=>{ posonlyargs:=[],args:=[],vararg:=none,kwonlyargs:=[],kw_defaults:=[],kwarg:=none,defaults:=[] }
noncomputable def gQ (s:Stmt):WM:=match s with
 |.FunctionDef _ _ b _ _ _ _ _ _ _=>b
 |_=>[]
noncomputable def au (s:Stmt):Scope:=match s with
 |.FunctionDef _ _ _ _ _ _ sc _ _ _=>sc
 |_=>{ kind:=.function,names:=[],isGenerator:=false,isCoroutine:=false }
noncomputable abbrev E0:XK:=λ_ _ _=>False
structure rJ(K:Vz) (x qual:Str)(st:Stmt)(f:Addr)(fd:FuncData):Prop where
 ex:∃(oc:Value)(od:WD)(kV doc pm:Value)(an:WD)(cdv ct:Value)(osl:Vq),
  fd=PySem.W.fnOf x qual (jM st) (gQ st) (au st) .none kV doc pm an cdv ct/\K.lookup f=some ⟨oc,od,.func fd,osl⟩/\PySem.W.codeIn K cdv qual=true
 kp:PySem.W.keepIn K (.ref f)=true
section
variable{P:Program}{w:World}{K:Vz}{mg:Vt}{base:Heap}
def rJ.binds{x qual:Str}{st:Stmt}{f:Addr}{fd:FuncData}{ps:WQ}(F:rJ K x qual st f fd)(h:∀(kV doc pm:Value)(an:WD)(cdv ct:Value)(us:WH),us.length=ps.length->bindArgs (PySem.W.fnOf x qual (jM st) (gQ st) (au st) .none kV doc pm an cdv ct) ⟨us,[]⟩=pure (ps.zip us)):Binds K fd ps []:=by obtain⟨oc,od,kV,doc,pm,an,cdv,ct,osl,rfl,lk,hcd⟩:=F.ex;exact .all (h kV doc pm an cdv ct)
def KR{x qual:Str}{st:Stmt}{f:Addr}{oc:Value}{od an:WD}{osl:Vq}{kV doc pm cdv ct:Value}(l:K.lookup f=some ⟨oc,od,.func (PySem.W.fnOf x qual (jM st) (gQ st) (au st) .none kV doc pm an cdv ct),osl⟩)(c:PySem.W.codeIn K cdv qual=true)(k:PySem.W.keepIn K (.ref f)=true):rJ K x qual st f (PySem.W.fnOf x qual (jM st) (gQ st) (au st) .none kV doc pm an cdv ct):=⟨⟨oc,od,kV,doc,pm,an,cdv,ct,osl,rfl,l,c⟩,k⟩
end
section
variable{X:Cx}
def CH:cu X (.builtin "len") (λxs H Q=>∃a kvs,xs=[V.ref a]/\H a=some (.dK kvs)/\Q (.int kvs.length) H):=by intro pins s U H xs us Q I r h;obtain⟨a,kvs,rfl,ha,q⟩:=h;obtain⟨u,rfl,ru⟩:=vals1 r;cases ru;exact Nu I (.inl ha) λt s' I'=>⟨.int kvs.length,H,I',⟨t,rfl⟩,q⟩
end
def nL{A B:Prop}(h:B):if false=true then A else B:=by rw[if_neg RZ];exact h
def nK{A B:Prop}(h:A):if true=true then A else B:=by rw[if_pos rfl];exact h
noncomputable def ah (H H':Hp):Prop:=∀b o,H b=some o->H' b=some o
def ah.refl(H:Hp):ah H H:=λ_ _ h=>h
def ah.trans{H H1 H2:Hp}(a:ah H H1)(b:ah H1 H2):ah H H2:=λc o h=>b c o (a c o h)
def ah.free{H H':Hp}(e:ah H H'){l:Addr}(h:H' l=Option.none):H l=Option.none:=by
 cases q:H l with
 |none=>rfl
 |some o=>rw[e l o q]at h;cases h
noncomputable def d7 (cells:List (Str×Addr)):List (Str×NameKind)->List (Str×Addr)->List (Str×Addr)
 |[],acc=>acc
 | (n,k)::r,acc=>d7 cells r (if(k==NameKind.free)=true then(n,(cells.lookup n).getD 0)::acc else acc)
theorem qj{c:Addr}:∀(names:List (Str×NameKind))(acc:List (Str×Addr)),(d7 cells names acc).lookup y=some c->((y,NameKind.free)∈names/\(cells.lookup y).getD 0=c)\/acc.lookup y=some c
 |[],_,h=>.inr h
 | (n,k)::r,acc,h=>by
  rcases qj r _ h with⟨a,b⟩|z;{exact .inl ⟨RK _ a,b⟩};clear h;by_cases e:(k==NameKind.free)=true
  .rw[if_pos e]at z;rw[SH]at z;cases q:(y==n)with
   |true=>
    rw[q]at z;have ek:k=NameKind.free:=by simpa using e
    have en:y=n:=by simpa using q
    subst ek en;exact .inl ⟨RC,Option.some.inj z⟩
   |false=>rw[q]at z;exact .inr z
  rw[if_neg e]at z;exact .inr z
theorem jK:∀(names:List (Str×NameKind))(acc:List (Str×Addr)),((y,NameKind.free)∈names\/∃c,acc.lookup y=some c)->∃c,(d7 cells names acc).lookup y=some c
 |[],_,h=>by rcases h with h|h;{cases h};exact h
 | (n,k)::r,acc,h=>by
  refine jK r _ ?_;rcases h with h|⟨c,h⟩;{rcases RP.mp h with e|h;{cases e;refine .inr ⟨(cells.lookup y).getD 0,?_⟩;rw[if_pos (by decide),SH,beq_self_eq_true]};exact .inl h};by_cases e:(k==NameKind.free)=true
  .rw[if_pos e,SH];cases q:(y==n)with
   |true=>exact .inr ⟨_,rfl⟩
   |false=>exact .inr ⟨c,h⟩
  rw[if_neg e];exact .inr ⟨c,h⟩
def rQ(h:∀n,(n,NameKind.free)∈scope.names->∃c,env.cells.lookup n=some c):closureFor scope env=pure (d7 env.cells scope.names []):=by
 have key:∀(names:List (Str×NameKind))(cs:List (Str×Addr)),(∀n,(n,NameKind.free)∈names->∃c,env.cells.lookup n=some c)->
   (forIn names cs λ(x:Str×NameKind)(r:List (Str×Addr))=>(if(x.2==NameKind.free)=true then(cellOf env x.1>>=λa=>pure (ForInStep.yield ((x.1,a)::r)))else pure (ForInStep.yield r):Sem _))=pure (d7 env.cells names cs):=by
  intro names
  induction names with
  |nil=>intro cs _;rfl
  |cons p r ih=>
   intro cs hp;obtain⟨n,k⟩:=p;rw[List.forIn_cons];by_cases e:(k==NameKind.free)=true
   .have ek:k=NameKind.free:=by simpa using e
    obtain⟨c,hc⟩:=hp n (by rw[ek];exact RC);rw[if_pos e];have e2:cellOf env n=pure c:=by unfold cellOf;rw[hc]
    show((cellOf env n>>=λa=>pure (ForInStep.yield ((n,a)::cs)))>>=_)=_;rw[e2];show(forIn r ((n,c)::cs) _:Sem _)=_;rw[ih _ λn' h'=>hp n' (RK _ h')];show _=pure (d7 env.cells r (if(k==NameKind.free)=true then(n,(env.cells.lookup n).getD 0)::cs else cs));rw[if_pos e,hc];rfl
   rw[if_neg e];show(forIn r cs _:Sem _)=_;rw[ih _ λn' h'=>hp n' (RK _ h')];show _=pure (d7 env.cells r (if(k==NameKind.free)=true then(n,(env.cells.lookup n).getD 0)::cs else cs));rw[if_neg e]
 unfold closureFor;have e:=key scope.names [] h;show((forIn scope.names [] λ(x:Str×NameKind)(r:List (Str×Addr))=>(if(x.2==NameKind.free)=true then(cellOf env x.1>>=λa=>pure (ForInStep.yield ((x.1,a)::r)))else pure (ForInStep.yield r):Sem _))>>=λr=>pure r)=_;rw[e];rfl
theorem iY{α:Type}{y:Str}{k:α}:∀{l:List (Str×α)},l.lookup y=some k->(y,k)∈l
 |[],h=>by cases h
 | (n,j)::r,h=>by
  rw[SH]at h;cases q:(y==n)with
  |true=>
   rw[q]at h;have en:y=n:=by simpa using q
   cases h;rw[en];exact RC
  |false=>rw[q]at h;exact RK _ (iY h)
theorem rH{env:Env}{x:Str}{k:NameKind}:∀{names:List (Str×NameKind)},names.lookup x=some k->(relabel { (default:Scope)with names:=names } env).names.lookup x=some k\/(k=.free/\(relabel { (default:Scope)with names:=names } env).names.lookup x=some .cell)
 |[],h=>by cases h
 | (n,j)::r,h=>by
  have ih:=@rH env x k r;rw[SH]at h;show List.lookup x ((if(j==NameKind.free&&env.scope.kind == .function&&env.kindOf n==some .cell)=true then(n,NameKind.cell)else(n,j))::_)=_\/(_/\List.lookup x ((if(j==NameKind.free&&env.scope.kind == .function&&env.kindOf n==some .cell)=true then(n,NameKind.cell)else(n,j))::_)=_);cases q:(x==n)with
  |true=>rw[q]at h;cases h;by_cases e:(k==NameKind.free&&env.scope.kind == .function&&env.kindOf n==some .cell)=true;{rw[if_pos e,SH,q];refine .inr ⟨?_,rfl⟩;have z:=(RJ _ _▸(RJ _ _▸e).1:_/\_).1;simpa using z};rw[if_neg e,SH,q];exact .inl rfl
  |false=>rw[q]at h;by_cases e:(j==NameKind.free&&env.scope.kind == .function&&env.kindOf n==some .cell)=true;{rw[if_pos e,SH,q];exact ih h};rw[if_neg e,SH,q];exact ih h
theorem x6{env:Env}{x:Str}{k:NameKind}:∀{names:List (Str×NameKind)},(relabel { (default:Scope)with names:=names } env).names.lookup x=some k->names.lookup x=some k\/(names.lookup x=some .free/\k=.cell)
 |[],h=>by cases h
 | (n,j)::r,h=>by
  have ih:=@x6 env x k r;have h:List.lookup x ((if(j==NameKind.free&&env.scope.kind == .function&&env.kindOf n==some .cell)=true then(n,NameKind.cell)else(n,j))::(relabel { (default:Scope)with names:=r } env).names)=some k:=h;rw[SH];cases q:(x==n)with
  |true=>by_cases e:(j==NameKind.free&&env.scope.kind == .function&&env.kindOf n==some .cell)=true;{rw[if_pos e,SH,q]at h;cases h;have z:=(RJ _ _▸(RJ _ _▸e).1:_/\_).1;exact .inr ⟨by simpa using z,rfl⟩};rw[if_neg e,SH,q]at h;exact .inl h
  |false=>by_cases e:(j==NameKind.free&&env.scope.kind == .function&&env.kindOf n==some .cell)=true;{rw[if_pos e,SH,q]at h;exact ih h};rw[if_neg e,SH,q]at h;exact ih h
noncomputable def caps (ix:WN)(U:St):St:=ix.map λi=>(U[i]?).join
noncomputable def Cx.block (X:Cx)(scope:Scope)(C:Addr)(NB:WQ)(s2:Shared)(H2:Hp)(fp:WI):Cx:=
 { X with N:=NB,s₀:=s2,H₀:=H2,env:=compEnvC scope (d7 X.env.cells scope.names []) C X.env,outer:=X.stack,ex:=fp,fn:=λ_=>false,pn:=[],xe:=λ_ _=>False }
noncomputable def uS (X:Cx)(ifs:WK)(t:TT):Prop:=
 ∀(pins:Vu)(s:Shared)(U:St)(H:Hp)(Q:Bool->Hp->Prop),Inv X pins U H s->t U H Q->
  wpAny (model X.prog X.w) X.A (forIn ifs true λc r=>if r=true then do let ok <-isTrue c X.env (eval c X.env);pure (ForInStep.yield ok)else pure (ForInStep.yield r)) (TP X pins U Q) X.xe s
noncomputable def Qc:TT:=λ_ H Q=>Q true H
def IT:uS X [] Qc:=λ_ _ _ H _ I h=>wpAny_tests_nil ⟨H,I,h⟩
def JN(h:PT X c t):uS X [c] t:=λpins s U H Q I hw=>wpAny_tests_one (h pins s U H Q I hw)
noncomputable abbrev ig (its:WH) (n:Nat):Obj:={ cls:=.type "list",data:=.seq its.toArray n }
section
variable{X:Cx}{scope:Scope}{x:Str}{NB:WQ}{ix:WN}{pins:Vu}{U:St}{H2:Hp}{s2:Shared}{fp:WI}
def GI(ix:WN)(U:St):(caps ix U).length=ix.length:=by unfold caps;rw[RA]
end
section
variable{X:Cx}{scope:Scope}{x:Str}{NB:WQ}{ix:WN}{pins:Vu}{U:St}{H2:Hp}{s2:Shared}{fp:WI}
def Et{C D:Addr}{n:Nat}(I2:Inv X pins U H2 s2)(f2:∀b∈fp,iK X pins H2 b)(hD:s2.heap.objs.size<=D)(I4:Inv (X.block scope C NB s2 H2 fp) [(D,ig its n)] σB H' s4)(rv:Vals ys its)(hz:ys.length<=sizeLine):Inv X pins U (upd H' D (.lst ys)) s4:=by
 have hp:=I4.pin (D,ig its n) (by show _∈[]++[(D,ig its n)];simp);have hfree:H' D=none:=hp.2.1;have neD:∀b o,s2.heap.get? b=some o->b≠D:=λb o e=>Rc (Rn (RL e) hD);have neT:∀b o,H2 b=some o->b≠D:=λb o e=>Rc (Rn (I2.hok.lt e) hD);have u:Un (frs X.stack) fp H2 H' s2.heap s4.heap:=I4.base;refine I2.Iu (ch:=fp) I4.os ⟨u.keep,u.slot,λb o e n hx=>?_,u.there,λb xs e=>?_,λb o v e=>?_,λb ps e=>?_⟩ (λb o e=>?_) I4.bare λb hb=>?_;{rw[aj (neD b o e)];exact u.free b o e n hx};{rw[aj (neT b _ e)];exact u.tups b xs e};{rw[aj (neT b _ e)];exact u.kD b o v e};{rw[aj (neT b _ e)];exact u.lz b ps e}
 .by_cases hb:b=D;{subst hb;rw[aC]at e;cases e;exact⟨hz,its,n,rv,hp.1⟩};rw[aj hb]at e;have ne:∀{c:Addr}{w:HO},H' c=some w->c≠D:=λ{c w} q z=>by rw[z,hfree]at q;cases q
  exact(I4.hok b o e).stay (λ_ _ _ q=>q) (λc q=>by rw[aj (ne q)];exact q) λc xs q=>by rw[aj (ne q)];exact q
 obtain⟨_,g1,g2,g3,g4,g5⟩:=f2 b hb;exact⟨g3,g1,g4,g5⟩
end
end L2
namespace L2
open PySem PySem.Spec PyProof.Rows PySem.W
noncomputable def l0 (a C:Addr)(dd:WD):Heap->Prop:=λh=>∃(t0:Addr)(v1 v2 v3 v4 v5:Value)(sl:Vq),h.get? a=some ⟨.ref C,dd,.fields #[.ref t0,v1,v2,v3,v4,v5],sl⟩
def D9{a C:Addr}(x:l0 a C dd h):bE P w H h a (.ext (l0 a C dd)):=by obtain⟨t0,v1,v2,v3,v4,v5,sl,e⟩:=id x;exact⟨x,⟨_,e⟩,λh1 h2 ⟨t0,v1,v2,v3,v4,v5,sl,e⟩ k=>⟨t0,v1,v2,v3,v4,v5,sl,k _ e⟩⟩
noncomputable def six (newId:String)(l:List (WA)):Bool:=l.length==6&&(match(l[4]?:Option (WA))with|some (some (Value.builtin n))=>n==newId|_=>false)
noncomputable def zz (K:Frag)(C:Addr)(bmB:WH):WH->Bool
 |.ref C'::bm=>C'==C&&tailIn K bmB bm
 |_=>false
noncomputable def kG (K:Frag)(C:Addr)(bmB:WH)(newId:String)(r:WA):Bool:=match K.lookup C with
 |some ob=>(match ob.cls with | .type t=>t == "type" | _=>false)&&(match ob.data with
  |.cls cd=>(zz K C bmB cd.mro&&six newId ob.slots.toList)&&!cd.hasDel&&(nsOkIn K cd.ns&&nsIn K cd.ns "__init__" == some r)
  |_=>false)
 |none=>false
def MN(h:six newId l=true):∃k0 k1 k2 k3 k5,l=[k0,k1,k2,k3,some (.builtin newId),k5]:=by
 unfold six at h;rw[RJ]at h;obtain⟨h1,h2⟩:=h;have h1:l.length=6:=Te h1;rcases l with _|⟨k0,_|⟨k1,_|⟨k2,_|⟨k3,_|⟨k4,_|⟨k5,_|⟨k6,l⟩⟩⟩⟩⟩⟩⟩
 case cons.cons.cons.cons.cons.cons.nil=>
  cases k4 with
  |none=>cases h2
  |some v=>
   cases v with
   |builtin n=>exact⟨k0,k1,k2,k3,k5,by rw[show n=newId from Te h2]⟩
   |_=>cases h2
 case cons.cons.cons.cons.cons.cons.cons=>cases h1
 all_goals cases h1
def Bh{K:Frag}{C:Addr}{bmB l:WH}(h:zz K C bmB l=true):∃bm,l=.ref C::bm/\tailIn K bmB bm=true:=by
 cases l with
 |nil=>cases h
 |cons v bm=>
  cases v with
  |ref a=>have h:(a==C&&tailIn K bmB bm)=true:=h;rw[RJ]at h;exact⟨bm,by rw[show a=C from Te h.1],h.2⟩
  |_=>cases h
structure Ql(C:Addr)(bmB:WH)(newId:String)(r:WA)(h:Heap):Prop where
 obj:∃bm N nm q bs hdct sn sub ab col dd k0 k1 k2 k3 k5 mN,h.get? C=some (excClassObj nm q C N bs bm hdct sn sub ab col dd k0 k1 k2 k3 k5 newId)/\h.Ns N mN/\mN "__init__"=r/\OwnTail h bmB bm
def AU{K:Frag}{h:Heap}{N:Addr}{mg:Vt}(X:K.In h)(G:h.Ns N mg)(e:nsIn K N n=some r):mg n=r:=by
 obtain⟨o,es,ep,ho,hd,_,hf⟩:=G;unfold nsIn at e;split at e
 .rename_i c d es' n' sl q;have z:=X _ _ q;rw[ho]at z;cases z;cases hd;split at e
  .rename_i en he;rw[<-hf];unfold nsFind findBy;rw[<-VG,he];first
    | (cases e;rfl)
    | (split at e<;>cases e<;>rfl)
  rename_i he;rw[<-hf];unfold nsFind findBy;rw[<-VG,he];split at e;{cases e};cases e;rfl
 cases e
def Je{K:Frag}{C:Addr}(X:K.In h)(q:kG K C bmB newId r=true):Ql C bmB newId r h:=by
 unfold kG at q;cases ho:K.lookup C with
 |none=>rw[ho]at q;cases q
 |some ob=>
  rw[ho]at q;obtain⟨cls,dd,data,sl⟩:=ob;dsimp only at q;rw[RJ]at q;obtain⟨q0,q⟩:=q;have hc:cls=.type "type":=by
   cases cls with
   |type t=>exact congrArg Value.type (Te q0)
   |_=>cases q0
  subst hc;cases data with
  |cls cd=>
   dsimp only at q;rw[RJ,RJ,RJ,RJ]at q;obtain⟨⟨⟨q1,q2⟩,hdel⟩,hok,hni⟩:=q;obtain⟨bm,hm,ht⟩:=Bh q1;obtain⟨l⟩:=sl;obtain⟨k0,k1,k2,k3,k5,hs⟩:=MN q2;have hs:l=_:=hs;obtain⟨nm,bs,mro,ns,qn,hd,sn,sub,ab,col,del⟩:=cd;dsimp only at hm hdel hok hni;have hdel:del=false:=by cases del<;>first|rfl|cases hdel
   have hni:=Te hni;subst hm hdel hs;have G:h.Ns ns (h.nsMap ns):=.of_isNs (isNs_of_in X hok);exact⟨bm,ns,nm,qn,bs,hd,sn,sub,ab,col,dd,k0,k1,k2,k3,k5,_,X _ _ ho,G,AU X G hni,tail_of_in X ht⟩
  |_=>cases q
def Gq{a:Addr}(x:bE P w H h a o):∃ob,h.get? a=some ob:=by
 cases o with
 |lst xs=>obtain⟨_,_,_,_,e⟩:=x;exact⟨_,e⟩
 |tup xs=>obtain⟨_,_,_,ob,e,_⟩:=x;exact⟨_,e⟩
 |dK kvs=>obtain⟨_,_,_,_,ob,_,_,e,_⟩:=x;exact⟨_,e⟩
 |dT kvs=>obtain⟨_,_,_,_,ob,_,_,e,_⟩:=x;exact⟨_,e⟩
 |set S n=>obtain⟨ob,_,_,_,e,_⟩:=x;exact⟨_,e⟩
 |ins C dx fs=>obtain⟨_,_,_,e,_⟩:=x;exact⟨_,e⟩
 |own y=>exact x
 |xd fs=>obtain⟨_,⟨od,_,_,e,_⟩,_⟩:=x;exact⟨_,e⟩
 |qu lo hi=>obtain⟨_,_,_,e⟩:=x;exact⟨_,e⟩
 |dW ob u=>obtain⟨e,_⟩:=x;exact⟨_,e⟩
 |uP ps=>exact⟨_,x⟩
 |met f y=>exact⟨_,x⟩
 |ext φ=>obtain⟨_,e,_⟩:=x;exact e
section
variable{X:Cx}{pins:Vu}{U:St}{H:Hp}{s:Shared}{h':Heap}
def Inv.lV(I:Inv X pins U H s){a:Addr}(hn:s.heap.get? a=none):H a=none:=by
 cases z:H a with
 |none=>rfl
 |some o=>obtain⟨ob,e⟩:=Gq (I.hok a o z);rw[hn]at e;cases e
def Inv.Hz{a:Addr}{t':Nat}(I:Inv X pins U H s)(k:∀b u,s.heap.get? b=some u->h'.get? b=some u)(hn:s.heap.get? a=none)(new:bE X.prog X.w (upd H a o) h' a o) : Inv X pins U (upd H a o) { s with heap:=h',toks:=t' }:=by
 have hf:=I.lV hn;have neA:∀b u,s.heap.get? b=some u->b≠a:=λb u e z=>by rw[z,hn]at e;cases e
 have neT:∀b u,H b=some u->b≠a:=λb u e z=>by rw[z,hf]at e;cases e
 refine I.un ⟨λb u e _ _ _=>k b u e,λb u e _ _ _=>⟨u.slots,k b u e⟩,λb u e n _=>by rw[aj (neA b u e)];exact n,λb u e _=>⟨u,k b u e⟩,λb xs e=>by rw[aj (neT b _ e)];exact e,
  λb u v e=>by rw[aj (neT b _ e)];exact e,λb ps e=>⟨#[],by rw[aj (neT b _ e),e];simp⟩⟩ λb u e=>?_
 by_cases hb:b=a;{subst hb;rw[aC]at e;cases e;exact new};rw[aj hb]at e;exact(I.hok b u e).stay (λc v _ q=>k c v q) (λc q=>by rw[aj (neT c _ q)];exact q) λc xs q=>by rw[aj (neT c _ q)];exact q
end
noncomputable abbrev CQ:WH:=[.type "ValueError",.type "Exception",.type "BaseException",.type "object"]
end L2
namespace L2
open PySem PySem.Spec PyProof.Rows
section
variable{X:Cx}
theorem Ai:∀{xs:List V}{us:WH},Vals xs us->∀(i:Nat)(u:Value),us[i]?=some u->∃x,xs[i]?=some x/\RelV x u
 |_,_,.nil,i,u,h=>by cases h
 |_,_,.cons h r,0,u,e=>by cases e;exact⟨_,rfl,h⟩
 |_,_,.cons h r,i+1,u,e=>Ai r i u e
end
end L2
namespace L2
open PySem PySem.Spec PyProof.Rows PySem.SeqAt PySem.W
mutual
inductive kj(K:Vz)(H:Hp):V->PyData->Prop
 |bg:kj K H .bg .none
 |bl (b:Bool):kj K H (.bl b) (.bool b)
 |int (i:Int):kj K H (.int i) (.int i)
 |str (x:Str):kj K H (.str x) (.str x)
 |lst {a:Addr}{xs:List V}{ds:WC}:bI K H a xs->oi K H xs ds->kj K H (.ref a) (.list ds)
 |tup {a:Addr}{xs:List V}{ds:WC}:bM K H a xs->oi K H xs ds->kj K H (.ref a) (.tuple ds)
inductive oi(K:Vz)(H:Hp):List V->WC->Prop
 |nil:oi K H [] []
 |cons {x:V}{d:PyData}{xs:List V}{ds:WC}:kj K H x d->oi K H xs ds->oi K H (x::xs) (d::ds)
end
section
variable{X:Cx}{pins:Vu}{U:St}{H:Hp}{s:Shared}
mutual
theorem Inv.reads(I:Inv X pins U H s):∀{v:V}{d:PyData}{u:Value},kj X.K H v d->RelV v u->∃as,Reads s.heap u d as
 |_,_,_,.bg,r=>by cases r;exact⟨_,.none⟩
 |_,_,_,.bl b,r=>by cases r;exact⟨_,.bool b⟩
 |_,_,_,.int i,r=>by obtain⟨t,rfl⟩:=r;exact⟨_,.int i t⟩
 |_,_,_,.str x,r=>by obtain⟨t,rfl⟩:=r;exact⟨_,.str x t⟩
 |_,_,_,.lst hq hs,r=>by cases r;obtain⟨its,rv,p,_⟩:=I.list hq;obtain⟨as,ra⟩:=I.readsAll hs rv;obtain⟨o,ho,hc,n,hd⟩:=p.isList;exact⟨_,.list ho hc hd (by simpa using ra)⟩
 |_,_,_,.tup hq hs,r=>by cases r;obtain⟨its,rv,p,_⟩:=I.tuple hq;obtain⟨as,ra⟩:=I.readsAll hs rv;obtain⟨o,ho,hc,n,hd⟩:=(show s.heap.IsTuple _ its.toArray from p);exact⟨_,.tuple ho hc hd (by simpa using ra)⟩
theorem Inv.readsAll(I:Inv X pins U H s):∀{vs:List V}{ds:WC}{us:WH},oi X.K H vs ds->Vals vs us->∃as,ReadsAll s.heap us ds as
 |_,_,_,.nil,r=>by cases r;exact⟨_,.nil⟩
 |_,_,_,.cons h hs,r=>by
  cases r with
  |cons r1 r2=>obtain⟨as,ra⟩:=I.reads h r1;obtain⟨bs,rb⟩:=I.readsAll hs r2;exact⟨_,.cons ra rb⟩
end
inductive GZ(K:Vz)(neg:Bool) (x:V) (y:V)(H:Hp)(Q:VK):Prop
 |mk:∀d e,(kj K H x d)->(kj K H y e)->(shaped d=true)->(shaped e=true)->(noMix d e=true)->(Q (.bl (if neg then !same d e else same d e)) H)->GZ K neg x y H Q
noncomputable def FF (K:Vz)(neg:Bool):R2:=λx y H Q=>GZ K neg x y H Q
def ML(hu:X.A.units+64<cLine):bw X (compareOp .Eq) (FF X.K false):=by intro pins s U H x y v u Q I rx ry h;obtain⟨d,e,h1,h2,s1,s2,nm,q⟩:=h;obtain⟨as,ra⟩:=I.reads h1 rx;obtain⟨bs,rb⟩:=I.reads h2 ry;exact eq_dataH_same ra rb s1 s2 hu nm ⟨.bl _,H,I,rfl,q⟩
def K9(hu:X.A.units+64<cLine):bw X (compareOp .NotEq) (FF X.K true):=by intro pins s U H x y v u Q I rx ry h;obtain⟨d,e,h1,h2,s1,s2,nm,q⟩:=h;obtain⟨as,ra⟩:=I.reads h1 rx;obtain⟨bs,rb⟩:=I.reads h2 ry;exact ne_dataH_same ra rb s1 s2 hu nm ⟨.bl _,H,I,rfl,q⟩
end
end L2
namespace L2
open PySem PySem.Spec PyProof.Rows PySem.W Builtin Builtin.ObjectAttr
section
variable{X:Cx}{pins:Vu}{U:St}{H:Hp}{s:Shared}{a C:Addr}{dd:WD}
def GQ:cu X (.builtin "isinstance") (λxs H Q=>∃x c t b,xs=[x,c]/\gc X.K H x t/\(∀u,RelV c u->kitOne X.K t u=some b)/\Q (.bl b) H):=by intro pins s U H xs us Q I r h;obtain⟨x,c,t,b,rfl,ty,k,q⟩:=h;obtain⟨u1,u2,rfl,ru1,ru2⟩:=r.two;exact Ej I ru1 ty (k u2 ru2) λtk=>⟨.bl b,H,I.tok tk,rfl,q⟩
variable{o e value:Expr}{f y:Str}{pos pos' yp apos:Pos}{ta tv:TE}{es:WK}{t:TA}
end
end L2
namespace L2
open PySem PySem.Spec PyProof.Rows
def bY{a:Addr}(h:H a=none):ah H (upd H a o):=λb u e=>by rw[aj (fN e h)];exact e
end L2
namespace Dv
open PySem L2 PySem.W
noncomputable def bD:Key->PyData
 |.inl i=>.int i
 |.inr x=>.str x
noncomputable def bQ (K:Frag)(H:Hp)(a:Addr)(xs:List V):Prop:=Rd H a (.lst xs)\/∃(its:WH) (n:Nat),K.lookup a=some { cls:=.type "list",data:=.seq its.toArray n }/\its.length<=sizeLine/\Vals xs its
def Rd.mono{a:Addr}(s:ah H H'):Rd H a u->Rd H' a u
 |.inl h=>.inl (s _ _ h)
 |.inr ⟨o,h⟩=>.inr ⟨o,s _ _ h⟩
theorem bQ.mono{a:Addr}(s:ah H H'):bQ K H a xs->bQ K H' a xs
 |.inl h=>.inl (Rd.mono s h)
 |.inr h=>.inr h
def bQ.sq{a:Addr}(h:bQ K H a xs):bI K H a xs:=by rcases h with h|⟨its,n,hk,hl,r⟩;{exact .inl h};exact .inr ⟨_,its.toArray,n,hk,rfl,rfl,rfl,by rw[RQ];exact hl,by simpa using r⟩
theorem bQ.get{a:Addr}(I:L2.Inv X pins U H s)(h:bQ X.K H a xs):xs.length<=sizeLine/\∃its n,Vals xs its/\s.heap.get? a=some { cls:=.type "list",data:=.seq its.toArray n }:=by rcases h with h|⟨its,n,hk,hl,r⟩;{obtain⟨z,its,n,r,e⟩:=h.ok I.hok;exact⟨z,its,n,r,e⟩};exact⟨by rw[r.length];exact hl,its,n,r,I.gW a _ hk⟩
mutual
inductive Rp(K:Frag)(H:Hp):V->PyData->Prop
 |bg:Rp K H .bg .none
 |bl (b:Bool):Rp K H (.bl b) (.bool b)
 |int (i:Int):Rp K H (.int i) (.int i)
 |str (x:Str):Rp K H (.str x) (.str x)
 |lst {a:Addr}{xs:List V}{ds:WC}:bQ K H a xs->aA K H xs ds->Rp K H (.ref a) (.list ds)
 |tup {a:Addr}{xs:List V}{ds:WC}:H a=some (.tup xs)->aA K H xs ds->Rp K H (.ref a) (.tuple ds)
 |dk {a:Addr}{kvs:List (Key×V)}{ds:Vp}:H a=some (.dK kvs)->dZ K H kvs ds->Rp K H (.ref a) (.dict ds)
 |dt {a:Addr}{kvs:List (List Key×V)}{ds:Vp}:H a=some (.dT kvs)->dO K H kvs ds->Rp K H (.ref a) (.dict ((.none,.none)::ds))
 |exc {a C:Addr}{c:Str}:H a=some (.ext (l0 a C none))->nsIn K mainGlobals c=some (some (.ref C))->Rp K H (.ref a) (.dict [(.none,.str c)])
inductive aA(K:Frag)(H:Hp):List V->WC->Prop
 |nil:aA K H [] []
 |cons {x:V}{d:PyData}{xs:List V}{ds:WC}:Rp K H x d->aA K H xs ds->aA K H (x::xs) (d::ds)
inductive dZ(K:Frag)(H:Hp):List (Key×V)->List (PyData×PyData)->Prop
 |nil:dZ K H [] []
 |cons {k:Key}{v:V}{d:PyData}{kvs:List (Key×V)}{ds:Vp}:Rp K H v d->dZ K H kvs ds->dZ K H ((k,v)::kvs) ((bD k,d)::ds)
inductive dO(K:Frag)(H:Hp):List (List Key×V)->List (PyData×PyData)->Prop
 |nil:dO K H [] []
 |cons {k:List Key}{v:V}{d:PyData}{kvs:List (List Key×V)}{ds:Vp}:Rp K H v d->dO K H kvs ds->dO K H ((k,v)::kvs) ((.tuple (k.map bD),d)::ds)
end
theorem Rp.mono(s:ah H H')(h:Rp K H v d):Rp K H' v d:=Rp.rec (motive_1:=λv d _=>Rp K H' v d) (motive_2:=λvs ds _=>aA K H' vs ds) (motive_3:=λa b _=>dZ K H' a b) (motive_4:=λa b _=>dO K H' a b) .bg .bl .int .str (λh _ ih=>.lst (bQ.mono s h) ih) (λh _ ih=>.tup (s _ _ h) ih) (λh _ ih=>.dk (s _ _ h) ih) (λh _ ih=>.dt (s _ _ h) ih) (λh n=>.exc (s _ _ h) n) .nil (λ_ _ a b=>.cons a b) .nil (λ_ _ a b=>.cons a b) .nil (λ_ _ a b=>.cons a b) h
theorem aA.mono(s:ah H H')(h:aA K H vs ds):aA K H' vs ds:=by
 induction ds generalizing vs with
 |nil=>cases h;exact .nil
 |cons d ds ih=>cases h with|cons a b=>exact .cons (a.mono s) (ih b)
theorem dZ.mono(s:ah H H')(h:dZ K H kvs ds):dZ K H' kvs ds:=by
 induction kvs generalizing ds with
 |nil=>cases h;exact .nil
 |cons d kvs ih=>cases h with|cons a b=>exact .cons (a.mono s) (ih b)
theorem dO.mono(s:ah H H')(h:dO K H kvs ds):dO K H' kvs ds:=by
 induction kvs generalizing ds with
 |nil=>cases h;exact .nil
 |cons d kvs ih=>cases h with|cons a b=>exact .cons (a.mono s) (ih b)
noncomputable def nd:PyData->Bool
 |.list ds=>nds ds
 |.tuple ds=>nds ds
 |.dict _=>false
 |_=>true
where nds:WC->Bool
 |[]=>true
 |d::ds=>nd d&&nds ds
def Rp.uO(h:Rp K H v d):nd d=true->kj K H v d:=
 Rp.rec (motive_1:=λv d _=>nd d=true->kj K H v d) (motive_2:=λvs ds _=>nd.nds ds=true->oi K H vs ds) (motive_3:=λ_ _ _=>True) (motive_4:=λ_ _ _=>True)
  (λ_=>.bg) (λb _=>.bl b) (λi _=>.int i) (λx _=>.str x) (λh _ ih e=>.lst h.sq (ih (by rw[nd]at e;exact e))) (λh _ ih e=>.tup (bM.of h) (ih (by rw[nd]at e;exact e))) (λ_ _ _ e=>by rw[nd]at e;cases e) (λ_ _ _ e=>by rw[nd]at e;cases e) (λ_ _ e=>by rw[nd]at e;cases e)
  (λ_=>.nil) (λ_ _ a b e=>by rw[nd.nds,RJ]at e;exact .cons (a e.1) (b e.2)) trivial (λ_ _ _ _=>trivial) trivial (λ_ _ _ _=>trivial) h
theorem aA.uO(h:aA K H vs ds):nd.nds ds=true->oi K H vs ds:=by
 induction ds generalizing vs with
 |nil=>cases h;exact λ_=>.nil
 |cons d ds ih=>
  cases h with
  |cons a b=>intro e;rw[nd.nds,RJ]at e;exact .cons (a.uO e.1) (ih b e.2)
noncomputable def kN (H H':Hp):Prop:=∀a xs,H a=some (.tup xs)->H' a=some (.tup xs)
theorem Rp.lf(s:kN H H')(h:Rp K H v d):Dv.lf d=true->Rp K H' v d:=
 Rp.rec (motive_1:=λv d _=>Dv.lf d=true->Rp K H' v d) (motive_2:=λvs ds _=>Dv.lf.lfs ds=true->aA K H' vs ds) (motive_3:=λ_ _ _=>True) (motive_4:=λ_ _ _=>True)
  (λ_=>.bg) (λb _=>.bl b) (λi _=>.int i) (λx _=>.str x) (λ_ _ _ e=>by rw[Dv.lf]at e;cases e) (λh _ ih e=>.tup (s _ _ h) (ih (by rw[Dv.lf]at e;exact e))) (λ_ _ _ e=>by rw[Dv.lf]at e;cases e) (λ_ _ _ e=>by rw[Dv.lf]at e;cases e) (λ_ _ e=>by rw[Dv.lf]at e;cases e)
  (λ_=>.nil) (λ_ _ a b e=>by rw[Dv.lf.lfs,RJ]at e;exact .cons (a e.1) (b e.2)) trivial (λ_ _ _ _=>trivial) trivial (λ_ _ _ _=>trivial) h
theorem aA.lf(s:kN H H')(h:aA K H vs ds):Dv.lf.lfs ds=true->aA K H' vs ds:=by
 induction ds generalizing vs with
 |nil=>cases h;exact λ_=>.nil
 |cons d ds ih=>
  cases h with
  |cons a b=>intro e;rw[Dv.lf.lfs,RJ]at e;exact .cons (a.lf s e.1) (ih b e.2)
section
variable{K:Frag}{H:Hp}
def aA.len(h:aA K H vs ds):vs.length=ds.length:=by
 induction ds generalizing vs with
 |nil=>cases h;rfl
 |cons d ds ih=>cases h with|cons a b=>exact congrArg (·+1) (ih b)
def aA.get{i:Nat}(h:aA K H vs ds)(e:ds[i]?=some d):∃v,vs[i]?=some v/\Rp K H v d:=by
 induction ds generalizing vs i with
 |nil=>cases e
 |cons d' ds ih=>
  cases h with
  |cons a b=>
   cases i with
   |zero=>cases e;exact⟨_,rfl,a⟩
   |succ i=>obtain⟨v,h1,h2⟩:=ih (i:=i) b (by simpa using e);exact⟨v,by simpa using h1,h2⟩
def aA.PJ{i:Nat}(h:aA K H vs ds)(e:vs[i]?=some v):∃d,ds[i]?=some d/\Rp K H v d:=by
 induction ds generalizing vs i with
 |nil=>cases h;cases e
 |cons d' ds ih=>
  cases h with
  |cons a b=>
   cases i with
   |zero=>cases e;exact⟨_,rfl,a⟩
   |succ i=>obtain⟨d,h1,h2⟩:=ih (i:=i) b (by simpa using e);exact⟨d,by simpa using h1,h2⟩
def aA.app(h:aA K H vs ds)(s:aA K H us es):aA K H (vs++us) (ds++es):=by
 induction ds generalizing vs with
 |nil=>cases h;exact s
 |cons d ds ih=>cases h with|cons a b=>exact .cons a (ih b)
def aA.snoc(r:aA K H vs ds)(h:Rp K H v d):aA K H (vs++[v]) (ds++[d]):=r.app (.cons h .nil)
theorem aA.take(n:Nat)(h:aA K H vs ds):aA K H (vs.take n) (ds.take n):=by
 induction ds generalizing vs n with
 |nil=>cases h;cases n<;>exact .nil
 |cons d ds ih=>
  cases h with
  |cons a b=>
   cases n with
   |zero=>exact .nil
   |succ n=>exact .cons a (ih n b)
theorem aA.drop(n:Nat)(h:aA K H vs ds):aA K H (vs.drop n) (ds.drop n):=by
 induction ds generalizing vs n with
 |nil=>cases h;cases n<;>exact .nil
 |cons d ds ih=>
  cases n with
  |zero=>exact h
  |succ n=>cases h with|cons a b=>exact ih n b
theorem aA.set(h:Rp K H v d) (i:Nat)(r:aA K H vs ds):aA K H (vs.set i v) (ds.set i d):=by
 induction ds generalizing vs i with
 |nil=>cases r;exact .nil
 |cons d' ds ih=>
  cases r with
  |cons a b=>
   cases i with
   |zero=>exact .cons h b
   |succ i=>exact .cons a (ih i b)
def aA.rev(h:aA K H vs ds):aA K H vs.reverse ds.reverse:=by
 induction ds generalizing vs with
 |nil=>cases h;exact .nil
 |cons d ds ih=>
  cases h with
  |cons a b=>rw[List.reverse_cons,List.reverse_cons];exact(ih b).snoc a
end
inductive dU(K:Frag)(H Hm:Hp):List V->WC->WI->Prop
 |nil:dU K H Hm [] [] []
 |kH {x:V}{d:PyData}{xs:List V}{ds:WC}{fp:WI}:zV d=false->Rp K Hm x d->dU K H Hm xs ds fp->dU K H Hm (x::xs) (d::ds) fp
 |own {b:Addr}{ys:List V}{es:WC}{xs:List V}{ds:WC}{fp:WI}:H b=some (.lst ys)->aA K Hm ys es->b∉fp->dU K H Hm xs ds fp->dU K H Hm (.ref b::xs) (.list es::ds) (b::fp)
inductive sj(K:Frag)(H Hm:Hp):List (List Key×V)->List (PyData×PyData)->WI->Prop
 |nil:sj K H Hm [] [] []
 |own {k:List Key}{b:Addr}{ys:List V}{es:WC}{kvs:List (List Key×V)}{ds:Vp}{fp:WI}:H b=some (.lst ys)->aA K Hm ys es->b∉fp->sj K H Hm kvs ds fp->sj K H Hm ((k,.ref b)::kvs) ((.tuple (k.map bD),.list es)::ds) (b::fp)
noncomputable def Qp (h:Heap)(a:Addr)(S:Int->Bool) (n:Nat):Prop:=∃o es ep t,h.get? a=some o/\o.ExactSet/\o.data=.set es ep t/\(∀e∈es.toList,(∃k,Value.isInt k e.2=true/\e.1=hashInt k)/\e.2.scannable=true)/\(∀k,S k=true↔∃e∈es.toList,Value.isInt k e.2=true)
 /\ es.size<scanBound/\t.fits es.size=true/\es.size=n
noncomputable def OR (a:Addr)(ns:WO):HO:=.ext λh=>Qp h a (λk=>decide (k∈ns)) ns.length
noncomputable def Q8 (ns:WO):PyData:=.dict ((.none,.bool true)::ns.map λn=>(.int n,.none))
inductive Own(K:Frag)(H Hm:Hp):Kd->V->PyData->WI->Prop
 |sh {v:V}{d:PyData}:Rp K Hm v d->Own K H Hm .sh v d []
 |ow {p:Bool}{a:Addr}{xs:List V}{ds:WC}:H a=some (.lst xs)->aA K Hm xs ds->Own K H Hm (.ow p) (.ref a) (.list ds) [a]
 |dp {p:Bool}{a:Addr}{xs:List V}{ds:WC}{fp:WI}:H a=some (.lst xs)->a∉fp->dU K H Hm xs ds fp->Own K H Hm (.dp p) (.ref a) (.list ds) (a::fp)
 |dk {p:Bool}{a:Addr}{kvs:List (Key×V)}{ds:Vp}:H a=some (.dK kvs)->dZ K Hm kvs ds->Own K H Hm (.dk p) (.ref a) (.dict ds) [a]
 |dt {p:Bool}{a:Addr}{kvs:List (List Key×V)}{ds:Vp}:H a=some (.dT kvs)->dO K Hm kvs ds->Own K H Hm (.dt p) (.ref a) (.dict ((.none,.none)::ds)) [a]
 |st {p:Bool}{a:Addr}{kvs:List (List Key×V)}{ds:Vp}{fp:WI}:H a=some (.dT kvs)->a∉fp->sj K H Hm kvs ds fp->Own K H Hm (.st p) (.ref a) (.dict ((.none,.none)::ds)) (a::fp)
 |is {p:Bool}{a:Addr}{ns:WO}:H a=some (OR a ns)->Own K H Hm (.st p) (.ref a) (.dict ((.none,.bool true)::ns.map λn=>(.int n,.none))) [a]
section
variable{K:Frag}{H H' Hm Hm':Hp}
def dU.step(s:ah Hm Hm'){xs:List V}{ds:WC}{fp:WI}(i:dU K H Hm xs ds fp):(∀a∈fp,H' a=H a)->dU K H' Hm' xs ds fp:=by
 induction i with
 |nil=>exact λ_=>.nil
 |kH e r _ ih=>exact λh=>.kH e (r.mono s) (ih h)
 |own e r n _ ih=>exact λh=>.own ((h _ RC).trans e) (r.mono s) n (ih λa ha=>h a (RK _ ha))
def dU.live(i:dU K H Hm xs ds fp):∀a∈fp,∃ys,H a=some (.lst ys):=by
 induction i with
 |nil=>exact λ_ h=>absurd h S4
 |kH _ _ _ ih=>exact ih
 |own e _ _ _ ih=>intro a h;rcases RP.mp h with rfl|h;{exact⟨_,e⟩};exact ih a h
def sj.step(s:ah Hm Hm'){xs:List (List Key×V)}{ds:Vp}{fp:WI}(i:sj K H Hm xs ds fp):(∀a∈fp,H' a=H a)->sj K H' Hm' xs ds fp:=by
 induction i with
 |nil=>exact λ_=>.nil
 |own e r n _ ih=>exact λh=>.own ((h _ RC).trans e) (r.mono s) n (ih λa ha=>h a (RK _ ha))
def sj.live(i:sj K H Hm xs ds fp):∀a∈fp,∃ys,H a=some (.lst ys):=by
 induction i with
 |nil=>exact λ_ h=>absurd h S4
 |own e _ _ _ ih=>intro a h;rcases RP.mp h with rfl|h;{exact⟨_,e⟩};exact ih a h
theorem Own.step{k:Kd}{v:V}{d:PyData}{fp:WI}(o:Own K H Hm k v d fp)(s:ah Hm Hm')(h:∀a∈fp,H' a=H a):Own K H' Hm' k v d fp:=by
 cases o with
 |sh r=>exact .sh (r.mono s)
 |ow e r=>exact .ow ((h _ RC).trans e) (r.mono s)
 |dp e n t=>exact .dp ((h _ RC).trans e) n (t.step s λa ha=>h a (RK _ ha))
 |dk e r=>exact .dk ((h _ RC).trans e) (r.mono s)
 |dt e r=>exact .dt ((h _ RC).trans e) (r.mono s)
 |st e n t=>exact .st ((h _ RC).trans e) n (t.step s λa ha=>h a (RK _ ha))
 |is e=>exact .is ((h _ RC).trans e)
noncomputable def oY (u:HO):Prop:=∀xs,u≠.tup xs
def k8:oY (.lst xs):=λ_ z=>by cases z
def uA:oY (.dK xs):=λ_ z=>by cases z
def sF:oY (.dT xs):=λ_ z=>by cases z
def QC:oY (OR a ns):=λ_ z=>by cases z
theorem Own.live(o:Own K H Hm k v d fp):∀a∈fp,∃u,H a=some u/\oY u:=by
 intro a ha;cases o with
 |sh _=>cases ha
 |ow e _=>rw[RE.mp ha];exact⟨_,e,by first|exact k8|exact uA|exact sF⟩
 |dp e _ t=>rcases RP.mp ha with rfl|ha;{exact⟨_,e,by first|exact k8|exact uA|exact sF⟩};obtain⟨ys,e⟩:=t.live a ha;exact⟨_,e,by first|exact k8|exact uA|exact sF⟩
 |dk e _=>rw[RE.mp ha];exact⟨_,e,by first|exact k8|exact uA|exact sF⟩
 |dt e _=>rw[RE.mp ha];exact⟨_,e,by first|exact k8|exact uA|exact sF⟩
 |is e=>rw[RE.mp ha];exact⟨_,e,QC⟩
 |st e _ t=>rcases RP.mp ha with rfl|ha;{exact⟨_,e,by first|exact k8|exact uA|exact sF⟩};obtain⟨ys,e⟩:=t.live a ha;exact⟨_,e,by first|exact k8|exact uA|exact sF⟩
def dU.Qz(s:ah Hm Hm')(i:dU K H Hm xs ds fp):(∀a∈fp,Hm' a=H a)->aA K Hm' xs ds:=by
 induction i with
 |nil=>exact λ_=>.nil
 |kH _ r _ ih=>exact λh=>.cons (r.mono s) (ih h)
 |own e r _ _ ih=>exact λh=>.cons (.lst (.inl (.inl ((h _ RC).trans e))) (r.mono s)) (ih λa ha=>h a (RK _ ha))
def Own.rp(o:Own K H Hm k v d fp)(hk:k.rd=true)(s:ah Hm Hm')(h:∀a∈fp,Hm' a=H a):Rp K Hm' v d:=by
 cases o with
 |sh r=>exact r.mono s
 |ow e r=>exact .lst (.inl (.inl ((h _ RC).trans e))) (r.mono s)
 |dp e _ t=>exact .lst (.inl (.inl ((h _ RC).trans e))) (t.Qz s λa ha=>h a (RK _ ha))
 |dk e r=>exact .dk ((h _ RC).trans e) (r.mono s)
 |dt e r=>exact .dt ((h _ RC).trans e) (r.mono s)
 |st _ _ _=>cases hk
 |is _=>cases hk
def aA.xr(s:kN Hm Hm')(r:aA K Hm xs ds)(h:ds.all Dv.lf=true):aA K Hm' xs ds:=r.lf s (by rw[uo];exact h)
def dU.flat(s:kN Hm Hm')(i:dU K H Hm xs ds fp):(ds.all λd=>match d with | .list es=>es.all Dv.lf|d=>Dv.lf d)=true->dU K H Hm' xs ds fp:=by
 induction i with
 |nil=>exact λ_=>.nil
 |@kH x d xs ds fp e r t ih=>intro h;rw[RN,RJ]at h;refine .kH e (r.lf s ?_) (ih h.2);have h1:=h.1;cases d<;>first|exact h1|cases e
 |own e r n t ih=>intro h;rw[RN,RJ]at h;exact .own e (r.xr s h.1) n (ih h.2)
def dZ.flat(s:kN Hm Hm')(r:dZ K Hm kvs ds)(h:(ds.all λkv=>Dv.lf kv.2)=true):dZ K Hm' kvs ds:=by
 induction kvs generalizing ds with
 |nil=>cases r;exact .nil
 |cons kv kvs ih=>
  cases r with
  |cons a b=>rw[RN,RJ]at h;exact .cons (a.lf s h.1) (ih b h.2)
def dO.flat(s:kN Hm Hm')(r:dO K Hm kvs ds)(h:(ds.all λkv=>Dv.lf kv.2)=true):dO K Hm' kvs ds:=by
 induction kvs generalizing ds with
 |nil=>cases r;exact .nil
 |cons kv kvs ih=>
  cases r with
  |cons a b=>rw[RN,RJ]at h;exact .cons (a.lf s h.1) (ih b h.2)
theorem Own.flat(o:Own K H Hm k v d fp)(s:kN Hm Hm')(h:Dv.flat k d=true):Own K H Hm' k v d fp:=by
 cases o with
 |sh r=>exact .sh (r.lf s h)
 |ow e r=>exact .ow e (r.xr s h)
 |dp e n t=>exact .dp e n (t.flat s h)
 |dk e r=>exact .dk e (r.flat s h)
 |dt e r=>have h:(Dv.lf .none&&_)=true:=h;rw[RJ]at h;exact .dt e (r.flat s h.2)
 |st _ _ _=>cases h
 |is _=>cases h
end
noncomputable def OE (o p:Option HO):Prop:=o=p\/(p=none/\∃xs,o=some (.tup xs))
def OE.rfl':OE o o:=.inl rfl
def OE.trans(h:OE a b)(k:OE b c):OE a c:=by rcases h with rfl|⟨rfl,h⟩;{exact k};rcases k with rfl|⟨rfl,_⟩;{exact .inr ⟨rfl,h⟩};exact .inr ⟨rfl,h⟩
def OE.off{a:Addr}(h:OE (Hm a) p)(hp:p=none)(s:ah Hm H)(hu:H a=some u)(nt:oY u):Hm a=none:=by rcases h with e|⟨_,xs,e⟩;{rw[e,hp]};have:=s _ _ e;rw[hu]at this;cases this;exact absurd rfl (nt xs)
structure Gh where
 H0:Hp
 dG:Hp
 pins:List (Nat×Addr)
noncomputable def Gh.M (g:Gh):WI:=g.pins.map (·.2)
structure Rl(K:Frag)(g:Gh)(E:En)(U:St)(H Hm:Hp)(F:Nat->WI):Prop where
 len:E.length=U.length
 sub:ah Hm H
 slot:∀i k d,E[i]?=some (some (k,d))->∃v,U[i]?=some (some v)/\Own K H Hm k v d (F i)
 off:∀i a,a∈F i->Hm a=none
 bu:∀i a,a∈F i->∃u,H a=some u/\oY u
 aG:∀i j a,a∈F i->a∈F j->i=j
 fr:∀p o,p∉g.M->g.H0 p=some o->H p=some o
 new:∀i a,a∈F i->a∈g.M\/g.H0 a=none
 pin:∀q∈g.pins,U[q.1]?=some (some (.ref q.2))/\∃ds,E[q.1]?=some (some (.ow true,.list ds))
 old:∀a,g.H0 a≠none->OE (Hm a) (g.dG a)
structure Tm(K:Frag)(g:Gh)(F:Nat->WI)(H Hm:Hp)(k:Kd) (v:V)(d:PyData)(fp:WI):Prop where
 own:Own K H Hm k v d fp
 off:∀a∈fp,Hm a=none
 aG:∀a∈fp,∀i,a∉F i
 new:∀a∈fp,g.H0 a=none
section
variable{K:Frag}{g:Gh}{E:En}{U:St}{H H' Hm Hm':Hp}{F:Nat->WI}
def Rl.grow(R:Rl K g E U H Hm F)(h:ah H H')(s:ah Hm Hm')(b:ah Hm' H')(o:∀i a,a∈F i->Hm' a=none)(od:∀a,g.H0 a≠none->OE (Hm' a) (Hm a)):Rl K g E U H' Hm' F where
 len:=R.len
 sub:=b
 slot:=λi k d e=>by
  obtain⟨v,h1,h2⟩:=R.slot i k d e;refine⟨v,h1,h2.step s λa ha=>?_⟩
  obtain⟨u,hu,_⟩:=h2.live a ha;rw[hu];exact h _ _ hu
 off:=o
 bu:=λi a ha=>let⟨u,hu,n⟩:=R.bu i a ha;⟨u,h _ _ hu,n⟩
 aG:=R.aG
 fr:=λp o hp ho=>h _ _ (R.fr p o hp ho)
 new:=R.new
 pin:=R.pin
 old:=λa ha=>(od a ha).trans (R.old a ha)
def Rl.more(R:Rl K g E U H Hm F)(s:ah Hm Hm')(b:ah Hm' H)(o:∀i a,a∈F i->Hm' a=none)(od:∀a,g.H0 a≠none->OE (Hm' a) (Hm a)):Rl K g E U H Hm' F:=R.grow (ah.refl _) s b o od
def Rl.wY(R:Rl K g E U H Hm F)(hq:q∈g.pins):F q.1=[q.2]:=by obtain⟨h1,ds,h2⟩:=R.pin q hq;obtain⟨v,h3,h4⟩:=R.slot _ _ _ h2;rw[h1]at h3;cases h3;generalize F q.1=fi at h4;cases h4;rfl
def Rl.notM(R:Rl K g E U H Hm F){i:Nat}(e:E[i]?=some (some (k,d)))(hk:k.pin=false){a:Addr}(ha:a∈F i):g.H0 a=none:=by rcases R.new i a ha with m|m;{obtain⟨q,hq,rfl⟩:=RG.mp m;have:=R.aG i q.1 q.2 ha (by rw[R.wY hq];exact RC);obtain⟨_,ds,h2⟩:=R.pin q hq;rw[<-this,e]at h2;cases h2;cases hk};exact m
def Rl.Oo(R:Rl K g E U H Hm F){a:Addr}(ha:a∈g.M):H a≠none:=λz=>by obtain⟨q,hq,rfl⟩:=RG.mp ha;obtain⟨u,hu,_⟩:=R.bu q.1 q.2 (by rw[R.wY hq];exact RC);rw[z]at hu;cases hu
def Rl.pP(R:Rl K g E U H Hm F){a:Addr}(ha:g.H0 a≠none):H a≠none:=λz=>by
 by_cases m:a∈g.M;{exact R.Oo m z};cases e:g.H0 a with
 |none=>exact ha e
 |some o=>rw[R.fr a o m e]at z;cases z
def Rl.fresh(R:Rl K g E U H Hm F){p:Addr}(h:H p=none){i:Nat}:p∉F i:=λz=>by obtain⟨u,hu,_⟩:=R.bu i p z;rw[h]at hu;cases hu
def Rl.sV(R:Rl K g E U H Hm F){p:Addr}(h:H p=none):Hm p=none:=by
 cases e:Hm p with
 |none=>rfl
 |some o=>rw[R.sub _ _ e]at h;cases h
def Rl.fK(R:Rl K g E U H Hm F){p:Addr}(h:H p=none):g.H0 p=none:=by
 cases e:g.H0 p with
 |none=>rfl
 |some o=>exact absurd h (R.pP (by rw[e];simp))
end
open Classical in
noncomputable def lend (Hm H:Hp)(fp:WI):Hp:=λa=>if a∈fp then H a else Hm a
open Classical in
noncomputable def back (Hm:Hp)(fp:WI):Hp:=λa=>if a∈fp then none else Hm a
section
variable{Hm H:Hp}{fp:WI}{a:Addr}
def dY(h:a∈fp):lend Hm H fp a=H a:=by unfold lend;rw[if_pos h]
def cL(h:a∉fp):lend Hm H fp a=Hm a:=by unfold lend;rw[if_neg h]
def iS(h:a∈fp):back Hm fp a=none:=by unfold back;rw[if_pos h]
def cR(h:a∉fp):back Hm fp a=Hm a:=by unfold back;rw[if_neg h]
def gS(n:∀a∈fp,Hm a=none):ah Hm (lend Hm H fp):=λb o e=>by
 have:b∉fp:=λz=>by rw[n b z]at e;cases e
 rw[cL this];exact e
def iO(s:ah Hm H):ah (lend Hm H fp) H:=λb o e=>by by_cases h:b∈fp;{rw[dY h]at e;exact e};rw[cL h]at e;exact s _ _ e
def w9(s:ah Hm H):ah (back Hm fp) H:=λb o e=>by by_cases h:b∈fp;{rw[iS h]at e;cases e};rw[cR h]at e;exact s _ _ e
end
section
variable{K:Frag}{g:Gh}{E:En}{U:St}{H H' Hm Hm':Hp}{F:Nat->WI}{k:Kd}{v:V}{d:PyData}{fp:WI}
def Tm.dW(T:Tm K g F H Hm k v d fp)(R:Rl K g E U H Hm F)(hk:k.fz=true):∃Hm',ah Hm Hm'/\Rl K g E U H Hm' F/\Rp K Hm' v d:=by have up:=gS (Hm:=Hm) (H:=H) T.off;refine⟨lend Hm H fp,up,R.more up (iO R.sub) (λi a ha=>?_) λa ha=>.inl (cL λz=>ha (T.new a z)),T.own.rp (by cases k<;>first|rfl|cases hk) up λa ha=>dY ha⟩;rw[cL λz=>T.aG a z i ha];exact R.off i a ha
def aF{α:Type}{l:List α}{i:Nat}{a:α}(h:i<l.length):(l.set i a)[i]?=some a:=by rw[SV];simp[h]
def ak{α:Type}{l:List α}{i j:Nat}{a:α}(h:i≠j):(l.set i a)[j]?=l[j]?:=by rw[SV];simp[h]
def Rl.put(R:Rl K g E U H Hm F)(T:Tm K g F H Hm k v d fp){i:Nat}(o:bJ E i=true):Rl K g (E.set i (some (k,d))) (U.set i (some v)) H Hm (λj=>if j=i then fp else F j) where
 len:=by rw[Rf,Rf];exact R.len
 sub:=R.sub
 slot:=λj k' d' e=>by
  by_cases c:j=i
  .subst c;have hl:j<E.length:=by
    rcases SA j E.length with h|h
    .exact h
    .rw[Rb (by rw[Rf];exact h)]at e;cases e
   rw[aF hl]at e;cases e;exact⟨v,aF (R.len▸hl),by rw[if_pos rfl];exact T.own⟩
  .rw[ak (Ne.symm c)]at e;obtain⟨u,h1,h2⟩:=R.slot j k' d' e;exact⟨u,by rw[ak (Ne.symm c)];exact h1,by rw[if_neg c];exact h2⟩
 off:=λj a ha=>by
  by_cases c:j=i
  .rw[if_pos c]at ha;exact T.off a ha
  .rw[if_neg c]at ha;exact R.off j a ha
 bu:=λj a ha=>by
  by_cases c:j=i
  .rw[if_pos c]at ha;exact T.own.live a ha
  .rw[if_neg c]at ha;exact R.bu j a ha
 aG:=λj l a h1 h2=>by
  by_cases c:j=i
  .rw[if_pos c]at h1
   by_cases c':l=i
   .rw[c,c']
   .rw[if_neg c']at h2;exact absurd h2 (T.aG a h1 l)
  .rw[if_neg c]at h1
   by_cases c':l=i
   .rw[if_pos c']at h2;exact absurd h1 (T.aG a h2 j)
   .rw[if_neg c']at h2;exact R.aG j l a h1 h2
 fr:=R.fr
 new:=λj a ha=>by
  by_cases c:j=i
  .rw[if_pos c]at ha;exact .inr (T.new a ha)
  .rw[if_neg c]at ha;exact R.new j a ha
 pin:=λq hq=>by
  obtain⟨h1,ds,h2⟩:=R.pin q hq;have c:i≠q.1:=λz=>by
   unfold bJ at o;rw[z,h2]at o;cases o
  exact⟨by rw[ak c];exact h1,ds,by rw[ak c];exact h2⟩
 old:=R.old
theorem Tm.sh(h:Rp K Hm v d):Tm K g F H Hm .sh v d []:=⟨.sh h,(λ_ z=>by cases z),(λ_ z=>by cases z),λ_ z=>by cases z⟩
def Rl.chg(R:Rl K g E U H Hm F){i:Nat}{p:Bool}{ds es:WC}{ys:List V}(e:E[i]?=some (some (.ow p,.list ds)))(r:aA K Hm ys es):∃a xs,U[i]?=some (some (.ref a))/\H a=some (.lst xs)/\aA K Hm xs ds/\Hm a=none/\Rl K g (E.set i (some (.ow p,.list es))) U (upd H a (.lst ys)) Hm F:=by
 obtain⟨v,h1,h2⟩:=R.slot i _ _ e;generalize hf:F i=fi at h2;cases h2 with
 |@ow _ a xs _ ha hr=>
  have ma:a∈F i:=by rw[hf];exact RC
  have na:=R.off i a ma;have up:∀b,b≠a->upd H a (.lst ys) b=H b:=λb hb=>aj hb;have li:i<E.length:=by rcases SA i E.length with h|h;{exact h};rw[Rb h]at e;cases e
  refine⟨a,xs,h1,ha,hr,na,?_⟩;exact {
   len:=by rw[Rf];exact R.len
   sub:=λb o hb=>by
    have:b≠a:=λz=>by rw[z,na]at hb;cases hb
    rw[up b this];exact R.sub b o hb
   slot:=λj k' d' e'=>by
    by_cases c:j=i
    .subst c;rw[aF li]at e';cases e';exact⟨_,h1,by rw[hf];exact .ow aC r⟩
    .rw[ak (Ne.symm c)]at e';obtain⟨u,g1,g2⟩:=R.slot j k' d' e';refine⟨u,g1,g2.step (ah.refl _) λb hb=>up b λz=>c (R.aG j i a (z▸hb) ma)⟩
   off:=R.off
   bu:=λj b hb=>by
    by_cases c:b=a
    .rw[c];exact⟨_,aC,k8⟩
    .rw[up b c];exact R.bu j b hb
   aG:=R.aG
   fr:=λq o hq ho=>by
    have:q≠a:=λz=>by
     rcases R.new i a ma with y|y
     .exact hq (z▸y)
     .rw[z,y]at ho;cases ho
    rw[up q this];exact R.fr q o hq ho
   new:=R.new
   pin:=λq hq=>by
    obtain⟨g1,ds',g2⟩:=R.pin q hq
    by_cases c:i=q.1
    .rw[<-c]at g1 g2⊢;rw[e]at g2;cases g2;exact⟨g1,es,aF li⟩
    .exact⟨g1,ds',by rw[ak c];exact g2⟩
   old:=R.old }
theorem Rl.cX(R:Rl K g E U H Hm F){i:Nat}{E':En}{d:PyData}{k:Kd}(e:E[i]?=some (some (k,d)))(h:Dv.cX E i=some E'):∃v Hm' F',U[i]?=some (some v)/\ah Hm Hm'/\Rl K g E' U H Hm' F'/\Rp K Hm' v d:=by
 unfold Dv.cX at h;rw[e]at h;have h:(if k.fz=true then some (E.set i (some (.sh,d)))else none)=some E':=h;by_cases hk:k.fz=true
 .rw[if_pos hk]at h;cases h;obtain⟨v,h1,h2⟩:=R.slot i k d e;have up:=gS (Hm:=Hm) (H:=H) (fp:=F i) (R.off i);have rp:=h2.rp (by cases k<;>first|rfl|cases hk) up λa ha=>dY ha;have li:i<E.length:=by rcases SA i E.length with h|h;{exact h};rw[Rb h]at e;cases e
  refine⟨v,lend Hm H (F i),λj=>if j=i then []else F j,h1,up,?_,rp⟩;exact {
   len:=by rw[Rf];exact R.len
   sub:=iO R.sub
   slot:=λj k' d' e'=>by
    by_cases c:j=i
    .subst c;rw[aF li]at e';cases e';exact⟨v,h1,by rw[if_pos rfl];exact .sh rp⟩
    .rw[ak (Ne.symm c)]at e';obtain⟨u,g1,g2⟩:=R.slot j k' d' e';exact⟨u,g1,by rw[if_neg c];exact g2.step up λ_ _=>rfl⟩
   off:=λj a ha=>by
    by_cases c:j=i
    .rw[if_pos c]at ha;cases ha
    .rw[if_neg c]at ha;rw[cL λz=>c (R.aG j i a ha z)]
     exact R.off j a ha
   bu:=λj a ha=>by
    by_cases c:j=i
    .rw[if_pos c]at ha;cases ha
    .rw[if_neg c]at ha;exact R.bu j a ha
   aG:=λj l a g1 g2=>by
    by_cases c:j=i
    .rw[if_pos c]at g1;cases g1
    .rw[if_neg c]at g1
     by_cases c':l=i
     .rw[if_pos c']at g2;cases g2
     .rw[if_neg c']at g2;exact R.aG j l a g1 g2
   fr:=R.fr
   new:=λj a ha=>by
    by_cases c:j=i
    .rw[if_pos c]at ha;cases ha
    .rw[if_neg c]at ha;exact R.new j a ha
   pin:=λq hq=>by
    obtain⟨g1,ds',g2⟩:=R.pin q hq;have c:i≠q.1:=λz=>by
     rw[<-z,e]at g2;cases g2;cases hk
    exact⟨g1,ds',by rw[ak c];exact g2⟩
   old:=λa ha=>by
    rw[cL λz=>ha (R.notM e (by cases k<;>first|rfl|(rename_i p;cases p<;>first|rfl|cases hk)|cases hk) z)]
    exact R.old a ha }
 rw[if_neg hk]at h;cases h
end
end Dv
namespace L2
open PySem PySem.Spec PyProof.Rows
noncomputable def kZ (h:Heap)(e C T:Addr)(dd:WD):Prop:=
 ∃(t0:Addr)(v2 v3 v4 v5:Value)(sl:Vq)(oT:Obj)(ts:WB),h.get? e=some ⟨.ref C,dd,.fields #[.ref t0,.ref T,v2,v3,v4,v5],sl⟩/\T≠e/\h.get? T=some oT/\oT.data=.fields ts/\ts[3]?=some .none
structure Way(fs:WI)(e T:Addr)(h h':Heap):Prop where
 keep:∀b o,b≠e->b≠T->b∉fs->h.get? b=some o->h'.get? b=some o
 slot:∀b o,b≠e->b≠T->h.get? b=some o->∃sl,h'.get? b=some { o with slots:=sl }
section
variable{M:Model}{A:Around}{E:Vr}{s:Shared}
def uC{L e C t0 T0:Addr}{hadNext:Bool}(hfr:A.frames=some (env::outer))(hl:s.heap.FunFrames base (env::outer))(hf:env.frame=some L)(he:s.heap.get? e=some ⟨.ref C,dd,.fields #[.ref t0,w1,v2,v3,v4,v5],sl0⟩)(q:∀h' T,s.heap.get? T=none->Way (frs (env::outer)) e T s.heap h'->kZ h' e C T dd->Q () { s with heap:=h' }) :
  wpAny M A (do let a <-frameOf env;let pl <-entryPlaceOf L hadNext;let b <-EntryCells.newEntry head a .none (rawInt L) .none pl;setField (.ref e) 1 b) (λ_ s'=>wpAny M A (setFlight (.ref e) none) Q E s') E s:=by
 have ene:e∉frs (env::outer):=λhm=>by obtain⟨_,o,ho,hnf⟩:=hl.mem hm;rw[he]at ho;cases ho;exact hnf _ rfl
 refine Q9 (wpAny_frameOf_fun hfr hl hf λh1 hs1=>Q9 (wpAny_entryPlaceOf λpl hpl=>?_))
 unfold EntryCells.newEntry newFields;refine Q9 (Sl ?_ (hpl.sizeOk5 _ _ _ _ _));have he1:h1.get? e=some ⟨.ref C,dd,.fields #[.ref t0,w1,v2,v3,v4,v5],sl0⟩:=(hs1.2.1 e ene).trans he;generalize hO:({ cls:=.type "traceback",dict:=none,data:=.fields ([head,.ref L,.none,rawInt L,.none]++(if pl.isEmpty then List.replicate 6 Value.none else pl)).toArray }:Obj)=oT
 have he2:=Ra (h:=h1) oT he1;refine UP he2 rfl (by show 1<6;decide) ?_
 have ne:h1.objs.size≠e:=U1 (RL he1);have hdT:oT.data=.fields ([head,.ref L,.none,rawInt L,.none]++(if pl.isEmpty then List.replicate 6 Value.none else pl)).toArray:=by rw[<-hO]
 have fr:oT.isFreed=false:=by rw[<-hO];rfl
 have he3:((h1.push oT).update e (Obj.mapFields (·.setIfInBounds 1 (Value.ref h1.objs.size)))).get? e=some ⟨.ref C,dd,.fields #[.ref t0,.ref h1.objs.size,v2,v3,v4,v5],sl0⟩:=U5 _ he2 rfl;have hT3:((h1.push oT).update e (Obj.mapFields (·.setIfInBounds 1 (Value.ref h1.objs.size)))).get? h1.objs.size=some oT:=(Sf _ _ (Ne.symm ne)).trans (Rx h1 fr);unfold setFlight;refine Q9 (TF he3 rfl (x:=.ref h1.objs.size) rfl ?_);rw[if_pos (show(Value.ref h1.objs.size != Value.none)=true by simp)]
 have sz:s.heap.objs.size=h1.objs.size:=hs1.1.symm;refine UP hT3 hdT (by simp only[RQ,RM,RT,S5]<;>lia) (q _ h1.objs.size ?_ ⟨λb o b1 b2 b3 hb=>?_,λb o b1 b2 hb=>?_⟩ ?_)
 .exact VD (UQ sz)
 .have hb1:h1.get? b=some o:=(hs1.2.1 b b3).trans hb;rw[Sf _ _ (Ne.symm b2),Sf _ _ (Ne.symm b1)];exact Ra _ hb1
 .obtain⟨sl,hb1⟩:=hs1.2.2 b o hb;refine⟨sl,?_⟩;rw[Sf _ _ (Ne.symm b2),Sf _ _ (Ne.symm b1)];exact Ra _ hb1
 .have dt:=Uo hdT (·.setIfInBounds 3 ((none:WD).elim Value.none λf=>rawInt f))
  refine⟨t0,v2,v3,v4,v5,sl0,_,_,?_,ne,U5 _ hT3 (VN dt),dt,?_⟩
  .rw[Sf _ _ ne];exact he3
  .first|(simp;done)|(rcases hpl with rfl|⟨_,_,_,_,_,_,_,rfl⟩<;>simp)
def leave_new{L e C t0:Addr}(hfr:A.frames=some (env::outer))(hl:s.heap.FunFrames base (env::outer))(hf:env.frame=some L)(he:s.heap.get? e=some ⟨.ref C,dd,.fields #[.ref t0,.none,v2,v3,v4,v5],sl0⟩)(q:∀h' T,s.heap.get? T=none->Way (frs (env::outer)) e T s.heap h'->kZ h' e C T dd->Q () { s with heap:=h' }):wpAny M A (leaving env (.ref e)) Q E s:=by unfold leaving noteFrame;simp only[hf];refine Q9 (Q9 (TF he rfl (x:=.none) rfl ?_));rw[if_neg (show ¬((Value.none != Value.none)=true)by decide)];exact uC (T0:=e) hfr hl hf he q
def Gb{L e C T:Addr}(hfr:A.frames=some (env::outer))(hl:s.heap.FunFrames base (env::outer))(hf:env.frame=some L)(ho:kZ s.heap e C T dd)(q:∀h' T2,s.heap.get? T2=none->(∀b o,b≠e->b≠T->b≠T2->b∉frs (env::outer)->s.heap.get? b=some o->h'.get? b=some o)->(∀b o,b≠e->b≠T->b≠T2->s.heap.get? b=some o->∃sl,h'.get? b=some { o with slots:=sl })->kZ h' e C T2 dd->Q () { s with heap:=h' }):wpAny M A (leaving env (.ref e)) Q E s:=by
 obtain⟨t0,v2,v3,v4,v5,sl0,oT,ts,he,hTe,hT,hdT,h3⟩:=ho;unfold leaving noteFrame;simp only[hf];refine Q9 (Q9 (TF he rfl (x:=.ref T) rfl ?_));rw[if_pos (show(Value.ref T != Value.none)=true by simp)];refine Q9 (TF hT hdT h3 ?_);rw[if_neg (show ¬((Value.none==rawInt L)=true)by simp[rawInt])];refine Q9 (UP hT hdT (Up.mp h3).1 ?_);have other:∀b,b≠T->(s.heap.update T (Obj.mapFields (·.setIfInBounds 3 Value.none))).get? b=s.heap.get? b:=λb hb=>Sf _ _ (Ne.symm hb);have noRec:∀b o,s.heap.get? b=some o->(∀vs,o.data≠.fields vs)->b≠T:=λb o hb hnf z=>by rw[z,hT]at hb;cases hb;exact hnf ts hdT
 refine uC (s:={ s with heap:=s.heap.update T (Obj.mapFields (·.setIfInBounds 3 Value.none)) }) (T0:=T) hfr (hl.of_keeps λb o hb hnf=>⟨o,(other b (noRec b o hb hnf)).trans hb,rfl⟩) hf ((other e (Ne.symm hTe)).trans he) λh' T2 n2 W O=>?_;have n2':s.heap.get? T2=none:=by
  cases c:s.heap.get? T2 with
  |none=>rfl
  |some o=>exfalso;by_cases z:T2=T;{subst z;rw[U5 _ hT (VN (Uo hdT _))]at n2;cases n2};rw[show({ s with heap:=s.heap.update T (Obj.mapFields (·.setIfInBounds 3 Value.none)) }:Shared).heap.get? T2=s.heap.get? T2 from other T2 z,c]at n2;cases n2
 exact q h' T2 n2' (λb o b1 b2 b3 b4 hb=>W.keep b o b1 b3 b4 ((other b b2).trans hb)) (λb o b1 b2 b3 hb=>W.slot b o b1 b3 ((other b b2).trans hb)) O
end
end L2
namespace L2
open PySem PySem.Spec PyProof.Rows PySem.W
noncomputable def eE (P:Program)(w:World):kW:=λouter H s E e s'=>
 ∃a C T dd H',e=.ref a/\s'.os=s.os/\AllBare s'.gens/\Un (frs outer) [] H H' s.heap s'.heap/\cS P w H' s'.heap/\kZ s'.heap a C T dd/\s.heap.get? T=none/\H' T=none/\s.heap.get? a=none/\H' a=some (.ext (l0 a C dd))/\E (.ref C) (some a) H'
def kZ.Qx{e C T:Addr}(o:kZ h e C T dd):l0 e C dd h:=by obtain⟨t0,v2,v3,v4,v5,sl,_,_,he,_⟩:=o;exact⟨t0,_,v2,v3,v4,v5,sl,he⟩
def IS{P:Program}{w:World}{H:Hp}{h h':Heap}{a C:Addr}{dd:WD}{fs:WI}{N:Addr->Prop}(ok:cS P w H h)(ha:H a=some (.ext (l0 a C dd)))(hN:∀b,N b->H b=none)(hf:∀b∈fs,H b=none)(k:∀b o,b≠a->¬N b->b∉fs->h.get? b=some o->h'.get? b=some o)(x:l0 a C dd h'):cS P w H h':=λb u e=>by by_cases z:b=a;{subst z;rw[ha]at e;cases e;exact D9 x};have nn:∀c v,H c=some v->¬N c/\c∉fs:=λc v q=>⟨λy=>(by rw[hN c y]at q;cases q),λy=>(by rw[hf c y]at q;cases q)⟩;refine(ok b u e).stay (λc v hc r=>k c v ?_ ?_ ?_ r) (λc r=>r) λc xs r=>r;{rcases hc with y|y;{rw[y];exact z};intro q;rw[q,ha]at y;cases y};{rcases hc with y|y;{rw[y];exact(nn b u e).1};exact(nn c _ y).1};rcases hc with y|y;{rw[y];exact(nn b u e).2};exact(nn c _ y).2
section
variable{CX:kW}{P:Program}{w:World}{K:Frag}{mg:Vt}{base:Heap}{N:WQ}{qual:Str}{scope:Scope}{f:Addr}{cd:Value}{A:Around}{outer:List Env}{s0:Shared}{H0:Hp}{E:XK}
def yV{pins:Vu}{U:St}{H:Hp}{s:Shared}{a C T:Addr}{dd:WD}{h':Heap}{Nw:Addr->Prop}(I:Inv (fX CX P w K mg base N qual scope f cd A outer s0 H0 E) pins U H s)(ha:H a=some (.ext (l0 a C dd)))(na:s0.heap.get? a=none)(hN:∀b,Nw b->H b=none)(hN0:∀b,Nw b->s0.heap.get? b=none)(hT:Nw T)(k:∀b o,b≠a->¬Nw b->b∉frs (envOfC qual scope s0.heap.objs.size f cd::outer)->s.heap.get? b=some o->h'.get? b=some o)(sl:∀b o,b≠a->¬Nw b->s.heap.get? b=some o->∃sl,h'.get? b=some { o with slots:=sl })(O:kZ h' a C T dd)(q:E (.ref C) (some a) H):eE P w outer H0 s0 E (.ref a) { s with heap:=h' }:=by
 have B:Un (frs outer) [] H0 H s0.heap s.heap:=I.base;have old:∀b o,s0.heap.get? b=some o->b≠a/\¬Nw b:=λb o e=>⟨(λz=>by rw[z,na]at e;cases e),λz=>by rw[hN0 b z]at e;cases e⟩;have notloc:∀b o,s0.heap.get? b=some o->b∉frs outer->b∉frs (envOfC qual scope s0.heap.objs.size f cd::outer):=λb o e nb z=>by
  have z2:b∈(envOfC qual scope s0.heap.objs.size f cd).frame.toList++frs outer:=by have:frs (envOfC qual scope s0.heap.objs.size f cd::outer)=s0.heap.objs.size::frs outer:=rfl;rw[this]at z;exact z
  rcases RY.mp z2 with y|y
  .have y:some s0.heap.objs.size=some b:=by
    have y0:(envOfC qual scope s0.heap.objs.size f cd).frame=some b:=by simpa using y
    exact y0
   have y:s0.heap.objs.size=b:=Option.some.inj y;exact absurd (RL e) (by rw[<-y];exact S7 _)
  exact nb y
 refine⟨a,C,T,dd,H,rfl,I.os,I.bare,⟨λb o e n nf nx=>?_,λb o e n nf nx=>?_,λb o e n nx=>B.free b o e n nx,λb o e nx=>?_,B.tups,B.kD,B.lz⟩,?_,O,hN0 T hT,hN T hT,na,ha,q⟩;{exact k b o (old b o e).1 (old b o e).2 (notloc b o e nf) (B.keep b o e n nf nx)};{obtain⟨sl1,e1⟩:=B.slot b o e n nf nx;obtain⟨sl2,e2⟩:=sl b _ (old b o e).1 (old b o e).2 e1;exact⟨sl2,e2⟩};{obtain⟨o1,e1⟩:=B.there b o e nx;obtain⟨sl2,e2⟩:=sl b _ (old b o e).1 (old b o e).2 e1;exact⟨_,e2⟩};exact IS I.hok ha hN (I.ux) (λb o b1 b2 b3 e=>k b o b1 b2 b3 e) O.Qx
def KL{a C t0:Addr}(I:Inv (fX (eE P w) P w K mg base N qual scope f cd A outer s0 H0 E) pins U H s)(ha:H a=some (.ext (l0 a C dd)))(he:s.heap.get? a=some ⟨.ref C,dd,.fields #[.ref t0,.none,v2,v3,v4,v5],sl0⟩)(na:s0.heap.get? a=none)(q:E (.ref C) (some a) H):(fX (eE P w) P w K mg base N qual scope f cd A outer s0 H0 E).xe (.ref a) s:=by
 refine leave_new (base:=base) (L:=s0.heap.objs.size) I.ok.frames I.stack rfl he λh' T nT W O=>?_;have nT0:s0.heap.get? T=none:=by
  cases c:s0.heap.get? T with
  |none=>rfl
  |some o=>obtain⟨o1,e1⟩:=I.base.there T o c (by show T∉([]:WI);simp);rw[e1]at nT;cases nT
 exact yV (Nw:=λb=>b=T) I ha na (λb z=>by rw[z];exact I.lV nT) (λb z=>by rw[z];exact nT0) rfl (λb o b1 b2 b3 e=>W.keep b o b1 b2 b3 e) (λb o b1 b2 e=>W.slot b o b1 b2 e) O q
def aT:Passes (eE P w) (fX (eE P w) P w K mg base N qual scope f cd A outer s0 H0 E) E:=by
 intro pins U H s e s' I h;obtain⟨a,C,T,dd,H',rfl,os,bare,un,hok,O,nT,hT,na,ha,q⟩:=h;have I':=I.Iu (s':=s') (ch:=[]) os un hok bare λb z=>absurd z (by simp);have up:∀b,s.heap.get? b=none->s0.heap.get? b=none:=λb n=>by
  cases c:s0.heap.get? b with
  |none=>rfl
  |some o=>obtain⟨o1,e1⟩:=I.base.there b o c (by show b∉([]:WI);simp);rw[e1]at n;cases n
 refine Gb (base:=base) (L:=s0.heap.objs.size) I'.ok.frames I'.stack rfl O λh' T2 n2 k sl O2=>?_;have nT2:s0.heap.get? T2=none:=by
  cases c:s0.heap.get? T2 with
  |none=>rfl
  |some o=>obtain⟨o1,e1⟩:=I'.base.there T2 o c (by show T2∉([]:WI);simp);rw[e1]at n2;cases n2
 refine yV (Nw:=λb=>b=T\/b=T2) I' ha (up a na) (λb z=>?_) (λb z=>?_) (.inr rfl) (λb o b1 b2 b3 e=>k b o b1 (λz=>b2 (.inl z)) (λz=>b2 (.inr z)) b3 e) (λb o b1 b2 e=>sl b o b1 (λz=>b2 (.inl z)) (λz=>b2 (.inr z)) e) O2 q;{rcases z with rfl|rfl;{exact hT};exact I'.lV n2};rcases z with rfl|rfl;{exact up _ nT};exact nT2
end
section
variable{P:Program}{w:World}{K:Frag}{mg:Vt}{base:Heap}{N:WQ}{qual:Str}{scope:Scope}{f:Addr}{cd:Value}{A:Around}{outer:List Env}{s0:Shared}{H0:Hp}{E:XK}
noncomputable def MW (C:Addr)(E:XK)(t:TA):TS:=λ_ U H=>t U H λvs H1=>vs.length<=sizeLine/\∀a,H1 a=none->E (.ref C) (some a) (upd H1 a (.ext (l0 a C none)))
def Gn{C:Addr}(hc:kG K C CQ "ValueError.__new__" none=true)(hg:Gl (fX (eE P w) P w K mg base N qual scope f cd A outer s0 H0 E) x)(hm:mg x=some (.ref C))(ha:PA (fX (eE P w) P w K mg base N qual scope f cd A outer s0 H0 E) (e::es) t)(hdb:(x==("__debug__":Str))=false:=by decide)(he:starEach (e::es) (envOfC qual scope s0.heap.objs.size f cd)=(false,eval e (envOfC qual scope s0.heap.objs.size f cd))::starEach es (envOfC qual scope s0.heap.objs.size f cd):=by rfl)(hpl:(backTo cpos (starEach es (envOfC qual scope s0.heap.objs.size f cd))).any (·.1)=false:=by rfl) : PS (fX (eE P w) P w K mg base N qual scope f cd A outer s0 H0 E) (.Raise (some (.Call (.Name x np) (e::es) [] cpos)) none pos) (MW C E t):=by
 intro pins s U H D I h;obtain⟨bm,N0,nm,qn,bs,hd,sn,sub,ab,col,dd,k0,k1,k2,k3,k5,mN,hC,hN,hni,T⟩:=(Je I.ok.mod.Hg hc).obj;refine wpAny_Raise_call_subT (C:=C) (nm:=nm) (q:=qn) (N:=N0) (bs:=bs) (bm:=bm) (hdct:=hd) (sn:=sn) (sub:=sub) (ab:=ab) (col:=col) (dd:=dd) (k0:=k0) (k1:=k1) (k2:=k2) (k3:=k3) (k5:=k5)
  PySem.F.excBase_ValueError (mN:=mN) (T.hasType (by decide)) (I.ok.hd rfl) (by show(backTo cpos (starEach (e::es) (envOfC qual scope s0.heap.objs.size f cd))).any (·.1)=false;rw[he];show(false||(backTo cpos (starEach es (envOfC qual scope s0.heap.objs.size f cd))).any (·.1))=false;rw[hpl];rfl) hni (t7 I hg hm ⟨rfl,?_⟩ hdb)
 have go:=ha cpos pins s U H _ I h;show wpAny (model P w) _ (evalArgs (.ref C) true (backTo cpos (starEach (e::es) (envOfC qual scope s0.heap.objs.size f cd))) []) _ _ _;have go':wpAny (model P w) _ (spliced (backTo cpos (starEach (e::es) (envOfC qual scope s0.heap.objs.size f cd)))) _ _ _:=go;rw[he]at go'⊢;refine Calls.evalArgs_plain (aO go' λus s1 ⟨vs,H1,I1,r,hz,q⟩=>?_);have kp:∀b o,base.get? b=some o->s1.heap.get? b=some o:=I1.bk;refine⟨rfl,by rw[<-r.length];exact hz,kp _ _ hC,hN.keeps kp,T.keeps kp,λh' a M=>?_⟩;obtain⟨hp,g,dr,tk,os⟩:=s1;obtain⟨keeps,new,t0,hx,_,_⟩:=M;have I2:=I1.Hz (a:=a) (o:=.ext (l0 a C none)) (t':=tk) keeps new (D9 ⟨_,_,_,_,_,_,_,hx⟩);have na:s0.heap.get? a=none:=by
  cases c:s0.heap.get? a with
  |none=>rfl
  |some o=>obtain⟨o1,e1⟩:=I1.base.there a o c (by show a∉([]:WI);simp);rw[e1]at new;cases new
 exact KL I2 (aC) hx na (q a (I1.lV new))
end
section
variable{P:Program}{w:World}{K:Vz}{mg:Vt}{base:Heap}
def rJ.QL{x qual:Str}{st:Stmt}{f:Addr}{fd:FuncData}{N ps:WQ}{k:Nat}{sp:Sp}(F:rJ K x qual st f fd)(S:aJ N ps (au st))(len:∀vs H Q E,sp vs H Q E->vs.length=ps.length)(hbody:∀(cdv:Value)(A:Around)(outer:List Env)(s:Shared)(H:Hp)(vs:List V)(Q:VK)(E:XK),dm k (A.deeper (envOfC qual (au st) s.heap.objs.size f cdv))->sp vs H Q E-> ∃t,nZ (fX (eE P w) P w K mg base N qual (au st) f cdv A outer s H E) (gQ st) t/\t { nx:=λ_ H'=>Q .bg H',rt:=Q } (start N vs) H):gf P w K mg base (eE P w) (k+1) f fd ps sp:=by obtain⟨oc,od,kV,doc,pm,an,cdv,ct,osl,rfl,lk,hcd⟩:=F.ex;refine Nr lk hcd S len λA outer s H vs Q E hr hsp=>?_;obtain⟨t,h,q⟩:=hbody cdv A outer s H vs Q E hr hsp;exact⟨t,h,q⟩
noncomputable def bN (P:Program)(w:World)(K:Vz)(mg:Vt)(base:Heap) (k:Nat) (x:Str)(ps:WQ)(sp:Sp):Prop:=
 ∃f fd,mg x=some (.ref f)/\PySem.W.keepIn K (.ref f)=true/\Binds K fd ps []/\gf P w K mg base (eE P w) k f fd ps sp
end
end L2
namespace Dv
open PySem L2 PySem.W
noncomputable def WE (X:Cx)(e:Expr):TE:=λU H Q=>∀(pins:Vu)(s:Shared),Inv X pins U H s->wpAny (model X.prog X.w) X.A (eval e X.env) (EP X pins U Q) X.xe s
def aX:PE X e (WE X e):=λpins s _ _ _ I h=>h pins s I
def WE.of(h:PE X e t)(q:t U H Q):WE X e U H Q:=λpins s I=>h pins s U H Q I q
noncomputable def WT (X:Cx)(e:Expr):TT:=λU H Q=>∀(pins:Vu)(s:Shared),Inv X pins U H s->wpAny (model X.prog X.w) X.A (isTrue e X.env (eval e X.env)) (TP X pins U Q) X.xe s
def jI:PT X e (WT X e):=λpins s _ _ _ I h=>h pins s I
def WT.of(h:PT X e t)(q:t U H Q):WT X e U H Q:=λpins s I=>h pins s U H Q I q
noncomputable def oG (X:Cx):WK->TA
 |[],_,H,Q=>Q [] H
 |e::es,U,H,Q=>WE X e U H λv H1=>oG X es U H1 λvs H2=>Q (v::vs) H2
noncomputable def sel (Y:WN)(U:St):St:=Y.map λi=>(U[i]?).join
def cZ{j i:Nat}(h:Y[j]?=some i)(e:U[i]?=some (some v)):(sel Y U)[j]?=some (some v):=by unfold sel;rw[RO,h];show some (U[i]?).join=_;rw[e];rfl
noncomputable def XL (X:Cx)(Ex:XK)(x:XC)(g:Gh):Prop:=∀(c:Str)(d:PyData)(C a:Addr)(H':Hp),X.mg c=some (.ref C)->x c d->(∀p o,p∉g.M->g.H0 p=some o->H' p=some o)->H' a=some (.ext (l0 a C none))->g.H0 a=none->Ex (.ref C) (some a) H'
def XL.no:XL X Ex xF g:=λ_ _ _ _ _ _ z=>z.elim
noncomputable def SE (X:Cx)(Ex:XK)(Y:WN)(e:Expr)(d:DE):Prop:=
 ∀(g:Gh)(x:XC)(E:En)(U:St)(H Hm:Hp)(F:Nat->WI)(P:En->Kd->PyData->Prop)(Q:VK),XL X Ex x g->Rl X.K g E U H Hm F->d x E P->
  (∀E' k v u H' Hm' F' fp,P E' k v->Rl X.K g E' U H' Hm' F'->ah Hm Hm'->Tm X.K g F' H' Hm' k u v fp->Q u H')->WE X e (sel Y U) H Q
noncomputable def ST (X:Cx)(Ex:XK)(Y:WN)(e:Expr)(d:DT):Prop:=
 ∀(g:Gh)(x:XC)(E:En)(U:St)(H Hm:Hp)(F:Nat->WI)(P:En->Bool->Prop)(Q:Bool->Hp->Prop),XL X Ex x g->Rl X.K g E U H Hm F->d x E P->
  (∀E' b H' Hm' F',P E' b->Rl X.K g E' U H' Hm' F'->ah Hm Hm'->Q b H')->WT X e (sel Y U) H Q
inductive aN(X:Cx)(Ex:XK)(Y:WN):WK->List Arg->Prop
 |nil:aN X Ex Y [] []
 |pk {e:Expr}{es:WK}{as:List Arg}{i j:Nat}:PE X e (kJ j)->Y[j]?=some i->aN X Ex Y es as->aN X Ex Y (e::es) (.pk i::as)
 |ev {e:Expr}{es:WK}{as:List Arg}{d:DE}:SE X Ex Y e d->aN X Ex Y es as->aN X Ex Y (e::es) (.ev d::as)
inductive Got(K:Frag)(U:St)(Hm:Hp):List Arg->List (Option PyData)->List V->Prop
 |nil:Got K U Hm [] [] []
 |pk {i:Nat}{v:V}{as:List Arg}{os:List (Option PyData)}{vs:List V}:U[i]?=some (some v)->Got K U Hm as os vs->Got K U Hm (.pk i::as) (none::os) (v::vs)
 |ev {e:DE}{v:V}{d:PyData}{as:List Arg}{os:List (Option PyData)}{vs:List V}:Rp K Hm v d->Got K U Hm as os vs->Got K U Hm (.ev e::as) (some d::os) (v::vs)
def kY{F:Nat->WI}(R:Rl K g E U H Hm F){i:Nat}(h:here E i=true):∃v,U[i]?=some (some v):=by unfold here at h;split at h;{rename_i kd e;obtain⟨v,h1,_⟩:=R.slot i kd.1 kd.2 e;exact⟨v,h1⟩};cases h
section
variable{X:Cx}{Ex:XK}{Y:WN}{g:Gh}{x:XC}{U:St}
def jd(hx:XL X Ex x g)(S:aN X Ex Y es as):∀{E:En}{H Hm:Hp}{F:Nat->WI}{P:En->List (Option PyData)->Prop}{Q:List V->Hp->Prop},Rl X.K g E U H Hm F->gX as x E P->(∀E' os vs H' Hm' F',P E' os->Rl X.K g E' U H' Hm' F'->ah Hm Hm'->Got X.K U Hm' as os vs->Q vs H')->oG X es (sel Y U) H Q:=by
 induction S with
 |nil=>exact λR h q=>q _ _ _ _ _ _ h R (ah.refl _) .nil
 |@pk e es as i j hp hj _ ih=>intro E H Hm F P Q R h q;replace h:bK (here E i) _:=h;rw[dJ]at h;obtain⟨h1,h2⟩:=h;obtain⟨v,hv⟩:=kY R h1;refine WE.of hp ⟨v,cZ hj hv,ih R h2 λE' os vs H' Hm' F' p R' s G=>q _ _ _ _ _ _ p R' s (.pk hv G)⟩
 |@ev e es as d hd _ ih=>intro E H Hm F P Q R h q;refine hd g x E U H Hm F _ _ hx R h λE1 k v u H1 Hm1 F1 fp p R1 s1 T=>?_;replace p:bK k.fz _:=p;rw[dJ]at p;obtain⟨hk,p⟩:=p;obtain⟨Hm2,s2,R2,r⟩:=T.dW R1 hk;exact ih R2 p λE' os vs H' Hm' F' p' R' s' G=>q _ _ _ _ _ _ p' R' (s1.trans (s2.trans s')) (.ev (r.mono s') G)
def mz{F:Nat->WI}(R:Rl K g E U H Hm F)(s:ah Hm Hm1):∀{as:List Arg}{os:List (Option PyData)}{vs:List V}{ds:WC},Got K U Hm as os vs->fill as E os=some ds->(∀i∈cJ as,∀a∈F i,Hm1 a=H a)->aA K Hm1 vs ds:=by
 intro as os vs ds G;induction G generalizing ds with
 |nil=>intro h _;cases h;exact .nil
 |@pk i v as os vs hv G ih=>
  intro h n;rw[fill]at h;split at h
  .rename_i k d e;by_cases hk:k.rd=true
   .rw[if_pos hk]at h;cases hf:fill as E os with
    |none=>rw[hf]at h;cases h
    |some es=>rw[hf]at h;cases h;obtain⟨v',h1,h2⟩:=R.slot i k d e;rw[hv]at h1;cases h1;exact .cons (h2.rp hk s (n i RC)) (ih hf λj hj=>n j (RK _ hj))
   rw[if_neg hk]at h;cases h
  cases h
 |@ev d v u as os vs r G ih=>
  intro h n;rw[fill]at h;cases hf:fill as E os with
  |none=>rw[hf]at h;cases h
  |some es=>rw[hf]at h;cases h;exact .cons (r.mono s) (ih hf n)
theorem nu:∀{is:WN}{E E2:En},dN is E=some E2->E2.length=E.length/\∀j,(j∉is->E2[j]?=E[j]?)/\(j∈is->∃k d,E[j]?=some (some (k,d))/\k.fz=true/\E2[j]?=some (some (.sh,d)))
 |[],E,E2,h=>by cases h;exact⟨rfl,λj=>⟨λ_=>rfl,λz=>by cases z⟩⟩
 |i::r,E,E2,h=>by
  have h:(cX E i).bind (dN r)=some E2:=h;cases hf:cX E i with
  |none=>rw[hf]at h;cases h
  |some E1=>
   rw[hf]at h;obtain⟨l1,g1⟩:=nu (is:=r) (E:=E1) (E2:=E2) h;unfold cX at hf;split at hf
   .rename_i k d e;by_cases hk:k.fz=true
    .rw[if_pos hk]at hf;cases hf;have li:i<E.length:=by rcases SA i E.length with h|h;{exact h};rw[Rb h]at e;cases e
     rw[Rf]at l1;refine⟨l1,λj=>⟨λn=>?_,λm=>?_⟩⟩;{have n1:j≠i:=λz=>n (z▸RC);rw[(g1 j).1 λz=>n (RK _ z),ak (Ne.symm n1)]};by_cases c:j=i;{subst c;by_cases m':j∈r;{obtain⟨k2,d2,e2,_,e3⟩:=(g1 j).2 m';rw[aF li]at e2;cases e2;exact⟨k,d,e,hk,e3⟩};exact⟨k,d,e,hk,by rw[(g1 j).1 m',aF li]⟩};have m':j∈r:=(RP.mp m).resolve_left c;obtain⟨k2,d2,e2,h2,e3⟩:=(g1 j).2 m';rw[ak (Ne.symm c)]at e2;exact⟨k2,d2,e2,h2,e3⟩
    rw[if_neg hk]at hf;cases hf
   cases hf
def vL{F:Nat->WI}(R:Rl K g E U H Hm F)(hE:(if flat k v=true then some E else dN is E)=some E2)(sH:ah H H')(s1:ah (lend Hm H (is.flatMap F)) Hm2)(s2:ah Hm2 H')(old:∀a,H a≠none->OE (Hm2 a) (lend Hm H (is.flatMap F) a))(o:Own K H' Hm2 k u v fp)(fr:∀a∈fp,H a=none/\Hm2 a=none) : ∃Hm' F',Rl K g E2 U H' Hm' F'/\ah Hm Hm'/\Tm K g F' H' Hm' k u v fp:=by
 have mem:∀{a i},a∈F i->i∈is->a∈is.flatMap F:=λha hi=>Rq.mpr ⟨_,hi,ha⟩;have off:∀a∈is.flatMap F,Hm a=none:=λa ha=>by obtain⟨i,_,h⟩:=Rq.mp ha;exact R.off i a h
 have up:ah Hm (lend Hm H (is.flatMap F)):=gS off;have bu:∀{i a},a∈F i->H a≠none:=λha z=>by obtain⟨u,hu,_⟩:=R.bu _ _ ha;rw[z]at hu;cases hu
 have nfp:∀a∈fp,∀i,a∉F i:=λa ha i=>R.fresh (fr a ha).1;by_cases hf:flat k v=true
 .rw[if_pos hf]at hE;cases hE;refine⟨back Hm2 (is.flatMap F),F,R.grow sH (λb o e=>?_) (w9 s2) (λi a ha=>?_) (λa ha=>?_),λb o e=>?_,⟨o.flat (λa xs h=>?_) hf,λa ha=>?_,nfp,λa ha=>R.fK (fr a ha).1⟩⟩;{rw[cR λz=>by rw[off b z]at e;cases e];exact s1 _ _ (up _ _ e)};{by_cases c:a∈is.flatMap F;{exact iS c};rw[cR c];obtain⟨w,hw,nt⟩:=R.bu i a ha;exact(old a (bu ha)).off (by rw[cL c];exact R.off i a ha) s2 (sH _ _ hw) nt};{by_cases c:a∈is.flatMap F;{rw[iS c,off a c];exact .inl rfl};have h:=old a (R.pP ha);rw[cL c]at h;rw[cR c];exact h};{rw[cR λz=>by rw[off b z]at e;cases e];exact s1 _ _ (up _ _ e)}
  .have c:a∉is.flatMap F:=λz=>by obtain⟨i,_,hi⟩:=Rq.mp z;obtain⟨w,hw,nt⟩:=R.bu i a hi;have e2:Hm2 a=some w:=s1 _ _ (by rw[dY z];exact hw);rw[e2]at h;cases h;exact nt xs rfl
   rw[cR c];exact h
  by_cases c:a∈is.flatMap F;{exact iS c};rw[cR c];exact(fr a ha).2
 rw[if_neg hf]at hE;obtain⟨l2,g2⟩:=nu hE;have R':Rl K g E2 U H' Hm2 (λj=>if j∈is then []else F j):={
  len:=l2.trans R.len
  sub:=s2
  slot:=λj k' d' e'=>by
   by_cases c:j∈is
   .obtain⟨k0,d0,e0,hk0,e1⟩:=(g2 j).2 c;rw[e1]at e';cases e';obtain⟨v',h1,h2⟩:=R.slot j k0 _ e0;refine⟨v',h1,?_⟩;rw[if_pos c];exact .sh ((h2.rp (by cases k0<;>first|rfl|cases hk0) up λa ha=>dY (mem ha c)).mono s1)
   .rw[(g2 j).1 c]at e';obtain⟨v',h1,h2⟩:=R.slot j k' d' e';refine⟨v',h1,?_⟩;rw[if_neg c];refine h2.step (up.trans s1) λa ha=>?_
    obtain⟨w,hw,_⟩:=h2.live a ha;rw[hw];exact sH _ _ hw
  off:=λj a ha=>by
   by_cases c:j∈is
   .rw[if_pos c]at ha;cases ha
   .rw[if_neg c]at ha;obtain⟨w,hw,nt⟩:=R.bu j a ha;refine(old a (bu ha)).off ?_ s2 (sH _ _ hw) nt;rw[cL]
    .exact R.off j a ha
    .intro z;obtain⟨i,hi,h⟩:=Rq.mp z;exact c (R.aG i j a h ha▸hi)
  bu:=λj a ha=>by
   by_cases c:j∈is
   .rw[if_pos c]at ha;cases ha
   .rw[if_neg c]at ha;obtain⟨w,hw,nt⟩:=R.bu j a ha;exact⟨w,sH _ _ hw,nt⟩
  aG:=λj l a h1 h2=>by
   by_cases c:j∈is
   .rw[if_pos c]at h1;cases h1
   .rw[if_neg c]at h1
    by_cases c':l∈is
    .rw[if_pos c']at h2;cases h2
    .rw[if_neg c']at h2;exact R.aG j l a h1 h2
  fr:=λp o hp ho=>sH _ _ (R.fr p o hp ho)
  new:=λj a ha=>by
   by_cases c:j∈is
   .rw[if_pos c]at ha;cases ha
   .rw[if_neg c]at ha;exact R.new j a ha
  pin:=λq hq=>by
   obtain⟨h1,ds',h2⟩:=R.pin q hq;have c:q.1∉is:=λz=>by
    obtain⟨k0,d0,e0,hk0,_⟩:=(g2 q.1).2 z;rw[h2]at e0;cases e0;cases hk0
   exact⟨h1,ds',by rw[(g2 q.1).1 c];exact h2⟩
  old:=λa ha=>by
   refine(old a (R.pP ha)).trans ?_;rw[cL]
   .exact R.old a ha
   .intro z;obtain⟨i,hi,h⟩:=Rq.mp z;obtain⟨k0,d0,e0,hk0,_⟩:=(g2 i).2 hi;exact ha (R.notM e0 (by cases k0<;>first|rfl|(rename_i p;cases p<;>first|rfl|cases hk0)|cases hk0) h) }
 refine⟨Hm2,_,R',up.trans s1,⟨o,λa ha=>(fr a ha).2,λa ha i=>?_,λa ha=>R.fK (fr a ha).1⟩⟩;by_cases c:i∈is;{rw[if_pos c];simp};rw[if_neg c];exact nfp a ha i
noncomputable def cK (K:Frag)(f:DR)(r:List V->Hp->VK->Prop):Prop:=
 ∀(H Hm:Hp)(vs:List V)(ds:WC)(P:Kd->PyData->Prop)(Q:VK),ah Hm H->aA K Hm vs ds->f ds P->
  (∀k v u H' Hm' fp,P k v->ah H H'->ah Hm Hm'->ah Hm' H'->(∀a,H a≠none->OE (Hm' a) (Hm a))->Own K H' Hm' k u v fp->(∀a∈fp,H a=none/\Hm' a=none)->Q u H')->r vs H Q
def fQ(S:aN X Ex Y es as)(hr:∀U H Q,oG X es U H (λvs H1=>r vs H1 Q)->WE X e U H Q)(D:cK X.K f r):SE X Ex Y e (aa f as):=by
 intro g x E U H Hm F P Q hx R h q;refine hr _ _ _ (jd hx S R h λE1 os vs H1 Hm1 F1 p R1 s1 G=>?_);replace p:xx f as E1 os P:=p;unfold xx at p;rw[<-bf,dS]at p;obtain⟨ds,hf,hg⟩:=p;have off:∀a∈(cJ as).flatMap F1,Hm1 a=none:=λa ha=>by obtain⟨i,_,h⟩:=Rq.mp ha;exact R1.off i a h
 have up:=gS (Hm:=Hm1) (H:=H1) off;refine D H1 (lend Hm1 H1 ((cJ as).flatMap F1)) vs ds _ Q (iO R1.sub) (mz R1 up G hf λi hi a ha=>dY (Rq.mpr ⟨i,hi,ha⟩)) hg λk v u H' Hm2 fp p sH sM sS old o fr=>?_;replace p:ay (qI as E1 k v) _:=p;rw[<-bf,zT]at p;obtain⟨E2,ha,p⟩:=p;obtain⟨Hm',F',R',s',T⟩:=vL R1 (is:=cJ as) (su ha) sH sM sS old o fr;exact q _ _ _ _ _ _ _ _ p R' (s1.trans s') T
end
end Dv
namespace L2
open PySem PySem.Spec PyProof.Rows
section
variable{X:Cx}
noncomputable def Ax (i j:Int):Prop:=0<j/\j<115792089237316195423570985008687907853269984665640564039457584007913129639936
def GS:bw X (binaryOp .FloorDiv) (rI Ax λi j=>.int (i/j)):=zd λi j _ _ _ _ _ hc q=>by
 have h1:(0:Int)<j:=hc.1;have h2:j<115792089237316195423570985008687907853269984665640564039457584007913129639936:=hc.2;refine floordiv_int (by lia) (by rw[Int.fdiv_eq_ediv_of_nonneg i (by lia)];exact q) (.inl (PyProof.noPylong_of_log2 ?_));have:j.natAbs.log2<256:=(Nat.log2_lt (by lia)).mpr (by
  have:(2:Nat)^256=115792089237316195423570985008687907853269984665640564039457584007913129639936:=by decide
  lia)
 lia
end
end L2
namespace TS
open PySem PyProof.Rows
noncomputable def tZ:Bool->Keyed->Array Keyed->Nat->Nat->Nat->StateT SortSt Sem (Option Nat):=sortPriv%PySem.Builtin.gallop
noncomputable def v9:Array Keyed->Array Keyed->StateT SortSt Sem (Array Keyed):=sortPriv%PySem.Builtin.mergeLo
noncomputable def wj:Array Keyed->Array Keyed->StateT SortSt Sem (Array Keyed):=sortPriv%PySem.Builtin.mergeHi
section
variable{prog:Program}{w:World}{A:Around}{E:Vr}{s:Shared}
noncomputable def i7 (prog:Program)(w:World)(A:Around)(s:Shared)(kd:SortKind)(P:Value->Prop):Prop:=∀(E:Vr) x y,P x->P y->∀Q:Bool->Shared->Prop,(∀b,Q b s)->wpAny (model prog w) A (keyLt' kd x y) Q E s
noncomputable def Good (P:Value->Prop)(xs:Array Keyed):Prop:=∀(i:Nat)(p:Keyed),xs[i]?=some p->P p.1
variable{kd:SortKind}{P:Value->Prop}
def ask{st:SortSt}(L:i7 prog w A s kd P)(hk:kindOf st=kd)(hx:P x.1)(hy:P y.1)(h:∀b,Q (some b) st):wpS (model prog w) A E s (lt' x y) Q st:=by rw[lt'_eq];refine R8 (wpS_get ?_);rw[hk];refine R8 (TM (wpAny_attempt (L _ _ _ hx hy _ λb=>⟨rfl,?_⟩)));exact R9 (h b)
def jP{st:SortSt}{i:Nat}(hi:i<xs.size)(h:∀p,xs[i]?=some p->Q p st):wpS (model prog w) A E s (elem' xs i) Q st:=by rw[elem'_eq,UR hi];exact R9 (h _ (UR hi))
def pe{st:SortSt}{left:Bool}{base n hint:Nat}(L:i7 prog w A s kd P)(hk:kindOf st=kd)(hy:P key.1)(G:Good P xs)(hn:base+n<=xs.size)(hh:hint<n)(h:∀k,k<=n->Q (some k) st) : wpS (model prog w) A E s (tZ left key xs base n hint) Q st:=by
 have qi:∀(i:Nat){R:Option Bool->SortSt->Prop},i<n->(∀b,R (some b) st)->wpS (model prog w) A E s (do
   let x <-elem' xs (base+i)
   if left then lt' x key else return (<-lt' key x).map (!·)) R st:=λi R hi hR=>by
  refine R8 (jP (by lia) λp hp=>?_)
  cases left with
  |true=>exact ask L hk (G _ _ hp) hy hR
  |false=>exact R8 (ask L hk hy (G _ _ hp) λb=>R9 (hR _))
 unfold tZ;refine R8 (qi hint hh λb=>?_);dsimp only;split;all_goals
  refine R8 (Rr (Rt (I:=λ_ c st'=>st'=st/\c.1=none) (Q:=λc st'=>st'=st/\c.1=none) ?step (λ_ _ q=>q) ⟨rfl,rfl⟩) ?post)
  case step=>
   rintro x⟨o,a,c⟩st' _ _⟨rfl,rfl⟩;dsimp only;split
   .exact R9 ⟨rfl,rfl⟩
   .refine R8 (qi _ (by lia) λb'=>?_)
    dsimp only;split
    .exact R9 ⟨rfl,rfl⟩
    .exact R9 ⟨rfl,rfl⟩
  case post=>
   rintro⟨o,a,c⟩st'⟨rfl,rfl⟩;dsimp only;refine R8 (Rr (Rt (I:=λ_ c st''=>st''=st'/\c.1=none/\c.2.2<=n) (Q:=λc st''=>st''=st'/\c.1=none/\c.2.2<=n) ?step2 (λ_ _ q=>q) ⟨rfl,rfl,by dsimp only;lia⟩) ?post2)
   case step2=>
    rintro x⟨o,a,c⟩st'' _ _⟨rfl,rfl,le⟩;dsimp only at le⊢;split
    .exact R9 ⟨rfl,rfl,le⟩
    .refine R8 (qi _ (by lia) λb'=>?_)
     dsimp only;split
     .exact R9 ⟨rfl,rfl,le⟩
     .exact R9 ⟨rfl,rfl,by dsimp only;lia⟩
   case post2=>
    rintro⟨o,a,c⟩st''⟨rfl,rfl,le⟩;dsimp only;exact R9 (h _ le)
end
noncomputable def Pm (xs ys out:Array Keyed) (ia ib:Nat):Prop:=out.toList.Perm (xs.toList.take ia++ys.toList.take ib)
section
variable{xs ys out:Array Keyed}{ia ib k:Nat}
def yy(zs:Array Keyed) (i k:Nat):zs.toList.take (i+k)=zs.toList.take i++(zs.extract i (i+k)).toList:=by rw[VO,List.take_add,VP];congr 2;lia
def Pm.x(h:Pm xs ys out ia ib) (k:Nat):Pm xs ys (out++xs.extract ia (ia+k)) (ia+k) ib:=by unfold Pm at *;rw[S6,yy xs ia k,Rk];refine(h.append_right _).trans ?_;rw[Rk];exact Tn _ To
def Pm.y(h:Pm xs ys out ia ib) (k:Nat):Pm xs ys (out++ys.extract ib (ib+k)) ia (ib+k):=by unfold Pm at *;rw[S6,yy ys ib k,<-Rk];exact h.append_right _
def rq{zs out:Array Keyed}{i:Nat}(hp:zs[i]?=some p):out.push p=out++zs.extract i (i+1):=by
 obtain⟨hi,e⟩:=Up.mp hp;have:zs.extract i (i+1)=#[p]:=by
  rw[<-e];apply Array.ext;{simp;lia};intro j h1 h2;have:j=0:=by simp at h2;exact h2
  subst this;simp
 rw[this];rfl
def Pm.px{p:Keyed}(h:Pm xs ys out ia ib)(hp:xs[ia]?=some p):Pm xs ys (out.push p) (ia+1) ib:=by rw[rq hp];exact h.x 1
def Pm.py{p:Keyed}(h:Pm xs ys out ia ib)(hp:ys[ib]?=some p):Pm xs ys (out.push p) ia (ib+1):=by rw[rq hp];exact h.y 1
def yc(zs:Array Keyed) (i:Nat):zs.toList=zs.toList.take i++(zs.extract i).toList:=by rw[VO,VP];have:List.take (zs.size-i) (List.drop i zs.toList)=List.drop i zs.toList:=Tp (by simp);rw[this,U7]
def Pm.done(h:Pm xs ys out ia ib):(out++xs.extract ia++ys.extract ib).toList.Perm (xs.toList++ys.toList):=by unfold Pm at h;rw[S6,S6,yc xs ia,yc ys ib];refine((h.append_right _).append_right _).trans ?_;simp only[Rk];refine Tn _ ?_;rw[<-Rk,<-Rk];exact US _ To
def Pm.last(h:Pm xs ys out ia ib):(out++ys.extract ib++xs.extract ia).toList.Perm (xs.toList++ys.toList):=by refine List.Perm.trans ?_ h.done;rw[S6,S6,S6,S6,Rk,Rk];exact Tn _ To
end
noncomputable def kQ (st st':SortSt):Prop:=kindOf st'=kindOf st/\arrOf st'=arrOf st/\pendingOf st'=pendingOf st/\failedOf st'=failedOf st
inductive LG(st:SortSt)(xs ys:Array Keyed) (x:Nat):Option (Array Keyed)×Array Keyed×Nat×Nat×Nat->SortSt->Prop
 |mk:∀(out:Array Keyed) (ia ib mg:Nat)(st':SortSt),kQ st st'->Pm xs ys out ia ib->ia+1<xs.size->ib<ys.size->x+1<=ia+ib->LG st xs ys x (none,out,ia,ib,mg) st'
inductive By(st:SortSt)(xs ys:Array Keyed):Option (Array Keyed)×Array Keyed×Nat×Nat×Nat->SortSt->Prop
 |mk:∀(r out:Array Keyed) (ia ib mg:Nat)(st':SortSt),kQ st st'->r.toList.Perm (xs.toList++ys.toList)->By st xs ys (some r,out,ia,ib,mg) st'
inductive Iv(st:SortSt)(xs ys:Array Keyed) (n y:Nat):Option (Array Keyed)×Array Keyed×Nat×Nat×Nat×Nat->SortSt->Prop
 |mk:∀(out:Array Keyed) (ia ib ac bc:Nat),Pm xs ys out ia ib->ia+1<xs.size->ib<ys.size->y+n<=ia+ib->Iv st xs ys n y (none,out,ia,ib,ac,bc) st
inductive qD(st:SortSt)(xs ys:Array Keyed) (n:Nat):Option (Array Keyed)×Array Keyed×Nat×Nat×Nat×Nat->SortSt->Prop
 |dn:∀(r out:Array Keyed) (ia ib ac bc:Nat),r.toList.Perm (xs.toList++ys.toList)->qD st xs ys n (some r,out,ia,ib,ac,bc) st
 |go:∀(out:Array Keyed) (ia ib ac bc:Nat),Pm xs ys out ia ib->ia+1<xs.size->ib<ys.size->n+1<=ia+ib->qD st xs ys n (none,out,ia,ib,ac,bc) st
inductive Mq(st:SortSt)(xs ys:Array Keyed) (n:Nat):Option (Array Keyed)×Array Keyed×Nat×Nat×Nat×Nat×Nat->SortSt->Prop
 |mk:∀(out:Array Keyed) (ia ib mg ac bc:Nat)(st':SortSt),kQ st st'->Pm xs ys out ia ib->ia+1<xs.size->ib<ys.size->n<=ia+ib->Mq st xs ys n (none,out,ia,ib,mg,ac,bc) st'
inductive nI(st:SortSt)(xs ys:Array Keyed) (n:Nat):Option (Array Keyed)×Array Keyed×Nat×Nat×Nat×Nat×Nat->SortSt->Prop
 |dn:∀(r out:Array Keyed) (ia ib mg ac bc:Nat)(st':SortSt),kQ st st'->r.toList.Perm (xs.toList++ys.toList)->nI st xs ys n (some r,out,ia,ib,mg,ac,bc) st'
 |go:∀(out:Array Keyed) (ia ib mg ac bc:Nat)(st':SortSt),kQ st st'->Pm xs ys out ia ib->ia+1<xs.size->ib<ys.size->n<=ia+ib->nI st xs ys n (none,out,ia,ib,mg,ac,bc) st'
section
variable{prog:Program}{w:World}{A:Around}{E:Vr}{s:Shared}{kd:SortKind}{P:Value->Prop}
def dR{M:Model}{U α:Type}{a b:Nat}{m1 m2:StateT U Sem α}{Q:α->U->Prop}{st:U}(h1:a=b->wpS M A E s m1 Q st)(h2:a≠b->wpS M A E s m2 Q st):wpS M A E s (if(a==b)=true then m1 else m2) Q st:=by by_cases e:a=b;{rw[if_pos (beq_iff_eq.mpr e)];exact h1 e};rw[if_neg (λz=>e (beq_iff_eq.mp z))];exact h2 e
def cz{M:Model}{U α:Type}{c:Prop} [Decidable c]{m1 m2:StateT U Sem α}{Q:α->U->Prop}{st:U}(h1:c->wpS M A E s m1 Q st)(h2:¬c->wpS M A E s m2 Q st):wpS M A E s (if c then m1 else m2) Q st:=by by_cases e:c;{rw[if_pos e];exact h1 e};rw[if_neg e];exact h2 e
def bT{α:Type}{st:SortSt}{zs:Array Keyed}{i:Nat}{f:Keyed->StateT SortSt Sem α}{Q:α->SortSt->Prop}(hi:i<zs.size)(h:∀p,zs[i]?=some p->wpS (model prog w) A E s (f p) Q st):wpS (model prog w) A E s (elem' zs i>>=f) Q st:=R8 (jP hi h)
def wJ{α:Type}{st:SortSt}{x y:Keyed}{f:Option Bool->StateT SortSt Sem α}{Q:α->SortSt->Prop}(L:i7 prog w A s kd P)(hk:kindOf st=kd)(hx:P x.1)(hy:P y.1)(h:∀b,wpS (model prog w) A E s (f (some b)) Q st):wpS (model prog w) A E s (lt' x y>>=f) Q st:=R8 (ask L hk hx hy h)
def nh{α:Type}{st:SortSt}{left:Bool}{key:Keyed}{xs:Array Keyed}{base n hint:Nat}{f:Option Nat->StateT SortSt Sem α}{Q:α->SortSt->Prop}(L:i7 prog w A s kd P)(hk:kindOf st=kd)(hy:P key.1)(G:Good P xs)(hn:base+n<=xs.size)(hh:hint<n)(h:∀k,k<=n->wpS (model prog w) A E s (f (some k)) Q st):wpS (model prog w) A E s (tZ left key xs base n hint>>=f) Q st:=R8 (pe L hk hy G hn hh h)
def Oi{st:SortSt}{xs ys:Array Keyed}{Q:Array Keyed->SortSt->Prop}(L:i7 prog w A s kd P)(hk:kindOf st=kd)(G1:Good P xs)(G2:Good P ys)(h1:1<=xs.size)(h2:1<=ys.size)(h:∀zs st',kQ st st'->zs.toList.Perm (xs.toList++ys.toList)->Q zs st') : wpS (model prog w) A E s (v9 xs ys) Q st:=by
 unfold v9;refine R8 (TM (SX ⟨rfl,?_⟩));dsimp only;refine bT (by lia) λp hp=>?_;have pm0:Pm xs ys #[p] 0 1:=by have:Pm xs ys #[] 0 0:=List.Perm.refl _;exact this.py hp
 have g0:kQ st st:=⟨rfl,rfl,rfl,rfl⟩;refine dR (λe1=>R9 (h _ _ g0 pm0.done)) (λe1=>?_);refine dR (λe2=>R9 (h _ _ g0 pm0.last)) (λe2=>?_);refine R8 (wpS_get ?_);refine R8 (Rr (Rt (I:=LG st xs ys) (Q:=By st xs ys) ?step ?fin (.mk _ _ _ _ _ g0 pm0 (by lia) (by lia) (by lia))) ?post)
 case post=>
  rintro _ st'⟨r,out,ia,ib,mg,_,g,pr⟩;dsimp only;exact R9 (h _ _ g pr)
 case fin=>
  rintro _ st'⟨out,ia,ib,mg,_,_,_,a,b,c⟩;lia
 case step=>
  rintro x _ st' _ _⟨out,ia,ib,mg,_,g,pm,a1,b1,c1⟩;dsimp only;have hk':kindOf st'=kd:=g.1.trans hk;refine R8 (Rr (Rt (I:=Iv st' xs ys (ia+ib)) (Q:=qD st' xs ys (ia+ib)) ?step1 ?fin1 (.mk _ _ _ _ _ pm a1 b1 (by lia))) ?post1)
  case fin1=>
   rintro _ _⟨out2,ia2,ib2,ac,bc,_,a,b,c⟩;lia
  case step1=>
   rintro y _ _ _ _⟨out2,ia2,ib2,ac,bc,pm2,a2,b2,c2⟩;dsimp only;refine bT (by lia) λp1 hp1=>?_
   refine bT (by lia) λp2 hp2=>?_
   refine wJ L hk' (G2 _ _ hp1) (G1 _ _ hp2) λb=>?_
   dsimp only;cases b with
   |true=>rw[if_pos rfl];refine bT (by lia) λp3 hp3=>?_;have pm3:=pm2.py hp3;refine dR (λe3=>R9 (qD.dn _ _ _ _ _ _ pm3.done)) (λe3=>?_);refine cz (λe4=>?_) (λe4=>?_);{exact R9 (qD.go _ _ _ _ _ pm3 a2 (by lia) (by lia))};exact R9 (Iv.mk _ _ _ _ _ pm3 a2 (by lia) (by lia))
   |false=>rw[if_neg RZ];refine bT (by lia) λp3 hp3=>?_;have pm3:=pm2.px hp3;refine dR (λe3=>R9 (qD.dn _ _ _ _ _ _ pm3.last)) (λe3=>?_);refine cz (λe4=>?_) (λe4=>?_);{exact R9 (qD.go _ _ _ _ _ pm3 (by lia) b2 (by lia))};exact R9 (Iv.mk _ _ _ _ _ pm3 (by lia) b2 (by lia))
  case post1=>
   rintro _ _ (⟨r,out2,ia2,ib2,ac,bc,pr⟩|⟨out2,ia2,ib2,ac,bc,pm2,a2,b2,c2⟩)
   .exact R9 (By.mk _ _ _ _ _ _ g pr)
   .dsimp only;refine R8 (TM (SX ⟨rfl,?_⟩));refine R8 (Rr (Rt (I:=λ_=>Mq st xs ys (ia2+ib2)) (Q:=nI st xs ys (ia2+ib2)) ?step2 (λc st3 q=>by cases q;exact .go _ _ _ _ _ _ _ ‹_› ‹_› ‹_› ‹_› ‹_›) (.mk _ _ _ _ _ _ _ g pm2 a2 b2 (RB _))) ?post2)
    case step2=>
     rintro y _ st3 _ _⟨out3,ia3,ib3,mg3,ac3,bc3,_,g3,pm3,a3,b3,c3⟩;dsimp only;have hk3:kindOf st3=kd:=g3.1.trans hk;refine cz (λe5=>?b1) (λe5=>?b2)
     generalize mg3-1=v;clear e5;revert v;refine ?key
     case b2=>exact ?key mg3
     intro v;refine R8 (SJ ?_);refine bT (by lia) λp1 hp1=>?_
     refine nh L hk3 (G2 _ _ hp1) G1 (by lia) (by lia) λk hk1=>?_
     dsimp only;refine cz (λk0=>?c1) (λk0=>?c2)
     have pm4:=pm3.x k;refine dR (λe6=>R9 (nI.dn _ _ _ _ _ _ _ _ g3 pm4.last)) (λe6=>?_)
     refine dR (λe7=>R9 (nI.dn _ _ _ _ _ _ _ _ g3 pm4.done)) (λe7=>?_)
     generalize out3++xs.extract ia3 (ia3+k)=o at pm4⊢;have n1:ia3+k+1<xs.size:=by lia
     have n0:ia3<=ia3+k:=by lia
     revert n0 n1 pm4;clear e6 e7 k0;generalize ia3+k=n;clear hk1;generalize k=d;revert o n d;refine ?key2
     case c2=>exact ?key2 out3 ia3 k pm3 a3 (RB _)
     intro o n d pm4 n1 n0;refine bT (by lia) λp2 hp2=>?_
     have pm5:=pm4.py hp2;refine dR (λe8=>R9 (nI.dn _ _ _ _ _ _ _ _ g3 pm5.done)) (λe8=>?_)
     refine bT (by lia) λp3 hp3=>?_
     refine nh L hk3 (G1 _ _ hp3) G2 (by lia) (by lia) λk2 hk2=>?_
     dsimp only;refine cz (λk20=>?d1) (λk20=>?d2)
     have pm6:=pm5.y k2;refine dR (λe9=>R9 (nI.dn _ _ _ _ _ _ _ _ g3 pm6.done)) (λe9=>?_)
     generalize o.push _++ys.extract (ib3+1) (ib3+1+k2)=o2 at pm6⊢;have m1:ib3+1+k2<ys.size:=by lia
     have m0:ib3+1<=ib3+1+k2:=by lia
     revert m0 m1 pm6;clear e9 k20;generalize ib3+1+k2=m;clear hk2;generalize k2=d2;revert o2 m d2;refine ?key3
     case d2=>exact ?key3 _ _ _ pm5 (by lia) (RB _)
     intro o2 m d2 pm6 m1 m0;refine bT (by lia) λp4 hp4=>?_
     have pm7:=pm6.px hp4;refine dR (λe10=>R9 (nI.dn _ _ _ _ _ _ _ _ g3 pm7.last)) (λe10=>?_)
     refine cz (λ_=>?_) (λ_=>?_)
     .exact R9 (nI.go _ _ _ _ _ _ _ g3 pm7 (by lia) (by lia) (by lia))
     .exact R9 (Mq.mk _ _ _ _ _ _ _ g3 pm7 (by lia) (by lia) (by lia))
    case post2=>
     rintro _ st3 (⟨r,out3,ia3,ib3,mg3,ac3,bc3,_,g3,pr⟩|⟨out3,ia3,ib3,mg3,ac3,bc3,_,g3,pm3,a3,b3,c3⟩)
     .exact R9 (By.mk _ _ _ _ _ _ g3 pr)
     .dsimp only;refine R8 (SJ ?_);exact R9 (LG.mk _ _ _ _ _ g3 pm3 a3 b3 (by lia))
end
noncomputable def Pr (xs ys out:Array Keyed) (na nb:Nat):Prop:=out.toList.Perm (xs.toList.drop na++ys.toList.drop nb)
section
variable{xs ys out:Array Keyed}{na nb k:Nat}
def iL(zs:Array Keyed){i n:Nat}(h:i<=n):zs.toList.drop i=(zs.extract i n).toList++zs.toList.drop n:=by obtain⟨d,rfl⟩:=Nat.exists_eq_add_of_le h;rw[VO,VP,U8,<-List.drop_drop];exact(U7 d _).symm
def Pr.x(h:Pr xs ys out na nb)(hk:k<=na):Pr xs ys (out++(xs.extract k na).reverse) k nb:=by unfold Pr at *;rw[S6,iL xs hk,VQ,Rk];refine(h.append_right _).trans ?_;refine To.trans ?_;exact US _ (VR _)
def Pr.y(h:Pr xs ys out na nb)(hk:k<=nb):Pr xs ys (out++(ys.extract k nb).reverse) na k:=by unfold Pr at *;rw[S6,iL ys hk,VQ];refine(h.append_right _).trans ?_;rw[Rk];refine Tn _ ?_;refine To.trans ?_;exact US _ (VR _)
def xH{zs out:Array Keyed}{i:Nat}(h1:1<=i)(hp:zs[i-1]?=some p):out.push p=out++(zs.extract (i-1) i).reverse:=by
 have e:=rq (out:=#[]) hp;rw[show i-1+1=i by lia]at e;have e2:zs.extract (i-1) i=#[p]:=by rw[Array.empty_append]at e;exact e.symm
 rw[e2];rfl
def Pr.px{p:Keyed}(h:Pr xs ys out na nb)(h1:1<=na)(hp:xs[na-1]?=some p):Pr xs ys (out.push p) (na-1) nb:=by rw[xH h1 hp];exact h.x (by lia)
def Pr.py{p:Keyed}(h:Pr xs ys out na nb)(h1:1<=nb)(hp:ys[nb-1]?=some p):Pr xs ys (out.push p) na (nb-1):=by rw[xH h1 hp];exact h.y (by lia)
def Pr.done(h:Pr xs ys out na nb):(xs.extract 0 na++ys.extract 0 nb++out.reverse).toList.Perm (xs.toList++ys.toList):=by
 unfold Pr at h;have e1:=iL xs (S3 na);have e2:=iL ys (S3 nb);rw[UT]at e1 e2;rw[S6,S6,VQ]
 conv=>rhs;rw[e1,e2]
 rw[Rk,Rk];refine Tn _ ?_;refine(Tn _ ((VR _).trans h)).trans ?_;rw[<-Rk,<-Rk];exact US _ To
def Pr.first(h:Pr xs ys out na nb):(ys.extract 0 nb++xs.extract 0 na++out.reverse).toList.Perm (xs.toList++ys.toList):=by refine List.Perm.trans ?_ h.done;rw[S6,S6,S6,S6];exact US _ To
end
inductive Me(st:SortSt)(xs ys:Array Keyed) (x:Nat):Option (Array Keyed)×Nat×Nat×Array Keyed×Nat->SortSt->Prop
 |mk:∀(na nb:Nat)(out:Array Keyed) (mg:Nat)(st':SortSt),kQ st st'->Pr xs ys out na nb->1<=na->2<=nb->na<=xs.size->nb<=ys.size->na+nb+x+1<=xs.size+ys.size->Me st xs ys x (none,na,nb,out,mg) st'
inductive Bf(st:SortSt)(xs ys:Array Keyed):Option (Array Keyed)×Nat×Nat×Array Keyed×Nat->SortSt->Prop
 |mk:∀(r:Array Keyed) (na nb:Nat)(out:Array Keyed) (mg:Nat)(st':SortSt),kQ st st'->r.toList.Perm (xs.toList++ys.toList)->Bf st xs ys (some r,na,nb,out,mg) st'
inductive G3(st:SortSt)(xs ys:Array Keyed) (n y:Nat):Option (Array Keyed)×Nat×Nat×Array Keyed×Nat×Nat->SortSt->Prop
 |mk:∀(na nb:Nat)(out:Array Keyed) (ac bc:Nat),Pr xs ys out na nb->1<=na->2<=nb->na<=xs.size->nb<=ys.size->na+nb+y<=n->G3 st xs ys n y (none,na,nb,out,ac,bc) st
inductive qS(st:SortSt)(xs ys:Array Keyed) (n:Nat):Option (Array Keyed)×Nat×Nat×Array Keyed×Nat×Nat->SortSt->Prop
 |dn:∀(r:Array Keyed) (na nb:Nat)(out:Array Keyed) (ac bc:Nat),r.toList.Perm (xs.toList++ys.toList)->qS st xs ys n (some r,na,nb,out,ac,bc) st
 |go:∀(na nb:Nat)(out:Array Keyed) (ac bc:Nat),Pr xs ys out na nb->1<=na->2<=nb->na<=xs.size->nb<=ys.size->na+nb+1<=n->qS st xs ys n (none,na,nb,out,ac,bc) st
inductive L7(st:SortSt)(xs ys:Array Keyed) (n:Nat):Option (Array Keyed)×Nat×Nat×Array Keyed×Nat×Nat×Nat->SortSt->Prop
 |mk:∀(na nb:Nat)(out:Array Keyed) (mg ac bc:Nat)(st':SortSt),kQ st st'->Pr xs ys out na nb->1<=na->2<=nb->na<=xs.size->nb<=ys.size->na+nb<=n->L7 st xs ys n (none,na,nb,out,mg,ac,bc) st'
inductive nB(st:SortSt)(xs ys:Array Keyed) (n:Nat):Option (Array Keyed)×Nat×Nat×Array Keyed×Nat×Nat×Nat->SortSt->Prop
 |dn:∀(r:Array Keyed) (na nb:Nat)(out:Array Keyed) (mg ac bc:Nat)(st':SortSt),kQ st st'->r.toList.Perm (xs.toList++ys.toList)->nB st xs ys n (some r,na,nb,out,mg,ac,bc) st'
 |go:∀(na nb:Nat)(out:Array Keyed) (mg ac bc:Nat)(st':SortSt),kQ st st'->Pr xs ys out na nb->1<=na->2<=nb->na<=xs.size->nb<=ys.size->na+nb<=n->nB st xs ys n (none,na,nb,out,mg,ac,bc) st'
section
variable{prog:Program}{w:World}{A:Around}{E:Vr}{s:Shared}{kd:SortKind}{P:Value->Prop}
def Nn{st:SortSt}(L:i7 prog w A s kd P)(hk:kindOf st=kd)(G1:Good P xs)(G2:Good P ys)(h1:1<=xs.size)(h2:1<=ys.size)(h:∀zs st',kQ st st'->zs.toList.Perm (xs.toList++ys.toList)->Q zs st') : wpS (model prog w) A E s (wj xs ys) Q st:=by
 unfold wj;refine R8 (TM (SX ⟨rfl,?_⟩));dsimp only;refine bT (by lia) λp hp=>?_;have pm0:Pr xs ys #[p] (xs.size-1) ys.size:=by
  have z:Pr xs ys #[] xs.size ys.size:=by unfold Pr;rw[Uq (by simp),Uq (by simp)];exact List.Perm.refl _
  exact z.px h1 hp
 have g0:kQ st st:=⟨rfl,rfl,rfl,rfl⟩;refine dR (λe1=>R9 (h _ _ g0 pm0.done)) (λe1=>?_);refine dR (λe2=>R9 (h _ _ g0 pm0.first)) (λe2=>?_);refine R8 (wpS_get ?_);refine R8 (Rr (Rt (I:=Me st xs ys) (Q:=Bf st xs ys) ?step ?fin (.mk _ _ _ _ _ g0 pm0 (by lia) (by lia) (by lia) (by lia) (by lia))) ?post)
 case post=>
  rintro _ st'⟨r,na,nb,out,mg,_,g,pr⟩;dsimp only;exact R9 (h _ _ g pr)
 case fin=>
  rintro _ st'⟨na,nb,out,mg,_,_,_,a,b,c,d,e⟩;lia
 case step=>
  rintro x _ st' _ _⟨na,nb,out,mg,_,g,pm,a1,b1,c1,d1,f1⟩;dsimp only;have hk':kindOf st'=kd:=g.1.trans hk;refine R8 (Rr (Rt (I:=G3 st' xs ys (na+nb)) (Q:=qS st' xs ys (na+nb)) ?step1 ?fin1 (.mk _ _ _ _ _ pm a1 b1 c1 d1 (by lia))) ?post1)
  case fin1=>
   rintro _ _⟨na2,nQ,out2,ac,bc,_,a,b,c,d,e⟩;lia
  case step1=>
   rintro y _ _ _ _⟨na2,nQ,out2,ac,bc,pm2,a2,b2,c2,d2,f2⟩;dsimp only;refine bT (by lia) λp1 hp1=>?_
   refine bT (by lia) λp2 hp2=>?_
   refine wJ L hk' (G2 _ _ hp1) (G1 _ _ hp2) λb=>?_
   dsimp only;cases b with
   |true=>rw[if_pos rfl];refine bT (by lia) λp3 hp3=>?_;have pm3:=pm2.px (by lia) hp3;refine dR (λe3=>R9 (qS.dn _ _ _ _ _ _ pm3.done)) (λe3=>?_);refine cz (λe4=>?_) (λe4=>?_);{exact R9 (qS.go _ _ _ _ _ pm3 (by lia) (by lia) (by lia) (by lia) (by lia))};exact R9 (G3.mk _ _ _ _ _ pm3 (by lia) (by lia) (by lia) (by lia) (by lia))
   |false=>rw[if_neg RZ];refine bT (by lia) λp3 hp3=>?_;have pm3:=pm2.py (by lia) hp3;refine dR (λe3=>R9 (qS.dn _ _ _ _ _ _ pm3.first)) (λe3=>?_);refine cz (λe4=>?_) (λe4=>?_);{exact R9 (qS.go _ _ _ _ _ pm3 (by lia) (by lia) (by lia) (by lia) (by lia))};exact R9 (G3.mk _ _ _ _ _ pm3 (by lia) (by lia) (by lia) (by lia) (by lia))
  case post1=>
   rintro _ _ (⟨r,na2,nQ,out2,ac,bc,pr⟩|⟨na2,nQ,out2,ac,bc,pm2,a2,b2,c2,d2,f2⟩)
   .exact R9 (Bf.mk _ _ _ _ _ _ g pr)
   .dsimp only;refine R8 (TM (SX ⟨rfl,?_⟩));refine R8 (Rr (Rt (I:=λ_=>L7 st xs ys (na2+nQ)) (Q:=nB st xs ys (na2+nQ)) ?step2 (λc st3 q=>by cases q;exact .go _ _ _ _ _ _ _ ‹_› ‹_› ‹_› ‹_› ‹_› ‹_› ‹_›) (.mk _ _ _ _ _ _ _ g pm2 a2 b2 c2 d2 (RB _))) ?post2)
    case step2=>
     rintro y _ st3 _ _⟨na3,nb3,out3,mg3,ac3,bc3,_,g3,pm3,a3,b3,c3,d3,f3⟩;dsimp only;have hk3:kindOf st3=kd:=g3.1.trans hk;refine cz (λe5=>?b1) (λe5=>?b2)
     generalize mg3-1=v;clear e5;revert v;refine ?key
     case b2=>exact ?key mg3
     intro v;refine R8 (SJ ?_);refine bT (by lia) λp1 hp1=>?_
     refine nh L hk3 (G2 _ _ hp1) G1 (by lia) (by lia) λk hk1=>?_
     dsimp only;refine cz (λk0=>?c1) (λk0=>?c2)
     have pm4:=pm3.x hk1;refine dR (λe7=>R9 (nB.dn _ _ _ _ _ _ _ _ g3 pm4.done)) (λe7=>?_)
     generalize out3++(xs.extract k na3).reverse=o at pm4⊢;generalize na3-k=d;have n1:1<=k:=by lia
     revert n1 pm4;clear e7 k0;revert hk1;generalize k=n;revert d o n;refine ?key2
     case c2=>exact ?key2 out3 (na3-k) na3 (RB _) pm3 (by lia)
     intro o d n hk1 pm4 n1;refine bT (by lia) λp2 hp2=>?_
     have pm5:=pm4.py (by lia) hp2
     refine dR (λe8=>R9 (nB.dn _ _ _ _ _ _ _ _ g3 pm5.first)) (λe8=>?_)
     refine bT (by lia) λp3 hp3=>?_
     refine nh L hk3 (G1 _ _ hp3) G2 (by lia) (by lia) λk2 hk2=>?_
     dsimp only;refine cz (λk20=>?d1) (λk20=>?d2)
     have pm6:=pm5.y hk2;refine dR (λe9=>R9 (nB.dn _ _ _ _ _ _ _ _ g3 pm6.first)) (λe9=>?_)
     refine dR (λe9'=>R9 (nB.dn _ _ _ _ _ _ _ _ g3 pm6.done)) (λe9'=>?_)
     have n2:2<=k2:=by lia
     revert n2 pm6;generalize o.push _++(ys.extract k2 (nb3-1)).reverse=o2;generalize nb3-1-k2=d2;clear e9 e9' k20;revert hk2;generalize k2=m;revert d2 o2 m;refine ?key3
     case d2=>exact ?key3 _ _ _ (RB _) pm5 (by lia)
     intro o2 d2 m hm pm6 n2;refine bT (by lia) λp4 hp4=>?_
     have pm7:=pm6.px (by lia) hp4
     refine dR (λe10=>R9 (nB.dn _ _ _ _ _ _ _ _ g3 pm7.done)) (λe10=>?_)
     refine cz (λ_=>?_) (λ_=>?_)
     .exact R9 (nB.go _ _ _ _ _ _ _ g3 pm7 (by lia) (by lia) (by lia) (by lia) (by lia))
     .exact R9 (L7.mk _ _ _ _ _ _ _ g3 pm7 (by lia) (by lia) (by lia) (by lia) (by lia))
    case post2=>
     rintro _ st3 (⟨r,na3,nb3,out3,mg3,ac3,bc3,_,g3,pr⟩|⟨na3,nb3,out3,mg3,ac3,bc3,_,g3,pm3,a3,b3,c3,d3,f3⟩)
     .exact R9 (Bf.mk _ _ _ _ _ _ g3 pr)
     .dsimp only;refine R8 (SJ ?_);exact R9 (Me.mk _ _ _ _ _ g3 pm3 a3 b3 c3 d3 (by lia))
end
structure SB(kd:SortKind)(xs0:Array Keyed)(st:SortSt):Prop where
 perm:(arrOf st).Perm xs0
 kind:kindOf st=kd
 ok:failedOf st=none
theorem SB.size{kd:SortKind}{st:SortSt}(B:SB kd xs0 st):(arrOf st).size=xs0.size:=B.perm.size_eq
def Good.perm(G:Good P ys)(p:xs.Perm ys):Good P xs:=λi q h=>by have m:q∈xs.toList:=Rj (by rw[Tq];exact h);have m2:q∈ys.toList:=(VS.mp p).mem_iff.mp m;obtain⟨j,hj⟩:=Sv m2;rw[Tq]at hj;exact G j q hj
section
variable{prog:Program}{w:World}{A:Around}{E:Vr}{s:Shared}{kd:SortKind}{P:Value->Prop}{xs0:Array Keyed}
def fj{st:SortSt}{i j:Nat}(L:i7 prog w A s kd P)(G:Good P xs0)(B:SB kd xs0 st)(hi:i<xs0.size)(hj:j<xs0.size)(h:∀b,Q (some b) st):wpS (model prog w) A E s (ltAt' i j) Q st:=by rw[ltAt'_eq];refine R8 (wpS_get ?_);have G':=G.perm B.perm;refine R8 (jP (by rw[B.size];exact hi) λp hp=>?_);refine R8 (jP (by rw[B.size];exact hj) λq hq=>?_);exact ask L B.kind (G' _ _ hp) (G' _ _ hq) h
def iF{st:SortSt}{i j:Nat}(B:SB kd xs0 st)(h:∀st',SB kd xs0 st'->pendingOf st'=pendingOf st->Q () st'):wpS (model prog w) A E s (reverseSlice' i j) Q st:=by rw[reverseSlice'_eq];exact SJ (h _ ⟨(mirror_perm _ _ _ _).trans B.perm,B.kind,B.ok⟩ rfl)
def Gy{st:SortSt}{lo nrem:Nat}(L:i7 prog w A s kd P)(G:Good P xs0)(B:SB kd xs0 st)(h1:1<=nrem)(hn:lo+nrem<=xs0.size)(h:∀m st',SB kd xs0 st'->pendingOf st'=pendingOf st->1<=m->m<=nrem->Q (some m) st') : wpS (model prog w) A E s (countRun' lo nrem) Q st:=by
 unfold countRun';refine R8 (Rr (Rt (I:=λx c st'=>st'=st/\c.1=none/\c.2=x) (Q:=λc st'=>st'=st/\c.1=none/\1<=c.2/\c.2<=nrem) ?step ?fin ⟨rfl,rfl,rfl⟩) ?post)
 case step=>
  rintro x⟨o,n⟩st' a b⟨rfl,rfl,rfl⟩;dsimp only;refine R8 (fj L G B (by dsimp only at a b;lia) (by dsimp only at a b;lia) λc=>?_)
  dsimp only;refine cz (λ_=>R9 ⟨rfl,rfl,by dsimp only at a b⊢;lia,by dsimp only at a b⊢;lia⟩) (λ_=>R9 ⟨rfl,rfl,rfl⟩)
 case fin=>
  rintro⟨o,n⟩st'⟨rfl,rfl,e⟩;dsimp only at e;exact⟨rfl,rfl,by dsimp only;lia,by dsimp only;lia⟩
 case post=>
  rintro⟨o,n⟩st'⟨rfl,rfl,n1,n2⟩;dsimp only at n1 n2⊢;refine dR (λe=>R9 (h _ _ B rfl n1 n2)) (λe=>?_)
  refine cz (λn0=>?_) (λn0=>?_)
  .refine R8 (fj L G B (by lia) (by lia) λc=>?_)
   dsimp only;refine cz (λ_=>R9 (h _ _ B rfl n1 n2)) (λ_=>?_)
   refine R8 (iF B λst6 B6 p6=>?_)
   refine R8 (TM (SX ⟨rfl,?_⟩));refine R8 (Rr (Rt (I:=λx c st2=>SB kd xs0 st2/\pendingOf st2=pendingOf st'/\c.1=none/\c.2.1=x) (Q:=λc st2=>SB kd xs0 st2/\pendingOf st2=pendingOf st'/\c.1=none/\1<=c.2.1/\c.2.1<=nrem) ?step1 ?fin1 ⟨B6,p6,rfl,rfl⟩) ?post1)
   case step1=>
    rintro x⟨o,m,q⟩st2 a b⟨B2,p2,rfl,rfl⟩;dsimp only at a b⊢;refine R8 (fj L G B2 (by lia) (by lia) λc=>?_)
    dsimp only;refine cz (λ_=>?_) (λ_=>?_)
    .refine cz (λ_=>?_) (λ_=>?_)
     .exact R8 (iF B2 λst3 B3 p3=>R9 ⟨B3,p3.trans p2,rfl,rfl⟩)
     .exact R9 ⟨B2,p2,rfl,rfl⟩
    .refine R8 (fj L G B2 (by lia) (by lia) λc2=>?_)
     dsimp only;refine cz (λ_=>?_) (λ_=>?_)
     .exact R9 ⟨B2,p2,rfl,by dsimp only;lia,by dsimp only;lia⟩
     .exact R9 ⟨B2,p2,rfl,rfl⟩
   case fin1=>
    rintro⟨o,m,q⟩st2⟨B2,p2,rfl,e2⟩;dsimp only at e2;exact⟨B2,p2,rfl,by dsimp only;lia,by dsimp only;lia⟩
   case post1=>
    rintro⟨o,m,q⟩st2⟨B2,p2,rfl,m1,m2⟩;dsimp only at m1 m2⊢;refine cz (λ_=>?_) (λ_=>?_)
    .refine R8 (iF B2 λst3 B3 p3=>?_)
     refine R8 (iF B3 λst4 B4 p4=>?_)
     refine R8 (Rr (Rt (I:=λx c st5=>st5=st4/\c.1=none/\c.2=x) (Q:=λc st5=>st5=st4/\c.1=none/\1<=c.2/\c.2<=nrem) ?stepL2 ?finL2 ⟨rfl,rfl,rfl⟩) ?postL2)
     case stepL2=>
      rintro x⟨o,m⟩st5 a b⟨rfl,rfl,rfl⟩;dsimp only at a b⊢;refine R8 (fj L G B4 (by lia) (by lia) λc=>?_)
      dsimp only;refine cz (λ_=>R9 ⟨rfl,rfl,by dsimp only;lia,by dsimp only;lia⟩) (λ_=>R9 ⟨rfl,rfl,rfl⟩)
     case finL2=>
      rintro⟨o,m⟩st5⟨rfl,rfl,e2⟩;dsimp only at e2;exact⟨rfl,rfl,by dsimp only;lia,by dsimp only;lia⟩
     case postL2=>
      rintro⟨o,m⟩st5⟨rfl,rfl,k1,k2⟩;dsimp only at k1 k2⊢;exact R9 (h _ _ B4 (p4.trans (p3.trans p2)) k1 k2)
    .refine R8 (iF B2 λst4 B4 p4=>?_)
     refine R8 (Rr (Rt (I:=λx c st5=>st5=st4/\c.1=none/\c.2=x) (Q:=λc st5=>st5=st4/\c.1=none/\1<=c.2/\c.2<=nrem) ?stepL3 ?finL3 ⟨rfl,rfl,rfl⟩) ?postL3)
     case stepL3=>
      rintro x⟨o,m⟩st5 a b⟨rfl,rfl,rfl⟩;dsimp only at a b⊢;refine R8 (fj L G B4 (by lia) (by lia) λc=>?_)
      dsimp only;refine cz (λ_=>R9 ⟨rfl,rfl,by dsimp only;lia,by dsimp only;lia⟩) (λ_=>R9 ⟨rfl,rfl,rfl⟩)
     case finL3=>
      rintro⟨o,m⟩st5⟨rfl,rfl,e2⟩;dsimp only at e2;exact⟨rfl,rfl,by dsimp only;lia,by dsimp only;lia⟩
     case postL3=>
      rintro⟨o,m⟩st5⟨rfl,rfl,k1,k2⟩;dsimp only at k1 k2⊢;exact R9 (h _ _ B4 (p4.trans p2) k1 k2)
  .have p6:pendingOf st'=pendingOf st':=rfl;refine R8 (TM (SX ⟨rfl,?_⟩));refine R8 (Rr (Rt (I:=λx c st2=>SB kd xs0 st2/\pendingOf st2=pendingOf st'/\c.1=none/\c.2.1=x) (Q:=λc st2=>SB kd xs0 st2/\pendingOf st2=pendingOf st'/\c.1=none/\1<=c.2.1/\c.2.1<=nrem) ?step4 ?fin4 ⟨B,p6,rfl,rfl⟩) ?post4)
   case step4=>
    rintro x⟨o,m,q⟩st2 a b⟨B2,p2,rfl,rfl⟩;dsimp only at a b⊢;refine R8 (fj L G B2 (by lia) (by lia) λc=>?_)
    dsimp only;refine cz (λ_=>?_) (λ_=>?_)
    .refine cz (λ_=>?_) (λ_=>?_)
     .exact R8 (iF B2 λst3 B3 p3=>R9 ⟨B3,p3.trans p2,rfl,rfl⟩)
     .exact R9 ⟨B2,p2,rfl,rfl⟩
    .refine R8 (fj L G B2 (by lia) (by lia) λc2=>?_)
     dsimp only;refine cz (λ_=>?_) (λ_=>?_)
     .exact R9 ⟨B2,p2,rfl,by dsimp only;lia,by dsimp only;lia⟩
     .exact R9 ⟨B2,p2,rfl,rfl⟩
   case fin4=>
    rintro⟨o,m,q⟩st2⟨B2,p2,rfl,e2⟩;dsimp only at e2;exact⟨B2,p2,rfl,by dsimp only;lia,by dsimp only;lia⟩
   case post4=>
    rintro⟨o,m,q⟩st2⟨B2,p2,rfl,m1,m2⟩;dsimp only at m1 m2⊢;refine cz (λ_=>?_) (λ_=>?_)
    .refine R8 (iF B2 λst3 B3 p3=>?_)
     refine R8 (iF B3 λst4 B4 p4=>?_)
     refine R8 (Rr (Rt (I:=λx c st5=>st5=st4/\c.1=none/\c.2=x) (Q:=λc st5=>st5=st4/\c.1=none/\1<=c.2/\c.2<=nrem) ?stepL5 ?finL5 ⟨rfl,rfl,rfl⟩) ?postL5)
     case stepL5=>
      rintro x⟨o,m⟩st5 a b⟨rfl,rfl,rfl⟩;dsimp only at a b⊢;refine R8 (fj L G B4 (by lia) (by lia) λc=>?_)
      dsimp only;refine cz (λ_=>R9 ⟨rfl,rfl,by dsimp only;lia,by dsimp only;lia⟩) (λ_=>R9 ⟨rfl,rfl,rfl⟩)
     case finL5=>
      rintro⟨o,m⟩st5⟨rfl,rfl,e2⟩;dsimp only at e2;exact⟨rfl,rfl,by dsimp only;lia,by dsimp only;lia⟩
     case postL5=>
      rintro⟨o,m⟩st5⟨rfl,rfl,k1,k2⟩;dsimp only at k1 k2⊢;exact R9 (h _ _ B4 (p4.trans (p3.trans p2)) k1 k2)
    .refine R8 (iF B2 λst4 B4 p4=>?_)
     refine R8 (Rr (Rt (I:=λx c st5=>st5=st4/\c.1=none/\c.2=x) (Q:=λc st5=>st5=st4/\c.1=none/\1<=c.2/\c.2<=nrem) ?stepL6 ?finL6 ⟨rfl,rfl,rfl⟩) ?postL6)
     case stepL6=>
      rintro x⟨o,m⟩st5 a b⟨rfl,rfl,rfl⟩;dsimp only at a b⊢;refine R8 (fj L G B4 (by lia) (by lia) λc=>?_)
      dsimp only;refine cz (λ_=>R9 ⟨rfl,rfl,by dsimp only;lia,by dsimp only;lia⟩) (λ_=>R9 ⟨rfl,rfl,rfl⟩)
     case finL6=>
      rintro⟨o,m⟩st5⟨rfl,rfl,e2⟩;dsimp only at e2;exact⟨rfl,rfl,by dsimp only;lia,by dsimp only;lia⟩
     case postL6=>
      rintro⟨o,m⟩st5⟨rfl,rfl,k1,k2⟩;dsimp only at k1 k2⊢;exact R9 (h _ _ B4 (p4.trans p2) k1 k2)
def MU{st:SortSt}{lo n k:Nat}(L:i7 prog w A s kd P)(G:Good P xs0)(B:SB kd xs0 st)(hn:lo+n<=xs0.size)(h:∀st',SB kd xs0 st'->pendingOf st'=pendingOf st->Q true st') : wpS (model prog w) A E s (binarySort' lo n k) Q st:=by
 unfold binarySort';refine R8 (Rr (Rt (I:=λx c st'=>SB kd xs0 st'/\pendingOf st'=pendingOf st/\c.1=none) (Q:=λc st'=>SB kd xs0 st'/\pendingOf st'=pendingOf st/\c.1=none) ?step (λ_ _ q=>q) ⟨B,rfl,rfl⟩) ?post)
 case post=>
  rintro⟨o,u⟩st'⟨B1,p1,rfl⟩;exact R9 (h _ B1 p1)
 case step=>
  rintro x⟨o,u⟩st' a b⟨B1,p1,rfl⟩;dsimp only;refine R8 (Rr (Rt (I:=λy c st2=>st2=st'/\c.1=none/\c.2.2<=x) (Q:=λc st2=>st2=st'/\c.1=none/\c.2.2<=x) ?step1 (λ_ _ q=>q) ⟨rfl,rfl,RB _⟩) ?post1)
  case step1=>
   rintro y⟨o,l,r⟩st2 _ _⟨rfl,rfl,le⟩;dsimp only at le⊢;refine cz (λ_=>R9 ⟨rfl,rfl,le⟩) (λlr=>?_)
   refine R8 (fj L G B1 (by lia) (by lia) λc=>?_)
   dsimp only;refine cz (λ_=>R9 ⟨rfl,rfl,by dsimp only;lia⟩) (λ_=>R9 ⟨rfl,rfl,le⟩)
  case post1=>
   rintro⟨o,l,r⟩st2⟨rfl,rfl,le⟩;dsimp only;refine R8 (SJ ?_);exact R9 ⟨⟨(bubble_perm _ _ _).trans B1.perm,B1.kind,B1.ok⟩,p1,rfl⟩
end
theorem wL(sa:Nat):∀(l:List Keyed) (i:Nat)(a:Array Keyed),sa+i+l.length<=a.size->((l.zipIdx i).foldl (λa (x:Keyed×Nat)=>a.setIfInBounds (sa+x.2) x.1) a).toList=a.toList.take (sa+i)++(l++a.toList.drop (sa+i+l.length))
 |[],i,a,h=>by simp
 |p::r,i,a,h=>by
  have hl:(p::r).length=r.length+1:=rfl;rw[hl]at h;rw[List.zipIdx_cons,List.foldl_cons,wL sa r (i+1) _ (by rw[Array.size_setIfInBounds];lia)];rw[Array.toList_setIfInBounds];have lt:sa+i<a.toList.length:=by simp;lia
  have e1:(a.toList.set (sa+i) p).take (sa+(i+1))=a.toList.take (sa+i)++[p]:=by rw[show sa+(i+1)=sa+i+1 by lia,TN,List.take_set_of_le (RB _),T7 lt];rfl
  have e2:(a.toList.set (sa+i) p).drop (sa+(i+1)+r.length)=a.toList.drop (sa+i+(p::r).length):=by rw[List.drop_set_of_lt (by lia),hl];congr 1;lia
  rw[e1,e2];simp
def seg(a:Array Keyed){i j k:Nat}(h1:i<=j)(h2:j<=k):a.toList=a.toList.take i++((a.extract i j).toList++((a.extract j k).toList++a.toList.drop k)):=by have e1:=iL a h1;have e2:=iL a h2;rw[<-e2,<-e1,U7]
section
variable{prog:Program}{w:World}{A:Around}{E:Vr}{s:Shared}{kd:SortKind}{P:Value->Prop}{xs0:Array Keyed}
theorem Good.extract(G:Good P xs) (i j:Nat):Good P (xs.extract i j):=λk p h=>by rw[Array.getElem?_extract]at h;split at h;{exact G _ _ h};cases h
def FQ{st:SortSt}{i sa na pw sb nb pb:Nat}(L:i7 prog w A s kd P)(G:Good P xs0)(B:SB kd xs0 st)(e1:(pendingOf st)[i]?=some (sa,na,pw))(e2:(pendingOf st)[i+1]?=some (sb,nb,pb))(c:sb=sa+na)(n1:1<=na)(n2:1<=nb)(le:sb+nb<=xs0.size)(h:∀st',SB kd xs0 st'->pendingOf st'=((pendingOf st).setIfInBounds i (sa,na+nb,pw)).eraseIdxIfInBounds (i+1)->Q true st'):wpS (model prog w) A E s (mergeAt' i) Q st:=by
 have G':=G.perm B.perm;have sz:=B.size;unfold mergeAt';refine R8 (wpS_get ?_);dsimp only;rw[e1,e2];dsimp only;refine R8 (?_:wpS _ _ _ _ (set _) _ _);unfold wpS;rw[StateT.run_set];refine RD ⟨rfl,?_⟩;refine R8 (jP (by rw[sz];lia) λp hp=>?_);have B1:SB kd xs0 (SortSt.mk' (kindOf st) (arrOf st) (((pendingOf st).setIfInBounds i (sa,na+nb,pw)).eraseIdxIfInBounds (i+1)) (gallopOf st) (failedOf st)):=⟨B.perm,B.kind,B.ok⟩;refine R8 (pe L B.kind (G' _ _ hp) G' (show sa+na<=(arrOf st).size by lia) (by lia) λk hk=>?_);dsimp only;refine dR (λ_=>R9 (h _ B1 rfl)) (λe3=>?_);refine R8 (jP (show sa+k+(na-k)-1<(arrOf st).size by lia) λp2 hp2=>?_);refine R8 (pe L B.kind (G' _ _ hp2) G' (show sb+nb<=(arrOf st).size by lia) (by lia) λk2 hk2=>?_);dsimp only;refine dR (λ_=>R9 (h _ B1 rfl)) (λe4=>?_);have x1:((arrOf st).extract (sa+k) sb).size=sb-(sa+k):=by rw[Array.size_extract];lia
 have x2:((arrOf st).extract sb (sb+k2)).size=k2:=by rw[Array.size_extract];lia
 have fin:∀zs:Array Keyed,zs.toList.Perm (((arrOf st).extract (sa+k) sb).toList++((arrOf st).extract sb (sb+k2)).toList)->(zs.toList.zipIdx.foldl (λa (x:Keyed×Nat)=>a.setIfInBounds (sa+k+x.2) x.1) (arrOf st)).Perm xs0:=λzs pm=>by
  have zl:zs.toList.length=sb+k2-(sa+k):=by rw[pm.length_eq,RM,T8,T8,x1,x2];lia
  refine Array.Perm.trans (VS.mpr ?_) B.perm;rw[wL (sa+k) zs.toList 0 (arrOf st) (by lia)];have e:=seg (arrOf st) (show sa+k<=sb by lia) (show sb<=sb+k2 by lia);rw[Nat.add_zero,show sa+k+zs.toList.length=sb+k2 by lia]
  conv=>rhs;rw[e]
  refine Tn _ ?_;rw[<-Rk];exact pm.append_right _
 refine cz (λ_=>?_) (λ_=>?_)
 .refine R8 (Oi L B.kind (G'.extract _ _) (G'.extract _ _) (show 1<=((arrOf st).extract (sa+k) sb).size by lia) (show 1<=((arrOf st).extract sb (sb+k2)).size by lia) λzs st2 g pm=>?_);obtain⟨g1,g2,g3,g4⟩:=g;refine R8 (SJ ?_);refine R8 (wpS_get ?_);refine R9 ?_;have e:(failedOf st2).isNone=true:=by rw[g4];show(failedOf st).isNone=true;rw[B.ok];rfl
  show Q (failedOf st2).isNone _;rw[e];refine h _ ⟨?_,g1.trans B.kind,g4.trans B.ok⟩ g3;show(zs.toList.zipIdx.foldl (λa (x:Keyed×Nat)=>a.setIfInBounds (sa+k+x.2) x.1) (arrOf st2)).Perm xs0;rw[g2];exact fin zs pm
 refine R8 (Nn L B.kind (G'.extract _ _) (G'.extract _ _) (show 1<=((arrOf st).extract (sa+k) sb).size by lia) (show 1<=((arrOf st).extract sb (sb+k2)).size by lia) λzs st2 g pm=>?_);obtain⟨g1,g2,g3,g4⟩:=g;refine R8 (SJ ?_);refine R8 (wpS_get ?_);refine R9 ?_;have e:(failedOf st2).isNone=true:=by rw[g4];show(failedOf st).isNone=true;rw[B.ok];rfl
 show Q (failedOf st2).isNone _;rw[e];refine h _ ⟨?_,g1.trans B.kind,g4.trans B.ok⟩ g3;show(zs.toList.zipIdx.foldl (λa (x:Keyed×Nat)=>a.setIfInBounds (sa+k+x.2) x.1) (arrOf st2)).Perm xs0;rw[g2];exact fin zs pm
end
noncomputable def Cont:Nat->List (Nat×Nat×Nat)->Nat->Prop
 |f,[],lo=>f=lo
 |f,(s,n,_)::r,lo=>s=f/\1<=n/\Cont (f+n) r lo
theorem Cont.le:∀{l:List (Nat×Nat×Nat)}{f lo:Nat},Cont f l lo->f<=lo
 |[],f,lo,h=>UQ h
 | (s,n,p)::r,f,lo,⟨_,h1,h⟩=>by have:=Cont.le h;lia
theorem Cont.two:∀{l:List (Nat×Nat×Nat)}{f lo:Nat} (i:Nat),Cont f l lo->i+1<l.length->∃sa na pw sb nb pb,l[i]?=some (sa,na,pw)/\l[i+1]?=some (sb,nb,pb)/\sb=sa+na/\1<=na/\1<=nb/\sb+nb<=lo
 | (s,n,p)::(s2,n2,p2)::r,f,lo,0,⟨h1,h2,h3,h4,h5⟩,_=>⟨s,n,p,s2,n2,p2,rfl,rfl,by lia,h2,h4,by have:=h5.le;lia⟩
 | (s,n,p)::r,f,lo,i+1,⟨_,_,h⟩,hl=>Cont.two i h (by simpa using hl)
 |[],_,_,_,_,hl=>by simp at hl
 |[_],_,_,0,_,hl=>by simp at hl
theorem Cont.merge:∀{l:List (Nat×Nat×Nat)}{f lo:Nat} (i:Nat){sa na pw sb nb pb:Nat},Cont f l lo->l[i]?=some (sa,na,pw)->l[i+1]?=some (sb,nb,pb)->Cont f ((l.set i (sa,na+nb,pw)).eraseIdx (i+1)) lo
 | (s,n,p)::(s2,n2,p2)::r,f,lo,0,sa,na,pw,sb,nb,pb,⟨h1,h2,h3,h4,h5⟩,e1,e2=>by cases e1;cases e2;refine⟨h1,by lia,?_⟩;rw[<-Sw];exact h5
 | (s,n,p)::r,f,lo,i+1,sa,na,pw,sb,nb,pb,⟨h1,h2,h⟩,e1,e2=>⟨h1,h2,Cont.merge i h e1 e2⟩
 |[],_,_,_,_,_,_,_,_,_,_,e1,_=>by cases e1
 |[_],_,_,0,_,_,_,_,_,_,_,_,e2=>by cases e2
theorem Cont.mod(pw:Nat):∀{l:List (Nat×Nat×Nat)}{f lo:Nat} (j:Nat),Cont f l lo->Cont f (l.modify j λx=>(x.1,x.2.1,pw)) lo
 |[],f,lo,j,h=>by rw[List.modify_nil];exact h
 | (s,n,p)::r,f,lo,0,⟨h1,h2,h⟩=>⟨h1,h2,h⟩
 | (s,n,p)::r,f,lo,j+1,⟨h1,h2,h⟩=>⟨h1,h2,Cont.mod pw j h⟩
theorem Cont.push{n:Nat}(hn:1<=n):∀{l:List (Nat×Nat×Nat)}{f lo:Nat},Cont f l lo->Cont f (l++[(lo,n,0)]) (lo+n)
 |[],f,lo,h=>⟨h.symm,hn,by show f+n=lo+n;rw[show f=lo from h]⟩
 | (s,m,p)::r,f,lo,⟨h1,h2,h⟩=>⟨h1,h2,Cont.push hn h⟩
section
variable{prog:Program}{w:World}{A:Around}{E:Vr}{s:Shared}{kd:SortKind}{P:Value->Prop}{xs0:Array Keyed}
def qF{st:SortSt}{i lo:Nat}(L:i7 prog w A s kd P)(G:Good P xs0)(B:SB kd xs0 st)(C:Cont 0 (pendingOf st).toList lo)(le:lo<=xs0.size)(hi:i+1<(pendingOf st).size)(h:∀st',SB kd xs0 st'->Cont 0 (pendingOf st').toList lo->Q true st'):wpS (model prog w) A E s (mergeAt' i) Q st:=by obtain⟨sa,na,pw,sb,nb,pb,e1,e2,c,n1,n2,l2⟩:=C.two i (by simpa using hi);refine FQ L G B (by rw[<-Tq];exact e1) (by rw[<-Tq];exact e2) c n1 n2 (by lia) λst' B' p'=>h st' B' ?_;rw[p',Array.toList_eraseIdxIfInBounds,Array.toList_setIfInBounds];exact C.merge i e1 e2
def JK{st:SortSt}(L:i7 prog w A s kd P)(G:Good P xs0)(B:SB kd xs0 st)(p0:pendingOf st=#[])(h:∀st',SB kd xs0 st'->Q () st'):wpS (model prog w) A E s sortRuns' Q st:=by
 rw[sortRuns'_eq];refine R8 (wpS_get ?_);dsimp only;rw[B.size];refine R8 (Rr (Rt (I:=λx c st'=>SB kd xs0 st'/\c.1=none/\Cont 0 (pendingOf st').toList c.2/\c.2<=xs0.size) (Q:=λc st'=>SB kd xs0 st'/\c.1=none/\Cont 0 (pendingOf st').toList c.2/\c.2<=xs0.size) ?step (λ_ _ q=>q) ⟨B,rfl,by rw[p0];rfl,S3 _⟩) ?post)
 case step=>
  rintro x⟨o,lo⟩st' _ _⟨B1,rfl,C1,l1⟩;dsimp only at C1 l1⊢;refine cz (λ_=>R9 ⟨B1,rfl,C1,l1⟩) (λge=>?_)
  refine R8 (Gy L G B1 (by lia) (by lia) λm st2 B2 p2 m1 m2=>?_)
  dsimp only;have C2:Cont 0 (pendingOf st2).toList lo:=by rw[p2];exact C1
  refine cz (λlt=>?_) (λlt=>?_)
  .refine R8 (TM (SX ⟨rfl,?_⟩));generalize hf:min (xs0.size-lo) (minRun' xs0.size xs0.size 0)=force;have f1:1<=force:=by lia
   have f2:lo+force<=xs0.size:=by lia
   refine R8 (MU L G B2 f2 λst3 B3 p3=>?_)
   have C3:Cont 0 (pendingOf st3).toList lo:=by rw[p3];exact C2
   refine cz (λz=>absurd z (by decide)) (λ_=>?_)
   refine R8 (wpS_get ?_);cases hb:(pendingOf st3).back? with
   |none=>
    dsimp only;refine R8 (SJ ?_);refine R9 ⟨⟨B3.perm,B3.kind,B3.ok⟩,rfl,?_,f2⟩;show Cont 0 ((pendingOf st3).push (lo,force,0)).toList (lo+force);rw[Ur];exact C3.push f1
   |some t=>
    obtain⟨s1,n1',q1⟩:=t;dsimp only;refine R8 (Rr (Rt (I:=λy c st4=>SB kd xs0 st4/\c.1=none/\Cont 0 (pendingOf st4).toList lo) (Q:=λc st4=>SB kd xs0 st4/\c.1=none/\Cont 0 (pendingOf st4).toList lo) ?step1 (λ_ _ q=>q) ⟨B3,rfl,C3⟩) ?post1)
    case step1=>
     rintro y⟨o,u⟩st4 _ _⟨B4,rfl,C4⟩;refine R8 (wpS_get ?_);cases hm:(if(pendingOf st4).size>1 then(pendingOf st4)[(pendingOf st4).size-2]? else none)with
     |none=>exact R9 ⟨B4,rfl,C4⟩
     |some t=>
      obtain⟨f1,f2,older⟩:=t;dsimp only;refine cz (λ_=>R9 ⟨B4,rfl,C4⟩) (λ_=>?_)
      have s2:(pendingOf st4).size>1:=by
       by_cases z:(pendingOf st4).size>1
       .exact z
       .rw[if_neg z]at hm;cases hm
      refine R8 (qF L G B4 C4 l1 (by lia) λst5 B5 C5=>?_)
      exact cz (λz=>absurd z (by decide)) (λ_=>R9 ⟨B5,rfl,C5⟩)
    case post1=>
     rintro⟨o,u⟩st4⟨B4,rfl,C4⟩;dsimp only;refine R8 (SJ ?_);refine R8 (SJ ?_);refine R9 ⟨⟨B4.perm,B4.kind,B4.ok⟩,rfl,?_,f2⟩;refine id (?_:Cont 0 (((pendingOf st4).modify ((pendingOf st4).size-1) λx=>(x.1,x.2.1,_)).push (lo,force,0)).toList (lo+force))
     rw[Ur,Array.toList_modify];exact(C4.mod _ _).push f1
  .have f2:lo+m<=xs0.size:=by lia
   refine R8 (wpS_get ?_);cases hb:(pendingOf st2).back? with
   |none=>
    dsimp only;refine R8 (SJ ?_);refine R9 ⟨⟨B2.perm,B2.kind,B2.ok⟩,rfl,?_,f2⟩;show Cont 0 ((pendingOf st2).push (lo,m,0)).toList (lo+m);rw[Ur];exact C2.push m1
   |some t=>
    obtain⟨s1,n1',q1⟩:=t;dsimp only;refine R8 (Rr (Rt (I:=λy c st4=>SB kd xs0 st4/\c.1=none/\Cont 0 (pendingOf st4).toList lo) (Q:=λc st4=>SB kd xs0 st4/\c.1=none/\Cont 0 (pendingOf st4).toList lo) ?step2 (λ_ _ q=>q) ⟨B2,rfl,C2⟩) ?post2)
    case step2=>
     rintro y⟨o,u⟩st4 _ _⟨B4,rfl,C4⟩;refine R8 (wpS_get ?_);cases hm:(if(pendingOf st4).size>1 then(pendingOf st4)[(pendingOf st4).size-2]? else none)with
     |none=>exact R9 ⟨B4,rfl,C4⟩
     |some t=>
      obtain⟨f1,f2,older⟩:=t;dsimp only;refine cz (λ_=>R9 ⟨B4,rfl,C4⟩) (λ_=>?_)
      have s2:(pendingOf st4).size>1:=by
       by_cases z:(pendingOf st4).size>1
       .exact z
       .rw[if_neg z]at hm;cases hm
      refine R8 (qF L G B4 C4 l1 (by lia) λst5 B5 C5=>?_)
      exact cz (λz=>absurd z (by decide)) (λ_=>R9 ⟨B5,rfl,C5⟩)
    case post2=>
     rintro⟨o,u⟩st4⟨B4,rfl,C4⟩;dsimp only;refine R8 (SJ ?_);refine R8 (SJ ?_);refine R9 ⟨⟨B4.perm,B4.kind,B4.ok⟩,rfl,?_,f2⟩;refine id (?_:Cont 0 (((pendingOf st4).modify ((pendingOf st4).size-1) λx=>(x.1,x.2.1,_)).push (lo,m,0)).toList (lo+m))
     rw[Ur,Array.toList_modify];exact(C4.mod _ _).push m1
 case post=>
  rintro⟨o,lo⟩st'⟨B1,rfl,C1,l1⟩;dsimp only at C1 l1⊢;refine R8 (Rr (Rt (I:=λy c st4=>SB kd xs0 st4/\c.1=none/\Cont 0 (pendingOf st4).toList lo) (Q:=λc st4=>SB kd xs0 st4/\c.1=none/\Cont 0 (pendingOf st4).toList lo) ?stepE (λ_ _ q=>q) ⟨B1,rfl,C1⟩) ?postE)
  case stepE=>
   rintro y⟨o,u⟩st4 _ _⟨B4,rfl,C4⟩;refine R8 (wpS_get ?_);refine cz (λ_=>R9 ⟨B4,rfl,C4⟩) (λgt=>?_)
   refine R8 (qF L G B4 C4 l1 (by(repeat' split)<;>lia) λst5 B5 C5=>?_)
   exact cz (λz=>absurd z (by decide)) (λ_=>R9 ⟨B5,rfl,C5⟩)
  case postE=>
   rintro⟨o,u⟩st4⟨B4,rfl,C4⟩;dsimp only;exact R9 (h _ B4)
end
noncomputable def IsPair (h:Heap)(v:Value):Prop:=∃(a:Addr)(o:Obj) (i j:Int)(t u:Tok) (n:Nat),v=.ref a/\h.get? a=some o/\o.cls=.type "tuple"/\o.data=.seq #[.int i t,.int j u] n
section
variable{prog:Program}{w:World}{A:Around}{E:Vr}{s:Shared}
def Mn(b:Bool){i j:Int}(h:∀c,Q c s):wpAny (model prog w) A (oneLt' b (.int i t) (.int j u)) Q E s:=by
 cases b with
 |true=>exact oneLt_int (h _)
 |false=>rw[oneLt'_eq];rw[if_neg RZ];refine Q9 (?_:wpAny _ _ (compareOp .Lt (.int i t) (.int j u)) _ _ _);exact lt_int (Tc (h _))
def Bj:i7 prog w A s (tuples' true) (IsPair s.heap):=by
 rintro E x y⟨a,o,i,j,t,u,n,rfl,ho,hc,hd⟩⟨a2,o2,i2,j2,t2,u2,n2,rfl,ho2,hc2,hd2⟩Q h;refine Q9 (Us ho hd ?_);refine Q9 (Us ho2 hd2 ?_);dsimp only;refine Q9 ?_;refine wpAny_forIn_list _ (λrest r s'=>s'=s/\r.1=none/\∀x∈rest,∃(i j:Int)(t u:Tok),x.1=(Value.int i t,Value.int j u)) _ ?_ ?_ _ _ ⟨rfl,rfl,λx hx=>?_⟩
 .rintro⟨⟨p,q⟩,k⟩rest⟨r,⟨⟩⟩s'⟨rfl,rfl,hall⟩;obtain⟨i3,j3,t3,u3,e⟩:=hall _ RC;dsimp only at e;cases e;dsimp only;refine Q9 ((intKind prog w).eqBool (a:=i3) (b:=j3) (intKind_is _ _ i3 t3) (intKind_is _ _ j3 u3) ?_);cases decide (i3=j3)with
  |true=>exact RD ⟨rfl,rfl,λx hx=>hall x (RK _ hx)⟩
  |false=>exact Q9 (Mn _ λc=>RD (RD (h c)))
 .rintro⟨r,⟨⟩⟩s'⟨rfl,rfl,_⟩;exact RD (h _)
 have hx':x=((Value.int i t,Value.int i2 t2),0)\/x=((Value.int j u,Value.int j2 u2),1):=by simpa using hx
 rcases hx' with rfl|rfl;{exact⟨_,_,_,_,rfl⟩};exact⟨_,_,_,_,rfl⟩
def B0(hv:IsPair s.heap v)(h:∀i t,Q (some (.int i t)) s):wpAny (model prog w) A (firstOfTuple' v) Q E s:=by obtain⟨a,o,i,j,t,u,n,rfl,ho,hc,hd⟩:=hv;unfold firstOfTuple';refine Q9 (UN (T:="tuple") ⟨o,ho,hc⟩ ?_);rw[if_neg (by decide)];refine Q9 (Us ho hd (RD ?_));exact h i t
theorem firsts:∀{vs:WH},(∀v∈vs,IsPair s.heap v)->(∀os:List (WA),os.length=vs.length->(∀o∈os,∃i t,o=some (Value.int i t))->Q os s)->wpAny (model prog w) A (vs.mapM firstOfTuple') Q E s
 |[],_,h=>by rw[List.mapM_nil];exact RD (h [] rfl λo ho=>(nomatch ho))
 |v::r,hv,h=>by rw[List.mapM_cons];refine Q9 (B0 (hv v RC) λi t=>?_);refine Q9 (firsts (λx hx=>hv x (RK _ hx)) λos ol oh=>?_);refine RD (h _ (by simp[ol]) λo ho=>?_);rcases RP.mp ho with rfl|ho;{exact⟨i,t,rfl⟩};exact oh o ho
def BX{Q:SortKind->Shared->Prop}(h0:vs≠[])(hv:∀v∈vs,IsPair s.heap v)(h:Q (tuples' true) s):wpAny (model prog w) A (keyKind' vs.toArray) Q E s:=by
 rw[keyKind'_eq,List.mapM_toArray];rw[map_eq_pure_bind,bind_assoc];refine Q9 (firsts hv λos ol oh=>?_);rw[pure_bind];have all:os.toArray.all (·.isSome)=true:=by rw[List.all_toArray,RX];intro o ho;obtain⟨i,t,rfl⟩:=oh o ho;rfl
 rw[if_pos all];refine Q9 (SX ?_);have inte:∃us:WH,os.toArray.filterMap id=us.toArray/\us≠[]/\∃ns,IntsAre us ns:=by
  have go:∀os:List (WA),(∀o∈os,∃i t,o=some (Value.int i t))->∃us ns,os.filterMap id=us/\us.length=os.length/\IntsAre us ns:=λos=>by
   induction os with
   |nil=>exact λ_=>⟨[],[],rfl,rfl,.nil⟩
   |cons o r ih=>intro hh;obtain⟨i,t,rfl⟩:=hh o RC;obtain⟨us,ns,e,l,I⟩:=ih λx hx=>hh x (RK _ hx);exact⟨.int i t::us,i::ns,by simp[e],by simp[l],.cons i t I⟩
  obtain⟨us,ns,e,l,I⟩:=go os oh;refine⟨us,?_,λz=>h0 ?_,ns,I⟩;{rw[List.filterMap_toArray,e]};rw[z]at l;have:vs.length=0:=by rw[<-ol,<-l];rfl
  exact List.length_eq_zero_iff.mp this
 obtain⟨us,e,un,ns,I⟩:=inte;rw[e,oneTypeOnly'_eq,List.mapM_toArray,mapM_typeOf_ints I];simp only[map_pure,pure_bind];obtain⟨u0,ur,rfl⟩:=List.exists_cons_of_ne_nil un;have hall:((List.map (λ_=>Value.type "int") (u0::ur)).toArray.all λx=>x==Value.type "int")=true:=by simp only[List.all_toArray,List.all_map,RX];intro _ _;rfl
 have h1:(List.map (λ_=>Value.type "int") (u0::ur)).toArray[0]?=some (Value.type "int"):=by simp
 rw[h1];simp only[hall,if_true,pure_bind];exact RD h
end
def IsPair.keep{a:Addr}(p:IsPair h v)(ha:h.get? a=some c)(hc:c.cls=.type "list")(k:∀b o,b≠a->h.get? b=some o->h'.get? b=some o):IsPair h' v:=by obtain⟨b,o,i,j,t,u,n,rfl,ho,hco,hd⟩:=p;refine⟨b,o,i,j,t,u,n,rfl,k b o (λz=>?_) ho,hco,hd⟩;rw[z,ha]at ho;cases ho;rw[hc]at hco;injection hco with z;exact absurd z (by decide)
section
variable{prog:Program}{w:World}{A:Around}{E:Vr}{s:Shared}
def Az{a:Addr}{n:Nat}(ho:s.heap.get? a=some (seqObj "list" vs.toArray n))(hv:∀v∈vs,IsPair s.heap v)(few:vs.length<=1000)(h:∀us:WB,us.toList.Perm vs->R (.done (.ret .none)) { s with heap:=sortedHeap s.heap a vs us }):wpAny (model prog w) A (Builtin.«list.sort» ⟨[.ref a],[]⟩) R E s:=by
 have line:(1000:Nat)<=sizeLine:=by decide
 have az:a<s.heap.objs.size:=RL ho;rw[list_sort_plain (a:Addr)];refine Q9 (Us ho rfl (?_:_));refine Q9 (listUpdate_at ho rfl (?_:_) (by simp;lia) (by simp));obtain⟨ep,g1⟩:∃ep,(s.heap.update a (Obj.mapSeq λ_=>#[])).get? a=some (seqObj "list" #[] ep):=⟨_,get?_update_seq ho λ_=>#[]⟩;refine Q9 (seqEpoch_at g1 rfl (?_:_));refine Q9 (wpAny_newTuple (?_:_) (by simp;lia));refine Q9 (wpAny_newList (?_:_));refine Sj (?_:_);have g6:(((s.heap.update a (Obj.mapSeq λ_=>#[])).push (seqObj "tuple" vs.toArray 0)).push (seqObj "list" #[] 0)).get? a=some (seqObj "list" #[] ep):=Ra _ (Ra _ g1);have keep:∀b o,b≠a->s.heap.get? b=some o->(((s.heap.update a (Obj.mapSeq λ_=>#[])).push (seqObj "tuple" vs.toArray 0)).push (seqObj "list" #[] 0)).get? b=some o:=λb o hb e=>Ra _ (Ra _ ((Sf _ _ (Ne.symm hb)).trans e));have hv6:∀v∈vs,IsPair (((s.heap.update a (Obj.mapSeq λ_=>#[])).push (seqObj "tuple" vs.toArray 0)).push (seqObj "list" #[] 0)) v:=λv m=>(hv v m).keep ho rfl keep;refine id (?_:wpAny (model prog w) A _ R E { s with heap:=((s.heap.update a (Obj.mapSeq λ_=>#[])).push (seqObj "tuple" vs.toArray 0)).push (seqObj "list" #[] 0) });dsimp only;have psz:(vs.toArray.zip vs.toArray).size=vs.length:=by simp
 have out:∀zs:Array Keyed,zs.Perm (vs.toArray.zip vs.toArray)->(zs.map (·.2)).toList.Perm vs:=λzs p=>by
  have p2:=(VS.mp p).map (·.2);rw[Array.toList_map];refine p2.trans ?_;have:((vs.toArray.zip vs.toArray).toList.map (·.2))=vs:=by rw[Array.toList_zip];simp[List.map_snd_zip]
  rw[this]
 by_cases h2:vs.toArray.size<2;{rw[if_pos h2,if_pos h2];refine Q9 (RD (?_:_));rw[StateT.run_pure];refine Q9 (RD (?_:_));dsimp only;refine Q9 (seqEpoch_at g6 rfl (?_:_));have o1:=out (vs.toArray.zip vs.toArray) (Array.Perm.refl _);have l1:=o1.length_eq;rw[T8]at l1;refine Q9 (listUpdate_at g6 rfl (?_:_) (by simp) (Ri (UQ l1) (by lia)));simp only[bne_self_eq_false,UU,So];refine RD (?_:_);exact h _ o1};rw[if_neg h2,if_neg h2];have ne:vs≠[]:=λz=>h2 (by rw[z];decide);refine Q9 (BX (s:={ s with heap:=((s.heap.update a (Obj.mapSeq λ_=>#[])).push (seqObj "tuple" vs.toArray 0)).push (seqObj "list" #[] 0) }) ne hv6 (?_:_));refine Q9 (SO (JK (kd:=tuples' true) (P:=IsPair (((s.heap.update a (Obj.mapSeq λ_=>#[])).push (seqObj "tuple" vs.toArray 0)).push (seqObj "list" #[] 0))) (xs0:=vs.toArray.zip vs.toArray) (s:={ s with heap:=((s.heap.update a (Obj.mapSeq λ_=>#[])).push (seqObj "tuple" vs.toArray 0)).push (seqObj "list" #[] 0) }) (Q:=λ_ st'=>SB (tuples' true) (vs.toArray.zip vs.toArray) st') Bj (λk p hp=>?_) ⟨Array.Perm.refl _,rfl,rfl⟩ rfl λst' B=>B) ?_ λ_ _ e=>e);{have m:p∈(vs.toArray.zip vs.toArray).toList:=Rj (by rw[Tq];exact hp);rw[Array.toList_zip]at m;exact hv6 _ (Uj m).1};rintro⟨⟨⟩,st'⟩s'⟨rfl,B⟩;dsimp only;refine Q9 (seqEpoch_at g6 rfl (?_:_));have o1:=out _ B.perm;have l1:=o1.length_eq;rw[T8]at l1;refine Q9 (listUpdate_at g6 rfl (?_:_) (by simp) (Ri (UQ l1) (by lia)));rw[B.ok];simp only[bne_self_eq_false,UU,So];refine RD (?_:_);exact h _ o1
end
end TS
namespace L2
open PySem PySem.Spec PyProof.Rows
def EV(p:us.Perm its):∀{ys:List V},Vals ys its->∃zs,zs.Perm ys/\Vals zs us:=by
 induction p with
 |nil=>exact λ{ys} r=>⟨ys,List.Perm.refl _,r⟩
 |cons x _ ih=>
  intro ys r;cases r with
  |cons h r=>obtain⟨zs,p1,r1⟩:=ih r;exact⟨_::zs,p1.cons _,.cons h r1⟩
 |swap x y l=>
  intro ys r;cases r with
  |cons h r=>
   cases r with
   |cons h2 r=>exact⟨_::_::_,List.Perm.swap _ _ _,.cons h2 (.cons h r)⟩
 |trans _ _ ih1 ih2=>intro ys r;obtain⟨zs,p1,r1⟩:=ih2 r;obtain⟨ws,p2,r2⟩:=ih1 r1;exact⟨ws,p2.trans p1,r2⟩
section
variable{X:Cx}
inductive y9(K:Vz)(xs:List V)(H:Hp)(Q:VK):Prop
 |mk:∀(a:Addr)(ys:List V),(xs=[.ref a])->(bI K H a ys)->((∀y∈ys,∃(b:Addr) (i j:Int),y=.ref b/\bM K H b [.int i,.int j]))->(ys.length<=1000)->(∀(zs:List V)(p:Addr),zs.Perm ys->H p=none->Q (.ref p) (upd H p (.lst zs)))->y9 K xs H Q
noncomputable def Ep (K:Vz):List V->Hp->VK->Prop:=λxs H Q=>y9 K xs H Q
def wO:cu X (.builtin "sorted") (Ep X.K):=by
 intro pins s U H xs us Q I r h;obtain⟨a,ys,rfl,hq,tu,few,q⟩:=h;obtain⟨u,rfl,ru⟩:=r.one;cases ru;obtain⟨its,rv,p,_⟩:=I.list hq;have hlen:its.length=ys.length:=rv.length.symm;have hv:∀v∈its,TS.IsPair s.heap v:=λv m=>by
  obtain⟨i,hi⟩:=Sv m;have go:∀{ys:List V}{its:WH},Vals ys its->∀(i:Nat)(u:Value),its[i]?=some u->∃x,ys[i]?=some x/\RelV x u:=λ{ys its} r=>by
   induction r with
   |nil=>exact λi u h=>(nomatch h)
   |cons h _ ih=>
    intro i u e;cases i with
    |zero=>cases e;exact⟨_,rfl,h⟩
    |succ i=>exact ih i u e
  obtain⟨x,hx,rx⟩:=go rv i v hi;obtain⟨b,i1,j1,rfl,sb⟩:=tu x (Rj hx);cases rx;obtain⟨its2,r2,⟨o2,e2,c2,n2,d2⟩,_⟩:=I.tuple sb;cases r2 with
  |cons ra r3=>
   cases r3 with
   |cons rb r4=>cases r4;obtain⟨t,rfl⟩:=ra;obtain⟨u,rfl⟩:=rb;exact⟨b,o2,i1,j1,t,u,n2,rfl,e2,c2,d2⟩
 have line:(1000:Nat)<=sizeLine:=by decide
 refine Calls.call_function_entry kind_sorted plain_sorted entry_sorted (args_sorted1 _) (?_:_);unfold Builtin.«sorted»;refine Q9 (m:=checkCount "sorted" 1 1 _) (RD (?_:_));refine Q9 (collect_list p.isList (?_:_) (by lia));refine Q9 (wpAny_newList (?_:_) (by lia));have sz:((s.heap.push (seqObj "list" #[] 0)).update s.heap.objs.size (Obj.mapSeq (·++its.toArray))).objs.size=s.heap.objs.size+1:=by rw[Heap.size_update];exact size_push' _ _
 have g0:(((s.heap.push (seqObj "list" #[] 0)).update s.heap.objs.size (Obj.mapSeq (·++its.toArray))).push (seqObj "list" its.toArray 0)).get? (s.heap.objs.size+1)=some (seqObj "list" its.toArray 0):=by rw[<-sz];exact Rx _ rfl
 have old:∀b o,s.heap.get? b=some o->(((s.heap.push (seqObj "list" #[] 0)).update s.heap.objs.size (Obj.mapSeq (·++its.toArray))).push (seqObj "list" its.toArray 0)).get? b=some o:=λb o e=>Ra _ ((Sf _ _ (U1 (RL e))).trans (Ra _ e));refine id (?_:wpAny _ _ _ _ _ { s with heap:=((s.heap.push (seqObj "list" #[] 0)).update s.heap.objs.size (Obj.mapSeq (·++its.toArray))).push (seqObj "list" its.toArray 0) });rw[sz];have hv2:∀v∈its,TS.IsPair (((s.heap.push (seqObj "list" #[] 0)).update s.heap.objs.size (Obj.mapSeq (·++its.toArray))).push (seqObj "list" its.toArray 0)) v:=λv m=>by obtain⟨b,o,i,j,t,u,n,e,ho,r⟩:=hv v m;exact⟨b,o,i,j,t,u,n,e,old b o ho,r⟩
 refine Q9 (Sj (TH slot_list_sort ⟨_,g0,rfl⟩ entry_list_sort (TS.Az g0 hv2 (by lia) λout pm=>⟨_,rfl,(?_:_)⟩) (args_list_sort _)));obtain⟨n,hn⟩:=sortedHeap_at (vs:=its) (out:=out) g0;obtain⟨zs,pz,rz⟩:=EV pm rv;have new:s.heap.get? (s.heap.objs.size+1)=none:=VD (Nat.le_succ _);have I2:=I.Hz (a:=s.heap.objs.size+1) (o:=.lst zs) (t':=s.toks) (h':=sortedHeap (((s.heap.push (seqObj "list" #[] 0)).update s.heap.objs.size (Obj.mapSeq (·++its.toArray))).push (seqObj "list" its.toArray 0)) (s.heap.objs.size+1) its out) (λb o hb=>by
   have lt:=RL hb;rw[sortedHeap_old (Rc (UW lt)) (by rw[size_push',sz];exact UW (UW lt))]
   exact old b o hb) new
  ⟨by rw[pz.length_eq];lia,out.toList,n,rz,by simpa using hn⟩
 exact RD ⟨_,rfl,.ref (s.heap.objs.size+1),_,I2,rfl,q zs _ pz (I.lV new)⟩
end
noncomputable def LC (K:Vz)(a:Addr):It:=
 ⟨λi H=>∃xs x,bI K H a xs/\xs[i]?=some x,λi H v H'=>∃T,H T=none/\v=.ref T/\∀xs,bI K H a xs->∃x,xs[i]?=some x/\H'=upd H T (.tup [.int i,x]),λi H=>∃xs,bI K H a xs/\xs.length<=i⟩
def DQ{P:Program}{w:World}{K:Vz}{elts:WK}{x1:Nat}{pos:Pos}(a e it:Addr)(hne:e≠it) : Turn P w K (.Tuple elts x1 pos) (LC K a) [e,it] e (λi h=>(∃old,IsEnum h e it i old)/\h.IsListIter it a i) where
 mem:=by simp
 obj:=λi h st b hb=>by
  obtain⟨⟨old,he⟩,o,e1,c,d⟩:=st;rcases RP.mp hb with z|z
  .subst z;exact⟨_,he,λv q=>by cases q⟩
  .have z:b=it:=by simpa using z
   subst z;exact⟨o,e1,λv q=>by rw[d]at q;cases q⟩
 keep:=λi h h' st k=>by
  obtain⟨⟨old,he⟩,li⟩:=st;exact⟨⟨old,k e (by simp) _ he⟩,li.at λo q=>k it (by simp) o q⟩
 item:=by
  intro X hP hw hK hc i pins s U H E I hf st hg;subst hP hw hK;obtain⟨xs,x,hq,hx⟩:=hg;obtain⟨its,rv,p,hz⟩:=I.list hq;obtain⟨u,hu,ru⟩:=rv.get hx;obtain⟨⟨old,he⟩,hit⟩:=st;have fe:=hf e (by simp)
  have fi:=hf it (by simp)
  refine wpAny_pyNext_enum_item he hit p.isList (x:=u) (by simpa using hu) hne λh1 heo hit1 ht1 hz1 hk1=>⟨_,rfl,?_⟩
  refine wpAny_letOwnedTupleGo_enum heo λh2 he2 hs2=>?_
  have elt:e<s.heap.objs.size:=RL he;have ht2:h2.get? s.heap.objs.size=some { cls:=.type "tuple",data:=.seq #[.int i s.toks,u] }:=(hs2.2 _ (U1 elt)).trans ht1;have hfr:H s.heap.objs.size=none:=I.hok.fresh (RB _);have k2:∀b o,b≠e->b≠it->s.heap.get? b=some o->h2.get? b=some o:=λb o b1 b2 q=>hs2.extBut b o b1 (hk1 b o b1 b2 q)
  have neT:∀b o,H b=some o->b≠s.heap.objs.size:=λb o q z=>by rw[z,hfr]at q;cases q
  have neS:∀b o,s.heap.get? b=some o->b≠s.heap.objs.size:=λb o q=>Rc (RL q)
  have nt:∀b o,H b=some o->b≠e/\b≠it:=λb o q=>⟨(λz=>by rw[z,fe.1]at q;cases q),(λz=>by rw[z,fi.1]at q;cases q)⟩
  have nin:∀b,b∉[e,it]->b≠e/\b≠it:=λb hb=>⟨λz=>hb (by simp[z]),λz=>hb (by simp[z])⟩
  have I2:Inv X pins U (upd H s.heap.objs.size (.tup [.int i,x])) { s with heap:=h2,toks:=s.toks+1 }:=by
   refine I.step (g':=s.gens) (d':=s.drawn) (ch:=[e,it]) (λb hb=>?_) (λb o _ _ hc' q _=>k2 b o (nin b hc').1 (nin b hc').2 q) (λb o _ _ hc' q _=>⟨o.slots,k2 b o (nin b hc').1 (nin b hc').2 q⟩)
    (λb o _ q n=>by rw[aj (neS b o q)];exact n) (λb o hc' q=>⟨o,k2 b o (nin b hc').1 (nin b hc').2 q⟩) (λb ys q=>by rw[aj (neT b _ q)];exact q) (λb o v q=>by rw[aj (neT b _ q)];exact q)
    (λb ps q=>⟨#[],by rw[aj (neT b _ q),q];simp⟩) (λm hm=>?_) (λb o q=>?_) I.bare
   .rcases RP.mp hb with z|z
    .subst z;exact⟨fe.2.2.2.1,fe.2.1,fe.2.2.2.2.1,fe.2.2.2.2.2⟩
    .have z:b=it:=by simpa using z
     subst z;exact⟨fi.2.2.2.1,fi.2.1,fi.2.2.2.2.1,fi.2.2.2.2.2⟩
   .obtain⟨o,es,ep,ho,r⟩:=hm;exact⟨o,es,ep,k2 _ o (Ne.symm fe.2.1) (Ne.symm fi.2.1) ho,r⟩
   .by_cases z:b=s.heap.objs.size
    .subst z;rw[aC]at q;cases q;exact⟨(by show 2<=sizeLine;decide),[.int i s.toks,u],.cons ⟨_,rfl⟩ (.cons ru .nil),_,ht2,rfl,_,rfl⟩
    .rw[aj z]at q;refine(I.hok b o q).stay (λc v hc' r=>k2 c v ?_ ?_ r) (λc r=>by rw[aj (neT c _ r)];exact r) λc ys r=>by rw[aj (neT c _ r)];exact r
     .rcases hc' with y|y
      .rw[y];exact(nt b o q).1
      .exact(nt c _ y).1
     .rcases hc' with y|y
      .rw[y];exact(nt b o q).2
      .exact(nt c _ y).2
  refine⟨.ref s.heap.objs.size,_,I2,rfl,⟨s.heap.objs.size,hfr,rfl,λys hy=>⟨x,by rw[I.mX hy hq];exact hx,rfl⟩⟩,⟨⟨_,he2⟩,?_⟩,λb hb=>?_⟩
  .exact hit1.at λo q=>hs2.extBut it o (Ne.symm hne) q
  .rcases RP.mp hb with z|z
   .subst z;rw[aj (Rc elt)];exact fe.1
   .have z:b=it:=by simpa using z
    subst z;obtain⟨o,q,_⟩:=id hit;rw[aj (Rc (RL q))];exact fi.1
 done:=by
  intro X hP hw hK hc i pins s U H E I hf st hg;subst hP hw hK;obtain⟨xs,hq,hx⟩:=hg;obtain⟨its,rv,p,hz⟩:=I.list hq;obtain⟨⟨old,he⟩,hit⟩:=st;obtain⟨f0,f1,f2,f3,f4,f5⟩:=hf it (by simp)
  have hl:=rv.length;exact wpAny_pyNext_enum_end (I.ok.hd hc) he hit p.isList (by simp;lia) λh' eb=>⟨rfl,I.turned (t':=s.toks) (λb o hb q=>eb b o hb q) f0 f1 f3 f4 f5⟩
 self:=λ_ _ _ _ _ st h=>by
  obtain⟨⟨old,he⟩,_⟩:=st;exact wpAny_pyIter_enum he h
section
variable{X:Cx}
inductive ET(K:Vz)(R:(It->Hp->Prop))(vs:List V)(H1:Hp):Prop
 |mk:∀a,(vs=[.ref a])->((∃xs,bI K H1 a xs))->(R (LC K a) H1)->ET K R vs H1
noncomputable def NS (K:Vz)(ta:TA):TI:=λU H R=>ta U H λvs H1=>ET K R vs H1
def IK{elts:WK}{x1:Nat}{tp p pos:Pos}{e:Expr}{ta:TA}(hg:Gl X "enumerate")(hm:X.mg "enumerate"=none)(ha:PA X [e] ta)(hs:starEach [e] X.env=[(false,eval e X.env)]:=by rfl) : PI X (.Tuple elts x1 tp) (.Call (.Name "enumerate" p) [e] [] pos) (NS X.K ta):=by
 intro pins s U H R I h;refine Call_ (ji I hg hm boot_enumerate (U3 (aO (ha pos pins s U H _ I h) λus s1 ⟨vs,H1,I1,r1,q1⟩=>?_) hs rfl));obtain⟨a,ev,⟨xs,hq⟩,q⟩:=q1;subst ev;obtain⟨u,rfl,ru⟩:=r1.one;cases ru;obtain⟨its,rv,pl,hz⟩:=I1.list hq;refine call_enumerate_list pl.isList λh' he hit hsz hk=>?_;refine wpAny_pyIter_enum he ?_;have I2:Inv X pins U H1 { s1 with heap:=h' }:=I1.kept (t':=s1.toks) hk;refine⟨s1.heap.objs.size+1,[s1.heap.objs.size+1,s1.heap.objs.size],_,_,H1,rfl,I2,DQ a _ _ (Nat.succ_ne_self _),⟨⟨_,he⟩,hit⟩,λb hb=>?_,q⟩;have hb:s1.heap.objs.size<=b:=by
  rcases RP.mp hb with z|z;{rw[z];exact Nat.le_succ _};have z:b=s1.heap.objs.size:=by simpa using z
  rw[z];exact RB _
 exact I1.tQ hb (I1.hok.fresh hb)
end
section
variable{prog:Program}{w:World}{A:Around}{R:Result->Shared->Prop}{s:Shared}
noncomputable abbrev nQ (prog:Program)(w:World)(A:Around)(env:Env)(R:Result->Shared->Prop):Vr:=notedBy (model prog w) A env λe s'=>R (.error e) s'
end
noncomputable def Ly (K:Vz)(a b:Addr):It:=
 ⟨λi H=>∃xs ys x y,bI K H a xs/\bI K H b ys/\xs[i]?=some x/\ys[i]?=some y,λi H v H'=>∃T,H T=none/\v=.ref T/\∀xs ys,bI K H a xs->bI K H b ys->∃x y,xs[i]?=some x/\ys[i]?=some y/\H'=upd H T (.tup [x,y]),
  λi H=>∃xs ys,bI K H a xs/\bI K H b ys/\(xs.length<=i\/ys.length<=i)⟩
def Gf{P:Program}{w:World}{K:Vz}{elts:WK}{x1:Nat}{pos:Pos}(a b z TI TO i1 i2:Addr)(D:PySem.ZipApart z TI TO i1 i2 a b) : Turn P w K (.Tuple elts x1 pos) (Ly K a b) [z,TI,TO,i1,i2] z (λi h=>PySem.IsZip h z TI TO .none/\PySem.IsPair h TI (.ref i1) (.ref i2)/\(∃u v,PySem.IsPair h TO u v)/\h.IsListIter i1 a i/\h.IsListIter i2 b i) where
 mem:=by simp
 obj:=λi h st c hc=>by
  obtain⟨h1,h2,⟨u,v,h3⟩,h4,h5⟩:=st;simp only[RP,S4,Sg]at hc;rcases hc with rfl|rfl|rfl|rfl|rfl
  .exact⟨_,h1,λv q=>by cases q⟩
  .exact⟨_,h2,λv q=>by cases q⟩
  .exact⟨_,h3,λv q=>by cases q⟩
  .obtain⟨o,e1,_,d⟩:=h4;exact⟨o,e1,λv q=>by rw[d]at q;cases q⟩
  .obtain⟨o,e1,_,d⟩:=h5;exact⟨o,e1,λv q=>by rw[d]at q;cases q⟩
 keep:=λi h h' st k=>by
  obtain⟨h1,h2,⟨u,v,h3⟩,h4,h5⟩:=st;exact⟨k z (by simp) _ h1,k TI (by simp) _ h2,⟨u,v,k TO (by simp) _ h3⟩,h4.at λo q=>k i1 (by simp) o q,h5.at λo q=>k i2 (by simp) o q⟩
 item:=by
  intro X hP hw hK hc i pins s U H E I hf st hg;subst hP hw hK;obtain⟨xs,ys,x,y,hq,hq2,hx,hy⟩:=hg;obtain⟨its,rv,p,_⟩:=I.list hq;obtain⟨its2,rv2,p2,_⟩:=I.list hq2;obtain⟨u,hu,ru⟩:=rv.get hx;obtain⟨u2,hu2,ru2⟩:=rv2.get hy;obtain⟨h1,h2,⟨ua,ub,h3⟩,h4,h5⟩:=st;have fz:=hf z (by simp)
  have fI:=hf TI (by simp)
  have fO:=hf TO (by simp)
  have f1:=hf i1 (by simp)
  have f2:=hf i2 (by simp)
  refine PySem.wpAny_pyNext_zip_item D h1 h2 h3 h4 h5 p.isList p2.isList (x:=u) (y:=u2) (by simpa using hu) (by simpa using hu2) λhA a1 a2 a3 a4 a5 a6 a7=>⟨_,rfl,?_⟩
  refine PySem.wpAny_letOwnedTupleGo_zip a1 λhB b1 hs=>?_
  have zlt:z<s.heap.objs.size:=RL h1;have ht2:hB.get? s.heap.objs.size=some { cls:=.type "tuple",data:=.seq #[u,u2] }:=(hs.2 _ (U1 zlt)).trans a5;have hfr:H s.heap.objs.size=none:=I.hok.fresh (RB _);have k2:∀c o,c≠z->c≠TO->c≠i1->c≠i2->s.heap.get? c=some o->hB.get? c=some o:=λc o c1 c2 c3 c4 q=>hs.extBut c o c1 (a7 c o c1 c2 c3 c4 q)
  have neT:∀c o,H c=some o->c≠s.heap.objs.size:=λc o q z=>by rw[z,hfr]at q;cases q
  have neS:∀c o,s.heap.get? c=some o->c≠s.heap.objs.size:=λc o q=>Rc (RL q)
  have nt:∀c o,H c=some o->c≠z/\c≠TO/\c≠i1/\c≠i2:=λc o q=>⟨(λe=>by rw[e,fz.1]at q;cases q),(λe=>by rw[e,fO.1]at q;cases q),(λe=>by rw[e,f1.1]at q;cases q),(λe=>by rw[e,f2.1]at q;cases q)⟩
  have nin:∀c,c∉[z,TO,i1,i2]->c≠z/\c≠TO/\c≠i1/\c≠i2:=λc hc=>⟨λe=>hc (by simp[e]),λe=>hc (by simp[e]),λe=>hc (by simp[e]),λe=>hc (by simp[e])⟩
  have kk:∀c o,(c≠z/\c≠TO/\c≠i1/\c≠i2)->s.heap.get? c=some o->hB.get? c=some o:=λc o n q=>k2 c o n.1 n.2.1 n.2.2.1 n.2.2.2 q
  have I2:Inv X pins U (upd H s.heap.objs.size (.tup [x,y])) { s with heap:=hB }:=by
   refine I.step (g':=s.gens) (d':=s.drawn) (t':=s.toks) (ch:=[z,TO,i1,i2]) (λc hc=>?_) (λc o _ _ hc' q _=>kk c o (nin c hc') q) (λc o _ _ hc' q _=>⟨o.slots,kk c o (nin c hc') q⟩)
    (λc o _ q n=>by rw[aj (neS c o q)];exact n) (λc o hc' q=>⟨o,kk c o (nin c hc') q⟩) (λc ys q=>by rw[aj (neT c _ q)];exact q) (λc o v q=>by rw[aj (neT c _ q)];exact q)
    (λc ps q=>⟨#[],by rw[aj (neT c _ q),q];simp⟩) (λm hm=>?_) (λc o q=>?_) I.bare
   .simp only[RP,S4,Sg]at hc;rcases hc with rfl|rfl|rfl|rfl
    .exact⟨fz.2.2.2.1,fz.2.1,fz.2.2.2.2.1,fz.2.2.2.2.2⟩
    .exact⟨fO.2.2.2.1,fO.2.1,fO.2.2.2.2.1,fO.2.2.2.2.2⟩
    .exact⟨f1.2.2.2.1,f1.2.1,f1.2.2.2.2.1,f1.2.2.2.2.2⟩
    .exact⟨f2.2.2.2.1,f2.2.1,f2.2.2.2.2.1,f2.2.2.2.2.2⟩
   .obtain⟨o,es,ep,ho,r⟩:=hm;exact⟨o,es,ep,kk _ o ⟨Ne.symm fz.2.1,Ne.symm fO.2.1,Ne.symm f1.2.1,Ne.symm f2.2.1⟩ ho,r⟩
   .by_cases e:c=s.heap.objs.size
    .subst e;rw[aC]at q;cases q;exact⟨(by show 2<=sizeLine;decide),[u,u2],.cons ru (.cons ru2 .nil),_,ht2,rfl,_,rfl⟩
    .rw[aj e]at q;refine(I.hok c o q).stay (λd v hd r=>kk d v ?_ r) (λd r=>by rw[aj (neT d _ r)];exact r) λd ys r=>by rw[aj (neT d _ r)];exact r
     rcases hd with y|y
     .rw[y];exact nt c o q
     .exact nt d _ y
  refine⟨.ref s.heap.objs.size,_,I2,rfl,⟨s.heap.objs.size,hfr,rfl,λxs2 ys2 hx2 hy2=>⟨x,y,by rw[I.mX hx2 hq];exact hx,by rw[I.mX hy2 hq2];exact hy,rfl⟩⟩,⟨b1,?_,⟨_,_,hs.extBut _ _ D.TOz a2⟩,a3.at λo q=>hs.extBut _ _ D.i1z q,a4.at λo q=>hs.extBut _ _ D.i2z q⟩,λc hc=>?_⟩
  .exact k2 _ _ D.TIz D.TITO D.TIi1 D.TIi2 h2
  .have old:∀c,(∃o,s.heap.get? c=some o)->H c=none->upd H s.heap.objs.size (.tup [x,y]) c=none:=λc ⟨o,q⟩ hn=>by rw[aj (neS c o q)];exact hn
   simp only[RP,S4,Sg]at hc;rcases hc with rfl|rfl|rfl|rfl|rfl
   .exact old _ ⟨_,h1⟩ fz.1
   .exact old _ ⟨_,h2⟩ fI.1
   .exact old _ ⟨_,h3⟩ fO.1
   .obtain⟨o,q,_⟩:=id h4;exact old _ ⟨o,q⟩ f1.1
   .obtain⟨o,q,_⟩:=id h5;exact old _ ⟨o,q⟩ f2.1
 done:=by
  intro X hP hw hK hc i pins s U H E I hf st hg;subst hP hw hK;obtain⟨xs,ys,hq,hq2,hx⟩:=hg;obtain⟨its,rv,p,_⟩:=I.list hq;obtain⟨its2,rv2,p2,_⟩:=I.list hq2;obtain⟨h1,h2,⟨ua,ub,h3⟩,h4,h5⟩:=st;have hl:=rv.length;have hl2:=rv2.length;have fz:=hf z (by simp)
  have fO:=hf TO (by simp)
  have f1:=hf i1 (by simp)
  have f2:=hf i2 (by simp)
  refine PySem.wpAny_pyNext_zip_end (I.ok.hd hc) D h1 h2 h3 h4 h5 p.isList p2.isList (hx.imp (λe=>by simp;lia) (λe=>by simp;lia)) λhA k=>⟨rfl,?_⟩
  have nin:∀c,c∉[z,TO,i1,i2]->c≠z/\c≠TO/\c≠i1/\c≠i2:=λc hc=>⟨λe=>hc (by simp[e]),λe=>hc (by simp[e]),λe=>hc (by simp[e]),λe=>hc (by simp[e])⟩
  have kk:∀c o,(c≠z/\c≠TO/\c≠i1/\c≠i2)->s.heap.get? c=some o->hA.get? c=some o:=λc o n q=>k c o n.1 n.2.1 n.2.2.1 n.2.2.2 q
  have nt:∀c o,H c=some o->c≠z/\c≠TO/\c≠i1/\c≠i2:=λc o q=>⟨(λe=>by rw[e,fz.1]at q;cases q),(λe=>by rw[e,fO.1]at q;cases q),(λe=>by rw[e,f1.1]at q;cases q),(λe=>by rw[e,f2.1]at q;cases q)⟩
  refine I.step (g':=s.gens) (d':=s.drawn) (t':=s.toks) (ch:=[z,TO,i1,i2]) (λc hc=>?_) (λc o _ _ hc' q _=>kk c o (nin c hc') q) (λc o _ _ hc' q _=>⟨o.slots,kk c o (nin c hc') q⟩)
   (λc o _ q n=>n) (λc o hc' q=>⟨o,kk c o (nin c hc') q⟩) (λc ys q=>q) (λc o v q=>q) (λc ps q=>⟨#[],by rw[q];simp⟩) (λm hm=>?_) (λc o q=>?_) I.bare
  .simp only[RP,S4,Sg]at hc;rcases hc with rfl|rfl|rfl|rfl
   .exact⟨fz.2.2.2.1,fz.2.1,fz.2.2.2.2.1,fz.2.2.2.2.2⟩
   .exact⟨fO.2.2.2.1,fO.2.1,fO.2.2.2.2.1,fO.2.2.2.2.2⟩
   .exact⟨f1.2.2.2.1,f1.2.1,f1.2.2.2.2.1,f1.2.2.2.2.2⟩
   .exact⟨f2.2.2.2.1,f2.2.1,f2.2.2.2.2.1,f2.2.2.2.2.2⟩
  .obtain⟨o,es,ep,ho,r⟩:=hm;exact⟨o,es,ep,kk _ o ⟨Ne.symm fz.2.1,Ne.symm fO.2.1,Ne.symm f1.2.1,Ne.symm f2.2.1⟩ ho,r⟩
  .refine(I.hok c o q).stay (λd v hd r=>kk d v ?_ r) (λd r=>r) λd ys r=>r
   rcases hd with y|y
   .rw[y];exact nt c o q
   .exact nt d _ y
 self:=λ_ _ _ _ _ st h=>PySem.wpAny_pyIter_zip st.1 h
section
variable{X:Cx}
inductive Hr(K:Vz)(R:(It->Hp->Prop))(vs:List V)(H1:Hp):Prop
 |mk:∀a b,(vs=[.ref a,.ref b])->((∃xs,bI K H1 a xs))->((∃ys,bI K H1 b ys))->(R (Ly K a b) H1)->Hr K R vs H1
noncomputable def BC (K:Vz)(ta:TA):TI:=λU H R=>ta U H λvs H1=>Hr K R vs H1
def MO{x1:Nat}(hg:Gl X "zip")(hm:X.mg "zip"=none)(ha:PA X [e1,e2] ta)(hs:starEach [e1,e2] X.env=[(false,eval e1 X.env),(false,eval e2 X.env)]:=by rfl)(hs2:starEach [e2] X.env=[(false,eval e2 X.env)]:=by rfl) : PI X (.Tuple elts x1 tp) (.Call (.Name "zip" p) [e1,e2] [] pos) (BC X.K ta):=by
 intro pins s U H R I h;refine Call_ (ji I hg hm PyProof.Rows.boot_zip (U3 (aO (ha pos pins s U H _ I h) λus s1 ⟨vs,H1,I1,r1,q1⟩=>?_) (by rw[hs,hs2]) (by rw[hs2];rfl)));obtain⟨a,b,ev,⟨xs,hq⟩,⟨ys,hq2⟩,q⟩:=q1;subst ev;obtain⟨u1,u2,rfl,ru1,ru2⟩:=r1.two;cases ru1;cases ru2;obtain⟨its,rv,pl,_⟩:=I1.list hq;obtain⟨its2,rv2,pl2,_⟩:=I1.list hq2;have la:a<s1.heap.objs.size:=by obtain⟨o,ho,_⟩:=pl.isList;exact RL ho
 have lb:b<s1.heap.objs.size:=by obtain⟨o,ho,_⟩:=pl2.isList;exact RL ho
 refine PySem.call_zip_2 pl.isList pl2.isList λh' hz h2 h3 h4 h5 hsz hk=>?_;refine PySem.wpAny_pyIter_zip hz ?_;have I2:Inv X pins U H1 { s1 with heap:=h' }:=I1.kept (t':=s1.toks) hk;have ga:∀k:Nat,a≠s1.heap.objs.size+k:=λk=>Rc (Rn la (Tr _ _));have gb:∀k:Nat,b≠s1.heap.objs.size+k:=λk=>Rc (Rn lb (Tr _ _));have D:PySem.ZipApart (s1.heap.objs.size+4) (s1.heap.objs.size+2) (s1.heap.objs.size+3) s1.heap.objs.size (s1.heap.objs.size+1) a b:=by constructor<;>first|exact ga 4|exact ga 3|exact ga 1|exact ga 0|exact gb 4|exact gb 3|exact gb 1|exact gb 0|exact Rc (by lia)|exact U1 (by lia)
 refine⟨s1.heap.objs.size+4,[s1.heap.objs.size+4,s1.heap.objs.size+2,s1.heap.objs.size+3,s1.heap.objs.size,s1.heap.objs.size+1],_,_,H1,rfl,I2,Gf a b _ _ _ _ _ D,⟨hz,h2,⟨_,_,h3⟩,h4,h5⟩,λc hc=>?_,q⟩;have hb:s1.heap.objs.size<=c:=by simp only[RP,S4,Sg]at hc;rcases hc with rfl|rfl|rfl|rfl|rfl;{exact Tr _ _};{exact Tr _ _};{exact Tr _ _};{exact RB _};exact Tr _ _
 exact I1.tQ hb (I1.hok.fresh hb)
theorem l5:∀{ns:WO}{us:WH},Vals (ns.map V.int) us->∃ps:List (Int×Tok),us=ps.map (λp=>Value.int p.1 p.2)/\ns=ps.map (·.1)
 |[],_,.nil=>⟨[],rfl,rfl⟩
 |n::ns,_,.cons h r=>by obtain⟨t,rfl⟩:=h;obtain⟨ps,rfl,rfl⟩:=l5 r;exact⟨(n,t)::ps,rfl,rfl⟩
def D8(hc:X.calm=true):cu X (.builtin "max") (λxs H Q=>∃(a:Addr)(ns:WO),xs=[.ref a]/\bI X.K H a (ns.map V.int)/\ns≠[]/\∀M,M∈ns->(∀n∈ns,n<=M)->Q (.int M) H):=by
 intro pins s U H xs us Q I r h;obtain⟨a,ns,rfl,hq,ne,q⟩:=h;obtain⟨u,rfl,ru⟩:=vals1 r;cases ru;obtain⟨its,rv,p,_⟩:=I.list hq;obtain⟨ps,rfl,rfl⟩:=l5 rv;have hl:s.heap.IsList a (intItems ps.toArray):=by have:=p.isList;simpa[intItems]using this
 refine max_intList (I.ok.hd hc) hl (by simpa using Sx.mpr (λe=>ne (by rw[e];rfl))) λv h' tk hv hk=>?_;obtain⟨t,rfl⟩:=U9 hv;obtain⟨g1,g2⟩:=argBest_gt (numAt ps.toArray) (ps.toArray.size-1);have pos:0<ps.length:=Sx.mpr λe=>ne (by rw[e];rfl);refine⟨.int _,H,I.kept (t':=tk) hk,⟨_,rfl⟩,q _ ?_ λn hn=>?_⟩;{rw[TQ];exact getD_mem (by simp at g1⊢;lia)};obtain⟨j,hj,rfl⟩:=mem_getD hn;rw[RA]at hj;have e:(ps.map (·.1)).getD j 0=numAt ps.toArray j:=by rw[TQ]
 rw[e];exact g2 j (by simp;lia)
end
end L2
namespace L2
open PySem PySem.Spec PyProof.Rows PySem.W
section
variable{X:Cx}
def EN(hc:X.calm=true):cu X (.builtin "min") (λxs H Q=>∃(a:Addr)(ns:WO),xs=[.ref a]/\bI X.K H a (ns.map V.int)/\ns≠[]/\∀M,M∈ns->(∀n∈ns,M<=n)->Q (.int M) H):=by
 intro pins s U H xs us Q I r h;obtain⟨a,ns,rfl,hq,ne,q⟩:=h;obtain⟨u,rfl,ru⟩:=vals1 r;cases ru;obtain⟨its,rv,p,_⟩:=I.list hq;obtain⟨ps,rfl,rfl⟩:=l5 rv;have hl:s.heap.IsList a (intItems ps.toArray):=by have:=p.isList;simpa[intItems]using this
 refine min_intList (I.ok.hd hc) hl (by simpa using Sx.mpr (λe=>ne (by rw[e];rfl))) λv h' tk hv hk=>?_;obtain⟨t,rfl⟩:=U9 hv;obtain⟨g1,g2⟩:=argBest_lt (numAt ps.toArray) (ps.toArray.size-1);have pos:0<ps.length:=Sx.mpr λe=>ne (by rw[e];rfl);refine⟨.int _,H,I.kept (t':=tk) hk,⟨_,rfl⟩,q _ ?_ λn hn=>?_⟩;{rw[TQ];exact getD_mem (by simp at g1⊢;lia)};obtain⟨j,hj,rfl⟩:=mem_getD hn;rw[RA]at hj;have e:(ps.map (·.1)).getD j 0=numAt ps.toArray j:=by rw[TQ]
 rw[e];exact g2 j (by simp;lia)
theorem qp(ns:WO):∀k,k<=ns.length->preSum (λi=>ns.getD i 0) k=(ns.take k).sum
 |0,_=>rfl
 |k+1,h=>by have ih:=qp ns k (by lia);rw[preSum,ih,TN,RS (show k<ns.length by lia),RV,RS (show k<ns.length by lia)];rw[Ut];simp
def int_at{ns:WO}{its:WH}(rv:Vals (ns.map V.int) its){i:Nat}(h:its[i]?=some v):∃t,v=.int (ns.getD i 0) t:=by
 obtain⟨x,hx,rx⟩:=Ai rv i v h;rw[RO]at hx;cases e:ns[i]? with
 |none=>rw[e]at hx;cases hx
 |some b=>rw[e]at hx;cases hx;obtain⟨t,rfl⟩:=rx;exact⟨t,by rw[RV,e];rfl⟩
def CS(hc:X.calm=true):cu X (.builtin "sum") (λxs H Q=>∃(a:Addr)(ns:WO),xs=[.ref a]/\bI X.K H a (ns.map V.int)/\Q (.int ns.sum) H):=by
 intro pins s U H xs us Q I r h;obtain⟨a,ns,rfl,hq,q⟩:=h;obtain⟨u,rfl,ru⟩:=vals1 r;cases ru;obtain⟨its,rv,p,_⟩:=I.list hq;have hl:=p.isList;have hlt:a<s.heap.objs.size:=by obtain⟨o,ho,_⟩:=id hl;exact RL ho
 have hh:X.A.in1.handled=none:=by simp[I.ok.hd hc]
 have hn:its.toArray.size=ns.length:=by rw[RQ,<-rv.length,RA]
 refine call_sum_walkAnyB (wpAny_pyIter_list hl ?_);refine⟨_,_,_,_,_,_,_,λi=>ns.getD i 0,rfl,(Walks.list hh _ a (Rc hlt) its.toArray).toS,?_,?_,?_,?_⟩;{exact⟨⟨_,Rx _ rfl,rfl,rfl⟩,hl.push _⟩};{intro b hb;show b<(s.heap.push _).objs.size;rw[Heap.size_push];rcases RP.mp hb with rfl|hb;{exact UX _};rcases RP.mp hb with rfl|hb;{exact UW hlt};cases hb}
 .intro i v hP;have hP':its[i]?=some v:=by simpa using hP
  obtain⟨t,rfl⟩:=int_at rv hP';exact .inl ⟨t,rfl⟩
 intro s' t' mv;obtain⟨h',g,d,t,os⟩:=s';obtain⟨m1,m2,m3,m4,m5⟩:=mv;dsimp only at m1 m2 m3 m4;subst m2 m3 m4;rw[hn,qp ns _ (RB _),SK];exact⟨.int _,H,I.kept (t':=t) (old_kept m1),⟨_,rfl⟩,q⟩
end
end L2
namespace Dv
open PySem L2 PySem.W
section
variable{K:Frag}{H Hm:Hp}{P:Kd->PyData->Prop}{Q:VK}
noncomputable def bL (K:Frag)(H Hm:Hp)(P:Kd->PyData->Prop)(Q:VK):Prop:=∀k v u H' Hm' fp,P k v->ah H H'->ah Hm Hm'->ah Hm' H'->(∀a,H a≠none->OE (Hm' a) (Hm a))->Own K H' Hm' k u v fp->(∀a∈fp,H a=none/\Hm' a=none)->Q u H'
def bL.sc(q:bL K H Hm P Q)(s:ah Hm H)(p:P .sh v)(r:Rp K Hm u v):Q u H:=q _ _ _ _ _ [] p (ah.refl _) (ah.refl _) s (λ_ _=>.inl rfl) (.sh r) λ_ z=>by cases z
def gg(s:ah Hm H){p:Addr}(h:H p=none):Hm p=none:=by
 cases e:Hm p with
 |none=>rfl
 |some o=>rw[s _ _ e]at h;cases h
def bL.nl(q:bL K H Hm P Q)(s:ah Hm H){p:Addr}(pp:P (.ow false) (.list ds))(hp:H p=none)(r:aA K Hm xs ds):Q (.ref p) (upd H p (.lst xs)):=
 q _ _ _ _ Hm [p] pp (bY hp) (ah.refl _) (s.trans (bY hp)) (λ_ _=>.inl rfl) (.ow aC r) λa ha=>by rw[RE.mp ha];exact⟨hp,gg s hp⟩
def bL.nt(q:bL K H Hm P Q)(s:ah Hm H){p:Addr}(pp:P .sh (.tuple ds))(hp:H p=none)(r:aA K Hm xs ds):Q (.ref p) (upd H p (.tup xs)):=by
 have n:=gg s hp;have s2:=bY (o:=.tup xs) n;refine q _ _ _ _ (upd Hm p (.tup xs)) [] pp (bY hp) s2 (λb o e=>?_) (λa ha=>.inl (aj λz=>ha (z▸hp))) (.sh (.tup aC (r.mono s2))) λ_ z=>by cases z
 by_cases c:b=p;{rw[c,aC]at e⊢;exact e};rw[aj c]at e⊢;exact s _ _ e
end
noncomputable def r2 (r:R2):List V->Hp->VK->Prop:=λvs H Q=>match vs with
 |[x,y]=>r x y H Q
 |_=>False
noncomputable def r1 (r:V->Hp->VK->Prop):List V->Hp->VK->Prop:=λvs H Q=>match vs with
 |[x]=>r x H Q
 |_=>False
def dg(h:aA K H vs [a]):∃x,vs=[x]/\Rp K H x a:=by
 cases h with
 |cons h t=>cases t;exact⟨_,rfl,h⟩
def fL(h:aA K H vs [a,b]):∃x y,vs=[x,y]/\Rp K H x a/\Rp K H y b:=by
 cases h with
 |cons h t=>obtain⟨y,rfl,h2⟩:=dg t;exact⟨_,_,rfl,h,h2⟩
def bw.or(h:bw X f r)(k:bw X f s):bw X f λx y H Q=>r x y H Q\/s x y H Q:=λpins st U H x y v u Q I a b z=>z.elim (h pins st U H x y v u Q I a b) (k pins st U H x y v u Q I a b)
section
variable{X:Cx}{Ex:XK}{Y:WN}
def jg(ho:bw X (binaryOp op) r)(D:cK X.K f (r2 r))(S:aN X Ex Y [a,b] as):SE X Ex Y (.BinOp a op b pos) (aa f as):=fQ (r:=r2 r) S (λU H Q h=>WE.of (NI ho aX aX) h) D
def NK(ho:Iw X (unaryOp op) r)(D:cK X.K f (r1 r))(S:aN X Ex Y [a] as):SE X Ex Y (.UnaryOp op a pos) (aa f as):=fQ (r:=r1 r) S (λU H Q h=>WE.of (NL ho aX) h) D
def tB(ho:bw X (compareOp op) r)(hm:behindInMarks op b=false)(D:cK X.K f (r2 r))(S:aN X Ex Y [a,b] as):SE X Ex Y (.Compare a [op] [b] pos) (aa f as):=fQ (r:=r2 r) S (λU H Q h=>WE.of (IJ ho aX aX hm) h) D
def N9(ho:nY X r)(hs:lW b)(D:cK X.K f (r2 r))(S:aN X Ex Y [a,b] as):SE X Ex Y (.Subscript a b pos) (aa f as):=fQ (r:=r2 r) S (λU H Q h=>WE.of (Ik ho aX aX hs) h) D
end
noncomputable def mY (g:Int->Int->PyData):DR:=λds P=>match ds with
 |[.int a,.int b]=>P .sh (g a b)
 |_=>False
noncomputable def p9 (C:Int->Int->Prop)(g:Int->Int->PyData):DR:=λds P=>match ds with
 |[.int a,.int b]=>C a b/\P .sh (g a b)
 |_=>False
def uy{Z:Prop}{f:Int->Int->Prop}(h:match ds with|[PyData.int a,.int b]=>f a b|_=>False)(k:∀a b,ds=[.int a,.int b]->f a b->Z):Z:=by split at h;{exact k _ _ rfl h};exact h.elim
def iX{g:Int->Int->PyData}{gv:Int->Int->V}(hg:∀a b Hm,Rp K Hm (gv a b) (g a b)):cK K (mY g) (r2 (jW gv)):=by intro H Hm vs ds P Q s r h q;refine uy h λa b e p=>?_;subst e;obtain⟨x,y,rfl,h1,h2⟩:=fL r;cases h1;cases h2;exact⟨a,b,rfl,rfl,bL.sc q s p (hg a b Hm)⟩
def mF{g:Int->Int->PyData}{gv:Int->Int->V}(hg:∀a b Hm,Rp K Hm (gv a b) (g a b)):cK K (p9 C g) (r2 (rI C gv)):=by intro H Hm vs ds P Q s r h q;refine uy h λa b e p=>?_;subst e;obtain⟨x,y,rfl,h1,h2⟩:=fL r;cases h1;cases h2;exact⟨a,b,rfl,rfl,p.1,bL.sc q s p.2 (hg a b Hm)⟩
inductive Dm(K:Frag) (x:V) (y:V)(H:Hp)(Q:VK):Prop
 |mk:∀l b xs zs,(x=.ref l)->(y=.ref b)->(bQ K H l xs)->(bQ K H b zs)->(xs.length+zs.length<=sizeLine)->(∀p,H p=none->Q (.ref p) (upd H p (.lst (xs++zs))))->Dm K x y H Q
noncomputable def HK (K:Frag):R2:=λx y H Q=>Dm K x y H Q
section
variable{X:Cx}
def Jy:bw X (binaryOp .Add) (HK X.K):=by
 intro pins s U H x y v u Q I rx ry h;obtain⟨l,b,xs,zs,rfl,rfl,hH,hB,hz,q⟩:=h;cases rx;cases ry;obtain⟨z,its,n,r,e⟩:=hH.get I;obtain⟨z2,its2,n2,r2,e2⟩:=hB.get I;have hl:=r.length;have hl2:=r2.length;refine PySem.P.add_list e e2 ?_ (by rw[RQ,RQ];lia);have ea:its.toArray++its2.toArray=(its++its2).toArray:=by simp
 rw[ea];exact⟨.ref _,_,I.Mu (t':=s.toks) (r.append r2) (by rw[RM];lia),rfl,q _ I.fresh⟩
end
noncomputable def OF (f:PyData->Prop):WC->Prop
 |[x]=>f x
 |_=>False
noncomputable def zo (f:PyData->PyData->Prop):WC->Prop
 |[x,y]=>f x y
 |_=>False
noncomputable def OH (f:PyData->PyData->PyData->Prop):WC->Prop
 |[x,y,z]=>f x y z
 |_=>False
noncomputable def yq (d:PyData)(f:Int->Prop):Prop:=match d with
 |.int i=>f i
 |_=>False
def pM(r:Rp K H x d)(h:yq d f):∃i,x=.int i/\f i:=by
 cases r with
 |int i=>exact⟨i,rfl,h⟩
 |_=>exact h.elim
def Ni(r:aA K H vs ds)(h:OF f ds):∃x d,vs=[x]/\ds=[d]/\Rp K H x d/\f d:=by
 cases r with
 |nil=>exact h.elim
 |cons h1 r=>
  cases r with
  |nil=>exact⟨_,_,rfl,rfl,h1,h⟩
  |cons=>exact h.elim
def oq(r:aA K H vs ds)(h:zo f ds):∃x y d e,vs=[x,y]/\ds=[d,e]/\Rp K H x d/\Rp K H y e/\f d e:=by
 cases r with
 |nil=>exact h.elim
 |cons h1 r=>
  cases r with
  |nil=>exact h.elim
  |cons h2 r=>
   cases r with
   |nil=>exact⟨_,_,_,_,rfl,rfl,h1,h2,h⟩
   |cons=>exact h.elim
def M0(r:aA K H vs ds)(h:OH f ds):∃x y z d e d',vs=[x,y,z]/\ds=[d,e,d']/\Rp K H x d/\Rp K H y e/\Rp K H z d'/\f d e d':=by
 cases r with
 |nil=>exact h.elim
 |cons h1 r=>
  cases r with
  |nil=>exact h.elim
  |cons h2 r=>
   cases r with
   |nil=>exact h.elim
   |cons h3 r=>
    cases r with
    |nil=>exact⟨_,_,_,_,_,_,rfl,rfl,h1,h2,h3,h⟩
    |cons=>exact h.elim
noncomputable def b7:DR:=λds P=>zo (λx y=>match x,y with
 |.int a,.int b=>P .sh (.int (a+b))
 |.list a,.list b=>a.length+b.length<=sizeLine/\P (.ow false) (.list (a++b))
 |.tuple a,.tuple b=>(a≠[]/\a.length+b.length<=sizeLine)/\P .sh (.tuple (a++b))
 |.str a,.str b=>a.length+b.length<=sizeLine/\P .sh (.str (a++b))
 |_,_=>False) ds
noncomputable def Hu (K:Frag):R2:=λx y H Q=>(((jW λi j=>.int (i+j)) x y H Q\/HK K x y H Q)\/Ia K x y H Q)\/∃i j,x=.str i/\y=.str j/\i.length+j.length<=sizeLine/\Q (.str (i++j)) H
def Jc:bw X (binaryOp .Add) (Hu X.K):=((Nj.or Jy).or IV).or AG
def JS:cK K b7 (r2 (Hu K)):=by
 intro H Hm vs ds P Q s r h q;obtain⟨x,y,d,e,rfl,rfl,h1,h2,h⟩:=oq r h;cases h1 with
 |int a=>
  cases h2 with
  |int b=>exact .inl (.inl (.inl ⟨_,_,rfl,rfl,bL.sc q s h (.int _)⟩))
  |_=>exact h.elim
 |lst a1 r1=>
  cases h2 with
  |lst a2 r2=>exact .inl (.inl (.inr ⟨_,_,_,_,rfl,rfl,bQ.mono s a1,bQ.mono s a2,by rw[r1.len,r2.len];exact h.1,λp hp=>bL.nl q s h.2 hp (r1.app r2)⟩))
  |_=>exact h.elim
 |@tup a xs ds1 a1 r1=>
  cases h2 with
  |@tup b ys ds2 a2 r2=>refine .inl (.inr ⟨_,_,_,_,rfl,rfl,bM.of (s _ _ a1),bM.of (s _ _ a2),λz=>h.1.1 ?_,by rw[r1.len,r2.len];exact h.1.2,λz=>?_,λ_ p hp=>bL.nt q s h.2 hp (r1.app r2)⟩);{subst z;cases r1;rfl};subst z;cases r2;have h:P .sh (.tuple (ds1++[])):=h.2;rw[Rz]at h;exact bL.sc q s h (.tup a1 r1)
  |_=>exact h.elim
 |str a=>
  cases h2 with
  |str b=>exact .inr ⟨_,_,rfl,rfl,h.1,bL.sc q s h.2 (.str _)⟩
  |_=>exact h.elim
 |_=>exact h.elim
inductive D0(K:Frag) (x:V) (y:V)(H:Hp)(Q:VK):Prop
 |mk:∀l k xs,(x=.ref l)->(y=.int k)->(bQ K H l xs)->(-(2^63)<=k)->(k<2^63)->(xs.length*k.toNat<=sizeLine)->(∀p,H p=none->Q (.ref p) (upd H p (.lst (List.replicate k.toNat xs).flatten)))->D0 K x y H Q
noncomputable def HW (K:Frag):R2:=λx y H Q=>D0 K x y H Q
section
variable{X:Cx}
open PyProof.Rows in
def JR:bw X (binaryOp .Mult) (HW X.K):=by
 intro pins s U H x y v u Q I rx ry h;obtain⟨l,k,xs,rfl,rfl,hH,h1,h2,hz,q⟩:=h;cases rx;obtain⟨t,rfl⟩:=ry;obtain⟨z,its,n,r,e⟩:=hH.get I;have hl:=r.length;have hlen:its.toArray.size*k.toNat<=sizeLine:=by rw[RQ,<-hl];exact hz
 have hcap:¬its.toArray.size*k.toNat>(2^63-1)/8:=by
  have:(sizeLine:Nat)<=(2^63-1)/8:=by decide
  lia
 have hfit:¬(!Builtin.List.listFitsIndex k)=true:=by rw[fitsIndex_both h1 h2];exact RZ
 have hlong:¬Builtin.List.listTooLong (its.toArray.size*k.toNat)=true:=by rw[nC hlen];exact RZ
 have hnew:List.foldl (λx1 x2=>x1++x2) #[] (List.replicate (if its.toArray.isEmpty=true then 0 else k.toNat) its.toArray)=(List.replicate k.toNat its).flatten.toArray:=by
  have f0:∀m:Nat,List.foldl (λx1 x2=>x1++x2) #[] (List.replicate m its.toArray)=(List.replicate m its).flatten.toArray:=λm=>by have:=foldl_rep its m [];rw[TU]at this;exact this
  rw[f0];cases its with
  |nil=>simp
  |cons a r'=>rw[if_neg (by simp)]
 refine wpAny_binaryOp_repeat_ref (T:="list") (U:="int") (by decide) ⟨_,e,rfl⟩ (λs'=>typeIs_int s' k t) noFill_list_mul F.fills_int_mul F.slot_int_rmul repeat_list F.slot_int_index.lookup
  (Ti F.slot_int_rmul (typeIs_int s k t) F.entry_int_rmul (F.args_int_rmul_2 _ _) (int___rmul___int_list k t l its.toArray n)
   ⟨e,rfl,⟨_,e,rfl⟩,Ti F.slot_list_mul ⟨_,e,rfl⟩ F.entry_list_mul (F.args_list_mul_2 _ _) (AutoListH.list___mul___list_int_3 l its.toArray n k t hfit hcap hlong) ⟨e,?_⟩⟩)
 rw[hnew];exact⟨.ref _,_,I.Mu (t':=s.toks) (r.rep k.toNat) (by rw[len_rep,Nat.mul_comm];exact hz),rfl,q _ I.fresh⟩
end
theorem aA.rep(r:aA K H xs ds):∀n:Nat,aA K H (List.replicate n xs).flatten (List.replicate n ds).flatten
 |0=>.nil
 |n+1=>by rw[Ss,Ss,Tf,Tf];exact r.app (r.rep n)
noncomputable def cV:DR:=λds P=>match ds with
 |[.int a,.int b]=>uq a b/\P .sh (.int (a*b))
 |[.list a,.int k]=>(-(2^63)<=k/\k<2^63/\a.length*k.toNat<=sizeLine)/\P (.ow false) (.list (List.replicate k.toNat a).flatten)
 |_=>False
noncomputable def G8 (K:Frag):R2:=λx y H Q=>(rI uq λi j=>.int (i*j)) x y H Q\/HW K x y H Q
def JJ:bw X (binaryOp .Mult) (G8 X.K):=Mg.or JR
def II:cK K cV (r2 (G8 K)):=by
 intro H Hm vs ds P Q s r h q;unfold cV at h;split at h;{obtain⟨x,y,rfl,h1,h2⟩:=fL r;cases h1;cases h2;exact .inl ⟨_,_,rfl,rfl,h.1,bL.sc q s h.2 (.int _)⟩}
 .obtain⟨x,y,rfl,h1,h2⟩:=fL r;cases h2;cases h1 with
  |lst a1 r1=>exact .inr ⟨_,_,_,rfl,rfl,bQ.mono s a1,h.1.1,h.1.2.1,by rw[r1.len];exact h.1.2.2,λp hp=>bL.nl q s h.2 hp (r1.rep _)⟩
 exact h.elim
end Dv
namespace L2
open PySem PySem.Spec PyProof.Rows
section
variable{prog:Program}{w:World}{A:Around}{E:Vr}{s:Shared}
def vo{t sl:Addr}{items:WB}{vl vu:Value}{lo hi:Option Int}{Q:Vr}(ht:IsTup s.heap t items)(hs:s.heap.IsSliceOf sl vl vu .none)(pl:IsPart vl lo)(pu:IsPart vu hi)(w0:HT.aK items.size 0 lo=0)(w1:HT.aK items.size items.size hi=items.size)(h:Q (.ref t) s):wpAny (model prog w) A (getItem (.ref t) (.ref sl)) Q E s:=by
 obtain⟨os,hos,hcs,hds⟩:=id hs;have hTs:s.TypeIs (.ref sl) "slice":=⟨os,hos,hcs⟩;unfold getItem;refine Sj (?_:_);refine Q9 (wpAny_sequenceKey ht.typeIs (by decide) (?_:_));refine Q9 (Ul (name:=Str.ofString "__getitem__") ht.typeIs Um
  (TH Um ht.typeIs entry_tuple_getitem (?_:_) (args_tuple_getitem _ _)))
 refine id (?_:wpAny _ _ (Builtin.Tuple.tupleItemsOf (.ref t)>>=_) _ _ s);refine Q9 (tupleItemsOf_ ht (?_:_));refine Q9 (UN hTs (?_:_));rw[if_pos (by decide)];refine Q9 (HT.jX hs pl pu (?_:_));have yes:(((HT.aK items.size 0 lo:Nat):Int)==0&&(1:Int)==1&&(HT.aK items.size items.size hi-HT.aK items.size 0 lo)==items.size)=true:=by rw[w0,w1,Uu];simp
 refine id (?_:wpAny _ _ (if(((HT.aK items.size 0 lo:Nat):Int)==0&&(1:Int)==1&&(HT.aK items.size items.size hi-HT.aK items.size 0 lo)==items.size)=true then _ else _) _ _ s);rw[if_pos yes];refine Q9 (m:=Builtin.Tuple.tupleIsExact _) (Q9 (UN ht.typeIs (RD (?_:_))));rw[if_pos (by decide)];refine Q9 (SX (?_:_));exact RD ⟨_,rfl,RD h⟩
end
section
variable{X:Cx}
noncomputable def HB (K:Vz):V->Option Int->Option Int->Hp->VK->Prop:=λx lo hi H Q=>∃a xs,x=.ref a/\bM K H a xs /\
 (HT.aK xs.length 0 lo=0/\HT.aK xs.length xs.length hi=xs.length->Q (.ref a) H)/\(¬(HT.aK xs.length 0 lo=0/\HT.aK xs.length xs.length hi=xs.length)->∀p,H p=none->Q (.ref p) (upd H p (.tup (m6 xs lo hi))))
def Jm:EM X (HB X.K):=by
 intro pins s U H x v vl vu lo hi sl Q I rx hs pl pu h;obtain⟨a,xs,rfl,hx,q1,q2⟩:=h;by_cases c:HT.aK xs.length 0 lo=0/\HT.aK xs.length xs.length hi=xs.length
 .cases rx;obtain⟨its,r,ht,hz⟩:=I.tuple hx;have hlen:its.toArray.size=xs.length:=by rw[RQ];exact r.length.symm
  refine⟨"tuple",_,Vl,ht.typeIs,?_⟩;exact vo ht hs pl pu (by rw[hlen];exact c.1) (by rw[hlen];exact c.2) ⟨.ref a,H,I,rfl,q1 c⟩
 exact Ms pins s U H (.ref a) v vl vu lo hi sl Q I rx hs pl pu ⟨a,xs,rfl,hx,c,q2 c⟩
end
end L2
namespace Dv
open PySem L2 PySem.W
noncomputable def dl:Nat->PyData->Bool
 |_,.none=>true
 |_,.int _=>true
 |_,.str x=>PyData.strOk x
 |n+1,.list ds=>ds.all (dl n)
 |n+1,.tuple ds=>ds.all (dl n)
 |_,_=>false
theorem mq:∀{ds:WC},(∀d∈ds,d.canLay0=true)->PyData.canLayAll0 ds=true
 |[],_=>rfl
 |d::ds,h=>by rw[PyData.canLayAll0,h d RC,mq λe he=>h e (RK _ he)];rfl
theorem oZ{n:Nat}:∀{ds:WC},(∀d∈ds,d.depth<=n)->PyData.depthAll ds<=n
 |[],_=>by rw[PyData.depthAll];exact S3 _
 |d::ds,h=>by rw[PyData.depthAll];exact Nat.max_le.mpr ⟨h d RC,oZ λe he=>h e (RK _ he)⟩
theorem iw:∀{n:Nat}{d:PyData},dl n d=true->d.canLay0=true/\d.depth<=n
 |_,.none,_=>⟨rfl,S3 _⟩
 |_,.int _,_=>⟨rfl,S3 _⟩
 |n,.str x,h=>⟨by cases n<;>exact h,S3 _⟩
 |n+1,.list ds,h=>by have h:ds.all (dl n)=true:=h;rw[RX]at h;refine⟨by rw[PyData.canLay0];exact mq λd hd=>(iw (h d hd)).1,?_⟩;rw[PyData.depth];have:=oZ (n:=n) (ds:=ds) λd hd=>(iw (h d hd)).2;lia
 |n+1,.tuple ds,h=>by have h:ds.all (dl n)=true:=h;rw[RX]at h;refine⟨by rw[PyData.canLay0];exact mq λd hd=>(iw (h d hd)).1,?_⟩;rw[PyData.depth];have:=oZ (n:=n) (ds:=ds) λd hd=>(iw (h d hd)).2;lia
 |0,.list _,h=>by cases h
 |0,.tuple _,h=>by cases h
 |n,.bool _,h=>by cases n<;>cases h
 |n,.dict _,h=>by cases n<;>cases h
theorem pJ:∀{ds:WC},(∀d∈ds,nd d=true)->nd.nds ds=true
 |[],_=>rfl
 |d::ds,h=>by rw[nd.nds,h d RC,pJ λe he=>h e (RK _ he)];rfl
theorem kR:∀{n:Nat}{d:PyData},dl n d=true->nd d=true
 |_,.none,_=>rfl
 |_,.int _,_=>rfl
 |_,.str _,_=>rfl
 |_,.bool _,_=>rfl
 |n+1,.list ds,h=>by have h:ds.all (dl n)=true:=h;rw[RX]at h;rw[nd];exact pJ λd hd=>kR (h d hd)
 |n+1,.tuple ds,h=>by have h:ds.all (dl n)=true:=h;rw[RX]at h;rw[nd];exact pJ λd hd=>kR (h d hd)
 |0,.list _,h=>by cases h
 |0,.tuple _,h=>by cases h
 |n,.dict _,h=>by cases n<;>cases h
theorem oB(hf:∀a b,f a=true->f b=true->SeqAt.noMix a b=true):∀{xs ys:WC},xs.all f=true->ys.all f=true->SeqAt.noMixAll xs ys=true
 |[],[],_,_=>rfl
 |[],_::_,_,_=>rfl
 |_::_,[],_,_=>rfl
 |x::xs,y::ys,h1,h2=>by rw[RN,RJ]at h1 h2;rw[SeqAt.noMixAll,hf x y h1.1 h2.1,oB hf h1.2 h2.2];rfl
def DP:∀(n:Nat)(a b:PyData),dl n a=true->dl n b=true->SeqAt.noMix a b=true:=by
 intro n;induction n with
 |zero=>intro a b ha hb;cases a<;>first|(cases ha;done)|(cases b<;>first|(cases hb;done)|rfl)
 |succ n ih=>
  intro a b ha hb;cases a with
  |list xs=>
   cases b with
   |list ys=>rw[SeqAt.noMix];exact oB ih ha hb
   |dict _=>cases hb
   |bool _=>cases hb
   |_=>rfl
  |tuple xs=>
   cases b with
   |tuple ys=>rw[SeqAt.noMix];exact oB ih ha hb
   |dict _=>cases hb
   |bool _=>cases hb
   |_=>rfl
  |dict _=>cases ha
  |bool _=>cases ha
  |_=>cases b<;>first|(cases hb;done)|rfl
def EH{n:Nat}(ha:dl n a=true)(hb:dl n b=true):PyData.eqv a b=decide (a=b):=by rw[<-SeqAt.same_eq_eqv a b (DP n a b ha hb),Sn,PyProof.Rows.same_iff,Sy]
def vg{n:Nat}(h:dl n d=true)(l:n<=60):SeqAt.shaped d=true:=by obtain⟨h1,h2⟩:=iw h;unfold SeqAt.shaped;rw[h1,Rv (Ri h2 (by lia))];rfl
noncomputable def GW (a b:PyData)(P:Bool->Prop):Prop:=match a,b with
 |.int a,.int b=>P (decide (a=b))
 |.str a,.str b=>P (decide (a=b))
 |.bool a,.bool b=>P (decide (a=b))
 |.none,.none=>P true
 |a,b=>(dl 8 a=true/\dl 8 b=true)/\P (decide (a=b))
noncomputable def gM:DR:=λds P=>match ds with
 |[a,b]=>GW a b λc=>P .sh (.bool c)
 |_=>False
noncomputable def mw:DR:=λds P=>match ds with
 |[a,b]=>GW a b λc=>P .sh (.bool !c)
 |_=>False
noncomputable def rj (K:Frag)(neg:Bool):R2:=λx y H Q=>FF K neg x y H Q\/(if neg then OW x y H Q else OI x y H Q)
section
variable{X:Cx}
def DL(hu:X.A.units+64<cLine):bw X (compareOp .Eq) (rj X.K false):=(ML hu).or (GY (X:=X))
def El(hu:X.A.units+64<cLine):bw X (compareOp .NotEq) (rj X.K true):=(K9 hu).or (Ob (X:=X))
end
def Er(neg:Bool)(s:ah Hm H)(h1:Rp K Hm x a)(h2:Rp K Hm y b)(h:GW a b Pb)(q:∀c,Pb c->Q (.bl (if neg then !c else c)) H):rj K neg x y H Q:=by
 have gen:dl 8 a=true/\dl 8 b=true->Pb (decide (a=b))->rj K neg x y H Q:=λhd p=>by
  refine .inl ⟨a,b,(h1.mono s).uO (kR hd.1),(h2.mono s).uO (kR hd.2),vg hd.1 (by decide),vg hd.2 (by decide),DP 8 a b hd.1 hd.2,?_⟩;have e:Spec.same a b=decide (a=b):=by rw[Sn,PyProof.Rows.same_iff,Sy]
  rw[e];exact q _ p
 have sc:GV x y=true->Pb (decide (x=y))->rj K neg x y H Q:=λhs p=>by
  refine .inr ?_;cases neg with
  |true=>exact⟨hs,q _ p⟩
  |false=>exact⟨hs,q _ p⟩
 unfold GW at h;split at h;{cases h1;cases h2;refine sc rfl ?_;simpa using h};{cases h1;cases h2;refine sc rfl ?_;simpa using h};{cases h1;cases h2;refine sc rfl ?_;simpa using h};{cases h1;cases h2;exact gen ⟨rfl,rfl⟩ (by simpa using h)};exact gen h.1 h.2
def EO:cK K gM (r2 (rj K false)):=by intro H Hm vs ds P Q s r h q;unfold gM at h;split at h;{obtain⟨x,y,rfl,h1,h2⟩:=fL r;exact Er false s h1 h2 h λc p=>bL.sc q s p (.bl _)};exact h.elim
def EW:cK K mw (r2 (rj K true)):=by intro H Hm vs ds P Q s r h q;unfold mw at h;split at h;{obtain⟨x,y,rfl,h1,h2⟩:=fL r;exact Er true s h1 h2 h λc p=>bL.sc q s p (.bl _)};exact h.elim
noncomputable def d9 (neg:Bool):DR:=λds P=>match ds with
 |[a,.none]=>P .sh (.bool (if neg then !decide (a=.none)else decide (a=.none)))
 |_=>False
def IM(h:Rp K H x d):decide (x=.bg)=decide (d=.none):=by cases h<;>simp
def IA:cK K (d9 false) (r2 λx y H Q=>y=.bg/\Q (.bl (decide (x=.bg))) H):=by intro H Hm vs ds P Q s r h q;unfold d9 at h;split at h;{obtain⟨x,y,rfl,h1,h2⟩:=fL r;cases h2;refine⟨rfl,?_⟩;rw[IM h1];exact bL.sc q s h (.bl _)};exact h.elim
noncomputable def Hx (neg:Bool):DR:=λds P=>match ds with
 |[d,.list xs]=>(xs.all (dl 8)=true/\dl 8 d=true)/\P .sh (.bool (if neg then !decide (d∈xs)else decide (d∈xs)))
 |[d,.tuple xs]=>(xs.all (dl 8)=true/\dl 8 d=true)/\P .sh (.bool (if neg then !decide (d∈xs)else decide (d∈xs)))
 |_=>False
inductive HL(K:Frag)(neg:Bool) (x:V) (y:V)(H:Hp)(Q:VK):Prop
 |mk:∀(d:PyData)(xs:WC),(kj K H x d)->((kj K H y (.list xs)\/kj K H y (.tuple xs)))->(PyData.canLayAll0 xs=true)->(d.canLay0=true)->(d.depth<=60)->(Q (.bl (if neg then !xs.any λy=>PyData.eqv y d else xs.any λy=>PyData.eqv y d)) H)->HL K neg x y H Q
noncomputable def Cb (K:Frag)(neg:Bool):R2:=λx y H Q=>HL K neg x y H Q
section
variable{X:Cx}
def Kz(hu:X.A.units+64<cLine):bw X (compareOp .In) (Cb X.K false):=by intro pins s U H x y v u Q I rx ry h;obtain⟨d,xs,hx,hy,l1,l2,dp,q⟩:=h;obtain⟨bs,rb⟩:=I.reads hx rx;rcases hy with hy|hy;{obtain⟨as,ra⟩:=I.reads hy ry;exact SeqAt.in_list_reads ra rb l1 l2 (by lia) ⟨.bl _,H,I,rfl,q⟩};obtain⟨as,ra⟩:=I.reads hy ry;exact SeqAt.in_tuple_reads ra rb l1 l2 (by lia) ⟨.bl _,H,I,rfl,q⟩
def DZ(hu:X.A.units+64<cLine):bw X (compareOp .NotIn) (Cb X.K true):=by intro pins s U H x y v u Q I rx ry h;obtain⟨d,xs,hx,hy,l1,l2,dp,q⟩:=h;obtain⟨bs,rb⟩:=I.reads hx rx;rcases hy with hy|hy;{obtain⟨as,ra⟩:=I.reads hy ry;exact SeqAt.notIn_list_reads ra rb l1 l2 (by lia) ⟨.bl _,H,I,rfl,q⟩};obtain⟨as,ra⟩:=I.reads hy ry;exact SeqAt.notIn_tuple_reads ra rb l1 l2 (by lia) ⟨.bl _,H,I,rfl,q⟩
end
def zG{n:Nat}{xs:WC}(h:xs.all (dl n)=true)(hd:dl n d=true):(xs.any λy=>PyData.eqv y d)=decide (d∈xs):=by rw[Sn,List.any_eq_true,Sy];rw[RX]at h;constructor;{rintro⟨y,hy,e⟩;rw[EH (h y hy) hd,Sy]at e;exact e▸hy};intro m;exact⟨d,m,by rw[EH hd hd];simp⟩
def Li{K:Frag}(neg:Bool):cK K (Hx neg) (r2 (Cb K neg)):=by intro H Hm vs ds P Q s r h q;unfold Hx at h;split at h;{rename_i d xs;obtain⟨x,y,rfl,h1,h2⟩:=fL r;obtain⟨⟨ha,hd⟩,p⟩:=h;refine⟨d,xs,(h1.mono s).uO (kR hd),.inl ((h2.mono s).uO (by rw[nd];exact pJ λd hd=>kR (RX.mp ha d hd))),mq λe he=>(iw (RX.mp ha e he)).1,(iw hd).1,Ri (iw hd).2 (by decide),?_⟩;rw[zG ha hd];exact bL.sc q s p (.bl _)};{rename_i d xs;obtain⟨x,y,rfl,h1,h2⟩:=fL r;obtain⟨⟨ha,hd⟩,p⟩:=h;refine⟨d,xs,(h1.mono s).uO (kR hd),.inr ((h2.mono s).uO (by rw[nd];exact pJ λd hd=>kR (RX.mp ha d hd))),mq λe he=>(iw (RX.mp ha e he)).1,(iw hd).1,Ri (iw hd).2 (by decide),?_⟩;rw[zG ha hd];exact bL.sc q s p (.bl _)};exact h.elim
noncomputable def Iq:DR:=λds P=>match ds with
 |[.list xs,.int i]=>∃d,cY xs i=some d/\P .sh d
 |[.tuple xs,.int i]=>∃d,cY xs i=some d/\P .sh d
 |_=>False
theorem aA.cY(r:aA K H vs ds){i:Int}(h:L2.cY ds i=some d):∃v,L2.cY vs i=some v/\Rp K H v d:=by
 unfold L2.cY at h⊢;rw[r.len];cases e:ly ds.length i with
 |none=>rw[e]at h;cases h
 |some j=>rw[e]at h;exact r.get h
def LH:cK K Iq (r2 (KZ K)):=by
 intro H Hm vs ds P Q s r h q;unfold Iq at h;split at h
 .obtain⟨x,y,rfl,h1,h2⟩:=fL r;obtain⟨d,e,p⟩:=h;cases h2;cases h1 with
  |lst a1 r1=>obtain⟨v,e2,rv⟩:=r1.cY e;exact .inl ⟨_,_,_,v,rfl,rfl,(bQ.mono s a1).sq,e2,bL.sc q s p rv⟩
 .obtain⟨x,y,rfl,h1,h2⟩:=fL r;obtain⟨d,e,p⟩:=h;cases h2;cases h1 with
  |tup a1 r1=>obtain⟨v,e2,rv⟩:=r1.cY e;exact .inr (.inl ⟨_,_,_,v,rfl,rfl,bM.of (s _ _ a1),e2,bL.sc q s p rv⟩)
 exact h.elim
noncomputable def cutD (xs:WC)(lo hi:Option Int):WC:=(xs.drop (HT.aK xs.length 0 lo)).take (HT.aK xs.length xs.length hi-HT.aK xs.length 0 lo)
def aA.cut(r:aA K H vs ds)(lo hi:Option Int):aA K H (m6 vs lo hi) (cutD ds lo hi):=by unfold m6 cutD;rw[r.len];exact(r.drop _).take _
noncomputable def DU (d:PyData)(lo hi:Option Int)(P:Kd->PyData->Prop):Prop:=match d with
 |.list xs=>P (.ow false) (.list (cutD xs lo hi))
 |.tuple xs=>P .sh (.tuple (cutD xs lo hi))
 |_=>False
noncomputable def jh (bl bh:Bool):DR:=λds P=>match bl,bh with
 |false,false=>OF (λd=>DU d none none P) ds
 |true,false=>zo (λd e=>yq e λa=>DU d (some a) none P) ds
 |false,true=>zo (λd e=>yq e λb=>DU d none (some b) P) ds
 |true,true=>OH (λd e e'=>yq e λa=>yq e' λb=>DU d (some a) (some b) P) ds
noncomputable def tH (K:Frag):V->Option Int->Option Int->Hp->VK->Prop:=λx lo hi H Q=>MG K x lo hi H Q\/HB K x lo hi H Q
def FO:EM X (tH X.K):=λpins s U H x v vl vu lo hi sl Q I rx hs pl pu h=>h.elim (IX pins s U H x v vl vu lo hi sl Q I rx hs pl pu) (Jm pins s U H x v vl vu lo hi sl Q I rx hs pl pu)
noncomputable def DY (bl bh:Bool)(K:Frag):List V->Hp->VK->Prop:=λvs H Q=>match bl,bh,vs with
 |false,false,[x]=>tH K x none none H Q
 |true,false,[x,a]=>∃i,a=.int i/\tH K x (some i) none H Q
 |false,true,[x,b]=>∃i,b=.int i/\tH K x none (some i) H Q
 |true,true,[x,a,b]=>∃i,a=.int i/\∃j,b=.int j/\tH K x (some i) (some j) H Q
 |_,_,_=>False
def AF(h:HT.aK xs.length 0 lo=0/\HT.aK xs.length xs.length hi=xs.length):cutD xs lo hi=xs:=by unfold cutD;rw[h.1,h.2,UT,Uu,SK]
def sX(q:bL K H Hm P Q)(s:ah Hm H)(h1:Rp K Hm x d)(h:DU d lo hi P):tH K x lo hi H Q:=by
 cases h1 with
 |lst a1 r1=>exact .inl ⟨_,_,rfl,(bQ.mono s a1).sq,λp hp=>bL.nl q s h hp (r1.cut lo hi)⟩
 |tup a1 r1=>refine .inr ⟨_,_,rfl,bM.of (s _ _ a1),λw=>?_,λ_ p hp=>bL.nt q s h hp (r1.cut lo hi)⟩;rw[r1.len]at w;have h:P .sh (.tuple (cutD _ lo hi)):=h;rw[AF w]at h;exact bL.sc q s h (.tup a1 r1)
 |_=>exact h.elim
def w6(bl bh:Bool):cK K (jh bl bh) (DY bl bh K):=by
 intro H Hm vs ds P Q s r h q;cases bl with
 |false=>
  cases bh with
  |false=>obtain⟨x,d,rfl,rfl,h1,h⟩:=Ni r h;exact sX q s h1 h
  |true=>obtain⟨x,y,d,e,rfl,rfl,h1,h2,h⟩:=oq r h;obtain⟨i,rfl,h⟩:=pM h2 h;exact⟨_,rfl,sX q s h1 h⟩
 |true=>
  cases bh with
  |false=>obtain⟨x,y,d,e,rfl,rfl,h1,h2,h⟩:=oq r h;obtain⟨i,rfl,h⟩:=pM h2 h;exact⟨_,rfl,sX q s h1 h⟩
  |true=>obtain⟨x,y,z,d,e,e',rfl,rfl,h1,h2,h3,h⟩:=M0 r h;obtain⟨i,rfl,h⟩:=pM h2 h;obtain⟨j,rfl,h⟩:=pM h3 h;exact⟨_,rfl,_,rfl,sX q s h1 h⟩
section
variable{X:Cx}{Ex:XK}{Y:WN}{a l u:Expr}{pos p2:Pos}{as:List Arg}
def ED(S:aN X Ex Y [a,l] as):SE X Ex Y (.Subscript a (.Slice (some l) none none p2) pos) (aa (jh true false) as):=fQ (r:=DY true false X.K) S (λU H Q h=>WE.of (wI FO aX (yU aX) z8) h) (w6 _ _)
def sL(S:aN X Ex Y [a,u] as):SE X Ex Y (.Subscript a (.Slice none (some u) none p2) pos) (aa (jh false true) as):=fQ (r:=DY false true X.K) S (λU H Q h=>WE.of (wI FO aX z8 (yU aX)) h) (w6 _ _)
open PyProof.Rows in
def MF(h:oG X [a,l,u] U H λvs H1=>DY true true X.K vs H1 Q):WE X (.Subscript a (.Slice (some l) (some u) none p2) pos) U H Q:=by intro pins s I;refine Subscript_ (aO (h pins s I) λv s1 ⟨x,H1,I1,r1,q1⟩=>?_);refine wpAny_Slice ?_;rw[evalPart_some];refine aO (q1 pins s1 I1) λvl s2 ⟨y,H2,I2,pl,q2⟩=>?_;rw[evalPart_some];refine aO (q2 pins s2 I2) λvu s3 ⟨z,H3,I3,pu,q3⟩=>?_;obtain⟨i,rfl,j,rfl,q3⟩:=q3;obtain⟨t1,rfl⟩:=pl;obtain⟨t2,rfl⟩:=pu;rw[evalPart_none];refine RD ?_;have I4:Inv X pins U H3 { s3 with heap:=s3.heap.push { cls:=.type "slice",data:=.fields #[.int i t1,.int j t2,.none] } }:=I3.kept (t':=s3.toks) λb ob q=>Ra _ q;obtain⟨T,id,hT,ht,hg⟩:=FO pins { s3 with heap:=s3.heap.push { cls:=.type "slice",data:=.fields #[.int i t1,.int j t2,.none] } } U H3 x v (.int i t1) (.int j t2) (some i) (some j) s3.heap.objs.size Q I4 r1 (Heap.IsSliceOf.new ..) (.int i t1) (.int j t2) q3;show wpAny (model X.prog X.w) X.A (subscriptTail a (.Slice (some l) (some u) none p2) v (.ref s3.heap.objs.size)) (EP X pins U Q) X.xe { s3 with heap:=s3.heap.push { cls:=.type "slice",data:=.fields #[.int i t1,.int j t2,.none] } };exact tail_any (ops:=[.ref s3.heap.objs.size,v]) ht hT hg (by with_unfolding_all rfl)
def M6(S:aN X Ex Y [a,l,u] as):SE X Ex Y (.Subscript a (.Slice (some l) (some u) none p2) pos) (aa (jh true true) as):=fQ (r:=DY true true X.K) S (λU H Q h=>MF h) (w6 _ _)
end
end Dv
namespace L2
open PySem PySem.Spec PyProof.Rows
section
variable{X:Cx}
def yR:cu X (.type "range") (λxs H Q=>∃j:Int,xs=[.int j]/\∀p,H p=none->Q (.ref p) (upd H p (.qu 0 j))):=by intro pins s U H xs us Q I r h;obtain⟨j,rfl,q⟩:=h;obtain⟨u,rfl,ru⟩:=vals1 r;obtain⟨t,rfl⟩:=ru;refine call_range_1 (?_:_);exact⟨.ref s.heap.objs.size,_,I.laid (o:=.qu 0 j) (λb o e=>Ra _ e) (RB _) ⟨_,_,_,Rx _ rfl⟩,rfl,q _ (I.hok.fresh (RB _))⟩
def BG(hc:X.calm=true):cu X (.type "list") (λxs H Q=>∃(a:Addr) (j:Int),xs=[.ref a]/\H a=some (.qu 0 j)/\0<=j/\j<=1000/\∀l,H l=none->Q (.ref l) (upd H l (.lst (((List.range j.toNat).map λi:Nat=>(i:Int)).map V.int)))):=by
 intro pins s U H xs us Q I r h;obtain⟨a,j,rfl,ha,j0,j1,q⟩:=h;obtain⟨u,rfl,ru⟩:=vals1 r;cases ru;obtain⟨t,u,v,e⟩:=I.hok a _ ha;refine call_list_range (n:=j.toNat) (I.ok.hd hc) e (small_one (by decide) (by decide) (by lia) (by lia)) (by rw[rangeSize_one];split<;>lia) (by lia) λh' tk acc c kp hS its=>?_;obtain⟨z1,z2⟩:=its;have rv:Vals (((List.range j.toNat).map λi:Nat=>(i:Int)).map V.int) acc.toList:=by
  have go:∀(l:WH) (k:Nat),(∀(i:Nat)(v:Value),l[i]?=some v->∃t:Tok,v=Value.int ((k+i:Nat):Int) t)->Vals (((List.range' k l.length).map λi:Nat=>(i:Int)).map V.int) l:=λl=>by
   induction l with
   |nil=>exact λk _=>.nil
   |cons x l ih=>intro k h;obtain⟨t,e⟩:=h 0 x rfl;refine .cons ⟨t,by simpa using e⟩ (ih (k+1) λi v hv=>?_);obtain⟨t,e⟩:=h (i+1) v hv;exact⟨t,by rw[e,Sw,Nat.add_comm 1 i]⟩
  have:=go acc.toList 0 λi v hv=>by obtain⟨t,e⟩:=z2 i v (by simpa using hv);exact⟨t,by rw[e];simp⟩
  rw[List.range_eq_range'];simpa[z1]using this
 exact⟨.ref s.heap.objs.size,_,I.laid (t':=tk) kp (RB _) (o:=.lst _) ⟨by rw[RA,RA,RH];exact Ri (show j.toNat<=1000 by lia) (by decide),acc.toList,c,rv,by simpa using hS⟩,rfl,q _ (I.hok.fresh (RB _))⟩
end
end L2
namespace Dv
open PySem L2 PySem.W
section
variable{X:Cx}{Ex:XK}{Y:WN}
def wR(h:PE X e (tC u))(r:∀Hm,Rp X.K Hm u v):SE X Ex Y e (dC v):=λg x E U H Hm F P Q hx R p q=>WE.of h (q _ _ _ _ _ _ _ [] p R (ah.refl _) (Tm.sh (r Hm)))
def KD{i j:Nat}(h:PE X e (kJ j))(hj:Y[j]?=some i):SE X Ex Y e (aW i):=by
 intro g x E U H Hm F P Q hx R p q;replace p:De E i P:=p;unfold De at p;split at p
 rotate_left
 .exact p.elim
 rename_i k d e1;rw[<-bf,Am]at p;obtain⟨E',e2,p⟩:=p;obtain⟨v,Hm',F',h1,s,R',r⟩:=R.cX e1 e2;exact WE.of h ⟨v,cZ hj h1,q _ _ _ _ _ _ _ [] p R' s (Tm.sh r)⟩
noncomputable def bH (X:Cx)(Ex:XK)(Y:WN)(e:Expr)(d:DE):Prop:=
 ∀(g:Gh)(x:XC)(E:En)(U:St)(H Hm:Hp)(F:Nat->WI)(P:En->Kd->PyData->Prop)(Q:Bool->Hp->Prop),XL X Ex x g->Rl X.K g E U H Hm F->d x E P->
  (∀E' k v H' Hm' F',P E' k v->Rl X.K g E' U H' Hm' F'->ah Hm Hm'->∃b,mD v=some b/\Q b H')->WT X e (sel Y U) H Q
def bH.st{e:Expr}{d:DE}(h:bH X Ex Y e d):ST X Ex Y e (bG d):=by rw[Jx];exact λg x E U H Hm F P Q hx R p q=>h g x E U H Hm F _ Q hx R p λE' k v H' Hm' F' ⟨b,e1,p⟩ R' s=>⟨b,e1,q _ _ _ _ _ p R' s⟩
theorem Rp.mD{b:Bool}(r:Rp K H u v)(h:Dv.mD v=some b):tP K u H b:=by
 cases r with
 |bg=>cases h;rfl
 |bl c=>cases h;rfl
 |int i=>cases h;show(!decide (i=0))=(i != 0);rw[bne,Bool.beq_eq_decide_eq]
 |str _=>cases h
 |lst a r1=>cases h;refine .inl ⟨_,a.sq,?_⟩;cases r1<;>rfl
 |tup a r1=>cases h;refine .inr (.inl ⟨_,bM.of a,?_⟩);cases r1<;>rfl
 |dk _ _=>cases h
 |dt _ _=>cases h
 |exc _ _=>cases h
theorem Own.mD{b:Bool}(o:Own K H Hm k u v fp)(s:ah Hm H)(h:Dv.mD v=some b):tP K u H b:=by by_cases hk:k.rd=true;{exact(o.rp (Hm':=H) hk s λ_ _=>rfl).mD h};cases o<;>first|exact absurd rfl hk|cases h
def SE.xO(h:SE X Ex Y e d)(he:∀whole,isTrue e X.env whole=(do let v <-whole;standAt e.pos;holding [v] (truthy v))):bH X Ex Y e d:=by intro g x E U H Hm F P Q hx R p q;refine WT.of (xT aX he) (h g x E U H Hm F P _ hx R p λE' k v u H' Hm' F' fp p' R' s T=>?_);obtain⟨b,e1,q'⟩:=q _ _ _ _ _ _ p' R' s;exact⟨b,T.own.mD R'.sub e1,q'⟩
def LI(ho:bw X (compareOp op) r)(hm:behindInMarks op b=false)(h:oG X [a,b] U H λvs H1=>r2 r vs H1 λx H'=>∃k,tP X.K x H' k/\Q k H'):WT X (.Compare a [op] [b] pos) U H Q:=by intro pins s I;refine wpAny_isTrue_Compare1 (aO (h pins s I) λv s1 ⟨x,H1,I1,r1,q1⟩=>aO (q1 pins s1 I1) λu s2 ⟨y,H2,I2,r2,q2⟩=>aO (ho pins s2 U H2 x y v u _ I2 r1 r2 q2) λc s3 ⟨z,H3,I3,r3,q3⟩=>?_) hm;exact C7 pins s3 U H3 z c Q I3 r3 q3
def Lv(S:aN X Ex Y es as)(hr:∀U H (Q:Bool->Hp->Prop),oG X es U H (λvs H1=>r vs H1 λx H'=>∃k,tP X.K x H' k/\Q k H')->WT X e U H Q)(D:cK X.K f r):bH X Ex Y e (aa f as):=by
 intro g x E U H Hm F P Q hx R h q;refine hr _ _ _ (jd hx S R h λE1 os vs H1 Hm1 F1 p R1 s1 G=>?_);replace p:xx f as E1 os P:=p;unfold xx at p;rw[<-bf,dS]at p;obtain⟨ds,hf,hg⟩:=p;have off:∀a∈(cJ as).flatMap F1,Hm1 a=none:=λa ha=>by obtain⟨i,_,h⟩:=Rq.mp ha;exact R1.off i a h
 have up:=gS (Hm:=Hm1) (H:=H1) off;refine D H1 (lend Hm1 H1 ((cJ as).flatMap F1)) vs ds _ _ (iO R1.sub) (mz R1 up G hf λi hi a ha=>dY (Rq.mpr ⟨i,hi,ha⟩)) hg λk v u H' Hm2 fp p sH sM sS old o fr=>?_;replace p:ay (qI as E1 k v) _:=p;rw[<-bf,zT]at p;obtain⟨E2,ha,p⟩:=p;obtain⟨Hm',F',R',s',T⟩:=vL R1 (is:=cJ as) (su ha) sH sM sS old o fr;obtain⟨b,e1,q'⟩:=q _ _ _ _ _ _ p R' (s1.trans s');exact⟨b,o.mD sS e1,q'⟩
def gP(ho:bw X (compareOp op) r)(hm:behindInMarks op b=false)(D:cK X.K f (r2 r))(S:aN X Ex Y [a,b] as):bH X Ex Y (.Compare a [op] [b] pos) (aa f as):=Lv S (λU H Q h=>LI ho hm h) D
theorem Own.bool{c:Bool}(o:Own K H Hm k u (.bool c) fp):u=.bl c:=by
 cases o with
 |sh r=>cases r;rfl
theorem Own.int{i:Int}(o:Own K H Hm k u (.int i) fp):u=.int i:=by
 cases o with
 |sh r=>cases r;rfl
def xU(h:SE X Ex Y a d):SE X Ex Y (.BoolOp op [a] pos) d:=λg x E U H Hm F P Q hx R p q=>WE.of (Km aX) (h g x E U H Hm F P Q hx R p q)
def yj{a b:Expr}{rest:WK}{pos:Pos}{d e:DE}(ha:SE X Ex Y a d)(hb:SE X Ex Y (.BoolOp .And (b::rest) pos) e):SE X Ex Y (.BoolOp .And (a::b::rest) pos) (jF d e):=by
 rw[zu];intro g x E U H Hm F P Q hx R p q;refine WE.of (Kc aX aX) (ha g x E U H Hm F _ _ hx R p λE1 k v u H1 Hm1 F1 fp p1 R1 s1 T=>?_);obtain⟨c,rfl,p1⟩:=p1;refine⟨c,T.own.bool,?_⟩;cases c with
 |true=>exact nK (hb g x E1 U H1 Hm1 F1 P Q hx R1 p1 λE' k v u H' Hm' F' fp p' R' s' T'=>q _ _ _ _ _ _ _ _ p' R' (s1.trans s') T')
 |false=>exact nL (q _ _ _ _ _ _ _ [] p1 R1 s1 (Tm.sh (.bl false)))
def NW{a b:Expr}{rest:WK}{pos:Pos}{d e:DE}(ha:SE X Ex Y a d)(hb:SE X Ex Y (.BoolOp .Or (b::rest) pos) e):SE X Ex Y (.BoolOp .Or (a::b::rest) pos) (yh d e):=by
 rw[Dw];intro g x E U H Hm F P Q hx R p q;refine WE.of (NN aX aX) (ha g x E U H Hm F _ _ hx R p λE1 k v u H1 Hm1 F1 fp p1 R1 s1 T=>?_);obtain⟨c,rfl,p1⟩:=p1;refine⟨c,T.own.bool,?_⟩;cases c with
 |true=>exact nK (q _ _ _ _ _ _ _ [] p1 R1 s1 (Tm.sh (.bl true)))
 |false=>exact nL (hb g x E1 U H1 Hm1 F1 P Q hx R1 p1 λE' k v u H' Hm' F' fp p' R' s' T'=>q _ _ _ _ _ _ _ _ p' R' (s1.trans s') T')
noncomputable def WW (X:Cx)(e:Expr):TT:=λU H Q=>∀(whole:Sem Value)(pins:Vu)(s:Shared),Inv X pins U H s->wpAny (model X.prog X.w) X.A (isTrue e X.env whole) (TP X pins U Q) X.xe s
def pw_ww:PW X e (WW X e):=λwh pins s _ _ _ I h=>h wh pins s I
def WW.of(h:PW X e t)(q:t U H Q):WW X e U H Q:=λwh pins s I=>h wh pins s U H Q I q
noncomputable def n6 (X:Cx)(Ex:XK)(Y:WN)(e:Expr)(d:DE):Prop:=
 ∀(g:Gh)(x:XC)(E:En)(U:St)(H Hm:Hp)(F:Nat->WI)(P:En->Kd->PyData->Prop)(Q:Bool->Hp->Prop),XL X Ex x g->Rl X.K g E U H Hm F->d x E P->
  (∀E' k v H' Hm' F',P E' k v->Rl X.K g E' U H' Hm' F'->ah Hm Hm'->∃b,mD v=some b/\Q b H')->WW X e (sel Y U) H Q
def n6.xO(h:n6 X Ex Y e d):bH X Ex Y e d:=λg x E U H Hm F P Q hx R p q=>WT.of (PW.pt pw_ww) (h g x E U H Hm F P Q hx R p q)
def lM(h:bH X Ex Y a d):n6 X Ex Y (.BoolOp op [a] pos) d:=λg x E U H Hm F P Q hx R p q=>by
 cases op with
 |And=>exact WW.of (pw_and1 jI) (h g x E U H Hm F P Q hx R p q)
 |Or=>exact WW.of (pw_or1 jI) (h g x E U H Hm F P Q hx R p q)
def pV{a b:Expr}{rest:WK}{pos:Pos}{d e:DE}(ha:bH X Ex Y a d)(hb:n6 X Ex Y (.BoolOp .And (b::rest) pos) e):n6 X Ex Y (.BoolOp .And (a::b::rest) pos) (jF d e):=by
 rw[zu];intro g x E U H Hm F P Q hx R p q;refine WW.of (pw_and jI pw_ww) (ha g x E U H Hm F _ _ hx R p λE1 k v H1 Hm1 F1 p1 R1 s1=>?_);obtain⟨c,rfl,p1⟩:=p1;refine⟨c,rfl,?_⟩;cases c with
 |true=>exact nK (hb g x E1 U H1 Hm1 F1 P Q hx R1 p1 λE' k v H' Hm' F' p' R' s'=>q _ _ _ _ _ _ p' R' (s1.trans s'))
 |false=>obtain⟨b,e1,q'⟩:=q _ _ _ _ _ _ p1 R1 s1;cases e1;exact nL q'
def MC{a b:Expr}{rest:WK}{pos:Pos}{d e:DE}(ha:bH X Ex Y a d)(hb:n6 X Ex Y (.BoolOp .Or (b::rest) pos) e):n6 X Ex Y (.BoolOp .Or (a::b::rest) pos) (yh d e):=by
 rw[Dw];intro g x E U H Hm F P Q hx R p q;refine WW.of (pw_or jI pw_ww) (ha g x E U H Hm F _ _ hx R p λE1 k v H1 Hm1 F1 p1 R1 s1=>?_);obtain⟨c,rfl,p1⟩:=p1;refine⟨c,rfl,?_⟩;cases c with
 |true=>obtain⟨b,e1,q'⟩:=q _ _ _ _ _ _ p1 R1 s1;cases e1;exact nK q'
 |false=>exact nL (hb g x E1 U H1 Hm1 F1 P Q hx R1 p1 λE' k v H' Hm' F' p' R' s'=>q _ _ _ _ _ _ p' R' (s1.trans s'))
def GL(ho:bw X (compareOp op) (jW λi j=>.bl (f i j)))(ho':bw X (compareOp op') (jW λi j=>.bl (f' i j)))(hm:lastMarks [op,op'] [b,c]=false)(ha:SE X Ex Y a da)(hb:SE X Ex Y b db)(hc:SE X Ex Y c dc):SE X Ex Y (.Compare a [op,op'] [b,c] pos) (ki f f' da db dc):=by rw[uW];intro g x E U H Hm F P Q hx R p q;refine WE.of (Gi ho ho' aX aX aX hm) (ha g x E U H Hm F _ _ hx R p λE1 k1 v1 u1 H1 Hm1 F1 fp1 p1 R1 s1 T1=>?_);obtain⟨i,rfl,p1⟩:=p1;cases T1.own.int;refine hb g x E1 U H1 Hm1 F1 _ _ hx R1 p1 λE2 k2 v2 u2 H2 Hm2 F2 fp2 p2 R2 s2 T2=>?_;obtain⟨j,rfl,p2⟩:=p2;cases T2.own.int;refine⟨i,j,rfl,rfl,f i j,rfl,?_⟩;by_cases z:f i j=true;{rw[if_pos z]at p2⊢;refine hc g x E2 U H2 Hm2 F2 _ _ hx R2 p2 λE3 k3 v3 u3 H3 Hm3 F3 fp3 p3 R3 s3 T3=>?_;obtain⟨k,rfl,p3⟩:=p3;cases T3.own.int;exact⟨j,k,rfl,rfl,q _ _ _ _ _ _ _ [] p3 R3 (s1.trans (s2.trans s3)) (Tm.sh (.bl _))⟩};rw[if_neg z]at p2⊢;exact q _ _ _ _ _ _ _ [] p2 R2 (s1.trans s2) (Tm.sh (.bl _))
def Eb(ho:bw X (compareOp op) (jW λi j=>.bl (f i j)))(ho':bw X (compareOp op') (jW λi j=>.bl (f' i j)))(hm:lastMarks [op,op'] [b,c]=false)(ha:SE X Ex Y a da)(hb:SE X Ex Y b db)(hc:SE X Ex Y c dc):bH X Ex Y (.Compare a [op,op'] [b,c] pos) (ki f f' da db dc):=by rw[uW];intro g x E U H Hm F P Q hx R p q;refine WT.of (GC ho ho' aX aX aX hm) (ha g x E U H Hm F _ _ hx R p λE1 k1 v1 u1 H1 Hm1 F1 fp1 p1 R1 s1 T1=>?_);obtain⟨i,rfl,p1⟩:=p1;cases T1.own.int;refine hb g x E1 U H1 Hm1 F1 _ _ hx R1 p1 λE2 k2 v2 u2 H2 Hm2 F2 fp2 p2 R2 s2 T2=>?_;obtain⟨j,rfl,p2⟩:=p2;cases T2.own.int;refine⟨i,j,rfl,rfl,f i j,rfl,?_⟩;by_cases z:f i j=true;{rw[if_pos z]at p2⊢;refine hc g x E2 U H2 Hm2 F2 _ _ hx R2 p2 λE3 k3 v3 u3 H3 Hm3 F3 fp3 p3 R3 s3 T3=>?_;obtain⟨k,rfl,p3⟩:=p3;cases T3.own.int;obtain⟨b',e1,q'⟩:=q _ _ _ _ _ _ p3 R3 (s1.trans (s2.trans s3));cases e1;exact⟨j,k,rfl,rfl,_,rfl,q'⟩};rw[if_neg z]at p2⊢;obtain⟨b',e1,q'⟩:=q _ _ _ _ _ _ p2 R2 (s1.trans s2);cases e1;exact⟨_,rfl,q'⟩
def vH(hc:ST X Ex Y c t)(ha:SE X Ex Y a d)(hb:SE X Ex Y b e):SE X Ex Y (.IfExp c a b pos) (uU t d e):=by
 rw[Kr];intro g x E U H Hm F P Q hx R p q;refine WE.of (FA jI aX aX) (hc g x E U H Hm F _ _ hx R p λE1 b H1 Hm1 F1 p1 R1 s1=>?_);cases b with
 |true=>exact nK (ha g x E1 U H1 Hm1 F1 P Q hx R1 (by simpa using p1) λE' k v u H' Hm' F' fp p' R' s' T'=>q _ _ _ _ _ _ _ _ p' R' (s1.trans s') T')
 |false=>exact nL (hb g x E1 U H1 Hm1 F1 P Q hx R1 (by simpa using p1) λE' k v u H' Hm' F' fp p' R' s' T'=>q _ _ _ _ _ _ _ _ p' R' (s1.trans s') T')
def Pd{i j:Nat}(h:PE X e (kJ j))(hj:Y[j]?=some i)(he:∀whole,isTrue e X.env whole=(do let v <-whole;standAt e.pos;holding [v] (truthy v))):ST X Ex Y e (Ij i):=by
 intro g x E U H Hm F P Q hx R p q;replace p:EG E i P:=p;unfold EG at p;split at p
 rotate_left
 .exact p.elim
 rename_i k d e1;rw[dJ,<-G0]at p;obtain⟨hk,b,ht,p⟩:=p;obtain⟨v,h1,h2⟩:=R.slot i k d e1;exact WT.of (xT h he) ⟨v,cZ hj h1,b,h2.mD R.sub ht,q _ _ _ _ _ p R (ah.refl _)⟩
def PD(ha:ST X Ex Y a t):ST X Ex Y (.UnaryOp .Not a pos) (Ma t):=by intro g x E U H Hm F P Q hx R p q;exact WT.of (Lr jI) (ha g x E U H Hm F _ _ hx R p λE1 b H1 Hm1 F1 p1 R1 s1=>q _ _ _ _ _ p1 R1 s1)
end
noncomputable def noStar:Expr->Bool
 |.Starred ..=>false
 |_=>true
def aU(h:noStar e=true):starEach (e::es) env=(false,eval e env)::starEach es env:=by cases e<;>first|rfl|cases h
theorem eY:∀{es:WK},es.all noStar=true->(backTo pos (starEach es env)).any (·.1)=false
 |[],_=>rfl
 |e::es,h=>by rw[RN,RJ]at h;rw[aU h.1];show(false||(backTo pos (starEach es env)).any (·.1))=false;rw[eY h.2];rfl
section
variable{X:Cx}{Ex:XK}{Y:WN}
theorem dP:∀{es:WK},es.all noStar=true->PA X es (oG X es)
 |[],_=>lP
 |e::es,h=>by rw[RN,RJ]at h;exact gU aX (dP h.2) (aU h.1)
def eF{x:Str}{id:String}{p pos:Pos}{e:Expr}{es:WK}{as:List Arg}{f:DR}{r:List V->Hp->VK->Prop}(hc:cu X (.builtin id) r)(D:cK X.K f r)(hg:Gl X x)(hm:X.mg x=none)(hv:bootBuiltins x=some (.builtin id))(hn:x≠"__name__")(hd:(x==("__debug__":Str))=false)(ns:(e::es).all noStar=true)(S:aN X Ex Y (e::es) as):SE X Ex Y (.Call (.Name x p) (e::es) [] pos) (aa f as):=
 fQ S (λU H Q h=>WE.of (yu hc hg hm hv (dP ns) hn hd (aU (by rw[RN,RJ]at ns;exact ns.1)) (eY (by rw[RN,RJ]at ns;exact ns.2))) h) D
def pI(hc:cu X (.type T) r)(D:cK X.K f r)(hg:Gl X x)(hm:X.mg x=none)(hv:bootBuiltins x=some (.type T))(hn:x≠"__name__")(hd:(x==("__debug__":Str))=false)(ns:(e::es).all noStar=true)(S:aN X Ex Y (e::es) as):SE X Ex Y (.Call (.Name x p) (e::es) [] pos) (aa f as):=
 fQ S (λU H Q h=>WE.of (lg hc hg hm hv (dP ns) hn hd (aU (by rw[RN,RJ]at ns;exact ns.1)) (eY (by rw[RN,RJ]at ns;exact ns.2))) h) D
noncomputable def bP:DR:=λds P=>ds.length<=sizeLine/\P (.ow false) (.list ds)
noncomputable def dX:DR:=λds P=>ds.length<=sizeLine/\P .sh (.tuple ds)
def I0:cK K bP λxs H Q=>xs.length<=sizeLine/\∀p,H p=none->Q (.ref p) (upd H p (.lst xs)):=λH Hm vs ds P Q s r h q=>⟨by rw[r.len];exact h.1,λp hp=>bL.nl q s h.2 hp r⟩
def JP:cK K dX λxs H Q=>xs.length<=sizeLine/\∀p,H p=none->Q (.ref p) (upd H p (.tup xs)):=λH Hm vs ds P Q s r h q=>⟨by rw[r.len];exact h.1,λp hp=>bL.nt q s h.2 hp r⟩
def Nd(ns:es.all noStar=true)(S:aN X Ex Y es as):SE X Ex Y (.List es pos) (aa bP as):=fQ S (λU H Q h=>WE.of (MD (dP ns)) h) I0
def Lg{k:Nat}(ns:es.all noStar=true)(S:aN X Ex Y es as):SE X Ex Y (.Tuple es k pos) (aa dX as):=fQ S (λU H Q h=>WE.of (KW (dP ns)) h) JP
noncomputable def Fz:DR:=λds P=>match ds with
 |[.list xs]=>P .sh (.int xs.length)
 |[.tuple xs]=>P .sh (.int xs.length)
 |_=>False
def Jp:cK K Fz λxs H Q=>∃p ys,xs=[.ref p]/\(bI K H p ys\/bM K H p ys)/\Q (.int ys.length) H:=by
 intro H Hm vs ds P Q s r h q;unfold Fz at h;split at h
 .obtain⟨x,rfl,h1⟩:=dg r;cases h1 with
  |lst a r1=>exact⟨_,_,rfl,.inl (bQ.mono s a).sq,by rw[r1.len];exact bL.sc q s h (.int _)⟩
 .obtain⟨x,rfl,h1⟩:=dg r;cases h1 with
  |tup a r1=>exact⟨_,_,rfl,.inr (bM.of (s _ _ a)),by rw[r1.len];exact bL.sc q s h (.int _)⟩
 exact h.elim
noncomputable def qb:DR:=λds P=>match ds with
 |[.list xs]=>P (.ow false) (.list xs)
 |[.tuple xs]=>P (.ow false) (.list xs)
 |_=>False
def Gj:cK K qb λxs H Q=>∃p ys,xs=[.ref p]/\(bI K H p ys\/bM K H p ys)/\∀l,H l=none->Q (.ref l) (upd H l (.lst ys)):=by
 intro H Hm vs ds P Q s r h q;unfold qb at h;split at h
 .obtain⟨x,rfl,h1⟩:=dg r;cases h1 with
  |lst a r1=>exact⟨_,_,rfl,.inl (bQ.mono s a).sq,λp hp=>bL.nl q s h hp r1⟩
 .obtain⟨x,rfl,h1⟩:=dg r;cases h1 with
  |tup a r1=>exact⟨_,_,rfl,.inr (bM.of (s _ _ a)),λp hp=>bL.nl q s h hp r1⟩
 exact h.elim
noncomputable def lN:DR:=λds P=>match ds with
 |[.list xs]=>P .sh (.tuple xs)
 |[.tuple xs]=>P .sh (.tuple xs)
 |_=>False
def DF:cK K lN λxs H Q=>∃p ys,xs=[.ref p]/\((bI K H p ys/\∀l,H l=none->Q (.ref l) (upd H l (.tup ys)))\/(bM K H p ys/\Q (.ref p) H)):=by
 intro H Hm vs ds P Q s r h q;unfold lN at h;split at h
 .obtain⟨x,rfl,h1⟩:=dg r;cases h1 with
  |lst a r1=>exact⟨_,_,rfl,.inl ⟨(bQ.mono s a).sq,λp hp=>bL.nt q s h hp r1⟩⟩
 .obtain⟨x,rfl,h1⟩:=dg r;cases h1 with
  |tup a r1=>exact⟨_,_,rfl,.inr ⟨bM.of (s _ _ a),bL.sc q s h (.tup a r1)⟩⟩
 exact h.elim
noncomputable def sZ:DR:=mY λi j=>.int (if j<i then j else i)
noncomputable def Be:DR:=mY λi j=>.int (if j>i then j else i)
def HU{f:Int->Int->Int}:cK K (mY λi j=>.int (f i j)) λxs H Q=>∃i j,xs=[.int i,.int j]/\Q (.int (f i j)) H:=by intro H Hm vs ds P Q s r h q;refine uy h λa b e p=>?_;subst e;obtain⟨x,y,rfl,h1,h2⟩:=fL r;cases h1;cases h2;exact⟨a,b,rfl,bL.sc q s p (.int _)⟩
noncomputable def P0:DR:=λds P=>match ds with
 |[.int i]=>P .sh (.int (if i<0 then-i else i))
 |_=>False
noncomputable def j5:DR:=λds P=>match ds with
 |[.int i]=>P .sh (.int i)
 |[.bool k]=>P .sh (.int (if k then 1 else 0))
 |_=>False
def Fb:cK K j5 λxs H Q=>(∃i,xs=[.int i]/\Q (.int i) H)\/∃k,xs=[.bl k]/\Q (.int (if k then 1 else 0)) H:=by intro H Hm vs ds P Q s r h q;unfold j5 at h;split at h;{obtain⟨x,rfl,h1⟩:=dg r;cases h1;exact .inl ⟨_,rfl,bL.sc q s h (.int _)⟩};{obtain⟨x,rfl,h1⟩:=dg r;cases h1;exact .inr ⟨_,rfl,bL.sc q s h (.int _)⟩};exact h.elim
theorem m9:∀{vs:List V}{ns:WO},aA K H vs (ns.map PyData.int)->vs=ns.map V.int
 |_,[],h=>by cases h;rfl
 |_,n::ns,h=>by
  cases h with
  |cons h t=>cases h;rw[m9 t];rfl
theorem qG:∀(ns:WO),aA K H (ns.map V.int) (ns.map PyData.int)
 |[]=>.nil
 |n::ns=>.cons (.int n) (qG ns)
def fP(h:Rp K H x (.list ds)):∃a xs,x=.ref a/\bQ K H a xs/\aA K H xs ds:=by
 cases h with
 |lst a r=>exact⟨_,_,rfl,a,r⟩
noncomputable def nj:DR:=λds P=>∃ns:WO,ds=[.list (ns.map .int)]/\P .sh (.int ns.sum)
def JU:cK K nj λxs H Q=>∃(a:Addr)(ns:WO),xs=[.ref a]/\bI K H a (ns.map V.int)/\Q (.int ns.sum) H:=by rintro H Hm vs ds P Q s r⟨ns,rfl,h⟩q;obtain⟨x,rfl,h1⟩:=dg r;obtain⟨a,xs,rfl,ha,r1⟩:=fP h1;cases m9 r1;exact⟨a,ns,rfl,(bQ.mono s ha).sq,bL.sc q s h (.int _)⟩
noncomputable def kU:DR:=λds P=>∃ns:WO,ds=[.list (ns.map .int)]/\ns≠[]/\∀M,M∈ns->(∀n∈ns,M<=n)->P .sh (.int M)
def Fp:cK K kU λxs H Q=>∃(a:Addr)(ns:WO),xs=[.ref a]/\bI K H a (ns.map V.int)/\ns≠[]/\∀M,M∈ns->(∀n∈ns,M<=n)->Q (.int M) H:=by rintro H Hm vs ds P Q s r⟨ns,rfl,hn,h⟩q;obtain⟨x,rfl,h1⟩:=dg r;obtain⟨a,xs,rfl,ha,r1⟩:=fP h1;cases m9 r1;exact⟨a,ns,rfl,(bQ.mono s ha).sq,hn,λM m1 m2=>bL.sc q s (h M m1 m2) (.int _)⟩
noncomputable def BS:DR:=λds P=>∃ns:WO,ds=[.list (ns.map .int)]/\ns≠[]/\∀M,M∈ns->(∀n∈ns,n<=M)->P .sh (.int M)
def Ge:cK K BS λxs H Q=>∃(a:Addr)(ns:WO),xs=[.ref a]/\bI K H a (ns.map V.int)/\ns≠[]/\∀M,M∈ns->(∀n∈ns,n<=M)->Q (.int M) H:=by rintro H Hm vs ds P Q s r⟨ns,rfl,hn,h⟩q;obtain⟨x,rfl,h1⟩:=dg r;obtain⟨a,xs,rfl,ha,r1⟩:=fP h1;cases m9 r1;exact⟨a,ns,rfl,(bQ.mono s ha).sq,hn,λM m1 m2=>bL.sc q s (h M m1 m2) (.int _)⟩
noncomputable def pD (p:Int×Int):PyData:=.tuple [.int p.1,.int p.2]
inductive za(vs:List V)(H:Hp)(Q:VK):Prop
 |mk:∀j:Int,(vs=[.int j])->(∀p,H p=none->0<=j/\j<=1000/\∀l,upd H p (.qu 0 j) l=none->Q (.ref l) (upd (upd H p (.qu 0 j)) l (.lst (((List.range j.toNat).map λi:Nat=>(i:Int)).map V.int))))->za vs H Q
noncomputable def E9:List V->Hp->VK->Prop:=λvs H Q=>za vs H Q
noncomputable def ku:DR:=λds P=>match ds with
 |[.int j]=>(0<=j/\j<=1000)/\P (.ow false) (.list (jl 0 j.toNat))
 |_=>False
def JW(n:Nat):aA K H (((List.range n).map λi:Nat=>(i:Int)).map V.int) (jl 0 n):=by have:=qG (K:=K) (H:=H) ((List.range n).map λi:Nat=>(i:Int));rw[RU (l:=List.range n) (g:=PyData.int)]at this;unfold jl;rw[show(λi:Nat=>PyData.int (0+i))=PyData.int∘λi:Nat=>(i:Int)from funext λi=>by simp];exact this
def DO:cK K ku E9:=by intro H Hm vs ds P Q s r h q;unfold ku at h;split at h;{obtain⟨x,rfl,h1⟩:=dg r;cases h1;rename_i j;refine⟨j,rfl,λp hp=>⟨h.1.1,h.1.2,λl hl=>?_⟩⟩;have s1:=bY (o:=.qu 0 j) hp;have s2:=bY (o:=.lst (((List.range j.toNat).map λi:Nat=>(i:Int)).map V.int)) hl;refine q _ _ _ _ Hm [l] h.2 (s1.trans s2) (ah.refl _) (s.trans (s1.trans s2)) (λ_ _=>.inl rfl) (.ow aC (JW _)) λa ha=>?_;rw[RE.mp ha];have:H l=none:=s1.free hl;exact⟨this,gg s this⟩};exact h.elim
def Gs(hc:X.calm=true)(g1:Gl X "list")(m1:X.mg "list"=none)(g2:Gl X "range")(m2:X.mg "range"=none)(ns:noStar a=true)(S:aN X Ex Y [a] as) : SE X Ex Y (.Call (.Name "list" p1) [.Call (.Name "range" p2) [a] [] pos2] [] pos) (aa ku as):=
 fQ (r:=E9) S (λU H Q h=>WE.of (lg (BG hc) g1 m1 VT (gU (lg yR g2 m2 PyProof.Rows.boot_range (dP (es:=[a]) (by rw[RN,ns];rfl)) (by decide) (by decide) (aU ns) (by rfl)) lP)) (by
  refine λpins s I=>aO (h pins s I) λv s1 ⟨x,H1,I1,r1,j,e,q⟩=>⟨x,H1,I1,r1,?_⟩
  cases e;refine⟨j,rfl,λp hp=>?_⟩
  obtain⟨q1,q2,q3⟩:=q p hp;exact⟨p,j,rfl,aC,q1,q2,q3⟩)) DO
end
inductive Ag(K:Frag)(H Hm:Hp):WJ->List V->WC->WI->Prop
 |nil:Ag K H Hm [] [] [] []
 |sh {ms:WJ}{vs:List V}{ds:WC}{as:WI}{v:V}{d:PyData}:Rp K Hm v d->Ag K H Hm ms vs ds as->Ag K H Hm (false::ms) (v::vs) (d::ds) as
 |mu {ms:WJ}{vs:List V}{ds:WC}{as:WI}{a:Addr}{xs:List V}{es:WC}:H a=some (.lst xs)->aA K Hm xs es->Hm a=none->a∉as->Ag K H Hm ms vs ds as->Ag K H Hm (true::ms) (.ref a::vs) (.list es::ds) (a::as)
inductive Bk(K:Frag)(H Hm:Hp):WI->WC->Prop
 |nil:Bk K H Hm [] []
 |cons {a:Addr}{xs:List V}{es:WC}{as:WI}{us:WC}:H a=some (.lst xs)->aA K Hm xs es->Hm a=none->Bk K H Hm as us->Bk K H Hm (a::as) (.list es::us)
noncomputable def bX (mg:Vt)(K:Frag)(ms:WJ)(sp:bC):Sp:=λvs H Q Ex=>∃(ds:WC)(as:WI)(Hm:Hp)(P:WC->Kd->PyData->Prop)(x:XC),ah Hm H/\Ag K H Hm ms vs ds as/\sp ds P x /\
 (∀us k r u H' Hm' fp,P us k r->ah Hm Hm'->ah Hm' H'->(∀p o,p∉as->H p=some o->H' p=some o)->(∀a,a∉as->H a≠none->OE (Hm' a) (Hm a))->Bk K H' Hm' as us->Own K H' Hm' k u r fp->(∀a∈fp,H a=none/\Hm' a=none)->Q u H') /\
 (∀c d C a H',mg c=some (.ref C)->x c d->(∀p o,p∉as->H p=some o->H' p=some o)->H' a=some (.ext (l0 a C none))->H a=none->Ex (.ref C) (some a) H')
section
variable{K:Frag}{g:Gh}{U:St}
def Ox{F:Nat->WI}(R:Rl K g E U H Hm F)(s:ah Hm Hm1):∀{ms:WJ}{as:List Arg}{os:List (Option PyData)}{vs:List V}{ds:WC},Got K U Hm as os vs->fill as E os=some ds->shape ms as=true->(lent ms as).Nodup->(∀i∈lent ms as,∃p es,E[i]?=some (some (.ow p,.list es)))->(∀i∈kept ms as,∀a∈F i,Hm1 a=H a)->(∀i∈lent ms as,∀a∈F i,Hm1 a=none)->∃ix:List (Nat×Addr),ix.map (·.1)=lent ms as/\Ag K H Hm1 ms vs ds (ix.map (·.2))/\∀q∈ix,U[q.1]?=some (some (.ref q.2))/\F q.1=[q.2]:=by
 intro ms as os vs ds G;induction G generalizing ms ds with
 |nil=>
  intro h sh nd hl hk hn;cases ms with
  |nil=>cases h;exact⟨[],rfl,.nil,λ_ z=>by cases z⟩
  |cons b ms=>cases b<;>cases sh
 |@pk i v as os vs hv G ih=>
  intro h sh nd hl hk hn;cases ms with
  |nil=>cases sh
  |cons b ms=>
   cases b with
   |false=>
    rw[fill]at h;split at h
    .rename_i k d e;by_cases hr:k.rd=true
     .rw[if_pos hr]at h;cases hf:fill as E os with
      |none=>rw[hf]at h;cases h
      |some es=>rw[hf]at h;cases h;obtain⟨v',h1,h2⟩:=R.slot i k d e;rw[hv]at h1;cases h1;obtain⟨ix,e1,e2,e3⟩:=ih (ms:=ms) hf sh nd hl (λj hj=>hk j (RK _ hj)) hn;exact⟨ix,e1,.sh (h2.rp hr s (hk i RC)) e2,e3⟩
     rw[if_neg hr]at h;cases h
    cases h
   |true=>
    rw[fill]at h;obtain⟨p,es0,e0⟩:=hl i RC;rw[e0]at h;have h:(if(Kd.ow p).rd=true then(fill as E os).map (PyData.list es0::·)else none)=some _:=h;rw[if_pos (show(Kd.ow p).rd=true from rfl)]at h;cases hf:fill as E os with
    |none=>rw[hf]at h;cases h
    |some es=>
     rw[hf]at h;cases h;obtain⟨v',h1,h2⟩:=R.slot i _ _ e0;rw[hv]at h1;cases h1;have nd':=S8.mp (show(i::lent ms as).Nodup from nd);obtain⟨ix,e1,e2,e3⟩:=ih (ms:=ms) hf sh nd'.2 (λj hj=>hl j (RK _ hj)) hk (λj hj=>hn j (RK _ hj));have hFi:=hn i RC;generalize hF:F i=fi at h2 hFi;cases h2 with
     |@ow _ a xs _ ha hr=>refine⟨(i,a)::ix,?_,.mu ha (hr.mono s) (hFi a RC) ?_ e2,?_⟩;{show i::ix.map (·.1)=i::lent ms as;rw[e1]};{intro m;obtain⟨q,hq,rfl⟩:=RG.mp m;have:=R.aG i q.1 q.2 (by rw[hF];exact RC) (by rw[(e3 q hq).2];exact RC);exact nd'.1 (e1▸(this▸RG.mpr ⟨q,hq,rfl⟩))};intro q hq;rcases RP.mp hq with rfl|hq;{exact⟨hv,hF⟩};exact e3 q hq
 |@ev d0 v u as os vs r G ih=>
  intro h sh nd hl hk hn;cases ms with
  |nil=>cases sh
  |cons b ms=>
   cases b with
   |true=>cases sh
   |false=>
    rw[fill]at h;cases hf:fill as E os with
    |none=>rw[hf]at h;cases h
    |some es=>rw[hf]at h;cases h;obtain⟨ix,e1,e2,e3⟩:=ih (ms:=ms) hf sh nd hl hk hn;exact⟨ix,e1,.sh (r.mono s) e2,e3⟩
theorem nk:∀{ms:WJ}{as:List Arg}{us:WC}{E E2:En},q8 ms as us E=some E2->(lent ms as).Nodup->E2.length=E.length/\(∀j,j∉lent ms as->E2[j]?=E[j]?)/\(lent ms as).length=us.length /\ ∀(n i:Nat)(u:PyData),(lent ms as)[n]?=some i->us[n]?=some u->∃p es es',u=.list es'/\E[i]?=some (some (.ow p,.list es))/\E2[i]?=some (some (.ow p,.list es'))
 |[],[],[],E,E2,h,_=>by cases h;exact⟨rfl,λ_ _=>rfl,rfl,λ_ _ _ z=>by cases z⟩
 |[],[],_::_,E,E2,h,_=>by cases h
 |[],_::_,_,E,E2,h,_=>by cases h
 |false::ms,.pk j::r,us,E,E2,h,nd=>nk (ms:=ms) (as:=r) (us:=us) h nd
 |false::ms,.ev _::r,us,E,E2,h,nd=>nk (ms:=ms) (as:=r) (us:=us) h nd
 |false::ms,[],us,E,E2,h,_=>by cases h
 |true::ms,[],us,E,E2,h,_=>by cases h
 |true::ms,.ev _::r,us,E,E2,h,_=>by cases h
 |true::ms,.pk i::r,[],E,E2,h,_=>by cases h
 |true::ms,.pk i::r,u::us,E,E2,h,nd=>by
  rw[q8]at h;obtain⟨n1,n2⟩:=S8.mp (show(i::lent ms r).Nodup from nd);split at h
  .rename_i p es e;by_cases hu:zV u=true
   .rw[if_pos hu]at h;cases u with
    |list es'=>
     have li:i<E.length:=by rcases SA i E.length with h|h;{exact h};rw[Rb h]at e;cases e
     obtain⟨l1,g1,l2,g2⟩:=nk (ms:=ms) (as:=r) (us:=us) h n2;rw[Rf]at l1;refine⟨l1,λj hj=>?_,congrArg (·+1) l2,λn j v h1 h2=>?_⟩;{have hj':j∉lent ms r:=λz=>hj (RK _ z);have hne:i≠j:=λz=>hj (z▸RC);rw[g1 j hj',ak hne]};cases n with
     |zero=>cases h1;cases h2;exact⟨p,es,es',rfl,e,by rw[g1 i n1,aF li]⟩
     |succ n=>have h1:(lent ms r)[n]?=some j:=h1;have h2:us[n]?=some v:=h2;obtain⟨p',fs,fs',e1,e2,e3⟩:=g2 n j v h1 h2;have hne:i≠j:=λz=>n1 (z▸Rj h1);rw[ak hne]at e2;exact⟨p',fs,fs',e1,e2,e3⟩
    |_=>cases hu
   rw[if_neg hu]at h;cases h
  cases h
theorem Bk.get:∀{as:WI}{us:WC}{n:Nat}{a:Addr},Bk K H Hm as us->as[n]?=some a->∃xs es,us[n]?=some (.list es)/\H a=some (.lst xs)/\aA K Hm xs es/\Hm a=none
 |_,_,_,_,.nil,h=>by simp at h
 |_,_,0,_,.cons h1 h2 h3 _,h=>by simp at h;subst h;exact⟨_,_,rfl,h1,h2,h3⟩
 |_,_,n+1,_,.cons _ _ _ t,h=>t.get (n:=n) (by simpa using h)
def r9{E E2 E3:En}{H H' Hm Hm2:Hp}{F:Nat->WI}{is:WN}{ix:List (Nat×Addr)}{us:WC}{k:Kd}{u:V}{v:PyData}{fp:WI}(R:Rl K g E U H Hm F)(hix:∀q∈ix,U[q.1]?=some (some (.ref q.2))/\F q.1=[q.2])(hik:∀q∈ix,q.1∉is)(l2:E2.length=E.length)(hs:∀j,j∉ix.map (·.1)->E2[j]?=E[j]?)(hu:∀q∈ix,∃p es xs' es',PyData.list es'∈us/\E[q.1]?=some (some (.ow p,.list es))/\E2[q.1]?=some (some (.ow p,.list es'))/\H' q.2=some (.lst xs')/\aA K Hm2 xs' es'/\Hm2 q.2=none)(hE:(if(flat k v&&us.all (flat (.ow false)))=true then some E2 else dN is E2)=some E3)(s1:ah (lend Hm H (is.flatMap F)) Hm2)(s2:ah Hm2 H')(sH:∀p o,p∉ix.map (·.2)->H p=some o->H' p=some o)(old:∀a,a∉ix.map (·.2)->H a≠none->OE (Hm2 a) (lend Hm H (is.flatMap F) a))(o:Own K H' Hm2 k u v fp)(fr:∀a∈fp,H a=none/\Hm2 a=none) : ∃Hm' F',Rl K g E3 U H' Hm' F'/\ah Hm Hm'/\Tm K g F' H' Hm' k u v fp:=by
 have mem:∀{a i},a∈F i->i∈is->a∈is.flatMap F:=λha hi=>Rq.mpr ⟨_,hi,ha⟩;have off:∀a∈is.flatMap F,Hm a=none:=λa ha=>by obtain⟨i,_,h⟩:=Rq.mp ha;exact R.off i a h
 have up:ah Hm (lend Hm H (is.flatMap F)):=gS off;have bu:∀{i a},a∈F i->H a≠none:=λha z=>by obtain⟨u,hu,_⟩:=R.bu _ _ ha;rw[z]at hu;cases hu
 have own:∀q∈ix,q.2∈F q.1:=λq hq=>by rw[(hix q hq).2];exact RC
 have lentF:∀{i a},a∈F i->a∈ix.map (·.2)->i∈ix.map (·.1):=λ{i a} ha m=>by obtain⟨q,hq,rfl⟩:=RG.mp m;exact RG.mpr ⟨q,hq,(R.aG i q.1 q.2 ha (own q hq)).symm⟩
 have lis:∀a,a∈ix.map (·.2)->a∉is.flatMap F:=λa m z=>by obtain⟨q,hq,rfl⟩:=RG.mp m;obtain⟨i,hi,h⟩:=Rq.mp z;exact hik q hq (R.aG i q.1 q.2 h (own q hq)▸hi)
 have nfp:∀a∈fp,∀i,a∉F i:=λa ha i=>R.fresh (fr a ha).1;have m2:∀{a},H a≠none->a∉is.flatMap F->(a∉ix.map (·.2)/\OE (Hm2 a) (Hm a))\/(a∈ix.map (·.2)/\Hm2 a=none):=λ{a} h c=>by by_cases z:a∈ix.map (·.2);{obtain⟨q,hq,rfl⟩:=RG.mp z;obtain⟨_,_,_,_,_,_,_,_,_,e⟩:=hu q hq;exact .inr ⟨z,e⟩};refine .inl ⟨z,?_⟩;have h':=old a z h;rw[cL c]at h';exact h'
 have offI:∀{i a},a∈F i->a∉is.flatMap F->Hm2 a=none:=λ{i a} ha c=>by rcases m2 (bu ha) c with⟨z,e⟩|⟨_,e⟩;{obtain⟨w,hw,nt⟩:=R.bu i a ha;exact e.off (R.off i a ha) s2 (sH a w z hw) nt};exact e
 have od:∀{a},g.H0 a≠none->a∉is.flatMap F->OE (Hm2 a) (g.dG a):=λ{a} h c=>by rcases m2 (R.pP h) c with⟨_,e⟩|⟨z,e⟩;{exact e.trans (R.old a h)};obtain⟨q,hq,rfl⟩:=RG.mp z;have h':=R.old _ h;rw[R.off q.1 q.2 (own q hq)]at h';rw[e];exact h'
 have hliv:∀{i a},a∈F i->∃w,H' a=some w/\oY w:=λ{i a} ha=>by by_cases z:a∈ix.map (·.2);{obtain⟨q,hq,rfl⟩:=RG.mp z;obtain⟨_,_,_,_,_,_,_,e,_,_⟩:=hu q hq;exact⟨_,e,k8⟩};obtain⟨w,hw,nt⟩:=R.bu i a ha;exact⟨w,sH a w z hw,nt⟩
 have keepH:∀{j a},j∉ix.map (·.1)->a∈F j->H' a=H a:=λ{j a} hj ha=>by obtain⟨w,hw,_⟩:=R.bu j a ha;rw[hw];exact sH a w (λz=>hj (lentF ha z)) hw
 have frm:∀p o,p∉g.M->g.H0 p=some o->H' p=some o:=λp o hp ho=>by refine sH p o (λz=>?_) (R.fr p o hp ho);obtain⟨q,hq,rfl⟩:=RG.mp z;rcases R.new q.1 q.2 (own q hq)with y|y;{exact hp y};rw[y]at ho;cases ho
 have pinn:∀{E4:En},(∀j,j∉is->E4[j]?=E2[j]?)->(∀j∈is,E4[j]?=E2[j]?\/∃k d,E2[j]?=some (some (k,d))/\k.fz=true)->∀q∈g.pins,U[q.1]?=some (some (.ref q.2))/\∃ds,E4[q.1]?=some (some (.ow true,.list ds)):=λ{E4} h4 h5 q hq=>by
  obtain⟨h1,ds',h2⟩:=R.pin q hq;refine⟨h1,?_⟩;have e2:∃ds,E2[q.1]?=some (some (.ow true,.list ds)):=by by_cases z:q.1∈ix.map (·.1);{obtain⟨q',hq',e⟩:=RG.mp z;obtain⟨p,es,xs',es',_,g1,g2,_⟩:=hu q' hq';rw[e,h2]at g1;cases g1;exact⟨es',e▸g2⟩};exact⟨ds',by rw[hs _ z];exact h2⟩
  obtain⟨ds,e2⟩:=e2;by_cases z:q.1∈is;{rcases h5 _ z with y|⟨k0,d0,y,yk⟩;{exact⟨ds,y.trans e2⟩};rw[e2]at y;cases y;cases yk};exact⟨ds,(h4 _ z).trans e2⟩
 by_cases hf:(flat k v&&us.all (flat (.ow false)))=true
 .rw[if_pos hf]at hE;cases hE;rw[RJ,RX]at hf;have st:kN Hm2 (back Hm2 (is.flatMap F)):=λa xs h=>by
   have c:a∉is.flatMap F:=λz=>by obtain⟨i,_,hi⟩:=Rq.mp z;obtain⟨w,hw,nt⟩:=R.bu i a hi;have e2:Hm2 a=some w:=s1 _ _ (by rw[dY z];exact hw);rw[e2]at h;cases h;exact nt xs rfl
   rw[cR c];exact h
  have upB:ah Hm (back Hm2 (is.flatMap F)):=λb o e=>by rw[cR λz=>by rw[off b z]at e;cases e];exact s1 _ _ (up _ _ e)
  have R':Rl K g E2 U H' (back Hm2 (is.flatMap F)) F:={
   len:=l2.trans R.len
   sub:=w9 s2
   slot:=λj k' d' e'=>by
    by_cases z:j∈ix.map (·.1)
    .obtain⟨q,hq,rfl⟩:=RG.mp z;obtain⟨p,es,xs',es',mu,g1,g2,g3,g4,_⟩:=hu q hq;rw[g2]at e';cases e';obtain⟨h1,h2⟩:=hix q hq;exact⟨_,h1,by rw[h2];exact .ow g3 (g4.xr st (hf.2 _ mu))⟩
    .rw[hs j z]at e';obtain⟨v',h1,h2⟩:=R.slot j k' d' e';exact⟨v',h1,h2.step upB λa ha=>keepH z ha⟩
   off:=λi a ha=>by
    by_cases c:a∈is.flatMap F
    .exact iS c
    .rw[cR c];exact offI ha c
   bu:=λi a ha=>hliv ha
   aG:=R.aG
   fr:=frm
   new:=R.new
   pin:=pinn (λj _=>rfl) λj _=>.inl rfl
   old:=λa ha=>by
    by_cases c:a∈is.flatMap F
    .have h':=R.old a ha;rw[off a c]at h';rw[iS c];exact h'
    .rw[cR c];exact od ha c }
  refine⟨_,F,R',upB,⟨o.flat st hf.1,λa ha=>?_,nfp,λa ha=>R.fK (fr a ha).1⟩⟩;by_cases c:a∈is.flatMap F;{exact iS c};rw[cR c];exact(fr a ha).2
 rw[if_neg hf]at hE;obtain⟨l3,g3⟩:=nu hE;have R':Rl K g E3 U H' Hm2 (λj=>if j∈is then []else F j):={
  len:=l3.trans (l2.trans R.len)
  sub:=s2
  slot:=λj k' d' e'=>by
   by_cases c:j∈is
   .obtain⟨k0,d0,e0,hk0,e1⟩:=(g3 j).2 c;rw[e1]at e';cases e';have z:j∉ix.map (·.1):=λz=>by
     obtain⟨q,hq,rfl⟩:=RG.mp z;exact hik q hq c
    rw[hs j z]at e0;obtain⟨v',h1,h2⟩:=R.slot j k0 _ e0;refine⟨v',h1,?_⟩;rw[if_pos c];exact .sh ((h2.rp (by cases k0<;>first|rfl|cases hk0) up λa ha=>dY (mem ha c)).mono s1)
   .rw[(g3 j).1 c]at e';rw[if_neg c]
    by_cases z:j∈ix.map (·.1)
    .obtain⟨q,hq,rfl⟩:=RG.mp z;obtain⟨p,es,xs',es',mu,g1,g2,g4,g5,_⟩:=hu q hq;rw[g2]at e';cases e';obtain⟨h1,h2⟩:=hix q hq;exact⟨_,h1,by rw[h2];exact .ow g4 g5⟩
    .rw[hs j z]at e';obtain⟨v',h1,h2⟩:=R.slot j k' d' e';exact⟨v',h1,h2.step (up.trans s1) λa ha=>keepH z ha⟩
  off:=λj a ha=>by
   by_cases c:j∈is
   .rw[if_pos c]at ha;cases ha
   .rw[if_neg c]at ha;exact offI ha λz=>by
     obtain⟨i,hi,h⟩:=Rq.mp z;exact c (R.aG i j a h ha▸hi)
  bu:=λj a ha=>by
   by_cases c:j∈is
   .rw[if_pos c]at ha;cases ha
   .rw[if_neg c]at ha;exact hliv ha
  aG:=λj l a h1 h2=>by
   by_cases c:j∈is
   .rw[if_pos c]at h1;cases h1
   .rw[if_neg c]at h1
    by_cases c':l∈is
    .rw[if_pos c']at h2;cases h2
    .rw[if_neg c']at h2;exact R.aG j l a h1 h2
  fr:=frm
  new:=λj a ha=>by
   by_cases c:j∈is
   .rw[if_pos c]at ha;cases ha
   .rw[if_neg c]at ha;exact R.new j a ha
  pin:=pinn (λj hj=>(g3 j).1 hj) λj hj=>by
   obtain⟨k0,d0,e0,hk0,_⟩:=(g3 j).2 hj;exact .inr ⟨k0,d0,e0,hk0⟩
  old:=λa ha=>by
   refine od ha λz=>?_
   obtain⟨i,hi,h⟩:=Rq.mp z;obtain⟨k0,d0,e0,hk0,_⟩:=(g3 i).2 hi;have zi:i∉ix.map (·.1):=λz=>by
    obtain⟨q,hq,rfl⟩:=RG.mp z;exact hik q hq hi
   rw[hs i zi]at e0;exact ha (R.notM e0 (by cases k0<;>first|rfl|(rename_i p;cases p<;>first|rfl|cases hk0)|cases hk0) h) }
 refine⟨Hm2,_,R',up.trans s1,⟨o,λa ha=>(fr a ha).2,λa ha i=>?_,λa ha=>R.fK (fr a ha).1⟩⟩;by_cases c:i∈is;{rw[if_pos c];simp};rw[if_neg c];exact nfp a ha i
end
section
variable{X:Cx}{Ex:XK}{Y:WN}
def Jr{x:Str}{k:Nat}{ps:WQ}{ms:WJ}{sp:bC}{p pos:Pos}{e:Expr}{es:WK}{as:List Arg}(F:bN X.prog X.w X.K X.mg X.base k x ps (bX X.mg X.K ms sp))(hp:Passes (eE X.prog X.w) X Ex)(hr:dm k X.A)(hg:Gl X x)(hd:(x==("__debug__":Str))=false)(ns:(e::es).all noStar=true)(S:aN X Ex Y (e::es) as):SE X Ex Y (.Call (.Name x p) (e::es) [] pos) (aH sp ms as):=by
 intro g xc E U H Hm Fo P Q hx R h q;obtain⟨f,fd,h1,h2,h3,h4⟩:=F;refine WE.of (z0 (E:=Ex) h4 hr hg h1 h2 h3 .nil hp (dP ns) hd (aU (by rw[RN,RJ]at ns;exact ns.1)) (eY (by rw[RN,RJ]at ns;exact ns.2))) ?_;refine jd hx S R h λE1 os vs H1 Hm1 F1 p R1 s1 G=>?_;replace p:Ew sp ms as xc E1 os P:=p;unfold Ew at p;rw[<-bf,dS]at p;obtain⟨ds,hf,p⟩:=p;rw[dJ,Gm]at p;obtain⟨hl,hsp⟩:=p;unfold yw at hl;rw[RJ,RJ,Sy,RX]at hl;obtain⟨⟨l1,l2⟩,l3⟩:=hl;have hlent:∀i∈lent ms as,i∉kept ms as/\∃p es,E1[i]?=some (some (.ow p,.list es)):=λi hi=>by have:=l3 i hi;rw[RJ]at this;refine⟨λz=>?_,?_⟩;{have y:=this.1;rw[VU,UI]at y;simp[z]at y};have y:=this.2;split at y;{rename_i p es e;exact⟨p,es,e⟩};cases y
 have off:∀a∈(kept ms as).flatMap F1,Hm1 a=none:=λa ha=>by obtain⟨i,_,h⟩:=Rq.mp ha;exact R1.off i a h
 have up:=gS (Hm:=Hm1) (H:=H1) off;obtain⟨ix,e1,e2,e3⟩:=Ox R1 up (ms:=ms) G hf l1 l2 (λi hi=>(hlent i hi).2) (λi hi a ha=>dY (Rq.mpr ⟨i,hi,ha⟩)) λi hi a ha=>by
  rw[cL λz=>by
   obtain⟨j,hj,h⟩:=Rq.mp z;exact(hlent i hi).1 (R1.aG j i a h ha▸hj)]
  exact R1.off i a ha
 show bX X.mg X.K ms sp (vs++[]) H1 Q Ex;rw[Rz];refine⟨ds,ix.map (·.2),lend Hm1 H1 ((kept ms as).flatMap F1),_,xc,iO R1.sub,e2,hsp,λus k r u H' Hm' fp p sM sS fr old bk o new=>?_,λc d C a H' hC hxc fr ha hn=>?_⟩
 .replace p:EJ ms as E1 us k r P:=p;unfold EJ at p;rw[<-bf,tO]at p;obtain⟨E2,hu,p⟩:=p;rw[<-bf,Gz]at p;obtain⟨E3,ha,p⟩:=p;obtain⟨u1,u2,u3,u4⟩:=nk hu l2;have hu':∀q∈ix,∃p es xs' es',PyData.list es'∈us/\E1[q.1]?=some (some (.ow p,.list es))/\E2[q.1]?=some (some (.ow p,.list es'))/\H' q.2=some (.lst xs')/\aA X.K Hm' xs' es'/\Hm' q.2=none:=λq hq=>by
   obtain⟨n,hn⟩:=Sv hq;have hn1:(lent ms as)[n]?=some q.1:=by rw[<-e1,RO,hn];rfl
   have hn2:(ix.map (·.2))[n]?=some q.2:=by rw[RO,hn];rfl
   obtain⟨xs',es',g1,g2,g3,g4⟩:=bk.get hn2;obtain⟨p',es,es'',g5,g6,g7⟩:=u4 n q.1 _ hn1 g1;cases g5;exact⟨p',es,xs',es',Rj g1,g6,g7,g2,g3,g4⟩
  obtain⟨Hm'',F'',R'',s'',T⟩:=r9 R1 (is:=kept ms as) (ix:=ix) (us:=us) e3 (λq hq=>(hlent q.1 (e1▸RG.mpr ⟨q,hq,rfl⟩)).1) u1 (λj hj=>u2 j (e1▸hj)) hu' (su ha) sM sS fr old o new;exact q _ _ _ _ _ _ _ _ p R'' (s1.trans s'') T
 refine hx c d C a H' hC hxc (λp o hp ho=>?_) ha (R1.fK hn);refine fr p o (λz=>?_) (R1.fr p o hp ho);obtain⟨q,hq,rfl⟩:=RG.mp z;rcases R1.new q.1 q.2 (by rw[(e3 q hq).2];exact RC)with y|y;{exact hp y};rw[y]at ho;cases ho
end
noncomputable def WS (X:Cx)(st:Stmt):TS:=λD U H=>∀(pins:Vu)(s:Shared),Inv X pins U H s->wpAny (model X.prog X.w) X.A (exec st X.env) (SP X pins D) X.xe s
noncomputable def qB (X:Cx)(st:WM):TS:=λD U H=>∀(pins:Vu)(s:Shared),Inv X pins U H s->wpAny (model X.prog X.w) X.A (execs st X.env) (SP X pins D) X.xe s
def AK:PS X st (WS X st):=λpins s _ _ _ I h=>h pins s I
def iW:nZ X st (qB X st):=λpins s _ _ _ I h=>h pins s I
def WS.of(h:PS X st t)(q:t D U H):WS X st D U H:=λpins s I=>h pins s U H D I q
def qB.of(h:nZ X st t)(q:t D U H):qB X st D U H:=λpins s I=>h pins s U H D I q
def bx{α:Type}{l:List α}{i:Nat}{a:α}(h:l[i]?=some a):i<l.length:=by rcases SA i l.length with z|z;{exact z};rw[Rb z]at h;cases h
def jQ{Y:WN}{U:St}{j i:Nat}{v:Option V}(nd:Y.Nodup)(h:Y[j]?=some i)(hi:i<U.length):(sel Y U).set j v=sel Y (U.set i v):=by
 have lj:j<Y.length:=bx h;refine Rw λk=>?_;by_cases c:k=j;{subst c;rw[aF (by unfold sel;rw[RA];exact lj)];unfold sel;rw[RO,h];show some v=some ((U.set i v)[i]?).join;rw[aF hi];rfl};rw[ak (Ne.symm c)];unfold sel;rw[RO,RO];cases e:Y[k]? with
 |none=>rfl
 |some m=>
  have ne:i≠m:=λz=>c (by
   have h1:=U0.mp e;have h2:=U0.mp h;obtain⟨l1,e1⟩:=h1;obtain⟨l2,e2⟩:=h2;exact(List.getElem_inj nd).mp (e1.trans (z.symm.trans e2.symm)))
  show some (U[m]?).join=some ((U.set i v)[m]?).join;rw[ak ne]
noncomputable abbrev aS (X:Cx):WN:=List.range X.N.length
noncomputable def Pc (X:Cx)(Ex:XK)(w:TS)(d:DS):Prop:=
 ∀(g:Gh)(D':gx)(E:En)(U:St)(H Hm:Hp)(F:Nat->WI)(D:Ends),XL X Ex D'.xc g->Rl X.K g E U H Hm F->d D' E->
  (∀E' σ' H' Hm' F',D'.nx E'->Rl X.K g E' σ' H' Hm' F'->ah Hm Hm'->D.nx (sel (aS X) σ') H')->
  (∀E' k v u σ' H' Hm' F' fp,D'.rt E' k v->Rl X.K g E' σ' H' Hm' F'->Tm X.K g F' H' Hm' k u v fp->D.rt u H')->w D (sel (aS X) U) H
noncomputable abbrev S1 (X:Cx)(Ex:XK)(st:Stmt)(d:DS):Prop:=Pc X Ex (WS X st) d
noncomputable abbrev SS (X:Cx)(Ex:XK)(st:WM)(d:DS):Prop:=Pc X Ex (qB X st) d
section
variable{X:Cx}{Ex:XK}
def b9:SS X Ex [] c9:=λg D' E U H Hm F D hx R h nx rt=>qB.of IU (nx _ _ _ _ _ h R (ah.refl _))
def af{st:Stmt}{rest:WM}{a b:DS}(h1:S1 X Ex st a)(h2:SS X Ex rest b):SS X Ex (st::rest) (ao a b):=by intro g D' E U H Hm F D hx R h nx rt;refine qB.of (xh AK iW) (h1 g { D' with nx:=b D' } E U H Hm F _ hx R h (λE1 σ1 H1 Hm1 F1 p1 R1 s1=>?_) rt);exact h2 g D' E1 σ1 H1 Hm1 F1 D hx R1 p1 (λE2 σ2 H2 Hm2 F2 p2 R2 s2=>nx _ _ _ _ _ p2 R2 (s1.trans s2)) rt
def oV{st:Stmt}{rest:WM}{a b:DS}(h1:S1 X Ex st a)(h2:SS X Ex rest b):SS X Ex (st::rest) (q9 a b):=by intro g D' E U H Hm F D hx R h nx rt;obtain⟨J,h,hJ⟩:=h;refine qB.of (xh AK iW) (h1 g { D' with nx:=J } E U H Hm F _ hx R h (λE1 σ1 H1 Hm1 F1 p1 R1 s1=>?_) rt);exact h2 g D' E1 σ1 H1 Hm1 F1 D hx R1 (hJ E1 p1) (λE2 σ2 H2 Hm2 F2 p2 R2 s2=>nx _ _ _ _ _ p2 R2 (s1.trans s2)) rt
def ai(h1:S1 X Ex st a):SS X Ex [st] a:=λg D' E U H Hm F D hx R h nx rt=>qB.of (IL AK) (h1 g D' E U H Hm F D hx R h nx rt)
def Qi(hc:ST X Ex (aS X) c t)(ha:SS X Ex a d)(hb:SS X Ex b2 e):S1 X Ex (.If c a b2 pos) (cH t d e):=by
 rw[JO];intro g D' E U H Hm F D hx R h nx rt;refine WS.of (NF jI iW iW) (hc g D'.xc E U H Hm F _ (λb H1=>if b=true then qB X a D _ H1 else qB X b2 D _ H1) hx R h λE1 b H1 Hm1 F1 p1 R1 s1=>?_);cases b with
 |true=>exact nK (ha g D' E1 U H1 Hm1 F1 D hx R1 (by simpa using p1) (λE2 σ2 H2 Hm2 F2 p2 R2 s2=>nx _ _ _ _ _ p2 R2 (s1.trans s2)) rt)
 |false=>exact nL (hb g D' E1 U H1 Hm1 F1 D hx R1 (by simpa using p1) (λE2 σ2 H2 Hm2 F2 p2 R2 s2=>nx _ _ _ _ _ p2 R2 (s1.trans s2)) rt)
def OB(h:SE X Ex (aS X) e d):S1 X Ex (.Return (some e) pos) (cy d):=λg D' E U H Hm F D hx R p nx rt=>WS.of (D3 aX) (h g D'.xc E U H Hm F _ _ hx R p λE' k v u H' Hm' F' fp p' R' s' T=>rt _ _ _ _ _ _ _ _ _ p' R' T)
def KY(h:SE X Ex (aS X) e d)(hs:swapsWith e none pos.line X.env=pure false):S1 X Ex (.Expr e pos) (cA d):=λg D' E U H Hm F D hx R p nx rt=>WS.of (J1 aX hs) (h g D'.xc E U H Hm F _ _ hx R p λE' k v u H' Hm' F' fp p' R' s' T=>nx _ _ _ _ _ p' R' s')
def Rl.move{K:Frag}{g:Gh}{E:En}{U:St}{H Hm:Hp}{F:Nat->WI}(R:Rl K g E U H Hm F){i:Nat}{k:Kd}{d:PyData}(e:E[i]?=some (some (k,d)))(hk:k.pin=false):∃v F',U[i]?=some (some v)/\Rl K g (E.set i none) U H Hm F'/\Tm K g F' H Hm k v d (F i):=by
 obtain⟨v,h1,h2⟩:=R.slot i k d e;have li:=bx e;refine⟨v,λj=>if j=i then []else F j,h1,?_,⟨h2,R.off i,λa ha j=>?_,λa ha=>R.notM e hk ha⟩⟩
 .exact {
   len:=by rw[Rf];exact R.len
   sub:=R.sub
   slot:=λj k' d' e'=>by
    by_cases c:j=i
    .subst c;rw[aF li]at e';cases e'
    .rw[ak (Ne.symm c)]at e';obtain⟨u,g1,g2⟩:=R.slot j k' d' e';exact⟨u,g1,by rw[if_neg c];exact g2⟩
   off:=λj a ha=>by
    by_cases c:j=i
    .rw[if_pos c]at ha;cases ha
    .rw[if_neg c]at ha;exact R.off j a ha
   bu:=λj a ha=>by
    by_cases c:j=i
    .rw[if_pos c]at ha;cases ha
    .rw[if_neg c]at ha;exact R.bu j a ha
   aG:=λj l a g1 g2=>by
    by_cases c:j=i
    .rw[if_pos c]at g1;cases g1
    .rw[if_neg c]at g1
     by_cases c':l=i
     .rw[if_pos c']at g2;cases g2
     .rw[if_neg c']at g2;exact R.aG j l a g1 g2
   fr:=R.fr
   new:=λj a ha=>by
    by_cases c:j=i
    .rw[if_pos c]at ha;cases ha
    .rw[if_neg c]at ha;exact R.new j a ha
   pin:=λq hq=>by
    obtain⟨g1,ds',g2⟩:=R.pin q hq;have c:i≠q.1:=λz=>by
     rw[<-z,e]at g2;cases g2;cases hk
    exact⟨g1,ds',by rw[ak c];exact g2⟩
   old:=R.old }
 by_cases c:j=i;{rw[if_pos c];simp};rw[if_neg c];exact λz=>c (R.aG j i a z ha)
def iV{n i:Nat}(h:i<n):(List.range n)[i]?=some i:=RI h
def Mb{i:Nat}(h:PE X e (kJ i))(hi:i<X.N.length):S1 X Ex (.Return (some e) pos) (eV i):=by
 intro g D' E U H Hm F D hx R p nx rt;replace p:CU E i D'.rt:=p;unfold CU at p;split at p
 rotate_left
 .exact p.elim
 rename_i k d e1;rw[dJ]at p;obtain⟨hk,p⟩:=p;have hk:k.pin=false:=by simpa using hk
 obtain⟨v,F',h1,R',T⟩:=R.move e1 hk;exact WS.of (D3 h) ⟨v,cZ (iV hi) h1,rt _ _ _ _ _ _ _ _ _ p R' T⟩
def gK{i:Nat}(h:bJ E i=true):i<E.length:=by rcases SA i E.length with z|z;{exact z};unfold bJ at h;rw[Rb z]at h;cases h
def NP{i:Nat}{x:Str}{e:Expr}{pos pos':Pos}{d:DE}(hN:X.N.Nodup)(hi:X.N[i]?=some x)(hl:Loc X.env.scope x)(hs:swapsWith e (some (.Name x pos')) pos.line X.env=pure false)(hf:X.fn x=true\/X.env.scope.names.lookup x=some .local)(h:SE X Ex (aS X) e d):S1 X Ex (.Assign [.Name x pos'] e pos) (aB i d):=by rw[uv];intro g D' E U H Hm F D hx R p nx rt;refine WS.of (LD hN hi hl aX hs hf) (h g D'.xc E U H Hm F _ _ hx R p λE' k v u H' Hm' F' fp p' R' s' T=>?_);show D.nx ((sel (aS X) U).set i (some u)) H';rw[jQ TX (iV (bx hi)) (R'.len▸gK p'.1)];exact nx _ _ _ _ _ p'.2 (R'.put T p'.1) s'
inductive jD(X:Cx)(Y:WN):WK->WN->Prop
 |nil:jD X Y [] []
 |cons {x:Str}{p:Pos}{j i:Nat}{ts:WK}{is:WN}:X.N[j]?=some x->Y[j]?=some i->Loc X.env.scope x->(X.fn x=true\/X.env.scope.names.lookup x=some .local)->jD X Y ts is->jD X Y (.Name x p::ts) (i::is)
inductive fW(X:Cx)(Y:WN):Expr->Tg->Prop
 |nm {x:Str}{p:Pos}{j i:Nat}:X.N[j]?=some x->Y[j]?=some i->Loc X.env.scope x->(X.fn x=true\/X.env.scope.names.lookup x=some .local)->fW X Y (.Name x p) (.nm i)
 |tp {ts:WK}{k:Nat}{p:Pos}{is:WN}:jD X Y ts is->fW X Y (.Tuple ts k p) (.tp is)
 |nt {x:Str}{q p2 p:Pos}{ts:WK}{k k2 j i:Nat}{is:WN}:X.N[j]?=some x->Y[j]?=some i->Loc X.env.scope x->(X.fn x=true\/X.env.scope.names.lookup x=some .local)->jD X Y ts is->fW X Y (.Tuple [.Name x q,.Tuple ts k2 p2] k p) (.nt i is)
noncomputable def QF (X:Cx)(Y:WN)(tg:Tg)(G:TG):Prop:=∀{g:Gh}{d:PyData}{v:V}{E E2:En}{U:St}{H Hm:Hp}{F:Nat->WI}{Q:St->Hp->Prop},b5 tg d E=some E2->Rp X.K Hm v d->Rl X.K g E U H Hm F->(∀σ' F',Rl X.K g E2 σ' H Hm F'->(∀j,j∉tg.slots->σ'[j]?=U[j]?)->Q (sel Y σ') H)->G v (sel Y U) H Q
def x8(hN:X.N.Nodup)(nd:Y.Nodup)(h:jD X Y ts is):∃G:qv,EF X ts G/\(assignEach ts X.env).length=is.length/\(assignEach ts X.env).findIdx? (·.1)=none /\ ∀{g:Gh}{ds:WC}{vs:List V}{E E2:En}{U:St}{H Hm:Hp}{F:Nat->WI}{Q:St->Hp->Prop},bA is ds E=some E2->aA X.K Hm vs ds->Rl X.K g E U H Hm F->(∀σ' F',Rl X.K g E2 σ' H Hm F'->(∀j,j∉is->σ'[j]?=U[j]?)->Q (sel Y σ') H)->vs.length=is.length/\G vs (sel Y U) H Q:=by
 induction h with
 |nil=>
  refine⟨Fy,Av,rfl,rfl,λ{g ds vs E E2 U H Hm F Q} h r R q=>?_⟩;cases ds with
  |nil=>cases h;cases r;exact⟨rfl,rfl,q _ _ R λ_ _=>rfl⟩
  |cons _ _=>cases h
 |@cons x p j i ts is h1 h2 h3 h4 _ ih=>
  obtain⟨G,g1,g2,g3,g4⟩:=ih;refine⟨BV (qa j) G,qH (uh hN h1 h3 h4) g1,?_,?_,λ{g ds vs E E2 U H Hm F Q} h r R q=>?_⟩;{show(assignEach ts X.env).length+1=_;rw[g2];rfl};{show List.findIdx? (·.1) ((false,assign (.Name x p) X.env)::assignEach ts X.env)=none;rw[List.findIdx?_cons,g3];rfl};cases ds with
  |nil=>cases h
  |cons d ds=>
   rw[bA]at h;by_cases o:bJ E i=true
   .rw[if_pos o]at h;cases r with
    |cons r1 r2=>
     obtain⟨l,k⟩:=g4 h r2 (R.put (Tm.sh r1) o) λσ' F' R' a=>q σ' F' R' λj' hj=>by have ne:i≠j':=λz=>hj (z▸RC);exact(a j' λz=>hj (RK _ z)).trans (ak ne)
     refine⟨congrArg (·+1) l,_,_,rfl,?_⟩;show G _ ((sel Y U).set j (some _)) H Q;rw[jQ nd h2 (R.len▸gK o)];exact k
   rw[if_neg o]at h;cases h
def um{i:Nat}(h:b5 (.nt i is) d E=some E2):∃a ds,d=.tuple [a,.tuple ds]/\bA (i::is) (a::ds) E=some E2:=by
 cases d with
 |tuple l=>
  rcases l with _|⟨a,_|⟨b,_|⟨c,r⟩⟩⟩;{cases h};{cases h}
  .cases b with
   |tuple ds=>exact⟨a,ds,rfl,h⟩
   |_=>cases h
  cases b<;>cases h
 |_=>cases h
def vI(hc:X.calm=true)(hN:X.N.Nodup)(nd:Y.Nodup)(h:fW X Y e tg):∃G,PG X e G/\QF X Y tg G:=by
 cases h with
 |@nm x p j i h1 h2 h3 h4=>refine⟨qa j,uh hN h1 h3 h4,λ{g d v E E2 U H Hm F Q} h r R q=>?_⟩;have h:bA [i] [d] E=some E2:=h;rw[bA]at h;by_cases o:bJ E i=true;{rw[if_pos o]at h;cases h;show Q ((sel Y U).set j (some v)) H;rw[jQ nd h2 (R.len▸gK o)];exact q _ _ (R.put (Tm.sh r) o) λj' hj=>ak (show i≠j' from λz=>hj (z▸RC))};rw[if_neg o]at h;cases h
 |@tp ts k p is h=>
  obtain⟨G,g1,g2,g3,g4⟩:=x8 hN nd h;refine⟨_,yi hc g1 g2 g3,λ{g d v E E2 U H Hm F Q} h r R q=>?_⟩;cases d with
  |tuple ds=>
   have h:bA is ds E=some E2:=h;cases r with
   |tup a r=>obtain⟨l,k⟩:=g4 h r R q;exact⟨_,_,rfl,bM.of (R.sub _ _ a),l,k⟩
  |_=>cases h
 |@nt x q p2 p ts k k2 j i is h1 h2 h3 h4 h=>
  obtain⟨G,g1,g2,g3,g4⟩:=x8 hN nd h;refine⟨_,yi hc (qH (uh hN h1 h3 h4) (qH (yi hc g1 g2 g3) Av)) rfl rfl,λ{g d v E E2 U H Hm F Q} h r R q=>?_⟩;obtain⟨a1,ds,rfl,h⟩:=um h;cases r with
  |tup a r=>
   cases r with
   |cons r1 r2=>
    cases r2 with
    |cons r2 r3=>
     cases r3;cases r2 with
     |tup b rs=>
      replace h:(if bJ E i then bA is ds (E.set i (some (.sh,a1)))else none)=some E2:=h;by_cases o:bJ E i=true
      .rw[if_pos o]at h;obtain⟨l,k⟩:=g4 (Q:=λσ' H'=>Fy [] σ' H' Q) h rs (R.put (Tm.sh r1) o) λσ' F' R' a=>⟨rfl,q σ' F' R' λj' hj=>by
        have ne:i≠j':=λz=>hj (z▸RC)
        exact(a j' λz=>hj (RK _ z)).trans (ak ne)⟩
       refine⟨_,_,rfl,bM.of (R.sub _ _ a),rfl,_,_,rfl,?_⟩;show BV _ _ _ ((sel Y U).set j (some _)) H Q;rw[jQ nd h2 (R.len▸gK o)];exact⟨_,_,rfl,_,_,rfl,bM.of (R.sub _ _ b),l,k⟩
      rw[if_neg o]at h;cases h
def N4{k:Nat}(hc:X.calm=true)(hN:X.N.Nodup)(ht:jD X (aS X) ts is)(hs:swapsWithSole [.Tuple ts k p] e pos.line X.env=pure false)(hw:swappedStores [.Tuple ts k p] e X.env=pure none)(h:SE X Ex (aS X) e d):S1 X Ex (.Assign [.Tuple ts k p] e pos) (qN is d):=by
 intro g D' E U H Hm F D hx R pp nx rt;obtain⟨G,g1,g2⟩:=vI hc hN TX (fW.tp (k:=k) (p:=p) ht);refine WS.of (Ez aX g1 hs hw) (h g D'.xc E U H Hm F _ _ hx R pp λE' k v u H' Hm' F' fp p' R' s' T=>?_);replace p':bK k.fz _:=p';rw[dJ]at p';obtain⟨hk,p'⟩:=p';unfold HQ at p';split at p'
 rotate_left
 .exact p'.elim
 rename_i ds;rw[<-bf,DH]at p';obtain⟨E2,e2,p'⟩:=p';have e2:b5 (.tp is) (.tuple ds) E'=some E2:=e2;obtain⟨Hm2,s2,R2,r2⟩:=T.dW R' hk;exact g2 e2 r2 R2 λσ' F' R3 _=>nx _ _ _ _ _ p' R3 (s'.trans s2)
def JG(hp:PassesOwn (model X.prog X.w) X.A X.env X.xe)(hc:ST X Ex (aS X) c t)(hb:SS X Ex b d):S1 X Ex (.While c b [] pos) (oW t d):=by
 intro g D' E U H Hm F D hx R h nx rt;obtain⟨W,⟨m0,w0⟩,step⟩:=h;refine WS.of (GP hp jI iW) ⟨λm τ H'=>∃E' σ' Hm' F',W m E'/\Rl X.K g E' σ' H' Hm' F'/\ah Hm Hm'/\τ=sel (aS X) σ',⟨m0,E,U,Hm,F,w0,R,ah.refl _,rfl⟩,?_⟩;rintro m τ H1⟨E1,σ1,Hm1,F1,w1,R1,s1,rfl⟩;refine hc g D'.xc E1 σ1 H1 Hm1 F1 _ _ hx R1 (step m E1 w1) λE2 b2 H2 Hm2 F2 p2 R2 s2=>?_;cases b2 with
 |true=>
  refine nK ⟨λτ H'=>∃m',m'<m/\∃E' σ' Hm' F',W m' E'/\Rl X.K g E' σ' H' Hm' F'/\ah Hm Hm'/\τ=sel (aS X) σ',λ_ _ z=>z,?_⟩;exact hb g { D' with nx:=λE'=>∃m',m'<m/\W m' E' } E2 σ1 H2 Hm2 F2 _ hx R2 (by simpa using p2) (λE3 σ3 H3 Hm3 F3 p3 R3 s3=>by
   obtain⟨m',hm,w3⟩:=p3;exact⟨m',hm,E3,σ3,Hm3,F3,w3,R3,s1.trans (s2.trans s3),rfl⟩) rt
 |false=>exact nL (nx _ _ _ _ _ (by simpa using p2) R2 (s1.trans s2))
noncomputable def yb (K:Frag)(J:It)(xs:WC)(dG:Hp):Prop:=∀(i:Nat)(H Hm:Hp),ah dG Hm->ah Hm H->
 (∀d,xs[i]?=some d->J.go i H/\∀x H',J.qA i H x H'->∃Hm',ah Hm Hm'/\ah Hm' H'/\ah H H'/\(∀a,H a≠none->OE (Hm' a) (Hm a))/\Rp K Hm' x d)/\(xs.length<=i->J.stop i H)
noncomputable def SI (X:Cx)(Ex:XK)(Y:WN)(tg e:Expr)(d:DI):Prop:=∃wi:TI,PI X tg e wi /\
 ∀(g:Gh)(x:XC)(E:En)(U:St)(H Hm:Hp)(F:Nat->WI)(P:En->WC->Prop)(R:It->Hp->Prop),XL X Ex x g->Rl X.K g E U H Hm F->d x E P->
  (∀E' xs J H' Hm' F',P E' xs->Rl X.K g E' U H' Hm' F'->ah Hm Hm'->yb X.K J xs Hm'->R J H')->wi (sel Y U) H R
def Rl.turn{F:Nat->WI}(R:Rl K g E U H Hm F)(s1:ah Hm Hm')(s2:ah Hm' H')(s3:ah H H')(old:∀a,H a≠none->OE (Hm' a) (Hm a)):Rl K g E U H' Hm' F:=
 R.grow s3 s1 s2 (λi a ha=>by
  obtain⟨u,hu,nt⟩:=R.bu i a ha;exact(old a (by rw[hu];simp)).off (R.off i a ha) s2 (s3 _ _ hu) nt) λa ha=>old a (R.pP ha)
def N6(hp:PassesOwn (model X.prog X.w) X.A X.env X.xe)(hc:X.calm=true)(hN:X.N.Nodup)(hi:SI X Ex (aS X) tg it di)(ht:fW X (aS X) tg t)(hb:SS X Ex b d)(hs:∀x,foldedSetIterable it X.env x=pure x):S1 X Ex (.For tg it b [] pos) (cO di t d):=by
 intro g D' E U H Hm F D hx R h nx rt;obtain⟨wi,hpi,hw⟩:=hi;obtain⟨G,g1,g2⟩:=vI hc hN TX ht;refine WS.of (M8 hp hc hpi g1 iW hs) (hw g D'.xc E U H Hm F _ _ hx R h λE1 xs J H1 Hm1 F1 p1 R1 s1 it1=>?_);obtain⟨I,i0,step,fin⟩:=p1;refine⟨λi m τ H'=>m=xs.length-i/\i<=xs.length/\∃E' σ' Hm' F',I i E'/\Rl X.K g E' σ' H' Hm' F'/\ah Hm1 Hm'/\τ=sel (aS X) σ',⟨xs.length,by simp,S3 _,E1,U,Hm1,F1,i0,R1,ah.refl _,rfl⟩,?_⟩;rintro i m τ H2⟨rfl,hi,E2,σ2,Hm2,F2,i2,R2,s2,rfl⟩;obtain⟨go,stop⟩:=it1 i H2 Hm2 s2 R2.sub;by_cases c:i<xs.length;{obtain⟨go,qA⟩:=go xs[i] (RS c);refine .inr ⟨go,λτ H'=>i+1<=xs.length/\∃E' σ' Hm' F',I (i+1) E'/\Rl X.K g E' σ' H' Hm' F'/\ah Hm1 Hm'/\τ=sel (aS X) σ',λτ H' z=>⟨xs.length-(i+1),by lia,rfl,z⟩,λx H3 y=>?_⟩;obtain⟨Hm3,t1,t2,t3,old,r⟩:=qA x H3 y;have R3:=R2.turn t1 t2 t3 old;obtain⟨E4,e4,p4⟩:=step i xs[i] E2 (RS c) i2;refine g2 e4 r R3 λσ4 F4 R4 _=>?_;exact hb g { D' with nx:=I (i+1) } E4 σ4 H3 Hm3 F4 _ hx R4 p4 (λE5 σ5 H5 Hm5 F5 p5 R5 s5=>⟨c,E5,σ5,Hm5,F5,p5,R5,s2.trans (t1.trans s5),rfl⟩) rt};have e:i=xs.length:=by lia
 subst e;exact .inl ⟨stop (RB _),nx _ _ _ _ _ (fin E2 i2) R2 (s1.trans s2)⟩
end
end Dv
namespace L2
open PySem PySem.Spec PyProof.Rows
noncomputable def iT (elt:Expr)(gens:Vs)(scope:Scope)(pos:Pos) (k:Nat)(acc:Value)(env:Env)(fin:Sem Fin):Sem Fin:=match gens[k]? with
 |some g'=>do
  let x <-eval g'.iter env
  standAt g'.iter.pos
  let x <-foldedSetIterable g'.iter env x
  let y <-holding [x] (pyIter x)
  let _ <-runOwn (.compStart (.ListComp elt gens scope pos) k y acc env) env
  fin
 |none=>do
  (do let _ <-call (.builtin "list.append") [acc,<-eval elt env])
  fin
def compTurn_gen{k:Nat}(hk:gens[k]?=some ⟨tg,iter,ifs,0⟩)(ha:∀g∈gens,g.is_async=0)(it acc:Value)(env:Env) :
  compTurn (.ListComp elt gens scope pos) k it acc env=(do
   standAt iter.pos
   match <-pyNext it with
   |none=>pure (.done .next)
   |some v=>
    letOwnedTupleGo tg it v
    assign tg env v
    let mut ok:=true
    for c in ifs do
     if ok then ok <-isTrue c env (eval c env)
    if ok then iT elt gens scope pos (k+1) acc env (again (.compLoop (.ListComp elt gens scope pos) k it acc env))
    else again (.compLoop (.ListComp elt gens scope pos) k it acc env)):=by
 unfold compTurn iT;simp only[hk];cases h:gens[k+1]? with
 |none=>rfl
 |some g'=>have e:=ha g' (Rj h);obtain⟨t,i,f,a⟩:=g';dsimp only at e;subst e;rfl
section
variable{prog:Program}{w:World}{A:Around}{R:Result->Shared->Prop}{s:Shared}{elt tg iter:Expr}{gens:Vs}{ifs:WK}{scope:Scope}{pos:Pos}{k:Nat}
def BB(hk:gens[k]?=some ⟨tg,iter,ifs,0⟩)(ha:∀g∈gens,g.is_async=0)(I:Nat->Shared->Prop)(turn:∀n s,I n s->wpAny (model prog w) A (pyNext it) (λr s1=>match r with
   |none=>R (.ok .next) s1
   |some v=>wpAny (model prog w) A (letOwnedTupleGo tg it v) (λ_ s0=>wpAny (model prog w) A (assign tg env v) (λ_ s2=>wpAny (model prog w) A (forIn ifs true λc r=>if r=true then do let ok <-isTrue c env (eval c env);pure (ForInStep.yield ok)else pure (ForInStep.yield r)) (λok s3=>
      if ok=true then ∀(fin:Sem Fin)(Qf:Fin->Shared->Prop),(∀s5,(∃m,m<n/\I m s5)->wpAny (model prog w) A fin Qf (nQ prog w A env R) s5)->wpAny (model prog w) A (iT elt gens scope pos (k+1) acc env fin) Qf (nQ prog w A env R) s3
      else ∃m,m<n/\I m s3) (nQ prog w A env R) s2) (nQ prog w A env R) s0) (nQ prog w A env R) s1) (nQ prog w A env R) s)
  (n:Nat)(h:I n s):codeAny (model prog w) A (.compLoop (.ListComp elt gens scope pos) k it acc env) R s:=by
 refine codeAny_loop rfl I (λn s hI=>?_) n h
 refine(wpAny_noted (?_:_):wpAny _ A ((compTurn (.ListComp elt gens scope pos) k it acc env).onRaise (λx=>do noteFrame x env;theTreesLotGoes x)) _ _ s)
 rw[compTurn_gen hk ha];refine Q9 (wpAny_standAt (Q9 (SO (turn n s hI) (λr s1 h1=>?_) λ_ _ z=>z)))
 cases r with
 |none=>exact RD h1
 |some v=>
  refine Q9 (SO h1 (λ_ s0 h0=>Q9 (SO h0 (λ_ s2 h2=>Q9 (SO h2 (λok s3 h3=>?_) λ_ _ z=>z)) λ_ _ z=>z)) λ_ _ z=>z)
  cases ok with
  |false=>exact RD ⟨rfl,h3⟩
  |true=>exact h3 _ _ λs5 h5=>RD ⟨rfl,h5⟩
end
noncomputable def l6 (N:WQ)(fs scope:Scope)(vs NB:WQ)(ix:WN):Bool:=
 decide (scope.kind=.function)&&scope.names.all (λy=>decide (y.2≠.cell))&&scope.names.all (λy=>decide (y.2≠.local)||decide (scope.names.lookup y.1=some .local)) &&
 scope.names.all (λy=>decide (y.2≠.free)||(decide (fs.names.lookup y.1=some .cell)||decide (fs.names.lookup y.1=some .free))) &&
 decide (NB=vs++ix.map λi=>N.getD i "")&&decide NB.Nodup&&ix.all λi=>match N[i]? with|some y=>decide (scope.names.lookup y=some .free)|none=>false
structure cE(X:Cx)(scope:Scope)(vs NB:WQ)(ix:WN):Prop where
 kind:scope.kind=.function
 cell:∀y∈scope.names,y.2≠.cell
 names:∀y∈scope.names,y.2=.local->scope.names.lookup y.1=some .local
 free:∀y,(y,NameKind.free)∈scope.names->(X.env.kindOf y=some .cell\/X.env.kindOf y=some .free)
 nb:NB=vs++ix.map λi=>X.N.getD i ""
 nd:NB.Nodup
 cap:∀i∈ix,∃y,X.N[i]?=some y/\scope.names.lookup y=some .free
def cE.of(h:l6 N fs scope vs NB ix=true)(hN:X.N=N:=by rfl)(hf:X.env.scope=fs:=by rfl):cE X scope vs NB ix:=by
 subst hN hf;unfold l6 at h;simp only[RJ]at h;obtain⟨⟨⟨⟨⟨⟨h1,h2⟩,h3⟩,h4⟩,h6⟩,h7⟩,h8⟩:=h;refine⟨SY h1,λy hy=>SY (RX.mp h2 y hy),λy hy e=>?_,λy hy=>?_,SY h6,SY h7,λi hi=>?_⟩;{have z:=RX.mp h3 y hy;rw[Bool.or_eq_true]at z;rcases z with z|z;{exact absurd e (SY z)};exact SY z};{have z:=RX.mp h4 _ hy;rw[Bool.or_eq_true,Bool.or_eq_true]at z;rcases z with z|z|z;{exact absurd rfl (SY z)};{exact .inl (SY z)};exact .inr (SY z)};have z:=RX.mp h8 i hi;cases e:X.N[i]? with
 |none=>rw[e]at z;cases z
 |some y=>rw[e]at z;exact⟨y,rfl,SY z⟩
section
variable{X:Cx}{scope:Scope}{vs:WQ}{NB:WQ}{ix:WN}{pins:Vu}{U:St}{H2:Hp}{s2:Shared}{fp:WI}
def cE.clos(B:cE X scope vs NB ix)(I2:Inv X pins U H2 s2):closureFor scope X.env=pure (d7 X.env.cells scope.names []):=
 rQ λn hn=>I2.ok.has n (B.free n hn)
def cE.look(B:cE X scope vs NB ix)(I2:Inv X pins U H2 s2){c:Addr}(h:(d7 X.env.cells scope.names []).lookup y=some c):X.env.cells.lookup y=some c:=by rcases qj _ _ h with⟨m,e⟩|e;{obtain⟨c',hc⟩:=I2.ok.has y (B.free y m);rw[hc]at e⊢;exact congrArg some e};cases e
def Dq(B:cE X scope vs NB ix)(I2:Inv X pins U H2 s2){C:Addr}(hC:s2.heap.objs.size<=C)(f2:∀b∈fp,iK X pins H2 b)(ft:∀b∈fp,b<s2.heap.objs.size):(X.block scope C NB s2 H2 fp).Ok where
 mod:=I2.ok.mod
 kind:=B.kind
 glob:=I2.ok.glob
 blt:=I2.ok.blt
 above:=hC
 inj:=λa b c h1 h2=>I2.ok.inj a b c (B.look I2 h1) (B.look I2 h2)
 has:=λy hy=>by
  have key:∀k,(relabel scope X.env).names.lookup y=some k->(k=.cell\/k=.free)->∃c,(d7 X.env.cells scope.names []).lookup y=some c:=λk hk kk=>by
   rcases x6 (names:=scope.names) hk with e|⟨e,_⟩
   .rcases kk with rfl|rfl
    .exact absurd rfl (B.cell _ (iY e))
    .exact jK _ _ (.inl (iY e))
   .exact jK _ _ (.inl (iY e))
  rcases hy with e|e
  .exact key _ e (.inl rfl)
  .exact key _ e (.inr rfl)
 HA:=λ_ _ z=>by cases z
 hd:=I2.ok.hd
 frames:=I2.ok.frames
 stk:=.inl rfl
 Qs:=λb hb=>⟨Rc (Rn (ft b hb) hC),λy c e=>(f2 b hb).2.2.2.2.1 y c (B.look I2 e)⟩
 bs:=I2.bs
 Ah:=Ri I2.ok.Ah I2.sz
 AE:=λb o e hb=>by
  rcases(f2 b hb).2.2.2.1 with z|z
  .exact I2.ok.AE b o e z
  .exact absurd (Rn (RL (I2.ok.bs b o e).1) z) (S7 _)
 FZ:=λb hb z=>by
  rcases RP.mp (I2.oU b z)with e|e
  .exact(f2 b hb).2.1 e
  .exact(f2 b hb).2.2.1 e
 lC:=I2.stack
 Dj:=I2.ux
def AY(B:cE X scope vs NB ix)(I2:Inv X pins U H2 s2){C D:Addr}{tk:Nat}(hC:s2.heap.objs.size<=C)(hD:s2.heap.objs.size<=D)(hDC:D≠C)(f2:∀b∈fp,iK X pins H2 b)(ft:∀b∈fp,b<s2.heap.objs.size)(old:∀b o,s2.heap.get? b=some o->h1.get? b=some o)(hn:h1.Ns C m)(ho:h1.get? D=some oD)(hcl:∀v,oD.data≠.cell v) : Inv (X.block scope C NB s2 H2 fp) [(D,oD)] (List.replicate vs.length none++caps ix U) H2 { s2 with heap:=h1,toks:=tk } where
 ok:=Dq B I2 hC f2 ft
 os:=rfl
 bare:=I2.bare
 base:=Un.kept old
 loc:=by
  refine⟨m,hn,λi y v e1 e2 _=>?_⟩
  have e1:NB[i]?=some y:=e1
  by_cases li:i<vs.length
  .rw[U4 (by rw[SR];exact li),UM,if_pos li]at e2
   cases e2
  .obtain⟨j,rfl⟩:∃j,i=vs.length+j:=⟨i-vs.length,by lia⟩
   have e2:(caps ix U)[j]?=some (some v):=by
    rw[UL (by rw[SR];lia),SR,U8]at e2
    exact e2
   rw[B.nb]at e1;have e1:(ix.map λi=>X.N.getD i "")[j]?=some y:=by
    rw[UL (by lia),U8]at e1
    exact e1
   rw[RO]at e1;unfold caps at e2;rw[RO]at e2;cases q:ix[j]? with
   |none=>rw[q]at e1;cases e1
   |some i=>
    rw[q]at e1 e2;obtain⟨z,hz,fz⟩:=B.cap i (Rj q);have ey:y=z:=by
     have w:X.N.getD i ""=y:=Option.some.inj e1;rw[<-w,RV,hz];rfl
    subst ey;have e2:(U[i]?).join=some v:=Option.some.inj e2;have es:U[i]?=some (some v):=by
     cases w:U[i]? with
     |none=>rw[w]at e2;cases e2
     |some o=>rw[w]at e2;exact congrArg some e2
    have fk:=B.free y (iY fz);have vis:kK X.env.scope y:=.inr fk;obtain⟨mm,_,hl⟩:=I2.loc;obtain⟨u,ru,lk⟩:=hl i y v hz es vis;refine⟨u,ru,.inr ⟨?_,?_⟩⟩
    .rcases rH (env:=X.env) (names:=scope.names) fz with e|⟨_,e⟩
     .exact .inr e
     .exact .inl e
    .rcases lk with⟨lk,_⟩|⟨_,c,hc,hcell⟩
     .rcases fk with fk|fk
      .rw[lk]at fk;cases fk
      .rw[lk]at fk;cases fk
     .obtain⟨c',hc'⟩:=jK (cells:=X.env.cells) scope.names [] (.inl (iY fz));have e3:=B.look I2 hc';rw[hc]at e3;cases e3;obtain⟨oc,g1,g2⟩:=hcell;exact⟨c,hc',oc,old _ _ g1,g2⟩
 cell:=λy c e=>by
  obtain⟨v,o,g1,g2⟩:=I2.cell y c (B.look I2 e);exact⟨v,o,old _ _ g1,g2⟩
 free:=I2.hok.fresh hC
 jJ:=λy c e=>I2.jJ y c (B.look I2 e)
 pin:=λp hp=>by
  have e:p=(D,oD):=by simpa[Cx.block]using hp
  subst e;refine⟨ho,I2.hok.fresh hD,hDC,λz=>?_,hcl⟩
  rcases RP.mp (I2.oU D z)with e|e
  .have e:D=X.env.locals:=e;exact absurd (Rn I2.lt (e▸hD)) (S7 _)
  .exact I2.Na hD e
 hok:=I2.hok.kept old
 len:=by
  show(List.replicate vs.length none++caps ix U).length=NB.length;rw[B.nb,RM,RM,GI,RA,SR]
end
noncomputable abbrev TL:=List V->St->Hp->(List V->St->Hp->Prop)->Prop
noncomputable def PL (X:Cx)(D:Addr)(elt:Expr)(gens:Vs)(scope:Scope)(pos:Pos) (k:Nat)(t:TL):Prop:=
 X.s₀.heap.objs.size<=D->(∀y c,X.env.cells.lookup y=some c->c≠D)->(∀e s',X.xe e s'->False)->
 ∀(pins:Vu)(s:Shared)(U:St)(H:Hp)(ys:List V)(its:WH) (nn:Nat)(Q:List V->St->Hp->Prop)(fin:Sem Fin)(Qf:Fin->Shared->Prop)(E:Vr),
  (∀p∈X.pn++pins,p.1≠D)->Inv X ((D,ig its nn)::pins) U H s->Vals ys its->ys.length<=sizeLine->t ys U H Q->
  (∀s' ys' its' nn' σ' H',Inv X ((D,ig its' nn')::pins) σ' H' s'->Vals ys' its'->ys'.length<=sizeLine->Q ys' σ' H'->wpAny (model X.prog X.w) X.A fin Qf E s')->
  wpAny (model X.prog X.w) X.A (iT elt gens scope pos k (.ref D) X.env fin) Qf E s
noncomputable def Il (te:TE):TL:=λys U H Q=>te U H λv H1=>ys.length<sizeLine/\Q (ys++[v]) U H1
noncomputable def Gg (J:It)(g:TG)(tt:TT)(tr:TL)(ys0:List V)(σ0:St)(H1:Hp)(Q:List V->St->Hp->Prop):Prop:=
 ∃W:Nat->Nat->List V->St->Hp->Prop,(∃m,W 0 m ys0 σ0 H1)/\∀i m ys U H,W i m ys U H->
  (J.stop i H/\Q ys U H)\/(J.go i H/\∃N:List V->St->Hp->Prop,(∀ys' σ' H',N ys' σ' H'->∃m',m'<m/\W (i+1) m' ys' σ' H') /\
   ∀x H',J.qA i H x H'->g x U H' λσ2 H2=>tt σ2 H2 λb H3=>if b=true then tr ys σ2 H3 N else N ys σ2 H3)
section
variable{X:Cx}{D:Addr}{elt tg iter:Expr}{gens:Vs}{ifs:WK}{scope:Scope}{pos:Pos}{k:Nat}
def Aq(he:PE X elt te)(hk:gens[k]?=none:=by rfl):PL X D elt gens scope pos k (Il te):=by
 intro hD hc hx pins s U H ys its nn Q fin Qf E hp I rv hz h hf;unfold iT;rw[hk];refine Q9 (Q9 (SO (he _ s U H _ I h) (λy s8 ⟨yv,H8,I8,r8,hlt,n8⟩=>Q9 ?_) λe s' z=>(hx e s' z).elim));have pD:=I8.pin (D,ig its nn) (SD _ RC);refine append_at (hsz:=by rw[RQ,<-rv.length];exact hz) pD.1 λh9 hs9 hD9=>RD ?_;have I8n:Inv X pins U H8 s8:=I8.mC λp hp'=>I8.pin p (SD _ (RK _ hp'));have I9:=I8n.turned (h':=h9) (t':=s8.toks) (it:=D) (λb o hb e=>hs9.extBut b o hb e) pD.2.1 pD.2.2.1 (.inr hD) hc hp;have e9:ig (its++[y]) (nn+1)={ cls:=.type "list",data:=.seq (its.toArray.push y) (nn+1) }:=by show({ cls:=.type "list",data:=.seq (its++[y]).toArray (nn+1) }:Obj)=_;rw[List.push_toArray]
 have I10:Inv X ((D,ig (its++[y]) (nn+1))::pins) U H8 { s8 with heap:=h9 }:=by refine I9.mC λp hp'=>?_;rcases RP.mp hp' with rfl|hp';{exact⟨hD9.trans (congrArg some e9.symm),pD.2.1,pD.2.2.1,pD.2.2.2.1,λv q=>by cases q⟩};exact I9.pin p (SD _ hp')
 exact hf _ (ys++[yv]) (its++[y]) (nn+1) U H8 I10 (Vals.append rv (.cons r8 .nil)) (by rw[RM];exact hlt) n8
end
section
variable{X:Cx}{scope:Scope}{vs:WQ}{NB:WQ}{ix:WN}
noncomputable def sf (wi:TI) (n:Nat)(ix:WN)(g:TG)(tt:TT)(tr:TL):TE:=λU H Q=>wi U H λJ H1=>Gg J g tt tr [] (List.replicate n none++caps ix U) H1 λys _ H'=>∀p,H' p=none->Q (.ref p) (upd H' p (.lst ys))
def sR{elt tg iter:Expr}{ifs:WK}{rest:Vs}{pos:Pos}{g:TG}{tt:TT}{tr:TL}{J:It}{it:Addr}{tn:Nat->Heap->Prop}{fp:WI}{pins:Vu}{U:St}{H2:Hp}{s2:Shared}{E:Vr}{RR:Value->Addr->Result->Shared->Prop}{Qr:VK}(B:cE X scope vs NB ix)(hc:X.calm=true)(hg:∀(C:Addr)(s:Shared)(H:Hp)(fp:WI),PG (X.block scope C NB s H fp) tg g)(ht:∀(C:Addr)(s:Shared)(H:Hp)(fp:WI),uS (X.block scope C NB s H fp) ifs tt)(hr:∀(C:Addr)(s:Shared)(H:Hp)(fp:WI)(D:Addr),PL (X.block scope C NB s H fp) D elt (⟨tg,iter,ifs,0⟩::rest) scope pos 1 tr)(ha:∀g∈rest,g.is_async=0)(I2:Inv X pins U H2 s2)(T:Turn X.prog X.w X.K tg J fp it tn)(st2:tn 0 s2.heap)(f2:∀b∈fp,iK X pins H2 b)(h:Gg J g tt tr [] (List.replicate vs.length none++caps ix U) H2 λys _ H'=>∀p,H' p=none->Qr (.ref p) (upd H' p (.lst ys)))(hRR:∀(D C:Addr)(Hf:Hp)(s':Shared)(m':Vt),Inv X pins U Hf s'->s'.heap.Ns C m'->iK X pins Hf C->Qr (.ref D) Hf->RR (.ref D) C (.ok .next) s') : wpAny (model X.prog X.w) X.A (newList []) (λacc s3=>wpAny (model X.prog X.w) X.A (newFunctionEnv scope X.env.globals (d7 X.env.cells scope.names []) [] X.env.qual none .none (some X.env)) (λcenv s4=> codeAny (model X.prog X.w) X.A (.compStart (.ListComp elt (⟨tg,iter,ifs,0⟩::rest) scope pos) 0 (.ref it) acc { cenv with scope:=relabel scope X.env }) (RR acc cenv.locals) s4) E s3) E s2:=by
 obtain⟨W,⟨m0,w0⟩,turn⟩:=h;have ha':∀g∈(⟨tg,iter,ifs,0⟩:Comprehension)::rest,g.is_async=0:=λg hg=>by rcases RP.mp hg with rfl|hg;{rfl};exact ha g hg
 refine Sl (wpAny_newFunctionEnv B.cell (by intro y hy;simp at hy) (λh1 hns hsb=>?_) B.kind);dsimp only at hns hsb⊢;generalize eG:s2.heap.push { cls:=.type "list",dict:=none,data:=.seq ([]:WH).toArray }=G at hns hsb⊢;have hC:G.objs.size=s2.heap.objs.size+1:=by rw[<-eG,Heap.size_push]
 have hDC:s2.heap.objs.size≠G.objs.size:=by rw[hC];exact Rc (UX _)
 have hCle:s2.heap.objs.size<=G.objs.size:=by rw[hC];exact Nat.le_succ _
 have old:∀b o,s2.heap.get? b=some o->h1.get? b=some o:=λb o e=>by have lt:=RL e;exact hsb.extBut b o (Rc (Rn lt hCle)) (Ra _ (eG▸Ra _ e))
 have hacc:h1.get? s2.heap.objs.size=some (ig [] 0):=hsb.extBut _ _ hDC (Ra _ (eG▸Rx _ rfl));have ft:∀b∈fp,b<s2.heap.objs.size:=λb hb=>by obtain⟨o,e,_⟩:=T.obj _ _ st2 b hb;exact RL e
 have cD:∀y c,(X.block scope G.objs.size NB s2 H2 fp).env.cells.lookup y=some c->c≠s2.heap.objs.size:=λy c e z=>by obtain⟨w,q⟩:=I2.cell y c (B.look I2 e);exact S7 _ (z▸q.lt)
 have loop:∀s3:Shared,s3={ s2 with heap:=h1,toks:=s2.toks+([]:List (Str×Value)).length }->
   codeAny (model X.prog X.w) X.A (.compLoop (.ListComp elt (⟨tg,iter,ifs,0⟩::rest) scope pos) 0 (.ref it) (.ref s2.heap.objs.size) (compEnvC scope (d7 X.env.cells scope.names []) G.objs.size X.env))
    (RR (.ref s2.heap.objs.size) G.objs.size) s3:=by
  rintro s3 rfl;have I3:=AY (tk:=s2.toks+([]:List (Str×Value)).length) B I2 hCle (RB _) hDC f2 ft old hns hacc (λv q=>by cases q)
  have st3:tn 0 h1:=T.keep _ _ _ st2 λb _ o e=>old b o e
  have fy:∀{H':Hp}{oD:Obj},(∀b∈fp,H' b=none)->∀b∈fp,iK (X.block scope G.objs.size NB s2 H2 fp) [(s2.heap.objs.size,oD)] H' b:=λ{H' oD} hn b hb=>by
   refine⟨hn b hb,Rc (Rn (ft b hb) hCle),λz=>?_,.inl hb,λy c e=>(f2 b hb).2.2.2.2.1 y c (B.look I2 e),λp hp=>?_⟩;{rcases RP.mp (I2.oU b z)with e|e;{exact(f2 b hb).2.1 e};exact(f2 b hb).2.2.1 e};have e:p=(s2.heap.objs.size,oD):=by simpa[Cx.block]using hp
   subst e;exact Ne.symm (Rc (ft b hb))
  refine BB (k:=0) rfl ha' (λn s'=>∃i ys its nn σ' H',W i n ys σ' H'/\Inv (X.block scope G.objs.size NB s2 H2 fp) [(s2.heap.objs.size,ig its nn)] σ' H' s'/\tn i s'.heap/\(∀b∈fp,H' b=none)/\Vals ys its/\ys.length<=sizeLine)
   ?_ m0 ⟨0,[],[],0,_,H2,w0,I3,st3,λb hb=>(f2 b hb).1,.nil,S3 _⟩
  rintro n s'⟨i,ys,its,nn,σ',H',w',I',st',fr',rv,hz⟩;rcases turn i n ys σ' H' w' with⟨stop,q⟩|⟨go,Nx,hNx,step⟩
  .refine SO (T.done (X.block scope G.objs.size NB s2 H2 fp) rfl rfl rfl hc i _ s' _ H' (λ_ _=>False) I' (fy fr') st' stop) (λr s4 ⟨hr',I4⟩=>?_) λ_ _ z=>z.elim
   subst hr';have I5:=Et I2 f2 (RB _) I4 rv hz;obtain⟨m4,hn4,_⟩:=I4.loc;have hfree:H' s2.heap.objs.size=none:=(I4.pin (s2.heap.objs.size,ig its nn) (by show _∈[]++[(s2.heap.objs.size,ig its nn)];simp)).2.1
   have fC:iK X pins (upd H' s2.heap.objs.size (.lst ys)) G.objs.size:=I2.tQ hCle (by
    rw[aj (Ne.symm hDC)];exact I4.free)
   exact hRR _ _ _ s4 m4 I5 hn4 fC (q _ hfree)
  .refine SO (T.item (X.block scope G.objs.size NB s2 H2 fp) rfl rfl rfl hc i _ s' _ H' (λ_ _=>False) I' (fy fr') st' go) (λr s4 ⟨u,hr',h4⟩=>?_) λ_ _ z=>z.elim
   subst hr';refine SO h4 (λ_ s4 ⟨v,H5,I5,r5,y5,st5,fr5⟩=>?_) λ_ _ z=>z.elim
   have pIt:∀b∈fp,∃o,s4.heap.get? b=some o/\∀v,o.data≠.cell v:=T.obj _ _ st5;have I5':=I5.pinned (fy fr5) pIt;refine SO (hg _ _ _ _ _ s4 σ' H5 v u _ I5' r5 (step v H5 y5)) (λ_ s6 ⟨σ6,H6,I6,q6⟩=>?_) λ_ _ z=>z.elim
   refine SO (ht _ _ _ _ _ s6 σ6 H6 _ I6 q6) (λb s7 ⟨H7,I7,q7⟩=>?_) λ_ _ z=>z.elim
   have stays:∀{s9:Shared}{H9:Hp}{σ9:St}{oD:Obj},Inv (X.block scope G.objs.size NB s2 H2 fp) ((s2.heap.objs.size,oD)::j4 fp s4.heap) σ9 H9 s9->tn (i+1) s9.heap/\(∀b∈fp,H9 b=none)/\Inv (X.block scope G.objs.size NB s2 H2 fp) [(s2.heap.objs.size,oD)] σ9 H9 s9:=λ{s9 H9 σ9 oD} I9=>by
    refine⟨T.keep _ _ _ st5 λb hb o e=>(I9.pin (b,o) (SD _ (RK _ (jL hb e)))).1,λb hb=>?_,I9.mC λp hp'=>I9.pin p (SD _ ?_)⟩
    .obtain⟨o,e,d⟩:=pIt b hb;exact(I9.pin (b,o) (SD _ (RK _ (jL hb e)))).2.1
    .rw[RE.mp hp'];exact RC
   cases b with
   |false=>
    rw[if_neg RZ]at q7⊢;obtain⟨m',hm,w7⟩:=hNx _ _ _ q7;obtain⟨g1,g2,g3⟩:=stays I7;exact⟨m',hm,i+1,ys,its,nn,σ6,H7,w7,g3,g1,g2,rv,hz⟩
   |true=>
    rw[if_pos rfl]at q7⊢;intro fin' Qf' hf';refine hr _ _ _ _ s2.heap.objs.size (RB _) cD (λ_ _ z=>z) (j4 fp s4.heap) s7 σ6 H7 ys its nn Nx fin' Qf' _ (λp hp'=>?_) I7 rv hz q7 λs8 ys8 its8 nn8 σ8 H8 I8 rv8 hz8 n8=>?_
    .have hp'':p∈j4 fp s4.heap:=hp';exact Rc (ft _ (uN hp'').1)
    .obtain⟨m',hm,w8⟩:=hNx _ _ _ n8;obtain⟨g1,g2,g3⟩:=stays I8;exact hf' s8 ⟨m',hm,i+1,ys8,its8,nn8,σ8,H8,w8,g3,g1,g2,rv8,hz8⟩
 exact codeAny_compStart_list (loop _ rfl) (T.self _ 0 _ _ _ (T.keep _ _ _ st2 λb _ o e=>old b o e) (loop _ rfl))
def Gu{elt tg iter:Expr}{ifs:WK}{rest:Vs}{pos:Pos}{wi:TI}{g:TG}{tt:TT}{tr:TL}(B:cE X scope vs NB ix)(hc:X.calm=true)(hi:PI X tg iter wi)(hg:∀(C:Addr)(s:Shared)(H:Hp)(fp:WI),PG (X.block scope C NB s H fp) tg g)(ht:∀(C:Addr)(s:Shared)(H:Hp)(fp:WI),uS (X.block scope C NB s H fp) ifs tt)(hr:∀(C:Addr)(s:Shared)(H:Hp)(fp:WI)(D:Addr),PL (X.block scope C NB s H fp) D elt (⟨tg,iter,ifs,0⟩::rest) scope pos 1 tr)(ha:∀g∈rest,g.is_async=0:=by decide)(hs:∀v,foldedSetIterable iter X.env v=pure v:=by intro _;rfl):PE X (.ListComp elt (⟨tg,iter,ifs,0⟩::rest) scope pos) (sf wi vs.length ix g tt tr):=by intro pins s U H Q I h;rw[eval_ListComp];refine wpAny_comprehension_free (use:=none) rfl hs (B.clos I) B.kind B.names (aO (hi pins s U H _ I h) λv s1 h1=>aO h1 λitv s2 h2=>?_);obtain⟨it,fp,tn,J,H2,e,I2,T,st2,f2,w⟩:=h2;subst e;refine sR (Qr:=Q) (RR:=λacc C=>compPost (model X.prog X.w) X.A X.xe none (EP X pins U Q) acc C) B hc hg ht hr ha I2 T st2 f2 w λD C Hf s' m' I' hn' fC q=>?_;refine⟨m',hn',λh'' hs''=>⟨.ref D,Hf,?_,rfl,q⟩⟩;obtain⟨c0,c1,c2,c3,c4,c5⟩:=fC;exact I'.turned (it:=C) (t':=s'.toks) (λb o hb e=>hs''.extBut b o hb e) c0 c1 c3 c4 c5
def wQ{elt tg iter:Expr}{ifs:WK}{rest:Vs}{pos py spos:Pos}{wi:TI}{g:TG}{tt:TT}{tr:TL}{j:Nat}{y:Str}(hN:X.N.Nodup)(hj:X.N[j]?=some y)(hy:X.env.scope.names.lookup y=some .local)(B:cE X scope vs NB ix)(hc:X.calm=true)(hi:PI X tg iter wi)(hg:∀(C:Addr)(s:Shared)(H:Hp)(fp:WI),PG (X.block scope C NB s H fp) tg g)(ht:∀(C:Addr)(s:Shared)(H:Hp)(fp:WI),uS (X.block scope C NB s H fp) ifs tt)(hr:∀(C:Addr)(s:Shared)(H:Hp)(fp:WI)(D:Addr),PL (X.block scope C NB s H fp) D elt (⟨tg,iter,ifs,0⟩::rest) scope pos 1 tr)(hsw:swapsWith (.ListComp elt (⟨tg,iter,ifs,0⟩::rest) scope pos) (some (.Name y py)) spos.line X.env=pure true)(ha:∀g∈rest,g.is_async=0:=by decide)(hs:∀v,foldedSetIterable iter X.env v=pure v:=by intro _;rfl):PS X (.Assign [.Name y py] (.ListComp elt (⟨tg,iter,ifs,0⟩::rest) scope pos) spos) (FN (sf wi vs.length ix g tt tr) (qa j)):=by
 intro pins s U H Dn I h;rw[exec_Assign_Name_used _ _ _ _ hsw];refine Q9 (wpAny_standAt (Q9 ?_));show wpAny (model X.prog X.w) X.A (comprehension (.ListComp elt (⟨tg,iter,ifs,0⟩::rest) scope pos) scope X.env _ (newList []) false (eval iter X.env) (some (assign (.Name y py) X.env))>>=λ_=>pure ()) _ _ s;refine Q9 (aO (wpAny_comprehension_free (use:=some (assign (.Name y py) X.env)) (Q:=λ_ s'=>SP X pins Dn .next s') rfl hs (B.clos I) B.kind B.names (aO (hi pins s U H _ I h) λv s1 h1=>aO h1 λitv s2 h2=>?_)) λ_ s' q=>RD (RD q));obtain⟨it,fp,tn,J,H2,e,I2,T,st2,f2,w⟩:=h2;subst e;refine sR (Qr:=λx H1=>qa j x U H1 Dn.nx) (RR:=λacc C=>compPost (model X.prog X.w) X.A X.xe (some (assign (.Name y py) X.env)) (λ_ s'=>SP X pins Dn .next s') acc C) B hc hg ht hr ha I2 T st2 f2 w λD C Hf s' m' I' hn' fC q=>?_;obtain⟨c0,c1,c2,c3,c4,c5⟩:=fC;show wpAny (model X.prog X.w) X.A (assign (.Name y py) X.env (.ref D)) _ _ s';refine wpAny_assign_Name (u7 I' hN hj (.inl hy) (v:=.ref D) rfl (λs'' I'' ⟨a,sb,ha⟩=>?_) (.inr hy));have hCa:C≠a:=by rcases ha with e|e;{rw[e];exact c1};exact λz=>c4 y a e z.symm
 refine⟨m',hn'.sameBut sb hCa,λh3 hs3=>⟨_,Hf,?_,q⟩⟩;exact I''.turned (it:=C) (t':=s''.toks) (λb o hb e=>hs3.extBut b o hb e) c0 c1 c3 c4 c5
end
end L2
namespace Dv
open PySem L2 PySem.W
section
variable{X:Cx}{Ex:XK}{Y:WN}{tg:Expr}
def Fv{a:Addr}(h:bQ K dG a xs)(r:aA K dG xs ds):yb K (G6 K a) ds dG:=by intro i H Hm s1 s2;have q:bI K H a xs:=(bQ.mono (s1.trans s2) h).sq;refine⟨λd e=>?_,λl=>⟨xs,q,by rw[r.len];exact l⟩⟩;obtain⟨v,e1,r1⟩:=r.get e;refine⟨⟨xs,v,q,e1⟩,λx H' y=>?_⟩;obtain⟨rfl,y⟩:=y;have:=y xs q;rw[e1]at this;cases this;exact⟨Hm,ah.refl _,s2,ah.refl _,λ_ _=>.inl rfl,r1.mono s1⟩
def JT{a:Addr}(h:dG a=some (.tup xs))(r:aA K dG xs ds):yb K (HP K a) ds dG:=by intro i H Hm s1 s2;have q:bM K H a xs:=bM.of (s2 _ _ (s1 _ _ h));refine⟨λd e=>?_,λl=>⟨xs,q,by rw[r.len];exact l⟩⟩;obtain⟨v,e1,r1⟩:=r.get e;refine⟨⟨xs,v,q,e1⟩,λx H' y=>?_⟩;obtain⟨rfl,y⟩:=y;have:=y xs q;rw[e1]at this;cases this;exact⟨Hm,ah.refl _,s2,ah.refl _,λ_ _=>.inl rfl,r1.mono s1⟩
def Jb{lo:Int}{n i:Nat}(h:(jl lo n)[i]?=some d):i<n/\d=.int (lo+i):=by unfold jl at h;rw[RO]at h;by_cases c:i<n;{rw[RI c]at h;cases h;exact⟨c,rfl⟩};rw[Rb (by rw[RH];lia)]at h;cases h
def zj{lo:Int}{n:Nat}:yb K (EZ lo n) (jl lo n) dG:=by intro i H Hm s1 s2;refine⟨λd e=>?_,λl=>?_⟩;{obtain⟨l,rfl⟩:=Jb e;refine⟨l,λx H' y=>?_⟩;obtain⟨rfl,rfl⟩:=y;exact⟨Hm,ah.refl _,s2,ah.refl _,λ_ _=>.inl rfl,.int _⟩};unfold jl at l;rw[RA,RH]at l;exact l
def wc{T:Addr}(s:ah Hm H)(hT:H T=none)(r1:Rp K Hm x a)(r2:Rp K Hm y b):∃Hm',ah Hm Hm'/\ah Hm' (upd H T (.tup [x,y]))/\ah H (upd H T (.tup [x,y]))/\(∀a,H a≠none->OE (Hm' a) (Hm a))/\Rp K Hm' (.ref T) (.tuple [a,b]):=by have n:=gg s hT;have s2:=bY (o:=.tup [x,y]) n;refine⟨upd Hm T (.tup [x,y]),s2,λb o e=>?_,bY hT,λa ha=>.inl (aj λz=>ha (z▸hT)),.tup aC (.cons (r1.mono s2) (.cons (r2.mono s2) .nil))⟩;by_cases c:b=T;{rw[c,aC]at e⊢;exact e};rw[aj c]at e⊢;exact s _ _ e
def DN{i:Nat}(h:(iC ds)[i]?=some d):∃e,ds[i]?=some e/\d=.tuple [.int i,e]:=by
 unfold iC at h;rw[RO,Uv]at h;cases e:ds[i]? with
 |none=>rw[e]at h;cases h
 |some a=>rw[e]at h;simp at h;exact⟨a,rfl,h.symm⟩
def Eh(ds:WC):(iC ds).length=ds.length:=by unfold iC;rw[RA,List.length_zipIdx]
def FG{a:Addr}(h:bQ K dG a xs)(r:aA K dG xs ds):yb K (LC K a) (iC ds) dG:=by intro i H Hm s1 s2;have q:bI K H a xs:=(bQ.mono (s1.trans s2) h).sq;refine⟨λd e=>?_,λl=>⟨xs,q,by rw[r.len,<-Eh];exact l⟩⟩;obtain⟨d0,e0,rfl⟩:=DN e;obtain⟨v,e1,r1⟩:=r.get e0;refine⟨⟨xs,v,q,e1⟩,λx H' y=>?_⟩;obtain⟨T,hT,rfl,y⟩:=y;obtain⟨x',e2,rfl⟩:=y xs q;rw[e1]at e2;cases e2;exact wc s2 hT (.int _) (r1.mono s1)
open PyProof.Rows in
def Jq{a:Addr}(I:Inv X pins U H s)(hq:bI X.K H a xs)(q:R (G6 X.K a) H):wpAny (model X.prog X.w) X.A (pyIter (.ref a)) (Ih X pins U tg R) E s:=by
 obtain⟨its,rv,p,hz⟩:=I.list hq;refine wpAny_pyIter_list p.isList ?_;refine⟨s.heap.objs.size,[s.heap.objs.size],_,_,H,rfl,I.kept (t':=s.toks) λb o e=>Ra _ e,Dp a _,⟨_,Rx _ rfl,rfl,rfl⟩,λb hb=>?_,q⟩;have e:b=s.heap.objs.size:=by simpa using hb
 subst e;exact I.tQ (RB _) (I.hok.fresh (RB _))
open PyProof.Rows in
def Kh{a:Addr}(I:Inv X pins U H s)(hq:bM X.K H a xs)(q:R (HP X.K a) H):wpAny (model X.prog X.w) X.A (pyIter (.ref a)) (Ih X pins U tg R) E s:=by
 obtain⟨its,rv,p,hz⟩:=I.tuple hq;refine wpAny_pyIter_tuple (show s.heap.IsTuple a its.toArray from p) ?_;refine⟨s.heap.objs.size,[s.heap.objs.size],_,_,H,rfl,I.kept (t':=s.toks) λb o e=>Ra _ e,BL a _,⟨_,Rx _ rfl,rfl,rfl⟩,λb hb=>?_,q⟩;have e:b=s.heap.objs.size:=by simpa using hb
 subst e;exact I.tQ (RB _) (I.hok.fresh (RB _))
def fm(h:SE X Ex Y e d):SI X Ex Y tg e (iE d):=by
 rw[Ow];refine⟨λU H R=>WE X e U H λx H1=>(∃a,x=.ref a/\(∃xs,bI X.K H1 a xs)/\R (G6 X.K a) H1)\/∃a,x=.ref a/\(∃xs,bM X.K H1 a xs)/\R (HP X.K a) H1,?_,?_⟩;{intro pins s U H R I h;refine aO (h pins s I) λv s1 ⟨x,H1,I1,r1,q1⟩=>?_;rcases q1 with⟨a,rfl,⟨xs,hq⟩,q⟩|⟨a,rfl,⟨xs,hq⟩,q⟩;{cases r1;exact Jq I1 hq q};cases r1;exact Kh I1 hq q};intro g x E U H Hm F P R hx Rl p q;refine h g x E U H Hm F _ _ hx Rl p λE' k v u H' Hm' F' fp p' R' s' T=>?_;obtain⟨hk,ds,e1,p'⟩:=p';obtain⟨Hm2,s2,R2,r2⟩:=T.dW R' hk;cases r2 with
 |lst a r=>cases e1;exact .inl ⟨_,rfl,⟨_,(bQ.mono R2.sub a).sq⟩,q _ _ _ _ _ _ p' R2 (s'.trans s2) (Fv a r)⟩
 |tup a r=>cases e1;exact .inr ⟨_,rfl,⟨_,bM.of (R2.sub _ _ a)⟩,q _ _ _ _ _ _ p' R2 (s'.trans s2) (JT a r)⟩
 |_=>cases e1
noncomputable def gY:WC->Option (WC)
 |[.int j]=>@ite _ (-(2^62)<=j/\j<2^62) (Classical.propDecidable _) (some (jl 0 j.toNat)) none
 |_=>none
noncomputable def zX:WC->Option (WC)
 |[.int i,.int j]=>@ite _ (-(2^62)<=i/\i<2^62/\-(2^62)<=j/\j<2^62) (Classical.propDecidable _) (some (jl i (j-i).toNat)) none
 |_=>none
def xm{g:Gh}{U:St}{E:En}{H Hm:Hp}{F:Nat->WI}{as:List Arg}{os:List (Option PyData)}{vs:List V}{ds:WC}{K:Frag}(R:Rl K g E U H Hm F)(G:Got K U Hm as os vs)(h:fill as E os=some ds):aA K H vs ds:=mz R R.sub G h λ_ _ _ _=>rfl
def Ot(hg:Gl X "range")(hm:X.mg "range"=none)(ns:noStar a=true)(S:aN X Ex Y [a] as):SI X Ex Y tg (.Call (.Name "range" p) [a] [] pos) (fD gY as):=by refine⟨_,Dy hg hm (dP (es:=[a]) (by rw[RN,ns];rfl)) (aU ns),λg x E U H Hm F P R hx Rl p q=>?_⟩;refine jd hx S Rl p λE1 os vs H1 Hm1 F1 p1 R1 s1 G=>?_;replace p1:ay (cj as E1 os) _:=p1;rw[<-bf,dS]at p1;obtain⟨ds,hf,p1⟩:=p1;rw[<-bf]at p1;obtain⟨xs,hg',p1⟩:=p1;have r:=xm R1 G hf;unfold gY at hg';split at hg';{rename_i j;obtain⟨v,rfl,r1⟩:=dg r;cases r1;split at hg';{rename_i c;cases hg';exact⟨j,rfl,c.1,c.2,q _ _ _ _ _ _ p1 R1 s1 zj⟩};cases hg'};cases hg'
def NO(hg:Gl X "range")(hm:X.mg "range"=none)(ns:noStar a=true)(ns2:noStar b=true)(S:aN X Ex Y [a,b] as):SI X Ex Y tg (.Call (.Name "range" p) [a,b] [] pos) (fD zX as):=by refine⟨_,Dk hg hm (dP (es:=[a,b]) (by rw[RN,RN,ns,ns2];rfl)) ((aU ns).trans (by rw[aU ns2];rfl)) (aU ns2),λg x E U H Hm F P R hx Rl p q=>?_⟩;refine jd hx S Rl p λE1 os vs H1 Hm1 F1 p1 R1 s1 G=>?_;replace p1:ay (cj as E1 os) _:=p1;rw[<-bf,dS]at p1;obtain⟨ds,hf,p1⟩:=p1;rw[<-bf]at p1;obtain⟨xs,hg',p1⟩:=p1;have r:=xm R1 G hf;unfold zX at hg';split at hg';{rename_i i j;obtain⟨v,w,rfl,r1,r2⟩:=fL r;cases r1;cases r2;split at hg';{rename_i c;cases hg';exact⟨i,j,rfl,c,q _ _ _ _ _ _ p1 R1 s1 zj⟩};cases hg'};cases hg'
def NR{x1:Nat}(hg:Gl X "enumerate")(hm:X.mg "enumerate"=none)(ns:noStar e=true)(h:SE X Ex Y e d):SI X Ex Y (.Tuple elts x1 tp) (.Call (.Name "enumerate" p) [e] [] pos) (sG d):=by rw[MI];refine⟨_,IK hg hm (dP (es:=[e]) (by rw[RN,ns];rfl)) (aU ns),λg x E U H Hm F P R hx Rl p q=>?_⟩;refine h g x E U H Hm F _ _ hx Rl p λE' k v u H' Hm' F' fp p' R' s' T=>?_;obtain⟨hk,ds,rfl,p'⟩:=p';obtain⟨Hm2,s2,R2,r2⟩:=T.dW R' hk;obtain⟨a,xs,rfl,ha,r⟩:=fP r2;exact⟨a,rfl,⟨xs,(bQ.mono R2.sub ha).sq⟩,q _ _ _ _ _ _ p' R2 (s'.trans s2) (FG ha r)⟩
def GJ{ds es:WC}{i:Nat}(h:((ds.zip es).map λp=>PyData.tuple [p.1,p.2])[i]?=some d):∃a b,ds[i]?=some a/\es[i]?=some b/\d=.tuple [a,b]:=by
 rw[RO]at h;cases e:(ds.zip es)[i]? with
 |none=>rw[e]at h;cases h
 |some p=>rw[e]at h;cases h;obtain⟨h1,h2⟩:=List.getElem?_zip_eq_some.mp e;exact⟨_,_,h1,h2,rfl⟩
def JQ{a b:Addr}{ds:WC}(h:bQ K dG a xs)(h2:bQ K dG b ys)(r:aA K dG xs ds)(r2:aA K dG ys es):yb K (Ly K a b) ((ds.zip es).map λp=>.tuple [p.1,p.2]) dG:=by intro i H Hm s1 s2;have q:bI K H a xs:=(bQ.mono (s1.trans s2) h).sq;have q2:bI K H b ys:=(bQ.mono (s1.trans s2) h2).sq;refine⟨λd e=>?_,λl=>⟨xs,ys,q,q2,?_⟩⟩;{obtain⟨d1,d2,e1,e2,rfl⟩:=GJ e;obtain⟨v1,f1,g1⟩:=r.get e1;obtain⟨v2,f2,g2⟩:=r2.get e2;refine⟨⟨xs,ys,v1,v2,q,q2,f1,f2⟩,λx H' y=>?_⟩;obtain⟨T,hT,rfl,y⟩:=y;obtain⟨x1,z1,hx,hz2,rfl⟩:=y xs ys q q2;rw[f1]at hx;cases hx;rw[f2]at hz2;cases hz2;exact wc s2 hT (g1.mono s1) (g2.mono s1)};rw[RA,List.length_zip]at l;have:=r.len;have:=r2.len;lia
def Nm{x1:Nat}(hg:Gl X "zip")(hm:X.mg "zip"=none)(ns:noStar e1=true)(ns2:noStar e2=true)(h1:SE X Ex Y e1 d1)(h2:SE X Ex Y e2 d2):SI X Ex Y (.Tuple elts x1 tp) (.Call (.Name "zip" p) [e1,e2] [] pos) (Ck d1 d2):=by refine⟨_,MO hg hm (dP (es:=[e1,e2]) (by rw[RN,RN,ns,ns2];rfl)) ((aU ns).trans (by rw[aU ns2];rfl)) (aU ns2),λg x E U H Hm F P R hx Rl p q=>?_⟩;refine h1 g x E U H Hm F _ _ hx Rl p λE1 k v u H1 Hm1 F1 fp p1 R1 s1 T=>?_;replace p1:bK k.fz _:=p1;rw[dJ]at p1;obtain⟨hk,p1⟩:=p1;obtain⟨Hm2,s2,R2,r2⟩:=T.dW R1 hk;refine h2 g x E1 U H1 Hm2 F1 _ _ hx R2 p1 λE3 k3 v3 u3 H3 Hm3 F3 fp3 p3 R3 s3 T3=>?_;replace p3:bK k3.fz _:=p3;rw[dJ,<-Bl]at p3;obtain⟨hk3,ds,rfl,p3⟩:=p3;rw[<-Bl]at p3;obtain⟨es,rfl,p3⟩:=p3;obtain⟨Hm4,s4,R4,r4⟩:=T3.dW R3 hk3;have r2':=r2.mono (s3.trans s4);obtain⟨a,xs,rfl,ha,ra⟩:=fP r2';obtain⟨b,ys,rfl,hb,rb⟩:=fP r4;exact⟨a,b,rfl,⟨xs,(bQ.mono R4.sub ha).sq⟩,⟨ys,(bQ.mono R4.sub hb).sq⟩,q _ _ _ _ _ _ p3 R4 (s1.trans (s2.trans (s3.trans s4))) (JQ ha hb ra rb)⟩
end
noncomputable def WG (X:Cx)(tg:Expr):TG:=λv U H Q=>∀(pins:Vu)(s:Shared)(u:Value),Inv X pins U H s->RelV v u->wpAny (model X.prog X.w) X.A (assign tg X.env u) (λ_ s'=>∃σ' H',Inv X pins σ' H' s'/\Q σ' H') X.xe s
def WG.of(h:PG X tg t)(q:t v U H Q):WG X tg v U H Q:=λpins s u I r=>h pins s U H v u Q I r q
noncomputable def xj (X:Cx)(ifs:WK):TT:=λU H Q=>∀(pins:Vu)(s:Shared),Inv X pins U H s->wpAny (model X.prog X.w) X.A (forIn ifs true λc r=>if r=true then do let ok <-isTrue c X.env (eval c X.env);pure (ForInStep.yield ok)else pure (ForInStep.yield r)) (TP X pins U Q) X.xe s
def xj.of(h:uS X ifs t)(q:t U H Q):xj X ifs U H Q:=λpins s I=>h pins s U H Q I q
noncomputable def WL (X:Cx)(D:Addr)(elt:Expr)(gens:Vs)(scope:Scope)(pos:Pos) (k:Nat):TL:=λys U H Q=>
 X.s₀.heap.objs.size<=D->(∀y c,X.env.cells.lookup y=some c->c≠D)->(∀e s',X.xe e s'->False)->
 ∀(pins:Vu)(s:Shared)(its:WH) (nn:Nat)(fin:Sem Fin)(Qf:Fin->Shared->Prop)(E:Vr),
  (∀p∈X.pn++pins,p.1≠D)->Inv X ((D,ig its nn)::pins) U H s->Vals ys its->ys.length<=sizeLine->
  (∀s' ys' its' nn' σ' H',Inv X ((D,ig its' nn')::pins) σ' H' s'->Vals ys' its'->ys'.length<=sizeLine->Q ys' σ' H'->wpAny (model X.prog X.w) X.A fin Qf E s')->
  wpAny (model X.prog X.w) X.A (iT elt gens scope pos k (.ref D) X.env fin) Qf E s
def WL.of{D:Addr}{k:Nat}(h:PL X D elt gens scope pos k t)(q:t ys U H Q):WL X D elt gens scope pos k ys U H Q:=λh1 h2 h3 pins s its nn fin Qf E hp I rv hz hf=>h h1 h2 h3 pins s U H ys its nn Q fin Qf E hp I rv hz q hf
noncomputable def Agree (cs:WN)(U σ':St):Prop:=U.length=σ'.length/\∀j,j∉cs->σ'[j]?=U[j]?
def Agree.refl(cs:WN)(U:St):Agree cs U U:=⟨rfl,λ_ _=>rfl⟩
theorem Agree.trans(h:Agree cs a b)(k:Agree cs b c):Agree cs a c:=⟨h.1.trans k.1,λj hj=>(k.2 j hj).trans (h.2 j hj)⟩
theorem Agree.symm(h:Agree cs a b):Agree cs b a:=⟨h.1.symm,λj hj=>(h.2 j hj).symm⟩
section
variable{K:Frag}{g:Gh}{E E0:En}{U σ':St}{H Hm:Hp}{F:Nat->WI}
def Rl.Oc(R:Rl K g E U H Hm F){i:Nat}(o:bJ E i=true)(v:Option V):Rl K g (E.set i none) (U.set i v) H Hm (λj=>if j=i then []else F j) where
 len:=by rw[Rf,Rf];exact R.len
 sub:=R.sub
 slot:=λj k' d' e'=>by
  by_cases c:j=i
  .subst c;rw[aF (gK o)]at e';cases e'
  .rw[ak (Ne.symm c)]at e';obtain⟨u,g1,g2⟩:=R.slot j k' d' e';exact⟨u,by rw[ak (Ne.symm c)];exact g1,by rw[if_neg c];exact g2⟩
 off:=λj a ha=>by
  by_cases c:j=i
  .rw[if_pos c]at ha;cases ha
  .rw[if_neg c]at ha;exact R.off j a ha
 bu:=λj a ha=>by
  by_cases c:j=i
  .rw[if_pos c]at ha;cases ha
  .rw[if_neg c]at ha;exact R.bu j a ha
 aG:=λj l a g1 g2=>by
  by_cases c:j=i
  .rw[if_pos c]at g1;cases g1
  .rw[if_neg c]at g1
   by_cases c':l=i
   .rw[if_pos c']at g2;cases g2
   .rw[if_neg c']at g2;exact R.aG j l a g1 g2
 fr:=R.fr
 new:=λj a ha=>by
  by_cases c:j=i
  .rw[if_pos c]at ha;cases ha
  .rw[if_neg c]at ha;exact R.new j a ha
 pin:=λq hq=>by
  obtain⟨g1,ds',g2⟩:=R.pin q hq;have c:i≠q.1:=λz=>by
   unfold bJ at o;rw[z,g2]at o;cases o
  exact⟨by rw[ak c];exact g1,ds',by rw[ak c];exact g2⟩
 old:=R.old
theorem Rl.br:∀{cs:WN}{E E0:En}{U:St}{F:Nat->WI},Rl K g E U H Hm F->Dv.br cs E=some E0->∃σ' F',Rl K g E0 σ' H Hm F'/\Agree cs U σ'/\(∀c∈cs,σ'[c]?=some none/\E0[c]?=some none)
 |[],E,E0,U,F,R,h=>by cases h;exact⟨U,F,R,Agree.refl _ _,λ_ z=>by cases z⟩
 |c::cs,E,E0,U,F,R,h=>by
  rw[Dv.br]at h;by_cases o:bJ E c=true
  .rw[if_pos o]at h;have R1:=R.Oc o none;obtain⟨σ',F',R',a,n⟩:=Rl.br (cs:=cs) R1 h;have lc:=gK o;have keep:∀{l:WN}{E E0:En},Dv.br l E=some E0->∀j,j∉l->E0[j]?=E[j]?:=by
    intro l;induction l with
    |nil=>intro E E0 h j _;cases h;rfl
    |cons i l ih=>intro E E0 h j hj;rw[Dv.br]at h;by_cases o:bJ E i=true;{rw[if_pos o]at h;have ne:i≠j:=λz=>hj (z▸RC);exact(ih h j λz=>hj (RK _ z)).trans (ak ne)};rw[if_neg o]at h;cases h
   refine⟨σ',F',R',⟨by rw[<-a.1,Rf],λj hj=>?_⟩,λd hd=>?_⟩;{have ne:c≠j:=λz=>hj (z▸RC);exact(a.2 j λz=>hj (RK _ z)).trans (ak ne)};by_cases m:d∈cs;{exact n d m};have e:d=c:=(RP.mp hd).resolve_right m;subst e;exact⟨(a.2 d m).trans (aF (R.len▸lc)),(keep h d m).trans (aF lc)⟩
  rw[if_neg o]at h;cases h
def Rl.agree(R:Rl K g E U H Hm F)(a:Agree cs U σ')(n:∀c∈cs,E[c]?=some none):Rl K g E σ' H Hm F where
 len:=R.len.trans a.1
 sub:=R.sub
 slot:=λj k d e=>by
  obtain⟨v,h1,h2⟩:=R.slot j k d e;refine⟨v,?_,h2⟩;rw[a.2 j λz=>by rw[n j z]at e;cases e]
  exact h1
 off:=R.off
 bu:=R.bu
 aG:=R.aG
 fr:=R.fr
 new:=R.new
 pin:=λq hq=>by
  obtain⟨g1,ds',g2⟩:=R.pin q hq;refine⟨?_,ds',g2⟩;rw[a.2 q.1 λz=>by rw[n q.1 z]at g2;cases g2]
  exact g1
 old:=R.old
end
inductive kE(X:Cx)(Ex:XK)(Y:WN):WK->DT->Prop
 |nil:kE X Ex Y [] eU
 |one {e:Expr}{t:DT}:ST X Ex Y e t->kE X Ex Y [e] t
def kE.ok(h:kE X Ex Y ifs t){F:Nat->WI}(hx:XL X Ex x g)(R:Rl X.K g E U H Hm F)(p:t x E P)(q:∀E' b H' Hm' F',P E' b->Rl X.K g E' U H' Hm' F'->ah Hm Hm'->Q b H'):xj X ifs (sel Y U) H Q:=by
 cases h with
 |nil=>exact xj.of IT (q _ _ _ _ _ p R (ah.refl _))
 |one h=>exact xj.of (JN jI) (h g x E U H Hm F P Q hx R p q)
noncomputable def SL (X:Cx)(Y cs:WN)(D:Addr)(elt:Expr)(gens:Vs)(scope:Scope)(pos:Pos) (k:Nat)(dc:DC):Prop:=
 ∀(g:Gh)(E:En)(U:St)(H Hm:Hp)(F:Nat->WI)(ys:List V)(dys:WC)(P:WC->En->Prop)(Q:List V->St->Hp->Prop),Rl X.K g E U H Hm F->aA X.K Hm ys dys->dc xF dys E P->
  (∀E' dys' ys' σ' H' Hm' F',P dys' E'->Rl X.K g E' σ' H' Hm' F'->ah Hm Hm'->aA X.K Hm' ys' dys'->Agree cs U σ'->Q ys' (sel Y σ') H')->WL X D elt gens scope pos k ys (sel Y U) H Q
section
variable{X:Cx}{Ex:XK}{Y cs:WN}{D:Addr}{elt tg iter:Expr}{ifs:WK}{gens:Vs}{scope:Scope}{pos:Pos}{k:Nat}
def Jv(h:SE X Ex Y elt d)(hk:gens[k]?=none):SL X Y cs D elt gens scope pos k (bU sizeLine d):=by intro g E U H Hm F ys dys P Q R r p q;refine WL.of (Aq aX hk) (h g xF E U H Hm F _ _ XL.no R p λE1 k1 v u H1 Hm1 F1 fp p1 R1 s1 T=>?_);obtain⟨hk,hl,p1⟩:=p1;obtain⟨Hm2,s2,R2,r2⟩:=T.dW R1 hk;exact⟨by rw[r.len];exact hl,q _ _ _ _ _ _ _ p1 R2 (s1.trans s2) ((r.mono (s1.trans s2)).snoc r2) (Agree.refl _ _)⟩
def Gd{xs:WC}{t:Tg}{c:DT}{r:DC}{G:TG}{tt:TT}{tr:TL}{I:Nat->WC->En->Prop}{U:St}{F1:Nat->WI}{Q:List V->St->Hp->Prop}(hts:∀i∈t.slots,i∈cs)(it1:yb K J xs Hm1)(R1:Rl K g E1 U H1 Hm1 F1)(r0:aA K Hm1 ys dys)(i0:I 0 dys E1)(hG:∀{d:PyData}{v:V}{E E2:En}{U:St}{H Hm:Hp}{F:Nat->WI}{Q:St->Hp->Prop},b5 t d E=some E2->Rp K Hm v d->Rl K g E U H Hm F->(∀σ' F',Rl K g E2 σ' H Hm F'->(∀j,j∉t.slots->σ'[j]?=U[j]?)->Q (sel Y σ') H)->G v (sel Y U) H Q)(hT:∀{E:En}{U:St}{H Hm:Hp}{F:Nat->WI}{P:En->Bool->Prop}{Q:Bool->Hp->Prop},Rl K g E U H Hm F->c xF E P->(∀E' b H' Hm' F',P E' b->Rl K g E' U H' Hm' F'->ah Hm Hm'->Q b H')->tt (sel Y U) H Q)(hR:∀{E:En}{U:St}{H Hm:Hp}{F:Nat->WI}{ys:List V}{dys:WC}{P:WC->En->Prop}{Q:List V->St->Hp->Prop},Rl K g E U H Hm F->aA K Hm ys dys->r xF dys E P->(∀E' dys' ys' σ' H' Hm' F',P dys' E'->Rl K g E' σ' H' Hm' F'->ah Hm Hm'->aA K Hm' ys' dys'->Agree cs U σ'->Q ys' (sel Y σ') H')->tr ys (sel Y U) H Q)(step:∀i d ys E,xs[i]?=some d->I i ys E->∃E2,b5 t d E=some E2/\c xF E2 λE3 b=>if b=true then r xF ys E3 (I (i+1))else I (i+1) ys E3)(fin:∀E' dys' ys' σ' H' Hm' F',I xs.length dys' E'->Rl K g E' σ' H' Hm' F'->ah Hm1 Hm'->aA K Hm' ys' dys'->Agree cs U σ'->Q ys' (sel Y σ') H'):Gg J G tt tr ys (sel Y U) H1 Q:=by
 refine⟨λi m ys τ H'=>m=xs.length-i/\i<=xs.length/\∃E' dys' σ' Hm' F',I i dys' E'/\Rl K g E' σ' H' Hm' F'/\ah Hm1 Hm'/\aA K Hm' ys dys'/\Agree cs U σ'/\τ=sel Y σ',⟨xs.length,by simp,S3 _,E1,dys,U,Hm1,F1,i0,R1,ah.refl _,r0,Agree.refl _ _,rfl⟩,?_⟩;rintro i m ys τ H2⟨rfl,hi,E2,dys2,σ2,Hm2,F2,i2,R2,s2,r2,a2,rfl⟩;obtain⟨go,stop⟩:=it1 i H2 Hm2 s2 R2.sub;by_cases c':i<xs.length
 .obtain⟨go,qA⟩:=go xs[i] (RS c');refine .inr ⟨go,λys τ H'=>i+1<=xs.length/\∃E' dys' σ' Hm' F',I (i+1) dys' E'/\Rl K g E' σ' H' Hm' F'/\ah Hm1 Hm'/\aA K Hm' ys dys'/\Agree cs U σ'/\τ=sel Y σ',λys τ H' z=>⟨xs.length-(i+1),by lia,rfl,z⟩,λx H3 y=>?_⟩;obtain⟨Hm3,t1,t2,t3,old,rx⟩:=qA x H3 y;have R3:=R2.turn t1 t2 t3 old;obtain⟨E4,e4,p4⟩:=step i xs[i] dys2 E2 (RS c') i2;refine hG e4 rx R3 λσ4 F4 R4 ag=>?_;have a4:Agree cs U σ4:=a2.trans ⟨by rw[<-R3.len,<-R4.len];exact(show E2.length=E4.length from R3.len.trans (by
   have h1:=R3.len;have h2:=R4.len;have:E4.length=E2.length:=by
    have go:∀{is:WN}{ds:WC}{E E':En},bA is ds E=some E'->E'.length=E.length:=by
     intro is
     induction is with
     |nil=>intro ds E E' h;cases ds with|nil=>cases h;rfl|cons _ _=>cases h
     |cons j is ih=>
      intro ds E E' h;cases ds with
      |nil=>cases h
      |cons d ds=>
       rw[bA]at h
       by_cases o:bJ E j=true
       .rw[if_pos o]at h;rw[ih h,Rf]
       .rw[if_neg o]at h;cases h
    cases t with
    |nm j=>exact go (is:=[j]) e4
    |tp js=>
     cases hd:xs[i]with
     |tuple ds=>rw[hd]at e4;exact go (is:=js) e4
     |_=>rw[hd]at e4;cases e4
    |nt j js=>
     obtain⟨a,ds,hd,e4⟩:=um e4;exact go (is:=j::js) e4
   lia)),λj hj=>ag j λz=>hj (hts j z)⟩
  refine hT R4 p4 λE5 b H5 Hm5 F5 p5 R5 s5=>?_;cases b with
  |true=>refine nK (hR R5 (r2.mono (t1.trans s5)) (by simpa using p5) λE6 dys6 ys6 σ6 H6 Hm6 F6 p6 R6 s6 r6 a6=>?_);exact⟨c',E6,dys6,σ6,Hm6,F6,p6,R6,s2.trans (t1.trans (s5.trans s6)),r6,a4.trans a6,rfl⟩
  |false=>exact nL ⟨c',E5,dys2,σ4,Hm5,F5,by simpa using p5,R5,s2.trans (t1.trans s5),r2.mono (t1.trans s5),a4,rfl⟩
 have e:i=xs.length:=by lia
 subst e;exact .inl ⟨stop (RB _),fin _ _ _ _ _ _ _ i2 R2 s2 r2 a2⟩
def Fw:caps ix (sel Y U)=ix.map λi=>(((Y[i]?).map λm=>(U[m]?).join)).join:=by unfold caps sel;refine Ru λi _=>?_;rw[RO]
noncomputable def bZ (Y cs ix:WN):WN:=cs++ix.map λi=>(Y[i]?).getD 0
def zm(hix:∀i∈ix,i<Y.length)(aG:∀c∈cs,c∉Y)(a:Agree cs U σ0)(n:∀c∈cs,σ0[c]?=some none):List.replicate cs.length none++caps ix (sel Y U)=sel (bZ Y cs ix) σ0:=by unfold bZ;rw[Fw];unfold sel;rw[RW,RU];congr 1;{refine(List.eq_replicate_iff.mpr ⟨RA ..,λx hx=>?_⟩).symm;obtain⟨c,hc,rfl⟩:=RG.mp hx;rw[n c hc];rfl};refine Ru λi hi=>?_;have l:=hix i hi;show((Y[i]?).map λm=>(U[m]?).join).join=(σ0[(Y[i]?).getD 0]?).join;rw[RS l];show(U[Y[i]]?).join=(σ0[Y[i]]?).join;rw[a.2 Y[i] λz=>aG _ z (UY l)]
def As{rest:Vs}{vs NB:WQ}{ix:WN}{di:DI}{t:Tg}{c:DT}{r:DC}(B:cE X scope vs NB ix)(hc:X.calm=true)(hcs:cs.length=vs.length)(hix:∀i∈ix,i<Y.length)(aG:∀c∈cs,c∉Y)(nd:(bZ Y cs ix).Nodup)(hi:SI X Ex Y tg iter di)(ht:∀(C:Addr)(s:Shared)(H:Hp)(fp:WI),fW (X.block scope C NB s H fp) (bZ Y cs ix) tg t)(hts:∀i∈t.slots,i∈cs)(hif:∀(C:Addr)(s:Shared)(H:Hp)(fp:WI),kE (X.block scope C NB s H fp) E0 (bZ Y cs ix) ifs c)(hr:∀(C:Addr)(s:Shared)(H:Hp)(fp:WI)(D:Addr),SL (X.block scope C NB s H fp) (bZ Y cs ix) cs D elt (⟨tg,iter,ifs,0⟩::rest) scope pos 1 r)(ha:∀g∈rest,g.is_async=0)(hs:∀v,foldedSetIterable iter X.env v=pure v){w:(V->Hp->Prop)->St->Hp->Prop}(hw:∀{wi:TI}{G:TG}{tt:TT}{tr:TL}{U:St}{H:Hp}{Q:VK},PI X tg iter wi->(∀(C:Addr)(s:Shared)(H:Hp)(fp:WI),PG (X.block scope C NB s H fp) tg G)->(∀(C:Addr)(s:Shared)(H:Hp)(fp:WI),uS (X.block scope C NB s H fp) ifs tt)-> (∀(C:Addr)(s:Shared)(H:Hp)(fp:WI)(D:Addr),PL (X.block scope C NB s H fp) D elt (⟨tg,iter,ifs,0⟩::rest) scope pos 1 tr)->sf wi vs.length ix G tt tr U H Q->w Q U H)(g:Gh)(x:XC)(E:En)(U:St)(H Hm:Hp)(F:Nat->WI)(P:En->Kd->PyData->Prop)(Q:VK)(hx:XL X Ex x g)(R:Rl X.K g E U H Hm F)(p:bW cs di t c r x E P)(q:∀E' k v u H' Hm' F' fp,P E' k v->Rl X.K g E' U H' Hm' F'->ah Hm Hm'->Tm X.K g F' H' Hm' k u v fp->Q u H'):w Q (sel Y U) H:=by
 obtain⟨wi,hpi,hwi⟩:=hi;refine hw (wi:=wi) (G:=λv U H Q=>∀(C:Addr)(s:Shared)(H2:Hp)(fp:WI),WG (X.block scope C NB s H2 fp) tg v U H Q) (tt:=λU H Q=>∀(C:Addr)(s:Shared)(H2:Hp)(fp:WI),xj (X.block scope C NB s H2 fp) ifs U H Q)
  (tr:=λys U H Q=>∀(C:Addr)(s:Shared)(H2:Hp)(fp:WI)(D:Addr),WL (X.block scope C NB s H2 fp) D elt (⟨tg,iter,ifs,0⟩::rest) scope pos 1 ys U H Q) hpi (λC s H2 fp pins s' U H v u Q I r h=>h C s H2 fp pins s' u I r) (λC s H2 fp pins s' U H Q I h=>h C s H2 fp pins s' I)
  (λC s H2 fp D h1 h2 h3 pins s' U H ys its nn Q fin Qf E hp I rv hz h hf=>h C s H2 fp D h1 h2 h3 pins s' its nn fin Qf E hp I rv hz hf) ?_
 refine hwi g x E U H Hm F _ _ hx R p λE1 xs J H1 Hm1 F1 p1 R1 s1 it1=>?_;obtain⟨E0',I,hcl,i0,step,fin⟩:=p1;obtain⟨σ0,F0,R0,a0,n0⟩:=R1.br hcl;rw[<-hcs,zm hix aG a0 λc hc=>(n0 c hc).1];refine Gd (cs:=cs) (t:=t) (c:=c) (r:=r) hts it1 R0 .nil i0 (λh1 h2 h3 h4 C s H2 fp=>?_) (λh1 h2 h3 C s H2 fp=>(hif C s H2 fp).ok XL.no h1 h2 h3) (λh1 h2 h3 h4 C s H2 fp D=>hr C s H2 fp D g _ _ _ _ _ _ _ _ _ h1 h2 h3 h4) step λE' dys' ys' σ' H' Hm' F' i R' s' r' a' p hp=>?_;{obtain⟨G,g1,g2⟩:=vI (X:=X.block scope C NB s H2 fp) hc B.nd nd (ht C s H2 fp);exact WG.of g1 (g2 h1 h2 h3 h4)};obtain⟨E2,hcl2,p2⟩:=fin _ _ i;obtain⟨σ2,F2,R2,a2,n2⟩:=R'.br hcl2;have R3:=R2.agree (cs:=cs) ((a0.trans a').trans a2).symm λc hc=>(n2 c hc).2;have s2:=bY (o:=.lst ys') hp;have R4:=R3.grow (H':=upd H' p (.lst ys')) s2 (ah.refl _) (R3.sub.trans s2) (λi a ha=>R3.off i a ha) λ_ _=>.inl rfl;refine q _ _ _ _ _ Hm' F2 [p] p2 R4 (s1.trans s') ⟨.ow aC r',λa ha=>?_,λa ha i=>?_,λa ha=>?_⟩;{rw[RE.mp ha];exact R3.sV hp};{rw[RE.mp ha];exact R3.fresh hp};rw[RE.mp ha];exact R3.fK hp
end
section
variable{X:Cx}{Ex:XK}{Y cs:WN}{elt tg iter:Expr}{ifs:WK}{scope:Scope}{pos:Pos}
def LA{rest:Vs}{vs NB:WQ}{ix:WN}{di:DI}{t:Tg}{c:DT}{r:DC}(B:cE X scope vs NB ix)(hc:X.calm=true)(hcs:cs.length=vs.length)(hix:∀i∈ix,i<Y.length)(aG:∀c∈cs,c∉Y)(nd:(bZ Y cs ix).Nodup)(hi:SI X Ex Y tg iter di)(ht:∀(C:Addr)(s:Shared)(H:Hp)(fp:WI),fW (X.block scope C NB s H fp) (bZ Y cs ix) tg t)(hts:∀i∈t.slots,i∈cs)(hif:∀(C:Addr)(s:Shared)(H:Hp)(fp:WI),kE (X.block scope C NB s H fp) E0 (bZ Y cs ix) ifs c)(hr:∀(C:Addr)(s:Shared)(H:Hp)(fp:WI)(D:Addr),SL (X.block scope C NB s H fp) (bZ Y cs ix) cs D elt (⟨tg,iter,ifs,0⟩::rest) scope pos 1 r)(ha:∀g∈rest,g.is_async=0)(hs:∀v,foldedSetIterable iter X.env v=pure v):SE X Ex Y (.ListComp elt (⟨tg,iter,ifs,0⟩::rest) scope pos) (bW cs di t c r):=λg x E U H Hm F P Q hx R p q=>
 As B hc hcs hix aG nd hi ht hts hif hr ha hs (w:=λQ U H=>WE X (.ListComp elt (⟨tg,iter,ifs,0⟩::rest) scope pos) U H Q) (λh1 h2 h3 h4 h5=>WE.of (Gu B hc h1 h2 h3 h4 ha hs) h5) g x E U H Hm F P Q hx R p q
def Ov{j:Nat}{y:Str}{py spos:Pos}(hN:X.N.Nodup)(hj:X.N[j]?=some y)(hy:X.env.scope.names.lookup y=some .local){rest:Vs}{vs NB:WQ}{ix:WN}{di:DI}{t:Tg}{c:DT}{r:DC}(B:cE X scope vs NB ix)(hc:X.calm=true)(hcs:cs.length=vs.length)(hix:∀i∈ix,i<(aS X).length)(aG:∀c∈cs,c∉aS X)(nd:(bZ (aS X) cs ix).Nodup)(hi:SI X Ex (aS X) tg iter di)(ht:∀(C:Addr)(s:Shared)(H:Hp)(fp:WI),fW (X.block scope C NB s H fp) (bZ (aS X) cs ix) tg t)(hts:∀i∈t.slots,i∈cs)(hif:∀(C:Addr)(s:Shared)(H:Hp)(fp:WI),kE (X.block scope C NB s H fp) E0 (bZ (aS X) cs ix) ifs c)(hr:∀(C:Addr)(s:Shared)(H:Hp)(fp:WI)(D:Addr),SL (X.block scope C NB s H fp) (bZ (aS X) cs ix) cs D elt (⟨tg,iter,ifs,0⟩::rest) scope pos 1 r)(ha:∀g∈rest,g.is_async=0)(hs:∀v,foldedSetIterable iter X.env v=pure v)(hsw:swapsWith (.ListComp elt (⟨tg,iter,ifs,0⟩::rest) scope pos) (some (.Name y py)) spos.line X.env=pure true):S1 X Ex (.Assign [.Name y py] (.ListComp elt (⟨tg,iter,ifs,0⟩::rest) scope pos) spos) (aB j (bW cs di t c r)):=by
 rw[uv];intro g D' E U H Hm F D hx R p nx rt;refine As B hc hcs hix aG nd hi ht hts hif hr ha hs (w:=λQ τ H=>(Q=λu H1=>D.nx (τ.set j (some u)) H1)->WS X (.Assign [.Name y py] (.ListComp elt (⟨tg,iter,ifs,0⟩::rest) scope pos) spos) D τ H)
  (λh1 h2 h3 h4 h5 e=>by
   subst e;exact WS.of (wQ hN hj hy B hc h1 h2 h3 h4 hsw ha hs) h5) g D'.xc E U H Hm F _ _ hx R p (λE' k v u H' Hm' F' fp p' R' s' T=>?_) rfl
 rw[jQ TX (iV (bx hj)) (R'.len▸gK p'.1)];exact nx _ _ _ _ _ p'.2 (R'.put T p'.1) s'
end
end Dv
namespace L2
open PySem PySem.Spec PyProof.Rows
section
variable{X:Cx}
theorem uY:∀{xs:List V}{us:WH} (k:Nat),Vals xs us->Vals (xs.take k) (us.take k)
 |_,_,0,_=>.nil
 |_,_,_+1,.nil=>.nil
 |_,_,k+1,.cons h r=>.cons h (uY k r)
theorem vf:∀{xs:List V}{us:WH} (k:Nat),Vals xs us->Vals (xs.drop k) (us.drop k)
 |_,_,0,h=>h
 |_,_,_+1,.nil=>.nil
 |_,_,k+1,.cons _ r=>vf k r
theorem wC:∀{xs ys:List V}{us ws:WH},Vals xs us->Vals ys ws->Vals (xs++ys) (us++ws)
 |_,_,_,_,.nil,h=>h
 |_,_,_,_,.cons h r,h2=>.cons h (wC r h2)
inductive vM(x:V)(vs:List V)(H:Hp)(Q:VK):Prop
 |mk:∀(l:Addr)(xs:List V) (i:Nat) (y:V),(x=.ref l)->(vs=[.int (i:Int),y])->(H l=some (.lst xs))->(i<=xs.length)->(xs.length<sizeLine)->(Q .bg (upd H l (.lst (xs.take i++y::xs.drop i))))->vM x vs H Q
noncomputable def zK:V->List V->Hp->VK->Prop:=λx vs H Q=>vM x vs H Q
def CO:uI X "list.insert" zK:=by
 intro pins s U H x vs v us Q I rx rv h;obtain⟨l,xs,i,y,rfl,rfl,hH,hi,hs,q⟩:=h;cases rx;obtain⟨u1,u2,rfl,ru1,ru2⟩:=rv.two;obtain⟨t,rfl⟩:=ru1;obtain⟨z,its,n,r,hl,e⟩:=I.vY hH;have line:sizeLine<2^62:=by decide
 have fit:¬(!Builtin.List.listFitsIndex (i:Int))=true:=by rw[fitsIndex_both (k:=(i:Int)) (by lia) (by lia)];decide
 have sz:its.toArray.size<=sizeLine:=by rw[RQ];lia
 have key:((λxs:WB=>have k:=if(i:Int)<0 then((i:Int)+(xs.size:Int)).toNat else min (i:Int).toNat xs.size;(xs.extract 0 k).push u2++xs.extract k) its.toArray)=(its.take i++u2::its.drop i).toArray:=by
  have h1:¬((i:Int)<0):=by lia
  have h2:min i its.length=i:=by lia
  apply Array.toList_inj.mp;simp[h1,h2];exact Tp (by simp)
 have I2:∀tk,Inv X pins U (upd H l (.lst (xs.take i++y::xs.drop i))) { s with heap:=s.heap.update l (Obj.mapSeq (λxs:WB=>have k:=if(i:Int)<0 then((i:Int)+(xs.size:Int)).toNat else min (i:Int).toNat xs.size;(xs.extract 0 k).push u2++xs.extract k)),toks:=tk }:=λtk=>I.yg (its':=its.take i++u2::its.drop i) hH e key (wC (uY i r) (.cons ru2 (vf i r))) (by
  rw[RM,RT,SQ,SG];lia)
 generalize (i:Int)=x at fit I2⊢;exact Ti F.slot_list_insert ⟨_,e,rfl⟩ F.entry_list_insert (F.args_list_insert_3 _ _ _) (AutoSeq1.list_insert_list_int_val_1 l its.toArray n x t u2 fit sz) ⟨e,.bg,_,I2 _,rfl,q⟩
end
end L2
namespace Dv
open PySem L2 PySem.W
noncomputable def uQ (K:Frag)(f:DM)(r:V->List V->Hp->VK->Prop):Prop:=∀(H Hm:Hp)(a:Addr)(xs:List V)(ds:WC)(vs:List V)(args:WC)(P:WC->PyData->Prop)(Q:VK),H a=some (.lst xs)->Hm a=none->ah Hm H->aA K Hm xs ds->aA K Hm vs args->f ds args P->
 (∀ys new u v,P new v->aA K Hm ys new->Rp K Hm u v->Q u (upd H a (.lst ys)))->r (.ref a) vs H Q
theorem CC:∀{es:List DE}{os:List (Option PyData)}{vs:List V}{ds:WC},Got K U Hm (es.map .ev) os vs->fill (es.map .ev) E os=some ds->aA K Hm vs ds
 |[],_,_,_,.nil,h=>by cases h;exact .nil
 |e::es,_,_,_,.ev (os:=os) r G,h=>by
  have h:(fill (es.map .ev) E os).map (_::·)=some _:=h;cases hf:fill (es.map .ev) E os with
  |none=>rw[hf]at h;cases h
  |some ds=>rw[hf]at h;cases h;exact .cons r (CC G hf)
inductive qk(X:Cx)(Ex:XK)(Y:WN):WK->List DE->Prop
 |nil:qk X Ex Y [] []
 |cons {e:Expr}{d:DE}{es:WK}{ds:List DE}:SE X Ex Y e d->qk X Ex Y es ds->qk X Ex Y (e::es) (d::ds)
def qk.as(h:qk X Ex Y es ds):aN X Ex Y es (ds.map .ev):=by
 induction h with
 |nil=>exact .nil
 |cons h _ ih=>exact .ev h ih
def Dr(ns:es.all noStar=true)(l:es.length<30):((backTo cpos (starEach es env)).all (λx=>!x.1)&&(backToKw cpos (keywordEach [] env)).all (λx=>x.1.isSome)&&decide (es.length+([]:List Keyword).length+(if([]:List Keyword).isEmpty then 0 else 1)<30))=true:=by have h:=eY (pos:=cpos) (env:=env) ns;rw[List.any_eq_false]at h;rw[RJ,RJ,RX];refine⟨⟨λx hx=>by simpa using h x hx,rfl⟩,Rv ?_⟩;show es.length+0+0<30;lia
section
variable{X:Cx}{Ex:XK}{Y:WN}
def Fq{i:Nat}(h:i6 E i=true):∃p ds,E[i]?=some (some (.ow p,.list ds)):=by unfold i6 at h;split at h;{rename_i p ds e;exact⟨p,ds,e⟩};cases h
def Om{x name:Str}{id:String}{p apos cpos:Pos}{es:WK}{ds:List DE}{f:DM}{r:V->List V->Hp->VK->Prop}{i j:Nat}(hm:uI X id r)(D:uQ X.K f r)(slot:Slot "list" name id)(hty:typeOf (.builtin id)=pure (.type "method_descriptor"))(hv:PE X (.Name x p) (kJ j))(hj:Y[j]?=some i)(ns:es.all noStar=true)(l30:es.length<30)(hline:(apos.endLine==cpos.line)=true)(S:qk X Ex Y es ds):SE X Ex Y (.Call (.Attribute (.Name x p) name apos) es [] cpos) (iI f i ds):=by
 intro g xc E U H Hm F P Q hx R h q;replace h:bK (i6 E i) _:=h;rw[dJ]at h;obtain⟨ho,h⟩:=h;obtain⟨p0,ds0,e0⟩:=Fq ho;obtain⟨v,h1,h2⟩:=R.slot i _ _ e0;have hs1:=cZ hj h1;have fin:∀a xs0,v=.ref a->H a=some (.lst xs0)->oG X es (sel Y U) H λvs H2=>r (.ref a) vs H2 Q:=λa xs0 ev _=>by
  subst ev;refine jd hx S.as R h λE1 os vs H1 Hm1 F1 p1 R1 s1 G=>?_;replace p1:Cn f i (ds.map .ev) E1 os P:=p1;unfold Cn at p1;rw[<-bf,dS]at p1;obtain⟨args,hf,p1⟩:=p1;split at p1
  rotate_left
  .exact p1.elim
  rename_i p1' ds1 e1;have ra:=CC G hf;obtain⟨v',g1,g2⟩:=R1.slot i _ _ e1;rw[h1]at g1;cases g1;generalize hfi:F1 i=fi at g2;cases g2 with
  |@ow _ _ xs1 _ ha1 hr1=>refine D H1 Hm1 a xs1 ds1 vs args _ Q ha1 (R1.off i a (by rw[hfi];exact RC)) R1.sub hr1 ra p1 λys new u v p2 ry ru=>?_;obtain⟨a',xs',k1,k2,k3,k4,R2⟩:=R1.chg e1 ry;rw[h1]at k1;cases k1;exact q _ _ _ _ _ _ _ [] p2 R2 s1 (Tm.sh ru)
 generalize hfi:F i=fi at h2;cases h2 with
 |@ow _ a xs _ ha hr=>
  cases es with
  |nil=>exact WE.of (Mi VV slot hty hm hv rfl hline) ⟨_,hs1,.inl ⟨rfl,_,bI.of ha⟩,fin a xs rfl ha⟩
  |cons e es=>have ns':=ns;rw[RN,RJ]at ns';exact WE.of (BF VV slot hty hm hv (dP ns) rfl (Dr ns l30) hline (aU ns'.1) (eY ns'.2)) ⟨_,hs1,.inl ⟨rfl,_,bI.of ha⟩,fin a xs rfl ha⟩
noncomputable def cg:DM:=λds args P=>match args with
 |[d]=>ds.length<sizeLine/\P (ds++[d]) .none
 |_=>False
def bV:uQ K cg zk:=by intro H Hm a xs ds vs args P Q ha _ s r ra h q;unfold cg at h;split at h;{obtain⟨x,rfl,h1⟩:=dg ra;exact⟨a,xs,x,rfl,rfl,ha,by rw[r.len];exact h.1,q _ _ _ _ h.2 (r.snoc h1) .bg⟩};exact h.elim
inductive uZ(K:Frag) (x:V)(vs:List V)(H:Hp)(Q:VK):Prop
 |mk:∀l b xs zs,(x=.ref l)->(vs=[.ref b])->(H l=some (.lst xs))->(bQ K H b zs)->(xs.length+zs.length<=sizeLine)->(Q .bg (upd H l (.lst (xs++zs))))->uZ K x vs H Q
noncomputable def xA (K:Frag):V->List V->Hp->VK->Prop:=λx vs H Q=>uZ K x vs H Q
open PyProof.Rows in
def tw:uI X "list.extend" (xA X.K):=by
 intro pins s U H x vs v us Q I rx rv h;obtain⟨l,b,xs,zs,rfl,rfl,hH,hB,hz,q⟩:=h;cases rx;obtain⟨u,rfl,ru⟩:=rv.one;cases ru;obtain⟨z,its,n,r,hl,e⟩:=I.vY hH;obtain⟨z2,its2,n2,r2,e2⟩:=hB.get I;have hl2:=r2.length;have hsz:its.toArray.size+its2.toArray.size<=sizeLine:=by rw[RQ,RQ];lia
 have hlong:¬(!its.toArray.isEmpty&&Builtin.List.listTooLong (its.toArray.size+its2.toArray.size))=true:=by rw[nC hsz,UA];exact RZ
 refine Ti F.slot_list_extend ⟨_,e,rfl⟩ F.entry_list_extend (F.args_list_extend_2 _ _)
  (AutoSeq1.list_extend_list_list_0 l its.toArray n b its2.toArray n2 hlong (by rw[RQ];lia) (by lia)) ⟨e,e2,?_⟩
 refine⟨.bg,_,I.yg (its':=its++its2) hH e (by simp) (r.append r2) ?_,rfl,q⟩;rw[RM];lia
noncomputable def mG:DM:=λds args P=>match args with
 |[.list es]=>ds.length+es.length<=sizeLine/\P (ds++es) .none
 |_=>False
def rL:uQ K mG (xA K):=by intro H Hm a xs ds vs args P Q ha _ s r ra h q;unfold mG at h;split at h;{obtain⟨x,rfl,h1⟩:=dg ra;obtain⟨b,zs,rfl,hb,r2⟩:=fP h1;exact⟨a,b,xs,zs,rfl,rfl,ha,bQ.mono s hb,by rw[r.len,r2.len];exact h.1,q _ _ _ _ h.2 (r.app r2) .bg⟩};exact h.elim
noncomputable def MR:DM:=λds args P=>match args with
 |[]=>∃d,ds[ds.length-1]?=some d/\P ds.dropLast d
 |[.int i]=>(-(2^63)<=i/\i<2^63)/\∃n d,seqIndex? i ds.length=some n/\ds[n]?=some d/\P (ds.eraseIdx n) d
 |_=>False
noncomputable def tK:DM:=λds args P=>match args with
 |[.int i,d]=>∃n:Nat,i=n/\n<=ds.length/\ds.length<sizeLine/\P (ds.take n++d::ds.drop n) .none
 |_=>False
def Ce:uQ K tK zK:=by intro H Hm a xs ds vs args P Q ha _ s r ra h q;unfold tK at h;split at h;{obtain⟨x,y,rfl,h1,h2⟩:=fL ra;cases h1;obtain⟨n,rfl,l1,l2,h⟩:=h;exact⟨a,xs,n,y,rfl,rfl,ha,by rw[r.len];exact l1,by rw[r.len];exact l2,q _ _ _ _ h ((r.take n).app (.cons h2 (r.drop n))) .bg⟩};exact h.elim
end
def nN:bD a=bD b↔a=b:=by cases a<;>cases b<;>simp[bD]
theorem uE:∀{a b:List Key},a.map bD=b.map bD↔a=b
 |[],[]=>by simp
 |[],_::_=>by simp
 |_::_,[]=>by simp
 |a::as,b::bs=>by simp[nN,uE (a:=as) (b:=bs)]
def qY{a b:List Key}:PyData.tuple (a.map bD)=.tuple (b.map bD)↔a=b:=by rw[PyData.tuple.injEq];exact uE
def pW(h:kT w=true):∃k,w=bD k:=by
 cases w with
 |int i=>exact⟨.inl i,rfl⟩
 |str x=>exact⟨.inr x,rfl⟩
 |_=>cases h
theorem jk:∀{ks:WC},ks.all kT=true->∃k:List Key,ks=k.map bD
 |[],_=>⟨[],rfl⟩
 |w::ks,h=>by rw[RN,RJ]at h;obtain⟨k,rfl⟩:=pW h.1;obtain⟨l,rfl⟩:=jk h.2;exact⟨k::l,rfl⟩
section
variable{K:Frag}{H:Hp}
def rM(r:Rp K H u (bD k)):u=kV k:=by
 cases k with
 |inl i=>have r:Rp K H u (.int i):=r;cases r;rfl
 |inr x=>have r:Rp K H u (.str x):=r;cases r;rfl
theorem qU:∀{us:List V}{k:List Key},aA K H us (k.map bD)->us=k.map kV
 |_,[],r=>by cases r;rfl
 |_,k::ks,r=>by
  cases r with
  |cons h t=>rw[rM h,qU t];rfl
def tT{k:List Key}(r:Rp K H u (.tuple (k.map bD))):∃b,u=.ref b/\H b=some (.tup (k.map kV)):=by
 cases r with
 |tup a r=>exact⟨_,rfl,by rw[<-qU r];exact a⟩
theorem dZ.len:∀{kvs:List (Key×V)}{ds:Vp},dZ K H kvs ds->kvs.length=ds.length
 |_,_,.nil=>rfl
 |_,_,.cons _ r=>congrArg (·+1) r.len
theorem dO.len:∀{kvs:List (List Key×V)}{ds:Vp},dO K H kvs ds->kvs.length=ds.length
 |_,_,.nil=>rfl
 |_,_,.cons _ r=>congrArg (·+1) r.len
theorem dZ.val:∀{kvs:List (Key×V)}{ds:Vp},dZ K H kvs ds->(cF ds (bD k)=none/\cC kvs k=none)\/∃v d,cC kvs k=some v/\cF ds (bD k)=some d/\Rp K H v d
 |_,_,.nil=>.inl ⟨rfl,rfl⟩
 |_,_,.cons (k:=k') (v:=v) (d:=d) (kvs:=kvs) (ds:=ds) h r=>by
  by_cases c:k'=k;{subst c;exact .inr ⟨v,d,by unfold cC;rw[Uw (by simp)];rfl,by unfold cF;rw[Uw (by simp)];rfl,h⟩};have c':¬bD k'=bD k:=λz=>c (nN.mp z);have e1:cC ((k',v)::kvs) k=cC kvs k:=by unfold cC;rw[Ux (by simpa using c)]
  have e2:cF ((bD k',d)::ds) (bD k)=cF ds (bD k):=by unfold cF;rw[Ux (by simpa using c')]
  rw[e1,e2];exact r.val
theorem dO.val:∀{kvs:List (List Key×V)}{ds:Vp},dO K H kvs ds->(cF ds (.tuple (k.map bD))=none/\cC kvs k=none)\/∃v d,cC kvs k=some v/\cF ds (.tuple (k.map bD))=some d/\Rp K H v d
 |_,_,.nil=>.inl ⟨rfl,rfl⟩
 |_,_,.cons (k:=k') (v:=v) (d:=d) (kvs:=kvs) (ds:=ds) h r=>by
  by_cases c:k'=k;{subst c;exact .inr ⟨v,d,by unfold cC;rw[Uw (by simp)];rfl,by unfold cF;rw[Uw (by simp)];rfl,h⟩};have c':¬PyData.tuple (k'.map bD)=.tuple (k.map bD):=λz=>c (qY.mp z);have e1:cC ((k',v)::kvs) k=cC kvs k:=by unfold cC;rw[Ux (by simpa using c)]
  have e2:cF ((.tuple (k'.map bD),d)::ds) (.tuple (k.map bD))=cF ds (.tuple (k.map bD)):=by unfold cF;rw[Ux (by simpa using c')]
  rw[e1,e2];exact r.val
theorem dZ.any:∀{kvs:List (Key×V)}{ds:Vp},dZ K H kvs ds->(kvs.any λkv=>decide (kv.1=k))=ds.any λkv=>decide (kv.1=bD k)
 |_,_,.nil=>rfl
 |_,_,.cons (k:=k') h r=>by rw[Tj,Tj,r.any,decide_eq_decide.mpr (nN (a:=k') (b:=k)).symm]
theorem dO.any{k:List Key}:∀{kvs:List (List Key×V)}{ds:Vp},dO K H kvs ds->(kvs.any λkv=>decide (kv.1=k))=ds.any λkv=>decide (kv.1=.tuple (k.map bD))
 |_,_,.nil=>rfl
 |_,_,.cons (k:=k') h r=>by rw[Tj,Tj,r.any,decide_eq_decide.mpr (qY (a:=k') (b:=k)).symm]
theorem dZ.app(k:Key)(h:Rp K H v d):∀{kvs:List (Key×V)}{ds:Vp},dZ K H kvs ds->dZ K H (kvs++[(k,v)]) (ds++[(bD k,d)])
 |_,_,.nil=>.cons h .nil
 |_,_,.cons g r=>.cons g (r.app k h)
theorem dO.app(k:List Key)(h:Rp K H v d):∀{kvs:List (List Key×V)}{ds:Vp},dO K H kvs ds->dO K H (kvs++[(k,v)]) (ds++[(.tuple (k.map bD),d)])
 |_,_,.nil=>.cons h .nil
 |_,_,.cons g r=>.cons g (r.app k h)
def dZ.put(k:Key)(h:Rp K H v d)(r:dZ K H kvs ds):dZ K H (putK kvs k v) (putD ds (bD k) d):=by
 unfold putK putD;rw[r.any (k:=k)];split
 .have go:∀{kvs:List (Key×V)}{ds:Vp},dZ K H kvs ds->dZ K H (kvs.map λkv=>if kv.1=k then(kv.1,v)else kv) (ds.map λkv=>if kv.1=bD k then(kv.1,d)else kv):=by
   intro kvs;induction kvs with
   |nil=>intro ds r;cases r;exact .nil
   |cons p kvs ih=>
    intro ds r;cases r with
    |@cons k' v' d' _ ds g r=>rw[Rh,Rh];by_cases c:k'=k;{rw[if_pos c,if_pos (congrArg bD c)];exact .cons h (ih r)};rw[if_neg c,if_neg λz=>c (nN.mp z)];exact .cons g (ih r)
  exact go r
 exact r.app k h
def dO.put(k:List Key)(h:Rp K H v d)(r:dO K H kvs ds):dO K H (putK kvs k v) (putD ds (.tuple (k.map bD)) d):=by
 unfold putK putD;rw[r.any (k:=k)];split
 .have go:∀{kvs:List (List Key×V)}{ds:Vp},dO K H kvs ds->dO K H (kvs.map λkv=>if kv.1=k then(kv.1,v)else kv) (ds.map λkv=>if kv.1=.tuple (k.map bD)then(kv.1,d)else kv):=by
   intro kvs;induction kvs with
   |nil=>intro ds r;cases r;exact .nil
   |cons p kvs ih=>
    intro ds r;cases r with
    |@cons k' v' d' _ ds g r=>rw[Rh,Rh];by_cases c:k'=k;{rw[if_pos c,if_pos (by rw[c])];exact .cons h (ih r)};rw[if_neg c,if_neg λz=>c (qY.mp z)];exact .cons g (ih r)
  exact go r
 exact r.app k h
end
section
variable{X:Cx}{Ex:XK}{Y:WN}
inductive HZ(neg:Bool) (x:V) (y:V)(H:Hp)(Q:VK):Prop
 |mk:∀a o,(y=.ref a)->(ic H a x o)->(Q (.bl (if neg then !o.isSome else o.isSome)) H)->HZ neg x y H Q
noncomputable def Ga (neg:Bool):R2:=λx y H Q=>HZ neg x y H Q
def Lz(hu:X.A.units+64<cLine):bw X (compareOp .In) (Ga false):=by intro pins s U H x y v u Q I rx ry h;obtain⟨a,o,rfl,g,q⟩:=h;cases ry;exact Pe (by lia) I g rx λs3 I3=>⟨.bl o.isSome,H,I3,rfl,q⟩
def D7(hu:X.A.units+64<cLine):bw X (compareOp .NotIn) (Ga true):=by intro pins s U H x y v u Q I rx ry h;obtain⟨a,o,rfl,g,q⟩:=h;cases ry;exact Ju (by lia) I g rx λs3 I3=>⟨.bl (!o.isSome),H,I3,rfl,q⟩
noncomputable def mW (neg:Bool):DR:=λds P=>zo (λx y=>match y,x with
 |.dict ((.none,.none)::kvs),.tuple ks=>ks.all kT=true/\P .sh (.bool (if neg then !(cF kvs (.tuple ks)).isSome else(cF kvs (.tuple ks)).isSome))
 |.dict kvs,w=>(kT w=true/\mJ kvs=true)/\P .sh (.bool (if neg then !(cF kvs w).isSome else(cF kvs w).isSome))
 |y,x=>Hx neg [x,y] P) ds
noncomputable def yr (K:Frag)(neg:Bool):R2:=λx y H Q=>Cb K neg x y H Q\/Ga neg x y H Q
def L4(hu:X.A.units+64<cLine):bw X (compareOp .In) (yr X.K false):=bw.or (Kz hu) (Lz hu)
def Ct(hu:X.A.units+64<cLine):bw X (compareOp .NotIn) (yr X.K true):=bw.or (DZ hu) (D7 hu)
def qP(r:Rp K H u (.dict kvs))(h:mJ kvs=true):∃a es,u=.ref a/\H a=some (.dK es)/\dZ K H es kvs:=by
 cases r with
 |dk a r=>exact⟨_,_,rfl,a,r⟩
 |dt a r=>cases h
 |exc _ _=>cases h
def EL(r:Rp K H u (.dict ((.none,.none)::kvs))):∃a es,u=.ref a/\H a=some (.dT es)/\dO K H es kvs:=by
 generalize e:((PyData.none,PyData.none)::kvs)=ds at r;cases r with
 |dk a r=>
  cases r with
  |nil=>cases e
  |@cons k _ _ _ _ _ _=>cases k<;>cases e
 |dt a r=>cases e;exact⟨_,_,rfl,a,r⟩
 |exc _ _=>cases e
def zO(neg:Bool):cK K (mW neg) (r2 (yr K neg)):=by
 intro H Hm vs ds P Q s r h q;obtain⟨x,y,w,d,rfl,rfl,h1,h2,h⟩:=oq r h;have dflt:Hx neg [w,d] P->r2 (yr K neg) [x,y] H Q:=λh=>.inl (Li neg H Hm _ _ P Q s r h q);have alt:∀kvs,d=.dict kvs->((kT w=true/\mJ kvs=true)/\P .sh (.bool (if neg then !(cF kvs w).isSome else(cF kvs w).isSome)))->r2 (yr K neg) [x,y] H Q:=λkvs e hz=>by
  subst e;obtain⟨⟨hk,hp⟩,hz⟩:=hz;obtain⟨k,rfl⟩:=pW hk;cases rM h1;obtain⟨a,es,rfl,ha,rt⟩:=qP h2 hp;refine .inr ⟨a,_,rfl,ic.k (s _ _ ha),?_⟩;have e:(cC es k).isSome=(cF kvs (bD k)).isSome:=by rcases rt.val (k:=k)with⟨e1,e2⟩|⟨v,d,e1,e2,_⟩;{rw[e1,e2];rfl};rw[e1,e2];rfl
  rw[e];exact bL.sc q s hz (.bl _)
 have h2':=h2;cases h2' with
 |dk _ rk=>
  cases rk with
  |nil=>exact alt _ rfl h
  |@cons k _ _ _ _ _ _=>cases k<;>exact alt _ rfl h
 |exc _ _=>exact alt _ rfl h
 |@dt _ _ kvs _ _=>
  cases w with
  |tuple ks=>
   obtain⟨k,rfl⟩:=jk h.1;obtain⟨b,rfl,hb⟩:=tT h1;obtain⟨a,es,e,ha,rt⟩:=EL h2;cases e;refine .inr ⟨_,_,rfl,ic.t (s _ _ ha) (s _ _ hb),?_⟩;have e:(cC es k).isSome=(cF kvs (.tuple (k.map bD))).isSome:=by rcases rt.val (k:=k)with⟨e1,e2⟩|⟨v,d,e1,e2,_⟩;{rw[e1,e2];rfl};rw[e1,e2];rfl
   rw[e];exact bL.sc q s h.2 (.bl _)
  |_=>exact alt _ rfl h
 |_=>exact dflt h
inductive Im(x:V) (y:V)(H:Hp)(Q:VK):Prop
 |mk:∀a v,(x=.ref a)->(ic H a y (some v))->(Q v H)->Im x y H Q
noncomputable def L8:R2:=λx y H Q=>Im x y H Q
def JD(hu:X.A.units+64<cLine):nY X L8:=by intro value slice pins s U H x y v u Q I rx ry h hs;obtain⟨a,w,rfl,g,q⟩:=h;cases rx;exact PyProof.Rows.tail_any (yJ I g) PySem.F.slot_dict_getitem.lookup (EC (by lia) I g ry λw' s3 I3 rw'=>⟨w,H,I3,rw',q⟩) hs
noncomputable def atK (xs:WC) (i:Int):Option PyData:=match i with
 |.ofNat n=>xs[n]?
 |.negSucc n=>cY xs (.negSucc n)
def rK{xs:WC}{i:Int}:atK xs i=cY xs i:=by
 cases i with
 |ofNat n=>unfold atK cY ly;show xs[n]?=_;rw[if_pos (show(0:Int)<=Int.ofNat n from Uh n)];by_cases h:n<xs.length;{rw[if_pos (show Int.ofNat n<(xs.length:Int)from UJ.mpr h)];rfl};rw[if_neg (show ¬Int.ofNat n<(xs.length:Int)from λz=>h (UJ.mp z))];exact Rb (Nat.le_of_not_lt h)
 |negSucc n=>rfl
noncomputable def av:DR:=λds P=>zo (λx y=>match x,y with
 |.list xs,.int i=>ay (atK xs i) (P .sh)
 |.tuple xs,.int i=>ay (atK xs i) (P .sh)
 |.dict ((.none,.none)::kvs),.tuple ks=>ks.all kT=true/\∃d,cF kvs (.tuple ks)=some d/\P .sh d
 |.dict kvs,w=>(kT w=true/\mJ kvs=true)/\∃d,cF kvs w=some d/\P .sh d
 |x,y=>Iq [x,y] P) ds
noncomputable def Bu (K:Frag):R2:=λx y H Q=>KZ K x y H Q\/L8 x y H Q
def Px(hu:X.A.units+64<cLine):nY X (Bu X.K):=C6.or (JD hu)
def Jf:cK K av (r2 (Bu K)):=by
 intro H Hm vs ds P Q s r h q;obtain⟨x,y,d,w,rfl,rfl,h2,h1,h⟩:=oq r h;have dflt:Iq [d,w] P->r2 (Bu K) [x,y] H Q:=λh=>.inl (LH H Hm _ _ P Q s r h q);have alt:∀kvs,d=.dict kvs->((kT w=true/\mJ kvs=true)/\∃d,cF kvs w=some d/\P .sh d)->r2 (Bu K) [x,y] H Q:=λkvs e hz=>by subst e;obtain⟨⟨hk,hp⟩,d,hv,hz⟩:=hz;obtain⟨k,rfl⟩:=pW hk;cases rM h1;obtain⟨a,es,rfl,ha,rt⟩:=qP h2 hp;rcases rt.val (k:=k)with⟨e1,e2⟩|⟨v,d',e1,e2,rv⟩;{rw[e1]at hv;cases hv};rw[e2]at hv;cases hv;exact .inr ⟨a,v,rfl,by rw[<-e1];exact ic.k (s _ _ ha),bL.sc q s hz rv⟩
 have h2':=h2;cases h2' with
 |lst _ _=>
  cases w with
  |int i=>have h:ay (atK _ i) (P .sh):=h;rw[rK,<-bf]at h;exact dflt h
  |_=>exact dflt h
 |tup _ _=>
  cases w with
  |int i=>have h:ay (atK _ i) (P .sh):=h;rw[rK,<-bf]at h;exact dflt h
  |_=>exact dflt h
 |dk _ rk=>
  cases rk with
  |nil=>exact alt _ rfl h
  |@cons k _ _ _ _ _ _=>cases k<;>exact alt _ rfl h
 |exc _ _=>exact alt _ rfl h
 |dt _ _=>
  cases w with
  |tuple ks=>obtain⟨hk,d,hv,hz⟩:=h;obtain⟨k,rfl⟩:=jk hk;obtain⟨b,rfl,hb⟩:=tT h1;obtain⟨a,es,e,ha,rt⟩:=EL h2;cases e;rcases rt.val (k:=k)with⟨e1,e2⟩|⟨v,d',e1,e2,rv⟩;{rw[e1]at hv;cases hv};rw[e2]at hv;cases hv;exact .inr ⟨_,v,rfl,by rw[<-e1];exact ic.t (s _ _ ha) (s _ _ hb),bL.sc q s hz rv⟩
  |_=>exact alt _ rfl h
 |_=>exact dflt h
noncomputable def dD:DR:=λds P=>match ds with
 |[.dict kvs]=>mJ kvs=true/\P .sh (.int kvs.length)
 |ds=>Fz ds P
def FY:cK K dD λxs H Q=>(∃p ys,xs=[.ref p]/\(bI K H p ys\/bM K H p ys)/\Q (.int ys.length) H)\/∃a kvs,xs=[V.ref a]/\H a=some (.dK kvs)/\Q (.int kvs.length) H:=by intro H Hm vs ds P Q s r h q;unfold dD at h;split at h;{obtain⟨x,rfl,h1⟩:=dg r;obtain⟨a,es,rfl,ha,rt⟩:=qP h1 h.1;exact .inr ⟨a,es,rfl,s _ _ ha,by rw[rt.len];exact bL.sc q s h.2 (.int _)⟩};exact .inl (Jp H Hm _ _ P Q s r h q)
noncomputable def F9:DE:=λ_ E Q=>Q E (.dk false) (.dict [])\/Q E (.dt false) (.dict [(.none,.none)])
def Ln(h1:PE X (.Dict [] [] pos) CL)(h2:PE X (.Dict [] [] pos) C8):SE X Ex Y (.Dict [] [] pos) F9:=by
 intro g x E U H Hm F P Q hx R p q;have go:∀(o:HO)(k:Kd)(d:PyData),P E k d->(∀p,Own X.K (upd H p o) Hm k (.ref p) d [p])->∀p,H p=none->Q (.ref p) (upd H p o):=λo k d p own a ha=>by have s2:=bY (o:=o) ha;have R2:=R.grow (H':=upd H a o) s2 (ah.refl _) (R.sub.trans s2) (λi b hb=>R.off i b hb) λ_ _=>.inl rfl;refine q _ _ _ _ _ Hm F [a] p R2 (ah.refl _) ⟨own a,λb hb=>?_,λb hb i=>?_,λb hb=>?_⟩;{rw[RE.mp hb];exact R.sV ha};{rw[RE.mp hb];exact R.fresh ha};rw[RE.mp hb];exact R.fK ha
 rcases p with p|p;{exact WE.of h1 (go _ _ _ p λ_=>.dk aC .nil)};exact WE.of h2 (go _ _ _ p λ_=>.dt aC .nil)
def Rl.Fg{F:Nat->WI}(R:Rl K g E U H Hm F){i:Nat}{a:Addr}(e:E[i]?=some (some (k,d)))(hF:F i=[a])(hv:U[i]?=some (some (.ref a)))(new:Own K (upd H a o) Hm k (.ref a) d' [a])(nt:oY o)(hp:k=.ow true->∃ds,d'=.list ds) : Rl K g (E.set i (some (k,d'))) U (upd H a o) Hm F:=by
 have ma:a∈F i:=by rw[hF];exact RC
 have na:=R.off i a ma;have up:∀b,b≠a->upd H a o b=H b:=λb hb=>aj hb;have li:=bx e;exact {
  len:=by rw[Rf];exact R.len
  sub:=λb u hb=>by
   have:b≠a:=λz=>by rw[z,na]at hb;cases hb
   rw[up b this];exact R.sub b u hb
  slot:=λj k' d'' e'=>by
   by_cases c:j=i
   .subst c;rw[aF li]at e';cases e';exact⟨_,hv,by rw[hF];exact new⟩
   .rw[ak (Ne.symm c)]at e';obtain⟨u,g1,g2⟩:=R.slot j k' d'' e';refine⟨u,g1,g2.step (ah.refl _) λb hb=>up b λz=>c (R.aG j i a (z▸hb) ma)⟩
  off:=R.off
  bu:=λj b hb=>by
   by_cases c:b=a
   .rw[c];exact⟨_,aC,nt⟩
   .rw[up b c];exact R.bu j b hb
  aG:=R.aG
  fr:=λq u hq ho=>by
   have:q≠a:=λz=>by
    rcases R.new i a ma with y|y
    .exact hq (z▸y)
    .rw[z,y]at ho;cases ho
   rw[up q this];exact R.fr q u hq ho
  new:=R.new
  pin:=λq hq=>by
   obtain⟨g1,ds',g2⟩:=R.pin q hq
   by_cases c:i=q.1
   .rw[<-c]at g1 g2⊢;rw[e]at g2;cases g2;obtain⟨ds,rfl⟩:=hp rfl;exact⟨g1,ds,aF li⟩
   .exact⟨g1,ds',by rw[ak c];exact g2⟩
  old:=R.old }
noncomputable def Io:Bo:=λo i v H Q=>G7 o i v H Q\/∃a H',o=.ref a/\pK H a i v H'/\Q H'
def Od(hu:X.A.units+64<cLine):FU X Io:=by intro pins s U H o i v ov iv u Q I ro ri rv h;rcases h with h|⟨a,H',rfl,g,q⟩;{exact set_list pins s U H o i v ov iv u Q I ro ri rv h};cases ro;exact Cq (by lia) I g ri rv λs' I'=>⟨H',I',q⟩
def J6{F:Nat->WI}{i:Nat}(R:Rl K g E U H Hm F)(ho:U[i]?=some (some o))(rw':Rp K Hm wv w)(rv:Rp K Hm vv v)(h:fF.setI E i w v Qe)(q:∀E' H',Qe E'->Rl K g E' U H' Hm F->Q H'):Io o wv vv H Q:=by
 unfold fF.setI at h;split at h
 .rename_i p ds a e;rw[<-bf,vO]at h;obtain⟨n,hn,h⟩:=h;cases rw';obtain⟨v',h1,h2⟩:=R.slot i _ _ e;rw[ho]at h1;cases h1;generalize hfi:F i=fi at h2;cases h2 with
  |@ow _ b xs _ ha hr=>refine .inl ⟨b,xs,a,n,rfl,rfl,ha,by rw[hr.len];exact hn,q _ _ h ?_⟩;exact R.Fg e hfi ho (.ow aC (hr.set rv n)) k8 λ_=>⟨_,rfl⟩
 .rename_i p kvs _ e;obtain⟨⟨hk,hl⟩,h⟩:=h;obtain⟨k,rfl⟩:=pW hk;cases rM rw';obtain⟨v',h1,h2⟩:=R.slot i _ _ e;rw[ho]at h1;cases h1;generalize hfi:F i=fi at h2;cases h2 with
  |@dk _ b es _ ha hr=>refine .inr ⟨b,_,rfl,pK.k ha (by rw[hr.len];exact hl),q _ _ h ?_⟩;exact R.Fg e hfi ho (.dk aC (hr.put k rv)) uA λz=>by cases z
 .rename_i p kv kvs ks e;obtain⟨⟨hk,hl⟩,h⟩:=h;obtain⟨k,rfl⟩:=jk hk;obtain⟨c,rfl,hc⟩:=tT rw';obtain⟨v',h1,h2⟩:=R.slot i _ _ e;rw[ho]at h1;cases h1;generalize hfi:F i=fi at h2;cases h2 with
  |@dt _ b es _ ha hr=>refine .inr ⟨b,_,rfl,pK.t ha (R.sub _ _ hc) (by rw[hr.len];exact hl),q _ _ h ?_⟩;exact R.Fg e hfi ho (.dt aC (hr.put k rv)) sF λz=>by cases z
 exact h.elim
def NZ{i jx:Nat}(hu:X.A.units+64<cLine)(hv:PE X (.Name x p) (kJ jx))(hj:(aS X)[jx]?=some i)(hs:swapsWithSole [.Subscript (.Name x p) j pos'] e pos.line X.env=pure false)
  (ha:∀v,assign (.Subscript (.Name x p) j pos') X.env v=(do
   let ov <-holding [v] (eval (.Name x p) X.env)
   let iv <-holding [v,ov] (eval j X.env)
   standAt pos'
   holding [v,ov,iv] (setItem ov iv v)
   release [v,ov,iv] []))(hd:SE X Ex (aS X) e de)(hd2:SE X Ex (aS X) j dj):S1 X Ex (.Assign [.Subscript (.Name x p) j pos'] e pos) (fF i dj de):=by
 intro g D' E U H Hm F D hx R pp nx rt;refine WS.of (Ez aX (Mw hv aX (Od hu) ha) hs) (hd g D'.xc E U H Hm F _ _ hx R pp λE1 k v u H1 Hm1 F1 fp p1 R1 s1 T=>?_)
 replace p1:bK k.fz _:=p1
 rw[dJ,dJ]at p1;obtain⟨hk,hh,p1⟩:=p1;obtain⟨Hm2,s2,R2,r2⟩:=T.dW R1 hk;obtain⟨o,ho⟩:=kY R2 hh;refine⟨o,cZ hj ho,hd2 g D'.xc E1 U H1 Hm2 F1 _ _ hx R2 p1 λE3 k3 v3 u3 H3 Hm3 F3 fp3 p3 R3 s3 T3=>?_⟩
 replace p3:bK k3.fz _:=p3
 rw[dJ]at p3;obtain⟨hk3,p3⟩:=p3;obtain⟨Hm4,s4,R4,r4⟩:=T3.dW R3 hk3;exact J6 R4 ho r4 (r2.mono (s3.trans s4)) p3 λE' H' q R'=>nx _ _ _ _ _ q R' (s1.trans (s2.trans (s3.trans s4)))
end
noncomputable def ini:WJ->WC->En
 |true::ms,d::ds=>some (.ow true,d)::ini ms ds
 |false::ms,d::ds=>some (.sh,d)::ini ms ds
 |_,_=>[]
noncomputable def eL:WJ->En->Option (WC)
 |[],_=>some []
 |true::ms,some (.ow true,.list es)::E=>(eL ms E).map (.list es::·)
 |false::ms,_::E=>eL ms E
 |_,_=>none
noncomputable def eO:WJ->Nat->WI->List (Nat×Addr)
 |true::ms,n,a::as=>(n,a)::eO ms (n+1) as
 |false::ms,n,as=>eO ms (n+1) as
 |_,_,_=>[]
noncomputable def fM:WJ->WI->List (WI)
 |true::ms,a::as=>[a]::fM ms as
 |false::ms,as=>[]::fM ms as
 |_,_=>[]
section
variable{K:Frag}{H Hm:Hp}
def Ag.yd(h:Ag K H Hm ms vs ds as):vs.length=ms.length:=by
 induction h with
 |nil=>rfl
 |sh _ _ ih=>rw[RT,RT,ih]
 |mu _ _ _ _ _ ih=>rw[RT,RT,ih]
def Ag.P7(h:Ag K H Hm ms vs ds as):(ini ms ds).length=vs.length:=by
 induction h with
 |nil=>rfl
 |sh _ _ ih=>rw[ini,RT,RT,ih]
 |mu _ _ _ _ _ ih=>rw[ini,RT,RT,ih]
def Ag.pins(h:Ag K H Hm ms vs ds as):∀n,(eO ms n as).map (·.2)=as:=by
 induction h with
 |nil=>exact λ_=>rfl
 |sh _ _ ih=>exact λn=>ih (n+1)
 |@mu _ _ _ _ a _ _ _ _ _ _ _ ih=>exact λn=>congrArg (a::·) (ih (n+1))
def Ag.slot(h:Ag K H Hm ms vs ds as):∀{i:Nat}{k:Kd}{d:PyData},(ini ms ds)[i]?=some (some (k,d))->∃v,vs[i]?=some v/\Own K H Hm k v d ((fM ms as)[i]?.getD []):=by
 induction h with
 |nil=>intro i k d e;simp[ini]at e
 |@sh ms vs ds as v d r _ ih=>
  intro i k d' e;rw[ini]at e;cases i with
  |zero=>cases e;exact⟨v,rfl,.sh r⟩
  |succ i=>exact ih e
 |@mu ms vs ds as a xs es h1 h2 h3 h4 _ ih=>
  intro i k d' e;rw[ini]at e;cases i with
  |zero=>cases e;exact⟨_,rfl,.ow h1 h2⟩
  |succ i=>exact ih e
def Ag.Hj(h:Ag K H Hm ms vs ds as):(∀(i:Nat) a,a∈(fM ms as)[i]?.getD []->a∈as/\Hm a=none/\∃xs,H a=some (.lst xs))/\∀(i j:Nat) a,a∈(fM ms as)[i]?.getD []->a∈(fM ms as)[j]?.getD []->i=j:=by
 induction h with
 |nil=>exact⟨λi a h=>by simp[fM]at h,λi j a h=>by simp[fM]at h⟩
 |@sh ms vs ds as v d r _ ih=>
  refine⟨λi a h=>?_,λi j a h1 h2=>?_⟩
  .rw[fM]at h;cases i with
   |zero=>simp at h
   |succ i=>exact ih.1 i a h
  rw[fM]at h1 h2;cases i with
  |zero=>simp at h1
  |succ i=>
   cases j with
   |zero=>simp at h2
   |succ j=>exact congrArg (·+1) (ih.2 i j a h1 h2)
 |@mu ms vs ds as a xs es g1 g2 g3 g4 _ ih=>
  refine⟨λi b h=>?_,λi j b h1 h2=>?_⟩
  .rw[fM]at h;cases i with
   |zero=>have h:b∈[a]:=h;rw[RE]at h;subst h;exact⟨RC,g3,xs,g1⟩
   |succ i=>obtain⟨y1,y2⟩:=ih.1 i b h;exact⟨RK _ y1,y2⟩
  rw[fM]at h1 h2;cases i with
  |zero=>
   have h1:b∈[a]:=h1;rw[RE]at h1;subst h1;cases j with
   |zero=>rfl
   |succ j=>exact absurd (ih.1 j b h2).1 g4
  |succ i=>
   cases j with
   |zero=>have h2:b∈[a]:=h2;rw[RE]at h2;subst h2;exact absurd (ih.1 i b h1).1 g4
   |succ j=>exact congrArg (·+1) (ih.2 i j b h1 h2)
def Ag.pin(h:Ag K H Hm ms vs ds as):∀n,∀q∈eO ms n as,∃i,q.1=n+i/\vs[i]?=some (.ref q.2)/\∃es,(ini ms ds)[i]?=some (some (.ow true,.list es)):=by
 induction h with
 |nil=>exact λn q h=>by cases h
 |@sh ms vs ds as v d r _ ih=>intro n q h;obtain⟨i,e,h1,h2⟩:=ih (n+1) q h;exact⟨i+1,by lia,h1,h2⟩
 |@mu ms vs ds as a xs es g1 g2 g3 g4 _ ih=>intro n q h;have h:q∈(n,a)::eO ms (n+1) as:=h;rcases RP.mp h with rfl|h;{exact⟨0,rfl,rfl,es,rfl⟩};obtain⟨i,e,h1,h2⟩:=ih (n+1) q h;exact⟨i+1,by lia,h1,h2⟩
def Ag.back{H' Hm':Hp}{E:En}(h:Ag K H Hm ms vs ds as):∀{n:Nat}{us:WC},(∀q∈eO ms n as,∃es xs,E[q.1]?=some (some (.ow true,.list es))/\H' q.2=some (.lst xs)/\aA K Hm' xs es/\Hm' q.2=none)->eL ms (E.drop n)=some us->Bk K H' Hm' as us:=by
 induction h with
 |nil=>intro n us _ e;cases e;exact .nil
 |@sh ms vs ds as v d r _ ih=>
  intro n us hq e;cases hE:E.drop n with
  |nil=>rw[hE]at e;cases e
  |cons o E'=>rw[hE]at e;refine ih (n:=n+1) hq ?_;rw[show E.drop (n+1)=E' from by rw[<-List.tail_drop,hE];rfl];exact e
 |@mu ms vs ds as a xs es g1 g2 g3 g4 _ ih=>
  intro n us hq e;obtain⟨es',xs',e1,e2,e3,e4⟩:=hq (n,a) RC;cases hE:E.drop n with
  |nil=>rw[hE]at e;cases e
  |cons o E'=>
   have ho:o=some (.ow true,.list es'):=by have:=List.getElem?_drop (xs:=E) (i:=n) (j:=0);rw[hE,Nat.add_zero]at this;have e1:E[n]?=_:=e1;rw[e1]at this;exact Option.some.inj this
   subst ho;rw[hE]at e;have e:(eL ms E').map (PyData.list es'::·)=some us:=e;cases hb:eL ms E' with
   |none=>rw[hb]at e;cases e
   |some us'=>rw[hb]at e;cases e;refine .cons e2 e3 e4 (ih (n:=n+1) (λq hq'=>hq q (RK _ hq')) ?_);rw[show E.drop (n+1)=E' from by rw[<-List.tail_drop,hE];rfl];exact hb
def Cr{n:Nat}(h:n<=U.length):sel (List.range n) U=U.take n:=by
 refine Rw λi=>?_;unfold sel;rw[RO,List.getElem?_take];by_cases c:i<n
 .rw[RI c,if_pos c];have l:i<U.length:=by lia
  rw[RS l];show some ((U[i]?).join)=some U[i];rw[RS l];rfl
 rw[if_neg c,Rb (by rw[RH];lia)];rfl
def Ag.rl(h:Ag K H Hm ms vs ds as)(s:ah Hm H) (m:Nat):Rl K ⟨H,Hm,eO ms 0 as⟩ (ini ms ds++List.replicate m none) (vs.map some++List.replicate m none) H Hm (λi=>(fM ms as)[i]?.getD []):=by
 have hM:Gh.M ⟨H,Hm,eO ms 0 as⟩=as:=h.pins 0;have inE:∀{i:Nat}{k:Kd}{d:PyData},(ini ms ds++List.replicate m none)[i]?=some (some (k,d))->(ini ms ds)[i]?=some (some (k,d)):=λ{i k d} e=>by rcases SA i (ini ms ds).length with l|l;{rwa[U4 l]at e};rw[UL l]at e;have:=Rj e;have:=List.eq_of_mem_replicate this;cases this
 have inV:∀{i:Nat}{v:V},vs[i]?=some v->(vs.map some++List.replicate m none)[i]?=some (some v):=λ{i v} e=>by have l:=bx e;rw[U4 (by rw[RA];exact l),RO,e];rfl
 exact {
  len:=by rw[RM,RM,h.P7,RA,SR,SR]
  sub:=s
  slot:=λi k d e=>by
   obtain⟨v,h1,h2⟩:=h.slot (inE e);exact⟨v,inV h1,h2⟩
  off:=λi a ha=>(h.Hj.1 i a ha).2.1
  bu:=λi a ha=>by
   obtain⟨_,_,xs,e⟩:=h.Hj.1 i a ha;exact⟨_,e,k8⟩
  aG:=λi j a h1 h2=>h.Hj.2 i j a h1 h2
  fr:=λp o _ e=>e
  new:=λi a ha=>.inl (by rw[hM];exact(h.Hj.1 i a ha).1)
  pin:=λq hq=>by
   obtain⟨i,e,h1,es,h2⟩:=h.pin 0 q hq;rw[Nat.zero_add]at e;rw[e];refine⟨inV h1,es,?_⟩;rw[U4 (bx h2)];exact h2
  old:=λ_ _=>.inl rfl }
end
section
variable{P:Program}{w:World}{K:Frag}{mg:Vt}{base:Heap}
noncomputable def aZ (ms:WJ)(Q:WC->Kd->PyData->Prop)(x:XC):gx where
 nx:=λE=>ay (eL ms E) λus=>Q us .sh .none
 rt:=λE k v=>ay (eL ms E) λus=>Q us k v
 xc:=x
def bF{f:Addr}{N ps:WQ}{k:Nat}{ms:WJ}{sp:bC}{d:DS}{m:Nat}(F:rJ K x qual st f fd)(S:aJ N ps (au st))(hl:ms.length=ps.length)(hm:N.length<=ps.length+m)(hb:∀(cdv:Value)(A:Around)(outer:List Env)(s:Shared)(H:Hp)(Ex:XK),dm k (A.deeper (PyProof.Rows.envOfC qual (au st) s.heap.objs.size f cdv))->SS (fX (eE P w) P w K mg base N qual (au st) f cdv A outer s H Ex) Ex (gQ st) d)(hd:∀(ds:WC)(Q:WC->Kd->PyData->Prop)(x:XC),sp ds Q x->d (aZ ms Q x) (ini ms ds++List.replicate m none)):gf P w K mg base (eE P w) (k+1) f fd ps (bX mg K ms sp):=by
 refine F.QL S (λvs H Q E h=>?_) (λcdv A outer s H vs Q E hr h=>?_);{obtain⟨ds,as,Hm,P',x,_,ag,_⟩:=h;rw[ag.yd,hl]};obtain⟨ds,as,Hm,P',xc,sm,ag,hsp,ret,exn⟩:=h;refine⟨_,iW,?_⟩;have R:=ag.rl sm m;have hpre:N.length >= vs.length:=by rw[ag.yd,hl];have:=congrArg List.length S.pre;rw[SQ]at this;lia
 have hsel:L2.start N vs=sel (List.range N.length) (vs.map some++List.replicate m none):=by
  have hv:vs.length=ps.length:=by rw[ag.yd,hl]
  rw[Cr (by rw[RM,RA,SR];lia)];unfold L2.start;rw[List.take_append,RA,Tp (by rw[RA];exact hpre),List.take_replicate];congr 2;lia
 rw[hsel];have hM:Gh.M ⟨H,Hm,eO ms 0 as⟩=as:=ag.pins 0;have fin:∀{E':En}{k:Kd}{v:PyData}{u:V}{σ':St}{H' Hm':Hp}{F':Nat->WI}{fp:WI},(ay (eL ms E') λus=>P' us k v)->Rl K ⟨H,Hm,eO ms 0 as⟩ E' σ' H' Hm' F'->Tm K ⟨H,Hm,eO ms 0 as⟩ F' H' Hm' k u v fp->Q u H':=by
  intro E' k v u σ' H' Hm' F' fp p R' T;rw[<-bf]at p;obtain⟨us,hus,p⟩:=p;refine ret us k v u H' Hm' fp p (λa o e=>?_) R'.sub (λp o hp e=>R'.fr p o (by rw[hM];exact hp) e) (λa _ ha=>R'.old a ha) ?_ T.own λa ha=>⟨T.new a ha,T.off a ha⟩
  .have:H a≠none:=λz=>by rw[sm _ _ e]at z;cases z
   rcases R'.old a this with e'|⟨e',_⟩;{exact e'.trans e};have e':Hm a=none:=e';rw[e]at e';cases e'
  refine ag.back (E:=E') (n:=0) (λq hq=>?_) (by rw[UT];exact hus);obtain⟨h1,es,h2⟩:=R'.pin q hq;obtain⟨v',h3,h4⟩:=R'.slot _ _ _ h2;have hF:=R'.wY hq;rw[h1]at h3;cases h3;rw[hF]at h4;cases h4 with
  |ow e1 e2=>exact⟨es,_,h2,e1,e2,R'.off q.1 q.2 (by rw[hF];exact RC)⟩
 refine hb cdv A outer s H E hr ⟨H,Hm,eO ms 0 as⟩ (aZ ms P' xc) _ _ H Hm _ _ (λc d' C a H' hC hx fr ha hn=>exn c d' C a H' hC hx (λp o hp ho=>fr p o (by rw[hM];exact hp) ho) ha hn) R (hd ds P' xc hsp) (λE' σ' H' Hm' F' p R' _=>?_) (λE' k v u σ' H' Hm' F' fp p R' T=>fin p R' T);exact fin (k:=.sh) (v:=.none) (u:=.bg) p R' (Tm.sh .bg)
end
section
variable{X:Cx}{Ex:XK}{Y:WN}
def xI{i:Int} {j}:SE X Ex Y (.Constant (.int i) j pos) (dC (.int i)):=wR L0 λ_=>.int i
def xS{j}:SE X Ex Y (.Constant (.str x) j pos) (dC (.str x)):=wR Es λ_=>.str x
def xB{b:Bool} {j}:SE X Ex Y (.Constant (.bool b) j pos) (dC (.bool b)):=wR Np λ_=>.bl b
def xN{j}:SE X Ex Y (.Constant .none j pos) (dC .none):=wR MQ λ_=>.bg
def xG{i:Int}(hm:∃t,X.mg x=some (.int i t))(hg:Gl X x:=by rfl)(hd:(x==("__debug__":Str))=false:=by decide):SE X Ex Y (.Name x pos) (dC (.int i)):=
 let⟨t,ht⟩:=hm
 wR (IB (v:=.int i) hg ht ⟨t,rfl⟩ hd) λ_=>.int i
def xV(j:Nat){i:Nat}(hN:X.N[j]?=some x:=by rfl)(hv:kK X.env.scope x:=by first|exact Or.inl rfl|exact Or.inr (Or.inl rfl)|exact Or.inr (Or.inr rfl))(hj:Y[j]?=some i:=by rfl)(hd:(x==("__debug__":Str))=false:=by decide)(hcd:(x==("__classdict__":Str))=false:=by decide):SE X Ex Y (.Name x pos) (aW i):=KD (fh hN hv hd hcd) hj
def a0:aN X Ex Y [] []:=.nil
def aP(j:Nat){i:Nat}(S:aN X Ex Y es as)(hN:X.N[j]?=some x:=by rfl)(hv:kK X.env.scope x:=by first|exact Or.inl rfl|exact Or.inr (Or.inl rfl)|exact Or.inr (Or.inr rfl))(hj:Y[j]?=some i:=by rfl)(hd:(x==("__debug__":Str))=false:=by decide)(hcd:(x==("__classdict__":Str))=false:=by decide):aN X Ex Y (.Name x pos::es) (.pk i::as):=.pk (fh hN hv hd hcd) hj S
def aE(h:SE X Ex Y e d)(S:aN X Ex Y es as):aN X Ex Y (e::es) (.ev d::as):=.ev h S
noncomputable def nH:DR:=mY λi j=>.int (i-j)
noncomputable def oJ:DR:=p9 (λ_ j=>0<j) λi j=>.int (i%j)
noncomputable def B9:DR:=p9 Ax λi j=>.int (i/j)
noncomputable def qE:DR:=p9 ya λi j=>.int (i^j.toNat)
noncomputable def kO:DR:=mY λi j=>.bool (decide (i<j))
noncomputable def Qv:DR:=mY λi j=>.bool (decide (i<=j))
noncomputable def oz:DR:=mY λi j=>.bool (decide (j<i))
noncomputable def LQ:DR:=mY λi j=>.bool (decide (j<=i))
noncomputable def fc:DR:=λds P=>match ds with
 |[.int a]=>P .sh (.int (-a))
 |_=>False
def IG:cK K fc (r1 (rU λi=>.int (-i))):=by intro H Hm vs ds P Q s r h q;unfold fc at h;split at h;{obtain⟨x,rfl,h1⟩:=dg r;cases h1;exact⟨_,rfl,bL.sc q s h (.int _)⟩};exact h.elim
variable{a b:Expr}{pos:Pos}{as:List Arg}
def cQ(S:aN X Ex Y [a,b] as):SE X Ex Y (.BinOp a .Add b pos) (aa b7 as):=jg Jc JS S
def vS(S:aN X Ex Y [a,b] as):SE X Ex Y (.BinOp a .Sub b pos) (aa nH as):=jg MP (iX λ_ _ _=>.int _) S
def eK(S:aN X Ex Y [a,b] as):SE X Ex Y (.BinOp a .Mult b pos) (aa cV as):=jg JJ II S
def ud(S:aN X Ex Y [a,b] as):SE X Ex Y (.BinOp a .Mod b pos) (aa oJ as):=jg Mv (mF λ_ _ _=>.int _) S
def Lu(S:aN X Ex Y [a,b] as):SE X Ex Y (.BinOp a .FloorDiv b pos) (aa B9 as):=jg GS (mF λ_ _ _=>.int _) S
def xg(S:aN X Ex Y [a,b] as):SE X Ex Y (.BinOp a .Pow b pos) (aa qE as):=jg LB (mF λ_ _ _=>.int _) S
def kC(S:aN X Ex Y [a] as):SE X Ex Y (.UnaryOp .USub a pos) (aa fc as):=NK M4 IG S
def O0(S:aN X Ex Y [a,b] as):SE X Ex Y (.Compare a [.Lt] [b] pos) (aa kO as):=tB Bv (gu _) (iX λ_ _ _=>.bl _) S
def QD(S:aN X Ex Y [a,b] as):SE X Ex Y (.Compare a [.Gt] [b] pos) (aa oz as):=tB HE (gu _) (iX λ_ _ _=>.bl _) S
def Ka(hu:X.A.units+64<cLine)(S:aN X Ex Y [a,b] as):SE X Ex Y (.Compare a [.Eq] [b] pos) (aa gM as):=tB (DL hu) (gu _) EO S
def OU(hu:X.A.units+64<cLine)(S:aN X Ex Y [a,b] as):SE X Ex Y (.Compare a [.NotEq] [b] pos) (aa mw as):=tB (El hu) (gu _) EW S
def uV(S:aN X Ex Y [a,b] as):bH X Ex Y (.Compare a [.Lt] [b] pos) (aa kO as):=gP Bv (gu _) (iX λ_ _ _=>.bl _) S
def xZ(S:aN X Ex Y [a,b] as):bH X Ex Y (.Compare a [.Gt] [b] pos) (aa oz as):=gP HE (gu _) (iX λ_ _ _=>.bl _) S
def QX(S:aN X Ex Y [a,b] as):bH X Ex Y (.Compare a [.GtE] [b] pos) (aa LQ as):=gP N7 (gu _) (iX λ_ _ _=>.bl _) S
def ql(hu:X.A.units+64<cLine)(S:aN X Ex Y [a,b] as):bH X Ex Y (.Compare a [.Eq] [b] pos) (aa gM as):=gP (DL hu) (gu _) EO S
def Hi(hu:X.A.units+64<cLine)(S:aN X Ex Y [a,b] as):bH X Ex Y (.Compare a [.NotEq] [b] pos) (aa mw as):=gP (El hu) (gu _) EW S
def OG(S:aN X Ex Y [a,b] as):bH X Ex Y (.Compare a [.Is] [b] pos) (aa (d9 false) as):=gP Kv (gu _) IA S
def QV(hu:X.A.units+64<cLine)(S:aN X Ex Y [a,b] as)(hm:behindInMarks .In b=false:=by rfl):bH X Ex Y (.Compare a [.In] [b] pos) (aa (mW false) as):=gP (L4 hu) hm (zO false) S
def PF(hu:X.A.units+64<cLine)(S:aN X Ex Y [a,b] as)(hm:behindInMarks .NotIn b=false:=by rfl):bH X Ex Y (.Compare a [.NotIn] [b] pos) (aa (mW true) as):=gP (Ct hu) hm (zO true) S
def Kp(h:SE X Ex Y e d)(he:∀whole,isTrue e X.env whole=(do let v <-whole;standAt e.pos;holding [v] (truthy v)):=by intro _;rfl):bH X Ex Y e d:=h.xO he
def tV(j:Nat){i:Nat}(hN:X.N[j]?=some x:=by rfl)(hv:kK X.env.scope x:=by first|exact Or.inl rfl|exact Or.inr (Or.inl rfl)|exact Or.inr (Or.inr rfl))(hj:Y[j]?=some i:=by rfl)(hd:(x==("__debug__":Str))=false:=by decide)(hcd:(x==("__classdict__":Str))=false:=by decide):ST X Ex Y (.Name x pos) (Ij i):=Pd (fh hN hv hd hcd) hj λ_=>rfl
def aQ(hu:X.A.units+64<cLine)(S:aN X Ex Y [a,b] as)(hs:lW b:=by intro _ _;rfl):SE X Ex Y (.Subscript a b pos) (aa av as):=N9 (Px hu) hs Jf S
variable{p:Pos}
def iR(hm:X.mg "len"=none)(S:aN X Ex Y [a] as)(hg:Gl X "len":=by rfl)(ns:noStar a=true:=by rfl):SE X Ex Y (.Call (.Name "len" p) [a] [] pos) (aa dD as):=eF (xJ.or CH) FY hg hm PySem.boot_len (by decide) (by decide) (by rw[RN,ns];rfl) S
def NU(hm:X.mg "list"=none)(S:aN X Ex Y [a] as)(hg:Gl X "list":=by rfl)(ns:noStar a=true:=by rfl):SE X Ex Y (.Call (.Name "list" p) [a] [] pos) (aa qb as):=pI wB Gj hg hm VT (by decide) (by decide) (by rw[RN,ns];rfl) S
def Mj(hm:X.mg "tuple"=none)(S:aN X Ex Y [a] as)(hg:Gl X "tuple":=by rfl)(ns:noStar a=true:=by rfl):SE X Ex Y (.Call (.Name "tuple" p) [a] [] pos) (aa lN as):=pI n5 DF hg hm PyProof.Rows.boot_tuple (by decide) (by decide) (by rw[RN,ns];rfl) S
def GD(hm:X.mg "min"=none)(S:aN X Ex Y [a,b] as)(hc:X.calm=true:=by rfl)(hg:Gl X "min":=by rfl)(ns:noStar a=true:=by rfl)(ns2:noStar b=true:=by rfl):SE X Ex Y (.Call (.Name "min" p) [a,b] [] pos) (aa sZ as):=eF (DW hc) HU hg hm VW (by decide) (by decide) (by rw[RN,RN,ns,ns2];rfl) S
def P8(hm:X.mg "max"=none)(S:aN X Ex Y [a,b] as)(hc:X.calm=true:=by rfl)(hg:Gl X "max":=by rfl)(ns:noStar a=true:=by rfl)(ns2:noStar b=true:=by rfl):SE X Ex Y (.Call (.Name "max" p) [a,b] [] pos) (aa Be as):=eF (EI hc) HU hg hm VX (by decide) (by decide) (by rw[RN,RN,ns,ns2];rfl) S
def BR(hm:X.mg "min"=none)(S:aN X Ex Y [a] as)(hc:X.calm=true:=by rfl)(hg:Gl X "min":=by rfl)(ns:noStar a=true:=by rfl):SE X Ex Y (.Call (.Name "min" p) [a] [] pos) (aa kU as):=eF (EN hc) Fp hg hm VW (by decide) (by decide) (by rw[RN,ns];rfl) S
def N1(hm:X.mg "max"=none)(S:aN X Ex Y [a] as)(hc:X.calm=true:=by rfl)(hg:Gl X "max":=by rfl)(ns:noStar a=true:=by rfl):SE X Ex Y (.Call (.Name "max" p) [a] [] pos) (aa BS as):=eF (D8 hc) Ge hg hm VX (by decide) (by decide) (by rw[RN,ns];rfl) S
def MV(hm:X.mg "int"=none)(S:aN X Ex Y [a] as)(hg:Gl X "int":=by rfl)(ns:noStar a=true:=by rfl):SE X Ex Y (.Call (.Name "int" p) [a] [] pos) (aa j5 as):=pI DX Fb hg hm VY (by decide) (by decide) (by rw[RN,ns];rfl) S
def rC(hm:X.mg "sum"=none)(S:aN X Ex Y [a] as)(hc:X.calm=true:=by rfl)(hg:Gl X "sum":=by rfl)(ns:noStar a=true:=by rfl):SE X Ex Y (.Call (.Name "sum" p) [a] [] pos) (aa nj as):=eF (CS hc) JU hg hm PyProof.Rows.boot_sum (by decide) (by decide) (by rw[RN,ns];rfl) S
def Eu(h1:X.mg "list"=none)(h2:X.mg "range"=none)(S:aN X Ex Y [a] as)(hc:X.calm=true:=by rfl)(g1:Gl X "list":=by rfl)(g2:Gl X "range":=by rfl)(ns:noStar a=true:=by rfl):SE X Ex Y (.Call (.Name "list" p) [.Call (.Name "range" p2) [a] [] pos2] [] pos) (aa ku as):=Gs hc g1 h1 g2 h2 ns S
def b6(S:aN X Ex Y es as)(ns:es.all noStar=true:=by rfl):SE X Ex Y (.List es pos) (aa bP as):=Nd ns S
def g8{k:Nat}(S:aN X Ex Y es as)(ns:es.all noStar=true:=by rfl):SE X Ex Y (.Tuple es k pos) (aa dX as):=Lg ns S
def PM:SE X Ex Y (.Dict [] [] pos) F9:=Ln FI FJ
variable{tg:Expr}
def jG(hm:X.mg "range"=none)(S:aN X Ex Y [a] as)(hg:Gl X "range":=by rfl)(ns:noStar a=true:=by rfl):SI X Ex Y tg (.Call (.Name "range" p) [a] [] pos) (fD gY as):=Ot hg hm ns S
def O5(hm:X.mg "range"=none)(S:aN X Ex Y [a,b] as)(hg:Gl X "range":=by rfl)(ns:noStar a=true:=by rfl)(ns2:noStar b=true:=by rfl):SI X Ex Y tg (.Call (.Name "range" p) [a,b] [] pos) (fD zX as):=NO hg hm ns ns2 S
def BQ{x1:Nat}(hm:X.mg "enumerate"=none)(h:SE X Ex Y a d)(hg:Gl X "enumerate":=by rfl)(ns:noStar a=true:=by rfl):SI X Ex Y (.Tuple elts x1 tp) (.Call (.Name "enumerate" p) [a] [] pos) (sG d):=NR hg hm ns h
def BC{x1:Nat}(hm:X.mg "zip"=none)(h:SE X Ex Y a d)(h2:SE X Ex Y b d2)(hg:Gl X "zip":=by rfl)(ns:noStar a=true:=by rfl)(ns2:noStar b=true:=by rfl):SI X Ex Y (.Tuple elts x1 tp) (.Call (.Name "zip" p) [a,b] [] pos) (Ck d d2):=Nm hg hm ns ns2 h h2
def gN(j:Nat){i:Nat}(hN:X.N[j]?=some x:=by rfl)(hj:Y[j]?=some i:=by rfl)(hl:Loc X.env.scope x:=by first|exact Or.inl rfl|exact Or.inr rfl)(hf:X.fn x=true\/X.env.scope.names.lookup x=some .local:=by first|exact Or.inl rfl|exact Or.inr rfl):fW X Y (.Name x p) (.nm i):=.nm hN hj hl hf
def g0:jD X Y [] []:=.nil
def gC(j:Nat){i:Nat}(t:jD X Y ts is)(hN:X.N[j]?=some x:=by rfl)(hj:Y[j]?=some i:=by rfl)(hl:Loc X.env.scope x:=by first|exact Or.inl rfl|exact Or.inr rfl)(hf:X.fn x=true\/X.env.scope.names.lookup x=some .local:=by first|exact Or.inl rfl|exact Or.inr rfl):jD X Y (.Name x p::ts) (i::is):=.cons hN hj hl hf t
def gT{k:Nat}(t:jD X Y ts is):fW X Y (.Tuple ts k p) (.tp is):=.tp t
def nA:Passes (eE X.prog X.w) X E0:=by rintro pins U H s e s' I⟨_,_,_,_,_,_,_,_,_,_,_,_,_,_,_,z⟩;exact z.elim
def aM{k k':Nat}(F:bN X.prog X.w X.K X.mg X.base k x ps (bX X.mg X.K ms sp))(hp:Passes (eE X.prog X.w) X Ex)(hr:dm k' X.A)(S:aN X Ex Y (e::es) as)(hk:k<=k':=by decide)(hg:Gl X x:=by rfl)(hd:(x==("__debug__":Str))=false:=by decide)(ns:(e::es).all noStar=true:=by rfl):SE X Ex Y (.Call (.Name x p) (e::es) [] pos) (aH sp ms as):=Jr F hp (hr.mono hk) hg hd ns S
def cN(h:SE X Ex (aS X) a d):S1 X Ex (.Return (some a) pos) (cy d):=OB h
def ie(i:Nat)(hN:X.N[i]?=some x:=by rfl)(hv:kK X.env.scope x:=by first|exact Or.inl rfl|exact Or.inr (Or.inl rfl)|exact Or.inr (Or.inr rfl))(hd:(x==("__debug__":Str))=false:=by decide)(hcd:(x==("__classdict__":Str))=false:=by decide):S1 X Ex (.Return (some (.Name x p)) pos) (eV i):=Mb (fh hN hv hd hcd) (bx hN)
def cW(h:SE X Ex (aS X) a d)(hs:swapsWith a none pos.line X.env=pure false:=by rfl):S1 X Ex (.Expr a pos) (cA d):=KY h hs
def aL(i:Nat)(hN:X.N.Nodup)(h:SE X Ex (aS X) a d)(hi:X.N[i]?=some x:=by rfl)(hl:Loc X.env.scope x:=by first|exact Or.inl rfl|exact Or.inr rfl)(hs:swapsWith a (some (.Name x p)) pos.line X.env=pure false:=by rfl)(hf:X.fn x=true\/X.env.scope.names.lookup x=some .local:=by first|exact Or.inl rfl|exact Or.inr rfl) : S1 X Ex (.Assign [.Name x p] a pos) (aB i d):=NP hN hi hl hs hf h
def B8{k:Nat}(hN:X.N.Nodup)(ht:jD X (aS X) ts is)(h:SE X Ex (aS X) a d)(hc:X.calm=true:=by rfl)(hs:swapsWithSole [.Tuple ts k p] a pos.line X.env=pure false:=by rfl)(hw:swappedStores [.Tuple ts k p] a X.env=pure none:=by rfl):S1 X Ex (.Assign [.Tuple ts k p] a pos) (qN is d):=N4 hc hN ht hs hw h
def mP(i:Nat)(hu:X.A.units+64<cLine)(hd:SE X Ex (aS X) a de)(hd2:SE X Ex (aS X) b dj)(hN:X.N[i]?=some x:=by rfl)(hv:kK X.env.scope x:=by first|exact Or.inl rfl|exact Or.inr (Or.inl rfl)|exact Or.inr (Or.inr rfl))(hs:swapsWithSole [.Subscript (.Name x p) b pos'] a pos.line X.env=pure false:=by rfl)
  (ha:∀v,assign (.Subscript (.Name x p) b pos') X.env v=(do
   let ov <-holding [v] (eval (.Name x p) X.env)
   let iv <-holding [v,ov] (eval b X.env)
   standAt pos'
   holding [v,ov,iv] (setItem ov iv v)
   release [v,ov,iv] []):=by intro _;rfl)(hb:(x==("__debug__":Str))=false:=by decide)(hcd:(x==("__classdict__":Str))=false:=by decide):S1 X Ex (.Assign [.Subscript (.Name x p) b pos'] a pos) (fF i dj de):=NZ hu (fh hN hv hb hcd) (iV (bx hN)) hs ha hd hd2
def fU(hc:ST X Ex (aS X) a t)(ha:SS X Ex u d)(hb:SS X Ex v e):S1 X Ex (.If a u v pos) (cH t d e):=Qi hc ha hb
def DK(hp:PassesOwn (model X.prog X.w) X.A X.env X.xe)(hc:ST X Ex (aS X) a t)(hb:SS X Ex u d):S1 X Ex (.While a u [] pos) (oW t d):=JG hp hc hb
def dH(hp:PassesOwn (model X.prog X.w) X.A X.env X.xe)(hN:X.N.Nodup)(hi:SI X Ex (aS X) tg a di)(ht:fW X (aS X) tg t)(hb:SS X Ex u d)(hc:X.calm=true:=by rfl)(hs:∀x,foldedSetIterable a X.env x=pure x:=by intro _;rfl):S1 X Ex (.For tg a u [] pos) (cO di t d):=N6 hp hc hN hi ht hb hs
end
section
variable{X:Cx}{Ex:XK}{Y:WN}
def e0:qk X Ex Y [] []:=.nil
def eC(h:SE X Ex Y e d)(t:qk X Ex Y es ds):qk X Ex Y (e::es) (d::ds):=.cons h t
def xM(j:Nat){i:Nat}{x name:Str}{id:String}{p apos cpos:Pos}{es:WK}{ds:List DE}{f:DM}{r:V->List V->Hp->VK->Prop}(hm:uI X id r)(D:uQ X.K f r)(slot:Slot "list" name id)(hty:typeOf (.builtin id)=pure (.type "method_descriptor"))(S:qk X Ex Y es ds)(hN:X.N[j]?=some x:=by rfl)(hv:kK X.env.scope x:=by first|exact Or.inl rfl|exact Or.inr (Or.inl rfl)|exact Or.inr (Or.inr rfl))(hj:Y[j]?=some i:=by rfl)(ns:es.all noStar=true:=by rfl)(l30:decide (es.length<30)=true:=by rfl)(hline:(apos.endLine==cpos.line)=true:=by rfl)(hd:(x==("__debug__":Str))=false:=by decide)(hcd:(x==("__classdict__":Str))=false:=by decide):SE X Ex Y (.Call (.Attribute (.Name x p) name apos) es [] cpos) (iI f i ds):=Om hm D slot hty (fh hN hv hd hcd) hj ns (SY l30) hline S
noncomputable def kL:WN->Bool
 |[]=>true
 |a::r=>!r.contains a&&kL r
theorem gZ:∀{l:WN},kL l=true->l.Nodup
 |[],_=>Su
 |a::r,h=>by rw[kL,RJ,VU,UI,decide_eq_false_iff_not]at h;exact S8.mpr ⟨h.1,gZ h.2⟩
noncomputable def xQ (Y cs ix:WN)(vs:WQ)(sl:WN):Bool:=(cs.length==vs.length)&&ix.all (λi=>Nat.blt i Y.length)&&cs.all (λc=>!Y.contains c)&&kL (bZ Y cs ix)&&sl.all (λi=>cs.contains i)
def xY(h:xQ Y cs ix vs sl=true):cs.length=vs.length/\(∀i∈ix,i<Y.length)/\(∀c∈cs,c∉Y)/\(bZ Y cs ix).Nodup/\∀i∈sl,i∈cs:=by unfold xQ at h;rw[RJ,RJ,RJ,RJ,RX,RX,RX,beq_iff_eq]at h;obtain⟨⟨⟨⟨h1,h2⟩,h3⟩,h4⟩,h5⟩:=h;refine⟨h1,λi hi=>by simpa using h2 i hi,λc hc z=>?_,gZ h4,λi hi=>?_⟩;{have:=h3 c hc;rw[VU,UI,decide_eq_false_iff_not]at this;exact this z};have:=h5 i hi;rw[UI,Sy]at this;exact this
noncomputable def KJ (r:Vs):Bool:=r.all λg=>g.is_async==0
def CI(h:KJ r=true):∀g∈r,g.is_async=0:=λg hg=>by have:=RX.mp h g hg;simpa using this
variable{cs:WN}{elt tg iter:Expr}{ifs:WK}{scope:Scope}{pos:Pos}
def jy{rest:Vs}{vs NB:WQ}{ix:WN}{di:DI}{t:Tg}{c:DT}{r:DC}(B:l6 X.N X.env.scope scope vs NB ix=true)(hi:SI X Ex Y tg iter di)(ht:∀(C:Addr)(s:Shared)(H:Hp)(fp:WI),fW (X.block scope C NB s H fp) (bZ Y cs ix) tg t)(hif:∀(C:Addr)(s:Shared)(H:Hp)(fp:WI),kE (X.block scope C NB s H fp) E0 (bZ Y cs ix) ifs c)(hr:∀(C:Addr)(s:Shared)(H:Hp)(fp:WI)(D:Addr),SL (X.block scope C NB s H fp) (bZ Y cs ix) cs D elt (⟨tg,iter,ifs,0⟩::rest) scope pos 1 r)(hc:X.calm=true:=by rfl)(ck:xQ Y cs ix vs t.slots=true:=by rfl)(ha:KJ rest=true:=by rfl)(hs:∀v,foldedSetIterable iter X.env v=pure v:=by intro _;rfl):SE X Ex Y (.ListComp elt (⟨tg,iter,ifs,0⟩::rest) scope pos) (bW cs di t c r):=
 let⟨h1,h2,h3,h4,h5⟩:=xY ck
 LA (cE.of B) hc h1 h2 h3 h4 hi ht h5 hif hr (CI ha) hs
def uf{j:Nat}{y:Str}{py spos:Pos}{rest:Vs}{vs NB:WQ}{ix:WN}{di:DI}{t:Tg}{c:DT}{r:DC}(hN:X.N.Nodup)(B:l6 X.N X.env.scope scope vs NB ix=true)(hi:SI X Ex (aS X) tg iter di)(ht:∀(C:Addr)(s:Shared)(H:Hp)(fp:WI),fW (X.block scope C NB s H fp) (bZ (aS X) cs ix) tg t)(hif:∀(C:Addr)(s:Shared)(H:Hp)(fp:WI),kE (X.block scope C NB s H fp) E0 (bZ (aS X) cs ix) ifs c)(hr:∀(C:Addr)(s:Shared)(H:Hp)(fp:WI)(D:Addr),SL (X.block scope C NB s H fp) (bZ (aS X) cs ix) cs D elt (⟨tg,iter,ifs,0⟩::rest) scope pos 1 r)(hj:X.N[j]?=some y:=by rfl)(hy:X.env.scope.names.lookup y=some .local:=by rfl)(hsw:swapsWith (.ListComp elt (⟨tg,iter,ifs,0⟩::rest) scope pos) (some (.Name y py)) spos.line X.env=pure true:=by rfl)(hc:X.calm=true:=by rfl)(ck:xQ (aS X) cs ix vs t.slots=true:=by rfl)(ha:KJ rest=true:=by rfl)(hs:∀v,foldedSetIterable iter X.env v=pure v:=by intro _;rfl):S1 X Ex (.Assign [.Name y py] (.ListComp elt (⟨tg,iter,ifs,0⟩::rest) scope pos) spos) (aB j (bW cs di t c r)):=
 let⟨h1,h2,h3,h4,h5⟩:=xY ck
 Ov hN hj hy (cE.of B) hc h1 h2 h3 h4 hi ht h5 hif hr (CI ha) hs hsw
def dB{D:Addr}{k:Nat}(h:SE X E0 Y elt d)(hk:gens[k]?=none:=by rfl):SL X Y cs D elt gens scope pos k (bU sizeLine d):=Jv h hk
noncomputable def ve:PyData->Option String
 |.none=>some "NoneType"
 |.bool _=>some "bool"
 |.int _=>some "int"
 |.str _=>some "str"
 |.list _=>some "list"
 |.tuple _=>some "tuple"
 |.dict _=>none
noncomputable def iU (c t:String):Bool:=t==c||(c == "int" && t == "bool")
noncomputable def zY (c:String):DR:=λds P=>match ds with
 |[d]=>ay (ve d) λt=>P .sh (.bool (iU c t))
 |_=>False
noncomputable def tys:List String:=["NoneType","bool","int","str","list","tuple"]
noncomputable def wG (K:Frag)(cs:List String):Bool:=cs.all λc=>tys.all λt=>kitOne K (.type t) (.type c)==some (iU c t)
def LR{K:Frag}{cs:List String}(h:wG K cs=true){c t:String}(hc:c∈cs)(ht:t∈tys):kitOne K (.type t) (.type c)=some (iU c t):=by have:=RX.mp (RX.mp h c hc) t ht;simpa using this
def NG(s:ah Hm H)(r:Rp K Hm v d)(h:ve d=some t):gc K H v (.type t)/\t∈tys:=by
 cases r with
 |bg=>cases h;exact⟨.bg,by decide⟩
 |bl b=>cases h;exact⟨.bl b,by decide⟩
 |int i=>cases h;exact⟨.int i,by decide⟩
 |str x=>cases h;exact⟨.str x,by decide⟩
 |lst a _=>cases h;refine⟨?_,by decide⟩;rcases a with (a|⟨o,a⟩)|⟨its,n,a,_⟩;{exact .lst (s _ _ a)};{exact .dW (s _ _ a)};exact .kl a
 |tup a _=>cases h;exact⟨.tup (s _ _ a),by decide⟩
 |dk _ _=>cases h
 |dt _ _=>cases h
 |exc _ _=>cases h
def MT{css:List String}(kf:wG X.K css=true)(hc:css.contains c=true)(hm:X.mg "isinstance"=none)(hm2:X.mg x=none)(hv:bootBuiltins x=some (.type c))(hg:Gl X "isinstance")(hg2:Gl X x)(hn:x≠"__name__")(hd:(x==("__debug__":Str))=false)(ns:noStar a=true)(S:aN X Ex Y [a] as) : SE X Ex Y (.Call (.Name "isinstance" p) [a,.Name x p2] [] pos) (aa (zY c) as):=by refine fQ (r:=λvs H Q=>∃v t,vs=[v]/\gc X.K H v (.type t)/\t∈tys/\Q (.bl (iU c t)) H) S (λU H Q h=>WE.of (yu GQ hg hm PyProof.Rows.boot_isinstance (gU aX (gU (Ja (v:=.ty c) hg2 hm2 hv rfl hn hd) lP) (aU ns)) (by decide) (by decide) (aU ns) (by rfl)) ?_) ?_;{refine λpins s I=>aO (h pins s I) λv s1 ⟨y,H1,I1,r1,w,t,e,ty,ht,q⟩=>⟨y,H1,I1,r1,?_⟩;cases e;refine⟨_,_,_,_,rfl,ty,λu hu=>?_,q⟩;cases hu;exact LR kf (by simpa using hc) ht};intro H Hm vs ds P Q s r h q;unfold zY at h;split at h;{obtain⟨v,rfl,h1⟩:=dg r;rw[<-bf]at h;obtain⟨t,e,h⟩:=h;obtain⟨ty,ht⟩:=NG s h1 e;exact⟨v,t,rfl,ty,ht,bL.sc q s h (.bl _)⟩};exact h.elim
def LP(kf:wG X.K css=true)(hm:X.mg "isinstance"=none)(hm2:X.mg x=none)(hv:bootBuiltins x=some (.type c))(S:aN X Ex Y [a] as)(hc:css.contains c=true:=by decide)(hg:Gl X "isinstance":=by rfl)(hg2:Gl X x:=by rfl)(hn:x≠"__name__":=by decide)(hd:(x==("__debug__":Str))=false:=by decide)(ns:noStar a=true:=by rfl) : SE X Ex Y (.Call (.Name "isinstance" p) [a,.Name x p2] [] pos) (aa (zY c) as):=MT kf hc hm hm2 hv hg hg2 hn hd ns S
end
end Dv
namespace Dv
open PySem L2 PySem.W
open Classical in
noncomputable def Gh.gG (g:Gh)(H:Hp)(fp:WI):Gh:=⟨λa=>if a∈fp then H a else g.H0 a,λa=>if a∈fp then none else g.dG a,g.pins⟩
section
variable{K:Frag}{g:Gh}{E:En}{U:St}{H H' Hm Hm':Hp}{F:Nat->WI}{fp:WI}
def lR{a:Addr}(h:a∈fp):(g.gG H fp).H0 a=H a:=by unfold Gh.gG;exact if_pos h
def gD{a:Addr}(h:a∉fp):(g.gG H fp).H0 a=g.H0 a:=by unfold Gh.gG;exact if_neg h
def Dg{a:Addr}(h:a∈fp):(g.gG H fp).dG a=none:=by unfold Gh.gG;exact if_pos h
def zc{a:Addr}(h:a∉fp):(g.gG H fp).dG a=g.dG a:=by unfold Gh.gG;exact if_neg h
structure nS(g:Gh)(F:Nat->WI)(H Hm:Hp)(fp:WI):Prop where
 yX:∀a∈fp,∃u,H a=some u/\oY u
 off:∀a∈fp,Hm a=none
 aG:∀a∈fp,∀i,a∉F i
 new:∀a∈fp,g.H0 a=none
def nS.bu(A:nS g F H Hm fp):∀a∈fp,H a≠none:=λa ha z=>by obtain⟨u,hu,_⟩:=A.yX a ha;rw[z]at hu;cases hu
def nS.notM(A:nS g F H Hm fp)(R:Rl K g E U H Hm F):∀a∈fp,a∉g.M:=λa ha m=>by obtain⟨q,hq,rfl⟩:=RG.mp m;exact A.aG _ ha q.1 (by rw[R.wY hq];exact RC)
theorem Rl.gG(R:Rl K g E U H Hm F)(A:nS g F H Hm fp):Rl K (g.gG H fp) E U H Hm F where
 len:=R.len
 sub:=R.sub
 slot:=R.slot
 off:=R.off
 bu:=R.bu
 aG:=R.aG
 fr:=λp o hp ho=>by
  by_cases c:p∈fp
  .rw[lR c]at ho;exact ho
  .rw[gD c]at ho;exact R.fr p o hp ho
 new:=λi a ha=>by
  have c:a∉fp:=λz=>A.aG a z i ha
  rw[gD c];exact R.new i a ha
 pin:=R.pin
 old:=λa ha=>by
  by_cases c:a∈fp
  .rw[Dg c];exact .inl (A.off a c)
  .rw[gD c]at ha;rw[zc c];exact R.old a ha
def Rl.yE{F':Nat->WI}(A:nS g F H Hm fp)(nM:∀a∈fp,a∉g.M)(R:Rl K (g.gG H fp) E' σ' H' Hm' F'):Rl K g E' σ' H' Hm' F'/\nS g F' H' Hm' fp/\∀a∈fp,H' a=H a:=by
 have keep:∀a∈fp,H' a=H a:=λa ha=>by
  cases e:H a with
  |none=>exact absurd e (A.bu a ha)
  |some o=>exact R.fr a o (nM a ha) (by rw[lR ha];exact e)
 refine⟨?_,⟨λa ha=>by rw[keep a ha];exact A.yX a ha,λa ha=>?_,λa ha i z=>?_,A.new⟩,keep⟩
 .exact {
   len:=R.len
   sub:=R.sub
   slot:=R.slot
   off:=R.off
   bu:=R.bu
   aG:=R.aG
   fr:=λp o hp ho=>by
    have c:p∉fp:=λz=>by rw[A.new p z]at ho;cases ho
    exact R.fr p o hp (by rw[gD c];exact ho)
   new:=λi a ha=>by
    rcases R.new i a ha with m|m
    .exact .inl m
    .by_cases c:a∈fp
     .exact .inr (A.new a c)
     .rw[gD c]at m;exact .inr m
   pin:=R.pin
   old:=λa ha=>by
    have c:a∉fp:=λz=>ha (A.new a z)
    have h':=R.old a (by rw[gD c];exact ha)
    rw[zc c]at h';exact h' }
 .have h':=R.old a (by rw[lR ha];exact A.bu a ha);obtain⟨u,hu,nt⟩:=A.yX a ha;exact h'.off (Dg ha) R.sub (by rw[keep a ha];exact hu) nt
 rcases R.new i a z with m|m;{exact nM a ha m};rw[lR ha]at m;exact A.bu a ha m
def dU.snoc{b:Addr}(e:H b=some (.lst ys))(r:aA K Hm ys es)(i:dU K H Hm xs ds fp):b∉fp->dU K H Hm (xs++[.ref b]) (ds++[.list es]) (fp++[b]):=by
 induction i with
 |nil=>exact λn=>.own e r n .nil
 |kH h1 h2 t ih=>exact λn=>.kH h1 h2 (ih n)
 |own h1 h2 h3 t ih=>intro n;refine .own h1 h2 (λz=>?_) (ih λz=>n (RK _ z));rcases RY.mp z with z|z;{exact h3 z};exact n (RE.mp z▸RC)
theorem dU.get:∀{xs:List V}{ds:WC}{fp:WI}{m:Nat},dU K H Hm xs ds fp->ds[m]?=some (.list es)->∃b ys,xs[m]?=some (.ref b)/\H b=some (.lst ys)/\aA K Hm ys es/\b∈fp
 |_,_,_,_,.nil,h=>by simp at h
 |_,_,_,0,.kH e _ _,h=>by simp at h;rw[h]at e;cases e
 |_,_,_,m+1,.kH _ _ t,h=>t.get (m:=m) (by simpa using h)
 |_,_,_,0,.own e r _ _,h=>by simp at h;subst h;exact⟨_,_,rfl,e,r,RC⟩
 |_,_,_,m+1,.own _ _ _ t,h=>by obtain⟨b,ys,h1,h2,h3,h4⟩:=t.get (m:=m) (by simpa using h);exact⟨b,ys,h1,h2,h3,RK _ h4⟩
theorem dU.put{b:Addr}(r:aA K Hm ys new):∀{xs:List V}{ds:WC}{fp:WI}{m:Nat},dU K H Hm xs ds fp->xs[m]?=some (.ref b)->(∃es,ds[m]?=some (.list es))->dU K (upd H b (.lst ys)) Hm xs (ds.set m (.list new)) fp
 |_,_,_,_,.nil,h,_=>by simp at h
 |_,_,_,0,.kH e _ _,_,⟨es,h⟩=>by simp at h;rw[h]at e;cases e
 |_,_,_,m+1,.kH e h2 t,h,⟨es,h'⟩=>.kH e h2 (t.put (m:=m) r (by simpa using h) ⟨es,by simpa using h'⟩)
 |_,_,_,0,.own (b:=b') e r' n t,h,_=>by simp at h;subst h;exact .own aC r n (t.step (ah.refl _) λa ha=>aj λz=>n (z▸ha))
 |_,_,_,m+1,.own (b:=b') (fp:=fp) e r' n t,h,⟨es,h'⟩=>by have h:_:=h;obtain⟨b2,ys2,g1,g2,g3,g4⟩:=t.get (m:=m) (es:=es) (by simpa using h');simp at h;rw[h]at g1;cases g1;refine .own (by rw[aj (show b'≠b from λz=>n (by rw[z];exact g4))];exact e) r' n (t.put (m:=m) r h ⟨es,by simpa using h'⟩)
def Rl.PK(R:Rl K g E U H Hm F){i:Nat}{b:Addr}(e:E[i]?=some (some (k,d)))(hv:U[i]?=some (some v))(hb:b∈F i)(new:Own K (upd H b o) Hm k v d' (F i))(nt:oY o)(hp:k=.ow true->∃ds,d'=.list ds) : Rl K g (E.set i (some (k,d'))) U (upd H b o) Hm F:=by
 have na:=R.off i b hb;have up:∀c,c≠b->upd H b o c=H c:=λc hc=>aj hc;have li:=bx e;exact {
  len:=by rw[Rf];exact R.len
  sub:=λc u hc=>by
   have:c≠b:=λz=>by rw[z,na]at hc;cases hc
   rw[up c this];exact R.sub c u hc
  slot:=λj k' d'' e'=>by
   by_cases c:j=i
   .subst c;rw[aF li]at e';cases e';exact⟨_,hv,new⟩
   .rw[ak (Ne.symm c)]at e';obtain⟨u,g1,g2⟩:=R.slot j k' d'' e';refine⟨u,g1,g2.step (ah.refl _) λa ha=>up a λz=>c (R.aG j i b (z▸ha) hb)⟩
  off:=R.off
  bu:=λj a ha=>by
   by_cases c:a=b
   .rw[c];exact⟨_,aC,nt⟩
   .rw[up a c];exact R.bu j a ha
  aG:=R.aG
  fr:=λq u hq ho=>by
   have:q≠b:=λz=>by
    rcases R.new i b hb with y|y
    .exact hq (z▸y)
    .rw[z,y]at ho;cases ho
   rw[up q this];exact R.fr q u hq ho
  new:=R.new
  pin:=λq hq=>by
   obtain⟨g1,ds',g2⟩:=R.pin q hq
   by_cases c:i=q.1
   .rw[<-c]at g1 g2⊢;rw[e]at g2;cases g2;obtain⟨ds,rfl⟩:=hp rfl;exact⟨g1,ds,aF li⟩
   .exact⟨g1,ds',by rw[ak c];exact g2⟩
  old:=R.old }
def Jt(h:b5 t d E=some E'):E'.length=E.length:=by
 have go:∀{is:WN}{ds:WC}{E E':En},bA is ds E=some E'->E'.length=E.length:=by
  intro is;induction is with
  |nil=>intro ds E E' h;cases ds with|nil=>cases h;rfl|cons _ _=>cases h
  |cons j is ih=>
   intro ds E E' h;cases ds with
   |nil=>cases h
   |cons d ds=>rw[bA]at h;by_cases o:bJ E j=true;{rw[if_pos o]at h;rw[ih h,Rf]};rw[if_neg o]at h;cases h
 cases t with
 |nm j=>exact go (is:=[j]) h
 |tp js=>
  cases d with
  |tuple ds=>exact go (is:=js) h
  |_=>cases h
 |nt j js=>obtain⟨a,ds,rfl,h⟩:=um h;exact go (is:=j::js) h
end
section
variable{X:Cx}{Ex:XK}{Y cs:WN}{elt tg iter:Expr}{ifs:WK}{scope:Scope}{pos:Pos}
def GF{vs:WQ}{t:Tg}(B:cE X scope vs NB ix)(hc:X.calm=true)(hcs:cs.length=vs.length)(hix:∀i∈ix,i<Y.length)(aG:∀c∈cs,c∉Y)(nd:(bZ Y cs ix).Nodup)(hi:SI X Ex Y tg iter di)(ht:∀(C:Addr)(s:Shared)(H:Hp)(fp:WI),fW (X.block scope C NB s H fp) (bZ Y cs ix) tg t)(hts:∀i∈t.slots,i∈cs)(hif:∀(C:Addr)(s:Shared)(H:Hp)(fp:WI),kE (X.block scope C NB s H fp) E0 (bZ Y cs ix) ifs c)(hr:∀(C:Addr)(s:Shared)(H:Hp)(fp:WI),SE (X.block scope C NB s H fp) E0 (bZ Y cs ix) elt e)(hs:∀v,foldedSetIterable iter X.env v=pure v){w:(V->Hp->Prop)->St->Hp->Prop}(hw:∀{wi:TI}{G:TG}{tt:TT}{tr:TL}{U:St}{H:Hp}{Q:VK},PI X tg iter wi->(∀(C:Addr)(s:Shared)(H:Hp)(fp:WI),PG (X.block scope C NB s H fp) tg G)->(∀(C:Addr)(s:Shared)(H:Hp)(fp:WI),uS (X.block scope C NB s H fp) ifs tt)-> (∀(C:Addr)(s:Shared)(H:Hp)(fp:WI)(D:Addr),PL (X.block scope C NB s H fp) D elt (⟨tg,iter,ifs,0⟩::[]) scope pos 1 tr)->sf wi vs.length ix G tt tr U H Q->w Q U H)(g:Gh)(x:XC)(E:En)(U:St)(H Hm:Hp)(F:Nat->WI)(P:En->Kd->PyData->Prop)(Q:VK)(hx:XL X Ex x g)(R:Rl X.K g E U H Hm F)(p:oM sizeLine cs di t c e x E P)(q:∀E' k v u H' Hm' F' fp,P E' k v->Rl X.K g E' U H' Hm' F'->ah Hm Hm'->Tm X.K g F' H' Hm' k u v fp->Q u H'):w Q (sel Y U) H:=by
 obtain⟨wi,hpi,hwi⟩:=hi;refine hw (wi:=wi) (G:=λv U H Q=>∀(C:Addr)(s:Shared)(H2:Hp)(fp:WI),WG (X.block scope C NB s H2 fp) tg v U H Q) (tt:=λU H Q=>∀(C:Addr)(s:Shared)(H2:Hp)(fp:WI),xj (X.block scope C NB s H2 fp) ifs U H Q)
  (tr:=Il λU H Q=>∀(C:Addr)(s:Shared)(H2:Hp)(fp:WI),WE (X.block scope C NB s H2 fp) elt U H Q) hpi (λC s H2 fp pins s' U H v u Q I r h=>h C s H2 fp pins s' u I r) (λC s H2 fp pins s' U H Q I h=>h C s H2 fp pins s' I)
  (λC s H2 fp D=>Aq (λpins s' U H Q I h=>h C s H2 fp pins s' I)) ?_
 refine hwi g x E U H Hm F _ _ hx R p λE1 xs J H1 Hm1 F1 p1 R1 s1 it1=>?_;obtain⟨E0',I,hcl,i0,step,fin⟩:=p1;obtain⟨σ0,F0,R0,a0,n0⟩:=R1.br hcl;rw[<-hcs,zm hix aG a0 λc hc=>(n0 c hc).1];refine⟨λi m ys τ H'=>m=xs.length-i/\i<=xs.length/\∃E' dys' σ' Hm' F' fp,I i dys' E'/\Rl X.K g E' σ' H' Hm' F'/\ah Hm1 Hm'/\dU X.K H' Hm' ys dys' fp/\nS g F' H' Hm' fp/\Agree cs σ0 σ'/\τ=sel (bZ Y cs ix) σ',
  ⟨xs.length,by simp,S3 _,E0',[],σ0,Hm1,F0,[],i0,R0,ah.refl _,.nil,⟨(λ_ z=>by cases z),(λ_ z=>by cases z),(λ_ z=>by cases z),λ_ z=>by cases z⟩,Agree.refl _ _,rfl⟩,?_⟩
 rintro i m ys τ H2⟨rfl,hi,E2,dys2,σ2,Hm2,F2,fp,i2,R2,s2,r2,A2,a2,rfl⟩;obtain⟨go,stop⟩:=it1 i H2 Hm2 s2 R2.sub;by_cases c':i<xs.length
 .obtain⟨go,qA⟩:=go xs[i] (RS c');refine .inr ⟨go,λys τ H'=>i+1<=xs.length/\∃E' dys' σ' Hm' F' fp,I (i+1) dys' E'/\Rl X.K g E' σ' H' Hm' F'/\ah Hm1 Hm'/\dU X.K H' Hm' ys dys' fp/\nS g F' H' Hm' fp/\Agree cs σ0 σ'/\τ=sel (bZ Y cs ix) σ',λys τ H' z=>⟨xs.length-(i+1),by lia,rfl,z⟩,λx H3 y C s H9 fp9=>?_⟩;obtain⟨Hm3,t1,t2,t3,old,rx⟩:=qA x H3 y;have R3:=R2.turn t1 t2 t3 old;have k3:∀a∈fp,H3 a=H2 a:=λa ha=>by
   cases e:H2 a with
   |none=>exact absurd e (A2.bu a ha)
   |some o=>exact t3 _ _ e
  have A3:nS g F2 H3 Hm3 fp:=⟨λa ha=>by rw[k3 a ha];exact A2.yX a ha,λa ha=>by
   obtain⟨u,hu,nt⟩:=A2.yX a ha;exact(old a (A2.bu a ha)).off (A2.off a ha) t2 (t3 _ _ hu) nt,A2.aG,A2.new⟩
  have r3:=r2.step (H':=H3) t1 k3;have nM:=A3.notM R3;obtain⟨E4,e4,p4⟩:=step i xs[i] dys2 E2 (RS c') i2;obtain⟨G,g1,g2⟩:=vI (X:=X.block scope C NB s H9 fp9) hc B.nd nd (ht C s H9 fp9);refine WG.of g1 (g2 (g:=g.gG H3 fp) e4 rx (R3.gG A3) λσ4 F4 R4 ag=>?_);have a4:Agree cs σ0 σ4:=a2.trans ⟨by rw[<-R3.len,<-R4.len,Jt e4],λj hj=>ag j λz=>hj (hts j z)⟩;intro C2 s2' H92 fp92;refine(hif C2 s2' H92 fp92).ok XL.no R4 p4 λE5 b H5 Hm5 F5 p5 R5 s5=>?_;cases b with
  |true=>
   refine nK λC3 s3' H93 fp93=>?_;refine hr C3 s3' H93 fp93 (g.gG H3 fp) xF E5 σ4 H5 Hm5 F5 _ _ XL.no R5 (by rw[if_pos rfl]at p5;exact p5) λE6 k6 v6 u6 H6 Hm6 F6 fp6 p6 R6 s6 T6=>?_;obtain⟨⟨pb,rfl⟩,hl,p6⟩:=p6;obtain⟨R6',A6,k6⟩:=Rl.yE A3 nM R6;have T1:=T6.own;have hlen:ys.length=dys2.length:=by
    have:∀{xs:List V}{ds:WC}{fp:WI}{H Hm:Hp},dU X.K H Hm xs ds fp->xs.length=ds.length:=by
     intro xs ds fp H Hm h;induction h with
     |nil=>rfl
     |kH _ _ _ ih=>rw[RT,RT,ih]
     |own _ _ _ _ ih=>rw[RT,RT,ih]
    exact this r2
   cases T1 with
   |@ow _ b zs es hb rz=>
    have nb:b∉fp:=λz=>by have:=T6.new b RC;rw[lR z]at this;exact A3.bu b z this
    have r6:=(r3.step (H':=H6) (s5.trans s6) k6).snoc hb rz nb;refine⟨by rw[hlen];exact hl,c',E6,_,σ4,Hm6,F6,fp++[b],p6,R6',s2.trans (t1.trans (s5.trans s6)),r6,⟨λa ha=>?_,λa ha=>?_,λa ha=>?_,λa ha=>?_⟩,a4,rfl⟩;{rcases RY.mp ha with ha|ha;{exact A6.yX a ha};rw[RE.mp ha];exact⟨_,hb,k8⟩};{rcases RY.mp ha with ha|ha;{exact A6.off a ha};rw[RE.mp ha];exact T6.off b RC};{rcases RY.mp ha with ha|ha;{exact A6.aG a ha};rw[RE.mp ha];exact T6.aG b RC};rcases RY.mp ha with ha|ha;{exact A6.new a ha};rw[RE.mp ha];have:=T6.new b RC;rw[gD nb]at this;exact this
  |false=>obtain⟨R5',A5,k5⟩:=Rl.yE A3 nM R5;exact nL ⟨c',E5,dys2,σ4,Hm5,F5,fp,by simpa using p5,R5',s2.trans (t1.trans s5),r3.step (H':=H5) s5 k5,A5,a4,rfl⟩
 have e:i=xs.length:=by lia
 subst e;refine .inl ⟨stop (RB _),λp hp=>?_⟩;obtain⟨E3,hcl2,p2⟩:=fin _ _ i2;obtain⟨σ3,F3,R3p,a3,n3⟩:=(R2.gG A2).br hcl2;obtain⟨R3,A3,_⟩:=Rl.yE A2 (A2.notM R2) R3p;have R3':=R3.agree (cs:=cs) ((a0.trans a2).trans a3).symm λc hc=>(n3 c hc).2;have s3:=bY (o:=.lst ys) hp;have R4:=R3'.grow (H':=upd H2 p (.lst ys)) s3 (ah.refl _) (R3'.sub.trans s3) (λi a ha=>R3'.off i a ha) λ_ _=>.inl rfl;have np:p∉fp:=λz=>A2.bu p z hp;refine q _ _ _ _ _ Hm2 F3 (p::fp) p2 R4 (s1.trans s2) ⟨.dp aC np (r2.step (H':=upd H2 p (.lst ys)) (ah.refl _) λa ha=>aj λz=>np (z▸ha)),λa ha=>?_,λa ha i=>?_,λa ha=>?_⟩;{rcases RP.mp ha with rfl|ha;{exact R3'.sV hp};exact A2.off a ha};{rcases RP.mp ha with rfl|ha;{exact R3'.fresh hp};exact A3.aG a ha i};rcases RP.mp ha with rfl|ha;{exact R3'.fK hp};exact A2.new a ha
end
section
variable{X:Cx}{Ex:XK}{Y cs:WN}{elt tg iter:Expr}{ifs:WK}{scope:Scope}{pos:Pos}
def P9{j:Nat}(hN:X.N.Nodup)(B:l6 X.N X.env.scope scope vs NB ix=true)(hi:SI X Ex (aS X) tg iter di)(ht:∀(C:Addr)(s:Shared)(H:Hp)(fp:WI),fW (X.block scope C NB s H fp) (bZ (aS X) cs ix) tg t)(hif:∀(C:Addr)(s:Shared)(H:Hp)(fp:WI),kE (X.block scope C NB s H fp) E0 (bZ (aS X) cs ix) ifs c)(hr:∀(C:Addr)(s:Shared)(H:Hp)(fp:WI),SE (X.block scope C NB s H fp) E0 (bZ (aS X) cs ix) elt e)(hj:X.N[j]?=some y:=by rfl)(hy:X.env.scope.names.lookup y=some .local:=by rfl)(hsw:swapsWith (.ListComp elt [⟨tg,iter,ifs,0⟩] scope pos) (some (.Name y py)) spos.line X.env=pure true:=by rfl)(hc:X.calm=true:=by rfl)(ck:xQ (aS X) cs ix vs t.slots=true:=by rfl)(hs:∀v,foldedSetIterable iter X.env v=pure v:=by intro _;rfl):S1 X Ex (.Assign [.Name y py] (.ListComp elt [⟨tg,iter,ifs,0⟩] scope pos) spos) (aB j (oM sizeLine cs di t c e)):=by
 obtain⟨h1,h2,h3,h4,h5⟩:=xY ck;have B':cE X scope vs NB ix:=cE.of B;have ha:∀g∈([]:Vs),g.is_async=0:=λ_ z=>by cases z
 rw[uv];intro g D' E U H Hm F D hx R p nx rt;refine GF B' hc h1 h2 h3 h4 hi ht h5 hif hr hs (w:=λQ τ H=>(Q=λu H1=>D.nx (τ.set j (some u)) H1)->WS X (.Assign [.Name y py] (.ListComp elt [⟨tg,iter,ifs,0⟩] scope pos) spos) D τ H)
  (λg1 g2 g3 g4 g5 e=>by
   subst e;exact WS.of (wQ hN hj hy B' hc g1 g2 g3 g4 hsw ha hs) g5) g D'.xc E U H Hm F _ _ hx R p (λE' k v u H' Hm' F' fp p' R' s' T=>?_) rfl
 rw[jQ TX (iV (bx hj)) (R'.len▸gK p'.1)];exact nx _ _ _ _ _ p'.2 (R'.put T p'.1) s'
def F8{i n:Nat}(h:cX E n=some E')(ne:i≠n):E'[i]?=E[i]?:=by unfold cX at h;split at h;{split at h;{cases h;exact ak (Ne.symm ne)};cases h};cases h
def KA{x y name:Str}{id:String}{p yp sp apos cpos:Pos}{jx:Expr}{f:DM}{r:V->List V->Hp->VK->Prop}{dj:DE}{i j n jn:Nat}(hm:uI X id r)(D:uQ X.K f r)(slot:Slot "list" name id)(hty:typeOf (.builtin id)=pure (.type "method_descriptor"))(hv:PE X (.Name x p) (kJ j))(hj:Y[j]?=some i)(hy:PE X (.Name y yp) (kJ jn))(hjn:Y[jn]?=some n)(hs:lW jx)(hd:SE X Ex Y jx dj)(hline:(apos.endLine==cpos.line)=true) : SE X Ex Y (.Call (.Attribute (.Subscript (.Name x p) jx sp) name apos) [.Name y yp] [] cpos) (wF f i dj n):=by
 intro g xc E U H Hm F P Q hx R h q;obtain⟨hh,h⟩:=h;obtain⟨o,ho⟩:=kY R hh;refine WE.of (BF VV slot hty hm (aX (e:=.Subscript (.Name x p) jx sp)) (dP (es:=[.Name y yp]) rfl) rfl (Dr rfl (show 1<30 by decide)) hline rfl rfl) ?_;refine WE.of (Ik C6 hv aX hs) ⟨o,cZ hj ho,?_⟩;refine hd g xc E U H Hm F _ _ hx R h λE1 k1 w u1 H1 Hm1 F1 fp1 p1 R1 s1 T1=>?_;obtain⟨a,pp,ds,m,es,k,d,E2,rfl,e1,hix,hes,en,ne,hf,p1⟩:=p1;cases T1.own.int;obtain⟨v',h1,h2⟩:=R1.slot i _ _ e1;rw[ho]at h1;cases h1;obtain⟨vn,Hm2,F2,hvn,s2,R2,rn⟩:=R1.cX en hf;have e2:E2[i]?=some (some (.dp pp,.list ds)):=(F8 hf ne).trans e1;obtain⟨v2,h3,h4⟩:=R2.slot i _ _ e2;rw[ho]at h3;cases h3;generalize hfi:F2 i=fi at h4;cases h4 with
 |@dp _ a0 xs _ fq ha0 n0 it0=>
  obtain⟨b,ys,hxm,hb,ry,mb⟩:=it0.get hes;have hlen:xs.length=ds.length:=by
   have:∀{xs:List V}{ds:WC}{fp:WI}{H Hm:Hp},dU X.K H Hm xs ds fp->xs.length=ds.length:=by
    intro xs ds fp H Hm h;induction h with
    |nil=>rfl
    |kH _ _ _ ih=>rw[RT,RT,ih]
    |own _ _ _ _ ih=>rw[RT,RT,ih]
   exact this it0
  refine .inl ⟨_,xs,a,.ref b,rfl,rfl,bI.of ha0,?_,.inl ⟨rfl,_,bI.of hb⟩,?_⟩;{show(ly xs.length a).bind (λj=>xs[j]?)=some (.ref b);rw[hlen,show ly ds.length a=some m from hix];exact hxm};refine WE.of hy ⟨vn,cZ hjn hvn,?_⟩;show r (.ref b) [vn] H1 Q;have mbF:b∈F2 i:=by rw[hfi];exact RK _ mb
  refine D H1 Hm2 b ys es [vn] [d] _ Q hb (R2.off i b mbF) R2.sub ry (.cons rn .nil) p1 λys' new u v p2 ry' ru=>?_;have nab:a0≠b:=λz=>n0 (z▸mb);have R3:=R2.PK (o:=.lst ys') (d':=.list (ds.set m (.list new))) e2 ho mbF (by
   rw[hfi];exact .dp (by rw[aj nab];exact ha0) n0 (it0.put ry' hxm ⟨es,hes⟩)) k8 λz=>by cases z
  exact q _ _ _ _ _ _ _ [] p2 R3 (s1.trans s2) (Tm.sh ru)
def OT(j jn:Nat){i n:Nat}{x y name:Str}{id:String}{p yp sp apos cpos:Pos}{jx:Expr}{f:DM}{r:V->List V->Hp->VK->Prop}{dj:DE}(hm:uI X id r)(D:uQ X.K f r)(slot:Slot "list" name id)(hty:typeOf (.builtin id)=pure (.type "method_descriptor"))(hd:SE X Ex Y jx dj)(hN:X.N[j]?=some x:=by rfl)(hv:kK X.env.scope x:=by first|exact Or.inl rfl|exact Or.inr (Or.inl rfl)|exact Or.inr (Or.inr rfl))(hj:Y[j]?=some i:=by rfl)(hNn:X.N[jn]?=some y:=by rfl)(hvn:kK X.env.scope y:=by first|exact Or.inl rfl|exact Or.inr (Or.inl rfl)|exact Or.inr (Or.inr rfl))(hjn:Y[jn]?=some n:=by rfl)(hs:lW jx:=by intro _ _;rfl)(hline:(apos.endLine==cpos.line)=true:=by rfl)(hb:(x==("__debug__":Str))=false:=by decide)(hcd:(x==("__classdict__":Str))=false:=by decide)(hbn:(y==("__debug__":Str))=false:=by decide)(hcn:(y==("__classdict__":Str))=false:=by decide) : SE X Ex Y (.Call (.Attribute (.Subscript (.Name x p) jx sp) name apos) [.Name y yp] [] cpos) (wF f i dj n):=KA hm D slot hty (fh hN hv hb hcd) hj (fh hNn hvn hbn hcn) hjn hs hd hline
end
section
variable{P:Program}{w:World}{K:Frag}{mg:Vt}{base:Heap}{N:WQ}{qual:Str}{scope:Scope}{f:Addr}{cd:Value}{A:Around}{outer:List Env}{s0:Shared}{H0:Hp}{Ex:XK}
def JI{j}(h:∃C,mg x=some (.ref C)/\kG K C CQ "ValueError.__new__" none=true)(hg:Gl (fX (eE P w) P w K mg base N qual scope f cd A outer s0 H0 Ex) x:=by rfl)(hdb:(x==("__debug__":Str))=false:=by decide) : S1 (fX (eE P w) P w K mg base N qual scope f cd A outer s0 H0 Ex) Ex (.Raise (some (.Call (.Name x np) [.Constant (.str y) j p] [] cpos)) none pos) (yC x):=by obtain⟨C,h⟩:=h;intro g D' E U H Hm F D hx R hp nx rt;refine WS.of (Gn h.2 hg h.1 (gU Es lP) hdb) ⟨by show 1<=sizeLine;decide,λa ha=>?_⟩;exact hx x .none C a _ h.1 hp (λp o hp ho=>bY ha _ _ (R.fr p o hp ho)) aC (R.fK ha)
end
end Dv
namespace Dv
open PySem L2
noncomputable def G4 (most:Nat)(E:En) (i:Nat)(v:PyData)(Q:En->Prop):Prop:=match E[i]?,v with
 |some (some (.ow p,.list ds)),.list es=>ds.length+es.length<=most/\Q (E.set i (some (.ow p,.list (ds++es))))
 |_,_=>False
universe u
noncomputable def aI {a b:Prop}(x:a)(y:b):a/\b:=⟨x,y⟩
theorem rr0:dC v x E Q=Q E .sh v:=rfl
theorem rr1:aW i x (o::E) Q=De (o::E) i Q:=rfl
theorem rr2:aa r as x (o::E) Q=gX as x (o::E) λE1 os=>xx r as E1 os Q:=rfl
theorem rr3:aH sp ms as x (o::E) Q=gX as x (o::E) λE1 os=>Ew sp ms as x E1 os Q:=rfl
theorem rr4:bG d x (o::E) Q=d x (o::E) λE' _ v=>sJ v (Q E'):=rfl
theorem rr5:Ij i x (o::E) Q=EG (o::E) i Q:=rfl
theorem rr6:Ma t x (o::E) Q=t x (o::E) λE' b=>Q E' (!b):=rfl
theorem rr7:jF a b x (o::E) Q=a x (o::E) λE1 _ v=>yT v λc=>cU c (b x E1 Q) (Q E1 .sh (.bool false)):=rfl
theorem rr8:yh a b x (o::E) Q=a x (o::E) λE1 _ v=>yT v λc=>cU c (Q E1 .sh (.bool true)) (b x E1 Q):=rfl
theorem rr9:Qd a x (o::E) Q=a x (o::E) λE1 _ v=>sJ v λc=>Q E1 .sh (.bool !c):=rfl
theorem rr10:ki f f' a b c x (o::E) Q=a x (o::E) λE1 _ u=>qd u λi=>b x E1 λE2 _ v=>qd v λj=>cU (f i j) (c x E2 λE3 _ w=>qd w λk=>Q E3 .sh (.bool (f' j k))) (Q E2 .sh (.bool false)):=rfl
theorem rr11:uU c a b x (o::E) Q=c x (o::E) λE1 t=>cU t (a x E1 Q) (b x E1 Q):=rfl
theorem rr12:c9 D E=D.nx E:=rfl
theorem rr13:ao a b D (o::E)=a { D with nx:=b D } (o::E):=rfl
theorem rr14:cH c a b D (o::E)=c D.xc (o::E) λE1 t=>cU t (a D E1) (b D E1):=rfl
theorem rr15:aB i e D (o::E)=e D.xc (o::E) λE' k v=>bK (qL E' i) (D.nx (E'.set i (some (k,v)))):=rfl
theorem rr16:qN is e D (o::E)=e D.xc (o::E) λE' k v=>bK k.fz (HQ is v E' D.nx):=rfl
theorem rr17:cy e D (o::E)=e D.xc (o::E) D.rt:=rfl
theorem rr18:eV i D (o::E)=CU (o::E) i D.rt:=rfl
theorem rr19:iI f i es x (o::E) Q=bK (i6 (o::E) i) (gX (es.map .ev) x (o::E) λE1 os=>Cn f i (es.map .ev) E1 os Q):=rfl
theorem rr20:fF i j e D (o::E)=e D.xc (o::E) λE1 k v=>bK k.fz (bK (here E1 i) (j D.xc E1 λE2 k2 w=>bK k2.fz (fF.setI E2 i w v D.nx))):=rfl
theorem rr21:PN f i e D (o::E)=bK (here (o::E) i) (e D.xc (o::E) λE1 _ v=>Lo f E1 i v D.nx):=rfl
theorem rr22:yC c D E=D.xc c .none:=rfl
theorem rr23:cA e D (o::E)=e D.xc (o::E) λE' _ _=>D.nx E':=rfl
theorem rr24:eU x E Q=Q E true:=rfl
theorem rr25:iE e x (o::E) Q=e x (o::E) λE' k v=>bK k.fz (HY v λxs=>Q E' xs):=rfl
theorem rr26:fD g as x (o::E) Q=gX as x (o::E) λE1 os=>ay (cj as E1 os) λds=>ay (g ds) λxs=>Q E1 xs:=rfl
theorem rr27:sG e x (o::E) Q=e x (o::E) λE' k v=>bK k.fz (qz v λds=>Q E' (iC ds)):=rfl
theorem rr28:Ck a b x (o::E) Q=a x (o::E) λE1 k v=>bK k.fz (b x E1 λE2 k2 v2=>bK k2.fz (qz v λds=>qz v2 λes=>Q E2 ((ds.zip es).map λp=>.tuple [p.1,p.2]))):=rfl
theorem rr29:bU most e x ys (o::E) Q=e x (o::E) λE1 k v=>k.fz=true/\ys.length<most/\Q (ys++[v]) E1:=rfl
theorem rr30:gX [] x E Q=Q E []:=rfl
theorem rr31:gX (.pk i::r) x (o::E) Q=bK (here (o::E) i) (gX r x (o::E) λE' os=>Q E' (none::os)):=rfl
theorem rr32:gX (.ev d::r) x (o::E) Q=d x (o::E) λE1 k v=>bK k.fz (gX r x E1 λE' os=>Q E' (some v::os)):=rfl
theorem rr33:cj [] E []=some []:=rfl
theorem rr34:∀{i:Nat}{r:List Arg}{o:Option (Kd×PyData)}{E:En}{os:List (Option PyData)},cj (.pk i::r) (o::E) (none::os)=match(o::E)[i]? with
  |some (some (k,d))=>cU k.rd ((cj r (o::E) os).map (d::·)) none
  |_=>none:=rfl
theorem rr35:∀{d:DE}{v:PyData}{r:List Arg}{E:En}{os:List (Option PyData)},cj (.ev d::r) E (some v::os)=(cj r E os).map (v::·):=rfl
theorem rr36:ay (some a) Q=Q a:=rfl
theorem rr37:ay none Q=False:=rfl
theorem rr38:here (o::E) i=match(o::E)[i]? with
  |some (some _)=>true
  |_=>false:=rfl
theorem rr39:aV (some (k,d))=!k.pin:=rfl
theorem rr40:aV none=true:=rfl
theorem rr41:i6 (o::E) i=match(o::E)[i]? with
  |some (some (.ow _,.list _))=>true
  |_=>false:=rfl
theorem rr42:iH (o::E) i=match(o::E)[i]? with
  |some (some (.sh,_))=>true
  |_=>false:=rfl
theorem rr43:qJ (o::E) i=match(o::E)[i]? with
  |some (some (k,d))=>cU k.fz (some ((o::E).set i (some (.sh,d)))) none
  |_=>none:=rfl
theorem rr44:gA [] E=some E:=rfl
theorem rr45:gA (i::r) E=(qJ E i).bind (gA r):=rfl
theorem rr46:De (o::E) i Q=match(o::E)[i]? with
  |some (some (_,d))=>ay (qJ (o::E) i) λE'=>Q E' .sh d
  |_=>False:=rfl
theorem rr47:CU (o::E) i Q=match(o::E)[i]? with
  |some (some (k,d))=>bK (!k.pin) (Q ((o::E).set i none) k d)
  |_=>False:=rfl
theorem rr48:EG (o::E) i Q=match(o::E)[i]? with
  |some (some (k,d))=>bK k.rd (sJ d (Q (o::E)))
  |_=>False:=rfl
theorem rr49:∀{r:DR}{as:List Arg}{o:Option (Kd×PyData)}{E:En}{os:List (Option PyData)}{Q:En->Kd->PyData->Prop},xx r as (o::E) os Q=ay (cj as (o::E) os) λds=>r ds λk v=>ay (qI as (o::E) k v) λE2=>Q E2 k v:=rfl
theorem rr50:∀{sp:bC}{ms:WJ}{as:List Arg}{x:XC}{o:Option (Kd×PyData)}{E:En}{os:List (Option PyData)}{Q:En->Kd->PyData->Prop},Ew sp ms as x (o::E) os Q=ay (cj as (o::E) os) λds=>bK (rV ms as (o::E)) (sp ds (λus k v=>EJ ms as (o::E) us k v Q) x):=rfl
theorem rr51:∀{f:DM}{i:Nat}{as:List Arg}{o:Option (Kd×PyData)}{E:En}{os:List (Option PyData)}{Q:En->Kd->PyData->Prop},Cn f i as (o::E) os Q=ay (cj as (o::E) os) λargs=>match(o::E)[i]? with
  |some (some (.ow p,.list ds))=>f ds args λnew v=>Q ((o::E).set i (some (.ow p,.list new))) .sh v
  |_=>False:=rfl
theorem rr52:Lo f (o::E) i v Q=match(o::E)[i]? with
  |some (some (_,.int a))=>qd v λb=>Q ((o::E).set i (some (.sh,.int (f a b))))
  |_=>False:=rfl
theorem rr53:sJ (.bool b) Q=Q b:=rfl
theorem rr54:yT (.bool b) Q=Q b:=rfl
theorem rr55:qd (.int i) Q=Q i:=rfl
theorem rr56:sJ (.list ds) Q=Q (!ds.isEmpty):=rfl
theorem rr57:HY (.list ds) Q=Q ds:=rfl
theorem rr58:HY (.tuple ds) Q=Q ds:=rfl
theorem rr59:qz (.list ds) Q=Q ds:=rfl
theorem rr60:qI as (o::E) k v=cU ((cJ as).all (iH (o::E))||flat k v) (some (o::E)) (gA (cJ as) (o::E)):=rfl
theorem rr61:cJ []=[]:=rfl
theorem rr62:cJ (.pk i::r)=i::cJ r:=rfl
theorem rr63:cJ (.ev d::r)=cJ r:=rfl
theorem rr64:Kd.fz .sh=true:=rfl
theorem rr65:Kd.fz (.ow false)=true:=rfl
theorem rr66:Kd.fz (.dp false)=true:=rfl
theorem rr67:Kd.fz (.dk false)=true:=rfl
theorem rr68:Kd.fz (.dt false)=true:=rfl
theorem rr69:Kd.rd .sh=true:=rfl
theorem rr70:Kd.rd (.ow p)=true:=rfl
theorem rr71:Kd.rd (.dp p)=true:=rfl
theorem rr72:Kd.rd (.dk p)=true:=rfl
theorem rr73:Kd.rd (.dt p)=true:=rfl
theorem rr74:Kd.pin .sh=false:=rfl
theorem rr75:Kd.pin (.ow p)=p:=rfl
theorem rr76:Kd.pin (.dp p)=p:=rfl
theorem rr77:Kd.pin (.dk p)=p:=rfl
theorem rr78:Kd.pin (.dt p)=p:=rfl
theorem rr79:flat .sh v=lf v:=rfl
theorem rr80:lf (.int i)=true:=rfl
theorem rr81:lf (.bool b)=true:=rfl
theorem rr82:lf (.str s)=true:=rfl
theorem rr83:lf .none=true:=rfl
theorem rr84:(aZ ms Q x).xc=x:=rfl
theorem rr85:(aZ ms Q x).nx (o::E)=ay (eL ms (o::E)) λus=>Q us .sh .none:=rfl
theorem rr86:(aZ ms Q x).rt (o::E) k v=ay (eL ms (o::E)) λus=>Q us k v:=rfl
theorem rr87:eL [] E=some []:=rfl
theorem rr88:eL (true::ms) (some (.ow true,.list es)::E)=(eL ms E).map (.list es::·):=rfl
theorem rr89:eL (false::ms) (o::E)=eL ms E:=rfl
theorem rr90:ini (true::ms) (d::ds)=some (.ow true,d)::ini ms ds:=rfl
theorem rr91:ini (false::ms) (d::ds)=some (.sh,d)::ini ms ds:=rfl
theorem rr92:ini [] []=[]:=rfl
theorem rr93:List.replicate (n+1) (none:Option (Kd×PyData))=none::List.replicate n none:=rfl
theorem rr94:List.replicate 0 (none:Option (Kd×PyData))=[]:=rfl
theorem rr95:∀{α β:Type}{f:α->β}{a:α},(some a).map f=some (f a):=rfl
theorem rr96:∀{α β:Type}{f:α->Option β}{a:α},(some a).bind f=f a:=rfl
theorem rr97:∀{α:Type}{p:α->Bool},[].all p=true:=rfl
theorem rr98:∀{α:Type}{p:α->Bool}{a:α}{l:List α},(a::l).all p=(p a&&l.all p):=rfl
theorem rr99:(true&&b)=b:=rfl
theorem rr100:(false&&b)=false:=rfl
theorem rr101:(true||b)=true:=rfl
theorem rr102:(false||b)=b:=rfl
theorem rr103:((!true)=false):=rfl
theorem rr104:((!false)=true):=rfl
theorem rr105:∀{α:Type}{l:List α},([]:List α)++l=l:=rfl
theorem rr106:∀{α:Type}{a:α}{l m:List α},(a::l)++m=a::(l++m):=rfl
theorem rr107:qL (o::E) i=match(o::E)[i]? with
  |some o=>aV o
  |none=>false:=rfl
theorem rr108:bK true P=P:=rfl
theorem rr109:bK false P=False:=rfl
theorem rr110:∀{α:Sort u}{a b:α},cU true a b=a:=rfl
theorem rr111:∀{α:Sort u}{a b:α},cU false a b=b:=rfl
theorem rr112:HQ is (.tuple ds) E Q=ay (stK is ds E) Q:=rfl
theorem rr113:stK [] [] E=some E:=rfl
theorem rr114:stK (i::is) (d::ds) (o::E)=cU (qL (o::E) i) (stK is ds ((o::E).set i (some (.sh,d)))) none:=rfl
theorem rr115:lA i []=false:=rfl
theorem rr116:lA i (j::l)=(i==j||lA i l):=rfl
theorem rr117:pB [] ks E=true:=rfl
theorem rr118:pB (i::r) ks E=((!lA i ks&&!lA i r&&i6 E i)&&pB r ks E):=rfl
theorem rr119:∀{α:Type}{o:α}{E:List α},(o::E)[0]?=some o:=rfl
theorem rr120:∀{α:Type}{o:α}{E:List α}{n:Nat},(o::E)[n+1]?=E[n]?:=rfl
theorem rr121:∀{α:Type}{o a:α}{E:List α},(o::E).set 0 a=a::E:=rfl
theorem rr122:∀{α:Type}{o a:α}{E:List α}{n:Nat},(o::E).set (n+1) a=o::E.set n a:=rfl
def dv:=aI @rr0<|aI @rr1<|aI @rr2<|aI @rr3<|aI @rr4<|aI @rr5<|aI @rr6<|aI @rr7<|aI @rr8<|aI @rr9<|aI @rr10<|aI @rr11<|aI @rr12<|aI @rr13<|aI @rr14<|aI @rr15<|aI @rr16<|aI @rr17<|aI @rr18<|aI @rr19<|aI @rr20<|aI @rr21<|aI @rr22<|aI @rr23<|aI @rr24<|aI @rr25<|aI @rr26<|aI @rr27<|aI @rr28<|aI @rr29<|aI @rr30<|aI @rr31<|aI @rr32<|aI @rr33<|aI @rr34<|aI @rr35<|aI @rr36<|aI @rr37<|aI @rr38<|aI @rr39<|aI @rr40<|aI @rr41<|aI @rr42<|aI @rr43<|aI @rr44<|aI @rr45<|aI @rr46<|aI @rr47<|aI @rr48<|aI @rr49<|aI @rr50<|aI @rr51<|aI @rr52<|aI @rr53<|aI @rr54<|aI @rr55<|aI @rr56<|aI @rr57<|aI @rr58<|aI @rr59<|aI @rr60<|aI @rr61<|aI @rr62<|aI @rr63<|aI @rr64<|aI @rr65<|aI @rr66<|aI @rr67<|aI @rr68<|aI @rr69<|aI @rr70<|aI @rr71<|aI @rr72<|aI @rr73<|aI @rr74<|aI @rr75<|aI @rr76<|aI @rr77<|aI @rr78<|aI @rr79<|aI @rr80<|aI @rr81<|aI @rr82<|aI @rr83<|aI @rr84<|aI @rr85<|aI @rr86<|aI @rr87<|aI @rr88<|aI @rr89<|aI @rr90<|aI @rr91<|aI @rr92<|aI @rr93<|aI @rr94<|aI @rr95<|aI @rr96<|aI @rr97<|aI @rr98<|aI @rr99<|aI @rr100<|aI @rr101<|aI @rr102<|aI @rr103<|aI @rr104<|aI @rr105<|aI @rr106<|aI @rr107<|aI @rr108<|aI @rr109<|aI @rr112<|aI @rr113<|aI @rr114<|aI @rr115<|aI @rr116<|aI @rr117<|aI @rr118<|aI @rr119<|aI @rr120<|aI @rr121<|@rr122
def dw:
 (∀{o:Option (Kd×PyData)}{E:En}{i:Nat},bJ (o::E) i=match(o::E)[i]? with
  |some o=>aV o
  |none=>false) /\
 (∀{P:Prop},(True/\P)=P) /\
 (∀{P:Prop},(P/\True)=P) /\
 (∀{α:Type}{a:α},(a=a)=True) /\
 (∀{b:Bool},(b||true)=true) /\
 (∀{α:Type}{a b:α},(if True then a else b)=a) /\
 (∀{α:Type}{a b:α},(if False then a else b)=b) /\
 (∀{p:Prop} [Decidable p],(decide p=true)=p) /\
 ((true=false)=False) /\
 ((false=true)=False) /\
 (∀{b:Bool},((!b)=true)=(b=false)) /\
 (∀{p:Prop} [Decidable p],(decide p=false)=¬p) /\
 (type_of%@dJ) /\
 (∀{α:Type}{p:Prop} [Decidable p]{a b:α},cU (decide p) a b=if p then a else b) /\
 (∀{p:Prop} [Decidable p]{a b:Prop},cU (decide p) a b=if p then a else b) /\
 (∀{b:Bool}{p q:Prop},cU b p q=if b=true then p else q) /\
 (∀{α:Type}{b:Bool}{p q:α},cU b p q=if b=true then p else q):=
 ⟨(by intro o E i;unfold bJ aV;generalize (o::E)[i]?=z;rcases z with _|_|⟨k,d⟩<;>rfl),(by intros;simp),(by intros;simp),(by intros;simp),(by intros;simp),(by intros;simp),(by intros;simp),(by intros;simp),(by intros;simp),(by intros;simp),(by intros;simp),(by intros;simp),@dJ,(by intros;rw[bO];simp only[Sy]),(by intros;rw[bO];simp only[Sy]),(by intros;exact bO),(by intros;exact bO)⟩
def QW{x:PyData}{l:WC}:cY (x::l) 0=some x:=by unfold cY ly;simp
def QA{x y:PyData}{l:WC}:cY (x::y::l) 1=some y:=by unfold cY ly;simp;rw[if_pos (by lia)];rfl
def Qw{n:Nat}:kq (n+1) 0=some 0:=by unfold kq;simp
def OZ{n:Nat}:kq (n+2) 1=some 1:=by unfold kq;simp;lia
theorem rr123:b7 [.int a,.int b] P=P .sh (.int (a+b)):=rfl
theorem rr124:b7 [.list a,.list b] P=(a.length+b.length<=sizeLine/\P (.ow false) (.list (a++b))):=rfl
theorem rr125:b7 [.tuple a,.tuple b] P=((a≠[]/\a.length+b.length<=sizeLine)/\P .sh (.tuple (a++b))):=rfl
theorem rr126:nH [.int a,.int b] P=P .sh (.int (a-b)):=rfl
theorem rr127:cV [.int a,.int b] P=(uq a b/\P .sh (.int (a*b))):=rfl
theorem rr128:cV [.list a,.int k] P=((-(2^63)<=k/\k<2^63/\a.length*k.toNat<=sizeLine)/\P (.ow false) (.list (List.replicate k.toNat a).flatten)):=rfl
theorem rr129:oJ [.int a,.int b] P=(0<b/\P .sh (.int (a%b))):=rfl
theorem rr130:B9 [.int a,.int b] P=(Ax a b/\P .sh (.int (a/b))):=rfl
theorem rr131:qE [.int a,.int b] P=(ya a b/\P .sh (.int (a^b.toNat))):=rfl
theorem rr132:kO [.int a,.int b] P=P .sh (.bool (decide (a<b))):=rfl
theorem rr133:Qv [.int a,.int b] P=P .sh (.bool (decide (a<=b))):=rfl
theorem rr134:oz [.int a,.int b] P=P .sh (.bool (decide (b<a))):=rfl
theorem rr135:LQ [.int a,.int b] P=P .sh (.bool (decide (b<=a))):=rfl
theorem rr136:fc [.int a] P=P .sh (.int (-a)):=rfl
theorem rr137:gM [.int a,.int b] P=P .sh (.bool (decide (a=b))):=rfl
theorem rr138:gM [.str a,.str b] P=P .sh (.bool (decide (a=b))):=rfl
theorem rr139:mw [.int a,.int b] P=P .sh (.bool !(decide (a=b))):=rfl
theorem rr140:mw [.str a,.str b] P=P .sh (.bool !(decide (a=b))):=rfl
theorem rr141:gM [.list a,.list b] P=((dl 8 (.list a)=true/\dl 8 (.list b)=true)/\P .sh (.bool (decide (PyData.list a=.list b)))):=rfl
theorem rr142:mw [.list a,.list b] P=((dl 8 (.list a)=true/\dl 8 (.list b)=true)/\P .sh (.bool !(decide (PyData.list a=.list b)))):=rfl
theorem rr143:av [.list xs,.int i] P=ay (atK xs i) (P .sh):=rfl
theorem rr144:av [.tuple xs,.int i] P=ay (atK xs i) (P .sh):=rfl
theorem rr145:dD [.list xs] P=P .sh (.int xs.length):=rfl
theorem rr146:dD [.tuple xs] P=P .sh (.int xs.length):=rfl
theorem rr147:qb [.list xs] P=P (.ow false) (.list xs):=rfl
theorem rr148:qb [.tuple xs] P=P (.ow false) (.list xs):=rfl
theorem rr149:lN [.list xs] P=P .sh (.tuple xs):=rfl
theorem rr150:lN [.tuple xs] P=P .sh (.tuple xs):=rfl
theorem rr151:sZ [.int a,.int b] P=P .sh (.int (if b<a then b else a)):=rfl
theorem rr152:Be [.int a,.int b] P=P .sh (.int (if b>a then b else a)):=rfl
theorem rr153:P0 [.int a] P=P .sh (.int (if a<0 then-a else a)):=rfl
theorem rr154:j5 [.int a] P=P .sh (.int a):=rfl
theorem rr155:j5 [.bool b] P=P .sh (.int (if b=true then 1 else 0)):=rfl
theorem rr156:ku [.int j] P=((0<=j/\j<=1000)/\P (.ow false) (.list (jl 0 j.toNat))):=rfl
theorem rr157:bP ds P=(ds.length<=sizeLine/\P (.ow false) (.list ds)):=rfl
theorem rr158:dX ds P=(ds.length<=sizeLine/\P .sh (.tuple ds)):=rfl
theorem rr159:jh false false [.list xs] P=P (.ow false) (.list (cutD xs none none)):=rfl
theorem rr160:jh true false [.list xs,.int a] P=P (.ow false) (.list (cutD xs (some a) none)):=rfl
theorem rr161:jh false true [.list xs,.int b] P=P (.ow false) (.list (cutD xs none (some b))):=rfl
theorem rr162:jh true true [.list xs,.int a,.int b] P=P (.ow false) (.list (cutD xs (some a) (some b))):=rfl
theorem rr163:jh false true [.tuple xs,.int b] P=P .sh (.tuple (cutD xs none (some b))):=rfl
theorem rr164:gY [.int j]=@ite _ (-(2^62)<=j/\j<2^62) (Classical.propDecidable _) (some (jl 0 j.toNat)) none:=rfl
theorem rr165:zX [.int i,.int j]=@ite _ (-(2^62)<=i/\i<2^62/\-(2^62)<=j/\j<2^62) (Classical.propDecidable _) (some (jl i (j-i).toNat)) none:=rfl
theorem rr166:zY c [d] P=ay (ve d) λt=>P .sh (.bool (iU c t)):=rfl
theorem rr167:ve (.int i)=some "int":=rfl
theorem rr168:ve (.tuple i)=some "tuple":=rfl
theorem rr169:ve (.list i)=some "list":=rfl
theorem rr170:ve (.bool b)=some "bool":=rfl
theorem rr171:ve .none=some "NoneType":=rfl
theorem rr172:iU "int" "int"=true:=rfl
theorem rr173:iU "int" "tuple"=false:=rfl
theorem rr174:iU "tuple" "int"=false:=rfl
theorem rr175:iU "tuple" "tuple"=true:=rfl
theorem rr176:iU "bool" "int"=false:=rfl
theorem rr177:iU "list" "list"=true:=rfl
theorem rr178:iU "int" "NoneType"=false:=rfl
theorem rr179:iU "tuple" "NoneType"=false:=rfl
theorem rr180:cg ds [d] P=(ds.length<sizeLine/\P (ds++[d]) .none):=rfl
theorem rr181:mG ds [.list es] P=(ds.length+es.length<=sizeLine/\P (ds++es) .none):=rfl
theorem rr182:MR ds [] P=∃d,ds[ds.length-1]?=some d/\P ds.dropLast d:=rfl
theorem rr183:MR ds [.int i] P=((-(2^63)<=i/\i<2^63)/\∃n d,seqIndex? i ds.length=some n/\ds[n]?=some d/\P (ds.eraseIdx n) d):=rfl
theorem rr184:b5 (.nm i) d E=bA [i] [d] E:=rfl
theorem rr185:b5 (.tp is) (.tuple ds) E=bA is ds E:=rfl
theorem rr186:bA [] [] E=some E:=rfl
theorem rr187:br [] E=some E:=rfl
theorem rr188:fF.setI (o::E) i w v Q=match(o::E)[i]?,w with
  |some (some (.ow p,.list ds)),.int a=>ay (xu ds.length a) λn=>Q ((o::E).set i (some (.ow p,.list (ds.set n v))))
  |some (some (.dk p,.dict kvs)),w=>(kT w=true/\kvs.length<16777216)/\Q ((o::E).set i (some (.dk p,.dict (putD kvs w v))))
  |some (some (.dt p,.dict (_::kvs))),.tuple ks=>(ks.all kT=true/\kvs.length<16777216)/\Q ((o::E).set i (some (.dt p,.dict ((.none,.none)::putD kvs (.tuple ks) v))))
  |_,_=>False:=rfl
theorem rr189:EJ ms as (o::E) us k v Q=ay (jC ms as us (o::E)) λE2=>ay (sC ms as us E2 k v) λE3=>Q E3 k v:=rfl
theorem rr190:jC [] [] [] E=some E:=rfl
theorem rr191:jC (false::ms) (a::r) us E=jC ms r us E:=rfl
theorem rr192:jC (true::ms) (.pk i::r) (u::us) (o::E)=match(o::E)[i]? with
  |some (some (.ow p,.list _))=>cU (zV u) (jC ms r us ((o::E).set i (some (.ow p,u)))) none
  |_=>none:=rfl
theorem rr193:zV (.list l)=true:=rfl
theorem rr194:sC ms as us (o::E) k v=cU ((kept ms as).all (iH (o::E))||(flat k v&&us.all (flat (.ow false)))) (some (o::E)) (gA (kept ms as) (o::E)):=rfl
theorem rr195:kept [] []=[]:=rfl
theorem rr196:kept (false::ms) (.pk i::r)=i::kept ms r:=rfl
theorem rr197:kept (false::ms) (.ev d::r)=kept ms r:=rfl
theorem rr198:kept (true::ms) (a::r)=kept ms r:=rfl
theorem rr199:rV ms as (o::E)=(shape ms as&&pB (lent ms as) (kept ms as) (o::E)):=rfl
theorem rr200:lent [] []=[]:=rfl
theorem rr201:lent (true::ms) (.pk i::r)=i::lent ms r:=rfl
theorem rr202:lent (false::ms) (a::r)=lent ms r:=rfl
theorem rr203:shape [] []=true:=rfl
theorem rr204:shape (true::ms) (.pk i::r)=shape ms r:=rfl
theorem rr205:shape (false::ms) (a::r)=shape ms r:=rfl
theorem rr206:∀{α:Type},([]:List α).length=0:=rfl
theorem rr207:∀{α:Type}{a:α}{l:List α},(a::l).length=l.length+1:=rfl
theorem rr208:sizeLine=16777216:=rfl
theorem rr209:∀{f:DE->Arg},List.map f []=[]:=rfl
theorem rr210:∀{f:DE->Arg}{a:DE}{l:List DE},List.map f (a::l)=f a::List.map f l:=rfl
theorem rr211:atK (x::l) 0=some x:=rfl
theorem rr212:atK (x::y::l) 1=some y:=rfl
theorem rr213:xu (n+1) 0=some 0:=rfl
theorem rr214:xu (n+2) 1=some 1:=rfl
theorem rr215:xu (n+1+1) 1=some 1:=rfl
def M9:(∀{x:PyData}{l:WC},cY (x::l) 0=some x)/\(∀{x y:PyData}{l:WC},cY (x::y::l) 1=some y)/\(∀{n:Nat},kq (n+1) 0=some 0)/\(∀{n:Nat},kq (n+2) 1=some 1)/\(∀{n:Nat},kq (n+1+1) 1=some 1)/\(∀{P:Kd->PyData->Prop},d9 false [.none,.none] P=P .sh (.bool true))/\(∀{P:Kd->PyData->Prop},d9 true [.none,.none] P=P .sh (.bool false))/\(∀{i:Int}{P:Kd->PyData->Prop},d9 false [.int i,.none] P=P .sh (.bool false))/\(∀{i:Int}{P:Kd->PyData->Prop},d9 true [.int i,.none] P=P .sh (.bool true))/\(∀{i:WC}{P:Kd->PyData->Prop},d9 false [.tuple i,.none] P=P .sh (.bool false))/\(∀{i:WC}{P:Kd->PyData->Prop},d9 true [.tuple i,.none] P=P .sh (.bool true))/\(∀{d:PyData}{xs:WC}{P:Kd->PyData->Prop},mW false [d,.list xs] P=((xs.all (dl 8)=true/\dl 8 d=true)/\P .sh (.bool (decide (d∈xs)))))/\(∀{d:PyData}{xs:WC}{P:Kd->PyData->Prop},mW true [d,.list xs] P=((xs.all (dl 8)=true/\dl 8 d=true)/\P .sh (.bool !(decide (d∈xs)))))/\(∀{d:PyData}{xs:WC}{P:Kd->PyData->Prop},mW false [d,.tuple xs] P=((xs.all (dl 8)=true/\dl 8 d=true)/\P .sh (.bool (decide (d∈xs)))))/\(∀{d:PyData}{xs:WC}{P:Kd->PyData->Prop},mW true [d,.tuple xs] P=((xs.all (dl 8)=true/\dl 8 d=true)/\P .sh (.bool !(decide (d∈xs)))))/\(∀{i:Nat}{is:WN}{d:PyData}{ds:WC}{o:Option (Kd×PyData)}{E:En},bA (i::is) (d::ds) (o::E)=if bJ (o::E) i then bA is ds ((o::E).set i (some (.sh,d)))else none)/\(∀{i:Nat}{r:WN}{o:Option (Kd×PyData)}{E:En},br (i::r) (o::E)=if bJ (o::E) i then br r ((o::E).set i none)else none)/\(∀{i:Nat},List.contains [] i=false)/\(∀{i j:Nat}{l:WN},List.contains (j::l) i=(i==j||List.contains l i))/\(∀{α:Type},(([]:List α).Nodup)=True)/\(∀{i:Nat},([i]:WN).Nodup=True)/\type_of%@rK/\type_of%@vO:=
 ⟨QW,QA,Qw,OZ,OZ,(by simp[d9]),(by simp[d9]),(by simp[d9]),(by simp[d9]),(by simp[d9]),(by simp[d9]),(by intro d xs P;cases d<;>rfl),(by intro d xs P;cases d<;>rfl),(by intro d xs P;cases d<;>rfl),(by intro d xs P;cases d<;>rfl),rfl,rfl,(by intros;simp),(by intros;rw[List.contains_cons]),(by intros;simp),(by intros;simp),@rK,@vO⟩
def dx:=aI @rr123<|aI @rr124<|aI @rr125<|aI @rr126<|aI @rr127<|aI @rr128<|aI @rr129<|aI @rr130<|aI @rr131<|aI @rr132<|aI @rr133<|aI @rr134<|aI @rr135<|aI @rr136<|aI @rr137<|aI @rr138<|aI @rr139<|aI @rr140<|aI @rr141<|aI @rr142<|aI @rr143<|aI @rr144<|aI @rr145<|aI @rr146<|aI @rr147<|aI @rr148<|aI @rr149<|aI @rr150<|aI @rr151<|aI @rr152<|aI @rr153<|aI @rr154<|aI @rr155<|aI @rr156<|aI @rr157<|aI @rr158<|aI @rr159<|aI @rr160<|aI @rr161<|aI @rr162<|aI @rr163<|aI @rr164<|aI @rr165<|aI @rr166<|aI @rr167<|aI @rr168<|aI @rr169<|aI @rr170<|aI @rr171<|aI @rr172<|aI @rr173<|aI @rr174<|aI @rr175<|aI @rr176<|aI @rr177<|aI @rr178<|aI @rr179<|aI @rr180<|aI @rr181<|aI @rr182<|aI @rr183<|aI @rr184<|aI @rr185<|aI @rr186<|aI @rr187<|aI @rr188<|aI @rr189<|aI @rr190<|aI @rr191<|aI @rr192<|aI @rr193<|aI @rr194<|aI @rr195<|aI @rr196<|aI @rr197<|aI @rr198<|aI @rr199<|aI @rr200<|aI @rr201<|aI @rr202<|aI @rr203<|aI @rr204<|aI @rr205<|aI @rr206<|aI @rr207<|aI @rr208<|aI @rr209<|aI @rr210<|aI @rr211<|aI @rr212<|aI @rr213<|aI @rr214<|aI @rr215<|@M9
end Dv
namespace L2
open PySem PySem.Spec PyProof.Rows
def EU{K:Vz}{mb:Vt}{CX:kW}{k:Nat}{fa a:Addr}{sp:Sp}{s₁:Shared}{vs:WH}{ns:WO}(KX:K.In s₁.heap)(hns:s₁.heap.Ns mainGlobals mg)(hb:s₁.heap.Ns builtinsNs mb)(hbb:∀x:Str,x≠"__name__"->mb x=bootBuiltins x)(hlim:s₁.heap.NoLimit)(hg:s₁.gens=#[])(ha:s₁.heap.get? a=some { cls:=.type "list",data:=.seq vs.toArray })(hi:IntsAre vs ns)(hl:ns.length<=sizeLine)(hr:dm k callerA)(F:∀base:Heap,K.In base->base.Ns mainGlobals mg->gf P w K mg base CX k fa fd [x] sp)(hbind:∀(s:Shared)(u:Value),BindsTo s fd ⟨[u],[]⟩ [(x,u)])(hsp:∀H:Hp,Ff H->Dv.bQ K H a (ns.map V.int)->sp [.ref a] H (λv _=>v=.bl true) λ_ _ _=>False)(hCX:∀H e s',CX [] H s₁ (λ_ _ _=>False) e s'->False) : codeAny (model P w) callerA (.call (.ref fa) ⟨[.ref a],[]⟩) (λr s'=>r=.ok (.ret (.bool true))/\OldK s₁.heap s'.heap/\s'.os=s₁.os/\AllBare s'.gens) s₁:=by
 have rv:=uJ hi;have yd:=hi.length
 -- from an abstract heap in which nothing but the script may be tracked
 have core:∀H:Hp,Ff H->Dv.bQ K H a (ns.map V.int)->cS P w H s₁.heap->(∀b,H b≠none->b=a)->(H a≠none->K.lookup a=none)->
   codeAny (model P w) callerA (.call (.ref fa) ⟨[.ref a],[]⟩) (λr s'=>r=.ok (.ret (.bool true))/\OldK s₁.heap s'.heap/\s'.os=s₁.os/\AllBare s'.gens) s₁:=by
  intro H hO hS hok hA hK;have base_of:∀{b:Addr}{o:Obj},s₁.heap.get? b=some o->H b=none->(nv s₁.heap H).get? b=some o:=λe n=>Gp e n
  have noA:∀{b:Addr}{o:Obj}{es:Vv}{ep:Nat},s₁.heap.get? b=some o->o.data=.dict es ep->H b=none:=λ{b o es ep} e d=>by
   cases q:H b with
   |none=>rfl
   |some u=>
    have e':b=a:=hA b (by rw[q];simp)
    subst e';rw[ha]at e;cases e;have d':Data.seq vs.toArray _=Data.dict es ep:=d;cases d'
  have nsK:∀{b:Addr}{m:Vt},s₁.heap.Ns b m->(nv s₁.heap H).Ns b m:=λ{b m} ⟨o,es,ep,e,d,r⟩=>⟨o,es,ep,base_of e (noA e d),d,r⟩
  have hKb:K.In (nv s₁.heap H):=λb o e=>base_of (KX b o e) (by
   cases q:H b with
   |none=>rfl
   |some u=>
    have e':b=a:=hA b (by rw[q];simp)
    subst e';rw[hK (by rw[q];simp)]at e;cases e)
  have hM:Mod K mg (nv s₁.heap H):=⟨hKb,nsK hns,⟨mb,nsK hb,hbb⟩,let⟨mc,h1,h2⟩:=hlim;⟨mc,nsK h1,h2⟩⟩
  have e0:AD P w K mg (nv s₁.heap H) callerA [] s₁ H:=⟨rfl,hM,λb o e=>Jh e,UQ (D5 _ _),trivial,λb hb=>absurd (show b∈([]:WI)from hb) (by simp),hok,.of_eq hg⟩
  refine codeAny_mono ((F _ hKb (nsK hns)).run callerA [] s₁ H ⟨[.ref a],[]⟩ [.ref a] [.ref a] _ _ hr e0 (hbind s₁ (.ref a)) (.cons rfl .nil) (hsp H hO hS)) λr s' h=>?_
  cases r with
  |error e=>exact(hCX H e s' h).elim
  |ok fl=>
   cases fl with
   |next=>exact False.elim h
   |brk=>exact False.elim h
   |cont=>exact False.elim h
   |ret u=>
    obtain⟨v,H',os,bare,un,hok',r',q⟩:=h;have q':v=.bl true:=q;subst q';obtain rfl:u=Value.bool true:=r';refine⟨rfl,OldK.of_keep λb o e=>?_,os,bare⟩
    cases q:H b with
    |none=>exact un.keep b o e q (by intro z;exact absurd (show b∈([]:WI)from z) (by simp)) (by simp)
    |some u=>
     rcases hO b with z|⟨ob,xs,z⟩
     .rw[q]at z;cases z
     .have z2:=un.kD b ob _ z;obtain⟨e1,_⟩:=hok b _ z;obtain⟨e2,_⟩:=hok' b _ z2;rw[e]at e1;cases e1;exact e2
 cases hk:K.lookup a with
 |some o=>
  -- the script is one of the module's own objects
  have e:=KX a o hk;rw[ha]at e;cases e;refine core (λ_=>none) (λ_=>.inl rfl) (.inr ⟨vs,_,hk,by rw[yd];exact hl,rv⟩) (λb u z=>by have z':(none:Option HO)=some u:=z;cases z') (λb z=>absurd rfl z) λz=>absurd rfl z
 |none=>
  refine core (λb=>if b=a then some (.dW { cls:=.type "list",data:=.seq vs.toArray } (.lst (ns.map V.int)))else none) (λb=>?_) (.inl (.inr ⟨{ cls:=.type "list",data:=.seq vs.toArray },if_pos rfl⟩)) (λb u z=>?_) (λb z=>?_) λ_=>hk
  .by_cases hb:b=a
   .exact .inr ⟨_,_,if_pos hb⟩
   .exact .inl (if_neg hb)
  .by_cases hb:b=a
   .have z':=(if_pos hb).symm.trans z;cases z';subst hb;exact⟨ha,by rw[RA];exact hl,vs,_,rv,ha⟩
   .have z':=(if_neg hb).symm.trans z;cases z'
  .by_cases hb:b=a
   .exact hb
   .exact absurd (if_neg hb) z
def Mz{l:PySem.W.OpenLaw}{n k:Nat}{YP:World->Heap->Prop}{d:DefRec}{K:Params->Vz}{CX:World->kW}{sp:World->Sp}(hn:l.most=some n)(hn2:n<=sizeLine)(hdf:d.params.defaults=[])(hr:dm k callerA)(hY:∀(w:World)(h:Heap),YP w h->(K w.params).In h)(F:∀(w:World)(mg:Vt)(fa:Addr)(h:Heap),(K w.params).In h->h.Ns mainGlobals mg->mg d.name=some (.ref fa)-> ∃fd:FuncData,(∀(s:Shared)(u:Value),BindsTo s fd ⟨[u],[]⟩ [(x,u)]) /\ ∀base:Heap,(K w.params).In base->base.Ns mainGlobals mg->gf l.prog w (K w.params) mg base (CX w) k fa fd [x] (sp w))(hsp:∀(w:World)(H:Hp)(a:Addr)(ns:WO),ns.length<=n->Ff H->Dv.bQ (K w.params) H a (ns.map V.int)->sp w [.ref a] H (λv _=>v=.bl true) λ_ _ _=>False)(hCX:∀(w:World)(H:Hp)(s:Shared)(e:Value)(s':Shared),CX w [] H s (λ_ _ _=>False) e s'->False) : PySem.W.WalkO q loose XP YP l.row.toRowW d [] (λf vs=>PySem.call f vs):=by refine OP.yM hn hdf λw s₀ s₁ mg mb fa o pm cd doc a vs ns G WU ho hd hcd hmg hobj hints hlen hg=>?_;have KX:=hY w _ WU;obtain⟨fd,hb,hF⟩:=F w mg fa _ KX G.T.g hmg;exact EU KX G.T.g G.T.b G.T.builtins G.T.nolimit hg hobj hints (Ri hlen hn2) hr hF hb (λH hO hS=>hsp w H a ns hlen hO hS) λH e s'=>hCX w H s₁ e s'
end L2
namespace Dv
open PySem L2 PySem.W
inductive yW(K:Frag)(vs:List V)(H:Hp)(Q:VK):Prop
 |mk:∀(a:Addr)(ns:WO),(vs=[.ref a])->(bQ K H a (ns.map V.int))->(ns.length<=63)->(∀H',Q (.bl true) H')->yW K vs H Q
noncomputable def Df (K:Frag):Sp:=λvs H Q _E3=>yW K vs H Q
noncomputable def uz:bC:=λds Q x=>∃ns:WO,ds=[.list (ns.map .int)]/\ns.length<=63/\Q [] .sh (.bool true)
def IE(h:Df K vs H Q E):bX mg K [false] uz vs H Q E:=by
 obtain⟨a,ns,rfl,r,hl,q⟩:=h;refine⟨[.list (ns.map .int)],[],H,λ_ _ r=>r=.bool true,xF,ah.refl _,.sh (.lst r (qG ns)) .nil,⟨ns,rfl,hl,rfl⟩,λus k r u H' Hm' fp e _ _ _ _ _ o _=>?_,λ_ _ _ _ _ _ z=>z.elim⟩;cases e;cases o with
 |sh h=>cases h;exact q H'
def CV{l:OpenLaw}{YP:World->Heap->Prop}{d:DefRec}{K:Params->Frag}{k:Nat}(hn:l.most=some 63)(hdf:d.params.defaults=[])(hr:dm k callerA)(hY:∀(w:World)(h:Heap),YP w h->(K w.params).In h)(F:∀(w:World)(mg:Vt)(fa:Addr)(h:Heap),(K w.params).In h->h.Ns mainGlobals mg->mg d.name=some (.ref fa)-> ∃fd:FuncData,(∀(s:Shared)(u:Value),BindsTo s fd ⟨[u],[]⟩ [(pn,u)])/\∀base:Heap,(K w.params).In base->base.Ns mainGlobals mg->gf l.prog w (K w.params) mg base (eE l.prog w) k fa fd [pn] (bX mg (K w.params) [false] uz)) : WalkO q loose XP YP l.row.toRowW d [] (λf vs=>PySem.call f vs):=
 L2.Mz (n:=63) (k:=k) (x:=pn) (CX:=λw=>eE l.prog w) (sp:=λw=>Df (K w.params)) hn (by decide) hdf hr hY (λw mg fa h h1 h2 h3=>by
  obtain⟨fd,hb,hF⟩:=F w mg fa h h1 h2 h3;exact⟨fd,hb,λbase g1 g2=>(hF base g1 g2).imp λvs H Q E z=>IE z⟩) (λ_ _ a ns hl _ hS=>⟨a,ns,rfl,hS,hl,λ_=>rfl⟩) λw H s e s' z=>by
  obtain⟨_,_,_,_,_,_,_,_,_,_,_,_,_,_,_,z⟩:=z;exact z.elim
noncomputable def tG:DR:=λds P=>∃ps:Vy,ds=[.list (ps.map pD)]/\ps.length<=1000/\∀qs:Vy,qs.Perm ps->P (.ow false) (.list (qs.map pD))
def FW:∀{zs ys:List V},zs.Perm ys->∀{ps:Vy},aA K H ys (ps.map pD)->∃qs:Vy,qs.Perm ps/\aA K H zs (qs.map pD):=by
 intro zs ys h;induction h with
 |nil=>intro ps r;exact⟨ps,.refl _,r⟩
 |cons x _ ih=>
  intro ps r;cases ps with
  |nil=>cases r
  |cons p ps=>
   cases r with
   |cons h t=>obtain⟨qs,pq,r'⟩:=ih t;exact⟨p::qs,pq.cons _,.cons h r'⟩
 |swap x y l=>
  intro ps r
  match ps,r with
  |p::p2::ps,.cons h (.cons h2 t)=>exact⟨p2::p::ps,List.Perm.swap _ _ _,.cons h2 (.cons h t)⟩
 |trans _ _ ih1 ih2=>intro ps r;obtain⟨q1,p1,r1⟩:=ih2 r;obtain⟨q2,p2,r2⟩:=ih1 r1;exact⟨q2,p2.trans p1,r2⟩
def Di:cK K tG (Ep K):=by
 rintro H Hm vs ds P Q s r⟨ps,rfl,hn,h⟩q;obtain⟨x,rfl,h1⟩:=dg r;obtain⟨a,xs,rfl,ha,r1⟩:=fP h1;have l1:xs.length=ps.length:=by rw[r1.len,RA]
 refine⟨a,xs,rfl,(bQ.mono s ha).sq,λy hy=>?_,by rw[l1];exact hn,λzs p pm hp=>?_⟩
 .obtain⟨i,hi⟩:=Sv hy;obtain⟨d,e,r'⟩:=r1.PJ hi;rw[RO]at e;obtain⟨p,_,rfl⟩:=TJ.mp e;cases r' with
  |tup b r2=>obtain⟨x,y,rfl,h2,h3⟩:=fL r2;cases h2;cases h3;exact⟨_,_,_,rfl,bM.of (s _ _ b)⟩
 obtain⟨qs,pq,r'⟩:=FW pm r1;exact bL.nl q s (h qs pq) hp r'
section
variable{X:Cx}{Ex:XK}{Y:WN}{a:Expr}{p pos:Pos}{as:List Arg}
def KN(hm:X.mg "sorted"=none)(S:aN X Ex Y [a] as)(hg:Gl X "sorted":=by rfl)(ns:noStar a=true:=by rfl):SE X Ex Y (.Call (.Name "sorted" p) [a] [] pos) (aa tG as):=eF wO Di hg hm PyProof.Rows.boot_sorted (by decide) (by decide) (by rw[RN,ns];rfl) S
end
end Dv
namespace Dv
open PySem L2 PySem.W PyProof.Rows
def vq{M:Model}{A:Around}{E:Vr}{s:Shared}{a b:Value}{T id:String}{Q:Vr}(ha:s.TypeIs a T)(hb:s.TypeIs b T)(hl:typeLookup (.type T) (dunderI "add")=pure (some (.builtin id)))(hi:isSeqSlotId id=true)(hfill:fillsNumberSlot (.type T) "add"=pure false)(hc:wpAny M A (call (.builtin id) [a,b]) Q E s):wpAny M A (inplaceOp .Add a b) Q E s:=by
 unfold inplaceOp;refine Sj ?_;have hfi:fillsInplaceSlot (.type T) "add" (Operator.Add == .Add)=pure false:=by unfold fillsInplaceSlot;show(typeLookup (.type T) (dunderI "add")>>=λfi=>pure (fi.isSome&&!isSeqSlot fi))=pure false;rw[hl];show(pure ((some (Value.builtin id)).isSome&&!isSeqSlotId id):Sem Bool)=pure false;rw[hi];rfl
 have hsi:seqSlot? (.type T) (dunderI "add")=pure (some (.builtin id)):=PySem.seqSlot_of hl hi;refine Q9 (UN ha (Q9 (wpAny_of_eq hfi ?_)));show wpAny M A (if false=true then _ else _) Q E s;rw[if_neg RZ];refine Q9 (binaryOp1_none (nm:="add") ha hb hfill ?_);refine Q9 (wpAny_of_eq hsi ?_);exact Q9 (SX hc)
noncomputable def QZ (K:Frag):HD:=λx y H Q=>∃l b xs zs,x=.ref l/\y=.ref b/\H l=some (.lst xs)/\bQ K H b zs/\xs.length+zs.length<=sizeLine/\Q (.ref l) (upd H l (.lst (xs++zs)))
section
variable{X:Cx}{Ex:XK}
def JE:ON X .Add (QZ X.K):=by
 intro pins s U H x y v u Q I rx ry h;obtain⟨l,b,xs,zs,rfl,rfl,hH,hB,hz,q⟩:=h;cases rx;cases ry;obtain⟨z,its,n,r,hl,e⟩:=I.vY hH;obtain⟨z2,its2,n2,r2,e2⟩:=hB.get I;have hl2:=r2.length;have hsz:its.toArray.size+its2.toArray.size<=sizeLine:=by rw[RQ,RQ];lia
 have hlong:¬(!its.toArray.isEmpty&&Builtin.List.listTooLong (its.toArray.size+its2.toArray.size))=true:=by rw[nC hsz,UA];exact RZ
 refine vq (T:="list") ⟨_,e,rfl⟩ ⟨_,e2,rfl⟩ F.slot_list_iadd.lookup (by decide+kernel) noFill_list_add ?_;refine Ti F.slot_list_iadd ⟨_,e,rfl⟩ F.entry_list_iadd (F.args_list_iadd_2 _ _)
  (AutoSeq1.list___iadd___list_list_0 l its.toArray n b its2.toArray n2 hlong (by rw[RQ];lia) (by lia)) ⟨e,e2,?_⟩
 refine⟨.ref l,_,I.yg (its':=its++its2) hH e (by simp) (r.append r2) ?_,rfl,q⟩;rw[RM];lia
def Og{i:Nat}(hN:X.N.Nodup)(hi:X.N[i]?=some x)(hl:Loc X.env.scope x)(hf:X.fn x=true\/X.env.scope.names.lookup x=some .local)(h:SE X Ex (aS X) e d):S1 X Ex (.AugAssign (.Name x pos') .Add e pos) (vX sizeLine i d):=by
 intro g D' E U H Hm F D hx R p nx rt;obtain⟨hh,p⟩:=p;have hh':here E i=true:=by unfold i6 at hh;unfold here;split at hh;{rename_i q;rw[q]};cases hh
 obtain⟨v0,hv0⟩:=kY R hh';refine WS.of (K8 hN hi hl aX JE hf) ⟨v0,cZ (iV (bx hi)) hv0,h g D'.xc E U H Hm F _ _ hx R p λE' k v u H' Hm' F' fp p' R' s' T=>?_⟩;obtain⟨fz,pp,ds,es,e1,rfl,hlen,p'⟩:=p';obtain⟨Hm2,up,R2,rp⟩:=T.dW R' fz;obtain⟨b,zs,rfl,hb,rz⟩:=fP rp;obtain⟨v1,h1,h2⟩:=R2.slot i _ _ e1;rw[hv0]at h1;cases h1;generalize hfi:F' i=fi at h2;cases h2 with
 |@ow _ a xs _ ha rx=>
  obtain⟨a',xs',g1,g2,g3,g4,R3⟩:=R2.chg (es:=ds++es) e1 (rx.app rz);rw[hv0]at g1;cases g1;rw[ha]at g2;cases g2;refine⟨a,b,xs,zs,rfl,rfl,ha,bQ.mono R2.sub hb,by rw[rx.len,rz.len];exact hlen,?_⟩;show D.nx ((sel (aS X) U).set i (some (.ref a))) _;have hsel:(sel (aS X) U).set i (some (.ref a))=sel (aS X) U:=by refine Rw λj=>?_;rw[SV];by_cases c:i=j;{subst c;have:=cZ (iV (bx hi)) hv0;rw[if_pos rfl,this,if_pos];rcases SA i (sel (aS X) U).length with z|z;{exact z};rw[Rb z]at this;cases this};rw[if_neg c]
  rw[hsel];exact nx _ _ _ _ _ p' R3 (s'.trans up)
def PC(i:Nat)(hN:X.N.Nodup)(h:SE X Ex (aS X) e d)(hi:X.N[i]?=some x:=by rfl)(hl:Loc X.env.scope x:=by first|exact Or.inl rfl|exact Or.inr rfl)(hf:X.fn x=true\/X.env.scope.names.lookup x=some .local:=by first|exact Or.inl rfl|exact Or.inr rfl):S1 X Ex (.AugAssign (.Name x pos') .Add e pos) (vX sizeLine i d):=Og hN hi hl hf h
end
end Dv
namespace Dv
open PySem L2 PySem.W
section
variable{K:Frag}{g:Gh}{E:En}{U:St}{H H' Hm Hm':Hp}{F:Nat->WI}
def Rl.Oq(R:Rl K g E U H Hm F){p:Addr}(A:nS g F H Hm [p]):Rl K g E U (upd H p o) Hm F where
 len:=R.len
 sub:=λb u e=>by
  have:b≠p:=λz=>by rw[z,A.off p RC]at e;cases e
  rw[aj this];exact R.sub _ _ e
 slot:=λi k d e=>by
  obtain⟨v,h1,h2⟩:=R.slot i k d e;exact⟨v,h1,h2.step (ah.refl _) λa ha=>aj λz=>A.aG p RC i (z▸ha)⟩
 off:=R.off
 bu:=λi a ha=>by
  obtain⟨u,hu,n⟩:=R.bu i a ha;have ne:a≠p:=λz=>A.aG p RC i (z▸ha)
  exact⟨u,by rw[aj ne];exact hu,n⟩
 aG:=R.aG
 fr:=λq o hq ho=>by
  have:q≠p:=λz=>by rw[z,A.new p RC]at ho;cases ho
  rw[aj this];exact R.fr q o hq ho
 new:=R.new
 pin:=R.pin
 old:=R.old
end
end Dv
namespace SM
open PySem
section
variable{prog:Program}{w:World}{K:Type} [DecidableEq K]{knd:HeapKind prog w K}{A:Around}{E:Vr}{s:Shared}{d a:Addr}{k:K}{xs:List (K×Addr×Value)}
def EA(hu:knd.room A)(hkey:knd.is s.heap k a)(hm:s.heap.DictOfH knd d xs)(hsz:xs.length<=sizeLine)(old:∀p,atKey xs k=some p->Q p.2 { s with toks:=s.toks+knd.draws k })(new:atKey xs k=none->∀h',h'.DictOfH knd d (storedH xs k a dv)->Heap.SameBut d s.heap h'->Q dv { s with heap:=h',toks:=s.toks+knd.draws k }):wpAny (model prog w) A (dictSetDefault d (.ref a) dv) Q E s:=by
 obtain⟨o,es,ep,ho,hc,hd,he,his,hn⟩:=hm;unfold dictSetDefault;try with_reducible refine Sj ?_
 refine Q9 (knd.pyHash hu hkey (?_:_));refine Q9 (wpAny_dictFind_heap (s:={ s with toks:=s.toks+knd.draws k }) hu hkey ho hd he his hn (λhno=>?_) λj p hj=>?_)
 .have hnot:k∉xs.map (·.1):=not_mem_keys_of_get hno;have hat:=atKey_none_of_get hno;refine Q9 (SX (Q9 (wpAny_updateDictKeys (hz:=by have e:=size_of_entries he;lia) (s:={ s with toks:=s.toks+knd.draws k }) ho hd (RD (new hat _ ⟨_,_,ep+1,U5 _ ho (Obj.isFreed_of_dict (Obj.data_mapDictKeys hd _)),hc.mapDictKeys _,Obj.data_mapDictKeys hd _,?_,?_,?_⟩ (UZ ..))))));{rw[storedH_new hat];simp[he,entryOfKey]}
  .rw[storedH_new hat];intro x hx;rcases RY.mp hx with hx|hx;{exact knd.keeps (his x hx) ho hd (UZ ..)};have e:x=(k,a,dv):=by simpa using hx
   subst e;exact knd.keeps hkey ho hd (UZ ..)
  rw[storedH_new hat,RW,Uy];refine⟨hn,by simp,λx hx y hy e=>?_⟩;have e2:y=k:=by simpa using hy
  exact hnot (by rw[<-e2,<-e];exact hx)
 have hat:=atKey_of_get hn hj;refine Q9 (Uz (s:={ s with toks:=s.toks+knd.draws k }) ho hd (?_:_));rw[entry_at he j,hj];exact Q9 (SX (RD (old p hat)))
def rO(hu:knd.room A.in1)(hkey:knd.is s.heap k a)(hd0:(d==sysModules)=false)(hm:s.heap.DictOfH knd d xs)(hsz:xs.length<=sizeLine)(old:∀p,atKey xs k=some p->Q p.2 { s with toks:=s.toks+knd.draws k })(new:atKey xs k=none->∀h',h'.DictOfH knd d (storedH xs k a dv)->Heap.SameBut d s.heap h'->Q dv { s with heap:=h',toks:=s.toks+knd.draws k }):wpAny (model prog w) A (call (.builtin "dict.setdefault") [.ref d,.ref a,dv]) Q E s:=by refine TH F.slot_dict_setdefault hm.typeIs F.entry_dict_setdefault (?_:_) (F.args_dict_setdefault_3 _ _ _);unfold Builtin.«dict.setdefault»;refine Q9 (?_:_);unfold Builtin.Dict.keyAndDefault;refine Q9 (wpAny_notOrdered_dict hm.typeIs (?_:_));refine id (?_:wpAny _ _ (pure (d,Value.ref a,some dv)) _ _ s);refine RD (?_:_);refine id (?_:wpAny _ _ (if(d==sysModules)=true then _ else(dictSetDefault d (.ref a) dv>>=_)) _ _ s);rw[if_neg (by rw[hd0];exact RZ)];exact Q9 (EA hu hkey hm hsz (λp hp=>RD ⟨p.2,rfl,old p hp⟩) λhn h' hm' hs'=>RD ⟨dv,rfl,new hn h' hm' hs'⟩)
end
end SM
namespace L2
open PySem PySem.Spec PyProof.Rows
section
variable{X:Cx}
noncomputable def Nl:V->List V->Hp->VK->Prop:=λx vs H Q=>∃(a b:Addr)(kvs:List (List Key×V))(k:List Key) (v:V),x=.ref a/\vs=[.ref b,v]/\H a=some (.dT kvs)/\H b=some (.tup (k.map kV))/\kvs.length<sizeLine /\
 match cC kvs k with
 |some u=>Q u H
 |none=>Q v (upd H a (.dT (kvs++[(k,v)])))
def IY(hu:X.A.units+8<cLine):Nf X "dict.setdefault" Nl:=by
 intro pins s U H x vs v us Q I rx rv h;obtain⟨a,b,kvs,k,y,rfl,rfl,ha,hb,hl,q⟩:=h;cases rx;obtain⟨u1,u2,rfl,ru1,ru2⟩:=rv.two;cases ru1;obtain⟨z,hd,xs,rel,dd⟩:=HJ I.hok ha;have hz:xs.length<=sizeLine:=by rw[<-Paired.length rel];exact z
 have rv2:=rel.val k;refine SM.rO (UO (by lia)) (lU I.hok hb) hd dd hz (λp hp=>?_) λhn h' dd' hs=>?_
 .rw[hp]at rv2;cases e:cC kvs k with
  |none=>rw[e]at rv2;exact absurd rv2.eZ (by simp)
  |some u=>rw[e]at rv2 q;obtain⟨w',hw,rw'⟩:=jt.some_of (v:=u) (o:=some p.2) rv2;cases hw;exact⟨u,H,I.tok _,rw',q⟩
 rw[hn]at rv2;cases e:cC kvs k with
 |some u=>rw[e]at rv2;exact absurd rv2.eZ (by simp)
 |none=>
  rw[e]at q;have ep:putK kvs k y=kvs++[(k,y)]:=by unfold putK;rw[if_neg];rw[rE,e];decide
  have rp:=rel.put k hb ru2;rw[ep]at rp;obtain⟨qo,es,ep',hq,h2,h3,h4,_,h5⟩:=dd';refine⟨y,_,ue I (ob:=.dT (kvs++[(k,y)])) (by rw[ha];exact Sk) hs ⟨qo,hq⟩ ⟨by rw[RM];exact hl,hd,_,rp.keeps λc ys ec=>?_,qo,es,ep',hq,h2,h3,h4,h5⟩,ru2,q⟩;rw[aj (HR ec ha (λz=>nomatch z))];exact ec
end
end L2
namespace SM
open PySem
noncomputable def oO (h:Heap)(d:Addr)(es:Vv) (ep:Nat):Prop:=∃o,h.get? d=some o/\o.ExactDict/\o.data=.dict es ep
section
variable{prog:Program}{w:World}{A:Around}{E:Vr}{s:Shared}{es:Vv}{ep:Nat}{v d it:Addr}{i:Nat}
def oO.ty(h:oO s.heap d es ep):s.TypeIs (.ref d) "dict":=by obtain⟨o,ho,hc,_⟩:=h;exact⟨o,ho,hc.1⟩
def JV(hd:(d==sysModules)=false)(hm:oO s.heap d es ep)(q:Q (.ref s.heap.objs.size) { s with heap:=s.heap.push { cls:=.type "dict_values",data:=.fields #[.ref d] } }) : wpAny (model prog w) A (call (.builtin "dict.values") [.ref d]) Q E s:=by refine TH F.slot_dict_values hm.ty F.entry_dict_values (?_:_) (F.args_dict_values_1 _);unfold Builtin.«dict.values»;refine Q9 (?_:_);unfold Builtin.Dict.noArgs;refine Q9 (wpAny_notOrdered_dict hm.ty (?_:_));refine id (?_:wpAny _ _ (pure d) _ _ s);refine RD (?_:_);refine id (?_:wpAny _ _ (Builtin.Dict.showsAll d>>=_) _ _ s);unfold Builtin.Dict.showsAll;rw[if_neg (by rw[hd];exact RZ)];refine Q9 (RD (?_:_));exact Q9 (Sl (RD ⟨_,rfl,q⟩))
def Dc(hv:s.heap.IsValuesView v d)(hm:oO s.heap d es ep)(q:Q (.ref s.heap.objs.size) { s with heap:=s.heap.push { cls:=.type "dict_valueiterator",data:=.fields #[.ref d,.int 0 0,.int es.size 0,.int ep 0] } }):wpAny (model prog w) A (pyIter (.ref v)) Q E s:=by
 obtain⟨ov,v1,v2,v3⟩:=id hv;obtain⟨o,m1,m2,m3⟩:=id hm;refine wpAny_pyIter_slot hv.typeIs F.slot_dict_values_iter (TH F.slot_dict_values_iter hv.typeIs F.entry_dict_values_iter (?_:_) (F.args_dict_values_iter_1 _));unfold Builtin.«dict_values.__iter__»;refine Q9 (RD (?_:_));refine Q9 (?_:_);unfold Builtin.Dict_items.dictOf;refine Q9 (TF v1 v3 (x:=.ref d) rfl (RD (?_:_)));refine Q9 (?_:_);unfold Builtin.Dict_items.newIterator;refine Q9 (Uz m1 m3 (?_:_));refine Q9 (wpAny_dictEpoch m1 m3 (?_:_));have own0:Builtin.Dict_items.ownsTuple "dict_valueiterator"=false:=by decide
 simp only[own0,UU,So];refine Sl (RD ⟨_,rfl,"dict_valueiterator",_,⟨_,Rx _ rfl,rfl⟩,V0.lookup,(?_:_)⟩);simpa[rawInt]using q
def FD(ht:s.heap.IsValIter it d i es.size ep)(hm:oO s.heap d es ep)(hx:es[i]?=some e)(q:∀h',h'.IsValIter it d (i+1) es.size ep->Heap.SameBut it s.heap h'->Q (some e.val) { s with heap:=h' }):wpAny (model prog w) A (pyNext (.ref it)) Q E s:=by
 obtain⟨o,t1,t2,t3⟩:=id ht;obtain⟨od,m1,m2,m3⟩:=id hm;unfold pyNext;refine Q9 (wpAny_attempt (Ul (name:=Str.ofString "__next__") ht.typeIs V0
  (TH V0 ht.typeIs Vm (?_:_) (Vn _))))
 refine Q9 (RD (?_:_));refine Q9 (?_:_);refine Q9 (?_:_);first|refine Q9 (V1 ht.typeIs (RD (?_:_)))|refine Q9 (V2 ht.typeIs (RD (?_:_)))
 refine Q9 (wpAny_fieldsOf t1 t3 (?_:_));have own0:Builtin.Dict_items.ownsTuple "dict_valueiterator"=false:=by decide
 simp only[own0,UU,So];refine id (?_:wpAny _ _ (if(Value.ref d==Value.none)=true then _ else _) _ _ s);have nn:¬((Value.ref d==Value.none)=true):=λz=>RZ z;rw[if_neg nn];refine Q9 (RD (?_:_));refine Q9 (Uz m1 m3 (?_:_));rw[if_neg (by simp)];refine Q9 (RD (?_:_));refine Q9 (wpAny_dictEpoch m1 m3 (?_:_));rw[if_neg (by simp)];refine RD (?_:_);have lt:i<es.size:=(Up.mp hx).1;have ev:es[i]=e:=(Up.mp hx).2;simp only[show ¬((i:Int)<0)from Sa.mpr (Uh i),So,Uk,UR lt];refine Q9 (?_:_);first|refine Q9 (V1 ht.typeIs (RD (?_:_)))|refine Q9 (V2 ht.typeIs (RD (?_:_)))
 refine Q9 (VZ ht.typeIs (?_:_));refine id (?_:wpAny _ _ (setField (.ref it) 1 (rawInt ((i:Int)+1))>>=_) _ _ s);refine Q9 (UP t1 t3 (by simp) (?_:_));have ht':(s.heap.update it (Obj.mapFields (·.setIfInBounds 1 (rawInt ((i:Int)+1))))).IsValIter it d (i+1) es.size ep:=
  ⟨_,U5 _ t1 (VN (Uo t3 _)),(Obj.cls_mapFields ..).trans t2,by rw[Uo t3];simp[rawInt]⟩
 generalize hU:s.heap.update it (Obj.mapFields (·.setIfInBounds 1 (rawInt ((i:Int)+1))))=WR at ht'⊢;refine Q9 (Sj (?_:_));refine Q9 (VZ (s:={ s with heap:=WR }) ht'.typeIs (?_:_));refine Q9 (VZ (s:={ s with heap:=WR }) ht'.typeIs (?_:_));refine id (?_:wpAny _ _ (pure es[i].val) _ _ _);refine RD (RD ⟨_,rfl,RD (?_:_)⟩);rw[ev];exact q WR ht' (hU▸UZ ..)
def yO(hh:A.handled=none)(ht:s.heap.IsValIter it d i es.size ep)(hm:oO s.heap d es ep)(hx:es.size<=i)(q:∀h',Heap.ExtBut it s.heap h'->Q none { s with heap:=h' }):wpAny (model prog w) A (pyNext (.ref it)) Q E s:=by
 obtain⟨o,t1,t2,t3⟩:=id ht;obtain⟨od,m1,m2,m3⟩:=id hm;unfold pyNext;refine Q9 (wpAny_attempt (Ul (name:=Str.ofString "__next__") ht.typeIs V0
  (TH V0 ht.typeIs Vm (?_:_) (Vn _))))
 refine Q9 (RD (?_:_));refine Q9 (?_:_);refine Q9 (?_:_);first|refine Q9 (V1 ht.typeIs (RD (?_:_)))|refine Q9 (V2 ht.typeIs (RD (?_:_)))
 refine Q9 (wpAny_fieldsOf t1 t3 (?_:_));have own0:Builtin.Dict_items.ownsTuple "dict_valueiterator"=false:=by decide
 simp only[own0,UU,So];refine id (?_:wpAny _ _ (if(Value.ref d==Value.none)=true then _ else _) _ _ s);have nn:¬((Value.ref d==Value.none)=true):=λz=>RZ z;rw[if_neg nn];refine Q9 (RD (?_:_));refine Q9 (Uz m1 m3 (?_:_));rw[if_neg (by simp)];refine Q9 (RD (?_:_));refine Q9 (wpAny_dictEpoch m1 m3 (?_:_));rw[if_neg (by simp)];refine RD (?_:_);simp only[show ¬((i:Int)<0)from Sa.mpr (Uh i),So,Uk,Array.getElem?_eq_none hx];refine Q9 (?_:_);first|refine Q9 (V1 ht.typeIs (RD (?_:_)))|refine Q9 (V2 ht.typeIs (RD (?_:_)))
 refine id (?_:wpAny _ _ (setField (.ref it) 0 .none>>=_) _ _ s);refine Q9 (UP t1 t3 (by simp) (?_:_));refine id (?_:wpAny _ _ (newExc (.type "StopIteration") []>>=_) _ _ _);refine Q9 (?_:_);simp only[newTuple,newExc];refine Q9 (Sl (?_:_) (by size_fits));refine Q9 (m:=firstArgMember _ _) (wpAny_of_eq (a:=Value.none) (by first|rfl|(simp only[firstArgMember];rfl)) (?_:_));refine Sl (?_:_) (by size_fits);simp only[raiseNew];refine Q9 (wpAny_handled (?_:_));rw[show A.in1.handled=none from hh];refine Q9 (RD (wpAny_throw (?_:_)));refine Q9 (wpAny_isInstance (T:="StopIteration") (b:=true) ⟨_,Rx _ rfl,rfl⟩ isSubtype_stop (?_:_));exact RD (q _ (((UZ ..).extBut.push _).push _))
end
end SM
namespace L2
open PySem PySem.Spec PyProof.Rows
theorem u5{α β:Type}{F:α->β->Prop}:∀{l:List α}{m:List β},Paired F l m->∀{i:Nat}{x:α},l[i]?=some x->∃y,m[i]?=some y/\F x y
 |_,_,.nil,_,_,h=>nomatch h
 |_,_,.cons r _,0,_,h=>by cases h;exact⟨_,rfl,r⟩
 |_,_,.cons _ t,i+1,_,h=>u5 t (i:=i) h
end L2
namespace Dv
open PySem L2 PySem.W
section
variable{X:Cx}{Ex:XK}{Y:WN}{pos:Pos}{tg:Expr}
def set_same{U:St}{i:Nat}(h:U[i]?=some (some v)):U.set i (some v)=U:=by refine Rw λj=>?_;rw[SV];by_cases c:i=j;{subst c;rw[if_pos rfl,h,if_pos (bx h)]};rw[if_neg c]
end
noncomputable def Rec (K:Frag) (x:Str)(st:Stmt):Prop:=∃(f:Addr)(fd:FuncData),nsIn K mainGlobals x=some (some (.ref f))/\rJ K x x st f fd
def M7{K:Frag}{x:Str}{st:Stmt}{f:Addr}{oc:Value}{od an:WD}{osl:Vq}{kV doc pm cdv ct:Value}(n:nsIn K mainGlobals x=some (some (.ref f)))(l:K.lookup f=some ⟨oc,od,.func (fnOf x x (jM st) (gQ st) (au st) .none kV doc pm an cdv ct),osl⟩)(c:codeIn K cdv x=true)(k:keepIn K (.ref f)=true):Rec K x st:=⟨f,_,n,KR l c k⟩
noncomputable def M1 (K:Frag) (x:Str):Prop:=∃C,nsIn K mainGlobals x=some (some (.ref C))/\kG K C CQ "ValueError.__new__" none=true
def IW{K:Frag}{x:Str}{C:Addr}(h1:nsIn K mainGlobals x=some (some (.ref C)))(h2:kG K C CQ "ValueError.__new__" none=true):M1 K x:=⟨C,h1,h2⟩
def bq{P:Program}{w:World}{K:Frag}{base:Heap}{mg:Vt}{k:Nat}{x:Str}{ps:WQ}{sp:Sp}{st:Stmt}(N:∃h:Heap,K.In h/\h.Ns mainGlobals mg)(r:Rec K x st)(b:∀(kV doc pm:Value)(an:WD)(cdv ct:Value)(us:WH),us.length=ps.length->bindArgs (fnOf x x (jM st) (gQ st) (au st) .none kV doc pm an cdv ct) ⟨us,[]⟩=pure (ps.zip us))(ok:∀{f:Addr}{fd:FuncData},rJ K x x st f fd->gf P w K mg base (eE P w) k f fd ps sp):bN P w K mg base k x ps sp:=by obtain⟨f,fd,n,F⟩:=r;obtain⟨h,X,G⟩:=N;exact⟨f,fd,mg_of X G n,F.kp,F.binds b,ok F⟩
end Dv
namespace L2
open PySem PySem.Spec PyProof.Rows
end L2
namespace Dv
open PySem L2 PySem.W
end Dv
namespace L2
open PySem PySem.Spec PyProof.Rows
section
variable{prog:Program}{w:World}{A:Around}{E:Vr}{s:Shared}{l:Addr}{xs:Array (Int×Tok)}
def qw(hl:s.heap.IsTuple l (intItems xs))(h:∀s₂:Shared,s₂={ s with heap:=s.heap.push { cls:=.type "tuple_iterator",data:=.fields #[.ref l,.int 0 0] } }-> (s₂.heap.IsTupleIter s.heap.objs.size l 0/\s₂.heap.IsTuple l (intItems xs))->(∀b∈[s.heap.objs.size,l],b<s₂.heap.objs.size)->l≠s.heap.objs.size->Q (.ref s.heap.objs.size) s₂) : wpAny (model prog w) A (pyIter (.ref l)) Q E s:=by
 have hlt:l<s.heap.objs.size:=by obtain⟨_,e,_⟩:=hl;exact RL e
 refine wpAny_pyIter_tuple hl (h _ rfl ⟨⟨_,Rx _ rfl,rfl,rfl⟩,hl.push _⟩ (λb hb=>?_) (Rc hlt));show b<(s.heap.push _).objs.size;rw[Heap.size_push];rcases RP.mp hb with rfl|hb;{exact UX _};rcases RP.mp hb with rfl|hb;{exact UW hlt};cases hb
def uT{h':Heap}(hk:∀b o,b∉[s.heap.objs.size]->(s.heap.push o1).get? b=some o->h'.get? b=some o) : ∀b o,s.heap.get? b=some o->h'.get? b=some o:=λb o e=>by refine hk b o (λhm=>?_) (Ra _ e);rcases RP.mp hm with e1|hm;{exact absurd (e1▸RL e) (S7 _)};cases hm
def BW(hh:A.handled=none)(hl:s.heap.IsTuple l (intItems xs))(hne:0<xs.size)(h:∀v h' tk,(intItems xs)[argBest (λi j=>decide (numAt xs i>numAt xs j)) (xs.size-1)]?=some v->(∀b o,s.heap.get? b=some o->h'.get? b=some o)->Q v { s with heap:=h',toks:=tk }) : wpAny (model prog w) A (call (.builtin "max") [.ref l]) Q E s:=by refine call_max_walk (qw hl λs₂ e st hfp hlI=>?_);subst e;refine⟨_,_,_,_,_,_,_,rfl,Walks.tuple (A:=A.in1) hh _ l hlI (intItems xs),st,hfp,by simpa[intItems]using hne,CmpOf.ints_gt (numAt xs) (λ_ _=>U9),λv h' tk hP hk=>?_⟩;exact h v h' tk (by simpa[intItems]using hP) (uT hk)
def BK(hh:A.handled=none)(hl:s.heap.IsTuple l (intItems xs))(hne:0<xs.size)(h:∀v h' tk,(intItems xs)[argBest (λi j=>decide (numAt xs i<numAt xs j)) (xs.size-1)]?=some v->(∀b o,s.heap.get? b=some o->h'.get? b=some o)->Q v { s with heap:=h',toks:=tk }) : wpAny (model prog w) A (call (.builtin "min") [.ref l]) Q E s:=by refine call_min_walk (qw hl λs₂ e st hfp hlI=>?_);subst e;refine⟨_,_,_,_,_,_,_,rfl,Walks.tuple (A:=A.in1) hh _ l hlI (intItems xs),st,hfp,by simpa[intItems]using hne,CmpOf.ints_lt (numAt xs) (λ_ _=>U9),λv h' tk hP hk=>?_⟩;exact h v h' tk (by simpa[intItems]using hP) (uT hk)
end
section
variable{X:Cx}
inductive Eg(K:Vz)(xs:List V)(H:Hp)(Q:VK):Prop
 |mk:∀(a:Addr)(ns:WO),(xs=[.ref a])->(bM K H a (ns.map V.int))->(ns≠[])->(∀M,M∈ns->(∀n∈ns,M<=n)->Q (.int M) H)->Eg K xs H Q
noncomputable def Ht (K:Vz):List V->Hp->VK->Prop:=λxs H Q=>Eg K xs H Q
inductive CA(K:Vz)(xs:List V)(H:Hp)(Q:VK):Prop
 |mk:∀(a:Addr)(ns:WO),(xs=[.ref a])->(bM K H a (ns.map V.int))->(ns≠[])->(∀M,M∈ns->(∀n∈ns,n<=M)->Q (.int M) H)->CA K xs H Q
noncomputable def HC (K:Vz):List V->Hp->VK->Prop:=λxs H Q=>CA K xs H Q
def DB(hc:X.calm=true):cu X (.builtin "min") (Ht X.K):=by
 intro pins s U H xs us Q I r h;obtain⟨a,ns,rfl,hq,ne,q⟩:=h;obtain⟨u,rfl,ru⟩:=vals1 r;cases ru;obtain⟨its,rv,p,_⟩:=I.tuple hq;obtain⟨ps,rfl,rfl⟩:=l5 rv;have hl:s.heap.IsTuple a (intItems ps.toArray):=by have:s.heap.IsTuple a (ps.map (λp=>Value.int p.1 p.2)).toArray:=p;simpa[intItems]using this
 refine BK (I.ok.hd hc) hl (by simpa using Sx.mpr (λe=>ne (by rw[e];rfl))) λv h' tk hv hk=>?_;obtain⟨t,rfl⟩:=U9 hv;obtain⟨g1,g2⟩:=argBest_lt (numAt ps.toArray) (ps.toArray.size-1);have pos:0<ps.length:=Sx.mpr λe=>ne (by rw[e];rfl);refine⟨.int _,H,I.kept (t':=tk) hk,⟨_,rfl⟩,q _ ?_ λn hn=>?_⟩;{rw[TQ];exact getD_mem (by simp at g1⊢;lia)};obtain⟨j,hj,rfl⟩:=mem_getD hn;rw[RA]at hj;have e:(ps.map (·.1)).getD j 0=numAt ps.toArray j:=by rw[TQ]
 rw[e];exact g2 j (by simp;lia)
def Ed(hc:X.calm=true):cu X (.builtin "max") (HC X.K):=by
 intro pins s U H xs us Q I r h;obtain⟨a,ns,rfl,hq,ne,q⟩:=h;obtain⟨u,rfl,ru⟩:=vals1 r;cases ru;obtain⟨its,rv,p,_⟩:=I.tuple hq;obtain⟨ps,rfl,rfl⟩:=l5 rv;have hl:s.heap.IsTuple a (intItems ps.toArray):=by have:s.heap.IsTuple a (ps.map (λp=>Value.int p.1 p.2)).toArray:=p;simpa[intItems]using this
 refine BW (I.ok.hd hc) hl (by simpa using Sx.mpr (λe=>ne (by rw[e];rfl))) λv h' tk hv hk=>?_;obtain⟨t,rfl⟩:=U9 hv;obtain⟨g1,g2⟩:=argBest_gt (numAt ps.toArray) (ps.toArray.size-1);have pos:0<ps.length:=Sx.mpr λe=>ne (by rw[e];rfl);refine⟨.int _,H,I.kept (t':=tk) hk,⟨_,rfl⟩,q _ ?_ λn hn=>?_⟩;{rw[TQ];exact getD_mem (by simp at g1⊢;lia)};obtain⟨j,hj,rfl⟩:=mem_getD hn;rw[RA]at hj;have e:(ps.map (·.1)).getD j 0=numAt ps.toArray j:=by rw[TQ]
 rw[e];exact g2 j (by simp;lia)
end
section
variable{X:Cx}
noncomputable def sA (i j:Int):Prop:=i.natAbs<2^128/\j.natAbs<2^128
noncomputable def AI (i j:Int):Prop:=0<=j/\j<=1000/\i.natAbs<2^128
def sA.ok{i j:Int}(h:sA i j):IntMulOk i j:=
 .of_bits (Ri (intBits_le h.1) (by decide)) (Ri (intBits_le h.2) (by decide))
def Jo:bw X (binaryOp .Mult) (rI sA λi j=>.int (i*j)):=zd λ_ _ _ _ _ _ _ hc q=>mul_int q hc.ok
def Iz:bw X (binaryOp .Pow) (rI AI λi j=>.int (i^j.toNat)):=zd λi j _ _ _ _ _ hc q=>by have h1:=hc.1;have h2:=hc.2.1;have h3:=intBits_le hc.2.2;refine pow_int h1 ?_ q;have:(Builtin.Int.intBits i:Int)*j<=128*1000:=Int.mul_le_mul (by lia) h2 h1 (by lia);exact Sh this (by decide)
end
end L2
namespace Dv
open PySem L2 PySem.W
noncomputable def AZ:DR:=p9 sA λi j=>.int (i*j)
noncomputable def BY:DR:=p9 AI λi j=>.int (i^j.toNat)
def iN{a b:Int}:AZ [.int a,.int b] P=(sA a b/\P .sh (.int (a*b))):=rfl
def iZ{a b:Int}:BY [.int a,.int b] P=(AI a b/\P .sh (.int (a^b.toNat))):=rfl
section
variable{X:Cx}{Ex:XK}{Y:WN}{a b:Expr}{as:List Arg}{pos:Pos}
def NH(S:aN X Ex Y [a,b] as):SE X Ex Y (.BinOp a .Mult b pos) (aa AZ as):=jg Jo (mF λ_ _ _=>.int _) S
def N5(S:aN X Ex Y [a,b] as):SE X Ex Y (.BinOp a .Pow b pos) (aa BY as):=jg Iz (mF λ_ _ _=>.int _) S
end
noncomputable def pO:DR:=λds P=>match ds with
 |[.tuple [.int a,.int b]]=>P .sh (.int (if b<a then b else a))
 |_=>False
noncomputable def pU:DR:=λds P=>match ds with
 |[.tuple [.int a,.int b]]=>P .sh (.int (if b>a then b else a))
 |_=>False
def jR{a b:Int}:pO [.tuple [.int a,.int b]] P=P .sh (.int (if b<a then b else a)):=rfl
def jN{a b:Int}:pU [.tuple [.int a,.int b]] P=P .sh (.int (if b>a then b else a)):=rfl
def FT:cK K pO (Ht K):=by
 intro H Hm vs ds P Q s r h q;unfold pO at h;split at h
 .obtain⟨x,rfl,h1⟩:=dg r;cases h1 with
  |@tup a xs _ a1 r1=>
   obtain⟨y,z,rfl,h2,h3⟩:=fL r1;cases h2;cases h3;rename_i i j;refine⟨a,[i,j],rfl,bM.of (s _ _ a1),Ua _ _,λM m1 m2=>?_⟩;have e:M=if j<i then j else i:=by have e1:=m2 i (by simp);have e2:=m2 j (by simp);simp only[RP,S4,Sg]at m1;split<;>lia
   rw[e];exact bL.sc q s h (.int _)
 exact h.elim
def Fe:cK K pU (HC K):=by
 intro H Hm vs ds P Q s r h q;unfold pU at h;split at h
 .obtain⟨x,rfl,h1⟩:=dg r;cases h1 with
  |@tup a xs _ a1 r1=>
   obtain⟨y,z,rfl,h2,h3⟩:=fL r1;cases h2;cases h3;rename_i i j;refine⟨a,[i,j],rfl,bM.of (s _ _ a1),Ua _ _,λM m1 m2=>?_⟩;have e:M=if j>i then j else i:=by have e1:=m2 i (by simp);have e2:=m2 j (by simp);simp only[RP,S4,Sg]at m1;split<;>lia
   rw[e];exact bL.sc q s h (.int _)
 exact h.elim
section
variable{X:Cx}{Ex:XK}{Y:WN}{a b:Expr}{as:List Arg}{pos p:Pos}
def Ol(hm:X.mg "min"=none)(S:aN X Ex Y [a] as)(hc:X.calm=true:=by rfl)(hg:Gl X "min":=by rfl)(ns:noStar a=true:=by rfl):SE X Ex Y (.Call (.Name "min" p) [a] [] pos) (aa pO as):=eF (DB hc) FT hg hm VW (by decide) (by decide) (by rw[RN,ns];rfl) S
def Oe(hm:X.mg "max"=none)(S:aN X Ex Y [a] as)(hc:X.calm=true:=by rfl)(hg:Gl X "max":=by rfl)(ns:noStar a=true:=by rfl):SE X Ex Y (.Call (.Name "max" p) [a] [] pos) (aa pU as):=eF (Ed hc) Fe hg hm VX (by decide) (by decide) (by rw[RN,ns];rfl) S
end
end Dv
namespace L2
open PySem PySem.Spec PyProof.Rows
def wH(l:Addr)(items:WB) (n:Nat)(b:Addr)(items2:WB) (n2:Nat)(dd2:WD)(sl2:Vq)(hs0:¬(!items.isEmpty&&Builtin.List.listTooLong (items.size+items2.size))=true)(hs1:items.size<=sizeLine)(hs2:items.size+items2.size<=sizeLine+1) : Meets (Builtin.«list.extend» ⟨[.ref l,.ref b],[]⟩) (λ_ R s=>s.heap.get? l=some { cls:=.type "list",dict:=none,data:=.seq items n,slots:=#[] }/\s.heap.get? b=some { cls:=.type "tuple",dict:=dd2,data:=.seq items2 n2,slots:=sl2 }/\R (.ok (.ret Value.none)) { s with heap:=s.heap.update l (Obj.mapSeq λx=>x++items2),toks:=s.toks }):=
 .of_wp λprog w A R s h=>by
  obtain⟨hp,g,d,tk,os⟩:=s;obtain⟨hl,hb,h⟩:=h;have f1:=AutoSeq1.idx_int;have f2:=AutoSeq1.sub_tuple_tuple;have f3:=AutoSeq1.sub_list_list;have f4:=AutoSeq1.sub_tuple_list;have f5:=AutoSeq1.sub_list_tuple;have hz':(items++items2).size<=sizeLine+1:=by rw[Array.size_append];exact hs2
  wp_walk using(wpAny_updateSeq hl rfl (hz:=hs1) (_hz':=hz')),AutoSeq1.wpAny_loadPart' hl,AutoSeq1.wpAny_loadPart' hb;exact⟨_,rfl,h⟩
section
variable{X:Cx}
inductive uG(K:Vz) (x:V)(vs:List V)(H:Hp)(Q:VK):Prop
 |mk:∀l b xs zs,(x=.ref l)->(vs=[.ref b])->(H l=some (.lst xs))->(bM K H b zs)->(xs.length+zs.length<=sizeLine)->(Q .bg (upd H l (.lst (xs++zs))))->uG K x vs H Q
noncomputable def wA (K:Vz):V->List V->Hp->VK->Prop:=λx vs H Q=>uG K x vs H Q
def B7:uI X "list.extend" (wA X.K):=by
 intro pins s U H x vs v us Q I rx rv h;obtain⟨l,b,xs,zs,rfl,rfl,hH,hB,hz,q⟩:=h;cases rx;obtain⟨u,rfl,ru⟩:=rv.one;cases ru;obtain⟨z,its,n,r,hl,e⟩:=I.vY hH;obtain⟨its2,r2,p2,_⟩:=I.tuple hB;obtain⟨⟨cls2,dd2,data2,sl2⟩,e2,hc2,n2,hd2⟩:=id p2;simp only at hc2 hd2;subst hc2 hd2;have hl2:=r2.length;have hsz:its.toArray.size+its2.toArray.size<=sizeLine:=by rw[RQ,RQ];lia
 have hlong:¬(!its.toArray.isEmpty&&Builtin.List.listTooLong (its.toArray.size+its2.toArray.size))=true:=by rw[nC hsz,UA];exact RZ
 refine Ti F.slot_list_extend ⟨_,e,rfl⟩ F.entry_list_extend (F.args_list_extend_2 _ _)
  (wH l its.toArray n b its2.toArray n2 dd2 sl2 hlong (by rw[RQ];lia) (by lia)) ⟨e,e2,?_⟩
 refine⟨.bg,_,I.yg (its':=its++its2) hH e (by simp) (r.append r2) ?_,rfl,q⟩;rw[RM];lia
end
end L2
namespace Dv
open PySem L2 PySem.W
noncomputable def vJ:DM:=λds args P=>match args with
 |[.tuple es]=>ds.length+es.length<=sizeLine/\P (ds++es) .none
 |_=>False
def pQ:vJ ds [.tuple es] P=(ds.length+es.length<=sizeLine/\P (ds++es) .none):=rfl
def F7:uQ K vJ (wA K):=by
 intro H Hm a xs ds vs args P Q ha _ s r ra h q;unfold vJ at h;split at h
 .obtain⟨x,rfl,h1⟩:=dg ra;cases h1 with
  |@tup b zs _ b1 r2=>exact⟨a,b,xs,zs,rfl,rfl,ha,bM.of (s _ _ b1),by rw[r.len,r2.len];exact h.1,q _ _ _ _ h.2 (r.app r2) .bg⟩
 exact h.elim
end Dv
namespace L2
open PySem PySem.Spec PyProof.Rows
end L2
namespace Dv
open PySem L2 PySem.W
end Dv
namespace Dv
open PySem L2 PySem.Spec PyProof.Rows PySem.W
section
variable{X:Cx}{Ex:XK}{Y:WN}{e1 e2:Expr}{elts:WK}{d1 d2:DE}
end
end Dv
namespace Dv
open PySem L2 PySem.W
noncomputable def CT (k:Kd)(v:PyData)(Q:WC->Prop):Prop:=match k,v with
 |.ow _,.list es=>Q es
 |_,_=>False
noncomputable def vW (as:List Arg)(us:WC)(E:En)(k:Kd)(v:PyData):Option En:=cU ((cJ as).all (iH E)||(flat k v&&us.all (flat (.ow false)))) (some E) (gA (cJ as) E)
noncomputable def sW (sp:bC)(as1:List Arg)(d0:DE)(as2 as:List Arg):DE:=λx E Q=>gX as1 x E λE1 os1=>d0 x E1 λE2 k v=>CT k v λes=>gX as2 x E2 λE3 os2=>ay (cj as1 E3 os1) λds1=>ay (cj as2 E3 os2) λds2=>sp (ds1++.list es::ds2) (λus k v=>ay (vW as us E3 k v) λE4=>Q E4 k v) x
def Gk:sW sp as1 d0 as2 as x (o::E) Q=gX as1 x (o::E) λE1 os1=>d0 x E1 λE2 k v=>CT k v λes=>gX as2 x E2 λE3 os2=>ay (cj as1 E3 os1) λds1=>ay (cj as2 E3 os2) λds2=>sp (ds1++.list es::ds2) (λus k v=>ay (vW as us E3 k v) λE4=>Q E4 k v) x:=rfl
def Nq{p:Bool}:CT (.ow p) (.list es) Q=Q es:=rfl
def Kq:vW as us (o::E) k v=cU ((cJ as).all (iH (o::E))||(flat k v&&us.all (flat (.ow false)))) (some (o::E)) (gA (cJ as) (o::E)):=rfl
def Oh(h:CT k v Q):∃p es,k=.ow p/\v=.list es/\Q es:=by unfold CT at h;split at h;{exact⟨_,_,rfl,rfl,h⟩};exact h.elim
section
variable{K:Frag}
theorem Got.mono{U:St}{Hm Hm':Hp}{as:List Arg}{os:List (Option PyData)}{vs:List V}(s:ah Hm Hm')(G:Got K U Hm as os vs):Got K U Hm' as os vs:=by
 induction G with
 |nil=>exact .nil
 |pk h _ ih=>exact .pk h ih
 |ev r _ ih=>exact .ev (r.mono s) ih
def Ea(h:Ag K H Hm ms vs2 ds2 as):aA K Hm vs1 ds1->Ag K H Hm (List.replicate vs1.length false++ms) (vs1++vs2) (ds1++ds2) as:=by
 induction ds1 generalizing vs1 with
 |nil=>intro r;cases r;exact h
 |cons d ds ih=>intro r;cases r with|cons a b=>exact .sh a (ih b)
def LS(r:aA K Hm vs ds):Ag K H Hm (List.replicate vs.length false) vs ds []:=by have h:=Ea (Ag.nil (K:=K) (H:=H) (Hm:=Hm)) r;rwa[Rz,Rz,Rz]at h
def ze{U:St}{Hm:Hp}{as:List Arg}{os:List (Option PyData)}{vs:List V}(G:Got K U Hm as os vs):vs.length=as.length:=by
 induction G with
 |nil=>rfl
 |pk _ _ ih=>exact congrArg (·+1) ih
 |ev _ _ ih=>exact congrArg (·+1) ih
noncomputable def Gh.put (g:Gh)(a:Addr)(o:HO):Gh:={ H0:=upd g.H0 a o,dG:=λb=>if b=a then none else g.dG b,pins:=g.pins }
def Rl.beside{F:Nat->WI}{a:Addr}(R:Rl K g E U H Hm F)(ha:H a=some o)(hm:Hm a=none)(nf:∀i,a∉F i)(h0:g.H0 a=none):Rl K (g.put a o) E U H Hm F where
 len:=R.len
 sub:=R.sub
 slot:=R.slot
 off:=R.off
 bu:=R.bu
 aG:=R.aG
 fr:=λp u hp hu=>by
  by_cases c:p=a
  .subst c
   replace hu:upd g.H0 p o p=some u:=hu
   rw[aC]at hu;cases hu;exact ha
  .replace hu:upd g.H0 a o p=some u:=hu
   rw[aj c]at hu;exact R.fr p u hp hu
 new:=λi b hb=>by
  rcases R.new i b hb with z|z
  .exact .inl z
  .exact .inr ((aj λy=>nf i (by rw[<-y];exact hb)).trans z)
 pin:=R.pin
 old:=λb hb=>by
  show OE (Hm b) (if b=a then none else g.dG b)
  by_cases c:b=a
  .rw[if_pos c,c,hm];exact .rfl'
  .rw[if_neg c];exact R.old b (by replace hb:upd g.H0 a o b≠none:=hb;rwa[aj c]at hb)
def Rl.Jg{F:Nat->WI}{a:Addr}(R:Rl K (g.put a (.lst xs)) E U H Hm F)(nM:a∉g.M)(h0:g.H0 a=none) : H a=some (.lst xs)/\Hm a=none/\(∀i,a∉F i)/\Rl K g E U (λb=>if b=a then none else H b) Hm F:=by
 have ha:H a=some (.lst xs):=R.fr a _ nM aC;have hm:Hm a=none:=by have h:=R.old a (by show upd g.H0 a (.lst xs) a≠none;rw[aC];exact λz=>nomatch z);refine h.off ?_ R.sub ha k8;show(if a=a then none else g.dG a)=none;exact if_pos rfl
 have nf:∀i,a∉F i:=λi z=>by rcases R.new i a z with y|y;{exact nM y};replace y:upd g.H0 a (.lst xs) a=none:=y;rw[aC]at y;cases y
 have nF:∀{i b},b∈F i->b≠a:=λh z=>nf _ (z▸h);refine⟨ha,hm,nf,{ len:=R.len,sub:=λb o e=>?_,slot:=λi k d e=>?_,off:=R.off,bu:=λi b hb=>?_,aG:=R.aG,fr:=λp u hp hu=>?_,new:=λi b hb=>?_,pin:=R.pin,old:=λb hb=>?_ }⟩;{show(if b=a then none else H b)=some o;rw[if_neg λz=>by rw[z,hm]at e;cases e];exact R.sub b o e};{obtain⟨v,h1,h2⟩:=R.slot i k d e;exact⟨v,h1,h2.step (ah.refl _) λb hb=>if_neg (nF hb)⟩};{obtain⟨u,hu,nt⟩:=R.bu i b hb;exact⟨u,(if_neg (nF hb)).trans hu,nt⟩}
 .have c:p≠a:=λz=>by rw[z,h0]at hu;cases hu
  exact(if_neg c).trans (R.fr p u hp ((aj c).trans hu))
 .rcases R.new i b hb with z|z;{exact .inl z};exact .inr ((aj (nF hb)).symm.trans z)
 have c:b≠a:=λz=>hb (by rw[z,h0]);have h:=R.old b (by show upd g.H0 a (.lst xs) b≠none;rwa[aj c]);have e:(g.put a (.lst xs)).dG b=g.dG b:=if_neg c;rwa[e]at h
end
section
variable{X:Cx}{Ex:XK}{Y:WN}
def IP(h:oG X es1 U H λvs1 H1=>oG X es2 U H1 λvs2 H2=>Q (vs1++vs2) H2):oG X (es1++es2) U H Q:=by
 induction es1 generalizing H Q with
 |nil=>exact h
 |cons e es ih=>exact λpins s I=>aO (h pins s I) λv s1 ⟨y,H1,I1,r1,w⟩=>⟨y,H1,I1,r1,ih w⟩
def Fd{x:Str}{k:Nat}{ps:WQ}{sp:bC}{p pos:Pos}{e0:Expr}{es1 es2:WK}{d0:DE}{as1 as2:List Arg}(F:bN X.prog X.w X.K X.mg X.base k x ps (bX X.mg X.K (List.replicate es1.length false++true::List.replicate es2.length false) sp))(hp:Passes (eE X.prog X.w) X Ex)(hr:dm k X.A)(hg:Gl X x)(hd:(x==("__debug__":Str))=false){e:Expr}{es:WK}(hes:e::es=es1++e0::es2)(ns:(e::es).all noStar=true)(S1:aN X Ex Y es1 as1)(S0:SE X Ex Y e0 d0)(S2:aN X Ex Y es2 as2):SE X Ex Y (.Call (.Name x p) (e::es) [] pos) (sW sp as1 d0 as2 (as1++as2)):=by
 intro g xc E U H Hm Fo P Q hx R h q;obtain⟨f,fd,h1,h2,h3,h4⟩:=F;refine WE.of (z0 (E:=Ex) h4 hr hg h1 h2 h3 .nil hp (dP ns) hd (aU (by rw[RN,RJ]at ns;exact ns.1)) (eY (by rw[RN,RJ]at ns;exact ns.2))) ?_;rw[hes];refine IP ?_;refine jd hx S1 R h λE1 os1 vs1 H1 Hm1 F1 p1 R1 s1 G1=>?_;refine S0 g xc E1 U H1 Hm1 F1 _ _ hx R1 p1 λE2 k v u H2 Hm2 F2 fp p2 R2 s2 T=>?_;obtain⟨b,es',rfl,rfl,p2⟩:=Oh p2;obtain⟨own,toff,tdis,tnew⟩:=T;cases own with
 |@ow _ a xs _ ha hxs=>
 have hm:=toff a RC;have nf:=tdis a RC;have h0:=tnew a RC;have nM:a∉g.M:=λz=>by obtain⟨y,hy,rfl⟩:=RG.mp z;exact nf y.1 (by rw[R2.wY hy];exact RC)
 have hx':XL X Ex xc (g.put a (.lst xs)):=λc d C b H' hC hxc fr hb hn=>by
  replace hn:upd g.H0 a (.lst xs) b=none:=hn;have nb:b≠a:=λz=>by rw[z,aC]at hn;cases hn
  exact hx c d C b H' hC hxc (λp o hp ho=>fr p o hp (by
   show upd g.H0 a (.lst xs) p=some o;rw[aj λz=>by rw[z,h0]at ho;cases ho];exact ho)) hb (by rwa[aj nb]at hn)
 refine jd hx' S2 (R2.beside ha hm nf h0) p2 λE3 os2 vs2 H3 Hm3 F3 p3 R3 s3 G2=>?_;obtain⟨ha3,hm3,nf3,R4⟩:=R3.Jg nM h0;rw[<-bf,dS]at p3;obtain⟨ds1,f1,p3⟩:=p3;rw[<-bf,dS]at p3;obtain⟨ds2,f2,p3⟩:=p3;have off:∀c∈(cJ (as1++as2)).flatMap F3,Hm3 c=none:=λc hc=>by obtain⟨i,_,h⟩:=Rq.mp hc;exact R4.off i c h
 have up:=gS (Hm:=Hm3) (H:=λb=>if b=a then none else H3 b) off;have pin:∀(as:List Arg),(∀i∈cJ as,i∈cJ (as1++as2))->∀i∈cJ as,∀c∈F3 i,lend Hm3 (λb=>if b=a then none else H3 b) ((cJ (as1++as2)).flatMap F3) c=(if c=a then none else H3 c):=λas hs i hi c hc=>dY (Rq.mpr ⟨i,hs i hi,hc⟩);have pk1:∀{as bs:List Arg}{i:Nat},i∈cJ as->i∈cJ (as++bs):=by
  intro as bs i;induction as with
  |nil=>intro h;cases h
  |cons y as ih=>
   cases y with
   |pk j=>intro h;rcases RP.mp h with rfl|h;{exact RC};exact RK _ (ih h)
   |ev d=>exact ih
 have pk2:∀{as bs:List Arg}{i:Nat},i∈cJ bs->i∈cJ (as++bs):=by
  intro as bs i;induction as with
  |nil=>exact id
  |cons y as ih=>
   cases y with
   |pk j=>exact λh=>RK _ (ih h)
   |ev d=>exact ih
 have r1:=mz R4 up (G1.mono (s2.trans s3)) f1 (pin _ λ_=>pk1);have r2:=mz R4 up G2 f2 (pin _ λ_=>pk2);have lo:lend Hm3 (λb=>if b=a then none else H3 b) ((cJ (as1++as2)).flatMap F3) a=none:=by
  rw[cL λz=>by
   obtain⟨i,_,h⟩:=Rq.mp z;exact nf3 i h]
  exact hm3
 have sb:ah (lend Hm3 (λb=>if b=a then none else H3 b) ((cJ (as1++as2)).flatMap F3)) H3:=λc o e=>by have e2:=iO R4.sub c o e;replace e2:(if c=a then none else H3 c)=some o:=e2;split at e2;{cases e2};exact e2
 have l1:vs1.length=es1.length:=by
  have:∀{es:WK}{as:List Arg},aN X Ex Y es as->es.length=as.length:=λS=>by
   induction S with
   |nil=>rfl
   |pk _ _ _ ih=>exact congrArg (·+1) ih
   |ev _ _ ih=>exact congrArg (·+1) ih
  rw[ze G1,this S1]
 have l2:vs2.length=es2.length:=by
  have:∀{es:WK}{as:List Arg},aN X Ex Y es as->es.length=as.length:=λS=>by
   induction S with
   |nil=>rfl
   |pk _ _ _ ih=>exact congrArg (·+1) ih
   |ev _ _ ih=>exact congrArg (·+1) ih
  rw[ze G2,this S2]
 have ag:Ag X.K H3 (lend Hm3 (λb=>if b=a then none else H3 b) ((cJ (as1++as2)).flatMap F3)) (List.replicate vs1.length false++true::List.replicate vs2.length false) (vs1++.ref a::vs2) (ds1++.list es'::ds2) [a]:=Ea (.mu ha3 (((hxs.mono s3).mono up)) lo (by simp) (LS r2)) r1;rw[l1,l2]at ag;show bX X.mg X.K _ sp ((vs1++.ref a::vs2)++[]) H3 Q Ex;rw[Rz];refine⟨_,_,_,_,xc,sb,ag,p3,λus k r u H' Hm' fp p4 sM sS fr old bk o new=>?_,λc d C b H' hC hxc fr hb hn=>?_⟩
 .replace p4:ay (vW (as1++as2) us E3 k r) λE4=>P E4 k r:=p4;rw[<-bf]at p4;obtain⟨E4,hE,p4⟩:=p4;unfold vW at hE;rw[bO,nO]at hE;have hn:∀{c},(if c=a then none else H3 c)≠none->c≠a/\H3 c≠none:=λ{c} h=>by by_cases z:c=a;{rw[if_pos z]at h;exact absurd rfl h};rw[if_neg z]at h;exact⟨z,h⟩
  obtain⟨Hm'',F'',R'',s'',T⟩:=r9 R4 (E2:=E3) (E3:=E4) (is:=cJ (as1++as2)) (ix:=[]) (us:=us) (λ_ z=>nomatch z) (λ_ z=>nomatch z) rfl (λ_ _=>rfl) (λ_ z=>nomatch z) (su hE) sM sS
   (λp w hp hw=>fr p w (λz=>by rw[RE.mp z,if_pos rfl]at hw;cases hw) (by
    by_cases z:p=a
    .rw[if_pos z]at hw;cases hw
    .rw[if_neg z]at hw;exact hw)) (λc _ hc=>old c (λz=>(hn hc).1 (RE.mp z)) (hn hc).2) o (λc hc=>by
     obtain⟨n1,n2⟩:=new c hc;exact⟨by show(if c=a then none else H3 c)=none;rw[n1];split<;>rfl,n2⟩)
  exact q _ _ _ _ _ _ _ _ p4 R'' (s1.trans (s2.trans (s3.trans s''))) T
 refine hx c d C b H' hC hxc (λp o hp ho=>fr p o (λz=>?_) (R3.fr p o hp ?_)) hb ?_;{rw[RE.mp z,h0]at ho;cases ho};{show upd g.H0 a (.lst xs) p=some o;rw[aj λz=>by rw[z,h0]at ho;cases ho];exact ho};have n:=R3.fK hn;replace n:upd g.H0 a (.lst xs) b=none:=n;rwa[aj λz=>by rw[z,ha3]at hn;cases hn]at n
def LU{k k':Nat}{x:Str}{ps:WQ}{sp:bC}{p pos:Pos}{e0 e:Expr}{es es1 es2:WK}{d0:DE}{as1 as2:List Arg}{ms:WJ}(F:bN X.prog X.w X.K X.mg X.base k x ps (bX X.mg X.K ms sp))(hp:Passes (eE X.prog X.w) X Ex)(hr:dm k' X.A)(S1:aN X Ex Y es1 as1)(S0:SE X Ex Y e0 d0)(S2:aN X Ex Y es2 as2)(hes:e::es=es1++e0::es2:=by rfl)(hms:ms=List.replicate es1.length false++true::List.replicate es2.length false:=by rfl){as:List Arg}(ha:as=as1++as2:=by rfl)(hk:k<=k':=by decide)(hg:Gl X x:=by rfl)(hd:(x==("__debug__":Str))=false:=by decide)(ns:(e::es).all noStar=true:=by rfl) : SE X Ex Y (.Call (.Name x p) (e::es) [] pos) (sW sp as1 d0 as2 as):=by subst hms ha;exact Fd F hp (hr.mono hk) hg hd hes ns S1 S0 S2
end
end Dv
namespace SM
open PySem PySem.W PyProof.Rows
section
variable{prog:Program}{w:World}{A:Around}{E:Vr}{s:Shared}{es:Vv}{ep:Nat}{v d:Addr}
def oO.at(D:oO h d es ep)(k:∀o,h.get? d=some o->h'.get? d=some o):oO h' d es ep:=by obtain⟨o,ho,r⟩:=D;exact⟨o,k o ho,r⟩
def CB(hh:A.handled=none)(I d:Addr)(ne:d≠I)(es:Vv) (ep:Nat) : Walks prog w A I [I,d] [I] es.size (λi v=>∃e,es[i]?=some e/\v=e.val) (λi h=>h.IsValIter I d i es.size ep/\oO h d es ep) where
 sub:=λb hb=>by
  simp at hb;simp[hb]
 frame:=λi h h' st hk=>⟨st.1.at λo e=>hk I (by simp) o e,st.2.at λo e=>hk d (by simp) o e⟩
 item:=λi s Q E hi st hQ=>by
  refine FD st.1 st.2 (UR hi) λh' hit' sb=>?_
  exact hQ _ h' s.toks ⟨_,UR hi,rfl⟩ ⟨hit',st.2.at λo e=>by rw[sb.2 d ne];exact e⟩ λb o hb e=>by rw[sb.2 b (λz=>hb (by simp[z]))];exact e
 done:=λs Q E st hQ=>yO hh st.1 st.2 (RB _) λh' eb=>hQ h' s.toks λb o hb e=>eb b o (λz=>hb (by simp[z])) e
 self:=λi s Q E st hQ=>wpAny_pyIter_valiter st.1 hQ
def GA(v d:Addr)(es:Vv) (ep:Nat):KdlSrc prog w "dict_values" v d es.size (λi x=>∃e,es[i]?=some e/\x=e.val) (λh=>h.IsValuesView v d/\oO h d es ep) where
 type:=λs D=>D.1.typeIs
 there:=λh D=>by
  obtain⟨⟨o,ho,_⟩,o2,ho2,_⟩:=D;exact⟨RL ho,RL ho2⟩
 keep:=λh h' D hk=>by
  obtain⟨⟨o,ho,r⟩,D2⟩:=D;exact⟨⟨o,hk v (.inl rfl) o ho,r⟩,D2.at λo e=>hk d (.inr rfl) o e⟩
 notList:=by decide
 notTuple:=by decide
 hint:=λA E s Q D q=>kdl_hint_values D.1.typeIs q
 iter:=λA s hh D=>by
  refine⟨_,_,λE Q q=>Dc D.1 D.2 q,CB hh _ d ?_ es ep,⟨⟨_,Rx _ rfl,rfl,rfl⟩,D.2.at λo e=>Ra _ e⟩⟩
  obtain⟨o,ho,_⟩:=D.2;exact Rc (RL ho)
end
end SM
namespace L2
open PySem PySem.Spec PyProof.Rows
section
variable{X:Cx}
theorem uX{α β:Type}{F:α->β->Prop}:∀{l:List α}{m:List β},l.length=m.length->(∀(j:Nat) x y,l[j]?=some x->m[j]?=some y->F x y)->Paired F l m
 |[],[],_,_=>.nil
 |[],_::_,h,_=>nomatch h
 |_::_,[],h,_=>nomatch h
 |x::l,y::m,h,k=>.cons (k 0 x y rfl rfl) (uX (Nat.succ.inj h) λj a b e1 e2=>k (j+1) a b e1 e2)
inductive Mk(Q:VK) (x:V)(H1:Hp):Prop
 |mk:∀a kvs,(x=.ref a)->(H1 a=some (.dT kvs))->(∀l,H1 l=none->Q (.ref l) (upd H1 l (.lst (kvs.map (·.2)))))->Mk Q x H1
noncomputable def Q6 (tl:TE):TE:=λU H Q=>tl U H λx H1=>Mk Q x H1
def Fj{apos cpos:Pos}(hc:X.calm=true)(hg:Gl X "list")(hm:X.mg "list"=none)(hl:PE X l tl)(hbase:attributeBase l "values" X.env (eval l X.env)=eval l X.env:=by rfl)(hline:(apos.endLine==cpos.line)=true:=by rfl) : PE X (.Call (.Name "list" p) [.Call (.Attribute l "values" apos) [] [] cpos] [] pos) (Q6 tl):=by
 intro pins s U H Q I h;refine Call_ (ji I hg hm VT (U3 ?_ rfl rfl));show wpAny _ _ (spliced ((false,eval (.Call (.Attribute l "values" apos) [] [] cpos) X.env)::backTo pos [])) _ _ s;refine Calls.spliced_cons ?_;refine wpAny_Call_method0_late hbase hline (aO (hl pins s U H _ I h) λv s1 ⟨x,H1,I1,r1,q1⟩=>?_);obtain⟨a,kvs,e,ha,q⟩:=q1;subst e;cases r1;obtain⟨z,hd,xs,rel,o,es,ep,h1,h2,h3,h4,h5⟩:=(show bE X.prog X.w H1 s1.heap a (.dT kvs)from I1.hok a _ ha);refine⟨"dict","dict.values",F.plainAttrs_dict,F.slot_dict_values,F.type_dict_values,⟨o,h1,h2.1⟩,λb e=>?_,VL rfl (PySem.evalArgs_none (SM.JV hd ⟨o,h1,h2,h3⟩ ?_))⟩;{cases e;exact⟨o,h1,h2.2.1⟩};refine Calls.spliced_nil ?_;have el:es.size=kvs.length:=by rw[<-T8,h4,RA,Paired.length rel]
 have kp1:∀b u,s1.heap.get? b=some u->(s1.heap.push { cls:=.type "dict_values",data:=.fields #[.ref a] }).get? b=some u:=λb u e=>Ra _ e;refine PySem.W.kdl_call (s:={ s1 with heap:=s1.heap.push { cls:=.type "dict_values",data:=.fields #[.ref a] } }) (SM.GA s1.heap.objs.size a es ep) (I1.ok.hd hc) ⟨⟨_,Rx _ rfl,rfl,rfl⟩,⟨o,kp1 _ _ h1,h2,h3⟩⟩ (by lia) λh' tk acc c kp hS its=>?_;obtain⟨z1,z2⟩:=its;have rv:Vals (kvs.map (·.2)) acc.toList:=by refine uX (by rw[RA];show kvs.length=acc.size;lia) λj x y hx hy=>?_;rw[Tq]at hy;obtain⟨en,e1,rfl⟩:=z2 j y hy;rw[<-Tq,h4,RO]at e1;rw[RO]at hx;obtain⟨kv,e3,rfl⟩:=TJ.mp hx;obtain⟨k,e4,r⟩:=u5 rel e3;rw[e4]at e1;cases e1;exact r.2.2
 have I2:Inv X pins U H1 { s1 with heap:=s1.heap.push { cls:=.type "dict_values",data:=.fields #[.ref a] } }:=I1.kept (t':=s1.toks) kp1;exact⟨.ref _,_,I2.laid (t':=tk) kp (RB _) (o:=.lst (kvs.map (·.2))) ⟨by rw[RA];exact z,acc.toList,c,rv,by simpa using hS⟩,rfl,q _ (I2.hok.fresh (RB _))⟩
end
end L2
namespace Dv
open PySem L2 PySem.W
noncomputable def M5 (E:En) (i:Nat):Bool:=match E[i]? with
 |some (some (.dt _,.dict ((.none,.none)::_)))=>true
 |_=>false
noncomputable def EK (kvs:Vp)(k v:PyData):Vp:=match cF kvs k with
 |some _=>kvs
 |none=>kvs++[(k,v)]
noncomputable def Ca (i jc:Nat)(e:DE):DE:=λx E Q=>M5 E i=true/\∃kc ks,E[jc]?=some (some (kc,.list ks))/\kc.rd=true/\ks.all kT=true/\e x E λE2 k v=>k.fz=true/\∃kvs,E2[i]?=some (some (.dt false,.dict ((.none,.none)::kvs)))/\kvs.length<sizeLine/\Q (E2.set i (some (.dt false,.dict ((.none,.none)::EK kvs (.tuple ks) v)))) .sh ((cF kvs (.tuple ks)).getD v)
noncomputable def Kf (i:Nat):DE:=λ_ E Q=>∃p kvs,E[i]?=some (some (.dt p,.dict ((.none,.none)::kvs)))/\Q E (.ow false) (.list (kvs.map (·.2)))
section
variable{K:Frag}
theorem dO.vals:∀{kvs:List (List Key×V)}{ds:Vp},dO K H kvs ds->aA K H (kvs.map (·.2)) (ds.map (·.2))
 |_,_,.nil=>.nil
 |_,_,.cons r t=>.cons r t.vals
end
section
variable{X:Cx}{Ex:XK}{Y:WN}
def C9{tp:Addr}{F:Nat->WI}(R:Rl K g E U H Hm F)(htp:H tp=none):Rl K g E U (upd H tp (.tup xs)) (upd Hm tp (.tup xs)) F/\ah Hm (upd Hm tp (.tup xs)):=by
 have n:=gg R.sub htp;have s2:=bY (o:=.tup xs) n;refine⟨R.grow (bY htp) s2 (λb o e=>?_) (λi a ha=>?_) λa ha=>.inl (aj λz=>R.pP ha (z▸htp)),s2⟩;{by_cases c:b=tp;{rw[c,aC]at e⊢;exact e};rw[aj c]at e⊢;exact R.sub _ _ e};rw[aj λz=>by
  obtain⟨u,hu,_⟩:=R.bu i a ha;rw[z,htp]at hu;cases hu]
 exact R.off i a ha
def L6{i j jc jj:Nat}(hu:X.A.units+64<cLine)(hg:Gl X "tuple")(hm:X.mg "tuple"=none)(hv:PE X (.Name x p) (kJ j))(hj:Y[j]?=some i)(hc:PE X (.Name c cp) (kJ jj))(hjc:Y[jj]?=some jc)(h0:SE X Ex Y e d)(ns:noStar e=true)(l1:(ap.endLine==cpos.line)=true):SE X Ex Y (.Call (.Attribute (.Name x p) "setdefault" ap) [.Call (.Name "tuple" tp) [.Name c cp] [] cpos1,e] [] cpos) (Ca i jc d):=by
 intro g xc E U H Hm F P Q hx R h q;obtain⟨hd,kc,ks,ec,hkc,hks,pq⟩:=h;obtain⟨p0,kv0,ei⟩:∃p kvs,E[i]?=some (some (.dt p,.dict ((.none,.none)::kvs))):=by unfold M5 at hd;split at hd;{rename_i p kvs e;exact⟨p,kvs,e⟩};cases hd
 obtain⟨v0,hv0,o0⟩:=R.slot i _ _ ei;obtain⟨a,kvs0,rfl,ha0⟩:∃a kvs,v0=.ref a/\H a=some (.dT kvs):=by
  generalize F i=fi at o0;cases o0 with
  |dt ha _=>exact⟨_,_,rfl,ha⟩
 obtain⟨vc,hvc,oc⟩:=R.slot jc _ _ ec;have rc:Rp X.K H vc (.list ks):=oc.rp hkc R.sub λ_ _=>rfl;obtain⟨k,rfl⟩:=jk hks;cases rc with
 |@lst ca xs _ hca rxs=>
 have exs:=qU rxs;subst exs;refine WE.of (BF PySem.F.plainAttrs_dict PySem.F.slot_dict_setdefault PySem.F.type_dict_setdefault (IY (by lia)) hv (gU (lg n5 hg hm PyProof.Rows.boot_tuple (gU hc lP)) (gU aX lP (aU ns))) rfl (by rw[aU (by rfl),aU ns];rfl) l1 (aU (by rfl)) ?_) ?_;{exact eY (by rw[RN,ns];rfl)};refine⟨_,cZ hj hv0,.inr (.inr (.inl ⟨rfl,.inr ⟨_,ha0⟩⟩)),_,cZ hjc hvc,ca,_,rfl,.inl ⟨hca.sq,λtp htp=>?_⟩⟩;obtain⟨R1,sm1⟩:=C9 (xs:=k.map kV) R htp;refine h0 g xc E U _ _ F _ _ hx R1 pq λE2 kd v u H2 Hm2 F2 fp p2 R2 s2 T=>?_;obtain⟨hk,kvd,e2,hl,pq⟩:=p2;obtain⟨Hm3,s3,R3,rv⟩:=T.dW R2 hk;have htp3:H2 tp=some (.tup (k.map kV)):=R3.sub _ _ (s3 _ _ (s2 _ _ aC));obtain⟨v',F3,hv3,R4,T4⟩:=R3.move e2 rfl;rw[hv0]at hv3;cases hv3;generalize hfi:F2 i=fi at T4;obtain⟨own,toff,tdis,tnew⟩:=T4;have li:=bx e2;have op:bJ (E2.set i none) i=true:=by unfold bJ;rw[aF li]
 cases own with
 |@dt _ _ kvs _ ha tvs=>
 refine⟨a,tp,kvs,k,u,rfl,rfl,ha,htp3,by rw[tvs.len];exact hl,?_⟩;have sm:=sm1.trans (s2.trans s3);rcases tvs.val (k:=k)with⟨z1,z2⟩|⟨w,d',z1,z2,rw'⟩;{rw[z2];have A1:nS g F3 H2 Hm3 [a]:=⟨λb hb=>by rw[RE.mp hb];exact⟨_,ha,sF⟩,toff,tdis,tnew⟩;have R5:=R4.Oq (o:=.dT (kvs++[(k,u)])) A1;have T6:Tm X.K g F3 (upd H2 a (.dT (kvs++[(k,u)]))) Hm3 (.dt false) (.ref a) (.dict ((.none,.none)::(kvd++[(.tuple (k.map bD),v)]))) [a]:=⟨.dt aC (tvs.app k rv),toff,tdis,tnew⟩;have R7:=R5.put T6 op;rw[V3,set_same hv0]at R7;unfold EK at pq;rw[z1]at pq;exact q _ _ _ _ _ _ _ [] pq R7 sm (Tm.sh rv)};rw[z1];unfold EK at pq;rw[z2]at pq;have T6:Tm X.K g F3 H2 Hm3 (.dt false) (.ref a) (.dict ((.none,.none)::kvd)) [a]:=⟨.dt ha tvs,toff,tdis,tnew⟩;have R7:=R4.put T6 op;rw[V3,set_same hv0]at R7;exact q _ _ _ _ _ _ _ [] pq R7 sm (Tm.sh rw')
def P4(j jj:Nat){i jc:Nat}(hu:X.A.units+64<cLine)(hm:X.mg "tuple"=none)(h0:SE X Ex Y e d)(hg:Gl X "tuple":=by rfl)(hN:X.N[j]?=some x:=by rfl)(hv:kK X.env.scope x:=by first|exact Or.inl rfl|exact Or.inr (Or.inl rfl)|exact Or.inr (Or.inr rfl))(hj:Y[j]?=some i:=by rfl)(hNc:X.N[jj]?=some c:=by rfl)(hvc:kK X.env.scope c:=by first|exact Or.inl rfl|exact Or.inr (Or.inl rfl)|exact Or.inr (Or.inr rfl))(hjc:Y[jj]?=some jc:=by rfl)(ns:noStar e=true:=by rfl)(l1:(ap.endLine==cpos.line)=true:=by rfl)(b1:(x==("__debug__":Str))=false:=by decide)(b2:(x==("__classdict__":Str))=false:=by decide)(b3:(c==("__debug__":Str))=false:=by decide)(b4:(c==("__classdict__":Str))=false:=by decide) : SE X Ex Y (.Call (.Attribute (.Name x p) "setdefault" ap) [.Call (.Name "tuple" tp) [.Name c cp] [] cpos1,e] [] cpos) (Ca i jc d):=L6 hu hg hm (fh hN hv b1 b2) hj (fh hNc hvc b3 b4) hjc h0 ns l1
def QY(j:Nat){i:Nat}(hm:X.mg "list"=none)(hc:X.calm=true:=by rfl)(hg:Gl X "list":=by rfl)(hN:X.N[j]?=some x:=by rfl)(hv:kK X.env.scope x:=by first|exact Or.inl rfl|exact Or.inr (Or.inl rfl)|exact Or.inr (Or.inr rfl))(hj:Y[j]?=some i:=by rfl)(hline:(apos.endLine==cpos.line)=true:=by rfl)(b1:(x==("__debug__":Str))=false:=by decide)(b2:(x==("__classdict__":Str))=false:=by decide) : SE X Ex Y (.Call (.Name "list" lp) [.Call (.Attribute (.Name x p) "values" apos) [] [] cpos] [] pos) (Kf i):=by
 intro g xc E U H Hm F P Q hx R h q;obtain⟨p0,kvd,ei,pq⟩:=h;obtain⟨v0,hv0,o0⟩:=R.slot i _ _ ei;refine WE.of (Fj hc hg hm (fh hN hv b1 b2) rfl hline) ?_;generalize F i=fi at o0;cases o0 with
 |@dt _ a kvs _ ha tvs=>
 refine⟨_,cZ hj hv0,a,kvs,rfl,ha,λl hl=>?_⟩;have s2:=bY (o:=.lst (kvs.map (·.2))) hl;have R2:=R.grow (H':=upd H l (.lst (kvs.map (·.2)))) s2 (ah.refl _) (R.sub.trans s2) R.off λ_ _=>.inl rfl;refine q _ _ _ _ _ Hm F [l] pq R2 (ah.refl _) ⟨.ow aC tvs.vals,λb hb=>?_,λb hb i=>?_,λb hb=>?_⟩;{rw[RE.mp hb];exact R.sV hl};{rw[RE.mp hb];exact R.fresh hl};rw[RE.mp hb];exact R.fK hl
end
noncomputable def Ip:DS:=λ_ _=>False
def ND:S1 X Ex st Ip:=λ_ _ _ _ _ _ _ _ _ _ p=>p.elim
def EX:bw X (compareOp .Eq) (jW λi j=>.bl (decide (i=j))):=by intro pins s U H x y v u Q I rx ry h;obtain⟨i,j,rfl,rfl,q⟩:=h;exact GY pins s U H _ _ v u Q I rx ry ⟨rfl,by rw[tU];exact(show(i==j)=decide (i=j)by rw[Sn];simp)▸q⟩
end Dv
namespace Dv
inductive v8{A0 A1:Type}(P:A0->A1->Prop):Prop
 |mk (a0:A0)(a1:A1)(h:P a0 a1):v8 P
inductive zC{A0 A1 A2:Type}(P:A0->A1->A2->Prop):Prop
 |mk (a0:A0)(a1:A1)(a2:A2)(h:P a0 a1 a2):zC P
inductive Dd{A0 A1 A2 A3:Type}(P:A0->A1->A2->A3->Prop):Prop
 |mk (a0:A0)(a1:A1)(a2:A2)(a3:A3)(h:P a0 a1 a2 a3):Dd P
inductive vd{A0 A1 A2 A3 A4:Type}(P:A0->A1->A2->A3->A4->Prop):Prop
 |mk (a0:A0)(a1:A1)(a2:A2)(a3:A3)(a4:A4)(h:P a0 a1 a2 a3 a4):vd P
inductive OY{A0 A1 A2 A3 A4 A5 A6 A7:Type}(P:A0->A1->A2->A3->A4->A5->A6->A7->Prop):Prop
 |mk (a0:A0)(a1:A1)(a2:A2)(a3:A3)(a4:A4)(a5:A5)(a6:A6)(a7:A7)(h:P a0 a1 a2 a3 a4 a5 a6 a7):OY P
inductive O3(p0 p1:Prop):Prop
 |mk (h0:p0)(h1:p1):O3 p0 p1
inductive Ar(p0 p1 p2:Prop):Prop
 |mk (h0:p0)(h1:p1)(h2:p2):Ar p0 p1 p2
inductive vP(p0 p1 p2 p3:Prop):Prop
 |mk (h0:p0)(h1:p1)(h2:p2)(h3:p3):vP p0 p1 p2 p3
inductive HH(p0 p1 p2 p3 p4:Prop):Prop
 |mk (h0:p0)(h1:p1)(h2:p2)(h3:p3)(h4:p4):HH p0 p1 p2 p3 p4
inductive LN(p0 p1 p2 p3 p4 p5:Prop):Prop
 |mk (h0:p0)(h1:p1)(h2:p2)(h3:p3)(h4:p4)(h5:p5):LN p0 p1 p2 p3 p4 p5
inductive MZ(p0 p1 p2 p3 p4 p5 p6:Prop):Prop
 |mk (h0:p0)(h1:p1)(h2:p2)(h3:p3)(h4:p4)(h5:p5)(h6:p6):MZ p0 p1 p2 p3 p4 p5 p6
inductive Ii(p0 p1 p2 p3 p4 p5 p6 p7:Prop):Prop
 |mk (h0:p0)(h1:p1)(h2:p2)(h3:p3)(h4:p4)(h5:p5)(h6:p6)(h7:p7):Ii p0 p1 p2 p3 p4 p5 p6 p7
inductive O6(p0 p1 p2 p3 p4 p5 p6 p7 p8:Prop):Prop
 |mk (h0:p0)(h1:p1)(h2:p2)(h3:p3)(h4:p4)(h5:p5)(h6:p6)(h7:p7)(h8:p8):O6 p0 p1 p2 p3 p4 p5 p6 p7 p8
end Dv
namespace PB
open PySem L2 Dv
noncomputable def fY:DS:=ao (qN [1,2] (aW 0)) (ao (aB 3 (oM sizeLine [6] (fD gY [.pk 1]) (.nm 6) (eU) (aa bP []))) (ao (cO (iE (aW 2)) (.tp [4,5]) (ao (cA (wF cg 3 (aW 4) 5)) (cA (wF cg 3 (aW 5) 4)))) (eV 3)))
noncomputable def iP (Wq:bC):DS:=ao (aB 2 (aH Wq [false] [.pk 0])) (ao (aB 3 (aa cV [.ev (aa bP [.ev (dC .none)]),.ev (aa av [.pk 0,.ev (dC (.int 0))])])) (ao (fF 3 (aW 1) (dC (.int 0))) (ao (aB 4 (aa bP [.pk 1])) (ao (oW (Ij 4) (ao (aB 5 (aa bP [])) (ao (cO (iE (aW 4)) (.nm 6) (cO (iE (aa av [.pk 2,.pk 6])) (.nm 7) (cH (bG (aa (d9 false) [.ev (aa av [.pk 3,.pk 7]),.ev (dC .none)])) (ao (fF 3 (aW 7) (aa b7 [.ev (aa av [.pk 3,.pk 6]),.ev (dC (.int 1))])) (cA (iI cg 5 [aW 7]))) (c9)))) (aB 4 (aW 5))))) (eV 3)))))
noncomputable def f7:DS:=cH (Ma (bG (ki (λi j=>decide (i<=j)) (λi j=>decide (i<j)) (dC (.int 0)) (aW 1) (aa av [.pk 0,.ev (dC (.int 0))])))) (yC "NoPlace") (c9)
noncomputable def lB (Wt WZ:bC):DS:=ao (cA (aH Wt [false,false] [.pk 0,.pk 1])) (cy (aH WZ [false,false] [.pk 0,.pk 1]))
noncomputable def j8:DS:=cy (aa sZ [.ev (aa av [.pk 0,.ev (aa av [.pk 1,.ev (dC (.int 0))])]),.ev (aa av [.pk 0,.ev (aa av [.pk 1,.ev (dC (.int 1))])])])
noncomputable def lH:DS:=ao (qN [2,3] (aW 0)) (ao (aB 4 (uU (bG (aa gM [.pk 1,.ev (dC (.str "ties"))])) (aa bP []) (aa ku [.pk 2]))) (ao (aB 5 (uU (bG (aa gM [.pk 1,.ev (dC (.str "places"))])) (aa bP []) (aa qb [.pk 3]))) (cy (aa b7 [.pk 4,.pk 5]))))
noncomputable def lI (Wo:bC):DS:=ao (cH (bG (aa (zY "int") [.pk 1])) (cy (aa av [.pk 0,.pk 1])) (c9)) (cy (aH Wo [false,false] [.pk 0,.pk 1]))
noncomputable def kM (Ww:bC):DS:=cy (bW [3,4] (sG (aW 0)) (.tp [3,4]) (bG (aa mw [.ev (aH Ww [false,false] [.pk 4,.pk 1]),.ev (aH Ww [false,false] [.pk 4,.pk 2])])) (bU sizeLine (aW 3)))
noncomputable def mZ (WY:bC):DS:=cy (bW [1] (fD gY [.ev (aa av [.pk 0,.ev (dC (.int 0))])]) (.nm 1) (eU) (bU sizeLine (aH WY [false,false] [.pk 0,.pk 1])))
noncomputable def iJ:DS:=ao (aB 1 (F9)) (ao (cO (iE (aW 0)) (.tp [2,3,4]) (cA (Ca 1 4 (aa dX [.pk 2,.pk 3,.pk 4])))) (cy (Kf 1)))
noncomputable def ni (WX Wx Ws:bC):DS:=ao (aB 2 (aH WX [false] [.pk 0])) (ao (aB 3 (aH Wx [false,false] [.pk 0,.pk 1])) (ao (aB 4 (aa bP [])) (ao (cO (sG (aW 3)) (.tp [5,6]) (vX sizeLine 4 (bW [7] (iE (aa (jh true false) [.pk 3,.ev (aa b7 [.pk 5,.ev (dC (.int 1))])])) (.nm 7) (eU) (bU sizeLine (aa dX [.pk 6,.pk 7,.ev (aH Ws [false,false,false] [.pk 2,.pk 6,.pk 7])]))))) (eV 4))))
noncomputable def f6:DS:=cH (bG (aa oz [.ev (aa av [.pk 0,.ev (dC (.int 0))]),.ev (dC (.int 7))])) (Ip) (c9)
noncomputable def j7:DS:=ao (aB 2 (aa bP [])) (ao (cO (fD gY [.pk 1]) (.nm 3) (ao (aB 4 (bW [6,7,8] (iE (aW 0)) (.tp [6,7,8]) (eU) (bU sizeLine (uU (bG (aa (mW false) [.pk 3,.pk 8])) (dC (.int 1)) (dC (.int 0)))))) (ao (aB 5 (bW [6] (fD gY [.pk 1]) (.nm 6) (eU) (bU sizeLine (uU (bG (aa gM [.pk 3,.pk 6])) (dC (.int 1)) (dC (.int 0)))))) (cA (iI cg 2 [aa b7 [.ev (aa b7 [.pk 4,.pk 5]),.ev (aa bP [.ev (dC (.int 1))])]]))))) (cy (aa b7 [.pk 2,.ev (aa bP [.ev (aa b7 [.ev (aa cV [.ev (aa bP [.ev (aa fc [.ev (dC (.int 1))])]),.ev (aa dD [.pk 0])]),.ev (aa cV [.ev (aa bP [.ev (dC (.int 0))]),.ev (aa b7 [.pk 1,.ev (dC (.int 1))])])])])])))
noncomputable def jV:DS:=ao (aB 5 (aa cV [.ev (aa av [.ev (aa av [.pk 0,.pk 3]),.ev (aa fc [.ev (dC (.int 1))])]),.ev (aa av [.ev (aa av [.pk 0,.pk 4]),.pk 2])])) (ao (aB 6 (aa cV [.ev (aa av [.ev (aa av [.pk 0,.pk 4]),.ev (aa fc [.ev (dC (.int 1))])]),.ev (aa av [.ev (aa av [.pk 0,.pk 3]),.pk 2])])) (cy (yh (aa kO [.pk 5,.pk 6]) (jF (aa gM [.pk 5,.pk 6]) (aa kO [.ev (aa av [.pk 1,.pk 3]),.ev (aa av [.pk 1,.pk 4])])))))
noncomputable def mU (Wb:bC):DS:=ao (aB 3 (dC .none)) (ao (cO (fD gY [.ev (aa dD [.pk 1])]) (.nm 4) (cH (bG (jF (aa oz [.ev (aa av [.ev (aa av [.pk 0,.pk 4]),.pk 2]),.ev (dC (.int 0))]) (yh (aa (d9 false) [.pk 3,.ev (dC .none)]) (aH Wb [false,false,false,false,false] [.pk 0,.pk 1,.pk 2,.pk 4,.pk 3])))) (aB 3 (aW 4)) (c9))) (eV 3))
noncomputable def qM:DS:=ao (aB 4 (aa av [.pk 0,.pk 2])) (ao (aB 5 (aa bP [])) (ao (cO (sG (aW 0)) (.tp [6,7]) (cH (bG (aa gM [.pk 6,.pk 2])) (cA (iI cg 5 [aW 4])) (cA (iI cg 5 [bW [8,9] (Ck (aW 7) (aW 4)) (.tp [8,9]) (eU) (bU sizeLine (aa B9 [.ev (aa nH [.ev (aa cV [.pk 8,.ev (aa av [.pk 4,.pk 3])]),.ev (aa cV [.ev (aa av [.pk 7,.pk 3]),.pk 9])]),.pk 1]))])))) (eV 5)))
noncomputable def jz (Wa Wy Wz:bC):DS:=ao (aB 2 (aH Wa [false,false] [.pk 0,.pk 1])) (ao (aB 3 (bW [7] (fD gY [.pk 1]) (.nm 7) (eU) (bU sizeLine (aa b7 [.ev (aa dD [.pk 0]),.pk 7])))) (ao (aB 4 (dC (.int 1))) (ao (oW (bG (aa kO [.ev (aa kU [.ev (aa (jh false true) [.ev (aa av [.pk 2,.ev (aa fc [.ev (dC (.int 1))])]),.ev (aa fc [.ev (dC (.int 1))])])]),.ev (dC (.int 0))])) (ao (aB 5 (aa av [.ev (bW [7,8] (sG (aa (jh false true) [.ev (aa av [.pk 2,.ev (aa fc [.ev (dC (.int 1))])]),.ev (aa fc [.ev (dC (.int 1))])])) (.tp [7,8]) (bG (aa kO [.pk 8,.ev (dC (.int 0))])) (bU sizeLine (aW 7))),.ev (dC (.int 0))])) (ao (aB 6 (aH Wy [false,false,false] [.pk 2,.pk 3,.pk 5])) (ao (aB 2 (aH Wz [false,false,false,false] [.pk 2,.pk 4,.pk 6,.pk 5])) (ao (aB 4 (aa av [.ev (aa av [.pk 2,.pk 6]),.pk 5])) (fF 3 (aW 6) (aW 5))))))) (cy (aa dX [.pk 4,.pk 3,.pk 2])))))
noncomputable def lE (Wu W0 Wr WV:bC):DS:=ao (cA (aH Wu [false] [.pk 0])) (ao (aB 2 (aH W0 [false] [.ev (aH Wr [false,false] [.pk 0,.pk 1])])) (ao (qN [3,4,5] (aH WV [false,false] [.pk 2,.ev (aa av [.pk 0,.ev (dC (.int 0))])])) (ao (aB 6 (aa av [.pk 5,.ev (aa fc [.ev (dC (.int 1))])])) (ao (aB 7 (aa (jh true true) [.pk 6,.ev (aa dD [.pk 2]),.ev (aa fc [.ev (dC (.int 1))])])) (ao (aB 8 (bW [10,11] (Ck (aW 4) (aW 5)) (.tp [10,11]) (bG (aa kO [.pk 10,.ev (aa dD [.pk 2])])) (bU sizeLine (aa dX [.pk 10,.ev (aa av [.pk 11,.ev (aa fc [.ev (dC (.int 1))])])])))) (ao (aB 9 (bW [10,11] (iE (aW 8)) (.tp [10,11]) (bG (aa oz [.pk 11,.ev (dC (.int 0))])) (bU sizeLine (aa dX [.ev (aa av [.ev (aa av [.pk 2,.pk 10]),.ev (dC (.int 0))]),.ev (aa av [.ev (aa av [.pk 2,.pk 10]),.ev (dC (.int 1))]),.pk 11])))) (cy (aa dX [.pk 3,.pk 7,.pk 9]))))))))
noncomputable def gE:DS:=ao (aB 2 (dC (.int 0))) (q9 (cH (bG (aa kO [.pk 1,.ev (aa dD [.pk 0])])) (aB 2 (aa av [.pk 0,.pk 1])) (cH (bG (aa mw [.pk 0,.ev (aa bP [])])) (aB 2 (aa b7 [.ev (aa oJ [.ev (aa av [.pk 0,.ev (aa oJ [.pk 1,.ev (aa dD [.pk 0])])]),.ev (dC (.int 1000003))]),.ev (aa cV [.ev (dC (.int 104729)),.pk 1])])) (c9))) (ao (cH (bG (aa LQ [.pk 2,.ev (aa qE [.ev (dC (.int 10)),.ev (dC (.int 18))])])) (cy (aa bP [.pk 2])) (c9)) (ao (aB 3 (aa oJ [.ev (aa BY [.ev (aa b7 [.ev (aa b7 [.ev (aa oJ [.pk 2,.ev (aa b7 [.ev (aa qE [.ev (dC (.int 10)),.ev (dC (.int 30))]),.ev (dC (.int 57))])]),.ev (aa cV [.ev (dC (.int 7919)),.pk 1])]),.ev (dC (.int 101))]),.ev (dC (.int 2))]),.ev (aa b7 [.ev (aa qE [.ev (dC (.int 10)),.ev (dC (.int 30))]),.ev (dC (.int 57))])])) (cy (aa bP [.ev (aa oJ [.ev (aa AZ [.ev (aa b7 [.ev (aa b7 [.pk 3,.ev (aa cV [.ev (dC (.int 977)),.pk 1])]),.ev (dC (.int 5))]),.ev (dC (.int 618033988749894848204586834365))]),.ev (aa b7 [.ev (aa qE [.ev (dC (.int 10)),.ev (dC (.int 30))]),.ev (dC (.int 57))])])])))))
noncomputable def iy:DS:=ao (aB 2 (aa oJ [.ev (aa av [.pk 0,.ev (dC (.int 0))]),.pk 1])) (ao (fF 0 (dC (.int 0)) (aa B9 [.ev (aa av [.pk 0,.ev (dC (.int 0))]),.pk 1])) (eV 2))
noncomputable def gB (Wl:bC):DS:=ao (aB 3 (aa bP [])) (ao (cO (fD zX [.ev (dC (.int 1)),.pk 1]) (.nm 4) (ao (aB 5 (aH Wl [true,false] [.pk 0,.pk 4])) (ao (cA (iI cg 3 [aa dX [.ev (aa av [.ev (aa bP [.ev (aa nH [.pk 4,.ev (dC (.int 1))]),.ev (aa nH [.pk 4,.ev (dC (.int 1))]),.ev (dC (.int 0)),.pk 5]),.ev (aa sZ [.pk 2,.ev (dC (.int 3))])]),.pk 4]])) (cH (bG (aa gM [.pk 2,.ev (dC (.int 3))])) (cA (iI mG 3 [bW [8] (fD gY [.pk 4]) (.nm 8) (eU) (bU sizeLine (aa dX [.pk 8,.pk 4]))])) (c9))))) (q9 (cH (bG (jF (aa gM [.pk 2,.ev (dC (.int 1))]) (aa oz [.pk 1,.ev (dC (.int 2))]))) (cA (iI cg 3 [aa dX [.ev (dC (.int 0)),.ev (aa nH [.pk 1,.ev (dC (.int 1))])]])) (c9)) (q9 (cH (bG (aa oz [.pk 2,.ev (dC (.int 4))])) (cO (fD gY [.ev (aH Wl [true,false] [.pk 0,.ev (dC (.int 7))])]) (.nm 4) (ao (aB 6 (aH Wl [true,false] [.pk 0,.pk 1])) (ao (aB 7 (aH Wl [true,false] [.pk 0,.pk 1])) (cA (iI mG 3 [aa cV [.ev (aa bP [.ev (aa dX [.pk 6,.pk 7])]),.ev (aa j5 [.ev (aa mw [.pk 6,.pk 7])])]]))))) (c9)) (eV 3))))
noncomputable def gF (Wl:bC):DS:=ao (aB 2 (aa bP [])) (ao (cO (fD gY [.pk 1]) (.nm 3) (cA (iI tK 2 [aH Wl [true,false] [.pk 0,.ev (aa b7 [.pk 3,.ev (dC (.int 1))])],aW 3]))) (eV 2))
noncomputable def iz (Wl Wg Wf:bC):DS:=ao (aB 3 (aa b7 [.pk 1,.ev (aH Wl [true,false] [.pk 0,.ev (aa nH [.ev (aa b7 [.pk 2,.ev (dC (.int 1))]),.pk 1])])])) (ao (aB 4 (aa bP [])) (ao (aB 5 (aH Wg [true,false,false] [.pk 0,.pk 3,.ev (aH Wl [true,false] [.pk 0,.ev (dC (.int 9))])])) (ao (aB 6 (aH Wf [true,false] [.pk 0,.pk 3])) (ao (cO (iE (aW 5)) (.tp [7,8]) (ao (aB 9 (aa dX [.ev (aa av [.pk 6,.pk 7]),.ev (aa av [.pk 6,.pk 8])])) (ao (aB 10 (aa dX [.ev (aa pO [.pk 9]),.ev (aa pU [.pk 9])])) (cH (bG (aa (mW true) [.pk 10,.pk 4])) (cA (iI cg 4 [aW 10])) (c9))))) (cy (aa dX [.pk 3,.ev (aa lN [.ev (aa tG [.pk 4])])]))))))
noncomputable def gJ:DS:=ao (aB 1 (aa bP [])) (ao (cO (fD gY [.ev (aa av [.pk 0,.ev (dC (.int 0))])]) (.nm 2) (ao (aB 3 (aa cV [.ev (aa bP [.ev (aa fc [.ev (dC (.int 1))])]),.ev (aa av [.pk 0,.ev (dC (.int 0))])])) (ao (fF 3 (aW 2) (dC (.int 0))) (ao (cO (fD gY [.ev (aa av [.pk 0,.ev (dC (.int 0))])]) (.nm 4) (cO (iE (aa av [.pk 0,.ev (dC (.int 1))])) (.tp [5,6]) (q9 (cH (bG (jF (aa gM [.ev (aa av [.pk 3,.pk 5]),.pk 4]) (aa kO [.ev (aa av [.pk 3,.pk 6]),.ev (dC (.int 0))]))) (fF 3 (aW 6) (aa b7 [.pk 4,.ev (dC (.int 1))])) (c9)) (cH (bG (jF (aa gM [.ev (aa av [.pk 3,.pk 6]),.pk 4]) (aa kO [.ev (aa av [.pk 3,.pk 5]),.ev (dC (.int 0))]))) (fF 3 (aW 5) (aa b7 [.pk 4,.ev (dC (.int 1))])) (c9))))) (cA (iI cg 1 [aW 3])))))) (eV 1))
noncomputable def fV:DS:=ao (aB 2 (aa cV [.ev (aa ku [.ev (aa av [.pk 0,.ev (dC (.int 0))])]),.ev (aa j5 [.ev (aa mw [.pk 1,.ev (dC (.str "ties"))])])])) (q9 (cH (bG (aa mw [.pk 1,.ev (dC (.str "places"))])) (cA (iI vJ 2 [aa av [.pk 0,.ev (dC (.int 1))]])) (c9)) (eV 2))
noncomputable def i9:DS:=ao (cH (bG (aa (zY "int") [.pk 2])) (cy (aa av [.ev (aa av [.pk 0,.pk 1]),.pk 2])) (c9)) (cy (aa kU [.ev (bW [3] (iE (aW 2)) (.nm 3) (eU) (bU sizeLine (aa av [.ev (aa av [.pk 0,.pk 1]),.pk 3])))]))
noncomputable def fE (Wc:bC):DS:=cy (bW [3] (fD gY [.ev (aa dD [.pk 0])]) (.nm 3) (bG (aa mw [.ev (aH Wc [false,false,false] [.pk 0,.pk 3,.pk 1]),.ev (aH Wc [false,false,false] [.pk 0,.pk 3,.pk 2])])) (bU sizeLine (aW 3)))
noncomputable def fZ (Wk Wm Wi:bC):DS:=ao (aB 2 (aH Wk [false] [.pk 0])) (ao (aB 3 (aH Wm [false,false] [.pk 0,.pk 1])) (ao (aB 4 (aa bP [])) (ao (cO (fD gY [.ev (aa dD [.pk 3])]) (.nm 5) (cO (iE (aa (jh true false) [.pk 3,.ev (aa b7 [.pk 5,.ev (dC (.int 1))])])) (.nm 6) (cA (iI cg 4 [aa dX [.ev (aa av [.pk 3,.pk 5]),.pk 6,.ev (aH Wi [false,false,false] [.pk 2,.ev (aa av [.pk 3,.pk 5]),.pk 6])]])))) (eV 4))))
noncomputable def gH:DS:=cy (aa kU [.ev (bW [2] (iE (aW 0)) (.nm 2) (eU) (bU sizeLine (aa nj [.ev (bW [3] (iE (aa av [.pk 2,.ev (dC (.int 2))])) (.nm 3) (eU) (bU sizeLine (aa av [.pk 1,.pk 3])))])))])
noncomputable def iu:DS:=ao (aB 3 (aa cV [.ev (aa bP [.ev (dC (.int 0))]),.pk 0])) (ao (cO (fD gY [.ev (aa dD [.pk 1])]) (.nm 4) (cO (iE (aa av [.ev (aa av [.pk 1,.pk 4]),.ev (dC (.int 2))])) (.nm 5) (fF 3 (aW 5) (aa b7 [.ev (aa av [.pk 3,.pk 5]),.ev (aa av [.pk 2,.pk 4])])))) (cy (aa BS [.pk 3])))
noncomputable def nq (Wj Wl Wn Wv Wh Wd We:bC):DS:=ao (aB 1 (aH Wj [false,false] [.pk 0,.ev (dC (.int 0))])) (ao (aB 2 (aa av [.ev (aa bP [.ev (dC (.str "places")),.ev (dC (.str "ties")),.ev (dC (.str "all"))]),.ev (aH Wl [true,false] [.pk 1,.ev (dC (.int 3))])])) (ao (aB 3 (sW Wn [] (aH Wj [false,false] [.pk 0,.ev (dC (.int 1))]) [.ev (dC (.int 1)),.ev (dC (.int 7))] [.ev (dC (.int 1)),.ev (dC (.int 7))])) (ao (qN [4,5,6] (aH Wv [false,false] [.pk 3,.pk 2])) (ao (aB 7 (aa nj [.pk 5])) (ao (aB 8 (aH Wh [false,false] [.pk 3,.pk 2])) (ao (cH (bG (aa gM [.pk 8,.ev (aa bP [])])) (cy (jF (aa gM [.pk 7,.ev (dC (.int 0))]) (jF (aa gM [.pk 6,.ev (aa bP [])]) (aa oz [.pk 4,.ev (dC (.int 0))])))) (c9)) (ao (cO (fD zX [.ev (dC (.int 2)),.ev (aa sZ [.ev (dC (.int 7)),.ev (aa Be [.ev (dC (.int 4)),.ev (aa dD [.pk 0])])])]) (.nm 9) (ao (aB 10 (aH Wj [false,false] [.pk 0,.pk 9])) (ao (aB 11 (aa av [.ev (aa bP [.ev (dC (.int 4)),.ev (dC (.int 101)),.ev (aa qE [.ev (dC (.int 10)),.ev (dC (.int 12))])]),.ev (aH Wl [true,false] [.pk 10,.ev (dC (.int 3))])])) (ao (aB 12 (bW [18] (fD gY [.ev (aa av [.pk 3,.ev (dC (.int 0))])]) (.nm 18) (eU) (bU sizeLine (aH Wl [true,false] [.pk 10,.pk 11])))) (ao (cH (bG (aa kO [.ev (aa cV [.ev (aa nj [.pk 12]),.pk 4]),.ev (aa cV [.ev (aH Wd [false,false] [.pk 8,.pk 12]),.pk 7])])) (cy (dC (.bool false))) (c9)) (ao (aB 13 (aa cV [.ev (aa bP [.ev (dC (.int 0))]),.ev (aa dD [.pk 8])])) (ao (cO (fD gY [.ev (aa b7 [.ev (dC (.int 1)),.ev (aH Wl [true,false] [.pk 10,.ev (dC (.int 8))])])]) (.nm 14) (ao (aB 15 (aH Wl [true,false] [.pk 10,.ev (aa dD [.pk 8])])) (fF 13 (aW 15) (aH Wl [true,false] [.pk 10,.pk 11])))) (cH (bG (aa oz [.ev (aa cV [.ev (aa nj [.pk 13]),.pk 4]),.ev (aa cV [.ev (aH We [false,false,false] [.ev (aa av [.pk 3,.ev (dC (.int 0))]),.pk 8,.pk 13]),.pk 7])])) (cy (dC (.bool false))) (c9))))))))) (ao (cH (bG (aa kO [.ev (aH Wd [false,false] [.pk 8,.pk 5]),.pk 4])) (cy (dC (.bool false))) (c9)) (ao (aB 16 (aa bP [])) (ao (cO (iE (aW 8)) (.nm 17) (cA (iI cg 16 [aa nj [.ev (bW [18] (iE (aW 6)) (.nm 18) (bG (aa gM [.ev (aa (jh false true) [.pk 18,.ev (dC (.int 2))]),.ev (aa (jh false true) [.pk 17,.ev (dC (.int 2))])])) (bU sizeLine (aa av [.pk 18,.ev (dC (.int 2))])))]]))) (ao (cH (bG (aa oz [.ev (aH We [false,false,false] [.ev (aa av [.pk 3,.ev (dC (.int 0))]),.pk 8,.pk 16]),.pk 4])) (cy (dC (.bool false))) (c9)) (cy (ki (λi j=>decide (i=j)) (λi j=>decide (i=j)) (aa nj [.pk 16]) (aW 7) (aa nj [.ev (bW [18] (iE (aW 6)) (.nm 18) (eU) (bU sizeLine (aa av [.pk 18,.ev (dC (.int 2))])))]))))))))))))))
end PB
namespace Dv
open PySem L2
noncomputable def wN (xs:WC)(tg:Tg)(b:DS)(D:gx)(E1:En):Prop:=∃I:Nat->En->Prop,I 0 E1/\(∀i d E,xs[i]?=some d->I i E->∃E2,b5 tg d E=some E2/\b { D with nx:=I (i+1) } E2)/\∀E,I xs.length E->D.nx E
noncomputable def sO (cs:WN)(xs:WC)(tg:Tg)(c:DT)(r:DC)(E1:En)(Q:En->Kd->PyData->Prop):Prop:=∃(E0:En)(I:Nat->WC->En->Prop),br cs E1=some E0/\I 0 [] E0/\(∀i d ys E,xs[i]?=some d->I i ys E->∃E2,b5 tg d E=some E2/\c xF E2 λE3 b=>if b=true then r xF ys E3 (I (i+1))else I (i+1) ys E3)/\∀ys E,I xs.length ys E->∃E2,br cs E=some E2/\Q E2 (.ow false) (.list ys)
noncomputable def Nc (most:Nat)(cs:WN)(xs:WC)(tg:Tg)(c:DT)(e:DE)(E1:En)(Q:En->Kd->PyData->Prop):Prop:=∃(E0:En)(I:Nat->WC->En->Prop),br cs E1=some E0/\I 0 [] E0/\(∀i d ys E,xs[i]?=some d->I i ys E->∃E2,b5 tg d E=some E2/\c xF E2 λE3 b=>if b=true then e xF E3 (λE4 k v=>(∃p,k=.ow p)/\ys.length<most/\I (i+1) (ys++[v]) E4)else I (i+1) ys E3)/\∀ys E,I xs.length ys E->∃E2,br cs E=some E2/\Q E2 (.dp false) (.list ys)
noncomputable def OJ (xs:WC)(tg:Tg)(c:DT)(r:DC)(x:XC)(ys:WC)(E1:En)(Q:WC->En->Prop):Prop:=∃I:Nat->WC->En->Prop,I 0 ys E1/\(∀i d ys E,xs[i]?=some d->I i ys E->∃E2,b5 tg d E=some E2/\c x E2 λE3 b=>if b=true then r x ys E3 (I (i+1))else I (i+1) ys E3)/\∀ys E,I xs.length ys E->Q ys E
theorem dyr0:∀{it:DI}{tg:Tg}{b:DS}{D:gx}{o:Option (Kd×PyData)}{E:En},cO it tg b D (o::E)=it D.xc (o::E) λE1 xs=>wN xs tg b D E1:=rfl
theorem dyr1:∀{cs:WN}{it:DI}{tg:Tg}{c:DT}{r:DC}{x:XC}{o:Option (Kd×PyData)}{E:En}{Q:En->Kd->PyData->Prop},bW cs it tg c r x (o::E) Q=it x (o::E) λE1 xs=>sO cs xs tg c r E1 Q:=rfl
theorem dyr2:∀{most:Nat}{cs:WN}{it:DI}{tg:Tg}{c:DT}{e:DE}{x:XC}{o:Option (Kd×PyData)}{E:En}{Q:En->Kd->PyData->Prop},oM most cs it tg c e x (o::E) Q=it x (o::E) λE1 xs=>Nc most cs xs tg c e E1 Q:=rfl
theorem dyr3:∀{it:DI}{tg:Tg}{c:DT}{r:DC}{x:XC}{ys:WC}{o:Option (Kd×PyData)}{E:En}{Q:WC->En->Prop},OO it tg c r x ys (o::E) Q=it x (o::E) λE1 xs=>OJ xs tg c r x ys E1 Q:=rfl
def dy:
 (∀{it:DI}{tg:Tg}{b:DS}{D:gx}{o:Option (Kd×PyData)}{E:En},cO it tg b D (o::E)=it D.xc (o::E) λE1 xs=>wN xs tg b D E1) /\
 (∀{cs:WN}{it:DI}{tg:Tg}{c:DT}{r:DC}{x:XC}{o:Option (Kd×PyData)}{E:En}{Q:En->Kd->PyData->Prop},bW cs it tg c r x (o::E) Q=it x (o::E) λE1 xs=>sO cs xs tg c r E1 Q) /\
 (∀{most:Nat}{cs:WN}{it:DI}{tg:Tg}{c:DT}{e:DE}{x:XC}{o:Option (Kd×PyData)}{E:En}{Q:En->Kd->PyData->Prop},oM most cs it tg c e x (o::E) Q=it x (o::E) λE1 xs=>Nc most cs xs tg c e E1 Q) /\
 (∀{it:DI}{tg:Tg}{c:DT}{r:DC}{x:XC}{ys:WC}{o:Option (Kd×PyData)}{E:En}{Q:WC->En->Prop},OO it tg c r x ys (o::E) Q=it x (o::E) λE1 xs=>OJ xs tg c r x ys E1 Q):=⟨rfl,rfl,rfl,rfl⟩
theorem t9{i:Nat}{z:Option (Kd×PyData)}:∀{cs:WN}{E E0:En},i∉cs->br cs (E.set i none)=some E0->br cs (E.set i z)=some (E0.set i z)
 |[],E,E0,_,h=>by have h:E.set i none=E0:=Option.some.inj h;show some _=some _;rw[<-h,V3]
 |c::cs,E,E0,n,h=>by
  have nc:i≠c:=λe=>n (e▸RC);have ns:i∉cs:=λm=>n (RK _ m);have ho:∀y:Option (Kd×PyData),bJ (E.set i y) c=bJ E c:=λy=>by unfold bJ;rw[Si nc]
  unfold br at h⊢;rw[ho]at h⊢;split at h;{rename_i hc;rw[if_pos hc];rw[Ub _ _ nc]at h⊢;exact t9 ns h};cases h
theorem xX:∀{cs:WN}{ds:WC}{E E' E0:En},cs.Nodup->br cs E=some E0->br cs E'=some E0->bA cs ds E=bA cs ds E'
 |[],ds,E,E',E0,_,h,h'=>by have h:E=E0:=Option.some.inj h;have h':E'=E0:=Option.some.inj h';rw[h,h']
 |c::cs,[],E,E',E0,_,h,h'=>rfl
 |c::cs,d::ds,E,E',E0,nd,h,h'=>by have n1:=(S8.mp nd).1;unfold br at h h';unfold bA;split at h;{rename_i hc;split at h';{rename_i hc';rw[if_pos hc,if_pos hc'];exact xX (S8.mp nd).2 (t9 n1 h) (t9 n1 h')};cases h'};cases h
def tY{cs:WN}{ds:WC}{E E' E0:En}(nd:kL cs=true)(h:br cs E=some E0)(h':br cs E'=some E0):bA cs ds E=bA cs ds E':=xX (gZ nd) h h'
def qK{tg:Tg}{cs:WN}{d:PyData}{E E' E0:En}(hs:tg.slots=cs)(nd:kL cs=true)(h:br cs E=some E0)(h':br cs E'=some E0):b5 tg d E=b5 tg d E':=by
 subst hs;cases tg with
 |nm i=>exact tY nd h h'
 |tp is=>
  cases d with
  |tuple ds=>exact tY nd h h'
  |_=>rfl
 |nt i is=>
  cases d with
  |tuple ds=>rcases ds with _|⟨a,_|⟨b,_|⟨c,r⟩⟩⟩;{rfl};{rfl};{cases b<;>first|exact tY nd h h'|rfl};cases b<;>rfl
  |_=>rfl
theorem jS:∀{cs:WN}{E E0:En},cs.Nodup->br cs E=some E0->br cs E0=some E0/\∀c∈cs,E0[c]?=some none
 |[],E,E0,_,h=>⟨rfl,λ_ z=>by cases z⟩
 |c::cs,E,E0,nd,h=>by
  have n1:=(S8.mp nd).1;have n2:=(S8.mp nd).2;unfold br at h;split at h
  .rename_i hc;obtain⟨h1,h2⟩:=jS n2 h;have hlen:c<E.length:=by unfold bJ at hc;rcases SA c E.length with z|z;{exact z};rw[Rb z]at hc;cases hc
   have hcl:∀{cs:WN}{E E0:En},c∉cs->br cs E=some E0->E0[c]?=E[c]?:=by
    intro cs;induction cs with
    |nil=>intro E E0 _ h;cases h;rfl
    |cons a cs ih=>intro E E0 n h;unfold br at h;split at h;{rw[ih (λm=>n (RK _ m)) h,Si (λe=>n (by rw[e];exact RC))]};cases h
   have e0:E0[c]?=some none:=by rw[hcl n1 h,T7 hlen]
   refine⟨?_,λx hx=>?_⟩
   .unfold br;rw[if_pos (by unfold bJ;rw[e0])];have:E0.set c none=E0:=by
     refine Rw λj=>?_;by_cases e:c=j
     .subst e;have:c<E0.length:=by rcases SA c E0.length with z|z;{exact z};rw[Rb z]at e0;cases e0
      rw[T7 this,e0]
     rw[Si e]
    rw[this];exact h1
   cases hx with
   |head=>exact e0
   |tail _ m=>exact h2 x m
  cases h
def bS{α:Type}{l:List α}{i:Nat}{a:α}(ha:l[i]?=some a):i<l.length:=by rcases SA i l.length with z|z;{exact z};rw[Rb z]at ha;cases ha
def take_snoc{α:Type}{l:List α}{i:Nat}{a:α}(ha:l[i]?=some a):l.take (i+1)=l.take i++[a]:=by rw[List.take_add_one,ha];rfl
def K4{α:Type}{l:List α}{enc:α->PyData}{cs:WN}{tg:Tg}{e:DE}{most:Nat}{E1 E0:En}{Q:En->Kd->PyData->Prop}(g:α->PyData)(h0:br cs E1=some E0)(h2:∀a,a∈l->∀I:En->PyData->Prop,(∀E4,br cs E4=some E0->I E4 (g a))->∃E2,b5 tg (enc a) E0=some E2/\e xF E2 (λE4 k v=>(∃p,k=.ow p)/\I E4 v))(h3:Q E0 (.dp false) (.list (l.map g)))(hl:l.length<=most)(hs:tg.slots=cs:=by rfl)(nd:kL cs=true:=by rfl):Nc most cs (l.map enc) tg eU e E1 Q:=by
 obtain⟨hc0,_⟩:=jS (gZ nd) h0;refine⟨E0,λi ys E=>ys=(l.take i).map g/\br cs E=some E0,h0,⟨rfl,hc0⟩,?_,?_⟩
 .rintro i d ys E hd⟨rfl,hE⟩;rw[RO]at hd;obtain⟨a,ha,rfl⟩:=TJ.mp hd;have hi:=bS ha;obtain⟨E2,hE2,hb⟩:=h2 a (Rj ha) (λE4 v=>((l.take i).map g).length<most/\((l.take i).map g++[v]=(l.take (i+1)).map g/\br cs E4=some E0)) (λE4 hE4=>by
   refine⟨?_,?_,hE4⟩
   .rw[RA,SQ];lia
   .rw[take_snoc ha,RW];rfl)
  exact⟨E2,(qK hs nd hE hc0).trans hE2,hb⟩
 rintro ys E⟨rfl,hE⟩;rw[RA,SK];exact⟨E0,hE,h3⟩
def sU{α:Type}{l:List α}{enc:α->PyData}{tg:Tg}{b:DS}{D:gx}{E1:En}(I:Nat->En->Prop)(h0:I 0 E1)(hs:∀i a E,l[i]?=some a->I i E->∃E2,b5 tg (enc a) E=some E2/\b { D with nx:=I (i+1) } E2)(he:∀E,I l.length E->D.nx E):wN (l.map enc) tg b D E1:=by refine⟨I,h0,λi d E hd hi=>?_,by rw[RA];exact he⟩;rw[RO]at hd;obtain⟨a,ha,rfl⟩:=TJ.mp hd;exact hs i a E ha hi
def NV{α:Type}{l:List α}{enc:α->PyData}{cs:WN}{tg:Tg}{c:DT}{r:DC}{E1:En}{Q:En->Kd->PyData->Prop}(E0:En)(I:Nat->WC->En->Prop)(h0:br cs E1=some E0)(h1:I 0 [] E0)(hs:∀i a ys E,l[i]?=some a->I i ys E->∃E2,b5 tg (enc a) E=some E2/\c xF E2 λE3 b=>if b=true then r xF ys E3 (I (i+1))else I (i+1) ys E3)(he:∀ys E,I l.length ys E->∃E2,br cs E=some E2/\Q E2 (.ow false) (.list ys)):sO cs (l.map enc) tg c r E1 Q:=by refine⟨E0,I,h0,h1,λi d ys E hd hi=>?_,by rw[RA];exact he⟩;rw[RO]at hd;obtain⟨a,ha,rfl⟩:=TJ.mp hd;exact hs i a ys E ha hi
def vm{n i k:Nat}(h:(List.range n)[i]?=some k):i<n/\k=i:=by have hi:=bS h;rw[RH]at hi;rw[RI hi]at h;cases h;exact⟨hi,rfl⟩
def Mx{n:Nat}{enc:Nat->PyData}{tg:Tg}{b:DS}{D:gx}{E1:En}(I:Nat->En->Prop)(h0:I 0 E1)(hs:∀i E,i<n->I i E->∃E2,b5 tg (enc i) E=some E2/\b { D with nx:=I (i+1) } E2)(he:∀E,I n E->D.nx E):wN ((List.range n).map enc) tg b D E1:=
 sU I h0 (λi a E ha hi=>by obtain⟨l,rfl⟩:=vm ha;exact hs a E l hi) (by rw[RH];exact he)
def J8{n:Nat}{enc:Nat->PyData}{cs:WN}{tg:Tg}{c:DT}{r:DC}{E1:En}{Q:En->Kd->PyData->Prop}(E0:En)(I:Nat->WC->En->Prop)(h0:br cs E1=some E0)(h1:I 0 [] E0)(hs:∀i ys E,i<n->I i ys E->∃E2,b5 tg (enc i) E=some E2/\c xF E2 λE3 b=>if b=true then r xF ys E3 (I (i+1))else I (i+1) ys E3)(he:∀ys E,I n ys E->∃E2,br cs E=some E2/\Q E2 (.ow false) (.list ys)):sO cs ((List.range n).map enc) tg c r E1 Q:=
 NV E0 I h0 h1 (λi a ys E ha hi=>by obtain⟨l,rfl⟩:=vm ha;exact hs a ys E l hi) (by rw[RH];exact he)
def ID{α:Type}{l:List α}{enc:α->PyData}{cs:WN}{tg:Tg}{e:DE}{most:Nat}{E1 E0:En}{Q:En->Kd->PyData->Prop}(S:En->Prop)(g:α->PyData)(h0:br cs E1=some E0)(hS:S E0)(h2:∀a,a∈l->∀E0',S E0'->∀I:En->PyData->Prop,(∀E4 E5,br cs E4=some E5->S E5->I E4 (g a))->∃E2,b5 tg (enc a) E0'=some E2/\e xF E2 (λE4 k v=>k.fz=true/\I E4 v))(h3:∀E0',S E0'->Q E0' (.ow false) (.list (l.map g)))(hl:l.length<=most)(hs:tg.slots=cs:=by rfl)(nd:kL cs=true:=by rfl):sO cs (l.map enc) tg eU (bU most e) E1 Q:=by
 obtain⟨hc0,_⟩:=jS (gZ nd) h0;refine⟨E0,λi ys E=>ys=(l.take i).map g/\∃E5,br cs E=some E5/\S E5,h0,⟨rfl,E0,hc0,hS⟩,?_,?_⟩
 .rintro i d ys E hd⟨rfl,E5,hE,hS5⟩;rw[RO]at hd;obtain⟨a,ha,rfl⟩:=TJ.mp hd;have hi:=bS ha;obtain⟨hc5,_⟩:=jS (gZ nd) hE;obtain⟨E2,hE2,hb⟩:=h2 a (Rj ha) E5 hS5 (λE4 v=>((l.take i).map g).length<most/\((l.take i).map g++[v]=(l.take (i+1)).map g/\∃E5,br cs E4=some E5/\S E5)) (λE4 E6 hE4 hS6=>by
   refine⟨?_,?_,E6,hE4,hS6⟩
   .rw[RA,SQ];lia
   .rw[take_snoc ha,RW];rfl)
  exact⟨E2,(qK hs nd hE hc5).trans hE2,hb⟩
 rintro ys E⟨rfl,E5,hE,hS5⟩;rw[RA,SK];exact⟨E5,hE,h3 E5 hS5⟩
def Jw{α:Type}{l:List α}{enc:α->PyData}{cs:WN}{tg:Tg}{c:DT}{e:DE}{most:Nat}{E1 E0:En}{Q:En->Kd->PyData->Prop}(S:En->Prop)(g:α->Option PyData)(h0:br cs E1=some E0)(hS:S E0)(h2:∀a,a∈l->∀E0',S E0'->∀I:En->Option PyData->Prop,(∀E4 E5,br cs E4=some E5->S E5->I E4 (g a))->∃E2,b5 tg (enc a) E0'=some E2/\c xF E2 λE3 b=>if b=true then e xF E3 (λE4 k v=>k.fz=true/\I E4 (some v))else I E3 none)(h3:∀E0',S E0'->Q E0' (.ow false) (.list (l.filterMap g)))(hl:l.length<=most)(hs:tg.slots=cs:=by rfl)(nd:kL cs=true:=by rfl):sO cs (l.map enc) tg c (bU most e) E1 Q:=by
 obtain⟨hc0,_⟩:=jS (gZ nd) h0;refine⟨E0,λi ys E=>ys=(l.take i).filterMap g/\∃E5,br cs E=some E5/\S E5,h0,⟨rfl,E0,hc0,hS⟩,?_,?_⟩
 .rintro i d ys E hd⟨rfl,E5,hE,hS5⟩;rw[RO]at hd;obtain⟨a,ha,rfl⟩:=TJ.mp hd;have hi:=bS ha;obtain⟨hc5,_⟩:=jS (gZ nd) hE;have hlen:((l.take i).filterMap g).length<most:=by have:=List.length_filterMap_le g (l.take i);rw[SQ]at this;lia
  obtain⟨E2,hE2,hb⟩:=h2 a (Rj ha) E5 hS5 (λE4 o=>match o with
   |some v=>((l.take i).filterMap g).length<most/\((l.take i).filterMap g++[v]=(l.take (i+1)).filterMap g/\∃E5,br cs E4=some E5/\S E5)
   |none=>(l.take i).filterMap g=(l.take (i+1)).filterMap g/\∃E5,br cs E4=some E5/\S E5) (λE4 E6 hE4 hS6=>by
   cases hg:g a with
   |none=>
    refine⟨?_,E6,hE4,hS6⟩;rw[take_snoc ha,Va,TZ,hg];exact(Rz _).symm
   |some v=>
    refine⟨hlen,?_,E6,hE4,hS6⟩;rw[take_snoc ha,Va,TZ,hg];rfl)
  exact⟨E2,(qK hs nd hE hc5).trans hE2,hb⟩
 rintro ys E⟨rfl,E5,hE,hS5⟩;rw[RA,SK];exact⟨E5,hE,h3 E5 hS5⟩
def eW{α:Type}{l:List α}{enc:α->PyData}{cs:WN}{tg:Tg}{e:DE}{most:Nat}{E1 E0:En}{Q:En->Kd->PyData->Prop}(g:α->PyData)(h0:br cs E1=some E0)(h2:∀a,a∈l->∀I:En->PyData->Prop,(∀E4,br cs E4=some E0->I E4 (g a))->∃E2,b5 tg (enc a) E0=some E2/\e xF E2 (λE4 k v=>k.fz=true/\I E4 v))(h3:Q E0 (.ow false) (.list (l.map g)))(hl:l.length<=most)(hs:tg.slots=cs:=by rfl)(nd:kL cs=true:=by rfl):sO cs (l.map enc) tg eU (bU most e) E1 Q:=
 ID (·=E0) g h0 rfl (λa ha E0' e I hI=>by subst e;exact h2 a ha I λE4 h=>hI E4 _ h rfl) (λE0' e=>by subst e;exact h3) hl hs nd
def l7{α:Type}{l:List α}{enc:α->PyData}{cs:WN}{tg:Tg}{c:DT}{e:DE}{most:Nat}{E1 E0:En}{Q:En->Kd->PyData->Prop}(g:α->Option PyData)(h0:br cs E1=some E0)(h2:∀a,a∈l->∀I:En->Option PyData->Prop,(∀E4,br cs E4=some E0->I E4 (g a))->∃E2,b5 tg (enc a) E0=some E2/\c xF E2 λE3 b=>if b=true then e xF E3 (λE4 k v=>k.fz=true/\I E4 (some v))else I E3 none)(h3:Q E0 (.ow false) (.list (l.filterMap g)))(hl:l.length<=most)(hs:tg.slots=cs:=by rfl)(nd:kL cs=true:=by rfl):sO cs (l.map enc) tg c (bU most e) E1 Q:=
 Jw (·=E0) g h0 rfl (λa ha E0' e I hI=>by subst e;exact h2 a ha I λE4 h=>hI E4 _ h rfl) (λE0' e=>by subst e;exact h3) hl hs nd
noncomputable abbrev iD (n:Nat):PyData:=.int (n:Int)
noncomputable abbrev nD (l:WN):PyData:=.list (l.map iD)
noncomputable abbrev dF (e:Nat×Nat):PyData:=.tuple [iD e.1,iD e.2]
noncomputable abbrev wD (m:Nat)(es:Vx):PyData:=.tuple [iD m,.tuple (es.map dF)]
def KO{n:Nat}:jl 0 n=(List.range n).map iD:=by unfold jl;refine Ru λi _=>?_;rw[Int.zero_add]
def Ld{n:Nat}:jl 1 n=(List.range n).map λi=>iD (i+1):=by unfold jl;refine Ru λi _=>?_;show PyData.int _=PyData.int _;congr 1;lia
def Dl{xs:WC}{i:Nat}:cY xs (i:Int)=xs[i]?:=by unfold cY ly;rw[if_pos (by lia)];split;{exact rfl};rw[Rb (by lia)];rfl
def CM{n i:Nat}(h:i<n):kq n (i:Int)=some i:=by unfold kq;rw[if_pos (by lia),if_pos (by lia)];rfl
def gR{n i:Nat}{Q:Nat->Prop}(h:i<n)(q:Q i):ay (kq n (i:Int)) Q:=by rw[CM h];exact q
def vV{α β:Type}{o:Option α}{f:α->β}{Q:β->Prop}:ay (o.map f) Q=ay o λa=>Q (f a):=by cases o<;>rfl
def tF{α:Type}{l:List α}{f:α->PyData}{i:Nat}{Q:PyData->Prop}:ay (cY (l.map f) (i:Int)) Q=ay l[i]? λa=>Q (f a):=by rw[Dl,RO,vV]
def sD{α:Type}{l:List α}{f:α->PyData}{a:Nat}:cutD (l.map f) (some (a:Int)) none=(l.drop a).map f:=by unfold cutD;have e1:HT.aK (l.map f).length 0 (some (a:Int))=min a (l.map f).length:=HT.lY _ _ a;have e2:HT.aK (l.map f).length (l.map f).length none=(l.map f).length:=rfl;rw[e1,e2,RA,<-List.map_drop,<-UB];congr 1;rw[Tp (by rw[SG];lia)];rcases Uc a l.length with h|h;{rw[Tt h]};rw[Ud h,List.drop_length,Uq h]
def CY{α:Type}{l:List α}{f:α->PyData}{b:Nat}:cutD (l.map f) none (some (b:Int))=(l.take b).map f:=by unfold cutD;have e1:HT.aK (l.map f).length (l.map f).length (some (b:Int))=min b (l.map f).length:=HT.lY _ _ b;have e2:HT.aK (l.map f).length 0 none=0:=rfl;rw[e1,e2,RA,UT,Uu,<-UB];congr 1;rcases Uc b l.length with h|h;{rw[Tt h]};rw[Ud h,SK,Tp h]
def Ds{α:Type}{l:List α}{f:α->PyData}{a b:Nat}:cutD (l.map f) (some (a:Int)) (some (b:Int))=((l.take b).drop a).map f:=by unfold cutD;have e1:HT.aK (l.map f).length 0 (some (a:Int))=min a (l.map f).length:=HT.lY _ _ a;have e2:HT.aK (l.map f).length (l.map f).length (some (b:Int))=min b (l.map f).length:=HT.lY _ _ b;rw[e1,e2,RA,<-List.map_drop,<-UB];congr 1;rw[List.drop_take];rcases Uc a l.length with h|h;{rw[Tt h];rcases Uc b l.length with g|g;{rw[Tt g]};rw[Ud g,Tp (by rw[SG];lia),Tp (by rw[SG];lia)]};rw[Ud h,List.drop_length,Uq h,List.take_nil,List.take_nil]
def rA{α:Type}{l:List α}{f:α->PyData}:iC (l.map f)=l.zipIdx.map λp=>.tuple [iD p.2,f p.1]:=by unfold iC;rw[List.zipIdx_map,RU];rfl
theorem zip_map{α β:Type}{l:List α}{m:List β}{f:α->PyData}{g:β->PyData}:((l.map f).zip (m.map g)).map (λp=>PyData.tuple [p.1,p.2])=(l.zip m).map λp=>.tuple [f p.1,g p.2]:=by rw[List.zip_map,RU];rfl
def zN{α:Type}{l:List α}{f:α->PyData}{Q:PyData->Prop}:ay (cY (l.map f) 0) Q=ay l[0]? λa=>Q (f a):=tF (i:=0)
def zS{α:Type}{l:List α}{f:α->PyData}{Q:PyData->Prop}:ay (cY (l.map f) 1) Q=ay l[1]? λa=>Q (f a):=tF (i:=1)
def aq{α:Type}{o:Option α}{a:α}{Q:α->Prop}(h:o=some a)(q:Q a):ay o Q:=by rw[h];exact q
def yt{a b:Nat}:(a:Int)%(b:Int)=((a%b:Nat):Int):=(Int.natCast_emod a b).symm
def xE{a b:Nat}:(a:Int)/(b:Int)=((a/b:Nat):Int):=(Int.natCast_ediv a b).symm
def zf{a b:Nat}:((a:Int)<(b:Int))=(a<b):=propext UJ
def zZ{a b:Nat}:((a:Int)<=(b:Int))=(a<=b):=propext Int.ofNat_le
def cast_eq{a b:Nat}:((a:Int)=(b:Int))=(a=b):=propext Int.ofNat_inj
def cast_pos{a:Nat}:((0:Int)<(a:Int))=(0<a):=propext Int.natCast_pos
def Hl{a b:Nat}:(if b<a then(b:Int)else(a:Int))=((min a b:Nat):Int):=by split<;>lia
def G9{a b:Nat}:(if a<b then(b:Int)else(a:Int))=((max a b:Nat):Int):=by split<;>lia
def Hs{a b:Nat}:(if b>a then(b:Int)else(a:Int))=((max a b:Nat):Int):=by split<;>lia
def sE{ds:WC}:lf (.tuple ds)=ds.all lf:=uo ds
def zP{p:Bool}{ds:WC}:flat (.ow p) (.list ds)=ds.all lf:=rfl
def qW{α β:Type}{l:List α}{f:α->β}{p:β->Bool}:(l.map f).all p=l.all λa=>p (f a):=by rw[List.all_map];rfl
def CP{α:Type}{l:List α}:(l.all λ_=>true)=true:=by rw[RX];exact λ_ _=>rfl
def AQ{n:Nat}:lf (iD n)=true:=rfl
def xy{e:Nat×Nat}:lf (dF e)=true:=rfl
def Hq{m:Nat}{es:Vx}:lf (wD m es)=true:=by rw[sE];show(lf (iD m)&&(lf (.tuple (es.map dF))&&true))=true;rw[sE,qW];simp[AQ,xy]
def O8:type_of%@sE/\type_of%@zP/\type_of%@qW/\type_of%@CP/\type_of%@AQ/\type_of%@xy/\type_of%@Hq/\(decide True=true)/\(∀{ds:WC},lf (.list ds)=false)/\(∀{α:Type}{l m:List α}{p:α->Bool},(l++m).all p=(l.all p&&m.all p)):=⟨@sE,@zP,@qW,@CP,@AQ,@xy,@Hq,rfl,rfl,(by intros;exact List.all_append)⟩
def dz:(type_of%O8)/\type_of%@KO/\type_of%@Ld/\type_of%@tF/\type_of%@zN/\type_of%@zS/\type_of%@vV/\type_of%@sD/\type_of%@CY/\type_of%@Ds/\type_of%@rA/\type_of%@zip_map/\type_of%@yt/\type_of%@xE/\type_of%@zf/\type_of%@zZ/\type_of%@cast_eq/\type_of%@cast_pos/\type_of%@bf/\type_of%@Hl/\type_of%@G9/\type_of%@Hs /\
 (∀{α β:Type}{f:α->β}{l:List α},(l.map f).length=l.length)/\(∀{n:Nat},(List.range n).length=n)/\(∀{n:Nat},(n:Int).toNat=n):=
 ⟨O8,@KO,@Ld,@tF,@zN,@zS,@vV,@sD,@CY,@Ds,@rA,@zip_map,@yt,@xE,@zf,@zZ,@cast_eq,@cast_pos,@bf,@Hl,@G9,@Hs,(by intros;exact RA ..),(by intros;exact RH),(by intros;exact Uk _)⟩
def yP{α β:Type}(f:α->β){l:List α}:∀{m:List β},m.Perm (l.map f)->∃l':List α,l'.Perm l/\m=l'.map f:=by
 have:∀{a b:List β},a.Perm b->∀l:List α,b=l.map f->∃l':List α,l'.Perm l/\a=l'.map f:=by
  intro a b h;induction h with
  |nil=>intro l e;exact⟨l,.refl _,e⟩
  |cons x _ ih=>
   intro l e;cases l with
   |nil=>cases e
   |cons y l=>rw[Rh,UC]at e;obtain⟨l',p,e'⟩:=ih l e.2;exact⟨y::l',p.cons _,by rw[e.1,e',Rh]⟩
  |swap x y z=>
   intro l e
   match l,e with
   |[],e=>cases e
   |[_],e=>rw[Rh,UC]at e;cases e.2
   |u::v::l,e=>rw[Rh,Rh,UC,UC]at e;exact⟨v::u::l,List.Perm.swap _ _ _,by rw[Rh,Rh,e.1,e.2.1,e.2.2]⟩
  |trans _ _ ih1 ih2=>intro l e;obtain⟨l1,p1,e1⟩:=ih2 l e;obtain⟨l2,p2,e2⟩:=ih1 l1 e1;exact⟨l2,p2.trans p1,e2⟩
 intro m h;exact this h l rfl
def JX{ps:Vx}{P:Kd->PyData->Prop}(h:ps.length<=1000)(q:∀qs:Vx,qs.Perm ps->P (.ow false) (.list (qs.map dF))):tG [.list (ps.map dF)] P:=by refine⟨ps.map (λe:Nat×Nat=>((e.1:Int),(e.2:Int))),by rw[RU];rfl,by rw[RA];exact h,λms p=>?_⟩;obtain⟨l,hl,rfl⟩:=yP _ p;have:=q l hl;rw[RU];exact this
def JA{ns:WN}{P:Kd->PyData->Prop}(h:ns≠[])(q:∀m:Nat,m∈ns->(∀n∈ns,m<=n)->P .sh (iD m)):kU [nD ns] P:=by refine⟨ns.map (λn:Nat=>(n:Int)),by rw[RU];rfl,λe=>h (Vb.mp e),λM hM le=>?_⟩;obtain⟨m,hm,rfl⟩:=RG.mp hM;exact q m hm λn hn=>by have:=le _ (RG.mpr ⟨n,hn,rfl⟩);lia
def Du{a b:Nat}:iD a=iD b↔a=b:=⟨λh=>by cases h;rfl,λh=>by rw[h]⟩
def zw{a b:Nat×Nat}:dF a=dF b↔a=b:=by refine⟨λh=>?_,λh=>by rw[h]⟩;rw[PyData.tuple.injEq,UC,UC,PyData.int.injEq,PyData.int.injEq]at h;exact Prod.ext (by have:=h.1;lia) (by have:=h.2.1;lia)
end Dv
namespace Gr
inductive R(E:Nat->Nat->Prop) (p:Nat):Nat->Nat->Prop
 |zero:R E p 0 p
 |step {d x y:Nat}:R E p d x->E x y->R E p (d+1) y
noncomputable def gO (E:Nat->Nat->Prop) (p x d:Nat):Prop:=R E p d x/\∀e,e<d->¬R E p e x
section
variable{E:Nat->Nat->Prop}{p:Nat}
def gO.eq{x d e:Nat}(h:gO E p x d)(g:gO E p x e):d=e:=by rcases Vd d e with l|l|l;{exact absurd h.1 (g.2 d l)};{exact l};exact absurd g.1 (h.2 e l)
theorem Cm:∀(n:Nat){x d:Nat},d<=n->R E p d x->∃e,e<=d/\gO E p x e
 |0,x,d,l,h=>by
  obtain rfl:d=0:=by lia
  exact⟨0,RB _,h,λe he=>absurd he (TY e)⟩
 |n+1,x,d,l,h=>by by_cases c:∃e,e<d/\R E p e x;{obtain⟨e,he,hr⟩:=c;obtain⟨e',h1,h2⟩:=Cm n (show e<=n by lia) hr;exact⟨e',by lia,h2⟩};exact⟨d,RB _,h,λe he hr=>c ⟨e,he,hr⟩⟩
open Classical in
noncomputable def dst (E:Nat->Nat->Prop) (p x:Nat):Nat:=if h:∃d,gO E p x d then Classical.choose h else 0
def xo{x d:Nat}(h:gO E p x d):dst E p x=d:=by have h':∃d,gO E p x d:=⟨d,h⟩;unfold dst;rw[dif_pos h'];exact(Classical.choose_spec h').eq h
def Dh{x d:Nat}(h:R E p d x):gO E p x (dst E p x):=by obtain⟨e,_,g⟩:=Cm d (RB _) h;rw[xo g];exact g
def R.trans{q:Nat}{d e x:Nat}(h:R E p d q)(g:R E q e x):R E p (d+e) x:=by
 induction g with
 |zero=>exact h
 |step _ s ih=>exact ih.step s
def R.head{q d x:Nat}(h:E p q)(g:R E q d x):R E p (1+d) x:=R.trans (R.step .zero h) g
def R.symm(sy:∀x y,E x y->E y x){d x:Nat}(h:R E p d x):R E x d p:=by
 induction h with
 |zero=>exact .zero
 |step _ s ih=>have:=R.head (sy _ _ s) ih;rwa[Nat.add_comm]at this
structure lQ(E:Nat->Nat->Prop) (p r:Nat)(f:Nat->Option Nat)(d8:WN):Prop where
 sound:∀x d,f x=some d->gO E p x d
 upto:∀x d,d<=r->R E p d x->∃e,f x=some e
 low:∀x d,f x=some d->d<=r
 d8:∀x,x∈d8↔f x=some r
structure fR(E:Nat->Nat->Prop) (r:Nat)(f:Nat->Option Nat)(d8:WN)(g:Nat->Option Nat)(reached:WN):Prop where
 ext:∀x d,f x=some d->g x=some d
 new:∀x d,g x=some d->f x=some d\/(f x=none/\d=r+1/\∃h,h∈d8/\E h x)
 got:∀x,x∈reached↔(f x=none/\g x=some (r+1))
def lQ.start:lQ E p 0 (λx=>if x=p then some 0 else none) [p]:=by
 refine⟨λx d h=>?_,λx d l h=>?_,λx d h=>?_,λx=>?_⟩;{by_cases c:x=p;{rw[if_pos c]at h;cases h;rw[c];exact⟨.zero,λe he=>absurd he (TY e)⟩};rw[if_neg c]at h;cases h}
 .obtain rfl:d=0:=by lia
  cases h;exact⟨0,if_pos rfl⟩
 .by_cases c:x=p;{rw[if_pos c]at h;cases h;exact RB _};rw[if_neg c]at h;cases h
 rw[RE];constructor;{intro e;exact if_pos e};intro h;by_cases c:x=p;{exact c};rw[if_neg c]at h;cases h
def fR.start{r:Nat}{f:Nat->Option Nat}:fR E r f d8 f []:=by refine⟨λx d h=>h,λx d h=>.inl h,λx=>?_⟩;constructor;{intro h;cases h};rintro⟨h1,h2⟩;rw[h1]at h2;cases h2
def fR.put{r:Nat}{f g:Nat->Option Nat}{h y:Nat}(B:fR E r f d8 g reached)(he:h∈d8)(hy:E h y)(n:g y=none):fR E r f d8 (λx=>if x=y then some (r+1)else g x) (reached++[y]):=by
 have fy:f y=none:=by
  cases e:f y with
  |none=>rfl
  |some d=>rw[B.ext y d e]at n;cases n
 refine⟨λx d e=>?_,λx d e=>?_,λx=>?_⟩;{by_cases c:x=y;{rw[c,fy]at e;cases e};show(if x=y then _ else _)=_;rw[if_neg c];exact B.ext x d e};{by_cases c:x=y;{rw[if_pos c]at e;cases e;rw[c];exact .inr ⟨fy,rfl,h,he,hy⟩};rw[if_neg c]at e;exact B.new x d e};rw[RY,RE,B.got x];constructor;{rintro (⟨h1,h2⟩|rfl);{refine⟨h1,?_⟩;by_cases c:x=y;{exact if_pos c};show(if x=y then _ else _)=_;rw[if_neg c];exact h2};exact⟨fy,if_pos rfl⟩};rintro⟨h1,h2⟩;by_cases c:x=y;{exact .inr c};rw[if_neg c]at h2;exact .inl ⟨h1,h2⟩
theorem fR.none{r:Nat}{f g:Nat->Option Nat}(B:fR E r f d8 g reached){x:Nat}(h:g x=.none):f x=.none:=by
 cases e:f x with
 |none=>rfl
 |some d=>rw[B.ext x d e]at h;cases h
def fR.at{r:Nat}{f g:Nat->Option Nat}(B:fR E r f d8 g reached)(A:lQ E p r f d8){h:Nat}(he:h∈d8):g h=some r:=B.ext h r ((A.d8 h).mp he)
def lQ.next{r:Nat}{f g:Nat->Option Nat}{d8 reached:WN}(A:lQ E p r f d8)(B:fR E r f d8 g reached)(all:∀h,h∈d8->∀x,E h x->g x≠none):lQ E p (r+1) g reached:=by
 refine⟨λx d e=>?_,λx d l h=>?_,λx d e=>?_,λx=>?_⟩;{rcases B.new x d e with h|⟨h1,rfl,h,he,hx⟩;{exact A.sound x d h};have rh:=(A.sound h r ((A.d8 h).mp he)).1;refine⟨rh.step hx,λe he hr=>?_⟩;obtain⟨d,hd⟩:=A.upto x e (by lia) hr;rw[h1]at hd;cases hd}
 .by_cases c:d<=r;{obtain⟨e,he⟩:=A.upto x d c h;exact⟨e,B.ext x e he⟩};obtain rfl:d=r+1:=by lia
  cases h with
  |@step _ y _ hy hyx=>
   obtain⟨e,he⟩:=A.upto y r (RB _) hy;have el:=A.low y e he;by_cases ce:e=r
   .have:=all y ((A.d8 y).mpr (ce▸he)) x hyx;cases e':g x with
    |none=>exact absurd e' this
    |some d=>exact⟨d,rfl⟩
   obtain⟨e',he'⟩:=A.upto x (e+1) (by lia) ((A.sound y e he).1.step hyx);exact⟨e',B.ext x e' he'⟩
 .rcases B.new x d e with h|⟨_,rfl,_⟩;{have:=A.low x d h;lia};exact RB _
 rw[B.got x];constructor;{exact λh=>h.2};intro h;refine⟨?_,h⟩;rcases B.new x (r+1) h with h'|⟨h',_⟩;{have:=A.low x _ h';lia};exact h'
def lQ.done{r:Nat}{f:Nat->Option Nat}(A:lQ E p r f []):∀{d x:Nat},R E p d x->∃e,f x=some e:=by
 intro d x h;induction h with
 |zero=>exact A.upto p 0 (S3 _) .zero
 |@step d x y _ hxy ih=>
  obtain⟨e,he⟩:=ih;have el:=A.low x e he;have ne:e≠r:=λc=>by have:=(A.d8 x).mpr (c▸he);cases this
  exact A.upto y (e+1) (by lia) ((A.sound x e he).1.step hxy)
def lQ.val{r:Nat}{f:Nat->Option Nat}(A:lQ E p r f []){x d:Nat}(h:R E p d x):f x=some (dst E p x):=by obtain⟨e,he⟩:=A.done h;rw[he,xo (A.sound x e he)]
end
noncomputable def cnt (f:Nat->Option Nat):Nat->Nat
 |0=>0
 |m+1=>cnt f m+(if f m=none then 1 else 0)
theorem wU{f g:Nat->Option Nat}(h:∀x,g x=none->f x=none):∀m,cnt g m<=cnt f m
 |0=>RB _
 |m+1=>by have:=wU h m;unfold cnt;by_cases c:g m=none;{rw[if_pos c,if_pos (h m c)];lia};rw[if_neg c];lia
theorem Dz{f g:Nat->Option Nat}(h:∀x,g x=none->f x=none){y:Nat}(fy:f y=none)(gy:g y≠none):∀m,y<m->cnt g m<cnt f m
 |0,l=>absurd l (TY _)
 |m+1,l=>by unfold cnt;by_cases c:y=m;{have:=wU h m;rw[<-c,if_neg gy,if_pos fy,c];lia};have:=Dz h fy gy m (by lia);by_cases c:g m=none;{rw[if_pos c,if_pos (h m c)];lia};rw[if_neg c];lia
noncomputable def c6 (es:Vx) (x y:Nat):Prop:=(x,y)∈es\/(y,x)∈es
def rD(x y:Nat)(h:c6 es x y):c6 es y x:=h.elim .inr .inl
noncomputable def f9 (m:Nat)(es:Vx):Prop:=∀p,p<m->∀x,x<m->∃d,R (c6 es) p d x
def IZ{m:Nat}(h:∀k,0<k->k<m->∃p,p<k/\(p,k)∈es):f9 m es:=by
 have z:∀n x,x<n->x<m->∃d,R (c6 es) x d 0:=by
  intro n;induction n with
  |zero=>exact λx h _=>absurd h (TY _)
  |succ n ih=>intro x hx hm;by_cases c:x=0;{rw[c];exact⟨0,.zero⟩};obtain⟨q,hq,he⟩:=h x (by lia) hm;obtain⟨d,hd⟩:=ih q (by lia) (by lia);exact⟨1+d,R.head (.inr he) hd⟩
 intro p hp x hx;obtain⟨d,hd⟩:=z (p+1) p (by lia) hp;obtain⟨e,he⟩:=z (x+1) x (by lia) hx;exact⟨d+e,hd.trans (he.symm rD)⟩
def vU{m:Nat}{nm:Nat->Nat}(h:f9 m es)(onto:∀x,x<m->∃a,a<m/\nm a=x)(e:∀a b,(a,b)∈es->c6 fs (nm a) (nm b)):f9 m fs:=by
 intro p hp x hx;obtain⟨a,ha,rfl⟩:=onto p hp;obtain⟨b,hb,rfl⟩:=onto x hx;obtain⟨d,hd⟩:=h a ha b hb;have go:∀{d b:Nat},R (c6 es) a d b->R (c6 fs) (nm a) d (nm b):=by
  intro d b hd;induction hd with
  |zero=>exact .zero
  |step _ s ih=>refine R.step ih ?_;rcases s with s|s;{exact e _ _ s};exact rD _ _ (e _ _ s)
 exact⟨d,go hd⟩
theorem je:∀(m:Nat)(l:WN),l.Nodup->(∀x∈l,x<m)->l.length<=m
 |0,[],_,_=>RB _
 |0,x::_,_,h=>absurd (h x (RC ..)) (TY _)
 |m+1,l,nd,h=>by
  have h1:(l.erase m).length<=m:=je m (l.erase m) (nd.sublist (List.erase_sublist ..)) λx hx=>by have:=(nd.mem_erase_iff.mp hx);have:=h x this.2;lia
  have h2:l.length<=(l.erase m).length+1:=by rw[List.length_erase];split<;>lia
  lia
noncomputable def nb (x:Nat)(e:Nat×Nat):Option Nat:=if e.1=x then some e.2 else if e.2=x then some e.1 else none
noncomputable def gk (es:Vx) (x:Nat):WN:=es.filterMap (nb x)
def uu{x y:Nat}(h:nb x e=some y):e=(x,y)\/e=(y,x):=by obtain⟨a,b⟩:=e;unfold nb at h;by_cases c:a=x;{rw[if_pos c]at h;cases h;rw[c];exact .inl rfl};rw[if_neg c]at h;by_cases c2:b=x;{rw[if_pos c2]at h;cases h;rw[c2];exact .inr rfl};rw[if_neg c2]at h;cases h
def t6{x y:Nat}:y∈gk es x↔c6 es x y:=by unfold gk;rw[VF];constructor;{rintro⟨e,he,h⟩;rcases uu h with rfl|rfl;{exact .inl he};exact .inr he};rintro (h|h);{exact⟨_,h,if_pos rfl⟩};refine⟨_,h,?_⟩;show(if y=x then some x else if x=x then some y else none)=some y;by_cases c:y=x;{rw[if_pos c,c]};rw[if_neg c,if_pos rfl]
def JH{x:Nat}:gk (es++fs) x=gk es x++gk fs x:=Va ..
structure Good(m:Nat)(es:Vx):Prop where
 lt:∀e∈es,e.1<e.2/\e.2<m
 nd:es.Nodup
def Good.OQ{m:Nat}(g:Good m es){x y:Nat}(h:c6 es x y):x<m/\y<m:=by rcases h with h|h;{have:x<y/\y<m:=g.lt _ h;lia};have:y<x/\x<m:=g.lt _ h;lia
def Good.ES{m:Nat}(g:Good m es) (x:Nat):(gk es x).Nodup:=by unfold gk List.Nodup;rw[List.pairwise_filterMap];refine List.Pairwise.imp_of_mem ?_ g.nd;intro a b ha hb ne y hy z hz e;subst e;rcases uu hy with rfl|rfl<;>rcases uu hz with rfl|rfl;{exact ne rfl};{have h1:x<y/\y<m:=g.lt _ ha;have h2:y<x/\x<m:=g.lt _ hb;lia};{have h1:y<x/\x<m:=g.lt _ ha;have h2:x<y/\y<m:=g.lt _ hb;lia};exact ne rfl
def Good.Js{m:Nat}(g:Good m es) (x:Nat):(gk es x).length<=m:=je m _ (g.ES x) λy hy=>(g.OQ (t6.mp hy)).2
def Good.perm{m:Nat}(p:fs.Perm es)(g:Good m es):Good m fs:=⟨λe h=>g.lt e (p.mem_iff.mp h),p.nodup_iff.mpr g.nd⟩
def Em{m:Nat}(p:fs.Perm es)(h:f9 m es):f9 m fs:=vU (nm:=id) h (λx hx=>⟨x,hx,rfl⟩) λa b h=>.inl (p.mem_iff.mpr h)
noncomputable def uR (ms:WN)(e:Nat×Nat):Nat×Nat:=(min (ms.getD e.1 0) (ms.getD e.2 0),max (ms.getD e.1 0) (ms.getD e.2 0))
def getD_inj{ms:WN}(nd:ms.Nodup){a b:Nat}(ha:a<ms.length)(hb:b<ms.length)(e:ms.getD a 0=ms.getD b 0):a=b:=by rw[RV,RV,RS ha,RS hb]at e;have e':ms[a]=ms[b]:=e;rcases Vd a b with l|l|l;{exact absurd e' (List.pairwise_iff_getElem.mp nd a b ha hb l)};{exact l};exact absurd e'.symm (List.pairwise_iff_getElem.mp nd b a hb ha l)
def A9{m:Nat}(pm:ms.Perm (List.range m))(h:f9 m ps):f9 m (ps.map (uR ms)):=by refine vU (nm:=λa=>ms.getD a 0) h (λx hx=>?_) λa b he=>?_;{obtain⟨i,hi⟩:=Sv (pm.mem_iff.mpr (Rg.mpr hx));have li:=(U0.mp hi).1;rw[pm.length_eq,RH]at li;refine⟨i,li,?_⟩;show ms.getD i 0=x;rw[RV,hi];rfl};have hm:uR ms (a,b)∈ps.map (uR ms):=RG.mpr ⟨_,he,rfl⟩;show c6 _ (ms.getD a 0) (ms.getD b 0);have e:uR ms (a,b)=(min (ms.getD a 0) (ms.getD b 0),max (ms.getD a 0) (ms.getD b 0)):=rfl;rw[e]at hm;rcases Uc (ms.getD a 0) (ms.getD b 0)with l|l;{rw[Tt l,Nat.max_eq_right l]at hm;exact .inl hm};rw[Ud l,Nat.max_eq_left l]at hm;exact .inr hm
section
variable{E:Nat->Nat->Prop}{p:Nat}
def gO.pred{x d:Nat}(h:gO E p x (d+1)):∃y,gO E p y d/\E y x:=by
 obtain⟨h1,h2⟩:=h;cases h1 with
 |@step _ y _ hy hyx=>refine⟨y,⟨hy,λe he hr=>?_⟩,hyx⟩;exact h2 (e+1) (by lia) (hr.step hyx)
theorem gO.chain{m:Nat}(lt:∀x y,E x y->x<m/\y<m)(hp:p<m):∀{d x:Nat},gO E p x d->∃l:WN,l.length=d+1/\l.Nodup/\(∀y∈l,y<m)/\∀y∈l,∃k,k<=d/\gO E p y k
 |0,x,h=>by cases h.1;refine⟨[p],rfl,S8.mpr ⟨S4,Su⟩,λy hy=>?_,λy hy=>?_⟩;{rw[RE.mp hy];exact hp};rw[RE.mp hy];exact⟨0,RB _,h⟩
 |d+1,x,h=>by obtain⟨y,hy,hyx⟩:=h.pred;obtain⟨l,l1,l2,l3,l4⟩:=gO.chain lt hp hy;refine⟨x::l,by rw[RT,l1],S8.mpr ⟨λhx=>?_,l2⟩,λz hz=>?_,λz hz=>?_⟩;{obtain⟨k,hk,hd⟩:=l4 x hx;have:=hd.eq h;lia};{rcases RP.mp hz with rfl|hz;{exact(lt _ _ hyx).2};exact l3 z hz};rcases RP.mp hz with rfl|hz;{exact⟨d+1,RB _,h⟩};obtain⟨k,hk,hd⟩:=l4 z hz;exact⟨k,by lia,hd⟩
def gO.small{m:Nat}(lt:∀x y,E x y->x<m/\y<m)(hp:p<m){d x:Nat}(h:gO E p x d):d<m:=by obtain⟨l,l1,l2,l3,_⟩:=gO.chain lt hp h;have:=je m l l2 l3;lia
end
noncomputable def lS:Nat->Nat
 |0=>0
 |b+1=>lS b+b
def wW{a b:Nat}(h:a<=b):lS a<=lS b:=by
 induction b with
 |zero=>
  obtain rfl:a=0:=by lia
  exact RB _
 |succ b ih=>by_cases c:a=b+1;{rw[c];exact RB _};exact Ri (ih (by lia)) (Tr _ _)
theorem Ao:∀m,2*lS m<=m*m
 |0=>RB _
 |m+1=>by have:=Ao m;show 2*(lS m+m)<=(m+1)*(m+1);rw[Nat.mul_add,Nat.add_mul,Nat.mul_add];lia
noncomputable def ix (e:Nat×Nat):Nat:=lS e.2+e.1
def Lj(he:e.1<e.2)(hf:f.1<f.2)(h:ix e=ix f):e=f:=by
 obtain⟨a,b⟩:=e;obtain⟨c,d⟩:=f;unfold ix at h;dsimp only at he hf h;have key:∀{a b c d:Nat},a<b->b<d->lS b+a<lS d+c:=λ{a b c d} h1 h2=>by have:=wW (a:=b+1) (b:=d) (by lia);have e:lS (b+1)=lS b+b:=rfl;lia
 rcases Vd b d with l|l|l;{have:=key (c:=c) he l;lia};{subst l;rw[show a=c by lia]};have:=key (c:=a) hf l;lia
def mT{m:Nat}(g:Good m ps):2*ps.length<=m*m:=by have h:=je (lS m) (ps.map ix) ?_ ?_;{rw[RA]at h;have:=Ao m;lia};{unfold List.Nodup;rw[List.pairwise_map];exact List.Pairwise.imp_of_mem (λ{e f} he hf ne h=>ne (Lj (g.lt e he).1 (g.lt f hf).1 h)) g.nd};intro x hx;obtain⟨e,he,rfl⟩:=RG.mp hx;have l:=g.lt e he;have:=wW (a:=e.2+1) (b:=m) (by lia);have e2:lS (e.2+1)=lS e.2+e.2:=rfl;unfold ix;lia
end Gr
local macro_rules | `(tactic| bv_omega) => do let ls ← (List.range 216).toArray.mapM fun k => `(Lean.Parser.Tactic.simpLemma| $(Lean.mkIdent (.str `Dv s!"rr{k}")):ident); `(tactic| dsimp only[$ls,*, Dv.dyr0, Dv.dyr1, Dv.dyr2, Dv.dyr3, Nat.reduceBEq])
local macro_rules | `(tactic| rfl') => do let ls ← (List.range 216).toArray.mapM fun k => `(Lean.Parser.Tactic.simpLemma| $(Lean.mkIdent (.str `Dv s!"rr{k}")):ident); `(tactic| ((try bv_omega); try simp only[$ls,*, Dv.dw, Dv.M9, Dv.dy, Dv.dz, Nat.reduceBEq]))
local macro_rules | `(tactic| simp![$xs,*]) => do let ls ← (List.range 216).toArray.mapM fun k => `(Lean.Parser.Tactic.simpLemma| $(Lean.mkIdent (.str `Dv s!"rr{k}")):ident); let ys : Array (Lean.TSyntax `Lean.Parser.Tactic.simpLemma) := xs.getElems.map fun x => ⟨x.raw⟩; let zs := ls ++ ys; `(tactic| ((try bv_omega); try simp only[$zs,*, Dv.dw, Dv.M9, Dv.dy, Dv.dz, Nat.reduceBEq]))
namespace PB
open PySem L2 Dv
def zR{α:Type}{m k:Nat}{f:Nat->α}{v:α}:((List.range m).map f).set k v=(List.range m).map λi=>if i=k then v else f i:=by refine Rw λj=>?_;rw[SV,RA,RH,RO,RO];by_cases h:j<m;{rw[RI h];by_cases c:k=j;{subst c;rw[if_pos rfl,if_pos h];simp};rw[if_neg c];simp[Ne.symm c]};rw[Rb (by rw[RH];lia)];by_cases c:k=j;{subst c;rw[if_pos rfl,if_neg h];rfl};rw[if_neg c];rfl
def JB{α:Type}{m k:Nat}{f:Nat->α}(h:k<m):((List.range m).map f)[k]?=some (f k):=by rw[RO,RI h];rfl
noncomputable def OX (f:DM) (i n:Nat)(E1:En)(w:PyData)(Q:En->Kd->PyData->Prop):Prop:=∃a p ds m es k d E2,w=.int a/\E1[i]?=some (some (.dp p,.list ds))/\kq ds.length a=some m/\ds[m]?=some (.list es)/\E1[n]?=some (some (k,d))/\i≠n/\cX E1 n=some E2/\f es [d] λnew v=>Q (E2.set i (some (.dp p,.list (ds.set m (.list new))))) .sh v
def Cy{i n:Nat}:wF f i j n x (o::E) Q=(here (o::E) i=true/\j x (o::E) λE1 _ w=>OX f i n E1 w Q):=rfl
def CJ{i n a m:Nat}{p:Bool}{E:En}{g:Nat->WC}{Q:En->Kd->PyData->Prop}(h1:E[i]?=some (some (.dp p,.list ((List.range m).map λi=>.list (g i)))))(h2:E[n]?=some (some (.sh,d)))(ne:i≠n)(ha:a<m)(hs:(g a).length<16777216)(q:Q (E.set i (some (.dp p,.list ((List.range m).map λk=>.list (if k=a then g k++[d]else g k))))) .sh .none):OX cg i n E (iD a) Q:=by
 refine⟨a,p,_,a,g a,.sh,d,E,rfl,h1,?_,JB ha,h2,ne,?_,?_⟩;{rw[RA,RH];exact CM ha}
 .have:=yf (E:=E) (is:=[n]) (by simp[iH,h2]);unfold dN at this;cases e:cX E n with
  |none=>rw[e]at this;cases this
  |some E2=>rw[e]at this;exact this
 refine⟨hs,?_⟩;show Q (E.set i (some (.dp p,.list (((List.range m).map λi=>PyData.list (g i)).set a (.list (g a++[d])))))) .sh .none;rw[zR];have e:((List.range m).map λk=>if k=a then PyData.list (g a++[d])else .list (g k))=(List.range m).map λk=>PyData.list (if k=a then g k++[d]else g k):=by refine Ru λk _=>?_;by_cases c:k=a;{rw[if_pos c,if_pos c,c]};rw[if_neg c,if_neg c]
 rw[e];exact q
noncomputable abbrev wm (m:Nat)(es:Vx):PyData:=.list ((List.range m).map λi=>nD (Gr.gk es i))
noncomputable def AO:bC:=λds Q x=>∃m es,ds=[wD m es]/\m<=60/\Gr.Good m es/\Q [] (.dp false) (wm m es)
def Ng:∀ds Q x,AO ds Q x->fY (aZ [false] Q x) (ini [false] ds++List.replicate 6 none):=by
 rintro _ Q x⟨m,es,rfl,hm,gd,q⟩;unfold fY;rfl';rw[if_pos (by lia)];refine aq rfl (K4 (λ_=>PyData.list []) rfl (λa ha I hI=>?_) ?_ (by rw[RH];lia));{rfl';exact⟨by lia,⟨false,rfl⟩,hI _ rfl⟩};rfl';refine sU (λi E=>v8 λ(o4 o5:Option (Kd×PyData))=>Ar (E=[some (.sh,wD m es),some (.sh,iD m),some (.sh,.tuple (es.map dF)),some (.dp false,wm m (es.take i)),o4,o5,none]) (aV o4=true) (aV o5=true)) ⟨none,none,rfl,rfl,rfl⟩ ?_ ?_
 .rintro i⟨a,b⟩_ hi⟨o4,o5,rfl,ho4,ho5⟩;have hab:=gd.lt _ (Rj hi);have hab:a<b/\b<m:=hab;simp![ho4,ho5,Cy];have hn:∀k,(Gr.gk (es.take i) k).length<1000:=λk=>by have g2:Gr.Good m (es.take i):=⟨λe he=>gd.lt e (List.mem_of_mem_take he),List.Sublist.nodup (List.take_sublist _ _) gd.nd⟩;have:=g2.Js k;lia
  refine CJ (g:=λk=>(Gr.gk (es.take i) k).map iD) rfl rfl (by lia) (by lia) (by rw[RA];have:=hn a;lia) ?_;simp![ho4,ho5,Cy];refine CJ (g:=λk=>if k=a then(Gr.gk (es.take i) k).map iD++[iD b]else(Gr.gk (es.take i) k).map iD) rfl rfl (by lia) (by lia) (by rw[if_neg (by lia),RA];have:=hn b;lia) ?_;refine⟨some (.sh,iD a),some (.sh,iD b),?_,rfl,rfl⟩;simp only[List.set_cons_succ,List.set_cons_zero];have e:∀k,(if k=b then(if k=a then(Gr.gk (es.take i) k).map iD++[iD b]else(Gr.gk (es.take i) k).map iD)++[iD a]else if k=a then(Gr.gk (es.take i) k).map iD++[iD b]else(Gr.gk (es.take i) k).map iD)=(Gr.gk (es.take (i+1)) k).map iD:=λk=>by rw[take_snoc hi,Gr.JH,RW];unfold Gr.gk;rw[TZ,List.filterMap_nil];unfold Gr.nb;simp only;by_cases c:k=a;{subst c;rw[if_neg (by lia),if_pos rfl,if_pos rfl];rfl};by_cases c2:k=b;{subst c2;rw[if_pos rfl,if_neg c,if_neg (Ne.symm c),if_pos rfl];rfl};rw[if_neg c2,if_neg c,if_neg (Ne.symm c),if_neg (Ne.symm c2)];exact(Rz _).symm
  rw[Ru λk _=>congrArg PyData.list (e k)]
 rintro _⟨o4,o5,rfl,ho4,ho5⟩;rw[SK];rfl';exact q
open Classical in
noncomputable def qi (es:Vx) (p x:Nat):Option Nat:=if ∃d,Gr.R (Gr.c6 es) p d x then some (Gr.dst (Gr.c6 es) p x)else none
noncomputable def oD:Option Nat->PyData
 |none=>.none
 |some n=>iD n
noncomputable abbrev rR (f:Nat->Option Nat) (m:Nat):PyData:=.list ((List.range m).map λx=>oD (f x))
def Eo{f:Nat->Option Nat}{m y d:Nat}:(((List.range m).map λx=>oD (f x)).set y (iD d))=(List.range m).map λx=>oD (if x=y then some d else f x):=by rw[zR];refine Ru λk _=>?_;by_cases c:k=y;{rw[if_pos c,if_pos c];rfl};rw[if_neg c,if_neg c]
def Lb{m p r:Nat}{f:Nat->Option Nat}(B:Gr.lQ (Gr.c6 es) p r f []) (x:Nat):f x=qi es p x:=by
 unfold qi;split;{rename_i h;obtain⟨d,h⟩:=h;exact B.val h};rename_i h;cases e:f x with
 |none=>rfl
 |some d=>exact absurd ⟨d,(B.sound x d e).1⟩ h
def Gw{m p x:Nat}(cn:Gr.f9 m es)(hp:p<m)(hx:x<m):qi es p x=some (Gr.dst (Gr.c6 es) p x):=if_pos (cn p hp x hx)
noncomputable def BZ:bC:=λds Q x=>∃m es p,ds=[wD m es,iD p]/\m<=60/\Gr.Good m es/\p<m/\Q [] (.ow false) (rR (qi es p) m)
def K6:d9 false [oD o,.none] P=P .sh (.bool o.isNone):=by cases o<;>simp[oD,d9,dx]
def NC:lf (oD o)=true:=by cases o<;>rfl
def IC{y:Nat}:nD (l++[y])=.list (l.map iD++[iD y]):=by show PyData.list ((l++[y]).map iD)=_;rw[RW];rfl
def Kw:∀ds Q x,BZ ds Q x->iP AO (aZ [false,false] Q x) (ini [false,false] ds++List.replicate 6 none):=by
 rintro _ Q x⟨m,es,p,rfl,hm,gd,hp,q⟩;unfold iP;rfl';refine⟨m,es,rfl,hm,gd,?_⟩;rfl';have e0:(List.replicate m [PyData.none]).flatten=(List.range m).map λ_=>PyData.none:=by
  clear q hp gd hm;induction m with
  |zero=>rfl
  |succ k ih=>rw[List.replicate_succ',List.flatten_append,ih,SN,RW];rfl
 rw[e0];refine⟨by lia,⟨by lia,by lia,by lia⟩,gR (by rw[RA,RH];exact hp) ?_⟩;rw[show PyData.int 0=iD 0 from rfl,show((List.range m).map λ_=>PyData.none)=(List.range m).map λx=>oD ((λ_=>none:Nat->Option Nat) x)from rfl,Eo];refine⟨by lia,?_⟩;refine⟨λn E=>OY λ(r:Nat)(g:Nat->Option Nat)(ed:WN)(k2 k4:Kd)(o5 o6 o7:Option (Kd×PyData))=>O6 (E=[some (.sh,wD m es),some (.sh,iD p),some (k2,wm m es),some (.ow false,rR g m),some (k4,nD ed),o5,o6,o7]) ((k2=.dp false\/k2=.sh)) ((k4=.ow false\/k4=.sh)) (aV o5=true) (aV o6=true) (aV o7=true) (n=2*Gr.cnt g m+(if ed=[]then 0 else 1)) (Gr.lQ (Gr.c6 es) p r g ed) (∀x∈ed,x<m),?_,?_⟩;{exact⟨_,0,_,[p],_,_,none,none,none,rfl,.inl rfl,.inl rfl,rfl,rfl,rfl,rfl,Gr.lQ.start,λx hx=>by rw[RE.mp hx];exact hp⟩};rintro n _⟨r,g,ed,k2,k4,o5,o6,o7,rfl,hk2,hk4,ho5,ho6,ho7,rfl,B,edm⟩;simp![List.isEmpty_map];refine⟨by rcases hk4 with rfl|rfl<;>rfl,?_⟩;cases ed with
 |nil=>simp![List.isEmpty_nil];have e:rR g m=rR (qi es p) m:=congrArg PyData.list (Ru λx _=>congrArg oD (Lb (m:=m) B x));rw[e];exact q
 |cons e0 er=>
  simp![List.isEmpty_cons,ho5];have f4:k4.fz=true:=by rcases hk4 with rfl|rfl<;>rfl
  rw[if_pos f4];refine⟨by lia,aq rfl ?_⟩;have ne:e0::er≠[]:=Ua _ _;generalize e0::er=ed at B edm ne⊢;have hE2:∀(k2:Kd),(k2=.dp false\/k2=.sh)->k2.rd=true/\k2.fz=true:=λk h=>by rcases h with rfl|rfl<;>exact⟨rfl,rfl⟩
  refine sU (λi E=>vd λ(g':Nat->Option Nat)(rc:WN)(k2:Kd)(o6 o7:Option (Kd×PyData))=>Ii (E=[some (.sh,wD m es),some (.sh,iD p),some (k2,wm m es),some (.ow false,rR g' m),some (.sh,nD ed),some (.ow false,nD rc),o6,o7]) ((k2=.dp false\/k2=.sh)) (aV o6=true) (aV o7=true) (Gr.fR (Gr.c6 es) r g ed g' rc) ((∀j h,j<i->ed[j]?=some h->∀x,Gr.c6 es h x->g' x≠none)) (rc.Nodup) (∀x∈rc,x<m)) ⟨g,[],k2,o6,o7,rfl,hk2,ho6,ho7,.start,λj h hj=>by lia,Su,λ_ h=>absurd h S4⟩ ?_ ?_
  .rintro i h _ hi⟨g',rc,k2,o6,o7,rfl,hk2,ho6,ho7,BI,don,rcn,rcm⟩;have mh:h∈ed:=Rj hi;have hm':=edm h mh;obtain⟨rd2,fz2⟩:=hE2 k2 hk2;simp![ho6,rd2];rw[RI hm'];refine aq rfl ?_;simp![fz2];have loop:∀k2,(k2=.dp false\/k2=.sh)->wN (List.map iD (Gr.gk es h)) (Tg.nm 7) (cH (bG (aa (d9 false) [Arg.ev (aa av [Arg.pk 3,Arg.pk 7]),Arg.ev (dC PyData.none)])) (ao (fF 3 (aW 7) (aa b7 [Arg.ev (aa av [Arg.pk 3,Arg.pk 6]),Arg.ev (dC (PyData.int 1))])) (cA (iI cg 5 [aW 7]))) c9)
    { nx:=λE=>vd λ(g':Nat->Option Nat)(rc:WN)(k2:Kd)(o6 o7:Option (Kd×PyData))=>Ii (E=[some (.sh,wD m es),some (.sh,iD p),some (k2,wm m es),some (.ow false,rR g' m),some (.sh,nD ed),some (.ow false,nD rc),o6,o7]) ((k2=.dp false\/k2=.sh)) (aV o6=true) (aV o7=true) (Gr.fR (Gr.c6 es) r g ed g' rc) ((∀j h,j<i+1->ed[j]?=some h->∀x,Gr.c6 es h x->g' x≠none)) (rc.Nodup) (∀x∈rc,x<m),rt:=(aZ [false,false] Q x).rt,xc:=x }
    [some (.sh,wD m es),some (.sh,iD p),some (k2,wm m es),some (.ow false,rR g' m),some (.sh,nD ed),some (.ow false,nD rc),some (.sh,iD h),o7]:=by
    intro k2 hk2;refine sU (λi' E=>zC λ(g':Nat->Option Nat)(rc:WN)(o7:Option (Kd×PyData))=>MZ (E=[some (.sh,wD m es),some (.sh,iD p),some (k2,wm m es),some (.ow false,rR g' m),some (.sh,nD ed),some (.ow false,nD rc),some (.sh,iD h),o7]) (aV o7=true) (Gr.fR (Gr.c6 es) r g ed g' rc) ((∀j h,j<i->ed[j]?=some h->∀x,Gr.c6 es h x->g' x≠none)) ((∀j y,j<i'->(Gr.gk es h)[j]?=some y->g' y≠none)) (rc.Nodup) (∀x∈rc,x<m)) ⟨g',rc,o7,rfl,ho7,BI,don,λj y hj=>by lia,rcn,rcm⟩ ?_ ?_
    .rintro i' y _ hy⟨g',rc,o7,rfl,ho7,BI,don,dni,rcn,rcm⟩;have hyE:Gr.c6 es h y:=Gr.t6.mp (Rj hy);have ym:y<m:=(gd.OQ hyE).2;have eh:=BI.at B mh;simp![ho7,RI ym,RI hm',NC,K6];cases gy:g' y with
     |some d=>
      simp only[dw,Option.isNone_some];refine⟨g',rc,some (.sh,iD y),rfl,rfl,BI,don,λj z hj hz=>?_,rcn,rcm⟩
      by_cases c:j=i'
      .subst c;rw[hy]at hz;cases hz;rw[gy];simp
      .exact dni j z (by lia) hz
     |none=>
      have e1:oD (some r)=iD r:=rfl;have e2:(r:Int)+1=((r+1:Nat):Int):=rfl;simp![Option.isNone_none,eh,e1,e2];have yrc:y∉rc:=λh'=>by
       have:=((BI.got y).mp h').2;rw[gy]at this;cases this
      have rcl:=Gr.je m rc rcn rcm;refine gR ym ⟨by lia,_,rc++[y],some (.sh,iD y),?_,rfl,BI.put mh hyE gy,λj h' hj he x hx=>?_,λj z hj hz=>?_,?_,λx hx=>?_⟩
      .rw[Eo,IC]
      .show(if x=y then some (r+1)else g' x)≠none
       split
       .exact λh=>(nomatch h)
       .exact don j h' hj he x hx
      .show(if z=y then some (r+1)else g' z)≠none
       split
       .exact λh=>(nomatch h)
       .rename_i c
        by_cases c2:j=i'
        .subst c2;rw[hy]at hz;cases hz;exact absurd rfl c
        .exact dni j z (by lia) hz
      .exact Uy.mpr ⟨rcn,S8.mpr ⟨S4,Su⟩,λa ha b hb e=>by
        cases RE.mp hb;exact yrc (e▸ha)⟩
      .rcases RY.mp hx with h'|h'
       .exact rcm x h'
       .rw[RE.mp h'];exact ym
    .rintro _⟨g',rc,o7,rfl,ho7,BI,don,dni,rcn,rcm⟩;refine⟨g',rc,k2,_,o7,rfl,hk2,rfl,ho7,BI,λj h' hj hh x hx=>?_,rcn,rcm⟩
     by_cases c:j=i
     .subst c;rw[hi]at hh;cases hh;obtain⟨l,hl⟩:=List.mem_iff_getElem?.mp (Gr.t6.mpr hx);exact dni l x (bS hl) hl
     .exact don j h' (by lia) hh x hx
   split;{exact aq rfl (loop _ hk2)};exact aq rfl (loop _ (.inr rfl))
  rintro _⟨g',rc,k2,o6,o7,rfl,hk2,ho6,ho7,BI,don,rcn,rcm⟩;rfl';have all:∀h,h∈ed->∀x,Gr.c6 es h x->g' x≠none:=λh hh=>by obtain⟨j,hj⟩:=List.mem_iff_getElem?.mp hh;exact don j h (bS hj) hj
  refine⟨_,?_,r+1,g',rc,k2,.sh,some (.sh,nD rc),o6,o7,rfl,hk2,.inr rfl,rfl,ho6,ho7,rfl,B.next BI all,rcm⟩;rw[if_neg ne];cases rc with
  |nil=>have:=Gr.wU (f:=g) (g:=g') (λx h=>BI.none h) m;rw[if_pos rfl];lia
  |cons y rc=>obtain⟨h1,h2⟩:=(BI.got y).mp (RC ..);have:=Gr.Dz (f:=g) (g:=g') (λx h=>BI.none h) h1 (by rw[h2];exact λh=>(nomatch h)) m (rcm y (RC ..));rw[if_neg (Ua _ _)];lia
structure cI(m:Nat)(es:Vx):Prop where
 pos:1<=m
 le:m<=60
 gd:Gr.Good m es
 cn:Gr.f9 m es
def cI.few{m:Nat}(W:cI m es):es.length<=1800:=by have h:=Gr.mT W.gd;have:=UD W.le W.le;lia
noncomputable abbrev aG (es:Vx) (p x:Nat):Nat:=Gr.dst (Gr.c6 es) p x
noncomputable abbrev kX (m:Nat)(es:Vx) (p:Nat):PyData:=.list ((List.range m).map λx=>iD (aG es p x))
def L1{m p:Nat}(cn:Gr.f9 m es)(hp:p<m):rR (qi es p) m=kX m es p:=congrArg PyData.list (Ru λx hx=>by rw[Gw cn hp (Rg.mp hx)];rfl)
noncomputable def BJ:bC:=λds Q x=>∃m es,∃p:Int,ds=[wD m es,.int p]/\(0<=p/\p<m->Q [] .sh .none)/\(¬(0<=p/\p<m)->x "NoPlace" .none)
def Lm:∀ds Q x,BJ ds Q x->f7 (aZ [false,false] Q x) (ini [false,false] ds++List.replicate 0 none):=by rintro _ Q x⟨m,es,p,rfl,q,r⟩;unfold f7;rfl';split;{rename_i h;split;{rename_i h2;exact r λz=>h2 z.2};rename_i h2;exact q ⟨h,Decidable.of_not_not h2⟩};rename_i h;exact r λz=>h z.1
noncomputable def Ba:bC:=λds Q x=>∃m es,∃p:Int,ds=[wD m es,.int p]/\cI m es/\(∀k:Nat,p=k->k<m->Q [] (.ow false) (kX m es k))/\(¬(0<=p/\p<m)->x "NoPlace" .none)
def KH:∀ds Q x,Ba ds Q x->lB BJ BZ (aZ [false,false] Q x) (ini [false,false] ds++List.replicate 0 none):=by
 rintro _ Q x⟨m,es,p,rfl,W,q,r⟩;unfold lB;rfl';refine⟨m,es,p,rfl,λhp=>?_,r⟩;rfl';obtain⟨k,rfl⟩:=Int.eq_ofNat_of_zero_le hp.1;have hk:k<m:=by lia
 refine⟨m,es,k,rfl,W.le,W.gd,hk,?_⟩;rfl';rw[L1 W.cn hk];exact q k rfl hk
noncomputable abbrev Th:=Nat ⊕ (Nat×Nat)
noncomputable def bB:Th->PyData
 |.inl x=>iD x
 |.inr e=>dF e
noncomputable def TV (m:Nat):Th->Prop
 |.inl x=>x<m
 |.inr e=>e.1<m/\e.2<m
noncomputable def td (es:Vx) (p:Nat):Th->Nat
 |.inl x=>aG es p x
 |.inr e=>min (aG es p e.1) (aG es p e.2)
def yz:lf (bB t)=true:=by cases t<;>rfl
def zQ:bB a=bB b↔a=b:=by refine⟨λh=>?_,λh=>by rw[h]⟩;cases a<;>cases b;{exact congrArg _ (Du.mp h)};{cases h};{cases h};exact congrArg _ (zw.mp h)
noncomputable def AB:bC:=λds Q x=>∃m es p,∃e:Nat×Nat,ds=[kX m es p,dF e]/\e.1<m/\e.2<m/\Q [] .sh (iD (td es p (.inr e)))
def Ks:∀ds Q x,AB ds Q x->j8 (aZ [false,false] Q x) (ini [false,false] ds++List.replicate 0 none):=by rintro _ Q x⟨m,es,p,e,rfl,h1,h2,q⟩;unfold j8;simp![RI h1,RI h2];exact q
noncomputable def AM:bC:=λds Q x=>∃m es p t,ds=[kX m es p,bB t]/\TV m t/\Q [] .sh (iD (td es p t))
def Mf:∀ds Q x,AM ds Q x->lI AB (aZ [false,false] Q x) (ini [false,false] ds++List.replicate 0 none):=by
 rintro _ Q x⟨m,es,p,t,rfl,h,q⟩;unfold lI;cases t with
 |inl k=>have h:k<m:=h;simp![bB,RI h];exact q
 |inr e=>simp![bB];refine⟨m,es,p,e,rfl,h.1,h.2,?_⟩;rfl';exact q
noncomputable def aD (k:Str) (m:Nat)(es:Vx):List Th:=(if k="ties" then []else(List.range m).map Sum.inl)++(if k="places" then []else es.map Sum.inr)
def mQ{m:Nat}(g:Gr.Good m es):∀t∈aD k m es,TV m t:=by intro t ht;rcases RY.mp ht with h|h;{split at h;{cases h};obtain⟨x,hx,rfl⟩:=RG.mp h;exact Rg.mp hx};split at h;{cases h};obtain⟨e,he,rfl⟩:=RG.mp h;have:=g.lt e he;exact⟨by show e.1<m;lia,this.2⟩
noncomputable def AV:bC:=λds Q x=>∃m es k,ds=[wD m es,.str k]/\cI m es/\Q [] (.ow false) (.list ((aD k m es).map bB))
def MM:∀ds Q x,AV ds Q x->lH (aZ [false,false] Q x) (ini [false,false] ds++List.replicate 4 none):=by
 rintro _ Q x⟨m,es,k,rfl,W,q⟩;have e:(aD k m es).map bB=(if k="ties" then []else(List.range m).map iD)++(if k="places" then []else es.map dF):=by unfold aD;rw[RW];congr 1;{split;{rfl};rw[RU];rfl};split;{rfl};rw[RU];rfl
 have hm:=W.le;have hf:=W.few;unfold lH;rfl';rw[e]at q;by_cases c1:k="ties";{by_cases c2:k="places";{subst c1;exact absurd c2 (by decide)};simp only[if_pos c1,if_neg c2,dv,dw,dx,dy,dz,Nat.reduceBEq]at q⊢;exact⟨by lia,by lia,q⟩};by_cases c2:k="places";{simp only[if_neg c1,if_pos c2,dv,dw,dx,dy,dz,Nat.reduceBEq,Rz]at q⊢;exact⟨⟨by lia,by lia⟩,by lia,by lia,q⟩};simp only[if_neg c1,if_neg c2,dv,dw,dx,dy,dz,Nat.reduceBEq]at q⊢;exact⟨⟨by lia,by lia⟩,by lia,q⟩
def w4{ms:WN}{m:Nat}(pm:ms.Perm (List.range m)){a:Nat}(ha:a<m):ms[a]?=some (ms.getD a 0)/\ms.getD a 0<m:=by
 have h:a<ms.length:=by rw[pm.length_eq,RH];exact ha
 have e:ms.getD a 0=ms[a]:=by rw[RV,RS h];rfl
 rw[e];exact⟨RS h,Rg.mp (pm.mem_iff.mp (UY h))⟩
end PB
namespace Dv
open PySem L2
def dd:type_of%@put_kv2/\type_of%@kvP_len/\type_of%@in_ts/\type_of%@nin_ts/\type_of%@list_ts/\(∀{i:Int},kT (.int i)=true):=⟨@put_kv2,@kvP_len,@in_ts,@nin_ts,@list_ts,rfl⟩
def mV{α:Type}{l:List α}{enc:α->PyData}{tg:Tg}{b:DS}{D:gx}{E1:En}(I:Nat->En->Prop)(h0:I 0 E1)(hs:∀(J:En->Prop) i a E,l[i]?=some a->(∀E',I (i+1) E'->J E')->I i E->∃E2,b5 tg (enc a) E=some E2/\b { D with nx:=J } E2)(he:∀E,I l.length E->D.nx E):wN (l.map enc) tg b D E1:=sU I h0 (λi a E ha hi=>hs (I (i+1)) i a E ha (λ_ h=>h) hi) he
def gw{n:Nat}{enc:Nat->PyData}{tg:Tg}{b:DS}{D:gx}{E1:En}(I:Nat->En->Prop)(h0:I 0 E1)(hs:∀(J:En->Prop) i E,i<n->(∀E',I (i+1) E'->J E')->I i E->∃E2,b5 tg (enc i) E=some E2/\b { D with nx:=J } E2)(he:∀E,I n E->D.nx E):wN ((List.range n).map enc) tg b D E1:=Mx I h0 (λi E ha hi=>hs (I (i+1)) i E ha (λ_ h=>h) hi) he
def NT{n:Nat}{enc:Nat->PyData}{cs:WN}{tg:Tg}{c:DT}{r:DC}{E1:En}{Q:En->Kd->PyData->Prop}(E0:En)(I:Nat->WC->En->Prop)(h0:br cs E1=some E0)(h1:I 0 [] E0)(hs:∀(J:WC->En->Prop) i ys E,i<n->(∀ys' E',I (i+1) ys' E'->J ys' E')->I i ys E->∃E2,b5 tg (enc i) E=some E2/\c xF E2 λE3 b=>if b=true then r xF ys E3 J else J ys E3)(he:∀ys E,I n ys E->∃E2,br cs E=some E2/\Q E2 (.ow false) (.list ys)):sO cs ((List.range n).map enc) tg c r E1 Q:=J8 E0 I h0 h1 (λi ys E ha hi=>hs (I (i+1)) i ys E ha (λ_ _ h=>h) hi) he
def jT{a b:DS}{D:gx}{E:En}(J0:En->Prop)(h1:∀J:En->Prop,(∀E',J0 E'->J E')->a { D with nx:=J } E)(h2:∀B:En->Prop,(∀E',B E'=b D E')->∀E',J0 E'->B E'):q9 a b D E:=⟨J0,h1 J0 λ_ h=>h,λE' h=>h2 (b D) (λ_=>rfl) E' h⟩
def NQ{c:DT}{b:DS}{D:gx}{E:En}(W:Nat->En->Prop)(h0:∃m,W m E)(hs:∀(J:En->Prop) m E,(∀m' E',m'<m->W m' E'->J E')->W m E->c D.xc E λE1 t=>if t=true then b { D with nx:=J } E1 else D.nx E1):oW c b D E:=⟨W,h0,λm E h=>hs (λE'=>∃m',m'<m/\W m' E') m E (λm' E' l w=>⟨m',l,w⟩) h⟩
end Dv
namespace PB
open PySem L2 Dv Gr
noncomputable abbrev inD (l:WO):PyData:=.list (l.map .int)
def qR(c:Int){d:Int}(h:0<d):∃mk:Nat,c%d=mk/\(mk:Int)<d:=by have h1:=Int.emod_nonneg c (show d≠0 by lia);have h2:=Int.emod_lt_of_pos c h;exact⟨(c%d).toNat,by lia,by lia⟩
def OA{ns:WO}:dl 8 (.list (ns.map .int))=true:=by show((ns.map PyData.int).all (dl 7))=true;rw[RX];intro d h;obtain⟨c,_,rfl⟩:=RG.mp h;rfl
end PB
namespace PB
open PySem L2 Dv
theorem fH{α:Type}{f:α->PyData}{p:α->Bool}:∀{l:List α},(l.filterMap λt=>if p t=true then some (f t)else none)=(l.filter p).map f
 |[]=>rfl
 |a::l=>by
  rw[TZ,List.filter_cons];cases h:p a with
  |true=>simp only[if_true];rw[fH];rfl
  |false=>simp only[if_neg (RZ)];exact fH
end PB
namespace Gr
noncomputable def tX (m:Nat)(es:Vx):Prop:=∀x,x<m->∃d,R (c6 es) 0 d x
def R.mono{E F:Nat->Nat->Prop}(s:∀x y,E x y->F x y){p d x:Nat}(h:R E p d x):R F p d x:=by
 induction h with
 |zero=>exact .zero
 |step _ e ih=>exact ih.step (s _ _ e)
def tX.conn{m:Nat}(h:tX m es):f9 m es:=λp hp x hx=>by obtain⟨d,hd⟩:=h p hp;obtain⟨e,he⟩:=h x hx;exact⟨d+e,(hd.symm rD).trans he⟩
theorem tX.mono{m:Nat}(h:tX m es)(s:∀e,e∈es->e∈fs):tX m fs:=λx hx=>by obtain⟨d,hd⟩:=h x hx;exact⟨d,hd.mono λx y e=>e.imp (s _) (s _)⟩
def f9.PX{m:Nat}(h:f9 m es):tX m es:=λx hx=>h 0 (by lia) x hx
def Good.put{m:Nat}(g:Good m es){x y:Nat}(l:x<y)(hy:y<m)(n:(x,y)∉es):Good m (es++[(x,y)]):=by refine⟨λe he=>?_,Uy.mpr ⟨g.nd,S8.mpr ⟨S4,Su⟩,λe he f hf h=>?_⟩⟩;{rcases RY.mp he with he|he;{exact g.lt e he};cases RE.mp he;exact⟨l,hy⟩};cases RE.mp hf;exact n (h▸he)
end Gr
namespace PB
open PySem L2 Dv Gr
def bz(h:∀B:En->Prop,(∀E',B E'=b D E')->a { D with nx:=B } E):ao a b D E:=h (b D) λ_=>rfl
end PB
local macro_rules | `(tactic| bv_omega) => do let ls ← (List.range 216).toArray.mapM fun k => `(Lean.Parser.Tactic.simpLemma| $(Lean.mkIdent (.str `Dv s!"rr{k}")):ident); `(tactic| dsimp only[$ls,*, Dv.dyr0, Dv.dyr1, Dv.dyr2, Dv.dyr3, Nat.reduceBEq, Dv.iN, Dv.iZ])
namespace PB
open PySem L2 Dv Gr
noncomputable def BO:bC:=λdd Q x=>∃(ns:WO) (k:Nat),dd=[inD ns,iD k]/\k<=1000/\∀n:Nat,Q [] (.ow false) (nD [n])
def Kl:∀dd Q x,BO dd Q x->gE (aZ [false,false] Q x) (ini [false,false] dd++List.replicate 2 none):=by
 rintro _ Q x⟨ns,k,rfl,hk,q⟩;unfold gE;rfl';refine jT (λE=>∃c:Int,E=[some (.sh,inD ns),some (.sh,iD k),some (.sh,.int c),none]) (λJ hJ=>?_) λB hB=>?_
 .rfl';split;{rename_i h;exact aq (RS h) (hJ _ ⟨_,rfl⟩)};refine⟨by lia,⟨OA,rfl⟩,?_⟩;split
  .rename_i hne;have h1:0<ns.length:=by rcases ns with _|⟨a,t⟩;{exact absurd rfl hne};simp
   exact⟨h1,aq (RS (Ue _ h1)) ⟨by lia,.inl ⟨by lia,by lia⟩,hJ _ ⟨_,rfl⟩⟩⟩
  exact hJ _ ⟨_,rfl⟩
 rintro _⟨c,rfl⟩;rw[hB];rfl';clear hB;have p18:ya 10 18:=⟨by decide,by decide,by decide⟩;have p30:ya 10 30:=⟨by decide,by decide,by decide⟩;have eD:(10:Int)^Int.toNat 30+57=1000000000000000000000000000057:=by decide
 refine⟨p18,?_⟩;split;{rename_i hc;have hc0:(0:Int)<=c:=Sh (by decide) hc;obtain⟨n,rfl⟩:=Int.eq_ofNat_of_zero_le hc0;exact⟨by lia,q n⟩};rw[eD];obtain⟨a,ea,ha⟩:=qR c (d:=1000000000000000000000000000057) (by lia);rw[ea];obtain⟨b,eb,hb⟩:=qR (((a:Int)+7919*(k:Int)+101)^Int.toNat 2) (d:=1000000000000000000000000000057) (by lia);rw[eb];obtain⟨e,ee,he⟩:=qR (((b:Int)+977*(k:Int)+5)*618033988749894848204586834365) (d:=1000000000000000000000000000057) (by lia);rw[ee];exact⟨p30,by lia,.inl ⟨by lia,by lia⟩,⟨by lia,by lia,by lia⟩,p30,by lia,.inl ⟨by lia,by lia⟩,⟨by lia,by decide⟩,p30,by lia,by lia,q e⟩
noncomputable def qC:bC:=λdd Q x=>∃(n m:Nat),dd=[nD [n],iD m]/\0<m/\m<2^200/\∀(r n':Nat),r<m->Q [nD [n']] .sh (iD r)
def Nz:∀dd Q x,qC dd Q x->iy (aZ [true,false] Q x) (ini [true,false] dd++List.replicate 1 none):=by rintro _ Q x⟨n,m,rfl,hm,h2,q⟩;unfold iy;rfl';exact⟨hm,⟨by lia,by lia⟩,q (n%m) (n/m) (Ue _ hm)⟩
noncomputable def GX:bC:=λdd Q x=>∃(n m:Nat),dd=[nD [n],iD m]/\m<=1000/\∀(ms:WN) n',ms.Perm (List.range m)->Q [nD [n']] (.ow false) (nD ms)
def Nt:∀dd Q x,GX dd Q x->gF qC (aZ [true,false] Q x) (ini [true,false] dd++List.replicate 2 none):=by rintro _ Q x⟨n,m,rfl,h2,q⟩;unfold gF;rfl';refine⟨by lia,?_⟩;rw[if_pos ⟨by lia,by lia⟩];refine aq rfl ?_;refine gw (λi E=>zC λ(n:Nat)(ms:WN)(o:Option (Kd×PyData))=>Ar (E=[some (.ow true,nD [n]),some (.sh,iD m),some (.ow false,nD ms),o]) (aV o=true) (ms.Perm (List.range i))) ⟨n,[],none,rfl,rfl,List.Perm.refl _⟩ ?_ ?_;{rintro J i _ hi hJ⟨n,ms,o,rfl,ho,hp⟩;simp![ho];refine⟨n,i+1,rfl,by lia,by lia,λr n' hr=>?_⟩;rfl';have hl:=hp.length_eq;rw[RH]at hl;refine⟨r,rfl,by rw[RA];lia,by rw[RA];show _<16777216;lia,hJ _ ⟨n',ms.take r++i::ms.drop r,some (.sh,iD i),?_,rfl,?_⟩⟩;{rw[<-UB,<-List.map_drop,<-Rh,<-RW]};rw[SN];refine(List.perm_middle).trans ?_;rw[U7];exact(List.Perm.cons i hp).trans (List.perm_append_singleton i _).symm};rintro _⟨n,ms,o,rfl,ho,hp⟩;simp![ho];exact q ms n hp
end PB
local macro_rules | `(tactic| bv_omega) => do let ls ← (List.range 216).toArray.mapM fun k => `(Lean.Parser.Tactic.simpLemma| $(Lean.mkIdent (.str `Dv s!"rr{k}")):ident); `(tactic| dsimp only[$ls,*, Dv.dyr0, Dv.dyr1, Dv.dyr2, Dv.dyr3, Nat.reduceBEq, Dv.iN, Dv.iZ, Dv.jR, Dv.jN])
namespace PB
open PySem L2 Dv Gr
structure PI(N m k:Nat)(ps:Vx):Prop where
 ne:∀e∈ps,e.1≠e.2/\e.1<m/\e.2<m
 tr:∀j,0<j->j<k->∃p,p<j/\(p,j)∈ps
 few:ps.length<=N
def PI.app{N M m k:Nat}(h:PI N m k ps)(hq:∀e∈qs,e.1≠e.2/\e.1<m/\e.2<m)(l:qs.length<=M):PI (N+M) m k (ps++qs):=
 ⟨λe he=>(RY.mp he).elim (h.ne e) (hq e),λj h0 hj=>by obtain⟨p,hp,hm⟩:=h.tr j h0 hj;exact⟨p,hp,RY.mpr (.inl hm)⟩,by have:=h.few;rw[RM];lia⟩
def PI.step{N m k p:Nat}{ps:Vx}(h:PI N m k ps)(hp:p<k)(hk:k<m):PI (N+1) m (k+1) (ps++[(p,k)]):=
 ⟨λe he=>(RY.mp he).elim (h.ne e) λz=>by rw[RE.mp z];exact⟨by show p≠k;lia,by show p<m;lia,hk⟩,
   λj h0 hj=>by
  by_cases c:j=k
  .subst c;exact⟨p,hp,RY.mpr (.inr (RE.mpr rfl))⟩
  .obtain⟨p,hp,hm⟩:=h.tr j h0 (by lia);exact⟨p,hp,RY.mpr (.inl hm)⟩,by have:=h.few;rw[RM];simp;lia⟩
def PI.mono{N M m k:Nat}(h:PI N m k ps)(l:N<=M):PI M m k ps:=⟨h.ne,h.tr,Ri h.few l⟩
noncomputable def Cf:bC:=λdd Q x=>∃(n m w:Nat),dd=[nD [n],iD m,iD w]/\1<=m/\m<=30/\w<=9/\∀(ps:Vx) n',PI 910 m m ps->Q [nD [n']] (.ow false) (.list (ps.map dF))
def LL:∀dd Q x,Cf dd Q x->gB qC (aZ [true,false,false] Q x) (ini [true,false,false] dd++List.replicate 6 none):=by
 rintro _ Q x⟨n,m,w,rfl,h1,h2,hw,q⟩;have em:((m:Int)-1).toNat=m-1:=by lia
 unfold gB;refine bz λB hB=>?_;rfl';refine⟨by lia,?_⟩;show B _;rw[hB];clear hB B;refine bz λB hB=>?_;rfl';rw[em,if_pos ⟨by lia,by lia,by lia,by lia⟩];refine aq rfl ?_;refine gw (λk E=>Dd λ(n:Nat)(ps:Vx)(o4 o5:Option (Kd×PyData))=>vP (E=[some (.ow true,nD [n]),some (.sh,iD m),some (.sh,iD w),some (.ow false,.list (ps.map dF)),o4,o5,none,none,none]) (aV o4=true) (aV o5=true) (PI (31*k) m (k+1) ps)) ⟨n,[],none,none,rfl,rfl,rfl,⟨(λ_ z=>nomatch z),λj h0 hj=>by lia,by simp⟩⟩ ?_ ?_
 .rintro J k _ hk hJ⟨n,ps,o4,o5,rfl,h4,h5,pi⟩;simp![h4,h5];refine⟨n,k+1,rfl,by lia,by lia,λr n hr=>?_⟩;simp![h4,h5,Dl];obtain⟨p,hp,e⟩:∃p:Nat,p<=k/\cY [.int (((k+1:Nat):Int)-1),.int (((k+1:Nat):Int)-1),.int 0,iD r] (if(3:Int)<(w:Int)then 3 else(w:Int))=some (iD p):=by rw[show((k+1:Nat):Int)-1=(k:Int)by lia];rcases w with _|_|_|w;{exact⟨k,by lia,rfl⟩};{exact⟨k,by lia,rfl⟩};{exact⟨0,by lia,rfl⟩};refine⟨r,by lia,?_⟩;rw[show(if(3:Int)<((w+1+1+1:Nat):Int)then 3 else((w+1+1+1:Nat):Int))=3 by split<;>lia];rfl
  have pf:=pi.few;have pj:=pi.step (p:=p) (by lia) (show k+1<m by lia);refine⟨by lia,aq e ⟨by lia,by lia,?_⟩⟩;rw[show List.map dF ps++[PyData.tuple [iD p,iD (k+1)]]=(ps++[(p,k+1)]).map dF by rw[RW];rfl];split;{rw[if_pos ⟨by lia,by lia⟩];refine aq rfl (eW (λi=>dF (i,k+1)) rfl (λi hi I hI=>?_) ?_ (by rw[RH];lia));{rfl';exact⟨by lia,hI _ rfl⟩};rfl';have pf2:=pj.few;refine⟨by lia,hJ _ ⟨n,(ps++[(p,k+1)])++(List.range (k+1)).map λi=>(i,k+1),some (.sh,iD (k+1)),some (.sh,iD r),?_,rfl,rfl,(pj.app (M:=k+1) (λe he=>?_) (by rw[RA,RH];exact RB _)).mono (by lia)⟩⟩;{rw[RW (l₁:=ps++[(p,k+1)]),RU];rfl};obtain⟨i,hi,rfl⟩:=RG.mp he;have:=Rg.mp hi;exact⟨by show i≠k+1;lia,by show i<m;lia,by show k+1<m;lia⟩};exact hJ _ ⟨n,_,some (.sh,iD (k+1)),some (.sh,iD r),rfl,rfl,rfl,pj.mono (by lia)⟩
 rintro _⟨n,ps,o4,o5,rfl,h4,h5,pi⟩;show B _;rw[hB];clear hB B;rw[show m-1+1=m by lia]at pi;refine jT (λE=>∃(ps:Vx),E=[some (.ow true,nD [n]),some (.sh,iD m),some (.sh,iD w),some (.ow false,.list (ps.map dF)),o4,o5,none,none,none]/\PI 900 m m ps) (λJ hJ=>?_) λB hB=>?_;{have skip:=hJ _ ⟨ps,rfl,pi.mono (by lia)⟩;rfl';split;{split;{have pf:=pi.few;rw[show(m:Int)-1=((m-1:Nat):Int)by lia];refine⟨by lia,by lia,hJ _ ⟨ps++[(0,m-1)],by rw[RW];rfl,(pi.app (M:=1) (λe he=>?_) (RB _)).mono (by lia)⟩⟩;rw[RE.mp he];exact⟨by show 0≠m-1;lia,by show 0<m;lia,by show m-1<m;lia⟩};exact skip};exact skip};clear pi ps;rintro _⟨ps,rfl,pi⟩;rw[hB];clear hB B;refine jT (λE=>vd λ(n:Nat)(ps:Vx)(o4 o6 o7:Option (Kd×PyData))=>O3 (E=[some (.ow true,nD [n]),some (.sh,iD m),some (.sh,iD w),some (.ow false,.list (ps.map dF)),o4,o5,o6,o7,none]) (PI 910 m m ps)) (λJ hJ=>?_) λB hB=>?_;{have skip:=hJ _ ⟨n,ps,o4,none,none,rfl,pi.mono (by lia)⟩;rfl';split;{refine⟨n,7,rfl,by lia,by lia,λr n hr=>?_⟩;rfl';rw[if_pos ⟨by lia,by lia⟩];refine aq rfl ?_;refine gw (λk E=>vd λ(n:Nat)(ps:Vx)(o4 o6 o7:Option (Kd×PyData))=>HH (E=[some (.ow true,nD [n]),some (.sh,iD m),some (.sh,iD w),some (.ow false,.list (ps.map dF)),o4,o5,o6,o7,none]) (aV o4=true) (aV o6=true) (aV o7=true) (PI (900+k) m m ps)) ⟨n,ps,o4,none,none,rfl,h4,rfl,rfl,pi⟩ ?_ ?_;{clear pi ps skip h4 o4;rintro J2 k _ hk hJ2⟨n,ps,o4,o6,o7,rfl,h4,h6,h7,pi⟩;simp![h4,h6,h7];refine⟨n,m,rfl,by lia,by lia,λr1 n hr1=>?_⟩;simp![h4,h6,h7];refine⟨n,m,rfl,by lia,by lia,λr2 n hr2=>?_⟩;simp![h4,h6,h7];have pf:=pi.few;by_cases c:r1=r2;{rw[if_neg (λz=>z c)];refine⟨by lia,by lia,⟨by decide,by decide,by decide⟩,by show ps.length+0<=_;lia,hJ2 _ ⟨n,ps,some (.sh,iD k),some (.sh,iD r1),some (.sh,iD r2),?_,rfl,rfl,rfl,pi.mono (by lia)⟩⟩;show [_,_,_,some (_,PyData.list (List.map dF ps++[])),_,_,_,_,_]=_;rw[Rz]};rw[if_pos c];refine⟨by lia,by lia,⟨by decide,by decide,by decide⟩,by show ps.length+1<=_;lia,hJ2 _ ⟨n,ps++[(r1,r2)],some (.sh,iD k),some (.sh,iD r1),some (.sh,iD r2),by rw[RW];rfl,rfl,rfl,rfl,pi.app (M:=1) (λe he=>?_) (RB _)⟩⟩;rw[RE.mp he];exact⟨c,hr1,hr2⟩};rintro _⟨n,ps,o4,o6,o7,rfl,h4,h6,h7,pi⟩;exact hJ _ ⟨n,ps,o4,o6,o7,rfl,pi.mono (by lia)⟩};exact skip};rintro _⟨n,ps,o4,o6,o7,rfl,pi⟩;rw[hB];clear hB B;rfl';exact q ps n pi
def JZ{a b:Nat}:pO [.tuple [iD a,iD b]] P=P .sh (iD (min a b)):=by show P .sh (.int (if(b:Int)<(a:Int)then(b:Int)else(a:Int)))=_;rw[show(if(b:Int)<(a:Int)then(b:Int)else(a:Int))=((min a b:Nat):Int)by split<;>lia]
def JL{a b:Nat}:pU [.tuple [iD a,iD b]] P=P .sh (iD (max a b)):=by show P .sh (.int (if(b:Int)>(a:Int)then(b:Int)else(a:Int)))=_;rw[show(if(b:Int)>(a:Int)then(b:Int)else(a:Int))=((max a b:Nat):Int)by split<;>lia]
def zg{fs:Vx}:dF e∈fs.map dF↔e∈fs:=by constructor;{intro h;obtain⟨f,hf,ef⟩:=RG.mp h;rw[<-zw.mp ef];exact hf};exact λh=>RG.mpr ⟨e,h,rfl⟩
noncomputable def Cg:bC:=λdd Q x=>∃(n a b:Nat),dd=[nD [n],iD a,iD b]/\1<=a/\a<=b/\b<=30/\∀m es n',a<=m->m<=b->cI m es->Q [nD [n']] .sh (wD m es)
def KG:∀dd Q x,Cg dd Q x->iz qC Cf GX (aZ [true,false,false] Q x) (ini [true,false,false] dd++List.replicate 8 none):=by
 rintro _ Q x⟨n,a,b,rfl,h1,h2,h3,q⟩;unfold iz;refine bz λB hB=>?_;rfl';refine⟨n,b+1-a,by rw[show((b:Int)+1-(a:Int))=((b+1-a:Nat):Int)by lia],by lia,by lia,λr n hr=>?_⟩;rfl';rw[show(a:Int)+(r:Int)=((a+r:Nat):Int)by lia];obtain⟨m,em⟩:∃m,m=a+r:=⟨_,rfl⟩;rw[<-em];have hm1:a<=m:=by lia
 have hm2:m<=b:=by lia
 clear em hr r;show B _;rw[hB];clear hB B;refine bz λB hB=>?_;rfl';refine⟨by lia,?_⟩;rw[hB];clear hB B;refine bz λB hB=>?_;rfl';refine⟨n,9,rfl,by lia,by lia,λw n hw=>?_⟩;rfl';refine⟨n,m,w,rfl,by lia,by lia,by lia,λps n pi=>?_⟩;rfl';rw[hB];clear hB B;refine bz λB hB=>?_;rfl';refine⟨n,m,rfl,by lia,λms n pm=>?_⟩;rfl';rw[hB];clear hB B;refine bz λB hB=>?_;rfl';refine mV (λi E=>vd λ(fs:Vx)(o7 o8 o9 o10:Option (Kd×PyData))=>Ii (E=[some (.ow true,nD [n]),some (.sh,iD a),some (.sh,iD b),some (.sh,iD m),some (.ow false,.list (fs.map dF)),some (.sh,.list (ps.map dF)),some (.ow false,nD ms),o7,o8,o9,o10]) (aV o7=true) (aV o8=true) (aV o9=true) (aV o10=true) (Good m fs) (fs.length<=i) (∀e∈ps.take i,Gr.uR ms e∈fs)) ⟨[],none,none,none,none,rfl,rfl,rfl,rfl,rfl,⟨(λ_ z=>nomatch z),Su⟩,RB _,λe he=>by simp at he⟩ ?_ ?_
 .rintro J i e _ hi hJ⟨fs,o7,o8,o9,o10,rfl,h7,h8,h9,h10,gd,fl,im⟩;have hl:=pi.ne e (Rj hi);have g1:=w4 pm hl.2.1;have g2:=w4 pm hl.2.2;have ts:ps.take (i+1)=ps.take i++[e]:=by rw[TN,hi];rfl
  simp![h7,h8,h9,h10,g1.1,g2.1];rw[JZ,JL];have ne:ms.getD e.1 0≠ms.getD e.2 0:=λz=>hl.1 (Gr.getD_inj (pm.nodup_iff.mpr TX) (by rw[pm.length_eq,RH];exact hl.2.1) (by rw[pm.length_eq,RH];exact hl.2.2) z);have ad:(fs.all λa=>dl 8 (dF a))=true:=RX.mpr λ_ _=>rfl;refine⟨by lia,rfl,rfl,by lia,⟨ad,rfl⟩,?_⟩;rw[show PyData.tuple [iD (min (ms.getD e.1 0) (ms.getD e.2 0)),iD (max (ms.getD e.1 0) (ms.getD e.2 0))]=dF (Gr.uR ms e)from rfl];have lti:=bS hi;have pf:=pi.few;split;{rename_i hn;replace hn:Gr.uR ms e∉fs:=λz=>hn (zg.mpr z);refine⟨by lia,hJ _ ⟨fs++[Gr.uR ms e],_,_,_,_,by rw[RW];rfl,rfl,rfl,rfl,rfl,gd.put (x:=min (ms.getD e.1 0) (ms.getD e.2 0)) (y:=max (ms.getD e.1 0) (ms.getD e.2 0)) (by lia) (by lia) hn,by rw[RM];simp;lia,?_⟩⟩;rw[ts];intro f hf;rcases RY.mp hf with hf|hf;{exact RY.mpr (.inl (im f hf))};rw[RE.mp hf];exact RY.mpr (.inr (RE.mpr rfl))};rename_i hn;refine hJ _ ⟨fs,_,_,_,_,rfl,rfl,rfl,rfl,rfl,gd,by lia,?_⟩;rw[ts];intro f hf;rcases RY.mp hf with hf|hf;{exact im f hf};rw[RE.mp hf];exact zg.mp (Decidable.not_not.mp hn)
 rintro _⟨fs,o7,o8,o9,o10,rfl,h7,h8,h9,h10,gd,fl,im⟩;show B _;rw[hB];clear hB B;rw[SK]at im;have pf:=pi.few;rfl';refine JX (by lia) λqs pq=>?_;rfl';have cn:f9 m fs:=by have c0:=Gr.A9 pm (Gr.IZ pi.tr);refine(c0.PX.mono λe he=>?_).conn;obtain⟨e0,h0,rfl⟩:=RG.mp he;exact im e0 h0
 exact⟨by lia,q m qs n hm1 hm2 ⟨by lia,by lia,Gr.Good.perm pq gd,Gr.Em pq cn⟩⟩
end PB
namespace Dv
open PySem L2
def L3{most i:Nat}:vX most i e D (o::E)=(i6 (o::E) i=true/\e D.xc (o::E) λE1 k v=>k.fz=true/\G4 most E1 i v D.nx):=by unfold vX;congr 1;congr 1;funext E1 k v;congr 1;unfold G4;refine propext ⟨λ⟨p,ds,es,e1,e2,h,q⟩=>by subst e2;rw[e1];exact⟨h,q⟩,λh=>?_⟩;split at h;{rename_i p ds es e1;exact⟨p,ds,es,e1,rfl,h.1,h.2⟩};exact h.elim
def NJ{most i:Nat}{p:Bool}(h:E[i]?=some (some (.ow p,.list ds)))(hl:ds.length+es.length<=most)(q:Q (E.set i (some (.ow p,.list (ds++es))))):G4 most E i (.list es) Q:=by unfold G4;rw[h];exact⟨hl,q⟩
end Dv
namespace PB
open PySem L2 Dv Gr
end PB
local macro_rules | `(tactic| bv_omega) => do let ls ← (List.range 216).toArray.mapM fun k => `(Lean.Parser.Tactic.simpLemma| $(Lean.mkIdent (.str `Dv s!"rr{k}")):ident); `(tactic| dsimp only[$ls,*, Dv.dyr0, Dv.dyr1, Dv.dyr2, Dv.dyr3, Nat.reduceBEq])
namespace PB
open PySem L2 Dv Gr
section
variable{m:Nat}{es:Vx}{ls:WN}
def qT{k:Str}(gd:Good m es):(aD k m es).Nodup:=by unfold aD;refine Uy.mpr ⟨?_,?_,λa ha b hb e=>?_⟩;{split;{exact Su};exact List.Pairwise.map _ (λa b h e=>h (by cases e;rfl)) TX};{split;{exact Su};exact List.Pairwise.map _ (λa b h e=>h (by cases e;rfl)) gd.nd};subst e;split at ha;{cases ha};obtain⟨x,_,rfl⟩:=RG.mp ha;split at hb;{cases hb};obtain⟨y,_,e⟩:=RG.mp hb;cases e
end
noncomputable def BN:bC:=λdd Q x=>∃m es,dd=[wD m es]/\cI m es/\Q [] (.ow false) (.list ((List.range m).map λp=>kX m es p))
def LM:∀dd Q x,BN dd Q x->mZ Ba (aZ [false] Q x) (ini [false] dd++List.replicate 1 none):=by
 rintro _ Q x⟨m,es,rfl,W,q⟩;have hm:=W.le;unfold mZ;rfl';rw[if_pos (by lia)];refine aq rfl (eW (λp=>kX m es p) rfl (λp hp I hI=>?_) ?_ (by rw[RH];lia))
 .have hp:=Rg.mp hp;rfl';refine⟨m,es,p,rfl,W,λk e hk=>?_,λz=>absurd ⟨by lia,by lia⟩ z⟩;have e:p=k:=by lia
  subst e;rfl';exact hI _ rfl
 rfl';exact q
noncomputable def c8 (m:Nat)(es:Vx)(t u:Th):WN:=(List.range m).filter λp=>decide (td es p t≠td es p u)
noncomputable def A8:bC:=λdd Q x=>∃m es t u,dd=[.list ((List.range m).map λp=>kX m es p),bB t,bB u]/\m<=60/\TV m t/\TV m u/\Q [] (.ow false) (nD (c8 m es t u))
def Nh:∀dd Q x,A8 dd Q x->kM AM (aZ [false,false,false] Q x) (ini [false,false,false] dd++List.replicate 2 none):=by
 rintro _ Q x⟨m,es,t,u,rfl,hm,ht,hu,q⟩;unfold kM;rfl';have ez:(List.range m).zipIdx=(List.range m).map λp=>(p,p):=by refine Rw λi=>?_;rw[Uv,RO];rcases SA i m with h|h;{rw[RI h];simp};rw[Rb (by rw[RH];exact h)];rfl
 rw[ez,RU];refine l7 (λp=>if decide (td es p t≠td es p u)=true then some (iD p)else none) rfl (λp hp I hI=>?_) ?_ (by rw[RH];lia);{simp![Function.comp];refine⟨m,es,p,t,rfl,ht,?_⟩;rfl';refine⟨m,es,p,u,rfl,hu,?_⟩;simp only[dv,dw,dx,dy,dz,Nat.reduceBEq]at hI⊢;split;{rename_i c;rw[if_pos c]at hI;exact hI _ rfl};rename_i c;rw[if_neg c]at hI;exact hI _ rfl};rw[fH];rfl';exact q
noncomputable abbrev CD (m:Nat)(es:Vx):PyData:=.list ((List.range m).map λp=>kX m es p)
noncomputable def Gx (k:Str):Prop:=k="places"\/k="ties"\/k="all"
end PB
local macro_rules | `(tactic| bv_omega) => do let ls ← (List.range 216).toArray.mapM fun k => `(Lean.Parser.Tactic.simpLemma| $(Lean.mkIdent (.str `Dv s!"rr{k}")):ident); `(tactic| dsimp only[$ls,*, Dv.dyr0, Dv.dyr1, Dv.dyr2, Dv.dyr3, Nat.reduceBEq, Dv.iN, Dv.iZ, Dv.jR, Dv.jN])
namespace PB
open PySem L2 Dv Gr
noncomputable def j6:Option Nat->PyData
 |none=>.int (-1)
 |some d=>iD d
def Hw:j6 none=.int (-1):=rfl
def HV{d:Nat}:j6 (some d)=iD d:=rfl
noncomputable abbrev Co (m:Nat)(f:Nat->Option Nat):PyData:=.list ((List.range m).map λx=>j6 (f x))
structure TR(es:Vx) (p r:Nat)(f:Nat->Option Nat):Prop where
 sound:∀x d,f x=some d->gO (c6 es) p x d/\d<=r
 upto:∀x d,d<=r->R (c6 es) p d x->f x≠none
structure TS(es:Vx) (r i:Nat)(f g:Nat->Option Nat):Prop where
 ext:∀x d,f x=some d->g x=some d
 new:∀x d,g x=some d->f x=some d\/(f x=none/\d=r+1/\∃h,f h=some r/\c6 es h x)
 D4:∀e∈es.take i,(f e.1=some r->g e.2≠none)/\(f e.2=some r->g e.1≠none)
def TR.start{p:Nat}:TR es p 0 (λx=>if x=p then some 0 else none):=by
 refine⟨λx d h=>?_,λx d hd h=>?_⟩;{by_cases c:x=p;{simp only[if_pos c,Option.some.injEq]at h;subst h c;exact⟨⟨.zero,λe he=>absurd he (TY e)⟩,RB _⟩};simp only[if_neg c]at h;cases h};obtain rfl:d=0:=by lia
 cases h;simp
def TS.start{r:Nat}{f:Nat->Option Nat}:TS es r 0 f f:=⟨λ_ _ h=>h,λ_ _ h=>.inl h,λe he=>by simp at he⟩
def TS.fin{p r:Nat}{f g:Nat->Option Nat}(t:TR es p r f)(h:TS es r es.length f g):TR es p (r+1) g:=by
 refine⟨λx d hx=>?_,λx d hd hr=>?_⟩;{rcases h.new x d hx with h1|⟨h1,rfl,k,h2,h3⟩;{have:=t.sound x d h1;exact⟨this.1,by lia⟩};exact⟨⟨(t.sound k r h2).1.1.step h3,λe he hr=>t.upto x e (by lia) hr h1⟩,RB _⟩};have old:∀e,e<=r->R (c6 es) p e x->g x≠none:=λe he hr z=>by obtain⟨d,hf⟩:=Ve.mp (t.upto x e he hr);rw[h.ext x d hf]at z;cases z
 cases hr with
 |zero=>exact old 0 (S3 _) .zero
 |@step d y _ hy e=>obtain⟨k,hk⟩:=Ve.mp (t.upto y d (by lia) hy);obtain⟨dk,lk⟩:=t.sound y k hk;by_cases c:k=r;{subst c;rcases e with e|e;{exact(h.D4 _ (by rw[SK];exact e)).1 hk};exact(h.D4 _ (by rw[SK];exact e)).2 hk};exact old (k+1) (by lia) (dk.1.step e)
noncomputable def gI (g:Nat->Option Nat) (b v:Nat):Nat->Option Nat:=λx=>if x=b then some v else g x
def TS.one{r i a b:Nat}{f g:Nat->Option Nat}(h:TS es r i f g)(e:c6 es a b)(c:g a=some r)(n:g b=none):TS es r i f (gI g b (r+1)):=by
 have fa:f a=some r:=by rcases h.new a r c with h1|⟨_,h2,_⟩;{exact h1};lia
 have fb:f b=none:=by
  cases hb:f b with
  |none=>rfl
  |some d=>rw[h.ext b d hb]at n;cases n
 have mono:∀x,g x≠none->gI g b (r+1) x≠none:=λx hx=>by unfold gI;split;{exact λz=>nomatch z};exact hx
 refine⟨λx d hx=>?_,λx d hx=>?_,λe he=>⟨λz=>mono _ ((h.D4 e he).1 z),λz=>mono _ ((h.D4 e he).2 z)⟩⟩;{unfold gI;rw[if_neg (λz=>by rw[z,fb]at hx;cases hx)];exact h.ext x d hx};unfold gI at hx;split at hx;{rename_i hb;cases hx;subst hb;exact .inr ⟨fb,rfl,a,fa,e⟩};exact h.new x d hx
def Ji{g:Nat->Option Nat}{b v x:Nat}(h:g x≠none):gI g b v x≠none:=by unfold gI;split;{exact λz=>nomatch z};exact h
def TS.next{r i:Nat}{f g:Nat->Option Nat}(h:TS es r i f g)(he:es[i]?=some e)(h1:f e.1=some r->g e.2≠none)(h2:f e.2=some r->g e.1≠none):TS es r (i+1) f g:=by
 refine⟨h.ext,h.new,λk hk=>?_⟩;rw[TN,he]at hk;rcases RY.mp hk with hk|hk;{exact h.D4 k hk};have e1:k=e:=by simpa using hk
 rw[e1];exact⟨h1,h2⟩
def rw_set{m b:Nat}{g:Nat->Option Nat}{v:Nat}(hb:b<m):((List.range m).map λx=>j6 (g x)).set b (iD v)=(List.range m).map λx=>j6 (gI g b v x):=by apply Rw;intro i;rw[SV,RA,RH,RO,RO];by_cases hi:i<m;{rw[RI hi];by_cases c:b=i;{subst c;rw[if_pos rfl,if_pos hb];unfold gI;simp[j6]};rw[if_neg c];unfold gI;simp[Ne.symm c]};rw[Rb (by rw[RH];lia),if_neg (by lia)];rfl
def Jl{m:Nat}:(List.replicate m [PyData.int (-1)]).flatten=(List.range m).map λx=>j6 ((λ_=>none:Nat->Option Nat) x):=by
 have e:∀m:Nat,(List.replicate m [PyData.int (-1)]).flatten=List.replicate m (PyData.int (-1)):=λm=>by
  induction m with
  |zero=>rfl
  |succ m ih=>rw[Ss,Tf,ih,Ss];rfl
 rw[e];show _=(List.range m).map λ_=>PyData.int (-1);rw[List.map_const',RH]
noncomputable def Bb:bC:=λdd Q x=>∃m es,dd=[wD m es]/\cI m es/\Q [] (.ow false) (CD m es)
def MA:∀dd Q x,Bb dd Q x->gJ (aZ [false] Q x) (ini [false] dd++List.replicate 6 none):=by
 rintro _ Q x⟨m,es,rfl,W,q⟩;have h1:=W.pos;have h2:=W.le;unfold gJ;refine bz λB hB=>?_;rfl';refine⟨by lia,?_⟩;rw[hB];clear hB B;refine bz λB hB=>?_;rfl';rw[if_pos ⟨by lia,by lia⟩];refine aq rfl ?_;refine gw (λi E=>vd λ(o2 o3 o4 o5 o6:Option (Kd×PyData))=>LN (E=[some (.sh,wD m es),some (.ow false,.list ((List.range i).map λp=>kX m es p)),o2,o3,o4,o5,o6]) (aV o2=true) (aV o3=true) (aV o4=true) (aV o5=true) (aV o6=true)) ⟨none,none,none,none,none,rfl,rfl,rfl,rfl,rfl,rfl⟩ ?_ ?_
 .rintro J p _ hp hJ⟨o2,o3,o4,o5,o6,rfl,z2,z3,z4,z5,z6⟩;simp![z2,z3,z4,z5,z6];rw[Jl,RA,RH];refine⟨by lia,⟨by lia,by lia,by lia⟩,gR hp ?_⟩;rw[show((List.range m).map λx=>j6 ((λ_=>none:Nat->Option Nat) x)).set p (PyData.int 0)=(List.range m).map λx=>j6 (gI (λ_=>none) p 0 x)from rw_set hp,if_pos ⟨by lia,by lia⟩];refine aq rfl ?_;clear z2 z3 o2 o3;refine gw (λr E=>Dd λ(f:Nat->Option Nat)(o4 o5 o6:Option (Kd×PyData))=>HH (E=[some (.sh,wD m es),some (.ow false,.list ((List.range p).map λp=>kX m es p)),some (.sh,iD p),some (.ow false,Co m f),o4,o5,o6]) (aV o4=true) (aV o5=true) (aV o6=true) (TR es p r f)) ⟨_,o4,o5,o6,rfl,z4,z5,z6,TR.start⟩ ?_ ?_
  .clear z4 z5 z6 o4 o5 o6;rintro J2 r _ hr hJ2⟨f,o4,o5,o6,rfl,z4,z5,z6,tr⟩;simp![z4];refine mV (λi E=>zC λ(g:Nat->Option Nat)(o5 o6:Option (Kd×PyData))=>vP (E=[some (.sh,wD m es),some (.ow false,.list ((List.range p).map λp=>kX m es p)),some (.sh,iD p),some (.ow false,Co m g),some (.sh,iD r),o5,o6]) (aV o5=true) (aV o6=true) (TS es r i f g)) ⟨f,o5,o6,rfl,z5,z6,TS.start⟩ ?_ ?_
   .clear z5 z6 o5 o6;rintro J3 i e _ hi hJ3⟨g,o5,o6,rfl,z5,z6,ts⟩;have he:=W.gd.lt e (Rj hi);have hem:=Rj hi;have ge:∀y,y<m->((List.range m).map λx=>j6 (g x))[y]?=some (j6 (g y)):=λy hy=>by rw[RO,RI hy];rfl
    simp![z5,z6];refine jT (λE=>∃(g':Nat->Option Nat),E=[some (.sh,wD m es),some (.ow false,.list ((List.range p).map λp=>kX m es p)),some (.sh,iD p),some (.ow false,Co m g'),some (.sh,iD r),some (.sh,iD e.1),some (.sh,iD e.2)]/\TS es r i f g'/\(f e.1=some r->g' e.2≠none)) (λJ4 hJ4=>?_) λB hB=>?_
    .skip
     rfl';refine aq (RI (by lia)) ?_;rcases ea:g e.1 with _|da;{rw[Hw];rfl';rw[if_neg (by lia)];exact hJ4 _ ⟨g,rfl,ts,λz=>by rw[ts.ext _ _ z]at ea;cases ea⟩};rw[HV];rfl';split;{rename_i hd;subst hd;refine aq (RI (by lia)) ?_;rcases eb:g e.2 with _|db;{rw[Hw];rfl';rw[if_pos (by lia)];refine gR (by lia) ?_;rw[show((List.range m).map λx=>j6 (g x)).set e.2 (PyData.int ((da:Int)+1))=(List.range m).map λx=>j6 (gI g e.2 (da+1) x)from rw_set (by lia)];exact hJ4 _ ⟨_,rfl,ts.one (.inl hem) ea eb,λ_=>by unfold gI;rw[if_pos rfl];exact λz=>nomatch z⟩};rw[HV];rfl';rw[if_neg (by lia)];exact hJ4 _ ⟨g,rfl,ts,λz y=>by rw[eb]at y;cases y⟩};rename_i hd;exact hJ4 _ ⟨g,rfl,ts,λz=>by rw[ts.ext _ _ z]at ea;cases ea;exact absurd rfl hd⟩
    clear ts ge g;rintro _⟨g,rfl,ts,n1⟩;rw[hB];clear hB;rfl';refine aq (RI (by lia)) ?_;rcases ea:g e.2 with _|da;{rw[Hw];rfl';rw[if_neg (by lia)];exact hJ3 _ ⟨g,(some (.sh,iD e.1)),(some (.sh,iD e.2)),rfl,rfl,rfl,ts.next hi n1 λz=>by rw[ts.ext _ _ z]at ea;cases ea⟩};rw[HV];rfl';split;{rename_i hd;subst hd;refine aq (RI (by lia)) ?_;rcases eb:g e.1 with _|db;{rw[Hw];rfl';rw[if_pos (by lia)];refine gR (by lia) ?_;rw[show((List.range m).map λx=>j6 (g x)).set e.1 (PyData.int ((da:Int)+1))=(List.range m).map λx=>j6 (gI g e.1 (da+1) x)from rw_set (by lia)];exact hJ3 _ ⟨_,(some (.sh,iD e.1)),(some (.sh,iD e.2)),rfl,rfl,rfl,(ts.one (.inr hem) ea eb).next hi (λz=>Ji (n1 z)) λ_=>by unfold gI;rw[if_pos rfl];exact λz=>nomatch z⟩};rw[HV];rfl';rw[if_neg (by lia)];exact hJ3 _ ⟨g,(some (.sh,iD e.1)),(some (.sh,iD e.2)),rfl,rfl,rfl,ts.next hi n1 λz y=>by rw[eb]at y;cases y⟩};rename_i hd;exact hJ3 _ ⟨g,(some (.sh,iD e.1)),(some (.sh,iD e.2)),rfl,rfl,rfl,ts.next hi n1 λz=>by rw[ts.ext _ _ z]at ea;cases ea;exact absurd rfl hd⟩
   rintro _⟨g,o5,o6,rfl,z5,z6,ts⟩;exact hJ2 _ ⟨g,some (.sh,iD r),o5,o6,rfl,rfl,z5,z6,ts.fin tr⟩
  clear z4 z5 z6 o4 o5 o6;rintro _⟨f,o4,o5,o6,rfl,z4,z5,z6,tr⟩;rfl';have ef:Co m f=kX m es p:=congrArg PyData.list (Ru λx hx=>by
   have hx:=Rg.mp hx;obtain⟨d,hd⟩:=W.cn p hp x hx;have di:=Dh hd;have ls:=di.small (m:=m) (λx y z=>by rcases z with z|z<;>(have:=W.gd.lt _ z;lia)) hp
   obtain⟨k,hk⟩:=Ve.mp (tr.upto x _ (by lia) di.1)
   rw[hk,(tr.sound x k hk).1.eq di];rfl)
  refine⟨by lia,hJ _ ⟨some (.sh,iD p),some (.sh,Co m f),o4,o5,o6,?_,rfl,rfl,z4,z5,z6⟩⟩;rw[ef,SN,RW];rfl
 rintro _⟨o2,o3,o4,o5,o6,rfl,z2,z3,z4,z5,z6⟩;show B _;rw[hB];clear hB B;rfl';exact q
end PB
local macro_rules | `(tactic| bv_omega) => do let ls ← (List.range 216).toArray.mapM fun k => `(Lean.Parser.Tactic.simpLemma| $(Lean.mkIdent (.str `Dv s!"rr{k}")):ident); `(tactic| dsimp only[$ls,*, Dv.dyr0, Dv.dyr1, Dv.dyr2, Dv.dyr3, Nat.reduceBEq, Dv.iN, Dv.iZ, Dv.jR, Dv.jN, Dv.pQ])
namespace PB
open PySem L2 Dv Gr
def Ir{c:Prop} [i:Decidable c]{α:Type}{a b:Option α}{Q:α->Prop}(h:c)(p:ay a Q):ay (if c then a else b) Q:=by rw[if_pos h];exact p
def rep1:(List.replicate (Int.toNat 1) l).flatten=l:=by show(List.replicate 1 l).flatten=l;simp
noncomputable def Bt:bC:=λdd Q x=>∃m es k,dd=[wD m es,.str k]/\cI m es/\Gx k/\Q [] (.ow false) (.list ((aD k m es).map bB))
def Mt:∀dd Q x,Bt dd Q x->fV (aZ [false,false] Q x) (ini [false,false] dd++List.replicate 1 none):=by
 rintro _ Q x⟨m,es,k,rfl,W,hk,q⟩;have hm:=W.le;have hf:=W.few;unfold fV;have e1:((List.range m).map Sum.inl:List Th).map bB=(List.range m).map iD:=by rw[RU];rfl
 have e2:(es.map Sum.inr:List Th).map bB=es.map dF:=by rw[RU];rfl
 unfold aD at q;rcases hk with rfl|rfl|rfl;{rw[if_neg (by decide),if_pos rfl,Rz,e1]at q;rfl';rw[if_pos (by decide)];refine⟨⟨by lia,by lia⟩,⟨by decide,by decide,by show m*1<=_;lia⟩,?_⟩;rw[rep1];refine jT (λE=>E=[some (.sh,wD m es),some (.sh,.str "places"),some (.ow false,.list ((List.range m).map iD))]) (λJ hJ=>?_) λB hB=>?_;{rfl';exact hJ _ rfl};rintro _ rfl;rw[hB];rfl';exact q};{rw[if_pos rfl,if_neg (by decide),TU,e2]at q;rfl';refine⟨⟨by lia,by lia⟩,⟨by decide,by decide,by show m*0<=_;lia⟩,?_⟩;rw[show(List.replicate (Int.toNat 0) (List.map iD (List.range m))).flatten=[]from rfl];refine jT (λE=>E=[some (.sh,wD m es),some (.sh,.str "ties"),some (.ow false,.list (es.map dF))]) (λJ hJ=>?_) λB hB=>?_;{rfl';rw[if_pos (by decide)];exact⟨by lia,hJ _ rfl⟩};rintro _ rfl;rw[hB];rfl';exact q};rw[if_neg (by decide),if_neg (by decide),RW,e1,e2]at q;rfl';rw[if_pos (by decide)];refine⟨⟨by lia,by lia⟩,⟨by decide,by decide,by show m*1<=_;lia⟩,?_⟩;rw[rep1];refine jT (λE=>E=[some (.sh,wD m es),some (.sh,.str "all"),some (.ow false,.list ((List.range m).map iD++es.map dF))]) (λJ hJ=>?_) λB hB=>?_;{rfl';rw[if_pos (by decide)];exact⟨by lia,hJ _ rfl⟩};rintro _ rfl;rw[hB];rfl';exact q
noncomputable def AH:bC:=λdd Q x=>∃m es p t,dd=[CD m es,iD p,bB t]/\p<m/\TV m t/\Q [] .sh (iD (td es p t))
def La:∀dd Q x,AH dd Q x->i9 (aZ [false,false,false] Q x) (ini [false,false,false] dd++List.replicate 1 none):=by
 rintro _ Q x⟨m,es,p,t,rfl,hp,ht,q⟩;unfold i9;cases t with
 |inl y=>have hy:y<m:=ht;rw[show bB (.inl y)=iD y from rfl];rfl';refine aq (RI hp) ?_;rfl';refine aq (RI hy) ?_;rfl';exact q
 |inr e=>
  obtain⟨h1,h2⟩:e.1<m/\e.2<m:=ht;rw[show bB (.inr e)=dF e from rfl];rfl';rw[show [iD e.1,iD e.2]=[e.1,e.2].map iD from rfl];refine eW (λy=>iD (aG es p y)) rfl (λy hy I hI=>?_) ?_ (by show 2<=16777216;lia)
  .have hy:y<m:=by simp only[RP,S4,Sg]at hy;lia
   rfl';refine aq (RI hp) ?_;rfl';refine aq (RI hy) ?_;rfl';exact hI _ rfl
  rfl';refine JA (ns:=[aG es p e.1,aG es p e.2]) (Ua _ _) λM m1 m2=>?_;have e3:M=td es p (.inr e):=by show M=min (aG es p e.1) (aG es p e.2);have a1:=m2 (aG es p e.1) (by simp);have a2:=m2 (aG es p e.2) (by simp);simp only[RP,S4,Sg]at m1;lia
  rw[e3];exact q
noncomputable def Ay:bC:=λdd Q x=>∃m es t u,dd=[CD m es,bB t,bB u]/\m<=60/\TV m t/\TV m u/\Q [] (.ow false) (nD (c8 m es t u))
def Ml:∀dd Q x,Ay dd Q x->fE AH (aZ [false,false,false] Q x) (ini [false,false,false] dd++List.replicate 1 none):=by rintro _ Q x⟨m,es,t,u,rfl,hm,ht,hu,q⟩;unfold fE;rfl';rw[if_pos (by lia)];refine aq rfl ?_;refine l7 (λp=>if decide (td es p t≠td es p u)=true then some (iD p)else none) rfl (λp hp I hI=>?_) ?_ (by rw[RH];lia);{have hp:=Rg.mp hp;rfl';refine⟨m,es,p,t,rfl,hp,ht,?_⟩;rfl';refine⟨m,es,p,u,rfl,hp,hu,?_⟩;simp only[dv,dw,dx,dy,dz,Nat.reduceBEq]at hI⊢;split;{rename_i c;rw[if_pos c]at hI;exact hI _ rfl};rename_i c;rw[if_neg c]at hI;exact hI _ rfl};rw[fH];rfl';exact q
noncomputable def cB (T:List Th):List (Th×Th):=(List.range T.length).flatMap λk=>(T.drop (k+1)).map λu=>(T.getD k (.inl 0),u)
noncomputable abbrev fT (m:Nat)(es:Vx)(e:Th×Th):PyData:=.tuple [bB e.1,bB e.2,nD (c8 m es e.1 e.2)]
noncomputable def BA:bC:=λdd Q x=>∃m es k,dd=[wD m es,.str k]/\cI m es/\es.length<=500/\Gx k/\Q [] (.ow false) (.list ((cB (aD k m es)).map (fT m es)))
def ME:∀dd Q x,BA dd Q x->fZ Bb Bt Ay (aZ [false,false] Q x) (ini [false,false] dd++List.replicate 5 none):=by
 rintro _ Q x⟨m,es,k,rfl,W,few,hk,q⟩;have hm:=W.le;unfold fZ;refine bz λB hB=>?_;rfl';refine⟨m,es,rfl,W,?_⟩;rfl';rw[hB];clear hB B;refine bz λB hB=>?_;rfl';refine⟨m,es,k,rfl,W,hk,?_⟩;rfl';have hT:=mQ (k:=k) W.gd;have lT:(aD k m es).length<=560:=by
  unfold aD;rw[RM];have a:(if k="ties" then []else(List.range m).map Sum.inl:List Th).length<=60:=by split<;>simp;lia
  have b:(if k="places" then []else es.map Sum.inr:List Th).length<=500:=by split<;>simp;lia
  lia
 generalize aD k m es=T at q hT lT⊢;rw[hB];clear hB B;refine bz λB hB=>?_;rfl';refine⟨by lia,?_⟩;rw[hB];clear hB B;refine bz λB hB=>?_;rfl';rw[if_pos (by lia)];refine aq rfl ?_;refine gw (λi E=>v8 λ(o5 o6:Option (Kd×PyData))=>vP (E=[some (.sh,wD m es),some (.sh,.str k),some (.ow false,CD m es),some (.ow false,.list (T.map bB)),some (.ow false,.list (((List.range i).flatMap λk=>(T.drop (k+1)).map λu=>(T.getD k (.inl 0),u)).map (fT m es))),o5,o6]) (aV o5=true) (aV o6=true) (((List.range i).flatMap λk=>(T.drop (k+1)).map λu=>(T.getD k (.inl 0),u)).length<=560*i)) ⟨none,none,rfl,rfl,rfl,by simp⟩ ?_ ?_
 .rintro J i _ hi hJ⟨o5,o6,rfl,z5,z6,fl⟩;have gi:T[i]?=some (T.getD i (.inl 0)):=by rw[RV,RS hi];rfl
  have ti:TV m (T.getD i (.inl 0)):=hT _ (Rj gi);simp![z5];rw[show((i:Int)+1)=((i+1:Nat):Int)by lia,sD,if_pos (show((T.drop (i+1)).map bB).all lf=true by rw[RX];intro d hd;obtain⟨t,_,rfl⟩:=RG.mp hd;exact yz)];refine aq rfl ?_;refine mV (λn E=>∃(o6:Option (Kd×PyData)),E=[some (.sh,wD m es),some (.sh,.str k),some (.ow false,CD m es),some (.ow false,.list (T.map bB)),some (.ow false,.list (((((List.range i).flatMap λk=>(T.drop (k+1)).map λu=>(T.getD k (.inl 0),u))++((T.drop (i+1)).take n).map λu=>(T.getD i (.inl 0),u)).map (fT m es)))),some (.sh,iD i),o6]/\aV o6=true) ⟨o6,by rw[List.take_zero,List.map_nil,Rz],z6⟩ ?_ ?_;{clear z6 o6;rintro J2 n u _ hn hJ2⟨o6,rfl,z6⟩;have tu:TV m u:=hT _ (Vf (Rj hn));have hl2:=bS hn;rw[SG]at hl2;simp![z6];refine aq gi ?_;rfl';refine Ir yz (aq rfl ?_);rfl';refine aq gi ?_;rfl';refine Ir yz (aq rfl ?_);rfl';refine⟨m,es,T.getD i (.inl 0),u,rfl,hm,ti,tu,?_⟩;rfl';refine⟨by lia,?_,hJ2 _ ⟨some (.sh,bB u),?_,rfl⟩⟩;{rw[RM,RA,SQ,SG];lia};rw[TN,hn,Option.toList_some,RW (f:=λu=>(T.getD i (Sum.inl 0),u)),<-Rk,RW (l₂:=[u].map _)];rfl};rintro _⟨o6,rfl,z6⟩;refine hJ _ ⟨some (.sh,iD i),o6,?_,rfl,z6,?_⟩;{rw[SK,SN,V4,V5,V6,Rz]};rw[SN,V4,RM,V5,V6,Rz,RA,SG];lia
 rintro _⟨o5,o6,rfl,z5,z6,fl⟩;show B _;rw[hB];clear hB B;rfl';exact q
end PB
local macro_rules | `(tactic| bv_omega) => do let ls ← (List.range 216).toArray.mapM fun k => `(Lean.Parser.Tactic.simpLemma| $(Lean.mkIdent (.str `Dv s!"rr{k}")):ident); `(tactic| dsimp only[$ls,*, Dv.dyr0, Dv.dyr1, Dv.dyr2, Dv.dyr3, Nat.reduceBEq])
namespace PB
open PySem L2 Dv Gr
noncomputable def AS:bC:=λdd Q x=>∃m es,dd=[wD m es]/\m<=7/\Q [] .sh .none
def Lc:∀dd Q x,AS dd Q x->f6 (aZ [false] Q x) (ini [false] dd++List.replicate 0 none):=by rintro _ Q x⟨m,es,rfl,hm,q⟩;unfold f6;rfl';rw[if_neg (by simp;lia)];exact q
noncomputable def Br:bC:=λdd Q x=>∃m es k,dd=[wD m es,.str k]/\cI m es/\es.length<=500/\Q [] (.ow false) (.list ((cB (aD k m es)).map (fT m es)))
def Lf:∀dd Q x,Br dd Q x->ni BN AV A8 (aZ [false,false] Q x) (ini [false,false] dd++List.replicate 6 none):=by
 rintro _ Q x⟨m,es,k,rfl,W,few,q⟩;have hm:=W.le;unfold ni;refine bz λB hB=>?_;rfl';refine⟨m,es,rfl,W,?_⟩;rfl';rw[hB];clear hB B;refine bz λB hB=>?_;rfl';refine⟨m,es,k,rfl,W,?_⟩;rfl';have hT:=mQ (k:=k) W.gd;have lT:(aD k m es).length<=560:=by
  unfold aD;rw[RM];have a:(if k="ties" then []else(List.range m).map Sum.inl:List Th).length<=60:=by split<;>simp;lia
  have b:(if k="places" then []else es.map Sum.inr:List Th).length<=500:=by split<;>simp;lia
  lia
 generalize aD k m es=T at q hT lT⊢;rw[hB];clear hB B;refine bz λB hB=>?_;rfl';rw[hB];clear hB B;refine⟨by decide,?_⟩;refine bz λB hB=>?_;rfl';refine mV (λi E=>v8 λ(o5 o6:Option (Kd×PyData))=>vP (E=[some (.sh,wD m es),some (.sh,.str k),some (.ow false,.list ((List.range m).map λp=>kX m es p)),some (.sh,.list (T.map bB)),some (.ow false,.list (((List.range i).flatMap λk=>(T.drop (k+1)).map λu=>(T.getD k (.inl 0),u)).map (fT m es))),o5,o6,none]) (aV o5=true) (aV o6=true) (((List.range i).flatMap λk=>(T.drop (k+1)).map λu=>(T.getD k (.inl 0),u)).length<=i*560)) ⟨none,none,rfl,rfl,rfl,S3 _⟩ ?_ ?_
 .rintro J i⟨t,j⟩_ hi hJ⟨o5,o6,rfl,z5,z6,fl⟩;have⟨ti,ej⟩:T[i]?=some t/\j=i:=by
   rw[Uv]at hi;cases h:T[i]? with
   |none=>rw[h]at hi;cases hi
   |some u=>rw[h]at hi;cases hi;exact⟨rfl,by lia⟩
  subst ej;have tv:TV m t:=hT _ (Rj ti);have li:=bS ti;simp![z5,z6,L3];rw[show((j:Int)+1)=((j+1:Nat):Int)by lia,sD];refine eW (λu=>fT m es (t,u)) rfl (λu hu I hI=>?_) ?_ (by rw[SG];lia);{have tu:TV m u:=hT _ (Vf hu);rfl';refine⟨m,es,t,u,rfl,hm,tv,tu,?_⟩;rfl';exact⟨by decide,hI _ rfl⟩};rfl';have gj:T.getD j (.inl 0)=t:=by rw[RV,ti];rfl
  have e1:(List.drop (j+1) T).map (λu=>fT m es (t,u))=((T.drop (j+1)).map λu=>(T.getD j (.inl 0),u)).map (fT m es):=by rw[RU,gj];rfl
  refine NJ rfl ?_ (hJ _ ⟨some (.sh,iD j),some (.sh,bB t),?_,rfl,rfl,?_⟩);{rw[RA,RA,SG];lia};{rw[SN,V4,V5,V6,Rz,RW,e1];rfl};rw[SN,V4,RM,V5,V6,Rz,RA,SG];lia
 rintro _⟨o5,o6,rfl,z5,z6,fl⟩;show B _;rw[hB];clear hB B;rfl';rw[List.length_zipIdx];exact q
noncomputable abbrev eo:=Th×Th×List Nat
noncomputable abbrev p3 (e:eo):PyData:=.tuple [bB e.1,bB e.2.1,nD e.2.2]
noncomputable def AN:bC:=λdd Q x=>∃(l:List eo),dd=[.list (l.map p3)]/\l.length<16777216/\∀k:List eo,k.length<=l.length->(∀e∈k,e∈l)->(∀e∈l,∃f∈k,f.2.2=e.2.2)->Q [] (.ow false) (.list (k.map p3))
noncomputable abbrev Cp (e:eo):PyData×PyData:=(.tuple (e.2.2.map iD),p3 e)
theorem xR:∀{a b:WN},a.map iD=b.map iD->a=b
 |[],[],_=>rfl
 |[],_::_,h=>by cases h
 |_::_,[],h=>by cases h
 |x::a,y::b,h=>by rw[Rh,Rh]at h;injection h with h1 h2;injection h1 with h1;rw[Int.ofNat.inj h1,xR h2]
def GG{ks:List eo}{a:WN}(h:∀e∈ks,e.2.2≠a):cF (ks.map Cp) (.tuple (a.map iD))=none:=by unfold cF;rw[List.find?_eq_none.mpr];{rfl};intro kv hk;obtain⟨e,he,rfl⟩:=RG.mp hk;rw[Sy];intro z;injection z with z;exact h e he (xR z)
def Gv{ks:List eo}{a:WN}(h:∃e∈ks,e.2.2=a):∃v,cF (ks.map Cp) (.tuple (a.map iD))=some v:=by
 obtain⟨e,he,rfl⟩:=h;unfold cF;cases c:List.find? (λkv=>decide (kv.1=PyData.tuple (e.2.2.map iD))) (ks.map Cp)with
 |some v=>exact⟨_,rfl⟩
 |none=>have:=List.find?_eq_none.mp c (Cp e) (UE he);exact absurd (Rv rfl) this
def LY:∀dd Q x,AN dd Q x->iJ (aZ [false] Q x) (ini [false] dd++List.replicate 4 none):=by
 rintro _ Q x⟨l,rfl,hl,q⟩;unfold iJ;refine bz λB hB=>?_;rfl';refine Or.inr ?_;rfl';rw[hB];clear hB B;refine bz λB hB=>?_;rfl';refine mV (λn E=>Dd λ(ks:List eo)(o2 o3 o4:Option (Kd×PyData))=>MZ (E=[some (.sh,.list (l.map p3)),some (.dt false,.dict ((.none,.none)::ks.map Cp)),o2,o3,o4]) (aV o2=true) (aV o3=true) (aV o4=true) (ks.length<=n) ((∀e∈ks,e∈l)) (∀e∈l.take n,∃f∈ks,f.2.2=e.2.2)) ⟨[],none,none,none,rfl,rfl,rfl,rfl,RB _,by simp,by simp⟩ ?_ ?_
 .rintro J n e _ hn hJ⟨ks,o2,o3,o4,rfl,z2,z3,z4,kl,sub,all⟩;have ln:=bS hn;simp![z2,z3,z4];unfold Ca;refine⟨rfl,.sh,e.2.2.map iD,rfl,rfl,by rw[RX];intro d hd;obtain⟨y,_,rfl⟩:=RG.mp hd;rfl,?_⟩;rfl';refine⟨by decide,_,rfl,by rw[RA];show _<16777216;lia,?_⟩;have tk:l.take (n+1)=l.take n++[e]:=by rw[TN,hn];rfl
  by_cases c:∃f∈ks,f.2.2=e.2.2;{obtain⟨v,hv⟩:=Gv c;refine hJ _ ⟨ks,some (.sh,bB e.1),some (.sh,bB e.2.1),some (.sh,nD e.2.2),?_,rfl,rfl,rfl,by lia,sub,λg hg=>?_⟩;{unfold EK;rw[hv]};rw[tk]at hg;rcases RY.mp hg with z|z;{exact all g z};rw[RE.mp z];exact c};have hv:=GG (ks:=ks) (a:=e.2.2) λf hf z=>c ⟨f,hf,z⟩;refine hJ _ ⟨ks++[e],some (.sh,bB e.1),some (.sh,bB e.2.1),some (.sh,nD e.2.2),?_,rfl,rfl,rfl,?_,λg hg=>?_,λg hg=>?_⟩;{unfold EK;rw[hv,RW];rfl};{rw[RM];exact Nat.add_le_add_right kl 1};{rcases RY.mp hg with z|z;{exact sub g z};rw[RE.mp z];exact Rj hn};rw[tk]at hg;rcases RY.mp hg with z|z;{obtain⟨f,hf,e1⟩:=all g z;exact⟨f,VE _ hf,e1⟩};rw[RE.mp z];exact⟨e,SD _ (RE.mpr rfl),rfl⟩
 rintro _⟨ks,o2,o3,o4,rfl,z2,z3,z4,kl,sub,all⟩;show B _;rw[hB];clear hB B;rfl';unfold Kf;refine⟨_,_,rfl,?_⟩;rw[SK]at all;have:=q ks kl sub all;rw[RU];exact this
end PB
namespace Lp
noncomputable abbrev Vc:=Nat->Int
noncomputable def sh (c:Vc):Vc:=λi=>c (i+1)
noncomputable def ex (D:List Vc->Int):List Vc->List Vc->Int
 |_,[]=>0
 |pre,c::post=>c 0*D ((pre++post).map sh)-ex D (pre++[c]) post
noncomputable def det:Nat->List Vc->Int
 |0,_=>1
 |m+1,cs=>ex (det m) [] cs
noncomputable def Kg (D:List Vc->Int) (n:Nat):Prop:=∀(l1 l2:List Vc)(u v w:Vc) (a b:Int),l1.length+1+l2.length=n->(∀i,w i=a*u i+b*v i)->D (l1++w::l2)=a*D (l1++u::l2)+b*D (l1++v::l2)
noncomputable def LX (D:List Vc->Int) (n:Nat):Prop:=∀(l1 l2:List Vc)(c:Vc),l1.length+2+l2.length=n->D (l1++c::c::l2)=0
section
variable{D:List Vc->Int}{n:Nat}
theorem zW(L:Kg D n)(p1 p2:List Vc)(u v w:Vc) (a b:Int)(e:∀i,w i=a*u i+b*v i):∀(post p2:List Vc),p1.length+1+p2.length+post.length=n+1->ex D (p1++w::p2) post=a*ex D (p1++u::p2) post+b*ex D (p1++v::p2) post
 |[],_,_=>by simp[ex]
 |c::post,p2,h=>by
  have h1:(List.map sh p1).length+1+(List.map sh (p2++post)).length=n:=by simp only[RA,RM,RT]at h⊢;lia
  have l:=L (p1.map sh) ((p2++post).map sh) (sh u) (sh v) (sh w) a b h1 (λi=>e (i+1));have r:=zW L p1 p2 u v w a b e post (p2++[c]) (by simp only[RM,RT,S5]at h⊢;lia);simp only[ex,Rk,Tu,RW,Rh]at l r⊢;rw[l,r,Int.mul_add,UG,UG];rw[Sz (c 0) a,Sz (c 0) b];lia
theorem Ad(L:Kg D n)(u v w:Vc) (a b:Int)(e:∀i,w i=a*u i+b*v i)(q2:List Vc):∀(q1 pre:List Vc),pre.length+q1.length+1+q2.length=n+1->ex D pre (q1++w::q2)=a*ex D pre (q1++u::q2)+b*ex D pre (q1++v::q2)
 |[],pre,h=>by have r:=zW L pre [] u v w a b e q2 [] (by simp only[S5]at h⊢;lia);simp only[ex,TU]at r⊢;rw[r,e 0,UG,UG,Int.add_mul,Tv,Tv];lia
 |c::q1,pre,h=>by
  have h1:(List.map sh (pre++q1)).length+1+(List.map sh q2).length=n:=by simp only[RA,RM,RT]at h⊢;lia
  have l:=L ((pre++q1).map sh) (q2.map sh) (sh u) (sh v) (sh w) a b h1 (λi=>e (i+1));have r:=Ad L u v w a b e q2 q1 (pre++[c]) (by simp only[RM,RT,S5]at h⊢;lia);simp only[ex,Rk,Tu,RW,Rh]at l r⊢;rw[l,r,Int.mul_add,UG,UG];rw[Sz (c 0) a,Sz (c 0) b];lia
theorem Af(Z:LX D n)(p1:List Vc)(x:Vc):∀(post p2:List Vc),p1.length+2+p2.length+post.length=n+1->ex D (p1++x::x::p2) post=0
 |[],_,_=>rfl
 |c::post,p2,h=>by have l:=Z (p1.map sh) ((p2++post).map sh) (sh x) (by simp only[RA,RM,RT]at h⊢;lia);have r:=Af Z p1 x post (p2++[c]) (by simp only[RM,RT,S5]at h⊢;lia);simp only[ex,Rk,Tu,RW,Rh]at l r⊢;rw[l,r];lia
theorem Ak(Z:LX D n)(x:Vc)(q2:List Vc):∀(q1 pre:List Vc),pre.length+q1.length+2+q2.length=n+1->ex D pre (q1++x::x::q2)=0
 |[],pre,h=>by have r:=Af Z pre x q2 [] (by simp only[S5]at h⊢;lia);simp only[ex,TU,Rk,Tu]at r⊢;rw[r];lia
 |c::q1,pre,h=>by have l:=Z ((pre++q1).map sh) (q2.map sh) (sh x) (by simp only[RA,RM,RT]at h⊢;lia);have r:=Ak Z x q2 q1 (pre++[c]) (by simp only[RM,RT,S5]at h⊢;lia);simp only[ex,Rk,Tu,RW,Rh]at l r⊢;rw[l,r];lia
end
theorem mK:∀n,Kg (det n) n
 |0=>λl1 l2 u v w a b h e=>by lia
 |n+1=>λl1 l2 u v w a b h e=>Ad (mK n) u v w a b e l2 l1 [] (by simp only[S5];lia)
theorem mH:∀n,LX (det n) n
 |0=>λl1 l2 c h=>by lia
 |n+1=>λl1 l2 c h=>Ak (mH n) c l2 l1 [] (by simp only[S5];lia)
def FE{n:Nat}(l1 l2:List Vc)(x y:Vc)(h:l1.length+2+l2.length=n):det n (l1++x::y::l2)=- det n (l1++y::x::l2):=by have z:=mH n l1 l2 (λi=>x i+y i) h;have e1:=mK n l1 ((λi=>x i+y i)::l2) x y (λi=>x i+y i) 1 1 (by simp only[RT];lia) (λi=>by lia);have e2:=mK n (l1++[x]) l2 x y (λi=>x i+y i) 1 1 (by simp only[RM,RT,S5];lia) (λi=>by lia);have e3:=mK n (l1++[y]) l2 x y (λi=>x i+y i) 1 1 (by simp only[RM,RT,S5];lia) (λi=>by lia);simp only[Rk,Tu,TU]at e2 e3;have zx:=mH n l1 l2 x h;have zy:=mH n l1 l2 y h;lia
theorem zI{n:Nat}(c:Vc)(l2:List Vc):∀(mid l1:List Vc),l1.length+2+mid.length+l2.length=n->det n (l1++c::(mid++c::l2))=0
 |[],l1,h=>mH n l1 l2 c (by simp only[S5]at h;lia)
 |d::mid,l1,h=>by have e:=FE l1 (mid++c::l2) c d (n:=n) (by simp only[RM,RT]at h⊢;lia);have r:=zI c l2 mid (l1++[d]) (n:=n) (by simp only[RM,RT,S5]at h⊢;lia);simp only[Rk,Tu,TU]at e r⊢;rw[e,r];rfl
def pC{B:List Vc}{i:Nat}(h:i<B.length)(w:Vc):B.set i w=B.take i++w::B.drop (i+1):=List.set_eq_take_append_cons_drop.trans (if_pos h)
def pZ{B:List Vc}{i:Nat}(h:i<B.length){w:Vc}{a b:Int}(e:∀t,w t=a*u t+b*v t):det B.length (B.set i w)=a*det B.length (B.set i u)+b*det B.length (B.set i v):=by rw[pC h,pC h,pC h];exact mK _ _ _ _ _ _ _ _ (by rw[SQ,SG];lia) e
def Au{i j:Nat}(hij:i<j)(hj:j<B.length)(e:B[i]?=B[j]?):det B.length B=0:=by
 have hi:i<B.length:=by lia
 have e1:B=B.take i++B[i]::((B.drop (i+1)).take (j-i-1)++B[i]::B.drop (j+1)):=by
  have ej:B[i]=B[j]:=by rw[RS hi,RS hj]at e;exact Option.some.inj e
  have a1:B=B.take i++B[i]::B.drop (i+1):=by rw[List.getElem_cons_drop,U7]
  have a2:B.drop (i+1)=(B.drop (i+1)).take (j-i-1)++B[j]::B.drop (j+1):=by
   have:B[j]::B.drop (j+1)=(B.drop (i+1)).drop (j-i-1):=by rw[List.drop_drop,show i+1+(j-i-1)=j by lia,List.getElem_cons_drop]
   rw[this,U7]
  rw[<-ej]at a2;rw[<-a2];exact a1
 have l:(B.take i).length+2+((B.drop (i+1)).take (j-i-1)).length+(B.drop (j+1)).length=B.length:=by simp only[SQ,SG];lia
 have:=zI B[i] (B.drop (j+1)) ((B.drop (i+1)).take (j-i-1)) (B.take i) l;rwa[<-e1]at this
noncomputable def sm (n:Nat)(f:Nat->Int):Int:=match n with
 |0=>0
 |n+1=>sm n f+f n
def aR{n:Nat}{f g:Nat->Int}(h:∀k,k<n->f k=g k):sm n f=sm n g:=by
 induction n with
 |zero=>rfl
 |succ n ih=>rw[sm,sm,ih λk hk=>h k (by lia),h n (by lia)]
def se{n:Nat}{f g:Nat->Int}:sm n (λk=>f k+g k)=sm n f+sm n g:=by
 induction n with
 |zero=>rfl
 |succ n ih=>rw[sm,sm,sm,ih];lia
def fG{n:Nat}{f:Nat->Int}{c:Int}:sm n (λk=>c*f k)=c*sm n f:=by
 induction n with
 |zero=>exact(Ry c).symm
 |succ n ih=>rw[sm,sm,ih,Int.mul_add]
def eS{n:Nat}{f:Nat->Int}(h:∀k,k<n->f k=0):sm n f=0:=by
 induction n with
 |zero=>rfl
 |succ n ih=>rw[sm,ih λk hk=>h k (by lia),h n (by lia)];rfl
def lZ{n i:Nat}{f:Nat->Int}(hi:i<n)(h:∀k,k<n->k≠i->f k=0):sm n f=f i:=by
 induction n with
 |zero=>lia
 |succ n ih=>rw[sm];by_cases c:i=n;{subst c;rw[eS λk hk=>h k (by lia) (by lia)];lia};rw[ih (by lia) λk hk=>h k (by lia),h n (by lia) (λz=>c z.symm)];lia
def Ko{n i j:Nat}{f:Nat->Int}(hi:i<n)(hj:j<n)(ne:i≠j)(h:∀k,k<n->k≠i->k≠j->f k=0):sm n f=f i+f j:=by
 have e:sm n f=sm n λk=>(if k=i then f k else 0)+(if k=i then 0 else f k):=aR λk _=>by split<;>lia
 rw[e,se,lZ (i:=i) hi λk _ z=>if_neg z,lZ (i:=j) hj λk hk z=>by
  by_cases c:k=i
  .rw[if_pos c]
  .rw[if_neg c];exact h k hk c z]
 rw[if_pos rfl,if_neg (Ne.symm ne)]
def m8{n:Nat}{f g:Nat->Int}(h:∀k,k<n->f k<=g k):sm n f<=sm n g:=by
 induction n with
 |zero=>exact Tw 0
 |succ n ih=>rw[sm,sm];have:=ih λk hk=>h k (by lia);have:=h n (by lia);lia
def pR{m n:Nat}{f:Nat->Nat->Int}:sm m (λi=>sm n (λj=>f i j))=sm n λj=>sm m λi=>f i j:=by
 induction m with
 |zero=>exact(eS λ_ _=>rfl).symm
 |succ m ih=>rw[sm,ih];exact se.symm
def LV{n:Nat}{f:Nat->Int}(h:0<sm n f):∃k,k<n/\0<f k:=by refine Tz λz=>?_;have:sm n f<=sm n λ_=>0:=m8 λk hk=>Sa.mp λy=>z ⟨k,hk,y⟩;rw[eS (f:=λ_=>0) λ_ _=>rfl]at this;lia
def oj{B:List Vc}{i n:Nat}(h:i<B.length){cf:Nat->Int}{V:Nat->Vc}{w:Vc}(e:∀t,w t=sm n λk=>cf k*V k t):det B.length (B.set i w)=sm n λk=>cf k*det B.length (B.set i (V k)):=by
 induction n generalizing w with
 |zero=>have:=pZ h (u:=λ_=>0) (v:=λ_=>0) (w:=w) (a:=0) (b:=0) (λt=>by rw[e t];rfl);rw[this,sm];lia
 |succ n ih=>have:=pZ h (u:=λt=>sm n λk=>cf k*V k t) (v:=V n) (w:=w) (a:=1) (b:=cf n) (λt=>by rw[e t,sm];lia);rw[this,sm,ih λ_=>rfl,Int.one_mul]
def zL{B:List Vc}{i:Nat}(h:i<B.length){c:Int}{w:Vc}(e:∀t,w t=c*v t):det B.length (B.set i w)=c*det B.length (B.set i v):=by have:=oj h (n:=1) (cf:=λ_=>c) (V:=λ_=>v) (w:=w) (λt=>by rw[e t,sm,sm];lia);rw[this,sm,sm];lia
def rY{i j:Nat}(hi:i<B.length)(hj:j<B.length)(ne:i≠j)(e:B[i]?=B[j]?):det B.length B=0:=by rcases Nat.lt_or_gt_of_ne ne with h|h;{exact Au h hj e};exact Au h hi e.symm
def Lx{B:List Vc}{i j:Nat}(hi:i<B.length)(hj:j<B.length)(ne:i≠j)(x y:Vc):det B.length ((B.set i x).set j y)=- det B.length ((B.set i y).set j x):=by
 have z:∀v:Vc,det B.length ((B.set i v).set j v)=0:=λv=>by have:=rY (B:=(B.set i v).set j v) (i:=i) (j:=j) (by simpa using hi) (by simpa using hj) ne (by simp[SV,ne,Ne.symm ne,hi,hj]);simpa using this
 have l1:∀(v:Vc),det B.length ((B.set i λt=>x t+y t).set j v)=det B.length ((B.set i x).set j v)+det B.length ((B.set i y).set j v):=λv=>by have:=pZ (B:=B.set j v) (i:=i) (by simpa using hi) (u:=x) (v:=y) (w:=λt=>x t+y t) (a:=1) (b:=1) (λt=>by lia);simp only[Rf]at this;rw[Ub _ _ ne,this,Ub _ _ ne,Ub _ _ ne];lia
 have l2:∀(v:Vc),det B.length ((B.set i v).set j λt=>x t+y t)=det B.length ((B.set i v).set j x)+det B.length ((B.set i v).set j y):=λv=>by have:=pZ (B:=B.set i v) (i:=j) (by simpa using hj) (u:=x) (v:=y) (w:=λt=>x t+y t) (a:=1) (b:=1) (λt=>by lia);simp only[Rf]at this;rw[this];lia
 have h:=z λt=>x t+y t;rw[l1,l2,l2,z x,z y]at h;lia
def Jz{B:List Vc}{r i:Nat}(hr:r<B.length)(hi:i<B.length)(ne:r≠i)(J:∀t,det B.length B*y t=sm B.length λk=>det B.length (B.set k y)*(B.getD k (λ_=>0)) t) : det B.length B*det B.length ((B.set r x).set i y)=det B.length (B.set r x)*det B.length (B.set i y)-det B.length (B.set i x)*det B.length (B.set r y):=by
 have gd:∀{k:Nat},k<B.length->B[k]?=some (B.getD k (λ_=>0)):=λ{k} h=>by rw[RV,RS h];rfl
 have sd:∀{k:Nat},k<B.length->B.set k (B.getD k (λ_=>0))=B:=λ{k} h=>by refine Rw λj=>?_;rw[SV];by_cases c:k=j;{subst c;rw[if_pos rfl,if_pos h,gd h]};rw[if_neg c]
 have h1:=zL (B:=B.set r x) (i:=i) (by simpa using hi) (c:=det B.length B) (v:=y) (w:=λt=>det B.length B*y t) (λ_=>rfl);have h2:=oj (B:=B.set r x) (i:=i) (by simpa using hi) (w:=λt=>det B.length B*y t) J;simp only[Rf]at h1 h2;rw[<-h1,h2,Ko hi hr (Ne.symm ne) λk hk k1 k2=>?_]
 .have e1:(B.set r x).set i (B.getD i λ_=>0)=B.set r x:=by rw[Ub _ _ ne,sd hi]
  have e2:det B.length ((B.set r x).set i (B.getD r λ_=>0))=- det B.length (B.set i x):=by rw[Lx hr hi ne,sd hr]
  rw[e1,e2,S9 (det B.length (B.set i y)),Int.mul_neg,S9 (det B.length (B.set r y))];lia
 have:=rY (B:=(B.set r x).set i (B.getD k λ_=>0)) (i:=i) (j:=k) (by simpa using hi) (by simpa using hk) (Ne.symm k1) (by
  rw[T7 (by simpa using hi),Si (Ne.symm k1),Si (Ne.symm k2),gd hk])
 simp only[Rf]at this;rw[this,Ry]
noncomputable def un (i:Nat):Vc:=λt=>if t=i then 1 else 0
section
variable(m N:Nat)(A:Nat->Vc)
noncomputable def Bm (b:WN):List Vc:=b.map A++[un m]
noncomputable def dt (b:WN):Int:=det (m+1) (Bm m A b)
noncomputable def T (b:WN) (k j:Nat):Int:=det (m+1) ((Bm m A b).set k (A j))
structure Bs(b:WN):Prop where
 len:b.length=m
 lt:∀c∈b,c<N
 pos:0<dt m A b
 J:∀j t,dt m A b*A j t=sm (m+1) λk=>T m A b k j*(Bm m A b).getD k (λ_=>0) t
 rhs:∀k,k<m->0<=T m A b k N
end
section
variable{m N:Nat}{A:Nat->Vc}{b:WN}
def mj(h:b.length=m):(Bm m A b).length=m+1:=by unfold Bm;rw[RM,RA,h];rfl
def mL(h:b.length=m){k:Nat}(hk:k<m):(Bm m A b).getD k (λ_=>0)=A (b.getD k 0):=by
 have hb:k<b.length:=by lia
 unfold Bm;rw[RV,U4 (by rw[RA];exact hb),RO,RV,RS hb];rfl
def jO(h:b.length=m):(Bm m A b).getD m (λ_=>0)=un m:=by unfold Bm;rw[RV,UL (by rw[RA];lia),RA,h,Nat.sub_self];rfl
def rS(h:b.length=m){r c:Nat}(hr:r<m):Bm m A (b.set r c)=(Bm m A b).set r (A c):=by unfold Bm;rw[List.map_set,List.set_append,if_pos (by rw[RA];lia)]
def w5{l:List Vc}{k:Nat}(h:k<l.length):l[k]?=some (l.getD k (λ_=>0)):=by rw[RV,RS h];rfl
def rN{l:List Vc}{k:Nat}(h:k<l.length):l.set k (l.getD k (λ_=>0))=l:=by refine Rw λj=>?_;rw[SV];by_cases c:k=j;{subst c;rw[if_pos rfl,if_pos h,w5 h]};rw[if_neg c]
def sr(h:b.length=m){i k:Nat}(hi:i<m+1)(hk:k<m):T m A b i (b.getD k 0)=if i=k then dt m A b else 0:=by
 have l:=mj (A:=A) h;unfold T dt;rw[<-mL (A:=A) h hk];split;{rename_i e;subst e;rw[rN (by lia)]};rename_i ne;have:=rY (B:=(Bm m A b).set i ((Bm m A b).getD k λ_=>0)) (i:=i) (j:=k) (by rw[Rf];lia) (by rw[Rf];lia) ne (by
  rw[T7 (by lia),Si ne,w5 (by lia)])
 rw[Rf,l]at this;exact this
def Bs.nd(H:Bs m N A b){i k:Nat}(hi:i<m)(hk:k<m)(e:b.getD i 0=b.getD k 0):i=k:=by refine Tz λne=>?_;have h1:=sr (A:=A) H.len (i:=i) (k:=k) (by lia) hk;rw[if_neg ne,<-e,sr (A:=A) H.len (by lia) hi,if_pos rfl]at h1;have:=H.pos;lia
def gs{l:WN}{r c k:Nat}(hr:r<l.length):(l.set r c).getD k 0=if k=r then c else l.getD k 0:=by rw[RV,SV];by_cases e:r=k;{rw[if_pos e,if_pos hr,if_pos e.symm];rfl};rw[if_neg e,if_neg (Ne.symm e),RV]
def vK(H:Bs m N A b){r c:Nat}(hr:r<m):dt m A (b.set r c)=T m A b r c:=by unfold dt T;rw[rS H.len hr]
def pX(H:Bs m N A b){r c:Nat}(hr:r<m) (j:Nat):T m A (b.set r c) r j=T m A b r j:=by unfold T;rw[rS H.len hr,V3]
def sQ(H:Bs m N A b){r c k:Nat}(hr:r<m)(hk:k<m+1)(ne:k≠r) (j:Nat):dt m A b*T m A (b.set r c) k j=T m A b r c*T m A b k j-T m A b k c*T m A b r j:=by have l:=mj (A:=A) H.len;have:=Jz (B:=Bm m A b) (r:=r) (i:=k) (x:=A c) (y:=A j) (by lia) (by lia) (Ne.symm ne) (by rw[l];exact H.J j);rw[l]at this;unfold T dt;rw[rS H.len hr];exact this
def Qo(H:Bs m N A b){r c:Nat}(hr:r<m)(hc:c<N)(hp:0<T m A b r c)(rat:∀k,k<m->0<T m A b k c->T m A b r N*T m A b k c<=T m A b k N*T m A b r c):Bs m N A (b.set r c):=by
 have hb:r<b.length:=by rw[H.len];exact hr
 have dp:=H.pos;refine⟨by rw[Rf];exact H.len,λx hx=>?_,by rw[vK H hr];exact hp,λj t=>?_,λk hk=>?_⟩;{rcases Vg hx with z|z;{exact H.lt x z};rw[z];exact hc}
 .have hd:dt m A b≠0:=by lia
  refine Int.eq_of_mul_eq_mul_left hd ?_;have ls:(b.set r c).length=m:=by rw[Rf];exact H.len
  rw[<-fG,vK H hr];have e:∀k,k<m+1->dt m A b*(T m A (b.set r c) k j*(Bm m A (b.set r c)).getD k (λ_=>0) t)=(T m A b r c*(T m A b k j*(Bm m A b).getD k (λ_=>0) t) + - T m A b r j*(T m A b k c*(Bm m A b).getD k (λ_=>0) t))+(if k=r then T m A b r j*(dt m A b*A c t)else 0):=λk hk=>by
   by_cases z:k=r
   .subst z;rw[if_pos rfl,pX H hr,mL ls hr,gs hb,if_pos rfl,Sz (dt m A b)];have:T m A b k c*(T m A b k j*(Bm m A b).getD k (λ_=>0) t) + - T m A b k j*(T m A b k c*(Bm m A b).getD k (λ_=>0) t)=0:=by rw[Int.neg_mul,Sz (T m A b k c)];lia
    rw[this,Int.zero_add]
   rw[if_neg z,Int.add_zero,<-Tv,sQ H hr hk z];have eB:(Bm m A (b.set r c)).getD k (λ_=>0)=(Bm m A b).getD k (λ_=>0):=by rw[rS H.len hr,RV,Si (Ne.symm z),<-RV]
   rw[eB,Int.sub_mul,Int.neg_mul,Tv,<-Tv (T m A b r j),S9 (T m A b r j),Int.sub_eq_add_neg]
  rw[aR e,se,se,fG,fG,<-H.J j t,<-H.J c t,lZ (i:=r) (by lia) λk _ z=>if_neg z,if_pos rfl,Int.neg_mul,Sz (dt m A b)];lia
 by_cases z:k=r;{subst z;rw[pX H hr];exact H.rhs k hk};have e:=sQ H hr (c:=c) (by lia) z N;have h1:=H.rhs k hk;have h2:=H.rhs r hr;refine Tz λneg=>?_;have neg:T m A (b.set r c) k N<0:=Int.not_le.mp neg;have h3:=Int.mul_neg_of_pos_of_neg dp neg;rw[e]at h3;by_cases q:0<T m A b k c;{have:=rat k hk q;rw[S9 (T m A b r c),S9 (T m A b k c)]at h3;lia};have a1:=Int.mul_nonneg (UH hp) h1;have a2:T m A b k c*T m A b r N<=0:=V7 (Sa.mp q) h2;lia
end
section
variable(m N:Nat)(A:Nat->Vc)
structure zU(b:WN) (s r:Nat):Prop where
 sN:s<N
 neg:T m A b m s<0
 fst:∀j,j<s->0<=T m A b m j
 rm:r<m
 pos:0<T m A b r s
 rat:∀k,k<m->0<T m A b k s->T m A b r N*T m A b k s<=T m A b k N*T m A b r s
 QM:∀k,k<m->0<T m A b k s->T m A b r N*T m A b k s=T m A b k N*T m A b r s->b.getD r 0<=b.getD k 0
end
section
variable{m N:Nat}{A:Nat->Vc}
def zU.bs{s r:Nat}(S:zU m N A b s r)(H:Bs m N A b):Bs m N A (b.set r s):=Qo H S.rm S.sN S.pos S.rat
def nJ{a b c d e f:Int}(pd:0<d)(pf:0<f)(pb:0<b)(h1:a*d<=c*b)(h2:c*f<=e*d):a*f<=e*b:=by refine Int.le_of_mul_le_mul_left ?_ pd;have g1:=Vo h1 (UH pf);have g2:=Vo h2 (UH pb);rw[show d*(a*f)=a*d*f by rw[Sz,Tv]];rw[show d*(e*b)=e*d*b by rw[Sz,Tv]];rw[show c*b*f=c*f*b by rw[Int.mul_right_comm]]at g1;lia
structure gr(m N:Nat)(A:Nat->Vc)(b:Nat->WN)(s r:Nat->Nat) (L:Nat):Prop where
 bs:∀t,Bs m N A (b t)
 st:∀t,zU m N A (b t) (s t) (r t)
 nx:∀t,b (t+1)=(b t).set (r t) (s t)
 pL:0<L
 pb:∀t,b (t+L)=b t
 ps:∀t,s (t+L)=s t
 pr:∀t,r (t+L)=r t
section
variable{b:Nat->WN}{s r:Nat->Nat}{L:Nat}
def gr.dn(R:gr m N A b s r L) (t:Nat):dt m A (b (t+1))=T m A (b t) (r t) (s t):=by rw[R.nx t];exact vK (R.bs t) (R.st t).rm
def gr.zn(R:gr m N A b s r L) (t:Nat):dt m A (b t)*T m A (b (t+1)) m N=T m A (b t) m N*dt m A (b (t+1))-T m A (b t) m (s t)*T m A (b t) (r t) N:=by have e:=sQ (R.bs t) (R.st t).rm (c:=s t) (k:=m) (by lia) (by have:=(R.st t).rm;lia) N;rw[<-R.nx t]at e;rw[e,R.dn t,S9 (T m A (b t) m N)]
def gr.up1(R:gr m N A b s r L) (t:Nat):T m A (b t) m N*dt m A (b (t+1))<=T m A (b (t+1)) m N*dt m A (b t):=by have e:=R.zn t;have h:=V7 (UH (R.st t).neg) ((R.bs t).rhs _ (R.st t).rm);rw[S9 (T m A (b (t+1)) m N),e];lia
theorem gr.up(R:gr m N A b s r L) (t:Nat):∀k,T m A (b t) m N*dt m A (b (t+k))<=T m A (b (t+k)) m N*dt m A (b t)
 |0=>Tw _
 |k+1=>nJ (R.bs (t+k)).pos (R.bs (t+k+1)).pos (R.bs t).pos (R.up t k) (R.up1 (t+k))
def gr.xP(R:gr m N A b s r L) (t:Nat):T m A (b t) (r t) N=0:=by
 refine Tz λne=>?_;have p:0<T m A (b t) (r t) N:=by have:=(R.bs t).rhs _ (R.st t).rm;lia
 have h:=R.up (t+1) (L-1);have pL:=R.pL;rw[show t+1+(L-1)=t+L by lia,R.pb t]at h;have e:=R.zn t;have g:=Int.mul_neg_of_neg_of_pos (R.st t).neg p;rw[S9 (T m A (b (t+1)) m N)]at h;lia
def gr.Pu(R:gr m N A b s r L) (t:Nat){k:Nat}(hk:k<m)(h:T m A (b t) k N=0):T m A (b (t+1)) k N=0:=by by_cases c:k=r t;{rw[R.nx t,c,pX (R.bs t) (R.st t).rm];exact R.xP t};have e:=sQ (R.bs t) (R.st t).rm (c:=s t) (k:=k) (by lia) c N;rw[<-R.nx t,R.xP t,h,Ry,Ry]at e;have:=(R.bs t).pos;rcases Int.mul_eq_zero.mp e with z|z<;>lia
theorem gr.row(R:gr m N A b s r L) (t k:Nat)(hk:k<m):∀n,(b (t+n)).getD k 0=(b t).getD k 0\/∃u,u<n/\(b (t+n)).getD k 0=s (t+u)/\T m A (b (t+n)) k N=0
 |0=>.inl rfl
 |n+1=>by have hl:=(R.bs (t+n)).len;have hr:=(R.st (t+n)).rm;rw[<-Sw,R.nx (t+n),gs (by lia)];by_cases c:k=r (t+n);{rw[if_pos c];refine .inr ⟨n,by lia,rfl,?_⟩;rw[c,pX (R.bs _) hr];exact R.xP _};rw[if_neg c,<-R.nx (t+n)];rcases R.row t k hk n with h|⟨u,hu,h,z⟩;{exact .inl h};exact .inr ⟨u,by lia,h,R.Pu (t+n) hk z⟩
theorem first{P:Nat->Prop}:∀n,P n->∃k,k<=n/\P k/\∀j,j<k->¬P j
 |0,h=>⟨0,RB 0,h,λj hj=>by lia⟩
 |n+1,h=>by
  by_cases c:∃j,j<=n/\P j
  .obtain⟨j,hj,pj⟩:=c;have⟨k,hk,pk,f⟩:=first (P:=P) j pj
   exact⟨k,by lia,pk,f⟩
  exact⟨n+1,RB _,h,λj hj pj=>c ⟨j,by lia,pj⟩⟩
termination_by n=>n
theorem gr.keep(R:gr m N A b s r L) (t k:Nat):∀n,(∀j,j<n->r (t+j)≠k)->(b (t+n)).getD k 0=(b t).getD k 0
 |0,_=>rfl
 |n+1,h=>by have hl:=(R.bs (t+n)).len;have hr:=(R.st (t+n)).rm;rw[<-Sw,R.nx (t+n),gs (by lia),if_neg (λe=>h n (by lia) e.symm)];exact R.keep t k n λj hj=>h j (by lia)
theorem gr.O4(R:gr m N A b s r L) (t:Nat):∀n,s (t+n*L)=s t
 |0=>by rw[Nat.zero_mul];rfl
 |n+1=>by rw[Nat.add_mul,Nat.one_mul,<-Sw,R.ps,R.O4 t n]
theorem most(f:Nat->Nat):∀L,0<L->∃p,p<L/\∀t,t<L->f t<=f p
 |1,_=>⟨0,by lia,λt ht=>by rw[show t=0 by lia];exact RB _⟩
 |L+2,_=>by have⟨p,hp,h⟩:=most f (L+1) (by lia);by_cases c:f (L+1)<=f p;{exact⟨p,by lia,λt ht=>if e:t=L+1 then e▸c else h t (by lia)⟩};exact⟨L+1,by lia,λt ht=>if e:t=L+1 then e▸RB _ else by have:=h t (by lia);lia⟩
def two(P:Bs m N A p)(Q:Bs m N A q) (x:Nat):dt m A q*T m A p m x=sm m (λk=>T m A q k x*T m A p m (q.getD k 0))+T m A q m x*dt m A p:=by
 have lp:=mj (A:=A) P.len;have h1:=zL (B:=Bm m A p) (i:=m) (by lia) (c:=dt m A q) (v:=A x) (w:=λt=>dt m A q*A x t) (λ_=>rfl);have h2:=oj (B:=Bm m A p) (i:=m) (by lia) (w:=λt=>dt m A q*A x t) (Q.J x);rw[lp]at h1 h2;have e:T m A p m x=det (m+1) ((Bm m A p).set m (A x)):=rfl;rw[e,<-h1,h2,sm];have e1:det (m+1) ((Bm m A p).set m ((Bm m A q).getD m λ_=>0))=dt m A p:=by rw[jO Q.len,<-jO (A:=A) P.len,rN (by lia)];rfl
 rw[e1,aR λk hk=>by rw[mL Q.len hk]];rfl
def gr.no(R:gr m N A b s r L):False:=by
 have pL:=R.pL;have⟨p,hp,hm⟩:=most s L pL;have hmax:∀t,s t<=s p:=λt=>by have:=R.O4 (t%L) (t/L);rw[Nat.mul_comm,Nat.mod_add_div]at this;rw[this];exact hm _ (Ue _ pL)
 have⟨n,hn,en,fn⟩:=first (P:=λn=>r (p+1+n)=r p) (L-1) (by
  show r (p+1+(L-1))=r p;rw[show p+1+(L-1)=p+L by lia,R.pr])
 have Sp:=R.st p;have Bp:=R.bs p;have Bq:=R.bs (p+1+n);have Sq:=R.st (p+1+n);have lp:=Bp.len;have lq:=Bq.len;have hc:(b (p+1+n)).getD (r p) 0=s p:=by rw[R.keep (p+1) (r p) n fn,R.nx p,gs (by have:=Sp.rm;lia),if_pos rfl]
 have sN:s (p+1+n)≠s p:=λe=>by have:=sr (A:=A) Bq.len (i:=m) (k:=r p) (by lia) Sp.rm;rw[hc,<-e,if_neg (by have:=Sp.rm;lia)]at this;have:=Sq.neg;lia
 have sl:s (p+1+n)<s p:=by have:=hmax (p+1+n);lia
 have h:=two Bp Bq (s (p+1+n));have h1:=Int.mul_nonneg (UH Bq.pos) (Sp.fst _ sl);have h2:=Int.mul_neg_of_neg_of_pos Sq.neg Bp.pos;have⟨k,hk,pk⟩:=LV (n:=m) (f:=λk=>T m A (b (p+1+n)) k (s (p+1+n))*T m A (b p) m ((b (p+1+n)).getD k 0)) (by lia);have nb:T m A (b p) m ((b (p+1+n)).getD k 0)≠0:=λz=>by rw[z,Ry]at pk;lia
 rcases R.row p k hk (1+n)with z|⟨u,hu,z,xP⟩;{rw[<-Sw]at z;rw[z]at nb;refine nb ?_;rw[sr (A:=A) Bp.len (by lia) hk,if_neg (by lia)]};rw[<-Sw]at z xP;have le:=hmax (p+u);rw[<-z]at le;by_cases c:(b (p+1+n)).getD k 0=s p;{have ek:=Bq.nd hk Sp.rm (c.trans hc.symm);subst ek;rw[c]at pk;have s1:=Sq.pos;rw[en]at s1;have:=Int.mul_neg_of_pos_of_neg s1 Sp.neg;lia};have a1:=Sp.fst _ (show(b (p+1+n)).getD k 0<s p by lia);have a2:0<T m A (b (p+1+n)) k (s (p+1+n)):=by refine Int.not_le.mp λy=>?_;have:=V7 y a1;lia
 have:=Sq.QM k hk a2 (by rw[R.xP,xP,V8,V8]);rw[en,hc]at this;lia
end
end
noncomputable def cd (N:Nat):WN->Nat
 |[]=>0
 |x::l=>x+N*cd N l
theorem HF{N:Nat}:∀l:WN,(∀x∈l,x<N)->cd N l<N^l.length
 |[],_=>by show 0<1;decide
 |x::l,h=>by have h1:=HF l λy hy=>h y (RK _ hy);have h2:=h x RC;have h3:=Nat.mul_le_mul_left N (show cd N l+1<=N^l.length by lia);rw[RT,Nat.pow_succ,Nat.mul_comm _ N];rw[Nat.mul_add]at h3;show x+N*cd N l<_;lia
theorem DV{N:Nat}:∀l k:WN,l.length=k.length->(∀x∈l,x<N)->(∀x∈k,x<N)->cd N l=cd N k->l=k
 |[],[],_,_,_,_=>rfl
 |x::l,y::k,e,h1,h2,h=>by
  have x1:=h1 x RC;have y1:=h2 y RC;have h:x+N*cd N l=y+N*cd N k:=h;have ex:x=y:=by have:=congrArg (·%N) h;rwa[Vh,Vh,V9 x1,V9 y1]at this
  subst ex;have:cd N l=cd N k:=Nat.eq_of_mul_eq_mul_left (show 0<N by lia) (by lia);rw[DV l k (by simpa using e) (λz hz=>h1 z (RK _ hz)) (λz hz=>h2 z (RK _ hz)) this]
theorem OV:∀(n:Nat)(f:Nat->Nat) (t:Nat),(∀u,u<t->f u<n)->n<t->∃i j,i<j/\j<t/\f i=f j
 |0,f,t,h,ht=>absurd (h 0 ht) (TY _)
 |n+1,f,t+1,h,ht=>by
  by_cases c:∃i,i<t/\f i=f t;{obtain⟨i,hi,e⟩:=c;exact⟨i,t,hi,by lia,e⟩};have⟨i,j,hij,hj,e⟩:=OV n (λu=>if f u=n then f t else f u) t (λu hu=>by
   have h1:=h u (by lia)
   have h2:=h t (by lia)
   have h3:f u≠f t:=λe=>c ⟨u,hu,e⟩
   split<;>lia) (by lia)
  have n1:f i≠f t:=λe=>c ⟨i,by lia,e⟩;have n2:f j≠f t:=λe=>c ⟨j,by lia,e⟩;refine⟨i,j,hij,by lia,?_⟩;split at e<;>split at e<;>lia
section
variable{m N:Nat}{A:Nat->Vc}
inductive Run(m N:Nat)(A:Nat->Vc)(b0:WN) (t:Nat)(b:WN):Prop
 |mk (f s r:Nat->Nat->Nat)(g:Nat->WN)(e0:g 0=b0)(et:g t=b)(st:∀u,u<t->zU m N A (g u) (s u 0) (r u 0))(nx:∀u,u<t->g (u+1)=(g u).set (r u 0) (s u 0)):Run m N A b0 t b
def Run.zero(b0:WN):Run m N A b0 0 b0:=⟨λ_ _=>0,λ_ _=>0,λ_ _=>0,λ_=>b0,rfl,rfl,λu h=>by lia,λu h=>by lia⟩
def Run.snoc{t s r:Nat}(R:Run m N A b0 t b)(S:zU m N A b s r):Run m N A b0 (t+1) (b.set r s):=by obtain⟨_,s',r',g,e0,et,st,nx⟩:=R;refine⟨λ_ _=>0,λu _=>if u=t then s else s' u 0,λu _=>if u=t then r else r' u 0,λu=>if u=t+1 then b.set r s else g u,?_,?_,λu hu=>?_,λu hu=>?_⟩;{rw[if_neg (by lia)];exact e0};{rw[if_pos rfl]};{rw[if_neg (show ¬u=t+1 by lia)];by_cases c:u=t;{subst c;rw[if_pos rfl,if_pos rfl,et];exact S};rw[if_neg c,if_neg c];exact st u (by lia)};rw[if_neg (show ¬u=t+1 by lia)];by_cases c:u=t;{subst c;rw[if_pos rfl,if_pos rfl,if_pos rfl,et]};rw[if_neg c,if_neg c,if_neg (by lia)];exact nx u (by lia)
def Run.short{t:Nat}(R:Run m N A b0 t b)(B:Bs m N A b0):t<N^m/\Bs m N A b:=by
 obtain⟨_,s,r,g,e0,et,st,nx⟩:=R;have bs:∀u,u<=t->Bs m N A (g u):=λu=>by
  induction u with
  |zero=>intro _;rw[e0];exact B
  |succ u ih=>intro hu;rw[nx u (by lia)];exact(st u (by lia)).bs (ih (by lia))
 refine⟨Nat.not_le.mp λh=>?_,et▸bs t (RB _)⟩;have⟨i,j,hij,hj,e⟩:=OV (N^m) (λu=>cd N (g u)) (t+1) (λu hu=>by
  have b:=bs u (by lia)
  have:=HF (g u) b.lt;rwa[b.len]at this) (by lia)
 have bi:=bs i (by lia);have bj:=bs j (by lia);have eg:g i=g j:=DV _ _ (bi.len.trans bj.len.symm) bi.lt bj.lt e;have pL:0<j-i:=by lia
 have md:∀u,i+u%(j-i)<j:=λu=>by have:=Ue u pL;lia
 refine gr.no (m:=m) (N:=N) (A:=A) (b:=λu=>g (i+u%(j-i))) (s:=λu=>s (i+u%(j-i)) 0) (r:=λu=>r (i+u%(j-i)) 0) (L:=j-i) ⟨λu=>bs _ (by have:=md u;lia),λu=>st _ (by have:=md u;lia),λu=>?_,pL,λu=>?_,λu=>?_,λu=>?_⟩
 .rw[<-nx _ (by have:=md u;lia)];by_cases c:u%(j-i)+1<j-i
  .have:(u+1)%(j-i)=u%(j-i)+1:=by rw[Nat.add_mod,V9 (show 1<j-i by lia),V9 c]
   rw[this];rfl
  have h1:u%(j-i)+1=j-i:=by have:=Ue u pL;lia
  have:(u+1)%(j-i)=0:=by rw[<-Nat.mod_add_div u (j-i),Nat.add_right_comm,h1,Vh,Nat.mod_self]
  rw[this,show i+0=i from rfl,eg,show i+u%(j-i)+1=j by lia]
 all_goals rw[Nat.add_mod_right]
theorem zH:∀(post pre:List Vc),(∀c∈post,c 0=0)->ex D pre post=0
 |[],_,_=>rfl
 |c::post,pre,h=>by rw[ex,h c RC,zH post _ λx hx=>h x (RK _ hx)];lia
theorem xw:∀n:Nat,det n ((List.range n).map un)=1
 |0=>rfl
 |n+1=>by
  rw[List.range_succ_eq_map,Rh,RU,det,ex,zH _ _ λc hc=>by
   obtain⟨k,_,e⟩:=RG.mp hc;rw[<-e];rfl]
  have:List.map sh ([]++List.map (un∘Nat.succ) (List.range n))=(List.range n).map un:=by
   rw[TU,RU];refine Ru λk _=>funext λt=>?_;show(if t+1=k+1 then(1:Int)else 0)=if t=k then 1 else 0
   by_cases c:t=k;{rw[if_pos c,if_pos (by lia)]};rw[if_neg c,if_neg (by lia)]
  rw[this,xw n];rfl
def Bg{n:Nat}{v:Vc}{t:Nat}(h:t<n\/v t=0):v t=sm n λk=>v k*un k t:=by by_cases c:t<n;{rw[lZ c λk _ z=>by rw[un,if_neg (Ne.symm z),Ry],un,if_pos rfl,T9]};rw[eS λk hk=>by rw[un,if_neg (by lia),Ry]];exact h.resolve_left c
def v7{n k:Nat}(h:k<n):((List.range n).map un).getD k (λ_=>0)=un k:=by rw[RV,RO,RI h];rfl
def Jk{n k:Nat}(hk:k<n)(h:∀t,n<=t->v t=0):det n (((List.range n).map un).set k v)=v k:=by
 have l:((List.range n).map un).length=n:=by rw[RA,RH]
 have:=oj (B:=(List.range n).map un) (i:=k) (by lia) (n:=n) (cf:=v) (V:=un) (w:=v) (λt=>Bg (by
  by_cases c:t<n
  .exact .inl c
  .exact .inr (h t (by lia))))
 rw[l]at this;rw[this,lZ hk λi hi z=>?_]
 .have e:((List.range n).map un).set k (un k)=(List.range n).map un:=by have:=rN (l:=(List.range n).map un) (k:=k) (by lia);rwa[v7 hk]at this
  rw[e,xw,T9]
 have:=rY (B:=((List.range n).map un).set k (un i)) (i:=k) (j:=i) (by rw[Rf];lia) (by rw[Rf];lia) (Ne.symm z) (by
  rw[T7 (by lia),Si (Ne.symm z),w5 (by lia),v7 hi])
 rw[Rf,l]at this;rw[this,Ry]
structure Pb(m n:Nat)(A:Nat->Vc):Prop where
 out:∀j t,m<t->A j t=0
 bin:∀j t,j<n->t<m->A j t=0\/A j t=1
 nz:∀j,j<n->∃t,t<m/\A j t=1
 gl:∀j,j<n->A j m=-1
 un:∀k,k<m->A (n+k)=un k
 one:∀t,t<m->A (n+m) t=1
 top:A (n+m) m=0
variable{n:Nat}
def Pb.Ke(P:Pb m n A):Bm m A ((List.range m).map (n+·))=(List.range (m+1)).map Lp.un:=by rw[Bm,SN,RW,RU];congr 1;exact Ru λk hk=>P.un k (Rg.mp hk)
def Pb.t0(P:Pb m n A){k:Nat}(hk:k<m+1) (j:Nat):T m A ((List.range m).map (n+·)) k j=A j k:=by rw[T,P.Ke,Jk hk λt ht=>P.out j t (by lia)]
def Pb.d0(P:Pb m n A):dt m A ((List.range m).map (n+·))=1:=by rw[dt,P.Ke,xw]
def Pb.Q4(P:Pb m n A):Bs m (n+m) A ((List.range m).map (n+·)):=by refine⟨by rw[RA,RH],λc hc=>?_,by rw[P.d0];decide,λj t=>?_,λk hk=>?_⟩;{obtain⟨k,hk,e⟩:=RG.mp hc;have:=Rg.mp hk;lia};{rw[P.d0,Int.one_mul,P.Ke,aR λk hk=>by rw[P.t0 hk,v7 hk]];refine Bg ?_;by_cases c:t<m+1;{exact .inl c};exact .inr (P.out j t (by lia))};rw[P.t0 (by lia),P.one k hk];decide
variable{b:WN}
def Pb.K0(P:Pb m n A)(B:Bs m (n+m) A b) (j:Nat):T m A b m j=sm m (λk=>A j k*T m A b m (n+k))+A j m*dt m A b:=by
 have l:=mj (A:=A) B.len;have:=oj (B:=Bm m A b) (i:=m) (by lia) (n:=m+1) (cf:=A j) (V:=Lp.un) (w:=A j) (λt=>Bg (by
  by_cases c:t<m+1
  .exact .inl c
  .exact .inr (P.out j t (by lia))))
 rw[l]at this;have e:T m A b m j=det (m+1) ((Bm m A b).set m (A j)):=rfl;rw[e,this,sm,<-jO (A:=A) B.len,rN (by lia)];congr 1;refine aR λk hk=>?_;rw[<-P.un k hk];rfl
def Pb.MY(P:Pb m n A)(B:Bs m (n+m) A b){j:Nat}(hj:j<n):T m A b m j=sm m (λk=>A j k*T m A b m (n+k))-dt m A b:=by rw[P.K0 B,P.gl j hj];lia
def Pb.Pn(P:Pb m n A)(B:Bs m (n+m) A b):T m A b m (n+m)=sm m λk=>T m A b m (n+k):=by rw[P.K0 B,P.top,aR λk hk=>by rw[P.one k hk,Int.one_mul]];lia
def Pb.goal(P:Pb m n A)(B:Bs m (n+m) A b):T m A b m (n+m)=sm m λk=>if b.getD k 0<n then T m A b k (n+m)else 0:=by
 have h:=B.J (n+m) m;rw[P.top,Ry,sm,jO B.len,Lp.un,if_pos rfl,T9,aR λk hk=>by rw[mL B.len hk]]at h;have e:(sm m λk=>T m A b k (n+m)*A (b.getD k 0) m)=- sm m λk=>if b.getD k 0<n then T m A b k (n+m)else 0:=by
  rw[show(- sm m λk=>if b.getD k 0<n then T m A b k (n+m)else 0)=(-1)*sm m λk=>if b.getD k 0<n then T m A b k (n+m)else 0 by lia,<-fG];refine aR λk hk=>?_;have hb:=B.lt (b.getD k 0) (by
   rw[RV,RS (by rw[B.len];exact hk)]
   exact UY _)
  by_cases c:b.getD k 0<n;{rw[if_pos c,P.gl _ c];lia};rw[if_neg c,show b.getD k 0=n+(b.getD k 0-n)by lia,P.un _ (by lia),Lp.un,if_neg (by lia)];lia
 lia
def Pb.place(P:Pb m n A)(B:Bs m (n+m) A b){t:Nat}(ht:t<m):(sm m λk=>if b.getD k 0<n then T m A b k (n+m)*A (b.getD k 0) t else 0)<=dt m A b:=by
 have h:=B.J (n+m) t;rw[P.one t ht,T9,sm,jO B.len,Lp.un,if_neg (by lia),Ry,Int.add_zero,aR λk hk=>by rw[mL B.len hk]]at h;rw[h];refine m8 λk hk=>?_;have hb:=B.lt (b.getD k 0) (by
  rw[RV,RS (by rw[B.len];exact hk)]
  exact UY _)
 by_cases c:b.getD k 0<n;{rw[if_pos c];exact Tw _};rw[if_neg c,show b.getD k 0=n+(b.getD k 0-n)by lia,P.un _ (by lia),Lp.un];split;{rw[T9];exact B.rhs k hk};rw[Ry];exact Tw _
def Pb.bound(P:Pb m n A)(B:Bs m (n+m) A b){s:Nat}(hs:s<n+m):∃k,k<m/\0<T m A b k s:=by
 refine Tz λz=>?_;have⟨t,ht,e⟩:∃t,t<m/\A s t=1:=by by_cases c:s<n;{exact P.nz s c};exact⟨s-n,by lia,by rw[show A s=A (n+(s-n))by rw[show n+(s-n)=s by lia],P.un _ (by lia),Lp.un,if_pos rfl]⟩
 have h:=B.J s t;rw[e,T9,sm,jO B.len,Lp.un,if_neg (by lia),Ry,Int.add_zero,aR λk hk=>by rw[mL B.len hk]]at h;have le:(sm m λk=>T m A b k s*A (b.getD k 0) t)<=sm m λ_=>0:=m8 λk hk=>by
  refine V7 (Sa.mp λy=>z ⟨k,hk,y⟩) ?_;have hb:=B.lt (b.getD k 0) (by
   rw[RV,RS (by rw[B.len];exact hk)]
   exact UY _)
  by_cases c:b.getD k 0<n;{rcases P.bin _ t c ht with y|y<;>rw[y]<;>decide};rw[show b.getD k 0=n+(b.getD k 0-n)by lia,P.un _ (by lia),Lp.un];split<;>decide
 rw[eS (f:=λ_=>0) λ_ _=>rfl]at le;have:=B.pos;lia
noncomputable def zJ:Nat->Int
 |0=>1
 |n+1=>((n+1:Nat):Int)*zJ n
noncomputable def vQ (c:Vc):Prop:=∀t,-1<=c t/\c t<=1
theorem HM{q:Int}:∀(post pre:List Vc),(∀l:List Vc,l.length+1=pre.length+post.length->(∀c∈l,vQ c)->-q<=D l/\D l<=q)->(∀c∈pre,vQ c)->(∀c∈post,vQ c)->-((post.length:Int)*q)<=ex D pre post/\ex D pre post<=(post.length:Int)*q
 |[],_,_,_,_=>by rw[ex];simp
 |c::post,pre,hD,h1,h2=>by
  have r:=HM post (pre++[c]) (λl hl=>hD l (by simp only[RM,RT,S5]at hl⊢;lia)) (λx hx=>(RY.mp hx).elim (h1 x) λy=>RE.mp y▸h2 c RC) (λx hx=>h2 x (RK _ hx));have d:=hD ((pre++post).map sh) (by simp only[RA,RM,RT];lia) (λx hx=>by
   obtain⟨y,hy,e⟩:=RG.mp hx;rw[<-e];exact λt=>((RY.mp hy).elim (h1 y) λz=>h2 y (RK _ z)) (t+1))
  have c0:=h2 c RC 0;have e:c 0=-1\/c 0=0\/c 0=1:=by lia
  rw[ex,RT,Int.natCast_add,Int.add_mul];rcases e with e|e|e<;>rw[e]<;>lia
theorem xK:∀(n:Nat)(cs:List Vc),cs.length=n->(∀c∈cs,vQ c)->- zJ n<=det n cs/\det n cs<=zJ n
 |0,_,_,_=>by rw[det,zJ];decide
 |n+1,cs,h,hs=>by have:=HM (D:=det n) (q:=zJ n) cs [] (λl hl hc=>xK n l (by simp only[S5]at hl;lia) hc) (λc hc=>by simp at hc) hs;rw[h]at this;exact this
end
end Lp
namespace PB
open PySem L2 Dv Gr
def Ef{c:Prop} [i:Decidable c]{α:Type}{a b:Option α}{Q:α->Prop}(h:¬c)(p:ay b Q):ay (if c then a else b) Q:=by rw[if_neg h];exact p
noncomputable abbrev vj (F:Nat->Int) (c:Nat):PyData:=.list ((List.range c).map λj=>PyData.int (F j))
noncomputable abbrev tb (F:Nat->Nat->Int) (m c:Nat):PyData:=.list ((List.range m).map λk=>vj (F k) c)
noncomputable def mA (l:List eo) (m:Nat):Nat->Lp.Vc:=λj t=>if j<l.length then(if t<m then(if t∈(l.getD j (.inl 0,.inl 0,[])).2.2 then 1 else 0)else if t=m then-1 else 0)else if j<l.length+m then(if t=j-l.length then 1 else 0)else(if t<m then 1 else 0)
def zq{α β:Type}{f:α->β}{d:α}:∀{l:List α},l.map f=(List.range l.length).map λj=>f (l.getD j d):=λ{l}=>by refine Rw λi=>?_;rw[RO,RO];by_cases h:i<l.length;{rw[RI h,RS h];show some (f l[i])=some (f (l.getD i d));rw[RV,RS h];rfl};rw[Rb (by lia),Rb (by rw[RH];lia)];rfl
def mO{α:Type}{f:Nat->α}{a b:Nat}:(List.range (a+b)).map f=(List.range a).map f++(List.range b).map λj=>f (a+j):=by rw[List.range_add,RW,RU];rfl
def EY{l:List eo}{m i:Nat}(hi:i<m):(l.map λe=>PyData.int (if i∈e.2.2 then 1 else 0))++(List.range m).map (λj=>PyData.int (if i=j then 1 else 0))++[.int 1]=(List.range (l.length+m+1)).map λj=>PyData.int (mA l m j i):=by rw[mO,mO,zq (d:=(.inl 0,.inl 0,[]))];congr 1;{congr 1;{refine Ru λj hj=>?_;have hj:=Rg.mp hj;unfold mA;rw[if_pos hj,if_pos hi]};refine Ru λj hj=>?_;have hj:=Rg.mp hj;unfold mA;rw[if_neg (show ¬l.length+j<l.length by lia),if_pos (show l.length+j<l.length+m by lia),U8]};show _=[PyData.int (mA l m (l.length+m+0) i)];unfold mA;rw[if_neg (show ¬l.length+m+0<l.length by lia),if_neg (show ¬l.length+m+0<l.length+m by lia),if_pos hi]
def Fx{l:List eo}{m:Nat}:List.replicate l.length (PyData.int (-1))++List.replicate (m+1) (PyData.int 0)=(List.range (l.length+m+1)).map λj=>PyData.int (mA l m j m):=by rw[Sw,mO];congr 1;{refine Rw λj=>?_;rw[RO];by_cases h:j<l.length;{rw[RI h,UM,if_pos h];show some _=some (PyData.int (mA l m j m));unfold mA;rw[if_pos h,if_neg (S7 m),if_pos rfl]};rw[Rb (by rw[SR];lia),Rb (by rw[RH];lia)];rfl};refine Rw λj=>?_;rw[RO];by_cases h:j<m+1;{rw[RI h,UM,if_pos h];show some _=some (PyData.int (mA l m (l.length+j) m));unfold mA;rw[if_neg (show ¬l.length+j<l.length by lia)];by_cases c:l.length+j<l.length+m;{rw[if_pos c,if_neg (by lia)]};rw[if_neg c,if_neg (S7 m)]};rw[Rb (by rw[SR];lia),Rb (by rw[RH];lia)];rfl
noncomputable def AA:bC:=λdd Q x=>∃(l:List eo) (m:Nat),dd=[.list (l.map p3),iD m]/\l.length<=100000/\m<=7/\Q [] (.ow false) (tb (λk j=>mA l m j k) (m+1) (l.length+m+1))
def Lk:∀dd Q x,AA dd Q x->j7 (aZ [false,false] Q x) (ini [false,false] dd++List.replicate 7 none):=by
 rintro _ Q x⟨l,m,rfl,hl,hm,q⟩;unfold j7;refine bz λB hB=>?_;rfl';refine⟨by decide,?_⟩;rw[hB];clear hB B;refine bz λB hB=>?_;rfl';rw[if_pos (by lia)];refine aq rfl ?_;refine gw (λi E=>zC λ(o3 o4 o5:Option (Kd×PyData))=>vP (E=[some (.sh,.list (l.map p3)),some (.sh,iD m),some (.ow false,tb (λk j=>mA l m j k) i (l.length+m+1)),o3,o4,o5,none,none,none]) (aV o3=true) (aV o4=true) (aV o5=true)) ⟨none,none,none,rfl,rfl,rfl,rfl⟩ ?_ ?_
 .rintro J i _ hi hJ⟨o3,o4,o5,rfl,z3,z4,z5⟩;simp![z3];refine eW (λe:eo=>PyData.int (if i∈e.2.2 then 1 else 0)) rfl (λe he I hI=>?_) ?_ (by lia)
  .rfl';refine⟨⟨by rw[RX];intro y _;rfl,rfl⟩,?_⟩;have em:(iD i∈e.2.2.map iD)=(i∈e.2.2):=propext ⟨λz=>by
    obtain⟨y,hy,ey⟩:=RG.mp z;rw[<-Du.mp ey];exact hy,λz=>UE z⟩
   by_cases c:i∈e.2.2;{rw[if_pos (by rw[em];exact c)];rw[if_pos c]at hI;exact hI _ rfl};rw[if_neg (by rw[em];exact c)];rw[if_neg c]at hI;exact hI _ rfl
  rfl';refine⟨z4,?_⟩;rw[if_pos (by lia)];refine aq rfl (eW (λj=>PyData.int (if i=j then 1 else 0)) rfl (λj hj I hI=>?_) ?_ (by rw[RH];lia));{rfl';by_cases c:i=j;{rw[if_pos c];rw[if_pos c]at hI;exact hI _ rfl};rw[if_neg c];rw[if_neg c]at hI;exact hI _ rfl};rfl';refine⟨z5,by lia,by decide,by rw[RM,RA,RA,RH];lia,by lia,hJ _ ⟨some (.sh,iD i),some (.ow false,.list (l.map λe=>PyData.int (if i∈e.2.2 then 1 else 0))),some (.ow false,.list ((List.range m).map λj=>PyData.int (if i=j then 1 else 0))),?_,rfl,rfl,rfl⟩⟩;rw[EY hi];show _=[_,_,some (Kd.ow false,PyData.list ((List.range (i+1)).map λk=>vj (λj=>mA l m j k) (l.length+m+1))),_,_,_,_,_,_];rw[SN (n:=i),RW];rfl
 rintro _⟨o3,o4,o5,rfl,z3,z4,z5⟩;show B _;rw[hB];clear hB B;rfl';have t1:((m:Int)+1).toNat=m+1:=by lia
 rw[t1,VA,VA,Fx];refine⟨by decide,⟨by lia,by lia,by lia⟩,by decide,⟨by lia,by lia,by lia⟩,by rw[SR,SR];lia,by decide,by lia,Ef (by rw[UA];decide) (aq rfl ?_)⟩;have e:tb (λk j=>mA l m j k) (m+1) (l.length+m+1)=.list (((List.range m).map λk=>vj (λj=>mA l m j k) (l.length+m+1))++[PyData.list ((List.range (l.length+m+1)).map λj=>PyData.int (mA l m j m))]):=by show PyData.list _=_;rw[SN (n:=m),RW];rfl
 rw[e]at q;exact q
noncomputable def Bd (F:Nat->Nat->Int):Prop:=∀k j,-100000<=F k j/\F k j<=100000
noncomputable def l8 (F:Nat->Nat->Int)(b:WN) (c s p q:Nat):Prop:=F p c*F q s<F q c*F p s\/(F p c*F q s=F q c*F p s/\b.getD p 0<b.getD q 0)
instance {F:Nat->Nat->Int}{b:WN}{c s p q:Nat}:Decidable (l8 F b c s p q):=inferInstanceAs (Decidable (_\/_))
def i8{f:Nat->PyData}{c:Nat}:cY ((List.range (c+1)).map f) (-1)=some (f c):=by
 have e:ly ((List.range (c+1)).map f).length (-1)=some c:=by rw[RA,RH];unfold ly;rw[if_neg (by decide),if_pos (by lia)];exact congrArg some (by lia)
 unfold cY;rw[e];show((List.range (c+1)).map f)[c]?=_;rw[RO,RI (by lia)];rfl
noncomputable def BP:bC:=λdd Q x=>∃(F:Nat->Nat->Int)(b:WN) (m c s p q:Nat),dd=[tb F m (c+1),nD b,iD s,iD p,iD q]/\Bd F/\m<=b.length+1/\s<c/\p<b.length/\q<b.length/\p<m/\q<m/\Q [] .sh (.bool (decide (l8 F b c s p q)))
def LW:∀dd Q x,BP dd Q x->jV (aZ [false,false,false,false,false] Q x) (ini [false,false,false,false,false] dd++List.replicate 2 none):=by
 rintro _ Q x⟨F,b,m,c,s,p,q,rfl,bd,hb,hs,hpb,hqb,hp,hq,hQ⟩;unfold jV;refine bz λB hB=>?_;rfl';refine aq (RI hp) (aq i8 (aq (RI hq) (aq (RI (show s<c+1 by lia)) ⟨.inl ⟨by have:=bd p c;lia,by have:=bd p c;lia⟩,?_⟩)));show B _;rw[hB];clear hB B;refine bz λB hB=>?_;rfl';refine aq (RI hq) (aq i8 (aq (RI hp) (aq (RI (show s<c+1 by lia)) ⟨.inl ⟨by have:=bd q c;lia,by have:=bd q c;lia⟩,?_⟩)));show B _;rw[hB];clear hB B;rfl';have gp:b[p]?=some (b.getD p 0):=by rw[RV,RS hpb];rfl
 have gq:b[q]?=some (b.getD q 0):=by rw[RV,RS hqb];rfl
 by_cases c1:F p c*F q s<F q c*F p s;{rw[if_pos c1];rwa[Rv (show l8 F b c s p q from .inl c1)]at hQ};rw[if_neg c1];by_cases c2:F p c*F q s=F q c*F p s
 .rw[if_pos c2];refine aq gp (aq gq ?_);have e:decide (l8 F b c s p q)=decide (b.getD p 0<b.getD q 0):=by refine decide_eq_decide.mpr ⟨λh=>h.elim (λz=>absurd z c1) λz=>z.2,λh=>.inr ⟨c2,h⟩⟩
  rwa[e]at hQ
 rw[if_neg c2];rwa[Ro (show ¬l8 F b c s p q from λh=>h.elim c1 λz=>c2 z.1)]at hQ
def Ab{F:Nat->Nat->Int}{c s p:Nat}:¬l8 F b c s p p:=λh=>h.elim (Int.lt_irrefl _) λz=>S7 _ z.2
def CF{F:Nat->Nat->Int}{c s p q r:Nat}(hp:0<F p s)(hq:0<F q s)(hr:0<F r s)(h1:l8 F b c s p q)(h2:l8 F b c s q r):l8 F b c s p r:=by have w:∀{x y:Nat},l8 F b c s x y->F x c*F y s<=F y c*F x s:=λ{x y} h=>h.elim UH λz=>Sm z.1;have w1:=w h1;have w2:=w h2;have w3:=Lp.nJ hq hr hp w1 w2;by_cases e:F p c*F r s=F r c*F p s;{have b1:=Lp.nJ hr hp hq w2 (Sm e.symm);have b2:=Lp.nJ hp hq hr (Sm e.symm) w1;rcases h1 with h1|h1;{lia};rcases h2 with h2|h2;{lia};exact .inr ⟨e,by lia⟩};exact .inl (by omega)
noncomputable def AL:bC:=λdd Q x=>∃(F:Nat->Nat->Int)(b:WN) (m c s:Nat),dd=[tb F m (c+1),nD b,iD s]/\Bd F/\m=b.length+1/\m<=100/\s<c/\(∃k,k<b.length/\0<F k s)/\∀r,r<b.length->0<F r s->(∀k,k<b.length->0<F k s->¬l8 F b c s k r)->Q [] .sh (iD r)
noncomputable def Qu (F:Nat->Nat->Int)(b:WN) (c s i:Nat)(d:PyData):Prop:=(d=.none/\∀k,k<i->¬0<F k s)\/∃r,r<i/\d=iD r/\0<F r s/\∀k,k<i->0<F k s->¬l8 F b c s k r
def K5:∀dd Q x,AL dd Q x->mU BP (aZ [false,false,false] Q x) (ini [false,false,false] dd++List.replicate 2 none):=by rintro _ Q x⟨F,b,m,c,s,rfl,bd,hb,hm,hs,some1,hQ⟩;unfold mU;refine bz λB hB=>?_;rfl';rw[hB];clear hB B;refine bz λB hB=>?_;rfl';rw[if_pos (by lia)];refine aq rfl ?_;refine gw (λi E=>v8 λ(d:PyData)(o4:Option (Kd×PyData))=>Ar (E=[some (.sh,tb F m (c+1)),some (.sh,nD b),some (.sh,iD s),some (.sh,d),o4]) (aV o4=true) (Qu F b c s i d)) ⟨.none,none,rfl,rfl,.inl ⟨rfl,λk hk=>by lia⟩⟩ ?_ ?_;{rintro J i _ hi hJ⟨d,o4,rfl,z4,hd⟩;simp![z4];refine aq (RI (show i<m by lia)) (aq (RI (show s<c+1 by lia)) ?_);by_cases pi:0<F i s;{rw[if_pos pi];rcases hd with⟨rfl,h⟩|⟨r,hr,rfl,pr,h⟩;{rfl';refine hJ _ ⟨iD i,some (.sh,iD i),rfl,rfl,.inr ⟨i,UX i,rfl,pi,λk hk pk z=>?_⟩⟩;by_cases e:k=i;{subst e;exact Ab z};exact h k (by lia) pk};rfl';refine⟨F,b,m,c,s,i,r,rfl,bd,by lia,hs,hi,by lia,by lia,by lia,?_⟩;rfl';by_cases t:l8 F b c s i r;{rw[if_pos t];refine hJ _ ⟨iD i,some (.sh,iD i),rfl,rfl,.inr ⟨i,UX i,rfl,pi,λk hk pk z=>?_⟩⟩;by_cases e:k=i;{subst e;exact Ab z};exact h k (by lia) pk (CF pk pi pr z t)};rw[if_neg t];refine hJ _ ⟨iD r,some (.sh,iD i),rfl,rfl,.inr ⟨r,by lia,rfl,pr,λk hk pk z=>?_⟩⟩;by_cases e:k=i;{subst e;exact t z};exact h k (by lia) pk z};rw[if_neg pi];refine hJ _ ⟨d,some (.sh,iD i),rfl,rfl,?_⟩;rcases hd with⟨rfl,h⟩|⟨r,hr,rfl,pr,h⟩;{refine .inl ⟨rfl,λk hk pk=>?_⟩;by_cases e:k=i;{subst e;exact pi pk};exact h k (by lia) pk};refine .inr ⟨r,by lia,rfl,pr,λk hk pk z=>?_⟩;by_cases e:k=i;{subst e;exact pi pk};exact h k (by lia) pk z};rintro _⟨d,o4,rfl,z4,hd⟩;show B _;rw[hB];clear hB B;rfl';rcases hd with⟨_,h⟩|⟨r,hr,rfl,pr,h⟩;{obtain⟨k,hk,pk⟩:=some1;exact absurd pk (h k hk)};exact hQ r hr pr h
noncomputable def uH (F:Nat->Nat->Int) (d:Int) (r s:Nat):Nat->Nat->Int:=λk j=>if k=r then F r j else(F k j*F r s-F k s*F r j)/d
def OM{m:Nat}:(List.range m).zipIdx=(List.range m).map λp=>(p,p):=by refine Rw λi=>?_;rw[Uv,RO];by_cases h:i<m;{rw[RI h];show some (i,0+i)=some (i,i);rw[Nat.zero_add]};rw[Rb (by rw[RH];lia)];rfl
def GN{l:WN}:l.zip l=l.map λp=>(p,p):=by rw[List.zip_eq_zipWith,List.zipWith_self]
def Ae{F:Nat->Nat->Int}{m c:Nat}:tb F (m+1) c=.list (((List.range m).map λk=>vj (F k) c)++[vj (F m) c]):=by show PyData.list _=_;rw[SN (n:=m),RW];rfl
noncomputable def AJ:bC:=λdd Q x=>∃(F:Nat->Nat->Int) (d:Int) (m c r s:Nat),dd=[tb F m (c+1),.int d,iD r,iD s]/\Bd F/\0<d/\d<=100000/\m<=100/\r<m/\s<c/\c<=200000/\Q [] (.ow false) (tb (uH F d r s) m (c+1))
def Ls:∀dd Q x,AJ dd Q x->qM (aZ [false,false,false,false] Q x) (ini [false,false,false,false] dd++List.replicate 6 none):=by rintro _ Q x⟨F,d,m,c,r,s,rfl,bd,pd,hd,hm,hr,hs,hc,hQ⟩;unfold qM;refine bz λB hB=>?_;rfl';refine aq (RI hr) ?_;rfl';rw[hB];clear hB B;refine bz λB hB=>?_;rfl';refine⟨by decide,?_⟩;rw[hB];clear hB B;refine bz λB hB=>?_;rfl';rw[OM,RU];refine gw (λi E=>v8 λ(o6 o7:Option (Kd×PyData))=>Ar (E=[some (.sh,tb F m (c+1)),some (.sh,.int d),some (.sh,iD r),some (.sh,iD s),some (.sh,vj (F r) (c+1)),some (.ow false,tb (uH F d r s) i (c+1)),o6,o7,none,none]) (aV o6=true) (aV o7=true)) ⟨none,none,rfl,rfl,rfl⟩ ?_ ?_;{rintro J i _ hi hJ⟨o6,o7,rfl,z6,z7⟩;simp![z6,z7,Function.comp];by_cases e:i=r;{rw[if_pos e];refine⟨by lia,hJ _ ⟨some (.sh,iD i),some (.sh,vj (F i) (c+1)),?_,rfl,rfl⟩⟩;rw[Ae,show uH F d r s i=F r from funext λj=>if_pos e]};rw[if_neg e,GN,RU];refine eW (λj=>PyData.int (uH F d r s i j)) rfl (λj hj I hI=>?_) ?_ (by rw[RH];lia);{have hj:=Rg.mp hj;simp![Function.comp];refine aq (RI (show s<c+1 by lia)) ?_;have b1:=bd r s;have b2:=bd i s;refine⟨.inr ⟨by lia,by lia⟩,aq (RI (show s<c+1 by lia)) ⟨.inl ⟨by lia,by lia⟩,⟨pd,by lia⟩,?_⟩⟩;have et:uH F d r s i j=(F i j*F r s-F i s*F r j)/d:=if_neg e;rw[et]at hI;exact hI _ rfl};rfl';refine⟨by lia,hJ _ ⟨some (.sh,iD i),some (.sh,vj (F i) (c+1)),?_,rfl,rfl⟩⟩;rw[Ae]};rintro _⟨o6,o7,rfl,z6,z7⟩;show B _;rw[hB];clear hB B;rfl';exact hQ
def DJ{m j:Nat}:Lp.vQ (mA l m j):=λt=>by unfold mA;split;{split;{split<;>decide};split<;>decide};split;{split<;>decide};split<;>decide
def My{i:Nat}:Lp.vQ (Lp.un i):=λt=>by unfold Lp.un;split<;>decide
def D6:∀{m:Nat},m<=8->Lp.zJ m<=100000
 |0,_=>by decide
 |1,_=>by decide
 |2,_=>by decide
 |3,_=>by decide
 |4,_=>by decide
 |5,_=>by decide
 |6,_=>by decide
 |7,_=>by decide
 |8,_=>by decide
def Dt{m:Nat}:∀c∈Lp.Bm m (mA l m) b,Lp.vQ c:=λc hc=>by unfold Lp.Bm at hc;rcases RY.mp hc with h|h;{obtain⟨j,_,rfl⟩:=RG.mp h;exact DJ};rw[RE.mp h];exact My
def MS{m:Nat}(hb:b.length=m)(hm:m<=7):Bd (Lp.T m (mA l m) b):=λk j=>by
 have h:=Lp.xK (m+1) ((Lp.Bm m (mA l m) b).set k (mA l m j)) (by rw[Rf,Lp.mj hb]) λc hc=>by rcases Vg hc with z|z;{exact Dt c z};rw[z];exact DJ
 have:=D6 (m:=m+1) (by lia);unfold Lp.T;lia
def MJ{m:Nat}(hb:b.length=m)(hm:m<=7):Lp.dt m (mA l m) b<=100000:=by have h:=Lp.xK (m+1) (Lp.Bm m (mA l m) b) (Lp.mj hb) Dt;have:=D6 (m:=m+1) (by lia);unfold Lp.dt;lia
noncomputable def KC (m:Nat)(l:List eo):Prop:=∀e∈l,(∃t,t<m/\t∈e.2.2)
def rG{m:Nat}(h:KC m l):Lp.Pb m l.length (mA l m):=by
 refine⟨λj t ht=>?_,λj t hj ht=>?_,λj hj=>?_,λj hj=>?_,λk hk=>funext λt=>?_,λt ht=>?_,?_⟩;{unfold mA;split;{rw[if_neg (by lia),if_neg (by lia)]};split;{rw[if_neg (by lia)]};rw[if_neg (by lia)]};{unfold mA;rw[if_pos hj,if_pos ht];split;{exact .inr rfl};exact .inl rfl}
 .have gj:l[j]?=some (l.getD j (.inl 0,.inl 0,[])):=by rw[RV,RS hj];rfl
  obtain⟨t,ht,mt⟩:=h _ (Rj gj);refine⟨t,ht,?_⟩;unfold mA;rw[if_pos hj,if_pos ht,if_pos mt]
 .unfold mA;rw[if_pos hj,if_neg (S7 m),if_pos rfl]
 .unfold mA Lp.un;rw[if_neg (show ¬l.length+k<l.length by lia),if_pos (show l.length+k<l.length+m by lia),U8]
 .unfold mA;rw[if_neg (by lia),if_neg (by lia),if_pos ht]
 unfold mA;rw[if_neg (by lia),if_neg (by lia),if_neg (S7 m)]
def Nv{m s r:Nat}(H:Lp.Bs m (l.length+m) (mA l m) b)(hr:r<m):∀k j,k<m+1->uH (Lp.T m (mA l m) b) (Lp.dt m (mA l m) b) r s k j=Lp.T m (mA l m) (b.set r s) k j:=λk j hk=>by unfold uH;by_cases e:k=r;{rw[if_pos e,e];exact(Lp.pX H hr j).symm};rw[if_neg e];have h:=Lp.sQ H hr (c:=s) hk e j;have p:=H.pos;rw[show Lp.T m (mA l m) b k j*Lp.T m (mA l m) b r s-Lp.T m (mA l m) b k s*Lp.T m (mA l m) b r j=Lp.dt m (mA l m) b*Lp.T m (mA l m) (b.set r s) k j by rw[h,S9 (Lp.T m (mA l m) b k j)]];exact Int.mul_ediv_cancel_left _ (by lia)
structure jH(l:List eo) (m:Nat)(b:WN):Prop where
 bs:Lp.Bs m (l.length+m) (mA l m) b
 nn:∀j,j<l.length+m->0<=Lp.T m (mA l m) b m j
noncomputable def Cd:bC:=λdd Q x=>∃(l:List eo) (m:Nat),dd=[.list (l.map p3),iD m]/\l.length<=100000/\1<=m/\m<=7/\KC m l/\∀b,jH l m b->Q [] .sh (.tuple [.int (Lp.dt m (mA l m) b),nD b,tb (Lp.T m (mA l m) b) (m+1) (l.length+m+1)])
def rF{f:Nat->PyData}{c:Nat}:cutD ((List.range (c+1)).map f) none (some (-1))=(List.range c).map f:=by
 unfold cutD;have e1:HT.aK ((List.range (c+1)).map f).length ((List.range (c+1)).map f).length (some (-1))=c:=by rw[RA,RH];show(if(-1:Int)<0 then((-1:Int)+((c+1:Nat):Int)).toNat else min (-1:Int).toNat (c+1))=c;rw[if_pos (by decide)];lia
 have e2:HT.aK ((List.range (c+1)).map f).length 0 none=0:=rfl;rw[e1,e2,UT,Uu,<-UB,List.take_range,Tt (by lia)]
def QN{F:Nat->Nat->Int}{m c:Nat}{k2:Kd}{o0 o1:Option (Kd×PyData)}{os:En}{x:XC}{f:En->Bool->Prop}(bd:Bd F)(pc:0<c)(hk:k2=.sh\/k2=.ow false)(G:∀t:Bool,(t=true->∃j,j<c/\F m j<0)->(t=false->∀j,j<c->0<=F m j)->f (o0::o1::some (.sh,tb F (m+1) (c+1))::os) t) : bG (aa kO [.ev (aa kU [.ev (aa (jh false true) [.ev (aa av [.pk 2,.ev (aa fc [.ev (dC (.int 1))])]),.ev (aa fc [.ev (dC (.int 1))])])]),.ev (dC (.int 0))]) x (o0::o1::some (k2,tb F (m+1) (c+1))::os) f:=by
 have fin:∀{P:Kd->PyData->Prop},(∀M:Int,(∃j,j<c/\F m j=M)->(∀j,j<c->M<=F m j)->P .sh (.int M))->kU [.list ((List.range c).map λj=>.int (F m j))] P:=λ{P} h=>by
  have e:(List.range c).map (λj=>PyData.int (F m j))=((List.range c).map (F m)).map .int:=by rw[RU];rfl
  rw[e];refine⟨_,rfl,λz=>?_,λM h1 h2=>h M ?_ λj hj=>h2 _ (UE (Rg.mpr hj))⟩;{have:=congrArg List.length z;rw[RA,RH]at this;exact absurd this (show c≠0 by lia)};obtain⟨j,hj,e⟩:=RG.mp h1;exact⟨j,Rg.mp hj,e⟩
 rcases hk with rfl|rfl
 .rfl';refine aq i8 ?_;rfl';rw[rF];refine fin λM hM hall=>?_;rfl';by_cases c1:M<0
  .have g:=G true (λ_=>by
    obtain⟨j,hj,e⟩:=hM;exact⟨j,hj,by lia⟩) (λz=>by cases z)
   rw[<-Rv c1]at g;exact g
  have g:=G false (λz=>by cases z) (λ_ j hj=>by
   have:=hall j hj;lia)
  rw[<-Ro c1]at g;exact g
 rfl';refine aq i8 (Ef RZ (aq rfl ?_));rfl';rw[rF];refine fin λM hM hall=>?_;rfl';by_cases c1:M<0
 .have g:=G true (λ_=>by
   obtain⟨j,hj,e⟩:=hM;exact⟨j,hj,by lia⟩) (λz=>by cases z)
  rw[<-Rv c1]at g;exact g
 have g:=G false (λz=>by cases z) (λ_ j hj=>by
  have:=hall j hj;lia)
 rw[<-Ro c1]at g;exact g
def CN{p:Nat->Bool}{c s:Nat}(hs:s<c)(ps:p s=true)(h:∀j,j<s->p j=false):∃r,(List.range c).filter p=s::r:=by
 refine⟨((List.range (c-s-1)).map λj=>s+(j+1)).filter p,?_⟩;have e:List.range c=List.range s++s::(List.range (c-s-1)).map λj=>s+(j+1):=by have:=mO (f:=id) (a:=s) (b:=c-s-1+1);rw[List.map_id,List.map_id,show s+(c-s-1+1)=c by lia,List.range_succ_eq_map,Rh,RU]at this;exact this
 rw[e,List.filter_append,List.filter_eq_nil_iff.mpr λj hj=>by rw[h j (Rg.mp hj)];decide,TU,List.filter_cons_of_pos ps]
def KQ:∀dd Q x,Cd dd Q x->jz AA AL AJ (aZ [false,false] Q x) (ini [false,false] dd++List.replicate 7 none):=by
 rintro _ Q x⟨l,m,rfl,hl,m1,hm,P,q⟩;unfold jz;have pb:=rG P;refine bz λB hB=>?_;rfl';refine⟨l,m,rfl,hl,hm,?_⟩;rfl';rw[hB];clear hB B;refine bz λB hB=>?_;rfl';rw[if_pos (by lia)];refine aq rfl (eW (λj=>iD (l.length+j)) rfl (λj hj I hI=>?_) ?_ (by rw[RH];lia));{rfl';refine hI _ rfl};rfl';rw[hB];clear hB B;refine bz λB hB=>?_;rfl';rw[hB];clear hB B;refine bz λB hB=>?_;have b0e:PyData.list (List.map (λj=>iD (l.length+j)) (List.range m))=nD ((List.range m).map (l.length+·)):=by show _=PyData.list (((List.range m).map (l.length+·)).map iD);rw[RU];rfl
 have t0e:tb (λk j=>mA l m j k) (m+1) (l.length+m+1)=tb (Lp.T m (mA l m) ((List.range m).map (l.length+·))) (m+1) (l.length+m+1):=by refine congrArg PyData.list (Ru λk hk=>?_);refine congrArg PyData.list (Ru λj _=>?_);rw[pb.t0 (Rg.mp hk)]
 rw[b0e,t0e];refine NQ (λw E=>vd λ(b:WN) (t:Nat)(k2:Kd)(o5 o6:Option (Kd×PyData))=>LN (Lp.Run m (l.length+m) (mA l m) ((List.range m).map (l.length+·)) t b) (w+t=(l.length+m)^m) ((k2=.sh\/k2=.ow false)) (aV o5=true) (aV o6=true) (E=[some (.sh,.list (l.map p3)),some (.sh,iD m),some (k2,tb (Lp.T m (mA l m) b) (m+1) (l.length+m+1)),some (.ow false,nD b),some (.sh,.int (Lp.dt m (mA l m) b)),o5,o6,none,none])) ⟨(l.length+m)^m,(List.range m).map (l.length+·),0,.ow false,none,none,.zero _,rfl,.inr rfl,rfl,rfl,by rw[pb.d0]⟩ ?_;rintro J w _ hJ⟨b,t,k2,o5,o6,R,hw,hk2,z5,z6,rfl⟩;obtain⟨tl,H⟩:=R.short pb.Q4;have bl:=H.len;have dp:=H.pos;have bd:=MS (l:=l) bl hm;have db:=MJ (l:=l) bl hm;refine QN bd (show 0<l.length+m by lia) hk2 λt h1 h2=>?_;rcases t with _|_;{rw[if_neg (by decide)];show B _;rw[hB];clear hB B;rfl';exact⟨by decide,q b ⟨H,h2 rfl⟩⟩};rw[if_pos rfl];obtain⟨s,_,⟨hs,ng⟩,fst⟩:=Lp.first (P:=λj=>j<l.length+m/\Lp.T m (mA l m) b m j<0) _ (h1 rfl).choose_spec;have fst':∀j,j<s->0<=Lp.T m (mA l m) b m j:=λj hj=>Sa.mp λz=>fst j hj ⟨by lia,z⟩;refine bz λB hB=>?_;rfl';refine aq i8 ?_;rfl';rw[rF,rA,OM,RU];refine l7 (λj=>if decide (Lp.T m (mA l m) b m j<0)=true then some (iD j)else none) rfl (λj hj I hI=>?_) ?_ (by rw[RH];lia);{simp![Function.comp];by_cases c1:Lp.T m (mA l m) b m j<0;{rw[if_pos c1];rw[if_pos (Rv c1)]at hI;exact hI _ rfl};rw[if_neg c1];rw[if_neg (by rw[Ro c1];decide)]at hI;exact hI _ rfl};obtain⟨rs,er⟩:=CN (p:=λj=>decide (Lp.T m (mA l m) b m j<0)) hs (Rv ng) λj hj=>Ro (Sa.mpr (fst' j hj));rw[fH,er,Rh];simp![z5];rw[hB];clear hB B;refine bz λB hB=>?_;rfl';refine⟨_,b,m+1,l.length+m,s,rfl,bd,by rw[bl],by lia,hs,?_,λr hr pr tr=>?_⟩;{rw[bl];exact pb.bound H hs};simp![z6];rw[bl]at hr tr;have S:Lp.zU m (l.length+m) (mA l m) b s r:=by refine⟨hs,ng,fst',hr,pr,λk hk pk=>?_,λk hk pk e=>?_⟩;{exact Sa.mp λz=>tr k hk pk (.inl z)};exact Nat.not_lt.mp λz=>tr k hk pk (.inr ⟨e.symm,z⟩)
 rw[hB];clear hB B;refine bz λB hB=>?_;rfl';refine⟨_,_,m+1,l.length+m,r,s,rfl,bd,dp,db,by lia,by lia,hs,by lia,?_⟩;have et:tb (uH (Lp.T m (mA l m) b) (Lp.dt m (mA l m) b) r s) (m+1) (l.length+m+1)=tb (Lp.T m (mA l m) (b.set r s)) (m+1) (l.length+m+1):=by refine congrArg PyData.list (Ru λk hk=>?_);refine congrArg PyData.list (Ru λj _=>?_);rw[Nv H hr k j (Rg.mp hk)]
 rw[et];rfl';rw[hB];clear hB B;refine bz λB hB=>?_;rfl';refine aq (RI (show r<m+1 by lia)) (aq (RI (show s<l.length+m+1 by lia)) ?_);rw[hB,Lp.pX H hr,<-Lp.vK H hr];clear hB B;rfl';refine gR (by lia) (hJ (w-1) _ (by lia) ⟨b.set r s,t+1,.sh,some (.sh,iD s),some (.sh,iD r),R.snoc S,by lia,.inl rfl,rfl,rfl,?_⟩);rw[show PyData.list ((List.map iD b).set r (iD s))=nD (b.set r s)from congrArg PyData.list List.map_set.symm]
end PB
local macro_rules | `(tactic| bv_omega) => do let ls ← (List.range 216).toArray.mapM fun k => `(Lean.Parser.Tactic.simpLemma| $(Lean.mkIdent (.str `Dv s!"rr{k}")):ident); `(tactic| dsimp only[$ls,*, Dv.dyr0, Dv.dyr1, Dv.dyr2, Dv.dyr3, Nat.reduceBEq, Dv.iN, Dv.iZ, Dv.jR, Dv.jN, Dv.pQ])
namespace PB
open PySem L2 Dv Gr
def KP{m:Nat}{M:List (Th×Th)}:dl 8 (.list (M.map (fT m es)))=true:=by
 show((M.map (fT m es)).all (dl 7))=true;rw[RX];intro d hd;obtain⟨e,_,rfl⟩:=RG.mp hd;have h1:∀t:Th,dl 6 (bB t)=true:=λt=>by cases t<;>rfl
 have h2:dl 6 (nD (c8 m es e.1 e.2))=true:=by show(((c8 m es e.1 e.2).map iD).all (dl 5))=true;rw[RX];intro d hd;obtain⟨c,_,rfl⟩:=RG.mp hd;rfl
 show([bB e.1,bB e.2,nD (c8 m es e.1 e.2)].all (dl 6))=true;rw[RN,RN,RN,h1,h1,h2];rfl
end PB
local macro_rules | `(tactic| bv_omega) => do let ls ← (List.range 216).toArray.mapM fun k => `(Lean.Parser.Tactic.simpLemma| $(Lean.mkIdent (.str `Dv s!"rr{k}")):ident); `(tactic| dsimp only[$ls,*, Dv.dyr0, Dv.dyr1, Dv.dyr2, Dv.dyr3, Nat.reduceBEq, Dv.iN, Dv.iZ, Dv.jR, Dv.jN, Dv.pQ])
namespace PB
open PySem L2 Dv Gr
def zF:(cB T).length<=T.length*T.length:=by
 unfold cB;rw[List.length_flatMap];have h:∀(n:Nat),((List.range n).map λk=>((T.drop (k+1)).map λu=>(T.getD k (.inl 0),u)).length).sum<=n*T.length:=λn=>by
  induction n with
  |zero=>exact S3 _
  |succ n ih=>rw[SN,RW,Ut,Nat.succ_mul];refine Nat.add_le_add ih ?_;simp
 exact h _
end PB
local macro_rules | `(tactic| bv_omega) => do let ls ← (List.range 216).toArray.mapM fun k => `(Lean.Parser.Tactic.simpLemma| $(Lean.mkIdent (.str `Dv s!"rr{k}")):ident); `(tactic| dsimp only[$ls,*, Dv.dyr0, Dv.dyr1, Dv.dyr2, Dv.dyr3, Nat.reduceBEq])
namespace PB
open PySem L2 Dv Gr
def rB{m p x:Nat}(cn:f9 m es)(hp:p<m)(hx:x<m):aG es p x=0↔x=p:=by obtain⟨d,hd⟩:=cn p hp x hx;have h:=Dh hd;refine⟨λz=>?_,λz=>?_⟩;{have h1:=h.1;rw[show dst (c6 es) p x=0 from z]at h1;cases h1;rfl};subst z;exact xo ⟨.zero,λe he=>absurd he (TY e)⟩
noncomputable def qg:Th->WN
 |.inl x=>[x]
 |.inr e=>[e.1,e.2]
def Al{m p:Nat}(cn:f9 m es)(hp:p<m)(ht:TV m t):td es p t=0↔p∈qg t:=by
 cases t with
 |inl x=>show aG es p x=0↔p∈[x];rw[rB cn hp ht,RE];exact⟨λh=>h.symm,λh=>h.symm⟩
 |inr e=>have h1:=rB cn hp ht.1;have h2:=rB cn hp ht.2;show min (aG es p e.1) (aG es p e.2)=0↔p∈[e.1,e.2];simp only[RP,S4,Sg];refine⟨λh=>?_,λh=>?_⟩;{by_cases c:aG es p e.1=0;{exact .inl (h1.mp c).symm};exact .inr (h2.mp (by lia)).symm};rcases h with h|h;{have:=h1.mpr h.symm;lia};have:=h2.mpr h.symm;lia
def t8{m:Nat}(g:Good m es)(h:Sum.inr e∈aD k m es):e.1<e.2:=by rcases RY.mp h with h|h;{split at h;{cases h};obtain⟨_,_,z⟩:=RG.mp h;cases z};split at h;{cases h};obtain⟨f,hf,z⟩:=RG.mp h;cases z;exact(g.lt _ hf).1
def apart{k:Str}{m:Nat}{es:Vx}{t u:Th}(W:cI m es)(ht:t∈aD k m es)(hu:u∈aD k m es)(ne:t≠u):∃p,p<m/\p∈c8 m es t u:=by
 refine Tz λz=>ne ?_;have vt:=mQ W.gd t ht;have vu:=mQ W.gd u hu;have h:∀p,p<m->(p∈qg t↔p∈qg u):=λp hp=>by rw[<-Al W.cn hp vt,<-Al W.cn hp vu];have:td es p t=td es p u:=Tz λy=>z ⟨p,hp,T5.mpr ⟨Rg.mpr hp,Rv y⟩⟩;rw[this]
 cases t with
 |inl x=>
  cases u with
  |inl y=>have:=(h x vt).mp (RE.mpr rfl);rw[RE.mp this]
  |inr f=>have l:=t8 W.gd hu;have a1:=(h f.1 vu.1).mpr (by simp[qg]);have a2:=(h f.2 vu.2).mpr (by simp[qg]);have a1:=RE.mp a1;have a2:=RE.mp a2;lia
 |inr e=>
  have le:=t8 W.gd ht;cases u with
  |inl y=>have a1:=(h e.1 vt.1).mp (by simp[qg]);have a2:=(h e.2 vt.2).mp (by simp[qg]);have a1:=RE.mp a1;have a2:=RE.mp a2;lia
  |inr f=>have lf:=t8 W.gd hu;have a1:=(h e.1 vt.1).mp (by simp[qg]);have a2:=(h e.2 vt.2).mp (by simp[qg]);simp only[qg,RP,S4,Sg]at a1 a2;exact congrArg Sum.inr (Prod.ext (by lia) (by lia))
def IF(h:e∈cB T):e.1∈T/\e.2∈T/\(T.Nodup->e.1≠e.2):=by
 obtain⟨i,hi,he⟩:=Rq.mp h;have hi:=Rg.mp hi;obtain⟨u,hu,rfl⟩:=RG.mp he;have gi:T[i]?=some (T.getD i (.inl 0)):=by rw[RV,RS hi];rfl
 refine⟨Rj gi,Vf hu,λnd z=>?_⟩;obtain⟨j,hj⟩:=Sv hu;rw[List.getElem?_drop]at hj;have z:T.getD i (.inl 0)=u:=z;rw[<-z]at hj;have:=(VB hi nd).mp (gi.trans hj.symm);lia
def JY{f:Nat->PyData}{n m:Nat}:cutD ((List.range (n+m+1)).map f) (some (n:Int)) (some (-1))=(List.range m).map λk=>f (n+k):=by
 unfold cutD;have ln:((List.range (n+m+1)).map f).length=n+m+1:=by rw[RA,RH]
 have e1:HT.aK ((List.range (n+m+1)).map f).length ((List.range (n+m+1)).map f).length (some (-1))=n+m:=by rw[ln];show(if(-1:Int)<0 then((-1:Int)+((n+m+1:Nat):Int)).toNat else min (-1:Int).toNat (n+m+1))=n+m;rw[if_pos (by decide)];lia
 have e2:HT.aK ((List.range (n+m+1)).map f).length 0 (some (n:Int))=n:=by rw[HT.lY,ln];lia
 rw[e1,e2,Sw,mO,List.drop_left' (by rw[RA,RH]),U8,<-UB,List.take_range,Tt (by lia)]
def GB{b:WN}:b.zip (List.range (b.length+1))=(List.range b.length).map λi=>(b.getD i 0,i):=by refine Rw λi=>?_;rw[RO];by_cases h:i<b.length;{rw[RI h,(List.getElem?_zip_eq_some (z:=(b.getD i 0,i))).mpr ⟨by rw[RV,RS h];rfl,RI (by lia)⟩];rfl};rw[Rb (by rw[List.length_zip];lia),Rb (by rw[RH];lia)];rfl
noncomputable abbrev t3 (m:Nat)(es:Vx)(e:Th×Th):eo:=(e.1,e.2,c8 m es e.1 e.2)
structure k7(m:Nat)(es:Vx) (k:Str)(l:List eo):Prop where
 sub:∀e∈l,∃f∈cB (aD k m es),e=t3 m es f
 all:∀f∈cB (aD k m es),∃e∈l,e.2.2=c8 m es f.1 f.2
 few:l.length<=100000
def k7.prs{m:Nat}(R:k7 m es k l)(W:cI m es):KC m l:=λe he=>by obtain⟨f,hf,rfl⟩:=R.sub e he;obtain⟨h1,h2,h3⟩:=IF hf;exact apart W h1 h2 (h3 (qT W.gd))
noncomputable abbrev GR (l:List eo) (m:Nat)(b:WN) (i:Nat):PyData:=.tuple [bB (l.getD (b.getD i 0) (.inl 0,.inl 0,[])).1,bB (l.getD (b.getD i 0) (.inl 0,.inl 0,[])).2.1,.int (Lp.T m (mA l m) b i (l.length+m))]
noncomputable abbrev Pq (l:List eo) (m:Nat)(b:WN):PyData:=.tuple [.int (Lp.dt m (mA l m) b),.list ((List.range m).map λk=>.int (Lp.T m (mA l m) b m (l.length+k))),.list (((List.range m).filter λi=>decide (0<Lp.T m (mA l m) b i (l.length+m))&&decide (b.getD i 0<l.length)).map (GR l m b))]
noncomputable def Bc:bC:=λdd Q x=>∃m es k,dd=[wD m es,.str k]/\cI m es/\m<=7/\∀(l:List eo)(b:WN),k7 m es k l->jH l m b->Q [] .sh (Pq l m b)
def MH:∀dd Q x,Bc dd Q x->lE AS AN Br Cd (aZ [false,false] Q x) (ini [false,false] dd++List.replicate 10 none):=by
 rintro _ Q x⟨m,es,k,rfl,W,hm,q⟩;have gl:=mT W.gd;have m49:m*m<=49:=UD hm hm;have few:es.length<=25:=by lia
 unfold lE;refine bz λB hB=>?_;rfl';refine⟨m,es,rfl,hm,?_⟩;rfl';rw[hB];clear hB B;refine bz λB hB=>?_;rfl';refine⟨m,es,k,rfl,W,by lia,?_⟩;rfl';have ep:(cB (aD k m es)).map (fT m es)=((cB (aD k m es)).map (t3 m es)).map p3:=by rw[RU];rfl
 rw[ep];have lT:(aD k m es).length<=32:=by
  unfold aD;rw[RM];have a:(if k="ties" then []else(List.range m).map Sum.inl:List Th).length<=7:=by split<;>simp;lia
  have b:(if k="places" then []else es.map Sum.inr:List Th).length<=25:=by split<;>simp;lia
  lia
 have l2:=UD lT lT;have l3:(cB (aD k m es)).length<=1024:=Ri zF l2;refine⟨_,rfl,by rw[RA];lia,λl lk hs ha=>?_⟩;rw[RA]at lk;have R:k7 m es k l:=⟨λe he=>by
  obtain⟨f,hf,z⟩:=RG.mp (hs e he);exact⟨f,hf,z.symm⟩,λf hf=>ha _ (UE hf),by lia⟩
 have P:=R.prs W;have lb:=R.few;clear hs ha ep;rfl';rw[hB];clear hB B;refine bz λB hB=>?_;rfl';refine⟨l,m,rfl,lb,W.pos,hm,P,λb O=>?_⟩;have q:=q l b R O;have H:=O.bs;have bl:=H.len;rfl';rw[hB];clear hB B;refine bz λB hB=>?_;rfl';refine aq i8 ?_;rw[hB];clear hB B;refine bz λB hB=>?_;rfl';rw[JY];rw[hB];clear hB B;refine bz λB hB=>?_;rfl';have zb:b.zip (List.range (m+1))=(List.range m).map λi=>(b.getD i 0,i):=by have:=GB (b:=b);rwa[bl]at this
 rw[zb,RU];refine l7 (λi=>if decide (b.getD i 0<l.length)=true then some (.tuple [iD (b.getD i 0),.int (Lp.T m (mA l m) b i (l.length+m))])else none) rfl (λi hi I hI=>?_) ?_ (by rw[RH];lia);{simp![Function.comp];by_cases c1:b.getD i 0<l.length;{rw[if_pos c1];rw[if_pos (Rv c1)]at hI;exact aq i8 ⟨by decide,hI _ rfl⟩};rw[if_neg c1];rw[if_neg (by rw[Ro c1];decide)]at hI;exact hI _ rfl};rw[fH];rfl';rw[hB];clear hB B;refine bz λB hB=>?_;rfl';refine l7 (λi=>if decide (0<Lp.T m (mA l m) b i (l.length+m))=true then some (GR l m b i)else none) rfl (λi hi I hI=>?_) ?_ (by have:=Vi (λi=>decide (b.getD i 0<l.length)) (List.range m);rw[RH]at this;lia)
 .have hi:=T5.mp hi;have h1:=Rg.mp hi.1;have h2:=SY hi.2;rfl';have gb:l[b.getD i 0]?=some (l.getD (b.getD i 0) (.inl 0,.inl 0,[])):=by rw[RV (l:=l),RS h2];rfl
  by_cases c1:0<Lp.T m (mA l m) b i (l.length+m);{rw[if_pos c1];rw[if_pos (Rv c1)]at hI;exact aq gb (aq gb ⟨by decide,hI _ rfl⟩)};rw[if_neg c1];rw[if_neg (by rw[Ro c1];decide)]at hI;exact hI _ rfl
 rw[fH,List.filter_filter];rfl';rw[hB];clear hB B;rfl';exact⟨by decide,q⟩
noncomputable abbrev zD (ns:WO):PyData:=.list (ns.map .int)
noncomputable def uD (m:Nat)(es:Vx)(ns:WO)(e:Th×Th):Int:=Lp.sm m λp=>if p∈c8 m es e.1 e.2 then ns.getD p 0 else 0
theorem pT{f:Nat->Int}{p:Nat->Bool}:∀m:Nat,(((List.range m).filter p).map f).sum=Lp.sm m λk=>if p k=true then f k else 0
 |0=>rfl
 |m+1=>by rw[SN,List.filter_append,RW,Ut,pT m,Lp.sm];congr 1;by_cases c:p m=true;{rw[List.filter_cons_of_pos c,if_pos c];show f m+0=f m;lia};rw[List.filter_cons_of_neg c,if_neg c];rfl
def Mp{m:Nat}:((c8 m es e.1 e.2).map λp=>ns.getD p 0).sum=uD m es ns e:=by unfold uD c8;rw[pT];refine Lp.aR λk hk=>?_;by_cases c:decide (td es k e.1≠td es k e.2)=true;{rw[if_pos c,if_pos (T5.mpr ⟨Rg.mpr hk,c⟩)]};have nm:k∉(List.range m).filter λp=>decide (td es p e.1≠td es p e.2):=λz=>c (T5.mp z).2;rw[if_neg c,if_neg nm]
noncomputable def BU:bC:=λdd Q x=>∃(m:Nat)(es:Vx)(L:List (Th×Th))(ns:WO),dd=[.list (L.map (fT m es)),zD ns]/\m<=60/\ns.length=m/\L≠[]/\L.length<=100000/\∀M:Int,(∃e∈L,uD m es ns e=M)->(∀e∈L,M<=uD m es ns e)->Q [] .sh (.int M)
def MB:∀dd Q x,BU dd Q x->gH (aZ [false,false] Q x) (ini [false,false] dd++List.replicate 2 none):=by
 rintro _ Q x⟨m,es,L,ns,rfl,hm,hn,ne,hl,q⟩;unfold gH;rfl';refine eW (λe=>PyData.int (uD m es ns e)) rfl (λe he I hI=>?_) ?_ (by lia)
 .rfl';have lp:(c8 m es e.1 e.2).length<=m:=Ri (Vi ..) (by rw[RH];exact RB _);refine aq (a:=nD (c8 m es e.1 e.2)) rfl ?_;rfl';refine eW (λp=>PyData.int (ns.getD p 0)) rfl (λp hp I2 hI2=>?_) ?_ (by lia)
  .have hp:=Rg.mp (T5.mp hp).1;have gp:ns[p]?=some (ns.getD p 0):=by rw[RV,RS (by lia)];rfl
   rfl';exact aq gp (hI2 _ rfl)
  rfl';refine⟨(c8 m es e.1 e.2).map λp=>ns.getD p 0,by rw[RU];rfl,?_⟩;rfl';rw[Mp];exact hI _ rfl
 rfl';refine⟨L.map (uD m es ns),by rw[RU];rfl,λz=>ne (Vb.mp z),λM h1 h2=>?_⟩;obtain⟨e,he,rfl⟩:=RG.mp h1;exact q _ ⟨e,he,rfl⟩ λf hf=>h2 _ (UE hf)
def GK{α:Type}{f:Nat->α}{m y:Nat}{v:α}(hy:y<m):((List.range m).map f).set y v=(List.range m).map λp=>if p=y then v else f p:=by refine Rw λi=>?_;rw[SV,RO,RO];by_cases c:y=i;{subst c;rw[if_pos rfl,if_pos (by rw[RA,RH];exact hy),RI hy];show some v=some (if y=y then v else f y);rw[if_pos rfl]};rw[if_neg c];by_cases h:i<m;{rw[RI h];show some (f i)=some (if i=y then v else f i);rw[if_neg (Ne.symm c)]};rw[Rb (by rw[RH];lia)];rfl
noncomputable def kI (m:Nat)(es:Vx)(L:List (Th×Th))(ns:WO) (n p:Nat):Int:=Lp.sm n λk=>if p∈c8 m es (L.getD k (.inl 0,.inl 0)).1 (L.getD k (.inl 0,.inl 0)).2 then ns.getD k 0 else 0
noncomputable def Ci:bC:=λdd Q x=>∃(m:Nat)(es:Vx)(L:List (Th×Th))(ns:WO),dd=[iD m,.list (L.map (fT m es)),zD ns]/\1<=m/\m<=60/\ns.length=L.length/\L.length<=100000/\∀M:Int,(∃p,p<m/\kI m es L ns L.length p=M)->(∀p,p<m->kI m es L ns L.length p<=M)->Q [] .sh (.int M)
def Le:∀dd Q x,Ci dd Q x->iu (aZ [false,false,false] Q x) (ini [false,false,false] dd++List.replicate 3 none):=by
 rintro _ Q x⟨m,es,L,ns,rfl,m1,hm,hn,hl,q⟩;unfold iu;refine bz λB hB=>?_;rfl';refine⟨by decide,⟨by lia,by lia,by lia⟩,?_⟩;rw[hB,VA];clear hB B;refine bz λB hB=>?_;rfl';rw[if_pos (by lia)];refine aq rfl ?_;have e0:List.replicate m (PyData.int 0)=(List.range m).map λp=>PyData.int (kI m es L ns 0 p):=by refine Rw λi=>?_;rw[RO,UM];by_cases h:i<m;{rw[if_pos h,RI h];rfl};rw[if_neg h,Rb (by rw[RH];lia)];rfl
 rw[e0];refine gw (λn E=>v8 λ(o4 o5:Option (Kd×PyData))=>Ar (E=[some (.sh,iD m),some (.sh,.list (L.map (fT m es))),some (.sh,zD ns),some (.ow false,.list ((List.range m).map λp=>.int (kI m es L ns n p))),o4,o5]) (aV o4=true) (aV o5=true)) ⟨none,none,rfl,rfl,rfl⟩ ?_ ?_
 .rintro J n _ hn2 hJ⟨o4,o5,rfl,z4,z5⟩;have gn:L[n]?=some (L.getD n (.inl 0,.inl 0)):=by rw[RV,RS hn2];rfl
  have gz:ns[n]?=some (ns.getD n 0):=by rw[RV,RS (by lia)];rfl
  simp![z4];refine aq gn ?_;rfl';refine aq (a:=nD (c8 m es (L.getD n (.inl 0,.inl 0)).1 (L.getD n (.inl 0,.inl 0)).2)) rfl ?_;rfl';have ls:∀p,kI m es L ns (n+1) p=kI m es L ns n p+if p∈c8 m es (L.getD n (.inl 0,.inl 0)).1 (L.getD n (.inl 0,.inl 0)).2 then ns.getD n 0 else 0:=λp=>rfl
  have nd:(c8 m es (L.getD n (.inl 0,.inl 0)).1 (L.getD n (.inl 0,.inl 0)).2).Nodup:=List.Nodup.sublist List.filter_sublist TX;have lt:∀p∈c8 m es (L.getD n (.inl 0,.inl 0)).1 (L.getD n (.inl 0,.inl 0)).2,p<m:=λp hp=>Rg.mp (T5.mp hp).1;generalize c8 m es (L.getD n (.inl 0,.inl 0)).1 (L.getD n (.inl 0,.inl 0)).2=ps at ls nd lt⊢;refine mV (λt E=>∃(o5:Option (Kd×PyData)),E=[some (.sh,iD m),some (.sh,.list (L.map (fT m es))),some (.sh,zD ns),some (.ow false,.list ((List.range m).map λp=>.int (kI m es L ns n p+if p∈ps.take t then ns.getD n 0 else 0))),some (.sh,iD n),o5]/\aV o5=true) ⟨o5,by simp,z5⟩ ?_ ?_
  .clear z5 o5;rintro J2 t y _ ht hJ2⟨o5,rfl,z5⟩;have hy:y<m:=lt y (Rj ht);have lt2:=bS ht;have ny:y∉ps.take t:=λz=>by obtain⟨i,hi⟩:=Sv z;have li:=bS hi;rw[SQ]at li;rw[List.getElem?_take_of_lt (by lia)]at hi;have:=(VB (by lia) nd).mp (hi.trans ht.symm);lia
   simp![z5];refine aq (RI hy) (aq gz (gR hy (hJ2 _ ⟨some (.sh,iD y),?_,rfl⟩)));rw[GK hy];have e1:(List.range m).map (λp=>if p=y then PyData.int ((kI m es L ns n y+if y∈ps.take t then ns.getD n 0 else 0)+ns.getD n 0)else PyData.int (kI m es L ns n p+if p∈ps.take t then ns.getD n 0 else 0))=(List.range m).map λp=>PyData.int (kI m es L ns n p+if p∈ps.take (t+1)then ns.getD n 0 else 0):=by
    refine Ru λp _=>?_;rw[TN,ht];by_cases c:p=y;{rw[if_pos c,c,if_neg ny,if_pos (show y∈ps.take t++(some y).toList from SD _ (RE.mpr rfl))];exact congrArg PyData.int (by lia)};rw[if_neg c];have em:(p∈ps.take t++(some y).toList)↔p∈ps.take t:=by rw[RY];exact⟨λh=>h.elim id λz=>absurd (RE.mp z) c,.inl⟩
    by_cases c2:p∈ps.take t;{rw[if_pos c2,if_pos (em.mpr c2)]};rw[if_neg c2,if_neg λz=>c2 (em.mp z)]
   rw[e1]
  rintro _⟨o5,rfl,z5⟩;refine hJ _ ⟨some (.sh,iD n),o5,?_,rfl,z5⟩;rw[SK];have e1:(List.range m).map (λp=>PyData.int (kI m es L ns n p+if p∈ps then ns.getD n 0 else 0))=(List.range m).map λp=>PyData.int (kI m es L ns (n+1) p):=Ru λp _=>by rw[ls p]
  rw[e1]
 rintro _⟨o4,o5,rfl,z4,z5⟩;show B _;rw[hB];clear hB B;rfl';refine⟨(List.range m).map (kI m es L ns L.length),by rw[RU];rfl,λz=>?_,λM h1 h2=>?_⟩;{have:=congrArg List.length z;rw[RA,RH]at this;exact absurd this (show m≠0 by lia)};obtain⟨p,hp,rfl⟩:=RG.mp h1;rfl';exact q _ ⟨p,Rg.mp hp,rfl⟩ λr hr=>h2 _ (UE (Rg.mpr hr))
noncomputable abbrev fS:eo:=(.inl 0,.inl 0,[])
noncomputable abbrev fu:Th×Th:=(.inl 0,.inl 0)
noncomputable def shr (l:List eo) (m:Nat)(b:WN) (p:Nat):Int:=Lp.T m (mA l m) b m (l.length+p)
noncomputable def iA (l:List eo) (m:Nat)(b:WN) (i:Nat):Int:=if b.getD i 0<l.length then Lp.T m (mA l m) b i (l.length+m)else 0
section
variable{m:Nat}{es:Vx}{k:Str}{l:List eo}{b:WN}
def nE{α:Type}{l:List α}{d:α}{j:Nat}(h:j<l.length):l[j]?=some (l.getD j d):=by rw[RV,RS h];rfl
def sY{α:Type}{l:List α}{d:α}{j:Nat}(h:j<l.length):l.getD j d∈l:=Rj (nE h)
def HX{j p:Nat}(hj:j<l.length)(hp:p<m):mA l m j p=if p∈(l.getD j fS).2.2 then 1 else 0:=by unfold mA;rw[if_pos hj,if_pos hp]
def Lq(O:jH l m b){p:Nat}(hp:p<m):0<=shr l m b p:=O.nn _ (by lia)
def K7(O:jH l m b){i:Nat}(hi:i<m):0<=iA l m b i:=by unfold iA;split;{exact O.bs.rhs i hi};exact Tw 0
def Aw(W:cI m es)(R:k7 m es k l)(O:jH l m b):Lp.T m (mA l m) b m (l.length+m)=Lp.sm m (shr l m b):=(rG (R.prs W)).Pn O.bs
def pS(W:cI m es)(R:k7 m es k l)(O:jH l m b):Lp.T m (mA l m) b m (l.length+m)=Lp.sm m (iA l m b):=(rG (R.prs W)).goal O.bs
def wX(W:cI m es)(R:k7 m es k l)(O:jH l m b){f:Th×Th}(hf:f∈cB (aD k m es)):Lp.dt m (mA l m) b<=Lp.sm m λp=>if p∈c8 m es f.1 f.2 then shr l m b p else 0:=by
 obtain⟨e,he,ee⟩:=R.all f hf;obtain⟨j,hj⟩:=Sv he;have lj:=bS hj;have gj:l.getD j fS=e:=Option.some.inj ((nE lj).symm.trans hj);have h:=(rG (R.prs W)).MY O.bs lj;have n:=O.nn j (by lia);have e2:(Lp.sm m λp=>mA l m j p*Lp.T m (mA l m) b m (l.length+p))=Lp.sm m λp=>if p∈c8 m es f.1 f.2 then shr l m b p else 0:=Lp.aR λp hp=>by rw[HX lj hp,gj,ee];split;{rw[Int.one_mul];rfl};rw[V8]
 rw[e2]at h;lia
def vh(W:cI m es)(R:k7 m es k l)(O:jH l m b){p:Nat}(hp:p<m):(Lp.sm m λi=>if p∈(l.getD (b.getD i 0) fS).2.2 then iA l m b i else 0)<=Lp.dt m (mA l m) b:=by
 have h:=(rG (R.prs W)).place O.bs hp;have e:(Lp.sm m λi=>if b.getD i 0<l.length then Lp.T m (mA l m) b i (l.length+m)*mA l m (b.getD i 0) p else 0)=Lp.sm m λi=>if p∈(l.getD (b.getD i 0) fS).2.2 then iA l m b i else 0:=Lp.aR λi hi=>by unfold iA;by_cases c:b.getD i 0<l.length;{rw[if_pos c,if_pos c,HX c hp];split;{rw[T9]};rw[Ry]};rw[if_neg c,if_neg c];split<;>rfl
 rw[e]at h;exact h
def mR(R:k7 m es k l){i:Nat}(h:b.getD i 0<l.length):∃f∈cB (aD k m es),l.getD (b.getD i 0) fS=t3 m es f:=R.sub _ (sY h)
def ye{n:Nat}{f:Nat->Int}{c:Int}:(Lp.sm n λk=>f k*c)=Lp.sm n f*c:=by rw[S9,<-Lp.fG];exact Lp.aR λk _=>S9 _ _
def Fi(W:cI m es)(R:k7 m es k l)(O:jH l m b){y:Nat->Int}{M:Int}(hy:∀p,p<m->0<=y p)(hM:∀f∈cB (aD k m es),M<=Lp.sm m λp=>if p∈c8 m es f.1 f.2 then y p else 0):M*Lp.T m (mA l m) b m (l.length+m)<=Lp.sm m y*Lp.dt m (mA l m) b:=by
 have h1:M*Lp.T m (mA l m) b m (l.length+m)<=Lp.sm m λi=>Lp.sm m λp=>if p∈(l.getD (b.getD i 0) fS).2.2 then iA l m b i*y p else 0:=by
  rw[pS W R O,<-Lp.fG];refine Lp.m8 λi hi=>?_;by_cases c:b.getD i 0<l.length
  .obtain⟨f,hf,e⟩:=mR (m:=m) (es:=es) R c;have h2:=VC (hM f hf) (K7 O hi);rw[S9 M];refine Sh h2 (Sm ?_);rw[<-Lp.fG];refine Lp.aR λp _=>?_;rw[e];show _=if p∈c8 m es f.1 f.2 then iA l m b i*y p else 0
   split;{rfl};exact Ry _
  have z:iA l m b i=0:=if_neg c;rw[z,Ry,Lp.eS λp _=>by
   split
   .exact V8 _
   .rfl]
  exact Tw 0
 refine Sh h1 ?_;rw[Lp.pR,<-ye];refine Lp.m8 λp hp=>?_;have h3:=VC (vh W R O hp) (hy p hp);refine Sh (Sm ?_) h3;rw[<-Lp.fG];refine Lp.aR λi _=>?_;split;{exact S9 _ _};exact(Ry _).symm
def MK(W:cI m es)(R:k7 m es k l)(O:jH l m b){x:Nat->Int}{M:Int}{L:List (Th×Th)}(hL:∀f∈L,f∈cB (aD k m es))(hx:∀j,j<L.length->0<=x j)(hM:∀p,p<m->(Lp.sm L.length λj=>if p∈c8 m es (L.getD j fu).1 (L.getD j fu).2 then x j else 0)<=M):Lp.sm L.length x*Lp.dt m (mA l m) b<=M*Lp.T m (mA l m) b m (l.length+m):=by
 rw[<-ye,Aw W R O,<-Lp.fG];have h1:(Lp.sm L.length λj=>x j*Lp.dt m (mA l m) b)<=Lp.sm L.length λj=>Lp.sm m λp=>if p∈c8 m es (L.getD j fu).1 (L.getD j fu).2 then shr l m b p*x j else 0:=Lp.m8 λj hj=>by have h2:=VC (wX W R O (hL _ (sY (d:=fu) hj))) (hx j hj);refine Sh h2 (Sm ?_);rw[<-Lp.fG];refine Lp.aR λp _=>?_;split;{exact S9 _ _};exact Ry _
 refine Sh h1 ?_;rw[Lp.pR];refine Lp.m8 λp hp=>?_;have h3:=VC (hM p hp) (Lq O hp);rw[S9 M];refine Sh (Sm ?_) h3;rw[<-Lp.fG];refine Lp.aR λj _=>?_;split;{rfl};exact(Ry _).symm
def DG{T:List Th}(nd:T.Nodup):(cB T).Nodup:=by unfold cB;refine List.pairwise_flatMap.mpr ⟨λi hi=>?_,?_⟩;{exact List.pairwise_map.mpr ((nd.sublist (List.drop_sublist _ _)).imp λh z=>h (Prod.mk.inj z).2)};refine List.pairwise_lt_range.imp_of_mem λ{i j} hi hj hij x hx y hy z=>?_;obtain⟨u,_,rfl⟩:=RG.mp hx;obtain⟨v,_,rfl⟩:=RG.mp hy;have e:=(Prod.mk.inj z).1;have hi:=Rg.mp hi;have hj:=Rg.mp hj;have g1:=nE (d:=Sum.inl 0) hi;have g2:=nE (d:=Sum.inl 0) hj;rw[e]at g1;have:=(VB hi nd).mp (g1.trans g2.symm);lia
def wk{L:List (Th×Th)}{x:Th×Th}{c:Int}(nd:L.Nodup)(hx:x∈L):(Lp.sm L.length λj=>if L.getD j fu=x then c else 0)=c:=by obtain⟨i,hi⟩:=Sv hx;have li:=bS hi;have gi:L.getD i fu=x:=Option.some.inj ((nE li).symm.trans hi);rw[Lp.lZ li λj hj ne=>if_neg λz=>ne ?_,if_pos gi];exact(VB hj nd).mp ((nE (d:=fu) hj).trans (by rw[z,hi]))
noncomputable def zM (l:List eo) (m:Nat)(b:WN)(x:Th×Th):Int:=Lp.sm m λi=>if x=((l.getD (b.getD i 0) fS).1,(l.getD (b.getD i 0) fS).2.1)then iA l m b i else 0
def Jd(W:cI m es)(R:k7 m es k l)(O:jH l m b):(Lp.sm (cB (aD k m es)).length λj=>zM l m b ((cB (aD k m es)).getD j fu))=Lp.T m (mA l m) b m (l.length+m):=by unfold zM;rw[Lp.pR,pS W R O];refine Lp.aR λi _=>?_;by_cases c:b.getD i 0<l.length;{obtain⟨f,hf,e⟩:=mR (m:=m) (es:=es) R c;rw[e];exact wk (DG (qT W.gd)) hf};have z:iA l m b i=0:=if_neg c;rw[z];exact Lp.eS λj _=>by split<;>rfl
def Ek(W:cI m es)(R:k7 m es k l)(O:jH l m b){p:Nat}(hp:p<m):(Lp.sm (cB (aD k m es)).length λj=>if p∈c8 m es ((cB (aD k m es)).getD j fu).1 ((cB (aD k m es)).getD j fu).2 then zM l m b ((cB (aD k m es)).getD j fu)else 0)<=Lp.dt m (mA l m) b:=by
 refine Sh (Sm ?_) (vh W R O hp);have e1:(Lp.sm (cB (aD k m es)).length λj=>if p∈c8 m es ((cB (aD k m es)).getD j fu).1 ((cB (aD k m es)).getD j fu).2 then zM l m b ((cB (aD k m es)).getD j fu)else 0)=Lp.sm (cB (aD k m es)).length λj=>Lp.sm m λi=>if(cB (aD k m es)).getD j fu=((l.getD (b.getD i 0) fS).1,(l.getD (b.getD i 0) fS).2.1)then(if p∈(l.getD (b.getD i 0) fS).2.2 then iA l m b i else 0)else 0:=Lp.aR λj hj=>by
  have key:∀i,i<m->(if p∈c8 m es ((cB (aD k m es)).getD j fu).1 ((cB (aD k m es)).getD j fu).2 then(if(cB (aD k m es)).getD j fu=((l.getD (b.getD i 0) fS).1,(l.getD (b.getD i 0) fS).2.1)then iA l m b i else 0)else 0)=if(cB (aD k m es)).getD j fu=((l.getD (b.getD i 0) fS).1,(l.getD (b.getD i 0) fS).2.1)then(if p∈(l.getD (b.getD i 0) fS).2.2 then iA l m b i else 0)else 0:=λi _=>by by_cases c:b.getD i 0<l.length;{obtain⟨f,hf,e⟩:=mR (m:=m) (es:=es) R c;rw[e];by_cases c2:(cB (aD k m es)).getD j fu=f;{rw[c2,if_pos rfl,if_pos rfl]};rw[if_neg c2,if_neg c2];split<;>rfl};have z:iA l m b i=0:=if_neg c;rw[z];split<;>split<;>(try split)<;>rfl
  rw[<-Lp.aR key];split;{rfl};exact(Lp.eS λ_ _=>rfl).symm
 rw[e1,Lp.pR];refine Lp.aR λi _=>?_;by_cases c:b.getD i 0<l.length;{obtain⟨f,hf,e⟩:=mR (m:=m) (es:=es) R c;rw[e];exact wk (DG (qT W.gd)) hf};have z:iA l m b i=0:=if_neg c;rw[z,ite_self];exact Lp.eS λj _=>by split<;>rfl
end
noncomputable abbrev tW:=(Th×Th)×Int
noncomputable abbrev qV (r:tW):PyData:=.tuple [bB r.1.1,bB r.1.2,.int r.2]
noncomputable def qx (rl:List tW)(x:Th×Th):Int:=((rl.filter λr=>decide (r.1=x)).map (·.2)).sum
structure QH(m:Nat)(es:Vx)(L:List (Th×Th)) (d S:Int)(sh:WO)(rl:List tW):Prop where
 len:sh.length=m
 sum:sh.sum=S
 d0:0<d
 d1:d<=100000
 s0:-100000<=S
 s1:S<=100000
 few:L.length<=1024
 rows:rl.length<=7
 Fi:∀ys:WO,ys.length=m->(∀y∈ys,0<=y)->∀M:Int,(∀f∈L,M<=uD m es ys f)->M*S<=ys.sum*d
 prim:∀xs:WO,xs.length=L.length->(∀x∈xs,0<=x)->∀M:Int,(∀p,p<m->kI m es L xs L.length p<=M)->xs.sum*d<=M*S
 least:∀f∈L,d<=uD m es sh f
 told:∀p,p<m->kI m es L (L.map (qx rl)) L.length p<=d
 Pz:(L.map (qx rl)).sum=S
 Qg:(rl.map (·.2)).sum=S
 nil:L=[]->S=0/\rl=[]
theorem tS{f:Nat->Int}:∀m:Nat,((List.range m).map f).sum=Lp.sm m f
 |0=>rfl
 |m+1=>by rw[SN,RW,Ut,tS m,Lp.sm];congr 1;show f m+0=f m;lia
def wZ{ys:WO}:ys.sum=Lp.sm ys.length λp=>ys.getD p 0:=by
 have h:ys=(List.range ys.length).map λp=>ys.getD p 0:=by have:=zq (f:=id) (d:=(0:Int)) (l:=ys);rwa[List.map_id]at this
 have:=tS (f:=λp=>ys.getD p 0) ys.length;rw[<-h]at this;exact this
section
variable{m:Nat}{es:Vx}{k:Str}{l:List eo}{b:WN}
noncomputable def rls (l:List eo) (m:Nat)(b:WN):List tW:=((List.range m).filter λi=>decide (0<Lp.T m (mA l m) b i (l.length+m))&&decide (b.getD i 0<l.length)).map λi=>(((l.getD (b.getD i 0) fS).1,(l.getD (b.getD i 0) fS).2.1),Lp.T m (mA l m) b i (l.length+m))
def ER(O:jH l m b){i:Nat}(hi:i<m):(if(decide (0<Lp.T m (mA l m) b i (l.length+m))&&decide (b.getD i 0<l.length))=true then Lp.T m (mA l m) b i (l.length+m)else 0)=iA l m b i:=by have h:=O.bs.rhs i hi;unfold iA;by_cases c:b.getD i 0<l.length;{by_cases c2:0<Lp.T m (mA l m) b i (l.length+m);{rw[if_pos (by rw[Rv c,Rv c2];rfl),if_pos c]};rw[if_neg (by rw[Ro c2,Bool.false_and];decide),if_pos c];lia};rw[if_neg (by rw[Ro c,UA];decide),if_neg c]
def JC(O:jH l m b):((rls l m b).map (·.2)).sum=Lp.sm m (iA l m b):=by unfold rls;rw[RU];have:=pT (f:=λi=>Lp.T m (mA l m) b i (l.length+m)) (p:=λi=>decide (0<Lp.T m (mA l m) b i (l.length+m))&&decide (b.getD i 0<l.length)) m;refine Eq.trans this (Lp.aR λi hi=>ER O hi)
def zB(O:jH l m b)(x:Th×Th):qx (rls l m b) x=zM l m b x:=by unfold qx rls zM;rw[List.filter_map,RU,List.filter_filter];have:=pT (f:=λi=>Lp.T m (mA l m) b i (l.length+m)) (p:=λi=>(decide (((l.getD (b.getD i 0) fS).1,(l.getD (b.getD i 0) fS).2.1)=x))&&(decide (0<Lp.T m (mA l m) b i (l.length+m))&&decide (b.getD i 0<l.length))) m;refine Eq.trans this (Lp.aR λi hi=>?_);by_cases c:((l.getD (b.getD i 0) fS).1,(l.getD (b.getD i 0) fS).2.1)=x;{rw[Rv c,Bool.true_and,ER O hi,if_pos c.symm]};rw[Ro c,Bool.false_and,if_neg (by decide),if_neg (Ne.symm c)]
def KI(W:cI m es)(hm:m<=7)(R:k7 m es k l)(O:jH l m b):QH m es (cB (aD k m es)) (Lp.dt m (mA l m) b) (Lp.T m (mA l m) b m (l.length+m)) ((List.range m).map (shr l m b)) (rls l m b):=by
 have tb:=MS (l:=l) O.bs.len hm m (l.length+m);have gl:=mT W.gd;have m49:m*m<=49:=UD hm hm;have lT:(aD k m es).length<=32:=by
  unfold aD;rw[RM];have a:(if k="ties" then []else(List.range m).map Sum.inl:List Th).length<=7:=by split<;>simp;lia
  have b:(if k="places" then []else es.map Sum.inr:List Th).length<=25:=by split<;>simp;lia
  lia
 have l2:=UD lT lT;have gm:∀{j:Nat}{f:Th×Th->Int},j<(cB (aD k m es)).length->((cB (aD k m es)).map f).getD j 0=f ((cB (aD k m es)).getD j fu):=λ{j f} hj=>by rw[RV,RO,nE (d:=fu) hj];rfl
 refine⟨by rw[RA,RH],by rw[tS,Aw W R O],O.bs.pos,MJ O.bs.len hm,tb.1,tb.2,Ri zF l2,?_,λys hl hy M hM=>?_,λxs hl hx M hM=>?_,λf hf=>?_,λp hp=>?_,?_,?_,λe=>?_⟩;{unfold rls;rw[RA];refine Ri (Vi _ _) ?_;rw[RH];exact hm};{have:=Fi W R O (y:=λp=>ys.getD p 0) (M:=M) (λp hp=>hy _ (sY (by lia))) hM;rwa[<-hl,<-wZ,hl]at this};{have:=MK W R O (x:=λj=>xs.getD j 0) (M:=M) (L:=cB (aD k m es)) (λf hf=>hf) (λj hj=>hx _ (sY (by lia))) hM;rw[wZ,hl];exact this}
 .refine Sh (wX W R O hf) (Sm (Lp.aR λp hp=>?_));have e:((List.range m).map (shr l m b)).getD p 0=shr l m b p:=by rw[RV,RO,RI hp];rfl
  rw[e]
 .refine Sh (Sm (Lp.aR λj hj=>?_)) (Ek W R O hp);rw[gm hj,zB O]
 .rw[wZ,RA];refine Eq.trans (Lp.aR λj hj=>?_) (Jd W R O);rw[gm hj,zB O]
 .rw[JC O,pS W R O]
 have nl:l.length=0:=by rcases l with _|⟨a,l⟩;{rfl};obtain⟨f,hf,_⟩:=R.sub a RC;rw[e]at hf;cases hf
 refine⟨?_,?_⟩;{rw[pS W R O];exact Lp.eS λi _=>if_neg (by lia)};unfold rls;rw[List.filter_eq_nil_iff.mpr λi _=>by rw[Ro (show ¬b.getD i 0<l.length by lia),UA];decide];rfl
end
end PB
local macro_rules | `(tactic| bv_omega) => do let ls ← (List.range 216).toArray.mapM fun k => `(Lean.Parser.Tactic.simpLemma| $(Lean.mkIdent (.str `Dv s!"rr{k}")):ident); `(tactic| dsimp only[$ls,*, Dv.dyr0, Dv.dyr1, Dv.dyr2, Dv.dyr3, Nat.reduceBEq, Dv.iN, Dv.iZ, Dv.jR, Dv.jN, Dv.pQ, Dv.Gk, Dv.Nq, Dv.Kq])
namespace PB
open PySem L2 Dv Gr
def QO{r:Nat}(h:r<3):∃k:Str,Gx k/\cY [PyData.str "places",.str "ties",.str "all"] (r:Int)=some (.str k):=by rcases(show r=0\/r=1\/r=2 by lia)with rfl|rfl|rfl;{exact⟨_,.inl rfl,rfl⟩};{exact⟨_,.inr (.inl rfl),rfl⟩};exact⟨_,.inr (.inr rfl),rfl⟩
def Po{r:Nat}(h:r<3):∃top:Nat,1<=top/\top<=1000000000000/\cY [PyData.int 4,.int 101,.int 1000000000000] (r:Int)=some (iD top):=by rcases(show r=0\/r=1\/r=2 by lia)with rfl|rfl|rfl;{exact⟨4,by decide,by decide,rfl⟩};{exact⟨101,by decide,by decide,rfl⟩};exact⟨1000000000000,by decide,by decide,rfl⟩
def GU:∀ds Q x,uz ds Q x->nq BO qC Cg Bc BA BU Ci (aZ [false] Q x) (ini [false] ds++List.replicate 18 none):=by
 rintro _ Q x⟨ns,rfl,hn,q⟩;unfold nq;refine bz λB hB=>?_;rfl';refine⟨ns,0,rfl,by lia,λn=>?_⟩;rfl';rw[hB];clear hB B;refine bz λB hB=>?_;rfl';refine⟨by lia,n,3,rfl,by lia,by lia,λr p hr=>?_⟩;rfl';obtain⟨k,hk,ek⟩:=QO hr;refine aq ek ?_;rfl';rw[hB];clear hB B ek hr r n;refine bz λB hB=>?_;rfl';refine⟨ns,1,rfl,by lia,λn=>?_⟩;rfl';refine⟨n,1,7,rfl,by lia,by lia,by lia,λm es n' m1 m7 W=>?_⟩;rfl';rw[hB];clear hB B n n';refine bz λB hB=>?_;rfl';refine⟨m,es,k,rfl,W,m7,λl b R O=>?_⟩;rfl';rw[hB];clear hB B;refine bz λB hB=>?_;rfl';have F:=KI W m7 R O;rw[show PyData.list ((List.range m).map λk=>PyData.int (Lp.T m (mA l m) b m (l.length+k)))=zD ((List.range m).map (shr l m b))by show _=PyData.list (((List.range m).map (shr l m b)).map .int);rw[RU];rfl];rw[show PyData.list (((List.range m).filter λi=>decide (0<Lp.T m (mA l m) b i (l.length+m))&&decide (b.getD i 0<l.length)).map (GR l m b))=PyData.list ((rls l m b).map qV)by unfold rls;rw[RU];rfl];generalize Lp.dt m (mA l m) b=d at F⊢;generalize Lp.T m (mA l m) b m (l.length+m)=S at F;generalize (List.range m).map (shr l m b)=sh at F⊢;generalize rls l m b=rl at F⊢;clear R O b l;have few:es.length<=500:=by have h:=mT W.gd;have h2:=UD m7 m7;lia
 refine⟨sh,rfl,?_⟩;rw[F.sum];rfl';rw[hB];clear hB B;refine bz λB hB=>?_;rfl';refine⟨m,es,k,rfl,W,few,hk,?_⟩;rfl';generalize cB (aD k m es)=L at F⊢;rw[hB];clear hB B;refine bz λB hB=>?_;rfl';refine⟨by decide,⟨KP,rfl⟩,?_⟩;by_cases c:L=[];{obtain⟨rfl,rfl⟩:=F.nil c;subst c;rw[if_pos (show PyData.list (List.map (fT m es) [])=PyData.list []from rfl)];refine⟨by decide,⟨rfl,rfl⟩,?_⟩;rw[if_pos (show PyData.list (List.map qV [])=PyData.list []from rfl),Rv F.d0];exact q};have lL:0<L.length:=Sx.mpr c;rw[if_neg λz=>c (Vb.mp (PyData.list.inj z)),hB];clear hB B;refine bz λB hB=>?_;rfl';obtain⟨hi,h4,h7,eh⟩:∃hi:Nat,4<=hi/\hi<=7/\(if(if(ns.length:Int)>4 then(ns.length:Int)else 4)<7 then(if(ns.length:Int)>4 then(ns.length:Int)else 4)else 7)=(hi:Int):=by by_cases c1:(ns.length:Int)>4;{rw[if_pos c1];by_cases c2:(ns.length:Int)<7;{rw[if_pos c2];exact⟨ns.length,by lia,by lia,rfl⟩};rw[if_neg c2];exact⟨7,by lia,by lia,rfl⟩};rw[if_neg c1,if_pos (by lia)];exact⟨4,by lia,by lia,rfl⟩
 rw[eh,if_pos (by lia)];refine aq rfl ?_;have er:jl 2 ((hi:Int)-2).toNat=(List.range ((hi:Int)-2).toNat).map λi=>iD (2+i):=Ru λi _=>congrArg PyData.int (by lia);rw[er];refine gw (λ_ E=>∃(o9 o10 o11 o12 o13 o14 o15:Option (Kd×PyData)),E=[some (.sh,zD ns),some (.ow false,nD [p]),some (.sh,.str k),some (.sh,wD m es),some (.sh,.int d),some (.sh,zD sh),some (.sh,.list (rl.map qV)),some (.sh,.int S),some (.ow false,.list (L.map (fT m es))),o9,o10,o11,o12,o13,o14,o15,none,none,none]/\aV o9=true/\aV o10=true/\aV o11=true/\aV o12=true/\aV o13=true/\aV o14=true/\aV o15=true) ⟨none,none,none,none,none,none,none,rfl,rfl,rfl,rfl,rfl,rfl,rfl,rfl⟩ ?_ ?_
 .rintro J i _ hi2 hJ⟨o9,o10,o11,o12,o13,o14,o15,rfl,z9,z10,z11,z12,z13,z14,z15⟩;clear hB;simp![z9,z10,z11,z12,z13,z14,z15];refine⟨ns,2+i,rfl,by lia,λn=>?_⟩;simp![z9,z10,z11,z12,z13,z14,z15];refine⟨⟨by decide,by decide,by decide⟩,by decide,?_⟩;rw[show(10:Int)^Int.toNat 12=1000000000000 by decide];refine⟨n,3,rfl,by lia,by lia,λr p2 hr=>?_⟩;simp![z9,z10,z11,z12,z13,z14,z15];obtain⟨top,t1,t2,et⟩:=Po hr;refine aq et ?_;clear et;have tl:top<2^200:=Nat.lt_of_le_of_lt t2 (by decide+kernel);clear t2;rw[if_pos (by lia)];refine aq rfl ?_;refine NT (enc:=iD) [some (.sh,zD ns),some (.ow false,nD [p]),some (.sh,.str k),some (.sh,wD m es),some (.sh,.int d),some (.sh,zD sh),some (.sh,.list (rl.map qV)),some (.sh,.int S),some (.ow false,.list (L.map (fT m es))),some (.sh,iD (2+i)),some (.ow false,nD [p2]),some (.sh,iD top),o12,o13,o14,o15,none,none,none] (λj ys E=>zC λ(q3:Nat)(o18:Option (Kd×PyData))(zs:WN)=>vP (ys=zs.map iD) (zs.length=j) (E=[some (.sh,zD ns),some (.ow false,nD [p]),some (.sh,.str k),some (.sh,wD m es),some (.sh,.int d),some (.sh,zD sh),some (.sh,.list (rl.map qV)),some (.sh,.int S),some (.ow false,.list (L.map (fT m es))),some (.sh,iD (2+i)),some (.ow false,nD [q3]),some (.sh,iD top),o12,o13,o14,o15,none,none,o18]) (aV o18=true)) rfl ⟨p2,none,[],rfl,rfl,rfl,rfl⟩ ?_ ?_;{rintro J2 j _ _ hj hJ2⟨q3,o18,zs,rfl,zl,rfl,z18⟩;simp![z18];refine⟨q3,top,rfl,by lia,tl,λr q4 hr=>?_⟩;simp![z18];exact⟨by lia,hJ2 _ _ ⟨q4,some (.sh,iD j),zs++[r],by rw[RW];rfl,by rw[RM,zl];rfl,rfl,rfl⟩⟩};rintro _ _⟨q3,o18,zs,rfl,zl,rfl,z18⟩;simp![z12,z18];have ey:PyData.list (zs.map iD)=zD (zs.map λr:Nat=>(r:Int)):=by show _=PyData.list ((zs.map λr:Nat=>(r:Int)).map .int);rw[RU];rfl
  have yl:(zs.map λr:Nat=>(r:Int)).length=m:=by rw[RA,zl]
  have yn:∀y∈zs.map λr:Nat=>(r:Int),0<=y:=λy hy=>by obtain⟨r,_,rfl⟩:=RG.mp hy;lia
  rw[ey];generalize (zs.map λr:Nat=>(r:Int))=ys at yl yn⊢;clear ey zl zs z18 o18;refine⟨ys,rfl,?_⟩;simp![z12];have d0:=F.d0;have d1:=F.d1;have s0:=F.s0;have s1:=F.s1;refine⟨.inr ⟨by lia,by lia⟩,?_⟩;simp![z12];refine⟨m,es,L,ys,rfl,by lia,yl,c,by have:=F.few;lia,λM hM hall=>?_⟩;simp![z12];refine⟨.inr ⟨by lia,by lia⟩,?_⟩;have few2:=F.few;rw[if_neg (Sa.mpr (F.Fi ys yl yn M hall)),VA];clear hM hall;refine⟨by decide,⟨by lia,by lia,by lia⟩,z13,q3,8,rfl,by lia,by lia,λr q4 hr=>?_⟩;simp![z13,z14,z15];rw[if_pos (by lia)];refine aq rfl ?_;rw[show(1+(r:Int)).toNat=1+r by lia];rw[show PyData.list (List.replicate L.length (PyData.int 0))=zD (List.replicate L.length 0)by show _=PyData.list ((List.replicate L.length (0:Int)).map .int);rw[List.map_replicate]];refine gw (λj E=>Dd λ(q5:Nat)(xs:WO)(o14 o15:Option (Kd×PyData))=>HH (E=[some (.sh,zD ns),some (.ow false,nD [p]),some (.sh,.str k),some (.sh,wD m es),some (.sh,.int d),some (.sh,zD sh),some (.sh,.list (rl.map qV)),some (.sh,.int S),some (.ow false,.list (L.map (fT m es))),some (.sh,iD (2+i)),some (.ow false,nD [q5]),some (.sh,iD top),some (.ow false,zD ys),some (.ow false,zD xs),o14,o15,none,none,none]) (aV o14=true) (aV o15=true) (xs.length=L.length) (∀y∈xs,0<=y)) ⟨q4,List.replicate L.length 0,o14,o15,rfl,z14,z15,SR,λy hy=>by rw[(List.mem_replicate.mp hy).2];exact Tw 0⟩ ?_ ?_;{clear z14 z15 o14 o15 q3 q4;rintro J3 j _ hj hJ3⟨q5,xs,o14,o15,rfl,z14,z15,xl,xn⟩;simp![z13,z14,z15];refine⟨q5,L.length,rfl,lL,by lia,λa q6 ha=>?_⟩;simp![z13,z14,z15];refine⟨q6,top,rfl,by lia,tl,λv q7 hv=>?_⟩;simp![z13,z14,z15];refine gR (by lia) (hJ3 _ ⟨q7,xs.set a v,some (.sh,iD j),some (.sh,iD a),?_,rfl,rfl,by rw[Rf];exact xl,λy hy=>?_⟩);{rw[show PyData.list ((List.map PyData.int xs).set a (iD v))=zD (xs.set a v)from congrArg PyData.list List.map_set.symm]};rcases Vg hy with z|z;{exact xn y z};rw[z];lia};rintro _⟨q5,xs,o14,o15,rfl,z14,z15,xl,xn⟩;simp![z13,z14,z15];refine⟨xs,rfl,?_⟩;simp![z13,z14,z15];refine⟨.inr ⟨by lia,by lia⟩,?_⟩;simp![z13,z14,z15];refine⟨m,es,L,xs,rfl,m1,by lia,xl,by lia,λM hM hall=>?_⟩;simp![z13,z14,z15];refine⟨.inr ⟨by lia,by lia⟩,?_⟩;rw[if_neg (Sa.mpr (F.prim xs xl xn M hall))];exact hJ _ ⟨_,_,_,_,_,_,_,rfl,rfl,rfl,rfl,rfl,rfl,z14,z15⟩
 rintro _⟨o9,o10,o11,o12,o13,o14,o15,rfl,z9,z10,z11,z12,z13,z14,z15⟩;show B _;rw[hB];clear hB B eh er h4 h7 hi;refine bz λB hB=>?_;rfl';refine⟨m,es,L,sh,rfl,by lia,F.len,c,by have:=F.few;lia,λM hM hall=>?_⟩;rfl';have hge:¬M<d:=by obtain⟨e,he,rfl⟩:=hM;exact Sa.mpr (F.least e he)
 rw[if_neg hge,hB];clear hB B hM hall hge;refine bz λB hB=>?_;rfl';refine⟨by decide,?_⟩;rw[hB];clear hB B;refine bz λB hB=>?_;rfl';refine mV (λn E=>∃(o17:Option (Kd×PyData)),E=[some (.sh,zD ns),some (.ow false,nD [p]),some (.sh,.str k),some (.sh,wD m es),some (.sh,.int d),some (.sh,zD sh),some (.sh,.list (rl.map qV)),some (.sh,.int S),some (.sh,.list (L.map (fT m es))),o9,o10,o11,o12,o13,o14,o15,some (.ow false,zD ((L.take n).map (qx rl))),o17,none]/\aV o17=true) ⟨none,rfl,rfl⟩ ?_ ?_
 .rintro J n e _ hn2 hJ⟨o17,rfl,z17⟩;simp![z17];refine l7 (λr:tW=>if decide (r.1=e)=true then some (PyData.int r.2)else none) rfl (λr hr I hI=>?_) ?_ (by have:=F.rows;lia)
  .have key:(PyData.tuple [bB r.1.1,bB r.1.2]=.tuple [bB e.1,bB e.2])=(r.1=e):=propext ⟨λz=>by
    injection z with z
    injection z with z1 z
    injection z with z2 z
    exact Prod.ext (zQ.mp z1) (zQ.mp z2),λz=>by rw[z]⟩
   rfl';rw[show cutD [bB r.1.1,bB r.1.2,PyData.int r.2] none (some 2)=[bB r.1.1,bB r.1.2]from rfl,show cutD [bB e.1,bB e.2,nD (c8 m es e.1 e.2)] none (some 2)=[bB e.1,bB e.2]from rfl];rfl';have dt:∀t:Th,dl 7 (bB t)=true:=λt=>by cases t<;>rfl
   have d2:∀t u:Th,dl 8 (.tuple [bB t,bB u])=true:=λt u=>by show([bB t,bB u].all (dl 7))=true;rw[RN,RN,dt,dt];rfl
   refine⟨⟨d2 _ _,d2 _ _⟩,?_⟩;by_cases ce:r.1=e;{rw[Rv (Eq.mpr key ce)];rw[if_pos (Rv ce)]at hI;rfl';exact aq (a:=PyData.int r.2) rfl (hI _ rfl)};rw[Ro λz=>ce (Eq.mp key z)];rw[if_neg (by rw[Ro ce];decide)]at hI;rfl';exact hI _ rfl
  rw[fH];rfl';refine⟨(rl.filter λr=>decide (r.1=e)).map (·.2),by rw[RU];rfl,?_⟩;rfl';refine⟨by have:=F.few;rw[SQ];lia,hJ _ ⟨some (.sh,fT m es e),?_,rfl⟩⟩;rw[TN,hn2,Option.toList_some,RW (f:=qx rl)];show _=[_,_,_,_,_,_,_,_,_,_,_,_,_,_,_,_,some (Kd.ow false,PyData.list (((L.take n).map (qx rl)++[e].map (qx rl)).map PyData.int)),_,_];rw[RW];rfl
 rintro _⟨o17,rfl,z17⟩;show B _;rw[hB,SK];clear hB B;refine bz λB hB=>?_;rfl';refine⟨m,es,L,L.map (qx rl),rfl,m1,by lia,RA _,by have:=F.few;lia,λM hM hall=>?_⟩;rfl';have hle:¬d<M:=by obtain⟨r,hr,rfl⟩:=hM;exact Sa.mpr (F.told r hr)
 rw[if_neg hle,hB];clear hB B hM hall hle;rfl';refine⟨L.map (qx rl),rfl,?_⟩;rw[F.Pz];rfl';refine eW (λr:tW=>PyData.int r.2) rfl (λr hr I hI=>?_) ?_ (by have:=F.rows;lia);{rfl';exact aq (a:=PyData.int r.2) rfl (hI _ rfl)};rfl';refine⟨rl.map (·.2),by rw[RU];rfl,?_⟩;rw[F.Qg];rfl';exact q
end PB
namespace LJ
open PySem L2 PySem.W Dv PB
noncomputable def top (i:Nat):Stmt:=PySem.Challenge.pw_farhail_k52_whole_no_shares_come_to_less.main.body.getD i (.Pass ⟨0,0,0,0⟩)
structure Txt(K:Frag)(mg:Vt):Prop where
 enumerate:mg "enumerate"=none
 int:mg "int"=none
 isinstance:mg "isinstance"=none
 len:mg "len"=none
 list:mg "list"=none
 max:mg "max"=none
 min:mg "min"=none
 range:mg "range"=none
 sorted:mg "sorted"=none
 sum:mg "sum"=none
 tuple:mg "tuple"=none
 zip:mg "zip"=none
 yI:∃t,mg "MOST_SHARED"=some (.int 7 t)
 JM:∃C,mg "NoPlace"=some (.ref C)/\kG K C CQ "ValueError.__new__" none=true
 kit:wG K ["int"]=true
 ns:∃h:Heap,K.In h/\h.Ns mainGlobals mg
def uc{us:WH}{n:Nat}(h:us.length=n+1):∃a t,t.length=n/\us=a::t:=by
 cases us with
 |nil=>cases h
 |cons a t=>exact⟨a,t,Nat.succ.inj h,rfl⟩
def QU{us:WH}(h0:us.length=1):∃a0,us=[a0]:=by obtain⟨a0,t0,h1,rfl⟩:=uc h0;cases Ug h1;exact⟨a0,rfl⟩
def QI{us:WH}(h0:us.length=2):∃a0 a1,us=[a0,a1]:=by obtain⟨a0,t0,h1,rfl⟩:=uc h0;obtain⟨a1,t1,h2,rfl⟩:=uc h1;cases Ug h2;exact⟨a0,a1,rfl⟩
def QS{us:WH}(h0:us.length=3):∃a0 a1 a2,us=[a0,a1,a2]:=by obtain⟨a0,t0,h1,rfl⟩:=uc h0;obtain⟨a1,t1,h2,rfl⟩:=uc h1;obtain⟨a2,t2,h3,rfl⟩:=uc h2;cases Ug h3;exact⟨a0,a1,a2,rfl⟩
def Qq{us:WH}(h0:us.length=4):∃a0 a1 a2 a3,us=[a0,a1,a2,a3]:=by obtain⟨a0,t0,h1,rfl⟩:=uc h0;obtain⟨a1,t1,h2,rfl⟩:=uc h1;obtain⟨a2,t2,h3,rfl⟩:=uc h2;obtain⟨a3,t3,h4,rfl⟩:=uc h3;cases Ug h4;exact⟨a0,a1,a2,a3,rfl⟩
def Q0{us:WH}(h0:us.length=5):∃a0 a1 a2 a3 a4,us=[a0,a1,a2,a3,a4]:=by obtain⟨a0,t0,h1,rfl⟩:=uc h0;obtain⟨a1,t1,h2,rfl⟩:=uc h1;obtain⟨a2,t2,h3,rfl⟩:=uc h2;obtain⟨a3,t3,h4,rfl⟩:=uc h3;obtain⟨a4,t4,h5,rfl⟩:=uc h4;cases Ug h5;exact⟨a0,a1,a2,a3,a4,rfl⟩
local macro_rules | `(tactic| ac_nf) => `(tactic| (intro _ _ _ _ _ _ us hl; first | (obtain⟨_, e⟩ := QU hl; subst e; rfl) | (obtain⟨_, _, e⟩ := QI hl; subst e; rfl) | (obtain⟨_, _, _, e⟩ := QS hl; subst e; rfl) | (obtain⟨_, _, _, _, e⟩ := Qq hl; subst e; rfl) | (obtain⟨_, _, _, _, _, e⟩ := Q0 hl; subst e; rfl)))
section
variable(P:Program)(w:World)(K:Frag)(mg:Vt)(base:Heap)
noncomputable abbrev oX:Prop:=bN P w K mg base 1 "_law_purse" ["_law_script","_law_k"] (bX mg K [false,false] BO)
noncomputable abbrev pF:Prop:=bN P w K mg base 1 "_law_least" ["_law_pairs_here","_law_shares"] (bX mg K [false,false] BU)
noncomputable abbrev gh:Prop:=bN P w K mg base 1 "_law_take" ["_law_purse_here","_law_many"] (bX mg K [true,false] qC)
noncomputable abbrev oK:Prop:=bN P w K mg base 2 "_law_pairs" ["_law_purse_here","_law_many","_law_way"] (bX mg K [true,false,false] Cf)
noncomputable abbrev oF:Prop:=bN P w K mg base 2 "_law_order" ["_law_purse_here","_law_many"] (bX mg K [true,false] GX)
noncomputable abbrev qy:Prop:=bN P w K mg base 1 "_law_most" ["_law_many","_law_pairs_here","_law_prices"] (bX mg K [false,false,false] Ci)
noncomputable abbrev rZ:Prop:=bN P w K mg base 3 "_law_web" ["_law_purse_here","_law_least","_law_most"] (bX mg K [true,false,false] Cg)
noncomputable abbrev jo:Prop:=bN P w K mg base 1 "refuse_too_many" ["web"] (bX mg K [false] AS)
noncomputable abbrev k9:Prop:=bN P w K mg base 1 "unlike_pairs" ["pairs"] (bX mg K [false] AN)
noncomputable abbrev n9:Prop:=bN P w K mg base 1 "first_rows" ["pairs","many"] (bX mg K [false,false] AA)
noncomputable abbrev nX:Prop:=bN P w K mg base 1 "is_tighter" ["rows","base","column","place","best"] (bX mg K [false,false,false,false,false] BP)
noncomputable abbrev qm:Prop:=bN P w K mg base 2 "tightest" ["rows","base","column"] (bX mg K [false,false,false] AL)
noncomputable abbrev uK:Prop:=bN P w K mg base 1 "turned" ["rows","bottom","place","column"] (bX mg K [false,false,false,false] AJ)
noncomputable abbrev lO:Prop:=bN P w K mg base 3 "best_prices" ["pairs","many"] (bX mg K [false,false] Cd)
noncomputable abbrev jm:Prop:=bN P w K mg base 1 "refuse_no_place" ["web","place"] (bX mg K [false,false] BJ)
noncomputable abbrev jf:Prop:=bN P w K mg base 1 "neighbour_lists" ["web"] (bX mg K [false] AO)
noncomputable abbrev kP:Prop:=bN P w K mg base 2 "fars_or_none" ["web","place"] (bX mg K [false,false] BZ)
noncomputable abbrev oH:Prop:=bN P w K mg base 3 "fars_from" ["web","place"] (bX mg K [false,false] Ba)
noncomputable abbrev qf:Prop:=bN P w K mg base 4 "far_rows" ["web"] (bX mg K [false] BN)
noncomputable abbrev oA:Prop:=bN P w K mg base 1 "things_of" ["web","kind"] (bX mg K [false,false] AV)
noncomputable abbrev nU:Prop:=bN P w K mg base 1 "nearer_end" ["fars","tie"] (bX mg K [false,false] AB)
noncomputable abbrev pG:Prop:=bN P w K mg base 2 "thing_far" ["fars","thing"] (bX mg K [false,false] AM)
noncomputable abbrev nW:Prop:=bN P w K mg base 3 "parters_by" ["rows","one","other"] (bX mg K [false,false,false] A8)
noncomputable abbrev qt:Prop:=bN P w K mg base 5 "pairs_of" ["web","kind"] (bX mg K [false,false] Br)
noncomputable abbrev oS:Prop:=bN P w K mg base 6 "shares_of" ["web","kind"] (bX mg K [false,false] Bc)
noncomputable abbrev pA:Prop:=bN P w K mg base 1 "_law_table" ["_law_web_here"] (bX mg K [false] Bb)
noncomputable abbrev nV:Prop:=bN P w K mg base 1 "_law_things" ["_law_web_here","_law_kind"] (bX mg K [false,false] Bt)
noncomputable abbrev sP:Prop:=bN P w K mg base 1 "_law_far" ["_law_fars","_law_look","_law_thing"] (bX mg K [false,false,false] AH)
noncomputable abbrev mE:Prop:=bN P w K mg base 2 "_law_parters" ["_law_fars","_law_one","_law_other"] (bX mg K [false,false,false] Ay)
noncomputable abbrev nR:Prop:=bN P w K mg base 3 "_law_parted" ["_law_web_here","_law_kind"] (bX mg K [false,false] BA)
end
section
variable{P:Program}{w:World}{K:Frag}{mg:Vt}{base:Heap}
noncomputable abbrev jZ:Stmt:=top 28
def fJ:aJ ["_law_script","_law_k","_law_cell","_law_number"] ["_law_script","_law_k"] (au jZ):=by ac_rfl
def xW(T:Txt K mg)(r:Rec K "_law_purse" jZ):oX P w K mg base:=
 bq T.ns r (by ac_nf) λF=>bF (m:=2) F fJ rfl (by decide) (d:=gE) (λcdv A outer s H Ex hr=>have hu:=hr.units;af (aL 2 fJ.nd (xI)) (oV (fU (bH.st (uV (aP 1 (aE (iR T.len (aP 0 a0)) a0)))) (ai (aL 2 fJ.nd (aQ hu (aP 0 (aP 1 a0))))) (ai (fU (bH.st (Hi hu (aP 0 (aE (b6 a0) a0)))) (ai (aL 2 fJ.nd (cQ (aE (ud (aE (aQ hu (aP 0 (aE (ud (aP 1 (aE (iR T.len (aP 0 a0)) a0))) a0))) (aE (xI) a0))) (aE (eK (aE (xI) (aP 1 a0))) a0))))) (b9)))) (af (fU (bH.st (QX (aP 2 (aE (xg (aE (xI) (aE (xI) a0))) a0)))) (ai (cN (b6 (aP 2 a0)))) (b9)) (af (aL 3 fJ.nd (ud (aE (N5 (aE (cQ (aE (cQ (aE (ud (aP 2 (aE (cQ (aE (xg (aE (xI) (aE (xI) a0))) (aE (xI) a0))) a0))) (aE (eK (aE (xI) (aP 1 a0))) a0))) (aE (xI) a0))) (aE (xI) a0))) (aE (cQ (aE (xg (aE (xI) (aE (xI) a0))) (aE (xI) a0))) a0)))) (ai (cN (b6 (aE (ud (aE (NH (aE (cQ (aE (cQ (aP 3 (aE (eK (aE (xI) (aP 1 a0))) a0))) (aE (xI) a0))) (aE (xI) a0))) (aE (cQ (aE (xg (aE (xI) (aE (xI) a0))) (aE (xI) a0))) a0))) a0)))))))) PB.Kl
noncomputable abbrev kr:Stmt:=top 38
def wM:aJ ["_law_pairs_here","_law_shares"] ["_law_pairs_here","_law_shares"] (au kr):=by ac_rfl
def we(T:Txt K mg)(r:Rec K "_law_least" kr):pF P w K mg base:=
 bq T.ns r (by ac_nf) λF=>bF (m:=2) F wM rfl (by decide) (d:=gH) (λcdv A outer s H Ex hr=>have hu:=hr.units;ai (cN (BR T.min (aE (jy (vs:=["_law_row"]) (NB:=["_law_row","_law_shares"]) (ix:=[1]) (by rfl) (fm (xV 0)) (λ_ _ _ _=>gN 0) (λ_ _ _ _=>.nil) (λ_ _ _ _ _=>dB (rC T.sum (aE (jy (vs:=["_law_place"]) (NB:=["_law_place","_law_shares"]) (ix:=[1]) (by rfl) (fm (aQ hu (aP 0 (aE (xI) a0)))) (λ_ _ _ _=>gN 0) (λ_ _ _ _=>.nil) (λ_ _ _ _ _=>dB (aQ hu (aP 1 (aP 0 a0))))) a0)))) a0)))) PB.MB
noncomputable abbrev lK:Stmt:=top 29
def qh:aJ ["_law_purse_here","_law_many","_law_found"] ["_law_purse_here","_law_many"] (au lK):=by ac_rfl
def yL(T:Txt K mg)(r:Rec K "_law_take" lK):gh P w K mg base:=
 bq T.ns r (by ac_nf) λF=>bF (m:=1) F qh rfl (by decide) (d:=iy) (λcdv A outer s H Ex hr=>have hu:=hr.units;af (aL 2 qh.nd (ud (aE (aQ hu (aP 0 (aE (xI) a0))) (aP 1 a0)))) (af (mP 0 hu (Lu (aE (aQ hu (aP 0 (aE (xI) a0))) (aP 1 a0))) (xI)) (ai (ie 2)))) PB.Nz
noncomputable abbrev kB:Stmt:=top 31
def dh:aJ ["_law_purse_here","_law_many","_law_way","_law_found","_law_k","_law_near","_law_one","_law_other"] ["_law_purse_here","_law_many","_law_way"] (au kB):=by ac_rfl
def xq(T:Txt K mg)(h0:gh P w K mg base)(r:Rec K "_law_pairs" kB):oK P w K mg base:=
 bq T.ns r (by ac_nf) λF=>bF (m:=6) F dh rfl (by decide) (d:=gB qC) (λcdv A outer s H Ex hr=>have hu:=hr.units;af (aL 3 dh.nd (b6 a0)) (af (dH Rm dh.nd (O5 T.range (aE (xI) (aP 1 a0))) (gN 4) (af (aL 5 dh.nd (aM h0 aT hr (aP 0 (aP 4 a0)))) (af (cW (xM 3 cG bV Sb Sd (eC (g8 (aE (aQ hu (aE (b6 (aE (vS (aP 4 (aE (xI) a0))) (aE (vS (aP 4 (aE (xI) a0))) (aE (xI) (aP 5 a0))))) (aE (GD T.min (aP 2 (aE (xI) a0))) a0))) (aP 4 a0))) e0))) (ai (fU (bH.st (ql hu (aP 2 (aE (xI) a0)))) (ai (cW (xM 3 tw rL Vj Vk (eC (jy (vs:=["_law_one"]) (NB:=["_law_one","_law_k"]) (ix:=[4]) (by rfl) (jG T.range (aP 4 a0)) (λ_ _ _ _=>gN 0) (λ_ _ _ _=>.nil) (λ_ _ _ _ _=>dB (g8 (aP 0 (aP 1 a0))))) e0)))) (b9)))))) (oV (fU (bH.st (n6.xO (pV (ql hu (aP 2 (aE (xI) a0))) (lM (xZ (aP 1 (aE (xI) a0))))))) (ai (cW (xM 3 cG bV Sb Sd (eC (g8 (aE (xI) (aE (vS (aP 1 (aE (xI) a0))) a0))) e0)))) (b9)) (oV (fU (bH.st (xZ (aP 2 (aE (xI) a0)))) (ai (dH Rm dh.nd (jG T.range (aE (aM h0 aT hr (aP 0 (aE (xI) a0))) a0)) (gN 4) (af (aL 6 dh.nd (aM h0 aT hr (aP 0 (aP 1 a0)))) (af (aL 7 dh.nd (aM h0 aT hr (aP 0 (aP 1 a0)))) (ai (cW (xM 3 tw rL Vj Vk (eC (eK (aE (b6 (aE (g8 (aP 6 (aP 7 a0))) a0)) (aE (MV T.int (aE (OU hu (aP 6 (aP 7 a0))) a0)) a0))) e0)))))))) (b9)) (ai (ie 3)))))) PB.LL
noncomputable abbrev jY:Stmt:=top 30
def ko:aJ ["_law_purse_here","_law_many","_law_found","_law_k"] ["_law_purse_here","_law_many"] (au jY):=by ac_rfl
def vN(T:Txt K mg)(h0:gh P w K mg base)(r:Rec K "_law_order" jY):oF P w K mg base:=
 bq T.ns r (by ac_nf) λF=>bF (m:=2) F ko rfl (by decide) (d:=gF qC) (λcdv A outer s H Ex hr=>af (aL 2 ko.nd (b6 a0)) (af (dH Rm ko.nd (jG T.range (aP 1 a0)) (gN 3) (ai (cW (xM 2 CO Ce PySem.F.slot_list_insert PySem.F.type_list_insert (eC (aM h0 aT hr (aP 0 (aE (cQ (aP 3 (aE (xI) a0))) a0))) (eC (xV 3) e0)))))) (ai (ie 2)))) PB.Nt
noncomputable abbrev lF:Stmt:=top 39
def jb:aJ ["_law_many","_law_pairs_here","_law_prices","_law_loads","_law_k","_law_place"] ["_law_many","_law_pairs_here","_law_prices"] (au lF):=by ac_rfl
def yH(T:Txt K mg)(r:Rec K "_law_most" lF):qy P w K mg base:=
 bq T.ns r (by ac_nf) λF=>bF (m:=3) F jb rfl (by decide) (d:=iu) (λcdv A outer s H Ex hr=>have hu:=hr.units;af (aL 3 jb.nd (eK (aE (b6 (aE (xI) a0)) (aP 0 a0)))) (af (dH Rm jb.nd (jG T.range (aE (iR T.len (aP 1 a0)) a0)) (gN 4) (ai (dH Rm jb.nd (fm (aQ hu (aE (aQ hu (aP 1 (aP 4 a0))) (aE (xI) a0)))) (gN 5) (ai (mP 3 hu (cQ (aE (aQ hu (aP 3 (aP 5 a0))) (aE (aQ hu (aP 2 (aP 4 a0))) a0))) (xV 5)))))) (ai (cN (N1 T.max (aP 3 a0)))))) PB.Le
noncomputable abbrev mS:Stmt:=top 32
def dQ:aJ ["_law_purse_here","_law_least","_law_most","_law_many","_law_found","_law_some","_law_places","_law_one","_law_other","_law_ends","_law_tie"] ["_law_purse_here","_law_least","_law_most"] (au mS):=by ac_rfl
def Bw(T:Txt K mg)(h0:gh P w K mg base)(h1:oK P w K mg base)(h2:oF P w K mg base)(r:Rec K "_law_web" mS):rZ P w K mg base:=
 bq T.ns r (by ac_nf) λF=>bF (m:=8) F dQ rfl (by decide) (d:=iz qC Cf GX) (λcdv A outer s H Ex hr=>have hu:=hr.units;af (aL 3 dQ.nd (cQ (aP 1 (aE (aM h0 aT hr (aP 0 (aE (vS (aE (cQ (aP 2 (aE (xI) a0))) (aP 1 a0))) a0))) a0)))) (af (aL 4 dQ.nd (b6 a0)) (af (aL 5 dQ.nd (aM h1 aT hr (aP 0 (aP 3 (aE (aM h0 aT hr (aP 0 (aE (xI) a0))) a0))))) (af (aL 6 dQ.nd (aM h2 aT hr (aP 0 (aP 3 a0)))) (af (dH Rm dQ.nd (fm (xV 5)) (gT (gC 7 (gC 8 g0))) (af (aL 9 dQ.nd (g8 (aE (aQ hu (aP 6 (aP 7 a0))) (aE (aQ hu (aP 6 (aP 8 a0))) a0)))) (af (aL 10 dQ.nd (g8 (aE (Ol T.min (aP 9 a0)) (aE (Oe T.max (aP 9 a0)) a0)))) (ai (fU (bH.st (PF hu (aP 10 (aP 4 a0)))) (ai (cW (xM 4 cG bV Sb Sd (eC (xV 10) e0)))) (b9)))))) (ai (cN (g8 (aP 3 (aE (Mj T.tuple (aE (KN T.sorted (aP 4 a0)) a0)) a0)))))))))) PB.KG
noncomputable abbrev ff:Stmt:=top 20
def oN:aJ ["web"] ["web"] (au ff):=by ac_rfl
def pH(T:Txt K mg)(r:Rec K "refuse_too_many" ff):jo P w K mg base:=
 bq T.ns r (by ac_nf) λF=>bF (m:=0) F oN rfl (by decide) (d:=f6) (λcdv A outer s H Ex hr=>have hu:=hr.units;ai (fU (bH.st (xZ (aE (aQ hu (aP 0 (aE (xI) a0))) (aE (xG T.yI) a0)))) (ai (ND)) (b9))) PB.Lc
noncomputable abbrev iB:Stmt:=top 17
def ir:aJ ["pairs","firsts","one","other","parters"] ["pairs"] (au iB):=by ac_rfl
def tD(T:Txt K mg)(r:Rec K "unlike_pairs" iB):k9 P w K mg base:=
 bq T.ns r (by ac_nf) λF=>bF (m:=4) F ir rfl (by decide) (d:=iJ) (λcdv A outer s H Ex hr=>have hu:=hr.units;af (aL 1 ir.nd (PM)) (af (dH Rm ir.nd (fm (xV 0)) (gT (gC 2 (gC 3 (gC 4 g0)))) (ai (cW (P4 1 4 hu T.tuple (g8 (aP 2 (aP 3 (aP 4 a0)))))))) (ai (cN (QY 1 T.list))))) PB.LY
noncomputable abbrev jr:Stmt:=top 22
def eN:aJ ["pairs","many","rows","place","parted","left"] ["pairs","many"] (au jr):=by ac_rfl
def vE(T:Txt K mg)(r:Rec K "first_rows" jr):n9 P w K mg base:=
 bq T.ns r (by ac_nf) λF=>bF (m:=7) F eN rfl (by decide) (d:=j7) (λcdv A outer s H Ex hr=>have hu:=hr.units;af (aL 2 eN.nd (b6 a0)) (af (dH Rm eN.nd (jG T.range (aP 1 a0)) (gN 3) (af (uf (j:=4) eN.nd (vs:=["one","other","parters"]) (NB:=["one","other","parters","place"]) (ix:=[3]) (by rfl) (fm (xV 0)) (λ_ _ _ _=>gT (gC 0 (gC 1 (gC 2 g0)))) (λ_ _ _ _=>.nil) (λ_ _ _ _ _=>dB (vH (bH.st (QV hu (aP 3 (aP 2 a0)))) (xI) (xI)))) (af (uf (j:=5) eN.nd (vs:=["another"]) (NB:=["another","place"]) (ix:=[3]) (by rfl) (jG T.range (aP 1 a0)) (λ_ _ _ _=>gN 0) (λ_ _ _ _=>.nil) (λ_ _ _ _ _=>dB (vH (bH.st (ql hu (aP 1 (aP 0 a0)))) (xI) (xI)))) (ai (cW (xM 2 cG bV Sb Sd (eC (cQ (aE (cQ (aP 4 (aP 5 a0))) (aE (b6 (aE (xI) a0)) a0))) e0))))))) (ai (cN (cQ (aP 2 (aE (b6 (aE (cQ (aE (eK (aE (b6 (aE (kC (aE (xI) a0)) a0)) (aE (iR T.len (aP 0 a0)) a0))) (aE (eK (aE (b6 (aE (xI) a0)) (aE (cQ (aP 1 (aE (xI) a0))) a0))) a0))) a0)) a0))))))) PB.Lk
noncomputable abbrev jB:Stmt:=top 25
def ju:aJ ["rows","base","column","place","best","mine","other"] ["rows","base","column","place","best"] (au jB):=by ac_rfl
def vG(T:Txt K mg)(r:Rec K "is_tighter" jB):nX P w K mg base:=
 bq T.ns r (by ac_nf) λF=>bF (m:=2) F ju rfl (by decide) (d:=jV) (λcdv A outer s H Ex hr=>have hu:=hr.units;af (aL 5 ju.nd (eK (aE (aQ hu (aE (aQ hu (aP 0 (aP 3 a0))) (aE (kC (aE (xI) a0)) a0))) (aE (aQ hu (aE (aQ hu (aP 0 (aP 4 a0))) (aP 2 a0))) a0)))) (af (aL 6 ju.nd (eK (aE (aQ hu (aE (aQ hu (aP 0 (aP 4 a0))) (aE (kC (aE (xI) a0)) a0))) (aE (aQ hu (aE (aQ hu (aP 0 (aP 3 a0))) (aP 2 a0))) a0)))) (ai (cN (NW (O0 (aP 5 (aP 6 a0))) (xU (yj (Ka hu (aP 5 (aP 6 a0))) (xU (O0 (aE (aQ hu (aP 1 (aP 3 a0))) (aE (aQ hu (aP 1 (aP 4 a0))) a0))))))))))) PB.LW
noncomputable abbrev lG:Stmt:=top 24
def ja:aJ ["rows","base","column","best","place"] ["rows","base","column"] (au lG):=by ac_rfl
def yQ(T:Txt K mg)(h0:nX P w K mg base)(r:Rec K "tightest" lG):qm P w K mg base:=
 bq T.ns r (by ac_nf) λF=>bF (m:=2) F ja rfl (by decide) (d:=mU BP) (λcdv A outer s H Ex hr=>have hu:=hr.units;af (aL 3 ja.nd (xN)) (af (dH Rm ja.nd (jG T.range (aE (iR T.len (aP 1 a0)) a0)) (gN 4) (ai (fU (bH.st (n6.xO (pV (xZ (aE (aQ hu (aE (aQ hu (aP 0 (aP 4 a0))) (aP 2 a0))) (aE (xI) a0))) (lM (n6.xO (MC (OG (aP 3 (aE (xN) a0))) (lM (Kp (aM h0 aT hr (aP 0 (aP 1 (aP 2 (aP 4 (aP 3 a0)))))))))))))) (ai (aL 3 ja.nd (xV 4))) (b9)))) (ai (ie 3)))) PB.K5
noncomputable abbrev oR:Stmt:=top 26
def lu:aJ ["rows","bottom","place","column","pivot","after","at","line"] ["rows","bottom","place","column"] (au oR):=by ac_rfl
def Cz(T:Txt K mg)(r:Rec K "turned" oR):uK P w K mg base:=
 bq T.ns r (by ac_nf) λF=>bF (m:=6) F lu rfl (by decide) (d:=qM) (λcdv A outer s H Ex hr=>have hu:=hr.units;af (aL 4 lu.nd (aQ hu (aP 0 (aP 2 a0)))) (af (aL 5 lu.nd (b6 a0)) (af (dH Rm lu.nd (BQ T.enumerate (xV 0)) (gT (gC 6 (gC 7 g0))) (ai (fU (bH.st (ql hu (aP 6 (aP 2 a0)))) (ai (cW (xM 5 cG bV Sb Sd (eC (xV 4) e0)))) (ai (cW (xM 5 cG bV Sb Sd (eC (jy (vs:=["entry","mine"]) (NB:=["entry","mine","pivot","column","line","bottom"]) (ix:=[4,3,7,1]) (by rfl) (BC T.zip (xV 7) (xV 4)) (λ_ _ _ _=>gT (gC 0 (gC 1 g0))) (λ_ _ _ _=>.nil) (λ_ _ _ _ _=>dB (Lu (aE (vS (aE (eK (aP 0 (aE (aQ hu (aP 2 (aP 3 a0))) a0))) (aE (eK (aE (aQ hu (aP 4 (aP 3 a0))) (aP 1 a0))) a0))) (aP 5 a0))))) e0))))))) (ai (ie 5))))) PB.Ls
noncomputable abbrev iQ:Stmt:=top 23
def b8:aJ ["pairs","many","rows","base","bottom","column","place"] ["pairs","many"] (au iQ):=by ac_rfl
def tR(T:Txt K mg)(h0:n9 P w K mg base)(h1:qm P w K mg base)(h2:uK P w K mg base)(r:Rec K "best_prices" iQ):lO P w K mg base:=
 bq T.ns r (by ac_nf) λF=>bF (m:=7) F b8 rfl (by decide) (d:=jz AA AL AJ) (λcdv A outer s H Ex hr=>have hu:=hr.units;af (aL 2 b8.nd (aM h0 aT hr (aP 0 (aP 1 a0)))) (af (uf (j:=3) b8.nd (vs:=["place"]) (NB:=["place","pairs"]) (ix:=[0]) (by rfl) (jG T.range (aP 1 a0)) (λ_ _ _ _=>gN 0) (λ_ _ _ _=>.nil) (λ_ _ _ _ _=>dB (cQ (aE (iR T.len (aP 1 a0)) (aP 0 a0))))) (af (aL 4 b8.nd (xI)) (af (DK Rm (bH.st (uV (aE (BR T.min (aE (sL (aE (aQ hu (aP 2 (aE (kC (aE (xI) a0)) a0))) (aE (kC (aE (xI) a0)) a0))) a0)) (aE (xI) a0)))) (af (aL 5 b8.nd (aQ hu (aE (jy (vs:=["at","gain"]) (NB:=["at","gain"]) (ix:=[]) (by rfl) (BQ T.enumerate (sL (aE (aQ hu (aP 2 (aE (kC (aE (xI) a0)) a0))) (aE (kC (aE (xI) a0)) a0)))) (λ_ _ _ _=>gT (gC 0 (gC 1 g0))) (λ_ _ _ _=>.one (bH.st (uV (aP 1 (aE (xI) a0))))) (λ_ _ _ _ _=>dB (xV 0))) (aE (xI) a0)))) (af (aL 6 b8.nd (aM h1 aT hr (aP 2 (aP 3 (aP 5 a0))))) (af (aL 2 b8.nd (aM h2 aT hr (aP 2 (aP 4 (aP 6 (aP 5 a0)))))) (af (aL 4 b8.nd (aQ hu (aE (aQ hu (aP 2 (aP 6 a0))) (aP 5 a0)))) (ai (mP 3 hu (xV 5) (xV 6)))))))) (ai (cN (g8 (aP 4 (aP 3 (aP 2 a0)))))))))) PB.KQ
noncomputable abbrev fB:Stmt:=top 7
def oQ:aJ ["web","place"] ["web","place"] (au fB):=by ac_rfl
def ou(T:Txt K mg)(r:Rec K "refuse_no_place" fB):jm P w K mg base:=
 bq T.ns r (by ac_nf) λF=>bF (m:=0) F oQ rfl (by decide) (d:=f7) (λcdv A outer s H Ex hr=>have hu:=hr.units;ai (fU (PD (bH.st (Eb OC Bv rfl (xI) (xV 1) (aQ hu (aP 0 (aE (xI) a0)))))) (ai (JI T.JM)) (b9))) PB.Lm
noncomputable abbrev eX:Stmt:=top 5
def dM:aJ ["web","many","ties","lists","one","other"] ["web"] (au eX):=by ac_rfl
def om(T:Txt K mg)(r:Rec K "neighbour_lists" eX):jf P w K mg base:=
 bq T.ns r (by ac_nf) λF=>bF (m:=6) F dM rfl (by decide) (d:=fY) (λcdv A outer s H Ex hr=>af (B8 dM.nd (gC 1 (gC 2 g0)) (xV 0)) (af (P9 (j:=3) dM.nd (vs:=["place"]) (NB:=["place"]) (ix:=[]) (by rfl) (jG T.range (aP 1 a0)) (λ_ _ _ _=>gN 0) (λ_ _ _ _=>.nil) (λ_ _ _ _=>b6 a0)) (af (dH Rm dM.nd (fm (xV 2)) (gT (gC 4 (gC 5 g0))) (af (cW (OT 3 5 cG bV Sb Sd (xV 4))) (ai (cW (OT 3 4 cG bV Sb Sd (xV 5)))))) (ai (ie 3))))) PB.Ng
noncomputable abbrev g9:Stmt:=top 6
def bR:aJ ["web","place","lists","fars","edge","reached","here","there"] ["web","place"] (au g9):=by ac_rfl
def rX(T:Txt K mg)(h0:jf P w K mg base)(r:Rec K "fars_or_none" g9):kP P w K mg base:=
 bq T.ns r (by ac_nf) λF=>bF (m:=6) F bR rfl (by decide) (d:=iP AO) (λcdv A outer s H Ex hr=>have hu:=hr.units;af (aL 2 bR.nd (aM h0 aT hr (aP 0 a0))) (af (aL 3 bR.nd (eK (aE (b6 (aE (xN) a0)) (aE (aQ hu (aP 0 (aE (xI) a0))) a0)))) (af (mP 3 hu (xI) (xV 1)) (af (aL 4 bR.nd (b6 (aP 1 a0))) (af (DK Rm (tV 4) (af (aL 5 bR.nd (b6 a0)) (af (dH Rm bR.nd (fm (xV 4)) (gN 6) (ai (dH Rm bR.nd (fm (aQ hu (aP 2 (aP 6 a0)))) (gN 7) (ai (fU (bH.st (OG (aE (aQ hu (aP 3 (aP 7 a0))) (aE (xN) a0)))) (af (mP 3 hu (cQ (aE (aQ hu (aP 3 (aP 6 a0))) (aE (xI) a0))) (xV 7)) (ai (cW (xM 5 cG bV Sb Sd (eC (xV 7) e0))))) (b9)))))) (ai (aL 4 bR.nd (xV 5)))))) (ai (ie 3))))))) PB.Kw
noncomputable abbrev j9:Stmt:=top 8
def xD:aJ ["web","place"] ["web","place"] (au j9):=by ac_rfl
def wg(T:Txt K mg)(h0:jm P w K mg base)(h1:kP P w K mg base)(r:Rec K "fars_from" j9):oH P w K mg base:=
 bq T.ns r (by ac_nf) λF=>bF (m:=0) F xD rfl (by decide) (d:=lB BJ BZ) (λcdv A outer s H Ex hr=>af (cW (aM h0 aT hr (aP 0 (aP 1 a0)))) (ai (cN (aM h1 aT hr (aP 0 (aP 1 a0)))))) PB.KH
noncomputable abbrev lD:Stmt:=top 13
def yK:aJ ["web"] ["web"] (au lD):=by ac_rfl
def yS(T:Txt K mg)(h0:oH P w K mg base)(r:Rec K "far_rows" lD):qf P w K mg base:=
 bq T.ns r (by ac_nf) λF=>bF (m:=1) F yK rfl (by decide) (d:=mZ Ba) (λcdv A outer s H Ex hr=>have hu:=hr.units;ai (cN (jy (vs:=["place"]) (NB:=["place","web"]) (ix:=[0]) (by rfl) (jG T.range (aE (aQ hu (aP 0 (aE (xI) a0))) a0)) (λ_ _ _ _=>gN 0) (λ_ _ _ _=>.nil) (λ_ _ _ _ _=>dB (aM h0 nA hr (aP 1 (aP 0 a0))))))) PB.LM
noncomputable abbrev kF:Stmt:=top 11
def iG:aJ ["web","kind","many","ties","places","joins"] ["web","kind"] (au kF):=by ac_rfl
def wz(T:Txt K mg)(r:Rec K "things_of" kF):oA P w K mg base:=
 bq T.ns r (by ac_nf) λF=>bF (m:=4) F iG rfl (by decide) (d:=lH) (λcdv A outer s H Ex hr=>have hu:=hr.units;af (B8 iG.nd (gC 2 (gC 3 g0)) (xV 0)) (af (aL 4 iG.nd (vH (bH.st (ql hu (aP 1 (aE (xS) a0)))) (b6 a0) (Eu T.list T.range (aP 2 a0)))) (af (aL 5 iG.nd (vH (bH.st (ql hu (aP 1 (aE (xS) a0)))) (b6 a0) (NU T.list (aP 3 a0)))) (ai (cN (cQ (aP 4 (aP 5 a0)))))))) PB.MM
noncomputable abbrev jv:Stmt:=top 9
def vF:aJ ["fars","tie"] ["fars","tie"] (au jv):=by ac_rfl
def vC(T:Txt K mg)(r:Rec K "nearer_end" jv):nU P w K mg base:=
 bq T.ns r (by ac_nf) λF=>bF (m:=0) F vF rfl (by decide) (d:=j8) (λcdv A outer s H Ex hr=>have hu:=hr.units;ai (cN (GD T.min (aE (aQ hu (aP 0 (aE (aQ hu (aP 1 (aE (xI) a0))) a0))) (aE (aQ hu (aP 0 (aE (aQ hu (aP 1 (aE (xI) a0))) a0))) a0))))) PB.Ks
noncomputable abbrev kg:Stmt:=top 12
def wo:aJ ["fars","thing"] ["fars","thing"] (au kg):=by ac_rfl
def xC(T:Txt K mg)(h0:nU P w K mg base)(r:Rec K "thing_far" kg):pG P w K mg base:=
 bq T.ns r (by ac_nf) λF=>bF (m:=0) F wo rfl (by decide) (d:=lI AB) (λcdv A outer s H Ex hr=>have hu:=hr.units;af (fU (bH.st (Kp (LP T.kit T.isinstance T.int VY (aP 1 a0)))) (ai (cN (aQ hu (aP 0 (aP 1 a0))))) (b9)) (ai (cN (aM h0 aT hr (aP 0 (aP 1 a0)))))) PB.Mf
noncomputable abbrev jq:Stmt:=top 14
def vp:aJ ["rows","one","other"] ["rows","one","other"] (au jq):=by ac_rfl
def vB(T:Txt K mg)(h0:pG P w K mg base)(r:Rec K "parters_by" jq):nW P w K mg base:=
 bq T.ns r (by ac_nf) λF=>bF (m:=2) F vp rfl (by decide) (d:=kM AM) (λcdv A outer s H Ex hr=>have hu:=hr.units;ai (cN (jy (vs:=["place","fars"]) (NB:=["place","fars","one","other"]) (ix:=[1,2]) (by rfl) (BQ T.enumerate (xV 0)) (λ_ _ _ _=>gT (gC 0 (gC 1 g0))) (λ_ _ _ _=>.one (bH.st (Hi hu (aE (aM h0 nA hr (aP 1 (aP 2 a0))) (aE (aM h0 nA hr (aP 1 (aP 3 a0))) a0))))) (λ_ _ _ _ _=>dB (xV 0))))) PB.Nh
noncomputable abbrev lJ:Stmt:=top 16
def eT:aJ ["web","kind","rows","things","pairs","at","one"] ["web","kind"] (au lJ):=by ac_rfl
def yG(T:Txt K mg)(h0:qf P w K mg base)(h1:oA P w K mg base)(h2:nW P w K mg base)(r:Rec K "pairs_of" lJ):qt P w K mg base:=
 bq T.ns r (by ac_nf) λF=>bF (m:=6) F eT rfl (by decide) (d:=ni BN AV A8) (λcdv A outer s H Ex hr=>af (aL 2 eT.nd (aM h0 aT hr (aP 0 a0))) (af (aL 3 eT.nd (aM h1 aT hr (aP 0 (aP 1 a0)))) (af (aL 4 eT.nd (b6 a0)) (af (dH Rm eT.nd (BQ T.enumerate (xV 3)) (gT (gC 5 (gC 6 g0))) (ai (PC 4 eT.nd (jy (vs:=["other"]) (NB:=["other","one","rows"]) (ix:=[6,2]) (by rfl) (fm (ED (aP 3 (aE (cQ (aP 5 (aE (xI) a0))) a0)))) (λ_ _ _ _=>gN 0) (λ_ _ _ _=>.nil) (λ_ _ _ _ _=>dB (g8 (aP 1 (aP 0 (aE (aM h2 nA hr (aP 2 (aP 1 (aP 0 a0)))) a0))))))))) (ai (ie 4)))))) PB.Lf
noncomputable abbrev jU:Stmt:=top 21
def c7:aJ ["web","kind","pairs","bottom","base","rows","goal","shares","priced","prices"] ["web","kind"] (au jU):=by ac_rfl
def vZ(T:Txt K mg)(h0:jo P w K mg base)(h1:k9 P w K mg base)(h2:qt P w K mg base)(h3:lO P w K mg base)(r:Rec K "shares_of" jU):oS P w K mg base:=
 bq T.ns r (by ac_nf) λF=>bF (m:=10) F c7 rfl (by decide) (d:=lE AS AN Br Cd) (λcdv A outer s H Ex hr=>have hu:=hr.units;af (cW (aM h0 aT hr (aP 0 a0))) (af (aL 2 c7.nd (aM h1 aT hr (aE (aM h2 aT hr (aP 0 (aP 1 a0))) a0))) (af (B8 c7.nd (gC 3 (gC 4 (gC 5 g0))) (aM h3 aT hr (aP 2 (aE (aQ hu (aP 0 (aE (xI) a0))) a0)))) (af (aL 6 c7.nd (aQ hu (aP 5 (aE (kC (aE (xI) a0)) a0)))) (af (aL 7 c7.nd (M6 (aP 6 (aE (iR T.len (aP 2 a0)) (aE (kC (aE (xI) a0)) a0))))) (af (uf (j:=8) c7.nd (vs:=["at","line"]) (NB:=["at","line","pairs"]) (ix:=[2]) (by rfl) (BC T.zip (xV 4) (xV 5)) (λ_ _ _ _=>gT (gC 0 (gC 1 g0))) (λ_ _ _ _=>.one (bH.st (uV (aP 0 (aE (iR T.len (aP 2 a0)) a0))))) (λ_ _ _ _ _=>dB (g8 (aP 0 (aE (aQ hu (aP 1 (aE (kC (aE (xI) a0)) a0))) a0))))) (af (uf (j:=9) c7.nd (vs:=["at","price"]) (NB:=["at","price","pairs"]) (ix:=[2]) (by rfl) (fm (xV 8)) (λ_ _ _ _=>gT (gC 0 (gC 1 g0))) (λ_ _ _ _=>.one (bH.st (xZ (aP 1 (aE (xI) a0))))) (λ_ _ _ _ _=>dB (g8 (aE (aQ hu (aE (aQ hu (aP 2 (aP 0 a0))) (aE (xI) a0))) (aE (aQ hu (aE (aQ hu (aP 2 (aP 0 a0))) (aE (xI) a0))) (aP 1 a0)))))) (ai (cN (g8 (aP 3 (aP 7 (aP 9 a0))))))))))))) PB.MH
noncomputable abbrev kh:Stmt:=top 33
def eu:aJ ["_law_web_here","_law_found","_law_place","_law_row","_law_step","_law_one","_law_other"] ["_law_web_here"] (au kh):=by ac_rfl
def yD(T:Txt K mg)(r:Rec K "_law_table" kh):pA P w K mg base:=
 bq T.ns r (by ac_nf) λF=>bF (m:=6) F eu rfl (by decide) (d:=gJ) (λcdv A outer s H Ex hr=>have hu:=hr.units;af (aL 1 eu.nd (b6 a0)) (af (dH Rm eu.nd (jG T.range (aE (aQ hu (aP 0 (aE (xI) a0))) a0)) (gN 2) (af (aL 3 eu.nd (eK (aE (b6 (aE (kC (aE (xI) a0)) a0)) (aE (aQ hu (aP 0 (aE (xI) a0))) a0)))) (af (mP 3 hu (xI) (xV 2)) (af (dH Rm eu.nd (jG T.range (aE (aQ hu (aP 0 (aE (xI) a0))) a0)) (gN 4) (ai (dH Rm eu.nd (fm (aQ hu (aP 0 (aE (xI) a0)))) (gT (gC 5 (gC 6 g0))) (oV (fU (bH.st (n6.xO (pV (ql hu (aE (aQ hu (aP 3 (aP 5 a0))) (aP 4 a0))) (lM (uV (aE (aQ hu (aP 3 (aP 6 a0))) (aE (xI) a0))))))) (ai (mP 3 hu (cQ (aP 4 (aE (xI) a0))) (xV 6))) (b9)) (ai (fU (bH.st (n6.xO (pV (ql hu (aE (aQ hu (aP 3 (aP 6 a0))) (aP 4 a0))) (lM (uV (aE (aQ hu (aP 3 (aP 5 a0))) (aE (xI) a0))))))) (ai (mP 3 hu (cQ (aP 4 (aE (xI) a0))) (xV 5))) (b9))))))) (ai (cW (xM 1 cG bV Sb Sd (eC (xV 3) e0)))))))) (ai (ie 1)))) PB.MA
noncomputable abbrev jw:Stmt:=top 34
def nP:aJ ["_law_web_here","_law_kind","_law_found"] ["_law_web_here","_law_kind"] (au jw):=by ac_rfl
def vz(T:Txt K mg)(r:Rec K "_law_things" jw):nV P w K mg base:=
 bq T.ns r (by ac_nf) λF=>bF (m:=1) F nP rfl (by decide) (d:=fV) (λcdv A outer s H Ex hr=>have hu:=hr.units;af (aL 2 nP.nd (eK (aE (Eu T.list T.range (aE (aQ hu (aP 0 (aE (xI) a0))) a0)) (aE (MV T.int (aE (OU hu (aP 1 (aE (xS) a0))) a0)) a0)))) (oV (fU (bH.st (Hi hu (aP 1 (aE (xS) a0)))) (ai (cW (xM 2 B7 F7 Vj Vk (eC (aQ hu (aP 0 (aE (xI) a0))) e0)))) (b9)) (ai (ie 2)))) PB.Mt
noncomputable abbrev nG:Stmt:=top 35
def Cc:aJ ["_law_fars","_law_look","_law_thing"] ["_law_fars","_law_look","_law_thing"] (au nG):=by ac_rfl
def BD(T:Txt K mg)(r:Rec K "_law_far" nG):sP P w K mg base:=
 bq T.ns r (by ac_nf) λF=>bF (m:=1) F Cc rfl (by decide) (d:=i9) (λcdv A outer s H Ex hr=>have hu:=hr.units;af (fU (bH.st (Kp (LP T.kit T.isinstance T.int VY (aP 2 a0)))) (ai (cN (aQ hu (aE (aQ hu (aP 0 (aP 1 a0))) (aP 2 a0))))) (b9)) (ai (cN (BR T.min (aE (jy (vs:=["_law_end"]) (NB:=["_law_end","_law_fars","_law_look"]) (ix:=[0,1]) (by rfl) (fm (xV 2)) (λ_ _ _ _=>gN 0) (λ_ _ _ _=>.nil) (λ_ _ _ _ _=>dB (aQ hu (aE (aQ hu (aP 1 (aP 2 a0))) (aP 0 a0))))) a0))))) PB.La
noncomputable abbrev iM:Stmt:=top 36
def tL:aJ ["_law_fars","_law_one","_law_other"] ["_law_fars","_law_one","_law_other"] (au iM):=by ac_rfl
def ug(T:Txt K mg)(h0:sP P w K mg base)(r:Rec K "_law_parters" iM):mE P w K mg base:=
 bq T.ns r (by ac_nf) λF=>bF (m:=1) F tL rfl (by decide) (d:=fE AH) (λcdv A outer s H Ex hr=>have hu:=hr.units;ai (cN (jy (vs:=["_law_look"]) (NB:=["_law_look","_law_fars","_law_one","_law_other"]) (ix:=[0,1,2]) (by rfl) (jG T.range (aE (iR T.len (aP 0 a0)) a0)) (λ_ _ _ _=>gN 0) (λ_ _ _ _=>.one (bH.st (Hi hu (aE (aM h0 nA hr (aP 1 (aP 0 (aP 2 a0)))) (aE (aM h0 nA hr (aP 1 (aP 0 (aP 3 a0)))) a0))))) (λ_ _ _ _ _=>dB (xV 0))))) PB.Ml
noncomputable abbrev jA:Stmt:=top 37
def dI:aJ ["_law_web_here","_law_kind","_law_fars","_law_some","_law_found","_law_k","_law_other"] ["_law_web_here","_law_kind"] (au jA):=by ac_rfl
def vD(T:Txt K mg)(h0:pA P w K mg base)(h1:nV P w K mg base)(h2:mE P w K mg base)(r:Rec K "_law_parted" jA):nR P w K mg base:=
 bq T.ns r (by ac_nf) λF=>bF (m:=5) F dI rfl (by decide) (d:=fZ Bb Bt Ay) (λcdv A outer s H Ex hr=>have hu:=hr.units;af (aL 2 dI.nd (aM h0 aT hr (aP 0 a0))) (af (aL 3 dI.nd (aM h1 aT hr (aP 0 (aP 1 a0)))) (af (aL 4 dI.nd (b6 a0)) (af (dH Rm dI.nd (jG T.range (aE (iR T.len (aP 3 a0)) a0)) (gN 5) (ai (dH Rm dI.nd (fm (ED (aP 3 (aE (cQ (aP 5 (aE (xI) a0))) a0)))) (gN 6) (ai (cW (xM 4 cG bV Sb Sd (eC (g8 (aE (aQ hu (aP 3 (aP 5 a0))) (aP 6 (aE (aM h2 aT hr (aP 2 (aE (aQ hu (aP 3 (aP 5 a0))) (aP 6 a0)))) a0)))) e0))))))) (ai (ie 4)))))) PB.ME
noncomputable abbrev wu:Stmt:=top 40
def cT:aJ ["_law_script","_law_purse_here","_law_kind","_law_web_here","_law_bottom","_law_shares","_law_prices","_law_sum","_law_pairs_here","_law_k","_law_own_purse","_law_top","_law_drawn","_law_paid","_law_j","_law_at","_law_told","_law_pair"] ["_law_script"] (au wu):=by ac_rfl
def K3(T:Txt K mg)(h0:oX P w K mg base)(h1:gh P w K mg base)(h2:rZ P w K mg base)(h3:oS P w K mg base)(h4:nR P w K mg base)(h5:pF P w K mg base)(h6:qy P w K mg base){f:Addr}{fd:FuncData}(F:rJ K "law" "law" wu f fd):gf P w K mg base (eE P w) 7 f fd ["_law_script"] (bX mg K [false] uz):=
 bF (m:=18) F cT rfl (by decide) (d:=nq BO qC Cg Bc BA BU Ci) (λcdv A outer s H Ex hr=>have hu:=hr.units;af (aL 1 cT.nd (aM h0 aT hr (aP 0 (aE (xI) a0)))) (af (aL 2 cT.nd (aQ hu (aE (b6 (aE (xS) (aE (xS) (aE (xS) a0)))) (aE (aM h1 aT hr (aP 1 (aE (xI) a0))) a0)))) (af (aL 3 cT.nd (LU h2 aT hr (a0) (aM h0 aT hr (aP 0 (aE (xI) a0))) (aE (xI) (aE (xI) a0)))) (af (B8 cT.nd (gC 4 (gC 5 (gC 6 g0))) (aM h3 aT hr (aP 3 (aP 2 a0)))) (af (aL 7 cT.nd (rC T.sum (aP 5 a0))) (af (aL 8 cT.nd (aM h4 aT hr (aP 3 (aP 2 a0)))) (af (fU (bH.st (ql hu (aP 8 (aE (b6 a0) a0)))) (ai (cN (yj (Ka hu (aP 7 (aE (xI) a0))) (yj (Ka hu (aP 6 (aE (b6 a0) a0))) (xU (QD (aP 4 (aE (xI) a0)))))))) (b9)) (af (dH Rm cT.nd (O5 T.range (aE (xI) (aE (GD T.min (aE (xI) (aE (P8 T.max (aE (xI) (aE (iR T.len (aP 0 a0)) a0))) a0))) a0))) (gN 9) (af (aL 10 cT.nd (aM h0 aT hr (aP 0 (aP 9 a0)))) (af (aL 11 cT.nd (aQ hu (aE (b6 (aE (xI) (aE (xI) (aE (xg (aE (xI) (aE (xI) a0))) a0)))) (aE (aM h1 aT hr (aP 10 (aE (xI) a0))) a0)))) (af (uf (j:=12) cT.nd (vs:=["_law_place"]) (NB:=["_law_place","_law_own_purse","_law_top"]) (ix:=[10,11]) (by rfl) (jG T.range (aE (aQ hu (aP 3 (aE (xI) a0))) a0)) (λ_ _ _ _=>gN 0) (λ_ _ _ _=>.nil) (λ_ _ _ _ _=>dB (aM h1 nA hr (aP 1 (aP 2 a0))))) (af (fU (bH.st (uV (aE (eK (aE (rC T.sum (aP 12 a0)) (aP 4 a0))) (aE (eK (aE (aM h5 aT hr (aP 8 (aP 12 a0))) (aP 7 a0))) a0)))) (ai (cN (xB))) (b9)) (af (aL 13 cT.nd (eK (aE (b6 (aE (xI) a0)) (aE (iR T.len (aP 8 a0)) a0)))) (af (dH Rm cT.nd (jG T.range (aE (cQ (aE (xI) (aE (aM h1 aT hr (aP 10 (aE (xI) a0))) a0))) a0)) (gN 14) (af (aL 15 cT.nd (aM h1 aT hr (aP 10 (aE (iR T.len (aP 8 a0)) a0)))) (ai (mP 13 hu (aM h1 aT hr (aP 10 (aP 11 a0))) (xV 15))))) (ai (fU (bH.st (xZ (aE (eK (aE (rC T.sum (aP 13 a0)) (aP 4 a0))) (aE (eK (aE (aM h6 aT hr (aE (aQ hu (aP 3 (aE (xI) a0))) (aP 8 (aP 13 a0)))) (aP 7 a0))) a0)))) (ai (cN (xB))) (b9)))))))))) (af (fU (bH.st (uV (aE (aM h5 aT hr (aP 8 (aP 5 a0))) (aP 4 a0)))) (ai (cN (xB))) (b9)) (af (aL 16 cT.nd (b6 a0)) (af (dH Rm cT.nd (fm (xV 8)) (gN 17) (ai (cW (xM 16 cG bV Sb Sd (eC (rC T.sum (aE (jy (vs:=["_law_row"]) (NB:=["_law_row","_law_pair"]) (ix:=[17]) (by rfl) (fm (xV 6)) (λ_ _ _ _=>gN 0) (λ_ _ _ _=>.one (bH.st (ql hu (aE (sL (aP 0 (aE (xI) a0))) (aE (sL (aP 1 (aE (xI) a0))) a0))))) (λ_ _ _ _ _=>dB (aQ hu (aP 0 (aE (xI) a0))))) a0)) e0))))) (af (fU (bH.st (xZ (aE (aM h6 aT hr (aE (aQ hu (aP 3 (aE (xI) a0))) (aP 8 (aP 16 a0)))) (aP 4 a0)))) (ai (cN (xB))) (b9)) (ai (cN (GL EX EX rfl (rC T.sum (aP 16 a0)) (xV 7) (rC T.sum (aE (jy (vs:=["_law_row"]) (NB:=["_law_row"]) (ix:=[]) (by rfl) (fm (xV 6)) (λ_ _ _ _=>gN 0) (λ_ _ _ _=>.nil) (λ_ _ _ _ _=>dB (aQ hu (aP 0 (aE (xI) a0))))) a0))))))))))))))))) PB.GU
end
def all_mk{l:OpenLaw}{w:World}{K:Frag}{h:Heap}{mg:Vt}{fa:Addr}(X:K.In h)(G:h.Ns mainGlobals mg)(hfa:mg "law"=some (.ref fa))(qd00:Rec K "_law_purse" jZ)(qd01:Rec K "_law_least" kr)(qd02:Rec K "_law_take" lK)(qd03:Rec K "_law_pairs" kB)(qd04:Rec K "_law_order" jY)(qd05:Rec K "_law_most" lF)(qd06:Rec K "_law_web" mS)(qd07:Rec K "refuse_too_many" ff)(qd08:Rec K "unlike_pairs" iB)(qd09:Rec K "first_rows" jr)(qd10:Rec K "is_tighter" jB)(qd11:Rec K "tightest" lG)(qd12:Rec K "turned" oR)(qd13:Rec K "best_prices" iQ)(qd14:Rec K "refuse_no_place" fB)(qd15:Rec K "neighbour_lists" eX)(qd16:Rec K "fars_or_none" g9)(qd17:Rec K "fars_from" j9)(qd18:Rec K "far_rows" lD)(qd19:Rec K "things_of" kF)(qd20:Rec K "nearer_end" jv)(qd21:Rec K "thing_far" kg)(qd22:Rec K "parters_by" jq)(qd23:Rec K "pairs_of" lJ)(qd24:Rec K "shares_of" jU)(qd25:Rec K "_law_table" kh)(qd26:Rec K "_law_things" jw)(qd27:Rec K "_law_far" nG)(qd28:Rec K "_law_parters" iM)(qd29:Rec K "_law_parted" jA)(qd30:Rec K "law" wu)(zenumerate:nsIn K mainGlobals "enumerate"=some none)(zint:nsIn K mainGlobals "int"=some none)(zisinstance:nsIn K mainGlobals "isinstance"=some none)(zlen:nsIn K mainGlobals "len"=some none)(zlist:nsIn K mainGlobals "list"=some none)(zmax:nsIn K mainGlobals "max"=some none)(zmin:nsIn K mainGlobals "min"=some none)(zrange:nsIn K mainGlobals "range"=some none)(zsorted:nsIn K mainGlobals "sorted"=some none)(zsum:nsIn K mainGlobals "sum"=some none)(ztuple:nsIn K mainGlobals "tuple"=some none)(zzip:nsIn K mainGlobals "zip"=some none)(gMOST_SHARED:∃t,nsIn K mainGlobals "MOST_SHARED"=some (some (.int 7 t)))(xNoPlace:M1 K "NoPlace")(kit:wG K ["int"]=true) : ∃fd:FuncData,(∀(s:Shared)(v:Value),BindsTo s fd ⟨[v],[]⟩ [("_law_script",v)])/\∀base:Heap,K.In base->base.Ns mainGlobals mg->gf l.prog w K mg base (eE l.prog w) 7 fa fd ["_law_script"] (bX mg K [false] uz):=by have T:Txt K mg:=⟨Se X G zenumerate,Se X G zint,Se X G zisinstance,Se X G zlen,Se X G zlist,Se X G zmax,Se X G zmin,Se X G zrange,Se X G zsorted,Se X G zsum,Se X G ztuple,Se X G zzip,(let⟨t,ht⟩:=gMOST_SHARED;⟨t,mg_of X G ht⟩),(let⟨C,h1,h2⟩:=xNoPlace;⟨C,mg_of X G h1,h2⟩),kit,⟨h,X,G⟩⟩;obtain⟨fl,fdl,nl,Fl⟩:=qd30;have e:=hfa.symm.trans (mg_of X G nl);cases e;refine⟨fdl,?_,λbase _ _=>?_⟩;{obtain⟨_,_,_,_,_,_,_,_,_,rfl,_,_⟩:=Fl.ex;exact λs v=>.of_eq rfl};have Hd00:=xW (P:=l.prog) (w:=w) (base:=base) T qd00;have Hd01:=we (P:=l.prog) (w:=w) (base:=base) T qd01;have Hd02:=yL (P:=l.prog) (w:=w) (base:=base) T qd02;have Hd03:=xq T Hd02 qd03;have Hd04:=vN T Hd02 qd04;have Hd05:=yH (P:=l.prog) (w:=w) (base:=base) T qd05;have Hd06:=Bw T Hd02 Hd03 Hd04 qd06;have Hd07:=pH (P:=l.prog) (w:=w) (base:=base) T qd07;have Hd08:=tD (P:=l.prog) (w:=w) (base:=base) T qd08;have Hd09:=vE (P:=l.prog) (w:=w) (base:=base) T qd09;have Hd10:=vG (P:=l.prog) (w:=w) (base:=base) T qd10;have Hd11:=yQ T Hd10 qd11;have Hd12:=Cz (P:=l.prog) (w:=w) (base:=base) T qd12;have Hd13:=tR T Hd09 Hd11 Hd12 qd13;have Hd14:=ou (P:=l.prog) (w:=w) (base:=base) T qd14;have Hd15:=om (P:=l.prog) (w:=w) (base:=base) T qd15;have Hd16:=rX T Hd15 qd16;have Hd17:=wg T Hd14 Hd16 qd17;have Hd18:=yS T Hd17 qd18;have Hd19:=wz (P:=l.prog) (w:=w) (base:=base) T qd19;have Hd20:=vC (P:=l.prog) (w:=w) (base:=base) T qd20;have Hd21:=xC T Hd20 qd21;have Hd22:=vB T Hd21 qd22;have Hd23:=yG T Hd18 Hd19 Hd22 qd23;have Hd24:=vZ T Hd07 Hd08 Hd23 Hd13 qd24;have Hd25:=yD (P:=l.prog) (w:=w) (base:=base) T qd25;have Hd26:=vz (P:=l.prog) (w:=w) (base:=base) T qd26;have Hd27:=BD (P:=l.prog) (w:=w) (base:=base) T qd27;have Hd28:=ug T Hd27 qd28;have Hd29:=vD T Hd25 Hd26 Hd28 qd29;exact K3 T Hd00 Hd02 Hd06 Hd24 Hd29 Hd01 Hd05 Fl
def walk{l:OpenLaw}{q:Program}{loose:WQ}{XP:(Vt)->Heap->Prop}{YP:World->Heap->Prop}{d:DefRec}{K:Params->Frag}(hn:l.most=some 63)(hdf:d.params.defaults=[])(hY:∀(w:World)(h:Heap),YP w h->(K w.params).In h)(F:∀(w:World)(mg:Vt)(fa:Addr)(h:Heap),(K w.params).In h->h.Ns mainGlobals mg->mg d.name=some (.ref fa)-> ∃fd:FuncData,(∀(s:Shared)(u:Value),BindsTo s fd ⟨[u],[]⟩ [("_law_script",u)])/\∀base:Heap,(K w.params).In base->base.Ns mainGlobals mg->gf l.prog w (K w.params) mg base (eE l.prog w) 7 fa fd ["_law_script"] (bX mg (K w.params) [false] uz)) : WalkO q loose XP YP l.row.toRowW d [] (λf vs=>PySem.call f vs):=CV hn hdf ⟨rfl,by decide,by decide⟩ hY F
end LJ
open PySem PySem.W PyProof.Rows Dv
set_option maxRecDepth 100000 in
set_option maxHeartbeats 0 in
theorem PySem.Challenge.cw_farhail_k52_whole_no_shares_come_to_less_holds : PySem.Challenge.rw_farhail_k52_whole_no_shares_come_to_less.Holds := by
 w_on;o_law;k_head;(case hw=>w_witness2)
 k_fill
 refine LJ.walk (l:=PySem.Challenge.rw_farhail_k52_whole_no_shares_come_to_less) rfl rfl (λw h WU=>PySem.W.kIn_of WU) ?F
 case F=>
  intro w mg fa h KX G hmg
  refine' LJ.all_mk KX G hmg ?_ ?_ ?_ ?_ ?_ ?_ ?_ ?_ ?_ ?_ ?_ ?_ ?_ ?_ ?_ ?_ ?_ ?_ ?_ ?_ ?_ ?_ ?_ ?_ ?_ ?_ ?_ ?_ ?_ ?_ ?_ ?_ ?_ ?_ ?_ ?_ ?_ ?_ ?_ ?_ ?_ ?_ ?_ ?_ ?_ ?_
  iterate 31
   apply M7
   iterate 4 (first|k_is|kernel_rfl)
  iterate 13
   first|k_is|kernel_rfl|(apply Exists.intro;first|k_is|kernel_rfl)
  iterate 1
   apply IW
   iterate 2 (first|k_is|kernel_rfl)
  all_goals first|kernel_rfl|k_is
