import PyProof.Rows.All
import PySem.PyData
import Wide.All
import OpenK.AllK
import Wide.FinOn
import Lean
import PyProof.EqAt
import PyProof.EqKinds
import PyProof.TupleCall
import PyProof.SetKind
import PyProof.TupleKey
import PyProof.IsRules
import PyProof.SetRoads
import PyProof.DictKinds
import PyProof.RaisesMany
import PyProof.RulesTry
import PyProof.ExcClass2
import KE.KTryMore
import PyProof.RulesAs
import PyProof.NsDelKeeps
import KE.KDictList
import PyProof.P3In
import PyProof.Rows.SortShellK
import PyProof.TupleOfSeq
import PyProof.WalkInts
import PyProof.SeqI3
import PyProof.SumAnyB
import PyProof.Rows.SeqWords
import PyProof.ListRange
import PyProof.DictValues
import PyProof.DictWalks
import PyProof.NeKinds
import PyProof.FactsAll.list_2
import PyProof.EvalArms
import PyProof.Rows.SetObj
import PySem.Challenge.RW_farhail_k03_webs_refused
set_option linter.all false
local macro_rules | `(tactic| ac_rfl) => `(tactic| exact⟨rfl,rfl,rfl,by decide +kernel,rfl,by decide +kernel,by decide +kernel⟩)
set_option genSizeOf false
set_option genInjectivity false
section
open PySem
abbrev Vy:=List (PyData×PyData)
abbrev Vz:=Array (Option Value)
abbrev WA:=Value->Shared->Prop
abbrev WB:=List Comprehension
abbrev WC:=Str->Option Value
abbrev WD:=List (Addr×Obj)
abbrev WH:=List (Nat×Nat)
abbrev WI:=List (Int×Int)
abbrev WJ:=PySem.W.Frag
abbrev WK:=Option Value
abbrev WM:=Array Value
abbrev WN:=List PyData
abbrev WO:=Option Addr
abbrev WQ:=List Value
abbrev WU:=List Addr
abbrev WV:=List Bool
abbrev WX:=List Expr
abbrev WY:=List Stmt
abbrev WZ:=List Nat
abbrev Wa:=List Int
abbrev Wb:=List Str
end
section
open PySem PySem.Spec PyProof.Rows PySem.W
def Q0:=@wpAny_bind
def Q2:=@wpAny_pure
def Q3:=@wpS_pure
def Q4:=@wpS_bind
def Q5:=@Nat.le_refl
def Q6:=@List.mem_cons_self
def Q7:=@List.length_map
def Q8:=@List.mem_map
def Q9:=@Bool.and_eq_true
def QS:=@List.mem_singleton
def QT:=@Heap.lt_size
def QU:=@List.mem_cons_of_mem
def QV:=@Bool.false_ne_true
def QW:=@List.all_eq_true
def QX:=@List.mem_cons
def QY:=@List.all_cons
def QZ:=@Heap.get?_push_of_some
def R7:=@List.mem_append
def R8:=@List.getElem?_map
def R9:=@List.size_toArray
def RA:=@Array.toList_append
def RB:=@List.length_range
def RC:=@List.length_append
def RD:=@List.mem_of_getElem?
def RE:=@List.map_cons
def RG:=@List.map_append
def RH:=@Nat.ne_of_lt
def RI:=@List.getElem?_eq_getElem
def RJ:=@Array.getElem?_toList
def RK:=@List.length_cons
def RL:=@Nat.lt_of_lt_of_le
def RM:=@Nat.le_trans
def RN:=@of_decide_eq_true
def RO:=@Nat.zero_le
def RP:=@Array.getElem?_eq_getElem
def RQ:=@Array.length_toList
def RS:=@wpS_mono
def RT:=@wpS_forRange
def RU:=@List.mem_range
def RV:=@List.map_map
def RW:=@List.getElem?_eq_some_iff
def RX:=@List.nodup_cons
def RY:=@List.append_assoc
def RZ:=@PassesOwn.leaving
def Ra:=@wpAny_mono
def Rb:=@wpAny_holding
def Rc:=@Heap.get?_push_size
def Rf:=@List.length_set
def Rg:=@decide_eq_true
def Rh:=@Nat.lt_or_ge
def Ri:=@List.not_mem_nil
def Rj:=@List.mem_flatMap
def Rk:=@List.getElem?_eq_none
def Rm:=@decide_eq_false
def Rn:=@List.lookup_cons
def Ro:=@Nat.lt_irrefl
def Rq:=@List.getElem?_of_mem
def Rr:=@List.filterMap_cons
def Rt:=@Option.map_eq_some_iff
def Ru:=@Nat.not_lt_zero
def Rv:=@wpS_modify
def Rw:=@List.mem_append_right
def Rx:=@Heap.get?_update_other
def Ry:=@List.getElem?_range
def Rz:=@List.nodup_nil
def S7:=@mg_none_of
def S8:=@List.append_nil
def S9:=@List.length_take
def SD:=@List.pairwise_append
def SG:=@PySem.F.slot_list_append
def SH:=@PySem.F.type_list_append
def SJ:=@Heap.get?_update_self
def SN:=@Nat.zero_add
def SO:=@wpAny_setState_of
def SQ:=@Array.toList_reverse
def SV:=@List.map_congr_left
def SW:=@if_false
def SX:=@Prod.ext
def SY:=@wpAny_call_entry
def Sb:=@List.any_cons
def Sd:=@Array.getElem?_eq_some_iff
def Se:=@List.Perm.append_left
def Sf:=@decide_eq_true_eq
def Sg:=@Bool.eq_iff_iff
def Sh:=@wpAny_standAt
def Sj:=@wpAny_call
def Sk:=@codeAny_mono
def Sl:=@List.getElem?_append_left
def Sm:=@List.length_replicate
def Sn:=@wpAny_field
def Sq:=@wpAny_newObj_type
def Ss:=@List.replicate_succ
def Su:=@call_meets
def Sv:=@Array.getD_eq_getD_getElem?
def Sw:=@wpAny_rule
def Sz:=@List.nodup_range
def T4:=@List.ext_getElem?
def T5:=@List.getElem?_append_right
def T7:=@List.find?_cons
def T8:=@Array.getElem?_extract
def T9:=@Bool.false_eq_true
def TF:=@Nat.le_of_eq
def TH:=@List.perm_append_comm
def TM:=@List.take_of_length_le
def TN:=@List.all_map
def TQ:=@List.take_length
def TR:=@wpS_lift
def TU:=@List.mem_reverse
def TV:=@List.pairwise_map
def TX:=@List.getElem?_set_self
def TY:=@List.getElem?_set_ne
def TZ:=@wpAny_truthy_bool
def Tc:=@wpAny_passesOwn
def Td:=@List.length_drop
def Te:=@eq_of_beq
def Tf:=@List.flatten_cons
def Th:=@Nat.lt_trichotomy
def Ti:=@Nat.not_lt
def Tj:=@List.pairwise_iff_getElem
def Tn:=@any_some
def To:=@wpAny_setField
def Tp:=@Obj.data_mapFields
def Tq:=@List.getD_eq_getElem?_getD
def Tr:=@Nat.le_total
def Tt:=@Nat.min_eq_left
def Tu:=@Nat.min_eq_right
def Tv:=@List.nodup_append
def Tw:=@wpAny_Call_Name_kw
def Tz:=@wpAny_typeOf
def U0:=@List.eraseIdx_cons_succ
def U1:=@Nat.le_succ
def U3:=@True.intro
def U4:=@Nat.mod_lt
def U5:=@Nat.zero_lt_succ
def U6:=@Heap.SameBut.update
def U7:=@List.any_eq_true
def U8:=@List.getElem_mem
def U9:=@List.find?_cons_of_neg
def UA:=@List.contains_eq_mem
def UB:=@Int.ofNat_lt
def UC:=@Nat.le_of_lt
def UD:=@Heap.get?_none_of_le
def UE:=@wpAny_execs_nil
def UG:=@Nat.ne_of_gt
def UH:=@sizeLine_eq
def UI:=@Array.mem_toList_iff
def UJ:=@PySem.mem_of_lookup
def UK:=@List.length_singleton
def UL:=@tupleKind_room_in1
def UM:=@wpAny_loadPart_at
def UN:=@Array.size_extract
def UO:=@List.filterMap_append
def UP:=@intKind_is
def UQ:=@wpAny_attempt
def UR:=@Obj.isFreed_of_fields
def US:=@Nat.lt_succ_self
def UT:=@Array.toList_push
def UU:=@wpAny_askSetting
def UW:=@List.Perm.append_right
def UX:=@List.Pairwise.imp_of_mem
def UY:=@Bool.not_eq_true'
def UZ:=@PySem.F.plainAttrs_list
def Ua:=@List.find?_cons_of_pos
def Ub:=@List.Pairwise.map
def Uc:=@Nat.mul_le_mul
def Ud:=@PyProof.Rows.boot_isinstance
def Ue:=@List.getElem?_set
def Ug:=@List.contains_cons
def Uh:=@List.mem_filter
def Ui:=@List.mem_append_left
def Uj:=@PyProof.Rows.callWith_type1
def Uk:=@List.mem_filterMap
def Ul:=@List.of_mem_zip
def Um:=@Int.toNat_natCast
def Uo:=@wpAny_callSpecial?_slot
def Uq:=@PyProof.Rows.slot_tuple_getitem
def Ur:=@Calls.callWith_builtin
def Us:=@Calls.evalArgs_plain
def Ut:=@List.length_nil
def Uu:=@Nat.lt_trans
def Uv:=@beq_self_eq_true
def Uw:=@Code.quiet_builtin
def Ux:=@Nat.add_zero
def Uy:=@Classical.byContradiction
def Uz:=@Array.getElem?_eq_none
def V0:=@wpAny_forIn_list
def V1:=@codeAny_call_builtin
def V2:=@Option.bind_some
def V3:=@looks_findIn
def V4:=@List.Perm.swap
def V5:=@wpAny_ite_split
def V6:=@List.take_append_drop
def V7:=@List.drop_zero
def V8:=@Array.perm_iff_toList_perm
def V9:=@listItems_at
def VA:=@List.pairwise_reverse
def VB:=@List.drop_of_length_le
def VC:=@decide_eq_false_iff_not
def VD:=@wpAny_newList
def VE:=@Nat.lt_succ_of_lt
def VF:=@codeAny_builtin
def VG:=@List.map_take
def VH:=@List.drop_length
def VI:=@List.cons.injEq
def VJ:=@List.eq_nil_of_length_eq_zero
def VL:=@List.pairwise_cons
def VM:=@Array.find?_toList
def VN:=@Calls.spliced_cons
def VO:=@Option.isSome_iff_exists
def VP:=@List.getElem?_take_of_lt
def VQ:=@Nat.min_le_right
def VR:=@Option.isSome_some
def VS:=@Option.isSome_map
def VT:=@PySem.F.slot_dict_get
def VU:=@Int.emod_lt_of_pos
def VW:=@Nat.lt_succ_of_le
def VX:=@List.range_eq_range'
def VY:=@Array.getElem?_setIfInBounds
def VZ:=@List.getElem?_toArray
def Va:=@PySem.F.excBase_ValueError
def Vb:=@Heap.get?_update_ne
def Vc:=@Array.toList_extract
def Vd:=@List.extract_eq_take_drop
def Ve:=@Nat.add_sub_cancel_left
def Vf:=@List.reverse_perm
def Vg:=@Array.toList_setIfInBounds
def Vh:=@List.getElem?_drop
def Vi:=@Array.toList_zip
def Vj:=@List.map_snd_zip
def Vk:=@List.cons_ne_nil
def Vl:=@List.isEmpty_nil
def Vm:=@Nat.max_eq_right
def Vn:=@Option.isNone_some
def Vo:=@Option.isNone_none
def Vp:=@List.mem_iff_getElem?
def Vq:=@PySem.F.slot_list_pop
def Vr:=@PySem.F.type_list_pop
def Vs:=@PySem.F.slot_list_insert
def Vt:=@PySem.F.type_list_insert
def Vu:=@PyProof.Rows.callWith_builtin1
def Vv:=@PyProof.Rows.slot_tuple_getitem.lookup
def Vw:=@List.eraseIdxIfInBounds_toArray
def Vx:=@Array.toList_eraseIdxIfInBounds
end
noncomputable section
namespace PySem.W.Fast
def tw3415563081396822278:=Nat
def tw12914587042324890480:=Nat
def tw5122863005910413582:=Nat
def tw9426292297807313441:=Nat
def tw12744745303567675921:=Nat
def tw10109261429336287719:=Nat
def tw2235078043675835979:=Nat
def tw13718364789181651459:=Nat
def tw2288732221473992579:=Nat
def tw17660999677304492360:=Nat
def tw13206500987516505341:=Nat
def tw14433221739611347069:=Nat
def tw17389069978969626470:=Nat
def tw4005677084785653209:=Nat
def tw277095165148734859:=Nat
def tw14317430494497334369:=Nat
def tw17431095018929363615:=Nat
def tw2128597980886170921:=Nat
def tw3294211534979137609:=Nat
def tw9822056643332406830:=Nat
def tw2506194249558624870:=Nat
def tw3883682445634135866:=Nat
def tw12718688952389660417:=Nat
def tw8081620859192119296:=Nat
def tw8849194685684234651:=Nat
def tw18344801631717881877:=Nat
def tw10652824876193724860:=Nat
def tw11133776587143915394:=Nat
def tw11058308851604229408:=Nat
def tw8374633271551302201:=Nat
def tw14116001917674755422:=Nat
def tw15885119075820861005:=Nat
def tw4396809712293209672:=Nat
def tw15470887455340522659:=Nat
def tw10000044541559276214:=Nat
def tw1291902846637019417:=Nat
def tw2540702674253076724:=Nat
def tw17332136607885733358:=Nat
def tw13445810009978133315:=Nat
def tw10447889967215684494:=Nat
def tw17159905782968209036:=Nat
def tw8364657980510957950:=Nat
def tw17501902614672019224:=Nat
def tw14170049011607017735:=Nat
def tw821795768035590311:=Nat
def tw8650801169314662259:=Nat
def tw18379966054350127917:=Nat
def tw7981800161569618400:=Nat
def tw10230067955816124470:=Nat
def tw6731812806855135917:=Nat
def tw12341379249382686236:=Nat
def tw462503030255412610:=Nat
def tw3239973597188846052:=Nat
def tw12823008727154651278:=Nat
def tw9700905022954609863:=Nat
def tw13008759363553050173:=Nat
def tw662392510000979121:=Nat
def tw2899071167400713500:=Nat
def tw14749413393249074018:=Nat
def tw13737343381430179891:=Nat
def tw10517568690212394358:=Nat
def tw13119889439642069554:=Nat
def tw1184805962145950878:=Nat
def tw13062312853373331379:=Nat
def tw15565515490204805819:=Nat
def tw10688440399569630704:=Nat
def tw12070844944252141550:=Nat
def tw13218561834213005962:=Nat
def tw17860198446536199213:=Nat
def tw18091917771025152493:=Nat
def tw7026652535312147145:=Nat
def tw4398661096892741932:=Nat
def tw6171617426194451816:=Nat
def tw7116733858439681567:=Nat
def tw10982236197522132143:=Nat
def tw10694184194911572298:=Nat
def tw3450842757226757078:=Nat
def tw5267303322336056299:=Nat
def tw4246993144141387997:=Nat
def tw15546515768124612692:=Nat
def tw6698957783022303895:=Nat
def tw1077861769037278867:=Nat
def tw3790303707345774093:=Nat
def tw16382886507865727815:=Nat
def tw16077383087920520259:=Nat
def tw2929239916162740810:=Nat
def tw13098827325258120538:=Nat
def tw16910444513172919560:=Nat
def tw4279115204759699365:=Nat
def tw4396526531334769505:=Nat
def tw13560461941425353633:=Nat
def tw14386016797250630330:=Nat
def tw927710636491180987:=Nat
def tw12805507528360684136:=Nat
def tw17614370397575083015:=Nat
def tw18196796580505663975:=Nat
def tw5412043141994276097:=Nat
def tw2414237565530206109:=Nat
def tw9648773043841590429:=Nat
def tw7116191591905939311:=Nat
def tw7216295580829451999:=Nat
def tw15933346508322041713:=Nat
def tw6643274644316505433:=Nat
def tw1891987733866995680:=Nat
def tw5688679839629462070:=Nat
def tw7223231336256308714:=Nat
def tw676691383325306873:=Nat
def tw5759961629286292473:=Nat
def tw17200060564444262249:=Nat
def tw5931072993619540003:=Nat
def tw6149213661112230016:=Nat
def tw360373904731722991:=Nat
def tw17014445000534000431:=Nat
def tw3708620750990924213:=Nat
def tw15414873998982804078:=Nat
def tw10865260789970602998:=Nat
def tw7152784450373449540:=Nat
def tw15636058885994463262:=Nat
def tw15683907196108754676:=Nat
def tw15891180268331193947:=Nat
def tw15898625226742277061:=Nat
def tw4880578010576639107:=Nat
def tw3585981593479114235:=Nat
def tw3018367742287482182:=Nat
def tw15435408977765534992:=Nat
def tw17704433136070601478:=Nat
def tw472204895526091900:=Nat
def tw6538754678368864557:=Nat
def tw10173106930370822098:=Nat
def tw17618823976556700792:=Nat
def tw4264777500586479211:=Nat
def tw7380075227517232306:=Nat
def tw7460685836713044320:=Nat
def tw1725137064825194816:=Nat
def tw1489543877087047995:=Nat
def tw1563944552827558011:=Nat
def tw16546021601331723884:=Nat
def tw6815076338099089798:=Nat
def tw8636402711671546066:=Nat
def tw4456453493048321982:=Nat
def tw10719454418909403139:=Nat
def tw4118025944462137213:=Nat
def tw8560138116894225077:=Nat
def tw8629973909808965714:=Nat
def tw2363940647125361978:=Nat
def tw3336935127578519892:=Nat
def tw5353533691172469544:=Nat
def tw5474340480039888072:=Nat
def tw8150574586998389112:=Nat
def tw10250860412253876677:=Nat
def tw1025413742552337385:=Nat
def tw10653974368846555965:=Nat
def tw10683327854623797859:=Nat
def tw11619093543571190759:=Nat
def tw1168508805027470902:=Nat
def tw1194810173024187182:=Nat
def tw12230150769187091325:=Nat
def tw1277810025794609495:=Nat
def tw1301909259308279496:=Nat
def tw13121414658179826875:=Nat
end PySem.W.Fast
set_option Elab.async false
set_option linter.all false
set_option maxHeartbeats 4000000
set_option maxRecDepth 100000
namespace Dv
open PySem
inductive Kd where
 |sh|ow (p:Bool)|dp (p:Bool)|dk (p:Bool)|dt (p:Bool)|st (p:Bool)
 deriving DecidableEq
noncomputable def jo (n:Nat) (i:Int):Option Nat:=if 0<=i then(if i<n then some i.toNat else none)else if-(n:Int)<=i then some (i+n).toNat else none
def jv:PyData->Bool
 |.int _ | .str _=>true
 |_=>false
instance QN:DecidableEq PyData:=λa b=>Classical.propDecidable (a=b)
noncomputable def bY (kvs:Vy)(k:PyData):Option PyData:=(kvs.find? λkv=>decide (kv.1=k)).map (·.2)
noncomputable def putD (kvs:Vy)(k v:PyData):Vy:=if(kvs.any λkv=>decide (kv.1=k))=true then kvs.map (λkv=>if kv.1=k then(kv.1,v)else kv)else kvs++[(k,v)]
def hi0:Nat:=0
def hi1:Nat:=hi0
def hi2:Nat:=hi1
def QE:Nat:=hi2
def Qs:Nat:=QE
def QM:Nat:=Qs
def QI:Nat:=QM
def QC:Nat:=QI
def Qi:Nat:=QC
def Qm:Nat:=Qi
def Pk:Nat:=Qm
def Qc:Nat:=Pk
def jK:Nat:=Qc
abbrev En:=List (Option (Kd×PyData))
abbrev XC:=Str->PyData->Prop
abbrev xF:XC:=λ_ _=>False
abbrev DE:=XC->En->(En->Kd->PyData->Prop)->Prop
abbrev DT:=XC->En->(En->Bool->Prop)->Prop
abbrev DI:=XC->En->(En->WN->Prop)->Prop
structure iA where
 nx:En->Prop
 rt:En->Kd->PyData->Prop
 xc:XC
abbrev DS:=iA->En->Prop
abbrev dS:=WN->(WN->Kd->PyData->Prop)->XC->Prop
noncomputable def lf:PyData->Bool
 |.none | .bool _ | .int _ | .str _=>true
 |.tuple ds=>lfs ds
 |.list _ | .dict _=>false
where lfs:WN->Bool
 |[]=>true
 |d::ds=>lf d&&lfs ds
theorem mw:∀ds:WN,lf.lfs ds=ds.all lf
 |[]=>by rw[lf.lfs];rfl
 |d::ds=>by rw[lf.lfs,mw ds];rfl
def AO:PyData->Bool
 |.list _=>true
 |_=>false
noncomputable def flat:Kd->PyData->Bool
 |.sh,d=>lf d
 |.ow _,.list ds=>ds.all lf
 |.dp _,.list ds=>ds.all λd=>match d with | .list es=>es.all lf|d=>lf d
 |.dk _,.dict kvs=>kvs.all λkv=>lf kv.2
 |.dt _,.dict kvs=>kvs.all λkv=>lf kv.2
 |_,_=>false
noncomputable def Kd.fz:Kd->Bool
 |.sh | .ow false | .dp false | .dk false | .dt false=>true
 |_=>false
def Kd.rd:Kd->Bool
 |.st _=>false
 |_=>true
noncomputable def Kd.pin:Kd->Bool
 |.ow p | .dp p | .dk p | .dt p | .st p=>p
 |.sh=>false
noncomputable def dD (E:En) (i:Nat):Option En:=match E[i]? with
 |some (some (k,d))=>if k.fz then some (E.set i (some (.sh,d)))else none
 |_=>none
noncomputable def dO:WZ->En->Option En
 |[],E=>some E
 |i::r,E=>(dD E i).bind (dO r)
inductive Arg where
 |pk (i:Nat)|ev (d:DE)
def gB:List Arg->WZ
 |[]=>[]
 |.pk i::r=>i::gB r
 |.ev _::r=>gB r
noncomputable def here (E:En) (i:Nat):Bool:=match E[i]? with
 |some (some _)=>true
 |_=>false
noncomputable def fill:List Arg->En->List (Option PyData)->Option (WN)
 |[],_,[]=>some []
 |.pk i::r,E,none::os=>match E[i]? with
  |some (some (k,d))=>if k.rd then(fill r E os).map (d::·)else none
  |_=>none
 |.ev _::r,E,some v::os=>(fill r E os).map (v::·)
 |_,_,_=>none
noncomputable def jE (E:En) (i:Nat):Bool:=match E[i]? with
 |some (some (.sh,_))=>true
 |_=>false
theorem wX{E:En}:∀{is:WZ},is.all (jE E)=true->dO is E=some E
 |[],_=>rfl
 |i::r,h=>by
  rw[QY,Q9]at h;have e:dD E i=some E:=by
   have h1:=h.1;unfold jE at h1;unfold dD;split at h1
   .rename_i d e;rw[e];show some (E.set i (some (.sh,d)))=some E;congr 1;refine T4 λj=>?_;rw[Ue];by_cases c:i=j
    .subst c;rw[if_pos rfl,e];have l:i<E.length:=by rcases Rh i E.length with z|z;{exact z};rw[Rk z]at e;cases e
     rw[if_pos l]
    rw[if_neg c]
   cases h1
  show(dD E i).bind (dO r)=some E;rw[e];exact wX h.2
noncomputable def MY (as:List Arg)(E:En)(k:Kd)(v:PyData):Option En:=if((gB as).all (jE E)||flat k v)=true then some E else dO (gB as) E
def wY{is:WZ}{E E2:En}{b:Bool}(h:(if(is.all (jE E)||b)=true then some E else dO is E)=some E2):(if b=true then some E else dO is E)=some E2:=by
 cases hs:is.all (jE E)with
 |true=>rw[hs,Bool.true_or,if_pos rfl]at h;rw[wX hs,h,ite_self]
 |false=>rw[hs,Bool.false_or]at h;exact h
abbrev DR:=WN->(Kd->PyData->Prop)->Prop
def dC (v:PyData):DE:=λ_ E Q=>(λ_:Nat=>Q E .sh v) jK
noncomputable def qO:WV->List Arg->WN->En->Option En
 |[],[],[],E=>some E
 |false::ms,_::r,us,E=>qO ms r us E
 |true::ms,.pk i::r,u::us,E=>match E[i]? with
  |some (some (.ow p,.list _))=>if AO u then qO ms r us (E.set i (some (.ow p,u)))else none
  |_=>none
 |_,_,_,_=>none
noncomputable def lent:WV->List Arg->WZ
 |true::ms,.pk i::r=>i::lent ms r
 |_::ms,_::r=>lent ms r
 |_,_=>[]
noncomputable def kept:WV->List Arg->WZ
 |false::ms,.pk i::r=>i::kept ms r
 |_::ms,_::r=>kept ms r
 |_,_=>[]
noncomputable def shape:WV->List Arg->Bool
 |[],[]=>true
 |true::ms,.pk _::r=>shape ms r
 |false::ms,_::r=>shape ms r
 |_,_=>false
noncomputable def yy (ms:WV)(as:List Arg)(E:En):Bool:=shape ms as&&decide (lent ms as).Nodup&&(lent ms as).all (λi=>!(kept ms as).contains i&&(match E[i]? with|some (some (.ow _,.list _))=>true|_=>false))
noncomputable def K7 (ms:WV)(as:List Arg)(us:WN)(E:En)(k:Kd)(v:PyData):Option En:=if((kept ms as).all (jE E)||(flat k v&&us.all (flat (.ow false))))=true then some E else dO (kept ms as) E
noncomputable def nZ:PyData->Option Bool
 |.bool b=>some b
 |.int i=>some (!decide (i=0))
 |.none=>some false
 |.str _=>none
 |.list ds=>some !ds.isEmpty
 |.tuple ds=>some !ds.isEmpty
 |.dict _=>none
def LL (d:DE):DT:=λx E Q=>d x E λE' _ v=>∃b,nZ v=some b/\Q E' b
def Qw (t:DT):DT:=λx E Q=>(λ_:Nat=>t x E λE' b=>Q E' (!b)) jK
noncomputable def Nh (a b:DE):DE:=λx E Q=>a x E λE1 _ v=>∃c,v=.bool c/\if c=true then b x E1 Q else Q E1 .sh (.bool false)
noncomputable def Pc (a b:DE):DE:=λx E Q=>a x E λE1 _ v=>∃c,v=.bool c/\if c=true then Q E1 .sh (.bool true)else b x E1 Q
def cF:DS:=λD E=>(λ_:Nat=>D.nx E) jK
def aC (a b:DS):DS:=λD E=>(λ_:Nat=>a { D with nx:=b D } E) jK
noncomputable def gG (a b:DS):DS:=λD E=>∃J:En->Prop,a { D with nx:=J } E/\∀E',J E'->b D E'
noncomputable def LI (c:DT)(a b:DS):DS:=λD E=>c D.xc E λE1 t=>if t=true then a D E1 else b D E1
noncomputable def bR (E:En) (i:Nat):Bool:=match E[i]? with
 |some (some (k,_))=>!k.pin
 |some none=>true
 |none=>false
noncomputable def Np (i:Nat)(e:DE):DS:=λD E=>e D.xc E λE' k v=>bR E' i=true/\D.nx (E'.set i (some (k,v)))
inductive Tg where
 |nm (i:Nat)|tp (is:WZ)
def Tg.slots:Tg->WZ
 |.nm i=>[i]
 |.tp is=>is
noncomputable def bJ:WZ->WN->En->Option En
 |[],[],E=>some E
 |i::is,d::ds,E=>if bR E i then bJ is ds (E.set i (some (.sh,d)))else none
 |_,_,_=>none
noncomputable def cS:Tg->PyData->En->Option En
 |.nm i,d,E=>bJ [i] [d] E
 |.tp is,.tuple ds,E=>bJ is ds E
 |_,_,_=>none
def gY (e:DE):DS:=λD E=>(λ_:Nat=>e D.xc E D.rt) jK
noncomputable def lE (E:En) (i:Nat):Bool:=match E[i]? with
 |some (some (.ow _,.list _))=>true
 |_=>false
abbrev DM:=WN->WN->(WN->PyData->Prop)->Prop
def gM:Vy->Bool
 | (.none,_)::_=>false
 |_=>true
noncomputable def yE (f:DM) (i:Nat)(j:DE) (n:Nat):DE:=λx E Q=>here E i=true/\j x E λE1 _ w=>∃a p ds m es k d E2,w=.int a/\E1[i]?=some (some (.dp p,.list ds))/\jo ds.length a=some m/\ds[m]?=some (.list es)/\E1[n]?=some (some (k,d))/\i≠n/\dD E1 n=some E2/\f es [d] λnew v=>Q (E2.set i (some (.dp p,.list (ds.set m (.list new))))) .sh v
def Ng (c:Str):DS:=λD _=>(λ_:Nat=>D.xc c .none) jK
def cO (e:DE):DS:=λD E=>(λ_:Nat=>e D.xc E λE' _ _=>D.nx E') jK
noncomputable def dJ (it:DI)(tg:Tg)(b:DS):DS:=λD E=>(λ_:Nat=>it D.xc E λE1 xs=>∃I:Nat->En->Prop,I 0 E1/\(∀i d E,xs[i]?=some d->I i E->∃E2,cS tg d E=some E2/\b { D with nx:=I (i+1) } E2)/\∀E,I xs.length E->D.nx E) jK
noncomputable def yw (c:DT)(b:DS):DS:=λD E=>∃W:Nat->En->Prop,(∃m,W m E)/\∀m E,W m E->c D.xc E λE1 t=>if t=true then b { D with nx:=λE'=>∃m',m'<m/\W m' E' } E1 else D.nx E1
noncomputable def items:PyData->Option (WN)
 |.list ds=>some ds
 |.tuple ds=>some ds
 |_=>none
noncomputable def oE (e:DE):DI:=λx E Q=>e x E λE' k v=>k.fz=true/\∃ds,items v=some ds/\Q E' ds
def jk (ds:WN):WN:=ds.zipIdx.map λp=>.tuple [.int p.2,p.1]
noncomputable def OT (e:DE):DI:=λx E Q=>e x E λE' k v=>k.fz=true/\∃ds,v=.list ds/\Q E' (jk ds)
noncomputable def br:WZ->En->Option En
 |[],E=>some E
 |i::r,E=>if bR E i then br r (E.set i none)else none
abbrev DC:=XC->WN->En->(WN->En->Prop)->Prop
def iX:DT:=λ_ E Q=>(λ_:Nat=>Q E true) jK
noncomputable def eF (most:Nat)(e:DE):DC:=λx ys E Q=>e x E λE1 k v=>k.fz=true/\ys.length<most/\Q (ys++[v]) E1
noncomputable def O7 (it:DI)(tg:Tg)(c:DT)(r:DC):DC:=λx ys E Q=>(λ_:Nat=>it x E λE1 xs=>∃I:Nat->WN->En->Prop,I 0 ys E1/\(∀i d ys E,xs[i]?=some d->I i ys E->∃E2,cS tg d E=some E2/\c x E2 λE3 b=>if b=true then r x ys E3 (I (i+1))else I (i+1) ys E3)/\∀ys E,I xs.length ys E->Q ys E) jK
noncomputable def fD (cs:WZ)(it:DI)(tg:Tg)(c:DT)(r:DC):DE:=λx E Q=>(λ_:Nat=>it x E λE1 xs=>∃(E0:En)(I:Nat->WN->En->Prop),br cs E1=some E0/\I 0 [] E0/\(∀i d ys E,xs[i]?=some d->I i ys E->∃E2,cS tg d E=some E2/\c xF E2 λE3 b=>if b=true then r xF ys E3 (I (i+1))else I (i+1) ys E3)/\∀ys E,I xs.length ys E->∃E2,br cs E=some E2/\Q E2 (.ow false) (.list ys)) jK
noncomputable def oB (most:Nat)(cs:WZ)(it:DI)(tg:Tg)(c:DT)(e:DE):DE:=λx E Q=>(λ_:Nat=>it x E λE1 xs=>∃(E0:En)(I:Nat->WN->En->Prop),br cs E1=some E0/\I 0 [] E0/\(∀i d ys E,xs[i]?=some d->I i ys E->∃E2,cS tg d E=some E2/\c xF E2 λE3 b=>if b=true then e xF E3 (λE4 k v=>(∃p,k=.ow p)/\ys.length<most/\I (i+1) (ys++[v]) E4)else I (i+1) ys E3)/\∀ys E,I xs.length ys E->∃E2,br cs E=some E2/\Q E2 (.dp false) (.list ys)) jK
noncomputable def jP (lo:Int) (n:Nat):WN:=(List.range n).map λi:Nat=>PyData.int (lo+i)
noncomputable def aD {α:Type}(o:Option α)(Q:α->Prop):Prop:=match o with
 |some a=>Q a
 |none=>False
def dP {α:Sort u}(b:Bool)(x y:α):α:=match b with
 |true=>x
 |false=>y
def aB:Option (Kd×PyData)->Bool
 |some (k,_)=>!k.pin
 |none=>true
noncomputable def rH (E:En) (i:Nat):Bool:=match E[i]? with
 |some o=>aB o
 |none=>false
def bK (b:Bool)(P:Prop):Prop:=match b with
 |true=>P
 |false=>False
noncomputable def jO:List Arg->XC->En->(En->List (Option PyData)->Prop)->Prop
 |[],_,E,Q=>Q E []
 |.pk i::r,x,E,Q=>bK (here E i) (jO r x E λE' os=>Q E' (none::os))
 |.ev d::r,x,E,Q=>d x E λE1 k v=>bK k.fz (jO r x E1 λE' os=>Q E' (some v::os))
noncomputable def qK (E:En) (i:Nat):Option En:=match E[i]? with
 |some (some (k,d))=>dP k.fz (some (E.set i (some (.sh,d)))) none
 |_=>none
noncomputable def jl:WZ->En->Option En
 |[],E=>some E
 |i::r,E=>(qK E i).bind (jl r)
noncomputable def cZ:List Arg->En->List (Option PyData)->Option (WN)
 |[],_,[]=>some []
 |.pk i::r,E,none::os=>match E[i]? with
  |some (some (k,d))=>dP k.rd ((cZ r E os).map (d::·)) none
  |_=>none
 |.ev _::r,E,some v::os=>(cZ r E os).map (v::·)
 |_,_,_=>none
noncomputable def qP (as:List Arg)(E:En)(k:Kd)(v:PyData):Option En:=dP ((gB as).all (jE E)||flat k v) (some E) (jl (gB as) E)
noncomputable def CD (E:En) (i:Nat)(Q:En->Kd->PyData->Prop):Prop:=match E[i]? with
 |some (some (_,d))=>aD (qK E i) λE'=>Q E' .sh d
 |_=>False
noncomputable def sA (r:DR)(as:List Arg)(E:En)(os:List (Option PyData))(Q:En->Kd->PyData->Prop):Prop:=aD (cZ as E os) λds=>r ds λk v=>aD (qP as E k v) λE2=>Q E2 k v
def lJ (i:Nat):WZ->Bool
 |[]=>false
 |j::r=>i==j||lJ i r
noncomputable def oz:WZ->WZ->En->Bool
 |[],_,_=>true
 |i::r,ks,E=>(!lJ i ks&&!lJ i r&&lE E i)&&oz r ks E
noncomputable def sQ (ms:WV)(as:List Arg)(E:En):Bool:=shape ms as&&oz (lent ms as) (kept ms as) E
noncomputable def jC:WV->List Arg->WN->En->Option En
 |[],[],[],E=>some E
 |false::ms,_::r,us,E=>jC ms r us E
 |true::ms,.pk i::r,u::us,E=>match E[i]? with
  |some (some (.ow p,.list _))=>dP (AO u) (jC ms r us (E.set i (some (.ow p,u)))) none
  |_=>none
 |_,_,_,_=>none
noncomputable def sN (ms:WV)(as:List Arg)(us:WN)(E:En)(k:Kd)(v:PyData):Option En:=dP ((kept ms as).all (jE E)||(flat k v&&us.all (flat (.ow false)))) (some E) (jl (kept ms as) E)
noncomputable def EI (ms:WV)(as:List Arg)(E:En)(us:WN)(k:Kd)(v:PyData)(Q:En->Kd->PyData->Prop):Prop:=aD (jC ms as us E) λE2=>aD (sN ms as us E2 k v) λE3=>Q E3 k v
noncomputable def Eg (sp:dS)(ms:WV)(as:List Arg)(x:XC)(E:En)(os:List (Option PyData))(Q:En->Kd->PyData->Prop):Prop:=aD (cZ as E os) λds=>bK (sQ ms as E) (sp ds (λus k v=>EI ms as E us k v Q) x)
def tH (v:PyData)(Q:Bool->Prop):Prop:=aD (nZ v) Q
noncomputable def EY (E:En) (i:Nat)(Q:En->Bool->Prop):Prop:=match E[i]? with
 |some (some (k,d))=>bK k.rd (tH d (Q E))
 |_=>False
noncomputable def AF (v:PyData)(Q:Bool->Prop):Prop:=match v with
 |.bool b=>Q b
 |_=>False
noncomputable def rS (v:PyData)(Q:Int->Prop):Prop:=match v with
 |.int i=>Q i
 |_=>False
def Hz (v:PyData)(Q:WN->Prop):Prop:=aD (items v) Q
noncomputable def uM (v:PyData)(Q:WN->Prop):Prop:=match v with
 |.list xs=>Q xs
 |_=>False
noncomputable def CM (E:En) (i:Nat)(Q:En->Kd->PyData->Prop):Prop:=match E[i]? with
 |some (some (k,d))=>bK (!k.pin) (Q (E.set i none) k d)
 |_=>False
noncomputable def ET (f:DM) (i:Nat)(as:List Arg)(E:En)(os:List (Option PyData))(Q:En->Kd->PyData->Prop):Prop:=aD (cZ as E os) λargs=>match E[i]? with
 |some (some (.ow p,.list ds))=>f ds args λnew v=>Q (E.set i (some (.ow p,.list new))) .sh v
 |_=>False
noncomputable def Lk (f:Int->Int->Int)(E:En) (i:Nat)(v:PyData)(Q:En->Prop):Prop:=match E[i]? with
 |some (some (_,.int a))=>rS v λb=>Q (E.set i (some (.sh,.int (f a b))))
 |_=>False
noncomputable def stK:WZ->WN->En->Option En
 |[],[],E=>some E
 |i::is,d::ds,E=>dP (rH E i) (stK is ds (E.set i (some (.sh,d)))) none
 |_,_,_=>none
noncomputable def HA (is:WZ)(v:PyData)(E:En)(Q:En->Prop):Prop:=match v with
 |.tuple ds=>aD (stK is ds E) Q
 |_=>False
noncomputable def yz (n:Nat) (i:Int):Option Nat:=match i with
 |.ofNat k=>dP (Nat.blt k n) (some k) none
 |.negSucc k=>jo n (.negSucc k)
def cy (i:Nat):DE:=λ_ E Q=>CD E i Q
noncomputable def aa (r:DR)(as:List Arg):DE:=λx E Q=>jO as x E λE1 os=>sA r as E1 os Q
noncomputable def aM (sp:dS)(ms:WV)(as:List Arg):DE:=λx E Q=>jO as x E λE1 os=>Eg sp ms as x E1 os Q
def bP (d:DE):DT:=λx E Q=>d x E λE' _ v=>tH v (Q E')
def HU (i:Nat):DT:=λ_ E Q=>EY E i Q
noncomputable def gH (a b:DE):DE:=λx E Q=>a x E λE1 _ v=>AF v λc=>dP c (b x E1 Q) (Q E1 .sh (.bool false))
noncomputable def n5 (a b:DE):DE:=λx E Q=>a x E λE1 _ v=>AF v λc=>dP c (Q E1 .sh (.bool true)) (b x E1 Q)
noncomputable def PD (a:DE):DE:=λx E Q=>a x E λE1 _ v=>tH v λc=>Q E1 .sh (.bool !c)
noncomputable def MQ (f f':Int->Int->Bool)(a b c:DE):DE:=λx E Q=>a x E λE1 _ u=>rS u λi=>b x E1 λE2 _ v=>rS v λj=>dP (f i j) (c x E2 λE3 _ w=>rS w λk=>Q E3 .sh (.bool (f' j k))) (Q E2 .sh (.bool false))
noncomputable def QL (c:DT)(a b:DE):DE:=λx E Q=>c x E λE1 t=>dP t (a x E1 Q) (b x E1 Q)
noncomputable def b5 (c:DT)(a b:DS):DS:=λD E=>c D.xc E λE1 t=>dP t (a D E1) (b D E1)
noncomputable def aL (i:Nat)(e:DE):DS:=λD E=>e D.xc E λE' k v=>bK (rH E' i) (D.nx (E'.set i (some (k,v))))
noncomputable def Ba (is:WZ)(e:DE):DS:=λD E=>e D.xc E λE' k v=>bK k.fz (HA is v E' D.nx)
def jj (i:Nat):DS:=λD E=>CM E i D.rt
noncomputable def gK (f:DM) (i:Nat)(es:List DE):DE:=λx E Q=>bK (lE E i) (jO (es.map .ev) x E λE1 os=>ET f i (es.map .ev) E1 os Q)
noncomputable def fP (i:Nat)(j:DE)(e:DE):DS:=λD E=>e D.xc E λE1 k v=>bK k.fz (bK (here E1 i) (j D.xc E1 λE2 k2 w=>bK k2.fz (setI E2 i w v D.nx)))
where setI (E:En) (i:Nat)(w v:PyData)(Q:En->Prop):Prop:=match E[i]?,w with
 |some (some (.ow p,.list ds)),.int a=>aD (yz ds.length a) λn=>Q (E.set i (some (.ow p,.list (ds.set n v))))
 |some (some (.dk p,.dict kvs)),w=>(jv w=true/\kvs.length<16777216)/\Q (E.set i (some (.dk p,.dict (putD kvs w v))))
 |some (some (.dt p,.dict (_::kvs))),.tuple ks=>(ks.all jv=true/\kvs.length<16777216)/\Q (E.set i (some (.dt p,.dict ((.none,.none)::putD kvs (.tuple ks) v))))
 |_,_=>False
noncomputable def P4 (f:Int->Int->Int) (i:Nat)(e:DE):DS:=λD E=>bK (here E i) (e D.xc E λE1 _ v=>Lk f E1 i v D.nx)
noncomputable def iE (e:DE):DI:=λx E Q=>e x E λE' k v=>bK k.fz (Hz v λds=>Q E' ds)
noncomputable def f7 (g:WN->Option (WN))(as:List Arg):DI:=λx E Q=>jO as x E λE1 os=>aD (cZ as E1 os) λds=>aD (g ds) λxs=>Q E1 xs
noncomputable def wU (e:DE):DI:=λx E Q=>e x E λE' k v=>bK k.fz (uM v λds=>Q E' (jk ds))
noncomputable def Qx (a b:DE):DI:=λx E Q=>a x E λE1 k v=>bK k.fz (b x E1 λE2 k2 v2=>bK k2.fz (uM v λds=>uM v2 λes=>Q E2 ((ds.zip es).map λp=>.tuple [p.1,p.2])))
def bg{α:Type}{o:Option α}{Q:α->Prop}:(∃a,o=some a/\Q a)=aD o Q:=by
 cases o with
 |none=>exact propext ⟨λ⟨a,e,_⟩=>(by cases e),λh=>h.elim⟩
 |some a=>exact propext ⟨λ⟨b,e,q⟩=>by cases e;exact q,λh=>⟨a,rfl,h⟩⟩
def fm{b:Bool}{P:Prop}:bK b P=(b=true/\P):=by
 cases b with
 |true=>exact propext ⟨λh=>⟨rfl,h⟩,λh=>h.2⟩
 |false=>exact propext ⟨λh=>h.elim,λh=>by cases h.1⟩
universe u
def cG{α:Sort u}{b:Bool}{x y:α}:dP b x y=if b=true then x else y:=by cases b<;>rfl
def z8{E:En}{i:Nat}:qK E i=dD E i:=by unfold qK dD;split;{rw[cG]};rfl
theorem qT:∀{is:WZ}{E:En},jl is E=dO is E
 |[],_=>rfl
 |i::r,E=>by rw[jl,dO,z8];congr 1;funext E1;exact qT
theorem fh:∀{as:List Arg}{E:En}{os:List (Option PyData)},cZ as E os=fill as E os
 |[],_,[]=>rfl
 |[],_,_::_=>rfl
 |.pk i::r,E,none::os=>by rw[cZ,fill,fh];split;{rw[cG]};rfl
 |.ev _::r,E,some v::os=>by rw[cZ,fill,fh]
 |.pk _::_,_,[]=>rfl
 |.pk _::_,_,some _::_=>rfl
 |.ev _::_,_,[]=>rfl
 |.ev _::_,_,none::_=>rfl
def tR{as:List Arg}{E:En}{k:Kd}{v:PyData}:qP as E k v=MY as E k v:=by unfold qP MY;rw[cG,qT]
theorem t7{i:Nat}:∀{l:WZ},lJ i l=l.contains i
 |[]=>rfl
 |j::r=>by rw[lJ,Ug,t7]
theorem zO{ks:WZ}{E:En}:∀{l:WZ},oz l ks E=(decide l.Nodup&&l.all λi=>!ks.contains i&&lE E i)
 |[]=>rfl
 |i::r=>by
  rw[oz,zO,t7,t7,QY];have:decide (i::r).Nodup=(!r.contains i&&decide r.Nodup):=by rw[Sg];simp[UA]
  rw[this];cases ks.contains i<;>cases r.contains i<;>cases lE E i<;>cases decide r.Nodup<;>rfl
def GQ{ms:WV}{as:List Arg}{E:En}:sQ ms as E=yy ms as E:=by unfold sQ yy;rw[zO,Bool.and_assoc];rfl
theorem t8:∀{ms:WV}{as:List Arg}{us:WN}{E:En},jC ms as us E=qO ms as us E
 |[],[],[],E=>rfl
 |[],[],_::_,E=>rfl
 |[],_::_,_,E=>rfl
 |false::ms,_::r,us,E=>by rw[jC,qO,t8]
 |false::ms,[],us,E=>rfl
 |true::ms,[],us,E=>rfl
 |true::ms,.ev _::_,us,E=>rfl
 |true::ms,.pk i::r,[],E=>rfl
 |true::ms,.pk i::r,u::us,E=>by rw[jC,qO];split;{rw[cG,t8]};rfl
def Gs{ms:WV}{as:List Arg}{us:WN}{E:En}{k:Kd}{v:PyData}:sN ms as us E k v=K7 ms as us E k v:=by unfold sN K7;rw[cG,qT]
def Ib{v:PyData}{Q:Bool->Prop}:(∃b,nZ v=some b/\Q b)=tH v Q:=bg
def Im{v:PyData}{Q:Bool->Prop}:(∃b,v=.bool b/\Q b)=AF v Q:=by
 cases v with
 |bool b=>exact propext ⟨λ⟨c,e,q⟩=>by cases e;exact q,λh=>⟨b,rfl,h⟩⟩
 |_=>exact propext ⟨λ⟨c,e,_⟩=>(by cases e),λh=>h.elim⟩
def Ol{v:PyData}{Q:WN->Prop}:(∃b,v=.list b/\Q b)=uM v Q:=by
 cases v with
 |list b=>exact propext ⟨λ⟨c,e,q⟩=>by cases e;exact q,λh=>⟨b,rfl,h⟩⟩
 |_=>exact propext ⟨λ⟨c,e,_⟩=>(by cases e),λh=>h.elim⟩
def AE{E:En}{i:Nat}:rH E i=bR E i:=by unfold bR rH aB;generalize E[i]?=z;rcases z with _|_|⟨k,d⟩<;>rfl
theorem Ew:∀{is:WZ}{ds:WN}{E:En},stK is ds E=bJ is ds E
 |[],[],E=>rfl
 |[],_::_,E=>rfl
 |_::_,[],E=>rfl
 |i::is,d::ds,E=>by rw[stK,bJ,cG,Ew,AE]
def xE{n:Nat}{i:Int}:yz n i=jo n i:=by
 cases i with
 |ofNat k=>unfold yz jo;show dP (Nat.blt k n) (some k) none=_;rw[if_pos (show(0:Int)<=Int.ofNat k from Int.natCast_nonneg k),cG];have:(Nat.blt k n=true)=((Int.ofNat k)<(n:Int)):=propext ⟨λh=>UB.mpr (Nat.blt_eq.mp h),λh=>Nat.blt_eq.mpr (UB.mp h)⟩;simp only[this];rfl
 |negSucc k=>rfl
def JT{d:DE}:bP d=LL d:=by funext x E Q;unfold bP LL;simp only[Ib]
def Jt{a b:DE}:gH a b=Nh a b:=by funext x E Q;unfold gH Nh;simp only[Im,cG]
def MX{a b:DE}:n5 a b=Pc a b:=by funext x E Q;unfold n5 Pc;simp only[Im,cG]
def JZ{c:DT}{a b:DS}:b5 c a b=LI c a b:=by funext D E;unfold b5 LI;simp only[cG]
def ua{i:Nat}{e:DE}:aL i e=Np i e:=by funext D E;unfold aL Np;simp only[fm,AE]
def Ot{e:DE}:iE e=oE e:=by funext x E Q;unfold iE oE;simp only[fm,bg];rfl
def K3{e:DE}:wU e=OT e:=by funext x E Q;unfold wU OT;simp only[fm,Ol]
end Dv
namespace L2
open PySem PySem.Spec PyProof.Rows
abbrev Key:=Sum Int Str
noncomputable def pP:Key->Value->Bool
 |.inl k,v=>Value.isInt k v
 |.inr x,v=>Value.isStrOf x v
def P8 (w:World):Key->Int
 |.inl k=>hashInt k
 |.inr x=>hashStr w x
def cU:∀{k:Key}{v:Value},pP k v=true->(∃i t,k=Sum.inl i/\v=Value.int i t)\/(∃x t,k=Sum.inr x/\v=Value.str x t)
 |.inl i,v,h=>by obtain⟨t,e⟩:=Value.isInt_shape (k:=i) (v:=v) h;exact .inl ⟨i,t,rfl,e⟩
 |.inr x,v,h=>by obtain⟨t,e⟩:=Value.isStrOf_shape (x:=x) (v:=v) h;exact .inr ⟨x,t,rfl,e⟩
def Eu(i:Int)(t:Tok):pP (.inl i) (.int i t)=true:=by simp[pP,Value.isInt]
def CO(x:Str)(t:Tok):pP (.inr x) (.str x t)=true:=by simp[pP,Value.isStrOf]
def ML(a b:Int):decide ((Sum.inl a:Key)=Sum.inl b)=(a==b):=by by_cases e:a=b;{subst e;simp};have h:¬(Sum.inl a:Key)=Sum.inl b:=λq=>e (Sum.inl.inj q);rw[Rm h];exact(beq_eq_false_iff_ne.mpr e).symm
def K4(a b:Str):decide ((Sum.inr a:Key)=Sum.inr b)=decide (a=b):=by by_cases e:a=b;{subst e;simp};have h:¬(Sum.inr a:Key)=Sum.inr b:=λq=>e (Sum.inr.inj q);rw[Rm h,Rm e]
def ME(a:Int) (b:Str):decide ((Sum.inl a:Key)=Sum.inr b)=false:=Rm (λq=>nomatch q)
def Lh(a:Str) (b:Int):decide ((Sum.inr a:Key)=Sum.inl b)=false:=Rm (λq=>nomatch q)
noncomputable def bU (prog:Program)(w:World):PySem.KeyKind prog w Key where
 is:=pP
 hash:=P8 w
 inj:=λv a b ha hb=>by
  rcases cU ha with⟨i,t,rfl,rfl⟩|⟨x,t,rfl,rfl⟩
  .rcases cU hb with⟨j,u,rfl,e⟩|⟨y,u,rfl,e⟩
   .injection e with e1 _;rw[e1]
   .exact nomatch e
  .rcases cU hb with⟨j,u,rfl,e⟩|⟨y,u,rfl,e⟩
   .exact nomatch e
   .injection e with e1 _;rw[e1]
 byValue:=λk v h=>by
  rcases cU h with⟨i,t,rfl,rfl⟩|⟨x,t,rfl,rfl⟩<;>rfl
 pyHash:=λhv h=>by
  rcases cU hv with⟨i,t,rfl,rfl⟩|⟨x,t,rfl,rfl⟩
  .exact wpAny_pyHash_int h
  .exact wpAny_pyHash_str h
 eqBool:=λhu hv h=>by
  rcases cU hu with⟨i,t,rfl,rfl⟩|⟨x,t,rfl,rfl⟩
  .rcases cU hv with⟨j,u,rfl,rfl⟩|⟨y,u,rfl,rfl⟩
   .rw[ML]at h;exact wpAny_eqBool_int h
   .rw[ME]at h;exact SeqAt.EqAt.int_str i t y u _ _ _ _ h
  .rcases cU hv with⟨j,u,rfl,rfl⟩|⟨y,u,rfl,rfl⟩
   .rw[Lh]at h;exact SeqAt.EqAt.str_int x t j u _ _ _ _ h
   .rw[K4]at h;exact wpAny_eqBool_str h
 «strs»:=λk x t v h=>by
  rcases cU h with⟨i,u,rfl,e⟩|⟨y,u,rfl,e⟩
  .exact nomatch e
  .injection e with e1 _
   subst e1;cases v<;>rfl
def zq(prog:Program)(w:World) (i:Int)(t:Tok):(bU prog w).is (.inl i) (.int i t)=true:=Eu i t
def zo(prog:Program)(w:World) (x:Str)(t:Tok):(bU prog w).is (.inr x) (.str x t)=true:=CO x t
set_option genInjectivity true in
inductive V where
 |aK|bl (b:Bool)|int (i:Int)|str (x:Str)|kU (b:Array UInt8)|oV (b:UInt64)|ref (a:Addr)|ty (n:String)
 deriving DecidableEq
noncomputable def RelV:V->Value->Prop
 |.aK,u=>u=Value.none
 |.bl b,u=>u=Value.bool b
 |.int i,u=>∃t,u=Value.int i t
 |.str x,u=>∃t,u=Value.str x t
 |.kU b,u=>∃t,u=Value.bytes b t
 |.oV b,u=>∃t,u=Value.float b t
 |.ref a,u=>u=Value.ref a
 |.ty n,u=>u=Value.type n
abbrev Vals:List V->WQ->Prop:=Paired RelV
theorem Vals.length{xs:List V}{us:WQ}(r:Vals xs us):xs.length=us.length:=Paired.length r
theorem Vals.get:∀{xs:List V}{us:WQ}{i:Nat}{x:V},Vals xs us->xs[i]?=some x->∃u,us[i]?=some u/\RelV x u
 |_,_,_,_,.nil,e=>by simp at e
 |_,_,0,_,.cons r _,e=>by simp at e;subst e;exact⟨_,rfl,r⟩
 |_,_,i+1,x,.cons _ t,e=>by obtain⟨u,h1,h2⟩:=Vals.get (i:=i) (x:=x) t (by simpa using e);exact⟨u,by simpa using h1,h2⟩
theorem Vals.set{x:V}{u:Value}(r:RelV x u):∀{xs:List V}{us:WQ} (i:Nat),Vals xs us->Vals (xs.set i x) (us.set i u)
 |_,_,_,.nil=>.nil
 |_,_,0,.cons _ t=>.cons r t
 |_,_,i+1,.cons q t=>.cons q (Vals.set r i t)
theorem Vals.append:∀{xs ys:List V}{us ws:WQ},Vals xs us->Vals ys ws->Vals (xs++ys) (us++ws)
 |_,_,_,_,.nil,s=>s
 |_,_,_,_,.cons r t,s=>.cons r (Vals.append t s)
theorem Vals.take:∀{xs:List V}{us:WQ} (n:Nat),Vals xs us->Vals (xs.take n) (us.take n)
 |_,_,0,_=>.nil
 |_,_,_+1,.nil=>.nil
 |_,_,n+1,.cons r t=>.cons r (Vals.take n t)
theorem Vals.drop:∀{xs:List V}{us:WQ} (n:Nat),Vals xs us->Vals (xs.drop n) (us.drop n)
 |_,_,0,r=>r
 |_,_,_+1,.nil=>.nil
 |_,_,n+1,.cons _ t=>Vals.drop n t
noncomputable def iQ:Option V->WK->Prop
 |some v,some u=>RelV v u
 |none,none=>True
 |_,_=>False
noncomputable def KV {κ:Type}:List (κ×V)->List (κ×Value)->Prop:=Paired λ(p:κ×V)(q:κ×Value)=>p.1=q.1/\RelV p.2 q.2
def kV:Key->V
 |.inl i=>.int i
 |.inr x=>.str x
inductive HO where
 |lst (xs:List V)
 |tup (xs:List V)
 |dK (kvs:List (Key×V))|dT (kvs:List (List Key×V))
 |set (S:Int->Bool) (n:Nat)
 |ins (C dx:Addr)(fs:List (Str×V))
 |own (x:Addr)
 |xd (fs:List (Str×V))
 |met (f x:Addr)
 |qp (lo hi:Int)
 |ig (o:Obj)(u:HO)
 |u9 (ps:WM)
 |ext (φ:Heap->Prop)
abbrev Hp:=Addr->Option HO
def upd (H:Hp)(a:Addr)(o:HO):Hp:=λb=>if b=a then some o else H b
def ao{H:Hp}{a:Addr}{o:HO}:upd H a o a=some o:=by unfold upd;rw[if_pos rfl]
def ah{H:Hp}{a b:Addr}{o:HO}(h:b≠a):upd H a o b=H b:=by unfold upd;rw[if_neg h]
def NP{H:Hp}{a b:Addr}{o u:HO}(h:H a=some o)(h':H b=some u)(d:o≠u):a≠b:=by intro e;subst e;rw[h]at h';exact d (Option.some.inj h')
def gh{H:Hp}{a b:Addr}{o:HO}(h:H a=some o)(h':H b=none):a≠b:=by intro e;subst e;rw[h]at h';cases h'
section
variable(P:Program)(w:World)
noncomputable def bT (H:Hp)(h:Heap)(a:Addr):HO->Prop
 |.lst xs=>xs.length<=sizeLine/\∃(its:WQ) (n:Nat),Vals xs its/\h.get? a=some { cls:=.type "list",data:=.seq its.toArray n }
 |.tup xs=>xs.length<=sizeLine/\∃its:WQ,Vals xs its/\IsTup h a its.toArray
 |.dK kvs=>kvs.length<=sizeLine/\(a==sysModules)=false/\∃vs,KV kvs vs/\h.DictOf (bU P w) a vs
 |.dT kvs=>kvs.length<=sizeLine/\(a==sysModules)=false/\∃xs:List (List Key×Addr×Value),
   Paired (λ(p:List Key×V)(q:List Key×Addr×Value)=>p.1=q.1/\H q.2.1=some (.tup (p.1.map kV))/\RelV p.2 q.2.2) kvs xs /\
   ∃o es ep,h.get? a=some o/\o.ExactDict/\o.data=.dict es ep/\es.toList=xs.map (entryOfKey (tupleKind (bU P w)))/\(xs.map (·.1)).Nodup
 |.set S n=>h.SetOf (intKind P w) a S n
 |.ins C dx fs=>H dx=some (.own a)/\fs.length<=1000/\dx≠a/\h.get? a=some (PySem.W.instObj C dx) /\
   ∃mA,h.Ns1 dx mA/\(∀f,iQ (fs.lookup f) (mA f))/\PySem.Within mA (fs.map (·.1))
 |.own _=>∃o,h.get? a=some o
 |.xd fs=>∃mA,h.Ns1 a mA/\∀f,iQ (fs.lookup f) (mA f)
 |.qp lo hi=>∃t u v,h.get? a=some { cls:=.type "range",data:=.fields #[.int lo t,.int hi u,.int 1 v] }
 |.ig o u=>h.get? a=some o/\bT H h a u
 |.u9 ps=>h.get? a=some { cls:=.none,data:=.fields ps }
 |.met f x=>h.get? a=some (PySem.W.methodObj (.ref f) (.ref x))
 |.ext φ=>φ h/\(∃o,h.get? a=some o)/\∀h1 h2:Heap,φ h1->(∀o,h1.get? a=some o->h2.get? a=some o)->φ h2
def dH (H:Hp)(h:Heap):Prop:=∀a o,H a=some o->bT P w H h a o
end
section
variable{P:Program}{w:World}{H H':Hp}{h h':Heap}{a:Addr}{o:HO}
theorem bT.lt(x:bT P w H h a o):a<h.objs.size:=by
 cases o with
 |lst xs=>obtain⟨_,_,_,_,e⟩:=x;exact QT e
 |tup xs=>obtain⟨_,_,_,p⟩:=x;exact p.lt
 |dK kvs=>obtain⟨_,_,_,_,o,_,_,e,_⟩:=x;exact QT e
 |dT kvs=>obtain⟨_,_,_,_,o,_,_,e,_⟩:=x;exact QT e
 |set S n=>obtain⟨o,_,_,_,e,_⟩:=x;exact QT e
 |ins C dx fs=>obtain⟨_,_,_,e,_⟩:=x;exact QT e
 |own y=>obtain⟨_,e⟩:=x;exact QT e
 |xd fs=>obtain⟨_,⟨_,_,_,e,_⟩,_⟩:=x;exact QT e
 |qp lo hi=>obtain⟨_,_,_,e⟩:=x;exact QT e
 |ig ob u=>obtain⟨e,_⟩:=x;exact QT e
 |u9 ps=>exact QT (show h.get? a=some _ from x)
 |met f y=>exact QT (show h.get? a=some _ from x)
 |ext φ=>obtain⟨_,⟨_,e⟩,_⟩:=x;exact QT e
theorem Paired.GB{α β:Type}{F G:α->β->Prop}:∀{l₁:List α}{l₂:List β},Paired F l₁ l₂->(∀a b,F a b->G a b)->Paired G l₁ l₂
 |_,_,.nil,_=>.nil
 |_,_,.cons r t,f=>.cons (f _ _ r) (Paired.GB t f)
def bT.stay(x:bT P w H h a o)(k:∀b u,(b=a\/H b=some (.own a))->h.get? b=some u->h'.get? b=some u)(ho:∀b,H b=some (.own a)->H' b=some (.own a))(ht:∀b xs,H b=some (.tup xs)->H' b=some (.tup xs)):bT P w H' h' a o:=by
 induction o with
 |lst xs=>obtain⟨z,its,n,r,e⟩:=x;exact⟨z,its,n,r,k _ _ (.inl rfl) e⟩
 |tup xs=>obtain⟨z,its,r,ob,e,c⟩:=x;exact⟨z,its,r,ob,k _ _ (.inl rfl) e,c⟩
 |dK kvs=>obtain⟨z,y,vs,r,ob,es,ep,e,c⟩:=x;exact⟨z,y,vs,r,ob,es,ep,k _ _ (.inl rfl) e,c⟩
 |dT kvs=>obtain⟨z,y,xs,r,ob,es,ep,e,c⟩:=x;exact⟨z,y,xs,Paired.GB r λp q z=>⟨z.1,ht _ _ z.2.1,z.2.2⟩,ob,es,ep,k _ _ (.inl rfl) e,c⟩
 |set S n=>obtain⟨ob,es,ep,t,e,c⟩:=x;exact⟨ob,es,ep,t,k _ _ (.inl rfl) e,c⟩
 |ins C dx fs=>obtain⟨d,z,ne,e,mA,⟨od,es,ep,e2,c⟩,r⟩:=x;exact⟨ho _ d,z,ne,k _ _ (.inl rfl) e,mA,⟨od,es,ep,k _ _ (.inr d) e2,c⟩,r⟩
 |own y=>obtain⟨ob,e⟩:=x;exact⟨ob,k _ _ (.inl rfl) e⟩
 |xd fs=>obtain⟨mA,⟨od,es,ep,e,c⟩,r⟩:=x;exact⟨mA,⟨od,es,ep,k _ _ (.inl rfl) e,c⟩,r⟩
 |qp lo hi=>obtain⟨t,u,v,e⟩:=x;exact⟨t,u,v,k _ _ (.inl rfl) e⟩
 |ig ob u ih=>obtain⟨e,q⟩:=x;exact⟨k _ _ (.inl rfl) e,ih q⟩
 |u9 ps=>have e:h.get? a=some { cls:=.none,data:=.fields ps }:=x;show h'.get? a=some { cls:=.none,data:=.fields ps };exact k a _ (.inl rfl) e
 |met f y=>have e:h.get? a=some (PySem.W.methodObj (.ref f) (.ref y)):=x;show h'.get? a=some (PySem.W.methodObj (.ref f) (.ref y));exact k a _ (.inl rfl) e
 |ext φ=>obtain⟨p,⟨o,e⟩,st⟩:=x;exact⟨st _ _ p λo q=>k _ _ (.inl rfl) q,⟨o,k _ _ (.inl rfl) e⟩,st⟩
theorem dH.lt(x:dH P w H h)(e:H a=some o):a<h.objs.size:=(x a o e).lt
def dH.fresh(x:dH P w H h)(e:h.objs.size<=a):H a=none:=by
 cases q:H a with
 |none=>rfl
 |some u=>exact absurd (RL (x.lt q) e) (Ro _)
def dH.kept(x:dH P w H h)(k:∀b u,h.get? b=some u->h'.get? b=some u):dH P w H h':=λa o e=>
 (x a o e).stay (λb u _ q=>k b u q) (λ_ q=>q) λ_ _ q=>q
def dH.laid(x:dH P w H h)(k:∀b u,h.get? b=some u->h'.get? b=some u)(hp:h.objs.size<=a)(new:bT P w (upd H a o) h' a o):dH P w (upd H a o) h':=λb u e=>by have hn:=x.fresh hp;by_cases hb:b=a;{subst hb;rw[ao]at e;cases e;exact new};rw[ah hb]at e;exact(x b u e).stay (λc v _ q=>k c v q) (λc q=>by rw[ah (gh q hn)];exact q) λc xs q=>by rw[ah (gh q hn)];exact q
end
def Rd (H:Hp)(a:Addr)(u:HO):Prop:=H a=some u\/∃o,H a=some (.ig o u)
def Rd.ok{P:Program}{w:World}{H:Hp}{h:Heap}{a:Addr}{u:HO}(r:Rd H a u)(x:dH P w H h):bT P w H h a u:=by rcases r with r|⟨o,r⟩;{exact x a u r};obtain⟨_,q⟩:=x a _ r;exact q
noncomputable def Dg:Option HO->Prop
 |some (.lst _)=>True
 |some (.dK _)=>True
 |some (.dT _)=>True
 |some (.set _ _)=>True
 |some (.ins _ _ _)=>True
 |some (.ext _)=>True
 |_=>False
section
variable{P:Program}{w:World}{H:Hp}{h h':Heap}{x e:Addr}{o':HO}
def dH.write(ok:dH P w H h)(mu:Dg (H x))(he:e=x\/H e=some (.own x))(k:∀b u,b≠e->h.get? b=some u->h'.get? b=some u)(heo:∃u,h'.get? e=some u)(new:bT P w (upd H x o') h' x o'):dH P w (upd H x o') h':=λb u q=>by
 have nown:∀c y,H c=some (.own y)->c≠x:=λc y r z=>by subst z;rw[r]at mu;exact mu
 have ntup:∀c xs,H c=some (.tup xs)->c≠x:=λc xs r z=>by subst z;rw[r]at mu;exact mu
 by_cases hb:b=x;{subst hb;rw[ao]at q;cases q;exact new};rw[ah hb]at q;by_cases hbe:b=e
 .have q':H b=some (.own x):=by rcases he with z|z;{exact absurd (hbe.trans z) hb};rw[hbe];exact z
  rw[q]at q';cases q';obtain⟨v,hv⟩:=heo;exact⟨v,by rw[hbe];exact hv⟩
 refine(ok b u q).stay (λc v hc r=>k c v ?_ r) (λc r=>by rw[ah (nown c b r)];exact r) λc xs r=>by rw[ah (ntup c xs r)];exact r
 rcases hc with rfl|hc;{exact hbe};rintro rfl;rcases he with z|z;{exact nown c b hc z};rw[hc]at z;cases z;exact hb rfl
end
structure Un(fs ex:WU)(H H':Hp)(h h':Heap):Prop where
 keep:∀b o,h.get? b=some o->H b=none->b∉fs->b∉ex->h'.get? b=some o
 slot:∀b o,h.get? b=some o->H b=none->b∈fs->b∉ex->∃sl,h'.get? b=some { o with slots:=sl }
 free:∀b o,h.get? b=some o->H b=none->b∉ex->H' b=none
 there:∀b o,h.get? b=some o->b∉ex->∃o',h'.get? b=some o'
 tups:∀b xs,H b=some (.tup xs)->H' b=some (.tup xs)
 jd:∀b o u,H b=some (.ig o u)->H' b=some (.ig o u)
 jI:∀b ps,H b=some (.u9 ps)->∃more,H' b=some (.u9 (ps++more))
section
variable{fs fs' ex ex':WU}{H H1 H2:Hp}{h h1 h2 h':Heap}{a x e:Addr}{o:HO}
def Un.any(u:Un fs ex H H1 h h1){b:Addr}{ob:Obj}(q:h.get? b=some ob)(n:H b=none)(hx:b∉ex):∃sl,h1.get? b=some { ob with slots:=sl }:=by by_cases hb:b∈fs;{exact u.slot b ob q n hb hx};exact⟨ob.slots,u.keep b ob q n hb hx⟩
def Un.kept(k:∀b u,h.get? b=some u->h'.get? b=some u):Un fs ex H H h h':=
 ⟨λb ob q _ _ _=>k b ob q,λb ob q _ _ _=>⟨ob.slots,k b ob q⟩,λ_ _ _ n _=>n,λb ob q _=>⟨ob,k b ob q⟩,λ_ _ q=>q,λ_ _ _ q=>q,λ_ ps q=>⟨#[],by rw[q];simp⟩⟩
def Un.refl:Un fs ex H H h h:=Un.kept λ_ _ q=>q
def Un.laid(k:∀b u,h.get? b=some u->h'.get? b=some u)(hp:h.objs.size<=a)(hn:H a=none):Un fs ex H (upd H a o) h h' where
 keep:=λb u q _ _ _=>k b u q
 slot:=λb u q _ _ _=>⟨u.slots,k b u q⟩
 free:=λb u q n _=>by rw[ah (RH (RL (QT q) hp))];exact n
 there:=λb u q _=>⟨u,k b u q⟩
 tups:=λb xs q=>by rw[ah (gh q hn)];exact q
 jd:=λb u xs q=>by rw[ah (gh q hn)];exact q
 jI:=λb ps q=>⟨#[],by rw[ah (gh q hn),q];simp⟩
def Un.write(mu:Dg (H x))(he:e=x\/H e=some (.own x))(k:∀b u,b≠e->h.get? b=some u->h'.get? b=some u)(heo:∃u,h'.get? e=some u):Un fs ex H (upd H x o) h h':=by
 have hx:∀b,H b=none->b≠x:=λb n z=>by subst z;rw[n]at mu;exact mu
 have hb:∀b,H b=none->b≠e:=λb n z=>by subst z;rcases he with r|r;{exact hx b n r};rw[n]at r;cases r
 have hm:∀b u,H b=some u->¬Dg (some u)->b≠x:=λb u q nm z=>by subst z;rw[q]at mu;exact nm mu
 refine⟨λb u q n _ _=>k b u (hb b n) q,λb u q n _ _=>⟨u.slots,k b u (hb b n) q⟩,λb u q n _=>by rw[ah (hx b n)];exact n,λb u q _=>?_,
  λb xs q=>by rw[ah (hm b _ q λz=>z)];exact q,λb u xs q=>by rw[ah (hm b _ q λz=>z)];exact q,λb ps q=>⟨#[],by rw[ah (hm b _ q λz=>z),q];simp⟩⟩
 by_cases hbe:b=e;{subst hbe;exact heo};exact⟨u,k b u hbe q⟩
end
noncomputable def HR (h:Heap)(H:Hp):WU:=(List.range h.objs.size).filter λa=>(H a).isSome
def nk (h:Heap)(H:Hp):Heap:=PySem.W.hideAll h (HR h H)
def CB(h:Heap)(H:Hp):(nk h H).objs.size=h.objs.size:=PySem.W.hideAll_size _ _
def Gm{h:Heap}{H:Hp}{b:Addr}{o:Obj}(e:h.get? b=some o)(n:H b=none):(nk h H).get? b=some o:=
 PySem.W.hideAll_get _ e λhm=>by have q:(H b).isSome=true:=(Uh.mp hm).2;rw[n]at q;simp at q
def JG{h:Heap}{H:Hp}{b:Addr}{o:Obj}(e:(nk h H).get? b=some o):h.get? b=some o/\H b=none:=by
 have e':h.get? b=some o:=PySem.W.of_hideAll (HR h H) e;refine⟨e',?_⟩;cases q:H b with
 |none=>rfl
 |some x=>have hm:b∈HR h H:=Uh.mpr ⟨RU.mpr (QT e'),by simp[q]⟩;have z:(nk h H).get? b=none:=PySem.W.hideAll_none (HR h H) hm;rw[z]at e;cases e
structure Mod(K:WJ)(mg:WC)(base:Heap):Prop where
 vE:K.In base
 glob:base.Ns mainGlobals mg
 blt:∃mb,base.Ns builtinsNs mb/\∀x:Str,x≠"__name__"->mb x=bootBuiltins x
 nolimit:base.NoLimit
structure Cx where
 prog:Program
 w:World
 K:WJ
 mg:WC
 base:Heap
 A:Around
 N:Wb
 s₀:Shared
 H₀:Hp
 env:Env
 outer:List Env
 stack:List Env
 ex:WU
 fn:Str->Bool
 calm:Bool
 pn:WD
 xe:WA
def frs (l:List Env):WU:=l.filterMap (·.frame)
abbrev Cx.fs (X:Cx):WU:=frs X.outer
noncomputable def j8 (sc:Scope) (x:Str):Prop:=sc.names.lookup x=some .local\/sc.names.lookup x=some .cell\/sc.names.lookup x=some .free
noncomputable def Loc (sc:Scope) (x:Str):Prop:=sc.names.lookup x=some .local\/sc.names.lookup x=some .cell
noncomputable def Look (env:Env)(h:Heap)(m:WC) (x:Str)(u:Value):Prop:=
 (env.kindOf x=some .local/\m x=some u)\/((env.kindOf x=some .cell\/env.kindOf x=some .free)/\∃c,env.cells.lookup x=some c/\h.IsCell c (some u))
structure Cx.Ok(X:Cx):Prop where
 mod:Mod X.K X.mg X.base
 kind:X.env.scope.kind=.function
 glob:X.env.globals=mainGlobals
 blt:X.env.builtins=builtinsNs
 above:X.s₀.heap.objs.size<=X.env.locals
 inj:∀x y c,X.env.cells.lookup x=some c->X.env.cells.lookup y=some c->x=y
 has:∀x,(X.env.kindOf x=some .cell\/X.env.kindOf x=some .free)->∃c,X.env.cells.lookup x=some c
 wZ:∀x c,X.fn x=true->X.env.cells.lookup x=some c->X.s₀.heap.objs.size<=c
 hd:X.calm=true->X.A.handled=none
 frames:X.A.frames=some X.stack
 stk:X.stack=X.outer\/(X.stack=X.env::X.outer/\X.env.frame=some X.env.locals)
 Hv:∀b∈X.ex,b≠X.env.locals/\∀x c,X.env.cells.lookup x=some c->c≠b
 bs:∀b o,X.base.get? b=some o->X.s₀.heap.get? b=some o/\X.H₀ b=none
 qt:X.base.objs.size<=X.s₀.heap.objs.size
 qF:∀b o,X.base.get? b=some o->b∉X.ex
 ug:∀b∈X.ex,b∉X.fs
 iz:X.s₀.heap.FunFrames X.base X.outer
 rQ:∀b∈X.fs,X.H₀ b=none
structure Inv(X:Cx)(pins:WD)(U:List (Option V))(H:Hp)(s:Shared):Prop where
 ok:X.Ok
 os:s.os=X.s₀.os
 bare:AllBare s.gens
 base:Un X.fs X.ex X.H₀ H X.s₀.heap s.heap
 loc:∃m,s.heap.Ns X.env.locals m/\∀(i:Nat) (x:Str) (v:V),X.N[i]?=some x->U[i]?=some (some v)->j8 X.env.scope x->∃u,RelV v u/\Look X.env s.heap m x u
 cell:∀x c,X.env.cells.lookup x=some c->∃v,s.heap.IsCell c v
 free:H X.env.locals=none
 eE:∀x c,X.env.cells.lookup x=some c->H c=none
 pin:∀p∈X.pn++pins,s.heap.get? p.1=some p.2/\H p.1=none/\p.1≠X.env.locals/\p.1∉X.fs/\∀v,p.2.data≠.cell v
 hok:dH X.prog X.w H s.heap
 len:U.length=X.N.length
section
variable{X:Cx}{pins:WD}{U:List (Option V)}{H H':Hp}{s:Shared}{h':Heap}
def Cx.Ok.PX(ok:X.Ok){b:Addr}{o:Obj}(e:X.base.get? b=some o):b∉X.fs:=λhb=>by have:=(ok.iz.mem hb).1;rw[e]at this;cases this
theorem Inv.bs(I:Inv X pins U H s):∀b o,X.base.get? b=some o->s.heap.get? b=some o/\H b=none:=λb o e=>
 ⟨I.base.keep b o (I.ok.bs b o e).1 (I.ok.bs b o e).2 (I.ok.PX e) (I.ok.qF b o e),I.base.free b o (I.ok.bs b o e).1 (I.ok.bs b o e).2 (I.ok.qF b o e)⟩
def Inv.bk(I:Inv X pins U H s):∀b o,X.base.get? b=some o->s.heap.get? b=some o:=λb o e=>(I.bs b o e).1
theorem Inv.mod(I:Inv X pins U H s):Mod X.K X.mg X.base:=I.ok.mod
def Inv.fT(I:Inv X pins U H s):X.K.In s.heap:=I.ok.mod.vE.keeps I.bk
theorem Inv.lt(I:Inv X pins U H s):X.env.locals<s.heap.objs.size:=let⟨_,hn,_⟩:=I.loc;hn.lt
def Inv.sz(I:Inv X pins U H s):X.s₀.heap.objs.size<=s.heap.objs.size:=RM I.ok.above (UC I.lt)
def Inv.MZ(I:Inv X pins U H s){a:Addr}(h:s.heap.objs.size<=a):a∉X.fs:=λhb=>by obtain⟨_,o,ho,_⟩:=I.ok.iz.mem hb;exact absurd (RL (QT ho) (RM I.sz h)) (Ro _)
def Inv.tK(I:Inv X pins U H s):∀x c,X.env.cells.lookup x=some c->c≠X.env.locals:=λx c e z=>by obtain⟨v,o,ho,hd⟩:=I.cell x c e;obtain⟨m,⟨o',es,ep,ho',hd',_⟩,_⟩:=I.loc;rw[z,ho']at ho;cases ho;rw[hd']at hd;cases hd
theorem Inv.iz(I:Inv X pins U H s):s.heap.FunFrames X.base X.outer:=by
 have all:∀(l:List Env),(∀b∈frs l,b∈X.fs)->X.s₀.heap.FunFrames X.base l->s.heap.FunFrames X.base l:=by
  intro l;induction l with
  |nil=>intro _ _;trivial
  |cons env r ih=>intro hs hl;obtain⟨hk,⟨L,o,hf,hn,ho,hd⟩,hr⟩:=hl;have hL:L∈X.fs:=hs L (by unfold frs;rw[Rr,hf];exact Q6);obtain⟨sl,e⟩:=I.base.slot L o ho (I.ok.rQ L hL) hL λz=>I.ok.ug L z hL;exact⟨hk,⟨L,_,hf,hn,e,hd⟩,ih (λb hb=>hs b (by unfold frs;rw[Rr,hf];exact QU _ hb)) hr⟩
 exact all X.outer (λ_ hb=>hb) I.ok.iz
theorem Inv.stack(I:Inv X pins U H s):s.heap.FunFrames X.base X.stack:=by rcases I.ok.stk with e|⟨e,hf⟩;{rw[e];exact I.iz};rw[e];obtain⟨m,hn,_⟩:=I.loc;refine .cons (by rw[I.ok.kind];decide) hf hn ?_ I.iz;exact UD (RM I.ok.qt I.ok.above)
def Inv.lP(I:Inv X pins U H s):∀b∈frs X.stack,b∈X.env.locals::X.fs:=λb hb=>by rcases I.ok.stk with e|⟨e,hf⟩;{rw[e]at hb;exact QU _ hb};rw[e]at hb;unfold frs at hb;rw[Rr,hf]at hb;exact hb
def Inv.pO(I:Inv X pins U H s):∀b∈frs X.stack,H b=none:=λb hb=>by rcases QX.mp (I.lP b hb)with e|hb;{rw[e];exact I.free};obtain⟨_,o,ho,_⟩:=I.ok.iz.mem hb;exact I.base.free b o ho (I.ok.rQ b hb) λz=>I.ok.ug b z hb
def Inv.step{g':Array GenState}{t':Nat}{d':Drawn}{ch:WU}(I:Inv X pins U H s)(hch:∀b∈ch,(b∈X.ex\/X.s₀.heap.objs.size<=b)/\b≠X.env.locals/\(∀x c,X.env.cells.lookup x=some c->c≠b)/\∀p∈X.pn++pins,p.1≠b)(keep:∀b o,b≠X.env.locals->b∉X.fs->b∉ch->s.heap.get? b=some o->H b=none->h'.get? b=some o)(slot:∀b o,b≠X.env.locals->b∈X.fs->b∉ch->s.heap.get? b=some o->H b=none->∃sl,h'.get? b=some { o with slots:=sl })(free:∀b o,b∉ch->s.heap.get? b=some o->H b=none->H' b=none)(there:∀b o,b∉ch->s.heap.get? b=some o->∃o',h'.get? b=some o')(tups:∀b xs,H b=some (.tup xs)->H' b=some (.tup xs))(jd:∀b o u,H b=some (.ig o u)->H' b=some (.ig o u))(jI:∀b ps,H b=some (.u9 ps)->∃more,H' b=some (.u9 (ps++more)))(ns:∀m,s.heap.Ns X.env.locals m->h'.Ns X.env.locals m)(hok:dH X.prog X.w H' h')(hg:AllBare g') : Inv X pins U H' { s with heap:=h',gens:=g',drawn:=d',toks:=t' }:=by
 have neL:∀b o,X.s₀.heap.get? b=some o->b≠X.env.locals:=λb o e=>RH (RL (QT e) I.ok.above);have neC:∀b o,X.s₀.heap.get? b=some o->b∉X.ex->b∉ch:=λb o e hx hb=>by rcases(hch b hb).1 with z|z;{exact hx z};exact absurd (RL (QT e) z) (Ro _)
 have cellK:∀x c,X.env.cells.lookup x=some c->∀v,s.heap.IsCell c v->h'.IsCell c v:=λx c e v ⟨o,ho,hd⟩=>by have nch:c∉ch:=λz=>(hch c z).2.2.1 x c e rfl;by_cases hc:c∈X.fs;{obtain⟨sl,q⟩:=slot c o (I.tK x c e) hc nch ho (I.eE x c e);exact⟨_,q,hd⟩};exact⟨o,keep c o (I.tK x c e) hc nch ho (I.eE x c e),hd⟩
 refine⟨I.ok,I.os,hg,⟨λb o e n hb hx=>?_,λb o e n hb hx=>?_,λb o e n hx=>?_,λb o e hx=>?_,λb xs e=>tups b xs (I.base.tups b xs e),λb o xs e=>jd b o xs (I.base.jd b o xs e),λb ps e=>?_⟩,?_,λx c e=>?_,?_,λx c e=>?_,λp hp=>?_,hok,I.len⟩;{exact keep b o (neL b o e) hb (neC b o e hx) (I.base.keep b o e n hb hx) (I.base.free b o e n hx)};{obtain⟨sl,e1⟩:=I.base.slot b o e n hb hx;obtain⟨sl',e2⟩:=slot b _ (neL b o e) hb (neC b o e hx) e1 (I.base.free b o e n hx);exact⟨sl',e2⟩};{obtain⟨o',e1⟩:=I.base.there b o e hx;exact free b o' (neC b o e hx) e1 (I.base.free b o e n hx)};{obtain⟨o',e1⟩:=I.base.there b o e hx;exact there b o' (neC b o e hx) e1};{obtain⟨m1,e1⟩:=I.base.jI b ps e;obtain⟨m2,e2⟩:=jI b _ e1;exact⟨m1++m2,by rw[e2,Array.append_assoc]⟩};{obtain⟨m,hn,hl⟩:=I.loc;refine⟨m,ns m hn,λi x v e1 e2 e3=>?_⟩;obtain⟨u,r,l⟩:=hl i x v e1 e2 e3;refine⟨u,r,?_⟩;rcases l with l|⟨k,c,e,z⟩;{exact .inl l};exact .inr ⟨k,c,e,cellK x c e _ z⟩};{obtain⟨v,z⟩:=I.cell x c e;exact⟨v,cellK x c e v z⟩};{obtain⟨m,⟨o,_,_,ho,_⟩,_⟩:=I.loc;exact free _ o (λz=>(hch _ z).2.1 rfl) ho I.free};{obtain⟨v,o,ho,hd⟩:=I.cell x c e;exact free c o (λz=>(hch c z).2.2.1 x c e rfl) ho (I.eE x c e)};obtain⟨e,n,ne,nf,d⟩:=I.pin p hp;have nch:p.1∉ch:=λz=>(hch p.1 z).2.2.2 p hp rfl;exact⟨keep p.1 p.2 ne nf nch e n,free p.1 p.2 nch e n,ne,nf,d⟩
def Inv.un{t':Nat}(I:Inv X pins U H s)(u:Un X.fs [] H H' s.heap h')(hok:dH X.prog X.w H' h'):Inv X pins U H' { s with heap:=h',toks:=t' }:=by
 obtain⟨m,⟨o,es,ep,ho,r⟩,_⟩:=id I.loc;obtain⟨sl,hL⟩:=u.any ho I.free (by simp);exact I.step (g':=s.gens) (d':=s.drawn) (ch:=[]) (λ_ z=>nomatch z) (λb o _ hb _ e n=>u.keep b o e n hb (by simp)) (λb o _ hb _ e n=>u.slot b o e n hb (by simp)) (λb o _ e n=>u.free b o e n (by simp)) (λb o _ e=>u.there b o e (by simp)) u.tups u.jd u.jI (λm' hm=>by
  obtain⟨o',es',ep',ho',r'⟩:=hm;rw[ho]at ho';cases ho';exact⟨_,es',ep',hL,r'⟩) hok I.bare
def Inv.call{g':Array GenState}{t':Nat}{d':Drawn}{ch:WU}(I:Inv X pins U H s)(u:Un (frs X.stack) ch H H' s.heap h')(hok:dH X.prog X.w H' h')(hg:AllBare g')(hch:∀b∈ch,(b∈X.ex\/X.s₀.heap.objs.size<=b)/\b≠X.env.locals/\(∀x c,X.env.cells.lookup x=some c->c≠b)/\∀p∈X.pn++pins,p.1≠b) : Inv X pins U H' { s with heap:=h',gens:=g',drawn:=d',toks:=t' }:=by
 obtain⟨m,⟨o,es,ep,ho,r⟩,_⟩:=id I.loc;obtain⟨sl,hL⟩:=u.any ho I.free λz=>(hch _ z).2.1 rfl;exact I.step (ch:=ch) hch (λb o hL hb hc e n=>u.keep b o e n (λz=>(QX.mp (I.lP b z)).elim hL hb) hc) (λb o _ _ hc e n=>u.any e n hc) (λb o hc e n=>u.free b o e n hc) (λb o hc e=>u.there b o e hc) u.tups u.jd u.jI (λm' hm=>by
  obtain⟨o',es',ep',ho',r'⟩:=hm;rw[ho]at ho';cases ho';exact⟨_,es',ep',hL,r'⟩) hok hg
def Inv.turned{t':Nat}{it:Addr}(I:Inv X pins U H s)(k:∀b o,b≠it->s.heap.get? b=some o->h'.get? b=some o)(hn:H it=none)(hL:it≠X.env.locals)(h1:it∈X.ex\/X.s₀.heap.objs.size<=it)(h2:∀x c,X.env.cells.lookup x=some c->c≠it)(h3:∀p∈X.pn++pins,p.1≠it):Inv X pins U H { s with heap:=h',toks:=t' }:=by
 have nit:∀b u,H b=some u->b≠it:=λb u e z=>by rw[z,hn]at e;cases e
 refine I.step (g':=s.gens) (d':=s.drawn) (ch:=[it]) (λb hb=>?_) (λb o _ _ hc e _=>k b o (λz=>hc (by simp[z])) e) (λb o _ _ hc e _=>⟨o.slots,k b o (λz=>hc (by simp[z])) e⟩) (λ_ _ _ _ n=>n)
  (λb o hc e=>⟨o,k b o (λz=>hc (by simp[z])) e⟩) (λ_ _ e=>e) (λ_ _ _ e=>e) (λb ps e=>⟨#[],by rw[e];simp⟩) (λm hm=>?_) (λb u e=>?_) I.bare
 .have e:b=it:=by simpa using hb
  subst e;exact⟨h1,hL,h2,h3⟩
 .obtain⟨o,es,ep,ho,r⟩:=hm;exact⟨o,es,ep,k _ o (Ne.symm hL) ho,r⟩
 refine(I.hok b u e).stay (λc v hc q=>k c v ?_ q) (λ_ q=>q) λ_ _ q=>q;rcases hc with z|z;{rw[z];exact nit b u e};exact nit c _ z
def Inv.tok(I:Inv X pins U H s) (t:Nat):Inv X pins U H { s with toks:=t }:=I.un (h':=s.heap) (t':=t) Un.refl I.hok
theorem Inv.kept{t':Nat}(I:Inv X pins U H s)(k:∀b u,s.heap.get? b=some u->h'.get? b=some u):Inv X pins U H { s with heap:=h',toks:=t' }:=I.un (Un.kept k) (I.hok.kept k)
theorem Inv.laid{a:Addr}{o:HO}{t':Nat}(I:Inv X pins U H s)(k:∀b u,s.heap.get? b=some u->h'.get? b=some u)(hp:s.heap.objs.size<=a)(new:bT X.prog X.w (upd H a o) h' a o) : Inv X pins U (upd H a o) { s with heap:=h',toks:=t' }:=I.un (Un.laid k hp (I.hok.fresh hp)) (I.hok.laid k hp new)
theorem Inv.write{x e:Addr}{o:HO}{t':Nat}(I:Inv X pins U H s)(mu:Dg (H x))(he:e=x\/H e=some (.own x))(k:∀b u,b≠e->s.heap.get? b=some u->h'.get? b=some u)(heo:∃u,h'.get? e=some u)(new:bT X.prog X.w (upd H x o) h' x o):Inv X pins U (upd H x o) { s with heap:=h',toks:=t' }:=I.un (Un.write mu he k heo) (I.hok.write mu he k heo new)
def Inv.lT{pins':WD}(I:Inv X pins U H s)(h:∀p∈pins',s.heap.get? p.1=some p.2/\H p.1=none/\p.1≠X.env.locals/\p.1∉X.fs/\∀v,p.2.data≠.cell v):Inv X pins' U H s:=
 ⟨I.ok,I.os,I.bare,I.base,I.loc,I.cell,I.free,I.eE,λp hp=>(R7.mp hp).elim (λz=>I.pin p (Ui _ z)) (h p),I.hok,I.len⟩
def qG{N:Wb}(hN:N.Nodup){i j:Nat}{x:Str}(a:N[i]?=some x)(b:N[j]?=some x):i=j:=by obtain⟨h1,e1⟩:=RW.mp a;obtain⟨h2,e2⟩:=RW.mp b;exact(List.getElem_inj hN).mp (e1.trans e2.symm)
def vA{M:Model}{A:Around}{E:WA}{i:Nat}{x:Str}{v:V}{u:Value}{Q:Unit->Shared->Prop}(I:Inv X pins U H s)(hN:X.N.Nodup)(hi:X.N[i]?=some x)(hx:Loc X.env.scope x)(r:RelV v u)(h:∀s',Inv X pins (U.set i (some v)) H s'->(∃a,Heap.SameBut a s.heap s'.heap/\(a=X.env.locals\/X.env.cells.lookup x=some a))->Q () s')(hf:X.fn x=true\/X.env.scope.names.lookup x=some .local:=by first|exact .inl rfl|exact .inr rfl|assumption):wpAny M A (storeName X.env x u) Q E s:=by
 obtain⟨m,hn,hl⟩:=id I.loc;have hcls:(X.env.scope.kind == .class||(X.env.scope.kind == .module&&X.env.locals != X.env.globals))=false:=by rw[I.ok.kind];rfl
 have hiσ:i<U.length:=by rw[I.len];exact(RW.mp hi).1
 have tK:=I.tK;have tracked:∀{a:Addr}{h':Heap},(∃o,s.heap.get? a=some o/\H a=none)->Heap.SameBut a s.heap h'->dH X.prog X.w H h':=λ{a h'} ha hs b ob e=>by obtain⟨_,_,hfree⟩:=ha;refine(I.hok b ob e).stay (λc w' hc q=>(hs.2 c ?_).trans q) (λ_ q=>q) λ_ _ q=>q;rintro rfl;rcases hc with rfl|hc;{rw[hfree]at e;cases e};rw[hfree]at hc;cases hc
 rcases hx with hk|hk;{refine wpAny_storeName_local hk hn (λh' hn' hs=>?_) hcls;obtain⟨oL,_,_,hoL,_⟩:=id hn;refine h _ ⟨I.ok,I.os,I.bare,⟨λb o e n hb hx=>?_,λb o e n hb hx=>?_,I.base.free,λb o e hx=>?_,I.base.tups,I.base.jd,I.base.jI⟩,⟨_,hn',λj y v' e1 e2 e3=>?_⟩,λy c e=>?_,I.free,I.eE,λp hp=>?_,tracked ⟨oL,hoL,I.free⟩ hs,by simpa using I.len⟩ ⟨_,hs,.inl rfl⟩;{exact(hs.2 b (RH (RL (QT e) I.ok.above))).trans (I.base.keep b o e n hb hx)};{obtain⟨sl,e1⟩:=I.base.slot b o e n hb hx;exact⟨sl,(hs.2 b (RH (RL (QT e) I.ok.above))).trans e1⟩};{obtain⟨o',e1⟩:=I.base.there b o e hx;exact⟨o',(hs.2 b (RH (RL (QT e) I.ok.above))).trans e1⟩};{by_cases hj:j=i;{subst hj;rw[hi]at e1;cases e1;rw[TX hiσ]at e2;cases e2;exact⟨u,r,.inl ⟨hk,by simp⟩⟩};rw[TY (Ne.symm hj)]at e2;obtain⟨u',r',q⟩:=hl j y v' e1 e2 e3;refine⟨u',r',?_⟩;rcases q with⟨k,e⟩|⟨k,c,e,z⟩;{refine .inl ⟨k,?_⟩;have:y≠x:=λe=>hj (qG hN e1 (e▸hi));simp[this,e]};exact .inr ⟨k,c,e,z.sameBut hs (tK y c e)⟩};{obtain⟨w',z⟩:=I.cell y c e;exact⟨w',z.sameBut hs (tK y c e)⟩};obtain⟨e,n,ne,nf,d⟩:=I.pin p hp;exact⟨(hs.2 p.1 ne).trans e,n,ne,nf,d⟩};have hfn:X.fn x=true:=by rcases hf with z|z;{exact z};rw[z]at hk;cases hk
 obtain⟨c,hc⟩:=I.ok.has x (.inl hk);obtain⟨w',z⟩:=I.cell x c hc;refine wpAny_storeName_cell I.ok.kind hk hc z (λh' hc' hs=>?_);obtain⟨oc,hoc,hocd⟩:=id z;refine h { s with heap:=h' } ⟨I.ok,I.os,I.bare,⟨λb o e n hb hx=>?_,λb o e n hb hx=>?_,I.base.free,λb o e hx=>?_,I.base.tups,I.base.jd,I.base.jI⟩,⟨m,hn.sameBut hs (Ne.symm (tK x c hc)),λj y v' e1 e2 e3=>?_⟩,λy c' e=>?_,I.free,I.eE,λp hp=>?_,tracked ⟨oc,hoc,I.eE x c hc⟩ hs,by simpa using I.len⟩ ⟨c,hs,.inr hc⟩;{exact(hs.2 b (RH (RL (QT e) (I.ok.wZ x c hfn hc)))).trans (I.base.keep b o e n hb hx)};{obtain⟨sl,e1⟩:=I.base.slot b o e n hb hx;exact⟨sl,(hs.2 b (RH (RL (QT e) (I.ok.wZ x c hfn hc)))).trans e1⟩};{obtain⟨o',e1⟩:=I.base.there b o e hx;exact⟨o',(hs.2 b (RH (RL (QT e) (I.ok.wZ x c hfn hc)))).trans e1⟩};{by_cases hj:j=i;{subst hj;rw[hi]at e1;cases e1;rw[TX hiσ]at e2;cases e2;exact⟨u,r,.inr ⟨.inl hk,c,hc,hc'⟩⟩};rw[TY (Ne.symm hj)]at e2;obtain⟨u',r',q⟩:=hl j y v' e1 e2 e3;refine⟨u',r',?_⟩;rcases q with q|⟨k,c',e,z'⟩;{exact .inl q};refine .inr ⟨k,c',e,z'.sameBut hs ?_⟩;rintro rfl;exact hj (qG hN e1 (I.ok.inj _ _ _ e hc▸hi))};{by_cases hcc:c'=c;{subst hcc;exact⟨_,hc'⟩};obtain⟨w2,z2⟩:=I.cell y c' e;exact⟨w2,z2.sameBut hs hcc⟩};obtain⟨e,n,ne,nf,d⟩:=I.pin p hp;refine⟨(hs.2 p.1 ?_).trans e,n,ne,nf,d⟩;intro q;rw[q,hoc]at e;have q':oc=p.2:=Option.some.inj e;exact d w' (by rw[<-q'];exact hocd)
def m9{M:Model}{A:Around}{E:WA}{i:Nat}{x:Str}{v:V}{u:Value}{Q:Unit->Shared->Prop}(I:Inv X pins U H s)(hN:X.N.Nodup)(hi:X.N[i]?=some x)(hx:Loc X.env.scope x)(r:RelV v u)(h:∀s',Inv X pins (U.set i (some v)) H s'->Q () s')(hf:X.fn x=true\/X.env.scope.names.lookup x=some .local:=by first|exact .inl rfl|exact .inr rfl|assumption):wpAny M A (storeName X.env x u) Q E s:=
 vA I hN hi hx r (λs' I' _=>h s' I') hf
def Inv.BV{s':Shared}{ch:WU}(I:Inv X pins U H s)(ho:s'.os=s.os)(u:Un (frs X.stack) ch H H' s.heap s'.heap)(hok:dH X.prog X.w H' s'.heap)(hg:AllBare s'.gens)(hch:∀b∈ch,(b∈X.ex\/X.s₀.heap.objs.size<=b)/\b≠X.env.locals/\(∀x c,X.env.cells.lookup x=some c->c≠b)/\∀p∈X.pn++pins,p.1≠b):Inv X pins U H' s':=by obtain⟨h',g',d',t',o'⟩:=s';have e:o'=s.os:=ho;subst e;exact I.call (g':=g') (t':=t') (d':=d') u hok hg hch
end
abbrev XK:=Value->WO->Hp->Prop
abbrev St:=List (Option V)
abbrev VK:=V->Hp->Prop
abbrev TE:=St->Hp->VK->Prop
abbrev TT:=St->Hp->(Bool->Hp->Prop)->Prop
abbrev TA:=St->Hp->(List V->Hp->Prop)->Prop
structure Ends where
 nx:St->Hp->Prop
 rt:VK
 bk:St->Hp->Prop:=λ_ _=>False
 ct:St->Hp->Prop:=λ_ _=>False
abbrev TS:=Ends->St->Hp->Prop
noncomputable def EP (X:Cx)(pins:WD)(U:St)(Q:VK)(u:Value)(s':Shared):Prop:=∃v H',Inv X pins U H' s'/\RelV v u/\Q v H'
noncomputable def TP (X:Cx)(pins:WD)(U:St)(Q:Bool->Hp->Prop)(b:Bool)(s':Shared):Prop:=∃H',Inv X pins U H' s'/\Q b H'
noncomputable def AP (X:Cx)(pins:WD)(U:St)(Q:List V->Hp->Prop)(us:WQ)(s':Shared):Prop:=∃vs H',Inv X pins U H' s'/\Vals vs us/\Q vs H'
noncomputable def SP (X:Cx)(pins:WD)(D:Ends)(f:Flow)(s':Shared):Prop:=
 match f with
 |.next=>∃σ' H',Inv X pins σ' H' s'/\D.nx σ' H'
 |.brk=>∃σ' H',Inv X pins σ' H' s'/\D.bk σ' H'
 |.cont=>∃σ' H',Inv X pins σ' H' s'/\D.ct σ' H'
 |.ret u=>∃v σ' H',Inv X pins σ' H' s'/\RelV v u/\D.rt v H'
noncomputable def PE (X:Cx)(e:Expr)(t:TE):Prop:=
 ∀(pins:WD)(s:Shared)(U:St)(H:Hp)(Q:VK),Inv X pins U H s->t U H Q->wpAny (model X.prog X.w) X.A (eval e X.env) (EP X pins U Q) X.xe s
noncomputable def PT (X:Cx)(e:Expr)(t:TT):Prop:=
 ∀(pins:WD)(s:Shared)(U:St)(H:Hp)(Q:Bool->Hp->Prop),Inv X pins U H s->t U H Q->wpAny (model X.prog X.w) X.A (isTrue e X.env (eval e X.env)) (TP X pins U Q) X.xe s
noncomputable def PW (X:Cx)(e:Expr)(t:TT):Prop:=
 ∀(whole:Sem Value)(pins:WD)(s:Shared)(U:St)(H:Hp)(Q:Bool->Hp->Prop),Inv X pins U H s->t U H Q->wpAny (model X.prog X.w) X.A (isTrue e X.env whole) (TP X pins U Q) X.xe s
def PW.pt{X:Cx}{e:Expr}{t:TT}(h:PW X e t):PT X e t:=h _
noncomputable def PA (X:Cx)(es:WX)(t:TA):Prop:=
 ∀(pos:Pos)(pins:WD)(s:Shared)(U:St)(H:Hp)(Q:List V->Hp->Prop),Inv X pins U H s->t U H Q->wpAny (model X.prog X.w) X.A (spliced (backTo pos (starEach es X.env))) (AP X pins U Q) X.xe s
noncomputable def PS (X:Cx)(st:Stmt)(t:TS):Prop:=
 ∀(pins:WD)(s:Shared)(U:St)(H:Hp)(D:Ends),Inv X pins U H s->t D U H->wpAny (model X.prog X.w) X.A (exec st X.env) (SP X pins D) X.xe s
noncomputable def kT (X:Cx)(st:WY)(t:TS):Prop:=
 ∀(pins:WD)(s:Shared)(U:St)(H:Hp)(D:Ends),Inv X pins U H s->t D U H->wpAny (model X.prog X.w) X.A (execs st X.env) (SP X pins D) X.xe s
def aH{α:Type}{t:Sem α}{Q Q':α->Shared->Prop}{M:Model}{A:Around}{E:WA}{s:Shared}(h:wpAny M A t Q E s)(hQ:∀a s,Q a s->Q' a s):wpAny M A t Q' E s:=Ra h hQ λ_ _ x=>x
section
variable{X:Cx}
inductive Io(i:Nat)(U:St)(H:Hp)(Q:VK):Prop
 |mk:∀v,(U[i]?=some (some v))->(Q v H)->Io i U H Q
def lK (i:Nat):TE:=λU H Q=>Io i U H Q
def tC (v:V):TE:=λ_ H Q=>Q v H
def fK{i:Nat}{x:Str}{pos:Pos}(hN:X.N[i]?=some x)(hv:j8 X.env.scope x)(hd:(x==("__debug__":Str))=false:=by decide)(hcd:(x==("__classdict__":Str))=false:=by decide):PE X (.Name x pos) (lK i):=by intro pins s U H Q I h;obtain⟨v,e,h⟩:=h;obtain⟨m,hn,hl⟩:=I.loc;obtain⟨u,r,l⟩:=hl i x v hN e hv;have fin:EP X pins U Q u s:=⟨v,H,I,r,h⟩;rcases l with⟨hk,hm⟩|⟨hk,c,hc,hcell⟩;{exact wpAny_Name (wpAny_loadName_local I.ok.kind hk hn hm fin) hd};rcases hk with hk|hk;{exact wpAny_Name (wpAny_loadName_cell I.ok.kind hk hc hcell fin) hd};exact wpAny_Name (wpAny_loadName_free I.ok.kind hk hc hcell fin hcd) hd
def kg{i j pos}:PE X (.Constant (.int i) j pos) (tC (.int i)):=λ_ _ _ H _ I h=>wpAny_Constant_int ⟨.int i,H,I.tok _,⟨_,rfl⟩,h⟩
def Oe{b j pos}:PE X (.Constant (.bool b) j pos) (tC (.bl b)):=λ_ _ _ H _ I h=>Constant_bool ⟨.bl b,H,I,rfl,h⟩
def sR{j pos}:PE X (.Constant .none j pos) (tC .aK):=λ_ _ _ H _ I h=>Constant_none ⟨.aK,H,I,rfl,h⟩
def jr{x j pos}:PE X (.Constant (.str x) j pos) (tC (.str x)):=λ_ _ _ H _ I h=>Calls.Constant_str ⟨.str x,H,I.tok _,⟨_,rfl⟩,h⟩
def Gl (X:Cx) (x:Str):Prop:=X.env.kindOf x=some .globalImplicit
def iR{E:WA}{pins:WD}{s:Shared}{U:St}{H:Hp}{x:Str}{u:Value}{pos:Pos}{Q:WA}(I:Inv X pins U H s)(hg:Gl X x)(hm:X.mg x=some u)(h:Q u s)(hd:(x==("__debug__":Str))=false:=by decide):wpAny (model X.prog X.w) X.A (eval (.Name x pos) X.env) Q E s:=
 Calls.Name_function_global I.ok.kind hg (Calls.loadGlobal_global (by rw[I.ok.glob];exact I.mod.glob.keeps I.bk) hm h) hd
def kh{E:WA}{pins:WD}{s:Shared}{U:St}{H:Hp}{x:Str}{u:Value}{pos:Pos}{Q:WA}(I:Inv X pins U H s)(hg:Gl X x)(hm:X.mg x=none)(hv:bootBuiltins x=some u)(h:Q u s)(hn:x≠"__name__":=by decide)(hd:(x==("__debug__":Str))=false:=by decide):wpAny (model X.prog X.w) X.A (eval (.Name x pos) X.env) Q E s:=by obtain⟨mb,h1,h2⟩:=I.mod.blt;exact Calls.Name_function_global I.ok.kind hg (Calls.loadGlobal_builtin (by rw[I.ok.glob];exact I.mod.glob.keeps I.bk) hm (by rw[I.ok.blt];exact h1.keeps I.bk) ((h2 x hn).trans hv) h) hd
def tT{x:Str}{v:V}{u:Value}{pos:Pos}(hg:Gl X x)(hm:X.mg x=some u)(r:RelV v u)(hd:(x==("__debug__":Str))=false:=by decide):PE X (.Name x pos) (tC v):=
 λ_ _ _ H _ I h=>iR I hg hm ⟨v,H,I,r,h⟩ hd
def JB{x:Str}{v:V}{u:Value}{pos:Pos}(hg:Gl X x)(hm:X.mg x=none)(hv:bootBuiltins x=some u)(r:RelV v u)(hn:x≠"__name__":=by decide)(hd:(x==("__debug__":Str))=false:=by decide):PE X (.Name x pos) (tC v):=
 λ_ _ _ H _ I h=>kh I hg hm hv ⟨v,H,I,r,h⟩ hn hd
variable{a b:Expr}{ta tb:TE}{pos:Pos}
inductive O8(Q:(Bool->Hp->Prop)) (x:V)(H1:Hp):Prop
 |mk:∀c,(x=.bl c)->(Q c H1)->O8 Q x H1
def tB (t:TE):TT:=λU H Q=>t U H λx H1=>O8 Q x H1
def xJ{e:Expr}{t:TE}(h:PE X e t)(he:∀whole,isTrue e X.env whole=(do let v <-whole;standAt e.pos;holding [v] (truthy v)):=by intro _;rfl):PT X e (tB t):=by intro pins s U H Q I hw;refine isTrue_plain (aH (h pins s U H _ I hw) λv s1 ⟨x,H1,I1,r1,q1⟩=>?_) (he _);obtain⟨d,rfl,q⟩:=q1;cases r1;exact TZ ⟨H1,I1,q⟩
variable{tA tB':TT}{rest:WX}
noncomputable def P9 (t u:TT):TT:=λU H Q=>t U H λc H1=>if c=true then u U H1 Q else Q false H1
noncomputable def Qq (t u:TT):TT:=λU H Q=>t U H λc H1=>if c=true then Q true H1 else u U H1 Q
def P5 (t:TT):TT:=λU H Q=>t U H λc H1=>Q (!c) H1
def pw_and1(ha:PT X a tA):PW X (.BoolOp .And [a] pos) tA:=by
 intro wh pins s U H Q I h;refine isTrue_and (aH (ha pins s U H Q I h) λc s1 e=>?_);cases c with
 |true=>exact isTrue_and_nil e
 |false=>exact e
def pw_or1(ha:PT X a tA):PW X (.BoolOp .Or [a] pos) tA:=by
 intro wh pins s U H Q I h;refine isTrue_or (aH (ha pins s U H Q I h) λc s1 e=>?_);cases c with
 |false=>exact isTrue_or_nil e
 |true=>exact e
def pw_and(ha:PT X a tA)(hb:PW X (.BoolOp .And (b::rest) pos) tB'):PW X (.BoolOp .And (a::b::rest) pos) (P9 tA tB'):=by
 intro wh pins s U H Q I h;refine isTrue_and (aH (ha pins s U H _ I h) λc s1 ⟨H1,I1,q1⟩=>?_);cases c with
 |true=>exact hb wh pins s1 U H1 Q I1 q1
 |false=>exact⟨H1,I1,q1⟩
def pw_or(ha:PT X a tA)(hb:PW X (.BoolOp .Or (b::rest) pos) tB'):PW X (.BoolOp .Or (a::b::rest) pos) (Qq tA tB'):=by
 intro wh pins s U H Q I h;refine isTrue_or (aH (ha pins s U H _ I h) λc s1 ⟨H1,I1,q1⟩=>?_);cases c with
 |true=>exact⟨H1,I1,q1⟩
 |false=>exact hb wh pins s1 U H1 Q I1 q1
def Fc(ha:PT X a tA):PT X (.UnaryOp .Not a pos) (P5 tA):=by intro pins s U H Q I h;exact isTrue_not (ha pins s U H (λc H1=>Q (!c) H1) I h)
end
noncomputable def bQ (K:WJ)(H:Hp)(a:Addr)(xs:List V):Prop:=
 Rd H a (.lst xs) \/
  ∃(o:Obj)(its:WM) (n:Nat),K.lookup a=some o/\o.cls=.type "list"/\o.dict=none/\o.data=.seq its n/\its.size<=sizeLine/\Vals xs its.toList
noncomputable def bI (K:WJ)(H:Hp)(a:Addr)(xs:List V):Prop:=
 Rd H a (.tup xs) \/
  ∃(o:Obj)(its:WM) (n:Nat),K.lookup a=some o/\o.cls=.type "tuple"/\o.data=.seq its n/\its.size<=sizeLine/\Vals xs its.toList
noncomputable def PR:Value->Option V
 |.none=>some .aK
 |.bool b=>some (.bl b)
 |.int i _=>some (.int i)
 |.str x _=>some (.str x)
 |.bytes b _=>some (.kU b)
 |.float b _=>some (.oV b)
 |.ref a=>some (.ref a)
 |.type n=>some (.ty n)
 |_=>none
def RelV.abs{x:V}{u:Value}(r:RelV x u):PR u=some x:=by
 cases x with
 |aK=>cases r;rfl
 |bl _=>cases r;rfl
 |int _=>obtain⟨t,rfl⟩:=r;rfl
 |str _=>obtain⟨t,rfl⟩:=r;rfl
 |kU _=>obtain⟨t,rfl⟩:=r;rfl
 |oV _=>obtain⟨t,rfl⟩:=r;rfl
 |ref _=>cases r;rfl
 |ty _=>cases r;rfl
theorem RelV.inj{x y:V}{u:Value}(r:RelV x u)(q:RelV y u):x=y:=Option.some.inj (r.abs.symm.trans q.abs)
theorem Vals.inj{xs ys:List V}{us:WQ}(h:Vals xs us)(h':Vals ys us):xs=ys:=by
 induction h generalizing ys with
 |nil=>cases h';rfl
 |cons r t ih=>cases h' with|cons r' t'=>rw[r.inj r',ih t']
section
variable{X:Cx}{pins:WD}{U:St}{H:Hp}{s:Shared}{a:Addr}{xs ys:List V}
def bQ.of{K:WJ}(h:H a=some (.lst xs)):bQ K H a xs:=.inl (.inl h)
def bI.of{K:WJ}(h:H a=some (.tup xs)):bI K H a xs:=.inl (.inl h)
def Inv.list(I:Inv X pins U H s)(h:bQ X.K H a xs):∃its:WQ,Vals xs its/\PlainL s.heap a its.toArray/\xs.length<=sizeLine:=by rcases h with h|⟨o,its,n,hk,hc,hd,hs,hz,r⟩;{obtain⟨z,its,n,r,e⟩:=h.ok I.hok;exact⟨its,r,⟨_,n,e,rfl,rfl,rfl⟩,z⟩};refine⟨its.toList,r,⟨o,n,I.fT a o hk,hc,hd,by simpa using hs⟩,?_⟩;have e:=r.length;simp only[RQ]at e;lia
def Inv.tuple(I:Inv X pins U H s)(h:bI X.K H a xs):∃its:WQ,Vals xs its/\IsTup s.heap a its.toArray/\xs.length<=sizeLine:=by rcases h with h|⟨o,its,n,hk,hc,hs,hz,r⟩;{obtain⟨z,its,r,p⟩:=h.ok I.hok;exact⟨its,r,p,z⟩};refine⟨its.toList,r,⟨o,I.fT a o hk,hc,n,by simpa using hs⟩,?_⟩;have e:=r.length;simp only[RQ]at e;lia
def Inv.za(I:Inv X pins U H s)(h:bQ X.K H a xs)(h':bQ X.K H a ys):xs=ys:=by
 obtain⟨its,r,⟨o,n,e,_,_,d⟩,_⟩:=I.list h;obtain⟨its',r',⟨o',n',e',_,_,d'⟩,_⟩:=I.list h';rw[e]at e';cases e';rw[d]at d';injection d' with d1 _;have:its=its':=by simpa using congrArg Array.toList d1
 subst this;exact r.inj r'
def Inv.EW(I:Inv X pins U H s)(h:bI X.K H a xs)(h':bI X.K H a ys):xs=ys:=by
 obtain⟨its,r,⟨o,e,_,n,d⟩,_⟩:=I.tuple h;obtain⟨its',r',⟨o',e',_,n',d'⟩,_⟩:=I.tuple h';rw[e]at e';cases e';rw[d]at d';injection d' with d1 _;have:its=its':=by simpa using congrArg Array.toList d1
 subst this;exact r.inj r'
end
section
variable{X:Cx}{st:Stmt}{rest:WY}{t u:TS}{e:Expr}{te:TE}{pos:Pos}
def OG:TS:=λD U H=>D.nx U H
def PN (t u:TS):TS:=λD U H=>t { D with nx:=u D } U H
def j4:kT X [] OG:=λ_ _ U H _ I h=>UE ⟨U,H,I,h⟩
def cg(h1:PS X st t)(h2:kT X rest u):kT X (st::rest) (PN t u):=by
 intro pins s U H D I h;refine wpAny_execs_cons (aH (h1 pins s U H { D with nx:=u D } I h) λf s1 q=>?_);cases f with
 |next=>obtain⟨σ',H',I',q⟩:=q;exact h2 pins s1 σ' H' D I' q
 |ret v=>exact q
 |brk=>exact q
 |cont=>exact q
def bN(h1:PS X st t):kT X [st] t:=by
 intro pins s U H D I h;refine wpAny_execs_cons (aH (h1 pins s U H D I h) λf s1 q=>?_);cases f with
 |next=>exact UE q
 |ret v=>exact q
 |brk=>exact q
 |cont=>exact q
def Inv.quiet{pins:WD}{U:St}{H:Hp}{s:Shared}(I:Inv X pins U H s):interactive X.env=false:=by simp[interactive,I.ok.kind]
def NZ (te:TE):TS:=λD U H=>te U H λ_ H1=>D.nx U H1
def uo(he:PE X e te)(hs:swapsWith e none pos.line X.env=pure false:=by rfl):PS X (.Expr e pos) (NZ te):=by intro pins s U H D I h;exact wpAny_Expr_any (aH (he pins s U H _ I h) λv s1 ⟨x,H1,I1,r1,q1⟩=>⟨U,H1,I1,q1⟩) I.quiet hs
def PY (te:TE):TS:=λD U H=>te U H D.rt
def pM(he:PE X e te):PS X (.Return (some e) pos) (PY te):=by intro pins s U H D I h;exact wpAny_Return_some (aH (he pins s U H _ I h) λv s1 ⟨x,H1,I1,r1,q1⟩=>⟨x,U,H1,I1,r1,q1⟩)
noncomputable def PK (c:TT)(t u:TS):TS:=λD U H=>c U H λb H1=>if b=true then t D U H1 else u D U H1
def jV{c:Expr}{a b:WY}{tc:TT}(hc:PT X c tc)(ha:kT X a t)(hb:kT X b u):PS X (.If c a b pos) (PK tc t u):=by
 intro pins s U H D I h;refine wpAny_If (aH (hc pins s U H _ I h) λd s1 ⟨H1,I1,q1⟩=>?_);cases d with
 |true=>exact ha pins s1 U H1 D I1 q1
 |false=>exact hb pins s1 U H1 D I1 q1
end
abbrev TG:=V->St->Hp->(St->Hp->Prop)->Prop
abbrev qy:=List V->St->Hp->(St->Hp->Prop)->Prop
noncomputable def PG (X:Cx)(target:Expr)(t:TG):Prop:=
 ∀(pins:WD)(s:Shared)(U:St)(H:Hp) (v:V)(u:Value)(Q:St->Hp->Prop),Inv X pins U H s->RelV v u->t v U H Q->
  wpAny (model X.prog X.w) X.A (assign target X.env u) (λ_ s'=>∃σ' H',Inv X pins σ' H' s'/\Q σ' H') X.xe s
noncomputable def EA (X:Cx)(ts:WX)(t:qy):Prop:=
 ∀(pins:WD)(s:Shared)(U:St)(H:Hp)(vs:List V)(us:WQ)(Q:St->Hp->Prop),Inv X pins U H s->Vals vs us->t vs U H Q->
  wpAny (model X.prog X.w) X.A (assignInOrder ((assignEach ts X.env).map (·.2)) us) (λ_ s'=>∃σ' H',Inv X pins σ' H' s'/\Q σ' H') X.xe s
abbrev BS:=V->V->V->Hp->(Hp->Prop)->Prop
noncomputable def GG (X:Cx)(t:BS):Prop:=
 ∀(pins:WD)(s:Shared)(U:St)(H:Hp) (o i v:V)(ov iv u:Value)(Q:Hp->Prop),Inv X pins U H s->RelV o ov->RelV i iv->RelV v u->t o i v H Q->
  wpAny (model X.prog X.w) X.A (setItem ov iv u) (λ_ s'=>∃H',Inv X pins U H' s'/\Q H') X.xe s
section
variable{X:Cx}{pos:Pos}
def kX (i:Nat):TG:=λv U H Q=>Q (U.set i (some v)) H
def p9{i:Nat}{x:Str}(hN:X.N.Nodup)(hi:X.N[i]?=some x)(hx:Loc X.env.scope x)(hf:X.fn x=true\/X.env.scope.names.lookup x=some .local:=by first|exact .inl rfl|exact .inr rfl|assumption):PG X (.Name x pos) (kX i):=by intro pins s U H v u Q I r h;exact wpAny_assign_Name (m9 I hN hi hx r (λs' I'=>⟨_,H,I',h⟩) hf)
def Nb:qy:=λvs U H Q=>vs=[]/\Q U H
inductive Dd(t:TG)(u:qy)(vs:List V)(U:St)(H:Hp)(Q:(St->Hp->Prop)):Prop
 |mk:∀v r,(vs=v::r)->(t v U H λσ' H'=>u r σ' H' Q)->Dd t u vs U H Q
def IJ (t:TG)(u:qy):qy:=λvs U H Q=>Dd t u vs U H Q
def zC:EA X [] Nb:=by intro pins s U H vs us Q I r h;obtain⟨e,h⟩:=h;subst e;cases r;exact assignInOrder_nil ⟨U,H,I,h⟩
def qE{e:Expr}{es:WX}{t:TG}{u:qy}(h1:PG X e t)(h2:EA X es u)(hs:(assignEach (e::es) X.env).map (·.2)=assign e X.env::(assignEach es X.env).map (·.2):=by rfl):EA X (e::es) (IJ t u):=by
 intro pins s U H vs us Q I r h;obtain⟨v,vr,e1,h⟩:=h;subst e1;cases r with
 |cons r rr=>rw[hs];refine assignInOrder_cons (aH (h1 pins s U H _ _ _ I r h) λ_ s1 ⟨σ1,H1,I1,q1⟩=>?_);exact h2 pins s1 σ1 H1 _ _ Q I1 rr q1
inductive Ia(K:WJ) (n:Nat)(t:qy) (v:V)(U:St)(H:Hp)(Q:(St->Hp->Prop)):Prop
 |mk:∀a xs,(v=.ref a)->(bI K H a xs)->(xs.length=n)->(t xs U H Q)->Ia K n t v U H Q
def cY (K:WJ) (n:Nat)(t:qy):TG:=λv U H Q=>Ia K n t v U H Q
def Dc{es:WX}{k:Nat}{t:qy}{n:Nat}(hc:X.calm=true)(h:EA X es t)(hn:(assignEach es X.env).length=n:=by rfl)(hst:(assignEach es X.env).findIdx? (·.1)=none:=by rfl):PG X (.Tuple es k pos) (cY X.K n t):=by intro pins s U H v u Q I r hw;obtain⟨a,xs,e1,hq,hl,hw⟩:=hw;subst e1;cases r;obtain⟨its,rv,ht,hz⟩:=I.tuple hq;refine assign_Tuple_tuple (I.ok.hd hc) ht (by simp[hn,<-hl,rv.length]) hst λh' hx=>?_;have I1:Inv X pins U H { s with heap:=h' }:=I.kept (t':=s.toks) λb o e=>hx b o (RH (QT e)) e;exact h pins _ U H xs _ Q I1 (by simpa using rv) hw
noncomputable def i7 (to ti:TE)(t:BS):TG:=λv U H Q=>to U H λo H1=>ti U H1 λi H2=>t o i v H2 λH3=>Q U H3
def Ld{o i:Expr}{to ti:TE}{t:BS}(ho:PE X o to)(hi:PE X i ti)(hs:GG X t)
  (ha:∀v,assign (.Subscript o i pos) X.env v=(do
   let ov <-holding [v] (eval o X.env)
   let iv <-holding [v,ov] (eval i X.env)
   standAt pos
   holding [v,ov,iv] (setItem ov iv v)
   release [v,ov,iv] []):=by intro _;rfl):PG X (.Subscript o i pos) (i7 to ti t):=by
 intro pins s U H v u Q I r h;rw[ha];refine Q0 (Rb (aH (ho pins s U H _ I h) λov s1 ⟨x,H1,I1,r1,q1⟩=>?_))
 refine Q0 (Rb (aH (hi pins s1 U H1 _ I1 q1) λiv s2 ⟨y,H2,I2,r2,q2⟩=>?_))
 refine Q0 (Sh (Q0 (Rb (aH (hs pins s2 U H2 x y v ov iv u _ I2 r1 r2 r q2) λ_ s3 ⟨H3,I3,q3⟩=>?_))))
 exact wpAny_release ⟨U,H3,I3,q3⟩
def Gk (te:TE)(g:TG):TS:=λD U H=>te U H λx H1=>g x U H1 D.nx
def Dt{tg e:Expr}{te:TE}{g:TG}(he:PE X e te)(hg:PG X tg g)(hs:swapsWithSole [tg] e pos.line X.env=pure false:=by rfl)(hw:swappedStores [tg] e X.env=pure none:=by rfl)(h1:(assignEach [tg] X.env).map (·.2)=[assign tg X.env]:=by rfl):PS X (.Assign [tg] e pos) (Gk te g):=by intro pins s U H D I h;refine wpAny_Assign_stores (aH (he pins s U H _ I h) λv s1 ⟨x,H1,I1,r1,q1⟩=>?_) hs hw;rw[h1];exact aH (hg pins s1 U H1 x v _ I1 r1 q1) λ_ s2 q=>q
def fX{i:Nat}{x:Str}{e:Expr}{te:TE}{pos':Pos}(hN:X.N.Nodup)(hi:X.N[i]?=some x)(hx:Loc X.env.scope x)(he:PE X e te)(hs:swapsWith e (some (.Name x pos')) pos.line X.env=pure false:=by rfl)(hf:X.fn x=true\/X.env.scope.names.lookup x=some .local:=by first|exact .inl rfl|exact .inr rfl|assumption) : PS X (.Assign [.Name x pos'] e pos) (Gk te (kX i)):=by intro pins s U H D I h;refine wpAny_Assign_Name (aH (he pins s U H _ I h) λv s1 ⟨y,H1,I1,r1,q1⟩=>?_) hs;exact m9 I1 hN hi hx r1 (λs2 I2=>⟨_,H1,I2,q1⟩) hf
end
section
variable{X:Cx}{pos:Pos}
noncomputable def Nq (c:TT)(tb:TS):TS:=λD U H=>∃W:Nat->St->Hp->Prop,(∃m,W m U H)/\∀m U H,W m U H->
 c U H λb H1=>if b=true then ∃N:St->Hp->Prop,(∀σ' H',N σ' H'->∃m',m'<m/\W m' σ' H')/\tb { D with nx:=N,ct:=N,bk:=D.nx } U H1 else D.nx U H1
def F9{c:Expr}{body:WY}{tc:TT}{tb:TS}(hp:PassesOwn (model X.prog X.w) X.A X.env X.xe)(hc:PT X c tc)(hb:kT X body tb):PS X (.While c body [] pos) (Nq tc tb):=by
 intro pins s U H D I h;obtain⟨W,⟨m0,w0⟩,turn⟩:=h;refine wpAny_While (codeAny_whileLoop (λn s'=>∃σ' H',Inv X pins σ' H' s'/\W n σ' H') ?_ m0 ⟨U,H,I,w0⟩);rintro n s1⟨σ1,H1,I1,w1⟩;refine Tc hp (aH (hc pins s1 σ1 H1 _ I1 (turn n σ1 H1 w1)) λb s2 ⟨H2,I2,q2⟩=>?_);cases b with
 |true=>
  obtain⟨N,hN,q2⟩:=q2;rw[if_pos rfl];refine Tc hp (aH (hb pins s2 σ1 H2 _ I2 q2) λf s3 q3=>?_);cases f with
  |next=>obtain⟨σ3,H3,I3,n3⟩:=q3;obtain⟨m',hm,w3⟩:=hN σ3 H3 n3;exact⟨m',hm,σ3,H3,I3,w3⟩
  |cont=>obtain⟨σ3,H3,I3,n3⟩:=q3;obtain⟨m',hm,w3⟩:=hN σ3 H3 n3;exact⟨m',hm,σ3,H3,I3,w3⟩
  |brk=>exact q3
  |ret v=>exact q3
 |false=>rw[if_neg QV];exact UE ⟨σ1,H2,I2,q2⟩
end
structure It where
 go:Nat->Hp->Prop
 pN:Nat->Hp->V->Hp->Prop
 stop:Nat->Hp->Prop
noncomputable def iW (X:Cx)(pins:WD)(H:Hp)(b:Addr):Prop:=
 H b=none/\b≠X.env.locals/\b∉X.fs/\(b∈X.ex\/X.s₀.heap.objs.size<=b)/\(∀x c,X.env.cells.lookup x=some c->c≠b)/\∀p∈X.pn++pins,p.1≠b
def Inv.uK{X:Cx}{pins:WD}{U:St}{H H':Hp}{s:Shared}{b:Addr}(I:Inv X pins U H s)(hb:s.heap.objs.size<=b)(hn:H' b=none):iW X pins H' b:=by refine⟨hn,UG (RL I.lt hb),I.MZ hb,.inr (RM I.sz hb),λx c e z=>?_,λp hp z=>?_⟩;{obtain⟨v,q⟩:=I.cell x c e;exact absurd (RL q.lt (by rw[z];exact hb)) (Ro _)};exact absurd (RL (QT (I.pin p hp).1) (by rw[z];exact hb)) (Ro _)
structure Turn(P:Program)(w:World)(K:WJ)(tg:Expr)(J:It)(fp:WU)(it:Addr)(tn:Nat->Heap->Prop):Prop where
 mem:it∈fp
 obj:∀i h,tn i h->∀b∈fp,∃o,h.get? b=some o/\∀v,o.data≠.cell v
 keep:∀i h h',tn i h->(∀b∈fp,∀o,h.get? b=some o->h'.get? b=some o)->tn i h'
 item:∀(X:Cx),X.prog=P->X.w=w->X.K=K->X.calm=true->∀(i:Nat)(pins:WD)(s:Shared)(U:St)(H:Hp)(E:WA),Inv X pins U H s->(∀b∈fp,iW X pins H b)->tn i s.heap->J.go i H->
  wpAny (model P w) X.A (pyNext (.ref it)) (λr s1=>∃u,r=some u /\
   wpAny (model P w) X.A (letOwnedTupleGo tg (.ref it) u) (λ_ s2=>∃x H',Inv X pins U H' s2/\RelV x u/\J.pN i H x H'/\tn (i+1) s2.heap/\∀b∈fp,H' b=none) E s1) E s
 done:∀(X:Cx),X.prog=P->X.w=w->X.K=K->X.calm=true->∀(i:Nat)(pins:WD)(s:Shared)(U:St)(H:Hp)(E:WA),Inv X pins U H s->(∀b∈fp,iW X pins H b)->tn i s.heap->J.stop i H->
  wpAny (model P w) X.A (pyNext (.ref it)) (λr s1=>r=none/\Inv X pins U H s1) E s
 self:∀(A:Around) (i:Nat)(s:Shared)(Q:WA)(E:WA),tn i s.heap->Q (.ref it) s->wpAny (model P w) A (pyIter (.ref it)) Q E s
abbrev TI:=St->Hp->(It->Hp->Prop)->Prop
noncomputable def IY (X:Cx)(pins:WD)(U:St)(tg:Expr)(R:It->Hp->Prop)(itv:Value)(s2:Shared):Prop:=
 ∃(it:Addr)(fp:WU)(tn:Nat->Heap->Prop)(J:It)(H':Hp),itv=.ref it/\Inv X pins U H' s2/\Turn X.prog X.w X.K tg J fp it tn/\tn 0 s2.heap/\(∀b∈fp,iW X pins H' b)/\R J H'
noncomputable def PI (X:Cx)(tg iter:Expr)(wi:TI):Prop:=
 ∀(pins:WD)(s:Shared)(U:St)(H:Hp)(R:It->Hp->Prop),Inv X pins U H s->wi U H R->
  wpAny (model X.prog X.w) X.A (eval iter X.env) (λv s1=>wpAny (model X.prog X.w) X.A (pyIter v) (IY X pins U tg R) X.xe s1) X.xe s
def BK{M:Model}{A:Around}{E:WA}{s:Shared}{tg:Expr}{it:Addr}{u:Value}{o:Obj}{n:String}{vs:WM}{Q:Unit->Shared->Prop}(ho:s.heap.get? it=some o)(hc:o.cls=.type n)(hd:o.data=.fields vs)(hn:["enumerate","zip","dict_itemiterator","dict_reverseitemiterator","odict_iterator","itertools.zip_longest","itertools.pairwise"].contains n=false)(hQ:Q () s):wpAny M A (letOwnedTupleGo tg (.ref it) u) Q E s:=by
 unfold letOwnedTupleGo;cases tg<;>first
  |exact Q2 hQ
  | (cases u<;>first
    |exact Q2 hQ
    | (refine Q0 (wpAny_load ho ?_)
       rw[hc,hd];show wpAny M A (if(["enumerate","zip","dict_itemiterator","dict_reverseitemiterator","odict_iterator","itertools.zip_longest","itertools.pairwise"].contains n&&vs[0]? == some (rawInt _))=true then _ else _) Q E s
       rw[if_neg (by intro h;rw[hn,Bool.false_and]at h;cases h)]
       exact Q2 hQ))
noncomputable def vC (K:WJ)(a:Addr):It:=
 ⟨λi H=>∃xs x,bQ K H a xs/\xs[i]?=some x,λi H x H'=>H'=H/\∀xs,bQ K H a xs->xs[i]?=some x,λi H=>∃xs,bQ K H a xs/\xs.length<=i⟩
noncomputable def I0 (K:WJ)(a:Addr):It:=
 ⟨λi H=>∃xs x,bI K H a xs/\xs[i]?=some x,λi H x H'=>H'=H/\∀xs,bI K H a xs->xs[i]?=some x,λi H=>∃xs,bI K H a xs/\xs.length<=i⟩
noncomputable def Eo (lo:Int) (n:Nat):It:=⟨λi _=>i<n,λi H x H'=>H'=H/\x=.int (lo+i),λi _=>n<=i⟩
def vq{P:Program}{w:World}{K:WJ}{tg:Expr}(a it:Addr):Turn P w K tg (vC K a) [it] it (λi h=>h.IsListIter it a i) where
 mem:=by simp
 obj:=λi h st b hb=>by
  have e:b=it:=by simpa using hb
  subst e;obtain⟨o,e,c,d⟩:=st;exact⟨o,e,λv z=>by rw[d]at z;cases z⟩
 keep:=λi h h' st k=>st.at λo e=>k it (by simp) o e
 item:=by
  intro X hP hw hK hc i pins s U H E I hf st hg;subst hP hw hK;obtain⟨xs,x,hq,hx⟩:=hg;obtain⟨its,rv,p,hz⟩:=I.list hq;obtain⟨u,hu,ru⟩:=rv.get hx;obtain⟨f0,f1,f2,f3,f4,f5⟩:=hf it (by simp)
  refine wpAny_pyNext_list_item st p.isList (x:=u) (by simpa using hu) λh' st' sb=>?_
  have I1:Inv X pins U H { s with heap:=h' }:=I.turned (t':=s.toks) (λb o hb e=>(sb.2 b hb).trans e) f0 f1 f3 f4 f5
  obtain⟨o,e,c,d⟩:=id st';exact⟨u,rfl,BK (s:={ s with heap:=h' }) e c d (by decide) ⟨x,H,I1,ru,⟨rfl,λys hy=>by rw[I.za hy hq];exact hx⟩,st',λb hb=>(hf b hb).1⟩⟩
 done:=by
  intro X hP hw hK hc i pins s U H E I hf st hg;subst hP hw hK;obtain⟨xs,hq,hx⟩:=hg;obtain⟨its,rv,p,hz⟩:=I.list hq;obtain⟨f0,f1,f2,f3,f4,f5⟩:=hf it (by simp)
  have hl:=rv.length;exact wpAny_pyNext_list_end (I.ok.hd hc) st p.isList (by simp;lia) λh' eb=>⟨rfl,I.turned (t':=s.toks) (λb o hb e=>eb b o hb e) f0 f1 f3 f4 f5⟩
 self:=λ_ _ _ _ _ st h=>wpAny_pyIter_listiter st h
def BY{P:Program}{w:World}{K:WJ}{tg:Expr}(a it:Addr):Turn P w K tg (I0 K a) [it] it (λi h=>h.IsTupleIter it a i) where
 mem:=by simp
 obj:=λi h st b hb=>by
  have e:b=it:=by simpa using hb
  subst e;obtain⟨o,e,c,d⟩:=st;exact⟨o,e,λv z=>by rw[d]at z;cases z⟩
 keep:=λi h h' st k=>st.at λo e=>k it (by simp) o e
 item:=by
  intro X hP hw hK hc i pins s U H E I hf st hg;subst hP hw hK;obtain⟨xs,x,hq,hx⟩:=hg;obtain⟨its,rv,p,hz⟩:=I.tuple hq;obtain⟨u,hu,ru⟩:=rv.get hx;obtain⟨f0,f1,f2,f3,f4,f5⟩:=hf it (by simp)
  refine wpAny_pyNext_tuple_item st (show s.heap.IsTuple a its.toArray from p) (x:=u) (by simpa using hu) λh' st' sb=>?_
  have I1:Inv X pins U H { s with heap:=h' }:=I.turned (t':=s.toks) (λb o hb e=>(sb.2 b hb).trans e) f0 f1 f3 f4 f5
  obtain⟨o,e,c,d⟩:=id st';exact⟨u,rfl,BK (s:={ s with heap:=h' }) e c d (by decide) ⟨x,H,I1,ru,⟨rfl,λys hy=>by rw[I.EW hy hq];exact hx⟩,st',λb hb=>(hf b hb).1⟩⟩
 done:=by
  intro X hP hw hK hc i pins s U H E I hf st hg;subst hP hw hK;obtain⟨xs,hq,hx⟩:=hg;obtain⟨its,rv,p,hz⟩:=I.tuple hq;obtain⟨f0,f1,f2,f3,f4,f5⟩:=hf it (by simp)
  have hl:=rv.length;exact wpAny_pyNext_tuple_end (I.ok.hd hc) st (show s.heap.IsTuple a its.toArray from p) (by simp;lia) λh' eb=>⟨rfl,I.turned (t':=s.toks) (λb o hb e=>eb b o hb e) f0 f1 f3 f4 f5⟩
 self:=λ_ _ _ _ _ st h=>wpAny_pyIter_tupleiter st h
def Br{P:Program}{w:World}{K:WJ}{tg:Expr}(it:Addr) (lo:Int) (n:Nat):Turn P w K tg (Eo lo n) [it] it (λi h=>IsRangeIter h it (lo+(i:Nat)*1) ((n:Int)-(i:Nat)) 1) where
 mem:=by simp
 obj:=λi h st b hb=>by
  have e:b=it:=by simpa using hb
  subst e;exact⟨_,st,λv z=>by
   have z':Data.fields _=Data.cell v:=z;cases z'⟩
 keep:=λi h h' st k=>k it (by simp) _ st
 item:=by
  intro X hP hw hK hc i pins s U H E I hf st hg;subst hP hw hK;obtain⟨f0,f1,f2,f3,f4,f5⟩:=hf it (by simp)
  have W:=Walks.range (prog:=X.prog) (w:=X.w) (I.ok.hd hc) it lo 1 n;refine W.item i s _ _ hg st λv h' tk hv st' kk=>?_
  obtain⟨t,rfl⟩:=hv;have I1:Inv X pins U H { s with heap:=h',toks:=tk }:=I.turned (λb o hb e=>kk b o (by simpa using hb) e) f0 f1 f3 f4 f5
  refine⟨_,rfl,BK (s:={ s with heap:=h',toks:=tk }) (n:="range_iterator") st' rfl rfl (by decide) ⟨.int (lo+i),H,I1,⟨t,?_⟩,⟨rfl,rfl⟩,st',λb hb=>(hf b hb).1⟩⟩
  rw[Int.mul_one]
 done:=by
  intro X hP hw hK hc i pins s U H E I hf st hg;subst hP hw hK;obtain⟨f0,f1,f2,f3,f4,f5⟩:=hf it (by simp)
  exact wpAny_pyNext_range_end (I.ok.hd hc) st (by have:n<=i:=hg;lia) λh' eb=>⟨rfl,I.turned (t':=s.toks) (λb o hb e=>eb b o hb e) f0 f1 f3 f4 f5⟩
 self:=λ_ _ _ _ _ st h=>wpAny_pyIter_rangeiter st h
section
variable{X:Cx}{tg:Expr}
inductive Ea(K:WJ)(R:(It->Hp->Prop)) (x:V)(H1:Hp):Prop
 |mk:∀a,(x=.ref a)->((∃xs,bQ K H1 a xs))->(R (vC K a) H1)->Ea K R x H1
def ON (K:WJ)(tl:TE):TI:=λU H R=>tl U H λx H1=>Ea K R x H1
def Kc{l:Expr}{tl:TE}(hl:PE X l tl):PI X tg l (ON X.K tl):=by
 intro pins s U H R I h;refine aH (hl pins s U H _ I h) λv s1 ⟨x,H1,I1,r1,q1⟩=>?_;obtain⟨a,e,⟨xs,hq⟩,q⟩:=q1;subst e;cases r1;obtain⟨its,rv,p,hz⟩:=I1.list hq;refine wpAny_pyIter_list p.isList ?_;refine⟨s1.heap.objs.size,[s1.heap.objs.size],_,_,H1,rfl,I1.kept (t':=s1.toks) λb o e=>QZ _ e,vq a _,⟨_,Rc _ rfl,rfl,rfl⟩,λb hb=>?_,q⟩;have e:b=s1.heap.objs.size:=by simpa using hb
 subst e;exact I1.uK (Q5 _) (I1.hok.fresh (Q5 _))
def wL{pins:WD}{U:St}{H:Hp}{s:Shared}{R:It->Hp->Prop}{E:WA}{lo hi:Int}{t u v:Tok}{tk:Nat}(I:Inv X pins U H s)(h1:-(2^62)<=lo)(h2:lo<2^62)(h3:-(2^62)<=hi)(h4:hi<2^62)(q:R (Eo lo (hi-lo).toNat) H):wpAny (model X.prog X.w) X.A (pyIter (.ref s.heap.objs.size)) (IY X pins U tg R) E { s with heap:=s.heap.push { cls:=.type "range",data:=.fields #[.int lo t,.int hi u,.int 1 v] },toks:=tk }:=by
 refine wpAny_pyIter_range (IsRange.new ..) (small_one h1 h2 h3 h4) ?_;have I1:Inv X pins U H { s with heap:=s.heap.push { cls:=.type "range",data:=.fields #[.int lo t,.int hi u,.int 1 v] },toks:=tk }:=I.kept λb o e=>QZ _ e;refine⟨(s.heap.push { cls:=.type "range",data:=.fields #[.int lo t,.int hi u,.int 1 v] }).objs.size,[(s.heap.push { cls:=.type "range",data:=.fields #[.int lo t,.int hi u,.int 1 v] }).objs.size],_,_,H,rfl,
  I1.kept (t':=tk) λb o e=>QZ _ e,Br _ lo (hi-lo).toNat,?_,λb hb=>?_,q⟩
 .have e1:lo+((0:Nat):Int)*1=lo:=by simp
  have e2:(((hi-lo).toNat:Nat):Int)-((0:Nat):Int)=Builtin.Range.rangeSize lo hi 1:=by rw[rangeSize_one];split<;>lia
  show IsRangeIter _ _ (lo+((0:Nat):Int)*1) ((((hi-lo).toNat:Nat):Int)-((0:Nat):Int)) 1;rw[e1,e2];exact Rc _ rfl
 have e:b=(s.heap.push { cls:=.type "range",data:=.fields #[.int lo t,.int hi u,.int 1 v] }).objs.size:=by simpa using hb
 subst e;exact I1.uK (Q5 _) (I1.hok.fresh (Q5 _))
inductive EC(R:(It->Hp->Prop))(vs:List V)(H1:Hp):Prop
 |mk:∀j:Int,(vs=[.int j])->(-(2^62)<=j)->(j<2^62)->(R (Eo 0 j.toNat) H1)->EC R vs H1
def NV (ta:TA):TI:=λU H R=>ta U H λvs H1=>EC R vs H1
inductive Ek(R:(It->Hp->Prop))(vs:List V)(H1:Hp):Prop
 |mk:∀i j:Int,(vs=[.int i,.int j])->((-(2^62)<=i/\i<2^62/\-(2^62)<=j/\j<2^62))->(R (Eo i (j-i).toNat) H1)->Ek R vs H1
def NJ (ta:TA):TI:=λU H R=>ta U H λvs H1=>Ek R vs H1
def Cw{a:Expr}{ta:TA}{p pos:Pos}(hg:Gl X "range")(hm:X.mg "range"=none)(ha:PA X [a] ta)(hs:starEach [a] X.env=[(false,eval a X.env)]:=by rfl):PI X tg (.Call (.Name "range" p) [a] [] pos) (NV ta):=by
 intro pins s U H R I h;refine Call_ (kh I hg hm boot_range (Uj (aH (ha pos pins s U H _ I h) λus s1 ⟨vs,H1,I1,r1,q1⟩=>?_) hs rfl));obtain⟨j,e,q1,q2,q⟩:=q1;subst e;cases r1 with
 |cons r rr=>cases rr;obtain⟨t,rfl⟩:=r;exact call_range_1 (wL I1 (by lia) (by lia) q1 q2 (by simpa using q))
def EZ{a b:Expr}{ta:TA}{p pos:Pos}(hg:Gl X "range")(hm:X.mg "range"=none)(ha:PA X [a,b] ta)(hs:starEach [a,b] X.env=[(false,eval a X.env),(false,eval b X.env)]:=by rfl)(hs2:starEach [b] X.env=[(false,eval b X.env)]:=by rfl) : PI X tg (.Call (.Name "range" p) [a,b] [] pos) (NJ ta):=by
 intro pins s U H R I h;refine Call_ (kh I hg hm boot_range (Uj (aH (ha pos pins s U H _ I h) λus s1 ⟨vs,H1,I1,r1,q1⟩=>?_) (by rw[hs,hs2]) (by rw[hs2];rfl)));obtain⟨i,j,e,⟨q1,q2,q3,q4⟩,q⟩:=q1;subst e;cases r1 with
 |cons r rr=>
  cases rr with
  |cons r' rr=>cases rr;obtain⟨t,rfl⟩:=r;obtain⟨t',rfl⟩:=r';exact call_range_2 (wL I1 q1 q2 q3 q4 q)
noncomputable def Pw (wi:TI)(g:TG)(tb:TS):TS:=λD U H=>wi U H λJ H1=>∃W:Nat->Nat->St->Hp->Prop,(∃m,W 0 m U H1)/\∀i m U H,W i m U H->
 (J.stop i H/\D.nx U H)\/(J.go i H/\∃N:St->Hp->Prop,(∀σ' H',N σ' H'->∃m',m'<m/\W (i+1) m' σ' H')/\∀x H',J.pN i H x H'->g x U H' λσ2 H2=>tb { D with nx:=N,ct:=N,bk:=D.nx } σ2 H2)
noncomputable def kF (fp:WU)(h:Heap):WD:=fp.filterMap λb=>(h.get? b).map λo=>(b,o)
def jR{fp:WU}{h:Heap}{b:Addr}{o:Obj}(hb:b∈fp)(e:h.get? b=some o):(b,o)∈kF fp h:=Uk.mpr ⟨b,hb,by rw[e];rfl⟩
def vp{fp:WU}{h:Heap}{p:Addr×Obj}(hp:p∈kF fp h):p.1∈fp/\h.get? p.1=some p.2:=by
 obtain⟨b,hb,e⟩:=Uk.mp hp;cases q:h.get? b with
 |none=>rw[q]at e;cases e
 |some o=>rw[q]at e;have e':(b,o)=p:=Option.some.inj e;subst e';exact⟨hb,q⟩
def Inv.pinned{pins:WD}{U:St}{H:Hp}{s:Shared}{fp:WU}(I:Inv X pins U H s)(hf:∀b∈fp,iW X pins H b)(ho:∀b∈fp,∃o,s.heap.get? b=some o/\∀v,o.data≠.cell v):Inv X (pins++kF fp s.heap) U H s:=
 I.lT λp hp=>(R7.mp hp).elim (λz=>I.pin p (Rw _ z)) λz=>by obtain⟨hb,e⟩:=vp z;obtain⟨f0,f1,f2,_⟩:=hf p.1 hb;obtain⟨o,e',d⟩:=ho p.1 hb;rw[e]at e';cases e';exact⟨e,f0,f1,f2,d⟩
def Inv.rj{pins pl:WD}{U:St}{H:Hp}{s:Shared}(I:Inv X (pins++pl) U H s):Inv X pins U H s:=I.lT λp hp=>I.pin p (Rw _ (Ui _ hp))
def ED{iter:Expr}{body:WY}{wi:TI}{g:TG}{tb:TS}{pos:Pos}(hp:PassesOwn (model X.prog X.w) X.A X.env X.xe)(hc:X.calm=true)(hi:PI X tg iter wi)(hg:PG X tg g)(hb:kT X body tb)(hs:∀x,foldedSetIterable iter X.env x=pure x:=by intro _;rfl):PS X (.For tg iter body [] pos) (Pw wi g tb):=by
 intro pins s U H D I h;refine wpAny_For (aH (hi pins s U H _ I h) λv s1 h1=>aH h1 λitv s2 h2=>?_) hs
 obtain⟨it,fp,tn,J,H2,e,I2,T,st2,f2,W,⟨m0,w0⟩,turn⟩:=h2;subst e
 -- what stays true of the iterator's objects through the loop
 have stat:∀{H':Hp},(∀b∈fp,H' b=none)->∀b∈fp,iW X pins H' b:=λhn b hb=>⟨hn b hb,(f2 b hb).2⟩
 refine codeAny_forLoop_any (λn s'=>∃i σ' H',Inv X pins σ' H' s'/\tn i s'.heap/\(∀b∈fp,H' b=none)/\W i n σ' H') ?_ m0 ⟨0,U,H2,I2,st2,λb hb=>(f2 b hb).1,w0⟩
 rintro n s3⟨i,σ3,H3,I3,st3,fr3,w3⟩;rcases turn i n σ3 H3 w3 with⟨stop,qn⟩|⟨go,N,hN,step⟩
 .refine Tc hp (aH (T.done X rfl rfl rfl hc i pins s3 σ3 H3 X.xe I3 (stat fr3) st3 stop) λr s4 ⟨hr,I4⟩=>?_)
  subst hr;exact UE ⟨σ3,H3,I4,qn⟩
 .refine Tc hp (aH (T.item X rfl rfl rfl hc i pins s3 σ3 H3 X.xe I3 (stat fr3) st3 go) λr s4 ⟨u,hr,h4⟩=>?_)
  subst hr;refine Tc hp (aH h4 λ_ s5 ⟨x,H5,I5,r5,y5,st5,fr5⟩=>?_)
  have I5':=I5.pinned (stat fr5) (T.obj _ _ st5);refine Tc hp (aH (hg _ s5 σ3 H5 x u _ I5' r5 (step x H5 y5)) λ_ s6 ⟨σ6,H6,I6,q6⟩=>?_)
  refine Tc hp (aH (hb _ s6 σ6 H6 _ I6 q6) λf s7 q7=>?_)
  have again:∀{σ7:St}{H7:Hp},Inv X (pins++kF fp s5.heap) σ7 H7 s7->N σ7 H7->∃m,m<n/\∃i σ' H',Inv X pins σ' H' s7/\tn i s7.heap/\(∀b∈fp,H' b=none)/\W i m σ' H':=λ{σ7 H7} I7 n7=>by
   obtain⟨m',hm,w7⟩:=hN σ7 H7 n7;refine⟨m',hm,i+1,σ7,H7,I7.rj,T.keep _ _ _ st5 λb hb o e=>(I7.pin (b,o) (Rw _ (Rw _ (jR hb e)))).1,λb hb=>?_,w7⟩
   obtain⟨o,e,d⟩:=T.obj _ _ st5 b hb;exact(I7.pin (b,o) (Rw _ (Rw _ (jR hb e)))).2.1
  cases f with
  |next=>obtain⟨σ7,H7,I7,n7⟩:=q7;exact again I7 n7
  |cont=>obtain⟨σ7,H7,I7,n7⟩:=q7;exact again I7 n7
  |brk=>obtain⟨σ7,H7,I7,q7⟩:=q7;exact⟨σ7,H7,I7.rj,q7⟩
  |ret v=>obtain⟨x7,σ7,H7,I7,r7,q7⟩:=q7;exact⟨x7,σ7,H7,I7.rj,r7,q7⟩
end
def FJ{K:WJ}{a:Addr}{xs:List V}{g:TG}{tb:TS}{D:Ends}{U:St}{H:Hp}(Pv:Nat->St->Hp->Prop)(h0:Pv 0 U H)(hl:∀i U H,i<=xs.length->Pv i U H->bQ K H a xs)(hs:∀i x U H,xs[i]?=some x->Pv i U H->g x U H λσ2 H2=>tb { D with nx:=Pv (i+1),ct:=Pv (i+1),bk:=D.nx } σ2 H2)(hd:∀U H,Pv xs.length U H->D.nx U H) : ∃W:Nat->Nat->St->Hp->Prop,(∃m,W 0 m U H)/\∀i m U H,W i m U H->((vC K a).stop i H/\D.nx U H)\/((vC K a).go i H/\∃N:St->Hp->Prop,(∀σ' H',N σ' H'->∃m',m'<m/\W (i+1) m' σ' H')/\∀x H',(vC K a).pN i H x H'->g x U H' λσ2 H2=>tb { D with nx:=N,ct:=N,bk:=D.nx } σ2 H2):=by
 refine⟨λi m U H=>m=xs.length-i/\i<=xs.length/\Pv i U H,⟨xs.length,by simp,RO _,h0⟩,?_⟩;rintro i m U H⟨rfl,hi,p⟩;have q:=hl i U H hi p;by_cases hlt:i<xs.length;{refine .inr ⟨⟨xs,xs[i],q,by simp[hlt]⟩,Pv (i+1),λσ' H' p'=>⟨xs.length-(i+1),by lia,rfl,hlt,p'⟩,λx H' y=>?_⟩;obtain⟨e,y⟩:=y;subst e;exact hs i x U _ (y xs q) p};have e:i=xs.length:=by lia
 subst e;exact .inl ⟨⟨xs,q,Q5 _⟩,hd U H p⟩
abbrev R2:=V->V->Hp->VK->Prop
noncomputable def bC (X:Cx)(f:Value->Value->Sem Value)(r:R2):Prop:=
 ∀(pins:WD)(s:Shared)(U:St)(H:Hp) (x y:V)(v u:Value)(Q:VK),Inv X pins U H s->RelV x v->RelV y u->r x y H Q->
  wpAny (model X.prog X.w) X.A (f v u) (EP X pins U Q) X.xe s
noncomputable def IA (X:Cx)(f:Value->Sem Value)(r:V->Hp->VK->Prop):Prop:=
 ∀(pins:WD)(s:Shared)(U:St)(H:Hp) (x:V)(v:Value)(Q:VK),Inv X pins U H s->RelV x v->r x H Q->
  wpAny (model X.prog X.w) X.A (f v) (EP X pins U Q) X.xe s
noncomputable def cA (X:Cx)(f:Value)(r:List V->Hp->VK->Prop):Prop:=
 ∀(pins:WD)(s:Shared)(U:St)(H:Hp)(xs:List V)(us:WQ)(Q:VK),Inv X pins U H s->Vals xs us->r xs H Q->
  wpAny (model X.prog X.w) X.A (call f us) (EP X pins U Q) X.xe s
noncomputable def PF (X:Cx)(r:V->Hp->(Bool->Hp->Prop)->Prop):Prop:=
 ∀(pins:WD)(s:Shared)(U:St)(H:Hp) (x:V)(v:Value)(Q:Bool->Hp->Prop),Inv X pins U H s->RelV x v->r x H Q->
  wpAny (model X.prog X.w) X.A (truthy v) (TP X pins U Q) X.xe s
noncomputable def Hh (r:R2)(ta tb:TE):TE:=λU H Q=>ta U H λx H1=>tb U H1 λy H2=>r x y H2 Q
noncomputable def Qt (r:V->Hp->VK->Prop)(ta:TE):TE:=λU H Q=>ta U H λx H1=>r x H1 Q
inductive O9(C:Int->Int->Prop)(g:Int->Int->V) (x:V) (y:V)(H:Hp)(Q:VK):Prop
 |mk:∀i j,(x=.int i)->(y=.int j)->(C i j)->(Q (g i j) H)->O9 C g x y H Q
noncomputable def rI (C:Int->Int->Prop)(g:Int->Int->V):R2:=λx y H Q=>O9 C g x y H Q
inductive Lf(g:Int->Int->V) (x:V) (y:V)(H:Hp)(Q:VK):Prop
 |mk:∀i j,(x=.int i)->(y=.int j)->(Q (g i j) H)->Lf g x y H Q
def qA (g:Int->Int->V):R2:=λx y H Q=>Lf g x y H Q
inductive O1(g:Int->V) (x:V)(H:Hp)(Q:VK):Prop
 |mk:∀i,(x=.int i)->(Q (g i) H)->O1 g x H Q
def rU (g:Int->V):V->Hp->VK->Prop:=λx H Q=>O1 g x H Q
section
variable{X:Cx}{a b c:Expr}{ta tb tc:TE}{pos:Pos}
def FU(ha:PE X a ta)(hb:PE X b tb){pins:WD}{s:Shared}{U:St}{H:Hp}{R:V->V->Hp->Prop}(I:Inv X pins U H s)(h:ta U H λx H1=>tb U H1 λy H2=>R x y H2){Q:WA}{f:Value->Value->Sem Value}(hf:∀v u s2 x y H2,Inv X pins U H2 s2->RelV x v->RelV y u->R x y H2->wpAny (model X.prog X.w) X.A (f v u) Q X.xe s2) : wpAny (model X.prog X.w) X.A (eval a X.env) (λv s₁=>wpAny (model X.prog X.w) X.A (eval b X.env) (λu s₂=>wpAny (model X.prog X.w) X.A (f v u) Q X.xe s₂) X.xe s₁) X.xe s:=by refine aH (ha pins s U H _ I h) λv s1 ⟨x,H1,I1,r1,q1⟩=>?_;refine aH (hb pins s1 U H1 _ I1 q1) λu s2 ⟨y,H2,I2,r2,q2⟩=>?_;exact hf v u s2 x y H2 I2 r1 r2 q2
def NS{op:Operator}{r:R2}(ho:bC X (binaryOp op) r)(ha:PE X a ta)(hb:PE X b tb):PE X (.BinOp a op b pos) (Hh r ta tb):=by intro pins s U H Q I h;exact wpAny_BinOp (FU ha hb I h λv u s2 x y H2 I2 rx ry q=>ho pins s2 U H2 x y v u Q I2 rx ry q)
def Hq{op:UnaryOp}{r:V->Hp->VK->Prop}(ho:IA X (unaryOp op) r)(ha:PE X a ta):PE X (.UnaryOp op a pos) (Qt r ta):=by intro pins s U H Q I h;exact UnaryOp_ (aH (ha pins s U H _ I h) λv s1 ⟨x,H1,I1,r1,q1⟩=>ho pins s1 U H1 x v Q I1 r1 q1)
def Hi{f:Value->Value->Sem Value}{C:Int->Int->Prop}{g:Int->Int->Int}(rule:∀(i j:Int)(t u:Tok)(s:Shared)(Q:WA)(E:WA),C i j->Q (.int (g i j) s.toks) { s with toks:=s.toks+1 }->wpAny (model X.prog X.w) X.A (f (.int i t) (.int j u)) Q E s) : bC X f (rI C λi j=>.int (g i j)):=by intro pins s U H x y v u Q I rx ry h;obtain⟨i,j,rfl,rfl,hc,q⟩:=h;obtain⟨t,rfl⟩:=rx;obtain⟨t',rfl⟩:=ry;exact rule i j t t' s _ _ hc ⟨.int (g i j),H,I.tok _,⟨_,rfl⟩,q⟩
def Lc{f:Value->Value->Sem Value}{g:Int->Int->Int}(rule:∀(i j:Int)(t u:Tok)(s:Shared)(Q:WA)(E:WA),Q (.int (g i j) s.toks) { s with toks:=s.toks+1 }->wpAny (model X.prog X.w) X.A (f (.int i t) (.int j u)) Q E s) : bC X f (qA λi j=>.int (g i j)):=by intro pins s U H x y v u Q I rx ry h;obtain⟨i,j,rfl,rfl,q⟩:=h;obtain⟨t,rfl⟩:=rx;obtain⟨t',rfl⟩:=ry;exact rule i j t t' s _ _ ⟨.int (g i j),H,I.tok _,⟨_,rfl⟩,q⟩
def BN{f:Value->Value->Sem Value}{g:Int->Int->Bool}(rule:∀(i j:Int)(t u:Tok)(s:Shared)(Q:WA)(E:WA),Q (.bool (g i j)) s->wpAny (model X.prog X.w) X.A (f (.int i t) (.int j u)) Q E s) : bC X f (qA λi j=>.bl (g i j)):=by intro pins s U H x y v u Q I rx ry h;obtain⟨i,j,rfl,rfl,q⟩:=h;obtain⟨t,rfl⟩:=rx;obtain⟨t',rfl⟩:=ry;exact rule i j t t' s _ _ ⟨.bl (g i j),H,I,rfl,q⟩
def uf (i j:Int):Prop:=0<=j/\j<=1000000/\i.natAbs<2^64
def uC (i j:Int):Prop:=(-(2^64)<i/\i<2^64)\/(-(2^64)<j/\j<2^64)
def uC.ok{i j:Int}(h:uC i j):IntMulOk i j:=by rcases h with⟨h1,h2⟩|⟨h1,h2⟩;{exact .of_left (intBits_le_64 h1 h2)};exact .of_right (intBits_le_64 h1 h2)
def MG:bC X (binaryOp .Add) (qA λi j=>.int (i+j)):=Lc λ_ _ _ _ _ _ _ q=>add_int q
def MR:bC X (binaryOp .Sub) (qA λi j=>.int (i-j)):=Lc λ_ _ _ _ _ _ _ q=>sub_int q
def M7:bC X (binaryOp .Mult) (rI uC λi j=>.int (i*j)):=Hi λ_ _ _ _ _ _ _ hc q=>mul_int q hc.ok
def LH:bC X (binaryOp .Mod) (rI (λ_ j=>0<j) λi j=>.int (i%j)):=Hi λi j _ _ _ _ _ hc q=>by have h1:(0:Int)<j:=hc;exact mod_int' (by lia) (by rw[Int.fmod_eq_emod_of_nonneg i (by lia)];exact q)
def Ml:bC X (binaryOp .Pow) (rI uf λi j=>.int (i^j.toNat)):=Hi λ_ _ _ _ _ _ _ hc q=>pow_int_small hc.1 hc.2.1 hc.2.2 q
def Qu{f:Value->Sem Value}{g:Int->Int}(rule:∀(i:Int)(t:Tok)(s:Shared)(Q:WA)(E:WA),Q (.int (g i) s.toks) { s with toks:=s.toks+1 }->wpAny (model X.prog X.w) X.A (f (.int i t)) Q E s) : IA X f (rU λi=>.int (g i)):=by intro pins s U H x v Q I rx h;obtain⟨i,rfl,q⟩:=h;obtain⟨t,rfl⟩:=rx;exact rule i t s _ _ ⟨.int (g i),H,I.tok _,⟨_,rfl⟩,q⟩
def D6:IA X (unaryOp .USub) (rU λi=>.int (-i)):=Qu λ_ _ _ _ _ q=>neg_int q
end
noncomputable def Gy:V->V->Bool
 |.aK,.aK=>true | .aK,.int _=>true | .int _,.aK=>true | .aK,.bl _=>true | .bl _,.aK=>true | .aK,.str _=>true | .str _,.aK=>true
 |.int _,.int _=>true | .bl _,.bl _=>true | .str _,.str _=>true | .kU _,.kU _=>true
 |.int _,.str _=>true | .str _,.int _=>true | .bl _,.str _=>true | .str _,.bl _=>true
 |_,_=>false
def Pd:R2:=λx y H Q=>Gy x y=true/\Q (.bl (decide (x=y))) H
def O4:R2:=λx y H Q=>Gy x y=true/\Q (.bl (!decide (x=y))) H
def An{i j:Int}:decide (V.int i=V.int j)=(i==j):=by rw[Sg];simp
def Cs{i j:Bool}:decide (V.bl i=V.bl j)=(i==j):=by rw[Sg];simp
def AA{i j:Str}:decide (V.str i=V.str j)=(i==j):=by rw[Sg];simp
def z9{i j:Array UInt8}:decide (V.kU i=V.kU j)=(i.toList==j.toList):=by rw[Sg];cases i;cases j;simp
section
variable{X:Cx}{a b c:Expr}{ta tb tc:TE}{pos:Pos}
def aS{pins:WD}{U:St}{H:Hp}{s:Shared}{Q:VK}{k k':Bool}(I:Inv X pins U H s)(q:Q (.bl k) H)(e:k=k'):EP X pins U Q (.bool k') s:=by subst e;exact⟨.bl k,H,I,rfl,q⟩
def Bq:bC X (compareOp .Eq) Pd:=by
 intro pins s U H x y v u Q I rx ry h;obtain⟨hs,q⟩:=h;cases x with
 |aK=>
  cases rx;cases y with
  |aK=>cases ry;exact PySem.EqNone.eq_none_none (aS I q (by simp))
  |bl j=>cases ry;exact PySem.EqNone.eq_none_bool (aS I q (by simp))
  |int j=>obtain⟨t',rfl⟩:=ry;exact PySem.EqNone.eq_none_int (aS I q (by simp))
  |str j=>obtain⟨t',rfl⟩:=ry;exact PySem.EqNone.eq_none_str (aS I q (by simp))
  |_=>exact absurd (show false=true from hs) QV
 |bl i=>
  cases rx;cases y with
  |aK=>cases ry;exact PySem.EqNone.eq_bool_none (aS I q (by simp))
  |bl j=>cases ry;exact eq_bool (aS I q Cs)
  |str j=>obtain⟨t',rfl⟩:=ry;exact PySem.EqMixed.eq_bool_str (aS I q (by simp))
  |_=>exact absurd (show false=true from hs) QV
 |int i=>
  obtain⟨t,rfl⟩:=rx;cases y with
  |aK=>cases ry;exact PySem.EqNone.eq_int_none (aS I q (by simp))
  |int j=>obtain⟨t',rfl⟩:=ry;exact eq_int (aS I q An)
  |str j=>obtain⟨t',rfl⟩:=ry;exact PySem.EqMixed.eq_int_str (aS I q (by simp))
  |_=>exact absurd (show false=true from hs) QV
 |str i=>
  obtain⟨t,rfl⟩:=rx;cases y with
  |aK=>cases ry;exact PySem.EqNone.eq_str_none (aS I q (by simp))
  |bl j=>cases ry;exact PySem.EqMixed.eq_str_bool (aS I q (by simp))
  |int j=>obtain⟨t',rfl⟩:=ry;exact PySem.EqMixed.eq_str_int (aS I q (by simp))
  |str j=>obtain⟨t',rfl⟩:=ry;exact eq_str (aS I q AA)
  |_=>exact absurd (show false=true from hs) QV
 |kU i=>
  obtain⟨t,rfl⟩:=rx;cases y with
  |kU j=>obtain⟨t',rfl⟩:=ry;exact PySem.W.eq_bytes (aS I q z9)
  |_=>exact absurd (show false=true from hs) QV
 |_=>cases y<;>exact absurd (show false=true from hs) QV
def OJ:bC X (compareOp .NotEq) O4:=by
 intro pins s U H x y v u Q I rx ry h;obtain⟨hs,q⟩:=h;cases x with
 |aK=>
  cases rx;cases y with
  |aK=>cases ry;exact PySem.EqNone.ne_none_none (aS I q (by simp))
  |bl j=>cases ry;exact PySem.EqNone.ne_none_bool (aS I q (by simp))
  |int j=>obtain⟨t',rfl⟩:=ry;exact PySem.EqNone.ne_none_int (aS I q (by simp))
  |str j=>obtain⟨t',rfl⟩:=ry;exact PySem.EqNone.ne_none_str (aS I q (by simp))
  |_=>exact absurd (show false=true from hs) QV
 |bl i=>
  cases rx;cases y with
  |aK=>cases ry;exact PySem.EqNone.ne_bool_none (aS I q (by simp))
  |bl j=>cases ry;exact ne_bool (aS I q (congrArg not Cs))
  |str j=>obtain⟨t',rfl⟩:=ry;exact PySem.EqMixed.ne_bool_str (aS I q (by simp))
  |_=>exact absurd (show false=true from hs) QV
 |int i=>
  obtain⟨t,rfl⟩:=rx;cases y with
  |aK=>cases ry;exact PySem.EqNone.ne_int_none (aS I q (by simp))
  |int j=>obtain⟨t',rfl⟩:=ry;exact ne_int (aS I q (congrArg not An))
  |str j=>obtain⟨t',rfl⟩:=ry;exact PySem.EqMixed.ne_int_str (aS I q (by simp))
  |_=>exact absurd (show false=true from hs) QV
 |str i=>
  obtain⟨t,rfl⟩:=rx;cases y with
  |aK=>cases ry;exact PySem.EqNone.ne_str_none (aS I q (by simp))
  |bl j=>cases ry;exact PySem.EqMixed.ne_str_bool (aS I q (by simp))
  |int j=>obtain⟨t',rfl⟩:=ry;exact PySem.EqMixed.ne_str_int (aS I q (by simp))
  |str j=>obtain⟨t',rfl⟩:=ry;exact ne_str (aS I q (congrArg not AA))
  |_=>exact absurd (show false=true from hs) QV
 |kU i=>
  obtain⟨t,rfl⟩:=rx;cases y with
  |kU j=>obtain⟨t',rfl⟩:=ry;exact PySem.W.ne_bytes (aS I q (congrArg not z9))
  |_=>exact absurd (show false=true from hs) QV
 |_=>cases y<;>exact absurd (show false=true from hs) QV
def BE:bC X (compareOp .Lt) (qA λi j=>.bl (decide (i<j))):=BN λ_ _ _ _ _ _ _ q=>lt_int q
def Ij:bC X (compareOp .LtE) (qA λi j=>.bl (decide (i<=j))):=BN λ_ _ _ _ _ _ _ q=>le_int q
def Og:bC X (compareOp .Gt) (qA λi j=>.bl (decide (j<i))):=BN λ_ _ _ _ _ _ _ q=>gt_int q
def IG:bC X (compareOp .GtE) (qA λi j=>.bl (decide (j<=i))):=BN λ_ _ _ _ _ _ _ q=>ge_int q
def K9:bC X (compareOp .Is) (λx y H Q=>y=.aK/\Q (.bl (decide (x=.aK))) H):=by
 intro pins s U H x y v u Q I rx ry h;obtain⟨rfl,q⟩:=h;cases ry;refine is_none_gen (aS I q ?_);cases x<;>first
  | (cases rx;rfl)
  | (obtain⟨t,rfl⟩:=rx;rfl)
def bC.or{f:Value->Value->Sem Value}{r r':R2}(h:bC X f r)(h':bC X f r'):bC X f (λx y H Q=>r x y H Q\/r' x y H Q):=by intro pins s U H x y v u Q I rx ry q;rcases q with q|q;{exact h pins s U H x y v u Q I rx ry q};exact h' pins s U H x y v u Q I rx ry q
def fV(b:Expr){op:CmpOp}(h:op≠.In:=by decide)(h2:op≠.NotIn:=by decide):behindInMarks op b=false:=by
 have e1:(op==CmpOp.In)=false:=by cases op<;>first|rfl|exact absurd rfl h
 have e2:(op==CmpOp.NotIn)=false:=by cases op<;>first|rfl|exact absurd rfl h2
 cases b<;>simp[behindInMarks,e1,e2]
def Jd{op:CmpOp}{r:R2}(ho:bC X (compareOp op) r)(ha:PE X a ta)(hb:PE X b tb)(hm:behindInMarks op b=false):PE X (.Compare a [op] [b] pos) (Hh r ta tb):=by intro pins s U H Q I h;exact wpAny_Compare1 (FU ha hb I h λv u s2 x y H2 I2 rx ry q=>ho pins s2 U H2 x y v u Q I2 rx ry q) hm
inductive C9(Q:(Bool->Hp->Prop)) (x:V)(H':Hp):Prop
 |mk:∀k,(x=.bl k)->(Q k H')->C9 Q x H'
def HX (t:TE):TT:=λU H Q=>t U H λx H'=>C9 Q x H'
def jY{op:CmpOp}{r:R2}(ho:bC X (compareOp op) r)(ha:PE X a ta)(hb:PE X b tb)(hm:behindInMarks op b=false):PT X (.Compare a [op] [b] pos) (HX (Hh r ta tb)):=by
 intro pins s U H Q I h;refine wpAny_isTrue_Compare1 (aH (ha pins s U H _ I h) λv s1 ⟨x,H1,I1,r1,q1⟩=>aH (hb pins s1 U H1 _ I1 q1) λu s2 ⟨y,H2,I2,r2,q2⟩=>
  aH (ho pins s2 U H2 x y v u _ I2 r1 r2 q2) λc s3 ⟨z,H3,I3,r3,k,e,q3⟩=>?_) hm
 subst e;cases r3;exact TZ ⟨H3,I3,q3⟩
noncomputable def Lq (r r':R2)(ta tb tc:TE):TE:=λU H Q=>ta U H λx H1=>tb U H1 λy H2=>r x y H2 λz H3=>∃k,z=.bl k /\
 (if k=true then tc U H3 λw' H4=>r' y w' H4 Q else Q (.bl false) H3)
def FW{op op':CmpOp}{r r':R2}(ho:bC X (compareOp op) r)(ho':bC X (compareOp op') r')(ha:PE X a ta)(hb:PE X b tb)(hc:PE X c tc)(hm:lastMarks [op,op'] [b,c]=false:=by with_unfolding_all rfl):PT X (.Compare a [op,op'] [b,c] pos) (HX (Lq r r' ta tb tc)):=by
 intro pins s U H Q I h;refine isTrue_chain (aH (ha pins s U H _ I h) λv s1 ⟨x,H1,I1,r1,q1⟩=>test_link (aH (hb pins s1 U H1 _ I1 q1) λu s2 ⟨y,H2,I2,r2,q2⟩=>
  aH (ho pins s2 U H2 x y v u _ I2 r1 r2 q2) λd s3 ⟨z,H3,I3,r3,k,e,q3⟩=>?_)) hm
 subst e;cases r3;refine TZ ?_;cases k with
 |false=>obtain⟨k',e',q'⟩:=q3;cases e';exact ite_ff ⟨H3,I3,q'⟩
 |true=>refine ite_tt (test_last (aH (hc pins s3 U H3 _ I3 q3) λw' s4 ⟨z',H4,I4,r4,q4⟩=>aH (ho' pins s4 U H4 y z' u w' _ I4 r2 r4 q4) λd' s5 ⟨z2,H5,I5,r5,k2,e2,q5⟩=>?_));subst e2;cases r5;exact TZ ⟨H5,I5,q5⟩
noncomputable def uB (K:WJ) (x:V)(H:Hp)(k:Bool):Prop:=
 match x with
 |.aK=>k=false
 |.bl b=>k=b
 |.int i=>k=(i != 0)
 |.str y=>y.length<=sizeLine/\k=((y.length:Int) != 0)
 |.kU y=>y.size<=sizeLine/\k=((y.size:Int) != 0)
 |.ref p=>(∃xs,bQ K H p xs/\k=!xs.isEmpty)\/(∃xs,bI K H p xs/\k=!xs.isEmpty)\/∃kvs,H p=some (.dK kvs)/\k=!kvs.isEmpty
 |_=>False
def AY{κ:Type}{kvs:List (κ×V)}{vs:List (κ×Value)}(r:KV kvs vs):(!vs.isEmpty)=!kvs.isEmpty:=by cases r<;>rfl
def sJ{xs:List V}{its:WQ}(r:Vals xs its):(!its.toArray.isEmpty)=!xs.isEmpty:=by cases r<;>simp
def mG:(sizeLine:Nat)<2^63:=by rw[UH];decide
def CG:PF X (λx H Q=>∃k,uB X.K x H k/\Q k H):=by
 intro pins s U H x v Q I rx h;obtain⟨k,e,q⟩:=h;have hl:=mG;have hs:sizeLine=16777216:=UH;cases x with
 |aK=>cases rx;have e':k=false:=e;subst e';exact truthy_none ⟨H,I,q⟩
 |bl b=>cases rx;have e':k=b:=e;subst e';exact TZ ⟨H,I,q⟩
 |int i=>obtain⟨t,rfl⟩:=rx;have e':k=(i != 0):=e;subst e';exact PySem.P.truthy_int ⟨H,I,q⟩
 |str y=>obtain⟨t,rfl⟩:=rx;obtain⟨hy,e'⟩:y.length<=sizeLine/\k=((y.length:Int) != 0):=e;subst e';exact PySem.P.truthy_str (by lia) ⟨H,I.tok _,q⟩
 |kU y=>obtain⟨t,rfl⟩:=rx;obtain⟨hy,e'⟩:y.size<=sizeLine/\k=((y.size:Int) != 0):=e;subst e';exact PySem.W.truthy_bytes (by lia) ⟨H,I.tok _,q⟩
 |ref p=>cases rx;have e':(∃xs,bQ X.K H p xs/\k=!xs.isEmpty)\/(∃xs,bI X.K H p xs/\k=!xs.isEmpty)\/∃kvs,H p=some (.dK kvs)/\k=!kvs.isEmpty:=e;rcases e' with⟨xs,hx,e'⟩|⟨xs,hx,e'⟩|⟨kvs,hx,e'⟩;{subst e';obtain⟨its,r,pl,hz⟩:=I.list hx;have hlen:=r.length;exact wpAny_truthy_list pl.isList (by simp only[R9];lia) ⟨H,I.tok _,by rw[sJ r];exact q⟩};{subst e';obtain⟨its,r,pl,hz⟩:=I.tuple hx;have hlen:=r.length;exact truthy_tuple pl (by simp only[R9];lia) ⟨H,I.tok _,by rw[sJ r];exact q⟩};subst e';obtain⟨hz,hS,vs,r,m⟩:kvs.length<=sizeLine/\(p==sysModules)=false/\∃vs,KV kvs vs/\s.heap.DictOf (bU X.prog X.w) p vs:=I.hok p _ hx;have hlen:kvs.length=vs.length:=Paired.length r;exact wpAny_truthy_dict hS m (by lia) ⟨H,I.tok _,by rw[AY r];exact q⟩
 |_=>exact(show False from e).elim
def G8(ha:PE X a ta)(he:∀whole,isTrue a X.env whole=(do let v <-whole;standAt a.pos;holding [v] (truthy v))) :
  PT X a (λU H Q=>ta U H λx H'=>∃k,uB X.K x H' k/\Q k H'):=by
 intro pins s U H Q I h;exact isTrue_plain (aH (ha pins s U H _ I h) λv s1 ⟨x,H1,I1,r1,q1⟩=>CG pins s1 U H1 x v Q I1 r1 q1) (he _)
def A8:bC X (binaryOp .Add) (λx y H Q=>∃i j,x=.str i/\y=.str j/\i.length+j.length<=sizeLine/\Q (.str (i++j)) H):=by intro pins s U H x y v u Q I rx ry h;obtain⟨i,j,rfl,rfl,hz,q⟩:=h;obtain⟨t,rfl⟩:=rx;obtain⟨t',rfl⟩:=ry;exact add_str (λt' tk=>⟨.str (i++j),H,I.tok _,⟨_,rfl⟩,q⟩) hz
def vals1{x:V}{us:WQ}(r:Vals [x] us):∃u,us=[u]/\RelV x u:=by
 cases r with
 |cons r1 r2=>cases r2;exact⟨_,rfl,r1⟩
def vals2{x y:V}{us:WQ}(r:Vals [x,y] us):∃u w',us=[u,w']/\RelV x u/\RelV y w':=by
 cases r with
 |cons r1 r2=>
  cases r2 with
  |cons r3 r4=>cases r4;exact⟨_,_,rfl,r1,r3⟩
def Fe:cA X (.builtin "abs") (λxs H Q=>∃i,xs=[.int i]/\Q (.int (if i<0 then-i else i)) H):=by intro pins s U H xs us Q I r h;obtain⟨i,rfl,q⟩:=h;obtain⟨u,rfl,t,rfl⟩:=vals1 r;exact call_abs_int λu tk=>⟨.int (if i<0 then-i else i),H,I.tok _,⟨_,rfl⟩,q⟩
def uU(hc:X.calm=true):cA X (.builtin "max") (λxs H Q=>∃i j,xs=[.int i,.int j]/\Q (.int (if j>i then j else i)) H):=by intro pins s U H xs us Q I r h;obtain⟨i,j,rfl,q⟩:=h;obtain⟨u,w',rfl,⟨t,rfl⟩,⟨t',rfl⟩⟩:=vals2 r;refine max_two_ints (I.ok.hd hc) λh' tk k=>⟨_,H,I.kept k,?_,q⟩;by_cases hj:j>i;{rw[if_pos hj,if_pos hj];exact⟨_,rfl⟩};rw[if_neg hj,if_neg hj];exact⟨_,rfl⟩
def uY(hc:X.calm=true):cA X (.builtin "min") (λxs H Q=>∃i j,xs=[.int i,.int j]/\Q (.int (if j<i then j else i)) H):=by intro pins s U H xs us Q I r h;obtain⟨i,j,rfl,q⟩:=h;obtain⟨u,w',rfl,⟨t,rfl⟩,⟨t',rfl⟩⟩:=vals2 r;refine min_two_ints (I.ok.hd hc) λh' tk k=>⟨_,H,I.kept k,?_,q⟩;by_cases hj:j<i;{rw[if_pos hj,if_pos hj];exact⟨_,rfl⟩};rw[if_neg hj,if_neg hj];exact⟨_,rfl⟩
def CY:cA X (.type "int") (λxs H Q=>(∃i,xs=[.int i]/\Q (.int i) H)\/∃k,xs=[.bl k]/\Q (.int (if k then 1 else 0)) H):=by intro pins s U H xs us Q I r h;rcases h with⟨i,rfl,q⟩|⟨k,rfl,q⟩;{obtain⟨u,rfl,t,rfl⟩:=vals1 r;exact call_int_int ⟨.int i,H,I,⟨_,rfl⟩,q⟩};obtain⟨u,rfl,r1⟩:=vals1 r;cases r1;exact call_int_bool ⟨.int (if k then 1 else 0),H,I.tok _,⟨_,rfl⟩,q⟩
end
def DL{h:Heap}{dx:Addr}{mA:WC}(n:h.Ns1 dx mA):∃od,h.get? dx=some od/\∀name,PySem.W.lookIn name od=some (mA name):=by
 obtain⟨o,es,ep,ho,hd,hk,_,hm⟩:=n;refine⟨o,ho,λname=>?_⟩;have e:=hm name;unfold nsFind findBy at e;rw[<-VM]at e;unfold PySem.W.lookIn;rw[hd];dsimp only;split;{rename_i y q;rw[q]at e;exact congrArg some e};rename_i q;rw[q]at e;have a:es.toList.any (·.refKey)=false:=by rw[List.any_eq_false];intro y hy;obtain⟨z,t,hkey⟩:=hk y (UI.mp hy);simp[DictEntry.refKey,hkey]
 have a':¬es.toList.any (·.refKey)=true:=by rw[a];exact QV
 rw[if_neg a'];exact congrArg some e
def iQ.some_of{v:V}{o:WK}(r:iQ (some v) o):∃u,o=some u/\RelV v u:=by
 cases o with
 |none=>exact(show False from r).elim
 |some u=>exact⟨u,rfl,r⟩
def Eh{v:V}{u:Value}(r:RelV v u):PySem.W.handedIn u=true:=by
 cases v with
 |aK=>cases (show u=Value.none from r);rfl
 |bl b=>cases (show u=Value.bool b from r);rfl
 |int i=>obtain⟨t,e⟩:=(show ∃t,u=Value.int i t from r);cases e;rfl
 |str x=>obtain⟨t,e⟩:=(show ∃t,u=Value.str x t from r);cases e;rfl
 |kU b=>obtain⟨t,e⟩:=(show ∃t,u=Value.bytes b t from r);cases e;rfl
 |oV b=>obtain⟨t,e⟩:=(show ∃t,u=Value.float b t from r);cases e;rfl
 |ref a=>cases (show u=Value.ref a from r);rfl
 |ty n=>cases (show u=Value.type n from r);rfl
section
variable{X:Cx}{pins:WD}{U:St}{H:Hp}{s:Shared}{a C dx:Addr}{fs:List (Str×V)}{f:Str}{v:V}{A:Around}{E:WA}
def Jk{prog:Program}{w:World}{env:Env}{e:Expr}{f:Str}{pos:Pos}{s:Shared}{Q:WA}(hb:attributeBase e f env (eval e env)=eval e env)(h:wpAny (model prog w) A (eval e env) (λo s₁=>wpAny (model prog w) A (getAttr o f true) Q E s₁) E s):wpAny (model prog w) A (eval (.Attribute e f pos) env) Q E s:=
 Attribute_any_ h (by rw[arm_eval_Attribute,hb])
end
structure cC(k:Nat)(A:Around):Prop where
 hd:A.handled=none
 dp:A.depth+3*k+5<recursionLimit
 un:A.units+16*k+200<cLine
def cC.mono{j k:Nat}{A:Around}(r:cC k A)(h:j<=k):cC j A:=⟨r.hd,by have:=r.dp;lia,by have:=r.un;lia⟩
theorem cC.deeper{k:Nat}{A:Around}(r:cC (k+1) A)(env:Env):cC k (A.deeper env):=
 ⟨r.hd,by have:=r.dp;show A.depth+1+3*k+5<_;lia,by have:=r.un;show A.units+3+16*k+200<_;lia⟩
def Bh{A:Around}{C:Addr}{us:WQ}{kw:List (Str×Value)}:(A.under (.builtin "type.__call__" ⟨.ref C::us,kw⟩)).depth=A.depth+1:=by first|rfl|simp[Around.under,Code.weight,Code.isCreation,Code.isGuard,Code.isCaller,Code.frames,Code.isFrame,guardIds]
def BH{A:Around}{C:Addr}{us:WQ}{kw:List (Str×Value)}:(A.under (.builtin "type.__call__" ⟨.ref C::us,kw⟩)).units=A.units+1:=by first|rfl|simp[Around.under,Code.cUnits,Code.frames,Code.isFrame]
def cC.make{k:Nat}{A:Around}(r:cC (k+1) A)(C:Addr)(us:WQ)(kw:List (Str×Value)):cC k (A.under (.builtin "type.__call__" ⟨.ref C::us,kw⟩)):=
 ⟨r.hd,by have:=r.dp;rw[Bh];lia,by have:=r.un;rw[BH];lia⟩
theorem cC.depth{k:Nat}{A:Around}(r:cC k A):A.depth<recursionLimit:=by have:=r.dp;lia
theorem cC.units{k:Nat}{A:Around}(r:cC k A):A.units+64<cLine:=by have:=r.un;lia
def G3:TA:=λ_ H Q=>Q [] H
noncomputable def IE (ta:TE)(tr:TA):TA:=λU H Q=>ta U H λx H1=>tr U H1 λxs H2=>Q (x::xs) H2
section
variable{X:Cx}{e:Expr}{es:WX}{te:TE}{t:TA}{pos:Pos}
def bx:PA X [] G3:=λ_ _ _ _ H Q I h=>Calls.spliced_nil ⟨[],H,I,.nil,h⟩
def aA(ha:PE X e te)(hr:PA X es t)(hs:starEach (e::es) X.env=(false,eval e X.env)::starEach es X.env:=by rfl):PA X (e::es) (IE te t):=by intro pos pins s U H Q I h;rw[hs];show wpAny _ _ (spliced ((false,eval e X.env)::backTo pos (starEach es X.env))) _ _ s;refine VN (aH (ha pins s U H _ I h) λu s1 ⟨x,H1,I1,r1,q1⟩=>?_);exact aH (hr pos pins s1 U H1 _ I1 q1) λus s2 ⟨xs,H2,I2,r2,q2⟩=>⟨x::xs,H2,I2,.cons r1 r2,q2⟩
noncomputable def Ph (t:TA):TE:=λU H Q=>t U H λxs H1=>xs.length<=sizeLine/\∀p,H1 p=none->Q (.ref p) (upd H1 p (.tup xs))
noncomputable def Pe (t:TA):TE:=λU H Q=>t U H λxs H1=>xs.length<=sizeLine/\∀p,H1 p=none->Q (.ref p) (upd H1 p (.lst xs))
def pC{x1}(h:PA X es t):PE X (.Tuple es x1 pos) (Ph t):=by intro pins s U H Q I hq;refine wpAny_Tuple_spliced (aH (h pos pins s U H _ I hq) λus s1 ⟨xs,H1,I1,r,z,q⟩=>⟨by rw[<-r.length];exact z,?_⟩);have hf:H1 s1.heap.objs.size=none:=I1.hok.fresh (Q5 _);refine⟨.ref s1.heap.objs.size,upd H1 s1.heap.objs.size (.tup xs),I1.laid (t':=s1.toks) (λb u e=>QZ _ e) (Q5 _) ?_,rfl,q _ hf⟩;exact⟨z,us,r,⟨_,Rc _ rfl,rfl,_,rfl⟩⟩
def Lw(h:PA X es t):PE X (.List es pos) (Pe t):=by intro pins s U H Q I hq;refine wpAny_List_spliced (aH (h pos pins s U H _ I hq) λus s1 ⟨xs,H1,I1,r,z,q⟩=>⟨by rw[<-r.length];exact z,?_⟩);have hf:H1 s1.heap.objs.size=none:=I1.hok.fresh (Q5 _);refine⟨.ref s1.heap.objs.size,upd H1 s1.heap.objs.size (.lst xs),I1.laid (t':=s1.toks) (λb u e=>QZ _ e) (Q5 _) ?_,rfl,q _ hf⟩;exact⟨z,us,0,r,Rc _ rfl⟩
end
abbrev Sp:=List V->Hp->VK->XK->Prop
abbrev kO:=List Env->Hp->Shared->XK->Value->Shared->Prop
structure qL(P:Program)(w:World)(K:WJ)(mg:WC)(base:Heap)(A:Around)(outer:List Env)(s:Shared)(H:Hp):Prop where
 frames:A.frames=some outer
 mod:Mod K mg base
 bs:∀b o,base.get? b=some o->s.heap.get? b=some o/\H b=none
 qt:base.objs.size<=s.heap.objs.size
 iz:s.heap.FunFrames base outer
 rQ:∀b∈frs outer,H b=none
 hok:dH P w H s.heap
 bare:AllBare s.gens
noncomputable def CE (outer:List Env)(P:Program)(w:World)(H:Hp)(s:Shared)(Q:VK)(u:Value)(s':Shared):Prop:=
 ∃v H',s'.os=s.os/\AllBare s'.gens/\Un (frs outer) [] H H' s.heap s'.heap/\dH P w H' s'.heap/\RelV v u/\Q v H'
noncomputable def CR (CX:kO)(outer:List Env)(P:Program)(w:World)(H:Hp)(s:Shared)(Q:VK)(E:XK)(r:Result)(s':Shared):Prop:=
 match r with
 |.ok (.ret u)=>CE outer P w H s Q u s'
 |.ok _=>False
 |.error e=>CX outer H s E e s'
structure dX(P:Program)(w:World)(K:WJ)(mg:WC)(base:Heap)(CX:kO) (k:Nat)(f:Addr)(fd:FuncData)(ps:Wb)(sp:Sp):Prop where
 len:∀vs H Q E,sp vs H Q E->vs.length=ps.length
 run:∀(A:Around)(outer:List Env)(s:Shared)(H:Hp)(args:Args)(us:WQ)(vs:List V)(Q:VK)(E:XK),cC k A->qL P w K mg base A outer s H->BindsTo s fd args (ps.zip us)->Vals vs us->sp vs H Q E->
  codeAny (model P w) A (.call (.ref f) args) (CR CX outer P w H s Q E) s
def dX.imp{P:Program}{w:World}{K:WJ}{mg:WC}{base:Heap}{CX:kO}{k:Nat}{f:Addr}{fd:FuncData}{ps:Wb}{sp sp':Sp}(F:dX P w K mg base CX k f fd ps sp)(h:∀vs H Q E,sp' vs H Q E->sp vs H Q E):dX P w K mg base CX k f fd ps sp':=
 ⟨λvs H Q E q=>F.len vs H Q E (h _ _ _ _ q),λA outer s H args us vs Q E hr he hb hv hs=>F.run A outer s H args us vs Q E hr he hb hv (h _ _ _ _ hs)⟩
def qL.make{P:Program}{w:World}{K:WJ}{mg:WC}{base:Heap}{A:Around}{outer:List Env}{s:Shared}{H:Hp}(e:qL P w K mg base A outer s H)(C:Addr)(us:WQ)(kw:List (Str×Value)) : qL P w K mg base (A.under (.builtin "type.__call__" ⟨.ref C::us,kw⟩)) outer s H:=⟨by first|exact e.frames|(simpa[Around.under,Code.envs,Code.isFrame,pushEnvs]using e.frames),e.mod,e.bs,e.qt,e.iz,e.rQ,e.hok,e.bare⟩
section
variable{X:Cx}{pins:WD}{U:St}{H:Hp}{s s':Shared}
def Inv.Ge(I:Inv X pins U H s):qL X.prog X.w X.K X.mg X.base X.A X.stack s H:=
 ⟨I.ok.frames,I.ok.mod,I.bs,RM I.ok.qt I.sz,I.stack,I.pO,I.hok,I.bare⟩
def Inv.after{Q:VK}{u:Value}(I:Inv X pins U H s)(h:CE X.stack X.prog X.w H s Q u s'):EP X pins U Q u s':=by obtain⟨v,H',os,bare,un,hok,r,q⟩:=h;obtain⟨hh,g,d,t,os'⟩:=s';obtain rfl:os'=s.os:=os;exact⟨v,H',I.call (h':=hh) (g':=g) (d':=d) (t':=t) (ch:=[]) un hok bare (λb z=>absurd z (by simp)),r,q⟩
end
noncomputable def Ic (sp:Sp)(dvs:List V)(E:XK)(t:TA):TE:=λU H Q=>t U H λvs H1=>sp (vs++dvs) H1 Q E
noncomputable def Binds (K:WJ)(fd:FuncData)(ps:Wb)(ds:WQ):Prop:=
 ∀(s:Shared)(us:WQ),K.In s.heap->(us++ds).length=ps.length->BindsTo s fd ⟨us,[]⟩ (ps.zip (us++ds))
def Binds.all{K:WJ}{fd:FuncData}{ps:Wb}(h:∀us:WQ,us.length=ps.length->bindArgs fd ⟨us,[]⟩=pure (ps.zip us)):Binds K fd ps []:=λs us _ hl=>by rw[S8]at hl⊢;exact .of_eq (h us hl)
noncomputable def Passes (CX:kO)(X:Cx)(E:XK):Prop:=∀(pins:WD)(U:St)(H:Hp)(s:Shared)(e:Value)(s':Shared),Inv X pins U H s->CX X.stack H s E e s'->X.xe e s'
section
variable{X:Cx}{CX:kO}{k:Nat}{f C:Addr}{fd:FuncData}{ps:Wb}{sp:Sp}{dvs:List V}{ds:WQ}{E:XK}{x m:Str}{p pos apos:Pos}{e o:Expr}{es:WX}{ta:TE}{t:TA}
def Ms{pins:WD}{U:St}{H:Hp}{s:Shared}{Q:VK}{us:WQ}{vs:List V}(F:dX X.prog X.w X.K X.mg X.base CX k f fd ps sp)(hr:cC k X.A)(hb:Binds X.K fd ps ds)(hd:Vals dvs ds)(hx:Passes CX X E)(I:Inv X pins U H s)(r:Vals vs us)(h:sp (vs++dvs) H Q E):wpAny (model X.prog X.w) X.A (call (.ref f) us) (EP X pins U Q) X.xe s:=by
 have r2:Vals (vs++dvs) (us++ds):=r.append hd;have hl:(us++ds).length=ps.length:=by rw[<-r2.length];exact F.len _ _ _ _ h
 refine Sj (Sk (F.run X.A X.stack s H ⟨us,[]⟩ (us++ds) (vs++dvs) Q E hr I.Ge (hb s us I.fT hl) r2 h) λr s' hq=>?_);cases r with
 |error e=>exact hx pins U H s e s' I hq
 |ok fl=>
  cases fl with
  |ret u=>exact I.after hq
  |next=>exact False.elim hq
  |brk=>exact False.elim hq
  |cont=>exact False.elim hq
def Aq(F:dX X.prog X.w X.K X.mg X.base CX k f fd ps sp)(hr:cC k X.A)(hg:Gl X x)(hm:X.mg x=some (.ref f))(hk:PySem.W.keepIn X.K (.ref f)=true)(hb:Binds X.K fd ps ds)(hd:Vals dvs ds)(hx:Passes CX X E)(ha:PA X (e::es) t)(hdb:(x==("__debug__":Str))=false:=by decide)(he:starEach (e::es) X.env=(false,eval e X.env)::starEach es X.env:=by rfl)(hpl:(backTo pos (starEach es X.env)).any (·.1)=false:=by rfl) : PE X (.Call (.Name x p) (e::es) [] pos) (Ic sp dvs E t):=by intro pins s U H Q I h;refine Tw (iR I hg hm ?_ hdb);refine PySem.W.callWith_K (h₀:=X.base) I.ok.mod.vE hk (aH (ha pos pins s U H _ I h) λus s1 ⟨vs,H1,I1,r,q⟩=>⟨I1.fT,?_⟩) he hpl;exact Ms F hr hb hd hx I1 r q
end
structure bD(N P:Wb)(sc:Scope):Prop where
 kind:sc.kind=.function
 co:sc.isCoroutine=false
 gen:sc.isGenerator=false
 nd:N.Nodup
 pre:N.take P.length=P
 par:∀x∈P,sc.names.lookup x=some .local\/sc.names.lookup x=some .cell
 MA:∀y∈sc.names,y.2≠.free
theorem uS{kindOf:Str->Option NameKind}{x:Str}:∀{binds:List (Str×Value)}{m:WC},(∀v,(x,v)∉binds)->bindL kindOf binds m x=m x
 |[],_,_=>rfl
 | (n,v)::r,m,h=>by
  unfold bindL;rw[uS λw hw=>h w (QU _ hw)];split
  .have:x≠n:=by rintro rfl;exact h v Q6
   simp[this]
  rfl
theorem u7{kindOf:Str->Option NameKind}{x:Str}:∀{binds:List (Str×Value)}{m:WC},(∀v,(x,v)∉binds)->bindC kindOf binds m x=m x
 |[],_,_=>rfl
 | (n,v)::r,m,h=>by
  unfold bindC;rw[u7 λw hw=>h w (QU _ hw)];split;{rfl};have:x≠n:=by rintro rfl;exact h v Q6
  simp[this]
theorem vF{kindOf:Str->Option NameKind}{x:Str}{v:Value}:∀{P:Wb}{vs:WQ}{i:Nat}{m:WC},P.Nodup->P[i]?=some x->vs[i]?=some v->kindOf x=some .local-> bindL kindOf (P.zip vs) m x=some v
 |[],_,_,_,_,h,_,_=>by simp at h
 |_::_,[],_,_,_,_,h,_=>by simp at h
 |p::P,w::vs,0,m,nd,h1,h2,hk=>by simp at h1 h2;subst h1;subst h2;show bindL kindOf ((p,w)::P.zip vs) m p=_;unfold bindL;rw[uS λv hv=>(RX.mp nd).1 (Ul hv).1,if_pos hk];simp
 |p::P,w::vs,i+1,m,nd,h1,h2,hk=>by show bindL kindOf ((p,w)::P.zip vs) m x=_;unfold bindL;exact vF (i:=i) (RX.mp nd).2 (by simpa using h1) (by simpa using h2) hk
theorem vg{kindOf:Str->Option NameKind}{x:Str}{v:Value}:∀{P:Wb}{vs:WQ}{i:Nat}{m:WC},P.Nodup->P[i]?=some x->vs[i]?=some v->kindOf x≠some .local-> bindC kindOf (P.zip vs) m x=some v
 |[],_,_,_,_,h,_,_=>by simp at h
 |_::_,[],_,_,_,_,h,_=>by simp at h
 |p::P,w::vs,0,m,nd,h1,h2,hk=>by simp at h1 h2;subst h1;subst h2;show bindC kindOf ((p,w)::P.zip vs) m p=_;unfold bindC;rw[u7 λv hv=>(RX.mp nd).1 (Ul hv).1,if_neg hk];simp
 |p::P,w::vs,i+1,m,nd,h1,h2,hk=>by show bindC kindOf ((p,w)::P.zip vs) m x=_;unfold bindC;exact vg (i:=i) (RX.mp nd).2 (by simpa using h1) (by simpa using h2) hk
noncomputable def start (N:Wb)(vs:List V):St:=vs.map some++List.replicate (N.length-vs.length) none
noncomputable def c8 (CX:kO)(P:Program)(w:World)(K:WJ)(mg:WC)(base:Heap)(N:Wb) (qual:Str)(scope:Scope)(f:Addr)(cd:Value)(A:Around)(outer:List Env)(s:Shared)(H:Hp)(E:XK):Cx where
 prog:=P
 w:=w
 K:=K
 mg:=mg
 base:=base
 A:=A.deeper (envOfC qual scope s.heap.objs.size f cd)
 N:=N
 s₀:=s
 H₀:=H
 env:=envOfC qual scope s.heap.objs.size f cd
 outer:=outer
 stack:=envOfC qual scope s.heap.objs.size f cd::outer
 ex:=[]
 calm:=true
 fn:=λ_=>true
 pn:=[]
 xe:=λe s'=>wpAny (model P w) (A.deeper (envOfC qual scope s.heap.objs.size f cd)) (leaving (envOfC qual scope s.heap.objs.size f cd) e) (λ_ s''=>CX outer H s E e s'') (λe' s''=>CX outer H s E e' s'') s'
def xw{sc:Scope}{n:Nat}{x:Str}(h:sc.names.lookup x=some .cell):∃c,(cellsFrom n sc.names []).lookup x=some c:=by have q:=PySem.W.cellsFrom_some sc.names n [] (.inl h);exact VO.mp q
def CP{CX:kO}{P:Program}{w:World}{K:WJ}{mg:WC}{base:Heap}{N ps:Wb}{qual:Str}{scope:Scope}{f:Addr}{cd:Value}{A:Around}{outer:List Env}{s s1:Shared}{H:Hp}{E:XK}{us:WQ}{vs:List V}(S:bD N ps scope)(hd:A.handled=none)(e0:qL P w K mg base A outer s H)(hl:vs.length=ps.length)(r:Vals vs us)(x:InCallC s s.heap.objs.size (bindL (envOfC qual scope s.heap.objs.size f cd).kindOf (ps.zip us) λ_=>none) (cellsFrom (s.heap.objs.size+1) scope.names []) (bindC (envOfC qual scope s.heap.objs.size f cd).kindOf (ps.zip us) λ_=>none) s1) : Inv (c8 CX P w K mg base N qual scope f cd A outer s H E) [] (start N vs) H s1:=by
 have hpl:ps.length<=N.length:=by have:=congrArg List.length S.pre;rw[S9]at this;lia
 obtain⟨h1,tk,rfl,hk⟩:=x.done;have noA:∀b:Addr,b∉(c8 CX P w K mg base N qual scope f cd A outer s H E).ex:=λb z=>absurd (show b∈([]:WU)from z) (by simp);refine⟨⟨e0.mod,S.kind,rfl,rfl,Q5 _,λy z c h1 h2=>?_,λy hy=>?_,λy c _ h=>?_,λ_=>hd,Around.frames_deeper e0.frames,.inr ⟨rfl,rfl⟩,λb z=>absurd z (noA b),e0.bs,e0.qt,λb _ _=>noA b,λb z=>absurd z (noA b),e0.iz,e0.rQ⟩,
  rfl,e0.bare,Un.kept hk,⟨_,x.toInCall.ns,λi y v h1 h2 h3=>?_⟩,λy c h=>⟨_,x.cell y c h⟩,e0.hok.fresh (Q5 _),λy c h=>?_,λp hp=>absurd (show p∈([]:WD)from hp) (by simp),e0.hok.kept hk,?_⟩
 .exact name_of_addr x.apart (UJ h1) (UJ h2)
 .have hy:scope.names.lookup y=some .cell\/scope.names.lookup y=some .free:=hy;rcases hy with hy|hy;{exact xw hy};exact absurd rfl (S.MA _ (UJ hy))
 .exact UC (x.above y c (UJ h))
 .have hi:i<vs.length:=by unfold start at h2;by_cases hi:i<vs.length;{exact hi};rw[T5 (by simpa using hi)]at h2;rw[List.getElem?_replicate]at h2;split at h2<;>cases h2
  have ha:vs[i]?=some v:=by
   unfold start at h2;rw[Sl (by simpa using hi),R8]at h2;cases e:vs[i]? with
   |none=>rw[e]at h2;cases h2
   |some a=>rw[e]at h2;cases h2;rfl
  obtain⟨u,hu,rv⟩:=r.get ha;have hp:ps[i]?=some y:=by rw[<-S.pre,VP (by lia)];exact h1
  have ndP:ps.Nodup:=by rw[<-S.pre];exact S.nd.sublist (List.take_sublist _ _)
  refine⟨u,rv,?_⟩;rcases S.par y (RD hp)with k|k;{exact .inl ⟨k,vF ndP hp hu k⟩};obtain⟨c,e⟩:=xw (n:=s.heap.objs.size+1) k;refine .inr ⟨.inl k,c,e,?_⟩;have q:=x.cell y c e;rw[vg ndP hp hu (by show scope.names.lookup y≠_;rw[k];decide)]at q;exact q
 .exact e0.hok.fresh (UC (x.above y c (UJ h)))
 unfold start;show _=N.length;rw[RC,Q7,Sm];lia
def OO{CX:kO}{P:Program}{w:World}{K:WJ}{mg:WC}{base:Heap}{k:Nat}{f:Addr}{name qual:Str}{params:Arguments}{body:WY}{scope:Scope}{dV kV doc pm cdv ct oc:Value}{an od:WO}{osl:Vz}{N ps:Wb}{sp:Sp}(lk:K.lookup f=some ⟨oc,od,.func (PySem.W.fnOf name qual params body scope dV kV doc pm an cdv ct),osl⟩)(hcd:PySem.W.codeIn K cdv qual=true)(S:bD N ps scope)(len:∀vs H Q E,sp vs H Q E->vs.length=ps.length)(hbody:∀(A:Around)(outer:List Env)(s:Shared)(H:Hp)(vs:List V)(Q:VK)(E:XK),cC k (A.deeper (envOfC qual scope s.heap.objs.size f cdv))->sp vs H Q E-> ∃t,kT (c8 CX P w K mg base N qual scope f cdv A outer s H E) body t/\t { nx:=λ_ H'=>Q .aK H',rt:=Q } (start N vs) H) : dX P w K mg base CX (k+1) f (PySem.W.fnOf name qual params body scope dV kV doc pm an cdv ct) ps sp:=by
 refine⟨len,λA outer s H args us vs Q E hr e0 hb r hsp=>?_⟩;have hl:=len _ _ _ _ hsp;have KX:K.In s.heap:=e0.mod.vE.keeps λb o e=>(e0.bs b o e).1;have lim:s.heap.NoLimit:=e0.mod.nolimit.keeps λb o e=>(e0.bs b o e).1;have hkind:∀y∈ps.zip us,scope.names.lookup y.1=some .local\/(scope.names.lookup y.1=some .cell/\((cellsFrom (s.heap.objs.size+1) scope.names []).lookup y.1).isSome=true):=λ⟨n,v⟩ hy=>by rcases S.par n (Ul hy).1 with q|q;{exact .inl q};exact .inr ⟨q,PySem.W.cellsFrom_some _ _ _ (.inl q)⟩
 refine codeAny_call_function hr.depth (KX _ _ lk) rfl S.co S.gen rfl (PySem.W.codeRec_of KX hcd) (hb _ _ _ _ ?_);refine wpAny_newFunctionEnv_cells S.kind hkind λenv he s1 x=>?_;subst he;refine⟨lim.keeps x.toInCall.keep,codeAny_func ?_⟩;obtain⟨t,ht,hq⟩:=hbody A outer s H vs Q E (hr.deeper _) hsp;have I:Inv (c8 CX P w K mg base N qual scope f cdv A outer s H E) [] (start N vs) H s1:=CP S hr.hd e0 hl r x;refine Ra (ht [] s1 (start N vs) H _ I hq) (λfl s' hs=>?_) λe s' hs=>hs;have fin:∀{σ':St}{H':Hp}{v:V}{u:Value},Inv (c8 CX P w K mg base N qual scope f cdv A outer s H E) [] σ' H' s'->RelV v u->Q v H'->CE outer P w H s Q u s':=
  λ{σ' H' v u} J rv q=>⟨v,H',J.os,J.bare,J.base,J.hok,rv,q⟩
 cases fl with
 |ret u=>obtain⟨v,σ',H',J,rv,q⟩:=hs;exact fin J rv q
 |next=>obtain⟨σ',H',J,q⟩:=hs;exact fin (v:=V.aK) (u:=Value.none) J rfl q
 |brk=>obtain⟨_,_,_,q⟩:=hs;exact False.elim q
 |cont=>obtain⟨_,_,_,q⟩:=hs;exact False.elim q
section
variable{X:Cx}{x:Str}{p pos:Pos}{e:Expr}{es:WX}{t:TA}{id T:String}{r:List V->Hp->VK->Prop}
noncomputable def LB (r:List V->Hp->VK->Prop)(t:TA):TE:=λU H Q=>t U H λvs H1=>r vs H1 Q
def eZ(hc:cA X (.builtin id) r)(hg:Gl X x)(hm:X.mg x=none)(hv:bootBuiltins x=some (.builtin id))(ha:PA X (e::es) t)(hn:x≠"__name__":=by decide)(hdb:(x==("__debug__":Str))=false:=by decide)(he:starEach (e::es) X.env=(false,eval e X.env)::starEach es X.env:=by rfl)(hpl:(backTo pos (starEach es X.env)).any (·.1)=false:=by rfl):PE X (.Call (.Name x p) (e::es) [] pos) (LB r t):=by intro pins s U H Q I h;refine Tw (kh I hg hm hv ?_ hn hdb);exact Vu (aH (ha pos pins s U H _ I h) λus s1 ⟨vs,H1,I1,r1,q1⟩=>hc pins s1 U H1 vs us Q I1 r1 q1) he hpl
def kZ(hc:cA X (.type T) r)(hg:Gl X x)(hm:X.mg x=none)(hv:bootBuiltins x=some (.type T))(ha:PA X (e::es) t)(hn:x≠"__name__":=by decide)(hdb:(x==("__debug__":Str))=false:=by decide)(he:starEach (e::es) X.env=(false,eval e X.env)::starEach es X.env:=by rfl)(hpl:(backTo pos (starEach es X.env)).any (·.1)=false:=by rfl):PE X (.Call (.Name x p) (e::es) [] pos) (LB r t):=by intro pins s U H Q I h;refine Tw (kh I hg hm hv ?_ hn hdb);exact Uj (aH (ha pos pins s U H _ I h) λus s1 ⟨vs,H1,I1,r1,q1⟩=>hc pins s1 U H1 vs us Q I1 r1 q1) he hpl
def AS(hc:cA X (.type T) r)(hg:Gl X x)(hm:X.mg x=none)(hv:bootBuiltins x=some (.type T))(hn:x≠"__name__":=by decide)(hdb:(x==("__debug__":Str))=false:=by decide) : PE X (.Call (.Name x p) [] [] pos) (LB r G3):=by intro pins s U H Q I h;refine Tw (kh I hg hm hv ?_ hn hdb);exact PyProof.Rows.callWith_type0 (hc pins s U H [] [] Q I .nil h)
end
end L2
namespace HT
open PySem PyProof.Rows
section
variable{prog:Program}{w:World}{A:Around}{E:WA}{s:Shared}
def KA{t b:Addr}{vs ws:WQ}{Q:WA}(ht:IsTup s.heap t vs.toArray)(hb:IsTup s.heap b ws.toArray)(hv:vs≠[])(h1:ws=[]->Q (.ref t) s)(h2:ws≠[]->Q (.ref s.heap.objs.size) { s with heap:=s.heap.push { cls:=.type "tuple",data:=.seq (vs++ws).toArray } })(hsz:vs.length+ws.length<=sizeLine):wpAny (model prog w) A (binaryOp .Add (.ref t) (.ref b)) Q E s:=by
 obtain⟨⟨cls,dd,data,sl⟩,ho,hc,n,hd⟩:=id ht;obtain⟨⟨cls2,dd2,data2,sl2⟩,ho2,hc2,n2,hd2⟩:=id hb;simp only at hc hd hc2 hd2;subst hc hd hc2 hd2;have e:vs.toArray++ws.toArray=(vs++ws).toArray:=by simp
 by_cases hw:ws=[]
 .exact concat_meets ⟨_,ho,rfl⟩ ⟨_,ho2,rfl⟩ noFill_tuple_add seq_tuple_add PySem.F.slot_tuple_add PySem.F.entry_tuple_add (PySem.F.args_tuple_add_2 _ _)
   (tuple_addW1 t b vs.toArray ws.toArray n n2 dd dd2 sl sl2 (by simpa using hv) (by simp[hw])) ⟨ho,ho2,h1 hw⟩
 refine concat_meets ⟨_,ho,rfl⟩ ⟨_,ho2,rfl⟩ noFill_tuple_add seq_tuple_add PySem.F.slot_tuple_add PySem.F.entry_tuple_add (PySem.F.args_tuple_add_2 _ _)
  (tuple_addW2 t b vs.toArray ws.toArray n n2 dd dd2 sl sl2 (by simpa using hv) (by simpa using hw) (by rw[R9,R9];exact hsz)) ⟨ho,ho2,?_⟩
 rw[e];exact h2 hw
noncomputable def aJ (n d:Nat):Option Int->Nat
 |none=>d
 |some v=>if v<0 then(v+(n:Int)).toNat else min v.toNat n
def pU(n d k:Nat):aJ n d (some (k:Int))=min k n:=by show(if(k:Int)<0 then((k:Int)+(n:Int)).toNat else min (k:Int).toNat n)=min k n;rw[if_neg (by lia),Um]
def LD(n d:Nat)(hd:d<=n)(o:Option Int):aJ n d o<=n:=by
 cases o with
 |none=>exact hd
 |some v=>show(if v<0 then(v+(n:Int)).toNat else min v.toNat n)<=n;by_cases hv:v<0;{rw[if_pos hv];lia};rw[if_neg hv];exact VQ _ _
def Ar(v:Int) (n d:Nat):(if v<0 then max (v+(n:Int)) 0 else min v (n:Int))=((aJ n d (some v):Nat):Int):=by show(if v<0 then max (v+(n:Int)) 0 else min v (n:Int))=(((if v<0 then(v+(n:Int)).toNat else min v.toNat n):Nat):Int);by_cases hv:v<0;{simp only[if_pos hv];lia};simp only[if_neg hv];lia
def BU(lo hi:Option Int) (n:Nat):Builtin.Slice.sliceAdjust lo hi 1 (n:Int)=(((aJ n 0 lo:Nat):Int),((aJ n n hi:Nat):Int)):=by
 have h1:¬((1:Int)<0):=by lia
 unfold Builtin.Slice.sliceAdjust;simp only[h1,SW];refine SX ?_ ?_
 .cases lo with
  |none=>rfl
  |some v=>exact Ar v n 0
 cases hi with
 |none=>rfl
 |some v=>exact Ar v n n
def BG(i j:Nat):Builtin.Slice.slicePlaces (i:Int) (j:Int) 1=j-i:=by
 unfold Builtin.Slice.slicePlaces;have h1:(1:Int)>0:=by lia
 simp only[h1,if_true,Int.ediv_one];split<;>lia
def rZ{v:Value}{o:Option Int}{Q:Option Int->Shared->Prop}(p:IsPart v o)(h:Q o s):wpAny (model prog w) A (Builtin.Slice.slicePartIndex v) Q E s:=by
 cases p with
 |none=>exact slicePart_none h
 |int i t=>exact slicePart_int h
def kr{sl:Addr}{vl vu:Value}{lo hi:Option Int}{n:Nat}{Q:Int×Int×Nat->Shared->Prop}(hs:s.heap.IsSliceOf sl vl vu .none)(pl:IsPart vl lo)(pu:IsPart vu hi)(h:Q (((aJ n 0 lo:Nat):Int),1,aJ n n hi-aJ n 0 lo) s):wpAny (model prog w) A (Builtin.Slice.sliceApplied (.ref sl) (pure (n:Int))) Q E s:=by obtain⟨os,hos,hcs,hds⟩:=id hs;unfold Builtin.Slice.sliceApplied Builtin.Slice.sliceFields;refine Q0 (Q0 (Sn hos hds (x:=vl) rfl (Q0 (Sn hos hds (x:=vu) rfl (Q0 (Sn hos hds (x:=.none) rfl (Q2 ?_)))))));refine Q0 (slicePart_none ?_);show wpAny _ _ (if((1:Int)==0)=true then _ else _) _ _ s;rw[if_neg (by decide)];refine Q0 (rZ pl (Q0 (rZ pu (Q0 (Q2 ?_)))));show wpAny _ _ (match Builtin.Slice.sliceAdjust lo hi 1 (n:Int)with|(lo,hi)=>pure (lo,(1:Int),Builtin.Slice.slicePlaces lo hi 1)) _ _ s;rw[BU lo hi n];show wpAny _ _ (pure (((aJ n 0 lo:Nat):Int),(1:Int),Builtin.Slice.slicePlaces ((aJ n 0 lo:Nat):Int) ((aJ n n hi:Nat):Int) 1)) _ _ s;rw[BG];exact Q2 h
def Gg(xs:WM) (i k:Nat):((List.range k).filterMap λ(m:Nat)=>xs[((i:Int)+(m:Int)*1).toNat]?).toArray=((xs.toList.drop i).take k).toArray:=by
 have e:(λ(m:Nat)=>xs[((i:Int)+(m:Int)*1).toNat]?)=λm=>xs[i+m]?:=by
  funext m;have:((i:Int)+(m:Int)*1).toNat=i+m:=by lia
  rw[this]
 rw[e];have:=pick_run xs i k;rw[List.filterMap_map]at this;have e2:((λx=>xs[x]?)∘λx=>i+x)=λm=>xs[i+m]?:=rfl;rw[e2]at this;rw[this]
def qd{t sl:Addr}{items:WM}{vl vu:Value}{lo hi:Option Int}{Q:WA}(ht:IsTup s.heap t items)(hs:s.heap.IsSliceOf sl vl vu .none)(pl:IsPart vl lo)(pu:IsPart vu hi)(hw:¬(aJ items.size 0 lo=0/\aJ items.size items.size hi=items.size))(h:Q (.ref s.heap.objs.size) { s with heap:=s.heap.push { cls:=.type "tuple",data:=.seq ((items.toList.drop (aJ items.size 0 lo)).take (aJ items.size items.size hi-aJ items.size 0 lo)).toArray } })(hsz:items.size<=sizeLine):wpAny (model prog w) A (getItem (.ref t) (.ref sl)) Q E s:=by
 have htake:sizeOk (.seq ((items.toList.drop (aJ items.size 0 lo)).take (aJ items.size items.size hi-aJ items.size 0 lo)).toArray):=by show((items.toList.drop (aJ items.size 0 lo)).take (aJ items.size items.size hi-aJ items.size 0 lo)).toArray.size<=sizeLine;rw[R9,S9,Td,RQ];exact RM (VQ _ _) (RM (Nat.sub_le _ _) hsz)
 have hj:aJ items.size items.size hi<=items.size:=LD _ _ (Q5 _) hi;obtain⟨os,hos,hcs,hds⟩:=id hs;have hTs:s.TypeIs (.ref sl) "slice":=⟨os,hos,hcs⟩;unfold getItem;try with_reducible refine Rb ?_
 first|refine Q0 (Q2 ?_)|skip
 refine Q0 (wpAny_sequenceKey ht.typeIs (by decide) ?_);refine Q0 (Uo (name:=Str.ofString "__getitem__") ht.typeIs Uq
  (SY Uq ht.typeIs entry_tuple_getitem ?_ (args_tuple_getitem _ _)))
 show wpAny _ _ (Builtin.Tuple.tupleItemsOf (.ref t)>>=_) _ _ s;refine Q0 (tupleItemsOf_ ht ?_);refine Q0 (Tz hTs ?_);rw[if_pos (by decide)];refine Q0 (kr hs pl pu ?_);have hno:¬((((aJ items.size 0 lo:Nat):Int)==0&&(1:Int)==1&&(aJ items.size items.size hi-aJ items.size 0 lo)==items.size)=true):=by intro q;rw[Q9,Q9]at q;have q1:((aJ items.size 0 lo:Nat):Int)=0:=Te q.1.1;have q2:aJ items.size items.size hi-aJ items.size 0 lo=items.size:=Te q.2;exact hw ⟨by lia,by lia⟩
 show wpAny _ _ (if(((aJ items.size 0 lo:Nat):Int)==0&&(1:Int)==1&&(aJ items.size items.size hi-aJ items.size 0 lo)==items.size)=true then _ else _) _ _ s;rw[if_neg hno,Gg];first
  |exact Q0 (m:=Builtin.Tuple.tupleExact _) (Sq (Q2 ⟨_,rfl,Q2 h⟩) htake)
  |exact Q0 (m:=Builtin.Tuple.tupleExact _) (Sq (Q0 (Q2 (Q2 ⟨_,rfl,Q2 h⟩))) htake)
  |exact Q0 (Q0 (m:=Builtin.Tuple.tupleExact _) (Sq (Q2 (Q2 ⟨_,rfl,Q2 h⟩)) htake))
  |exact Q0 (Q0 (m:=Builtin.Tuple.tupleExact _) (Sq (Q2 ⟨_,rfl,Q2 h⟩) htake))
end
end HT
namespace L2
open PySem PySem.Spec PyProof.Rows
abbrev TO:=St->Hp->(Option Int->Hp->Prop)->Prop
noncomputable def PO (X:Cx)(e:Option Expr)(t:TO):Prop:=
 ∀(pins:WD)(s:Shared)(U:St)(H:Hp)(Q:Option Int->Hp->Prop),Inv X pins U H s->t U H Q->
  wpAny (model X.prog X.w) X.A (evalPart e X.env) (λu s'=>∃o H',Inv X pins U H' s'/\IsPart u o/\Q o H') X.xe s
def KG:TO:=λ_ H Q=>Q none H
def OL (t:TE):TO:=λU H Q=>t U H λx H1=>∃i,x=.int i/\Q (some i) H1
section
variable{X:Cx}{e:Expr}{te:TE}{lo hi:Option Expr}{tl th:TO}{pos p2:Pos}
def Kp:PO X none KG:=by intro pins s U H Q I h;rw[evalPart_none];exact Q2 ⟨none,H,I,.none,h⟩
def JV(h:PE X e te):PO X (some e) (OL te):=by intro pins s U H Q I hw;rw[evalPart_some];refine aH (h pins s U H _ I hw) λu s1 ⟨x,H1,I1,r1,q1⟩=>?_;obtain⟨i,rfl,q⟩:=q1;obtain⟨t,rfl⟩:=r1;exact⟨some i,H1,I1,.int i t,q⟩
noncomputable def Ej (X:Cx)(r:V->Option Int->Option Int->Hp->VK->Prop):Prop:=
 ∀(pins:WD)(s:Shared)(U:St)(H:Hp) (x:V)(v vl vu:Value)(lo hi:Option Int)(sl:Addr)(Q:VK),Inv X pins U H s->RelV x v->s.heap.IsSliceOf sl vl vu .none->IsPart vl lo->IsPart vu hi->r x lo hi H Q->
  ∃T id,typeLookup (.type T) "__getitem__"=pure (some (.builtin id))/\s.TypeIs v T/\wpAny (model X.prog X.w) X.A (getItem v (.ref sl)) (EP X pins U Q) X.xe s
noncomputable def Qj (r:V->Option Int->Option Int->Hp->VK->Prop)(te:TE)(tl th:TO):TE:=λU H Q=>te U H λx H1=>tl U H1 λl H2=>th U H2 λu H3=>r x l u H3 Q
def Gx{r:V->Option Int->Option Int->Hp->VK->Prop}(hr:Ej X r)(he:PE X e te)(hl:PO X lo tl)(hu:PO X hi th):PE X (.Subscript e (.Slice lo hi none p2) pos) (Qj r te tl th):=by intro pins s U H Q I h;refine Subscript_ (aH (he pins s U H _ I h) λv s1 ⟨x,H1,I1,r1,q1⟩=>?_);refine wpAny_Slice (aH (hl pins s1 U H1 _ I1 q1) λvl s2 ⟨l,H2,I2,pl,q2⟩=>aH (hu pins s2 U H2 _ I2 q2) λvu s3 ⟨u,H3,I3,pu,q3⟩=>?_);rw[evalPart_none];refine Q2 ?_;have I4:Inv X pins U H3 { s3 with heap:=s3.heap.push { cls:=.type "slice",data:=.fields #[vl,vu,.none] } }:=I3.kept (t':=s3.toks) λb ob q=>QZ _ q;obtain⟨T,id,hT,ht,hg⟩:=hr pins { s3 with heap:=s3.heap.push { cls:=.type "slice",data:=.fields #[vl,vu,.none] } } U H3 x v vl vu l u s3.heap.objs.size Q I4 r1 (Heap.IsSliceOf.new ..) pl pu q3;show wpAny (model X.prog X.w) X.A (subscriptTail e (.Slice lo hi none p2) v (.ref s3.heap.objs.size)) (EP X pins U Q) X.xe { s3 with heap:=s3.heap.push { cls:=.type "slice",data:=.fields #[vl,vu,.none] } };exact tail_any (ops:=[.ref s3.heap.objs.size,v]) ht hT hg (by with_unfolding_all rfl)
noncomputable def mO (xs:List V)(lo hi:Option Int):List V:=(xs.drop (HT.aJ xs.length 0 lo)).take (HT.aJ xs.length xs.length hi-HT.aJ xs.length 0 lo)
def qm(xs:List V)(lo hi:Option Int):(mO xs lo hi).length<=xs.length:=by unfold mO;rw[S9,Td];exact RM (VQ _ _) (Nat.sub_le _ _)
noncomputable def Pg (K:WJ):V->Option Int->Option Int->Hp->VK->Prop:=λx lo hi H Q=>∃a xs,x=.ref a/\bI K H a xs /\
 ¬(HT.aJ xs.length 0 lo=0/\HT.aJ xs.length xs.length hi=xs.length)/\∀p,H p=none->Q (.ref p) (upd H p (.tup (mO xs lo hi)))
def MD:Ej X (Pg X.K):=by
 intro pins s U H x v vl vu lo hi sl Q I rx hs pl pu h;obtain⟨a,xs,rfl,hx,hw,q⟩:=h;cases rx;obtain⟨its,r,ht,hz⟩:=I.tuple hx;have hlen:its.toArray.size=xs.length:=by rw[R9];exact r.length.symm
 refine⟨"tuple",_,Vv,ht.typeIs,?_⟩;refine HT.qd ht hs pl pu (by rw[hlen];exact hw) ?_ (by rw[hlen];exact hz);rw[hlen];refine⟨.ref s.heap.objs.size,_,I.laid (t':=s.toks) (o:=.tup (mO xs lo hi)) (λb ob q=>QZ _ q) (Q5 _) ?_,rfl,q _ (I.hok.fresh (Q5 _))⟩;exact⟨RM (qm xs lo hi) hz,_,(r.drop (HT.aJ xs.length 0 lo)).take (HT.aJ xs.length xs.length hi-HT.aJ xs.length 0 lo),IsTup.new _ _⟩
noncomputable def Hs (K:WJ):R2:=λx y H Q=>∃a b xs ys,x=.ref a/\y=.ref b/\bI K H a xs/\bI K H b ys/\xs≠[]/\xs.length+ys.length<=sizeLine /\
 (ys=[]->Q (.ref a) H)/\(ys≠[]->∀p,H p=none->Q (.ref p) (upd H p (.tup (xs++ys))))
def Vals.uD{xs:List V}{us:WQ}(r:Vals xs us):us=[]↔xs=[]:=by
 cases r with
 |nil=>simp
 |cons _ _=>simp
def Ke:bC X (binaryOp .Add) (Hs X.K):=by intro pins s U H x y v u Q I rx ry h;obtain⟨a,b,xs,ys,rfl,rfl,ha,hb,hx,hz,q1,q2⟩:=h;cases rx;cases ry;obtain⟨its,r1,p1,_⟩:=I.tuple ha;obtain⟨its2,r2,p2,_⟩:=I.tuple hb;refine HT.KA p1 p2 (λz=>hx (r1.uD.mp z)) (λz=>⟨.ref a,H,I,rfl,q1 (r2.uD.mp z)⟩) (λz=>?_) (by rw[<-r1.length,<-r2.length];exact hz);refine⟨.ref s.heap.objs.size,_,I.laid (t':=s.toks) (o:=.tup (xs++ys)) (λb ob q=>QZ _ q) (Q5 _) ?_,rfl,q2 (λw=>z (r2.uD.mpr w)) _ (I.hok.fresh (Q5 _))⟩;exact⟨by rw[RC];exact hz,_,r1.append r2,IsTup.new _ _⟩
end
noncomputable def kC (n:Nat) (i:Int):Option Nat:=if 0<=i then(if i<n then some i.toNat else none)else if-(n:Int)<=i then some (i+n).toNat else none
noncomputable def dM {α:Type}(xs:List α) (i:Int):Option α:=(kC xs.length i).bind λj=>xs[j]?
def Au{n:Nat}{i:Int}{j:Nat}(h:kC n i=some j):seqIndex? i n=some j/\j<n/\-(n:Int)<=i/\i<n:=by unfold kC at h;by_cases h0:0<=i;{rw[if_pos h0]at h;by_cases h1:i<n;{rw[if_pos h1]at h;have e:i.toNat=j:=Option.some.inj h;exact⟨by rw[seqIndex_of h0 h1,e],by lia,by lia,h1⟩};rw[if_neg h1]at h;cases h};rw[if_neg h0]at h;by_cases h1:-(n:Int)<=i;{rw[if_pos h1]at h;have e:(i+n).toNat=j:=Option.some.inj h;exact⟨by rw[seqIndex_neg (by lia) h1,e],by lia,h1,by lia⟩};rw[if_neg h1]at h;cases h
def uz{α:Type}{xs:List α}{i:Int}{v:α}(h:dM xs i=some v):∃j,seqIndex? i xs.length=some j/\xs[j]?=some v/\j<xs.length/\-(xs.length:Int)<=i/\i<xs.length:=by
 unfold dM at h;cases e:kC xs.length i with
 |none=>rw[e]at h;cases h
 |some j=>rw[e]at h;obtain⟨h1,h2,h3,h4⟩:=Au e;exact⟨j,h1,h,h2,h3,h4⟩
def zZ{α:Type}{xs:List α}{j:Nat}{v:α}(h:xs[j]?=some v):dM xs (j:Int)=some v:=by
 have hj:j<xs.length:=(RW.mp h).1;have e:kC xs.length (j:Int)=some j:=by unfold kC;rw[if_pos (by lia),if_pos (by lia)];simp
 unfold dM;rw[e];exact h
noncomputable def mJ (b:Expr):Prop:=∀o i,subscripted b false o i=operate [o,i] (getItem o i)
noncomputable def n9 (X:Cx)(r:R2):Prop:=
 ∀(value slice:Expr)(pins:WD)(s:Shared)(U:St)(H:Hp) (x y:V)(v u:Value)(Q:VK),Inv X pins U H s->RelV x v->RelV y u->r x y H Q->
  subscripted slice false v u=operate [v,u] (getItem v u)->wpAny (model X.prog X.w) X.A (subscriptTail value slice v u) (EP X pins U Q) X.xe s
noncomputable def Hu (X:Cx)(id:String)(r:V->List V->Hp->VK->Prop):Prop:=
 ∀(pins:WD)(s:Shared)(U:St)(H:Hp) (x:V)(xs:List V)(v:Value)(us:WQ)(Q:VK),Inv X pins U H s->RelV x v->Vals xs us->r x xs H Q->
  wpAny (model X.prog X.w) X.A (call (.builtin id) (v::us)) (EP X pins U Q) X.xe s
section
variable{X:Cx}{a b:Expr}{ta tb:TE}{pos:Pos}
def n9.or{r r':R2}(h:n9 X r)(h':n9 X r'):n9 X (λx y H Q=>r x y H Q\/r' x y H Q):=by intro value slice pins s U H x y v u Q I rx ry q hs;rcases q with q|q;{exact h value slice pins s U H x y v u Q I rx ry q hs};exact h' value slice pins s U H x y v u Q I rx ry q hs
def vW{r:R2}(hr:n9 X r)(ha:PE X a ta)(hb:PE X b tb)(hs:mJ b):PE X (.Subscript a b pos) (Hh r ta tb):=by intro pins s U H Q I h;exact Subscript_ (FU ha hb I h λv u s2 x y H2 I2 rx ry q=>hr a b pins s2 U H2 x y v u Q I2 rx ry q (hs _ _))
inductive Iu(K:WJ) (x:V) (y:V)(H:Hp)(Q:VK):Prop
 |mk:∀p xs i v,(x=.ref p)->(y=.int i)->(bQ K H p xs)->(dM xs i=some v)->(Q v H)->Iu K x y H Q
def Ni (K:WJ):R2:=λx y H Q=>Iu K x y H Q
inductive IX(K:WJ) (x:V) (y:V)(H:Hp)(Q:VK):Prop
 |mk:∀p xs i v,(x=.ref p)->(y=.int i)->(bI K H p xs)->(dM xs i=some v)->(Q v H)->IX K x y H Q
def LK (K:WJ):R2:=λx y H Q=>IX K x y H Q
inductive HB(x:V) (y:V)(H:Hp)(Q:VK):Prop
 |mk:∀z i c,(x=.str z)->(y=.int i)->(z.length<=sizeLine)->(dM z.cps.toList i=some c)->(Q (.str ⟨#[c]⟩) H)->HB x y H Q
def Ny:R2:=λx y H Q=>HB x y H Q
def Kn:n9 X (Ni X.K):=by
 intro value slice pins s U H x y v u Q I rx ry h hs;obtain⟨p,xs,i,z,rfl,rfl,hq,he,q⟩:=h;cases rx;obtain⟨t,rfl⟩:=ry;obtain⟨its,r,pl,hz⟩:=I.list hq;obtain⟨j,h1,h2,h3,h4,h5⟩:=uz he;obtain⟨w,ew,rw'⟩:=r.get h2;have hl:=r.length;have hn:=mG;have fin:EP X pins U Q w s:=⟨z,H,I,rw',q⟩;by_cases h0:0<=i
 .have hj:i.toNat=j:=by rw[seqIndex_of h0 h5]at h1;exact Option.some.inj h1
  exact item_listR pl.isList h0 (by lia) (by rw[hj];simpa using ew) fin hs
 have hj:(i+(its.toArray.size:Int)).toNat=j:=by rw[seqIndex_neg (by lia) h4]at h1;rw[R9,<-hl];exact Option.some.inj h1
 exact subscriptTail_builtinR (x:=w) pl.isList.typeIs slot_list_getitem.lookup
  (wpAny_getItem_list_neg (Q:=λr s'=>r=w/\EP X pins U Q r s') pl.isList (by lia) (by rw[R9]<;>lia) (by lia) (by rw[hj];simpa using ew) ⟨rfl,fin⟩) hs
def xQ:n9 X (LK X.K):=by
 intro value slice pins s U H x y v u Q I rx ry h hs;obtain⟨p,xs,i,z,rfl,rfl,hq,he,q⟩:=h;cases rx;obtain⟨t,rfl⟩:=ry;obtain⟨its,r,pl,hz⟩:=I.tuple hq;obtain⟨j,h1,h2,h3,h4,h5⟩:=uz he;obtain⟨w,ew,rw'⟩:=r.get h2;have hl:=r.length;have hn:=mG;have fin:EP X pins U Q w s:=⟨z,H,I,rw',q⟩;exact subscriptTail_builtinR (x:=w) pl.typeIs slot_tuple_getitem.lookup
  (getItem_tuple (j:=j) (Q:=λr s'=>r=w/\EP X pins U Q r s') pl (by lia) (by lia) (by rw[R9,<-hl];exact h1) (by simpa using ew) ⟨rfl,fin⟩) hs
def Li:n9 X Ny:=by
 intro value slice pins s U H x y v u Q I rx ry h hs;obtain⟨z,i,c,rfl,rfl,hz,he,q⟩:=h;obtain⟨t,rfl⟩:=rx;obtain⟨t',rfl⟩:=ry;obtain⟨j,h1,h2,h3,h4,h5⟩:=uz he;have hl:z.cps.toList.length=z.length:=by simp[Str.length]
 rw[hl]at h1 h4 h5;have hn:=mG;exact tail_any (typeIs_str s z t) slot_str_getitem.lookup (getItem_str (c:=c) (by
  have e1:decide (i < -(2^63:Int))=false:=Rm (by lia)
  have e2:decide (i >= 2^63)=false:=Rm (by lia)
  rw[e1,e2,Bool.or_false]) (by rw[h1];simpa using h2) ⟨.str ⟨#[c]⟩,H,I.tok _,⟨_,rfl⟩,q⟩) hs
def Lu (K:WJ):R2:=λx y H Q=>Ni K x y H Q\/LK K x y H Q\/Ny x y H Q
def Em:n9 X (Lu X.K):=Kn.or (xQ.or Li)
def B7(its:WQ) (n j:Nat)(u:Value):Obj.mapSeq (·.setIfInBounds j u) { cls:=.type "list",data:=.seq its.toArray n }={ cls:=.type "list",data:=.seq (its.set j u).toArray n }:=by simp[Obj.mapSeq]
theorem Inv.lst{pins:WD}{U:St}{H:Hp}{s:Shared}{p:Addr}{xs:List V}(I:Inv X pins U H s)(h:H p=some (.lst xs)) : ∃(its:WQ) (n:Nat),Vals xs its/\s.heap.get? p=some { cls:=.type "list",data:=.seq its.toArray n }/\xs.length<=sizeLine:=by obtain⟨z,its,n,r,e⟩:=I.hok p _ h;exact⟨its,n,r,e,z⟩
def Inv.ND{pins:WD}{U:St}{H:Hp}{s:Shared}{p:Addr}{xs ys:List V}{its its':WQ}{n n':Nat}{f:Obj->Obj}(I:Inv X pins U H s)(h:H p=some (.lst xs))(ho:s.heap.get? p=some { cls:=.type "list",data:=.seq its.toArray n })(hf:f { cls:=.type "list",data:=.seq its.toArray n }={ cls:=.type "list",data:=.seq its'.toArray n' })(r:Vals ys its')(hz:ys.length<=sizeLine) (t:Nat) : Inv X pins U (upd H p (.lst ys)) { s with heap:=s.heap.update p f,toks:=t }:=by
 have e:(s.heap.update p f).get? p=some { cls:=.type "list",data:=.seq its'.toArray n' }:=by rw[SJ f ho (by rw[hf]<;>rfl),hf]
 refine I.write (x:=p) (e:=p) (by rw[h];trivial) (.inl rfl) (λb u hb q=>(Rx _ _ (Ne.symm hb)).trans q) ⟨_,e⟩ ?_;exact⟨hz,its',n',r,e⟩
inductive Er(o:V) (i:V) (v:V)(H:Hp)(Q:(Hp->Prop)):Prop
 |mk:∀p xs k j,(o=.ref p)->(i=.int k)->(H p=some (.lst xs))->(kC xs.length k=some j)->(Q (upd H p (.lst (xs.set j v))))->Er o i v H Q
def Ir:V->V->V->Hp->(Hp->Prop)->Prop:=λo i v H Q=>Er o i v H Q
def set_list:GG X Ir:=by
 intro pins s U H o i v ov iv u Q I ro ri rv h;obtain⟨p,xs,k,j,rfl,rfl,hp,hj,q⟩:=h;cases ro;obtain⟨t,rfl⟩:=ri;obtain⟨its,n,r,ho,hz⟩:=I.lst hp;obtain⟨h1,h2,h3,h4⟩:=Au hj;have hl:=r.length;have hn:=mG;have I':Inv X pins U (upd H p (.lst (xs.set j v))) { s with heap:=s.heap.update p (Obj.mapSeq (·.setIfInBounds j u)) }:=
  I.ND hp ho (B7 its n j u) (r.set rv j) (by rw[Rf];exact hz) s.toks
 by_cases h0:0<=k
 .have hk:k.toNat=j:=by rw[seqIndex_of h0 h4]at h1;exact Option.some.inj h1
  exact PySem.W.ki_setAt ho h0 (by lia) (by rw[R9,<-hl];exact h4) (by rw[hk];exact⟨_,I',q⟩)
 have hk:(k+(its.toArray.size:Int)).toNat=j:=by rw[seqIndex_neg (by lia) h3]at h1;rw[R9,<-hl];exact Option.some.inj h1
 exact PySem.W.ki_setBack ho (by lia) (by rw[R9,<-hl];exact h3) (by lia) (by rw[hk];exact⟨_,I',q⟩)
def yJ(lo hi:Option Int) (n:Nat):(sliceBounds lo hi none n).1=((HT.aJ n 0 lo:Nat):Int)/\(sliceBounds lo hi none n).2.1=((HT.aJ n n hi:Nat):Int)/\(sliceBounds lo hi none n).2.2=1:=by
 have one:∀i:Int,(sliceBounds (some i) none none n).1=((HT.aJ n 0 (some i):Nat):Int):=λi=>by simp only[sliceBounds,HT.aJ,Option.getD_none,show(1:Int)>0 by decide,if_true];by_cases h:i<0;{simp only[h,if_true]<;>lia};simp only[h,SW]<;>lia
 refine⟨?_,?_,rfl⟩
 .cases lo with
  |none=>simp[sliceBounds,HT.aJ]
  |some i=>exact one i
 cases hi with
 |none=>simp[sliceBounds,HT.aJ]
 |some i=>exact one i
def vU(its:WQ)(lo hi:Option Int):slicePick its.toArray lo hi none=((its.drop (HT.aJ its.length 0 lo)).take (HT.aJ its.length its.length hi-HT.aJ its.length 0 lo)).toArray:=by obtain⟨h1,h2,h3⟩:=yJ lo hi its.toArray.size;unfold slicePick;rw[h1,h2,h3];simp only[sliceRange_one,pick_run,R9]<;>rfl
inductive Iv(K:WJ) (x:V)(lo:Option Int)(hi:Option Int)(H:Hp)(Q:VK):Prop
 |mk:∀a xs,(x=.ref a)->(bQ K H a xs)->(∀p,H p=none->Q (.ref p) (upd H p (.lst (mO xs lo hi))))->Iv K x lo hi H Q
noncomputable def LG (K:WJ):V->Option Int->Option Int->Hp->VK->Prop:=λx lo hi H Q=>Iv K x lo hi H Q
def JM:Ej X (LG X.K):=by intro pins s U H x v vl vu lo hi sl Q I rx hs pl pu h;obtain⟨a,xs,rfl,hx,q⟩:=h;cases rx;obtain⟨its,r,ht,hz⟩:=I.list hx;have hlen:=r.length;refine⟨"list",_,slot_list_getitem.lookup,ht.isList.typeIs,?_⟩;refine wpAny_getItem_list_slice ht.isList hs pl pu .none (by simp) ?_ (by rw[R9]<;>lia);rw[vU,<-hlen];refine⟨.ref s.heap.objs.size,_,I.laid (t':=s.toks) (o:=.lst (mO xs lo hi)) (λb ob q=>QZ _ q) (Q5 _) ?_,rfl,q _ (I.hok.fresh (Q5 _))⟩;exact⟨RM (qm xs lo hi) hz,_,0,(r.drop (HT.aJ xs.length 0 lo)).take (HT.aJ xs.length xs.length hi-HT.aJ xs.length 0 lo),Rc _ rfl⟩
noncomputable def gQ:V->Bool
 |.aK=>true
 |.bl _=>true
 |.int _=>true
 |.str _=>true
 |_=>false
noncomputable def oZ:V->V->Bool
 |.aK,.aK=>true
 |.bl a,.bl b=>a==b
 |.bl a,.int b=>(if a then 1 else 0)==b
 |.int a,.bl b=>a==(if b then 1 else 0)
 |.int a,.int b=>a==b
 |.str a,.str b=>a==b
 |_,_=>false
def Nf{A:Around}{s:Shared}{y x:V}{u v:Value}(ry:RelV y u)(rx:RelV x v)(fy:gQ y=true)(fx:gQ x=true):SeqAt.EqAt A s u v (oZ y x):=by
 cases y with
 |aK=>
  cases ry;cases x with
  |aK=>cases rx;exact SeqAt.EqAt.same _
  |bl b=>cases rx;exact SeqAt.EqAt.none_bool b
  |int b=>obtain⟨t,rfl⟩:=rx;exact SeqAt.EqAt.none_int b t
  |str b=>obtain⟨t,rfl⟩:=rx;exact SeqAt.EqAt.none_str b t
  |_=>exact absurd (show false=true from fx) QV
 |bl a=>
  cases ry;cases x with
  |aK=>cases rx;exact SeqAt.EqAt.bool_none a
  |bl b=>cases rx;exact SeqAt.EqAt.bool_bool a b
  |int b=>obtain⟨t,rfl⟩:=rx;exact SeqAt.EqAt.bool_int a b t
  |str b=>obtain⟨t,rfl⟩:=rx;exact SeqAt.EqAt.bool_str a b t
  |_=>exact absurd (show false=true from fx) QV
 |int a=>
  obtain⟨t',rfl⟩:=ry;cases x with
  |aK=>cases rx;exact SeqAt.EqAt.int_none a t'
  |bl b=>cases rx;exact SeqAt.EqAt.int_bool a t' b
  |int b=>obtain⟨t,rfl⟩:=rx;exact SeqAt.EqAt.int_int a t' b t
  |str b=>obtain⟨t,rfl⟩:=rx;exact SeqAt.EqAt.int_str a t' b t
  |_=>exact absurd (show false=true from fx) QV
 |str a=>
  obtain⟨t',rfl⟩:=ry;cases x with
  |aK=>cases rx;exact SeqAt.EqAt.str_none a t'
  |bl b=>cases rx;exact SeqAt.EqAt.str_bool a t' b
  |int b=>obtain⟨t,rfl⟩:=rx;exact SeqAt.EqAt.str_int a t' b t
  |str b=>obtain⟨t,rfl⟩:=rx;exact SeqAt.EqAt.str_str a t' b t
  |_=>exact absurd (show false=true from fx) QV
 |_=>exact absurd (show false=true from fy) QV
noncomputable def oO (x:V)(u:Value):Bool:=match u with
 |.none=>oZ .aK x
 |.bool b=>oZ (.bl b) x
 |.int i _=>oZ (.int i) x
 |.str z _=>oZ (.str z) x
 |_=>false
def yG{x y:V}{u:Value}(r:RelV y u)(f:gQ y=true):oO x u=oZ y x:=by
 cases y with
 |aK=>cases r;rfl
 |bl b=>cases r;rfl
 |int i=>obtain⟨t,rfl⟩:=r;rfl
 |str z=>obtain⟨t,rfl⟩:=r;rfl
 |_=>exact absurd (show false=true from f) QV
theorem tZ{x:V}:∀{xs:List V}{us:WQ},Vals xs us->xs.all gQ=true->us.any (oO x)=xs.any λy=>oZ y x
 |_,_,.nil,_=>rfl
 |y::xs,u::us,.cons r t,f=>by rw[QY,Q9]at f;rw[Sb,Sb,yG r f.1,tZ t f.2]
theorem nJ{A:Around}{s:Shared}{x:V}{v:Value}(rx:RelV x v)(fx:gQ x=true):∀{xs:List V}{us:WQ},Vals xs us->xs.all gQ=true->∀u∈us,SeqAt.EqAt A s u v (oO x u)
 |_,_,.nil,_=>λu hu=>by cases hu
 |y::xs,u::us,.cons r t,f=>λu' hu=>by rw[QY,Q9]at f;rcases QX.mp hu with rfl|hu;{rw[yG r f.1];exact Nf r rx f.1 fx};exact nJ rx fx t f.2 u' hu
def D5 (x:V)(xs:List V):Bool:=xs.any λy=>oZ y x
inductive KU(K:WJ)(neg:Bool) (x:V) (y:V)(H:Hp)(Q:VK):Prop
 |mk:∀p xs,(y=.ref p)->((bQ K H p xs\/bI K H p xs))->(gQ x=true)->(xs.all gQ=true)->(Q (.bl (if neg then !D5 x xs else D5 x xs)) H)->KU K neg x y H Q
def QK (K:WJ)(neg:Bool):R2:=λx y H Q=>KU K neg x y H Q
def EF:bC X (compareOp .In) (QK X.K false):=by intro pins s U H x y v u Q I rx ry h;obtain⟨p,xs,rfl,hq,fx,fs,q⟩:=h;cases ry;rcases hq with hq|hq;{obtain⟨its,r,pl,hz⟩:=I.list hq;refine SeqAt.in_listAt (oO x) pl.isList (λw hw=>nJ rx fx r fs w (by simpa using hw)) ⟨.bl _,H,I,rfl,?_⟩;rw[show its.toArray.any (oO x)=its.any (oO x)by simp,tZ r fs];exact q};obtain⟨its,r,pl,hz⟩:=I.tuple hq;refine SeqAt.in_tupleAt (oO x) pl (λw hw=>nJ rx fx r fs w (by simpa using hw)) ⟨.bl _,H,I,rfl,?_⟩;rw[show its.toArray.any (oO x)=its.any (oO x)by simp,tZ r fs];exact q
def wH:cA X (.builtin "len") (λxs H Q=>∃p ys,xs=[.ref p]/\(bQ X.K H p ys\/bI X.K H p ys)/\Q (.int ys.length) H):=by intro pins s U H xs us Q I r h;obtain⟨p,ys,rfl,hq,q⟩:=h;obtain⟨u,rfl,rx⟩:=vals1 r;cases rx;have hn:=mG;rcases hq with hq|hq;{obtain⟨its,r',pl,hz⟩:=I.list hq;have hlen:=r'.length;exact Calls.call_len_list pl.isList (by simp only[R9]<;>lia) ⟨.int ys.length,H,I.tok _,⟨s.toks+1,by rw[R9,hlen]⟩,q⟩};obtain⟨its,r',pl,hz⟩:=I.tuple hq;have hlen:=r'.length;exact len_tuple pl (by simp only[R9]<;>lia) ⟨.int ys.length,H,I.tok _,⟨s.toks+1,by rw[R9,hlen]⟩,q⟩
def cA.or{f:Value}{r r':List V->Hp->VK->Prop}(h:cA X f r)(h':cA X f r'):cA X f (λxs H Q=>r xs H Q\/r' xs H Q):=by intro pins s U H xs us Q I rs q;rcases q with q|q;{exact h pins s U H xs us Q I rs q};exact h' pins s U H xs us Q I rs q
def we:cA X (.type "list") (λxs H Q=>∃p ys,xs=[.ref p]/\(bQ X.K H p ys\/bI X.K H p ys)/\∀l,H l=none->Q (.ref l) (upd H l (.lst ys))):=by
 intro pins s U H xs us Q I r h;obtain⟨p,ys,rfl,hq,q⟩:=h;obtain⟨u,rfl,rx⟩:=vals1 r;cases rx;have fin:∀(its:WQ),Vals ys its->ys.length<=sizeLine->∀(h':Heap) (c':Nat),(∀b o',s.heap.get? b=some o'->h'.get? b=some o')->
   h'.get? s.heap.objs.size=some { cls:=.type "list",dict:=none,data:=.seq its.toArray c',slots:=#[] }->EP X pins U Q (.ref s.heap.objs.size) { s with heap:=h' }:=λits r' hz h' c' kp e=>
  ⟨.ref s.heap.objs.size,_,I.laid (t':=s.toks) kp (Q5 _) (show bT X.prog X.w _ h' _ (.lst ys)from⟨hz,its,c',r',e⟩),rfl,q _ (I.hok.fresh (Q5 _))⟩
 rcases hq with hq|hq;{obtain⟨its,r',pl,hz⟩:=I.list hq;have hlen:=r'.length;obtain⟨o,ho,hc,n,hd⟩:=pl.isList;exact call_list_seq p (.inl rfl) ho hc hd (λh' c' kp e=>fin its r' hz h' c' kp e) (by simp only[R9]<;>lia)};obtain⟨its,r',pl,hz⟩:=I.tuple hq;have hlen:=r'.length;obtain⟨o,ho,hc,n,hd⟩:=pl;exact call_list_seq p (.inr rfl) ho hc hd (λh' c' kp e=>fin its r' hz h' c' kp e) (by simp only[R9]<;>lia)
def oi:cA X (.type "tuple") (λxs H Q=>∃p ys,xs=[.ref p]/\((bQ X.K H p ys/\∀l,H l=none->Q (.ref l) (upd H l (.tup ys)))\/(bI X.K H p ys/\Q (.ref p) H))):=by
 intro pins s U H xs us Q I r h;obtain⟨p,ys,rfl,h⟩:=h;obtain⟨u,rfl,rx⟩:=vals1 r;cases rx;rcases h with⟨hq,q⟩|⟨hq,q⟩
 .obtain⟨its,r',pl,hz⟩:=I.list hq;have hlen:=r'.length;refine call_tuple_list pl.isList (λh' kp=>?_) (by simp only[R9]<;>lia);have I1:Inv X pins U H { s with heap:=h' }:=I.kept (t':=s.toks) kp;have I2:Inv X pins U (upd H h'.objs.size (.tup ys)) { s with heap:=h'.push { cls:=.type "tuple",data:=.seq its.toArray } }:=
   I1.laid (t':=s.toks) (λb o e=>QZ _ e) (Q5 _) (show bT X.prog X.w _ _ _ (.tup ys)from⟨hz,its,r',IsTup.new _ _⟩)
  exact⟨.ref h'.objs.size,_,I2,rfl,q _ (I1.hok.fresh (Q5 _))⟩
 obtain⟨its,r',pl,hz⟩:=I.tuple hq;exact call_tuple_same pl ⟨.ref p,H,I,rfl,q⟩
noncomputable def LO (K:WJ)(T:String) (x:V)(H:Hp):Prop:=match x with
 |.str _=>T="str"
 |.int _=>T="int"
 |.ref p=>(T="list"/\∃xs,bQ K H p xs)\/(T="tuple"/\∃o,K.lookup p=some o/\o.cls=.type "tuple"/\o.dict=none) \/
   (T="dict"/\((∃kvs,H p=some (.dK kvs))\/∃kvs,H p=some (.dT kvs)))\/(T="set"/\∃S n,H p=some (.set S n))
 |_=>False
def DO{pins:WD}{U:St}{H:Hp}{s:Shared}{T:String}{x:V}{v:Value}(I:Inv X pins U H s)(r:RelV x v)(ty:LO X.K T x H) : s.TypeIs v T/\∀a,v=.ref a->∃ob,s.heap.get? a=some ob/\ob.dict=none:=by
 cases x with
 |str z=>obtain⟨t,rfl⟩:=r;cases (show T="str" from ty);exact⟨typeIs_str s z t,λ_ e=>nomatch e⟩
 |int i=>obtain⟨t,rfl⟩:=r;cases (show T="int" from ty);exact⟨typeIs_int s i t,λ_ e=>nomatch e⟩
 |ref p=>
  cases r;rcases ty with⟨rfl,xs,hq⟩|⟨rfl,o,hk,hc,hd⟩|⟨rfl,hk⟩|⟨rfl,S,n,hk⟩;{obtain⟨its,_,pl,_⟩:=I.list hq;refine⟨pl.isList.typeIs,λa e=>?_⟩;cases e;obtain⟨o,n,e,c,hd,_⟩:=pl;exact⟨o,e,hd⟩};{refine⟨⟨o,I.fT p o hk,hc⟩,λa e=>?_⟩;cases e;exact⟨o,I.fT _ o hk,hd⟩}
  .have z:∃o,s.heap.get? p=some o/\o.ExactDict:=by rcases hk with⟨kvs,hk⟩|⟨kvs,hk⟩;{obtain⟨_,_,_,_,o,_,_,e,ex,_⟩:=I.hok p _ hk;exact⟨o,e,ex⟩};obtain⟨_,_,_,_,o,_,_,e,ex,_⟩:=I.hok p _ hk;exact⟨o,e,ex⟩
   obtain⟨o,e,ex⟩:=z;refine⟨⟨o,e,ex.1⟩,λa e2=>?_⟩;cases e2;exact⟨o,e,ex.2.1⟩
  obtain⟨o,_,_,_,e,ex,_⟩:=I.hok p _ hk;refine⟨⟨o,e,ex.1⟩,λa e2=>?_⟩;cases e2;exact⟨o,e,ex.2.1⟩
 |_=>exact False.elim ty
noncomputable def Pn (K:WJ)(T:String)(r:V->List V->Hp->VK->Prop)(to:TE):TE:=λU H Q=>to U H λx H1=>LO K T x H1/\r x [] H1 Q
noncomputable def Qn (K:WJ)(T:String)(r:V->List V->Hp->VK->Prop)(to:TE)(t:TA):TE:=λU H Q=>to U H λx H1=>LO K T x H1/\t U H1 λxs H2=>r x xs H2 Q
variable{o e:Expr}{es:WX}{to:TE}{t:TA}{name:Str}{apos cpos:Pos}{T id:String}{r:V->List V->Hp->VK->Prop}
def Me(pa:PlainAttrs T)(slot:Slot T name id)(hty:typeOf (.builtin id)=pure (.type "method_descriptor"))(hm:Hu X id r)(ho:PE X o to)(hbase:attributeBase o name X.env (eval o X.env)=eval o X.env:=by rfl)(hline:(apos.endLine==cpos.line)=true:=by rfl):PE X (.Call (.Attribute o name apos) [] [] cpos) (Pn X.K T r to):=by intro pins s U H Q I h;refine wpAny_Call_method0_late hbase hline (aH (ho pins s U H _ I h) λv s1 ⟨x,H1,I1,r1,ty,q1⟩=>?_);obtain⟨h1,h2⟩:=DO I1 r1 ty;exact⟨T,id,pa,slot,hty,h1,h2,Ur rfl (PySem.evalArgs_none (hm pins s1 U H1 x [] v [] Q I1 r1 .nil q1))⟩
def v9(pa:PlainAttrs T)(slot:Slot T name id)(hty:typeOf (.builtin id)=pure (.type "method_descriptor"))(hm:Hu X id r)(ho:PE X o to)(ha:PA X (e::es) t)(hbase:attributeBase o name X.env (eval o X.env)=eval o X.env:=by rfl)(hfew:((backTo cpos (starEach (e::es) X.env)).all (λx=>!x.1)&&(backToKw cpos (keywordEach [] X.env)).all (λx=>x.1.isSome) && decide ((e::es).length+([]:List Keyword).length+(if([]:List Keyword).isEmpty then 0 else 1)<30))=true:=by rfl)(hline:(apos.endLine==cpos.line)=true:=by rfl)(hs:starEach (e::es) X.env=(false,eval e X.env)::starEach es X.env:=by rfl)(hplain:(backTo cpos (starEach es X.env)).any (·.1)=false:=by rfl) : PE X (.Call (.Attribute o name apos) (e::es) [] cpos) (Qn X.K T r to t):=by intro pins s U H Q I h;refine wpAny_Call_method_late hbase hfew hline rfl (aH (ho pins s U H _ I h) λv s1 ⟨x,H1,I1,r1,ty,q1⟩=>?_);obtain⟨h1,h2⟩:=DO I1 r1 ty;refine⟨T,id,pa,slot,hty,h1,h2,?_⟩;have hA:=ha cpos pins s1 U H1 _ I1 q1;rw[hs]at hA⊢;refine Ur (by show(false||(backTo cpos (starEach es X.env)).any (·.1))=false;rw[hplain]<;>rfl) (Us ?_);exact aH hA λus s2 ⟨vs,H2,I2,r2,q2⟩=>hm pins s2 U H2 x vs v us Q I2 r1 r2 q2
end
noncomputable def nV (X:Cx)(id:String)(r:V->List V->Hp->VK->Prop):Prop:=
 ∀(pins:WD)(s:Shared)(U:St)(H:Hp) (x:V)(xs:List V)(v:Value)(us:WQ)(Q:VK),Inv X pins U H s->RelV x v->Vals xs us->r x xs H Q->
  wpAny (model X.prog X.w) X.A (call (.builtin id) (v::us)) (EP X pins U Q) X.xe s
def Vals.one{x:V}{us:WQ}(h:Vals [x] us):∃u,us=[u]/\RelV x u:=by cases h with|cons r t=>cases t;exact⟨_,rfl,r⟩
def Vals.two{x y:V}{us:WQ}(h:Vals [x,y] us):∃u v,us=[u,v]/\RelV x u/\RelV y v:=by cases h with|cons r t=>cases t with|cons q t=>cases t;exact⟨_,_,rfl,r,q⟩
def Vals.zero:∀{us:WQ},Vals [] us->us=[]
 |_,.nil=>rfl
theorem Vals.dropLast{xs:List V}{us:WQ}(h:Vals xs us):Vals xs.dropLast us.dropLast:=by
 induction h with
 |nil=>exact .nil
 |cons r t ih=>
  cases t with
  |nil=>exact .nil
  |cons q t'=>exact .cons r ih
theorem Vals.eraseIdx:∀{xs:List V}{us:WQ} (i:Nat),Vals xs us->Vals (xs.eraseIdx i) (us.eraseIdx i)
 |_,_,_,.nil=>.nil
 |_,_,0,.cons _ t=>t
 |_,_,i+1,.cons r t=>.cons r (Vals.eraseIdx i t)
theorem Vals.rep{xs:List V}{us:WQ}(h:Vals xs us):∀k:Nat,Vals (List.replicate k xs).flatten (List.replicate k us).flatten
 |0=>.nil
 |k+1=>by rw[Ss,Ss,Tf,Tf];exact Vals.append h (Vals.rep h k)
def Bd{α:Type}(l:List α):l.eraseIdx (l.length-1)=l.dropLast:=by
 induction l with
 |nil=>rfl
 |cons a r ih=>
  cases r with
  |nil=>rfl
  |cons b r=>
   have e:(a::b::r).length-1=((b::r).length-1)+1:=by have h1:(a::b::r).length=r.length+2:=rfl;have h2:(b::r).length=r.length+1:=rfl;lia
   rw[e,U0,ih];all_goals rfl
theorem uZ{α:Type}:∀(l:List α) (i:Nat),(l.eraseIdx i).length<=l.length
 |[],_=>Q5 _
 |_::_,0=>U1 _
 |_::r,i+1=>Nat.succ_le_succ (uZ r i)
theorem foldl_rep(its:WQ):∀(k:Nat)(acc:WQ), List.foldl (λx1 x2=>x1++x2) acc.toArray (List.replicate k its.toArray)=(acc++(List.replicate k its).flatten).toArray
 |0,acc=>by simp
 |k+1,acc=>by
  have e:acc.toArray++its.toArray=(acc++its).toArray:=by simp
  have e2:(acc++its)++(List.replicate k its).flatten=acc++(List.replicate (k+1) its).flatten:=by rw[Ss,Tf,RY]
  rw[<-e2,<-foldl_rep its k (acc++its),<-e,Ss,List.foldl_cons]
section
variable{X:Cx}{pins:WD}{U:St}{H:Hp}{s:Shared}{l b:Addr}{xs ys zs:List V}
def Inv.w4{its its':WQ}{n:Nat}{f:WM->WM}{t':Nat}(I:Inv X pins U H s)(hH:H l=some (.lst xs))(e:s.heap.get? l=some { cls:=.type "list",data:=.seq its.toArray n })(hf:f its.toArray=its'.toArray)(hv:Vals ys its')(hz:ys.length<=sizeLine) : Inv X pins U (upd H l (.lst ys)) { s with heap:=s.heap.update l (Obj.mapSeq f),toks:=t' }:=by have q:=PySem.IsL.update e f;rw[hf]at q;refine I.write (x:=l) (e:=l) (by rw[hH];exact trivial) (.inl rfl) (λb' u hb hu=>(Rx s.heap (Obj.mapSeq f) (Ne.symm hb)).trans hu) ⟨_,q⟩ ?_;exact⟨hz,its',_,hv,q⟩
def Inv.Nr{its:WQ}{t':Nat}(I:Inv X pins U H s)(hv:Vals ys its)(hz:ys.length<=sizeLine) : Inv X pins U (upd H s.heap.objs.size (.lst ys)) { s with heap:=s.heap.push { cls:=.type "list",data:=.seq its.toArray },toks:=t' }:=
 I.laid (λ_ _ q=>QZ _ q) (Q5 _) ⟨hz,its,0,hv,Rc _ rfl⟩
theorem Inv.fresh(I:Inv X pins U H s):H s.heap.objs.size=none:=I.hok.fresh (Q5 _)
def Inv.ud(I:Inv X pins U H s)(hH:H l=some (.lst xs)):xs.length<=sizeLine/\∃(its:WQ) (n:Nat),Vals xs its/\xs.length=its.length/\s.heap.get? l=some { cls:=.type "list",data:=.seq its.toArray n }:=by obtain⟨z,its,n,r,e⟩:=I.hok l _ hH;exact⟨z,its,n,r,r.length,e⟩
def xh{n:Nat}(h:n<=sizeLine):Builtin.List.listTooLong n=false:=by unfold Builtin.List.listTooLong;exact Rm (by lia)
end
section
variable{X:Cx}
noncomputable def AM:V->List V->Hp->VK->Prop:=λx vs H Q=>∃l xs y,x=.ref l/\vs=[y]/\H l=some (.lst xs)/\xs.length<sizeLine/\Q .aK (upd H l (.lst (xs++[y])))
def cK:nV X "list.append" AM:=by intro pins s U H x vs v us Q I rx rv h;obtain⟨l,xs,y,rfl,rfl,hH,hz,q⟩:=h;cases rx;obtain⟨u,rfl,ru⟩:=rv.one;obtain⟨z,its,n,r,hl,e⟩:=I.ud hH;refine Su F.slot_list_append ⟨_,e,rfl⟩ F.entry_list_append (F.args_list_append_2 _ _) (PySem.list_append l its.toArray n u (by rw[R9];lia)) ⟨e,?_⟩;refine⟨.aK,_,I.w4 (its':=its++[u]) hH e (by simp) (r.append (.cons ru .nil)) ?_,rfl,q⟩;rw[RC,UK];lia
inductive IC(x:V)(vs:List V)(H:Hp)(Q:VK):Prop
 |mk:∀l xs y,(x=.ref l)->(vs=[])->(H l=some (.lst xs))->(xs[xs.length-1]?=some y)->(Q y (upd H l (.lst xs.dropLast)))->IC x vs H Q
def FF:V->List V->Hp->VK->Prop:=λx vs H Q=>IC x vs H Q
def KS:nV X "list.pop" FF:=by
 intro pins s U H x vs v us Q I rx rv h;obtain⟨l,xs,y,rfl,rfl,hH,hy,q⟩:=h;cases rx;have hus:=rv.zero;subst hus;obtain⟨z,its,n,r,hl,e⟩:=I.ud hH;obtain⟨u,hu,ru⟩:=r.get hy;have hy':its.toArray[its.toArray.size-1]?=some u:=by show its.toArray[its.length-1]?=some u;rw[<-RJ,<-hl];exact hu
 refine Su F.slot_list_pop ⟨_,e,rfl⟩ F.entry_list_pop (F.args_list_pop_1 _) (MeetsSeq.list_pop_last l its.toArray n u hy' (by rw[R9];lia)) ⟨e,?_⟩;refine⟨y,_,I.w4 (its':=its.dropLast) hH e ?_ r.dropLast ?_,ru,q⟩;{show its.toArray.eraseIdxIfInBounds (its.toArray.size-1)=its.dropLast.toArray;rw[R9,Vw,Bd]};rw[List.length_dropLast];lia
inductive Ak(x:V)(vs:List V)(H:Hp)(Q:VK):Prop
 |mk:∀l xs i k y,(x=.ref l)->(vs=[.int i])->(H l=some (.lst xs))->(-(2^63)<=i)->(i<2^63)->(seqIndex? i xs.length=some k)->(xs[k]?=some y)->(Q y (upd H l (.lst (xs.eraseIdx k))))->Ak x vs H Q
def y9:V->List V->Hp->VK->Prop:=λx vs H Q=>Ak x vs H Q
def G5:nV X "list.pop" y9:=by
 intro pins s U H x vs v us Q I rx rv h;obtain⟨l,xs,i,k,y,rfl,rfl,hH,h1,h2,hk,hy,q⟩:=h;cases rx;obtain⟨u,rfl,ru⟩:=rv.one;obtain⟨t,rfl⟩:=ru;obtain⟨z,its,n,r,hl,e⟩:=I.ud hH;obtain⟨w,hw,rw'⟩:=r.get hy;refine Su F.slot_list_pop ⟨_,e,rfl⟩ F.entry_list_pop (F.args_list_pop_2 _ _)
  (MeetsSeq.list_pop_at l its.toArray n i t k w (fitsIndex_both h1 h2) (by rw[R9,<-hl];exact hk) (by rw[<-RJ];exact hw) (by rw[R9];lia)) ⟨e,?_⟩
 refine⟨y,_,I.w4 (its':=its.eraseIdx k) hH e ?_ (r.eraseIdx k) ?_,rw',q⟩;{show its.toArray.eraseIdxIfInBounds k=(its.eraseIdx k).toArray;rw[Vw]};have:=uZ xs k;lia
def len_rep{α:Type}(xs:List α) (k:Nat):(List.replicate k xs).flatten.length=k*xs.length:=by
 induction k with
 |zero=>simp
 |succ k ih=>rw[Ss,Tf,RC,ih,Nat.succ_mul,Nat.add_comm]
end
section
variable{κ:Type} [DecidableEq κ]
noncomputable def cX (kvs:List (κ×V))(k:κ):Option V:=(kvs.find? λkv=>decide (kv.1=k)).map (·.2)
noncomputable def putK (kvs:List (κ×V))(k:κ) (v:V):List (κ×V):=
 if(kvs.any λkv=>decide (kv.1=k))=true then kvs.map (λkv=>if kv.1=k then(kv.1,v)else kv)else kvs++[(k,v)]
def qM{p:κ×V}{r:List (κ×V)}{k:κ}(e:p.1=k):cX (p::r) k=some p.2:=by simp[cX,T7,e]
def qZ{p:κ×V}{r:List (κ×V)}{k:κ}(e:¬p.1=k):cX (p::r) k=cX r k:=by simp[cX,T7,e]
theorem wC(k:κ):∀kvs:List (κ×V),(kvs.any λkv=>decide (kv.1=k))=(cX kvs k).isSome
 |[]=>rfl
 |p::r=>by rw[Sb];by_cases e:p.1=k;{simp only[qM e,Rg e,Bool.true_or,VR]};rw[qZ e,Rm e,Bool.false_or];exact wC k r
def lM(kvs:List (κ×V))(k:κ) (v:V):(putK kvs k v).length<=kvs.length+1:=by unfold putK;split;{rw[Q7];lia};rw[RC,RK,Ut];lia
def iQ.jA{o:Option V}{u:WK}(r:iQ o u):o.isSome=u.isSome:=by
 cases o with
 |none=>cases u with
  |none=>rfl
  |some _=>exact(show False from r).elim
 |some _=>cases u with
  |none=>exact(show False from r).elim
  |some _=>rfl
theorem iQ.getD{o:Option V}{u:WK}{d:V}{d':Value}(r:iQ o u)(rd:RelV d d'):RelV (o.getD d) (u.getD d'):=by
 cases o with
 |none=>cases u with
  |none=>exact rd
  |some _=>exact(show False from r).elim
 |some _=>cases u with
  |none=>exact(show False from r).elim
  |some _=>exact r
def KV.val{kvs:List (κ×V)}{vs:List (κ×Value)}(r:KV kvs vs)(k:κ):iQ (cX kvs k) (valueAt vs k):=by
 unfold KV at r;induction r with
 |nil=>exact U3
 |@cons p q ps qs h t ih=>
  obtain⟨h1,h2⟩:=h;by_cases e:p.1=k
  .have e':q.1=k:=h1.symm.trans e;have b:valueAt (q::qs) k=some q.2:=by simp[valueAt,T7,e']
   rw[qM e,b];exact h2
  have e':¬q.1=k:=λz=>e (h1.trans z);have b:valueAt (q::qs) k=valueAt qs k:=by simp[valueAt,T7,e']
  rw[qZ e,b];exact ih
theorem KV.any{kvs:List (κ×V)}{vs:List (κ×Value)}(r:KV kvs vs)(k:κ):(kvs.any λkv=>decide (kv.1=k))=vs.any λkv=>decide (kv.1=k):=by
 unfold KV at r;induction r with
 |nil=>rfl
 |cons h t ih=>rw[Sb,Sb,ih,h.1]
def KV.repl{kvs:List (κ×V)}{vs:List (κ×Value)}(r:KV kvs vs)(k:κ){y:V}{u:Value}(ry:RelV y u) : KV (kvs.map λkv=>if kv.1=k then(kv.1,y)else kv) (vs.map λkv=>if kv.1=k then(kv.1,u)else kv):=by
 unfold KV at r⊢;induction r with
 |nil=>exact .nil
 |@cons p q ps qs h t ih=>rw[RE,RE];refine .cons ?_ ih;obtain⟨h1,h2⟩:=h;by_cases e:p.1=k;{rw[if_pos e,if_pos (h1.symm.trans e)];exact⟨h1,ry⟩};rw[if_neg e,if_neg (λz=>e (h1.trans z))];exact⟨h1,h2⟩
def KV.put{kvs:List (κ×V)}{vs:List (κ×Value)}(r:KV kvs vs)(k:κ){y:V}{u:Value}(ry:RelV y u):KV (putK kvs k y) (stored vs k u):=by unfold putK stored;rw[r.any k];by_cases e:(vs.any λkv=>decide (kv.1=k))=true;{rw[if_pos e,if_pos e];exact r.repl k ry};rw[if_neg e,if_neg e];exact Paired.snoc r ⟨rfl,ry⟩
theorem KV.length{kvs:List (κ×V)}{vs:List (κ×Value)}(r:KV kvs vs):kvs.length=vs.length:=Paired.length r
end
def nP{P:Program}{w:World}{k:Key}{u:Value}(r:RelV (kV k) u):(bU P w).is k u=true:=by
 cases k with
 |inl i=>obtain⟨t,e⟩:=(show ∃t,u=Value.int i t from r);subst e;exact zq P w i t
 |inr x=>obtain⟨t,e⟩:=(show ∃t,u=Value.str x t from r);subst e;exact zo P w x t
theorem vI{P:Program}{w:World}:∀{ks:List Key}{us:WQ},Vals (ks.map kV) us->ItemsAre (bU P w) ks us
 |[],_,r=>by rw[List.map_nil]at r;cases r;exact .nil
 |k::ks,_,r=>by
  rw[RE]at r;cases r with
  |cons h t=>exact .cons (nP h) (vI t)
noncomputable abbrev KT (H:Hp):List (List Key×V)->List (List Key×Addr×Value)->Prop:=Paired λp q=>p.1=q.1/\H q.2.1=some (.tup (p.1.map kV))/\RelV p.2 q.2.2
def KT.val{H:Hp}{kvs:List (List Key×V)}{xs:List (List Key×Addr×Value)}(r:KT H kvs xs)(k:List Key):iQ (cX kvs k) ((atKey xs k).map (·.2)):=by
 induction r with
 |nil=>exact U3
 |@cons p q ps qs h t ih=>
  obtain⟨h1,_,h2⟩:=h;by_cases e:p.1=k
  .have e':q.1=k:=h1.symm.trans e;have b:atKey (q::qs) k=some q.2:=by simp[atKey,T7,e']
   rw[qM e,b];exact h2
  have e':¬q.1=k:=λz=>e (h1.trans z);have b:atKey (q::qs) k=atKey qs k:=by simp[atKey,T7,e']
  rw[qZ e,b];exact ih
def KT.repl{H:Hp}{kvs:List (List Key×V)}{xs:List (List Key×Addr×Value)}(r:KT H kvs xs)(k:List Key){y:V}{u:Value}(ry:RelV y u) : KT H (kvs.map λkv=>if kv.1=k then(kv.1,y)else kv) (xs.map (putAt k u)):=by
 induction r with
 |nil=>exact .nil
 |@cons p q ps qs h t ih=>rw[RE,RE];refine .cons ?_ ih;obtain⟨h1,h2,h3⟩:=h;unfold putAt;by_cases e:p.1=k;{rw[if_pos e,if_pos (h1.symm.trans e)];exact⟨h1,h2,ry⟩};rw[if_neg e,if_neg (λz=>e (h1.trans z))];exact⟨h1,h2,h3⟩
def KT.put{H:Hp}{kvs:List (List Key×V)}{xs:List (List Key×Addr×Value)}(r:KT H kvs xs)(k:List Key){b:Addr}{y:V}{u:Value}(hb:H b=some (.tup (k.map kV)))(ry:RelV y u) : KT H (putK kvs k y) (storedH xs k b u):=by
 have e:(kvs.any λkv=>decide (kv.1=k))=(atKey xs k).isSome:=by rw[wC,(r.val k).jA,VS]
 unfold putK storedH;rw[e];by_cases q:(atKey xs k).isSome=true;{rw[if_pos q,if_pos q];exact r.repl k ry};rw[if_neg q,if_neg q];exact Paired.snoc r ⟨rfl,hb,ry⟩
def KT.keeps{H H':Hp}{kvs:List (List Key×V)}{xs:List (List Key×Addr×Value)}(r:KT H kvs xs)(ht:∀b ys,H b=some (.tup ys)->H' b=some (.tup ys)):KT H' kvs xs:=
 Paired.GB r λ_ _ z=>⟨z.1,ht _ _ z.2.1,z.2.2⟩
section
variable{P:Program}{w:World}{H:Hp}{h:Heap}{a:Addr}
def Ht{u:HO}(ok:dH P w H h)(e:Rd H a u):bT P w H h a u:=e.ok ok
def kW{kvs:List (Key×V)}(ok:dH P w H h)(e:Rd H a (.dK kvs)):kvs.length<=sizeLine/\(a==sysModules)=false/\∃vs,KV kvs vs/\h.DictOf (bU P w) a vs:=
 show bT P w H h a (.dK kvs)from Ht ok e
def HL{kvs:List (Key×V)}(ok:dH P w H h)(e:H a=some (.dK kvs)):kvs.length<=sizeLine/\(a==sysModules)=false/\∃vs,KV kvs vs/\h.DictOf (bU P w) a vs:=kW ok (.inl e)
def l8{ks:List Key}(ok:dH P w H h)(e:H a=some (.tup (ks.map kV))):(tupleKind (bU P w)).is h ks a:=by obtain⟨_,its,r,o,h1,h2,n,h3⟩:=(show bT P w H h a (.tup (ks.map kV))from ok a _ e);exact⟨o,its.toArray,n,h1,h2,h3,by simpa using vI r⟩
def mZ{kvs:List (List Key×V)}(ok:dH P w H h)(e:Rd H a (.dT kvs)):kvs.length<=sizeLine/\(a==sysModules)=false /\ ∃xs,KT H kvs xs/\h.DictOfH (tupleKind (bU P w)) a xs:=by
 obtain⟨z,y,xs,r,o,es,ep,h1,h2,h3,h4,h5⟩:=(show bT P w H h a (.dT kvs)from Ht ok e);refine⟨z,y,xs,r,o,es,ep,h1,h2,h3,h4,λx hx=>?_,h5⟩;have all:∀{l:List (List Key×V)}{m:List (List Key×Addr×Value)},KT H l m->∀x∈m,(tupleKind (bU P w)).is h x.1 x.2.1:=by
  intro l m q;induction q with
  |nil=>intro x hx;exact nomatch hx
  |@cons p q ps qs hq t ih=>intro x hx;rcases QX.mp hx with e|hx;{subst e;exact l8 ok (by rw[<-hq.1];exact hq.2.1)};exact ih x hx
 exact all r x hx
def OH{kvs:List (List Key×V)}(ok:dH P w H h)(e:H a=some (.dT kvs)):kvs.length<=sizeLine/\(a==sysModules)=false /\ ∃xs,KT H kvs xs/\h.DictOfH (tupleKind (bU P w)) a xs:=mZ ok (.inl e)
end
noncomputable def fQ (H:Hp)(a:Addr) (y:V)(r:Option V):Prop:=
 (∃kvs k,Rd H a (.dK kvs)/\y=kV k/\r=cX kvs k)\/∃kvs k b,Rd H a (.dT kvs)/\y=.ref b/\H b=some (.tup (k.map kV))/\r=cX kvs k
noncomputable def pA (H:Hp)(a:Addr) (y v:V)(H':Hp):Prop:=
 (∃kvs k,H a=some (.dK kvs)/\y=kV k/\kvs.length<sizeLine/\H'=upd H a (.dK (putK kvs k v))) \/
 ∃kvs k b,H a=some (.dT kvs)/\y=.ref b/\H b=some (.tup (k.map kV))/\kvs.length<sizeLine/\H'=upd H a (.dT (putK kvs k v))
theorem fQ.k{H:Hp}{a:Addr}{kvs:List (Key×V)}{k:Key}(e:H a=some (.dK kvs)):fQ H a (kV k) (cX kvs k):=.inl ⟨kvs,k,.inl e,rfl,rfl⟩
def fQ.t{H:Hp}{a b:Addr}{kvs:List (List Key×V)}{k:List Key}(e:H a=some (.dT kvs))(eb:H b=some (.tup (k.map kV))):fQ H a (.ref b) (cX kvs k):=.inr ⟨kvs,k,b,.inl e,rfl,eb,rfl⟩
theorem pA.k{H:Hp}{a:Addr}{kvs:List (Key×V)}{k:Key}{v:V}(e:H a=some (.dK kvs))(hl:kvs.length<sizeLine):pA H a (kV k) v (upd H a (.dK (putK kvs k v))):=.inl ⟨kvs,k,e,rfl,hl,rfl⟩
def pA.t{H:Hp}{a b:Addr}{kvs:List (List Key×V)}{k:List Key}{v:V}(e:H a=some (.dT kvs))(eb:H b=some (.tup (k.map kV)))(hl:kvs.length<sizeLine) : pA H a (.ref b) v (upd H a (.dT (putK kvs k v))):=.inr ⟨kvs,k,b,e,rfl,eb,hl,rfl⟩
section
variable{X:Cx}{pins:WD}{U:St}{H:Hp}{s:Shared}{a:Addr}{y v:V}{u r:Value}{o:Option V}{A:Around}{E:WA}
def Inv.big(I:Inv X pins U H s):sysModules<s.heap.objs.size:=by have h:mainGlobals<s.heap.objs.size:=(I.mod.glob.keeps I.bk).lt;exact Uu (by decide) h
def El{Q:WA}(hu:A.units+1<cLine)(I:Inv X pins U H s)(g:fQ H a y (some v))(ry:RelV y u)(h:∀w' s',Inv X pins U H s'->RelV v w'->Q w' s') : wpAny (model X.prog X.w) A (getItem (.ref a) u) Q E s:=by rcases g with⟨kvs,k,e,ey,l⟩|⟨kvs,k,b,e,ey,eb,l⟩;{subst ey;obtain⟨z,hd,vs,rel,dd⟩:=kW I.hok e;obtain⟨w',hw,rw'⟩:=iQ.some_of (v:=v) (o:=valueAt vs k) (by rw[l];exact rel.val k);exact wpAny_getItem_of (nP ry) dd.mapOf hw (h w' _ (I.tok _) rw')};subst ey;cases (show u=Value.ref b from ry);obtain⟨z,hd,xs,rel,dd⟩:=mZ I.hok e;obtain⟨w',hw,rw'⟩:=iQ.some_of (v:=v) (o:=(atKey xs k).map (·.2)) (by rw[l];exact rel.val k);obtain⟨p,hp,hp2⟩:=Rt.mp hw;refine wpAny_getItem_heap (UL hu) (l8 I.hok eb) dd hp ?_;rw[hp2];exact h w' _ (I.tok _) rw'
def Pz{Q:WA}(hu:A.units+1<cLine)(I:Inv X pins U H s)(g:fQ H a y o)(ry:RelV y u)(h:∀s',Inv X pins U H s'->Q (.bool o.isSome) s') : wpAny (model X.prog X.w) A (compareOp .In u (.ref a)) Q E s:=by rcases g with⟨kvs,k,e,ey,l⟩|⟨kvs,k,b,e,ey,eb,l⟩;{subst ey;obtain⟨z,hd,vs,rel,dd⟩:=kW I.hok e;refine wpAny_in_of (nP ry) hd dd.mapOf ?_;rw[<-(rel.val k).jA,<-l];exact h _ (I.tok _)};subst ey;cases (show u=Value.ref b from ry);obtain⟨z,hd,xs,rel,dd⟩:=mZ I.hok e;refine wpAny_in_heap (UL hu) (l8 I.hok eb) hd dd ?_;have q:=(rel.val k).jA;rw[VS]at q;rw[<-q,<-l];exact h _ (I.tok _)
def KL{Q:WA}(hu:A.units+1<cLine)(I:Inv X pins U H s)(g:fQ H a y o)(ry:RelV y u)(h:∀s',Inv X pins U H s'->Q (.bool (!o.isSome)) s') : wpAny (model X.prog X.w) A (compareOp .NotIn u (.ref a)) Q E s:=by rcases g with⟨kvs,k,e,ey,l⟩|⟨kvs,k,b,e,ey,eb,l⟩;{subst ey;obtain⟨z,hd,vs,rel,dd⟩:=kW I.hok e;refine wpAny_notIn_of (nP ry) hd dd.mapOf ?_;rw[<-(rel.val k).jA,<-l];exact h _ (I.tok _)};subst ey;cases (show u=Value.ref b from ry);obtain⟨z,hd,xs,rel,dd⟩:=mZ I.hok e;refine wpAny_notIn_heap (UL hu) (l8 I.hok eb) hd dd ?_;have q:=(rel.val k).jA;rw[VS]at q;rw[<-q,<-l];exact h _ (I.tok _)
def uI{h':Heap}{t':Nat}{ob:HO}(I:Inv X pins U H s)(mu:Dg (H a))(hs:Heap.SameBut a s.heap h')(he:∃q,h'.get? a=some q)(new:bT X.prog X.w (upd H a ob) h' a ob) : Inv X pins U (upd H a ob) { s with heap:=h',toks:=t' }:=
 I.write (x:=a) (e:=a) mu (.inl rfl) (λb q hb z=>(hs.2 b hb).trans z) he new
def Co{P:Program}{w:World}{H':Hp}{h':Heap}{kvs:List (Key×V)}{vs:List (Key×Value)}(z:kvs.length<=sizeLine)(hd:(a==sysModules)=false)(rel:KV kvs vs)(dd:h'.DictOf (bU P w) a vs) : bT P w H' h' a (.dK kvs):=⟨z,hd,vs,rel,dd⟩
def EV{H':Hp}{Q:Unit->Shared->Prop}(hu:A.units+1<cLine)(I:Inv X pins U H s)(g:pA H a y v H')(ry:RelV y u)(rv:RelV v r)(h:∀s',Inv X pins U H' s'->Q () s') : wpAny (model X.prog X.w) A (setItem (.ref a) u r) Q E s:=by
 rcases g with⟨kvs,k,e,ey,l,eH⟩|⟨kvs,k,b,e,ey,eb,l,eH⟩
 .subst ey eH;obtain⟨z,hd,vs,rel,dd⟩:=HL I.hok e;have hz:vs.length<=sizeLine:=by rw[<-rel.length];exact z
  have hl:(putK kvs k v).length<=sizeLine:=by have:=lM kvs k v;lia
  refine wpAny_setItem_pairs (hsz:=hz) (nP ry) dd λh' dd' hs=>h _ ?_;have he:∃q,h'.get? a=some q:=let⟨q,_,_,hq,_⟩:=dd';⟨q,hq⟩;exact uI I (by rw[e];exact U3) hs he (Co hl hd (rel.put k rv) dd')
 subst ey eH;cases (show u=Value.ref b from ry);obtain⟨z,hd,xs,rel,dd⟩:=OH I.hok e;have hz:xs.length<=sizeLine:=by rw[<-Paired.length rel];exact z
 have hl:(putK kvs k v).length<=sizeLine:=by have:=lM kvs k v;lia
 refine wpAny_setItem_heap (hsz:=hz) (UL hu) (l8 I.hok eb) dd λh' dd' hs=>h _ ?_;obtain⟨q,es,ep,hq,h2,h3,h4,_,h5⟩:=dd';refine uI I (by rw[e];exact U3) hs ⟨q,hq⟩ ⟨hl,hd,_,(rel.put k eb rv).keeps λc ys ec=>?_,q,es,ep,hq,h2,h3,h4,h5⟩;rw[ah (NP ec e (λz=>nomatch z))];exact ec
end
section
variable{X:Cx}{pins:WD}{U:St}{H:Hp}{s:Shared}{a:Addr}{kvs:List (Key×V)}{k:Key}{u:Value}{A:Around}{E:WA}
def NG{Q:WA}(I:Inv X pins U H s)(e:Rd H a (.dK kvs))(h:∀t s',Inv X pins U H s'->Q (.int kvs.length t) s'):wpAny (model X.prog X.w) A (call (.builtin "len") [.ref a]) Q E s:=by obtain⟨z,hd,vs,rel,dd⟩:=kW I.hok e;refine call_len_dict hd dd (by rw[<-rel.length];rw[UH]at z;lia) ?_;rw[<-rel.length];exact h _ _ (I.tok _)
end
def zx{X:Cx}{pins:WD}{U:St}{H:Hp}{s:Shared}{a:Addr}{y:V}{o:Option V}(I:Inv X pins U H s)(g:fQ H a y o):s.TypeIs (.ref a) "dict":=by rcases g with⟨kvs,k,e,_,_⟩|⟨kvs,k,b,e,_,_,_⟩;{obtain⟨_,_,vs,_,dd⟩:=kW I.hok e;exact dd.typeIs};obtain⟨_,_,xs,_,dd⟩:=mZ I.hok e;exact dd.typeIs
def GZ{P:Program}{w:World}{H:Hp}(h:Heap)(hb:sysModules<h.objs.size):bT P w H (h.push { cls:=.type "dict",data:=.dict #[] }) h.objs.size (.dK []):=
 ⟨RO _,beq_eq_false_iff_ne.mpr (Ne.symm (RH hb)),[],.nil,Heap.DictOf.new h⟩
noncomputable def l7:List (TE×TE)->St->Hp->(List (V×V)->Hp->Prop)->Prop
 |[],_,H,Q=>Q [] H
 | (tk,tv)::r,U,H,Q=>tk U H λx H1=>tv U H1 λy H2=>l7 r U H2 λps H3=>Q ((x,y)::ps) H3
noncomputable abbrev VV:List (V×V)->List (Value×Value)->Prop:=Paired λp q=>RelV p.1 q.1/\RelV p.2 q.2
noncomputable def CF (X:Cx)(pos:Pos)(keys:List (Option Expr))(values:WX)(trs:List (TE×TE)):Prop:=
 ∀(pins:WD)(s:Shared)(U:St)(H:Hp)(Q:List (V×V)->Hp->Prop),Inv X pins U H s->l7 trs U H Q->
  wpAny (model X.prog X.w) X.A (evalPairs (pairTrees keys values X.env pos)) (λvs s'=>∃ps H',Inv X pins U H' s'/\VV ps vs/\Q ps H') X.xe s
def Jy{X:Cx}{pos:Pos}:CF X pos [] [] []:=λpins s U H Q I h=>pairTrees_nil_walk ⟨[],H,I,.nil,h⟩
def Fd{X:Cx}{pos:Pos}{k v:Expr}{ks:List (Option Expr)}{vs:WX}{tk tv:TE}{trs:List (TE×TE)}(hk:PE X k tk)(hv:PE X v tv)(hr:CF X pos ks vs trs) : CF X pos (some k::ks) (v::vs) ((tk,tv)::trs):=λpins s U H Q I h=>
 pairTrees_cons_walk (aH (hk pins s U H _ I h) λu s1 ⟨x,H1,I1,rx,q1⟩=>aH (hv pins s1 U H1 _ I1 q1) λw2 s2 ⟨y,H2,I2,ry,q2⟩=>
  aH (hr pins s2 U H2 _ I2 q2) λws s3 ⟨ps,H3,I3,rel,q3⟩=>⟨(x,y)::ps,H3,I3,.cons ⟨rx,ry⟩ rel,q3⟩)
noncomputable def j9 (kvs more:List (Key×V)):List (Key×V):=more.foldl (λacc kv=>putK acc kv.1 kv.2) kvs
def KV.merge:∀{more:List (Key×V)}{rs:List (Key×Value)}{kvs:List (Key×V)}{vs:List (Key×Value)},KV more rs->KV kvs vs->KV (j9 kvs more) (merged vs rs):=by
 intro more rs kvs vs r;unfold KV at r;induction r generalizing kvs vs with
 |nil=>intro q;exact q
 |@cons p q ps qs h t ih=>
  intro r0;have e:KV (putK kvs p.1 p.2) (stored vs q.1 q.2):=by have:=r0.put p.1 h.2;rw[<-h.1];exact this
  exact ih e
theorem n6:∀(more kvs:List (Key×V)),(j9 kvs more).length<=kvs.length+more.length
 |[],kvs=>by show kvs.length<=kvs.length+0;lia
 |p::r,kvs=>by have h1:=n6 r (putK kvs p.1 p.2);have h2:=lM kvs p.1 p.2;show(j9 (putK kvs p.1 p.2) r).length<=_;rw[RK];lia
theorem rX{P:Program}{w:World}:∀{kvs:List (Key×V)}{ws:List (Value×Value)},VV (kvs.map λkv=>(kV kv.1,kv.2)) ws->∃rs,Carries (bU P w) ws rs/\KV kvs rs
 |[],_,r=>by rw[List.map_nil]at r;cases r;exact⟨[],U3,.nil⟩
 |p::kvs,_,r=>by
  rw[RE]at r;cases r with
  |@cons a b as bs h t=>obtain⟨rs,c,q⟩:=rX (P:=P) (w:=w) t;obtain⟨b1,b2⟩:=b;exact⟨(p.1,b2)::rs,⟨nP h.1,rfl,c⟩,.cons ⟨rfl,h.2⟩ q⟩
noncomputable def OP (trs:List (TE×TE)):TE:=λU H Q=>∀p,H p=none->l7 trs U (upd H p (.dK [])) λps H2=>H2 p=some (.dK [])/\∃kvs:List (Key×V),ps=kvs.map (λkv=>(kV kv.1,kv.2))/\kvs.length<=15/\Q (.ref p) (upd H2 p (.dK (j9 [] kvs)))
def Kl{X:Cx}{pos:Pos}{keys:List (Option Expr)}{values:WX}{trs:List (TE×TE)}(h:CF X pos keys values trs)(hall:keys.all (·.isSome)=true)(hl:keys.length=values.length)(h0:keys≠[])(h15:keys.length<=15):PE X (.Dict keys values pos) (OP trs):=by
 intro pins s U H Q I q;have hn:=I.hok.fresh (Q5 s.heap.objs.size);have I1:=I.laid (a:=s.heap.objs.size) (o:=.dK []) (h':=s.heap.push { cls:=.type "dict",data:=.dict #[] }) (t':=s.toks) (λ_ _ q=>QZ _ q) (Q5 _) (GZ s.heap I.big);refine wpAny_Dict_walk (knd:=bU X.prog X.w) hall hl h0 h15 (aH (h pins _ U _ _ I1 (q _ hn)) λws s2 ⟨ps,H2,I2,rel,e,kvs,ep,lk,q2⟩=>?_);subst ep;obtain⟨rs,c,rk⟩:=rX (P:=X.prog) (w:=X.w) rel;obtain⟨z,hd,vs0,r0,dd⟩:=HL I2.hok e;cases r0;refine⟨rs,c,dd,λh' dd' hs=>⟨.ref s.heap.objs.size,_,?_,rfl,q2⟩⟩;have hz:(j9 [] kvs).length<=sizeLine:=by have h1:=n6 kvs [];rw[Ut]at h1;rw[UH];lia
 have he:∃q,h'.get? s.heap.objs.size=some q:=let⟨q,_,_,hq,_⟩:=dd';⟨q,hq⟩;exact uI I2 (by rw[e];exact U3) hs he (Co hz hd (rk.merge .nil) dd')
structure M2(X:Cx)(o:Expr) (m:Str)(apos:Pos)(e f:Expr)(cpos:Pos):Prop where
 base:attributeBase o m X.env (eval o X.env)=eval o X.env
 few:((backTo cpos (starEach [e,f] X.env)).all (λx=>!x.1)&&(backToKw cpos (keywordEach [] X.env)).all (λx=>x.1.isSome)
  && decide (([e,f]:WX).length+([]:List Keyword).length+(if([]:List Keyword).isEmpty then 0 else 1)<30))=true
 line:(apos.endLine==cpos.line)=true
 trees:backTo cpos (starEach [e,f] X.env)=[(false,eval e X.env),(false,eval f X.env)]
noncomputable def fW (H:Hp)(a:Addr):Prop:=(∃kvs,Rd H a (.dK kvs))\/∃kvs,Rd H a (.dT kvs)
def LV{X:Cx}{pins:WD}{U:St}{H:Hp}{s:Shared}{a:Addr}(I:Inv X pins U H s)(d:fW H a) : s.TypeIs (.ref a) "dict"/\(∀b,Value.ref a=.ref b->∃ob,s.heap.get? b=some ob/\ob.dict=none)/\(a==sysModules)=false:=by rcases d with⟨kvs,e⟩|⟨kvs,e⟩;{obtain⟨_,hd,vs,_,dd⟩:=kW I.hok e;refine⟨dd.typeIs,λb q=>?_,hd⟩;cases q;obtain⟨ob,_,_,h1,h2,_⟩:=dd;exact⟨ob,h1,h2.2.1⟩};obtain⟨_,hd,xs,_,dd⟩:=mZ I.hok e;refine⟨dd.typeIs,λb q=>?_,hd⟩;cases q;obtain⟨ob,_,_,h1,h2,_⟩:=dd;exact⟨ob,h1,h2.2.1⟩
section
variable{X:Cx}{pins:WD}{U:St}{H:Hp}{s:Shared}{a:Addr}{y d:V}{u r:Value}{o:Option V}{A:Around}{E:WA}
def MB{Q:WA}(hu:A.units+1<cLine)(I:Inv X pins U H s)(g:fQ H a y o)(ry:RelV y u)(rd:RelV d r)(h:∀w' s',Inv X pins U H s'->RelV (o.getD d) w'->Q w' s') : wpAny (model X.prog X.w) A (call (.builtin "dict.get") [.ref a,u,r]) Q E s:=by rcases g with⟨kvs,k,e,ey,l⟩|⟨kvs,k,b,e,ey,eb,l⟩;{subst ey;obtain⟨z,hd,vs,rel,dd⟩:=kW I.hok e;refine call_meetsIn VT dd.typeIs PySem.F.entry_dict_get (PySem.F.args_dict_get_3 _ _ _) (meets_dict_get_default (bU X.prog X.w) a (nP ry) hd r) ⟨_,dd.mapOf,h _ _ (I.tok _) ?_⟩;rw[l];exact(rel.val k).getD rd};subst ey;cases (show u=Value.ref b from ry);obtain⟨z,hd,xs,rel,dd⟩:=mZ I.hok e;refine call_meetsIn VT dd.typeIs PySem.F.entry_dict_get (PySem.F.args_dict_get_3 _ _ _) (meetsH_dict_get_default (tupleKind (bU X.prog X.w)) a b hd r) ⟨UL hu,k,xs,l8 I.hok eb,dd,h _ _ (I.tok _) ?_⟩;rw[l];exact(rel.val k).getD rd
end
inductive AL(ty:TE)(tx:TE)(U:St)(Q:VK) (x:V)(H1:Hp):Prop
 |mk:∀a,(x=.ref a)->(fW H1 a)->(ty U H1 λy H2=>tx U H2 λz H3=>∃o,fQ H3 a y o/\Q (o.getD z) H3)->AL ty tx U Q x H1
def Nz (td ty tx:TE):TE:=λU H Q=>td U H λx H1=>AL ty tx U Q x H1
section
variable{X:Cx}{o e f:Expr}{apos cpos:Pos}{td ty tx:TE}
def Gd(hu:X.A.units+1<cLine)(ho:PE X o td)(he:PE X e ty)(hf:PE X f tx)(m:M2 X o "get" apos e f cpos):PE X (.Call (.Attribute o "get" apos) [e,f] [] cpos) (Nz td ty tx):=by
 intro pins s U H Q I h;refine wpAny_Call_method m.base m.few m.line PySem.F.plainAttrs_dict VT PySem.F.type_dict_get (aH (ho pins s U H _ I h) λu s1 ⟨x,H1,I1,rx,a,ex,d,q1⟩=>?_);subst ex;obtain rfl:u=Value.ref a:=rx;obtain⟨t1,t2,_⟩:=LV I1 d;refine⟨t1,t2,?_⟩;rw[m.trees];refine Ur rfl (Us (VN (aH (he pins s1 U H1 _ I1 q1) λiv s2 ⟨y,H2,I2,ry,q2⟩=>
  VN (aH (hf pins s2 U H2 _ I2 q2) λfv s3 ⟨z,H3,I3,rz,ov,g,q3⟩=>Calls.spliced_nil ?_))))
 exact MB hu I3 g ry rz λw' s4 I4 rw'=>⟨_,H3,I4,rw',q3⟩
end
end L2
namespace OY
open PySem PySem.W PySem.Calls PyProof.Rows
def se{P:Params}{h:Heap}:∀(ns:Wa)(vs:WQ),WellAll P h vs (ns.map WData.int)->IntsAre vs ns:=by
 intro ns;induction ns with
 |nil=>intro vs w;rw[List.map_nil]at w;cases w;exact .nil
 |cons n ns ih=>
  intro vs w;rw[RE]at w;cases w with
  |cons a b=>cases a;exact .cons _ _ (ih _ b)
def CV{l:OpenLaw}{n:Nat}(hn:l.most=some n){P:Params}{h:Heap}{args:List WData}{vals:WQ}(hpre:l.row.toRowW.claim.pre args=true)(hwl:WellAll P h vals args) : ∃a vs ns,vals=[Value.ref a]/\args=[WData.list (ns.map WData.int)]/\h.get? a=some { cls:=.type "list",data:=.seq vs.toArray }/\IntsAre vs ns/\ns.length<=n:=by
 have hsh:WShape.hasAll [] args [.list .int]=true:=(pre_splitW hpre).1;have hc:l.pre.holds [] { args:=args }=true:=(pre_splitW hpre).2;obtain⟨d,r,rfl,h1,h2⟩:=hasAllW_cons hsh;obtain rfl:=hasAllW_nil h2;obtain⟨xs,rfl,h3⟩:=hasW_list h1;obtain⟨ns,rfl⟩:=items_int h3;have hlen:ns.length<=n:=by
  unfold OpenLaw.pre at hc;have h4:(WTm.not (.lt (.lit (.int (n:Int))) (.len (.arg 0)))).holds [] { args:=[.list (ns.map .int)] }=true:=by have h4:=(holds_andW hc).1;rw[hn]at h4;exact h4
  have h5:=condW_of h4 (w_not (w_lt w_lit (w_len_list (w_arg rfl))));rw[Q7]at h5;refine Nat.le_of_not_lt λq=>?_;have q':(n:Int)<((ns.length:Nat):Int):=by lia
  first
   | (rw[Rg q']at h5;exact absurd h5 (by decide))
   | (simp at h5;lia)
 cases hwl with
 |cons w1 w2=>
  cases w2;cases w1 with
  |list ho hall=>exact⟨_,_,ns,rfl,rfl,ho,se ns _ hall,hlen⟩
def D7(l:OpenLaw)(args:List WData):l.row.toRowW.claim.post args (.bool true) args=true:=
 postW_of (r:=l.row.toRowW) (X:=(true==true))
  (show WShape.has [] (.bool true) .bool=true by first|rfl|decide|simp[WShape.has,WShape.arms,WShape.armsAll])
  (show(WTm.eq .res (.lit (.bool true))).value [] { args:=args,res:=some (.bool true),after:=args }=some (.bool (true==true))from w_eq_bool (w_res rfl) w_lit) rfl
def zy{l:OpenLaw}{n:Nat}{q:Program}{loose:Wb}{XP:(WC)->Heap->Prop}{YP:World->Heap->Prop}{d:DefRec}(hn:l.most=some n)(hdf:d.params.defaults=[])(call:∀(w:World)(s₀ s₁:Shared)(mg mb:WC)(fa:Addr)(o:Obj)(pm cd doc:Value)(a:Addr)(vs:WQ)(ns:Wa), Ground q loose [] XP w s₀ mg mb s₁.heap->YP w s₁.heap-> s₁.heap.get? fa=some o->o.data=.func (docDef d.name d.params d.body d.scope pm cd doc)->s₁.heap.CodeRec cd d.name->mg d.name=some (.ref fa)-> s₁.heap.get? a=some { cls:=.type "list",data:=.seq vs.toArray }->IntsAre vs ns->ns.length<=n->s₁.gens=#[]-> codeAny (model l.prog w) callerA (.call (.ref fa) ⟨[.ref a],[]⟩) (λr s'=>r=.ok (.ret (.bool true))/\OldK s₁.heap s'.heap/\s'.os=s₁.os/\AllBare s'.gens) s₁) : WalkO q loose XP YP l.row.toRowW d [] (λf vs=>PySem.call f vs):=by intro w s₀ s₁ mg mb G Wd fa o pm cd doc dV kV ho hd hcd hD hmg hg args vals as hpre hlay hrd hwl hlo;obtain rfl:dV=.none:=Dflts.none hD hdf;obtain rfl:kV=.none:=Dflts.noKw hD;obtain⟨a,vs,ns,rfl,rfl,hobj,hints,hlen⟩:=CV hn hpre hwl;refine enter_call (Sk (call w s₀ s₁ mg mb fa o pm cd doc a vs ns G Wd ho (fd_plain hd) hcd hmg hobj hints hlen hg) λr s' hq=>?_);obtain⟨rfl,h2,h3,h4⟩:=hq;exact⟨.inl ⟨.bool true,.bool true,[],rfl,λ_=>rfl,.bool true,D7 l _,λ_=>⟨List.Pairwise.nil,λ_ hm=>(nomatch hm)⟩⟩,h2,h3,h4⟩
end OY
namespace L2
open PySem PySem.Spec PyProof.Rows
theorem vt:∀{vs:WQ}{ns:Wa},IntsAre vs ns->Vals (ns.map V.int) vs
 |_,_,.nil=>.nil
 |_,_,.cons n t h=>.cons ⟨t,rfl⟩ (vt h)
def GU (H:Hp):Prop:=∀b,H b=none\/∃o xs,H b=some (.ig o (.lst xs))
end L2
namespace L2
open PySem PySem.Spec PyProof.Rows
noncomputable def inClass (s:Stmt) (j:Nat):Stmt:=match s with
 |.ClassDef _ _ _ body _ _ _ _ _ _ _=>body.getD j (.Pass ⟨0,0,0,0⟩)
 |_=>.Pass ⟨0,0,0,0⟩
noncomputable def jc (s:Stmt):Arguments:=match s with
 |.FunctionDef _ a _ _ _ _ _ _ _ _=>a
 |_=>{ posonlyargs:=[],args:=[],vararg:=none,kwonlyargs:=[],kw_defaults:=[],kwarg:=none,defaults:=[] }
noncomputable def eK (s:Stmt):WY:=match s with
 |.FunctionDef _ _ b _ _ _ _ _ _ _=>b
 |_=>[]
noncomputable def av (s:Stmt):Scope:=match s with
 |.FunctionDef _ _ _ _ _ _ sc _ _ _=>sc
 |_=>{ kind:=.function,names:=[],isGenerator:=false,isCoroutine:=false }
abbrev E0:XK:=λ_ _ _=>False
structure lU(K:WJ) (x qual:Str)(st:Stmt)(f:Addr)(fd:FuncData):Prop where
 ex:∃(oc:Value)(od:WO)(kV doc pm:Value)(an:WO)(cdv ct:Value)(osl:Vz),
  fd=PySem.W.fnOf x qual (jc st) (eK st) (av st) .none kV doc pm an cdv ct/\K.lookup f=some ⟨oc,od,.func fd,osl⟩/\PySem.W.codeIn K cdv qual=true
 kp:PySem.W.keepIn K (.ref f)=true
section
variable{P:Program}{w:World}{K:WJ}{mg:WC}{base:Heap}
def lU.binds{x qual:Str}{st:Stmt}{f:Addr}{fd:FuncData}{ps:Wb}(F:lU K x qual st f fd)(h:∀(kV doc pm:Value)(an:WO)(cdv ct:Value)(us:WQ),us.length=ps.length->bindArgs (PySem.W.fnOf x qual (jc st) (eK st) (av st) .none kV doc pm an cdv ct) ⟨us,[]⟩=pure (ps.zip us)):Binds K fd ps []:=by obtain⟨oc,od,kV,doc,pm,an,cdv,ct,osl,rfl,lk,hcd⟩:=F.ex;exact .all (h kV doc pm an cdv ct)
def CT{x qual:Str}{st:Stmt}{f:Addr}{oc:Value}{od an:WO}{osl:Vz}{kV doc pm cdv ct:Value}(l:K.lookup f=some ⟨oc,od,.func (PySem.W.fnOf x qual (jc st) (eK st) (av st) .none kV doc pm an cdv ct),osl⟩)(c:PySem.W.codeIn K cdv qual=true)(k:PySem.W.keepIn K (.ref f)=true):lU K x qual st f (PySem.W.fnOf x qual (jc st) (eK st) (av st) .none kV doc pm an cdv ct):=⟨⟨oc,od,kV,doc,pm,an,cdv,ct,osl,rfl,l,c⟩,k⟩
end
section
variable{X:Cx}
def pv(i:Nat){x:Str}{pos:Pos}(hN:X.N[i]?=some x:=by rfl)(hv:j8 X.env.scope x:=by first|exact Or.inl rfl|exact Or.inr (Or.inl rfl)|exact Or.inr (Or.inr rfl))(hd:(x==("__debug__":Str))=false:=by decide)(hcd:(x==("__classdict__":Str))=false:=by decide):PE X (.Name x pos) (lK i):=fK hN hv hd hcd
def Cm:cA X (.builtin "len") (λxs H Q=>∃a kvs,xs=[V.ref a]/\H a=some (.dK kvs)/\Q (.int kvs.length) H):=by intro pins s U H xs us Q I r h;obtain⟨a,kvs,rfl,ha,q⟩:=h;obtain⟨u,rfl,ru⟩:=vals1 r;cases ru;exact NG I (.inl ha) λt s' I'=>⟨.int kvs.length,H,I',⟨t,rfl⟩,q⟩
end
def kG{A B:Prop}(h:B):if false=true then A else B:=by rw[if_neg QV];exact h
def mV{A B:Prop}(h:A):if true=true then A else B:=by rw[if_pos rfl];exact h
def rF{c A B:Prop} [Decidable c](h1:c->A)(h2:¬c->B):if c then A else B:=by by_cases h:c;{rw[if_pos h];exact h1 h};rw[if_neg h];exact h2 h
def af (H H':Hp):Prop:=∀b o,H b=some o->H' b=some o
def af.refl(H:Hp):af H H:=λ_ _ h=>h
def af.trans{H H1 H2:Hp}(a:af H H1)(b:af H1 H2):af H H2:=λc o h=>b c o (a c o h)
def af.free{H H':Hp}(e:af H H'){l:Addr}(h:H' l=Option.none):H l=Option.none:=by
 cases q:H l with
 |none=>rfl
 |some o=>rw[e l o q]at h;cases h
def af.seq{K:WJ}{H H':Hp}{a:Addr}{xs:List V}(e:af H H')(h:bQ K H a xs):bQ K H' a xs:=by rcases h with (h|⟨o,h⟩)|h;{exact .inl (.inl (e _ _ h))};{exact .inl (.inr ⟨o,e _ _ h⟩)};exact .inr h
noncomputable def eN (cells:List (Str×Addr)):List (Str×NameKind)->List (Str×Addr)->List (Str×Addr)
 |[],acc=>acc
 | (n,k)::r,acc=>eN cells r (if(k==NameKind.free)=true then(n,(cells.lookup n).getD 0)::acc else acc)
theorem qq{c:Addr}:∀(names:List (Str×NameKind))(acc:List (Str×Addr)),(eN cells names acc).lookup y=some c->((y,NameKind.free)∈names/\(cells.lookup y).getD 0=c)\/acc.lookup y=some c
 |[],_,h=>.inr h
 | (n,k)::r,acc,h=>by
  rcases qq r _ h with⟨a,b⟩|z;{exact .inl ⟨QU _ a,b⟩};clear h;by_cases e:(k==NameKind.free)=true
  .rw[if_pos e]at z;rw[Rn]at z;cases q:(y==n)with
   |true=>
    rw[q]at z;have ek:k=NameKind.free:=by simpa using e
    have en:y=n:=by simpa using q
    subst ek en;exact .inl ⟨Q6,Option.some.inj z⟩
   |false=>rw[q]at z;exact .inr z
  rw[if_neg e]at z;exact .inr z
theorem jU:∀(names:List (Str×NameKind))(acc:List (Str×Addr)),((y,NameKind.free)∈names\/∃c,acc.lookup y=some c)->∃c,(eN cells names acc).lookup y=some c
 |[],_,h=>by rcases h with h|h;{cases h};exact h
 | (n,k)::r,acc,h=>by
  refine jU r _ ?_;rcases h with h|⟨c,h⟩;{rcases QX.mp h with e|h;{cases e;refine .inr ⟨(cells.lookup y).getD 0,?_⟩;rw[if_pos (by decide),Rn,Uv]};exact .inl h};by_cases e:(k==NameKind.free)=true
  .rw[if_pos e,Rn];cases q:(y==n)with
   |true=>exact .inr ⟨_,rfl⟩
   |false=>exact .inr ⟨c,h⟩
  rw[if_neg e];exact .inr ⟨c,h⟩
def tL(h:∀n,(n,NameKind.free)∈scope.names->∃c,env.cells.lookup n=some c):closureFor scope env=pure (eN env.cells scope.names []):=by
 have key:∀(names:List (Str×NameKind))(cs:List (Str×Addr)),(∀n,(n,NameKind.free)∈names->∃c,env.cells.lookup n=some c)->
   (forIn names cs λ(x:Str×NameKind)(r:List (Str×Addr))=>(if(x.2==NameKind.free)=true then(cellOf env x.1>>=λa=>pure (ForInStep.yield ((x.1,a)::r)))else pure (ForInStep.yield r):Sem _))=pure (eN env.cells names cs):=by
  intro names
  induction names with
  |nil=>intro cs _;rfl
  |cons p r ih=>
   intro cs hp;obtain⟨n,k⟩:=p;rw[List.forIn_cons];by_cases e:(k==NameKind.free)=true
   .have ek:k=NameKind.free:=by simpa using e
    obtain⟨c,hc⟩:=hp n (by rw[ek];exact Q6);rw[if_pos e];have e2:cellOf env n=pure c:=by unfold cellOf;rw[hc]
    show((cellOf env n>>=λa=>pure (ForInStep.yield ((n,a)::cs)))>>=_)=_;rw[e2];show(forIn r ((n,c)::cs) _:Sem _)=_;rw[ih _ λn' h'=>hp n' (QU _ h')];show _=pure (eN env.cells r (if(k==NameKind.free)=true then(n,(env.cells.lookup n).getD 0)::cs else cs));rw[if_pos e,hc];rfl
   rw[if_neg e];show(forIn r cs _:Sem _)=_;rw[ih _ λn' h'=>hp n' (QU _ h')];show _=pure (eN env.cells r (if(k==NameKind.free)=true then(n,(env.cells.lookup n).getD 0)::cs else cs));rw[if_neg e]
 unfold closureFor;have e:=key scope.names [] h;show((forIn scope.names [] λ(x:Str×NameKind)(r:List (Str×Addr))=>(if(x.2==NameKind.free)=true then(cellOf env x.1>>=λa=>pure (ForInStep.yield ((x.1,a)::r)))else pure (ForInStep.yield r):Sem _))>>=λr=>pure r)=_;rw[e];rfl
theorem jf{α:Type}{y:Str}{k:α}:∀{l:List (Str×α)},l.lookup y=some k->(y,k)∈l
 |[],h=>by cases h
 | (n,j)::r,h=>by
  rw[Rn]at h;cases q:(y==n)with
  |true=>
   rw[q]at h;have en:y=n:=by simpa using q
   cases h;rw[en];exact Q6
  |false=>rw[q]at h;exact QU _ (jf h)
theorem sD{env:Env}{x:Str}{k:NameKind}:∀{names:List (Str×NameKind)},names.lookup x=some k->(relabel { (default:Scope)with names:=names } env).names.lookup x=some k\/(k=.free/\(relabel { (default:Scope)with names:=names } env).names.lookup x=some .cell)
 |[],h=>by cases h
 | (n,j)::r,h=>by
  have ih:=@sD env x k r;rw[Rn]at h;show List.lookup x ((if(j==NameKind.free&&env.scope.kind == .function&&env.kindOf n==some .cell)=true then(n,NameKind.cell)else(n,j))::_)=_\/(_/\List.lookup x ((if(j==NameKind.free&&env.scope.kind == .function&&env.kindOf n==some .cell)=true then(n,NameKind.cell)else(n,j))::_)=_);cases q:(x==n)with
  |true=>rw[q]at h;cases h;by_cases e:(k==NameKind.free&&env.scope.kind == .function&&env.kindOf n==some .cell)=true;{rw[if_pos e,Rn,q];refine .inr ⟨?_,rfl⟩;have z:=(Q9 _ _▸(Q9 _ _▸e).1:_/\_).1;simpa using z};rw[if_neg e,Rn,q];exact .inl rfl
  |false=>rw[q]at h;by_cases e:(j==NameKind.free&&env.scope.kind == .function&&env.kindOf n==some .cell)=true;{rw[if_pos e,Rn,q];exact ih h};rw[if_neg e,Rn,q];exact ih h
theorem yQ{env:Env}{x:Str}{k:NameKind}:∀{names:List (Str×NameKind)},(relabel { (default:Scope)with names:=names } env).names.lookup x=some k->names.lookup x=some k\/(names.lookup x=some .free/\k=.cell)
 |[],h=>by cases h
 | (n,j)::r,h=>by
  have ih:=@yQ env x k r;have h:List.lookup x ((if(j==NameKind.free&&env.scope.kind == .function&&env.kindOf n==some .cell)=true then(n,NameKind.cell)else(n,j))::(relabel { (default:Scope)with names:=r } env).names)=some k:=h;rw[Rn];cases q:(x==n)with
  |true=>by_cases e:(j==NameKind.free&&env.scope.kind == .function&&env.kindOf n==some .cell)=true;{rw[if_pos e,Rn,q]at h;cases h;have z:=(Q9 _ _▸(Q9 _ _▸e).1:_/\_).1;exact .inr ⟨by simpa using z,rfl⟩};rw[if_neg e,Rn,q]at h;exact .inl h
  |false=>by_cases e:(j==NameKind.free&&env.scope.kind == .function&&env.kindOf n==some .cell)=true;{rw[if_pos e,Rn,q]at h;exact ih h};rw[if_neg e,Rn,q]at h;exact ih h
def caps (ix:WZ)(U:St):St:=ix.map λi=>(U[i]?).join
noncomputable def Cx.block (X:Cx)(scope:Scope)(C:Addr)(NB:Wb)(s2:Shared)(H2:Hp)(fp:WU):Cx:=
 { X with N:=NB,s₀:=s2,H₀:=H2,env:=compEnvC scope (eN X.env.cells scope.names []) C X.env,outer:=X.stack,ex:=fp,fn:=λ_=>false,pn:=[],xe:=λ_ _=>False }
noncomputable def vh (X:Cx)(ifs:WX)(t:TT):Prop:=
 ∀(pins:WD)(s:Shared)(U:St)(H:Hp)(Q:Bool->Hp->Prop),Inv X pins U H s->t U H Q->
  wpAny (model X.prog X.w) X.A (forIn ifs true λc r=>if r=true then do let ok <-isTrue c X.env (eval c X.env);pure (ForInStep.yield ok)else pure (ForInStep.yield r)) (TP X pins U Q) X.xe s
def P7:TT:=λ_ H Q=>Q true H
def Kq:vh X [] P7:=λ_ _ _ H _ I h=>wpAny_tests_nil ⟨H,I,h⟩
def Ko(h:PT X c t):vh X [c] t:=λpins s U H Q I hw=>wpAny_tests_one (h pins s U H Q I hw)
noncomputable abbrev iI (its:WQ) (n:Nat):Obj:={ cls:=.type "list",data:=.seq its.toArray n }
section
variable{X:Cx}{scope:Scope}{x:Str}{NB:Wb}{ix:WZ}{pins:WD}{U:St}{H2:Hp}{s2:Shared}{fp:WU}
def GW(ix:WZ)(U:St):(caps ix U).length=ix.length:=by unfold caps;rw[Q7]
end
section
variable{X:Cx}{scope:Scope}{x:Str}{NB:Wb}{ix:WZ}{pins:WD}{U:St}{H2:Hp}{s2:Shared}{fp:WU}
def DB{C D:Addr}{n:Nat}(I2:Inv X pins U H2 s2)(f2:∀b∈fp,iW X pins H2 b)(hD:s2.heap.objs.size<=D)(I4:Inv (X.block scope C NB s2 H2 fp) [(D,iI its n)] σB H' s4)(rv:Vals ys its)(hz:ys.length<=sizeLine):Inv X pins U (upd H' D (.lst ys)) s4:=by
 have hp:=I4.pin (D,iI its n) (by show _∈[]++[(D,iI its n)];simp);have hfree:H' D=none:=hp.2.1;have neD:∀b o,s2.heap.get? b=some o->b≠D:=λb o e=>RH (RL (QT e) hD);have neT:∀b o,H2 b=some o->b≠D:=λb o e=>RH (RL (I2.hok.lt e) hD);have u:Un (frs X.stack) fp H2 H' s2.heap s4.heap:=I4.base;refine I2.BV (ch:=fp) I4.os ⟨u.keep,u.slot,λb o e n hx=>?_,u.there,λb xs e=>?_,λb o v e=>?_,λb ps e=>?_⟩ (λb o e=>?_) I4.bare λb hb=>?_;{rw[ah (neD b o e)];exact u.free b o e n hx};{rw[ah (neT b _ e)];exact u.tups b xs e};{rw[ah (neT b _ e)];exact u.jd b o v e};{rw[ah (neT b _ e)];exact u.jI b ps e}
 .by_cases hb:b=D;{subst hb;rw[ao]at e;cases e;exact⟨hz,its,n,rv,hp.1⟩};rw[ah hb]at e;have ne:∀{c:Addr}{w:HO},H' c=some w->c≠D:=λ{c w} q z=>by rw[z,hfree]at q;cases q
  exact(I4.hok b o e).stay (λ_ _ _ q=>q) (λc q=>by rw[ah (ne q)];exact q) λc xs q=>by rw[ah (ne q)];exact q
 obtain⟨_,g1,g2,g3,g4,g5⟩:=f2 b hb;exact⟨g3,g1,g4,g5⟩
end
end L2
namespace PySem
open PySem.W
section
variable{prog:Program}{w:World}{A:Around}{R:Result->Shared->Prop}{h:Heap}{g:Array GenState}{d:Drawn}{t:Nat}{os:OsState}
variable{nm q:Str}{C N:Addr}{bs bm bmB:WQ}{hdct:Bool}{sn:Wb}{sub:WQ}{ab:Bool}{col:Option Bool}{dd:WO}{k0 k1 k2 k3 k5:WK}{B newId initId:String}
noncomputable abbrev nL (C t0:Addr):Obj:={ cls:=.ref C,data:=.fields #[.ref t0,.none,.none,.none,.bool false,.none] }
noncomputable abbrev bZ (rest:WQ):Obj:={ cls:=.type "tuple",data:=.seq rest.toArray }
def vQ(F:ExcBaseFacts B newId initId bmB)(T:OwnTail h bmB bm){fI:Addr}(hC:h.get? C=some (excClassObj nm q C N bs bm hdct sn sub ab col dd k0 k1 k2 k3 k5 newId))(hn:h.Ns N mN)(hni:mN "__init__"=some (.ref fI))(hb:∀self,Looks (model prog w) h (bindSpecial (.ref fI) self) (.ref fI,[self]))(hq:codeAny (model prog w) A (.call (.ref fI) ⟨.ref (h.objs.size+1)::rest,[]⟩) (λr s'=>match r with | .ok (.ret v)=>v=.none/\Q (.done (.ret (.ref (h.objs.size+1)))) s' | .ok _=>False | .error e=>E e s') ⟨(h.push (bZ rest)).push (nL C h.objs.size),g,d,t,os⟩)(hrest:rest.length<=sizeLine:=by size_fits) : wpAny (model prog w) A (Builtin.«type.__call__» ⟨.ref C::rest,[]⟩) Q E ⟨h,g,d,t,os⟩:=by
 repeat (first|with_reducible refine UM hC ?_|with_reducible refine wpAny_madeBy_exc hC ?_|wp_step)
 refine codeAny_call_builtin_code (Uw _ F.quiet) (wpAny_check_new_subT F T hC (codeAny_exc_new_subT F T hC ?_ hrest));show wpAny _ _ _ _ _ _;have k:∀b o,h.get? b=some o->((h.push (bZ rest)).push (nL C h.objs.size)).get? b=some o:=λb o e=>QZ _ (QZ _ e);have hC1:=k _ _ hC;have hn1:((h.push (bZ rest)).push (nL C h.objs.size)).Ns N mN:=hn.keeps k;have hget:((h.push (bZ rest)).push (nL C h.objs.size)).get? (h.objs.size+1)=some (nL C h.objs.size):=by heap_get
 have hcC:(Value.ref C::bm).contains (.ref C)=true:=by simp
 have T1:=T.keeps k;unfold isInstance;repeat (first|with_reducible refine UM hget ?_|(with_reducible refine wpAny_isSubtype_exc hC1 ?_;rw[hcC])|wp_step)
 show wpAny _ _ (typeLookup (.ref C) _) _ _ _;refine wpAny_typeLookup_tail hC1 hn1 T1 F.mroIs F.init.lookup ?_;rw[hni];refine Rb (Q0 (((hb (.ref (h.objs.size+1))).keeps k).at ?_));refine Q0 (Sj (Sk hq λr s' z=>?_));rcases r with e|(v|_|_|_)<;>first|exact z|exact z.elim|skip
 obtain⟨rfl,z⟩:=z;exact Q2 (Q2 z)
def vS(F:ExcBaseFacts B newId initId bmB)(T:OwnTail h bmB bm){fI:Addr}(hC:h.get? C=some (excClassObj nm q C N bs bm hdct sn sub ab col dd k0 k1 k2 k3 k5 newId))(hn:h.Ns N mN)(hni:mN "__init__"=some (.ref fI))(hb:∀self,Looks (model prog w) h (bindSpecial (.ref fI) self) (.ref fI,[self]))(hq:codeAny (model prog w) (A.under (.builtin "type.__call__" ⟨.ref C::rest,[]⟩)) (.call (.ref fI) ⟨.ref (h.objs.size+1)::rest,[]⟩) (InitBack (h.objs.size+1) R) ⟨(h.push (bZ rest)).push (nL C h.objs.size),g,d,t,os⟩)(hrest:rest.length<=sizeLine:=by size_fits) : codeAny (model prog w) A (.call (.ref C) ⟨rest,[]⟩) R ⟨h,g,d,t,os⟩:=by
 have f1:=tc_lookup;have f2:=tc_bind (.ref C);have hT:(⟨h,g,d,t,os⟩:Shared).TypeIs (.ref C) "type":=⟨_,hC,rfl⟩;refine codeAny_of_tree ?_;show wpAny _ _ (callAny (.ref C) _) _ _ _;repeat (any_goals (first|assumption|with_reducible refine UM hC ?_|wp_step))
 refine⟨rfl,codeAny_call_builtin_at (Uw _ (by decide+kernel)) entry_typeCall (wpAny_check_type_call_sub hC ?_)⟩;exact vQ (hrest:=hrest) F T hC hn hni hb hq
end
end PySem
namespace L2
open PySem PySem.Spec PyProof.Rows PySem.W
noncomputable def dZ (a C:Addr)(dd:WO):Heap->Prop:=λh=>∃(t0:Addr)(v1 v2 v3 v4 v5:Value)(sl:Vz),h.get? a=some ⟨.ref C,dd,.fields #[.ref t0,v1,v2,v3,v4,v5],sl⟩
def ye{a C:Addr}(x:dZ a C dd h):bT P w H h a (.ext (dZ a C dd)):=by obtain⟨t0,v1,v2,v3,v4,v5,sl,e⟩:=id x;exact⟨x,⟨_,e⟩,λh1 h2 ⟨t0,v1,v2,v3,v4,v5,sl,e⟩ k=>⟨t0,v1,v2,v3,v4,v5,sl,k _ e⟩⟩
def Inv.Dk{a C:Addr}(I:Inv X pins U H s)(e:H a=some (.ext (dZ a C dd))):dZ a C dd s.heap:=(I.hok a _ e).1
noncomputable def six (newId:String)(l:List (WK)):Bool:=l.length==6&&(match(l[4]?:Option (WK))with|some (some (Value.builtin n))=>n==newId|_=>false)
noncomputable def zR (K:Frag)(C:Addr)(bmB:WQ):WQ->Bool
 |.ref C'::bm=>C'==C&&tailIn K bmB bm
 |_=>false
noncomputable def dN (K:Frag)(C:Addr)(bmB:WQ)(newId:String)(r:WK):Bool:=match K.lookup C with
 |some ob=>(match ob.cls with | .type t=>t == "type" | _=>false)&&(match ob.data with
  |.cls cd=>(zR K C bmB cd.mro&&six newId ob.slots.toList)&&!cd.hasDel&&(nsOkIn K cd.ns&&nsIn K cd.ns "__init__" == some r)
  |_=>false)
 |none=>false
def KP(h:six newId l=true):∃k0 k1 k2 k3 k5,l=[k0,k1,k2,k3,some (.builtin newId),k5]:=by
 unfold six at h;rw[Q9]at h;obtain⟨h1,h2⟩:=h;have h1:l.length=6:=Te h1;rcases l with _|⟨k0,_|⟨k1,_|⟨k2,_|⟨k3,_|⟨k4,_|⟨k5,_|⟨k6,l⟩⟩⟩⟩⟩⟩⟩
 case cons.cons.cons.cons.cons.cons.nil=>
  cases k4 with
  |none=>cases h2
  |some v=>
   cases v with
   |builtin n=>exact⟨k0,k1,k2,k3,k5,by rw[show n=newId from Te h2]⟩
   |_=>cases h2
 case cons.cons.cons.cons.cons.cons.cons=>cases h1
 all_goals cases h1
def Cf{K:Frag}{C:Addr}{bmB l:WQ}(h:zR K C bmB l=true):∃bm,l=.ref C::bm/\tailIn K bmB bm=true:=by
 cases l with
 |nil=>cases h
 |cons v bm=>
  cases v with
  |ref a=>have h:(a==C&&tailIn K bmB bm)=true:=h;rw[Q9]at h;exact⟨bm,by rw[show a=C from Te h.1],h.2⟩
  |_=>cases h
structure LX(C:Addr)(bmB:WQ)(newId:String)(r:WK)(h:Heap):Prop where
 obj:∃bm N nm q bs hdct sn sub ab col dd k0 k1 k2 k3 k5 mN,h.get? C=some (excClassObj nm q C N bs bm hdct sn sub ab col dd k0 k1 k2 k3 k5 newId)/\h.Ns N mN/\mN "__init__"=r/\OwnTail h bmB bm
def Bb{K:Frag}{h:Heap}{N:Addr}{mg:WC}(X:K.In h)(G:h.Ns N mg)(e:nsIn K N n=some r):mg n=r:=by
 obtain⟨o,es,ep,ho,hd,_,hf⟩:=G;unfold nsIn at e;split at e
 .rename_i c d es' n' sl q;have z:=X _ _ q;rw[ho]at z;cases z;cases hd;split at e
  .rename_i en he;rw[<-hf];unfold nsFind findBy;rw[<-VM,he];first
    | (cases e;rfl)
    | (split at e<;>cases e<;>rfl)
  rename_i he;rw[<-hf];unfold nsFind findBy;rw[<-VM,he];split at e;{cases e};cases e;rfl
 cases e
def pX{K:Frag}{C:Addr}(X:K.In h)(q:dN K C bmB newId r=true):LX C bmB newId r h:=by
 unfold dN at q;cases ho:K.lookup C with
 |none=>rw[ho]at q;cases q
 |some ob=>
  rw[ho]at q;obtain⟨cls,dd,data,sl⟩:=ob;dsimp only at q;rw[Q9]at q;obtain⟨q0,q⟩:=q;have hc:cls=.type "type":=by
   cases cls with
   |type t=>exact congrArg Value.type (Te q0)
   |_=>cases q0
  subst hc;cases data with
  |cls cd=>
   dsimp only at q;rw[Q9,Q9,Q9,Q9]at q;obtain⟨⟨⟨q1,q2⟩,hdel⟩,hok,hni⟩:=q;obtain⟨bm,hm,ht⟩:=Cf q1;obtain⟨l⟩:=sl;obtain⟨k0,k1,k2,k3,k5,hs⟩:=KP q2;have hs:l=_:=hs;obtain⟨nm,bs,mro,ns,qn,hd,sn,sub,ab,col,del⟩:=cd;dsimp only at hm hdel hok hni;have hdel:del=false:=by cases del<;>first|rfl|cases hdel
   have hni:=Te hni;subst hm hdel hs;have G:h.Ns ns (h.nsMap ns):=.of_isNs (isNs_of_in X hok);exact⟨bm,ns,nm,qn,bs,hd,sn,sub,ab,col,dd,k0,k1,k2,k3,k5,_,X _ _ ho,G,Bb X G hni,tail_of_in X ht⟩
  |_=>cases q
def Gw{a:Addr}(x:bT P w H h a o):∃ob,h.get? a=some ob:=by
 cases o with
 |lst xs=>obtain⟨_,_,_,_,e⟩:=x;exact⟨_,e⟩
 |tup xs=>obtain⟨_,_,_,ob,e,_⟩:=x;exact⟨_,e⟩
 |dK kvs=>obtain⟨_,_,_,_,ob,_,_,e,_⟩:=x;exact⟨_,e⟩
 |dT kvs=>obtain⟨_,_,_,_,ob,_,_,e,_⟩:=x;exact⟨_,e⟩
 |set S n=>obtain⟨ob,_,_,_,e,_⟩:=x;exact⟨_,e⟩
 |ins C dx fs=>obtain⟨_,_,_,e,_⟩:=x;exact⟨_,e⟩
 |own y=>exact x
 |xd fs=>obtain⟨_,⟨od,_,_,e,_⟩,_⟩:=x;exact⟨_,e⟩
 |qp lo hi=>obtain⟨_,_,_,e⟩:=x;exact⟨_,e⟩
 |ig ob u=>obtain⟨e,_⟩:=x;exact⟨_,e⟩
 |u9 ps=>exact⟨_,x⟩
 |met f y=>exact⟨_,x⟩
 |ext φ=>obtain⟨_,e,_⟩:=x;exact e
section
variable{X:Cx}{pins:WD}{U:St}{H:Hp}{s:Shared}{h':Heap}
def Inv.g9(I:Inv X pins U H s){a:Addr}(hn:s.heap.get? a=none):H a=none:=by
 cases z:H a with
 |none=>rfl
 |some o=>obtain⟨ob,e⟩:=Gw (I.hok a o z);rw[hn]at e;cases e
def Inv.vX{a:Addr}{t':Nat}(I:Inv X pins U H s)(k:∀b u,s.heap.get? b=some u->h'.get? b=some u)(hn:s.heap.get? a=none)(new:bT X.prog X.w (upd H a o) h' a o) : Inv X pins U (upd H a o) { s with heap:=h',toks:=t' }:=by
 have hf:=I.g9 hn;have neA:∀b u,s.heap.get? b=some u->b≠a:=λb u e z=>by rw[z,hn]at e;cases e
 have neT:∀b u,H b=some u->b≠a:=λb u e z=>by rw[z,hf]at e;cases e
 refine I.un ⟨λb u e _ _ _=>k b u e,λb u e _ _ _=>⟨u.slots,k b u e⟩,λb u e n _=>by rw[ah (neA b u e)];exact n,λb u e _=>⟨u,k b u e⟩,λb xs e=>by rw[ah (neT b _ e)];exact e,
  λb u v e=>by rw[ah (neT b _ e)];exact e,λb ps e=>⟨#[],by rw[ah (neT b _ e),e];simp⟩⟩ λb u e=>?_
 by_cases hb:b=a;{subst hb;rw[ao]at e;cases e;exact new};rw[ah hb]at e;exact(I.hok b u e).stay (λc v _ q=>k c v q) (λc q=>by rw[ah (neT c _ q)];exact q) λc xs q=>by rw[ah (neT c _ q)];exact q
end
noncomputable abbrev g8:WQ:=[.type "ValueError",.type "Exception",.type "BaseException",.type "object"]
end L2
namespace SM
open PySem PySem.SetTable
noncomputable def run (M:Nat) (b:Nat):Nat->Nat×Nat
 |0=>(b%M,b)
 |k+1=>(((run M b k).1*5+1+(run M b k).2/32)%M,(run M b k).2/32)
theorem qB(M b:Nat):∀k,(run M b k).2=b/32^k
 |0=>by simp[run]
 |k+1=>by show(run M b k).2/32=_;rw[qB M b k,Nat.div_div_eq_div_mul,Nat.pow_succ]
def yx{M b:Nat}(hM:0<M):∀k,(run M b k).1<M
 |0=>U4 _ hM
 |k+1=>U4 _ hM
def rN (M i:Nat):Nat:=(i*5+1)%M
def iN (M:Nat):Nat->Nat->Nat
 |i,0=>i
 |i,r+1=>rN M (iN M i r)
theorem pY(M i a:Nat):∀b,iN M i (a+b)=iN M (iN M i a) b
 |0=>rfl
 |b+1=>by show rN M (iN M i (a+b))=rN M (iN M (iN M i a) b);rw[pY M i a b]
def FO (M:Nat):Nat->Nat->WZ
 |_,0=>[]
 |i,r+1=>i::FO M (rN M i) r
theorem u5(M i:Nat):∀r,iN M (rN M i) r=iN M i (r+1)
 |0=>rfl
 |r+1=>by show rN M (iN M (rN M i) r)=rN M (iN M i (r+1));rw[u5 M i r]
theorem wJ(M:Nat):∀(n i j:Nat),j∈FO M i n->∃r,r<n/\iN M i r=j
 |0,_,_,h=>by cases h
 |n+1,i,j,h=>by rcases QX.mp h with e|h;{exact⟨0,U5 _,e.symm⟩};obtain⟨r,hr,e⟩:=wJ M n _ j h;exact⟨r+1,Nat.succ_lt_succ hr,by rw[<-u5];exact e⟩
noncomputable def full (M:Nat):Bool:=(List.range M).all (λj=>(FO M 0 M).contains j)&&decide (iN M 0 M=0)
def DF:full 8=true:=by decide+kernel
def Ka:full 32=true:=by decide+kernel
def Fv:full 128=true:=by decide+kernel
def Gu:full 512=true:=by decide+kernel
def uT{M:Nat}(h:full M=true){j:Nat}(hj:j<M):∃r,r<M/\iN M 0 r=j:=by unfold full at h;rw[Q9]at h;have z:=QW.mp h.1 j (RU.mpr hj);exact wJ M M 0 j (by simpa using z)
def wN{M:Nat}(h:full M=true){i j:Nat}(hi:i<M)(hj:j<M):∃r,r<M/\iN M i r=j:=by
 obtain⟨a,ha,ea⟩:=uT h hi;obtain⟨b,hb,eb⟩:=uT h hj;have back:iN M 0 M=0:=by unfold full at h;rw[Q9]at h;exact RN h.2
 by_cases q:a<=b;{refine⟨b-a,by lia,?_⟩;rw[<-ea,<-pY,show a+(b-a)=b by lia,eb]};refine⟨M-a+b,by lia,?_⟩;rw[<-ea,<-pY,show a+(M-a+b)=M+b by lia,pY,back,eb]
theorem t6{M b k:Nat}(hb:b<2^64)(hk:12<=k):∀r,(run M b (k+r)).1=iN M (run M b k).1 r
 |0=>rfl
 |r+1=>by
  show((run M b (k+r)).1*5+1+(run M b (k+r)).2/32)%M=rN M (iN M (run M b k).1 r);rw[t6 hb hk r,qB];have e:b/32^(k+r)/32=0:=by rw[Nat.div_div_eq_div_mul,<-Nat.pow_succ];refine Nat.div_eq_of_lt (RL hb ?_);have h1:(32:Nat)^13<=32^(k+r).succ:=Nat.pow_le_pow_right (by decide) (by lia);exact RM (by decide) h1
  rw[e,Ux];rfl
noncomputable def nW (m:Nat)(p:Probe):Probe:=
 if p.more>0 then { p with j:=p.j+1,more:=p.more-1 } else
 { p with j:=(leap m p.i p.perturb).1,more:=runEnd m (leap m p.i p.perturb).1-(leap m p.i p.perturb).1,i:=(leap m p.i p.perturb).1,perturb:=(leap m p.i p.perturb).2 }
noncomputable def QG (m:Nat) (h:Int):Probe:={ j:=bits h%(m+1),more:=runEnd m (bits h%(m+1))-bits h%(m+1),i:=bits h%(m+1),perturb:=bits h,dummy:=none }
def pr (m:Nat) (h:Int):Nat->Probe
 |0=>QG m h
 |n+1=>nW m (pr m h n)
def zY(h:Int):bits h<2^64:=by unfold bits;have:=VU h (show(0:Int)<2^64 by decide);have h0:=Int.emod_nonneg h (show(2^64:Int)≠0 by decide);lia
theorem yT(m:Nat) (h:Int):∀n,(pr m h n).dummy=none
 |0=>rfl
 |n+1=>by show(nW m (pr m h n)).dummy=none;unfold nW;split<;>exact yT m h n
noncomputable def pS (m:Nat) (h:Int) (n k:Nat):Prop:=pr m h n={ j:=(run (m+1) (bits h) k).1,more:=runEnd m (run (m+1) (bits h) k).1-(run (m+1) (bits h) k).1,i:=(run (m+1) (bits h) k).1,perturb:=(run (m+1) (bits h) k).2,dummy:=none }
theorem rY{m:Nat}{h:Int}{n k:Nat}(a:pS m h n k):∀r,r<=runEnd m (run (m+1) (bits h) k).1-(run (m+1) (bits h) k).1-> pr m h (n+r)={ j:=(run (m+1) (bits h) k).1+r,more:=runEnd m (run (m+1) (bits h) k).1-(run (m+1) (bits h) k).1-r,i:=(run (m+1) (bits h) k).1,perturb:=(run (m+1) (bits h) k).2,dummy:=none }
 |0,_=>a
 |r+1,hr=>by show nW m (pr m h (n+r))=_;rw[rY a r (by lia)];unfold nW;rw[if_pos (show runEnd m (run (m+1) (bits h) k).1-(run (m+1) (bits h) k).1-r>0 by lia)];congr 1
def uQ(m i:Nat):runEnd m i-i<=9:=by unfold runEnd;split<;>lia
def Gj{m:Nat}{h:Int}{n k:Nat}(a:pS m h n k):∃n',n'<=n+10/\pS m h n' (k+1):=by have z:=rY a _ (Q5 _);refine⟨n+(runEnd m (run (m+1) (bits h) k).1-(run (m+1) (bits h) k).1)+1,by have:=uQ m (run (m+1) (bits h) k).1;lia,?_⟩;show nW m (pr m h (n+(runEnd m (run (m+1) (bits h) k).1-(run (m+1) (bits h) k).1)))=_;rw[z];unfold nW;rw[if_neg (show ¬(runEnd m (run (m+1) (bits h) k).1-(run (m+1) (bits h) k).1-(runEnd m (run (m+1) (bits h) k).1-(run (m+1) (bits h) k).1)>0)by lia)];rfl
theorem D3(m:Nat) (h:Int):∀k,∃n,n<=10*k/\pS m h n k
 |0=>⟨0,RO _,rfl⟩
 |k+1=>by obtain⟨n,hn,a⟩:=D3 m h k;obtain⟨n',hn',a'⟩:=Gj a;exact⟨n',by lia,a'⟩
def L7{m:Nat}(hf:full (m+1)=true) (h:Int){j:Nat}(hj:j<=m):∃n,n<10*turns m/\(pr m h n).j=j:=by obtain⟨r,hr,e⟩:=wN hf (yx (b:=bits h) (U5 m) 12) (VW hj);obtain⟨n,hn,a⟩:=D3 m h (12+r);refine⟨n,?_,?_⟩;{unfold turns;lia};rw[a];show(run (m+1) (bits h) (12+r)).1=j;rw[t6 (zY h) (Q5 _),e]
noncomputable def gR (xs:Array Nat):Prop:=∀(i k x y:Nat),i<k->xs[i]?=some x->xs[k]?=some y->x<y
def gR.inj(h:gR xs){i k x:Nat}(a:xs[i]?=some x)(b:xs[k]?=some x):i=k:=by rcases Th i k with z|z|z;{exact absurd (h i k x x z a b) (Ro _)};{exact z};exact absurd (h k i x x z b a) (Ro _)
def j7{α:Type}{xs:Array α}{i:Nat}{x:α}(h:xs[i]?=some x):i<xs.size:=(Sd.mp h).1
theorem rK(hr:gR xs) (j:Nat):∀(fuel lo hi:Nat),lo<=hi->hi<=xs.size->hi-lo<=fuel->(∀i x,xs[i]?=some x->i<lo->x<j)->(∀i x,xs[i]?=some x->hi<=i->j<=x)-> below.go xs j fuel lo hi<=xs.size/\∀i x,xs[i]?=some x->(i<below.go xs j fuel lo hi↔x<j)
 |0,lo,hi,h1,h2,h3,h4,h5=>by
  have e:lo=hi:=by lia
  subst e;unfold below.go;refine⟨h2,λi x hx=>⟨h4 i x hx,λlt=>?_⟩⟩;by_cases q:i<lo;{exact q};exact absurd lt (Ti.mpr (h5 i x hx (Ti.mp q)))
 |fuel+1,lo,hi,h1,h2,h3,h4,h5=>by
  unfold below.go;by_cases q:lo<hi
  .rw[if_pos q];have hm:(lo+hi)/2<xs.size:=by lia
   have gm:xs[(lo+hi)/2]?=some xs[(lo+hi)/2]:=RP hm;have gd:xs.getD ((lo+hi)/2) j=xs[(lo+hi)/2]:=by rw[Sv,gm];rfl
   dsimp only;rw[gd];by_cases c:xs[(lo+hi)/2]<j;{rw[if_pos c];refine rK hr j fuel _ hi (by lia) h2 (by lia) (λi x hx hi'=>?_) h5;by_cases e:i=(lo+hi)/2;{subst e;rw[gm]at hx;cases hx;exact c};exact Uu (hr i _ x _ (by lia) hx gm) c};rw[if_neg c];refine rK hr j fuel lo _ (by lia) (by lia) (by lia) h4 λi x hx hi'=>?_;by_cases e:i=(lo+hi)/2;{subst e;rw[gm]at hx;cases hx;exact Ti.mp c};exact RM (Ti.mp c) (UC (hr _ i _ x (by lia) gm hx))
  rw[if_neg q];have e:lo=hi:=by lia
  subst e;refine⟨h2,λi x hx=>⟨h4 i x hx,λlt=>?_⟩⟩;by_cases q:i<lo;{exact q};exact absurd lt (Ti.mpr (h5 i x hx (Ti.mp q)))
def iK{xs:Array Nat}(hr:gR xs) (j:Nat):below xs j<=xs.size/\∀i x,xs[i]?=some x->(i<below xs j↔x<j):=
 rK hr j xs.size 0 xs.size (RO _) (Q5 _) (by lia) (λ_ _ _ h=>absurd h (Ru _)) λi x hx h=>absurd (j7 hx) (Ti.mpr h)
def below_at{xs:Array Nat}(hr:gR xs){i j:Nat}(h:xs[i]?=some j):below xs j=i:=by
 obtain⟨h1,h2⟩:=iK hr j;have a:¬i<below xs j:=λq=>Ro _ ((h2 i j h).mp q);by_cases e:below xs j=i;{exact e};have lt:below xs j<i:=by lia
 have hb:below xs j<xs.size:=Uu lt (j7 h);have gb:xs[below xs j]?=some xs[below xs j]:=RP hb;have:=hr _ _ _ _ lt gb h;exact absurd ((h2 _ _ gb).mpr this) (Ro _)
def oH{t:SetTable}(hr:gR t.place){i j:Nat}(h:t.place[i]?=some j):t.slot j=.live i:=by unfold slot;dsimp only;rw[below_at hr h,h,if_pos (by simp)]
def Be{t:SetTable}(hr:gR t.place)(hd:t.dummies=#[]){j:Nat}(h:∀i:Nat,t.place[i]?≠some j):t.slot j=.empty:=by
 unfold slot;dsimp only;rw[if_neg (by simpa using h _)];have:has t.dummies j=false:=by unfold has;rw[hd];simp
 rw[this];rfl
def DZ{xs:Array Nat}(hr:gR xs){m:Nat}(hs:xs.size<=m):∃j,j<=m/\∀i:Nat,xs[i]?≠some j:=by
 refine Uy λno=>?_;have all:∀j,j<=m->∃i:Nat,xs[i]?=some j:=λj hj=>Uy λq=>no ⟨j,hj,λi e=>q ⟨i,e⟩⟩;have ge:∀j,j<=m->∀i:Nat,xs[i]?=some j->j<=i:=by
  intro j;induction j with
  |zero=>intro _ i _;exact RO _
  |succ j ih=>intro hj i hi;obtain⟨i0,h0⟩:=all j (by lia);have l0:=ih (by lia) i0 h0;rcases Th i0 i with z|z|z;{lia};{subst z;rw[h0]at hi;have:=Option.some.inj hi;lia};have:=hr i i0 _ _ z hi h0;lia
 obtain⟨i,hi⟩:=all m (Q5 _);have h1:=ge m (Q5 _) i hi;have h2:=j7 hi;lia
def um{α:Type}{xs:Array α}{p:Nat}(hp:p<=xs.size)(x:α) (i:Nat):(insertAt xs p x)[i]?=if i<p then xs[i]? else if i=p then some x else xs[i-1]?:=by
 unfold insertAt;have s1:(xs.extract 0 p).size=p:=by rw[UN];lia
 have s2:((xs.extract 0 p).push x).size=p+1:=by rw[Array.size_push,s1]
 rw[Array.getElem?_append,s2];by_cases h1:i<p;{rw[if_pos (by lia),if_pos h1,Array.getElem?_push,s1,if_neg (by lia),T8,if_pos (by lia),SN]};rw[if_neg h1];by_cases h2:i=p;{subst h2;rw[if_pos (by lia),if_pos rfl,Array.getElem?_push,s1,if_pos rfl]};rw[if_neg (by lia),if_neg h2,T8];by_cases h3:i-(p+1)<xs.size-p;{rw[if_pos (by lia),show p+(i-(p+1))=i-1 by lia]};rw[if_neg (by lia)];exact(Uz (by lia)).symm
def m7{α:Type}{xs:Array α}{p:Nat}(hp:p<=xs.size)(x:α):(insertAt xs p x).size=xs.size+1:=by unfold insertAt;rw[Array.size_append,Array.size_push,UN,UN];lia
abbrev Ent:=Int×Value
def In (t:SetTable) (j:Nat):Prop:=∃i:Nat,t.place[i]?=some j
noncomputable def Way (t:SetTable) (h:Int) (m:Nat):Prop:=∀m',m'<m->In t (pr t.mask h m').j
structure TB(t:SetTable)(es:Array Ent):Prop where
 sz:t.place.size=es.size
 ri:gR t.place
 le:∀i j:Nat,t.place[i]?=some j->j<=t.mask
 du:t.dummies=#[]
 fu:full (t.mask+1)=true
 od:t.mask%2=1
 nf:t.place.size<=t.mask
 rc:∀(i j:Nat)(e:Ent),t.place[i]?=some j->es[i]?=some e->∃m,m<10*turns t.mask/\(pr t.mask e.1 m).j=j/\Way t e.1 m
section
variable{t:SetTable}{es:Array Ent}
theorem TB.fits(T:TB t es):t.fits es.size=true:=by unfold SetTable.fits fill;rw[T.sz,T.du];have:=T.nf;rw[T.sz]at this;simpa using this
def TB.Dp(T:TB t es):t.gaveWay=false:=by unfold SetTable.gaveWay;rw[T.od];rfl
def TB.first(T:TB t es) (h:Int):∃N,N<10*turns t.mask/\¬In t (pr t.mask h N).j/\Way t h N:=by
 obtain⟨j,hj,hn⟩:=DZ T.ri T.nf;obtain⟨n,hlt,e⟩:=L7 T.fu h hj;have key:∀n,¬In t (pr t.mask h n).j->∃N,N<=n/\¬In t (pr t.mask h N).j/\Way t h N:=by
  intro n;induction n using Nat.strongRecOn with
  |ind n ih=>intro hq;by_cases w:Way t h n;{exact⟨n,Q5 _,hq,w⟩};obtain⟨m',q⟩:=Classical.not_forall.mp w;obtain⟨lt,q⟩:=Classical.not_imp.mp q;obtain⟨N,a,b,c⟩:=ih m' lt q;exact⟨N,by lia,b,c⟩
 obtain⟨N,a,b,c⟩:=key n (by rw[e];rintro⟨i,hi⟩;exact hn i hi);exact⟨N,by lia,b,c⟩
theorem uq(hr:gR t.place)(hd:t.dummies=#[]){hashAt:Nat->Int}{h:Int}{N:Nat}(hN:¬In t (pr t.mask h N).j)(hw:Way t h N):∀(fuel n:Nat),n<=N->N-n<fuel->(probe.go t hashAt h fuel (pr t.mask h n)=some (.empty (pr t.mask h N).j none)/\∀m i:Nat,n<=m->m<N->t.place[i]?=some (pr t.mask h m).j->hashAt i≠h) \/ (∃m i:Nat,n<=m/\m<N/\t.place[i]?=some (pr t.mask h m).j/\hashAt i=h/\probe.go t hashAt h fuel (pr t.mask h n)=some (.candidate (pr t.mask h m).j i (pr t.mask h (m+1)))/\∀m' i':Nat,n<=m'->m'<m->t.place[i']?=some (pr t.mask h m').j->hashAt i'≠h)
 |0,n,h1,h2=>absurd h2 (Ru _)
 |fuel+1,n,h1,h2=>by
  unfold probe.go;by_cases e:n=N;{subst e;rw[Be hr hd (λi q=>hN ⟨i,q⟩)];refine .inl ⟨?_,λm i a b=>by lia⟩;show some (Met.empty (pr t.mask h n).j (pr t.mask h n).dummy)=_;rw[yT]};obtain⟨i,hi⟩:=hw n (by lia);rw[oH hr hi];dsimp only;by_cases q:hashAt i=h;{rw[if_pos (by rw[q];exact Uv h)];exact .inr ⟨n,i,Q5 _,by lia,hi,q,rfl,λm' i' a b=>by lia⟩};rw[if_neg (by simpa using q)];show(probe.go t hashAt h fuel (pr t.mask h (n+1))=_/\_)\/_;have other:∀i':Nat,t.place[i']?=some (pr t.mask h n).j->hashAt i'≠h:=λi' hi'=>by rw[hr.inj hi' hi];exact q
  rcases uq hr hd (hashAt:=hashAt) hN hw fuel (n+1) (by lia) (by lia)with⟨a,b⟩|⟨m,i',c1,c2,c3,c4,c5,c6⟩;{refine .inl ⟨a,λm i' u v x=>?_⟩;by_cases z:m=n;{subst z;exact other i' x};exact b m i' (by lia) v x};refine .inr ⟨m,i',by lia,c2,c3,c4,c5,λm' i'' u v x=>?_⟩;by_cases z:m'=n;{subst z;exact other i'' x};exact c6 m' i'' (by lia) v x
def Gn(hr:gR xs) (j:Nat):below xs j<=xs.size:=(iK hr j).1
theorem TB.put(T:TB t es){N:Nat}(hl:N<10*turns t.mask)(hN:¬In t (pr t.mask e.1 N).j)(hw:Way t e.1 N)(room:es.size+1<=t.mask)(hjm:(pr t.mask e.1 N).j<=t.mask) : TB (t.put (pr t.mask e.1 N).j).1 (insertAt es (t.put (pr t.mask e.1 N).j).2 e):=by
 obtain⟨hb,hs⟩:=iK T.ri (pr t.mask e.1 N).j;have hb2:below t.place (pr t.mask e.1 N).j<=es.size:=by rw[<-T.sz];exact hb
 have nd:has t.dummies (pr t.mask e.1 N).j=false:=by
  unfold has;rw[T.du];simp
 have ep:(t.put (pr t.mask e.1 N).j).1={ t with place:=insertAt t.place (below t.place (pr t.mask e.1 N).j) (pr t.mask e.1 N).j }:=by
  unfold SetTable.put;dsimp only;rw[nd];rfl
 have ep2:(t.put (pr t.mask e.1 N).j).2=below t.place (pr t.mask e.1 N).j:=rfl;rw[ep,ep2];generalize hp:below t.place (pr t.mask e.1 N).j=p at *;generalize hj:(pr t.mask e.1 N).j=j at *;have g:=um hb j
 -- what was there is there
 have up:∀(i x:Nat),t.place[i]?=some x->∃i':Nat,(insertAt t.place p j)[i']?=some x:=λi x hx=>by
  by_cases q:i<p
  .exact⟨i,by rw[g,if_pos q];exact hx⟩
  .exact⟨i+1,by rw[g,if_neg (by lia),if_neg (by lia)];exact hx⟩
 have mine:(insertAt t.place p j)[p]?=some j:=by rw[g,if_neg (Ro _),if_pos rfl]
 have down:∀(i x:Nat),(insertAt t.place p j)[i]?=some x->(i<p/\t.place[i]?=some x)\/(i=p/\x=j)\/(p<i/\t.place[i-1]?=some x):=λi x hx=>by
  rw[g]at hx
  by_cases q:i<p
  .rw[if_pos q]at hx;exact .inl ⟨q,hx⟩
  .rw[if_neg q]at hx
   by_cases q2:i=p
   .rw[if_pos q2]at hx;exact .inr (.inl ⟨q2,(Option.some.inj hx).symm⟩)
   .rw[if_neg q2]at hx;exact .inr (.inr ⟨by lia,hx⟩)
 have inUp:∀x,In t x->In { t with place:=insertAt t.place p j } x:=λx ⟨i,hi⟩=>up i x hi
 have noJ:∀(i:Nat),t.place[i]?≠some j:=λi q=>hN ⟨i,q⟩
 constructor
 .show(insertAt t.place p j).size=_;rw[m7 hb,m7 hb2,T.sz]
 .intro i k x y hik hx hy;rcases down i x hx with⟨a1,a2⟩|⟨a1,a2⟩|⟨a1,a2⟩<;>rcases down k y hy with⟨b1,b2⟩|⟨b1,b2⟩|⟨b1,b2⟩
  .exact T.ri i k x y hik a2 b2
  .rw[b2];exact(hs i x a2).mp a1
  .exact T.ri i (k-1) x y (by lia) a2 b2
  .lia
  .lia
  .rw[a2];have c:¬y<j:=λz=>by
    have:=(hs (k-1) y b2).mpr z;lia
   have d:y≠j:=λz=>noJ _ (z▸b2)
   lia
  .lia
  .lia
  .exact T.ri (i-1) (k-1) x y (by lia) a2 b2
 .intro i x hx;rcases down i x hx with⟨_,a2⟩|⟨_,a2⟩|⟨_,a2⟩
  .exact T.le _ _ a2
  .rw[a2];exact hjm
  .exact T.le _ _ a2
 .exact T.du
 .exact T.fu
 .exact T.od
 .show(insertAt t.place p j).size<=t.mask;rw[m7 hb,T.sz];exact room
 .intro i x f hx hf;have gf:=um hb2 e i;rw[gf]at hf;have old:∀i0:Nat,t.place[i0]?=some x->es[i0]?=some f->∃m,m<10*turns t.mask/\(pr t.mask f.1 m).j=x/\Way { t with place:=insertAt t.place p j } f.1 m:=λi0 u v=>by
   obtain⟨m,c1,c2,c3⟩:=T.rc i0 x f u v;exact⟨m,c1,c2,λm' l=>inUp _ (c3 m' l)⟩
  rcases down i x hx with⟨a1,a2⟩|⟨a1,a2⟩|⟨a1,a2⟩
  .rw[if_pos a1]at hf;exact old i a2 hf
  .rw[if_neg (by lia),if_pos a1]at hf
   cases hf;exact⟨N,hl,by rw[a2];exact hj,λm' l=>inUp _ (hw m' l)⟩
  .rw[if_neg (by lia),if_neg (by lia)]at hf
   exact old (i-1) a2 hf
end
def m8{m i:Nat}(hi:i<=m):i+(runEnd m i-i)<=m:=by unfold runEnd;split<;>lia
theorem HK(m:Nat) (h:Int):∀n,(pr m h n).j+(pr m h n).more<=m
 |0=>by have z:bits h%(m+1)<m+1:=U4 (bits h) (U5 m);show bits h%(m+1)+(runEnd m (bits h%(m+1))-bits h%(m+1))<=m;exact m8 (by lia)
 |n+1=>by have ih:=HK m h n;show(nW m (pr m h n)).j+(nW m (pr m h n)).more<=m;unfold nW;split;{dsimp only;lia};dsimp only;have:(leap m (pr m h n).i (pr m h n).perturb).1<m+1:=U4 _ (U5 m);exact m8 (by lia)
def Bj(m:Nat) (h:Int) (n:Nat):(pr m h n).j<=m:=by have:=HK m h n;lia
def heads{m:Nat}(hf:full (m+1)=true) (h:Int){j:Nat}(hj:j<=m):∃k,k<turns m/\(run (m+1) (bits h) k).1=j:=by obtain⟨r,hr,e⟩:=wN hf (yx (b:=bits h) (U5 m) 12) (VW hj);refine⟨12+r,?_,?_⟩;{unfold turns;lia};rw[t6 (zY h) (Q5 _),e]
abbrev Own:=Array (Option Nat)
def Tk (o:Own) (j:Nat):Prop:=∃k,o[j]?=some (some k)
noncomputable def xG (m:Nat)(o:Own) (h:Int) (n:Nat):Prop:=∀n',n'<n->Tk o (pr m h n').j
def getD_none{m:Nat}(hs:o.size=m+1){j:Nat}(hj:j<=m):(o.getD j (some 0)).isNone=true↔¬Tk o j:=by
 have g:o[j]?=some o[j]:=RP (by lia);rw[Sv,g];show(o[j]).isNone=true↔_;constructor;{rintro q⟨k,e⟩;rw[g]at e;rw[Option.some.inj e]at q;cases q};intro q;cases z:o[j]with
 |none=>rfl
 |some k=>exact absurd ⟨k,by rw[g,z]⟩ q
theorem vD{m:Nat}{h:Int}(hs:o.size=m+1):∀(fuel k n:Nat),pS m h n k->n<=10*k->xG m o h n->(∃k',k<=k'/\k'<k+fuel/\¬Tk o (run (m+1) (bits h) k').1)->∃N,N<10*(k+fuel)/\layClean.free m o fuel (run (m+1) (bits h) k).1 (run (m+1) (bits h) k).2=some (pr m h N).j/\¬Tk o (pr m h N).j/\xG m o h N
 |0,k,n,_,_,_,⟨k',a,b,_⟩=>by lia
 |fuel+1,k,n,a,hn,hw,⟨k',q1,q2,q3⟩=>by
  have hi:(run (m+1) (bits h) k).1<=m:=by have:=yx (M:=m+1) (b:=bits h) (U5 m) k;lia
  have hre:=m8 hi;have hle9:=uQ m (run (m+1) (bits h) k).1;have hge:(run (m+1) (bits h) k).1<=runEnd m (run (m+1) (bits h) k).1:=by unfold runEnd;split<;>lia
  have pos:∀r,r<=runEnd m (run (m+1) (bits h) k).1-(run (m+1) (bits h) k).1->(pr m h (n+r)).j=(run (m+1) (bits h) k).1+r:=λr hr=>by rw[rY a r hr]
  unfold layClean.free;cases f:(List.range (runEnd m (run (m+1) (bits h) k).1+1-(run (m+1) (bits h) k).1)).find? (λk_1=>(o.getD ((run (m+1) (bits h) k).1+k_1) (some 0)).isNone)with
  |some r=>
   obtain⟨p1,i,hi',e1,e2⟩:=List.find?_eq_some_iff_getElem.mp f;rw[List.getElem_range]at e1;subst e1;have hlen:i<runEnd m (run (m+1) (bits h) k).1+1-(run (m+1) (bits h) k).1:=by simpa using hi'
   refine⟨n+i,by lia,?_,?_,λn' l=>?_⟩;{rw[pos i (by lia)]};{rw[pos i (by lia)];exact(getD_none hs (by lia)).mp p1};by_cases c:n'<n;{exact hw n' c};have e3:=e2 (n'-n) (by lia);rw[List.getElem_range]at e3;have e4:(!(o.getD ((run (m+1) (bits h) k).1+(n'-n)) (some 0)).isNone)=true:=e3;have z:¬(o.getD ((run (m+1) (bits h) k).1+(n'-n)) (some 0)).isNone=true:=λq=>by rw[q]at e4;cases e4
   have z2:=λq=>z ((getD_none hs (by lia)).mpr q);have z3:=Classical.not_not.mp z2;rw[show n'=n+(n'-n)by lia,pos (n'-n) (by lia)];exact z3
  |none=>
   have no:∀r,r<=runEnd m (run (m+1) (bits h) k).1-(run (m+1) (bits h) k).1->Tk o ((run (m+1) (bits h) k).1+r):=λr hr=>by have z:=List.find?_eq_none.mp f r (RU.mpr (by lia));exact Classical.not_not.mp λq=>z ((getD_none hs (by lia)).mpr q)
   have z:=rY a _ (Q5 _);have a':pS m h (n+(runEnd m (run (m+1) (bits h) k).1-(run (m+1) (bits h) k).1)+1) (k+1):=by show nW m (pr m h (n+(runEnd m (run (m+1) (bits h) k).1-(run (m+1) (bits h) k).1)))=_;rw[z];unfold nW;rw[if_neg (show ¬(runEnd m (run (m+1) (bits h) k).1-(run (m+1) (bits h) k).1-(runEnd m (run (m+1) (bits h) k).1-(run (m+1) (bits h) k).1)>0)by lia)];rfl
   have w':xG m o h (n+(runEnd m (run (m+1) (bits h) k).1-(run (m+1) (bits h) k).1)+1):=λn' l=>by by_cases c:n'<n;{exact hw n' c};rw[show n'=n+(n'-n)by lia,pos (n'-n) (by lia)];exact no _ (by lia)
   have later:k+1<=k':=by
    rcases Rh k k' with c|c;{exact c};have e:k'=k:=by lia
    subst e;exact absurd (by simpa using no 0 (RO _)) q3
   obtain⟨N,c1,c2,c3,c4⟩:=vD hs fuel (k+1) _ a' (by lia) w' ⟨k',later,by lia,q3⟩;exact⟨N,by lia,c2,c3,c4⟩
noncomputable def bE (o:Own) (M:Nat):WH:=(List.range M).filterMap λj=>(o.getD j none).map (j,·)
structure jS(m:Nat)(hs:Wa)(o:Own):Prop where
 sz:o.size=m+1
 pm:((bE o (m+1)).map (·.2)).Perm (List.range hs.length)
 rc:∀(j k:Nat) (h:Int),o[j]?=some (some k)->hs[k]?=some h->∃n,n<10*turns m/\(pr m h n).j=j/\xG m o h n
 kl:∀j k:Nat,o[j]?=some (some k)->k<hs.length
def qz{M j:Nat}(hj:j<M):List.range M=List.range j++j::List.range' (j+1) (M-j-1):=by rw[VX,VX,show(j::List.range' (j+1) (M-j-1))=List.range' j (M-j-1+1)from rfl];have e:=List.range'_append (s:=0) (m:=j) (n:=M-j-1+1) (step:=1);rw[Nat.one_mul,SN]at e;rw[e,show j+(M-j-1+1)=M by lia]
def qW{o:Own}{j x:Nat}(hj:j<o.size):(o.setIfInBounds j v).getD x none=if x=j then v else o.getD x none:=by rw[Sv,Sv,VY];by_cases e:j=x;{subst e;rw[if_pos rfl,if_pos hj,if_pos rfl];rfl};rw[if_neg e,if_neg (λz=>e z.symm)]
theorem qS{f g:Nat->Option (Nat×Nat)}:∀{l:WZ},(∀x∈l,f x=g x)->l.filterMap f=l.filterMap g
 |[],_=>rfl
 |a::r,h=>by rw[Rr,Rr,h a Q6,qS λx hx=>h x (QU _ hx)]
def FQ{m j k:Nat}(hs:o.size=m+1)(hj:j<=m)(hn:¬Tk o j):∃A B,bE o (m+1)=A++B/\bE (o.setIfInBounds j (some k)) (m+1)=A++(j,k)::B:=by
 have hnone:o.getD j none=none:=by
  have g:o[j]?=some o[j]:=RP (by lia);rw[Sv,g];show o[j]=none;cases z:o[j]with
  |none=>rfl
  |some k=>exact absurd ⟨k,by rw[g,z]⟩ hn
 refine⟨(List.range j).filterMap λx=>(o.getD x none).map (x,·),(List.range' (j+1) (m+1-j-1)).filterMap λx=>(o.getD x none).map (x,·),?_,?_⟩;{unfold bE;rw[qz (M:=m+1) (j:=j) (by lia),UO,Rr,hnone];rfl};unfold bE;rw[qz (M:=m+1) (j:=j) (by lia),UO,Rr,qW (by lia),if_pos rfl];show _++(j,k)::_=_;congr 1;{refine qS λx hx=>?_;have:=RU.mp hx;rw[qW (by lia),if_neg (by lia)]};congr 1;refine qS λx hx=>?_;have:=(List.mem_range'_1.mp hx).1;rw[qW (by lia),if_neg (by lia)]
def Et{j k x:Nat}(h:Tk o x)(hn:¬Tk o j):Tk (o.setIfInBounds j (some k)) x:=by obtain⟨k',e⟩:=h;refine⟨k',?_⟩;have ne:j≠x:=λz=>hn ⟨k',by rw[z];exact e⟩;rw[VY,if_neg ne];exact e
def jS.more{m:Nat}{h:Int}{N:Nat}(O:jS m hs o)(hl:N<10*turns m)(hn:¬Tk o (pr m h N).j)(hw:xG m o h N):jS m (hs++[h]) (o.setIfInBounds (pr m h N).j (some hs.length)):=by
 have hj:=Bj m h N;have hjs:(pr m h N).j<o.size:=by rw[O.sz];lia
 have set:∀x,(o.setIfInBounds (pr m h N).j (some hs.length))[x]?=if(pr m h N).j=x then some (some hs.length)else o[x]?:=λx=>by rw[VY];by_cases e:(pr m h N).j=x;{rw[if_pos e,if_pos hjs,if_pos e]};rw[if_neg e,if_neg e]
 refine⟨by rw[Array.size_setIfInBounds,O.sz],?_,λj k g hk hg=>?_,λj k hk=>?_⟩;{obtain⟨A,B,e1,e2⟩:=FQ (k:=hs.length) O.sz hj hn;have p:=O.pm;rw[e1,RG]at p;rw[e2,RG,RE,RC,UK,List.range_succ];exact(List.perm_middle.trans (List.Perm.cons _ p)).trans (List.perm_append_singleton _ _).symm};{rw[set]at hk;by_cases e:(pr m h N).j=j;{rw[if_pos e]at hk;cases hk;rw[T5 (Q5 _),Nat.sub_self]at hg;cases hg;exact⟨N,hl,e,λn' l=>Et (hw n' l) hn⟩};rw[if_neg e]at hk;have kl:=O.kl j k hk;rw[Sl kl]at hg;obtain⟨n,c1,c2,c3⟩:=O.rc j k g hk hg;exact⟨n,c1,c2,λn' l=>Et (c3 n' l) hn⟩};rw[RC,UK];rw[set]at hk;by_cases e:(pr m h N).j=j;{rw[if_pos e]at hk;cases hk;lia};rw[if_neg e]at hk;have:=O.kl j k hk;lia
theorem CU{f:Nat->Option (Nat×Nat)}:∀{l:WZ},(∀x∈l,∃y,f x=some y)->(l.filterMap f).length=l.length
 |[],_=>rfl
 |a::r,h=>by obtain⟨y,e⟩:=h a Q6;rw[Rr,e];show((r.filterMap f).length+1)=r.length+1;rw[CU λx hx=>h x (QU _ hx)]
def lV{o:Own}{j k:Nat}:o.getD j none=some k↔o[j]?=some (some k):=by
 rw[Sv];cases z:o[j]? with
 |none=>exact⟨λq=>(nomatch q),λq=>(nomatch q)⟩
 |some v=>exact⟨λq=>congrArg some q,λq=>Option.some.inj q⟩
def jS.room{m:Nat}{hs:Wa}(O:jS m hs o)(hl:hs.length<=m):∃j,j<=m/\¬Tk o j:=by
 refine Uy λno=>?_;have all:∀j,j<=m->Tk o j:=λj hj=>Uy λq=>no ⟨j,hj,q⟩;have e:=O.pm.length_eq;rw[Q7,RB]at e;unfold bE at e;rw[CU (λx hx=>by
  obtain⟨k,hk⟩:=all x (by have:=RU.mp hx;lia)
  exact⟨(x,k),by rw[lV.mpr hk];rfl⟩),RB]at e
 lia
noncomputable def qc (m:Nat)(acc:Option (Own×Nat)) (h:Int):Option (Own×Nat):=do
 let (owner,k) <-acc
 let j <-layClean.free m owner (turns m) (bits h%(m+1)) (bits h)
 pure (owner.setIfInBounds j (some k),k+1)
theorem xx{m:Nat}(hf:full (m+1)=true):∀(hs2 hs1:Wa)(o:Own),jS m hs1 o->hs1.length+hs2.length<=m->∃o',hs2.foldl (qc m) (some (o,hs1.length))=some (o',(hs1++hs2).length)/\jS m (hs1++hs2) o'
 |[],hs1,o,O,_=>⟨o,by rw[S8];rfl,by rw[S8];exact O⟩
 |h::r,hs1,o,O,hl=>by
  rw[RK]at hl;obtain⟨j0,hj0,n0⟩:=O.room (by lia);obtain⟨k',hk',e'⟩:=heads hf h hj0;obtain⟨N,c1,c2,c3,c4⟩:=vD (h:=h) O.sz (turns m) 0 0 rfl (Q5 _) (λ_ l=>absurd l (Ru _)) ⟨k',RO _,by lia,by rw[e'];exact n0⟩;have O2:=O.more (by lia) c3 c4;obtain⟨o',e1,O3⟩:=xx hf r (hs1++[h]) _ O2 (by rw[RC,UK];lia);have st:qc m (some (o,hs1.length)) h=some (o.setIfInBounds (pr m h N).j (some hs1.length),hs1.length+1):=by show(layClean.free m o (turns m) (bits h%(m+1)) (bits h)).bind _=_;have c2:layClean.free m o (turns m) (bits h%(m+1)) (bits h)=some (pr m h N).j:=c2;rw[c2];rfl
  rw[RY]at e1 O3;refine⟨o',?_,O3⟩;rw[List.foldl_cons,st];rw[RC,UK]at e1;exact e1
def rJ{n j:Nat}:(Array.replicate n (none:Option Nat)).getD j none=none:=by rw[Sv,Array.getElem?_replicate];split<;>rfl
def CZ(m:Nat):jS m [] (Array.replicate (m+1) none):=by
 refine⟨by rw[Array.size_replicate],?_,λj k h hk=>?_,λj k hk=>?_⟩
 .have e:bE (Array.replicate (m+1) none) (m+1)=[]:=by unfold bE;rw[List.filterMap_eq_nil_iff];intro x _;rw[rJ];rfl
  rw[e];exact List.Perm.refl _
 .have:=lV.mpr hk;rw[rJ]at this;cases this
 have:=lV.mpr hk;rw[rJ]at this;cases this
def zm{m:Nat}(hf:full (m+1)=true)(hl:hs.size<=m):∃o,layClean m hs=some o/\jS m hs.toList o:=by obtain⟨o,e,O⟩:=xx hf hs.toList [] _ (CZ m) (by simpa using hl);refine⟨o,?_,O⟩;have e2:layClean m hs=(hs.foldl (qc m) (some (Array.replicate (m+1) none,0))).map (·.1):=rfl;have e:hs.toList.foldl (qc m) (some (Array.replicate (m+1) none,0))=some (o,([]++hs.toList).length):=e;rw[e2,<-Array.foldl_toList,e];rfl
def qJ{o:Own}{M j k:Nat}:(j,k)∈bE o M↔j<M/\o[j]?=some (some k):=by
 unfold bE;rw[Uk];constructor
 .rintro⟨x,hx,e⟩;cases z:o.getD x none with
  |none=>rw[z]at e;cases e
  |some k'=>rw[z]at e;cases e;exact⟨RU.mp hx,lV.mp z⟩
 rintro⟨h1,h2⟩;exact⟨j,RU.mpr h1,by rw[lV.mpr h2];rfl⟩
theorem qQ{o:Own}:∀(l:WZ),((l.filterMap λj=>(o.getD j none).map (j,·)).map (·.1))=l.filter λj=>(o.getD j none).isSome
 |[]=>rfl
 |a::r=>by
  rw[Rr,List.filter_cons];cases z:o.getD a none with
  |none=>exact qQ r
  |some k=>show a::_=a::_;rw[<-qQ r]
def E9(o:Own) (M:Nat):gR ((bE o M).map (·.1)).toArray:=by
 intro i k x y hik hx hy;have p:((bE o M).map (·.1)).Pairwise (·<·):=by unfold bE;rw[qQ];exact(List.pairwise_lt_range).filter _
 rw[VZ]at hx hy;obtain⟨h1,e1⟩:=RW.mp hx;obtain⟨h2,e2⟩:=RW.mp hy;rw[<-e1,<-e2];exact Tj.mp p i k h1 h2 hik
theorem EX{α β:Type}{f:α->Option β}{g:α->β}:∀{l:List α},(∀x∈l,f x=some (g x))->l.filterMap f=l.map g
 |[],_=>rfl
 |a::r,h=>by rw[Rr,h a Q6,RE,EX λx hx=>h x (QU _ hx)]
def FT{t:SetTable}{es:Array Ent}{wanted:Nat}(hf:full (sizeAbove wanted-1+1)=true)(ho:(sizeAbove wanted-1)%2=1)(hl:es.size<=sizeAbove wanted-1) : ∃es' t',relayAll t es wanted=(es',t',false)/\TB t' es'/\es'.toList.Perm es.toList/\t'.led=t.led/\t'.plain=t.plain/\t'.mask=sizeAbove wanted-1:=by
 obtain⟨o,e,O⟩:=zm hf (hs:=es.map (·.1)) (by simpa using hl);generalize hm:sizeAbove wanted-1=m at *;have hn:(es.map (·.1)).toList.length=es.size:=by simp
 have pm:=O.pm;rw[hn]at pm;have order_lt:∀k∈(bE o (m+1)).map (·.2),k<es.size:=λk hk=>RU.mp (pm.mem_iff.mp hk);have hg:∀k∈(bE o (m+1)).map (·.2),es[k]?=some (es.getD k (0,.none)):=λk hk=>by have:=order_lt k hk;rw[Sv,RP this];rfl
 have esL:(((bE o (m+1)).map (·.2)).toArray.filterMap (es[·]?)).toList=((bE o (m+1)).map (·.2)).map λk=>es.getD k (0,.none):=by rw[Array.toList_filterMap];exact EX hg
 have len:(bE o (m+1)).length=es.size:=by have:=pm.length_eq;rw[Q7,RB]at this;exact this
 have es'sz:(((bE o (m+1)).map (·.2)).toArray.filterMap (es[·]?)).size=es.size:=by rw[<-RQ,esL,Q7,Q7,len]
 have rel:t.relaid (es.map (·.1)) wanted=some ({ mask:=m,place:=((bE o (m+1)).map (·.1)).toArray,dummies:=#[],finger:=t.finger,led:=t.led,moves:=t.movedTo m,plain:=t.plain },((bE o (m+1)).map (·.2)).toArray):=by unfold relaid laid;rw[hm];show(layClean m (es.map (·.1))).bind _=_;rw[e];rfl
 have psz:((bE o (m+1)).map (·.1)).toArray.size=es.size:=by rw[R9,Q7,len]
 have T:TB { mask:=m,place:=((bE o (m+1)).map (·.1)).toArray,dummies:=#[],finger:=t.finger,led:=t.led,moves:=t.movedTo m,plain:=t.plain } (((bE o (m+1)).map (·.2)).toArray.filterMap (es[·]?)):=by
  have at_:∀(i j:Nat),((bE o (m+1)).map (·.1)).toArray[i]?=some j->∃k,(bE o (m+1))[i]?=some (j,k):=λi j h=>by
   rw[VZ,R8]at h;cases z:(bE o (m+1))[i]? with
   |none=>rw[z]at h;cases h
   |some p=>rw[z]at h;obtain⟨a,b⟩:=p;cases h;exact⟨b,rfl⟩
  have inj:∀j k:Nat,o[j]?=some (some k)->j<=m->In { mask:=m,place:=((bE o (m+1)).map (·.1)).toArray,dummies:=#[],finger:=t.finger,led:=t.led,moves:=t.movedTo m,plain:=t.plain } j:=λj k h hj=>by obtain⟨i,hi⟩:=Rq (qJ.mpr ⟨VW hj,h⟩);refine⟨i,?_⟩;show((bE o (m+1)).map (·.1)).toArray[i]?=some j;rw[VZ,R8,hi];rfl
  refine⟨by rw[es'sz];exact psz,E9 o (m+1),λi j h=>?_,rfl,hf,ho,by show _<=m;rw[psz];exact hl,λi j f h hf'=>?_⟩;{obtain⟨k,hk⟩:=at_ i j h;have:=(qJ.mp (RD hk)).1;show j<=m;lia};obtain⟨k,hk⟩:=at_ i j h;have mem:=qJ.mp (RD hk);have f1:(((bE o (m+1)).map (·.2)).toArray.filterMap (es[·]?)).toList[i]?=some f:=by rw[RJ];exact hf'
  rw[esL,R8,R8,hk]at f1;have f2:es.getD k (0,.none)=f:=Option.some.inj f1;have vE:k∈(bE o (m+1)).map (·.2):=Q8.mpr ⟨_,RD hk,rfl⟩;have f3:=hg k vE;rw[f2]at f3;have f4:(es.map (·.1)).toList[k]?=some f.1:=by rw[RJ,Array.getElem?_map,f3];rfl
  obtain⟨n,c1,c2,c3⟩:=O.rc j k f.1 mem.2 f4;refine⟨n,c1,c2,λn' l=>?_⟩;obtain⟨k',z⟩:=c3 n' l;exact inj _ k' z (Bj m f.1 n')
 refine⟨_,_,?_,T,?_,rfl,rfl,rfl⟩;{unfold relayAll;rw[rel];dsimp only;rw[if_pos];rw[Q9];refine⟨?_,T.fits⟩;unfold coversAll;exact List.isPerm_iff.mpr pm};rw[esL];have p2:=pm.map λk=>es.getD k (0,.none);refine p2.trans (List.Perm.of_eq ?_);refine T4 λi=>?_;rw[R8];by_cases q:i<es.size;{rw[Ry q,RJ,RP q];show some (es.getD i (0,.none))=_;rw[Sv,RP q];rfl};rw[Rk (by rw[RB];lia),RJ,Uz (by lia)];rfl
def Jv:full 16=true:=by decide+kernel
def JK:full 64=true:=by decide+kernel
def Ga:full 256=true:=by decide+kernel
def zd:∀n,n<=127->[8,16,32,64,128,256,512].contains (sizeAbove (grown n))=true/\n<sizeAbove (grown n):=by decide+kernel
def Jx{n:Nat}(hn:n<=127):full (sizeAbove (grown n)-1+1)=true/\(sizeAbove (grown n)-1)%2=1/\n<=sizeAbove (grown n)-1:=by
 obtain⟨h1,h2⟩:=zd n hn;generalize sizeAbove (grown n)=z at *;have:z=8\/z=16\/z=32\/z=64\/z=128\/z=256\/z=512:=by simpa using h1
 rcases this with rfl|rfl|rfl|rfl|rfl|rfl|rfl;{exact⟨DF,rfl,by lia⟩};{exact⟨Jv,rfl,by lia⟩};{exact⟨Ka,rfl,by lia⟩};{exact⟨JK,rfl,by lia⟩};{exact⟨Fv,rfl,by lia⟩};{exact⟨Ga,rfl,by lia⟩};exact⟨Gu,rfl,by lia⟩
section
variable{prog:Program}{w:World}{K:Type} [DecidableEq K]{knd:KeyKind prog w K}{A:Around}{E:WA}{s:Shared}
def zc(n:Nat)(h:carriedByValue v=true):ofAClassStatement n v=pure false:=by
 cases v with
 |ref a=>exact absurd (show false=true from h) QV
 |_=>simp only[ofAClassStatement]
def vB{a:Addr}(hk:IsTupleKey knd s.heap ks a)(h:Q false s):wpAny (model prog w) A (ofAClassStatement 8 (.ref a)) Q E s:=by obtain⟨o,items,n,ho,hc,hd,hi⟩:=hk;unfold ofAClassStatement;have hT:s.TypeIs (.ref a) "tuple":=⟨o,ho,hc⟩;refine Q0 (Tz hT ?_);refine Q0 (Q2 ?_);simp only[Bool.not_true,T9,SW];refine Q0 (wpAny_seqItems ho hd ?_);refine Q0 ?_;show wpAny _ _ (forIn items _ _) _ _ s;rw[<-Array.forIn_toList];refine V0 _ (λrest r s'=>r.1=none/\s'=s/\∀v∈rest,carriedByValue v=true) _ ?_ ?_ _ _ ⟨rfl,rfl,hi.byValue⟩;{rintro v rest r s'⟨hr,rfl,hall⟩;rw[zc _ (hall v Q6)];refine Q0 (Q2 ?_);simp only[T9,SW];exact Q2 ⟨rfl,rfl,λu hu'=>hall u (QU _ hu')⟩};rintro⟨r1,r2⟩s'⟨hr,rfl,_⟩;simp only at hr;subst hr;exact Q2 h
end
section
variable{prog:Program}{w:World}{K:Type} [DecidableEq K]{knd:KeyKind prog w K}{A:Around}{E:WA}{s:Shared}
def rM{b:Addr}(hk:IsTupleKey knd s.heap k b)(hy:∀y∈ys,∃k' a,y=Value.ref a/\IsTupleKey knd s.heap k' a)(h:Q false s) : wpAny (model prog w) A (searchCouldBeSeen (.ref b) ys) Q E s:=by
 unfold searchCouldBeSeen;refine Q0 ?_;refine V0 _ (λrest r s'=>r.1=none/\s'=s/\∀y∈rest,∃k' a,y=Value.ref a/\IsTupleKey knd s.heap k' a) _ ?_ ?_ _ _ ⟨rfl,rfl,hy⟩
 .rintro v rest r s'⟨hr,rfl,hall⟩;obtain⟨k',a,rfl,ha⟩:=hall v Q6;have next:∀u∈rest,∃k' a,u=Value.ref a/\IsTupleKey knd s'.heap k' a:=λu hu=>hall u (QU _ hu)
  dsimp only;by_cases q:(b==a)=true;{rw[if_pos (by rw[q];rfl)];exact Q2 ⟨rfl,rfl,next⟩};rw[if_neg (by rw[Bool.not_eq_true]at q;rw[q];exact QV)];refine Q0 (wpAny_eqIsQuiet_tuple hk ?_);simp only[Bool.not_true,T9,SW];refine Q0 (wpAny_eqIsQuiet_tuple ha ?_);simp only[Bool.not_true,T9,SW];refine Q0 (vB hk ?_);simp only[T9,SW];refine Q0 (vB ha ?_);simp only[T9,SW];exact Q2 ⟨rfl,rfl,next⟩
 rintro⟨r1,r2⟩s'⟨hr,rfl,_⟩;simp only at hr;subst hr;exact Q2 h
end
section
variable{prog:Program}{w:World}{K:Type} [DecidableEq K]{knd:KeyKind prog w K}{A:Around}{E:WA}{s:Shared}{t:SetTable}{es:Array Ent}
noncomputable def nO (knd:KeyKind prog w K)(h:Heap)(e:Ent)(k:List K):Prop:=∃b,e.2=.ref b/\e.1=tupleKeyHash knd k/\IsTupleKey knd h k b
structure SK(knd:KeyKind prog w K)(h:Heap)(es:Array Ent)(ks:List (List K)):Prop where
 ok:∀e∈es.toList,∃k,k∈ks/\nO knd h e k
 on:∀k∈ks,∃e,e∈es.toList/\nO knd h e k
 len:es.size=ks.length
theorem nO.inj(a:nO knd h e k)(b:nO knd h e k'):k=k':=by obtain⟨x,e1,_,h1⟩:=a;obtain⟨y,e2,_,h2⟩:=b;rw[e1]at e2;cases e2;exact(tupleKind knd).inj h1 h2
def TB.before(T:TB t es){h:Int}{N:Nat}(hN:¬In t (pr t.mask h N).j)(hw:Way t h N){i:Nat}(he:es[i]?=some e)(eh:e.1=h):∃n,n<N/\t.place[i]?=some (pr t.mask h n).j:=by
 have hi:i<t.place.size:=by rw[T.sz];exact j7 he
 have hp:t.place[i]?=some t.place[i]:=RP hi;obtain⟨n,_,e1,e2⟩:=T.rc i _ e hp he;rw[eh]at e1 e2;refine⟨n,?_,by rw[hp,e1]⟩;rcases Th n N with z|z|z;{exact z};{subst z;exact absurd ⟨i,by rw[hp,e1]⟩ hN};exact absurd (e2 N z) hN
end
section
variable{prog:Program}{w:World}{K:Type} [DecidableEq K]{knd:KeyKind prog w K}{A:Around}{E:WA}{s:Shared}{t:SetTable}{es:Array Ent}
theorem qh{a b:Addr}{ep N:Nat}(hr:A.units<cLine)(ho:s.heap.get? a=some o)(hd:o.data=.set es ep t)(T:TB t es)(S:SK knd s.heap es ks)(hk:IsTupleKey knd s.heap k b)(hl:N<10*turns t.mask)(hN:¬In t (pr t.mask (tupleKeyHash knd k) N).j)(hw:Way t (tupleKeyHash knd k) N)(q:Q (if k∈ks then .there none else .free (pr t.mask (tupleKeyHash knd k) N).j false) s) : ∀(fuel n:Nat)(p:Option Probe),n<=N->N-n<fuel->p.getD (t.probeStart (tupleKeyHash knd k))=pr t.mask (tupleKeyHash knd k) n->(∀(m i:Nat)(e:Ent),m<n->t.place[i]?=some (pr t.mask (tupleKeyHash knd k) m).j->es[i]?=some e->¬nO knd s.heap e k)->wpAny (model prog w) A (setSearchFrom a (.ref b) (tupleKeyHash knd k) true fuel p) Q E s
 |0,n,p,h1,h2,h3,h4=>absurd h2 (Ru _)
 |fuel+1,n,p,h1,h2,h3,h4=>by
  rw[setSearchFrom.eq_2];refine Q0 (SO ho hd T.fits ?_);dsimp only;rw[if_neg (by rw[T.Dp];exact QV),h3];have z:=uq T.ri T.du (hashAt:=λi=>(Option.map (λx=>x.fst) es[i]?).getD 0) hN hw (10*turns t.mask) n h1 (by lia);have entry:∀i j:Nat,t.place[i]?=some j->∃e,es[i]?=some e:=λi j h=>by
   have hi:i<es.size:=by rw[<-T.sz];exact j7 h
   exact⟨es[i],RP hi⟩
  rcases z with⟨z1,z2⟩|⟨m,i,c1,c2,c3,c4,c5,c6⟩
  .have no:k∉ks:=λhin=>by obtain⟨e,he,eo⟩:=S.on k hin;obtain⟨i,hi⟩:=Rq he;rw[RJ]at hi;obtain⟨b',_,eh,_⟩:=id eo;obtain⟨n',hn',hp⟩:=T.before hN hw hi eh;by_cases c:n'<n;{exact h4 n' i e c hp hi eo};refine z2 n' i (by lia) hn' hp ?_;rw[hi];exact eh
   rw[if_neg no]at q;split
   .next met heq=>
    have e:=z1.symm.trans heq;cases e;exact Q2 q
   next x hx=>
   exact absurd z1 (hx _)
  obtain⟨e,he⟩:=entry i _ c3;obtain⟨k',hk',eo⟩:=S.ok e (RD (by rw[RJ];exact he));obtain⟨b',e1,e2,e3⟩:=id eo;obtain⟨eh,ev⟩:=e;simp only at e1 e2;subst e1;have more:∀{P:Unit->Sem SetFound},wpAny (model prog w) A (P ()) Q E s->wpAny (model prog w) A (if(!t.led)=true then do
       let r <-searchCouldBeSeen (.ref b) (List.map (λx=>x.snd) (Array.filter (λx=>x.fst==tupleKeyHash knd k) es).toList)
       if r=true then do
         let r <-unsupported "set:the-search-would-show-the-table"
         P r
        else P ()
      else P ()) Q E s:=λhP=>by
   split
   .refine Q0 (rM hk (λy hy=>?_) ?_)
    .obtain⟨f,hf,rfl⟩:=Q8.mp hy;obtain⟨k2,_,b2,f1,_,f3⟩:=S.ok f (by
      have:=UI.mp hf;rw[UI];exact(Array.mem_filter.mp this).1)
     exact⟨k2,b2,f1,f3⟩
    .rw[if_neg QV];exact hP
   .exact hP
  split
  .next met heq=>
   have e:=c5.symm.trans heq;cases e;dsimp only;refine more (P:=λ_=>_) ?_;rw[he];dsimp only;refine Q0 (Rb (wpAny_eqBool_tuple hr e3 hk ?_));refine Q0 (SO ho hd T.fits ?_);dsimp only;by_cases c:k'=k;{subst c;rw[if_pos hk']at q;rw[Rg rfl];rw[if_pos (by rfl)];exact Q2 q};rw[Rm c];rw[if_neg (by simp)];have sm:t.sameMemory t.moves t.mask=some true:=by unfold sameMemory;rw[if_pos (by simp)]
   rw[sm];dsimp only;rw[if_pos rfl,oH T.ri c3];dsimp only;rw[he];dsimp only;refine Q0 (wpAny_isSame_ref_self ?_);refine Q0 (Q2 ?_);rw[if_pos rfl];dsimp only;rw[if_neg QV];refine qh hr ho hd T S hk hl hN hw q fuel (m+1) (some (pr t.mask (tupleKeyHash knd k) (m+1))) (by lia) (by lia) rfl λm' i' e' hm' hp' he' eo'=>?_;rcases Rh m' n with l|l;{exact h4 m' i' e' l hp' he' eo'};rcases Rh m' m with l2|l2;{refine c6 m' i' l l2 hp' ?_;rw[he'];obtain⟨_,_,g,_⟩:=eo';exact g};have em:m'=m:=by lia
   subst em;have ei:=T.ri.inj hp' c3;subst ei;rw[he]at he';cases he';exact c (eo.inj eo')
  next x hx=>
  exact absurd c5 (hx _)
end
end SM
namespace L2
open PySem PySem.Spec PyProof.Rows
theorem sZ:∀{ns:Wa}{us:WQ},Vals (ns.map V.int) us->ItemsAre (intKind P w) ns us
 |[],_,.nil=>.nil
 |n::ns,_,.cons h r=>by obtain⟨t,rfl⟩:=h;exact .cons (UP P w n t) (sZ r)
section
variable{X:Cx}
theorem Ad:∀{xs:List V}{us:WQ},Vals xs us->∀(i:Nat)(u:Value),us[i]?=some u->∃x,xs[i]?=some x/\RelV x u
 |_,_,.nil,i,u,h=>by cases h
 |_,_,.cons h r,0,u,e=>by cases e;exact⟨_,rfl,h⟩
 |_,_,.cons h r,i+1,u,e=>Ad r i u e
end
end L2
namespace L2
open PySem PySem.Spec PyProof.Rows PySem.SeqAt PySem.W
mutual
inductive jL(K:WJ)(H:Hp):V->PyData->Prop
 |aK:jL K H .aK .none
 |bl (b:Bool):jL K H (.bl b) (.bool b)
 |int (i:Int):jL K H (.int i) (.int i)
 |str (x:Str):jL K H (.str x) (.str x)
 |lst {a:Addr}{xs:List V}{ds:WN}:bQ K H a xs->lI K H xs ds->jL K H (.ref a) (.list ds)
 |tup {a:Addr}{xs:List V}{ds:WN}:bI K H a xs->lI K H xs ds->jL K H (.ref a) (.tuple ds)
inductive lI(K:WJ)(H:Hp):List V->WN->Prop
 |nil:lI K H [] []
 |cons {x:V}{d:PyData}{xs:List V}{ds:WN}:jL K H x d->lI K H xs ds->lI K H (x::xs) (d::ds)
end
section
variable{X:Cx}{pins:WD}{U:St}{H:Hp}{s:Shared}
mutual
theorem Inv.reads(I:Inv X pins U H s):∀{v:V}{d:PyData}{u:Value},jL X.K H v d->RelV v u->∃as,Reads s.heap u d as
 |_,_,_,.aK,r=>by cases r;exact⟨_,.none⟩
 |_,_,_,.bl b,r=>by cases r;exact⟨_,.bool b⟩
 |_,_,_,.int i,r=>by obtain⟨t,rfl⟩:=r;exact⟨_,.int i t⟩
 |_,_,_,.str x,r=>by obtain⟨t,rfl⟩:=r;exact⟨_,.str x t⟩
 |_,_,_,.lst hq hs,r=>by cases r;obtain⟨its,rv,p,_⟩:=I.list hq;obtain⟨as,ra⟩:=I.readsAll hs rv;obtain⟨o,ho,hc,n,hd⟩:=p.isList;exact⟨_,.list ho hc hd (by simpa using ra)⟩
 |_,_,_,.tup hq hs,r=>by cases r;obtain⟨its,rv,p,_⟩:=I.tuple hq;obtain⟨as,ra⟩:=I.readsAll hs rv;obtain⟨o,ho,hc,n,hd⟩:=(show s.heap.IsTuple _ its.toArray from p);exact⟨_,.tuple ho hc hd (by simpa using ra)⟩
theorem Inv.readsAll(I:Inv X pins U H s):∀{vs:List V}{ds:WN}{us:WQ},lI X.K H vs ds->Vals vs us->∃as,ReadsAll s.heap us ds as
 |_,_,_,.nil,r=>by cases r;exact⟨_,.nil⟩
 |_,_,_,.cons h hs,r=>by
  cases r with
  |cons r1 r2=>obtain⟨as,ra⟩:=I.reads h r1;obtain⟨bs,rb⟩:=I.readsAll hs r2;exact⟨_,.cons ra rb⟩
end
inductive Iw(K:WJ)(neg:Bool) (x:V) (y:V)(H:Hp)(Q:VK):Prop
 |mk:∀d e,(jL K H x d)->(jL K H y e)->(shaped d=true)->(shaped e=true)->(noMix d e=true)->(Q (.bl (if neg then !same d e else same d e)) H)->Iw K neg x y H Q
def GN (K:WJ)(neg:Bool):R2:=λx y H Q=>Iw K neg x y H Q
def Nv(hu:X.A.units+64<cLine):bC X (compareOp .Eq) (GN X.K false):=by intro pins s U H x y v u Q I rx ry h;obtain⟨d,e,h1,h2,s1,s2,nm,q⟩:=h;obtain⟨as,ra⟩:=I.reads h1 rx;obtain⟨bs,rb⟩:=I.reads h2 ry;exact eq_dataH_same ra rb s1 s2 hu nm ⟨.bl _,H,I,rfl,q⟩
def KQ(hu:X.A.units+64<cLine):bC X (compareOp .NotEq) (GN X.K true):=by intro pins s U H x y v u Q I rx ry h;obtain⟨d,e,h1,h2,s1,s2,nm,q⟩:=h;obtain⟨as,ra⟩:=I.reads h1 rx;obtain⟨bs,rb⟩:=I.reads h2 ry;exact ne_dataH_same ra rb s1 s2 hu nm ⟨.bl _,H,I,rfl,q⟩
end
end L2
namespace L2
open PySem PySem.Spec PyProof.Rows PySem.W
section
variable{prog:Program}{w:World}{A:Around}{E:WA}{h:Heap}{g:Array GenState}{d:Drawn}{t:Nat}{os:OsState}{a C:Addr}{dd:WO}{t0:Addr}{v1 v2 v3 v4 v5:Value}{sl:Vz}{r:WK}
def vP{rest:WQ}{Q:WA}(hc:LX C g8 "ValueError.__new__" r h)(hget:h.get? a=some ⟨.ref C,dd,.fields #[.ref t0,v1,v2,v3,v4,v5],sl⟩)(hq:Q .none ⟨(h.push (bZ rest)).update a (Obj.mapFields (·.setIfInBounds 0 (.ref h.objs.size))),g,d,t,os⟩)(hrest:rest.length<=sizeLine) : wpAny (model prog w) A (call (.builtin "ValueError.__init__") (.ref a::rest)) Q E ⟨h,g,d,t,os⟩:=by
 obtain⟨bm,N,nm,qn,bs,hd,sn,sub,ab,col,dc,k0,k1,k2,k3,k5,mN,hC,hN,hni,T⟩:=hc.obj;have F:=Va;refine Sj (V1 F.init.plain F.initEntry (wpAny_check_init_subT F T hC hget rfl ?_))
 wp_walk
 exact hq
end
end L2
namespace L2
open PySem PySem.Spec PyProof.Rows PySem.W Builtin Builtin.ObjectAttr
def oK (l:WQ):Bool:=match l with
 |.ref _::r=>oK r
 |l=>l==g8
theorem uR(self:Value):∀(l:WQ),oK l=true->refuseLoop self "__setattr__" l=pure ()
 |[],e=>by cases e
 |v::r,e=>by
  cases v with
  |ref c=>rw[refuseLoop_ref];exact uR self r e
  |type n=>have e:(Value.type n::r==g8)=true:=e;rw[beq_iff_eq.mp e];exact PySem.F.store_ValueError.passes self
  |_=>cases e
theorem xX(T:String)(hT:g8.contains (.type T)=true):∀(l:WQ),oK l=true->l.contains (.type T)=true
 |[],e=>by cases e
 |v::r,e=>by
  cases v with
  |ref c=>rw[Ug,xX T hT r e,Bool.or_true]
  |type n=>have e:(Value.type n::r==g8)=true:=e;rw[beq_iff_eq.mp e];exact hT
  |_=>cases e
def HF:∀(l:WQ),oK l=true->l.isEmpty=false
 |[],e=>by cases e
 |_::_,_=>rfl
noncomputable def LA (K:Frag)(C:Addr):Bool:=(clsIn K C).any λcd=>oK cd.mro&&cd.hasDict
structure fY(K:Frag)(C:Addr):Prop where
 cd:LA K C=true
 sa:findIn K (.ref C) "__setattr__"=some (some (.builtin "object.__setattr__"))
 ga:findIn K (.ref C) "__getattribute__"=some (some (.builtin "BaseException.__getattribute__"))
 ng:findIn K (.ref C) "__getattr__"=some none
section
variable{prog:Program}{w:World}{A:Around}{E:WA}{s:Shared}{K:Frag}{x C:Addr}{name:Str}{v:Value}{vs:WM}{sl:Vz}
def HV(X:K.In h)(I:InstAt h x ox C od)(F:fY K C)(T:String)(hT:g8.contains (.type T)=true):Looks M h (isInstance (.ref x) (.type T)) true:=by obtain⟨cd,hc,ho⟩:=Tn F.cd;rw[Q9]at ho;exact I.type.andThen (looks_mroIn X (by unfold mroIn;rw[hc,V2,if_neg (by rw[HF _ ho.1];decide),xX T hT _ ho.1]))
def EE(X:K.In s.heap)(F:fY K C)(ht:takerIn K C name=some none)(hx:s.heap.get? x=some ⟨.ref C,none,.fields vs,sl⟩)(hq:∀h' tk',(∀b o,b≠x->s.heap.get? b=some o->h'.get? b=some o)->h'.get? x=some ⟨.ref C,some s.heap.objs.size,.fields vs,sl⟩->h'.Ns1 s.heap.objs.size (λy=>if y=name then some v else none)->Q () { s with heap:=h',toks:=tk' }) : wpAny (model prog w) A (setAttr (.ref x) name v) Q E s:=by
 obtain⟨h,g,d,t,os⟩:=s;dsimp only at X hx hq;have I:InstAt h x ⟨.ref C,none,.fields vs,sl⟩ C none:=⟨hx,rfl,rfl,trivial⟩;have L0:=I.type (M:=model prog w);have L1:=V3 (M:=model prog w) X F.sa;have SF:=PySem.F.store_ValueError;obtain⟨cd,hc,ho⟩:=Tn F.cd;rw[Q9]at ho;have hm:Looks (model prog w) h (mroOf (.ref C)) cd.mro:=(looks_clsIn X hc).andThen .now;obtain⟨attr,ha,hr⟩:=Option.bind_eq_some_iff.mp ht;have L2:=V3 (M:=model prog w) X ha;have L3:Looks (model prog w) h (storeTaker? attr) none:=by
  cases attr with
  |none=>cases hr;exact .now
  |some a=>
   obtain⟨b,hb,e⟩:=Rt.mp hr;refine(looks_takesIn X hb).andThen ?_;cases b with
   |true=>cases e
   |false=>exact .now
 have hxs:x≠h.objs.size:=RH (QT hx);unfold setAttr callSpecial? specialOf;refine Q0 (wpAny_mkText (Q0 (Q0 (Q0 (L0.at ?_)))));refine L1.at ?_;refine Rb (Q0 ?_);rw[SF.slot.bind];refine Q2 (Q0 (Sj ?_));refine V1 SF.slot.plain SF.entry (@check_slot (model prog w) _ _ _ "object.__setattr__" "object" "__setattr__" (.ref x) [.str name t,v] [] _ SF.kind SF.split (HV X I F "object" (by decide)) (SF.args (.ref x) (.str name t) v) ?_);show wpAny _ _ («object.__setattr__» ⟨[.ref x,.str name t,v],[]⟩) _ _ ⟨h,g,d,t+1,os⟩;rw[osa_eq,refuse_eq];refine Q0 (Q0 (L0.at (Q0 (hm.at ?_))));rw[uR _ _ ho.1];refine Q2 (Q0 (L0.at (Q0 (L2.at (Q0 (L3.at ?_))))));show wpAny _ _ (storeInOwnDict (.ref x) (.ref C) (.str name t) name v _) _ _ _;refine Q0 (Q2 (Q0 (Q0 (wpAny_loadPart hx (Q0 ((looks_clsIn X hc).at ?_))))));rw[ho.2];have hx1:(h.push { cls:=.type "dict",data:=.dict #[] }).get? x=some ⟨.ref C,none,.fields vs,sl⟩:=QZ _ hx;refine Q0 (wpAny_alloc' ?_);refine Q0 (wpAny_update' hx1 ?_);refine Q2 ?_;have hgd:((h.push { cls:=.type "dict",data:=.dict #[] }).update x λo=>{ cls:=o.cls,dict:=some h.objs.size,data:=o.data,slots:=o.slots }).get? h.objs.size=some { cls:=.type "dict",data:=.dict #[] }:=
  (Vb _ _ _ _ hxs.symm).trans (Heap.get?_push_at rfl rfl)
 have hnd:((h.push { cls:=.type "dict",data:=.dict #[] }).update x λo=>{ cls:=o.cls,dict:=some h.objs.size,data:=o.data,slots:=o.slots }).Ns h.objs.size (λ_=>none):=
  ⟨_,#[],_,hgd,rfl,λe he=>absurd he (by simp),λ_=>rfl⟩
 show wpAny _ _ (storeInDict h.objs.size (.str name t) name v) _ _ _;unfold storeInDict newKeyGuard;refine Q0 (Q2 (Q0 (wpAny_nsSet1 (Heap.Ns1.of_empty hnd) λh' hn' hs=>?_)));obtain⟨oD,esD,epD,hoD,hdD,hcD⟩:=hn'.count (Within.cons name v Within.nil);refine Q0 (wpAny_lookBehind hoD (by rw[hdD];exact pastItsLine_dict (RM hcD (by rw[RK,Ut,UH];lia))) ?_);refine Q2 ?_;refine Q2 (Q2 ?_);exact hq h' _ (λb o hb e=>(hs.2 b (RH (QT e))).trans ((Vb _ _ _ _ hb).trans (QZ _ e)))
  ((hs.2 x hxs).trans (SJ _ hx1 rfl)) hn'
end
section
variable{prog:Program}{w:World}{A:Around}{E:WA}{s:Shared}{K:Frag}{x C:Addr}{ox:Obj}{od:Option Obj}{name:Str}{v:Value}{tk:Tok}{fill expr:Bool}
def GC:builtinKind "BaseException.__getattribute__"=some .slot:=by decide+kernel
def C8:splitId "BaseException.__getattribute__"=some ("BaseException","__getattribute__"):=by decide+kernel
def zX(X:K.In s.heap)(I:InstAt s.heap x ox C od)(F:fY K C)(hb:wpAny (model prog w) A.in1 («object.__getattribute__» ⟨[.ref x,.str name tk],[]⟩) (λfin s'=>match fin with
   |.done (.ret v)=>wpAny (model prog w) A (handedOut v) Q E s'
   |.again c=>c.quiet=true/\codeAny (model prog w) A c (λr s''=>match r with | .ok (.ret v)=>wpAny (model prog w) A (handedOut v) Q E s''|_=>False) s'
   |_=>False) (λ_ _=>False) s) :
  wpAny (model prog w) A (getAttrBy (.ref x) (.str name tk) fill expr) Q E s:=by
 have L0:=I.type (M:=model prog w);have L1:=V3 (M:=model prog w) X F.ga;have L2:=V3 (M:=model prog w) X F.ng;have FB:=PySem.F.excAttr_ValueError;unfold getAttrBy;refine Rb (Q0 (L0.here (Q0 (L1.here ?_))));have hx2:(Value.builtin "BaseException.__getattribute__" == Value.builtin "object.__getattribute__")=false:=by decide+kernel
 dsimp only;rw[hx2,Bool.and_false,if_neg QV];unfold getAttrByItsOwn;refine Q0 (L2.here (Q0 (UQ (Rb ?_))));unfold callGetattribute;rw[if_neg (by cases expr<;>decide)]
 unfold boundAndCalled;rw[FB.ga.bind];refine Q0 (Q2 (Sj ?_));refine V1 FB.ga.plain PySem.F.entry_bexc_ga (@check_slot (model prog w) _ _ _ "BaseException.__getattribute__" "BaseException" "__getattribute__" (.ref x) [.str name tk] [] _ GC C8 (HV X I F "BaseException" (by decide)) (PySem.F.args_bexc_ga (.ref x) (.str name tk)) ?_)
 refine Ra hb (λfin s' z=>?_) λ_ _ z=>z.elim
 rcases fin with (_|_|_|_)|_<;>first|exact z|exact z.elim|skip
 .obtain⟨z1,z2⟩:=z;refine⟨z1,Sk z2 λr s'' y=>?_⟩
  rcases r with e|(_|_|_|_)<;>first|exact y|exact y.elim
end
section
variable{prog:Program}{w:World}{A:Around}{E:WA}{s:Shared}{K:Frag}{x C:Addr}{ox:Obj}{od:Option Obj}{name:Str}{v:Value}{tk:Tok}{fill expr:Bool}
def zj(X:K.In s.heap)(I:InstAt s.heap x ox C od)(F:fY K C)(hf:findObj K C od name=some (.value v))(hh:handedIn v=true)(h:Q v { s with toks:=s.toks+1 }) : wpAny (model prog w) A (getAttr (.ref x) name expr) Q E s:=by have L0:=I.type (M:=model prog w);have L1:=looks_find (M:=model prog w) X I hf;unfold getAttr;refine Q0 (wpAny_mkText (zX (s:={ s with toks:=s.toks+1 }) X I F ?_));unfold «object.__getattribute__»;refine Q0 (Q2 (Q0 (Q2 (Q0 (L0.here (s:={ s with toks:=s.toks+1 }) (Q0 (L1.here (s:={ s with toks:=s.toks+1 }) ?_)))))));refine Q2 ?_;show wpAny _ _ (handedOut v) _ _ _;rw[handedOut_of hh];exact Q2 h
def KJ(X:K.In s.heap)(I:InstAt s.heap x ox C od)(F:fY K C)(hf:findObj K C od "__class__"=some (.bind (.builtin "getset_descriptor.__get__") (.builtin "object.__class__")))(hm:mroIn K C (.type "object")=some true)(h:Q (some (.ref C)) { s with toks:=s.toks+1 }):wpAny (model prog w) A (getAttr? (.ref x) "__class__") Q E s:=by have L0:=I.type (M:=model prog w);have L1:=looks_find (M:=model prog w) X I hf;unfold getAttr? getAttrBy?;refine Q0 (wpAny_mkText (Q0 (UQ (zX (s:={ s with toks:=s.toks+1 }) X I F ?_))));unfold «object.__getattribute__»;refine Q0 (Q2 (Q0 (Q2 (Q0 (L0.here (s:={ s with toks:=s.toks+1 }) (Q0 (L1.here (s:={ s with toks:=s.toks+1 }) ?_)))))));show wpAny _ _ (bindTo (.builtin "getset_descriptor.__get__") (.builtin "object.__class__") (.ref x) (.ref C)) _ _ _;unfold bindTo;dsimp only;refine Q0 (Rb (Sj (class_get (s:={ s with toks:=s.toks+1 }) (ox:=ox) (od:=od) X I hm ?_)));refine Q2 ?_;show wpAny _ _ (handedOut (.ref C)) _ _ _;exact Q2 (Q2 h)
structure Aj(K:Frag)(C:Addr):Prop extends fY K C where
 ca:findIn K (.ref C) "__class__"=some (some (.builtin "object.__class__"))
 gt:specialIn K (.builtin "object.__class__") "__get__"=some (some (.builtin "getset_descriptor.__get__"))
 tk:takesIn K (.builtin "object.__class__")=some true
def fY.mro(F:fY K C)(T:String)(hT:g8.contains (.type T)=true):mroIn K C (.type T)=some true:=by obtain⟨cd,hc,ho⟩:=Tn F.cd;rw[Q9]at ho;unfold mroIn;rw[hc,V2,if_neg (by rw[HF _ ho.1];decide),xX T hT _ ho.1]
def m5(F:Aj K C):KitX K (.ref x) (.ref C) (λh=>InstAt h x ox C od) where
 ty:=λ_ _ _ I=>I.type
 it:=λ_ _ X _=>by
  obtain⟨cdD,hcD,_⟩:=Tn F.cd;unfold clsIn at hcD;split at hcD
  .rename_i c' d' cd' sl' ho;intro A' Q' E' s' k q;unfold isType loadHead;exact Q0 (wpAny_loadPart (k _ _ (X _ _ ho)) (Q2 q))
  .cases hcD
 ne:=λh tp dd its n sl X htp=>by
  obtain⟨cdD,hcD,_⟩:=Tn F.cd;refine Bool.eq_false_iff.mpr λq=>?_
  have e:C=tp:=Value.ref.inj (beq_iff_eq.mp q);subst e;unfold clsIn at hcD;split at hcD
  .rename_i c' d' cd' sl' ho;have z:=(X _ _ ho).symm.trans htp;cases z
  .cases hcD
 ca:=λX I k=>by
  obtain⟨cd,hc,_⟩:=Tn F.cd;exact KJ X I F.1 (by simp only[findObj,hc,V2,F.ca,F.gt,F.tk]) (F.mro "object" (by decide)) k
end
section
variable{X:Cx}{pins:WD}{U:St}{H:Hp}{s:Shared}{a C:Addr}{dd:WO}
def Inv.Ii(I:Inv X pins U H s)(e:H a=some (.ext (dZ a C none))):∃ox,InstAt s.heap a ox C none:=by obtain⟨t0,v1,v2,v3,v4,v5,sl,h⟩:=I.Dk e;exact⟨_,h,rfl,rfl,trivial⟩
def Inv.Bm{d:Addr}(I:Inv X pins U H s)(e:H a=some (.ext (dZ a C (some d))))(hd:H d=some (.xd fs)):∃(ox od:Obj)(mA:WC),InstAt s.heap a ox C (some od)/\(∀n,lookIn n od=some (mA n))/\∀f,iQ (fs.lookup f) (mA f):=by obtain⟨t0,v1,v2,v3,v4,v5,sl,h⟩:=I.Dk e;obtain⟨mA,ns,rel⟩:=I.hok d _ hd;obtain⟨od,ho,hl⟩:=DL ns;exact⟨_,od,mA,⟨h,rfl,rfl,ho⟩,hl,rel⟩
noncomputable def DP (H:Hp)(a C:Addr):Prop:=H a=some (.ext (dZ a C none))\/∃d fs,H a=some (.ext (dZ a C (some d)))/\H d=some (.xd fs)
def Fg{b:Bool}(I:Inv X pins U H s)(e:DP H a C)(F:Aj X.K C)(k:kitOne X.K (.ref C) c=some b)(h:∀tk,Q (.bool b) { s with toks:=tk }) : wpAny (model X.prog X.w) A (call (.builtin "isinstance") [.ref a,c]) Q E s:=by rcases e with e|⟨d,fs,e,hd⟩;{obtain⟨ox,J⟩:=I.Ii e;exact kia_one (m5 F) I.fT J k (λz=>nomatch z) h};obtain⟨ox,od,mA,J,_,_⟩:=I.Bm e hd;exact kia_one (m5 F) I.fT J k (λz=>nomatch z) h
def nK:cA X (.builtin "isinstance") (λxs H Q=>∃a C c b,xs=[.ref a,c]/\DP H a C/\Aj X.K C/\(∀u,RelV c u->kitOne X.K (.ref C) u=some b)/\Q (.bl b) H):=by intro pins s U H xs us Q I r h;obtain⟨a,C,c,b,rfl,x,F,k,q⟩:=h;obtain⟨u1,u2,rfl,ru1,ru2⟩:=r.two;cases ru1;exact Fg I x F (k u2 ru2) λtk=>⟨.bl b,H,I.tok tk,rfl,q⟩
variable{o e value:Expr}{f y:Str}{pos pos' yp apos:Pos}{ta tv:TE}{es:WX}{t:TA}
inductive Dm(K:Frag) (f:Str)(Q:VK) (x:V)(H1:Hp):Prop
 |mk:∀a C d fs v,(x=.ref a)->(H1 a=some (.ext (dZ a C (some d))))->(H1 d=some (.xd fs))->(fY K C)->(findIn K (.ref C) f=some none)->(fs.lookup f=some v)->(Q v H1)->Dm K f Q x H1
noncomputable def NU (K:Frag)(ta:TE) (f:Str):TE:=λU H Q=>ta U H λx H1=>Dm K f Q x H1
def Km(he:PE X e ta)(hb:attributeBase e f X.env (eval e X.env)=eval e X.env):PE X (.Attribute e f pos) (NU X.K ta f):=by intro pins s U H Q I h;refine Jk hb (aH (he pins s U H _ I h) λu s1 ⟨x,H1,I1,rx,a,C,d,fs,v,ex,ea,ed,F,n,l,q⟩=>?_);subst ex;obtain rfl:u=Value.ref a:=rx;obtain⟨ox,od,mA,J,hl,rel⟩:=I1.Bm ea ed;have r:=rel f;rw[l]at r;obtain⟨u,eu,ru⟩:=r.some_of;obtain⟨cd,hc,ho⟩:=Tn F.cd;rw[Q9]at ho;refine zj I1.fT J F ?_ (Eh ru) ⟨v,H1,I1.tok _,ru,q⟩;simp only[findObj,hc,V2,n,W.ownOf,ho.2,if_true,hl,eu]
end
section
variable{X:Cx}
variable{e:Expr}{es:WX}{t:TA}{y:Str}{yp apos pos:Pos}
abbrev TJ:=Str->TE
noncomputable def PJ (X:Cx)(es:WX)(t:TJ):Prop:=
 ∀(out:Str)(pins:WD)(s:Shared)(U:St)(H:Hp)(Q:VK),Inv X pins U H s->t out U H Q->wpAny (model X.prog X.w) X.A (joinParts out (evalEach es X.env)) (EP X pins U Q) X.xe s
def LC:TJ:=λout _ H Q=>out.length<=sizeLine/\Q (.str out) H
def ER:PJ X [] LC:=λout _ s _ H _ I h=>joinParts_nil ⟨.str out,H,I.tok _,⟨_,rfl⟩,h.2⟩ h.1
noncomputable def Hg (x:Str)(t:TJ):TJ:=λout U H Q=>(out++x).length<=sizeLine/\t (out++x) U H Q
def yI{x:Str}{j:Nat}{p:Pos}{t:TJ}(h:PJ X es t):PJ X (.Constant (.str x) j p::es) (Hg x t):=by intro out pins s U H Q I hw;show wpAny _ _ (joinParts out (eval (.Constant (.str x) j p) X.env::evalEach es X.env)) _ _ _;exact joinParts_cons (Calls.Constant_str ⟨hw.1,h _ _ _ _ _ _ (I.tok _) hw.2⟩)
noncomputable def Mm (te:TE)(t:TJ):TJ:=λout U H Q=>te U H λv H1=>∃i,v=.int i/\i.natAbs.log2<1920/\(out++toString i).length<=sizeLine/\t (out++toString i) U H1 Q
def Fb{te:TE}{p:Pos}{t:TJ}(he:PE X e te)(h:PJ X es t):PJ X (.FormattedValue e (-1) none p::es) (Mm te t):=by intro out pins s U H Q I hw;show wpAny _ _ (joinParts out (eval (.FormattedValue e (-1) none p) X.env::evalEach es X.env)) _ _ _;refine joinParts_cons (FormattedValue_plain (aH (he pins s U H _ I hw) λu s1 ⟨v,H1,I1,rv,i,ev,hl,hz,q⟩=>?_));subst ev;obtain⟨tk,rfl⟩:=rv;exact formatField_int_small hl ⟨hz,h _ _ _ _ _ _ (I1.tok _) q⟩
def Ah{e1 e2:Expr}{t:TJ}(h:PJ X (e1::e2::es) t):PE X (.JoinedStr (e1::e2::es) pos) (λU H Q=>t Str.empty U H Q):=λpins s U H Q I hw=>JoinedStr_many (h _ _ _ _ _ _ I hw)
end
end L2
namespace L2
open PySem PySem.Spec PyProof.Rows
def aG{a:Addr}(h:H a=none):af H (upd H a o):=λb u e=>by rw[ah (gh e h)];exact e
end L2
namespace Dv
open PySem L2 PySem.W
def bB:Key->PyData
 |.inl i=>.int i
 |.inr x=>.str x
noncomputable def cT (K:Frag)(H:Hp)(a:Addr)(xs:List V):Prop:=Rd H a (.lst xs)\/∃(its:WQ) (n:Nat),K.lookup a=some { cls:=.type "list",data:=.seq its.toArray n }/\its.length<=sizeLine/\Vals xs its
def Rd.mono{a:Addr}(s:af H H'):Rd H a u->Rd H' a u
 |.inl h=>.inl (s _ _ h)
 |.inr ⟨o,h⟩=>.inr ⟨o,s _ _ h⟩
theorem cT.mono{a:Addr}(s:af H H'):cT K H a xs->cT K H' a xs
 |.inl h=>.inl (Rd.mono s h)
 |.inr h=>.inr h
def cT.sq{a:Addr}(h:cT K H a xs):bQ K H a xs:=by rcases h with h|⟨its,n,hk,hl,r⟩;{exact .inl h};exact .inr ⟨_,its.toArray,n,hk,rfl,rfl,rfl,by rw[R9];exact hl,by simpa using r⟩
theorem cT.get{a:Addr}(I:L2.Inv X pins U H s)(h:cT X.K H a xs):xs.length<=sizeLine/\∃its n,Vals xs its/\s.heap.get? a=some { cls:=.type "list",data:=.seq its.toArray n }:=by rcases h with h|⟨its,n,hk,hl,r⟩;{obtain⟨z,its,n,r,e⟩:=h.ok I.hok;exact⟨z,its,n,r,e⟩};exact⟨by rw[r.length];exact hl,its,n,r,I.fT a _ hk⟩
mutual
inductive Rp(K:Frag)(H:Hp):V->PyData->Prop
 |aK:Rp K H .aK .none
 |bl (b:Bool):Rp K H (.bl b) (.bool b)
 |int (i:Int):Rp K H (.int i) (.int i)
 |str (x:Str):Rp K H (.str x) (.str x)
 |lst {a:Addr}{xs:List V}{ds:WN}:cT K H a xs->au K H xs ds->Rp K H (.ref a) (.list ds)
 |tup {a:Addr}{xs:List V}{ds:WN}:H a=some (.tup xs)->au K H xs ds->Rp K H (.ref a) (.tuple ds)
 |dk {a:Addr}{kvs:List (Key×V)}{ds:Vy}:H a=some (.dK kvs)->dg K H kvs ds->Rp K H (.ref a) (.dict ds)
 |dt {a:Addr}{kvs:List (List Key×V)}{ds:Vy}:H a=some (.dT kvs)->eL K H kvs ds->Rp K H (.ref a) (.dict ((.none,.none)::ds))
 |exc {a C:Addr}{c:Str}:H a=some (.ext (dZ a C none))->nsIn K mainGlobals c=some (some (.ref C))->Rp K H (.ref a) (.dict [(.none,.str c)])
inductive au(K:Frag)(H:Hp):List V->WN->Prop
 |nil:au K H [] []
 |cons {x:V}{d:PyData}{xs:List V}{ds:WN}:Rp K H x d->au K H xs ds->au K H (x::xs) (d::ds)
inductive dg(K:Frag)(H:Hp):List (Key×V)->List (PyData×PyData)->Prop
 |nil:dg K H [] []
 |cons {k:Key}{v:V}{d:PyData}{kvs:List (Key×V)}{ds:Vy}:Rp K H v d->dg K H kvs ds->dg K H ((k,v)::kvs) ((bB k,d)::ds)
inductive eL(K:Frag)(H:Hp):List (List Key×V)->List (PyData×PyData)->Prop
 |nil:eL K H [] []
 |cons {k:List Key}{v:V}{d:PyData}{kvs:List (List Key×V)}{ds:Vy}:Rp K H v d->eL K H kvs ds->eL K H ((k,v)::kvs) ((.tuple (k.map bB),d)::ds)
end
theorem Rp.mono(s:af H H')(h:Rp K H v d):Rp K H' v d:=Rp.rec (motive_1:=λv d _=>Rp K H' v d) (motive_2:=λvs ds _=>au K H' vs ds) (motive_3:=λa b _=>dg K H' a b) (motive_4:=λa b _=>eL K H' a b) .aK .bl .int .str (λh _ ih=>.lst (cT.mono s h) ih) (λh _ ih=>.tup (s _ _ h) ih) (λh _ ih=>.dk (s _ _ h) ih) (λh _ ih=>.dt (s _ _ h) ih) (λh n=>.exc (s _ _ h) n) .nil (λ_ _ a b=>.cons a b) .nil (λ_ _ a b=>.cons a b) .nil (λ_ _ a b=>.cons a b) h
theorem au.mono(s:af H H')(h:au K H vs ds):au K H' vs ds:=by
 induction ds generalizing vs with
 |nil=>cases h;exact .nil
 |cons d ds ih=>cases h with|cons a b=>exact .cons (a.mono s) (ih b)
theorem dg.mono(s:af H H')(h:dg K H kvs ds):dg K H' kvs ds:=by
 induction kvs generalizing ds with
 |nil=>cases h;exact .nil
 |cons d kvs ih=>cases h with|cons a b=>exact .cons (a.mono s) (ih b)
theorem eL.mono(s:af H H')(h:eL K H kvs ds):eL K H' kvs ds:=by
 induction kvs generalizing ds with
 |nil=>cases h;exact .nil
 |cons d kvs ih=>cases h with|cons a b=>exact .cons (a.mono s) (ih b)
noncomputable def nd:PyData->Bool
 |.list ds=>nds ds
 |.tuple ds=>nds ds
 |.dict _=>false
 |_=>true
where nds:WN->Bool
 |[]=>true
 |d::ds=>nd d&&nds ds
def Rp.tw(h:Rp K H v d):nd d=true->jL K H v d:=
 Rp.rec (motive_1:=λv d _=>nd d=true->jL K H v d) (motive_2:=λvs ds _=>nd.nds ds=true->lI K H vs ds) (motive_3:=λ_ _ _=>True) (motive_4:=λ_ _ _=>True)
  (λ_=>.aK) (λb _=>.bl b) (λi _=>.int i) (λx _=>.str x) (λh _ ih e=>.lst h.sq (ih (by rw[nd]at e;exact e))) (λh _ ih e=>.tup (bI.of h) (ih (by rw[nd]at e;exact e))) (λ_ _ _ e=>by rw[nd]at e;cases e) (λ_ _ _ e=>by rw[nd]at e;cases e) (λ_ _ e=>by rw[nd]at e;cases e)
  (λ_=>.nil) (λ_ _ a b e=>by rw[nd.nds,Q9]at e;exact .cons (a e.1) (b e.2)) trivial (λ_ _ _ _=>trivial) trivial (λ_ _ _ _=>trivial) h
theorem au.tw(h:au K H vs ds):nd.nds ds=true->lI K H vs ds:=by
 induction ds generalizing vs with
 |nil=>cases h;exact λ_=>.nil
 |cons d ds ih=>
  cases h with
  |cons a b=>intro e;rw[nd.nds,Q9]at e;exact .cons (a.tw e.1) (ih b e.2)
noncomputable def kQ (H H':Hp):Prop:=∀a xs,H a=some (.tup xs)->H' a=some (.tup xs)
theorem Rp.lf(s:kQ H H')(h:Rp K H v d):Dv.lf d=true->Rp K H' v d:=
 Rp.rec (motive_1:=λv d _=>Dv.lf d=true->Rp K H' v d) (motive_2:=λvs ds _=>Dv.lf.lfs ds=true->au K H' vs ds) (motive_3:=λ_ _ _=>True) (motive_4:=λ_ _ _=>True)
  (λ_=>.aK) (λb _=>.bl b) (λi _=>.int i) (λx _=>.str x) (λ_ _ _ e=>by rw[Dv.lf]at e;cases e) (λh _ ih e=>.tup (s _ _ h) (ih (by rw[Dv.lf]at e;exact e))) (λ_ _ _ e=>by rw[Dv.lf]at e;cases e) (λ_ _ _ e=>by rw[Dv.lf]at e;cases e) (λ_ _ e=>by rw[Dv.lf]at e;cases e)
  (λ_=>.nil) (λ_ _ a b e=>by rw[Dv.lf.lfs,Q9]at e;exact .cons (a e.1) (b e.2)) trivial (λ_ _ _ _=>trivial) trivial (λ_ _ _ _=>trivial) h
theorem au.lf(s:kQ H H')(h:au K H vs ds):Dv.lf.lfs ds=true->au K H' vs ds:=by
 induction ds generalizing vs with
 |nil=>cases h;exact λ_=>.nil
 |cons d ds ih=>
  cases h with
  |cons a b=>intro e;rw[Dv.lf.lfs,Q9]at e;exact .cons (a.lf s e.1) (ih b e.2)
section
variable{K:Frag}{H:Hp}
def au.len(h:au K H vs ds):vs.length=ds.length:=by
 induction ds generalizing vs with
 |nil=>cases h;rfl
 |cons d ds ih=>cases h with|cons a b=>exact congrArg (·+1) (ih b)
def au.get{i:Nat}(h:au K H vs ds)(e:ds[i]?=some d):∃v,vs[i]?=some v/\Rp K H v d:=by
 induction ds generalizing vs i with
 |nil=>cases e
 |cons d' ds ih=>
  cases h with
  |cons a b=>
   cases i with
   |zero=>cases e;exact⟨_,rfl,a⟩
   |succ i=>obtain⟨v,h1,h2⟩:=ih (i:=i) b (by simpa using e);exact⟨v,by simpa using h1,h2⟩
def au.Nj{i:Nat}(h:au K H vs ds)(e:vs[i]?=some v):∃d,ds[i]?=some d/\Rp K H v d:=by
 induction ds generalizing vs i with
 |nil=>cases h;cases e
 |cons d' ds ih=>
  cases h with
  |cons a b=>
   cases i with
   |zero=>cases e;exact⟨_,rfl,a⟩
   |succ i=>obtain⟨d,h1,h2⟩:=ih (i:=i) b (by simpa using e);exact⟨d,by simpa using h1,h2⟩
def au.app(h:au K H vs ds)(s:au K H us es):au K H (vs++us) (ds++es):=by
 induction ds generalizing vs with
 |nil=>cases h;exact s
 |cons d ds ih=>cases h with|cons a b=>exact .cons a (ih b)
def au.snoc(r:au K H vs ds)(h:Rp K H v d):au K H (vs++[v]) (ds++[d]):=r.app (.cons h .nil)
theorem au.take(n:Nat)(h:au K H vs ds):au K H (vs.take n) (ds.take n):=by
 induction ds generalizing vs n with
 |nil=>cases h;cases n<;>exact .nil
 |cons d ds ih=>
  cases h with
  |cons a b=>
   cases n with
   |zero=>exact .nil
   |succ n=>exact .cons a (ih n b)
theorem au.drop(n:Nat)(h:au K H vs ds):au K H (vs.drop n) (ds.drop n):=by
 induction ds generalizing vs n with
 |nil=>cases h;cases n<;>exact .nil
 |cons d ds ih=>
  cases n with
  |zero=>exact h
  |succ n=>cases h with|cons a b=>exact ih n b
theorem au.set(h:Rp K H v d) (i:Nat)(r:au K H vs ds):au K H (vs.set i v) (ds.set i d):=by
 induction ds generalizing vs i with
 |nil=>cases r;exact .nil
 |cons d' ds ih=>
  cases r with
  |cons a b=>
   cases i with
   |zero=>exact .cons h b
   |succ i=>exact .cons a (ih i b)
def au.rev(h:au K H vs ds):au K H vs.reverse ds.reverse:=by
 induction ds generalizing vs with
 |nil=>cases h;exact .nil
 |cons d ds ih=>
  cases h with
  |cons a b=>rw[List.reverse_cons,List.reverse_cons];exact(ih b).snoc a
end
inductive eB(K:Frag)(H Hm:Hp):List V->WN->WU->Prop
 |nil:eB K H Hm [] [] []
 |kD {x:V}{d:PyData}{xs:List V}{ds:WN}{fp:WU}:AO d=false->Rp K Hm x d->eB K H Hm xs ds fp->eB K H Hm (x::xs) (d::ds) fp
 |own {b:Addr}{ys:List V}{es:WN}{xs:List V}{ds:WN}{fp:WU}:H b=some (.lst ys)->au K Hm ys es->b∉fp->eB K H Hm xs ds fp->eB K H Hm (.ref b::xs) (.list es::ds) (b::fp)
inductive sE(K:Frag)(H Hm:Hp):List (List Key×V)->List (PyData×PyData)->WU->Prop
 |nil:sE K H Hm [] [] []
 |own {k:List Key}{b:Addr}{ys:List V}{es:WN}{kvs:List (List Key×V)}{ds:Vy}{fp:WU}:H b=some (.lst ys)->au K Hm ys es->b∉fp->sE K H Hm kvs ds fp->sE K H Hm ((k,.ref b)::kvs) ((.tuple (k.map bB),.list es)::ds) (b::fp)
noncomputable def Qv (h:Heap)(a:Addr)(S:Int->Bool) (n:Nat):Prop:=∃o es ep t,h.get? a=some o/\o.ExactSet/\o.data=.set es ep t/\(∀e∈es.toList,(∃k,Value.isInt k e.2=true/\e.1=hashInt k)/\e.2.scannable=true)/\(∀k,S k=true↔∃e∈es.toList,Value.isInt k e.2=true)
 /\ es.size<scanBound/\t.fits es.size=true/\es.size=n
noncomputable def OV (a:Addr)(ns:Wa):HO:=.ext λh=>Qv h a (λk=>decide (k∈ns)) ns.length
noncomputable def QO (ns:Wa):PyData:=.dict ((.none,.bool true)::ns.map λn=>(.int n,.none))
inductive Own(K:Frag)(H Hm:Hp):Kd->V->PyData->WU->Prop
 |sh {v:V}{d:PyData}:Rp K Hm v d->Own K H Hm .sh v d []
 |ow {p:Bool}{a:Addr}{xs:List V}{ds:WN}:H a=some (.lst xs)->au K Hm xs ds->Own K H Hm (.ow p) (.ref a) (.list ds) [a]
 |dp {p:Bool}{a:Addr}{xs:List V}{ds:WN}{fp:WU}:H a=some (.lst xs)->a∉fp->eB K H Hm xs ds fp->Own K H Hm (.dp p) (.ref a) (.list ds) (a::fp)
 |dk {p:Bool}{a:Addr}{kvs:List (Key×V)}{ds:Vy}:H a=some (.dK kvs)->dg K Hm kvs ds->Own K H Hm (.dk p) (.ref a) (.dict ds) [a]
 |dt {p:Bool}{a:Addr}{kvs:List (List Key×V)}{ds:Vy}:H a=some (.dT kvs)->eL K Hm kvs ds->Own K H Hm (.dt p) (.ref a) (.dict ((.none,.none)::ds)) [a]
 |st {p:Bool}{a:Addr}{kvs:List (List Key×V)}{ds:Vy}{fp:WU}:H a=some (.dT kvs)->a∉fp->sE K H Hm kvs ds fp->Own K H Hm (.st p) (.ref a) (.dict ((.none,.none)::ds)) (a::fp)
 |is {p:Bool}{a:Addr}{ns:Wa}:H a=some (OV a ns)->Own K H Hm (.st p) (.ref a) (.dict ((.none,.bool true)::ns.map λn=>(.int n,.none))) [a]
section
variable{K:Frag}{H H' Hm Hm':Hp}
def eB.step(s:af Hm Hm'){xs:List V}{ds:WN}{fp:WU}(i:eB K H Hm xs ds fp):(∀a∈fp,H' a=H a)->eB K H' Hm' xs ds fp:=by
 induction i with
 |nil=>exact λ_=>.nil
 |kD e r _ ih=>exact λh=>.kD e (r.mono s) (ih h)
 |own e r n _ ih=>exact λh=>.own ((h _ Q6).trans e) (r.mono s) n (ih λa ha=>h a (QU _ ha))
def eB.live(i:eB K H Hm xs ds fp):∀a∈fp,∃ys,H a=some (.lst ys):=by
 induction i with
 |nil=>exact λ_ h=>absurd h Ri
 |kD _ _ _ ih=>exact ih
 |own e _ _ _ ih=>intro a h;rcases QX.mp h with rfl|h;{exact⟨_,e⟩};exact ih a h
def sE.step(s:af Hm Hm'){xs:List (List Key×V)}{ds:Vy}{fp:WU}(i:sE K H Hm xs ds fp):(∀a∈fp,H' a=H a)->sE K H' Hm' xs ds fp:=by
 induction i with
 |nil=>exact λ_=>.nil
 |own e r n _ ih=>exact λh=>.own ((h _ Q6).trans e) (r.mono s) n (ih λa ha=>h a (QU _ ha))
def sE.live(i:sE K H Hm xs ds fp):∀a∈fp,∃ys,H a=some (.lst ys):=by
 induction i with
 |nil=>exact λ_ h=>absurd h Ri
 |own e _ _ _ ih=>intro a h;rcases QX.mp h with rfl|h;{exact⟨_,e⟩};exact ih a h
theorem Own.step{k:Kd}{v:V}{d:PyData}{fp:WU}(o:Own K H Hm k v d fp)(s:af Hm Hm')(h:∀a∈fp,H' a=H a):Own K H' Hm' k v d fp:=by
 cases o with
 |sh r=>exact .sh (r.mono s)
 |ow e r=>exact .ow ((h _ Q6).trans e) (r.mono s)
 |dp e n t=>exact .dp ((h _ Q6).trans e) n (t.step s λa ha=>h a (QU _ ha))
 |dk e r=>exact .dk ((h _ Q6).trans e) (r.mono s)
 |dt e r=>exact .dt ((h _ Q6).trans e) (r.mono s)
 |st e n t=>exact .st ((h _ Q6).trans e) n (t.step s λa ha=>h a (QU _ ha))
 |is e=>exact .is ((h _ Q6).trans e)
def oN (u:HO):Prop:=∀xs,u≠.tup xs
def lO:oN (.lst xs):=λ_ z=>by cases z
def sY:oN (.dK xs):=λ_ z=>by cases z
def vJ:oN (.dT xs):=λ_ z=>by cases z
def Qh:oN (OV a ns):=λ_ z=>by cases z
theorem Own.live(o:Own K H Hm k v d fp):∀a∈fp,∃u,H a=some u/\oN u:=by
 intro a ha;cases o with
 |sh _=>cases ha
 |ow e _=>rw[QS.mp ha];exact⟨_,e,by first|exact lO|exact sY|exact vJ⟩
 |dp e _ t=>rcases QX.mp ha with rfl|ha;{exact⟨_,e,by first|exact lO|exact sY|exact vJ⟩};obtain⟨ys,e⟩:=t.live a ha;exact⟨_,e,by first|exact lO|exact sY|exact vJ⟩
 |dk e _=>rw[QS.mp ha];exact⟨_,e,by first|exact lO|exact sY|exact vJ⟩
 |dt e _=>rw[QS.mp ha];exact⟨_,e,by first|exact lO|exact sY|exact vJ⟩
 |is e=>rw[QS.mp ha];exact⟨_,e,Qh⟩
 |st e _ t=>rcases QX.mp ha with rfl|ha;{exact⟨_,e,by first|exact lO|exact sY|exact vJ⟩};obtain⟨ys,e⟩:=t.live a ha;exact⟨_,e,by first|exact lO|exact sY|exact vJ⟩
def eB.MF(s:af Hm Hm')(i:eB K H Hm xs ds fp):(∀a∈fp,Hm' a=H a)->au K Hm' xs ds:=by
 induction i with
 |nil=>exact λ_=>.nil
 |kD _ r _ ih=>exact λh=>.cons (r.mono s) (ih h)
 |own e r _ _ ih=>exact λh=>.cons (.lst (.inl (.inl ((h _ Q6).trans e))) (r.mono s)) (ih λa ha=>h a (QU _ ha))
def Own.rp(o:Own K H Hm k v d fp)(hk:k.rd=true)(s:af Hm Hm')(h:∀a∈fp,Hm' a=H a):Rp K Hm' v d:=by
 cases o with
 |sh r=>exact r.mono s
 |ow e r=>exact .lst (.inl (.inl ((h _ Q6).trans e))) (r.mono s)
 |dp e _ t=>exact .lst (.inl (.inl ((h _ Q6).trans e))) (t.MF s λa ha=>h a (QU _ ha))
 |dk e r=>exact .dk ((h _ Q6).trans e) (r.mono s)
 |dt e r=>exact .dt ((h _ Q6).trans e) (r.mono s)
 |st _ _ _=>cases hk
 |is _=>cases hk
def au.yd(s:kQ Hm Hm')(r:au K Hm xs ds)(h:ds.all Dv.lf=true):au K Hm' xs ds:=r.lf s (by rw[mw];exact h)
def eB.flat(s:kQ Hm Hm')(i:eB K H Hm xs ds fp):(ds.all λd=>match d with | .list es=>es.all Dv.lf|d=>Dv.lf d)=true->eB K H Hm' xs ds fp:=by
 induction i with
 |nil=>exact λ_=>.nil
 |@kD x d xs ds fp e r t ih=>intro h;rw[QY,Q9]at h;refine .kD e (r.lf s ?_) (ih h.2);have h1:=h.1;cases d<;>first|exact h1|cases e
 |own e r n t ih=>intro h;rw[QY,Q9]at h;exact .own e (r.yd s h.1) n (ih h.2)
def dg.flat(s:kQ Hm Hm')(r:dg K Hm kvs ds)(h:(ds.all λkv=>Dv.lf kv.2)=true):dg K Hm' kvs ds:=by
 induction kvs generalizing ds with
 |nil=>cases r;exact .nil
 |cons kv kvs ih=>
  cases r with
  |cons a b=>rw[QY,Q9]at h;exact .cons (a.lf s h.1) (ih b h.2)
def eL.flat(s:kQ Hm Hm')(r:eL K Hm kvs ds)(h:(ds.all λkv=>Dv.lf kv.2)=true):eL K Hm' kvs ds:=by
 induction kvs generalizing ds with
 |nil=>cases r;exact .nil
 |cons kv kvs ih=>
  cases r with
  |cons a b=>rw[QY,Q9]at h;exact .cons (a.lf s h.1) (ih b h.2)
theorem Own.flat(o:Own K H Hm k v d fp)(s:kQ Hm Hm')(h:Dv.flat k d=true):Own K H Hm' k v d fp:=by
 cases o with
 |sh r=>exact .sh (r.lf s h)
 |ow e r=>exact .ow e (r.yd s h)
 |dp e n t=>exact .dp e n (t.flat s h)
 |dk e r=>exact .dk e (r.flat s h)
 |dt e r=>have h:(Dv.lf .none&&_)=true:=h;rw[Q9]at h;exact .dt e (r.flat s h.2)
 |st _ _ _=>cases h
 |is _=>cases h
end
def OE (o p:Option HO):Prop:=o=p\/(p=none/\∃xs,o=some (.tup xs))
def OE.rfl':OE o o:=.inl rfl
def OE.trans(h:OE a b)(k:OE b c):OE a c:=by rcases h with rfl|⟨rfl,h⟩;{exact k};rcases k with rfl|⟨rfl,_⟩;{exact .inr ⟨rfl,h⟩};exact .inr ⟨rfl,h⟩
def OE.off{a:Addr}(h:OE (Hm a) p)(hp:p=none)(s:af Hm H)(hu:H a=some u)(nt:oN u):Hm a=none:=by rcases h with e|⟨_,xs,e⟩;{rw[e,hp]};have:=s _ _ e;rw[hu]at this;cases this;exact absurd rfl (nt xs)
structure Gh where
 H0:Hp
 iM:Hp
 pins:List (Nat×Addr)
def Gh.M (g:Gh):WU:=g.pins.map (·.2)
structure Rl(K:Frag)(g:Gh)(E:En)(U:St)(H Hm:Hp)(F:Nat->WU):Prop where
 len:E.length=U.length
 sub:af Hm H
 slot:∀i k d,E[i]?=some (some (k,d))->∃v,U[i]?=some (some v)/\Own K H Hm k v d (F i)
 off:∀i a,a∈F i->Hm a=none
 bu:∀i a,a∈F i->∃u,H a=some u/\oN u
 aQ:∀i j a,a∈F i->a∈F j->i=j
 fr:∀p o,p∉g.M->g.H0 p=some o->H p=some o
 new:∀i a,a∈F i->a∈g.M\/g.H0 a=none
 pin:∀q∈g.pins,U[q.1]?=some (some (.ref q.2))/\∃ds,E[q.1]?=some (some (.ow true,.list ds))
 old:∀a,g.H0 a≠none->OE (Hm a) (g.iM a)
structure Tm(K:Frag)(g:Gh)(F:Nat->WU)(H Hm:Hp)(k:Kd) (v:V)(d:PyData)(fp:WU):Prop where
 own:Own K H Hm k v d fp
 off:∀a∈fp,Hm a=none
 aQ:∀a∈fp,∀i,a∉F i
 new:∀a∈fp,g.H0 a=none
section
variable{K:Frag}{g:Gh}{E:En}{U:St}{H H' Hm Hm':Hp}{F:Nat->WU}
def Rl.grow(R:Rl K g E U H Hm F)(h:af H H')(s:af Hm Hm')(b:af Hm' H')(o:∀i a,a∈F i->Hm' a=none)(od:∀a,g.H0 a≠none->OE (Hm' a) (Hm a)):Rl K g E U H' Hm' F where
 len:=R.len
 sub:=b
 slot:=λi k d e=>by
  obtain⟨v,h1,h2⟩:=R.slot i k d e;refine⟨v,h1,h2.step s λa ha=>?_⟩
  obtain⟨u,hu,_⟩:=h2.live a ha;rw[hu];exact h _ _ hu
 off:=o
 bu:=λi a ha=>let⟨u,hu,n⟩:=R.bu i a ha;⟨u,h _ _ hu,n⟩
 aQ:=R.aQ
 fr:=λp o hp ho=>h _ _ (R.fr p o hp ho)
 new:=R.new
 pin:=R.pin
 old:=λa ha=>(od a ha).trans (R.old a ha)
def Rl.more(R:Rl K g E U H Hm F)(s:af Hm Hm')(b:af Hm' H)(o:∀i a,a∈F i->Hm' a=none)(od:∀a,g.H0 a≠none->OE (Hm' a) (Hm a)):Rl K g E U H Hm' F:=R.grow (af.refl _) s b o od
def Rl.BX(R:Rl K g E U H Hm F)(hq:q∈g.pins):F q.1=[q.2]:=by obtain⟨h1,ds,h2⟩:=R.pin q hq;obtain⟨v,h3,h4⟩:=R.slot _ _ _ h2;rw[h1]at h3;cases h3;generalize F q.1=fi at h4;cases h4;rfl
def Rl.notM(R:Rl K g E U H Hm F){i:Nat}(e:E[i]?=some (some (k,d)))(hk:k.pin=false){a:Addr}(ha:a∈F i):g.H0 a=none:=by rcases R.new i a ha with m|m;{obtain⟨q,hq,rfl⟩:=Q8.mp m;have:=R.aQ i q.1 q.2 ha (by rw[R.BX hq];exact Q6);obtain⟨_,ds,h2⟩:=R.pin q hq;rw[<-this,e]at h2;cases h2;cases hk};exact m
def Rl.OC(R:Rl K g E U H Hm F){a:Addr}(ha:a∈g.M):H a≠none:=λz=>by obtain⟨q,hq,rfl⟩:=Q8.mp ha;obtain⟨u,hu,_⟩:=R.bu q.1 q.2 (by rw[R.BX hq];exact Q6);rw[z]at hu;cases hu
def Rl.pZ(R:Rl K g E U H Hm F){a:Addr}(ha:g.H0 a≠none):H a≠none:=λz=>by
 by_cases m:a∈g.M;{exact R.OC m z};cases e:g.H0 a with
 |none=>exact ha e
 |some o=>rw[R.fr a o m e]at z;cases z
def Rl.fresh(R:Rl K g E U H Hm F){p:Addr}(h:H p=none){i:Nat}:p∉F i:=λz=>by obtain⟨u,hu,_⟩:=R.bu i p z;rw[h]at hu;cases hu
def Rl.oW(R:Rl K g E U H Hm F){p:Addr}(h:H p=none):Hm p=none:=by
 cases e:Hm p with
 |none=>rfl
 |some o=>rw[R.sub _ _ e]at h;cases h
def Rl.gO(R:Rl K g E U H Hm F){p:Addr}(h:H p=none):g.H0 p=none:=by
 cases e:g.H0 p with
 |none=>rfl
 |some o=>exact absurd h (R.pZ (by rw[e];simp))
end
open Classical in
def lend (Hm H:Hp)(fp:WU):Hp:=λa=>if a∈fp then H a else Hm a
open Classical in
def back (Hm:Hp)(fp:WU):Hp:=λa=>if a∈fp then none else Hm a
section
variable{Hm H:Hp}{fp:WU}{a:Addr}
def eU(h:a∈fp):lend Hm H fp a=H a:=by unfold lend;rw[if_pos h]
def b9(h:a∉fp):lend Hm H fp a=Hm a:=by unfold lend;rw[if_neg h]
def i6(h:a∈fp):back Hm fp a=none:=by unfold back;rw[if_pos h]
def c7(h:a∉fp):back Hm fp a=Hm a:=by unfold back;rw[if_neg h]
def ic(n:∀a∈fp,Hm a=none):af Hm (lend Hm H fp):=λb o e=>by
 have:b∉fp:=λz=>by rw[n b z]at e;cases e
 rw[b9 this];exact e
def iV(s:af Hm H):af (lend Hm H fp) H:=λb o e=>by by_cases h:b∈fp;{rw[eU h]at e;exact e};rw[b9 h]at e;exact s _ _ e
def wm(s:af Hm H):af (back Hm fp) H:=λb o e=>by by_cases h:b∈fp;{rw[i6 h]at e;cases e};rw[c7 h]at e;exact s _ _ e
end
section
variable{K:Frag}{g:Gh}{E:En}{U:St}{H H' Hm Hm':Hp}{F:Nat->WU}{k:Kd}{v:V}{d:PyData}{fp:WU}
def Tm.ig(T:Tm K g F H Hm k v d fp)(R:Rl K g E U H Hm F)(hk:k.fz=true):∃Hm',af Hm Hm'/\Rl K g E U H Hm' F/\Rp K Hm' v d:=by have up:=ic (Hm:=Hm) (H:=H) T.off;refine⟨lend Hm H fp,up,R.more up (iV R.sub) (λi a ha=>?_) λa ha=>.inl (b9 λz=>ha (T.new a z)),T.own.rp (by cases k<;>first|rfl|cases hk) up λa ha=>eU ha⟩;rw[b9 λz=>T.aQ a z i ha];exact R.off i a ha
def aF{α:Type}{l:List α}{i:Nat}{a:α}(h:i<l.length):(l.set i a)[i]?=some a:=by rw[Ue];simp[h]
def ak{α:Type}{l:List α}{i j:Nat}{a:α}(h:i≠j):(l.set i a)[j]?=l[j]?:=by rw[Ue];simp[h]
def Rl.put(R:Rl K g E U H Hm F)(T:Tm K g F H Hm k v d fp){i:Nat}(o:bR E i=true):Rl K g (E.set i (some (k,d))) (U.set i (some v)) H Hm (λj=>if j=i then fp else F j) where
 len:=by rw[Rf,Rf];exact R.len
 sub:=R.sub
 slot:=λj k' d' e=>by
  by_cases c:j=i
  .subst c;have hl:j<E.length:=by
    rcases Rh j E.length with h|h
    .exact h
    .rw[Rk (by rw[Rf];exact h)]at e;cases e
   rw[aF hl]at e;cases e;exact⟨v,aF (R.len▸hl),by rw[if_pos rfl];exact T.own⟩
  .rw[ak (Ne.symm c)]at e;obtain⟨u,h1,h2⟩:=R.slot j k' d' e;exact⟨u,by rw[ak (Ne.symm c)];exact h1,by rw[if_neg c];exact h2⟩
 off:=λj a ha=>by
  by_cases c:j=i
  .rw[if_pos c]at ha;exact T.off a ha
  .rw[if_neg c]at ha;exact R.off j a ha
 bu:=λj a ha=>by
  by_cases c:j=i
  .rw[if_pos c]at ha;exact T.own.live a ha
  .rw[if_neg c]at ha;exact R.bu j a ha
 aQ:=λj l a h1 h2=>by
  by_cases c:j=i
  .rw[if_pos c]at h1
   by_cases c':l=i
   .rw[c,c']
   .rw[if_neg c']at h2;exact absurd h2 (T.aQ a h1 l)
  .rw[if_neg c]at h1
   by_cases c':l=i
   .rw[if_pos c']at h2;exact absurd h1 (T.aQ a h2 j)
   .rw[if_neg c']at h2;exact R.aQ j l a h1 h2
 fr:=R.fr
 new:=λj a ha=>by
  by_cases c:j=i
  .rw[if_pos c]at ha;exact .inr (T.new a ha)
  .rw[if_neg c]at ha;exact R.new j a ha
 pin:=λq hq=>by
  obtain⟨h1,ds,h2⟩:=R.pin q hq;have c:i≠q.1:=λz=>by
   unfold bR at o;rw[z,h2]at o;cases o
  exact⟨by rw[ak c];exact h1,ds,by rw[ak c];exact h2⟩
 old:=R.old
theorem Tm.sh(h:Rp K Hm v d):Tm K g F H Hm .sh v d []:=⟨.sh h,(λ_ z=>by cases z),(λ_ z=>by cases z),λ_ z=>by cases z⟩
def Rl.chg(R:Rl K g E U H Hm F){i:Nat}{p:Bool}{ds es:WN}{ys:List V}(e:E[i]?=some (some (.ow p,.list ds)))(r:au K Hm ys es):∃a xs,U[i]?=some (some (.ref a))/\H a=some (.lst xs)/\au K Hm xs ds/\Hm a=none/\Rl K g (E.set i (some (.ow p,.list es))) U (upd H a (.lst ys)) Hm F:=by
 obtain⟨v,h1,h2⟩:=R.slot i _ _ e;generalize hf:F i=fi at h2;cases h2 with
 |@ow _ a xs _ ha hr=>
  have ma:a∈F i:=by rw[hf];exact Q6
  have na:=R.off i a ma;have up:∀b,b≠a->upd H a (.lst ys) b=H b:=λb hb=>ah hb;have li:i<E.length:=by rcases Rh i E.length with h|h;{exact h};rw[Rk h]at e;cases e
  refine⟨a,xs,h1,ha,hr,na,?_⟩;exact {
   len:=by rw[Rf];exact R.len
   sub:=λb o hb=>by
    have:b≠a:=λz=>by rw[z,na]at hb;cases hb
    rw[up b this];exact R.sub b o hb
   slot:=λj k' d' e'=>by
    by_cases c:j=i
    .subst c;rw[aF li]at e';cases e';exact⟨_,h1,by rw[hf];exact .ow ao r⟩
    .rw[ak (Ne.symm c)]at e';obtain⟨u,g1,g2⟩:=R.slot j k' d' e';refine⟨u,g1,g2.step (af.refl _) λb hb=>up b λz=>c (R.aQ j i a (z▸hb) ma)⟩
   off:=R.off
   bu:=λj b hb=>by
    by_cases c:b=a
    .rw[c];exact⟨_,ao,lO⟩
    .rw[up b c];exact R.bu j b hb
   aQ:=R.aQ
   fr:=λq o hq ho=>by
    have:q≠a:=λz=>by
     rcases R.new i a ma with y|y
     .exact hq (z▸y)
     .rw[z,y]at ho;cases ho
    rw[up q this];exact R.fr q o hq ho
   new:=R.new
   pin:=λq hq=>by
    obtain⟨g1,ds',g2⟩:=R.pin q hq
    by_cases c:i=q.1
    .rw[<-c]at g1 g2⊢;rw[e]at g2;cases g2;exact⟨g1,es,aF li⟩
    .exact⟨g1,ds',by rw[ak c];exact g2⟩
   old:=R.old }
theorem Rl.dD(R:Rl K g E U H Hm F){i:Nat}{E':En}{d:PyData}{k:Kd}(e:E[i]?=some (some (k,d)))(h:Dv.dD E i=some E'):∃v Hm' F',U[i]?=some (some v)/\af Hm Hm'/\Rl K g E' U H Hm' F'/\Rp K Hm' v d:=by
 unfold Dv.dD at h;rw[e]at h;have h:(if k.fz=true then some (E.set i (some (.sh,d)))else none)=some E':=h;by_cases hk:k.fz=true
 .rw[if_pos hk]at h;cases h;obtain⟨v,h1,h2⟩:=R.slot i k d e;have up:=ic (Hm:=Hm) (H:=H) (fp:=F i) (R.off i);have rp:=h2.rp (by cases k<;>first|rfl|cases hk) up λa ha=>eU ha;have li:i<E.length:=by rcases Rh i E.length with h|h;{exact h};rw[Rk h]at e;cases e
  refine⟨v,lend Hm H (F i),λj=>if j=i then []else F j,h1,up,?_,rp⟩;exact {
   len:=by rw[Rf];exact R.len
   sub:=iV R.sub
   slot:=λj k' d' e'=>by
    by_cases c:j=i
    .subst c;rw[aF li]at e';cases e';exact⟨v,h1,by rw[if_pos rfl];exact .sh rp⟩
    .rw[ak (Ne.symm c)]at e';obtain⟨u,g1,g2⟩:=R.slot j k' d' e';exact⟨u,g1,by rw[if_neg c];exact g2.step up λ_ _=>rfl⟩
   off:=λj a ha=>by
    by_cases c:j=i
    .rw[if_pos c]at ha;cases ha
    .rw[if_neg c]at ha;rw[b9 λz=>c (R.aQ j i a ha z)]
     exact R.off j a ha
   bu:=λj a ha=>by
    by_cases c:j=i
    .rw[if_pos c]at ha;cases ha
    .rw[if_neg c]at ha;exact R.bu j a ha
   aQ:=λj l a g1 g2=>by
    by_cases c:j=i
    .rw[if_pos c]at g1;cases g1
    .rw[if_neg c]at g1
     by_cases c':l=i
     .rw[if_pos c']at g2;cases g2
     .rw[if_neg c']at g2;exact R.aQ j l a g1 g2
   fr:=R.fr
   new:=λj a ha=>by
    by_cases c:j=i
    .rw[if_pos c]at ha;cases ha
    .rw[if_neg c]at ha;exact R.new j a ha
   pin:=λq hq=>by
    obtain⟨g1,ds',g2⟩:=R.pin q hq;have c:i≠q.1:=λz=>by
     rw[<-z,e]at g2;cases g2;cases hk
    exact⟨g1,ds',by rw[ak c];exact g2⟩
   old:=λa ha=>by
    rw[b9 λz=>ha (R.notM e (by cases k<;>first|rfl|(rename_i p;cases p<;>first|rfl|cases hk)|cases hk) z)]
    exact R.old a ha }
 rw[if_neg hk]at h;cases h
end
end Dv
namespace L2
open PySem PySem.Spec PyProof.Rows
noncomputable def iG (h:Heap)(e C T:Addr)(dd:WO):Prop:=
 ∃(t0:Addr)(v2 v3 v4 v5:Value)(sl:Vz)(oT:Obj)(ts:WM),h.get? e=some ⟨.ref C,dd,.fields #[.ref t0,.ref T,v2,v3,v4,v5],sl⟩/\T≠e/\h.get? T=some oT/\oT.data=.fields ts/\ts[3]?=some .none
structure Way(fs:WU)(e T:Addr)(h h':Heap):Prop where
 keep:∀b o,b≠e->b≠T->b∉fs->h.get? b=some o->h'.get? b=some o
 slot:∀b o,b≠e->b≠T->h.get? b=some o->∃sl,h'.get? b=some { o with slots:=sl }
section
variable{M:Model}{A:Around}{E:WA}{s:Shared}
def pB{L e C t0 T0:Addr}{hadNext:Bool}(hfr:A.frames=some (env::outer))(hl:s.heap.FunFrames base (env::outer))(hf:env.frame=some L)(he:s.heap.get? e=some ⟨.ref C,dd,.fields #[.ref t0,w1,v2,v3,v4,v5],sl0⟩)(q:∀h' T,s.heap.get? T=none->Way (frs (env::outer)) e T s.heap h'->iG h' e C T dd->Q () { s with heap:=h' }) :
  wpAny M A (do let a <-frameOf env;let pl <-entryPlaceOf L hadNext;let b <-EntryCells.newEntry head a .none (rawInt L) .none pl;setField (.ref e) 1 b) (λ_ s'=>wpAny M A (setFlight (.ref e) none) Q E s') E s:=by
 have ene:e∉frs (env::outer):=λhm=>by obtain⟨_,o,ho,hnf⟩:=hl.mem hm;rw[he]at ho;cases ho;exact hnf _ rfl
 refine Q0 (wpAny_frameOf_fun hfr hl hf λh1 hs1=>Q0 (wpAny_entryPlaceOf λpl hpl=>?_))
 unfold EntryCells.newEntry newFields;refine Q0 (Sq ?_ (hpl.sizeOk5 _ _ _ _ _));have he1:h1.get? e=some ⟨.ref C,dd,.fields #[.ref t0,w1,v2,v3,v4,v5],sl0⟩:=(hs1.2.1 e ene).trans he;generalize hO:({ cls:=.type "traceback",dict:=none,data:=.fields ([head,.ref L,.none,rawInt L,.none]++(if pl.isEmpty then List.replicate 6 Value.none else pl)).toArray }:Obj)=oT
 have he2:=QZ (h:=h1) oT he1;refine To he2 rfl (by show 1<6;decide) ?_
 have ne:h1.objs.size≠e:=UG (QT he1);have hdT:oT.data=.fields ([head,.ref L,.none,rawInt L,.none]++(if pl.isEmpty then List.replicate 6 Value.none else pl)).toArray:=by rw[<-hO]
 have fr:oT.isFreed=false:=by rw[<-hO];rfl
 have he3:((h1.push oT).update e (Obj.mapFields (·.setIfInBounds 1 (Value.ref h1.objs.size)))).get? e=some ⟨.ref C,dd,.fields #[.ref t0,.ref h1.objs.size,v2,v3,v4,v5],sl0⟩:=SJ _ he2 rfl;have hT3:((h1.push oT).update e (Obj.mapFields (·.setIfInBounds 1 (Value.ref h1.objs.size)))).get? h1.objs.size=some oT:=(Rx _ _ (Ne.symm ne)).trans (Rc h1 fr);unfold setFlight;refine Q0 (Sn he3 rfl (x:=.ref h1.objs.size) rfl ?_);rw[if_pos (show(Value.ref h1.objs.size != Value.none)=true by simp)]
 have sz:s.heap.objs.size=h1.objs.size:=hs1.1.symm;refine To hT3 hdT (by simp only[R9,RC,RK,Ut]<;>lia) (q _ h1.objs.size ?_ ⟨λb o b1 b2 b3 hb=>?_,λb o b1 b2 hb=>?_⟩ ?_)
 .exact UD (TF sz)
 .have hb1:h1.get? b=some o:=(hs1.2.1 b b3).trans hb;rw[Rx _ _ (Ne.symm b2),Rx _ _ (Ne.symm b1)];exact QZ _ hb1
 .obtain⟨sl,hb1⟩:=hs1.2.2 b o hb;refine⟨sl,?_⟩;rw[Rx _ _ (Ne.symm b2),Rx _ _ (Ne.symm b1)];exact QZ _ hb1
 .have dt:=Tp hdT (·.setIfInBounds 3 ((none:WO).elim Value.none λf=>rawInt f))
  refine⟨t0,v2,v3,v4,v5,sl0,_,_,?_,ne,SJ _ hT3 (UR dt),dt,?_⟩
  .rw[Rx _ _ ne];exact he3
  .first|(simp;done)|(rcases hpl with rfl|⟨_,_,_,_,_,_,_,rfl⟩<;>simp)
def leave_new{L e C t0:Addr}(hfr:A.frames=some (env::outer))(hl:s.heap.FunFrames base (env::outer))(hf:env.frame=some L)(he:s.heap.get? e=some ⟨.ref C,dd,.fields #[.ref t0,.none,v2,v3,v4,v5],sl0⟩)(q:∀h' T,s.heap.get? T=none->Way (frs (env::outer)) e T s.heap h'->iG h' e C T dd->Q () { s with heap:=h' }):wpAny M A (leaving env (.ref e)) Q E s:=by unfold leaving noteFrame;simp only[hf];refine Q0 (Q0 (Sn he rfl (x:=.none) rfl ?_));rw[if_neg (show ¬((Value.none != Value.none)=true)by decide)];exact pB (T0:=e) hfr hl hf he q
def FG{L e C T:Addr}(hfr:A.frames=some (env::outer))(hl:s.heap.FunFrames base (env::outer))(hf:env.frame=some L)(ho:iG s.heap e C T dd)(q:∀h' T2,s.heap.get? T2=none->(∀b o,b≠e->b≠T->b≠T2->b∉frs (env::outer)->s.heap.get? b=some o->h'.get? b=some o)->(∀b o,b≠e->b≠T->b≠T2->s.heap.get? b=some o->∃sl,h'.get? b=some { o with slots:=sl })->iG h' e C T2 dd->Q () { s with heap:=h' }):wpAny M A (leaving env (.ref e)) Q E s:=by
 obtain⟨t0,v2,v3,v4,v5,sl0,oT,ts,he,hTe,hT,hdT,h3⟩:=ho;unfold leaving noteFrame;simp only[hf];refine Q0 (Q0 (Sn he rfl (x:=.ref T) rfl ?_));rw[if_pos (show(Value.ref T != Value.none)=true by simp)];refine Q0 (Sn hT hdT h3 ?_);rw[if_neg (show ¬((Value.none==rawInt L)=true)by simp[rawInt])];refine Q0 (To hT hdT (Sd.mp h3).1 ?_);have other:∀b,b≠T->(s.heap.update T (Obj.mapFields (·.setIfInBounds 3 Value.none))).get? b=s.heap.get? b:=λb hb=>Rx _ _ (Ne.symm hb);have noRec:∀b o,s.heap.get? b=some o->(∀vs,o.data≠.fields vs)->b≠T:=λb o hb hnf z=>by rw[z,hT]at hb;cases hb;exact hnf ts hdT
 refine pB (s:={ s with heap:=s.heap.update T (Obj.mapFields (·.setIfInBounds 3 Value.none)) }) (T0:=T) hfr (hl.of_keeps λb o hb hnf=>⟨o,(other b (noRec b o hb hnf)).trans hb,rfl⟩) hf ((other e (Ne.symm hTe)).trans he) λh' T2 n2 W O=>?_;have n2':s.heap.get? T2=none:=by
  cases c:s.heap.get? T2 with
  |none=>rfl
  |some o=>exfalso;by_cases z:T2=T;{subst z;rw[SJ _ hT (UR (Tp hdT _))]at n2;cases n2};rw[show({ s with heap:=s.heap.update T (Obj.mapFields (·.setIfInBounds 3 Value.none)) }:Shared).heap.get? T2=s.heap.get? T2 from other T2 z,c]at n2;cases n2
 exact q h' T2 n2' (λb o b1 b2 b3 b4 hb=>W.keep b o b1 b3 b4 ((other b b2).trans hb)) (λb o b1 b2 b3 hb=>W.slot b o b1 b3 ((other b b2).trans hb)) O
end
end L2
namespace L2
open PySem PySem.Spec PyProof.Rows PySem.W
noncomputable def cH (P:Program)(w:World):kO:=λouter H s E e s'=>
 ∃a C T dd H',e=.ref a/\s'.os=s.os/\AllBare s'.gens/\Un (frs outer) [] H H' s.heap s'.heap/\dH P w H' s'.heap/\iG s'.heap a C T dd/\s.heap.get? T=none/\H' T=none/\s.heap.get? a=none/\H' a=some (.ext (dZ a C dd))/\E (.ref C) (some a) H'
def iG.Dk{e C T:Addr}(o:iG h e C T dd):dZ e C dd h:=by obtain⟨t0,v2,v3,v4,v5,sl,_,_,he,_⟩:=o;exact⟨t0,_,v2,v3,v4,v5,sl,he⟩
def Al{P:Program}{w:World}{H:Hp}{h h':Heap}{a C:Addr}{dd:WO}{fs:WU}{N:Addr->Prop}(ok:dH P w H h)(ha:H a=some (.ext (dZ a C dd)))(hN:∀b,N b->H b=none)(hf:∀b∈fs,H b=none)(k:∀b o,b≠a->¬N b->b∉fs->h.get? b=some o->h'.get? b=some o)(x:dZ a C dd h'):dH P w H h':=λb u e=>by by_cases z:b=a;{subst z;rw[ha]at e;cases e;exact ye x};have nn:∀c v,H c=some v->¬N c/\c∉fs:=λc v q=>⟨λy=>(by rw[hN c y]at q;cases q),λy=>(by rw[hf c y]at q;cases q)⟩;refine(ok b u e).stay (λc v hc r=>k c v ?_ ?_ ?_ r) (λc r=>r) λc xs r=>r;{rcases hc with y|y;{rw[y];exact z};intro q;rw[q,ha]at y;cases y};{rcases hc with y|y;{rw[y];exact(nn b u e).1};exact(nn c _ y).1};rcases hc with y|y;{rw[y];exact(nn b u e).2};exact(nn c _ y).2
section
variable{CX:kO}{P:Program}{w:World}{K:Frag}{mg:WC}{base:Heap}{N:Wb}{qual:Str}{scope:Scope}{f:Addr}{cd:Value}{A:Around}{outer:List Env}{s0:Shared}{H0:Hp}{E:XK}
def AK{pins:WD}{U:St}{H:Hp}{s:Shared}{a C T:Addr}{dd:WO}{h':Heap}{Nw:Addr->Prop}(I:Inv (c8 CX P w K mg base N qual scope f cd A outer s0 H0 E) pins U H s)(ha:H a=some (.ext (dZ a C dd)))(na:s0.heap.get? a=none)(hN:∀b,Nw b->H b=none)(hN0:∀b,Nw b->s0.heap.get? b=none)(hT:Nw T)(k:∀b o,b≠a->¬Nw b->b∉frs (envOfC qual scope s0.heap.objs.size f cd::outer)->s.heap.get? b=some o->h'.get? b=some o)(sl:∀b o,b≠a->¬Nw b->s.heap.get? b=some o->∃sl,h'.get? b=some { o with slots:=sl })(O:iG h' a C T dd)(q:E (.ref C) (some a) H):cH P w outer H0 s0 E (.ref a) { s with heap:=h' }:=by
 have B:Un (frs outer) [] H0 H s0.heap s.heap:=I.base;have old:∀b o,s0.heap.get? b=some o->b≠a/\¬Nw b:=λb o e=>⟨(λz=>by rw[z,na]at e;cases e),λz=>by rw[hN0 b z]at e;cases e⟩;have notloc:∀b o,s0.heap.get? b=some o->b∉frs outer->b∉frs (envOfC qual scope s0.heap.objs.size f cd::outer):=λb o e nb z=>by
  have z2:b∈(envOfC qual scope s0.heap.objs.size f cd).frame.toList++frs outer:=by have:frs (envOfC qual scope s0.heap.objs.size f cd::outer)=s0.heap.objs.size::frs outer:=rfl;rw[this]at z;exact z
  rcases R7.mp z2 with y|y
  .have y:some s0.heap.objs.size=some b:=by
    have y0:(envOfC qual scope s0.heap.objs.size f cd).frame=some b:=by simpa using y
    exact y0
   have y:s0.heap.objs.size=b:=Option.some.inj y;exact absurd (QT e) (by rw[<-y];exact Ro _)
  exact nb y
 refine⟨a,C,T,dd,H,rfl,I.os,I.bare,⟨λb o e n nf nx=>?_,λb o e n nf nx=>?_,λb o e n nx=>B.free b o e n nx,λb o e nx=>?_,B.tups,B.jd,B.jI⟩,?_,O,hN0 T hT,hN T hT,na,ha,q⟩;{exact k b o (old b o e).1 (old b o e).2 (notloc b o e nf) (B.keep b o e n nf nx)};{obtain⟨sl1,e1⟩:=B.slot b o e n nf nx;obtain⟨sl2,e2⟩:=sl b _ (old b o e).1 (old b o e).2 e1;exact⟨sl2,e2⟩};{obtain⟨o1,e1⟩:=B.there b o e nx;obtain⟨sl2,e2⟩:=sl b _ (old b o e).1 (old b o e).2 e1;exact⟨_,e2⟩};exact Al I.hok ha hN (I.pO) (λb o b1 b2 b3 e=>k b o b1 b2 b3 e) O.Dk
def D0{a C t0:Addr}(I:Inv (c8 (cH P w) P w K mg base N qual scope f cd A outer s0 H0 E) pins U H s)(ha:H a=some (.ext (dZ a C dd)))(he:s.heap.get? a=some ⟨.ref C,dd,.fields #[.ref t0,.none,v2,v3,v4,v5],sl0⟩)(na:s0.heap.get? a=none)(q:E (.ref C) (some a) H):(c8 (cH P w) P w K mg base N qual scope f cd A outer s0 H0 E).xe (.ref a) s:=by
 refine leave_new (base:=base) (L:=s0.heap.objs.size) I.ok.frames I.stack rfl he λh' T nT W O=>?_;have nT0:s0.heap.get? T=none:=by
  cases c:s0.heap.get? T with
  |none=>rfl
  |some o=>obtain⟨o1,e1⟩:=I.base.there T o c (by show T∉([]:WU);simp);rw[e1]at nT;cases nT
 exact AK (Nw:=λb=>b=T) I ha na (λb z=>by rw[z];exact I.g9 nT) (λb z=>by rw[z];exact nT0) rfl (λb o b1 b2 b3 e=>W.keep b o b1 b2 b3 e) (λb o b1 b2 e=>W.slot b o b1 b2 e) O q
def aO:Passes (cH P w) (c8 (cH P w) P w K mg base N qual scope f cd A outer s0 H0 E) E:=by
 intro pins U H s e s' I h;obtain⟨a,C,T,dd,H',rfl,os,bare,un,hok,O,nT,hT,na,ha,q⟩:=h;have I':=I.BV (s':=s') (ch:=[]) os un hok bare λb z=>absurd z (by simp);have up:∀b,s.heap.get? b=none->s0.heap.get? b=none:=λb n=>by
  cases c:s0.heap.get? b with
  |none=>rfl
  |some o=>obtain⟨o1,e1⟩:=I.base.there b o c (by show b∉([]:WU);simp);rw[e1]at n;cases n
 refine FG (base:=base) (L:=s0.heap.objs.size) I'.ok.frames I'.stack rfl O λh' T2 n2 k sl O2=>?_;have nT2:s0.heap.get? T2=none:=by
  cases c:s0.heap.get? T2 with
  |none=>rfl
  |some o=>obtain⟨o1,e1⟩:=I'.base.there T2 o c (by show T2∉([]:WU);simp);rw[e1]at n2;cases n2
 refine AK (Nw:=λb=>b=T\/b=T2) I' ha (up a na) (λb z=>?_) (λb z=>?_) (.inr rfl) (λb o b1 b2 b3 e=>k b o b1 (λz=>b2 (.inl z)) (λz=>b2 (.inr z)) b3 e) (λb o b1 b2 e=>sl b o b1 (λz=>b2 (.inl z)) (λz=>b2 (.inr z)) e) O2 q;{rcases z with rfl|rfl;{exact hT};exact I'.g9 n2};rcases z with rfl|rfl;{exact up _ nT};exact nT2
end
section
variable{P:Program}{w:World}{K:Frag}{mg:WC}{base:Heap}{N:Wb}{qual:Str}{scope:Scope}{f:Addr}{cd:Value}{A:Around}{outer:List Env}{s0:Shared}{H0:Hp}{E:XK}
noncomputable def DH (C:Addr)(E:XK)(t:TA):TS:=λ_ U H=>t U H λvs H1=>vs.length<=sizeLine/\∀a,H1 a=none->E (.ref C) (some a) (upd H1 a (.ext (dZ a C none)))
def mR{C:Addr}(hc:dN K C g8 "ValueError.__new__" none=true)(hg:Gl (c8 (cH P w) P w K mg base N qual scope f cd A outer s0 H0 E) x)(hm:mg x=some (.ref C))(ha:PA (c8 (cH P w) P w K mg base N qual scope f cd A outer s0 H0 E) (e::es) t)(hdb:(x==("__debug__":Str))=false:=by decide)(he:starEach (e::es) (envOfC qual scope s0.heap.objs.size f cd)=(false,eval e (envOfC qual scope s0.heap.objs.size f cd))::starEach es (envOfC qual scope s0.heap.objs.size f cd):=by rfl)(hpl:(backTo cpos (starEach es (envOfC qual scope s0.heap.objs.size f cd))).any (·.1)=false:=by rfl) : PS (c8 (cH P w) P w K mg base N qual scope f cd A outer s0 H0 E) (.Raise (some (.Call (.Name x np) (e::es) [] cpos)) none pos) (DH C E t):=by
 intro pins s U H D I h;obtain⟨bm,N0,nm,qn,bs,hd,sn,sub,ab,col,dd,k0,k1,k2,k3,k5,mN,hC,hN,hni,T⟩:=(pX I.ok.mod.vE hc).obj;refine wpAny_Raise_call_subT (C:=C) (nm:=nm) (q:=qn) (N:=N0) (bs:=bs) (bm:=bm) (hdct:=hd) (sn:=sn) (sub:=sub) (ab:=ab) (col:=col) (dd:=dd) (k0:=k0) (k1:=k1) (k2:=k2) (k3:=k3) (k5:=k5)
  Va (mN:=mN) (T.hasType (by decide)) (I.ok.hd rfl) (by show(backTo cpos (starEach (e::es) (envOfC qual scope s0.heap.objs.size f cd))).any (·.1)=false;rw[he];show(false||(backTo cpos (starEach es (envOfC qual scope s0.heap.objs.size f cd))).any (·.1))=false;rw[hpl];rfl) hni (iR I hg hm ⟨rfl,?_⟩ hdb)
 have go:=ha cpos pins s U H _ I h;show wpAny (model P w) _ (evalArgs (.ref C) true (backTo cpos (starEach (e::es) (envOfC qual scope s0.heap.objs.size f cd))) []) _ _ _;have go':wpAny (model P w) _ (spliced (backTo cpos (starEach (e::es) (envOfC qual scope s0.heap.objs.size f cd)))) _ _ _:=go;rw[he]at go'⊢;refine Us (aH go' λus s1 ⟨vs,H1,I1,r,hz,q⟩=>?_);have kp:∀b o,base.get? b=some o->s1.heap.get? b=some o:=I1.bk;refine⟨rfl,by rw[<-r.length];exact hz,kp _ _ hC,hN.keeps kp,T.keeps kp,λh' a M=>?_⟩;obtain⟨hp,g,dr,tk,os⟩:=s1;obtain⟨keeps,new,t0,hx,_,_⟩:=M;have I2:=I1.vX (a:=a) (o:=.ext (dZ a C none)) (t':=tk) keeps new (ye ⟨_,_,_,_,_,_,_,hx⟩);have na:s0.heap.get? a=none:=by
  cases c:s0.heap.get? a with
  |none=>rfl
  |some o=>obtain⟨o1,e1⟩:=I1.base.there a o c (by show a∉([]:WU);simp);rw[e1]at new;cases new
 exact D0 I2 (ao) hx na (q a (I1.g9 new))
end
section
variable{M:Model}{A:Around}{E:WA}{s:Shared}
def JX{L e C T:Addr}(hfr:A.frames=some (env::outer))(hl:s.heap.FunFrames base (env::outer))(hf:env.frame=some L)(ho:iG s.heap e C T dd)(q:∀h' T2,s.heap.get? T2=none->(∀b o,b≠e->b≠T->b≠T2->b∉frs (env::outer)->s.heap.get? b=some o->h'.get? b=some o)->(∀b o,b≠e->b≠T->b≠T2->s.heap.get? b=some o->∃sl,h'.get? b=some { o with slots:=sl })->iG h' e C T2 dd->Q () { s with heap:=h' }):wpAny M A (noteFrame (.ref e) env) (λ_ s'=>wpAny M A (setFlight (.ref e) none) Q E s') E s:=by
 obtain⟨t0,v2,v3,v4,v5,sl0,oT,ts,he,hTe,hT,hdT,h3⟩:=ho;unfold noteFrame;simp only[hf];refine Q0 (Sn he rfl (x:=.ref T) rfl ?_);rw[if_pos (show(Value.ref T != Value.none)=true by simp)];refine Q0 (Sn hT hdT h3 ?_);rw[if_neg (show ¬((Value.none==rawInt L)=true)by simp[rawInt])];refine Q0 (To hT hdT (Sd.mp h3).1 ?_);have other:∀b,b≠T->(s.heap.update T (Obj.mapFields (·.setIfInBounds 3 Value.none))).get? b=s.heap.get? b:=λb hb=>Rx _ _ (Ne.symm hb);have noRec:∀b o,s.heap.get? b=some o->(∀vs,o.data≠.fields vs)->b≠T:=λb o hb hnf z=>by rw[z,hT]at hb;cases hb;exact hnf ts hdT
 refine pB (s:={ s with heap:=s.heap.update T (Obj.mapFields (·.setIfInBounds 3 Value.none)) }) (T0:=T) hfr (hl.of_keeps λb o hb hnf=>⟨o,(other b (noRec b o hb hnf)).trans hb,rfl⟩) hf ((other e (Ne.symm hTe)).trans he) λh' T2 n2 W O=>?_;have n2':s.heap.get? T2=none:=by
  cases c:s.heap.get? T2 with
  |none=>rfl
  |some o=>exfalso;by_cases z:T2=T;{subst z;rw[SJ _ hT (UR (Tp hdT _))]at n2;cases n2};rw[show({ s with heap:=s.heap.update T (Obj.mapFields (·.setIfInBounds 3 Value.none)) }:Shared).heap.get? T2=s.heap.get? T2 from other T2 z,c]at n2;cases n2
 exact q h' T2 n2' (λb o b1 b2 b3 b4 hb=>W.keep b o b1 b3 b4 ((other b b2).trans hb)) (λb o b1 b2 b3 hb=>W.slot b o b1 b3 ((other b b2).trans hb)) O
end
section
variable{X:Cx}{pins:WD}{U:St}{H:Hp}{s:Shared}
structure FE(X:Cx)(pins:WD)(H:Hp)(b:Addr):Prop where
 new:X.s₀.heap.get? b=none
 free:H b=none
 loc:b≠X.env.locals
 cell:∀x c,X.env.cells.lookup x=some c->c≠b
 pin:∀p∈X.pn++pins,p.1≠b
def Inv.GJ(I:Inv X pins U H s)(hx:X.ex=[]){b:Addr}(n:s.heap.get? b=none):FE X pins H b:=by
 refine⟨?_,I.g9 n,λz=>?_,λx c e z=>?_,λp hp z=>?_⟩
 .cases c:X.s₀.heap.get? b with
  |none=>rfl
  |some o=>obtain⟨o1,e1⟩:=I.base.there b o c (by rw[hx];simp);rw[e1]at n;cases n
 .obtain⟨m,⟨o,_,_,ho,_⟩,_⟩:=I.loc;rw[<-z,n]at ho;cases ho
 .obtain⟨v,o,ho,_⟩:=I.cell x c e;rw[z,n]at ho;cases ho
 have:=(I.pin p hp).1;rw[z,n]at this;cases this
def Inv.way{a C:Addr}{h':Heap}{Nw:Addr->Prop}(I:Inv X pins U H s)(ha:H a=some (.ext (dZ a C dd)))(na:X.s₀.heap.get? a=none)(hN:∀b,Nw b->FE X pins H b)(k:∀b o,b≠a->¬Nw b->b∉frs X.stack->s.heap.get? b=some o->h'.get? b=some o)(sl:∀b o,b≠a->¬Nw b->s.heap.get? b=some o->∃sl,h'.get? b=some { o with slots:=sl })(x:dZ a C dd h'):Inv X pins U H { s with heap:=h' }:=by
 have B:=I.base;have old:∀b o,X.s₀.heap.get? b=some o->b≠a/\¬Nw b:=λb o e=>⟨(λz=>by rw[z,na]at e;cases e),λz=>by rw[(hN b z).new]at e;cases e⟩;have fre:∀b,H b=none->b≠a:=λb n z=>by rw[z,ha]at n;cases n
 have notst:∀b,b≠X.env.locals->b∉X.fs->b∉frs X.stack:=λb n1 n2 z=>by rcases QX.mp (I.lP b z)with y|y;{exact n1 y};exact n2 y
 have cells:∀y c v,X.env.cells.lookup y=some c->s.heap.IsCell c v->h'.IsCell c v:=λy c v e z=>by obtain⟨o,ho,hd⟩:=z;obtain⟨sl1,e1⟩:=sl c o (fre c (I.eE y c e)) (λz=>(hN c z).cell y c e rfl) ho;exact⟨_,e1,hd⟩
 refine⟨I.ok,I.os,I.bare,⟨λb o e n nf nx=>?_,λb o e n nf nx=>?_,λb o e n nx=>B.free b o e n nx,λb o e nx=>?_,B.tups,B.jd,B.jI⟩,?_,λy c e=>?_,I.free,I.eE,λp hp=>?_,?_,I.len⟩;{refine k b o (old b o e).1 (old b o e).2 (notst b (λz=>?_) nf) (B.keep b o e n nf nx);exact absurd (RL (QT e) I.ok.above) (by rw[z];exact Ro _)};{obtain⟨sl1,e1⟩:=B.slot b o e n nf nx;obtain⟨sl2,e2⟩:=sl b _ (old b o e).1 (old b o e).2 e1;exact⟨sl2,e2⟩};{obtain⟨o1,e1⟩:=B.there b o e nx;obtain⟨sl2,e2⟩:=sl b _ (old b o e).1 (old b o e).2 e1;exact⟨_,e2⟩};{obtain⟨m,⟨o,es,ep,ho,hd,hs,hf⟩,hl⟩:=I.loc;obtain⟨sl1,e1⟩:=sl X.env.locals o (fre _ I.free) (λz=>(hN _ z).loc rfl) ho;refine⟨m,⟨_,es,ep,e1,hd,hs,hf⟩,λi y v h1 h2 h3=>?_⟩;obtain⟨u,r,q⟩:=hl i y v h1 h2 h3;refine⟨u,r,?_⟩;rcases q with q|⟨kk,c,e,z⟩;{exact .inl q};exact .inr ⟨kk,c,e,cells y c _ e z⟩};{obtain⟨v,z⟩:=I.cell y c e;exact⟨v,cells y c v e z⟩};{obtain⟨e,n,ne,nf,d⟩:=I.pin p hp;exact⟨k p.1 p.2 (fre _ n) (λz=>(hN _ z).pin p hp rfl) (notst _ ne nf) e,n,ne,nf,d⟩};exact Al I.hok ha (λb z=>(hN b z).free) I.pO (λb o b1 b2 b3 e=>k b o b1 b2 b3 e) x
end
abbrev HD:=St->Addr->Addr->Hp->Prop
noncomputable def lD (X:Cx)(pins:WD)(Hd:HD):Cx:={ X with pn:=X.pn++pins,xe:=λe s'=>∃a C T dd U H,e=.ref a/\Inv X pins U H s'/\iG s'.heap a C T dd/\FE X pins H T/\X.s₀.heap.get? a=none/\H a=some (.ext (dZ a C dd))/\Hd U C a H }
section
variable{X:Cx}{pins:WD}{U:St}{H:Hp}{s:Shared}{Hd:HD}
def Inv.Ob(I:Inv X pins U H s):Inv (lD X pins Hd) [] U H s:=
 ⟨⟨I.ok.mod,I.ok.kind,I.ok.glob,I.ok.blt,I.ok.above,I.ok.inj,I.ok.has,I.ok.wZ,I.ok.hd,I.ok.frames,I.ok.stk,I.ok.Hv,I.ok.bs,I.ok.qt,I.ok.qF,I.ok.ug,I.ok.iz,I.ok.rQ⟩,I.os,I.bare,I.base,I.loc,I.cell,I.free,I.eE,
  λp hp=>I.pin p (by simpa[lD]using hp),I.hok,I.len⟩
def Inv.tN(I:Inv (lD X pins Hd) ps2 U H s):Inv X pins U H s:=
 ⟨⟨I.ok.mod,I.ok.kind,I.ok.glob,I.ok.blt,I.ok.above,I.ok.inj,I.ok.has,I.ok.wZ,I.ok.hd,I.ok.frames,I.ok.stk,I.ok.Hv,I.ok.bs,I.ok.qt,I.ok.qF,I.ok.ug,I.ok.iz,I.ok.rQ⟩,I.os,I.bare,I.base,I.loc,I.cell,I.free,I.eE,
  λp hp=>I.pin p (R7.mpr (.inl hp)),I.hok,I.len⟩
def N4(hx:X.ex=[])(I:Inv (lD X pins Hd) ps2 U H s)(h:cH X.prog X.w X.stack H s (λc o H'=>∃C a,c=.ref C/\o=some a/\Hd U C a H') e s'):(lD X pins Hd).xe e s':=by obtain⟨a,C,T,dd,H',rfl,os,bare,un,hok,O,nT,hT,na,ha,C',a',ec,eo,q⟩:=h;cases ec;cases eo;have J:=I.tN;have J':=J.BV (s':=s') (ch:=[]) os un hok bare λb z=>absurd z (by simp);have mT:=J.GJ hx nT;exact⟨a,C,T,dd,U,H',rfl,J',O,⟨mT.new,hT,mT.loc,mT.cell,mT.pin⟩,(J.GJ hx na).new,ha,q⟩
end
noncomputable def qe (X:Cx)(a:Addr):Cx:={ X with A:=X.A.mark (some (.ref a)),calm:=false,xe:=λ_ _=>False }
section
variable{X:Cx}{pins:WD}{U:St}{H:Hp}{s:Shared}{a:Addr}
def Inv.MV(I:Inv X pins U H s):Inv (qe X a) pins U H s:=
 ⟨⟨I.ok.mod,I.ok.kind,I.ok.glob,I.ok.blt,I.ok.above,I.ok.inj,I.ok.has,I.ok.wZ,λz=>(by cases z),I.ok.frames,I.ok.stk,I.ok.Hv,I.ok.bs,I.ok.qt,I.ok.qF,I.ok.ug,I.ok.iz,I.ok.rQ⟩,I.os,I.bare,I.base,I.loc,I.cell,I.free,I.eE,I.pin,I.hok,I.len⟩
def Inv.Cb(ok:X.Ok)(I:Inv (qe X a) pins U H s):Inv X pins U H s:=
 ⟨ok,I.os,I.bare,I.base,I.loc,I.cell,I.free,I.eE,I.pin,I.hok,I.len⟩
def pQ{i:Nat}(I:Inv X pins U H s)(hN:X.N.Nodup)(hi:X.N[i]?=some n)(hk:X.env.scope.names.lookup n=some .local)
  (h:∀s',Inv X pins (U.set i none) H s'->Q () s'):wpAny M A (do bindName X.env n .none;unbindBehindTheSuite X.env n pos) Q E s:=by
 have hcls:(X.env.scope.kind == .class||(X.env.scope.kind == .module&&X.env.locals != X.env.globals))=false:=by rw[I.ok.kind];rfl
 have hl:X.env.kindOf n=some .local:=hk;refine Q0 (wpAny_bindName (m9 (v:=.aK) I hN hi (.inl hk) rfl (λs1 I1=>?_) (.inr hk)))
 obtain⟨m,hn,hlk⟩:=id I1.loc;have hiσ:i<U.length:=by rw[I.len];exact(RW.mp hi).1
 unfold unbindBehindTheSuite;refine wpAny_onRaise ?_;obtain⟨u,ru,lu⟩:=hlk i n .aK hi (by rw[TX hiσ]) (.inl hk)
 have hv:m n=some u:=by rcases lu with⟨_,e⟩|⟨z|z,_⟩;{exact e};{rw[hl]at z;cases z};rw[hl]at z;cases z
 refine wpAny_unbindName_local hl hn hv hcls λh' u' hn' hs=>h _ ?_
 obtain⟨oL,_,_,hoL,_⟩:=id hn;refine⟨I1.ok,I1.os,I1.bare,⟨λb o e n hb hx=>?_,λb o e n hb hx=>?_,I1.base.free,λb o e hx=>?_,I1.base.tups,I1.base.jd,I1.base.jI⟩,⟨_,hn',λj y v' e1 e2 e3=>?_⟩,λy c e=>?_,I1.free,I1.eE,λp hp=>?_,?_,by simpa using I.len⟩
 .exact(hs.2 b (RH (RL (QT e) I1.ok.above))).trans (I1.base.keep b o e n hb hx)
 .obtain⟨sl,e1⟩:=I1.base.slot b o e n hb hx;exact⟨sl,(hs.2 b (RH (RL (QT e) I1.ok.above))).trans e1⟩
 .obtain⟨o',e1⟩:=I1.base.there b o e hx;exact⟨o',(hs.2 b (RH (RL (QT e) I1.ok.above))).trans e1⟩
 .by_cases hj:j=i
  .subst hj;rw[TX hiσ]at e2;cases e2
  .rw[TY (Ne.symm hj)]at e2;obtain⟨u',r',q⟩:=hlk j y v' e1 (by rw[TY (Ne.symm hj)];exact e2) e3
   refine⟨u',r',?_⟩;rcases q with⟨k,e⟩|⟨k,c,e,z⟩
   .refine .inl ⟨k,?_⟩;have:y≠n:=λe=>hj (qG hN e1 (e▸hi))
    simp[this,e]
   .exact .inr ⟨k,c,e,z.sameBut hs (I1.tK y c e)⟩
 .obtain⟨w',z⟩:=I1.cell y c e;exact⟨w',z.sameBut hs (I1.tK y c e)⟩
 .obtain⟨e,n,ne,nf,d⟩:=I1.pin p hp;exact⟨(hs.2 p.1 ne).trans e,n,ne,nf,d⟩
 .intro b ob e;refine(I1.hok b ob e).stay (λc w' hc q=>(hs.2 c ?_).trans q) (λ_ q=>q) λ_ _ q=>q
  rintro rfl;rcases hc with hc|hc
  .rw[<-hc,I1.free]at e;cases e
  .rw[I1.free]at hc;cases hc
end
noncomputable def gone (i:Nat)(D:Ends):Ends:=⟨λU H=>D.nx (U.set i none) H,D.rt,λU H=>D.bk (U.set i none) H,λU H=>D.ct (U.set i none) H⟩
noncomputable def PC (K:Frag)(B:Addr) (i:Nat)(tb:WD->HD->TS)(th:Addr->TS):TS:=λD U H=>∀pins,tb pins (λσ1 C a H1=>exmOne K (.ref C) (.ref B)=some true/\th a (gone i D) (σ1.set i (some (.ref a))) H1) D U H
section
variable{X:Cx}{x n:Str}{np hpos pos:Pos}{B:Addr}{i:Nat}{body suite:WY}{b₀:Stmt}{tb:WD->HD->TS}{th:Addr->TS}
def Lo(hx:X.ex=[])(hst:X.stack=X.env::X.outer)(hfr:X.env.frame=some X.env.locals)(hg:Gl X x)(hm:X.mg x=some (.ref B))(hN:X.N.Nodup)(hi:X.N[i]?=some n)(hk:X.env.scope.names.lookup n=some .local)(hb:∀pins Hd,kT (lD X pins Hd) body (tb pins Hd))(hh:∀a,kT (qe X a) (b₀::suite) (th a))(hdb:(x==("__debug__":Str))=false:=by decide) : PS X (.Try body [.ExceptHandler (some (.Name x np)) (some n) (b₀::suite) hpos] [] [] pos) (PC X.K B i tb th):=by
 intro pins s U H D I h;refine wpAny_Try_except (Ra (hb pins _ [] s U H D I.Ob (h pins)) (λf s1 h1=>?_) λe s1 h1=>?_)
 .cases f with
  |next=>obtain⟨σ',H',J,q⟩:=h1;exact UE ⟨σ',H',J.tN,q⟩
  |brk=>obtain⟨σ',H',J,q⟩:=h1;exact⟨σ',H',J.tN,q⟩
  |cont=>obtain⟨σ',H',J,q⟩:=h1;exact⟨σ',H',J.tN,q⟩
  |ret u=>obtain⟨v,σ',H',J,r,q⟩:=h1;exact⟨v,σ',H',J.tN,r,q⟩
 obtain⟨a,C,T,dd,σ1,H1,rfl,J,O,mT,na,ha,hxm,q⟩:=h1;refine JX (base:=X.base) (L:=X.env.locals) (by rw[<-hst];exact J.ok.frames) (by rw[<-hst];exact J.stack) hfr O λh' T2 n2 k sl O2=>?_;have m2:=J.GJ hx n2;have J2:Inv X pins σ1 H1 { s1 with heap:=h' }:=J.way (Nw:=λb=>b=T\/b=T2) ha na (λb z=>by rcases z with rfl|rfl;exact mT;exact m2)
  (λb o b1 b2 b3 e=>k b o b1 (λz=>b2 (.inl z)) (λz=>b2 (.inr z)) (by rw[<-hst];exact b3) e) (λb o b1 b2 e=>sl b o b1 (λz=>b2 (.inl z)) (λz=>b2 (.inr z)) e) O2.Dk
 refine wpAny_handleBy_cons (codeAny_handlers_test ?_) (by intro z;cases z);refine iR (X:=qe X a) J2.MV hg hm ?_ hdb;obtain⟨t0,v2,v3,v4,v5,sl0,oT,ts,he,hTe,hT,hdT,h3⟩:=id O2;have L:Looks (model X.prog X.w) h' (excMatches (.ref a) (.ref B)) true:=exm_one J2.fT ((Looks.ld he).andThen .now) hxm;refine L.here ?_;show codeAny _ _ _ _ _;refine codeAny_handlers_suite_as ?_;refine wpAny_setFlight_none he rfl (tb:=T2) rfl hT hdT (Sd.mp h3).1 ?_;have hup:∀b,b≠T2->(h'.update T2 (Obj.mapFields (·.setIfInBounds 3 Value.none))).get? b=h'.get? b:=λb z=>Rx _ _ (Ne.symm z);have J3:Inv X pins σ1 H1 { s1 with heap:=h'.update T2 (Obj.mapFields (·.setIfInBounds 3 Value.none)) }:=J2.way (s:={ s1 with heap:=h' }) (Nw:=λb=>b=T2) ha na (λb z=>by rw[z];exact m2)
  (λb o b1 b2 b3 e=>(hup b b2).trans e) (λb o b1 b2 e=>⟨o.slots,(hup b b2).trans e⟩) ⟨t0,_,v2,v3,v4,v5,sl0,(hup a (Ne.symm hTe)).trans he⟩
 refine m9 (X:=qe X a) (v:=.ref a) J3.MV hN hi (.inl hk) rfl (λs4 J4=>?_) (.inr hk);refine Ra (hh a pins s4 _ H1 (gone i D) J4 q) (λf s5 h5=>?_) λ_ _ z=>z.elim;cases f with
 |next=>obtain⟨σ',H',J5,q5⟩:=h5;exact pQ (J5.Cb I.ok) hN hi hk λs6 J6=>⟨_,H',J6,q5⟩
 |brk=>obtain⟨σ',H',J5,q5⟩:=h5;exact pQ (J5.Cb I.ok) hN hi hk λs6 J6=>⟨_,H',J6,q5⟩
 |cont=>obtain⟨σ',H',J5,q5⟩:=h5;exact pQ (J5.Cb I.ok) hN hi hk λs6 J6=>⟨_,H',J6,q5⟩
 |ret u=>obtain⟨v,σ',H',J5,r5,q5⟩:=h5;exact pQ (J5.Cb I.ok) hN hi hk λs6 J6=>⟨v,_,H',J6,r5,q5⟩
end
section
variable{X0:Cx}{pins0:WD}{Hd:HD}{k:Nat}{f:Addr}{fd:FuncData}{ps:Wb}{sp:Sp}{dvs:List V}{ds:WQ}{x:Str}{p pos:Pos}{e:Expr}{es:WX}{t:TA}
noncomputable def Dh (sp:Sp)(dvs:List V)(Hd:HD)(t:TA):TE:=λU H Q=>t U H λvs H1=>sp (vs++dvs) H1 Q (λc o H'=>∃C a,c=.ref C/\o=some a/\Hd U C a H')
def G7(hex:X0.ex=[])(F:dX X0.prog X0.w X0.K X0.mg X0.base (cH X0.prog X0.w) k f fd ps sp)(hr:cC k X0.A)(hg:Gl X0 x)(hm:X0.mg x=some (.ref f))(hk:PySem.W.keepIn X0.K (.ref f)=true)(hb:Binds X0.K fd ps ds)(hd:Vals dvs ds)(ha:PA (lD X0 pins0 Hd) (e::es) t)(hdb:(x==("__debug__":Str))=false:=by decide)(he:starEach (e::es) X0.env=(false,eval e X0.env)::starEach es X0.env:=by rfl)(hpl:(backTo pos (starEach es X0.env)).any (·.1)=false:=by rfl) : PE (lD X0 pins0 Hd) (.Call (.Name x p) (e::es) [] pos) (Dh sp dvs Hd t):=by
 intro pins s U H Q I h;refine Tw (iR I hg hm ?_ hdb);refine PySem.W.callWith_K (h₀:=X0.base) I.ok.mod.vE hk (aH (ha pos pins s U H _ I h) λus s1 ⟨vs,H1,I1,r,q⟩=>⟨I1.fT,?_⟩) he hpl;have r2:Vals (vs++dvs) (us++ds):=r.append hd;have hl:(us++ds).length=ps.length:=by rw[<-r2.length];exact F.len _ _ _ _ q
 refine Sj (Sk (F.run X0.A X0.stack s1 H1 ⟨us,[]⟩ (us++ds) (vs++dvs) Q _ hr I1.Ge (hb s1 us I1.fT hl) r2 q) λr s' hq=>?_);cases r with
 |error e=>exact N4 hex I1 hq
 |ok fl=>
  cases fl with
  |ret u=>exact I1.after hq
  |next=>exact False.elim hq
  |brk=>exact False.elim hq
  |cont=>exact False.elim hq
end
section
variable{P:Program}{w:World}{K:WJ}{mg:WC}{base:Heap}
def lU.IM{x qual:Str}{st:Stmt}{f:Addr}{fd:FuncData}{N ps:Wb}{k:Nat}{sp:Sp}(F:lU K x qual st f fd)(S:bD N ps (av st))(len:∀vs H Q E,sp vs H Q E->vs.length=ps.length)(hbody:∀(cdv:Value)(A:Around)(outer:List Env)(s:Shared)(H:Hp)(vs:List V)(Q:VK)(E:XK),cC k (A.deeper (envOfC qual (av st) s.heap.objs.size f cdv))->sp vs H Q E-> ∃t,kT (c8 (cH P w) P w K mg base N qual (av st) f cdv A outer s H E) (eK st) t/\t { nx:=λ_ H'=>Q .aK H',rt:=Q } (start N vs) H):dX P w K mg base (cH P w) (k+1) f fd ps sp:=by obtain⟨oc,od,kV,doc,pm,an,cdv,ct,osl,rfl,lk,hcd⟩:=F.ex;refine OO lk hcd S len λA outer s H vs Q E hr hsp=>?_;obtain⟨t,h,q⟩:=hbody cdv A outer s H vs Q E hr hsp;exact⟨t,h,q⟩
noncomputable def dB (P:Program)(w:World)(K:WJ)(mg:WC)(base:Heap) (k:Nat) (x:Str)(ps:Wb)(sp:Sp):Prop:=
 ∃f fd,mg x=some (.ref f)/\PySem.W.keepIn K (.ref f)=true/\Binds K fd ps []/\dX P w K mg base (cH P w) k f fd ps sp
def zD{f:Addr}{k:Nat}(h:dB P w K mg base k x ps sp)(hr:cC k (A.deeper (envOfC qual scope s0.heap.objs.size f cd)))(hg:Gl (c8 (cH P w) P w K mg base N qual scope f cd A outer s0 H0 E) x)(ha:PA (c8 (cH P w) P w K mg base N qual scope f cd A outer s0 H0 E) (e::es) t)(hdb:(x==("__debug__":Str))=false:=by decide)(he:starEach (e::es) (envOfC qual scope s0.heap.objs.size f cd)=(false,eval e (envOfC qual scope s0.heap.objs.size f cd))::starEach es (envOfC qual scope s0.heap.objs.size f cd):=by rfl)(hpl:(backTo pos (starEach es (envOfC qual scope s0.heap.objs.size f cd))).any (·.1)=false:=by rfl) : PE (c8 (cH P w) P w K mg base N qual scope f cd A outer s0 H0 E) (.Call (.Name x p) (e::es) [] pos) (Ic sp [] E t):=by obtain⟨f,fd,h1,h2,h3,h4⟩:=h;exact Aq h4 hr hg h1 h2 h3 .nil aO ha hdb he hpl
end
def J8{k:Nat}(hex:X0.ex=[])(h:dB X0.prog X0.w X0.K X0.mg X0.base k x ps sp)(hr:cC k X0.A)(hg:Gl X0 x)(ha:PA (lD X0 pins0 Hd) (e::es) t)(hdb:(x==("__debug__":Str))=false:=by decide)(he:starEach (e::es) X0.env=(false,eval e X0.env)::starEach es X0.env:=by rfl)(hpl:(backTo pos (starEach es X0.env)).any (·.1)=false:=by rfl) : PE (lD X0 pins0 Hd) (.Call (.Name x p) (e::es) [] pos) (Dh sp [] Hd t):=by obtain⟨f,fd,h1,h2,h3,h4⟩:=h;exact G7 hex h4 hr hg h1 h2 h3 .nil ha hdb he hpl
end L2
namespace Dv
open PySem L2 PySem.W
noncomputable def WE (X:Cx)(e:Expr):TE:=λU H Q=>∀(pins:WD)(s:Shared),Inv X pins U H s->wpAny (model X.prog X.w) X.A (eval e X.env) (EP X pins U Q) X.xe s
def cN:PE X e (WE X e):=λpins s _ _ _ I h=>h pins s I
def WE.of(h:PE X e t)(q:t U H Q):WE X e U H Q:=λpins s I=>h pins s U H Q I q
noncomputable def WT (X:Cx)(e:Expr):TT:=λU H Q=>∀(pins:WD)(s:Shared),Inv X pins U H s->wpAny (model X.prog X.w) X.A (isTrue e X.env (eval e X.env)) (TP X pins U Q) X.xe s
def nh:PT X e (WT X e):=λpins s _ _ _ I h=>h pins s I
def WT.of(h:PT X e t)(q:t U H Q):WT X e U H Q:=λpins s I=>h pins s U H Q I q
noncomputable def uP (X:Cx):WX->TA
 |[],_,H,Q=>Q [] H
 |e::es,U,H,Q=>WE X e U H λv H1=>uP X es U H1 λvs H2=>Q (v::vs) H2
def sel (Y:WZ)(U:St):St:=Y.map λi=>(U[i]?).join
def eW{j i:Nat}(h:Y[j]?=some i)(e:U[i]?=some (some v)):(sel Y U)[j]?=some (some v):=by unfold sel;rw[R8,h];show some (U[i]?).join=_;rw[e];rfl
noncomputable def XL (X:Cx)(Ex:XK)(x:XC)(g:Gh):Prop:=∀(c:Str)(d:PyData)(C a:Addr)(H':Hp),X.mg c=some (.ref C)->x c d->(∀p o,p∉g.M->g.H0 p=some o->H' p=some o)->H' a=some (.ext (dZ a C none))->g.H0 a=none->Ex (.ref C) (some a) H'
def XL.no:XL X Ex xF g:=λ_ _ _ _ _ _ z=>z.elim
noncomputable def SE (X:Cx)(Ex:XK)(Y:WZ)(e:Expr)(d:DE):Prop:=
 ∀(g:Gh)(x:XC)(E:En)(U:St)(H Hm:Hp)(F:Nat->WU)(P:En->Kd->PyData->Prop)(Q:VK),XL X Ex x g->Rl X.K g E U H Hm F->d x E P->
  (∀E' k v u H' Hm' F' fp,P E' k v->Rl X.K g E' U H' Hm' F'->af Hm Hm'->Tm X.K g F' H' Hm' k u v fp->Q u H')->WE X e (sel Y U) H Q
noncomputable def ST (X:Cx)(Ex:XK)(Y:WZ)(e:Expr)(d:DT):Prop:=
 ∀(g:Gh)(x:XC)(E:En)(U:St)(H Hm:Hp)(F:Nat->WU)(P:En->Bool->Prop)(Q:Bool->Hp->Prop),XL X Ex x g->Rl X.K g E U H Hm F->d x E P->
  (∀E' b H' Hm' F',P E' b->Rl X.K g E' U H' Hm' F'->af Hm Hm'->Q b H')->WT X e (sel Y U) H Q
inductive aV(X:Cx)(Ex:XK)(Y:WZ):WX->List Arg->Prop
 |nil:aV X Ex Y [] []
 |pk {e:Expr}{es:WX}{as:List Arg}{i j:Nat}:PE X e (lK j)->Y[j]?=some i->aV X Ex Y es as->aV X Ex Y (e::es) (.pk i::as)
 |ev {e:Expr}{es:WX}{as:List Arg}{d:DE}:SE X Ex Y e d->aV X Ex Y es as->aV X Ex Y (e::es) (.ev d::as)
inductive Got(K:Frag)(U:St)(Hm:Hp):List Arg->List (Option PyData)->List V->Prop
 |nil:Got K U Hm [] [] []
 |pk {i:Nat}{v:V}{as:List Arg}{os:List (Option PyData)}{vs:List V}:U[i]?=some (some v)->Got K U Hm as os vs->Got K U Hm (.pk i::as) (none::os) (v::vs)
 |ev {e:DE}{v:V}{d:PyData}{as:List Arg}{os:List (Option PyData)}{vs:List V}:Rp K Hm v d->Got K U Hm as os vs->Got K U Hm (.ev e::as) (some d::os) (v::vs)
def k7{F:Nat->WU}(R:Rl K g E U H Hm F){i:Nat}(h:here E i=true):∃v,U[i]?=some (some v):=by unfold here at h;split at h;{rename_i kd e;obtain⟨v,h1,_⟩:=R.slot i kd.1 kd.2 e;exact⟨v,h1⟩};cases h
section
variable{X:Cx}{Ex:XK}{Y:WZ}{g:Gh}{x:XC}{U:St}
def kE(hx:XL X Ex x g)(S:aV X Ex Y es as):∀{E:En}{H Hm:Hp}{F:Nat->WU}{P:En->List (Option PyData)->Prop}{Q:List V->Hp->Prop},Rl X.K g E U H Hm F->jO as x E P->(∀E' os vs H' Hm' F',P E' os->Rl X.K g E' U H' Hm' F'->af Hm Hm'->Got X.K U Hm' as os vs->Q vs H')->uP X es (sel Y U) H Q:=by
 induction S with
 |nil=>exact λR h q=>q _ _ _ _ _ _ h R (af.refl _) .nil
 |@pk e es as i j hp hj _ ih=>intro E H Hm F P Q R h q;replace h:bK (here E i) _:=h;rw[fm]at h;obtain⟨h1,h2⟩:=h;obtain⟨v,hv⟩:=k7 R h1;refine WE.of hp ⟨v,eW hj hv,ih R h2 λE' os vs H' Hm' F' p R' s G=>q _ _ _ _ _ _ p R' s (.pk hv G)⟩
 |@ev e es as d hd _ ih=>intro E H Hm F P Q R h q;refine hd g x E U H Hm F _ _ hx R h λE1 k v u H1 Hm1 F1 fp p R1 s1 T=>?_;replace p:bK k.fz _:=p;rw[fm]at p;obtain⟨hk,p⟩:=p;obtain⟨Hm2,s2,R2,r⟩:=T.ig R1 hk;exact ih R2 p λE' os vs H' Hm' F' p' R' s' G=>q _ _ _ _ _ _ p' R' (s1.trans (s2.trans s')) (.ev (r.mono s') G)
def pR{F:Nat->WU}(R:Rl K g E U H Hm F)(s:af Hm Hm1):∀{as:List Arg}{os:List (Option PyData)}{vs:List V}{ds:WN},Got K U Hm as os vs->fill as E os=some ds->(∀i∈gB as,∀a∈F i,Hm1 a=H a)->au K Hm1 vs ds:=by
 intro as os vs ds G;induction G generalizing ds with
 |nil=>intro h _;cases h;exact .nil
 |@pk i v as os vs hv G ih=>
  intro h n;rw[fill]at h;split at h
  .rename_i k d e;by_cases hk:k.rd=true
   .rw[if_pos hk]at h;cases hf:fill as E os with
    |none=>rw[hf]at h;cases h
    |some es=>rw[hf]at h;cases h;obtain⟨v',h1,h2⟩:=R.slot i k d e;rw[hv]at h1;cases h1;exact .cons (h2.rp hk s (n i Q6)) (ih hf λj hj=>n j (QU _ hj))
   rw[if_neg hk]at h;cases h
  cases h
 |@ev d v u as os vs r G ih=>
  intro h n;rw[fill]at h;cases hf:fill as E os with
  |none=>rw[hf]at h;cases h
  |some es=>rw[hf]at h;cases h;exact .cons (r.mono s) (ih hf n)
theorem nR:∀{is:WZ}{E E2:En},dO is E=some E2->E2.length=E.length/\∀j,(j∉is->E2[j]?=E[j]?)/\(j∈is->∃k d,E[j]?=some (some (k,d))/\k.fz=true/\E2[j]?=some (some (.sh,d)))
 |[],E,E2,h=>by cases h;exact⟨rfl,λj=>⟨λ_=>rfl,λz=>by cases z⟩⟩
 |i::r,E,E2,h=>by
  have h:(dD E i).bind (dO r)=some E2:=h;cases hf:dD E i with
  |none=>rw[hf]at h;cases h
  |some E1=>
   rw[hf]at h;obtain⟨l1,g1⟩:=nR (is:=r) (E:=E1) (E2:=E2) h;unfold dD at hf;split at hf
   .rename_i k d e;by_cases hk:k.fz=true
    .rw[if_pos hk]at hf;cases hf;have li:i<E.length:=by rcases Rh i E.length with h|h;{exact h};rw[Rk h]at e;cases e
     rw[Rf]at l1;refine⟨l1,λj=>⟨λn=>?_,λm=>?_⟩⟩;{have n1:j≠i:=λz=>n (z▸Q6);rw[(g1 j).1 λz=>n (QU _ z),ak (Ne.symm n1)]};by_cases c:j=i;{subst c;by_cases m':j∈r;{obtain⟨k2,d2,e2,_,e3⟩:=(g1 j).2 m';rw[aF li]at e2;cases e2;exact⟨k,d,e,hk,e3⟩};exact⟨k,d,e,hk,by rw[(g1 j).1 m',aF li]⟩};have m':j∈r:=(QX.mp m).resolve_left c;obtain⟨k2,d2,e2,h2,e3⟩:=(g1 j).2 m';rw[ak (Ne.symm c)]at e2;exact⟨k2,d2,e2,h2,e3⟩
    rw[if_neg hk]at hf;cases hf
   cases hf
def wj{F:Nat->WU}(R:Rl K g E U H Hm F)(hE:(if flat k v=true then some E else dO is E)=some E2)(sH:af H H')(s1:af (lend Hm H (is.flatMap F)) Hm2)(s2:af Hm2 H')(old:∀a,H a≠none->OE (Hm2 a) (lend Hm H (is.flatMap F) a))(o:Own K H' Hm2 k u v fp)(fr:∀a∈fp,H a=none/\Hm2 a=none) : ∃Hm' F',Rl K g E2 U H' Hm' F'/\af Hm Hm'/\Tm K g F' H' Hm' k u v fp:=by
 have mem:∀{a i},a∈F i->i∈is->a∈is.flatMap F:=λha hi=>Rj.mpr ⟨_,hi,ha⟩;have off:∀a∈is.flatMap F,Hm a=none:=λa ha=>by obtain⟨i,_,h⟩:=Rj.mp ha;exact R.off i a h
 have up:af Hm (lend Hm H (is.flatMap F)):=ic off;have bu:∀{i a},a∈F i->H a≠none:=λha z=>by obtain⟨u,hu,_⟩:=R.bu _ _ ha;rw[z]at hu;cases hu
 have nfp:∀a∈fp,∀i,a∉F i:=λa ha i=>R.fresh (fr a ha).1;by_cases hf:flat k v=true
 .rw[if_pos hf]at hE;cases hE;refine⟨back Hm2 (is.flatMap F),F,R.grow sH (λb o e=>?_) (wm s2) (λi a ha=>?_) (λa ha=>?_),λb o e=>?_,⟨o.flat (λa xs h=>?_) hf,λa ha=>?_,nfp,λa ha=>R.gO (fr a ha).1⟩⟩;{rw[c7 λz=>by rw[off b z]at e;cases e];exact s1 _ _ (up _ _ e)};{by_cases c:a∈is.flatMap F;{exact i6 c};rw[c7 c];obtain⟨w,hw,nt⟩:=R.bu i a ha;exact(old a (bu ha)).off (by rw[b9 c];exact R.off i a ha) s2 (sH _ _ hw) nt};{by_cases c:a∈is.flatMap F;{rw[i6 c,off a c];exact .inl rfl};have h:=old a (R.pZ ha);rw[b9 c]at h;rw[c7 c];exact h};{rw[c7 λz=>by rw[off b z]at e;cases e];exact s1 _ _ (up _ _ e)}
  .have c:a∉is.flatMap F:=λz=>by obtain⟨i,_,hi⟩:=Rj.mp z;obtain⟨w,hw,nt⟩:=R.bu i a hi;have e2:Hm2 a=some w:=s1 _ _ (by rw[eU z];exact hw);rw[e2]at h;cases h;exact nt xs rfl
   rw[c7 c];exact h
  by_cases c:a∈is.flatMap F;{exact i6 c};rw[c7 c];exact(fr a ha).2
 rw[if_neg hf]at hE;obtain⟨l2,g2⟩:=nR hE;have R':Rl K g E2 U H' Hm2 (λj=>if j∈is then []else F j):={
  len:=l2.trans R.len
  sub:=s2
  slot:=λj k' d' e'=>by
   by_cases c:j∈is
   .obtain⟨k0,d0,e0,hk0,e1⟩:=(g2 j).2 c;rw[e1]at e';cases e';obtain⟨v',h1,h2⟩:=R.slot j k0 _ e0;refine⟨v',h1,?_⟩;rw[if_pos c];exact .sh ((h2.rp (by cases k0<;>first|rfl|cases hk0) up λa ha=>eU (mem ha c)).mono s1)
   .rw[(g2 j).1 c]at e';obtain⟨v',h1,h2⟩:=R.slot j k' d' e';refine⟨v',h1,?_⟩;rw[if_neg c];refine h2.step (up.trans s1) λa ha=>?_
    obtain⟨w,hw,_⟩:=h2.live a ha;rw[hw];exact sH _ _ hw
  off:=λj a ha=>by
   by_cases c:j∈is
   .rw[if_pos c]at ha;cases ha
   .rw[if_neg c]at ha;obtain⟨w,hw,nt⟩:=R.bu j a ha;refine(old a (bu ha)).off ?_ s2 (sH _ _ hw) nt;rw[b9]
    .exact R.off j a ha
    .intro z;obtain⟨i,hi,h⟩:=Rj.mp z;exact c (R.aQ i j a h ha▸hi)
  bu:=λj a ha=>by
   by_cases c:j∈is
   .rw[if_pos c]at ha;cases ha
   .rw[if_neg c]at ha;obtain⟨w,hw,nt⟩:=R.bu j a ha;exact⟨w,sH _ _ hw,nt⟩
  aQ:=λj l a h1 h2=>by
   by_cases c:j∈is
   .rw[if_pos c]at h1;cases h1
   .rw[if_neg c]at h1
    by_cases c':l∈is
    .rw[if_pos c']at h2;cases h2
    .rw[if_neg c']at h2;exact R.aQ j l a h1 h2
  fr:=λp o hp ho=>sH _ _ (R.fr p o hp ho)
  new:=λj a ha=>by
   by_cases c:j∈is
   .rw[if_pos c]at ha;cases ha
   .rw[if_neg c]at ha;exact R.new j a ha
  pin:=λq hq=>by
   obtain⟨h1,ds',h2⟩:=R.pin q hq;have c:q.1∉is:=λz=>by
    obtain⟨k0,d0,e0,hk0,_⟩:=(g2 q.1).2 z;rw[h2]at e0;cases e0;cases hk0
   exact⟨h1,ds',by rw[(g2 q.1).1 c];exact h2⟩
  old:=λa ha=>by
   refine(old a (R.pZ ha)).trans ?_;rw[b9]
   .exact R.old a ha
   .intro z;obtain⟨i,hi,h⟩:=Rj.mp z;obtain⟨k0,d0,e0,hk0,_⟩:=(g2 i).2 hi;exact ha (R.notM e0 (by cases k0<;>first|rfl|(rename_i p;cases p<;>first|rfl|cases hk0)|cases hk0) h) }
 refine⟨Hm2,_,R',up.trans s1,⟨o,λa ha=>(fr a ha).2,λa ha i=>?_,λa ha=>R.gO (fr a ha).1⟩⟩;by_cases c:i∈is;{rw[if_pos c];simp};rw[if_neg c];exact nfp a ha i
noncomputable def c9 (K:Frag)(f:DR)(r:List V->Hp->VK->Prop):Prop:=
 ∀(H Hm:Hp)(vs:List V)(ds:WN)(P:Kd->PyData->Prop)(Q:VK),af Hm H->au K Hm vs ds->f ds P->
  (∀k v u H' Hm' fp,P k v->af H H'->af Hm Hm'->af Hm' H'->(∀a,H a≠none->OE (Hm' a) (Hm a))->Own K H' Hm' k u v fp->(∀a∈fp,H a=none/\Hm' a=none)->Q u H')->r vs H Q
def jm(S:aV X Ex Y es as)(hr:∀U H Q,uP X es U H (λvs H1=>r vs H1 Q)->WE X e U H Q)(D:c9 X.K f r):SE X Ex Y e (aa f as):=by
 intro g x E U H Hm F P Q hx R h q;refine hr _ _ _ (kE hx S R h λE1 os vs H1 Hm1 F1 p R1 s1 G=>?_);replace p:sA f as E1 os P:=p;unfold sA at p;rw[<-bg,fh]at p;obtain⟨ds,hf,hg⟩:=p;have off:∀a∈(gB as).flatMap F1,Hm1 a=none:=λa ha=>by obtain⟨i,_,h⟩:=Rj.mp ha;exact R1.off i a h
 have up:=ic (Hm:=Hm1) (H:=H1) off;refine D H1 (lend Hm1 H1 ((gB as).flatMap F1)) vs ds _ Q (iV R1.sub) (pR R1 up G hf λi hi a ha=>eU (Rj.mpr ⟨i,hi,ha⟩)) hg λk v u H' Hm2 fp p sH sM sS old o fr=>?_;replace p:aD (qP as E1 k v) _:=p;rw[<-bg,tR]at p;obtain⟨E2,ha,p⟩:=p;obtain⟨Hm',F',R',s',T⟩:=wj R1 (is:=gB as) (wY ha) sH sM sS old o fr;exact q _ _ _ _ _ _ _ _ p R' (s1.trans s') T
end
end Dv
namespace L2
open PySem PySem.Spec PyProof.Rows
section
variable{X:Cx}
noncomputable def AU (i j:Int):Prop:=0<j/\j<115792089237316195423570985008687907853269984665640564039457584007913129639936
def GO:bC X (binaryOp .FloorDiv) (rI AU λi j=>.int (i/j)):=Hi λi j _ _ _ _ _ hc q=>by
 have h1:(0:Int)<j:=hc.1;have h2:j<115792089237316195423570985008687907853269984665640564039457584007913129639936:=hc.2;refine floordiv_int (by lia) (by rw[Int.fdiv_eq_ediv_of_nonneg i (by lia)];exact q) (.inl (PyProof.noPylong_of_log2 ?_));have:j.natAbs.log2<256:=(Nat.log2_lt (by lia)).mpr (by
  have:(2:Nat)^256=115792089237316195423570985008687907853269984665640564039457584007913129639936:=by decide
  lia)
 lia
end
end L2
namespace SM
open PySem PySem.SetTable
section
variable{prog:Program}{w:World}{K:Type} [DecidableEq K]{knd:KeyKind prog w K}{A:Around}{E:WA}{s:Shared}
noncomputable abbrev kj (w:World):Obj:={ cls:=.type "set",dict:=none,data:=.set #[] 0 (.fresh 0 0 (!(w.params.followText "set-order"))) }
end
def Ci(hr:gR xs):below xs 0=0:=by
 obtain⟨h1,h2⟩:=iK hr 0;rcases Nat.eq_zero_or_pos (below xs 0)with z|z;{exact z};have hi:0<xs.size:=by lia
 have:=(h2 0 xs[0] (RP hi)).mp z;lia
def BL(hr:gR xs){i j:Nat}(h:xs[i]?=some j):below xs (j+1)=i+1:=by
 obtain⟨h1,h2⟩:=iK hr (j+1);have a:=(h2 i j h).mpr (US j);rcases Rh (i+1) (below xs (j+1))with z|z
 .have hi:i+1<xs.size:=by lia
  have e:=RP hi;have b:=(h2 (i+1) _ e).mp z;have c:=hr i (i+1) j _ (US i) h e;lia
 lia
theorem rO{α:Type}:∀(l:List α) (i:Nat)(h:i<l.length),(l[i]::l.eraseIdx i).Perm l
 |x::l,0,_=>List.Perm.refl _
 |x::l,i+1,h=>by
  have hi:i<l.length:=by simpa using h
  have ih:=rO l i hi;refine List.Perm.trans (V4 x l[i] (l.eraseIdx i)) (List.Perm.cons x ih)
theorem Af{α:Type}(next:Nat->Nat):∀(fuel k:Nat)(left:List α)(out:Array α),left.length=fuel->(pickOrder.go next fuel k left out).toList.Perm (out.toList++left)
 |0,k,left,out,h=>by have:left=[]:=List.length_eq_zero_iff.mp h;subst this;unfold pickOrder.go;simp
 |fuel+1,k,left,out,h=>by
  unfold pickOrder.go;have lt:next k%left.length<left.length:=U4 _ (by lia)
  rw[RI lt];dsimp only;refine(Af next fuel (k+1) _ _ (by rw[List.length_eraseIdx_of_lt lt];lia)).trans ?_;rw[UT,RY];refine Se _ ?_;exact rO _ _ lt
def DJ{α:Type}(next:Nat->Nat)(xs:Array α):(pickOrder next xs).toList.Perm xs.toList:=by
 have:=Af next xs.size 0 xs.toList #[] (by simp)
 simpa[pickOrder]using this
noncomputable def dQ (w:World)(a:Addr) (ep:Nat)(es:Array Ent):Array Ent:=if w.params.followText "set-order"=true then pickOrder (w.params.setOrder a ep) es else es
def yh(w:World)(a:Addr) (ep:Nat)(es:Array Ent):(dQ w a ep es).toList.Perm es.toList:=by unfold dQ;split;{exact DJ _ _};exact List.Perm.refl _
def qX(w:World)(a:Addr) (ep:Nat)(es:Array Ent):(dQ w a ep es).size=es.size:=by have:=(yh w a ep es).length_eq;simpa using this
def je:Slot "set_iterator" "__next__" "set_iterator.__next__" :=
 .of (owner:="set_iterator") (n:="__next__") (by
   rw[typeLookup_type,builtinLookup_eq_fast]
   kernel_rfl) (by decide+kernel) (by decide+kernel) (by decide+kernel)
  (by
   first
   |exact .inl (by decide+kernel)
   |exact .inr (by decide+kernel)) (by
   rw[isSubtype_type]
   kernel_rfl)
def wK:Slot "set_iterator" "__iter__" "set_iterator.__iter__" :=
 .of (owner:="set_iterator") (n:="__iter__") (by
   rw[typeLookup_type,builtinLookup_eq_fast]
   kernel_rfl) (by decide+kernel) (by decide+kernel) (by decide+kernel)
  (by
   first
   |exact .inl (by decide+kernel)
   |exact .inr (by decide+kernel)) (by
   rw[isSubtype_type]
   kernel_rfl)
def Ai:entryFor table "set_iterator.__next__"=some Builtin.«set_iterator.__next__»:=entryFor_of_tree (by kernel_rfl)
def xj(a:Value):argsOk "set_iterator.__next__" ⟨[a],[]⟩:=by
 unfold argsOk
 kernel_rfl
def Gb(a:Value):argsOk "set_iterator.__iter__" ⟨[a],[]⟩:=by
 unfold argsOk
 kernel_rfl
def JY:entryFor table "set.__iter__"=some Builtin.«frozenset.__iter__» :=
 entryFor_alias (id':="frozenset.__iter__") (by kernel_rfl) rfl (by decide+kernel) (by kernel_rfl)
def JQ:entryFor table "set_iterator.__iter__"=some Builtin.«dict_keyiterator.__iter__» :=
 entryFor_alias (id':="dict_keyiterator.__iter__") (by kernel_rfl) rfl (by decide+kernel) (by kernel_rfl)
noncomputable def nj (h:Heap)(it a:Addr) (slot i n ep:Nat):Prop:=∃o,h.get? it=some o/\o.cls=.type "set_iterator"/\o.data=.fields #[.int slot 0,.int i 0,.ref a,.int n 0,.int ep 0]
noncomputable def gp (w:World)(h:Heap)(a:Addr)(es:Array Ent) (ep:Nat):Prop:=∃o t,h.get? a=some o/\o.ExactSet/\o.data=.set es ep t/\t.fits es.size=true/\gR t.place/\t.place.size=es.size/\t.plain=true/\t.led=(!(w.params.followText "set-order"))
def nj.ty{s:Shared}{it a:Addr}{slot i n ep:Nat}(x:nj s.heap it a slot i n ep):s.TypeIs (.ref it) "set_iterator":=by obtain⟨o,h1,h2,_⟩:=x;exact⟨o,h1,h2⟩
section
variable{prog:Program}{w:World}{A:Around}{E:WA}{s:Shared}{es:Array Ent}{ep:Nat}{a it:Addr}
def G6(S:gp w s.heap a es ep)(q:Q (.ref s.heap.objs.size) { s with heap:=s.heap.push { cls:=.type "set_iterator",data:=.fields #[.int 0 0,.int 0 0,.ref a,.int es.size 0,.int ep 0] } }) : wpAny (model prog w) A (pyIter (.ref a)) Q E s:=by
 obtain⟨o,t,ho,ex,hd,fit,ri,sz,pl,ld⟩:=S;have ty:s.TypeIs (.ref a) "set":=⟨o,ho,ex.1⟩;refine wpAny_pyIter_slot ty F.slot_set_iter (SY F.slot_set_iter ty JY ?_ (F.args_set_iter_1 _));unfold Builtin.«frozenset.__iter__»;refine Q0 (m:=Builtin.Frozenset.slot0 "__iter__" _) (Q2 (?_:_));unfold Builtin.Frozenset.sizeOf;refine Q0 (Q0 (wpAny_setEntries_of ho hd fit (Q2 (?_:_))));unfold setDrawn;refine Q0 ?_;refine Q0 (SO ho hd fit ?_);dsimp only;unfold setsByText;refine Q0 (Q0 (UU (Q2 (?_:_))));refine Q2 ?_;have nd:¬((!(w.params.followText "set-order")&&(!t.plain&&decide (es.size>1)))=true):=by rw[pl];simp
 refine V5 (λz=>absurd z nd) λ_=>?_;refine Q0 (Q2 (?_:_));refine Q0 (wpAny_setEpoch_of ho hd fit ?_);unfold newFields;refine Q0 (Sq (Q2 ⟨_,rfl,"set_iterator",_,⟨_,Rc _ rfl,rfl⟩,je.lookup,?_⟩));simpa[rawInt]using q
def JW{slot i n:Nat}{Q:WA}(hit:nj s.heap it a slot i n ep)(q:Q (.ref it) s):wpAny (model prog w) A (pyIter (.ref it)) Q E s:=by refine wpAny_pyIter_slot hit.ty wK (SY wK hit.ty JQ ?_ (Gb _));show wpAny _ _ (ret (.ref it)) _ _ s;exact Q2 ⟨_,rfl,"set_iterator",_,hit.ty,je.lookup,q⟩
def xZ{slot i:Nat}(S:gp w s.heap a es ep)(hs:w.params.followText "set-order"=false->∀o es' ep' t,s.heap.get? a=some o->o.data=.set es' ep' t->below t.place slot=i)(q0:(dQ w a ep es)[i]?=none->Q none s)(q1:∀e slot',(dQ w a ep es)[i]?=some e->(w.params.followText "set-order"=false->∀o es' ep' t,s.heap.get? a=some o->o.data=.set es' ep' t->below t.place slot'=i+1)->Q (some (e.2,slot')) s) : wpAny (model prog w) A (setNext a slot i ep) Q E s:=by
 obtain⟨o,t,ho,ex,hd,fit,ri,sz,pl,ld⟩:=S;unfold setNext;refine Q0 (SO ho hd fit ?_);dsimp only;unfold setsByText;refine Q0 (Q0 (UU (Q2 (?_:_))));show wpAny _ _ (if w.params.followText "set-order"=true then _ else _) _ _ _;cases c:w.params.followText "set-order" with
 |true=>
  rw[if_pos rfl];rw[if_neg (by simp)];refine Q0 ?_;unfold setWalk;refine Q0 (SO ho hd fit ?_);dsimp only;unfold setsByText;refine Q0 (Q0 (UU (Q2 (?_:_))));show wpAny _ _ (if w.params.followText "set-order"=true then _ else _) _ _ _;rw[if_pos c];refine Q0 (UU (Q2 (?_:_)));refine Q2 ?_;have eo:dQ w a ep es=pickOrder (w.params.setOrder a ep) es:=by unfold dQ;rw[if_pos c]
  rw[eo]at q0 q1;show Q (((pickOrder (w.params.setOrder a ep) es)[i]?).map λe=>(e.2,slot)) s;cases z:(pickOrder (w.params.setOrder a ep) es)[i]? with
  |none=>exact q0 z
  |some e=>exact q1 e slot z (λh=>by rw[c]at h;cases h)
 |false=>
  rw[if_neg QV];have nd:¬((!t.plain&&decide (es.size>1))=true):=by rw[pl];simp
  refine V5 (λz=>absurd z nd) λ_=>?_;have nl:¬((!t.led&&!es.isEmpty)=true):=by rw[ld,c];simp
  refine Q0 (?_:wpAny _ _ (if(!t.led&&!es.isEmpty)=true then(unsupported "set:maker-not-led":Sem Unit)else pure ()) _ _ _);rw[if_neg nl];refine Q2 (Q2 (?_:_));have eo:dQ w a ep es=es:=by unfold dQ;rw[if_neg (by rw[c];exact QV)]
  rw[eo]at q0 q1;rw[hs c o es ep t ho hd];cases z:es[i]? with
  |none=>exact q0 z
  |some e=>
   have hi:i<t.place.size:=by rw[sz];exact j7 z
   have zp:=RP hi;rw[zp];obtain⟨eh,ev⟩:=e;refine q1 (eh,ev) _ z λ_ o' es' ep' t' h1 h2=>?_;rw[ho]at h1;cases h1;rw[hd]at h2;cases h2;exact BL ri zp
end
section
variable{prog:Program}{w:World}{A:Around}{E:WA}{s:Shared}{es:Array Ent}{ep:Nat}{a it:Addr}
noncomputable def Hy (w:World)(h:Heap)(a:Addr) (slot i:Nat):Prop:=w.params.followText "set-order"=false->∀o es' ep' t,h.get? a=some o->o.data=.set es' ep' t->below t.place slot=i
theorem gp.sz(S:gp w s.heap a es ep)(h:P es s):wpAny (model prog w) A (setEntries a) P E s:=by obtain⟨o,t,ho,ex,hd,fit,ri,sz,pl,ld⟩:=S;exact wpAny_setEntries_of ho hd fit h
def next_item{slot i:Nat}(ne:a≠it)(hit:nj s.heap it a slot i es.size ep)(S:gp w s.heap a es ep)(F:Hy w s.heap a slot i)(he:(dQ w a ep es)[i]?=some e)(q:∀h' slot',nj h' it a slot' (i+1) es.size ep->Hy w h' a slot' (i+1)->Heap.SameBut it s.heap h'->Q (some e.2) { s with heap:=h' }):wpAny (model prog w) A (pyNext (.ref it)) Q E s:=by
 obtain⟨o,ho,hc,hd⟩:=id hit;unfold pyNext;refine Q0 (UQ (Uo (name:=Str.ofString "__next__") hit.ty je
  (SY je hit.ty Ai ?_ (xj _))))
 unfold Builtin.«set_iterator.__next__»;refine Q0 (m:=slotArgs "__next__" 0 _) (Q2 (?_:_));refine Q0 (wpAny_fieldsOf ho hd ?_);dsimp only;refine Q0 (S.sz ?_);rw[if_neg (by simp)];simp only[Um];refine Q0 (xZ S F (λz=>by rw[he]at z;cases z) λe' slot' z hF=>?_);rw[he]at z;cases z;dsimp only;refine Q0 (To ho hd (by simp) ?_);have g1:=SJ (Obj.mapFields (·.setIfInBounds 0 (rawInt (slot':Int)))) ho (UR (Tp hd _));have d1:=Tp hd (·.setIfInBounds 0 (rawInt (slot':Int)));have sb1:=U6 s.heap it (Obj.mapFields (·.setIfInBounds 0 (rawInt (slot':Int))));generalize s.heap.update it (Obj.mapFields (·.setIfInBounds 0 (rawInt (slot':Int))))=h1 at *;refine Q0 (To (s:={ s with heap:=h1 }) g1 d1 (by simp) ?_);have g2:=SJ (Obj.mapFields (·.setIfInBounds 1 (rawInt ((i:Int)+1)))) g1 (UR (Tp d1 _));have d2:=Tp d1 (·.setIfInBounds 1 (rawInt ((i:Int)+1)));have sb2:=U6 h1 it (Obj.mapFields (·.setIfInBounds 1 (rawInt ((i:Int)+1))));generalize h1.update it (Obj.mapFields (·.setIfInBounds 1 (rawInt ((i:Int)+1))))=h2 at *;have sb:Heap.SameBut it s.heap h2:=sb1.trans sb2;refine Q2 ⟨_,rfl,Q2 (q h2 slot' ⟨_,g2,?_,?_⟩ (λc o' es' ep' t h1 h2'=>?_) sb)⟩;{rw[Obj.cls_mapFields,Obj.cls_mapFields];exact hc};{rw[d2];simp[rawInt]};rw[sb.2 a ne]at h1;exact hF c o' es' ep' t h1 h2'
def next_end{slot i:Nat}(hh:A.handled=none)(hit:nj s.heap it a slot i es.size ep)(S:gp w s.heap a es ep)(F:Hy w s.heap a slot i)(he:(dQ w a ep es)[i]?=none)(q:∀h',Heap.ExtBut it s.heap h'->Q none { s with heap:=h' }):wpAny (model prog w) A (pyNext (.ref it)) Q E s:=by
 obtain⟨o,ho,hc,hd⟩:=id hit;unfold pyNext;refine Q0 (UQ (Uo (name:=Str.ofString "__next__") hit.ty je
  (SY je hit.ty Ai ?_ (xj _))))
 unfold Builtin.«set_iterator.__next__»;refine Q0 (m:=slotArgs "__next__" 0 _) (Q2 (?_:_));refine Q0 (wpAny_fieldsOf ho hd ?_);dsimp only;refine Q0 (S.sz ?_);rw[if_neg (by simp)];simp only[Um];refine Q0 (xZ S F (λz=>?_) λe' slot' z hF=>by rw[he]at z;cases z);dsimp only;refine Q0 (To ho hd (by simp) ?_);refine Q0 (m:=newExc (.type "StopIteration") []) ?_;simp only[newExc,newTuple];refine Q0 (Sq ?_ (by size_fits));refine Q0 (m:=firstArgMember _ _) (wpAny_of_eq (a:=Value.none) (by
  first
  |rfl
  | (simp only[firstArgMember];rfl)) ?_)
 refine Sq (?_:_) (by size_fits);simp only[raiseNew];refine Q0 (wpAny_handled (?_:_));rw[show A.in1.handled=none from hh];refine Q0 (Q2 (wpAny_throw (?_:_)));refine Q0 (wpAny_isInstance (T:="StopIteration") (b:=true) ⟨_,Rc _ rfl,rfl⟩ isSubtype_stop (?_:_));exact Q2 (q _ (((U6 ..).extBut.push _).push _))
def gp.at(S:gp w h a es ep)(k:∀o,h.get? a=some o->h'.get? a=some o):gp w h' a es ep:=by obtain⟨o,t,ho,r⟩:=S;exact⟨o,t,k o ho,r⟩
def FY(hh:A.handled=none)(I a:Addr)(ne:a≠I)(es:Array Ent) (ep:Nat) : Walks prog w A I [I,a] [I] es.size (λi v=>∃e,(dQ w a ep es)[i]?=some e/\v=e.2) (λi h=>(∃slot,nj h I a slot i es.size ep/\Hy w h a slot i)/\gp w h a es ep) where
 sub:=λb hb=>by
  simp at hb;simp[hb]
 frame:=λi h h' st hk=>by
  obtain⟨⟨slot,⟨o,ho,r⟩,F⟩,S⟩:=st;refine⟨⟨slot,⟨o,hk I (by simp) o ho,r⟩,λc o' es' ep' t h1 h2=>?_⟩,S.at λo e=>hk a (by simp) o e⟩
  obtain⟨ob,tb,hob,r2⟩:=S;have:=hk a (by simp) ob hob
  rw[this]at h1;cases h1;exact F c _ es' ep' t hob h2
 item:=λi s Q E hi st hQ=>by
  obtain⟨⟨slot,hit,F⟩,S⟩:=st;have hi':i<(dQ w a ep es).size:=by
   rw[qX];exact hi
  have he:=RP hi';refine next_item ne hit S F he λh' slot' hit' F' sb=>?_
  exact hQ _ h' s.toks ⟨_,he,rfl⟩ ⟨⟨slot',hit',F'⟩,S.at λo e=>by rw[sb.2 a ne];exact e⟩ λb o hb e=>by rw[sb.2 b (λz=>hb (by simp[z]))];exact e
 done:=λs Q E st hQ=>by
  obtain⟨⟨slot,hit,F⟩,S⟩:=st;refine next_end hh hit S F (Uz (by rw[qX];exact Q5 _)) λh' eb=>hQ h' s.toks λb o hb e=>eb b o (λz=>hb (by simp[z])) e
 self:=λi s Q E st hQ=>by
  obtain⟨⟨slot,hit,F⟩,S⟩:=st;exact JW hit hQ
end
end SM
namespace SM
open PySem PySem.SetTable PySem.W PyProof.Rows
section
variable{prog:Program}{w:World}{A:Around}{E:WA}{s:Shared}{es:Array Ent}{ep:Nat}{a it:Addr}
def FL(ty:s.TypeIs (.ref a) "set")(q:Q false s):wpAny (model prog w) A (Builtin.List.listLengthHint (.ref a)) Q E s:=by
 unfold Builtin.List.listLengthHint;refine Q0 (wpAny_specialOf ty F.slot_set_len.lookup (?_:_));generalize hid:("set.__len__":String)=idl
 wp_delta
 rw[show splitId idl=some ("set","__len__")from by
  subst hid;decide+kernel]
 subst hid;refine Q0 (wpAny_isInstance (T:="set") (b:=true) ty (by
  rw[isSubtype_type]
  kernel_rfl) (?_:_))
 refine V5 (λz=>absurd z (by decide)) (λ_=>(?_:_));refine V5 (λ_=>(?_:_)) (λz=>absurd (by decide+kernel) z);refine Q0 (Tz ty (?_:_));exact Q2 q
def JD(a:Addr)(es:Array Ent) (ep:Nat):KdlSrc prog w "set" a a es.size (λi v=>∃e,(dQ w a ep es)[i]?=some e/\v=e.2) (λh=>gp w h a es ep) where
 type:=λs S=>by
  obtain⟨o,t,ho,ex,_⟩:=S;exact⟨o,ho,ex.1⟩
 there:=λh S=>by
  obtain⟨o,t,ho,_⟩:=S;exact⟨QT ho,QT ho⟩
 keep:=λh h' S hk=>S.at λo e=>hk a (.inl rfl) o e
 notList:=by decide
 notTuple:=by decide
 hint:=λA E s Q S q=>by
  obtain⟨o,t,ho,ex,_⟩:=S;exact FL ⟨o,ho,ex.1⟩ q
 iter:=λA s hh S=>by
  refine⟨_,_,λE Q q=>G6 S q,FY hh _ a ?_ es ep,⟨⟨0,⟨_,Rc _ rfl,rfl,rfl⟩,λc o' es' ep' t h1 h2=>?_⟩,S.at λo e=>QZ _ e⟩⟩
  .obtain⟨o,t,ho,_⟩:=S;exact RH (QT ho)
  .obtain⟨o,t,ho,ex,hd,fit,ri,r⟩:=S;rw[QZ _ ho]at h1;cases h1;rw[hd]at h2;cases h2;exact Ci ri
end
end SM
namespace TS
open PySem PyProof.Rows
noncomputable def tU:Bool->Keyed->Array Keyed->Nat->Nat->Nat->StateT SortSt Sem (Option Nat):=sortPriv%PySem.Builtin.gallop
noncomputable def xu:Array Keyed->Array Keyed->StateT SortSt Sem (Array Keyed):=sortPriv%PySem.Builtin.mergeLo
noncomputable def yi:Array Keyed->Array Keyed->StateT SortSt Sem (Array Keyed):=sortPriv%PySem.Builtin.mergeHi
section
variable{prog:Program}{w:World}{A:Around}{E:WA}{s:Shared}
noncomputable def Good (P:Value->Prop)(xs:Array Keyed):Prop:=∀(i:Nat)(p:Keyed),xs[i]?=some p->P p.1
variable{kd:SortKind}{P:Value->Prop}
def jX{st:SortSt}{i:Nat}(hi:i<xs.size)(h:∀p,xs[i]?=some p->Q p st):wpS (model prog w) A E s (elem' xs i) Q st:=by rw[elem'_eq,RP hi];exact Q3 (h _ (RP hi))
end
noncomputable def Pm (xs ys out:Array Keyed) (ia ib:Nat):Prop:=out.toList.Perm (xs.toList.take ia++ys.toList.take ib)
section
variable{xs ys out:Array Keyed}{ia ib k:Nat}
def x6(zs:Array Keyed) (i k:Nat):zs.toList.take (i+k)=zs.toList.take i++(zs.extract i (i+k)).toList:=by rw[Vc,List.take_add,Vd];congr 2;lia
def Pm.x(h:Pm xs ys out ia ib) (k:Nat):Pm xs ys (out++xs.extract ia (ia+k)) (ia+k) ib:=by unfold Pm at *;rw[RA,x6 xs ia k,RY];refine(h.append_right _).trans ?_;rw[RY];exact Se _ TH
def Pm.y(h:Pm xs ys out ia ib) (k:Nat):Pm xs ys (out++ys.extract ib (ib+k)) ia (ib+k):=by unfold Pm at *;rw[RA,x6 ys ib k,<-RY];exact h.append_right _
def qD{zs out:Array Keyed}{i:Nat}(hp:zs[i]?=some p):out.push p=out++zs.extract i (i+1):=by
 obtain⟨hi,e⟩:=Sd.mp hp;have:zs.extract i (i+1)=#[p]:=by
  rw[<-e];apply Array.ext;{simp;lia};intro j h1 h2;have:j=0:=by simp at h2;exact h2
  subst this;simp
 rw[this];rfl
def xR(zs:Array Keyed) (i:Nat):zs.toList=zs.toList.take i++(zs.extract i).toList:=by rw[Vc,Vd];have:List.take (zs.size-i) (List.drop i zs.toList)=List.drop i zs.toList:=TM (by simp);rw[this,V6]
def Pm.done(h:Pm xs ys out ia ib):(out++xs.extract ia++ys.extract ib).toList.Perm (xs.toList++ys.toList):=by unfold Pm at h;rw[RA,RA,xR xs ia,xR ys ib];refine((h.append_right _).append_right _).trans ?_;simp only[RY];refine Se _ ?_;rw[<-RY,<-RY];exact UW _ TH
def Pm.last(h:Pm xs ys out ia ib):(out++ys.extract ib++xs.extract ia).toList.Perm (xs.toList++ys.toList):=by refine List.Perm.trans ?_ h.done;rw[RA,RA,RA,RA,RY,RY];exact Se _ TH
end
noncomputable def kY (st st':SortSt):Prop:=kindOf st'=kindOf st/\arrOf st'=arrOf st/\pendingOf st'=pendingOf st/\failedOf st'=failedOf st
section
variable{prog:Program}{w:World}{A:Around}{E:WA}{s:Shared}{kd:SortKind}{P:Value->Prop}
def ef{M:Model}{U α:Type}{a b:Nat}{m1 m2:StateT U Sem α}{Q:α->U->Prop}{st:U}(h1:a=b->wpS M A E s m1 Q st)(h2:a≠b->wpS M A E s m2 Q st):wpS M A E s (if(a==b)=true then m1 else m2) Q st:=by by_cases e:a=b;{rw[if_pos (beq_iff_eq.mpr e)];exact h1 e};rw[if_neg (λz=>e (beq_iff_eq.mp z))];exact h2 e
def bL{M:Model}{U α:Type}{c:Prop} [Decidable c]{m1 m2:StateT U Sem α}{Q:α->U->Prop}{st:U}(h1:c->wpS M A E s m1 Q st)(h2:¬c->wpS M A E s m2 Q st):wpS M A E s (if c then m1 else m2) Q st:=by by_cases e:c;{rw[if_pos e];exact h1 e};rw[if_neg e];exact h2 e
def bW{α:Type}{st:SortSt}{zs:Array Keyed}{i:Nat}{f:Keyed->StateT SortSt Sem α}{Q:α->SortSt->Prop}(hi:i<zs.size)(h:∀p,zs[i]?=some p->wpS (model prog w) A E s (f p) Q st):wpS (model prog w) A E s (elem' zs i>>=f) Q st:=Q4 (jX hi h)
end
noncomputable def Pr (xs ys out:Array Keyed) (na nb:Nat):Prop:=out.toList.Perm (xs.toList.drop na++ys.toList.drop nb)
section
variable{xs ys out:Array Keyed}{na nb k:Nat}
def i9(zs:Array Keyed){i n:Nat}(h:i<=n):zs.toList.drop i=(zs.extract i n).toList++zs.toList.drop n:=by obtain⟨d,rfl⟩:=Nat.exists_eq_add_of_le h;rw[Vc,Vd,Ve,<-List.drop_drop];exact(V6 d _).symm
def Pr.x(h:Pr xs ys out na nb)(hk:k<=na):Pr xs ys (out++(xs.extract k na).reverse) k nb:=by unfold Pr at *;rw[RA,i9 xs hk,SQ,RY];refine(h.append_right _).trans ?_;refine TH.trans ?_;exact UW _ (Vf _)
def Pr.y(h:Pr xs ys out na nb)(hk:k<=nb):Pr xs ys (out++(ys.extract k nb).reverse) na k:=by unfold Pr at *;rw[RA,i9 ys hk,SQ];refine(h.append_right _).trans ?_;rw[RY];refine Se _ ?_;refine TH.trans ?_;exact UW _ (Vf _)
def yK{zs out:Array Keyed}{i:Nat}(h1:1<=i)(hp:zs[i-1]?=some p):out.push p=out++(zs.extract (i-1) i).reverse:=by
 have e:=qD (out:=#[]) hp;rw[show i-1+1=i by lia]at e;have e2:zs.extract (i-1) i=#[p]:=by rw[Array.empty_append]at e;exact e.symm
 rw[e2];rfl
def Pr.done(h:Pr xs ys out na nb):(xs.extract 0 na++ys.extract 0 nb++out.reverse).toList.Perm (xs.toList++ys.toList):=by
 unfold Pr at h;have e1:=i9 xs (RO na);have e2:=i9 ys (RO nb);rw[V7]at e1 e2;rw[RA,RA,SQ]
 conv=>rhs;rw[e1,e2]
 rw[RY,RY];refine Se _ ?_;refine(Se _ ((Vf _).trans h)).trans ?_;rw[<-RY,<-RY];exact UW _ TH
def Pr.first(h:Pr xs ys out na nb):(ys.extract 0 nb++xs.extract 0 na++out.reverse).toList.Perm (xs.toList++ys.toList):=by refine List.Perm.trans ?_ h.done;rw[RA,RA,RA,RA];exact UW _ TH
end
structure SB(kd:SortKind)(xs0:Array Keyed)(st:SortSt):Prop where
 perm:(arrOf st).Perm xs0
 kind:kindOf st=kd
 ok:failedOf st=none
theorem SB.size{kd:SortKind}{st:SortSt}(B:SB kd xs0 st):(arrOf st).size=xs0.size:=B.perm.size_eq
def Good.perm(G:Good P ys)(p:xs.Perm ys):Good P xs:=λi q h=>by have m:q∈xs.toList:=RD (by rw[RJ];exact h);have m2:q∈ys.toList:=(V8.mp p).mem_iff.mp m;obtain⟨j,hj⟩:=Rq m2;rw[RJ]at hj;exact G j q hj
theorem yL(sa:Nat):∀(l:List Keyed) (i:Nat)(a:Array Keyed),sa+i+l.length<=a.size->((l.zipIdx i).foldl (λa (x:Keyed×Nat)=>a.setIfInBounds (sa+x.2) x.1) a).toList=a.toList.take (sa+i)++(l++a.toList.drop (sa+i+l.length))
 |[],i,a,h=>by simp
 |p::r,i,a,h=>by
  have hl:(p::r).length=r.length+1:=rfl;rw[hl]at h;rw[List.zipIdx_cons,List.foldl_cons,yL sa r (i+1) _ (by rw[Array.size_setIfInBounds];lia)];rw[Vg];have lt:sa+i<a.toList.length:=by simp;lia
  have e1:(a.toList.set (sa+i) p).take (sa+(i+1))=a.toList.take (sa+i)++[p]:=by rw[show sa+(i+1)=sa+i+1 by lia,List.take_succ,List.take_set_of_le (Q5 _),TX lt];rfl
  have e2:(a.toList.set (sa+i) p).drop (sa+(i+1)+r.length)=a.toList.drop (sa+i+(p::r).length):=by rw[List.drop_set_of_lt (by lia),hl];congr 1;lia
  rw[e1,e2];simp
def seg(a:Array Keyed){i j k:Nat}(h1:i<=j)(h2:j<=k):a.toList=a.toList.take i++((a.extract i j).toList++((a.extract j k).toList++a.toList.drop k)):=by have e1:=i9 a h1;have e2:=i9 a h2;rw[<-e2,<-e1,V6]
section
variable{prog:Program}{w:World}{A:Around}{E:WA}{s:Shared}{kd:SortKind}{P:Value->Prop}{xs0:Array Keyed}
theorem Good.extract(G:Good P xs) (i j:Nat):Good P (xs.extract i j):=λk p h=>by rw[T8]at h;split at h;{exact G _ _ h};cases h
end
noncomputable def IsPair (h:Heap)(v:Value):Prop:=∃(a:Addr)(o:Obj) (i j:Int)(t u:Tok) (n:Nat),v=.ref a/\h.get? a=some o/\o.cls=.type "tuple"/\o.data=.seq #[.int i t,.int j u] n
section
variable{prog:Program}{w:World}{A:Around}{E:WA}{s:Shared}
def Ca(hv:IsPair s.heap v)(h:∀i t,Q (some (.int i t)) s):wpAny (model prog w) A (firstOfTuple' v) Q E s:=by obtain⟨a,o,i,j,t,u,n,rfl,ho,hc,hd⟩:=hv;unfold firstOfTuple';refine Q0 (Tz (T:="tuple") ⟨o,ho,hc⟩ ?_);rw[if_neg (by decide)];refine Q0 (V9 ho hd (Q2 ?_));exact h i t
theorem firsts:∀{vs:WQ},(∀v∈vs,IsPair s.heap v)->(∀os:List (WK),os.length=vs.length->(∀o∈os,∃i t,o=some (Value.int i t))->Q os s)->wpAny (model prog w) A (vs.mapM firstOfTuple') Q E s
 |[],_,h=>by rw[List.mapM_nil];exact Q2 (h [] rfl λo ho=>(nomatch ho))
 |v::r,hv,h=>by rw[List.mapM_cons];refine Q0 (Ca (hv v Q6) λi t=>?_);refine Q0 (firsts (λx hx=>hv x (QU _ hx)) λos ol oh=>?_);refine Q2 (h _ (by simp[ol]) λo ho=>?_);rcases QX.mp ho with rfl|ho;{exact⟨i,t,rfl⟩};exact oh o ho
def Bx{Q:SortKind->Shared->Prop}(h0:vs≠[])(hv:∀v∈vs,IsPair s.heap v)(h:Q (tuples' true) s):wpAny (model prog w) A (keyKind' vs.toArray) Q E s:=by
 rw[keyKind'_eq,List.mapM_toArray];rw[map_eq_pure_bind,bind_assoc];refine Q0 (firsts hv λos ol oh=>?_);rw[pure_bind];have all:os.toArray.all (·.isSome)=true:=by rw[List.all_toArray,QW];intro o ho;obtain⟨i,t,rfl⟩:=oh o ho;rfl
 rw[if_pos all];refine Q0 (Sw ?_);have inte:∃us:WQ,os.toArray.filterMap id=us.toArray/\us≠[]/\∃ns,IntsAre us ns:=by
  have go:∀os:List (WK),(∀o∈os,∃i t,o=some (Value.int i t))->∃us ns,os.filterMap id=us/\us.length=os.length/\IntsAre us ns:=λos=>by
   induction os with
   |nil=>exact λ_=>⟨[],[],rfl,rfl,.nil⟩
   |cons o r ih=>intro hh;obtain⟨i,t,rfl⟩:=hh o Q6;obtain⟨us,ns,e,l,I⟩:=ih λx hx=>hh x (QU _ hx);exact⟨.int i t::us,i::ns,by simp[e],by simp[l],.cons i t I⟩
  obtain⟨us,ns,e,l,I⟩:=go os oh;refine⟨us,?_,λz=>h0 ?_,ns,I⟩;{rw[List.filterMap_toArray,e]};rw[z]at l;have:vs.length=0:=by rw[<-ol,<-l];rfl
  exact List.length_eq_zero_iff.mp this
 obtain⟨us,e,un,ns,I⟩:=inte;rw[e,oneTypeOnly'_eq,List.mapM_toArray,mapM_typeOf_ints I];simp only[map_pure,pure_bind];obtain⟨u0,ur,rfl⟩:=List.exists_cons_of_ne_nil un;have hall:((List.map (λ_=>Value.type "int") (u0::ur)).toArray.all λx=>x==Value.type "int")=true:=by simp only[List.all_toArray,TN,QW];intro _ _;rfl
 have h1:(List.map (λ_=>Value.type "int") (u0::ur)).toArray[0]?=some (Value.type "int"):=by simp
 rw[h1];simp only[hall,if_true,pure_bind];exact Q2 h
end
def IsPair.keep{a:Addr}(p:IsPair h v)(ha:h.get? a=some c)(hc:c.cls=.type "list")(k:∀b o,b≠a->h.get? b=some o->h'.get? b=some o):IsPair h' v:=by obtain⟨b,o,i,j,t,u,n,rfl,ho,hco,hd⟩:=p;refine⟨b,o,i,j,t,u,n,rfl,k b o (λz=>?_) ho,hco,hd⟩;rw[z,ha]at ho;cases ho;rw[hc]at hco;injection hco with z;exact absurd z (by decide)
end TS
namespace L2
open PySem PySem.Spec PyProof.Rows
noncomputable def Na (K:WJ)(a:Addr):It:=
 ⟨λi H=>∃xs x,bQ K H a xs/\xs[i]?=some x,λi H v H'=>∃T,H T=none/\v=.ref T/\∀xs,bQ K H a xs->∃x,xs[i]?=some x/\H'=upd H T (.tup [.int i,x]),λi H=>∃xs,bQ K H a xs/\xs.length<=i⟩
def DG{P:Program}{w:World}{K:WJ}{elts:WX}{x1:Nat}{pos:Pos}(a e it:Addr)(hne:e≠it) : Turn P w K (.Tuple elts x1 pos) (Na K a) [e,it] e (λi h=>(∃old,IsEnum h e it i old)/\h.IsListIter it a i) where
 mem:=by simp
 obj:=λi h st b hb=>by
  obtain⟨⟨old,he⟩,o,e1,c,d⟩:=st;rcases QX.mp hb with z|z
  .subst z;exact⟨_,he,λv q=>by cases q⟩
  .have z:b=it:=by simpa using z
   subst z;exact⟨o,e1,λv q=>by rw[d]at q;cases q⟩
 keep:=λi h h' st k=>by
  obtain⟨⟨old,he⟩,li⟩:=st;exact⟨⟨old,k e (by simp) _ he⟩,li.at λo q=>k it (by simp) o q⟩
 item:=by
  intro X hP hw hK hc i pins s U H E I hf st hg;subst hP hw hK;obtain⟨xs,x,hq,hx⟩:=hg;obtain⟨its,rv,p,hz⟩:=I.list hq;obtain⟨u,hu,ru⟩:=rv.get hx;obtain⟨⟨old,he⟩,hit⟩:=st;have fe:=hf e (by simp)
  have fi:=hf it (by simp)
  refine wpAny_pyNext_enum_item he hit p.isList (x:=u) (by simpa using hu) hne λh1 heo hit1 ht1 hz1 hk1=>⟨_,rfl,?_⟩
  refine wpAny_letOwnedTupleGo_enum heo λh2 he2 hs2=>?_
  have elt:e<s.heap.objs.size:=QT he;have ht2:h2.get? s.heap.objs.size=some { cls:=.type "tuple",data:=.seq #[.int i s.toks,u] }:=(hs2.2 _ (UG elt)).trans ht1;have hfr:H s.heap.objs.size=none:=I.hok.fresh (Q5 _);have k2:∀b o,b≠e->b≠it->s.heap.get? b=some o->h2.get? b=some o:=λb o b1 b2 q=>hs2.extBut b o b1 (hk1 b o b1 b2 q)
  have neT:∀b o,H b=some o->b≠s.heap.objs.size:=λb o q z=>by rw[z,hfr]at q;cases q
  have neS:∀b o,s.heap.get? b=some o->b≠s.heap.objs.size:=λb o q=>RH (QT q)
  have nt:∀b o,H b=some o->b≠e/\b≠it:=λb o q=>⟨(λz=>by rw[z,fe.1]at q;cases q),(λz=>by rw[z,fi.1]at q;cases q)⟩
  have nin:∀b,b∉[e,it]->b≠e/\b≠it:=λb hb=>⟨λz=>hb (by simp[z]),λz=>hb (by simp[z])⟩
  have I2:Inv X pins U (upd H s.heap.objs.size (.tup [.int i,x])) { s with heap:=h2,toks:=s.toks+1 }:=by
   refine I.step (g':=s.gens) (d':=s.drawn) (ch:=[e,it]) (λb hb=>?_) (λb o _ _ hc' q _=>k2 b o (nin b hc').1 (nin b hc').2 q) (λb o _ _ hc' q _=>⟨o.slots,k2 b o (nin b hc').1 (nin b hc').2 q⟩)
    (λb o _ q n=>by rw[ah (neS b o q)];exact n) (λb o hc' q=>⟨o,k2 b o (nin b hc').1 (nin b hc').2 q⟩) (λb ys q=>by rw[ah (neT b _ q)];exact q) (λb o v q=>by rw[ah (neT b _ q)];exact q)
    (λb ps q=>⟨#[],by rw[ah (neT b _ q),q];simp⟩) (λm hm=>?_) (λb o q=>?_) I.bare
   .rcases QX.mp hb with z|z
    .subst z;exact⟨fe.2.2.2.1,fe.2.1,fe.2.2.2.2.1,fe.2.2.2.2.2⟩
    .have z:b=it:=by simpa using z
     subst z;exact⟨fi.2.2.2.1,fi.2.1,fi.2.2.2.2.1,fi.2.2.2.2.2⟩
   .obtain⟨o,es,ep,ho,r⟩:=hm;exact⟨o,es,ep,k2 _ o (Ne.symm fe.2.1) (Ne.symm fi.2.1) ho,r⟩
   .by_cases z:b=s.heap.objs.size
    .subst z;rw[ao]at q;cases q;exact⟨(by show 2<=sizeLine;decide),[.int i s.toks,u],.cons ⟨_,rfl⟩ (.cons ru .nil),_,ht2,rfl,_,rfl⟩
    .rw[ah z]at q;refine(I.hok b o q).stay (λc v hc' r=>k2 c v ?_ ?_ r) (λc r=>by rw[ah (neT c _ r)];exact r) λc ys r=>by rw[ah (neT c _ r)];exact r
     .rcases hc' with y|y
      .rw[y];exact(nt b o q).1
      .exact(nt c _ y).1
     .rcases hc' with y|y
      .rw[y];exact(nt b o q).2
      .exact(nt c _ y).2
  refine⟨.ref s.heap.objs.size,_,I2,rfl,⟨s.heap.objs.size,hfr,rfl,λys hy=>⟨x,by rw[I.za hy hq];exact hx,rfl⟩⟩,⟨⟨_,he2⟩,?_⟩,λb hb=>?_⟩
  .exact hit1.at λo q=>hs2.extBut it o (Ne.symm hne) q
  .rcases QX.mp hb with z|z
   .subst z;rw[ah (RH elt)];exact fe.1
   .have z:b=it:=by simpa using z
    subst z;obtain⟨o,q,_⟩:=id hit;rw[ah (RH (QT q))];exact fi.1
 done:=by
  intro X hP hw hK hc i pins s U H E I hf st hg;subst hP hw hK;obtain⟨xs,hq,hx⟩:=hg;obtain⟨its,rv,p,hz⟩:=I.list hq;obtain⟨⟨old,he⟩,hit⟩:=st;obtain⟨f0,f1,f2,f3,f4,f5⟩:=hf it (by simp)
  have hl:=rv.length;exact wpAny_pyNext_enum_end (I.ok.hd hc) he hit p.isList (by simp;lia) λh' eb=>⟨rfl,I.turned (t':=s.toks) (λb o hb q=>eb b o hb q) f0 f1 f3 f4 f5⟩
 self:=λ_ _ _ _ _ st h=>by
  obtain⟨⟨old,he⟩,_⟩:=st;exact wpAny_pyIter_enum he h
section
variable{X:Cx}
inductive Cn(K:WJ)(R:(It->Hp->Prop))(vs:List V)(H1:Hp):Prop
 |mk:∀a,(vs=[.ref a])->((∃xs,bQ K H1 a xs))->(R (Na K a) H1)->Cn K R vs H1
def OB (K:WJ)(ta:TA):TI:=λU H R=>ta U H λvs H1=>Cn K R vs H1
def KH{elts:WX}{x1:Nat}{tp p pos:Pos}{e:Expr}{ta:TA}(hg:Gl X "enumerate")(hm:X.mg "enumerate"=none)(ha:PA X [e] ta)(hs:starEach [e] X.env=[(false,eval e X.env)]:=by rfl) : PI X (.Tuple elts x1 tp) (.Call (.Name "enumerate" p) [e] [] pos) (OB X.K ta):=by
 intro pins s U H R I h;refine Call_ (kh I hg hm boot_enumerate (Uj (aH (ha pos pins s U H _ I h) λus s1 ⟨vs,H1,I1,r1,q1⟩=>?_) hs rfl));obtain⟨a,ev,⟨xs,hq⟩,q⟩:=q1;subst ev;obtain⟨u,rfl,ru⟩:=r1.one;cases ru;obtain⟨its,rv,pl,hz⟩:=I1.list hq;refine call_enumerate_list pl.isList λh' he hit hsz hk=>?_;refine wpAny_pyIter_enum he ?_;have I2:Inv X pins U H1 { s1 with heap:=h' }:=I1.kept (t':=s1.toks) hk;refine⟨s1.heap.objs.size+1,[s1.heap.objs.size+1,s1.heap.objs.size],_,_,H1,rfl,I2,DG a _ _ (Nat.succ_ne_self _),⟨⟨_,he⟩,hit⟩,λb hb=>?_,q⟩;have hb:s1.heap.objs.size<=b:=by
  rcases QX.mp hb with z|z;{rw[z];exact U1 _};have z:b=s1.heap.objs.size:=by simpa using z
  rw[z];exact Q5 _
 exact I1.uK hb (I1.hok.fresh hb)
end
section
variable{prog:Program}{w:World}{A:Around}{R:Result->Shared->Prop}{s:Shared}
noncomputable abbrev nX (prog:Program)(w:World)(A:Around)(env:Env)(R:Result->Shared->Prop):WA:=notedBy (model prog w) A env λe s'=>R (.error e) s'
end
section
variable{X:Cx}
inductive Am(x:V)(vs:List V)(H:Hp)(Q:VK):Prop
 |mk:∀(l:Addr)(xs:List V) (y:V) (j:Nat) (z:V),(x=.ref l)->(vs=[y])->(H l=some (.lst xs))->(gQ y=true)->(xs.all gQ=true)->(xs[j]?=some z)->(oZ z y=true)->((∀(m:Nat) z,m<j->xs[m]?=some z->oZ z y=false))->(Q (.int j) H)->Am x vs H Q
def K6:V->List V->Hp->VK->Prop:=λx vs H Q=>Am x vs H Q
def GA:nV X "list.index" K6:=by
 intro pins s U H x vs v us Q I rx rv h;obtain⟨l,xs,y,j,z,rfl,rfl,hH,fy,fx,hj,hit,hno,q⟩:=h;cases rx;obtain⟨u,rfl,ru⟩:=rv.one;obtain⟨hz,its,n,r,hl,e⟩:=I.ud hH;have at_:∀(m:Nat)(w:Value),its[m]?=some w->∃z,xs[m]?=some z/\oO y w=oZ z y:=λm w hm=>by obtain⟨z,h1,h2⟩:=Ad r m w hm;exact⟨z,h1,yG h2 (QW.mp fx z (RD h1))⟩
 have hlt:j<its.length:=by have:=(RW.mp hj).1;lia
 have line:sizeLine<2^62:=by decide
 refine Su F.slot_list_index ⟨_,e,rfl⟩ F.entry_list_index (F.args_list_index_2 _ _) (SeqAt.list_indexAt l its.toArray n none #[] u (oO y) j (by simpa using hlt) (by lia) ?_ ?_) ⟨e,?_,⟨.int j,H,I.tok _,⟨_,rfl⟩,q⟩⟩;{obtain⟨z2,h1,h2⟩:=at_ j _ (RI hlt);rw[hj]at h1;cases h1;exact h2.trans hit}
 .intro m hm hmj;have hm':m<its.length:=by simpa using hm
  obtain⟨z2,h1,h2⟩:=at_ m _ (RI hm');exact h2.trans (hno m z2 hmj h1)
 intro w hw;exact nJ ru fy r fx w (by simpa using hw)
end
end L2
namespace L2
open PySem PySem.Spec PyProof.Rows PySem.W
section
variable{X:Cx}
def Di:cA X (.builtin "isinstance") (λxs H Q=>∃a C t ys b,xs=[.ref a,.ref t]/\DP H a C/\Aj X.K C/\H t=some (.tup ys)/\(∀us,Vals ys us->kitAny X.K (.ref C) us=some b)/\Q (.bl b) H):=by intro pins s U H xs us Q I r h;obtain⟨a,C,t,ys,b,rfl,e,F,ht,k,q⟩:=h;obtain⟨u1,u2,rfl,ru1,ru2⟩:=r.two;cases ru1;cases ru2;obtain⟨its,rv,p,_⟩:=I.tuple (.inl (.inl ht));obtain⟨o,ho,hc,n,hd⟩:=p;obtain⟨oc,od,odt,osl⟩:=o;dsimp only at hc hd;subst hc hd;rcases e with e|⟨d,fs,e,he⟩;{obtain⟨ox,J⟩:=I.Ii e;exact kia_tup (m5 F) I.fT J ho (k _ rv) (λz=>nomatch z) λtk=>⟨.bl b,H,I.tok tk,rfl,q⟩};obtain⟨ox,od,mA,J,_,_⟩:=I.Bm e he;exact kia_tup (m5 F) I.fT J ho (k _ rv) (λz=>nomatch z) λtk=>⟨.bl b,H,I.tok tk,rfl,q⟩
end
end L2
namespace Dv
open PySem L2 PySem.W
section
variable{K:Frag}{H Hm:Hp}{P:Kd->PyData->Prop}{Q:VK}
noncomputable def bO (K:Frag)(H Hm:Hp)(P:Kd->PyData->Prop)(Q:VK):Prop:=∀k v u H' Hm' fp,P k v->af H H'->af Hm Hm'->af Hm' H'->(∀a,H a≠none->OE (Hm' a) (Hm a))->Own K H' Hm' k u v fp->(∀a∈fp,H a=none/\Hm' a=none)->Q u H'
def bO.sc(q:bO K H Hm P Q)(s:af Hm H)(p:P .sh v)(r:Rp K Hm u v):Q u H:=q _ _ _ _ _ [] p (af.refl _) (af.refl _) s (λ_ _=>.inl rfl) (.sh r) λ_ z=>by cases z
def jh(s:af Hm H){p:Addr}(h:H p=none):Hm p=none:=by
 cases e:Hm p with
 |none=>rfl
 |some o=>rw[s _ _ e]at h;cases h
def bO.nl(q:bO K H Hm P Q)(s:af Hm H){p:Addr}(pp:P (.ow false) (.list ds))(hp:H p=none)(r:au K Hm xs ds):Q (.ref p) (upd H p (.lst xs)):=
 q _ _ _ _ Hm [p] pp (aG hp) (af.refl _) (s.trans (aG hp)) (λ_ _=>.inl rfl) (.ow ao r) λa ha=>by rw[QS.mp ha];exact⟨hp,jh s hp⟩
def bO.nt(q:bO K H Hm P Q)(s:af Hm H){p:Addr}(pp:P .sh (.tuple ds))(hp:H p=none)(r:au K Hm xs ds):Q (.ref p) (upd H p (.tup xs)):=by
 have n:=jh s hp;have s2:=aG (o:=.tup xs) n;refine q _ _ _ _ (upd Hm p (.tup xs)) [] pp (aG hp) s2 (λb o e=>?_) (λa ha=>.inl (ah λz=>ha (z▸hp))) (.sh (.tup ao (r.mono s2))) λ_ z=>by cases z
 by_cases c:b=p;{rw[c,ao]at e⊢;exact e};rw[ah c]at e⊢;exact s _ _ e
end
noncomputable def r2 (r:R2):List V->Hp->VK->Prop:=λvs H Q=>match vs with
 |[x,y]=>r x y H Q
 |_=>False
noncomputable def r1 (r:V->Hp->VK->Prop):List V->Hp->VK->Prop:=λvs H Q=>match vs with
 |[x]=>r x H Q
 |_=>False
def fR(h:au K H vs [a]):∃x,vs=[x]/\Rp K H x a:=by
 cases h with
 |cons h t=>cases t;exact⟨_,rfl,h⟩
def gF(h:au K H vs [a,b]):∃x y,vs=[x,y]/\Rp K H x a/\Rp K H y b:=by
 cases h with
 |cons h t=>obtain⟨y,rfl,h2⟩:=fR t;exact⟨_,_,rfl,h,h2⟩
def bC.or(h:bC X f r)(k:bC X f s):bC X f λx y H Q=>r x y H Q\/s x y H Q:=λpins st U H x y v u Q I a b z=>z.elim (h pins st U H x y v u Q I a b) (k pins st U H x y v u Q I a b)
section
variable{X:Cx}{Ex:XK}{Y:WZ}
def lY(ho:bC X (binaryOp op) r)(D:c9 X.K f (r2 r))(S:aV X Ex Y [a,b] as):SE X Ex Y (.BinOp a op b pos) (aa f as):=jm (r:=r2 r) S (λU H Q h=>WE.of (NS ho cN cN) h) D
def OD(ho:IA X (unaryOp op) r)(D:c9 X.K f (r1 r))(S:aV X Ex Y [a] as):SE X Ex Y (.UnaryOp op a pos) (aa f as):=jm (r:=r1 r) S (λU H Q h=>WE.of (Hq ho cN) h) D
def Mr(ho:bC X (compareOp op) r)(hm:behindInMarks op b=false)(D:c9 X.K f (r2 r))(S:aV X Ex Y [a,b] as):SE X Ex Y (.Compare a [op] [b] pos) (aa f as):=jm (r:=r2 r) S (λU H Q h=>WE.of (Jd ho cN cN hm) h) D
def NN(ho:n9 X r)(hs:mJ b)(D:c9 X.K f (r2 r))(S:aV X Ex Y [a,b] as):SE X Ex Y (.Subscript a b pos) (aa f as):=jm (r:=r2 r) S (λU H Q h=>WE.of (vW ho cN cN hs) h) D
end
noncomputable def mY (g:Int->Int->PyData):DR:=λds P=>match ds with
 |[.int a,.int b]=>P .sh (g a b)
 |_=>False
noncomputable def v8 (C:Int->Int->Prop)(g:Int->Int->PyData):DR:=λds P=>match ds with
 |[.int a,.int b]=>C a b/\P .sh (g a b)
 |_=>False
def uu{Z:Prop}{f:Int->Int->Prop}(h:match ds with|[PyData.int a,.int b]=>f a b|_=>False)(k:∀a b,ds=[.int a,.int b]->f a b->Z):Z:=by split at h;{exact k _ _ rfl h};exact h.elim
def kK{g:Int->Int->PyData}{gv:Int->Int->V}(hg:∀a b Hm,Rp K Hm (gv a b) (g a b)):c9 K (mY g) (r2 (qA gv)):=by intro H Hm vs ds P Q s r h q;refine uu h λa b e p=>?_;subst e;obtain⟨x,y,rfl,h1,h2⟩:=gF r;cases h1;cases h2;exact⟨a,b,rfl,rfl,bO.sc q s p (hg a b Hm)⟩
def uJ{g:Int->Int->PyData}{gv:Int->Int->V}(hg:∀a b Hm,Rp K Hm (gv a b) (g a b)):c9 K (v8 C g) (r2 (rI C gv)):=by intro H Hm vs ds P Q s r h q;refine uu h λa b e p=>?_;subst e;obtain⟨x,y,rfl,h1,h2⟩:=gF r;cases h1;cases h2;exact⟨a,b,rfl,rfl,p.1,bO.sc q s p.2 (hg a b Hm)⟩
inductive EH(K:Frag) (x:V) (y:V)(H:Hp)(Q:VK):Prop
 |mk:∀l b xs zs,(x=.ref l)->(y=.ref b)->(cT K H l xs)->(cT K H b zs)->(xs.length+zs.length<=sizeLine)->(∀p,H p=none->Q (.ref p) (upd H p (.lst (xs++zs))))->EH K x y H Q
def Iz (K:Frag):R2:=λx y H Q=>EH K x y H Q
section
variable{X:Cx}
def Jg:bC X (binaryOp .Add) (Iz X.K):=by
 intro pins s U H x y v u Q I rx ry h;obtain⟨l,b,xs,zs,rfl,rfl,hH,hB,hz,q⟩:=h;cases rx;cases ry;obtain⟨z,its,n,r,e⟩:=hH.get I;obtain⟨z2,its2,n2,r2,e2⟩:=hB.get I;have hl:=r.length;have hl2:=r2.length;refine PySem.P.add_list e e2 ?_ (by rw[R9,R9];lia);have ea:its.toArray++its2.toArray=(its++its2).toArray:=by simp
 rw[ea];exact⟨.ref _,_,I.Nr (t':=s.toks) (r.append r2) (by rw[RC];lia),rfl,q _ I.fresh⟩
end
def OX (f:PyData->Prop):WN->Prop
 |[x]=>f x
 |_=>False
def z7 (f:PyData->PyData->Prop):WN->Prop
 |[x,y]=>f x y
 |_=>False
noncomputable def O6 (f:PyData->PyData->PyData->Prop):WN->Prop
 |[x,y,z]=>f x y z
 |_=>False
noncomputable def yY (d:PyData)(f:Int->Prop):Prop:=match d with
 |.int i=>f i
 |_=>False
def pW(r:Rp K H x d)(h:yY d f):∃i,x=.int i/\f i:=by
 cases r with
 |int i=>exact⟨i,rfl,h⟩
 |_=>exact h.elim
def K2(r:au K H vs ds)(h:OX f ds):∃x d,vs=[x]/\ds=[d]/\Rp K H x d/\f d:=by
 cases r with
 |nil=>exact h.elim
 |cons h1 r=>
  cases r with
  |nil=>exact⟨_,_,rfl,rfl,h1,h⟩
  |cons=>exact h.elim
def oj(r:au K H vs ds)(h:z7 f ds):∃x y d e,vs=[x,y]/\ds=[d,e]/\Rp K H x d/\Rp K H y e/\f d e:=by
 cases r with
 |nil=>exact h.elim
 |cons h1 r=>
  cases r with
  |nil=>exact h.elim
  |cons h2 r=>
   cases r with
   |nil=>exact⟨_,_,_,_,rfl,rfl,h1,h2,h⟩
   |cons=>exact h.elim
def Nn(r:au K H vs ds)(h:O6 f ds):∃x y z d e d',vs=[x,y,z]/\ds=[d,e,d']/\Rp K H x d/\Rp K H y e/\Rp K H z d'/\f d e d':=by
 cases r with
 |nil=>exact h.elim
 |cons h1 r=>
  cases r with
  |nil=>exact h.elim
  |cons h2 r=>
   cases r with
   |nil=>exact h.elim
   |cons h3 r=>
    cases r with
    |nil=>exact⟨_,_,_,_,_,_,rfl,rfl,h1,h2,h3,h⟩
    |cons=>exact h.elim
noncomputable def dW:DR:=λds P=>z7 (λx y=>match x,y with
 |.int a,.int b=>P .sh (.int (a+b))
 |.list a,.list b=>a.length+b.length<=sizeLine/\P (.ow false) (.list (a++b))
 |.tuple a,.tuple b=>(a≠[]/\a.length+b.length<=sizeLine)/\P .sh (.tuple (a++b))
 |.str a,.str b=>a.length+b.length<=sizeLine/\P .sh (.str (a++b))
 |_,_=>False) ds
noncomputable def HQ (K:Frag):R2:=λx y H Q=>(((qA λi j=>.int (i+j)) x y H Q\/Iz K x y H Q)\/Hs K x y H Q)\/∃i j,x=.str i/\y=.str j/\i.length+j.length<=sizeLine/\Q (.str (i++j)) H
def JC:bC X (binaryOp .Add) (HQ X.K):=((MG.or Jg).or Ke).or A8
def JF:c9 K dW (r2 (HQ K)):=by
 intro H Hm vs ds P Q s r h q;obtain⟨x,y,d,e,rfl,rfl,h1,h2,h⟩:=oj r h;cases h1 with
 |int a=>
  cases h2 with
  |int b=>exact .inl (.inl (.inl ⟨_,_,rfl,rfl,bO.sc q s h (.int _)⟩))
  |_=>exact h.elim
 |lst a1 r1=>
  cases h2 with
  |lst a2 r2=>exact .inl (.inl (.inr ⟨_,_,_,_,rfl,rfl,cT.mono s a1,cT.mono s a2,by rw[r1.len,r2.len];exact h.1,λp hp=>bO.nl q s h.2 hp (r1.app r2)⟩))
  |_=>exact h.elim
 |@tup a xs ds1 a1 r1=>
  cases h2 with
  |@tup b ys ds2 a2 r2=>refine .inl (.inr ⟨_,_,_,_,rfl,rfl,bI.of (s _ _ a1),bI.of (s _ _ a2),λz=>h.1.1 ?_,by rw[r1.len,r2.len];exact h.1.2,λz=>?_,λ_ p hp=>bO.nt q s h.2 hp (r1.app r2)⟩);{subst z;cases r1;rfl};subst z;cases r2;have h:P .sh (.tuple (ds1++[])):=h.2;rw[S8]at h;exact bO.sc q s h (.tup a1 r1)
  |_=>exact h.elim
 |str a=>
  cases h2 with
  |str b=>exact .inr ⟨_,_,rfl,rfl,h.1,bO.sc q s h.2 (.str _)⟩
  |_=>exact h.elim
 |_=>exact h.elim
inductive Ct(K:Frag) (x:V) (y:V)(H:Hp)(Q:VK):Prop
 |mk:∀l k xs,(x=.ref l)->(y=.int k)->(cT K H l xs)->(-(2^63)<=k)->(k<2^63)->(xs.length*k.toNat<=sizeLine)->(∀p,H p=none->Q (.ref p) (upd H p (.lst (List.replicate k.toNat xs).flatten)))->Ct K x y H Q
def HG (K:Frag):R2:=λx y H Q=>Ct K x y H Q
section
variable{X:Cx}
open PyProof.Rows in
def JO:bC X (binaryOp .Mult) (HG X.K):=by
 intro pins s U H x y v u Q I rx ry h;obtain⟨l,k,xs,rfl,rfl,hH,h1,h2,hz,q⟩:=h;cases rx;obtain⟨t,rfl⟩:=ry;obtain⟨z,its,n,r,e⟩:=hH.get I;have hl:=r.length;have hlen:its.toArray.size*k.toNat<=sizeLine:=by rw[R9,<-hl];exact hz
 have hcap:¬its.toArray.size*k.toNat>(2^63-1)/8:=by
  have:(sizeLine:Nat)<=(2^63-1)/8:=by decide
  lia
 have hfit:¬(!Builtin.List.listFitsIndex k)=true:=by rw[fitsIndex_both h1 h2];exact QV
 have hlong:¬Builtin.List.listTooLong (its.toArray.size*k.toNat)=true:=by rw[xh hlen];exact QV
 have hnew:List.foldl (λx1 x2=>x1++x2) #[] (List.replicate (if its.toArray.isEmpty=true then 0 else k.toNat) its.toArray)=(List.replicate k.toNat its).flatten.toArray:=by
  have f0:∀m:Nat,List.foldl (λx1 x2=>x1++x2) #[] (List.replicate m its.toArray)=(List.replicate m its).flatten.toArray:=λm=>by have:=foldl_rep its m [];rw[List.nil_append]at this;exact this
  rw[f0];cases its with
  |nil=>simp
  |cons a r'=>rw[if_neg (by simp)]
 refine wpAny_binaryOp_repeat_ref (T:="list") (U:="int") (by decide) ⟨_,e,rfl⟩ (λs'=>typeIs_int s' k t) noFill_list_mul F.fills_int_mul F.slot_int_rmul repeat_list F.slot_int_index.lookup
  (Su F.slot_int_rmul (typeIs_int s k t) F.entry_int_rmul (F.args_int_rmul_2 _ _) (int___rmul___int_list k t l its.toArray n)
   ⟨e,rfl,⟨_,e,rfl⟩,Su F.slot_list_mul ⟨_,e,rfl⟩ F.entry_list_mul (F.args_list_mul_2 _ _) (AutoListH.list___mul___list_int_3 l its.toArray n k t hfit hcap hlong) ⟨e,?_⟩⟩)
 rw[hnew];exact⟨.ref _,_,I.Nr (t':=s.toks) (r.rep k.toNat) (by rw[len_rep,Nat.mul_comm];exact hz),rfl,q _ I.fresh⟩
end
theorem au.rep(r:au K H xs ds):∀n:Nat,au K H (List.replicate n xs).flatten (List.replicate n ds).flatten
 |0=>.nil
 |n+1=>by rw[Ss,Ss,Tf,Tf];exact r.app (r.rep n)
noncomputable def iC:DR:=λds P=>match ds with
 |[.int a,.int b]=>uC a b/\P .sh (.int (a*b))
 |[.list a,.int k]=>(-(2^63)<=k/\k<2^63/\a.length*k.toNat<=sizeLine)/\P (.ow false) (.list (List.replicate k.toNat a).flatten)
 |_=>False
noncomputable def HW (K:Frag):R2:=λx y H Q=>(rI uC λi j=>.int (i*j)) x y H Q\/HG K x y H Q
def KI:bC X (binaryOp .Mult) (HW X.K):=M7.or JO
def KC:c9 K iC (r2 (HW K)):=by
 intro H Hm vs ds P Q s r h q;unfold iC at h;split at h;{obtain⟨x,y,rfl,h1,h2⟩:=gF r;cases h1;cases h2;exact .inl ⟨_,_,rfl,rfl,h.1,bO.sc q s h.2 (.int _)⟩}
 .obtain⟨x,y,rfl,h1,h2⟩:=gF r;cases h2;cases h1 with
  |lst a1 r1=>exact .inr ⟨_,_,_,rfl,rfl,cT.mono s a1,h.1.1,h.1.2.1,by rw[r1.len];exact h.1.2.2,λp hp=>bO.nl q s h.2 hp (r1.rep _)⟩
 exact h.elim
end Dv
namespace L2
open PySem PySem.Spec PyProof.Rows
section
variable{prog:Program}{w:World}{A:Around}{E:WA}{s:Shared}
def vR{t sl:Addr}{items:WM}{vl vu:Value}{lo hi:Option Int}{Q:WA}(ht:IsTup s.heap t items)(hs:s.heap.IsSliceOf sl vl vu .none)(pl:IsPart vl lo)(pu:IsPart vu hi)(w0:HT.aJ items.size 0 lo=0)(w1:HT.aJ items.size items.size hi=items.size)(h:Q (.ref t) s):wpAny (model prog w) A (getItem (.ref t) (.ref sl)) Q E s:=by
 obtain⟨os,hos,hcs,hds⟩:=id hs;have hTs:s.TypeIs (.ref sl) "slice":=⟨os,hos,hcs⟩;unfold getItem;refine Rb (?_:_);refine Q0 (wpAny_sequenceKey ht.typeIs (by decide) (?_:_));refine Q0 (Uo (name:=Str.ofString "__getitem__") ht.typeIs Uq
  (SY Uq ht.typeIs entry_tuple_getitem (?_:_) (args_tuple_getitem _ _)))
 refine id (?_:wpAny _ _ (Builtin.Tuple.tupleItemsOf (.ref t)>>=_) _ _ s);refine Q0 (tupleItemsOf_ ht (?_:_));refine Q0 (Tz hTs (?_:_));rw[if_pos (by decide)];refine Q0 (HT.kr hs pl pu (?_:_));have yes:(((HT.aJ items.size 0 lo:Nat):Int)==0&&(1:Int)==1&&(HT.aJ items.size items.size hi-HT.aJ items.size 0 lo)==items.size)=true:=by rw[w0,w1,Nat.sub_zero];simp
 refine id (?_:wpAny _ _ (if(((HT.aJ items.size 0 lo:Nat):Int)==0&&(1:Int)==1&&(HT.aJ items.size items.size hi-HT.aJ items.size 0 lo)==items.size)=true then _ else _) _ _ s);rw[if_pos yes];refine Q0 (m:=Builtin.Tuple.tupleIsExact _) (Q0 (Tz ht.typeIs (Q2 (?_:_))));rw[if_pos (by decide)];refine Q0 (Sw (?_:_));exact Q2 ⟨_,rfl,Q2 h⟩
end
section
variable{X:Cx}
noncomputable def HN (K:WJ):V->Option Int->Option Int->Hp->VK->Prop:=λx lo hi H Q=>∃a xs,x=.ref a/\bI K H a xs /\
 (HT.aJ xs.length 0 lo=0/\HT.aJ xs.length xs.length hi=xs.length->Q (.ref a) H)/\(¬(HT.aJ xs.length 0 lo=0/\HT.aJ xs.length xs.length hi=xs.length)->∀p,H p=none->Q (.ref p) (upd H p (.tup (mO xs lo hi))))
def JN:Ej X (HN X.K):=by
 intro pins s U H x v vl vu lo hi sl Q I rx hs pl pu h;obtain⟨a,xs,rfl,hx,q1,q2⟩:=h;by_cases c:HT.aJ xs.length 0 lo=0/\HT.aJ xs.length xs.length hi=xs.length
 .cases rx;obtain⟨its,r,ht,hz⟩:=I.tuple hx;have hlen:its.toArray.size=xs.length:=by rw[R9];exact r.length.symm
  refine⟨"tuple",_,Vv,ht.typeIs,?_⟩;exact vR ht hs pl pu (by rw[hlen];exact c.1) (by rw[hlen];exact c.2) ⟨.ref a,H,I,rfl,q1 c⟩
 exact MD pins s U H (.ref a) v vl vu lo hi sl Q I rx hs pl pu ⟨a,xs,rfl,hx,c,q2 c⟩
end
end L2
namespace Dv
open PySem L2 PySem.W
noncomputable def dl:Nat->PyData->Bool
 |_,.none=>true
 |_,.int _=>true
 |_,.str x=>PyData.strOk x
 |n+1,.list ds=>ds.all (dl n)
 |n+1,.tuple ds=>ds.all (dl n)
 |_,_=>false
theorem j3:∀{ds:WN},(∀d∈ds,d.canLay0=true)->PyData.canLayAll0 ds=true
 |[],_=>rfl
 |d::ds,h=>by rw[PyData.canLayAll0,h d Q6,j3 λe he=>h e (QU _ he)];rfl
theorem pL{n:Nat}:∀{ds:WN},(∀d∈ds,d.depth<=n)->PyData.depthAll ds<=n
 |[],_=>by rw[PyData.depthAll];exact RO _
 |d::ds,h=>by rw[PyData.depthAll];exact Nat.max_le.mpr ⟨h d Q6,pL λe he=>h e (QU _ he)⟩
theorem fj:∀{n:Nat}{d:PyData},dl n d=true->d.canLay0=true/\d.depth<=n
 |_,.none,_=>⟨rfl,RO _⟩
 |_,.int _,_=>⟨rfl,RO _⟩
 |n,.str x,h=>⟨by cases n<;>exact h,RO _⟩
 |n+1,.list ds,h=>by have h:ds.all (dl n)=true:=h;rw[QW]at h;refine⟨by rw[PyData.canLay0];exact j3 λd hd=>(fj (h d hd)).1,?_⟩;rw[PyData.depth];have:=pL (n:=n) (ds:=ds) λd hd=>(fj (h d hd)).2;lia
 |n+1,.tuple ds,h=>by have h:ds.all (dl n)=true:=h;rw[QW]at h;refine⟨by rw[PyData.canLay0];exact j3 λd hd=>(fj (h d hd)).1,?_⟩;rw[PyData.depth];have:=pL (n:=n) (ds:=ds) λd hd=>(fj (h d hd)).2;lia
 |0,.list _,h=>by cases h
 |0,.tuple _,h=>by cases h
 |n,.bool _,h=>by cases n<;>cases h
 |n,.dict _,h=>by cases n<;>cases h
theorem l5:∀{ds:WN},(∀d∈ds,nd d=true)->nd.nds ds=true
 |[],_=>rfl
 |d::ds,h=>by rw[nd.nds,h d Q6,l5 λe he=>h e (QU _ he)];rfl
theorem jT:∀{n:Nat}{d:PyData},dl n d=true->nd d=true
 |_,.none,_=>rfl
 |_,.int _,_=>rfl
 |_,.str _,_=>rfl
 |_,.bool _,_=>rfl
 |n+1,.list ds,h=>by have h:ds.all (dl n)=true:=h;rw[QW]at h;rw[nd];exact l5 λd hd=>jT (h d hd)
 |n+1,.tuple ds,h=>by have h:ds.all (dl n)=true:=h;rw[QW]at h;rw[nd];exact l5 λd hd=>jT (h d hd)
 |0,.list _,h=>by cases h
 |0,.tuple _,h=>by cases h
 |n,.dict _,h=>by cases n<;>cases h
theorem oU(hf:∀a b,f a=true->f b=true->SeqAt.noMix a b=true):∀{xs ys:WN},xs.all f=true->ys.all f=true->SeqAt.noMixAll xs ys=true
 |[],[],_,_=>rfl
 |[],_::_,_,_=>rfl
 |_::_,[],_,_=>rfl
 |x::xs,y::ys,h1,h2=>by rw[QY,Q9]at h1 h2;rw[SeqAt.noMixAll,hf x y h1.1 h2.1,oU hf h1.2 h2.2];rfl
def Ed:∀(n:Nat)(a b:PyData),dl n a=true->dl n b=true->SeqAt.noMix a b=true:=by
 intro n;induction n with
 |zero=>intro a b ha hb;cases a<;>first|(cases ha;done)|(cases b<;>first|(cases hb;done)|rfl)
 |succ n ih=>
  intro a b ha hb;cases a with
  |list xs=>
   cases b with
   |list ys=>rw[SeqAt.noMix];exact oU ih ha hb
   |dict _=>cases hb
   |bool _=>cases hb
   |_=>rfl
  |tuple xs=>
   cases b with
   |tuple ys=>rw[SeqAt.noMix];exact oU ih ha hb
   |dict _=>cases hb
   |bool _=>cases hb
   |_=>rfl
  |dict _=>cases ha
  |bool _=>cases ha
  |_=>cases b<;>first|(cases hb;done)|rfl
def yV{n:Nat}(ha:dl n a=true)(hb:dl n b=true):PyData.eqv a b=decide (a=b):=by rw[<-SeqAt.same_eq_eqv a b (Ed n a b ha hb),Sg,PyProof.Rows.same_iff,Sf]
def vK{n:Nat}(h:dl n d=true)(l:n<=60):SeqAt.shaped d=true:=by obtain⟨h1,h2⟩:=fj h;unfold SeqAt.shaped;rw[h1,Rg (RM h2 (by lia))];rfl
noncomputable def IZ (a b:PyData)(P:Bool->Prop):Prop:=match a,b with
 |.int a,.int b=>P (decide (a=b))
 |.str a,.str b=>P (decide (a=b))
 |.bool a,.bool b=>P (decide (a=b))
 |.none,.none=>P true
 |a,b=>(dl 8 a=true/\dl 8 b=true)/\P (decide (a=b))
noncomputable def f9:DR:=λds P=>match ds with
 |[a,b]=>IZ a b λc=>P .sh (.bool c)
 |_=>False
noncomputable def pH:DR:=λds P=>match ds with
 |[a,b]=>IZ a b λc=>P .sh (.bool !c)
 |_=>False
noncomputable def qI (K:Frag)(neg:Bool):R2:=λx y H Q=>GN K neg x y H Q\/(if neg then O4 x y H Q else Pd x y H Q)
section
variable{X:Cx}
def Nt(hu:X.A.units+64<cLine):bC X (compareOp .Eq) (qI X.K false):=(Nv hu).or (Bq (X:=X))
def MH(hu:X.A.units+64<cLine):bC X (compareOp .NotEq) (qI X.K true):=(KQ hu).or (OJ (X:=X))
end
def DU(neg:Bool)(s:af Hm H)(h1:Rp K Hm x a)(h2:Rp K Hm y b)(h:IZ a b Pb)(q:∀c,Pb c->Q (.bl (if neg then !c else c)) H):qI K neg x y H Q:=by
 have gen:dl 8 a=true/\dl 8 b=true->Pb (decide (a=b))->qI K neg x y H Q:=λhd p=>by
  refine .inl ⟨a,b,(h1.mono s).tw (jT hd.1),(h2.mono s).tw (jT hd.2),vK hd.1 (by decide),vK hd.2 (by decide),Ed 8 a b hd.1 hd.2,?_⟩;have e:Spec.same a b=decide (a=b):=by rw[Sg,PyProof.Rows.same_iff,Sf]
  rw[e];exact q _ p
 have sc:Gy x y=true->Pb (decide (x=y))->qI K neg x y H Q:=λhs p=>by
  refine .inr ?_;cases neg with
  |true=>exact⟨hs,q _ p⟩
  |false=>exact⟨hs,q _ p⟩
 unfold IZ at h;split at h;{cases h1;cases h2;refine sc rfl ?_;simpa using h};{cases h1;cases h2;refine sc rfl ?_;simpa using h};{cases h1;cases h2;refine sc rfl ?_;simpa using h};{cases h1;cases h2;exact gen ⟨rfl,rfl⟩ (by simpa using h)};exact gen h.1 h.2
def Mx:c9 K f9 (r2 (qI K false)):=by intro H Hm vs ds P Q s r h q;unfold f9 at h;split at h;{obtain⟨x,y,rfl,h1,h2⟩:=gF r;exact DU false s h1 h2 h λc p=>bO.sc q s p (.bl _)};exact h.elim
def M1:c9 K pH (r2 (qI K true)):=by intro H Hm vs ds P Q s r h q;unfold pH at h;split at h;{obtain⟨x,y,rfl,h1,h2⟩:=gF r;exact DU true s h1 h2 h λc p=>bO.sc q s p (.bl _)};exact h.elim
noncomputable def fc (neg:Bool):DR:=λds P=>match ds with
 |[a,.none]=>P .sh (.bool (if neg then !decide (a=.none)else decide (a=.none)))
 |_=>False
def Kv(h:Rp K H x d):decide (x=.aK)=decide (d=.none):=by cases h<;>simp
def J9:c9 K (fc false) (r2 λx y H Q=>y=.aK/\Q (.bl (decide (x=.aK))) H):=by intro H Hm vs ds P Q s r h q;unfold fc at h;split at h;{obtain⟨x,y,rfl,h1,h2⟩:=gF r;cases h2;refine⟨rfl,?_⟩;rw[Kv h1];exact bO.sc q s h (.bl _)};exact h.elim
noncomputable def HC (neg:Bool):DR:=λds P=>match ds with
 |[d,.list xs]=>(xs.all (dl 8)=true/\dl 8 d=true)/\P .sh (.bool (if neg then !decide (d∈xs)else decide (d∈xs)))
 |[d,.tuple xs]=>(xs.all (dl 8)=true/\dl 8 d=true)/\P .sh (.bool (if neg then !decide (d∈xs)else decide (d∈xs)))
 |_=>False
inductive HE(K:Frag)(neg:Bool) (x:V) (y:V)(H:Hp)(Q:VK):Prop
 |mk:∀(d:PyData)(xs:WN),(jL K H x d)->((jL K H y (.list xs)\/jL K H y (.tuple xs)))->(PyData.canLayAll0 xs=true)->(d.canLay0=true)->(d.depth<=60)->(Q (.bl (if neg then !xs.any λy=>PyData.eqv y d else xs.any λy=>PyData.eqv y d)) H)->HE K neg x y H Q
def BC (K:Frag)(neg:Bool):R2:=λx y H Q=>HE K neg x y H Q
section
variable{X:Cx}
def LP(hu:X.A.units+64<cLine):bC X (compareOp .In) (BC X.K false):=by intro pins s U H x y v u Q I rx ry h;obtain⟨d,xs,hx,hy,l1,l2,dp,q⟩:=h;obtain⟨bs,rb⟩:=I.reads hx rx;rcases hy with hy|hy;{obtain⟨as,ra⟩:=I.reads hy ry;exact SeqAt.in_list_reads ra rb l1 l2 (by lia) ⟨.bl _,H,I,rfl,q⟩};obtain⟨as,ra⟩:=I.reads hy ry;exact SeqAt.in_tuple_reads ra rb l1 l2 (by lia) ⟨.bl _,H,I,rfl,q⟩
def E7(hu:X.A.units+64<cLine):bC X (compareOp .NotIn) (BC X.K true):=by intro pins s U H x y v u Q I rx ry h;obtain⟨d,xs,hx,hy,l1,l2,dp,q⟩:=h;obtain⟨bs,rb⟩:=I.reads hx rx;rcases hy with hy|hy;{obtain⟨as,ra⟩:=I.reads hy ry;exact SeqAt.notIn_list_reads ra rb l1 l2 (by lia) ⟨.bl _,H,I,rfl,q⟩};obtain⟨as,ra⟩:=I.reads hy ry;exact SeqAt.notIn_tuple_reads ra rb l1 l2 (by lia) ⟨.bl _,H,I,rfl,q⟩
end
def zN{n:Nat}{xs:WN}(h:xs.all (dl n)=true)(hd:dl n d=true):(xs.any λy=>PyData.eqv y d)=decide (d∈xs):=by rw[Sg,U7,Sf];rw[QW]at h;constructor;{rintro⟨y,hy,e⟩;rw[yV (h y hy) hd,Sf]at e;exact e▸hy};intro m;exact⟨d,m,by rw[yV hd hd];simp⟩
def MU{K:Frag}(neg:Bool):c9 K (HC neg) (r2 (BC K neg)):=by intro H Hm vs ds P Q s r h q;unfold HC at h;split at h;{rename_i d xs;obtain⟨x,y,rfl,h1,h2⟩:=gF r;obtain⟨⟨ha,hd⟩,p⟩:=h;refine⟨d,xs,(h1.mono s).tw (jT hd),.inl ((h2.mono s).tw (by rw[nd];exact l5 λd hd=>jT (QW.mp ha d hd))),j3 λe he=>(fj (QW.mp ha e he)).1,(fj hd).1,RM (fj hd).2 (by decide),?_⟩;rw[zN ha hd];exact bO.sc q s p (.bl _)};{rename_i d xs;obtain⟨x,y,rfl,h1,h2⟩:=gF r;obtain⟨⟨ha,hd⟩,p⟩:=h;refine⟨d,xs,(h1.mono s).tw (jT hd),.inr ((h2.mono s).tw (by rw[nd];exact l5 λd hd=>jT (QW.mp ha d hd))),j3 λe he=>(fj (QW.mp ha e he)).1,(fj hd).1,RM (fj hd).2 (by decide),?_⟩;rw[zN ha hd];exact bO.sc q s p (.bl _)};exact h.elim
noncomputable def HS:DR:=λds P=>match ds with
 |[.list xs,.int i]=>∃d,dM xs i=some d/\P .sh d
 |[.tuple xs,.int i]=>∃d,dM xs i=some d/\P .sh d
 |_=>False
theorem au.dM(r:au K H vs ds){i:Int}(h:L2.dM ds i=some d):∃v,L2.dM vs i=some v/\Rp K H v d:=by
 unfold L2.dM at h⊢;rw[r.len];cases e:kC ds.length i with
 |none=>rw[e]at h;cases h
 |some j=>rw[e]at h;exact r.get h
def Lv:c9 K HS (r2 (Lu K)):=by
 intro H Hm vs ds P Q s r h q;unfold HS at h;split at h
 .obtain⟨x,y,rfl,h1,h2⟩:=gF r;obtain⟨d,e,p⟩:=h;cases h2;cases h1 with
  |lst a1 r1=>obtain⟨v,e2,rv⟩:=r1.dM e;exact .inl ⟨_,_,_,v,rfl,rfl,(cT.mono s a1).sq,e2,bO.sc q s p rv⟩
 .obtain⟨x,y,rfl,h1,h2⟩:=gF r;obtain⟨d,e,p⟩:=h;cases h2;cases h1 with
  |tup a1 r1=>obtain⟨v,e2,rv⟩:=r1.dM e;exact .inr (.inl ⟨_,_,_,v,rfl,rfl,bI.of (s _ _ a1),e2,bO.sc q s p rv⟩)
 exact h.elim
noncomputable def cutD (xs:WN)(lo hi:Option Int):WN:=(xs.drop (HT.aJ xs.length 0 lo)).take (HT.aJ xs.length xs.length hi-HT.aJ xs.length 0 lo)
def au.cut(r:au K H vs ds)(lo hi:Option Int):au K H (mO vs lo hi) (cutD ds lo hi):=by unfold mO cutD;rw[r.len];exact(r.drop _).take _
noncomputable def De (d:PyData)(lo hi:Option Int)(P:Kd->PyData->Prop):Prop:=match d with
 |.list xs=>P (.ow false) (.list (cutD xs lo hi))
 |.tuple xs=>P .sh (.tuple (cutD xs lo hi))
 |_=>False
noncomputable def qi (bl bh:Bool):DR:=λds P=>match bl,bh with
 |false,false=>OX (λd=>De d none none P) ds
 |true,false=>z7 (λd e=>yY e λa=>De d (some a) none P) ds
 |false,true=>z7 (λd e=>yY e λb=>De d none (some b) P) ds
 |true,true=>O6 (λd e e'=>yY e λa=>yY e' λb=>De d (some a) (some b) P) ds
noncomputable def tO (K:Frag):V->Option Int->Option Int->Hp->VK->Prop:=λx lo hi H Q=>LG K x lo hi H Q\/HN K x lo hi H Q
def PV:Ej X (tO X.K):=λpins s U H x v vl vu lo hi sl Q I rx hs pl pu h=>h.elim (JM pins s U H x v vl vu lo hi sl Q I rx hs pl pu) (JN pins s U H x v vl vu lo hi sl Q I rx hs pl pu)
noncomputable def OS (bl bh:Bool)(K:Frag):List V->Hp->VK->Prop:=λvs H Q=>match bl,bh,vs with
 |false,false,[x]=>tO K x none none H Q
 |true,false,[x,a]=>∃i,a=.int i/\tO K x (some i) none H Q
 |false,true,[x,b]=>∃i,b=.int i/\tO K x none (some i) H Q
 |true,true,[x,a,b]=>∃i,a=.int i/\∃j,b=.int j/\tO K x (some i) (some j) H Q
 |_,_,_=>False
def AW(h:HT.aJ xs.length 0 lo=0/\HT.aJ xs.length xs.length hi=xs.length):cutD xs lo hi=xs:=by unfold cutD;rw[h.1,h.2,V7,Nat.sub_zero,TQ]
def sV(q:bO K H Hm P Q)(s:af Hm H)(h1:Rp K Hm x d)(h:De d lo hi P):tO K x lo hi H Q:=by
 cases h1 with
 |lst a1 r1=>exact .inl ⟨_,_,rfl,(cT.mono s a1).sq,λp hp=>bO.nl q s h hp (r1.cut lo hi)⟩
 |tup a1 r1=>refine .inr ⟨_,_,rfl,bI.of (s _ _ a1),λw=>?_,λ_ p hp=>bO.nt q s h hp (r1.cut lo hi)⟩;rw[r1.len]at w;have h:P .sh (.tuple (cutD _ lo hi)):=h;rw[AW w]at h;exact bO.sc q s h (.tup a1 r1)
 |_=>exact h.elim
def KZ(bl bh:Bool):c9 K (qi bl bh) (OS bl bh K):=by
 intro H Hm vs ds P Q s r h q;cases bl with
 |false=>
  cases bh with
  |false=>obtain⟨x,d,rfl,rfl,h1,h⟩:=K2 r h;exact sV q s h1 h
  |true=>obtain⟨x,y,d,e,rfl,rfl,h1,h2,h⟩:=oj r h;obtain⟨i,rfl,h⟩:=pW h2 h;exact⟨_,rfl,sV q s h1 h⟩
 |true=>
  cases bh with
  |false=>obtain⟨x,y,d,e,rfl,rfl,h1,h2,h⟩:=oj r h;obtain⟨i,rfl,h⟩:=pW h2 h;exact⟨_,rfl,sV q s h1 h⟩
  |true=>obtain⟨x,y,z,d,e,e',rfl,rfl,h1,h2,h3,h⟩:=Nn r h;obtain⟨i,rfl,h⟩:=pW h2 h;obtain⟨j,rfl,h⟩:=pW h3 h;exact⟨_,rfl,_,rfl,sV q s h1 h⟩
section
variable{X:Cx}{Ex:XK}{Y:WZ}{a l u:Expr}{pos p2:Pos}{as:List Arg}
def xH(S:aV X Ex Y [a,u] as):SE X Ex Y (.Subscript a (.Slice none (some u) none p2) pos) (aa (qi false true) as):=jm (r:=OS false true X.K) S (λU H Q h=>WE.of (Gx PV cN Kp (JV cN)) h) (KZ _ _)
end
end Dv
namespace L2
open PySem PySem.Spec PyProof.Rows
section
variable{X:Cx}
def zg:cA X (.type "range") (λxs H Q=>∃j:Int,xs=[.int j]/\∀p,H p=none->Q (.ref p) (upd H p (.qp 0 j))):=by intro pins s U H xs us Q I r h;obtain⟨j,rfl,q⟩:=h;obtain⟨u,rfl,ru⟩:=vals1 r;obtain⟨t,rfl⟩:=ru;refine call_range_1 (?_:_);exact⟨.ref s.heap.objs.size,_,I.laid (o:=.qp 0 j) (λb o e=>QZ _ e) (Q5 _) ⟨_,_,_,Rc _ rfl⟩,rfl,q _ (I.hok.fresh (Q5 _))⟩
def AV(hc:X.calm=true):cA X (.type "list") (λxs H Q=>∃(a:Addr) (j:Int),xs=[.ref a]/\H a=some (.qp 0 j)/\0<=j/\j<=1000/\∀l,H l=none->Q (.ref l) (upd H l (.lst (((List.range j.toNat).map λi:Nat=>(i:Int)).map V.int)))):=by
 intro pins s U H xs us Q I r h;obtain⟨a,j,rfl,ha,j0,j1,q⟩:=h;obtain⟨u,rfl,ru⟩:=vals1 r;cases ru;obtain⟨t,u,v,e⟩:=I.hok a _ ha;refine call_list_range (n:=j.toNat) (I.ok.hd hc) e (small_one (by decide) (by decide) (by lia) (by lia)) (by rw[rangeSize_one];split<;>lia) (by lia) λh' tk acc c kp hS its=>?_;obtain⟨z1,z2⟩:=its;have rv:Vals (((List.range j.toNat).map λi:Nat=>(i:Int)).map V.int) acc.toList:=by
  have go:∀(l:WQ) (k:Nat),(∀(i:Nat)(v:Value),l[i]?=some v->∃t:Tok,v=Value.int ((k+i:Nat):Int) t)->Vals (((List.range' k l.length).map λi:Nat=>(i:Int)).map V.int) l:=λl=>by
   induction l with
   |nil=>exact λk _=>.nil
   |cons x l ih=>intro k h;obtain⟨t,e⟩:=h 0 x rfl;refine .cons ⟨t,by simpa using e⟩ (ih (k+1) λi v hv=>?_);obtain⟨t,e⟩:=h (i+1) v hv;exact⟨t,by rw[e,Nat.add_assoc,Nat.add_comm 1 i]⟩
  have:=go acc.toList 0 λi v hv=>by obtain⟨t,e⟩:=z2 i v (by simpa using hv);exact⟨t,by rw[e];simp⟩
  rw[VX];simpa[z1]using this
 exact⟨.ref s.heap.objs.size,_,I.laid (t':=tk) kp (Q5 _) (o:=.lst _) ⟨by rw[Q7,Q7,RB];exact RM (show j.toNat<=1000 by lia) (by decide),acc.toList,c,rv,by simpa using hS⟩,rfl,q _ (I.hok.fresh (Q5 _))⟩
end
end L2
namespace Dv
open PySem L2 PySem.W
section
variable{X:Cx}{Ex:XK}{Y:WZ}
def Cc(h:PE X e (tC u))(r:∀Hm,Rp X.K Hm u v):SE X Ex Y e (dC v):=λg x E U H Hm F P Q hx R p q=>WE.of h (q _ _ _ _ _ _ _ [] p R (af.refl _) (Tm.sh (r Hm)))
def LU{i j:Nat}(h:PE X e (lK j))(hj:Y[j]?=some i):SE X Ex Y e (cy i):=by
 intro g x E U H Hm F P Q hx R p q;replace p:CD E i P:=p;unfold CD at p;split at p
 rotate_left
 .exact p.elim
 rename_i k d e1;rw[<-bg,z8]at p;obtain⟨E',e2,p⟩:=p;obtain⟨v,Hm',F',h1,s,R',r⟩:=R.dD e1 e2;exact WE.of h ⟨v,eW hj h1,q _ _ _ _ _ _ _ [] p R' s (Tm.sh r)⟩
noncomputable def b8 (X:Cx)(Ex:XK)(Y:WZ)(e:Expr)(d:DE):Prop:=
 ∀(g:Gh)(x:XC)(E:En)(U:St)(H Hm:Hp)(F:Nat->WU)(P:En->Kd->PyData->Prop)(Q:Bool->Hp->Prop),XL X Ex x g->Rl X.K g E U H Hm F->d x E P->
  (∀E' k v H' Hm' F',P E' k v->Rl X.K g E' U H' Hm' F'->af Hm Hm'->∃b,nZ v=some b/\Q b H')->WT X e (sel Y U) H Q
def b8.st{e:Expr}{d:DE}(h:b8 X Ex Y e d):ST X Ex Y e (bP d):=by rw[JT];exact λg x E U H Hm F P Q hx R p q=>h g x E U H Hm F _ Q hx R p λE' k v H' Hm' F' ⟨b,e1,p⟩ R' s=>⟨b,e1,q _ _ _ _ _ p R' s⟩
theorem Rp.nZ{b:Bool}(r:Rp K H u v)(h:Dv.nZ v=some b):uB K u H b:=by
 cases r with
 |aK=>cases h;rfl
 |bl c=>cases h;rfl
 |int i=>cases h;show(!decide (i=0))=(i != 0);rw[bne,Bool.beq_eq_decide_eq]
 |str _=>cases h
 |lst a r1=>cases h;refine .inl ⟨_,a.sq,?_⟩;cases r1<;>rfl
 |tup a r1=>cases h;refine .inr (.inl ⟨_,bI.of a,?_⟩);cases r1<;>rfl
 |dk _ _=>cases h
 |dt _ _=>cases h
 |exc _ _=>cases h
theorem Own.nZ{b:Bool}(o:Own K H Hm k u v fp)(s:af Hm H)(h:Dv.nZ v=some b):uB K u H b:=by by_cases hk:k.rd=true;{exact(o.rp (Hm':=H) hk s λ_ _=>rfl).nZ h};cases o<;>first|exact absurd rfl hk|cases h
def LW(ho:bC X (compareOp op) r)(hm:behindInMarks op b=false)(h:uP X [a,b] U H λvs H1=>r2 r vs H1 λx H'=>∃k,uB X.K x H' k/\Q k H'):WT X (.Compare a [op] [b] pos) U H Q:=by intro pins s I;refine wpAny_isTrue_Compare1 (aH (h pins s I) λv s1 ⟨x,H1,I1,r1,q1⟩=>aH (q1 pins s1 I1) λu s2 ⟨y,H2,I2,r2,q2⟩=>aH (ho pins s2 U H2 x y v u _ I2 r1 r2 q2) λc s3 ⟨z,H3,I3,r3,q3⟩=>?_) hm;exact CG pins s3 U H3 z c Q I3 r3 q3
def MK(S:aV X Ex Y es as)(hr:∀U H (Q:Bool->Hp->Prop),uP X es U H (λvs H1=>r vs H1 λx H'=>∃k,uB X.K x H' k/\Q k H')->WT X e U H Q)(D:c9 X.K f r):b8 X Ex Y e (aa f as):=by
 intro g x E U H Hm F P Q hx R h q;refine hr _ _ _ (kE hx S R h λE1 os vs H1 Hm1 F1 p R1 s1 G=>?_);replace p:sA f as E1 os P:=p;unfold sA at p;rw[<-bg,fh]at p;obtain⟨ds,hf,hg⟩:=p;have off:∀a∈(gB as).flatMap F1,Hm1 a=none:=λa ha=>by obtain⟨i,_,h⟩:=Rj.mp ha;exact R1.off i a h
 have up:=ic (Hm:=Hm1) (H:=H1) off;refine D H1 (lend Hm1 H1 ((gB as).flatMap F1)) vs ds _ _ (iV R1.sub) (pR R1 up G hf λi hi a ha=>eU (Rj.mpr ⟨i,hi,ha⟩)) hg λk v u H' Hm2 fp p sH sM sS old o fr=>?_;replace p:aD (qP as E1 k v) _:=p;rw[<-bg,tR]at p;obtain⟨E2,ha,p⟩:=p;obtain⟨Hm',F',R',s',T⟩:=wj R1 (is:=gB as) (wY ha) sH sM sS old o fr;obtain⟨b,e1,q'⟩:=q _ _ _ _ _ _ p R' (s1.trans s');exact⟨b,o.nZ sS e1,q'⟩
def ie(ho:bC X (compareOp op) r)(hm:behindInMarks op b=false)(D:c9 X.K f (r2 r))(S:aV X Ex Y [a,b] as):b8 X Ex Y (.Compare a [op] [b] pos) (aa f as):=MK S (λU H Q h=>LW ho hm h) D
theorem Own.int{i:Int}(o:Own K H Hm k u (.int i) fp):u=.int i:=by
 cases o with
 |sh r=>cases r;rfl
noncomputable def WW (X:Cx)(e:Expr):TT:=λU H Q=>∀(whole:Sem Value)(pins:WD)(s:Shared),Inv X pins U H s->wpAny (model X.prog X.w) X.A (isTrue e X.env whole) (TP X pins U Q) X.xe s
def pw_ww:PW X e (WW X e):=λwh pins s _ _ _ I h=>h wh pins s I
def WW.of(h:PW X e t)(q:t U H Q):WW X e U H Q:=λwh pins s I=>h wh pins s U H Q I q
noncomputable def gz (X:Cx)(Ex:XK)(Y:WZ)(e:Expr)(d:DE):Prop:=
 ∀(g:Gh)(x:XC)(E:En)(U:St)(H Hm:Hp)(F:Nat->WU)(P:En->Kd->PyData->Prop)(Q:Bool->Hp->Prop),XL X Ex x g->Rl X.K g E U H Hm F->d x E P->
  (∀E' k v H' Hm' F',P E' k v->Rl X.K g E' U H' Hm' F'->af Hm Hm'->∃b,nZ v=some b/\Q b H')->WW X e (sel Y U) H Q
def gz.ku(h:gz X Ex Y e d):b8 X Ex Y e d:=λg x E U H Hm F P Q hx R p q=>WT.of (PW.pt pw_ww) (h g x E U H Hm F P Q hx R p q)
def cR(h:b8 X Ex Y a d):gz X Ex Y (.BoolOp op [a] pos) d:=λg x E U H Hm F P Q hx R p q=>by
 cases op with
 |And=>exact WW.of (pw_and1 nh) (h g x E U H Hm F P Q hx R p q)
 |Or=>exact WW.of (pw_or1 nh) (h g x E U H Hm F P Q hx R p q)
def dY{a b:Expr}{rest:WX}{pos:Pos}{d e:DE}(ha:b8 X Ex Y a d)(hb:gz X Ex Y (.BoolOp .And (b::rest) pos) e):gz X Ex Y (.BoolOp .And (a::b::rest) pos) (gH d e):=by
 rw[Jt];intro g x E U H Hm F P Q hx R p q;refine WW.of (pw_and nh pw_ww) (ha g x E U H Hm F _ _ hx R p λE1 k v H1 Hm1 F1 p1 R1 s1=>?_);obtain⟨c,rfl,p1⟩:=p1;refine⟨c,rfl,?_⟩;cases c with
 |true=>exact mV (hb g x E1 U H1 Hm1 F1 P Q hx R1 p1 λE' k v H' Hm' F' p' R' s'=>q _ _ _ _ _ _ p' R' (s1.trans s'))
 |false=>obtain⟨b,e1,q'⟩:=q _ _ _ _ _ _ p1 R1 s1;cases e1;exact kG q'
def kM{a b:Expr}{rest:WX}{pos:Pos}{d e:DE}(ha:b8 X Ex Y a d)(hb:gz X Ex Y (.BoolOp .Or (b::rest) pos) e):gz X Ex Y (.BoolOp .Or (a::b::rest) pos) (n5 d e):=by
 rw[MX];intro g x E U H Hm F P Q hx R p q;refine WW.of (pw_or nh pw_ww) (ha g x E U H Hm F _ _ hx R p λE1 k v H1 Hm1 F1 p1 R1 s1=>?_);obtain⟨c,rfl,p1⟩:=p1;refine⟨c,rfl,?_⟩;cases c with
 |true=>obtain⟨b,e1,q'⟩:=q _ _ _ _ _ _ p1 R1 s1;cases e1;exact mV q'
 |false=>exact kG (hb g x E1 U H1 Hm1 F1 P Q hx R1 p1 λE' k v H' Hm' F' p' R' s'=>q _ _ _ _ _ _ p' R' (s1.trans s'))
def Po{i j:Nat}(h:PE X e (lK j))(hj:Y[j]?=some i)(he:∀whole,isTrue e X.env whole=(do let v <-whole;standAt e.pos;holding [v] (truthy v))):ST X Ex Y e (HU i):=by
 intro g x E U H Hm F P Q hx R p q;replace p:EY E i P:=p;unfold EY at p;split at p
 rotate_left
 .exact p.elim
 rename_i k d e1;rw[fm,<-Ib]at p;obtain⟨hk,b,ht,p⟩:=p;obtain⟨v,h1,h2⟩:=R.slot i k d e1;exact WT.of (G8 h he) ⟨v,eW hj h1,b,h2.nZ R.sub ht,q _ _ _ _ _ p R (af.refl _)⟩
end
end Dv
namespace TS
open PySem PyProof.Rows
structure Ord(lt:Value->Value->Bool):Prop where
 La:∀a b,lt a b=true->lt b a=false
 trans:∀a b c,lt b a=false->lt c b=false->lt c a=false
def Le (lt:Value->Value->Bool)(p q:Keyed):Prop:=lt q.1 p.1=false
section
variable{lt:Value->Value->Bool}(O:Ord lt)
include O
def Ord.tr(h:Le lt p q)(g:Le lt q r):Le lt p r:=O.trans _ _ _ h g
def Ord.of(h:lt p.1 q.1=true):Le lt p q:=O.La _ _ h
def Ord.rfl':Le lt p p:=by
 unfold Le;cases e:lt p.1 p.1 with
 |false=>rfl
 |true=>have h2:=O.La _ _ e;rw[e]at h2;exact h2
end
noncomputable def gw (prog:Program)(w:World)(A:Around)(s:Shared)(kd:SortKind)(P:Value->Prop)(lt:Value->Value->Bool):Prop:=∀(E:WA) x y,P x->P y->∀Q:Bool->Shared->Prop,Q (lt x y) s->wpAny (model prog w) A (keyLt' kd x y) Q E s
section
variable{prog:Program}{w:World}{A:Around}{E:WA}{s:Shared}
variable{kd:SortKind}{P:Value->Prop}{lt:Value->Value->Bool}
def Bf{st:SortSt}(L:gw prog w A s kd P lt)(hk:kindOf st=kd)(hx:P x.1)(hy:P y.1)(h:Q (some (lt x.1 y.1)) st):wpS (model prog w) A E s (lt' x y) Q st:=by rw[lt'_eq];refine Q4 (wpS_get ?_);rw[hk];refine Q4 (TR (UQ (L _ _ _ hx hy _ ⟨rfl,?_⟩)));exact Q3 h
noncomputable def bq (lt:Value->Value->Bool)(left:Bool)(key:Keyed)(xs:Array Keyed) (base i:Nat):Bool:=match xs[base+i]? with
 |some p=>if left then lt p.1 key.1 else !lt key.1 p.1
 |none=>false
noncomputable def So (lt:Value->Value->Bool)(xs:Array Keyed) (base n:Nat):Prop:=∀i j p q,i<=j->j<n->xs[base+i]?=some p->xs[base+j]?=some q->Le lt p q
def J7(O:Ord lt){left:Bool}{base n i j:Nat}(S:So lt xs base n)(hn:base+n<=xs.size)(ij:i<=j)(hj:j<n)(h:bq lt left key xs base j=true):bq lt left key xs base i=true:=by
 have ei:xs[base+i]?=some (xs[base+i]'(by lia)):=RP (by lia);have ej:xs[base+j]?=some (xs[base+j]'(by lia)):=RP (by lia);have le:=S i j _ _ ij hj ei ej;unfold bq at h⊢;rw[ej]at h;rw[ei];dsimp only at h⊢;cases left with
 |true=>
  rw[if_pos rfl]at h⊢;cases e:lt (xs[base+i]'(by lia)).1 key.1 with
  |true=>rfl
  |false=>have:=O.trans _ _ _ e le;rw[this]at h;cases h
 |false=>
  rw[if_neg QV]at h⊢;have h':lt key.1 (xs[base+j]'(by lia)).1=false:=by simpa using h
  rw[O.trans _ _ _ le h'];rfl
def Kw(O:Ord lt){left:Bool}{base i:Nat}(h:bq lt left key xs base i=true)(e:xs[base+i]?=some p):Le lt p key:=by
 unfold bq at h;rw[e]at h;dsimp only at h;cases left with
 |true=>rw[if_pos rfl]at h;exact O.of h
 |false=>rw[if_neg QV]at h;show lt key.1 p.1=false;simpa using h
def Fp(O:Ord lt){left:Bool}{base i:Nat}(h:bq lt left key xs base i=false)(e:xs[base+i]?=some p):Le lt key p:=by
 unfold bq at h;rw[e]at h;dsimp only at h;cases left with
 |true=>rw[if_pos rfl]at h;exact h
 |false=>rw[if_neg QV]at h;exact O.of (by simpa using h)
def uE{st:SortSt}{left:Bool}{base n hint:Nat}(O:Ord lt)(L:gw prog w A s kd P lt)(hk:kindOf st=kd)(hy:P key.1)(G:Good P xs)(hn:base+n<=xs.size)(hh:hint<n)(S:So lt xs base n)(h:∀k,k<=n->(∀i p,i<k->xs[base+i]?=some p->Le lt p key)->(∀i p,k<=i->i<n->xs[base+i]?=some p->Le lt key p)->Q (some k) st) : wpS (model prog w) A E s (tU left key xs base n hint) Q st:=by
 have mono:∀i j,i<=j->j<n->bq lt left key xs base j=true->bq lt left key xs base i=true:=λi j ij hj=>J7 O S hn ij hj;have cJ:∀(i:Nat){R:Option Bool->SortSt->Prop},i<n->R (some (bq lt left key xs base i)) st->wpS (model prog w) A E s (do
   let x <-elem' xs (base+i)
   if left then lt' x key else return (<-lt' key x).map (!·)) R st:=λi R hi hR=>by
  refine Q4 (jX (by lia) λp hp=>?_)
  have e:bq lt left key xs base i=if left then lt p.1 key.1 else !lt key.1 p.1:=by
   unfold bq;rw[hp]
  rw[e]at hR;cases left with
  |true=>exact Bf L hk (G _ _ hp) hy hR
  |false=>exact Q4 (Bf L hk hy (G _ _ hp) (Q3 hR))
 have fin:∀k,k<=n->(∀i,i<k->bq lt left key xs base i=true)->(∀i,k<=i->i<n->bq lt left key xs base i=false)->Q (some k) st:=λk hk a b=>h k hk (λi p hi e=>Kw O (a i hi) e) λi p h1 h2 e=>Fp O (b i h1 h2) e;generalize bq lt left key xs base=f at mono cJ fin;have mono2:∀i j,i<=j->j<n->f i=false->f j=false:=λi j ij hj e=>by
  cases e2:f j with
  |false=>rfl
  |true=>rw[mono i j ij hj e2]at e;cases e
 unfold tU;refine Q4 (cJ hint hh ?_);dsimp only;refine bL (λct=>?_) (λcf=>?_)
 .refine Q4 (RS (RT (I:=λx c st'=>st'=st/\c.1=none/\c.2.1<c.2.2/\x+1<=c.2.2/\hint+c.2.1<n/\f (hint+c.2.1)=true) (Q:=λc st'=>st'=st/\c.1=none/\c.2.1<c.2.2/\hint+c.2.1<n/\f (hint+c.2.1)=true/\(n-hint<=c.2.2\/(c.2.2<n-hint/\f (hint+c.2.2)=false))) ?step ?fin ⟨rfl,rfl,by decide,by decide,by dsimp only;lia,by simpa using ct⟩) ?post)
  case step=>
   rintro x⟨o,a,c⟩st' _ _⟨rfl,rfl,q1,q2,q3,q4⟩;dsimp only at q1 q2 q3 q4⊢;refine bL (λge=>Q3 ⟨rfl,rfl,q1,q3,q4,.inl ge⟩) (λge=>?_)
   refine Q4 (cJ _ (by lia) ?_)
   dsimp only;refine bL (λe=>Q3 ⟨rfl,rfl,q1,q3,q4,.inr ⟨by dsimp only;lia,by simpa using e⟩⟩) (λe=>Q3 ⟨rfl,rfl,by dsimp only;lia,by dsimp only;lia,by dsimp only;lia,by simpa using e⟩)
  case fin=>
   rintro⟨o,a,c⟩st'⟨rfl,rfl,q1,q2,q3,q4⟩;dsimp only at q1 q2 q3 q4;exact⟨rfl,rfl,q1,q3,q4,.inl (by dsimp only;lia)⟩
  case post=>
   rintro⟨o,a,c⟩st'⟨rfl,rfl,q1,q3,q4,q5⟩;dsimp only at q1 q3 q4 q5⊢;have l1:hint+a+1<=hint+min c (n-hint):=by lia
   have l2:hint+min c (n-hint)<=n:=by lia
   have t1:∀i,i<hint+a+1->f i=true:=λi hi=>mono i _ (by lia) q3 q4
   have t2:∀i,hint+min c (n-hint)<=i->i<n->f i=false:=λi h1 h2=>by rcases q5 with q5|⟨q5,q6⟩;{lia};exact mono2 _ i (by lia) h2 q6
   generalize hint+a+1=lo at l1 t1⊢;generalize hint+min c (n-hint)=hi at l1 l2 t2⊢;refine Q4 (RS (RT (I:=λy c st''=>st''=st'/\c.1=none/\c.2.1<=c.2.2/\c.2.2<=n/\c.2.2-c.2.1+y<=n/\(∀i,i<c.2.1->f i=true)/\(∀i,c.2.2<=i->i<n->f i=false)) (Q:=λc st''=>st''=st'/\c.1=none/\c.2.2<=n/\(∀i,i<c.2.2->f i=true)/\(∀i,c.2.2<=i->i<n->f i=false)) ?step3 ?fin3 ⟨rfl,rfl,l1,l2,by dsimp only;lia,t1,t2⟩) ?post3)
   case step3=>
    rintro y⟨o,a,b⟩st'' _ hy⟨rfl,rfl,q1,q2,q3,q4,q5⟩;dsimp only at q1 q2 q3 q4 q5⊢;refine bL (λge=>?_) (λge=>?_)
    .have:a=b:=by lia
     subst this;exact Q3 ⟨rfl,rfl,q2,q4,q5⟩
    .refine Q4 (cJ _ (by lia) ?_)
     dsimp only;refine bL (λc=>?_) (λc=>?_)
     .refine Q3 ⟨rfl,rfl,by dsimp only;lia,q2,by dsimp only;lia,λi hi=>?_,q5⟩
      exact mono i _ (by dsimp only at hi;lia) (by lia) c
     .refine Q3 ⟨rfl,rfl,by dsimp only;lia,by dsimp only;lia,by dsimp only;lia,q4,λi h1 h2=>?_⟩
      exact mono2 _ i h1 h2 (by simpa using c)
   case fin3=>
    rintro⟨o,a,b⟩st''⟨q0,qn,q1,q2,q3,q4,q5⟩;dsimp only at q1 q2 q3 q4 q5;have:a=b:=by lia
    subst this;exact⟨q0,qn,q2,q4,q5⟩
   case post3=>
    rintro⟨o,lo,hi⟩st''⟨rfl,rfl,r1,r2,r3⟩;dsimp only at r1 r2 r3⊢;exact Q3 (fin _ r1 r2 r3)
 have cf:f hint=false:=by simpa using cf
 refine Q4 (RS (RT (I:=λx c st'=>st'=st/\c.1=none/\c.2.1<c.2.2/\x+1<=c.2.2/\c.2.1<=hint/\f (hint-c.2.1)=false) (Q:=λc st'=>st'=st/\c.1=none/\c.2.1<c.2.2/\c.2.1<=hint/\f (hint-c.2.1)=false/\(hint+1<=c.2.2\/(c.2.2<hint+1/\f (hint-c.2.2)=true))) ?step2 ?fin2 ⟨rfl,rfl,by decide,by decide,by dsimp only;lia,by simpa using cf⟩) ?post2)
 case step2=>
  rintro x⟨o,a,c⟩st' _ _⟨rfl,rfl,q1,q2,q3,q4⟩;dsimp only at q1 q2 q3 q4⊢;refine bL (λge=>Q3 ⟨rfl,rfl,q1,q3,q4,.inl ge⟩) (λge=>?_)
  refine Q4 (cJ _ (by lia) ?_)
  dsimp only;refine bL (λe=>Q3 ⟨rfl,rfl,q1,q3,q4,.inr ⟨by dsimp only;lia,e⟩⟩) (λe=>Q3 ⟨rfl,rfl,by dsimp only;lia,by dsimp only;lia,by dsimp only;lia,by simpa using e⟩)
 case fin2=>
  rintro⟨o,a,c⟩st'⟨rfl,rfl,q1,q2,q3,q4⟩;dsimp only at q1 q2 q3 q4;exact⟨rfl,rfl,q1,q3,q4,.inl (by dsimp only;lia)⟩
 case post2=>
  rintro⟨o,a,c⟩st'⟨rfl,rfl,q1,q3,q4,q5⟩;dsimp only at q1 q3 q4 q5⊢;have l1:hint+1-min c (hint+1)<=hint-a:=by lia
  have l2:hint-a<=n:=by lia
  have t1:∀i,i<hint+1-min c (hint+1)->f i=true:=λi hi=>by rcases q5 with q5|⟨q5,q6⟩;{lia};exact mono i _ (by lia) (by lia) q6
  have t2:∀i,hint-a<=i->i<n->f i=false:=λi h1 h2=>mono2 _ i h1 h2 q4
  generalize hint+1-min c (hint+1)=lo at l1 t1⊢;generalize hint-a=hi at l1 l2 t2⊢;refine Q4 (RS (RT (I:=λy c st''=>st''=st'/\c.1=none/\c.2.1<=c.2.2/\c.2.2<=n/\c.2.2-c.2.1+y<=n/\(∀i,i<c.2.1->f i=true)/\(∀i,c.2.2<=i->i<n->f i=false)) (Q:=λc st''=>st''=st'/\c.1=none/\c.2.2<=n/\(∀i,i<c.2.2->f i=true)/\(∀i,c.2.2<=i->i<n->f i=false)) ?step4 ?fin4 ⟨rfl,rfl,l1,l2,by dsimp only;lia,t1,t2⟩) ?post4)
  case step4=>
   rintro y⟨o,a,b⟩st'' _ hy⟨rfl,rfl,q1,q2,q3,q4,q5⟩;dsimp only at q1 q2 q3 q4 q5⊢;refine bL (λge=>?_) (λge=>?_)
   .have:a=b:=by lia
    subst this;exact Q3 ⟨rfl,rfl,q2,q4,q5⟩
   .refine Q4 (cJ _ (by lia) ?_)
    dsimp only;refine bL (λc=>?_) (λc=>?_)
    .refine Q3 ⟨rfl,rfl,by dsimp only;lia,q2,by dsimp only;lia,λi hi=>?_,q5⟩
     exact mono i _ (by dsimp only at hi;lia) (by lia) c
    .refine Q3 ⟨rfl,rfl,by dsimp only;lia,by dsimp only;lia,by dsimp only;lia,q4,λi h1 h2=>?_⟩
     exact mono2 _ i h1 h2 (by simpa using c)
  case fin4=>
   rintro⟨o,a,b⟩st''⟨q0,qn,q1,q2,q3,q4,q5⟩;dsimp only at q1 q2 q3 q4 q5;have:a=b:=by lia
   subst this;exact⟨q0,qn,q2,q4,q5⟩
  case post4=>
   rintro⟨o,lo,hi⟩st''⟨rfl,rfl,r1,r2,r3⟩;dsimp only at r1 r2 r3⊢;exact Q3 (fin _ r1 r2 r3)
end
noncomputable def Sa (lt:Value->Value->Bool)(xs:Array Keyed):Prop:=∀(i j:Nat) p q,i<=j->xs[i]?=some p->xs[j]?=some q->Le lt p q
def Sa.so(S:Sa lt xs) (b n:Nat):So lt xs b n:=λi j p q ij _ hi hj=>S _ _ _ _ (by lia) hi hj
def aR{xs:Array Keyed}{i j:Nat}(h:p∈(xs.extract i j).toList):∃k,i<=k/\k<j/\xs[k]?=some p:=by obtain⟨n,hn⟩:=Rq h;rw[RJ,T8]at hn;split at hn;{exact⟨i+n,by lia,by lia,hn⟩};cases hn
def b7(S:Sa lt xs) (i j:Nat):(xs.extract i j).toList.Pairwise (Le lt):=by rw[Tj];intro a b ha hb hab;have ea:(xs.extract i j).toList[a]?=some ((xs.extract i j).toList[a]):=RI ha;have eb:(xs.extract i j).toList[b]?=some ((xs.extract i j).toList[b]):=RI hb;rw[RJ,T8]at ea eb;split at ea;{split at eb;{exact S _ _ _ _ (by lia) ea eb};cases eb};cases ea
structure Om(lt:Value->Value->Bool)(xs ys out:Array Keyed) (ia ib:Nat):Prop where
 pm:Pm xs ys out ia ib
 so:out.toList.Pairwise (Le lt)
 ax:∀p∈out.toList,∀(i:Nat) q,ia<=i->xs[i]?=some q->Le lt p q
 ay:∀p∈out.toList,∀(i:Nat) q,ib<=i->ys[i]?=some q->Le lt p q
section
variable{lt:Value->Value->Bool}{xs ys out:Array Keyed}{ia ib k:Nat}
theorem Om.x(h:Om lt xs ys out ia ib)(Sx:Sa lt xs) (k:Nat)(hy:∀(i:Nat) p,ia<=i->i<ia+k->xs[i]?=some p->∀(j:Nat) q,ib<=j->ys[j]?=some q->Le lt p q):Om lt xs ys (out++xs.extract ia (ia+k)) (ia+k) ib:=by refine⟨h.pm.x k,?_,?_,?_⟩;{rw[RA,SD];refine⟨h.so,b7 Sx _ _,λp hp q hq=>?_⟩;obtain⟨i,i1,_,e⟩:=aR hq;exact h.ax p hp i q i1 e};{intro p hp i q hi e;rw[RA]at hp;rcases R7.mp hp with hp|hp;{exact h.ax p hp i q (by lia) e};obtain⟨j,j1,j2,e2⟩:=aR hp;exact Sx j i p q (by lia) e2 e};intro p hp i q hi e;rw[RA]at hp;rcases R7.mp hp with hp|hp;{exact h.ay p hp i q hi e};obtain⟨j,j1,j2,e2⟩:=aR hp;exact hy j p j1 j2 e2 i q hi e
theorem Om.y(h:Om lt xs ys out ia ib)(Sy:Sa lt ys) (k:Nat)(hx:∀(i:Nat) p,ib<=i->i<ib+k->ys[i]?=some p->∀(j:Nat) q,ia<=j->xs[j]?=some q->Le lt p q):Om lt xs ys (out++ys.extract ib (ib+k)) ia (ib+k):=by refine⟨h.pm.y k,?_,?_,?_⟩;{rw[RA,SD];refine⟨h.so,b7 Sy _ _,λp hp q hq=>?_⟩;obtain⟨i,i1,_,e⟩:=aR hq;exact h.ay p hp i q i1 e};{intro p hp i q hi e;rw[RA]at hp;rcases R7.mp hp with hp|hp;{exact h.ax p hp i q hi e};obtain⟨j,j1,j2,e2⟩:=aR hp;exact hx j p j1 j2 e2 i q hi e};intro p hp i q hi e;rw[RA]at hp;rcases R7.mp hp with hp|hp;{exact h.ay p hp i q (by lia) e};obtain⟨j,j1,j2,e2⟩:=aR hp;exact Sy j i p q (by lia) e2 e
def Om.px(h:Om lt xs ys out ia ib)(Sx:Sa lt xs)(hp:xs[ia]?=some p)(hy:∀(j:Nat) q,ib<=j->ys[j]?=some q->Le lt p q):Om lt xs ys (out.push p) (ia+1) ib:=by
 rw[qD hp];refine h.x Sx 1 λi q i1 i2 e=>?_;have:i=ia:=by lia
 rw[this,hp]at e;cases e;exact hy
def Om.py(h:Om lt xs ys out ia ib)(Sy:Sa lt ys)(hp:ys[ib]?=some p)(hx:∀(j:Nat) q,ia<=j->xs[j]?=some q->Le lt p q):Om lt xs ys (out.push p) ia (ib+1):=by
 rw[qD hp];refine h.y Sy 1 λi q i1 i2 e=>?_;have:i=ib:=by lia
 rw[this,hp]at e;cases e;exact hx
noncomputable def Mg (lt:Value->Value->Bool)(xs ys zs:Array Keyed):Prop:=zs.toList.Perm (xs.toList++ys.toList)/\zs.toList.Pairwise (Le lt)
theorem Om.done(h:Om lt xs ys out ia ib)(Sx:Sa lt xs)(Sy:Sa lt ys)(e:ib=ys.size\/ia=xs.size):Mg lt xs ys (out++xs.extract ia++ys.extract ib):=by refine⟨h.pm.done,?_⟩;rw[RA,RA,SD,SD];refine⟨⟨h.so,b7 Sx _ _,λp hp q hq=>?_⟩,b7 Sy _ _,λp hp q hq=>?_⟩;{obtain⟨i,i1,_,e⟩:=aR hq;exact h.ax p hp i q i1 e};obtain⟨i,i1,_,e2⟩:=aR hq;rcases R7.mp hp with hp|hp;{exact h.ay p hp i q i1 e2};obtain⟨j,j1,_,e3⟩:=aR hp;have l2:=(Sd.mp e2).1;have l3:=(Sd.mp e3).1;lia
theorem Om.last(h:Om lt xs ys out ia ib)(Sx:Sa lt xs)(Sy:Sa lt ys)(e:ia+1=xs.size)(hl:∀(j:Nat) q p,ys[j]?=some q->xs[xs.size-1]?=some p->Le lt q p):Mg lt xs ys (out++ys.extract ib++xs.extract ia):=by refine⟨h.pm.last,?_⟩;rw[RA,RA,SD,SD];refine⟨⟨h.so,b7 Sy _ _,λp hp q hq=>?_⟩,b7 Sx _ _,λp hp q hq=>?_⟩;{obtain⟨i,i1,_,e⟩:=aR hq;exact h.ay p hp i q i1 e};obtain⟨i,i1,_,e2⟩:=aR hq;have l2:=(Sd.mp e2).1;rcases R7.mp hp with hp|hp;{exact h.ax p hp i q i1 e2};obtain⟨j,j1,_,e3⟩:=aR hp;rw[show i=xs.size-1 by lia]at e2;exact hl j p q e3 e2
end
inductive Lz(lt:Value->Value->Bool)(st:SortSt)(xs ys:Array Keyed) (x:Nat):Option (Array Keyed)×Array Keyed×Nat×Nat×Nat->SortSt->Prop
 |mk:∀(out:Array Keyed) (ia ib mg:Nat)(st':SortSt),kY st st'->Om lt xs ys out ia ib->ia+1<xs.size->ib<ys.size->x+1<=ia+ib->Lz lt st xs ys x (none,out,ia,ib,mg) st'
inductive B0(lt:Value->Value->Bool)(st:SortSt)(xs ys:Array Keyed):Option (Array Keyed)×Array Keyed×Nat×Nat×Nat->SortSt->Prop
 |mk:∀(r out:Array Keyed) (ia ib mg:Nat)(st':SortSt),kY st st'->Mg lt xs ys r->B0 lt st xs ys (some r,out,ia,ib,mg) st'
inductive IV(lt:Value->Value->Bool)(st:SortSt)(xs ys:Array Keyed) (n y:Nat):Option (Array Keyed)×Array Keyed×Nat×Nat×Nat×Nat->SortSt->Prop
 |mk:∀(out:Array Keyed) (ia ib ac bc:Nat),Om lt xs ys out ia ib->ia+1<xs.size->ib<ys.size->y+n<=ia+ib->IV lt st xs ys n y (none,out,ia,ib,ac,bc) st
inductive qH(lt:Value->Value->Bool)(st:SortSt)(xs ys:Array Keyed) (n:Nat):Option (Array Keyed)×Array Keyed×Nat×Nat×Nat×Nat->SortSt->Prop
 |dn:∀(r out:Array Keyed) (ia ib ac bc:Nat),Mg lt xs ys r->qH lt st xs ys n (some r,out,ia,ib,ac,bc) st
 |go:∀(out:Array Keyed) (ia ib ac bc:Nat),Om lt xs ys out ia ib->ia+1<xs.size->ib<ys.size->n+1<=ia+ib->qH lt st xs ys n (none,out,ia,ib,ac,bc) st
inductive LS(lt:Value->Value->Bool)(st:SortSt)(xs ys:Array Keyed) (n:Nat):Option (Array Keyed)×Array Keyed×Nat×Nat×Nat×Nat×Nat->SortSt->Prop
 |mk:∀(out:Array Keyed) (ia ib mg ac bc:Nat)(st':SortSt),kY st st'->Om lt xs ys out ia ib->ia+1<xs.size->ib<ys.size->n<=ia+ib->LS lt st xs ys n (none,out,ia,ib,mg,ac,bc) st'
inductive nE(lt:Value->Value->Bool)(st:SortSt)(xs ys:Array Keyed) (n:Nat):Option (Array Keyed)×Array Keyed×Nat×Nat×Nat×Nat×Nat->SortSt->Prop
 |dn:∀(r out:Array Keyed) (ia ib mg ac bc:Nat)(st':SortSt),kY st st'->Mg lt xs ys r->nE lt st xs ys n (some r,out,ia,ib,mg,ac,bc) st'
 |go:∀(out:Array Keyed) (ia ib mg ac bc:Nat)(st':SortSt),kY st st'->Om lt xs ys out ia ib->ia+1<xs.size->ib<ys.size->n<=ia+ib->nE lt st xs ys n (none,out,ia,ib,mg,ac,bc) st'
section
variable{prog:Program}{w:World}{A:Around}{E:WA}{s:Shared}{kd:SortKind}{P:Value->Prop}{lt:Value->Value->Bool}
def ve{α:Type}{st:SortSt}{x y:Keyed}{f:Option Bool->StateT SortSt Sem α}{Q:α->SortSt->Prop}(L:gw prog w A s kd P lt)(hk:kindOf st=kd)(hx:P x.1)(hy:P y.1)(h:wpS (model prog w) A E s (f (some (lt x.1 y.1))) Q st):wpS (model prog w) A E s (lt' x y>>=f) Q st:=Q4 (Bf L hk hx hy h)
def kR{α:Type}{st:SortSt}{left:Bool}{key:Keyed}{xs:Array Keyed}{base n hint:Nat}{f:Option Nat->StateT SortSt Sem α}{Q:α->SortSt->Prop}(O:Ord lt)(L:gw prog w A s kd P lt)(hk:kindOf st=kd)(hy:P key.1)(G:Good P xs)(hn:base+n<=xs.size)(hh:hint<n)(S:So lt xs base n)(h:∀k,k<=n->(∀i p,i<k->xs[base+i]?=some p->Le lt p key)->(∀i p,k<=i->i<n->xs[base+i]?=some p->Le lt key p)->wpS (model prog w) A E s (f (some k)) Q st):wpS (model prog w) A E s (tU left key xs base n hint>>=f) Q st:=Q4 (uE O L hk hy G hn hh S h)
def Qp{st:SortSt}{xs ys:Array Keyed}{Q:Array Keyed->SortSt->Prop}(O:Ord lt)(L:gw prog w A s kd P lt)(hk:kindOf st=kd)(G1:Good P xs)(G2:Good P ys)(h1:1<=xs.size)(h2:1<=ys.size)(Sx:Sa lt xs)(Sy:Sa lt ys)(hf:∀p q (j:Nat),ys[0]?=some p->xs[j]?=some q->Le lt p q)(hl:∀(j:Nat) q p,ys[j]?=some q->xs[xs.size-1]?=some p->Le lt q p)(h:∀zs st',kY st st'->Mg lt xs ys zs->Q zs st') : wpS (model prog w) A E s (xu xs ys) Q st:=by
 unfold xu;refine Q4 (TR (Sw ⟨rfl,?_⟩));dsimp only;refine bW (by lia) λp hp=>?_;have pm0:Om lt xs ys #[p] 0 1:=by have:Om lt xs ys #[] 0 0:=⟨List.Perm.refl _,.nil,λ_ h=>(nomatch h),λ_ h=>(nomatch h)⟩;exact this.py Sy hp λj q _ e=>hf p q j hp e
 have g0:kY st st:=⟨rfl,rfl,rfl,rfl⟩;refine ef (λe1=>Q3 (h _ _ g0 (pm0.done Sx Sy (.inl e1)))) (λe1=>?_);refine ef (λe2=>Q3 (h _ _ g0 (pm0.last Sx Sy e2 hl))) (λe2=>?_);refine Q4 (wpS_get ?_);refine Q4 (RS (RT (I:=Lz lt st xs ys) (Q:=B0 lt st xs ys) ?step ?fin (.mk _ _ _ _ _ g0 pm0 (by lia) (by lia) (by lia))) ?post)
 case post=>
  rintro _ st'⟨r,out,ia,ib,mg,_,g,pr⟩;dsimp only;exact Q3 (h _ _ g pr)
 case fin=>
  rintro _ st'⟨out,ia,ib,mg,_,_,_,a,b,c⟩;lia
 case step=>
  rintro x _ st' _ _⟨out,ia,ib,mg,_,g,pm,a1,b1,c1⟩;dsimp only;have hk':kindOf st'=kd:=g.1.trans hk;refine Q4 (RS (RT (I:=IV lt st' xs ys (ia+ib)) (Q:=qH lt st' xs ys (ia+ib)) ?step1 ?fin1 (.mk _ _ _ _ _ pm a1 b1 (by lia))) ?post1)
  case fin1=>
   rintro _ _⟨out2,ia2,ib2,ac,bc,_,a,b,c⟩;lia
  case step1=>
   rintro y _ _ _ _⟨out2,ia2,ib2,ac,bc,pm2,a2,b2,c2⟩;dsimp only;refine bW (by lia) λp1 hp1=>?_
   refine bW (by lia) λp2 hp2=>?_
   refine ve L hk' (G2 _ _ hp1) (G1 _ _ hp2) ?_;dsimp only;cases cb:lt p1.1 p2.1 with
   |true=>rw[if_pos rfl];refine bW (by lia) λp3 hp3=>?_;rw[hp1]at hp3;cases hp3;have pm3:=pm2.py Sy hp1 λj q hj e=>O.tr (O.of cb) (Sx _ _ _ _ hj hp2 e);refine ef (λe3=>Q3 (qH.dn _ _ _ _ _ _ (pm3.done Sx Sy (.inl e3)))) (λe3=>?_);refine bL (λe4=>?_) (λe4=>?_);{exact Q3 (qH.go _ _ _ _ _ pm3 a2 (by lia) (by lia))};exact Q3 (IV.mk _ _ _ _ _ pm3 a2 (by lia) (by lia))
   |false=>rw[if_neg QV];refine bW (by lia) λp3 hp3=>?_;rw[hp2]at hp3;cases hp3;have pm3:=pm2.px Sx hp2 λj q hj e=>O.tr (show Le lt p2 p1 from cb) (Sy _ _ _ _ hj hp1 e);refine ef (λe3=>Q3 (qH.dn _ _ _ _ _ _ (pm3.last Sx Sy e3 hl))) (λe3=>?_);refine bL (λe4=>?_) (λe4=>?_);{exact Q3 (qH.go _ _ _ _ _ pm3 (by lia) b2 (by lia))};exact Q3 (IV.mk _ _ _ _ _ pm3 (by lia) b2 (by lia))
  case post1=>
   rintro _ _ (⟨r,out2,ia2,ib2,ac,bc,pr⟩|⟨out2,ia2,ib2,ac,bc,pm2,a2,b2,c2⟩)
   .exact Q3 (B0.mk _ _ _ _ _ _ g pr)
   .dsimp only;refine Q4 (TR (Sw ⟨rfl,?_⟩));refine Q4 (RS (RT (I:=λ_=>LS lt st xs ys (ia2+ib2)) (Q:=nE lt st xs ys (ia2+ib2)) ?step2 (λc st3 q=>by cases q;exact .go _ _ _ _ _ _ _ ‹_› ‹_› ‹_› ‹_› ‹_›) (.mk _ _ _ _ _ _ _ g pm2 a2 b2 (Q5 _))) ?post2)
    case step2=>
     rintro y _ st3 _ _⟨out3,ia3,ib3,mg3,ac3,bc3,_,g3,pm3,a3,b3,c3⟩;dsimp only;have hk3:kindOf st3=kd:=g3.1.trans hk;refine bL (λe5=>?b1) (λe5=>?b2)
     generalize mg3-1=v;clear e5;revert v;refine ?key
     case b2=>exact ?key mg3
     intro v;refine Q4 (Rv ?_);refine bW (by lia) λp1 hp1=>?_
     refine kR O L hk3 (G2 _ _ hp1) G1 (by lia) (by lia) (Sx.so _ _) λk hk1 ka kb=>?_
     dsimp only;have ka':∀(i:Nat) p,ia3<=i->i<ia3+k->xs[i]?=some p->Le lt p p1:=λi p h1 h2 e=>ka (i-ia3) p (by lia) (by rw[show ia3+(i-ia3)=i by lia];exact e)
     have kb':∀(i:Nat) p,ia3+k<=i->xs[i]?=some p->Le lt p1 p:=λi p h1 e=>kb (i-ia3) p (by lia) (by have:=(Sd.mp e).1;lia) (by rw[show ia3+(i-ia3)=i by lia];exact e)
     clear ka kb;refine bL (λk0=>?c1) (λk0=>?c2)
     have pm4:=pm3.x Sx k λi p h1 h2 e j q hj e2=>O.tr (ka' i p h1 h2 e) (Sy _ _ _ _ hj hp1 e2)
     refine ef (λe6=>Q3 (nE.dn _ _ _ _ _ _ _ _ g3 (pm4.last Sx Sy e6 hl))) (λe6=>?_)
     refine ef (λe7=>Q3 (nE.dn _ _ _ _ _ _ _ _ g3 (pm4.done Sx Sy (.inr e7)))) (λe7=>?_)
     generalize out3++xs.extract ia3 (ia3+k)=o at pm4⊢;have n1:ia3+k+1<xs.size:=by lia
     have n0:ia3<=ia3+k:=by lia
     revert n0 n1 kb' pm4;clear e6 e7 k0 ka';generalize ia3+k=n;clear hk1;generalize k=d;revert o n d;refine ?key2
     case c2=>exact ?key2 out3 ia3 k (λi p h e=>kb' i p (by lia) e) pm3 a3 (Q5 _)
     intro o n d kb' pm4 n1 n0;refine bW (by lia) λp2 hp2=>?_
     rw[hp1]at hp2;cases hp2;have pm5:=pm4.py Sy hp1 λj q hj e=>kb' j q hj e
     refine ef (λe8=>Q3 (nE.dn _ _ _ _ _ _ _ _ g3 (pm5.done Sx Sy (.inl e8)))) (λe8=>?_)
     refine bW (by lia) λp3 hp3=>?_
     refine kR O L hk3 (G1 _ _ hp3) G2 (by lia) (by lia) (Sy.so _ _) λk2 hk2 ja jb=>?_
     dsimp only;have ja':∀(i:Nat) p,ib3+1<=i->i<ib3+1+k2->ys[i]?=some p->Le lt p p3:=λi p h1 h2 e=>ja (i-(ib3+1)) p (by lia) (by rw[show ib3+1+(i-(ib3+1))=i by lia];exact e)
     have jb':∀(i:Nat) p,ib3+1+k2<=i->ys[i]?=some p->Le lt p3 p:=λi p h1 e=>jb (i-(ib3+1)) p (by lia) (by have:=(Sd.mp e).1;lia) (by rw[show ib3+1+(i-(ib3+1))=i by lia];exact e)
     clear ja jb;refine bL (λk20=>?d1) (λk20=>?d2)
     have pm6:=pm5.y Sy k2 λi p h1 h2 e j q hj e2=>O.tr (ja' i p h1 h2 e) (Sx _ _ _ _ hj hp3 e2)
     refine ef (λe9=>Q3 (nE.dn _ _ _ _ _ _ _ _ g3 (pm6.done Sx Sy (.inl e9)))) (λe9=>?_)
     generalize o.push _++ys.extract (ib3+1) (ib3+1+k2)=o2 at pm6⊢;have m1:ib3+1+k2<ys.size:=by lia
     have m0:ib3+1<=ib3+1+k2:=by lia
     revert m0 m1 jb' pm6;clear e9 k20 ja';generalize ib3+1+k2=m;clear hk2;generalize k2=d2;revert o2 m d2;refine ?key3
     case d2=>exact ?key3 _ _ _ (λi p h e=>jb' i p (by lia) e) pm5 (by lia) (Q5 _)
     intro o2 m d2 jb' pm6 m1 m0;refine bW (by lia) λp4 hp4=>?_
     rw[hp3]at hp4;cases hp4;have pm7:=pm6.px Sx hp3 λj q hj e=>jb' j q hj e
     refine ef (λe10=>Q3 (nE.dn _ _ _ _ _ _ _ _ g3 (pm7.last Sx Sy e10 hl))) (λe10=>?_)
     refine bL (λ_=>?_) (λ_=>?_)
     .exact Q3 (nE.go _ _ _ _ _ _ _ g3 pm7 (by lia) (by lia) (by lia))
     .exact Q3 (LS.mk _ _ _ _ _ _ _ g3 pm7 (by lia) (by lia) (by lia))
    case post2=>
     rintro _ st3 (⟨r,out3,ia3,ib3,mg3,ac3,bc3,_,g3,pr⟩|⟨out3,ia3,ib3,mg3,ac3,bc3,_,g3,pm3,a3,b3,c3⟩)
     .exact Q3 (B0.mk _ _ _ _ _ _ g3 pr)
     .dsimp only;refine Q4 (Rv ?_);exact Q3 (Lz.mk _ _ _ _ _ g3 pm3 a3 b3 (by lia))
end
structure Oh(lt:Value->Value->Bool)(xs ys out:Array Keyed) (na nb:Nat):Prop where
 pr:Pr xs ys out na nb
 so:out.toList.Pairwise λp q=>Le lt q p
 ax:∀p∈out.toList,∀(i:Nat) q,i<na->xs[i]?=some q->Le lt q p
 ay:∀p∈out.toList,∀(i:Nat) q,i<nb->ys[i]?=some q->Le lt q p
section
variable{lt:Value->Value->Bool}{xs ys out:Array Keyed}{na nb k:Nat}
theorem Oh.x(h:Oh lt xs ys out na nb)(Sx:Sa lt xs)(hk:k<=na)(hy:∀(i:Nat) p,k<=i->i<na->xs[i]?=some p->∀(j:Nat) q,j<nb->ys[j]?=some q->Le lt q p):Oh lt xs ys (out++(xs.extract k na).reverse) k nb:=by refine⟨h.pr.x hk,?_,?_,?_⟩;{rw[RA,SQ,SD,VA];refine⟨h.so,b7 Sx _ _,λp hp q hq=>?_⟩;obtain⟨i,_,i2,e⟩:=aR (TU.mp hq);exact h.ax p hp i q i2 e};{intro p hp i q hi e;rw[RA,SQ]at hp;rcases R7.mp hp with hp|hp;{exact h.ax p hp i q (by lia) e};obtain⟨j,j1,j2,e2⟩:=aR (TU.mp hp);exact Sx i j q p (by lia) e e2};intro p hp i q hi e;rw[RA,SQ]at hp;rcases R7.mp hp with hp|hp;{exact h.ay p hp i q hi e};obtain⟨j,j1,j2,e2⟩:=aR (TU.mp hp);exact hy j p j1 j2 e2 i q hi e
theorem Oh.y(h:Oh lt xs ys out na nb)(Sy:Sa lt ys)(hk:k<=nb)(hx:∀(i:Nat) p,k<=i->i<nb->ys[i]?=some p->∀(j:Nat) q,j<na->xs[j]?=some q->Le lt q p):Oh lt xs ys (out++(ys.extract k nb).reverse) na k:=by refine⟨h.pr.y hk,?_,?_,?_⟩;{rw[RA,SQ,SD,VA];refine⟨h.so,b7 Sy _ _,λp hp q hq=>?_⟩;obtain⟨i,_,i2,e⟩:=aR (TU.mp hq);exact h.ay p hp i q i2 e};{intro p hp i q hi e;rw[RA,SQ]at hp;rcases R7.mp hp with hp|hp;{exact h.ax p hp i q hi e};obtain⟨j,j1,j2,e2⟩:=aR (TU.mp hp);exact hx j p j1 j2 e2 i q hi e};intro p hp i q hi e;rw[RA,SQ]at hp;rcases R7.mp hp with hp|hp;{exact h.ay p hp i q (by lia) e};obtain⟨j,j1,j2,e2⟩:=aR (TU.mp hp);exact Sy i j q p (by lia) e e2
def Oh.px(h:Oh lt xs ys out na nb)(Sx:Sa lt xs)(h1:1<=na)(hp:xs[na-1]?=some p)(hy:∀(j:Nat) q,j<nb->ys[j]?=some q->Le lt q p):Oh lt xs ys (out.push p) (na-1) nb:=by
 rw[yK h1 hp];refine h.x Sx (by lia) λi q i1 i2 e=>?_;have:i=na-1:=by lia
 rw[this,hp]at e;cases e;exact hy
def Oh.py(h:Oh lt xs ys out na nb)(Sy:Sa lt ys)(h1:1<=nb)(hp:ys[nb-1]?=some p)(hx:∀(j:Nat) q,j<na->xs[j]?=some q->Le lt q p):Oh lt xs ys (out.push p) na (nb-1):=by
 rw[yK h1 hp];refine h.y Sy (by lia) λi q i1 i2 e=>?_;have:i=nb-1:=by lia
 rw[this,hp]at e;cases e;exact hx
theorem Oh.done(h:Oh lt xs ys out na nb)(Sx:Sa lt xs)(Sy:Sa lt ys)(e:na=0\/nb=0):Mg lt xs ys (xs.extract 0 na++ys.extract 0 nb++out.reverse):=by refine⟨h.pr.done,?_⟩;rw[RA,RA,SQ,SD,SD,VA];refine⟨⟨b7 Sx _ _,b7 Sy _ _,λp hp q hq=>?_⟩,h.so,λp hp q hq=>?_⟩;{obtain⟨i,_,i2,e⟩:=aR hq;obtain⟨j,_,j2,e3⟩:=aR hp;lia};have hq:=TU.mp hq;rcases R7.mp hp with hp|hp;{obtain⟨i,_,i2,e⟩:=aR hp;exact h.ax q hq i p i2 e};obtain⟨i,_,i2,e⟩:=aR hp;exact h.ay q hq i p i2 e
theorem Oh.first(h:Oh lt xs ys out na nb)(Sx:Sa lt xs)(Sy:Sa lt ys)(e:nb=1)(hf:∀p q (j:Nat),ys[0]?=some p->xs[j]?=some q->Le lt p q):Mg lt xs ys (ys.extract 0 nb++xs.extract 0 na++out.reverse):=by refine⟨h.pr.first,?_⟩;rw[RA,RA,SQ,SD,SD,VA];refine⟨⟨b7 Sy _ _,b7 Sx _ _,λp hp q hq=>?_⟩,h.so,λp hp q hq=>?_⟩;{obtain⟨i,_,i2,e2⟩:=aR hq;obtain⟨j,_,j2,e3⟩:=aR hp;rw[show j=0 by lia]at e3;exact hf p q i e3 e2};have hq:=TU.mp hq;rcases R7.mp hp with hp|hp;{obtain⟨i,_,i2,e⟩:=aR hp;exact h.ay q hq i p i2 e};obtain⟨i,_,i2,e⟩:=aR hp;exact h.ax q hq i p i2 e
end
inductive Nc(lt:Value->Value->Bool)(st:SortSt)(xs ys:Array Keyed) (x:Nat):Option (Array Keyed)×Nat×Nat×Array Keyed×Nat->SortSt->Prop
 |mk:∀(na nb:Nat)(out:Array Keyed) (mg:Nat)(st':SortSt),kY st st'->Oh lt xs ys out na nb->1<=na->2<=nb->na<=xs.size->nb<=ys.size->na+nb+x+1<=xs.size+ys.size->Nc lt st xs ys x (none,na,nb,out,mg) st'
inductive AX(lt:Value->Value->Bool)(st:SortSt)(xs ys:Array Keyed):Option (Array Keyed)×Nat×Nat×Array Keyed×Nat->SortSt->Prop
 |mk:∀(r:Array Keyed) (na nb:Nat)(out:Array Keyed) (mg:Nat)(st':SortSt),kY st st'->Mg lt xs ys r->AX lt st xs ys (some r,na,nb,out,mg) st'
inductive ID(lt:Value->Value->Bool)(st:SortSt)(xs ys:Array Keyed) (n y:Nat):Option (Array Keyed)×Nat×Nat×Array Keyed×Nat×Nat->SortSt->Prop
 |mk:∀(na nb:Nat)(out:Array Keyed) (ac bc:Nat),Oh lt xs ys out na nb->1<=na->2<=nb->na<=xs.size->nb<=ys.size->na+nb+y<=n->ID lt st xs ys n y (none,na,nb,out,ac,bc) st
inductive qN(lt:Value->Value->Bool)(st:SortSt)(xs ys:Array Keyed) (n:Nat):Option (Array Keyed)×Nat×Nat×Array Keyed×Nat×Nat->SortSt->Prop
 |dn:∀(r:Array Keyed) (na nb:Nat)(out:Array Keyed) (ac bc:Nat),Mg lt xs ys r->qN lt st xs ys n (some r,na,nb,out,ac,bc) st
 |go:∀(na nb:Nat)(out:Array Keyed) (ac bc:Nat),Oh lt xs ys out na nb->1<=na->2<=nb->na<=xs.size->nb<=ys.size->na+nb+1<=n->qN lt st xs ys n (none,na,nb,out,ac,bc) st
inductive Lp(lt:Value->Value->Bool)(st:SortSt)(xs ys:Array Keyed) (n:Nat):Option (Array Keyed)×Nat×Nat×Array Keyed×Nat×Nat×Nat->SortSt->Prop
 |mk:∀(na nb:Nat)(out:Array Keyed) (mg ac bc:Nat)(st':SortSt),kY st st'->Oh lt xs ys out na nb->1<=na->2<=nb->na<=xs.size->nb<=ys.size->na+nb<=n->Lp lt st xs ys n (none,na,nb,out,mg,ac,bc) st'
inductive nQ(lt:Value->Value->Bool)(st:SortSt)(xs ys:Array Keyed) (n:Nat):Option (Array Keyed)×Nat×Nat×Array Keyed×Nat×Nat×Nat->SortSt->Prop
 |dn:∀(r:Array Keyed) (na nb:Nat)(out:Array Keyed) (mg ac bc:Nat)(st':SortSt),kY st st'->Mg lt xs ys r->nQ lt st xs ys n (some r,na,nb,out,mg,ac,bc) st'
 |go:∀(na nb:Nat)(out:Array Keyed) (mg ac bc:Nat)(st':SortSt),kY st st'->Oh lt xs ys out na nb->1<=na->2<=nb->na<=xs.size->nb<=ys.size->na+nb<=n->nQ lt st xs ys n (none,na,nb,out,mg,ac,bc) st'
section
variable{prog:Program}{w:World}{A:Around}{E:WA}{s:Shared}{kd:SortKind}{P:Value->Prop}{lt:Value->Value->Bool}
def Qy{st:SortSt}(O:Ord lt)(L:gw prog w A s kd P lt)(hk:kindOf st=kd)(G1:Good P xs)(G2:Good P ys)(h1:1<=xs.size)(h2:1<=ys.size)(Sx:Sa lt xs)(Sy:Sa lt ys)(hf:∀p q (j:Nat),ys[0]?=some p->xs[j]?=some q->Le lt p q)(hl:∀(j:Nat) q p,ys[j]?=some q->xs[xs.size-1]?=some p->Le lt q p)(h:∀zs st',kY st st'->Mg lt xs ys zs->Q zs st') : wpS (model prog w) A E s (yi xs ys) Q st:=by
 unfold yi;refine Q4 (TR (Sw ⟨rfl,?_⟩));dsimp only;refine bW (by lia) λp hp=>?_;have pm0:Oh lt xs ys #[p] (xs.size-1) ys.size:=by
  have z:Pr xs ys #[] xs.size ys.size:=by unfold Pr;rw[VB (by simp),VB (by simp)];exact List.Perm.refl _
  have z2:Oh lt xs ys #[] xs.size ys.size:=⟨z,.nil,λ_ h=>(nomatch h),λ_ h=>(nomatch h)⟩;exact z2.px Sx h1 hp λj q _ e=>hl j q p e hp
 have g0:kY st st:=⟨rfl,rfl,rfl,rfl⟩;refine ef (λe1=>Q3 (h _ _ g0 (pm0.done Sx Sy (.inl e1)))) (λe1=>?_);refine ef (λe2=>Q3 (h _ _ g0 (pm0.first Sx Sy e2 hf))) (λe2=>?_);refine Q4 (wpS_get ?_);refine Q4 (RS (RT (I:=Nc lt st xs ys) (Q:=AX lt st xs ys) ?step ?fin (.mk _ _ _ _ _ g0 pm0 (by lia) (by lia) (by lia) (by lia) (by lia))) ?post)
 case post=>
  rintro _ st'⟨r,na,nb,out,mg,_,g,pr⟩;dsimp only;exact Q3 (h _ _ g pr)
 case fin=>
  rintro _ st'⟨na,nb,out,mg,_,_,_,a,b,c,d,e⟩;lia
 case step=>
  rintro x _ st' _ _⟨na,nb,out,mg,_,g,pm,a1,b1,c1,d1,f1⟩;dsimp only;have hk':kindOf st'=kd:=g.1.trans hk;refine Q4 (RS (RT (I:=ID lt st' xs ys (na+nb)) (Q:=qN lt st' xs ys (na+nb)) ?step1 ?fin1 (.mk _ _ _ _ _ pm a1 b1 c1 d1 (by lia))) ?post1)
  case fin1=>
   rintro _ _⟨na2,nX,out2,ac,bc,_,a,b,c,d,e⟩;lia
  case step1=>
   rintro y _ _ _ _⟨na2,nX,out2,ac,bc,pm2,a2,b2,c2,d2,f2⟩;dsimp only;refine bW (by lia) λp1 hp1=>?_
   refine bW (by lia) λp2 hp2=>?_
   refine ve L hk' (G2 _ _ hp1) (G1 _ _ hp2) ?_;dsimp only;cases cb:lt p1.1 p2.1 with
   |true=>rw[if_pos rfl];refine bW (by lia) λp3 hp3=>?_;rw[hp2]at hp3;cases hp3;have pm3:=pm2.px Sx (by lia) hp2 λj q hj e=>O.tr (Sy _ _ _ _ (by lia) e hp1) (O.of cb);refine ef (λe3=>Q3 (qN.dn _ _ _ _ _ _ (pm3.done Sx Sy (.inl e3)))) (λe3=>?_);refine bL (λe4=>?_) (λe4=>?_);{exact Q3 (qN.go _ _ _ _ _ pm3 (by lia) (by lia) (by lia) (by lia) (by lia))};exact Q3 (ID.mk _ _ _ _ _ pm3 (by lia) (by lia) (by lia) (by lia) (by lia))
   |false=>rw[if_neg QV];refine bW (by lia) λp3 hp3=>?_;rw[hp1]at hp3;cases hp3;have pm3:=pm2.py Sy (by lia) hp1 λj q hj e=>O.tr (Sx _ _ _ _ (by lia) e hp2) (show Le lt p2 p1 from cb);refine ef (λe3=>Q3 (qN.dn _ _ _ _ _ _ (pm3.first Sx Sy e3 hf))) (λe3=>?_);refine bL (λe4=>?_) (λe4=>?_);{exact Q3 (qN.go _ _ _ _ _ pm3 (by lia) (by lia) (by lia) (by lia) (by lia))};exact Q3 (ID.mk _ _ _ _ _ pm3 (by lia) (by lia) (by lia) (by lia) (by lia))
  case post1=>
   rintro _ _ (⟨r,na2,nX,out2,ac,bc,pr⟩|⟨na2,nX,out2,ac,bc,pm2,a2,b2,c2,d2,f2⟩)
   .exact Q3 (AX.mk _ _ _ _ _ _ g pr)
   .dsimp only;refine Q4 (TR (Sw ⟨rfl,?_⟩));refine Q4 (RS (RT (I:=λ_=>Lp lt st xs ys (na2+nX)) (Q:=nQ lt st xs ys (na2+nX)) ?step2 (λc st3 q=>by cases q;exact .go _ _ _ _ _ _ _ ‹_› ‹_› ‹_› ‹_› ‹_› ‹_› ‹_›) (.mk _ _ _ _ _ _ _ g pm2 a2 b2 c2 d2 (Q5 _))) ?post2)
    case step2=>
     rintro y _ st3 _ _⟨na3,nb3,out3,mg3,ac3,bc3,_,g3,pm3,a3,b3,c3,d3,f3⟩;dsimp only;have hk3:kindOf st3=kd:=g3.1.trans hk;refine bL (λe5=>?b1) (λe5=>?b2)
     generalize mg3-1=v;clear e5;revert v;refine ?key
     case b2=>exact ?key mg3
     intro v;refine Q4 (Rv ?_);refine bW (by lia) λp1 hp1=>?_
     refine kR O L hk3 (G2 _ _ hp1) G1 (by lia) (by lia) (Sx.so _ _) λk hk1 ka kb=>?_
     dsimp only;have ka':∀(i:Nat) p,i<k->xs[i]?=some p->Le lt p p1:=λi p h1 e=>ka i p h1 (by rw[SN];exact e)
     have kb':∀(i:Nat) p,k<=i->i<na3->xs[i]?=some p->Le lt p1 p:=λi p h1 h2 e=>kb i p h1 h2 (by rw[SN];exact e)
     clear ka kb;refine bL (λk0=>?c1) (λk0=>?c2)
     have pm4:=pm3.x Sx hk1 λi p h1 h2 e j q hj e2=>O.tr (Sy _ _ _ _ (by lia) e2 hp1) (kb' i p h1 h2 e)
     refine ef (λe7=>Q3 (nQ.dn _ _ _ _ _ _ _ _ g3 (pm4.done Sx Sy (.inl e7)))) (λe7=>?_)
     generalize out3++(xs.extract k na3).reverse=o at pm4⊢;generalize na3-k=d;have n1:1<=k:=by lia
     revert n1 ka' pm4;clear e7 k0 kb';revert hk1;generalize k=n;revert d o n;refine ?key2
     case c2=>exact ?key2 out3 (na3-k) na3 (Q5 _) (λi p h e=>ka' i p (by lia) e) pm3 (by lia)
     intro o d n hk1 ka' pm4 n1;refine bW (by lia) λp2 hp2=>?_
     rw[hp1]at hp2;cases hp2;have pm5:=pm4.py Sy (by lia) hp1 λj q hj e=>ka' j q hj e
     refine ef (λe8=>Q3 (nQ.dn _ _ _ _ _ _ _ _ g3 (pm5.first Sx Sy e8 hf))) (λe8=>?_)
     refine bW (by lia) λp3 hp3=>?_
     refine kR O L hk3 (G1 _ _ hp3) G2 (by lia) (by lia) (Sy.so _ _) λk2 hk2 ja jb=>?_
     dsimp only;have ja':∀(i:Nat) p,i<k2->ys[i]?=some p->Le lt p p3:=λi p h1 e=>ja i p h1 (by rw[SN];exact e)
     have jb':∀(i:Nat) p,k2<=i->i<nb3-1->ys[i]?=some p->Le lt p3 p:=λi p h1 h2 e=>jb i p h1 h2 (by rw[SN];exact e)
     clear ja jb;refine bL (λk20=>?d1) (λk20=>?d2)
     have pm6:=pm5.y Sy hk2 λi p h1 h2 e j q hj e2=>O.tr (Sx _ _ _ _ (by lia) e2 hp3) (jb' i p h1 h2 e)
     refine ef (λe9=>Q3 (nQ.dn _ _ _ _ _ _ _ _ g3 (pm6.first Sx Sy e9 hf))) (λe9=>?_)
     refine ef (λe9'=>Q3 (nQ.dn _ _ _ _ _ _ _ _ g3 (pm6.done Sx Sy (.inr e9')))) (λe9'=>?_)
     have n2:2<=k2:=by lia
     revert n2 ja' pm6;generalize o.push _++(ys.extract k2 (nb3-1)).reverse=o2;generalize nb3-1-k2=d2;clear e9 e9' k20 jb';revert hk2;generalize k2=m;revert d2 o2 m;refine ?key3
     case d2=>exact ?key3 _ _ _ (Q5 _) (λi p h e=>ja' i p (by lia) e) pm5 (by lia)
     intro o2 d2 m hm ja' pm6 n2;refine bW (by lia) λp4 hp4=>?_
     rw[hp3]at hp4;cases hp4;have pm7:=pm6.px Sx (by lia) hp3 λj q hj e=>ja' j q hj e
     refine ef (λe10=>Q3 (nQ.dn _ _ _ _ _ _ _ _ g3 (pm7.done Sx Sy (.inl e10)))) (λe10=>?_)
     refine bL (λ_=>?_) (λ_=>?_)
     .exact Q3 (nQ.go _ _ _ _ _ _ _ g3 pm7 (by lia) (by lia) (by lia) (by lia) (by lia))
     .exact Q3 (Lp.mk _ _ _ _ _ _ _ g3 pm7 (by lia) (by lia) (by lia) (by lia) (by lia))
    case post2=>
     rintro _ st3 (⟨r,na3,nb3,out3,mg3,ac3,bc3,_,g3,pr⟩|⟨na3,nb3,out3,mg3,ac3,bc3,_,g3,pm3,a3,b3,c3,d3,f3⟩)
     .exact Q3 (AX.mk _ _ _ _ _ _ g3 pr)
     .dsimp only;refine Q4 (Rv ?_);exact Q3 (Nc.mk _ _ _ _ _ g3 pm3 a3 b3 c3 d3 (by lia))
end
noncomputable def Si (lt:Value->Value->Bool)(xs:Array Keyed) (base n:Nat):Prop:=∀(i j:Nat) p q,i<=j->j<n->xs[base+i]?=some p->xs[base+j]?=some q->Le lt q p
noncomputable def d8 (lt:Value->Value->Bool)(xs:Array Keyed) (u v:Nat):Prop:=∀(i j:Nat) p q,u<=i->i<v->u<=j->j<v->xs[i]?=some p->xs[j]?=some q->Le lt p q
noncomputable def Cv (xs ys:Array Keyed) (u v:Nat):Prop:=∀k:Nat,ys[k]?=if u<=k/\k<v then xs[u+v-1-k]? else xs[k]?
section
variable{lt:Value->Value->Bool}(O:Ord lt){xs ys:Array Keyed}{lo n u v:Nat}
include O
def So.one:So lt xs lo 1:=λi j p q ij hj hi hq=>by rw[show i=j by lia,hq]at hi;cases hi;exact O.rfl'
def Si.one:Si lt xs lo 1:=λi j p q ij hj hi hq=>by rw[show i=j by lia,hq]at hi;cases hi;exact O.rfl'
def So.succ(S:So lt xs lo n)(n1:1<=n)(h:∀p q,xs[lo+n-1]?=some p->xs[lo+n]?=some q->Le lt p q)(hz:lo+n<=xs.size):So lt xs lo (n+1):=λi j p q ij hj hi hq=>by
 by_cases c:j<n;{exact S i j p q ij c hi hq};have jn:j=n:=by lia
 subst jn;by_cases ci:i=j;{rw[ci,hq]at hi;cases hi;exact O.rfl'};have em:xs[lo+j-1]?=some (xs[lo+j-1]'(by lia)):=RP (by lia);refine O.tr (S i (j-1) p _ (by lia) (by lia) hi (by rw[show lo+(j-1)=lo+j-1 by lia];exact em)) (h _ q em hq)
def Si.succ(S:Si lt xs lo n)(n1:1<=n)(h:∀p q,xs[lo+n-1]?=some p->xs[lo+n]?=some q->Le lt q p)(hz:lo+n<=xs.size):Si lt xs lo (n+1):=λi j p q ij hj hi hq=>by
 by_cases c:j<n;{exact S i j p q ij c hi hq};have jn:j=n:=by lia
 subst jn;by_cases ci:i=j;{rw[ci,hq]at hi;cases hi;exact O.rfl'};have em:xs[lo+j-1]?=some (xs[lo+j-1]'(by lia)):=RP (by lia);exact O.tr (h _ q em hq) (S i (j-1) p _ (by lia) (by lia) hi (by rw[show lo+(j-1)=lo+j-1 by lia];exact em))
omit O in
def Si.rev(S:Si lt xs lo n)(M:Cv xs ys lo (lo+n)):So lt ys lo n:=λi j p q ij hj hi hq=>by rw[M,if_pos (by lia)]at hi hq;refine S (n-1-j) (n-1-i) q p (by lia) (by lia) ?_ ?_;{rw[show lo+(n-1-j)=lo+(lo+n)-1-(lo+j)by lia];exact hq};rw[show lo+(n-1-i)=lo+(lo+n)-1-(lo+i)by lia];exact hi
omit O in
def Si.jM(S:Si lt xs lo n)(E:d8 lt xs u v)(h1:lo<=u)(h2:v<=lo+n)(M:Cv xs ys u v):Si lt ys lo n:=λi j p q ij hj hi hq=>by rw[M]at hi hq;have at_:∀(a b:Nat),lo<=a->a<=b->b<lo+n->xs[a]?=some p->xs[b]?=some q->Le lt q p:=λa b ha hab hb ea eb=>S (a-lo) (b-lo) p q (by lia) (by lia) (by rw[show lo+(a-lo)=a by lia];exact ea) (by rw[show lo+(b-lo)=b by lia];exact eb);by_cases c1:u<=lo+i/\lo+i<v;{rw[if_pos c1]at hi;by_cases c2:u<=lo+j/\lo+j<v;{rw[if_pos c2]at hq;exact E _ _ q p (by lia) (by lia) (by lia) (by lia) hq hi};rw[if_neg c2]at hq;exact at_ _ _ (by lia) (by lia) (by lia) hi hq};rw[if_neg c1]at hi;by_cases c2:u<=lo+j/\lo+j<v;{rw[if_pos c2]at hq;exact at_ _ _ (by lia) (by lia) (by lia) hi hq};rw[if_neg c2]at hq;exact at_ _ _ (by lia) (by lia) (by lia) hi hq
def d8.one:d8 lt xs u (u+1):=λi j p q h1 h2 h3 h4 hi hq=>by rw[show i=j by lia,hq]at hi;cases hi;exact O.rfl'
def d8.succ(E:d8 lt xs u v)(uv:u<v)(h:∀p q,xs[v-1]?=some p->xs[v]?=some q->Le lt p q/\Le lt q p)(hz:v<=xs.size):d8 lt xs u (v+1):=λi j p q h1 h2 h3 h4 hi hq=>by have em:xs[v-1]?=some (xs[v-1]'(by lia)):=RP (by lia);by_cases ci:i=v;{by_cases cj:j=v;{rw[ci,<-cj,hq]at hi;cases hi;exact O.rfl'};rw[ci]at hi;exact O.tr (h _ p em hi).2 (E (v-1) j _ q (by lia) (by lia) (by lia) (by lia) em hq)};by_cases cj:j=v;{rw[cj]at hq;exact O.tr (E i (v-1) p _ (by lia) (by lia) (by lia) (by lia) hi em) (h _ q em hq).1};exact E i j p q h1 (by lia) h3 (by lia) hi hq
def So.eqs(S:So lt xs lo n)(n1:1<=n)(h:∀p q,xs[lo]?=some p->xs[lo+n-1]?=some q->Le lt q p)(hz:lo+n<=xs.size):d8 lt xs lo (lo+n):=λi j p q h1 h2 h3 h4 hi hq=>by have e0:xs[lo]?=some (xs[lo]'(by lia)):=RP (by lia);have em:xs[lo+n-1]?=some (xs[lo+n-1]'(by lia)):=RP (by lia);have a:=S (i-lo) (n-1) p _ (by lia) (by lia) (by rw[show lo+(i-lo)=i by lia];exact hi) (by rw[show lo+(n-1)=lo+n-1 by lia];exact em);have b:=S 0 (j-lo) _ q (by lia) (by lia) e0 (by rw[show lo+(j-lo)=j by lia];exact hq);exact O.tr (O.tr a (h _ _ e0 em)) b
omit O in
def d8.si(E:d8 lt xs lo (lo+n)):Si lt xs lo n:=λi j p q ij hj hi hq=>E _ _ q p (by lia) (by lia) (by lia) (by lia) hq hi
omit O in
def d8.jM(E:d8 lt xs u v)(M:Cv xs ys u v):d8 lt ys u v:=λi j p q h1 h2 h3 h4 hi hq=>by rw[M,if_pos ⟨by assumption,by assumption⟩]at hi hq;exact E _ _ p q (by lia) (by lia) (by lia) (by lia) hi hq
omit O in
def So.ins{l x:Nat}(S:So lt xs lo x)(hlx:l<=x)(hl:∀(i:Nat) p q,i<l->xs[lo+i]?=some p->xs[lo+x]?=some q->Le lt p q)(hr:∀(i:Nat) p q,l<=i->i<x->xs[lo+i]?=some p->xs[lo+x]?=some q->Le lt q p)(O:Ord lt)(hb:∀k:Nat,ys[k]?=if k=lo+l then xs[lo+x]? else if lo+l<k/\k<=lo+x then xs[k-1]? else xs[k]?):So lt ys lo (x+1):=λi j p q ij hj hi hq=>by rw[hb]at hi hq;by_cases ci:i=l;{rw[if_pos (by lia)]at hi;by_cases cj:j=l;{rw[if_pos (by lia),hi]at hq;cases hq;exact O.rfl'};rw[if_neg (by lia),if_pos (by lia),show lo+j-1=lo+(j-1)by lia]at hq;exact hr (j-1) q p (by lia) (by lia) hq hi};by_cases cj:j=l;{rw[if_pos (by lia)]at hq;rw[if_neg (by lia),if_neg (by lia)]at hi;exact hl i p q (by lia) hi hq};by_cases ci2:l<i;{rw[if_neg (by lia),if_pos (by lia),show lo+i-1=lo+(i-1)by lia]at hi;rw[if_neg (by lia),if_pos (by lia),show lo+j-1=lo+(j-1)by lia]at hq;exact S (i-1) (j-1) p q (by lia) (by lia) hi hq};rw[if_neg (by lia),if_neg (by lia)]at hi;by_cases cj2:l<j;{rw[if_neg (by lia),if_pos (by lia),show lo+j-1=lo+(j-1)by lia]at hq;exact S i (j-1) p q (by lia) (by lia) hi hq};rw[if_neg (by lia),if_neg (by lia)]at hq;exact S i j p q ij (by lia) hi hq
end
section
variable{prog:Program}{w:World}{A:Around}{E:WA}{s:Shared}{kd:SortKind}{P:Value->Prop}{xs0:Array Keyed}{lt:Value->Value->Bool}
def eV{st:SortSt}{i j:Nat}(L:gw prog w A s kd P lt)(G:Good P xs0)(B:SB kd xs0 st)(hi:i<xs0.size)(hj:j<xs0.size)(h:∀p q,(arrOf st)[i]?=some p->(arrOf st)[j]?=some q->Q (some (lt p.1 q.1)) st):wpS (model prog w) A E s (ltAt' i j) Q st:=by rw[ltAt'_eq];refine Q4 (wpS_get ?_);have G':=G.perm B.perm;refine Q4 (jX (by rw[B.size];exact hi) λp hp=>?_);refine Q4 (jX (by rw[B.size];exact hj) λq hq=>?_);exact Bf L B.kind (G' _ _ hp) (G' _ _ hq) (h p q hp hq)
def gu{st:SortSt}{i j:Nat}(B:SB kd xs0 st)(hj:j<=xs0.size)(h:∀st',SB kd xs0 st'->pendingOf st'=pendingOf st->Cv (arrOf st) (arrOf st') i j->Q () st'):wpS (model prog w) A E s (reverseSlice' i j) Q st:=by rw[reverseSlice'_eq];exact Rv (h _ ⟨(mirror_perm _ _ _ _).trans B.perm,B.kind,B.ok⟩ rfl λk=>getElem?_mirror_all (by rw[B.size];exact hj) k)
noncomputable def Fx (lo:Nat)(st st':SortSt):Prop:=∀i:Nat,i<lo->(arrOf st')[i]?=(arrOf st)[i]?
def Fx.jM{lo u v:Nat}{st st' st2:SortSt}(F:Fx lo st st')(M:Cv (arrOf st') (arrOf st2) u v)(h:lo<=u):Fx lo st st2:=λi hi=>by rw[M,if_neg (by lia)];exact F i hi
def M8{st:SortSt}{lo nrem:Nat}(O:Ord lt)(L:gw prog w A s kd P lt)(G:Good P xs0)(B:SB kd xs0 st)(h1:1<=nrem)(hn:lo+nrem<=xs0.size)(h:∀m st',SB kd xs0 st'->pendingOf st'=pendingOf st->1<=m->m<=nrem->So lt (arrOf st') lo m->Fx lo st st'->Q (some m) st') : wpS (model prog w) A E s (countRun' lo nrem) Q st:=by
 unfold countRun';have sz:=B.size;refine Q4 (RS (RT (I:=λx c st'=>st'=st/\c.1=none/\c.2=x/\So lt (arrOf st) lo x) (Q:=λc st'=>st'=st/\c.1=none/\1<=c.2/\c.2<=nrem/\So lt (arrOf st) lo c.2/\(c.2<nrem->∀p q,(arrOf st)[lo+c.2-1]?=some p->(arrOf st)[lo+c.2]?=some q->lt q.1 p.1=true)) ?step ?fin ⟨rfl,rfl,rfl,So.one O⟩) ?post)
 case step=>
  rintro x⟨o,n⟩st' a b⟨rfl,rfl,rfl,S⟩;dsimp only at a b S⊢;refine Q4 (eV L G B (by lia) (by lia) λp q hp hq=>?_)
  dsimp only;refine bL (λcs=>Q3 ⟨rfl,rfl,by dsimp only;lia,by dsimp only;lia,S,λ_ p' q' hp' hq'=>?_⟩) (λcs=>Q3 ⟨rfl,rfl,rfl,So.succ O S (by lia) (λp' q' hp' hq'=>?_) (by lia)⟩)
  .dsimp only at hp' hq';rw[hq]at hp';rw[hp]at hq';cases hp';cases hq';exact cs
  .rw[hq]at hp';rw[hp]at hq';cases hp';cases hq';show lt p.1 q.1=false
   simpa using cs
 case fin=>
  rintro⟨o,n⟩st'⟨rfl,rfl,e,S⟩;dsimp only at e S;rw[<-e]at S;exact⟨rfl,rfl,by dsimp only;lia,by dsimp only;lia,S,λz=>by dsimp only at z;lia⟩
 case post=>
  rintro⟨o,n⟩st'⟨rfl,rfl,n1,n2,S,fall⟩;dsimp only at n1 n2 S fall⊢;have F0:Fx lo st' st':=λ_ _=>rfl
  refine ef (λe=>Q3 (h _ _ B rfl n1 n2 S F0)) (λe=>?_)
  have fall:=fall (by lia)
  refine bL (λn0=>?_) (λn0=>?_)
  .refine Q4 (eV L G B (by lia) (by lia) λp q hp hq=>?_)
   dsimp only;refine bL (λ_=>Q3 (h _ _ B rfl n1 n2 S F0)) (λcr=>?_)
   have E0:d8 lt (arrOf st') lo (lo+n):=So.eqs O S n1 (λp' q' hp' hq'=>by
    rw[hp]at hp';rw[hq]at hq';cases hp';cases hq';show lt p.1 q.1=false
    simpa using cr) (by lia)
   refine Q4 (gu B (by lia) λst6 B6 p6 M6=>?_)
   have F6:Fx lo st' st6:=F0.jM M6 (Q5 _);have E0':=E0.jM M6;have S6:Si lt (arrOf st6) lo (n+1):=Si.succ O E0'.si n1 (λp' q' hp' hq'=>by
    rw[M6,if_neg (by lia)]at hq'
    rw[M6,if_pos (by lia)]at hp'
    have em:(arrOf st')[lo+n-1]?=some ((arrOf st')[lo+n-1]'(by lia)):=RP (by lia)
    exact O.tr (O.of (fall _ q' em hq')) (E0 (lo+n-1) _ _ p' (by lia) (by lia) (by lia) (by lia) em hp')) (by rw[B6.size];lia)
   have E6:d8 lt (arrOf st6) (lo+(n+1)-(0+1)) (lo+(n+1)):=by
    rw[show lo+(n+1)-(0+1)=lo+n by lia]
    exact d8.one O
   refine Q4 (TR (Sw ⟨rfl,?_⟩));refine Q4 (RS (RT (I:=λx c st2=>SB kd xs0 st2/\pendingOf st2=pendingOf st'/\c.1=none/\c.2.1=x/\Si lt (arrOf st2) lo x/\c.2.2+1<=x/\d8 lt (arrOf st2) (lo+x-(c.2.2+1)) (lo+x)/\Fx lo st' st2) (Q:=λc st2=>SB kd xs0 st2/\pendingOf st2=pendingOf st'/\c.1=none/\1<=c.2.1/\c.2.1<=nrem/\Si lt (arrOf st2) lo c.2.1/\c.2.2+1<=c.2.1/\d8 lt (arrOf st2) (lo+c.2.1-(c.2.2+1)) (lo+c.2.1)/\Fx lo st' st2) ?step1 ?fin1 ⟨B6,p6,rfl,rfl,S6,by dsimp only;lia,E6,F6⟩) ?post1)
   case step1=>
    rintro x⟨o,m,nq⟩st2 a b⟨B2,p2,rfl,rfl,S2,l2,E2,F2⟩;dsimp only at a b S2 l2 E2⊢;have z2:=B2.size;refine Q4 (eV L G B2 (by lia) (by lia) λp q hp hq=>?_)
    dsimp only;refine bL (λcs=>?_) (λcs=>?_)
    .have S3:=Si.succ O S2 (by lia) (λp' q' hp' hq'=>by
      rw[hq]at hp';rw[hp]at hq';cases hp';cases hq';exact O.of cs) (by lia)
     refine bL (λ_=>?_) (λ_=>?_)
     .refine Q4 (gu B2 (by lia) λst3 B3 p3 M3=>Q3 ⟨B3,p3.trans p2,rfl,rfl,S3.jM E2 (by lia) (by lia) M3,by dsimp only;lia,?_,F2.jM M3 (by lia)⟩)
      dsimp only;rw[show lo+(m+1)-(0+1)=lo+m by lia]
      exact d8.one O
     .refine Q3 ⟨B2,p2,rfl,rfl,S3,by dsimp only;lia,?_,F2⟩
      dsimp only;rw[show lo+(m+1)-(0+1)=lo+m by lia]
      exact d8.one O
    .refine Q4 (eV L G B2 (by lia) (by lia) λp2' q2' hp2 hq2=>?_)
     rw[hq]at hp2;rw[hp]at hq2;cases hp2;cases hq2;dsimp only;refine bL (λcl=>?_) (λcl=>?_)
     .exact Q3 ⟨B2,p2,rfl,by dsimp only;lia,by dsimp only;lia,S2,l2,E2,F2⟩
     .have e1:Le lt q p:=by
       show lt p.1 q.1=false
       simpa using cs
      have e2:Le lt p q:=by
       show lt q.1 p.1=false
       simpa using cl
      refine Q3 ⟨B2,p2,rfl,rfl,Si.succ O S2 (by lia) (λp' q' hp' hq'=>?_) (by lia),by dsimp only;lia,?_,F2⟩
      .rw[hq]at hp';rw[hp]at hq';cases hp';cases hq';exact e2
      .dsimp only;rw[show lo+(m+1)-(nq+1+1)=lo+m-(nq+1)by lia]
       show d8 lt (arrOf st2) (lo+m-(nq+1)) (lo+m+1);refine d8.succ O E2 (by lia) (λp' q' hp' hq'=>?_) (by lia)
       rw[hq]at hp';rw[hp]at hq';cases hp';cases hq';exact⟨e1,e2⟩
   case fin1=>
    rintro⟨o,m,nq⟩st2⟨B2,p2,rfl,e2,S2,l2,E2,F2⟩;dsimp only at e2 S2 l2 E2;rw[<-e2]at S2 l2 E2;exact⟨B2,p2,rfl,by dsimp only;lia,by dsimp only;lia,S2,l2,E2,F2⟩
   case post1=>
    rintro⟨o,m,nq⟩st2⟨B2,p2,rfl,m1,m2,S2,l2,E2,F2⟩;dsimp only at m1 m2 S2 l2 E2⊢;refine bL (λ_=>?_) (λ_=>?_)
    .refine Q4 (gu B2 (by lia) λst3 B3 p3 M3=>?_)
     have S3:=S2.jM E2 (by lia) (by lia) M3
     refine Q4 (gu B3 (by lia) λst4 B4 p4 M4=>?_)
     have S4:=S3.rev M4;have F4:Fx lo st' st4:=(F2.jM M3 (by lia)).jM M4 (Q5 _)
     refine Q4 (RS (RT (I:=λx c st5=>st5=st4/\c.1=none/\c.2=x/\So lt (arrOf st4) lo x) (Q:=λc st5=>st5=st4/\c.1=none/\1<=c.2/\c.2<=nrem/\So lt (arrOf st4) lo c.2) ?stepL1a ?finL1a ⟨rfl,rfl,rfl,S4⟩) ?postL1a)
     case stepL1a=>
      rintro x⟨o,m⟩st5 a b⟨rfl,rfl,rfl,S5⟩;dsimp only at a b S5⊢;refine Q4 (eV L G B4 (by lia) (by lia) λp q hp hq=>?_)
      dsimp only;refine bL (λ_=>Q3 ⟨rfl,rfl,by dsimp only;lia,by dsimp only;lia,S5⟩) (λcc=>Q3 ⟨rfl,rfl,rfl,So.succ O S5 (by lia) (λp' q' hp' hq'=>?_) (by rw[B4.size];lia)⟩)
      rw[hq]at hp';rw[hp]at hq';cases hp';cases hq';show lt p.1 q.1=false
      simpa using cc
     case finL1a=>
      rintro⟨o,m⟩st5⟨rfl,rfl,e2,S5⟩;dsimp only at e2 S5;rw[<-e2]at S5;exact⟨rfl,rfl,by dsimp only;lia,by dsimp only;lia,S5⟩
     case postL1a=>
      rintro⟨o,m⟩st5⟨rfl,rfl,k1,k2,S5⟩;dsimp only at k1 k2 S5⊢;exact Q3 (h _ _ B4 (p4.trans (p3.trans p2)) k1 k2 S5 F4)
    .refine Q4 (gu B2 (by lia) λst4 B4 p4 M4=>?_)
     have S4:=S2.rev M4;have F4:Fx lo st' st4:=F2.jM M4 (Q5 _);refine Q4 (RS (RT (I:=λx c st5=>st5=st4/\c.1=none/\c.2=x/\So lt (arrOf st4) lo x) (Q:=λc st5=>st5=st4/\c.1=none/\1<=c.2/\c.2<=nrem/\So lt (arrOf st4) lo c.2) ?stepL1b ?finL1b ⟨rfl,rfl,rfl,S4⟩) ?postL1b)
     case stepL1b=>
      rintro x⟨o,m⟩st5 a b⟨rfl,rfl,rfl,S5⟩;dsimp only at a b S5⊢;refine Q4 (eV L G B4 (by lia) (by lia) λp q hp hq=>?_)
      dsimp only;refine bL (λ_=>Q3 ⟨rfl,rfl,by dsimp only;lia,by dsimp only;lia,S5⟩) (λcc=>Q3 ⟨rfl,rfl,rfl,So.succ O S5 (by lia) (λp' q' hp' hq'=>?_) (by rw[B4.size];lia)⟩)
      rw[hq]at hp';rw[hp]at hq';cases hp';cases hq';show lt p.1 q.1=false
      simpa using cc
     case finL1b=>
      rintro⟨o,m⟩st5⟨rfl,rfl,e2,S5⟩;dsimp only at e2 S5;rw[<-e2]at S5;exact⟨rfl,rfl,by dsimp only;lia,by dsimp only;lia,S5⟩
     case postL1b=>
      rintro⟨o,m⟩st5⟨rfl,rfl,k1,k2,S5⟩;dsimp only at k1 k2 S5⊢;exact Q3 (h _ _ B4 (p4.trans p2) k1 k2 S5 F4)
  .have n01:n=1:=by lia
   subst n01;have p6:pendingOf st'=pendingOf st':=rfl;have B6:=B;have F6:=F0;have S6:Si lt (arrOf st') lo (1+1):=Si.succ O (Si.one O) (Q5 _) (λp' q' hp' hq'=>O.of (fall p' q' hp' hq')) (by lia)
   have E6:d8 lt (arrOf st') (lo+(1+1)-(0+1)) (lo+(1+1)):=by
    rw[show lo+(1+1)-(0+1)=lo+1 by lia]
    exact d8.one O
   refine Q4 (TR (Sw ⟨rfl,?_⟩));refine Q4 (RS (RT (I:=λx c st2=>SB kd xs0 st2/\pendingOf st2=pendingOf st'/\c.1=none/\c.2.1=x/\Si lt (arrOf st2) lo x/\c.2.2+1<=x/\d8 lt (arrOf st2) (lo+x-(c.2.2+1)) (lo+x)/\Fx lo st' st2) (Q:=λc st2=>SB kd xs0 st2/\pendingOf st2=pendingOf st'/\c.1=none/\1<=c.2.1/\c.2.1<=nrem/\Si lt (arrOf st2) lo c.2.1/\c.2.2+1<=c.2.1/\d8 lt (arrOf st2) (lo+c.2.1-(c.2.2+1)) (lo+c.2.1)/\Fx lo st' st2) ?step2 ?fin2 ⟨B6,p6,rfl,rfl,S6,by dsimp only;lia,E6,F6⟩) ?post2)
   case step2=>
    rintro x⟨o,m,nq⟩st2 a b⟨B2,p2,rfl,rfl,S2,l2,E2,F2⟩;dsimp only at a b S2 l2 E2⊢;have z2:=B2.size;refine Q4 (eV L G B2 (by lia) (by lia) λp q hp hq=>?_)
    dsimp only;refine bL (λcs=>?_) (λcs=>?_)
    .have S3:=Si.succ O S2 (by lia) (λp' q' hp' hq'=>by
      rw[hq]at hp';rw[hp]at hq';cases hp';cases hq';exact O.of cs) (by lia)
     refine bL (λ_=>?_) (λ_=>?_)
     .refine Q4 (gu B2 (by lia) λst3 B3 p3 M3=>Q3 ⟨B3,p3.trans p2,rfl,rfl,S3.jM E2 (by lia) (by lia) M3,by dsimp only;lia,?_,F2.jM M3 (by lia)⟩)
      dsimp only;rw[show lo+(m+1)-(0+1)=lo+m by lia]
      exact d8.one O
     .refine Q3 ⟨B2,p2,rfl,rfl,S3,by dsimp only;lia,?_,F2⟩
      dsimp only;rw[show lo+(m+1)-(0+1)=lo+m by lia]
      exact d8.one O
    .refine Q4 (eV L G B2 (by lia) (by lia) λp2' q2' hp2 hq2=>?_)
     rw[hq]at hp2;rw[hp]at hq2;cases hp2;cases hq2;dsimp only;refine bL (λcl=>?_) (λcl=>?_)
     .exact Q3 ⟨B2,p2,rfl,by dsimp only;lia,by dsimp only;lia,S2,l2,E2,F2⟩
     .have e1:Le lt q p:=by
       show lt p.1 q.1=false
       simpa using cs
      have e2:Le lt p q:=by
       show lt q.1 p.1=false
       simpa using cl
      refine Q3 ⟨B2,p2,rfl,rfl,Si.succ O S2 (by lia) (λp' q' hp' hq'=>?_) (by lia),by dsimp only;lia,?_,F2⟩
      .rw[hq]at hp';rw[hp]at hq';cases hp';cases hq';exact e2
      .dsimp only;rw[show lo+(m+1)-(nq+1+1)=lo+m-(nq+1)by lia]
       show d8 lt (arrOf st2) (lo+m-(nq+1)) (lo+m+1);refine d8.succ O E2 (by lia) (λp' q' hp' hq'=>?_) (by lia)
       rw[hq]at hp';rw[hp]at hq';cases hp';cases hq';exact⟨e1,e2⟩
   case fin2=>
    rintro⟨o,m,nq⟩st2⟨B2,p2,rfl,e2,S2,l2,E2,F2⟩;dsimp only at e2 S2 l2 E2;rw[<-e2]at S2 l2 E2;exact⟨B2,p2,rfl,by dsimp only;lia,by dsimp only;lia,S2,l2,E2,F2⟩
   case post2=>
    rintro⟨o,m,nq⟩st2⟨B2,p2,rfl,m1,m2,S2,l2,E2,F2⟩;dsimp only at m1 m2 S2 l2 E2⊢;refine bL (λ_=>?_) (λ_=>?_)
    .refine Q4 (gu B2 (by lia) λst3 B3 p3 M3=>?_)
     have S3:=S2.jM E2 (by lia) (by lia) M3
     refine Q4 (gu B3 (by lia) λst4 B4 p4 M4=>?_)
     have S4:=S3.rev M4;have F4:Fx lo st' st4:=(F2.jM M3 (by lia)).jM M4 (Q5 _)
     refine Q4 (RS (RT (I:=λx c st5=>st5=st4/\c.1=none/\c.2=x/\So lt (arrOf st4) lo x) (Q:=λc st5=>st5=st4/\c.1=none/\1<=c.2/\c.2<=nrem/\So lt (arrOf st4) lo c.2) ?stepL2a ?finL2a ⟨rfl,rfl,rfl,S4⟩) ?postL2a)
     case stepL2a=>
      rintro x⟨o,m⟩st5 a b⟨rfl,rfl,rfl,S5⟩;dsimp only at a b S5⊢;refine Q4 (eV L G B4 (by lia) (by lia) λp q hp hq=>?_)
      dsimp only;refine bL (λ_=>Q3 ⟨rfl,rfl,by dsimp only;lia,by dsimp only;lia,S5⟩) (λcc=>Q3 ⟨rfl,rfl,rfl,So.succ O S5 (by lia) (λp' q' hp' hq'=>?_) (by rw[B4.size];lia)⟩)
      rw[hq]at hp';rw[hp]at hq';cases hp';cases hq';show lt p.1 q.1=false
      simpa using cc
     case finL2a=>
      rintro⟨o,m⟩st5⟨rfl,rfl,e2,S5⟩;dsimp only at e2 S5;rw[<-e2]at S5;exact⟨rfl,rfl,by dsimp only;lia,by dsimp only;lia,S5⟩
     case postL2a=>
      rintro⟨o,m⟩st5⟨rfl,rfl,k1,k2,S5⟩;dsimp only at k1 k2 S5⊢;exact Q3 (h _ _ B4 (p4.trans (p3.trans p2)) k1 k2 S5 F4)
    .refine Q4 (gu B2 (by lia) λst4 B4 p4 M4=>?_)
     have S4:=S2.rev M4;have F4:Fx lo st' st4:=F2.jM M4 (Q5 _);refine Q4 (RS (RT (I:=λx c st5=>st5=st4/\c.1=none/\c.2=x/\So lt (arrOf st4) lo x) (Q:=λc st5=>st5=st4/\c.1=none/\1<=c.2/\c.2<=nrem/\So lt (arrOf st4) lo c.2) ?stepL2b ?finL2b ⟨rfl,rfl,rfl,S4⟩) ?postL2b)
     case stepL2b=>
      rintro x⟨o,m⟩st5 a b⟨rfl,rfl,rfl,S5⟩;dsimp only at a b S5⊢;refine Q4 (eV L G B4 (by lia) (by lia) λp q hp hq=>?_)
      dsimp only;refine bL (λ_=>Q3 ⟨rfl,rfl,by dsimp only;lia,by dsimp only;lia,S5⟩) (λcc=>Q3 ⟨rfl,rfl,rfl,So.succ O S5 (by lia) (λp' q' hp' hq'=>?_) (by rw[B4.size];lia)⟩)
      rw[hq]at hp';rw[hp]at hq';cases hp';cases hq';show lt p.1 q.1=false
      simpa using cc
     case finL2b=>
      rintro⟨o,m⟩st5⟨rfl,rfl,e2,S5⟩;dsimp only at e2 S5;rw[<-e2]at S5;exact⟨rfl,rfl,by dsimp only;lia,by dsimp only;lia,S5⟩
     case postL2b=>
      rintro⟨o,m⟩st5⟨rfl,rfl,k1,k2,S5⟩;dsimp only at k1 k2 S5⊢;exact Q3 (h _ _ B4 (p4.trans p2) k1 k2 S5 F4)
def PM{st:SortSt}{lo n k:Nat}(O:Ord lt)(L:gw prog w A s kd P lt)(G:Good P xs0)(B:SB kd xs0 st)(hn:lo+n<=xs0.size)(hk:1<=k)(kn:k<=n)(S:So lt (arrOf st) lo k)(h:∀st',SB kd xs0 st'->pendingOf st'=pendingOf st->So lt (arrOf st') lo n->Fx lo st st'->Q true st') : wpS (model prog w) A E s (binarySort' lo n k) Q st:=by
 rw[binarySort'_eq];have mk:max k 1=k:=by lia
 rw[mk];refine Q4 (RS (RT (I:=λx c st'=>SB kd xs0 st'/\pendingOf st'=pendingOf st/\c.1=none/\So lt (arrOf st') lo x/\Fx lo st st') (Q:=λc st'=>SB kd xs0 st'/\pendingOf st'=pendingOf st/\c.1=none/\So lt (arrOf st') lo n/\Fx lo st st') ?step ?fin ⟨B,rfl,rfl,S,λ_ _=>rfl⟩) ?post)
 case post=>
  rintro⟨o,u⟩st'⟨B1,p1,rfl,S1,F1⟩;exact Q3 (h _ B1 p1 S1 F1)
 case fin=>
  rintro⟨o,u⟩st'⟨B1,p1,e,S1,F1⟩;rw[show max k n=n by lia]at S1
  exact⟨B1,p1,e,S1,F1⟩
 case step=>
  rintro x⟨o,u⟩st' a b⟨B1,p1,rfl,S1,F1⟩;have z1:=B1.size;have ex:(arrOf st')[lo+x]?=some ((arrOf st')[lo+x]'(by lia)):=RP (by lia)
  generalize (arrOf st')[lo+x]'(by lia)=pv at ex
  dsimp only;refine Q4 (RS (RT (I:=λy c st2=>st2=st'/\c.1=none/\c.2.1<=c.2.2/\c.2.2<=x/\c.2.2-c.2.1+y<=x/\(∀(i:Nat) p,i<c.2.1->(arrOf st')[lo+i]?=some p->Le lt p pv)/\(∀(i:Nat) p,c.2.2<=i->i<x->(arrOf st')[lo+i]?=some p->Le lt pv p)) (Q:=λc st2=>st2=st'/\c.1=none/\c.2.1<=x/\(∀(i:Nat) p,i<c.2.1->(arrOf st')[lo+i]?=some p->Le lt p pv)/\(∀(i:Nat) p,c.2.1<=i->i<x->(arrOf st')[lo+i]?=some p->Le lt pv p)) ?step1 ?fin1 ⟨rfl,rfl,RO _,Q5 _,by dsimp only;lia,λi p hi=>absurd hi (Ru _),λi p h1 h2=>absurd h2 (by dsimp only at h1;lia)⟩) ?post1)
  case step1=>
   rintro y⟨o,l,r⟩st2 _ _⟨rfl,rfl,q1,q2,q3,q4,q5⟩;dsimp only at q1 q2 q3 q4 q5⊢;refine bL (λc=>?_) (λlr=>?_)
   .have:l=r:=by lia
    subst this;exact Q3 ⟨rfl,rfl,q2,q4,q5⟩
   refine Q4 (eV L G B1 (by lia) (by lia) λp q hp hq=>?_)
   rw[ex]at hp;cases hp;dsimp only;refine bL (λc=>Q3 ⟨rfl,rfl,by dsimp only;lia,by dsimp only;lia,by dsimp only;lia,q4,λi p' h1 h2 e=>?_⟩) (λc=>Q3 ⟨rfl,rfl,by dsimp only;lia,by dsimp only;lia,by dsimp only;lia,λi p' h1 e=>?_,q5⟩)
   .exact O.tr (O.of c) (S1 _ i _ _ (by dsimp only at h1;lia) h2 hq e)
   .exact O.tr (S1 i _ _ _ (by dsimp only at h1;lia) (by lia) e hq) (show lt pv.1 q.1=false by simpa using c)
  case fin1=>
   rintro⟨o,l,r⟩st2⟨q0,qn,q1,q2,q3,q4,q5⟩;dsimp only at q1 q2 q3 q4 q5;have:l=r:=by lia
   subst this;exact⟨q0,qn,q2,q4,q5⟩
  case post1=>
   rintro⟨o,l,r⟩st2⟨rfl,rfl,le,q4,q5⟩;dsimp only at le q4 q5⊢;refine Q4 (Rv ?_);have hb:∀k:Nat,(bubble (arrOf st2) (lo+x) (lo+x-(lo+l)))[k]?=if k=lo+l then(arrOf st2)[lo+x]? else if lo+l<k/\k<=lo+x then(arrOf st2)[k-1]? else(arrOf st2)[k]?:=λk=>by rw[getElem?_bubble (by lia) _ (by lia) k,show lo+x-(lo+x-(lo+l))=lo+l by lia]
   refine Q3 ⟨⟨(bubble_perm _ _ _).trans B1.perm,B1.kind,B1.ok⟩,p1,rfl,?_,?_⟩
   .refine S1.ins le (λi p q h1 e1 e2=>?_) (λi p q h1 h2 e1 e2=>?_) O hb
    .rw[ex]at e2;cases e2;exact q4 i p h1 e1
    .rw[ex]at e2;cases e2;exact q5 i p h1 h2 e1
   .intro i hi;show(bubble (arrOf st2) (lo+x) (lo+x-(lo+l)))[i]?=_;rw[hb,if_neg (by lia),if_neg (by lia)]
    exact F1 i hi
end
section
variable{lt:Value->Value->Bool}
def So.join(O:Ord lt){s n m:Nat}(S:So lt a s n)(T:So lt a (s+n) m)(h:∀(i j:Nat) p q,i<n->j<m->a[s+i]?=some p->a[s+n+j]?=some q->Le lt p q):So lt a s (n+m):=λi j p q ij hj hi hq=>by by_cases ci:i<n;{by_cases cj:j<n;{exact S i j p q ij cj hi hq};refine h i (j-n) p q ci (by lia) hi ?_;rw[show s+n+(j-n)=s+j by lia];exact hq};refine T (i-n) (j-n) p q (by lia) (by lia) ?_ ?_;{rw[show s+n+(i-n)=s+i by lia];exact hi};rw[show s+n+(j-n)=s+j by lia];exact hq
def So.at{s n:Nat}(S:So lt a s n){i j:Nat}(h1:s<=i)(h2:i<=j)(h3:j<s+n)(hi:a[i]?=some p)(hq:a[j]?=some q):Le lt p q:=
 S (i-s) (j-s) p q (by lia) (by lia) (by rw[show s+(i-s)=i by lia];exact hi) (by rw[show s+(j-s)=j by lia];exact hq)
def So.frame{s n:Nat}(S:So lt a s n)(h:∀i:Nat,s<=i->i<s+n->a'[i]?=a[i]?):So lt a' s n:=λi j p q ij hj hi hq=>by rw[h _ (by lia) (by lia)]at hi hq;exact S i j p q ij hj hi hq
def So.sa{s n u v:Nat}(S:So lt a s n)(h1:s<=u)(h2:v<=s+n):Sa lt (a.extract u v):=λi j p q ij hi hq=>by rw[T8]at hi hq;split at hi;{split at hq;{exact S.at (by lia) (by lia) (by lia) hi hq};cases hq};cases hi
def CK(O:Ord lt){zs:Array Keyed}(h:zs.toList.Pairwise (Le lt)){i j:Nat}(ij:i<=j)(hi:zs[i]?=some p)(hq:zs[j]?=some q):Le lt p q:=by rcases Nat.eq_or_lt_of_le ij with e|l;{rw[e,hq]at hi;cases hi;exact O.rfl'};rw[<-RJ]at hi hq;obtain⟨h1,e1⟩:=RW.mp hi;obtain⟨h2,e2⟩:=RW.mp hq;have:=Tj.mp h i j h1 h2 l;rw[e1,e2]at this;exact this
end
section
variable{prog:Program}{w:World}{A:Around}{E:WA}{s:Shared}{kd:SortKind}{P:Value->Prop}{xs0:Array Keyed}{lt:Value->Value->Bool}
def Ls{st:SortSt}{i sa na pw sb nb pb:Nat}{Q:Bool->SortSt->Prop}(O:Ord lt)(L:gw prog w A s kd P lt)(G:Good P xs0)(B:SB kd xs0 st)(e1:(pendingOf st)[i]?=some (sa,na,pw))(e2:(pendingOf st)[i+1]?=some (sb,nb,pb))(c:sb=sa+na)(n1:1<=na)(n2:1<=nb)(le:sb+nb<=xs0.size)(SA:So lt (arrOf st) sa na)(SB':So lt (arrOf st) sb nb)(h:∀st',SB kd xs0 st'->pendingOf st'=((pendingOf st).setIfInBounds i (sa,na+nb,pw)).eraseIdxIfInBounds (i+1)->So lt (arrOf st') sa (na+nb)->(∀j:Nat,(j<sa\/sb+nb<=j)->(arrOf st')[j]?=(arrOf st)[j]?)->Q true st'):wpS (model prog w) A E s (mergeAt' i) Q st:=by
 have G':=G.perm B.perm;have sz:=B.size;unfold mergeAt';refine Q4 (wpS_get ?_);dsimp only;rw[e1,e2];dsimp only;refine Q4 (?_:wpS _ _ _ _ (set _) _ _);unfold wpS;rw[StateT.run_set];refine Q2 ⟨rfl,?_⟩;refine Q4 (jX (by rw[sz];lia) λp hp=>?_)
 have B1:SB kd xs0 (SortSt.mk' (kindOf st) (arrOf st) (((pendingOf st).setIfInBounds i (sa,na+nb,pw)).eraseIdxIfInBounds (i+1)) (gallopOf st) (failedOf st)):=⟨B.perm,B.kind,B.ok⟩;refine Q4 (uE O L B.kind (G' _ _ hp) G' (show sa+na<=(arrOf st).size by lia) (by lia) SA λk hk ka kb=>?_)
 have ka':∀(x y:Nat) p' q',sa<=x->x<sa+k->sb<=y->y<sb+nb->(arrOf st)[x]?=some p'->(arrOf st)[y]?=some q'->Le lt p' q':=λx y p' q' h1 h2 h3 h4 ex ey=>O.tr (ka (x-sa) p' (by lia) (by rw[show sa+(x-sa)=x by lia];exact ex)) (SB'.at (Q5 _) h3 h4 hp ey)
 dsimp only;refine ef (λe3=>?_) (λe3=>?_)
 .subst c;refine Q3 (h _ B1 rfl (SA.join O SB' λx y p' q' hx hy ex ey=>ka' _ _ p' q' (by lia) (by lia) (by lia) (by lia) ex ey) λ_ _=>rfl)
 refine Q4 (jX (show sa+k+(na-k)-1<(arrOf st).size by lia) λp2 hp2=>?_)
 rw[show sa+k+(na-k)-1=sb-1 by lia]at hp2
 refine Q4 (uE O L B.kind (G' _ _ hp2) G' (show sb+nb<=(arrOf st).size by lia) (by lia) SB' λk2 hk2 ja jb=>?_)
 have jb':∀(x y:Nat) p' q',sa<=x->x<sb->sb+k2<=y->y<sb+nb->(arrOf st)[x]?=some p'->(arrOf st)[y]?=some q'->Le lt p' q':=λx y p' q' h1 h2 h3 h4 ex ey=>O.tr (SA.at h1 (show x<=sb-1 by lia) (by lia) ex hp2) (jb (y-sb) q' (by lia) (by lia) (by rw[show sb+(y-sb)=y by lia];exact ey))
 dsimp only;refine ef (λe4=>?_) (λe4=>?_)
 .subst c;refine Q3 (h _ B1 rfl (SA.join O SB' λx y p' q' hx hy ex ey=>jb' _ _ p' q' (by lia) (by lia) (by lia) (by lia) ex ey) λ_ _=>rfl)
 have x1:((arrOf st).extract (sa+k) sb).size=sb-(sa+k):=by
  rw[UN];lia
 have x2:((arrOf st).extract sb (sb+k2)).size=k2:=by
  rw[UN];lia
 have Sx:Sa lt ((arrOf st).extract (sa+k) sb):=SA.sa (by lia) (by lia)
 have Sy:Sa lt ((arrOf st).extract sb (sb+k2)):=SB'.sa (by lia) (by lia)
 have hf:∀p' q' (j:Nat),((arrOf st).extract sb (sb+k2))[0]?=some p'->((arrOf st).extract (sa+k) sb)[j]?=some q'->Le lt p' q':=λp' q' j ep eq=>by
  rw[T8]at ep eq;split at ep
  .split at eq
   .rw[Ux,hp]at ep;cases ep;exact kb (k+j) q' (by lia) (by lia) (by rw[show sa+(k+j)=sa+k+j by lia];exact eq)
   .cases eq
  .cases ep
 have hl:∀(j:Nat) q' p',((arrOf st).extract sb (sb+k2))[j]?=some q'->((arrOf st).extract (sa+k) sb)[((arrOf st).extract (sa+k) sb).size-1]?=some p'->Le lt q' p':=λj q' p' eq ep=>by
  rw[x1]at ep;rw[T8]at ep eq;split at ep
  .split at eq
   .rw[show sa+k+(sb-(sa+k)-1)=sb-1 by lia,hp2]at ep
    cases ep;exact ja j q' (by lia) eq
   .cases eq
  .cases ep
 have fin:∀zs:Array Keyed,Mg lt ((arrOf st).extract (sa+k) sb) ((arrOf st).extract sb (sb+k2)) zs->(zs.toList.zipIdx.foldl (λa (x:Keyed×Nat)=>a.setIfInBounds (sa+k+x.2) x.1) (arrOf st)).Perm xs0/\So lt (zs.toList.zipIdx.foldl (λa (x:Keyed×Nat)=>a.setIfInBounds (sa+k+x.2) x.1) (arrOf st)) sa (na+nb)/\∀j:Nat,(j<sa\/sb+nb<=j)->(zs.toList.zipIdx.foldl (λa (x:Keyed×Nat)=>a.setIfInBounds (sa+k+x.2) x.1) (arrOf st))[j]?=(arrOf st)[j]?:=λzs ⟨pm,srt⟩=>by
  have zl:zs.toList.length=sb+k2-(sa+k):=by
   rw[pm.length_eq,RC,RQ,RQ,x1,x2];lia
  have fl:=yL (sa+k) zs.toList 0 (arrOf st) (by lia)
  rw[Ux,show sa+k+zs.toList.length=sb+k2 by lia]at fl
  generalize zs.toList.zipIdx.foldl (λa (x:Keyed×Nat)=>a.setIfInBounds (sa+k+x.2) x.1) (arrOf st)=a' at fl⊢
  have at_:∀j:Nat,a'[j]?=if j<sa+k then(arrOf st)[j]? else if j<sb+k2 then zs[j-(sa+k)]? else(arrOf st)[j]?:=λj=>by
   rw[<-RJ,fl];have tl:((arrOf st).toList.take (sa+k)).length=sa+k:=by
    rw[S9,RQ];lia
   by_cases c1:j<sa+k
   .rw[if_pos c1,Sl (by lia),VP c1,RJ]
   .rw[if_neg c1,T5 (by lia),tl]
    by_cases c2:j<sb+k2
    .rw[if_pos c2,Sl (by lia),RJ]
    .rw[if_neg c2,T5 (by lia),zl,Vh,RJ]
     congr 1;lia
  have zin:∀(j:Nat) p',zs[j]?=some p'->∃x,sa+k<=x/\x<sb+k2/\(arrOf st)[x]?=some p':=λj p' ez=>by
   have m:p'∈zs.toList:=RD (by rw[RJ];exact ez)
   rcases R7.mp (pm.mem_iff.mp m)with m|m
   .obtain⟨x,h1,h2,e⟩:=aR m;exact⟨x,h1,by lia,e⟩
   .obtain⟨x,h1,h2,e⟩:=aR m;exact⟨x,by lia,h2,e⟩
  -- below k: not above all that comes
  have low:∀(x y:Nat) p' q',sa<=x->x<sa+k->x<=y->y<sb+nb->(arrOf st)[x]?=some p'->(arrOf st)[y]?=some q'->Le lt p' q':=λx y p' q' h1 h2 h3 h4 ex ey=>by
   by_cases c1:y<sb
   .exact SA.at h1 h3 (by lia) ex ey
   .exact ka' x y p' q' h1 h2 (by lia) h4 ex ey
  have high:∀(x y:Nat) p' q',sa<=x->x<=y->sb+k2<=y->y<sb+nb->(arrOf st)[x]?=some p'->(arrOf st)[y]?=some q'->Le lt p' q':=λx y p' q' h1 h2 h3 h4 ex ey=>by
   by_cases c1:x<sb
   .exact jb' x y p' q' h1 c1 h3 h4 ex ey
   .exact SB'.at (by lia) h2 h4 ex ey
  refine⟨?_,λx y p' q' xy hy ex ey=>?_,λj hj=>?_⟩
  .refine Array.Perm.trans (V8.mpr ?_) B.perm;rw[fl];have e:=seg (arrOf st) (show sa+k<=sb by lia) (show sb<=sb+k2 by lia)
   conv=>rhs;rw[e]
   refine Se _ ?_;rw[<-RY];exact pm.append_right _
  .rw[at_]at ex ey
   by_cases c1:sa+x<sa+k
   .rw[if_pos c1]at ex
    by_cases c2:sa+y<sa+k
    .rw[if_pos c2]at ey;exact low _ _ p' q' (by lia) c1 (by lia) (by lia) ex ey
    .rw[if_neg c2]at ey
     by_cases c3:sa+y<sb+k2
     .rw[if_pos c3]at ey;obtain⟨z,z1,z2,ez⟩:=zin _ _ ey;exact low _ z p' q' (by lia) c1 (by lia) (by lia) ex ez
     .rw[if_neg c3]at ey;exact low _ _ p' q' (by lia) c1 (by lia) (by lia) ex ey
   .rw[if_neg c1]at ex;have c2:¬sa+y<sa+k:=by lia
    rw[if_neg c2]at ey
    by_cases c3:sa+y<sb+k2
    .rw[if_pos c3]at ey;rw[if_pos (by lia)]at ex
     exact CK O srt (by lia) ex ey
    .rw[if_neg c3]at ey
     by_cases c4:sa+x<sb+k2
     .rw[if_pos c4]at ex;obtain⟨z,z1,z2,ez⟩:=zin _ _ ex;exact high z _ p' q' (by lia) (by lia) (by lia) (by lia) ez ey
     .rw[if_neg c4]at ex;exact high _ _ p' q' (by lia) (by lia) (by lia) (by lia) ex ey
  .rw[at_];rcases hj with hj|hj
   .rw[if_pos (by lia)]
   .rw[if_neg (by lia),if_neg (by lia)]
 refine bL (λ_=>?_) (λ_=>?_)
 .refine Q4 (Qp O L B.kind (G'.extract _ _) (G'.extract _ _) (show 1<=((arrOf st).extract (sa+k) sb).size by lia) (show 1<=((arrOf st).extract sb (sb+k2)).size by lia) Sx Sy hf hl λzs st2 g pm=>?_)
  obtain⟨g1,g2,g3,g4⟩:=g;refine Q4 (Rv ?_);refine Q4 (wpS_get ?_);refine Q3 ?_;have e:(failedOf st2).isNone=true:=by
   rw[g4];show(failedOf st).isNone=true;rw[B.ok];rfl
  show Q (failedOf st2).isNone _;rw[e];obtain⟨f1,f2,f3⟩:=fin zs pm;have g2':arrOf st2=arrOf st:=g2;refine h _ ⟨?_,g1.trans B.kind,g4.trans B.ok⟩ g3 ?_ ?_
  .show(zs.toList.zipIdx.foldl (λa (x:Keyed×Nat)=>a.setIfInBounds (sa+k+x.2) x.1) (arrOf st2)).Perm xs0
   rw[g2'];exact f1
  .show So lt (zs.toList.zipIdx.foldl (λa (x:Keyed×Nat)=>a.setIfInBounds (sa+k+x.2) x.1) (arrOf st2)) sa (na+nb)
   rw[g2'];exact f2
  .show ∀j:Nat,(j<sa\/sb+nb<=j)->(zs.toList.zipIdx.foldl (λa (x:Keyed×Nat)=>a.setIfInBounds (sa+k+x.2) x.1) (arrOf st2))[j]?=(arrOf st)[j]?
   rw[g2'];exact f3
 .refine Q4 (Qy O L B.kind (G'.extract _ _) (G'.extract _ _) (show 1<=((arrOf st).extract (sa+k) sb).size by lia) (show 1<=((arrOf st).extract sb (sb+k2)).size by lia) Sx Sy hf hl λzs st2 g pm=>?_)
  obtain⟨g1,g2,g3,g4⟩:=g;refine Q4 (Rv ?_);refine Q4 (wpS_get ?_);refine Q3 ?_;have e:(failedOf st2).isNone=true:=by
   rw[g4];show(failedOf st).isNone=true;rw[B.ok];rfl
  show Q (failedOf st2).isNone _;rw[e];obtain⟨f1,f2,f3⟩:=fin zs pm;have g2':arrOf st2=arrOf st:=g2;refine h _ ⟨?_,g1.trans B.kind,g4.trans B.ok⟩ g3 ?_ ?_
  .show(zs.toList.zipIdx.foldl (λa (x:Keyed×Nat)=>a.setIfInBounds (sa+k+x.2) x.1) (arrOf st2)).Perm xs0
   rw[g2'];exact f1
  .show So lt (zs.toList.zipIdx.foldl (λa (x:Keyed×Nat)=>a.setIfInBounds (sa+k+x.2) x.1) (arrOf st2)) sa (na+nb)
   rw[g2'];exact f2
  .show ∀j:Nat,(j<sa\/sb+nb<=j)->(zs.toList.zipIdx.foldl (λa (x:Keyed×Nat)=>a.setIfInBounds (sa+k+x.2) x.1) (arrOf st2))[j]?=(arrOf st)[j]?
   rw[g2'];exact f3
end
noncomputable def aU (lt:Value->Value->Bool)(a:Array Keyed):Nat->List (Nat×Nat×Nat)->Nat->Prop
 |f,[],lo=>f=lo
 |f,(s,n,_)::r,lo=>s=f/\1<=n/\So lt a s n/\aU lt a (f+n) r lo
section
variable{lt:Value->Value->Bool}{a a':Array Keyed}
theorem aU.le:∀{l:List (Nat×Nat×Nat)}{f lo:Nat},aU lt a f l lo->f<=lo
 |[],f,lo,h=>TF h
 | (s,n,p)::r,f,lo,⟨_,h1,_,h⟩=>by have:=aU.le h;lia
theorem aU.len:∀{l:List (Nat×Nat×Nat)}{f lo:Nat},aU lt a f l lo->f+l.length<=lo
 |[],f,lo,h=>TF h
 | (s,n,p)::r,f,lo,⟨_,h1,_,h⟩=>by have:=aU.len h;rw[RK];lia
theorem aU.frame:∀{l:List (Nat×Nat×Nat)}{f lo:Nat},aU lt a f l lo->(∀i:Nat,f<=i->i<lo->a'[i]?=a[i]?)->aU lt a' f l lo
 |[],f,lo,h,_=>h
 | (s,n,p)::r,f,lo,⟨h0,h1,S,h⟩,F=>by have:=aU.le h;exact⟨h0,h1,S.frame λi hi hj=>F i (by lia) (by lia),aU.frame h λi hi hj=>F i (by lia) hj⟩
theorem aU.two:∀{l:List (Nat×Nat×Nat)}{f lo:Nat} (i:Nat),aU lt a f l lo->i+1<l.length->∃sa na pw sb nb pb,l[i]?=some (sa,na,pw)/\l[i+1]?=some (sb,nb,pb)/\sb=sa+na/\1<=na/\1<=nb/\f<=sa/\sb+nb<=lo/\So lt a sa na/\So lt a sb nb
 | (s,n,p)::(s2,n2,p2)::r,f,lo,0,⟨h1,h2,S,h3,h4,S2,h5⟩,_=>⟨s,n,p,s2,n2,p2,rfl,rfl,by lia,h2,h4,by lia,by have:=h5.le;lia,S,S2⟩
 | (s,n,p)::r,f,lo,i+1,⟨h0,h1,_,h⟩,hl=>by obtain⟨sa,na,pw,sb,nb,pb,e1,e2,e3,e4,e5,e6,e7⟩:=aU.two i h (by simpa using hl);exact⟨sa,na,pw,sb,nb,pb,e1,e2,e3,e4,e5,by lia,e7⟩
 |[],_,_,_,_,hl=>by simp at hl
 |[_],_,_,0,_,hl=>by simp at hl
theorem aU.merge:∀{l:List (Nat×Nat×Nat)}{f lo:Nat} (i:Nat){sa na pw sb nb pb:Nat},aU lt a f l lo->l[i]?=some (sa,na,pw)->l[i+1]?=some (sb,nb,pb)->So lt a' sa (na+nb)->(∀j:Nat,(j<sa\/sb+nb<=j)->a'[j]?=a[j]?)->aU lt a' f ((l.set i (sa,na+nb,pw)).eraseIdx (i+1)) lo
 | (s,n,p)::(s2,n2,p2)::r,f,lo,0,sa,na,pw,sb,nb,pb,⟨h1,h2,S,h3,h4,S2,h5⟩,e1,e2,T,F=>by cases e1;cases e2;refine⟨h1,by lia,T,?_⟩;rw[<-Nat.add_assoc];exact h5.frame λi hi _=>F i (.inr (by lia))
 | (s,n,p)::r,f,lo,i+1,sa,na,pw,sb,nb,pb,⟨h1,h2,S,h⟩,e1,e2,T,F=>by
  have le:f+n<=sa:=by
   have hl:i+1<r.length:=by have:=(RW.mp e2).1;rw[RK]at this;lia
   obtain⟨sa',na',pw',sb',nb',pb',e1',_,_,_,_,e6,_⟩:=aU.two i h hl;have:some (sa,na,pw)=some (sa',na',pw'):=e1.symm.trans e1';cases this;exact e6
  exact⟨h1,h2,S.frame λj hj hk=>F j (.inl (by lia)),aU.merge i h e1 e2 T F⟩
 |[],_,_,_,_,_,_,_,_,_,_,e1,_,_,_=>by cases e1
 |[_],_,_,0,_,_,_,_,_,_,_,_,e2,_,_=>by cases e2
theorem aU.mod(pw:Nat):∀{l:List (Nat×Nat×Nat)}{f lo:Nat} (j:Nat),aU lt a f l lo->aU lt a f (l.modify j λx=>(x.1,x.2.1,pw)) lo
 |[],f,lo,j,h=>by rw[List.modify_nil];exact h
 | (s,n,p)::r,f,lo,0,⟨h1,h2,S,h⟩=>⟨h1,h2,S,h⟩
 | (s,n,p)::r,f,lo,j+1,⟨h1,h2,S,h⟩=>⟨h1,h2,S,aU.mod pw j h⟩
theorem aU.push{n:Nat}(hn:1<=n):∀{l:List (Nat×Nat×Nat)}{f lo:Nat},aU lt a f l lo->So lt a lo n->aU lt a f (l++[(lo,n,0)]) (lo+n)
 |[],f,lo,h,S=>⟨h.symm,hn,S,by show f+n=lo+n;rw[show f=lo from h]⟩
 | (s,m,p)::r,f,lo,⟨h1,h2,S0,h⟩,S=>⟨h1,h2,S0,aU.push hn h S⟩
def aU.whole:∀{l:List (Nat×Nat×Nat)}{lo:Nat},aU lt a 0 l lo->l.length<=1->So lt a 0 lo
 |[],lo,h,_=>λi j p q ij hj=>by have:0=lo:=h;lia
 |[(s,n,p)],lo,⟨h1,h2,S,h⟩,_=>by have e:0+n=lo:=h;rw[h1]at S;rw[<-e,SN];exact S
 |_::_::_,_,_,h=>by simp at h
end
section
variable{prog:Program}{w:World}{A:Around}{E:WA}{s:Shared}{kd:SortKind}{P:Value->Prop}{xs0:Array Keyed}{lt:Value->Value->Bool}
def pG{st:SortSt}{i lo:Nat}(O:Ord lt)(L:gw prog w A s kd P lt)(G:Good P xs0)(B:SB kd xs0 st)(C:aU lt (arrOf st) 0 (pendingOf st).toList lo)(le:lo<=xs0.size)(hi:i+1<(pendingOf st).size)(h:∀st',SB kd xs0 st'->aU lt (arrOf st') 0 (pendingOf st').toList lo->(pendingOf st').size+1=(pendingOf st).size->(∀j:Nat,lo<=j->(arrOf st')[j]?=(arrOf st)[j]?)->Q true st'):wpS (model prog w) A E s (mergeAt' i) Q st:=by obtain⟨sa,na,pw,sb,nb,pb,e1,e2,c,n1,n2,_,l2,S1,S2⟩:=C.two i (by simpa using hi);refine Ls O L G B (by rw[<-RJ];exact e1) (by rw[<-RJ];exact e2) c n1 n2 (by lia) S1 S2 λst' B' p' S' F'=>h st' B' ?_ ?_ λj hj=>F' j (.inr (by lia));{rw[p',Vx,Vg];exact C.merge i e1 e2 S' F'};rw[<-RQ,p',Vx,Vg,List.length_eraseIdx_of_lt (by rw[Rf,RQ];exact hi),Rf,RQ];lia
def N5{st:SortSt}(O:Ord lt)(L:gw prog w A s kd P lt)(G:Good P xs0)(B:SB kd xs0 st)(p0:pendingOf st=#[])(h:∀st',SB kd xs0 st'->So lt (arrOf st') 0 xs0.size->Q () st'):wpS (model prog w) A E s sortRuns' Q st:=by
 rw[sortRuns'_eq];refine Q4 (wpS_get ?_);dsimp only;rw[B.size];refine Q4 (RS (RT (I:=λx c st'=>SB kd xs0 st'/\c.1=none/\aU lt (arrOf st') 0 (pendingOf st').toList c.2/\c.2<=xs0.size/\min x xs0.size<=c.2) (Q:=λc st'=>SB kd xs0 st'/\c.1=none/\aU lt (arrOf st') 0 (pendingOf st').toList c.2/\c.2=xs0.size) ?step ?fin ⟨B,rfl,by rw[p0];rfl,RO _,by dsimp only;lia⟩) ?post)
 case fin=>
  rintro⟨o,lo⟩st'⟨B1,rfl,C1,l1,l2⟩;dsimp only at C1 l1 l2;exact⟨B1,rfl,C1,by dsimp only;lia⟩
 case step=>
  rintro x⟨o,lo⟩st' _ _⟨B1,rfl,C1,l1,lx⟩;dsimp only at C1 l1 lx⊢;refine bL (λge=>Q3 ⟨B1,rfl,C1,by dsimp only;lia⟩) (λge=>?_)
  refine Q4 (M8 O L G B1 (by lia) (by lia) λm st2 B2 p2 m1 m2 S2 F2=>?_)
  dsimp only;have C2:aU lt (arrOf st2) 0 (pendingOf st2).toList lo:=by rw[p2];exact C1.frame λi _ hi=>F2 i hi
  refine bL (λltm=>?_) (λltm=>?_)
  .refine Q4 (TR (Sw ⟨rfl,?_⟩));generalize hf:min (xs0.size-lo) (minRun' xs0.size xs0.size 0)=force;have f1:1<=force:=by lia
   have f2:lo+force<=xs0.size:=by lia
   refine Q4 (PM O L G B2 f2 m1 (by lia) S2 λst3 B3 p3 S3 F3=>?_)
   have C3:aU lt (arrOf st3) 0 (pendingOf st3).toList lo:=by rw[p3];exact C2.frame λi _ hi=>F3 i hi
   refine bL (λz=>absurd z (by decide)) (λ_=>?_)
   refine Q4 (wpS_get ?_);cases hb:(pendingOf st3).back? with
   |none=>
    dsimp only;refine Q4 (Rv ?_);refine Q3 ⟨⟨B3.perm,B3.kind,B3.ok⟩,rfl,?_,f2,by dsimp only;lia⟩
    show aU lt (arrOf st3) 0 ((pendingOf st3).push (lo,force,0)).toList (lo+force);rw[UT];exact C3.push f1 S3
   |some t=>
    obtain⟨s1,n1',q1⟩:=t;dsimp only;refine Q4 (RS (RT (I:=λy c st4=>SB kd xs0 st4/\c.1=none/\aU lt (arrOf st4) 0 (pendingOf st4).toList lo/\So lt (arrOf st4) lo force) (Q:=λc st4=>SB kd xs0 st4/\c.1=none/\aU lt (arrOf st4) 0 (pendingOf st4).toList lo/\So lt (arrOf st4) lo force) ?step1 (λ_ _ q=>q) ⟨B3,rfl,C3,S3⟩) ?post1)
    case step1=>
     rintro y⟨o,u⟩st4 _ _⟨B4,rfl,C4,S4⟩;refine Q4 (wpS_get ?_);cases hm:(if(pendingOf st4).size>1 then(pendingOf st4)[(pendingOf st4).size-2]? else none)with
     |none=>exact Q3 ⟨B4,rfl,C4,S4⟩
     |some t=>
      obtain⟨f1,f2,older⟩:=t;dsimp only;refine bL (λ_=>Q3 ⟨B4,rfl,C4,S4⟩) (λ_=>?_)
      have s2:(pendingOf st4).size>1:=by
       by_cases z:(pendingOf st4).size>1
       .exact z
       .rw[if_neg z]at hm;cases hm
      refine Q4 (pG O L G B4 C4 l1 (by lia) λst5 B5 C5 _ F5=>?_)
      exact bL (λz=>absurd z (by decide)) (λ_=>Q3 ⟨B5,rfl,C5,S4.frame λi hi _=>F5 i hi⟩)
    case post1=>
     rintro⟨o,u⟩st4⟨B4,rfl,C4,S4⟩;dsimp only;refine Q4 (Rv ?_);refine Q4 (Rv ?_);refine Q3 ⟨⟨B4.perm,B4.kind,B4.ok⟩,rfl,?_,f2,by dsimp only;lia⟩
     refine id (?_:aU lt (arrOf st4) 0 (((pendingOf st4).modify ((pendingOf st4).size-1) λx=>(x.1,x.2.1,_)).push (lo,force,0)).toList (lo+force))
     rw[UT,Array.toList_modify];exact(C4.mod _ _).push f1 S4
  .have f2:lo+m<=xs0.size:=by lia
   refine Q4 (wpS_get ?_);cases hb:(pendingOf st2).back? with
   |none=>
    dsimp only;refine Q4 (Rv ?_);refine Q3 ⟨⟨B2.perm,B2.kind,B2.ok⟩,rfl,?_,f2,by dsimp only;lia⟩
    show aU lt (arrOf st2) 0 ((pendingOf st2).push (lo,m,0)).toList (lo+m);rw[UT];exact C2.push m1 S2
   |some t=>
    obtain⟨s1,n1',q1⟩:=t;dsimp only;refine Q4 (RS (RT (I:=λy c st4=>SB kd xs0 st4/\c.1=none/\aU lt (arrOf st4) 0 (pendingOf st4).toList lo/\So lt (arrOf st4) lo m) (Q:=λc st4=>SB kd xs0 st4/\c.1=none/\aU lt (arrOf st4) 0 (pendingOf st4).toList lo/\So lt (arrOf st4) lo m) ?step2 (λ_ _ q=>q) ⟨B2,rfl,C2,S2⟩) ?post2)
    case step2=>
     rintro y⟨o,u⟩st4 _ _⟨B4,rfl,C4,S4⟩;refine Q4 (wpS_get ?_);cases hm:(if(pendingOf st4).size>1 then(pendingOf st4)[(pendingOf st4).size-2]? else none)with
     |none=>exact Q3 ⟨B4,rfl,C4,S4⟩
     |some t=>
      obtain⟨f1,f2,older⟩:=t;dsimp only;refine bL (λ_=>Q3 ⟨B4,rfl,C4,S4⟩) (λ_=>?_)
      have s2:(pendingOf st4).size>1:=by
       by_cases z:(pendingOf st4).size>1
       .exact z
       .rw[if_neg z]at hm;cases hm
      refine Q4 (pG O L G B4 C4 l1 (by lia) λst5 B5 C5 _ F5=>?_)
      exact bL (λz=>absurd z (by decide)) (λ_=>Q3 ⟨B5,rfl,C5,S4.frame λi hi _=>F5 i hi⟩)
    case post2=>
     rintro⟨o,u⟩st4⟨B4,rfl,C4,S4⟩;dsimp only;refine Q4 (Rv ?_);refine Q4 (Rv ?_);refine Q3 ⟨⟨B4.perm,B4.kind,B4.ok⟩,rfl,?_,f2,by dsimp only;lia⟩
     refine id (?_:aU lt (arrOf st4) 0 (((pendingOf st4).modify ((pendingOf st4).size-1) λx=>(x.1,x.2.1,_)).push (lo,m,0)).toList (lo+m))
     rw[UT,Array.toList_modify];exact(C4.mod _ _).push m1 S4
 case post=>
  rintro⟨o,lo⟩st'⟨B1,rfl,C1,l1⟩;dsimp only at C1 l1⊢;subst l1;have len:=C1.len;rw[SN,RQ]at len;refine Q4 (RS (RT (I:=λy c st4=>SB kd xs0 st4/\c.1=none/\aU lt (arrOf st4) 0 (pendingOf st4).toList xs0.size/\(pendingOf st4).size+y<=xs0.size) (Q:=λc st4=>SB kd xs0 st4/\c.1=none/\aU lt (arrOf st4) 0 (pendingOf st4).toList xs0.size/\(pendingOf st4).size<=1) ?stepE ?finE ⟨B1,rfl,C1,by lia⟩) ?postE)
  case stepE=>
   rintro y⟨o,u⟩st4 _ _⟨B4,rfl,C4,y4⟩;refine Q4 (wpS_get ?_);refine bL (λc=>Q3 ⟨B4,rfl,C4,c⟩) (λgt=>?_)
   refine Q4 (pG O L G B4 C4 (Q5 _) (by(repeat' split)<;>lia) λst5 B5 C5 z5 _=>?_)
   exact bL (λz=>absurd z (by decide)) (λ_=>Q3 ⟨B5,rfl,C5,by lia⟩)
  case finE=>
   rintro⟨o,u⟩st4⟨B4,rfl,C4,y4⟩;exact⟨B4,rfl,C4,by lia⟩
  case postE=>
   rintro⟨o,u⟩st4⟨B4,rfl,C4,y4⟩;dsimp only;exact Q3 (h _ B4 (C4.whole (by rw[RQ];exact y4)))
end
noncomputable def pk (h:Heap):Value->Int×Int
 |.ref a=>match h.get? a with
  |some o=>match o.data with
   |.seq it _=>match it.toList with
    |[.int i _,.int j _]=>(i,j)
    |_=>(0,0)
   |_=>(0,0)
  |none=>(0,0)
 |_=>(0,0)
def pw_short{α:Type}{R:α->α->Prop}:∀(l:List α),l.length<2->l.Pairwise R
 |[],_=>.nil
 |[_],_=>List.pairwise_singleton _ _
 |_::_::_,h=>absurd h (by simp)
noncomputable def lC (p q:Int×Int):Bool:=if p.1=q.1 then decide (p.2<q.2)else decide (p.1<q.1)
def qw (h:Heap)(u v:Value):Bool:=lC (pk h u) (pk h v)
def CL(h:lC p q=true):lC q p=false:=by unfold lC at *;split at h;{rename_i e;rw[if_pos e.symm];have:=RN h;exact Rm (by lia)};rename_i e;rw[if_neg (λz=>e z.symm)];have:=RN h;exact Rm (by lia)
def mz:lC q p=false↔p.1<q.1\/(p.1=q.1/\p.2<=q.2):=by unfold lC;split;{rename_i e;rw[VC];lia};rename_i e;rw[VC];lia
def Px(h:Heap):Ord (qw h):=⟨λa b e=>CL e,λa b c e f=>by
 have e':=mz.mp e;have f':=mz.mp f;exact mz.mpr (by lia)⟩
def mE{a:Addr}{i j:Int}{n:Nat}(ho:h.get? a=some o)(hd:o.data=.seq #[.int i t,.int j u] n):pk h (.ref a)=(i,j):=by unfold pk;dsimp only;rw[ho];dsimp only;rw[hd]
def uw(p:IsPair h v)(k:∀b o,v=.ref b->h.get? b=some o->h'.get? b=some o):pk h' v=pk h v:=by obtain⟨b,o,i,j,t,u,n,rfl,ho,hc,hd⟩:=p;rw[mE ho hd,mE (k b o rfl ho) hd]
section
variable{prog:Program}{w:World}{A:Around}{E:WA}{s:Shared}
def AB(b:Bool){i j:Int}(h:Q (decide (i<j)) s):wpAny (model prog w) A (oneLt' b (.int i t) (.int j u)) Q E s:=by
 cases b with
 |true=>exact oneLt_int h
 |false=>rw[oneLt'_eq];rw[if_neg QV];refine Q0 (?_:wpAny _ _ (compareOp .Lt (.int i t) (.int j u)) _ _ _);exact lt_int (TZ h)
def zb:gw prog w A s (tuples' true) (IsPair s.heap) (qw s.heap):=by
 rintro E x y⟨a,o,i,j,t,u,n,rfl,ho,hc,hd⟩⟨a2,o2,i2,j2,t2,u2,n2,rfl,ho2,hc2,hd2⟩Q h;have e:qw s.heap (.ref a) (.ref a2)=lC (i,j) (i2,j2):=by unfold qw;rw[mE ho hd,mE ho2 hd2]
 rw[e]at h;refine Q0 (V9 ho hd ?_);refine Q0 (V9 ho2 hd2 ?_);dsimp only;refine Q0 ?_;refine V0 _ (λrest r s'=>s'=s/\r.1=none/\(rest=[((Value.int i t,Value.int i2 t2),0),((Value.int j u,Value.int j2 u2),1)]\/(i=i2/\rest=[((Value.int j u,Value.int j2 u2),1)])\/(i=i2/\j=j2/\rest=[]))) _ ?_ ?_ _ _ ⟨rfl,rfl,.inl rfl⟩
 .rintro⟨⟨p,q⟩,k⟩rest⟨r,⟨⟩⟩s'⟨rfl,rfl,hall⟩;rcases hall with hall|⟨ei,hall⟩|⟨_,_,hall⟩
  .cases hall;dsimp only;refine Q0 ((intKind prog w).eqBool (a:=i) (b:=i2) (UP _ _ i t) (UP _ _ i2 t2) ?_);cases c:decide (i=i2)with
   |true=>exact Q2 ⟨rfl,rfl,.inr (.inl ⟨RN c,rfl⟩)⟩
   |false=>have c:=of_decide_eq_false c;rw[show lC (i,j) (i2,j2)=decide (i<i2)from if_neg c]at h;exact Q0 (AB _ (Q2 (Q2 h)))
  .cases hall;dsimp only;refine Q0 ((intKind prog w).eqBool (a:=j) (b:=j2) (UP _ _ j u) (UP _ _ j2 u2) ?_);cases c:decide (j=j2)with
   |true=>exact Q2 ⟨rfl,rfl,.inr (.inr ⟨ei,RN c,rfl⟩)⟩
   |false=>rw[show lC (i,j) (i2,j2)=decide (j<j2)from if_pos ei]at h;exact Q0 (AB _ (Q2 (Q2 h)))
  cases hall
 rintro⟨r,⟨⟩⟩s'⟨rfl,rfl,hall⟩;rcases hall with hall|⟨_,hall⟩|⟨ei,ej,_⟩;{cases hall};{cases hall};rw[show lC (i,j) (i2,j2)=decide (j<j2)from if_pos ei]at h;rw[Rm (by lia)]at h;exact Q2 h
def qf{a:Addr}{vs:WQ}{n:Nat}{R:Fin->Shared->Prop}(ho:s.heap.get? a=some (seqObj "list" vs.toArray n))(hv:∀v∈vs,IsPair s.heap v)(few:vs.length<=1000)(h:∀us:WM,us.toList.Perm vs->us.toList.Pairwise (λu v=>qw s.heap v u=false)->R (.done (.ret .none)) { s with heap:=sortedHeap s.heap a vs us }):wpAny (model prog w) A (Builtin.«list.sort» ⟨[.ref a],[]⟩) R E s:=by
 have line:(1000:Nat)<=sizeLine:=by decide
 have az:a<s.heap.objs.size:=QT ho;rw[list_sort_plain (a:Addr)];refine Q0 (V9 ho rfl (?_:_));refine Q0 (listUpdate_at ho rfl (?_:_) (by simp;lia) (by simp));obtain⟨ep,g1⟩:∃ep,(s.heap.update a (Obj.mapSeq λ_=>#[])).get? a=some (seqObj "list" #[] ep):=⟨_,get?_update_seq ho λ_=>#[]⟩;refine Q0 (seqEpoch_at g1 rfl (?_:_));refine Q0 (wpAny_newTuple (?_:_) (by simp;lia));refine Q0 (VD (?_:_));refine Rb (?_:_);have g6:(((s.heap.update a (Obj.mapSeq λ_=>#[])).push (seqObj "tuple" vs.toArray 0)).push (seqObj "list" #[] 0)).get? a=some (seqObj "list" #[] ep):=QZ _ (QZ _ g1);have keep:∀b o,b≠a->s.heap.get? b=some o->(((s.heap.update a (Obj.mapSeq λ_=>#[])).push (seqObj "tuple" vs.toArray 0)).push (seqObj "list" #[] 0)).get? b=some o:=λb o hb e=>QZ _ (QZ _ ((Rx _ _ (Ne.symm hb)).trans e));have hv6:∀v∈vs,IsPair (((s.heap.update a (Obj.mapSeq λ_=>#[])).push (seqObj "tuple" vs.toArray 0)).push (seqObj "list" #[] 0)) v:=λv m=>(hv v m).keep ho rfl keep;refine id (?_:wpAny (model prog w) A _ R E { s with heap:=((s.heap.update a (Obj.mapSeq λ_=>#[])).push (seqObj "tuple" vs.toArray 0)).push (seqObj "list" #[] 0) });dsimp only;have psz:(vs.toArray.zip vs.toArray).size=vs.length:=by simp
 have out:∀zs:Array Keyed,zs.Perm (vs.toArray.zip vs.toArray)->(zs.map (·.2)).toList.Perm vs:=λzs p=>by
  have p2:=(V8.mp p).map (·.2);rw[Array.toList_map];refine p2.trans ?_;have:((vs.toArray.zip vs.toArray).toList.map (·.2))=vs:=by rw[Vi];simp[Vj]
  rw[this]
 by_cases h2:vs.toArray.size<2
 .rw[if_pos h2,if_pos h2];refine Q0 (Q2 (?_:_));rw[StateT.run_pure];refine Q0 (Q2 (?_:_));dsimp only;refine Q0 (seqEpoch_at g6 rfl (?_:_));have o1:=out (vs.toArray.zip vs.toArray) (Array.Perm.refl _);have l1:=o1.length_eq;rw[RQ]at l1;refine Q0 (listUpdate_at g6 rfl (?_:_) (by simp) (RM (TF l1) (by lia)));simp only[bne_self_eq_false,T9,SW];refine Q2 (?_:_);refine h _ o1 ?_;have l2:((vs.toArray.zip vs.toArray).map (·.2)).toList.length<2:=by rw[o1.length_eq];simpa using h2
  exact pw_short _ l2
 rw[if_neg h2,if_neg h2];have ne:vs≠[]:=λz=>h2 (by rw[z];decide);refine Q0 (Bx (s:={ s with heap:=((s.heap.update a (Obj.mapSeq λ_=>#[])).push (seqObj "tuple" vs.toArray 0)).push (seqObj "list" #[] 0) }) ne hv6 (?_:_));refine Q0 (Ra (N5 (kd:=tuples' true) (lt:=qw (((s.heap.update a (Obj.mapSeq λ_=>#[])).push (seqObj "tuple" vs.toArray 0)).push (seqObj "list" #[] 0))) (P:=IsPair (((s.heap.update a (Obj.mapSeq λ_=>#[])).push (seqObj "tuple" vs.toArray 0)).push (seqObj "list" #[] 0))) (xs0:=vs.toArray.zip vs.toArray) (s:={ s with heap:=((s.heap.update a (Obj.mapSeq λ_=>#[])).push (seqObj "tuple" vs.toArray 0)).push (seqObj "list" #[] 0) }) (Q:=λ_ st'=>SB (tuples' true) (vs.toArray.zip vs.toArray) st'/\So (qw (((s.heap.update a (Obj.mapSeq λ_=>#[])).push (seqObj "tuple" vs.toArray 0)).push (seqObj "list" #[] 0))) (arrOf st') 0 (vs.toArray.zip vs.toArray).size) (Px _) zb (λk p hp=>?_) ⟨Array.Perm.refl _,rfl,rfl⟩ rfl λst' B S=>⟨B,S⟩) ?_ λ_ _ e=>e);{have m:p∈(vs.toArray.zip vs.toArray).toList:=RD (by rw[RJ];exact hp);rw[Vi]at m;exact hv6 _ (Ul m).1};rintro⟨⟨⟩,st'⟩s'⟨rfl,B,S⟩;dsimp only;refine Q0 (seqEpoch_at g6 rfl (?_:_));have o1:=out _ B.perm;have l1:=o1.length_eq;rw[RQ]at l1;refine Q0 (listUpdate_at g6 rfl (?_:_) (by simp) (RM (TF l1) (by lia)));rw[B.ok];simp only[bne_self_eq_false,T9,SW];refine Q2 (?_:_);refine h _ o1 ?_;rw[Array.toList_map,TV];have same:∀p∈(arrOf st').toList,p.1=p.2/\p.2∈vs:=λp hp=>by have m:=(V8.mp B.perm).mem_iff.mp hp;rw[Vi]at m;obtain⟨n,hn⟩:=Rq m;rw[List.getElem?_zip_eq_some]at hn;have:some p.1=some p.2:=hn.1.symm.trans hn.2;injection this with e;refine⟨e,?_⟩;have:=RD hn.2;simpa using this
 rw[Tj];intro x y hx hy hxy;have ex:(arrOf st')[0+x]?=some ((arrOf st').toList[x]):=by rw[SN,<-RJ];exact RI hx
 have ey:(arrOf st')[0+y]?=some ((arrOf st').toList[y]):=by rw[SN,<-RJ];exact RI hy
 have le:=S x y _ _ (by lia) (by rw[RQ,B.size]at hy;exact hy) ex ey;obtain⟨s1,m1⟩:=same _ (U8 hx);obtain⟨s2,m2⟩:=same _ (U8 hy);unfold Le at le;rw[s1,s2]at le;have kp:∀v∈vs,pk (((s.heap.update a (Obj.mapSeq λ_=>#[])).push (seqObj "tuple" vs.toArray 0)).push (seqObj "list" #[] 0)) v=pk s.heap v:=λv m=>uw (hv v m) λb o e hb=>keep b o (λz=>by
  obtain⟨b',o',i,j,t,u,n,e',ho',hco,hd⟩:=hv v m;rw[e]at e';cases e';rw[z,ho]at ho';cases ho';exact absurd hco (by show ¬(Value.type "list"=Value.type "tuple");intro z;injection z with z;exact absurd z (by decide))) hb
 unfold qw at le⊢;rw[kp _ m1,kp _ m2]at le;exact le
end
end TS
namespace L2
open PySem PySem.Spec PyProof.Rows
inductive iw(K:WJ)(H:Hp):List V->List (Int×Int)->Prop
 |nil:iw K H [] []
 |cons {b:Addr}{e:Int×Int}{ys:List V}{ps:WI}:bI K H b [.int e.1,.int e.2]->iw K H ys ps->iw K H (.ref b::ys) (e::ps)
def iw.all{K:WJ}{H:Hp}{ys:List V}{ps:WI}(h:iw K H ys ps):∀y∈ys,∃(b:Addr) (i j:Int),y=.ref b/\bI K H b [.int i,.int j]:=by
 induction h with
 |nil=>exact λy hy=>(nomatch hy)
 |cons s _ ih=>intro y hy;rcases QX.mp hy with rfl|hy;{exact⟨_,_,_,rfl,s⟩};exact ih y hy
def mS (p q:Int×Int):Prop:=p.1<q.1\/(p.1=q.1/\p.2<=q.2)
section
variable{X:Cx}{pins:WD}{U:St}{H:Hp}{s:Shared}
def zI(I:Inv X pins U H s){b:Addr}{i j:Int}(sb:bI X.K H b [.int i,.int j]):TS.pk s.heap (.ref b)=(i,j):=by
 obtain⟨its2,r2,⟨o2,e2,c2,n2,d2⟩,_⟩:=I.tuple sb;cases r2 with
 |cons ra r3=>
  cases r3 with
  |cons rb r4=>cases r4;obtain⟨t,rfl⟩:=ra;obtain⟨u,rfl⟩:=rb;exact TS.mE e2 d2
def FD(I:Inv X pins U H s)(r:Vals ys its)(pa:iw X.K H ys ps):ps=its.map (TS.pk s.heap):=by
 induction r generalizing ps with
 |nil=>cases pa;rfl
 |cons r rs ih=>
  cases pa with
  |cons sb pa=>cases r;rw[RE,zI I sb,<-ih pa]
end
def A9(p:us.Perm its):∀{ys:List V},Vals ys its->∃zs:List V,(zs.zip us).Perm (ys.zip its)/\Vals zs us:=by
 induction p with
 |nil=>exact λ{ys} r=>⟨ys,List.Perm.refl _,r⟩
 |cons x _ ih=>
  intro ys r;cases r with
  |cons h r=>obtain⟨zs,p1,r1⟩:=ih r;exact⟨_::zs,p1.cons _,.cons h r1⟩
 |swap x y l=>
  intro ys r;cases r with
  |cons h r=>
   cases r with
   |cons h2 r=>exact⟨_::_::_,V4 _ _ _,.cons h2 (.cons h r)⟩
 |trans _ _ ih1 ih2=>intro ys r;obtain⟨zs,p1,r1⟩:=ih2 r;obtain⟨ws,p2,r2⟩:=ih1 r1;exact⟨ws,p2.trans p1,r2⟩
theorem oA{α β γ:Type}(g:β->γ):∀(as:List α)(us:List β),as.zip (us.map g)=(as.zip us).map (λx:α×β=>(x.1,g x.2))
 |[],_=>rfl
 |_::_,[]=>rfl
 |a::as,u::us=>by rw[RE,List.zip_cons_cons,List.zip_cons_cons,RE,oA g as us]
def wO{α β γ:Type}{as bs:List α}{us vs:List β}(g:β->γ)(h:(as.zip us).Perm (bs.zip vs)):(as.zip (us.map g)).Perm (bs.zip (vs.map g)):=by have:=h.map (λx:α×β=>(x.1,g x.2));rwa[<-oA,<-oA]at this
section
variable{X:Cx}
inductive Aa(K:WJ)(xs:List V)(H:Hp)(Q:VK):Prop
 |mk:∀(a:Addr)(ys:List V)(ps:WI),(xs=[.ref a])->(bQ K H a ys)->(iw K H ys ps)->(ys.length<=1000)->(∀(zs:List V)(qs:WI)(p:Addr),zs.length=qs.length->(zs.zip qs).Perm (ys.zip ps)->qs.Pairwise mS->H p=none->Q (.ref p) (upd H p (.lst zs)))->Aa K xs H Q
def DW (K:WJ):List V->Hp->VK->Prop:=λxs H Q=>Aa K xs H Q
def wM:cA X (.builtin "sorted") (DW X.K):=by
 intro pins s U H xs us Q I r h;obtain⟨a,ys,ps,rfl,hq,pa,few,q⟩:=h;have tu:=pa.all;obtain⟨u,rfl,ru⟩:=r.one;cases ru;obtain⟨its,rv,p,_⟩:=I.list hq;have hlen:its.length=ys.length:=rv.length.symm;have hv:∀v∈its,TS.IsPair s.heap v:=λv m=>by
  obtain⟨i,hi⟩:=Rq m;have go:∀{ys:List V}{its:WQ},Vals ys its->∀(i:Nat)(u:Value),its[i]?=some u->∃x,ys[i]?=some x/\RelV x u:=λ{ys its} r=>by
   induction r with
   |nil=>exact λi u h=>(nomatch h)
   |cons h _ ih=>
    intro i u e;cases i with
    |zero=>cases e;exact⟨_,rfl,h⟩
    |succ i=>exact ih i u e
  obtain⟨x,hx,rx⟩:=go rv i v hi;obtain⟨b,i1,j1,rfl,sb⟩:=tu x (RD hx);cases rx;obtain⟨its2,r2,⟨o2,e2,c2,n2,d2⟩,_⟩:=I.tuple sb;cases r2 with
  |cons ra r3=>
   cases r3 with
   |cons rb r4=>cases r4;obtain⟨t,rfl⟩:=ra;obtain⟨u,rfl⟩:=rb;exact⟨b,o2,i1,j1,t,u,n2,rfl,e2,c2,d2⟩
 have line:(1000:Nat)<=sizeLine:=by decide
 refine Calls.call_function_entry kind_sorted plain_sorted entry_sorted (args_sorted1 _) (?_:_);unfold Builtin.«sorted»;refine Q0 (m:=checkCount "sorted" 1 1 _) (Q2 (?_:_));refine Q0 (collect_list p.isList (?_:_) (by lia));refine Q0 (VD (?_:_) (by lia));have sz:((s.heap.push (seqObj "list" #[] 0)).update s.heap.objs.size (Obj.mapSeq (·++its.toArray))).objs.size=s.heap.objs.size+1:=by rw[Heap.size_update];exact size_push' _ _
 have g0:(((s.heap.push (seqObj "list" #[] 0)).update s.heap.objs.size (Obj.mapSeq (·++its.toArray))).push (seqObj "list" its.toArray 0)).get? (s.heap.objs.size+1)=some (seqObj "list" its.toArray 0):=by rw[<-sz];exact Rc _ rfl
 have old:∀b o,s.heap.get? b=some o->(((s.heap.push (seqObj "list" #[] 0)).update s.heap.objs.size (Obj.mapSeq (·++its.toArray))).push (seqObj "list" its.toArray 0)).get? b=some o:=λb o e=>QZ _ ((Rx _ _ (UG (QT e))).trans (QZ _ e));refine id (?_:wpAny _ _ _ _ _ { s with heap:=((s.heap.push (seqObj "list" #[] 0)).update s.heap.objs.size (Obj.mapSeq (·++its.toArray))).push (seqObj "list" its.toArray 0) });rw[sz];have hv2:∀v∈its,TS.IsPair (((s.heap.push (seqObj "list" #[] 0)).update s.heap.objs.size (Obj.mapSeq (·++its.toArray))).push (seqObj "list" its.toArray 0)) v:=λv m=>by obtain⟨b,o,i,j,t,u,n,e,ho,r⟩:=hv v m;exact⟨b,o,i,j,t,u,n,e,old b o ho,r⟩
 refine Q0 (Rb (SY slot_list_sort ⟨_,g0,rfl⟩ entry_list_sort (TS.qf g0 hv2 (by lia) λout pm srt=>⟨_,rfl,(?_:_)⟩) (args_list_sort _)));obtain⟨n,hn⟩:=sortedHeap_at (vs:=its) (out:=out) g0;obtain⟨zs,pz0,rz⟩:=A9 pm rv;have pz:zs.Perm ys:=by have:=pz0.map Prod.fst;rwa[List.map_fst_zip (TF rz.length),List.map_fst_zip (TF rv.length)]at this
 have new:s.heap.get? (s.heap.objs.size+1)=none:=UD (U1 _);have I2:=I.vX (a:=s.heap.objs.size+1) (o:=.lst zs) (t':=s.toks) (h':=sortedHeap (((s.heap.push (seqObj "list" #[] 0)).update s.heap.objs.size (Obj.mapSeq (·++its.toArray))).push (seqObj "list" its.toArray 0)) (s.heap.objs.size+1) its out) (λb o hb=>by
   have lt:=QT hb;rw[sortedHeap_old (RH (VE lt)) (by rw[size_push',sz];exact VE (VE lt))]
   exact old b o hb) new
  ⟨by rw[pz.length_eq];lia,out.toList,n,rz,by simpa using hn⟩
 have pp:(zs.zip (out.toList.map (TS.pk s.heap))).Perm (ys.zip ps):=by rw[FD I rv pa];exact wO _ pz0
 refine Q2 ⟨_,rfl,.ref (s.heap.objs.size+1),_,I2,rfl,q zs _ _ (by rw[Q7];exact rz.length) pp ?_ (I.g9 new)⟩;rw[TV];refine UX (λ{u v} hu hv' e=>?_) srt;have kp:∀v∈its,TS.pk (((s.heap.push (seqObj "list" #[] 0)).update s.heap.objs.size (Obj.mapSeq (·++its.toArray))).push (seqObj "list" its.toArray 0)) v=TS.pk s.heap v:=λv m=>TS.uw (hv v m) λb o _ hb=>old b o hb;unfold TS.qw at e;dsimp only at e;rw[kp _ (pm.mem_iff.mp hu),kp _ (pm.mem_iff.mp hv')]at e;exact TS.mz.mp e
end
end L2
namespace Dv
open PySem L2 PySem.W
def noStar:Expr->Bool
 |.Starred ..=>false
 |_=>true
def cI(h:noStar e=true):starEach (e::es) env=(false,eval e env)::starEach es env:=by cases e<;>first|rfl|cases h
theorem iY:∀{es:WX},es.all noStar=true->(backTo pos (starEach es env)).any (·.1)=false
 |[],_=>rfl
 |e::es,h=>by rw[QY,Q9]at h;rw[cI h.1];show(false||(backTo pos (starEach es env)).any (·.1))=false;rw[iY h.2];rfl
section
variable{X:Cx}{Ex:XK}{Y:WZ}
theorem fL:∀{es:WX},es.all noStar=true->PA X es (uP X es)
 |[],_=>bx
 |e::es,h=>by rw[QY,Q9]at h;exact aA cN (fL h.2) (cI h.1)
def ko{x:Str}{id:String}{p pos:Pos}{e:Expr}{es:WX}{as:List Arg}{f:DR}{r:List V->Hp->VK->Prop}(hc:cA X (.builtin id) r)(D:c9 X.K f r)(hg:Gl X x)(hm:X.mg x=none)(hv:bootBuiltins x=some (.builtin id))(hn:x≠"__name__")(hd:(x==("__debug__":Str))=false)(ns:(e::es).all noStar=true)(S:aV X Ex Y (e::es) as):SE X Ex Y (.Call (.Name x p) (e::es) [] pos) (aa f as):=
 jm S (λU H Q h=>WE.of (eZ hc hg hm hv (fL ns) hn hd (cI (by rw[QY,Q9]at ns;exact ns.1)) (iY (by rw[QY,Q9]at ns;exact ns.2))) h) D
def pI(hc:cA X (.type T) r)(D:c9 X.K f r)(hg:Gl X x)(hm:X.mg x=none)(hv:bootBuiltins x=some (.type T))(hn:x≠"__name__")(hd:(x==("__debug__":Str))=false)(ns:(e::es).all noStar=true)(S:aV X Ex Y (e::es) as):SE X Ex Y (.Call (.Name x p) (e::es) [] pos) (aa f as):=
 jm S (λU H Q h=>WE.of (kZ hc hg hm hv (fL ns) hn hd (cI (by rw[QY,Q9]at ns;exact ns.1)) (iY (by rw[QY,Q9]at ns;exact ns.2))) h) D
def cV:DR:=λds P=>ds.length<=sizeLine/\P (.ow false) (.list ds)
def cY:DR:=λds P=>ds.length<=sizeLine/\P .sh (.tuple ds)
def Jm:c9 K cV λxs H Q=>xs.length<=sizeLine/\∀p,H p=none->Q (.ref p) (upd H p (.lst xs)):=λH Hm vs ds P Q s r h q=>⟨by rw[r.len];exact h.1,λp hp=>bO.nl q s h.2 hp r⟩
def Ju:c9 K cY λxs H Q=>xs.length<=sizeLine/\∀p,H p=none->Q (.ref p) (upd H p (.tup xs)):=λH Hm vs ds P Q s r h q=>⟨by rw[r.len];exact h.1,λp hp=>bO.nt q s h.2 hp r⟩
def KO(ns:es.all noStar=true)(S:aV X Ex Y es as):SE X Ex Y (.List es pos) (aa cV as):=jm S (λU H Q h=>WE.of (Lw (fL ns)) h) Jm
def LY{k:Nat}(ns:es.all noStar=true)(S:aV X Ex Y es as):SE X Ex Y (.Tuple es k pos) (aa cY as):=jm S (λU H Q h=>WE.of (pC (fL ns)) h) Ju
noncomputable def FH:DR:=λds P=>match ds with
 |[.list xs]=>P .sh (.int xs.length)
 |[.tuple xs]=>P .sh (.int xs.length)
 |_=>False
def Js:c9 K FH λxs H Q=>∃p ys,xs=[.ref p]/\(bQ K H p ys\/bI K H p ys)/\Q (.int ys.length) H:=by
 intro H Hm vs ds P Q s r h q;unfold FH at h;split at h
 .obtain⟨x,rfl,h1⟩:=fR r;cases h1 with
  |lst a r1=>exact⟨_,_,rfl,.inl (cT.mono s a).sq,by rw[r1.len];exact bO.sc q s h (.int _)⟩
 .obtain⟨x,rfl,h1⟩:=fR r;cases h1 with
  |tup a r1=>exact⟨_,_,rfl,.inr (bI.of (s _ _ a)),by rw[r1.len];exact bO.sc q s h (.int _)⟩
 exact h.elim
noncomputable def nv:DR:=λds P=>match ds with
 |[.list xs]=>P (.ow false) (.list xs)
 |[.tuple xs]=>P (.ow false) (.list xs)
 |_=>False
def F7:c9 K nv λxs H Q=>∃p ys,xs=[.ref p]/\(bQ K H p ys\/bI K H p ys)/\∀l,H l=none->Q (.ref l) (upd H l (.lst ys)):=by
 intro H Hm vs ds P Q s r h q;unfold nv at h;split at h
 .obtain⟨x,rfl,h1⟩:=fR r;cases h1 with
  |lst a r1=>exact⟨_,_,rfl,.inl (cT.mono s a).sq,λp hp=>bO.nl q s h hp r1⟩
 .obtain⟨x,rfl,h1⟩:=fR r;cases h1 with
  |tup a r1=>exact⟨_,_,rfl,.inr (bI.of (s _ _ a)),λp hp=>bO.nl q s h hp r1⟩
 exact h.elim
noncomputable def jy:DR:=λds P=>match ds with
 |[.list xs]=>P .sh (.tuple xs)
 |[.tuple xs]=>P .sh (.tuple xs)
 |_=>False
def D8:c9 K jy λxs H Q=>∃p ys,xs=[.ref p]/\((bQ K H p ys/\∀l,H l=none->Q (.ref l) (upd H l (.tup ys)))\/(bI K H p ys/\Q (.ref p) H)):=by
 intro H Hm vs ds P Q s r h q;unfold jy at h;split at h
 .obtain⟨x,rfl,h1⟩:=fR r;cases h1 with
  |lst a r1=>exact⟨_,_,rfl,.inl ⟨(cT.mono s a).sq,λp hp=>bO.nt q s h hp r1⟩⟩
 .obtain⟨x,rfl,h1⟩:=fR r;cases h1 with
  |tup a r1=>exact⟨_,_,rfl,.inr ⟨bI.of (s _ _ a),bO.sc q s h (.tup a r1)⟩⟩
 exact h.elim
def sF:DR:=mY λi j=>.int (if j<i then j else i)
def r9:DR:=mY λi j=>.int (if j>i then j else i)
def IF{f:Int->Int->Int}:c9 K (mY λi j=>.int (f i j)) λxs H Q=>∃i j,xs=[.int i,.int j]/\Q (.int (f i j)) H:=by intro H Hm vs ds P Q s r h q;refine uu h λa b e p=>?_;subst e;obtain⟨x,y,rfl,h1,h2⟩:=gF r;cases h1;cases h2;exact⟨a,b,rfl,bO.sc q s p (.int _)⟩
noncomputable def wQ:DR:=λds P=>match ds with
 |[.int i]=>P .sh (.int (if i<0 then-i else i))
 |_=>False
def Kr:c9 K wQ λxs H Q=>∃i,xs=[.int i]/\Q (.int (if i<0 then-i else i)) H:=by intro H Hm vs ds P Q s r h q;unfold wQ at h;split at h;{obtain⟨x,rfl,h1⟩:=fR r;cases h1;exact⟨_,rfl,bO.sc q s h (.int _)⟩};exact h.elim
noncomputable def mF:DR:=λds P=>match ds with
 |[.int i]=>P .sh (.int i)
 |[.bool k]=>P .sh (.int (if k then 1 else 0))
 |_=>False
def Ck:c9 K mF λxs H Q=>(∃i,xs=[.int i]/\Q (.int i) H)\/∃k,xs=[.bl k]/\Q (.int (if k then 1 else 0)) H:=by intro H Hm vs ds P Q s r h q;unfold mF at h;split at h;{obtain⟨x,rfl,h1⟩:=fR r;cases h1;exact .inl ⟨_,rfl,bO.sc q s h (.int _)⟩};{obtain⟨x,rfl,h1⟩:=fR r;cases h1;exact .inr ⟨_,rfl,bO.sc q s h (.int _)⟩};exact h.elim
theorem rD:∀(ns:Wa),au K H (ns.map V.int) (ns.map PyData.int)
 |[]=>.nil
 |n::ns=>.cons (.int n) (rD ns)
def lZ(h:Rp K H x (.list ds)):∃a xs,x=.ref a/\cT K H a xs/\au K H xs ds:=by
 cases h with
 |lst a r=>exact⟨_,_,rfl,a,r⟩
def pD (p:Int×Int):PyData:=.tuple [.int p.1,.int p.2]
noncomputable def ou:DR:=λds P=>∃ps:WI,ds=[.list (ps.map pD)]/\ps.length<=1000/\∀qs:WI,qs.Perm ps->qs.Pairwise mS->P (.ow false) (.list (qs.map pD))
theorem vH(s:af H H'):∀{vs:List V}{ps:WI},au K H vs (ps.map pD)->iw K H' vs ps
 |_,[],h=>by cases h;exact .nil
 |_,p::ps,h=>by
  cases h with
  |cons h t=>
   cases h with
   |tup a r=>obtain⟨x,y,rfl,h1,h2⟩:=gF r;cases h1;cases h2;exact .cons (bI.of (s _ _ a)) (vH s t)
def C7(r:au K H vs (ps.map pD))(l:zs.length=qs.length)(h:(zs.zip qs).Perm (vs.zip ps)):au K H zs (qs.map pD):=by
 have mem:∀y q,(y,q)∈zs.zip qs->Rp K H y (pD q):=λy q m=>by have m2:=h.mem_iff.mp m;obtain⟨i,hi⟩:=Rq m2;obtain⟨h1,h2⟩:=List.getElem?_zip_eq_some.mp hi;obtain⟨d,e,r'⟩:=r.Nj h1;rw[R8,h2]at e;cases e;exact r'
 have go:∀{zs:List V}{qs:WI},zs.length=qs.length->(∀y q,(y,q)∈zs.zip qs->Rp K H y (pD q))->au K H zs (qs.map pD):=by
  intro zs;induction zs with
  |nil=>
   intro qs l _;cases qs with
   |nil=>exact .nil
   |cons _ _=>cases l
  |cons z zs ih=>
   intro qs l m;cases qs with
   |nil=>cases l
   |cons q qs=>exact .cons (m z q Q6) (ih (Nat.succ.inj l) λy q' h=>m y q' (QU _ h))
 exact go l mem
def EO:c9 K ou (DW K):=by
 rintro H Hm vs ds P Q s r⟨ps,rfl,hn,h⟩q;obtain⟨x,rfl,h1⟩:=fR r;obtain⟨a,xs,rfl,ha,r1⟩:=lZ h1;have l1:xs.length=ps.length:=by rw[r1.len,Q7]
 refine⟨a,xs,ps,rfl,(cT.mono s ha).sq,vH s r1,by rw[l1];exact hn,λzs qs p lz perm srt hp=>?_⟩;have pq:qs.Perm ps:=by have:=perm.map Prod.snd;rw[Vj (by lia),Vj (by lia)]at this;exact this
 exact bO.nl q s (h qs pq srt) hp (C7 r1 lz perm)
inductive Ab(vs:List V)(H:Hp)(Q:VK):Prop
 |mk:∀j:Int,(vs=[.int j])->(∀p,H p=none->0<=j/\j<=1000/\∀l,upd H p (.qp 0 j) l=none->Q (.ref l) (upd (upd H p (.qp 0 j)) l (.lst (((List.range j.toNat).map λi:Nat=>(i:Int)).map V.int))))->Ab vs H Q
def Du:List V->Hp->VK->Prop:=λvs H Q=>Ab vs H Q
noncomputable def lX:DR:=λds P=>match ds with
 |[.int j]=>(0<=j/\j<=1000)/\P (.ow false) (.list (jP 0 j.toNat))
 |_=>False
def JJ(n:Nat):au K H (((List.range n).map λi:Nat=>(i:Int)).map V.int) (jP 0 n):=by have:=rD (K:=K) (H:=H) ((List.range n).map λi:Nat=>(i:Int));rw[RV (l:=List.range n) (g:=PyData.int)]at this;unfold jP;rw[show(λi:Nat=>PyData.int (0+i))=PyData.int∘λi:Nat=>(i:Int)from funext λi=>by simp];exact this
def Ec:c9 K lX Du:=by intro H Hm vs ds P Q s r h q;unfold lX at h;split at h;{obtain⟨x,rfl,h1⟩:=fR r;cases h1;rename_i j;refine⟨j,rfl,λp hp=>⟨h.1.1,h.1.2,λl hl=>?_⟩⟩;have s1:=aG (o:=.qp 0 j) hp;have s2:=aG (o:=.lst (((List.range j.toNat).map λi:Nat=>(i:Int)).map V.int)) hl;refine q _ _ _ _ Hm [l] h.2 (s1.trans s2) (af.refl _) (s.trans (s1.trans s2)) (λ_ _=>.inl rfl) (.ow ao (JJ _)) λa ha=>?_;rw[QS.mp ha];have:H l=none:=s1.free hl;exact⟨this,jh s this⟩};exact h.elim
def G9(hc:X.calm=true)(g1:Gl X "list")(m1:X.mg "list"=none)(g2:Gl X "range")(m2:X.mg "range"=none)(ns:noStar a=true)(S:aV X Ex Y [a] as) : SE X Ex Y (.Call (.Name "list" p1) [.Call (.Name "range" p2) [a] [] pos2] [] pos) (aa lX as):=
 jm (r:=Du) S (λU H Q h=>WE.of (kZ (AV hc) g1 m1 PyProof.Rows.boot_list (aA (kZ zg g2 m2 PyProof.Rows.boot_range (fL (es:=[a]) (by rw[QY,ns];rfl)) (by decide) (by decide) (cI ns) (by rfl)) bx)) (by
  refine λpins s I=>aH (h pins s I) λv s1 ⟨x,H1,I1,r1,j,e,q⟩=>⟨x,H1,I1,r1,?_⟩
  cases e;refine⟨j,rfl,λp hp=>?_⟩
  obtain⟨q1,q2,q3⟩:=q p hp;exact⟨p,j,rfl,ao,q1,q2,q3⟩)) Ec
end
inductive Ag(K:Frag)(H Hm:Hp):WV->List V->WN->WU->Prop
 |nil:Ag K H Hm [] [] [] []
 |sh {ms:WV}{vs:List V}{ds:WN}{as:WU}{v:V}{d:PyData}:Rp K Hm v d->Ag K H Hm ms vs ds as->Ag K H Hm (false::ms) (v::vs) (d::ds) as
 |mu {ms:WV}{vs:List V}{ds:WN}{as:WU}{a:Addr}{xs:List V}{es:WN}:H a=some (.lst xs)->au K Hm xs es->Hm a=none->a∉as->Ag K H Hm ms vs ds as->Ag K H Hm (true::ms) (.ref a::vs) (.list es::ds) (a::as)
inductive Bk(K:Frag)(H Hm:Hp):WU->WN->Prop
 |nil:Bk K H Hm [] []
 |cons {a:Addr}{xs:List V}{es:WN}{as:WU}{us:WN}:H a=some (.lst xs)->au K Hm xs es->Hm a=none->Bk K H Hm as us->Bk K H Hm (a::as) (.list es::us)
noncomputable def eO (mg:WC)(K:Frag)(ms:WV)(sp:dS):Sp:=λvs H Q Ex=>∃(ds:WN)(as:WU)(Hm:Hp)(P:WN->Kd->PyData->Prop)(x:XC),af Hm H/\Ag K H Hm ms vs ds as/\sp ds P x /\
 (∀us k r u H' Hm' fp,P us k r->af Hm Hm'->af Hm' H'->(∀p o,p∉as->H p=some o->H' p=some o)->(∀a,a∉as->H a≠none->OE (Hm' a) (Hm a))->Bk K H' Hm' as us->Own K H' Hm' k u r fp->(∀a∈fp,H a=none/\Hm' a=none)->Q u H') /\
 (∀c d C a H',mg c=some (.ref C)->x c d->(∀p o,p∉as->H p=some o->H' p=some o)->H' a=some (.ext (dZ a C none))->H a=none->Ex (.ref C) (some a) H')
section
variable{K:Frag}{g:Gh}{U:St}
def NO{F:Nat->WU}(R:Rl K g E U H Hm F)(s:af Hm Hm1):∀{ms:WV}{as:List Arg}{os:List (Option PyData)}{vs:List V}{ds:WN},Got K U Hm as os vs->fill as E os=some ds->shape ms as=true->(lent ms as).Nodup->(∀i∈lent ms as,∃p es,E[i]?=some (some (.ow p,.list es)))->(∀i∈kept ms as,∀a∈F i,Hm1 a=H a)->(∀i∈lent ms as,∀a∈F i,Hm1 a=none)->∃ix:List (Nat×Addr),ix.map (·.1)=lent ms as/\Ag K H Hm1 ms vs ds (ix.map (·.2))/\∀q∈ix,U[q.1]?=some (some (.ref q.2))/\F q.1=[q.2]:=by
 intro ms as os vs ds G;induction G generalizing ms ds with
 |nil=>
  intro h sh nd hl hk hn;cases ms with
  |nil=>cases h;exact⟨[],rfl,.nil,λ_ z=>by cases z⟩
  |cons b ms=>cases b<;>cases sh
 |@pk i v as os vs hv G ih=>
  intro h sh nd hl hk hn;cases ms with
  |nil=>cases sh
  |cons b ms=>
   cases b with
   |false=>
    rw[fill]at h;split at h
    .rename_i k d e;by_cases hr:k.rd=true
     .rw[if_pos hr]at h;cases hf:fill as E os with
      |none=>rw[hf]at h;cases h
      |some es=>rw[hf]at h;cases h;obtain⟨v',h1,h2⟩:=R.slot i k d e;rw[hv]at h1;cases h1;obtain⟨ix,e1,e2,e3⟩:=ih (ms:=ms) hf sh nd hl (λj hj=>hk j (QU _ hj)) hn;exact⟨ix,e1,.sh (h2.rp hr s (hk i Q6)) e2,e3⟩
     rw[if_neg hr]at h;cases h
    cases h
   |true=>
    rw[fill]at h;obtain⟨p,es0,e0⟩:=hl i Q6;rw[e0]at h;have h:(if(Kd.ow p).rd=true then(fill as E os).map (PyData.list es0::·)else none)=some _:=h;rw[if_pos (show(Kd.ow p).rd=true from rfl)]at h;cases hf:fill as E os with
    |none=>rw[hf]at h;cases h
    |some es=>
     rw[hf]at h;cases h;obtain⟨v',h1,h2⟩:=R.slot i _ _ e0;rw[hv]at h1;cases h1;have nd':=RX.mp (show(i::lent ms as).Nodup from nd);obtain⟨ix,e1,e2,e3⟩:=ih (ms:=ms) hf sh nd'.2 (λj hj=>hl j (QU _ hj)) hk (λj hj=>hn j (QU _ hj));have hFi:=hn i Q6;generalize hF:F i=fi at h2 hFi;cases h2 with
     |@ow _ a xs _ ha hr=>refine⟨(i,a)::ix,?_,.mu ha (hr.mono s) (hFi a Q6) ?_ e2,?_⟩;{show i::ix.map (·.1)=i::lent ms as;rw[e1]};{intro m;obtain⟨q,hq,rfl⟩:=Q8.mp m;have:=R.aQ i q.1 q.2 (by rw[hF];exact Q6) (by rw[(e3 q hq).2];exact Q6);exact nd'.1 (e1▸(this▸Q8.mpr ⟨q,hq,rfl⟩))};intro q hq;rcases QX.mp hq with rfl|hq;{exact⟨hv,hF⟩};exact e3 q hq
 |@ev d0 v u as os vs r G ih=>
  intro h sh nd hl hk hn;cases ms with
  |nil=>cases sh
  |cons b ms=>
   cases b with
   |true=>cases sh
   |false=>
    rw[fill]at h;cases hf:fill as E os with
    |none=>rw[hf]at h;cases h
    |some es=>rw[hf]at h;cases h;obtain⟨ix,e1,e2,e3⟩:=ih (ms:=ms) hf sh nd hl hk hn;exact⟨ix,e1,.sh (r.mono s) e2,e3⟩
theorem m6:∀{ms:WV}{as:List Arg}{us:WN}{E E2:En},qO ms as us E=some E2->(lent ms as).Nodup->E2.length=E.length/\(∀j,j∉lent ms as->E2[j]?=E[j]?)/\(lent ms as).length=us.length /\ ∀(n i:Nat)(u:PyData),(lent ms as)[n]?=some i->us[n]?=some u->∃p es es',u=.list es'/\E[i]?=some (some (.ow p,.list es))/\E2[i]?=some (some (.ow p,.list es'))
 |[],[],[],E,E2,h,_=>by cases h;exact⟨rfl,λ_ _=>rfl,rfl,λ_ _ _ z=>by cases z⟩
 |[],[],_::_,E,E2,h,_=>by cases h
 |[],_::_,_,E,E2,h,_=>by cases h
 |false::ms,.pk j::r,us,E,E2,h,nd=>m6 (ms:=ms) (as:=r) (us:=us) h nd
 |false::ms,.ev _::r,us,E,E2,h,nd=>m6 (ms:=ms) (as:=r) (us:=us) h nd
 |false::ms,[],us,E,E2,h,_=>by cases h
 |true::ms,[],us,E,E2,h,_=>by cases h
 |true::ms,.ev _::r,us,E,E2,h,_=>by cases h
 |true::ms,.pk i::r,[],E,E2,h,_=>by cases h
 |true::ms,.pk i::r,u::us,E,E2,h,nd=>by
  rw[qO]at h;obtain⟨n1,n2⟩:=RX.mp (show(i::lent ms r).Nodup from nd);split at h
  .rename_i p es e;by_cases hu:AO u=true
   .rw[if_pos hu]at h;cases u with
    |list es'=>
     have li:i<E.length:=by rcases Rh i E.length with h|h;{exact h};rw[Rk h]at e;cases e
     obtain⟨l1,g1,l2,g2⟩:=m6 (ms:=ms) (as:=r) (us:=us) h n2;rw[Rf]at l1;refine⟨l1,λj hj=>?_,congrArg (·+1) l2,λn j v h1 h2=>?_⟩;{have hj':j∉lent ms r:=λz=>hj (QU _ z);have hne:i≠j:=λz=>hj (z▸Q6);rw[g1 j hj',ak hne]};cases n with
     |zero=>cases h1;cases h2;exact⟨p,es,es',rfl,e,by rw[g1 i n1,aF li]⟩
     |succ n=>have h1:(lent ms r)[n]?=some j:=h1;have h2:us[n]?=some v:=h2;obtain⟨p',fs,fs',e1,e2,e3⟩:=g2 n j v h1 h2;have hne:i≠j:=λz=>n1 (z▸RD h1);rw[ak hne]at e2;exact⟨p',fs,fs',e1,e2,e3⟩
    |_=>cases hu
   rw[if_neg hu]at h;cases h
  cases h
theorem Bk.get:∀{as:WU}{us:WN}{n:Nat}{a:Addr},Bk K H Hm as us->as[n]?=some a->∃xs es,us[n]?=some (.list es)/\H a=some (.lst xs)/\au K Hm xs es/\Hm a=none
 |_,_,_,_,.nil,h=>by simp at h
 |_,_,0,_,.cons h1 h2 h3 _,h=>by simp at h;subst h;exact⟨_,_,rfl,h1,h2,h3⟩
 |_,_,n+1,_,.cons _ _ _ t,h=>t.get (n:=n) (by simpa using h)
def BW{E E2 E3:En}{H H' Hm Hm2:Hp}{F:Nat->WU}{is:WZ}{ix:List (Nat×Addr)}{us:WN}{k:Kd}{u:V}{v:PyData}{fp:WU}(R:Rl K g E U H Hm F)(hix:∀q∈ix,U[q.1]?=some (some (.ref q.2))/\F q.1=[q.2])(hik:∀q∈ix,q.1∉is)(l2:E2.length=E.length)(hs:∀j,j∉ix.map (·.1)->E2[j]?=E[j]?)(hu:∀q∈ix,∃p es xs' es',PyData.list es'∈us/\E[q.1]?=some (some (.ow p,.list es))/\E2[q.1]?=some (some (.ow p,.list es'))/\H' q.2=some (.lst xs')/\au K Hm2 xs' es'/\Hm2 q.2=none)(hE:(if(flat k v&&us.all (flat (.ow false)))=true then some E2 else dO is E2)=some E3)(s1:af (lend Hm H (is.flatMap F)) Hm2)(s2:af Hm2 H')(sH:∀p o,p∉ix.map (·.2)->H p=some o->H' p=some o)(old:∀a,a∉ix.map (·.2)->H a≠none->OE (Hm2 a) (lend Hm H (is.flatMap F) a))(o:Own K H' Hm2 k u v fp)(fr:∀a∈fp,H a=none/\Hm2 a=none) : ∃Hm' F',Rl K g E3 U H' Hm' F'/\af Hm Hm'/\Tm K g F' H' Hm' k u v fp:=by
 have mem:∀{a i},a∈F i->i∈is->a∈is.flatMap F:=λha hi=>Rj.mpr ⟨_,hi,ha⟩;have off:∀a∈is.flatMap F,Hm a=none:=λa ha=>by obtain⟨i,_,h⟩:=Rj.mp ha;exact R.off i a h
 have up:af Hm (lend Hm H (is.flatMap F)):=ic off;have bu:∀{i a},a∈F i->H a≠none:=λha z=>by obtain⟨u,hu,_⟩:=R.bu _ _ ha;rw[z]at hu;cases hu
 have own:∀q∈ix,q.2∈F q.1:=λq hq=>by rw[(hix q hq).2];exact Q6
 have lentF:∀{i a},a∈F i->a∈ix.map (·.2)->i∈ix.map (·.1):=λ{i a} ha m=>by obtain⟨q,hq,rfl⟩:=Q8.mp m;exact Q8.mpr ⟨q,hq,(R.aQ i q.1 q.2 ha (own q hq)).symm⟩
 have lis:∀a,a∈ix.map (·.2)->a∉is.flatMap F:=λa m z=>by obtain⟨q,hq,rfl⟩:=Q8.mp m;obtain⟨i,hi,h⟩:=Rj.mp z;exact hik q hq (R.aQ i q.1 q.2 h (own q hq)▸hi)
 have nfp:∀a∈fp,∀i,a∉F i:=λa ha i=>R.fresh (fr a ha).1;have m2:∀{a},H a≠none->a∉is.flatMap F->(a∉ix.map (·.2)/\OE (Hm2 a) (Hm a))\/(a∈ix.map (·.2)/\Hm2 a=none):=λ{a} h c=>by by_cases z:a∈ix.map (·.2);{obtain⟨q,hq,rfl⟩:=Q8.mp z;obtain⟨_,_,_,_,_,_,_,_,_,e⟩:=hu q hq;exact .inr ⟨z,e⟩};refine .inl ⟨z,?_⟩;have h':=old a z h;rw[b9 c]at h';exact h'
 have offI:∀{i a},a∈F i->a∉is.flatMap F->Hm2 a=none:=λ{i a} ha c=>by rcases m2 (bu ha) c with⟨z,e⟩|⟨_,e⟩;{obtain⟨w,hw,nt⟩:=R.bu i a ha;exact e.off (R.off i a ha) s2 (sH a w z hw) nt};exact e
 have od:∀{a},g.H0 a≠none->a∉is.flatMap F->OE (Hm2 a) (g.iM a):=λ{a} h c=>by rcases m2 (R.pZ h) c with⟨_,e⟩|⟨z,e⟩;{exact e.trans (R.old a h)};obtain⟨q,hq,rfl⟩:=Q8.mp z;have h':=R.old _ h;rw[R.off q.1 q.2 (own q hq)]at h';rw[e];exact h'
 have hliv:∀{i a},a∈F i->∃w,H' a=some w/\oN w:=λ{i a} ha=>by by_cases z:a∈ix.map (·.2);{obtain⟨q,hq,rfl⟩:=Q8.mp z;obtain⟨_,_,_,_,_,_,_,e,_,_⟩:=hu q hq;exact⟨_,e,lO⟩};obtain⟨w,hw,nt⟩:=R.bu i a ha;exact⟨w,sH a w z hw,nt⟩
 have keepH:∀{j a},j∉ix.map (·.1)->a∈F j->H' a=H a:=λ{j a} hj ha=>by obtain⟨w,hw,_⟩:=R.bu j a ha;rw[hw];exact sH a w (λz=>hj (lentF ha z)) hw
 have frm:∀p o,p∉g.M->g.H0 p=some o->H' p=some o:=λp o hp ho=>by refine sH p o (λz=>?_) (R.fr p o hp ho);obtain⟨q,hq,rfl⟩:=Q8.mp z;rcases R.new q.1 q.2 (own q hq)with y|y;{exact hp y};rw[y]at ho;cases ho
 have pinn:∀{E4:En},(∀j,j∉is->E4[j]?=E2[j]?)->(∀j∈is,E4[j]?=E2[j]?\/∃k d,E2[j]?=some (some (k,d))/\k.fz=true)->∀q∈g.pins,U[q.1]?=some (some (.ref q.2))/\∃ds,E4[q.1]?=some (some (.ow true,.list ds)):=λ{E4} h4 h5 q hq=>by
  obtain⟨h1,ds',h2⟩:=R.pin q hq;refine⟨h1,?_⟩;have e2:∃ds,E2[q.1]?=some (some (.ow true,.list ds)):=by by_cases z:q.1∈ix.map (·.1);{obtain⟨q',hq',e⟩:=Q8.mp z;obtain⟨p,es,xs',es',_,g1,g2,_⟩:=hu q' hq';rw[e,h2]at g1;cases g1;exact⟨es',e▸g2⟩};exact⟨ds',by rw[hs _ z];exact h2⟩
  obtain⟨ds,e2⟩:=e2;by_cases z:q.1∈is;{rcases h5 _ z with y|⟨k0,d0,y,yk⟩;{exact⟨ds,y.trans e2⟩};rw[e2]at y;cases y;cases yk};exact⟨ds,(h4 _ z).trans e2⟩
 by_cases hf:(flat k v&&us.all (flat (.ow false)))=true
 .rw[if_pos hf]at hE;cases hE;rw[Q9,QW]at hf;have st:kQ Hm2 (back Hm2 (is.flatMap F)):=λa xs h=>by
   have c:a∉is.flatMap F:=λz=>by obtain⟨i,_,hi⟩:=Rj.mp z;obtain⟨w,hw,nt⟩:=R.bu i a hi;have e2:Hm2 a=some w:=s1 _ _ (by rw[eU z];exact hw);rw[e2]at h;cases h;exact nt xs rfl
   rw[c7 c];exact h
  have upB:af Hm (back Hm2 (is.flatMap F)):=λb o e=>by rw[c7 λz=>by rw[off b z]at e;cases e];exact s1 _ _ (up _ _ e)
  have R':Rl K g E2 U H' (back Hm2 (is.flatMap F)) F:={
   len:=l2.trans R.len
   sub:=wm s2
   slot:=λj k' d' e'=>by
    by_cases z:j∈ix.map (·.1)
    .obtain⟨q,hq,rfl⟩:=Q8.mp z;obtain⟨p,es,xs',es',mu,g1,g2,g3,g4,_⟩:=hu q hq;rw[g2]at e';cases e';obtain⟨h1,h2⟩:=hix q hq;exact⟨_,h1,by rw[h2];exact .ow g3 (g4.yd st (hf.2 _ mu))⟩
    .rw[hs j z]at e';obtain⟨v',h1,h2⟩:=R.slot j k' d' e';exact⟨v',h1,h2.step upB λa ha=>keepH z ha⟩
   off:=λi a ha=>by
    by_cases c:a∈is.flatMap F
    .exact i6 c
    .rw[c7 c];exact offI ha c
   bu:=λi a ha=>hliv ha
   aQ:=R.aQ
   fr:=frm
   new:=R.new
   pin:=pinn (λj _=>rfl) λj _=>.inl rfl
   old:=λa ha=>by
    by_cases c:a∈is.flatMap F
    .have h':=R.old a ha;rw[off a c]at h';rw[i6 c];exact h'
    .rw[c7 c];exact od ha c }
  refine⟨_,F,R',upB,⟨o.flat st hf.1,λa ha=>?_,nfp,λa ha=>R.gO (fr a ha).1⟩⟩;by_cases c:a∈is.flatMap F;{exact i6 c};rw[c7 c];exact(fr a ha).2
 rw[if_neg hf]at hE;obtain⟨l3,g3⟩:=nR hE;have R':Rl K g E3 U H' Hm2 (λj=>if j∈is then []else F j):={
  len:=l3.trans (l2.trans R.len)
  sub:=s2
  slot:=λj k' d' e'=>by
   by_cases c:j∈is
   .obtain⟨k0,d0,e0,hk0,e1⟩:=(g3 j).2 c;rw[e1]at e';cases e';have z:j∉ix.map (·.1):=λz=>by
     obtain⟨q,hq,rfl⟩:=Q8.mp z;exact hik q hq c
    rw[hs j z]at e0;obtain⟨v',h1,h2⟩:=R.slot j k0 _ e0;refine⟨v',h1,?_⟩;rw[if_pos c];exact .sh ((h2.rp (by cases k0<;>first|rfl|cases hk0) up λa ha=>eU (mem ha c)).mono s1)
   .rw[(g3 j).1 c]at e';rw[if_neg c]
    by_cases z:j∈ix.map (·.1)
    .obtain⟨q,hq,rfl⟩:=Q8.mp z;obtain⟨p,es,xs',es',mu,g1,g2,g4,g5,_⟩:=hu q hq;rw[g2]at e';cases e';obtain⟨h1,h2⟩:=hix q hq;exact⟨_,h1,by rw[h2];exact .ow g4 g5⟩
    .rw[hs j z]at e';obtain⟨v',h1,h2⟩:=R.slot j k' d' e';exact⟨v',h1,h2.step (up.trans s1) λa ha=>keepH z ha⟩
  off:=λj a ha=>by
   by_cases c:j∈is
   .rw[if_pos c]at ha;cases ha
   .rw[if_neg c]at ha;exact offI ha λz=>by
     obtain⟨i,hi,h⟩:=Rj.mp z;exact c (R.aQ i j a h ha▸hi)
  bu:=λj a ha=>by
   by_cases c:j∈is
   .rw[if_pos c]at ha;cases ha
   .rw[if_neg c]at ha;exact hliv ha
  aQ:=λj l a h1 h2=>by
   by_cases c:j∈is
   .rw[if_pos c]at h1;cases h1
   .rw[if_neg c]at h1
    by_cases c':l∈is
    .rw[if_pos c']at h2;cases h2
    .rw[if_neg c']at h2;exact R.aQ j l a h1 h2
  fr:=frm
  new:=λj a ha=>by
   by_cases c:j∈is
   .rw[if_pos c]at ha;cases ha
   .rw[if_neg c]at ha;exact R.new j a ha
  pin:=pinn (λj hj=>(g3 j).1 hj) λj hj=>by
   obtain⟨k0,d0,e0,hk0,_⟩:=(g3 j).2 hj;exact .inr ⟨k0,d0,e0,hk0⟩
  old:=λa ha=>by
   refine od ha λz=>?_
   obtain⟨i,hi,h⟩:=Rj.mp z;obtain⟨k0,d0,e0,hk0,_⟩:=(g3 i).2 hi;have zi:i∉ix.map (·.1):=λz=>by
    obtain⟨q,hq,rfl⟩:=Q8.mp z;exact hik q hq hi
   rw[hs i zi]at e0;exact ha (R.notM e0 (by cases k0<;>first|rfl|(rename_i p;cases p<;>first|rfl|cases hk0)|cases hk0) h) }
 refine⟨Hm2,_,R',up.trans s1,⟨o,λa ha=>(fr a ha).2,λa ha i=>?_,λa ha=>R.gO (fr a ha).1⟩⟩;by_cases c:i∈is;{rw[if_pos c];simp};rw[if_neg c];exact nfp a ha i
end
section
variable{X:Cx}{Ex:XK}{Y:WZ}
def JE{x:Str}{k:Nat}{ps:Wb}{ms:WV}{sp:dS}{p pos:Pos}{e:Expr}{es:WX}{as:List Arg}(F:dB X.prog X.w X.K X.mg X.base k x ps (eO X.mg X.K ms sp))(hp:Passes (cH X.prog X.w) X Ex)(hr:cC k X.A)(hg:Gl X x)(hd:(x==("__debug__":Str))=false)(ns:(e::es).all noStar=true)(S:aV X Ex Y (e::es) as):SE X Ex Y (.Call (.Name x p) (e::es) [] pos) (aM sp ms as):=by
 intro g xc E U H Hm Fo P Q hx R h q;obtain⟨f,fd,h1,h2,h3,h4⟩:=F;refine WE.of (Aq (E:=Ex) h4 hr hg h1 h2 h3 .nil hp (fL ns) hd (cI (by rw[QY,Q9]at ns;exact ns.1)) (iY (by rw[QY,Q9]at ns;exact ns.2))) ?_;refine kE hx S R h λE1 os vs H1 Hm1 F1 p R1 s1 G=>?_;replace p:Eg sp ms as xc E1 os P:=p;unfold Eg at p;rw[<-bg,fh]at p;obtain⟨ds,hf,p⟩:=p;rw[fm,GQ]at p;obtain⟨hl,hsp⟩:=p;unfold yy at hl;rw[Q9,Q9,Sf,QW]at hl;obtain⟨⟨l1,l2⟩,l3⟩:=hl;have hlent:∀i∈lent ms as,i∉kept ms as/\∃p es,E1[i]?=some (some (.ow p,.list es)):=λi hi=>by have:=l3 i hi;rw[Q9]at this;refine⟨λz=>?_,?_⟩;{have y:=this.1;rw[UY,UA]at y;simp[z]at y};have y:=this.2;split at y;{rename_i p es e;exact⟨p,es,e⟩};cases y
 have off:∀a∈(kept ms as).flatMap F1,Hm1 a=none:=λa ha=>by obtain⟨i,_,h⟩:=Rj.mp ha;exact R1.off i a h
 have up:=ic (Hm:=Hm1) (H:=H1) off;obtain⟨ix,e1,e2,e3⟩:=NO R1 up (ms:=ms) G hf l1 l2 (λi hi=>(hlent i hi).2) (λi hi a ha=>eU (Rj.mpr ⟨i,hi,ha⟩)) λi hi a ha=>by
  rw[b9 λz=>by
   obtain⟨j,hj,h⟩:=Rj.mp z;exact(hlent i hi).1 (R1.aQ j i a h ha▸hj)]
  exact R1.off i a ha
 show eO X.mg X.K ms sp (vs++[]) H1 Q Ex;rw[S8];refine⟨ds,ix.map (·.2),lend Hm1 H1 ((kept ms as).flatMap F1),_,xc,iV R1.sub,e2,hsp,λus k r u H' Hm' fp p sM sS fr old bk o new=>?_,λc d C a H' hC hxc fr ha hn=>?_⟩
 .replace p:EI ms as E1 us k r P:=p;unfold EI at p;rw[<-bg,t8]at p;obtain⟨E2,hu,p⟩:=p;rw[<-bg,Gs]at p;obtain⟨E3,ha,p⟩:=p;obtain⟨u1,u2,u3,u4⟩:=m6 hu l2;have hu':∀q∈ix,∃p es xs' es',PyData.list es'∈us/\E1[q.1]?=some (some (.ow p,.list es))/\E2[q.1]?=some (some (.ow p,.list es'))/\H' q.2=some (.lst xs')/\au X.K Hm' xs' es'/\Hm' q.2=none:=λq hq=>by
   obtain⟨n,hn⟩:=Rq hq;have hn1:(lent ms as)[n]?=some q.1:=by rw[<-e1,R8,hn];rfl
   have hn2:(ix.map (·.2))[n]?=some q.2:=by rw[R8,hn];rfl
   obtain⟨xs',es',g1,g2,g3,g4⟩:=bk.get hn2;obtain⟨p',es,es'',g5,g6,g7⟩:=u4 n q.1 _ hn1 g1;cases g5;exact⟨p',es,xs',es',RD g1,g6,g7,g2,g3,g4⟩
  obtain⟨Hm'',F'',R'',s'',T⟩:=BW R1 (is:=kept ms as) (ix:=ix) (us:=us) e3 (λq hq=>(hlent q.1 (e1▸Q8.mpr ⟨q,hq,rfl⟩)).1) u1 (λj hj=>u2 j (e1▸hj)) hu' (wY ha) sM sS fr old o new;exact q _ _ _ _ _ _ _ _ p R'' (s1.trans s'') T
 refine hx c d C a H' hC hxc (λp o hp ho=>?_) ha (R1.gO hn);refine fr p o (λz=>?_) (R1.fr p o hp ho);obtain⟨q,hq,rfl⟩:=Q8.mp z;rcases R1.new q.1 q.2 (by rw[(e3 q hq).2];exact Q6)with y|y;{exact hp y};rw[y]at ho;cases ho
end
noncomputable def WS (X:Cx)(st:Stmt):TS:=λD U H=>∀(pins:WD)(s:Shared),Inv X pins U H s->wpAny (model X.prog X.w) X.A (exec st X.env) (SP X pins D) X.xe s
noncomputable def k8 (X:Cx)(st:WY):TS:=λD U H=>∀(pins:WD)(s:Shared),Inv X pins U H s->wpAny (model X.prog X.w) X.A (execs st X.env) (SP X pins D) X.xe s
def AZ:PS X st (WS X st):=λpins s _ _ _ I h=>h pins s I
def gZ:kT X st (k8 X st):=λpins s _ _ _ I h=>h pins s I
def WS.of(h:PS X st t)(q:t D U H):WS X st D U H:=λpins s I=>h pins s U H D I q
def k8.of(h:kT X st t)(q:t D U H):k8 X st D U H:=λpins s I=>h pins s U H D I q
def bX{α:Type}{l:List α}{i:Nat}{a:α}(h:l[i]?=some a):i<l.length:=by rcases Rh i l.length with z|z;{exact z};rw[Rk z]at h;cases h
def lR{Y:WZ}{U:St}{j i:Nat}{v:Option V}(nd:Y.Nodup)(h:Y[j]?=some i)(hi:i<U.length):(sel Y U).set j v=sel Y (U.set i v):=by
 have lj:j<Y.length:=bX h;refine T4 λk=>?_;by_cases c:k=j;{subst c;rw[aF (by unfold sel;rw[Q7];exact lj)];unfold sel;rw[R8,h];show some v=some ((U.set i v)[i]?).join;rw[aF hi];rfl};rw[ak (Ne.symm c)];unfold sel;rw[R8,R8];cases e:Y[k]? with
 |none=>rfl
 |some m=>
  have ne:i≠m:=λz=>c (by
   have h1:=RW.mp e;have h2:=RW.mp h;obtain⟨l1,e1⟩:=h1;obtain⟨l2,e2⟩:=h2;exact(List.getElem_inj nd).mp (e1.trans (z.symm.trans e2.symm)))
  show some (U[m]?).join=some ((U.set i v)[m]?).join;rw[ak ne]
abbrev aT (X:Cx):WZ:=List.range X.N.length
noncomputable def OU (X:Cx)(Ex:XK)(w:TS)(d:DS):Prop:=
 ∀(g:Gh)(D':iA)(E:En)(U:St)(H Hm:Hp)(F:Nat->WU)(D:Ends),XL X Ex D'.xc g->Rl X.K g E U H Hm F->d D' E->
  (∀E' σ' H' Hm' F',D'.nx E'->Rl X.K g E' σ' H' Hm' F'->af Hm Hm'->D.nx (sel (aT X) σ') H')->
  (∀E' k v u σ' H' Hm' F' fp,D'.rt E' k v->Rl X.K g E' σ' H' Hm' F'->Tm X.K g F' H' Hm' k u v fp->D.rt u H')->w D (sel (aT X) U) H
abbrev S1 (X:Cx)(Ex:XK)(st:Stmt)(d:DS):Prop:=OU X Ex (WS X st) d
abbrev SS (X:Cx)(Ex:XK)(st:WY)(d:DS):Prop:=OU X Ex (k8 X st) d
section
variable{X:Cx}{Ex:XK}
def bF:SS X Ex [] cF:=λg D' E U H Hm F D hx R h nx rt=>k8.of j4 (nx _ _ _ _ _ h R (af.refl _))
def aj{st:Stmt}{rest:WY}{a b:DS}(h1:S1 X Ex st a)(h2:SS X Ex rest b):SS X Ex (st::rest) (aC a b):=by intro g D' E U H Hm F D hx R h nx rt;refine k8.of (cg AZ gZ) (h1 g { D' with nx:=b D' } E U H Hm F _ hx R h (λE1 σ1 H1 Hm1 F1 p1 R1 s1=>?_) rt);exact h2 g D' E1 σ1 H1 Hm1 F1 D hx R1 p1 (λE2 σ2 H2 Hm2 F2 p2 R2 s2=>nx _ _ _ _ _ p2 R2 (s1.trans s2)) rt
def d7{st:Stmt}{rest:WY}{a b:DS}(h1:S1 X Ex st a)(h2:SS X Ex rest b):SS X Ex (st::rest) (gG a b):=by intro g D' E U H Hm F D hx R h nx rt;obtain⟨J,h,hJ⟩:=h;refine k8.of (cg AZ gZ) (h1 g { D' with nx:=J } E U H Hm F _ hx R h (λE1 σ1 H1 Hm1 F1 p1 R1 s1=>?_) rt);exact h2 g D' E1 σ1 H1 Hm1 F1 D hx R1 (hJ E1 p1) (λE2 σ2 H2 Hm2 F2 p2 R2 s2=>nx _ _ _ _ _ p2 R2 (s1.trans s2)) rt
def aq(h1:S1 X Ex st a):SS X Ex [st] a:=λg D' E U H Hm F D hx R h nx rt=>k8.of (bN AZ) (h1 g D' E U H Hm F D hx R h nx rt)
def Qd(hc:ST X Ex (aT X) c t)(ha:SS X Ex a d)(hb:SS X Ex b2 e):S1 X Ex (.If c a b2 pos) (b5 t d e):=by
 rw[JZ];intro g D' E U H Hm F D hx R h nx rt;refine WS.of (jV nh gZ gZ) (hc g D'.xc E U H Hm F _ (λb H1=>if b=true then k8 X a D _ H1 else k8 X b2 D _ H1) hx R h λE1 b H1 Hm1 F1 p1 R1 s1=>?_);cases b with
 |true=>exact mV (ha g D' E1 U H1 Hm1 F1 D hx R1 (by simpa using p1) (λE2 σ2 H2 Hm2 F2 p2 R2 s2=>nx _ _ _ _ _ p2 R2 (s1.trans s2)) rt)
 |false=>exact kG (hb g D' E1 U H1 Hm1 F1 D hx R1 (by simpa using p1) (λE2 σ2 H2 Hm2 F2 p2 R2 s2=>nx _ _ _ _ _ p2 R2 (s1.trans s2)) rt)
def Ou(h:SE X Ex (aT X) e d):S1 X Ex (.Return (some e) pos) (gY d):=λg D' E U H Hm F D hx R p nx rt=>WS.of (pM cN) (h g D'.xc E U H Hm F _ _ hx R p λE' k v u H' Hm' F' fp p' R' s' T=>rt _ _ _ _ _ _ _ _ _ p' R' T)
def LQ(h:SE X Ex (aT X) e d)(hs:swapsWith e none pos.line X.env=pure false):S1 X Ex (.Expr e pos) (cO d):=λg D' E U H Hm F D hx R p nx rt=>WS.of (uo cN hs) (h g D'.xc E U H Hm F _ _ hx R p λE' k v u H' Hm' F' fp p' R' s' T=>nx _ _ _ _ _ p' R' s')
def Rl.move{K:Frag}{g:Gh}{E:En}{U:St}{H Hm:Hp}{F:Nat->WU}(R:Rl K g E U H Hm F){i:Nat}{k:Kd}{d:PyData}(e:E[i]?=some (some (k,d)))(hk:k.pin=false):∃v F',U[i]?=some (some v)/\Rl K g (E.set i none) U H Hm F'/\Tm K g F' H Hm k v d (F i):=by
 obtain⟨v,h1,h2⟩:=R.slot i k d e;have li:=bX e;refine⟨v,λj=>if j=i then []else F j,h1,?_,⟨h2,R.off i,λa ha j=>?_,λa ha=>R.notM e hk ha⟩⟩
 .exact {
   len:=by rw[Rf];exact R.len
   sub:=R.sub
   slot:=λj k' d' e'=>by
    by_cases c:j=i
    .subst c;rw[aF li]at e';cases e'
    .rw[ak (Ne.symm c)]at e';obtain⟨u,g1,g2⟩:=R.slot j k' d' e';exact⟨u,g1,by rw[if_neg c];exact g2⟩
   off:=λj a ha=>by
    by_cases c:j=i
    .rw[if_pos c]at ha;cases ha
    .rw[if_neg c]at ha;exact R.off j a ha
   bu:=λj a ha=>by
    by_cases c:j=i
    .rw[if_pos c]at ha;cases ha
    .rw[if_neg c]at ha;exact R.bu j a ha
   aQ:=λj l a g1 g2=>by
    by_cases c:j=i
    .rw[if_pos c]at g1;cases g1
    .rw[if_neg c]at g1
     by_cases c':l=i
     .rw[if_pos c']at g2;cases g2
     .rw[if_neg c']at g2;exact R.aQ j l a g1 g2
   fr:=R.fr
   new:=λj a ha=>by
    by_cases c:j=i
    .rw[if_pos c]at ha;cases ha
    .rw[if_neg c]at ha;exact R.new j a ha
   pin:=λq hq=>by
    obtain⟨g1,ds',g2⟩:=R.pin q hq;have c:i≠q.1:=λz=>by
     rw[<-z,e]at g2;cases g2;cases hk
    exact⟨g1,ds',by rw[ak c];exact g2⟩
   old:=R.old }
 by_cases c:j=i;{rw[if_pos c];simp};rw[if_neg c];exact λz=>c (R.aQ j i a z ha)
def l9{n i:Nat}(h:i<n):(List.range n)[i]?=some i:=Ry h
def LJ{i:Nat}(h:PE X e (lK i))(hi:i<X.N.length):S1 X Ex (.Return (some e) pos) (jj i):=by
 intro g D' E U H Hm F D hx R p nx rt;replace p:CM E i D'.rt:=p;unfold CM at p;split at p
 rotate_left
 .exact p.elim
 rename_i k d e1;rw[fm]at p;obtain⟨hk,p⟩:=p;have hk:k.pin=false:=by simpa using hk
 obtain⟨v,F',h1,R',T⟩:=R.move e1 hk;exact WS.of (pM h) ⟨v,eW (l9 hi) h1,rt _ _ _ _ _ _ _ _ _ p R' T⟩
def iU{i:Nat}(h:bR E i=true):i<E.length:=by rcases Rh i E.length with z|z;{exact z};unfold bR at h;rw[Rk z]at h;cases h
def NR{i:Nat}{x:Str}{e:Expr}{pos pos':Pos}{d:DE}(hN:X.N.Nodup)(hi:X.N[i]?=some x)(hl:Loc X.env.scope x)(hs:swapsWith e (some (.Name x pos')) pos.line X.env=pure false)(hf:X.fn x=true\/X.env.scope.names.lookup x=some .local)(h:SE X Ex (aT X) e d):S1 X Ex (.Assign [.Name x pos'] e pos) (aL i d):=by rw[ua];intro g D' E U H Hm F D hx R p nx rt;refine WS.of (fX hN hi hl cN hs hf) (h g D'.xc E U H Hm F _ _ hx R p λE' k v u H' Hm' F' fp p' R' s' T=>?_);show D.nx ((sel (aT X) U).set i (some u)) H';rw[lR Sz (l9 (bX hi)) (R'.len▸iU p'.1)];exact nx _ _ _ _ _ p'.2 (R'.put T p'.1) s'
inductive kJ(X:Cx)(Y:WZ):WX->WZ->Prop
 |nil:kJ X Y [] []
 |cons {x:Str}{p:Pos}{j i:Nat}{ts:WX}{is:WZ}:X.N[j]?=some x->Y[j]?=some i->Loc X.env.scope x->(X.fn x=true\/X.env.scope.names.lookup x=some .local)->kJ X Y ts is->kJ X Y (.Name x p::ts) (i::is)
inductive gS(X:Cx)(Y:WZ):Expr->Tg->Prop
 |nm {x:Str}{p:Pos}{j i:Nat}:X.N[j]?=some x->Y[j]?=some i->Loc X.env.scope x->(X.fn x=true\/X.env.scope.names.lookup x=some .local)->gS X Y (.Name x p) (.nm i)
 |tp {ts:WX}{k:Nat}{p:Pos}{is:WZ}:kJ X Y ts is->gS X Y (.Tuple ts k p) (.tp is)
noncomputable def Qo (X:Cx)(Y:WZ)(tg:Tg)(G:TG):Prop:=∀{g:Gh}{d:PyData}{v:V}{E E2:En}{U:St}{H Hm:Hp}{F:Nat->WU}{Q:St->Hp->Prop},cS tg d E=some E2->Rp X.K Hm v d->Rl X.K g E U H Hm F->(∀σ' F',Rl X.K g E2 σ' H Hm F'->(∀j,j∉tg.slots->σ'[j]?=U[j]?)->Q (sel Y σ') H)->G v (sel Y U) H Q
def FZ(hN:X.N.Nodup)(nd:Y.Nodup)(h:kJ X Y ts is):∃G:qy,EA X ts G/\(assignEach ts X.env).length=is.length/\(assignEach ts X.env).findIdx? (·.1)=none /\ ∀{g:Gh}{ds:WN}{vs:List V}{E E2:En}{U:St}{H Hm:Hp}{F:Nat->WU}{Q:St->Hp->Prop},bJ is ds E=some E2->au X.K Hm vs ds->Rl X.K g E U H Hm F->(∀σ' F',Rl X.K g E2 σ' H Hm F'->(∀j,j∉is->σ'[j]?=U[j]?)->Q (sel Y σ') H)->vs.length=is.length/\G vs (sel Y U) H Q:=by
 induction h with
 |nil=>
  refine⟨Nb,zC,rfl,rfl,λ{g ds vs E E2 U H Hm F Q} h r R q=>?_⟩;cases ds with
  |nil=>cases h;cases r;exact⟨rfl,rfl,q _ _ R λ_ _=>rfl⟩
  |cons _ _=>cases h
 |@cons x p j i ts is h1 h2 h3 h4 _ ih=>
  obtain⟨G,g1,g2,g3,g4⟩:=ih;refine⟨IJ (kX j) G,qE (p9 hN h1 h3 h4) g1,?_,?_,λ{g ds vs E E2 U H Hm F Q} h r R q=>?_⟩;{show(assignEach ts X.env).length+1=_;rw[g2];rfl};{show List.findIdx? (·.1) ((false,assign (.Name x p) X.env)::assignEach ts X.env)=none;rw[List.findIdx?_cons,g3];rfl};cases ds with
  |nil=>cases h
  |cons d ds=>
   rw[bJ]at h;by_cases o:bR E i=true
   .rw[if_pos o]at h;cases r with
    |cons r1 r2=>
     obtain⟨l,k⟩:=g4 h r2 (R.put (Tm.sh r1) o) λσ' F' R' a=>q σ' F' R' λj' hj=>by have ne:i≠j':=λz=>hj (z▸Q6);exact(a j' λz=>hj (QU _ z)).trans (ak ne)
     refine⟨congrArg (·+1) l,_,_,rfl,?_⟩;show G _ ((sel Y U).set j (some _)) H Q;rw[lR nd h2 (R.len▸iU o)];exact k
   rw[if_neg o]at h;cases h
def wc(hc:X.calm=true)(hN:X.N.Nodup)(nd:Y.Nodup)(h:gS X Y e tg):∃G,PG X e G/\Qo X Y tg G:=by
 cases h with
 |@nm x p j i h1 h2 h3 h4=>refine⟨kX j,p9 hN h1 h3 h4,λ{g d v E E2 U H Hm F Q} h r R q=>?_⟩;have h:bJ [i] [d] E=some E2:=h;rw[bJ]at h;by_cases o:bR E i=true;{rw[if_pos o]at h;cases h;show Q ((sel Y U).set j (some v)) H;rw[lR nd h2 (R.len▸iU o)];exact q _ _ (R.put (Tm.sh r) o) λj' hj=>ak (show i≠j' from λz=>hj (z▸Q6))};rw[if_neg o]at h;cases h
 |@tp ts k p is h=>
  obtain⟨G,g1,g2,g3,g4⟩:=FZ hN nd h;refine⟨_,Dc hc g1 g2 g3,λ{g d v E E2 U H Hm F Q} h r R q=>?_⟩;cases d with
  |tuple ds=>
   have h:bJ is ds E=some E2:=h;cases r with
   |tup a r=>obtain⟨l,k⟩:=g4 h r R q;exact⟨_,_,rfl,bI.of (R.sub _ _ a),l,k⟩
  |_=>cases h
def Oq{k:Nat}(hc:X.calm=true)(hN:X.N.Nodup)(ht:kJ X (aT X) ts is)(hs:swapsWithSole [.Tuple ts k p] e pos.line X.env=pure false)(hw:swappedStores [.Tuple ts k p] e X.env=pure none)(h:SE X Ex (aT X) e d):S1 X Ex (.Assign [.Tuple ts k p] e pos) (Ba is d):=by
 intro g D' E U H Hm F D hx R pp nx rt;obtain⟨G,g1,g2⟩:=wc hc hN Sz (gS.tp (k:=k) (p:=p) ht);refine WS.of (Dt cN g1 hs hw) (h g D'.xc E U H Hm F _ _ hx R pp λE' k v u H' Hm' F' fp p' R' s' T=>?_);replace p':bK k.fz _:=p';rw[fm]at p';obtain⟨hk,p'⟩:=p';unfold HA at p';split at p'
 rotate_left
 .exact p'.elim
 rename_i ds;rw[<-bg,Ew]at p';obtain⟨E2,e2,p'⟩:=p';have e2:cS (.tp is) (.tuple ds) E'=some E2:=e2;obtain⟨Hm2,s2,R2,r2⟩:=T.ig R' hk;exact g2 e2 r2 R2 λσ' F' R3 _=>nx _ _ _ _ _ p' R3 (s'.trans s2)
def Jc(hp:PassesOwn (model X.prog X.w) X.A X.env X.xe)(hc:ST X Ex (aT X) c t)(hb:SS X Ex b d):S1 X Ex (.While c b [] pos) (yw t d):=by
 intro g D' E U H Hm F D hx R h nx rt;obtain⟨W,⟨m0,w0⟩,step⟩:=h;refine WS.of (F9 hp nh gZ) ⟨λm τ H'=>∃E' σ' Hm' F',W m E'/\Rl X.K g E' σ' H' Hm' F'/\af Hm Hm'/\τ=sel (aT X) σ',⟨m0,E,U,Hm,F,w0,R,af.refl _,rfl⟩,?_⟩;rintro m τ H1⟨E1,σ1,Hm1,F1,w1,R1,s1,rfl⟩;refine hc g D'.xc E1 σ1 H1 Hm1 F1 _ _ hx R1 (step m E1 w1) λE2 b2 H2 Hm2 F2 p2 R2 s2=>?_;cases b2 with
 |true=>
  refine mV ⟨λτ H'=>∃m',m'<m/\∃E' σ' Hm' F',W m' E'/\Rl X.K g E' σ' H' Hm' F'/\af Hm Hm'/\τ=sel (aT X) σ',λ_ _ z=>z,?_⟩;exact hb g { D' with nx:=λE'=>∃m',m'<m/\W m' E' } E2 σ1 H2 Hm2 F2 _ hx R2 (by simpa using p2) (λE3 σ3 H3 Hm3 F3 p3 R3 s3=>by
   obtain⟨m',hm,w3⟩:=p3;exact⟨m',hm,E3,σ3,Hm3,F3,w3,R3,s1.trans (s2.trans s3),rfl⟩) rt
 |false=>exact kG (nx _ _ _ _ _ (by simpa using p2) R2 (s1.trans s2))
noncomputable def As (K:Frag)(J:It)(xs:WN)(iM:Hp):Prop:=∀(i:Nat)(H Hm:Hp),af iM Hm->af Hm H->
 (∀d,xs[i]?=some d->J.go i H/\∀x H',J.pN i H x H'->∃Hm',af Hm Hm'/\af Hm' H'/\af H H'/\(∀a,H a≠none->OE (Hm' a) (Hm a))/\Rp K Hm' x d)/\(xs.length<=i->J.stop i H)
noncomputable def SI (X:Cx)(Ex:XK)(Y:WZ)(tg e:Expr)(d:DI):Prop:=∃wi:TI,PI X tg e wi /\
 ∀(g:Gh)(x:XC)(E:En)(U:St)(H Hm:Hp)(F:Nat->WU)(P:En->WN->Prop)(R:It->Hp->Prop),XL X Ex x g->Rl X.K g E U H Hm F->d x E P->
  (∀E' xs J H' Hm' F',P E' xs->Rl X.K g E' U H' Hm' F'->af Hm Hm'->As X.K J xs Hm'->R J H')->wi (sel Y U) H R
def Rl.turn{F:Nat->WU}(R:Rl K g E U H Hm F)(s1:af Hm Hm')(s2:af Hm' H')(s3:af H H')(old:∀a,H a≠none->OE (Hm' a) (Hm a)):Rl K g E U H' Hm' F:=
 R.grow s3 s1 s2 (λi a ha=>by
  obtain⟨u,hu,nt⟩:=R.bu i a ha;exact(old a (by rw[hu];simp)).off (R.off i a ha) s2 (s3 _ _ hu) nt) λa ha=>old a (R.pZ ha)
def N2(hp:PassesOwn (model X.prog X.w) X.A X.env X.xe)(hc:X.calm=true)(hN:X.N.Nodup)(hi:SI X Ex (aT X) tg it di)(ht:gS X (aT X) tg t)(hb:SS X Ex b d)(hs:∀x,foldedSetIterable it X.env x=pure x):S1 X Ex (.For tg it b [] pos) (dJ di t d):=by
 intro g D' E U H Hm F D hx R h nx rt;obtain⟨wi,hpi,hw⟩:=hi;obtain⟨G,g1,g2⟩:=wc hc hN Sz ht;refine WS.of (ED hp hc hpi g1 gZ hs) (hw g D'.xc E U H Hm F _ _ hx R h λE1 xs J H1 Hm1 F1 p1 R1 s1 it1=>?_);obtain⟨I,i0,step,fin⟩:=p1;refine⟨λi m τ H'=>m=xs.length-i/\i<=xs.length/\∃E' σ' Hm' F',I i E'/\Rl X.K g E' σ' H' Hm' F'/\af Hm1 Hm'/\τ=sel (aT X) σ',⟨xs.length,by simp,RO _,E1,U,Hm1,F1,i0,R1,af.refl _,rfl⟩,?_⟩;rintro i m τ H2⟨rfl,hi,E2,σ2,Hm2,F2,i2,R2,s2,rfl⟩;obtain⟨go,stop⟩:=it1 i H2 Hm2 s2 R2.sub;by_cases c:i<xs.length;{obtain⟨go,pN⟩:=go xs[i] (RI c);refine .inr ⟨go,λτ H'=>i+1<=xs.length/\∃E' σ' Hm' F',I (i+1) E'/\Rl X.K g E' σ' H' Hm' F'/\af Hm1 Hm'/\τ=sel (aT X) σ',λτ H' z=>⟨xs.length-(i+1),by lia,rfl,z⟩,λx H3 y=>?_⟩;obtain⟨Hm3,t1,t2,t3,old,r⟩:=pN x H3 y;have R3:=R2.turn t1 t2 t3 old;obtain⟨E4,e4,p4⟩:=step i xs[i] E2 (RI c) i2;refine g2 e4 r R3 λσ4 F4 R4 _=>?_;exact hb g { D' with nx:=I (i+1) } E4 σ4 H3 Hm3 F4 _ hx R4 p4 (λE5 σ5 H5 Hm5 F5 p5 R5 s5=>⟨c,E5,σ5,Hm5,F5,p5,R5,s2.trans (t1.trans s5),rfl⟩) rt};have e:i=xs.length:=by lia
 subst e;exact .inl ⟨stop (Q5 _),nx _ _ _ _ _ (fin E2 i2) R2 (s1.trans s2)⟩
end
end Dv
namespace L2
open PySem PySem.Spec PyProof.Rows
noncomputable def iS (elt:Expr)(gens:WB)(scope:Scope)(pos:Pos) (k:Nat)(acc:Value)(env:Env)(fin:Sem Fin):Sem Fin:=match gens[k]? with
 |some g'=>do
  let x <-eval g'.iter env
  standAt g'.iter.pos
  let x <-foldedSetIterable g'.iter env x
  let y <-holding [x] (pyIter x)
  let _ <-runOwn (.compStart (.ListComp elt gens scope pos) k y acc env) env
  fin
 |none=>do
  (do let _ <-call (.builtin "list.append") [acc,<-eval elt env])
  fin
def compTurn_gen{k:Nat}(hk:gens[k]?=some ⟨tg,iter,ifs,0⟩)(ha:∀g∈gens,g.is_async=0)(it acc:Value)(env:Env) :
  compTurn (.ListComp elt gens scope pos) k it acc env=(do
   standAt iter.pos
   match <-pyNext it with
   |none=>pure (.done .next)
   |some v=>
    letOwnedTupleGo tg it v
    assign tg env v
    let mut ok:=true
    for c in ifs do
     if ok then ok <-isTrue c env (eval c env)
    if ok then iS elt gens scope pos (k+1) acc env (again (.compLoop (.ListComp elt gens scope pos) k it acc env))
    else again (.compLoop (.ListComp elt gens scope pos) k it acc env)):=by
 unfold compTurn iS;simp only[hk];cases h:gens[k+1]? with
 |none=>rfl
 |some g'=>have e:=ha g' (RD h);obtain⟨t,i,f,a⟩:=g';dsimp only at e;subst e;rfl
section
variable{prog:Program}{w:World}{A:Around}{R:Result->Shared->Prop}{s:Shared}{elt tg iter:Expr}{gens:WB}{ifs:WX}{scope:Scope}{pos:Pos}{k:Nat}
def Bo(hk:gens[k]?=some ⟨tg,iter,ifs,0⟩)(ha:∀g∈gens,g.is_async=0)(I:Nat->Shared->Prop)(turn:∀n s,I n s->wpAny (model prog w) A (pyNext it) (λr s1=>match r with
   |none=>R (.ok .next) s1
   |some v=>wpAny (model prog w) A (letOwnedTupleGo tg it v) (λ_ s0=>wpAny (model prog w) A (assign tg env v) (λ_ s2=>wpAny (model prog w) A (forIn ifs true λc r=>if r=true then do let ok <-isTrue c env (eval c env);pure (ForInStep.yield ok)else pure (ForInStep.yield r)) (λok s3=>
      if ok=true then ∀(fin:Sem Fin)(Qf:Fin->Shared->Prop),(∀s5,(∃m,m<n/\I m s5)->wpAny (model prog w) A fin Qf (nX prog w A env R) s5)->wpAny (model prog w) A (iS elt gens scope pos (k+1) acc env fin) Qf (nX prog w A env R) s3
      else ∃m,m<n/\I m s3) (nX prog w A env R) s2) (nX prog w A env R) s0) (nX prog w A env R) s1) (nX prog w A env R) s)
  (n:Nat)(h:I n s):codeAny (model prog w) A (.compLoop (.ListComp elt gens scope pos) k it acc env) R s:=by
 refine codeAny_loop rfl I (λn s hI=>?_) n h
 refine(wpAny_noted (?_:_):wpAny _ A ((compTurn (.ListComp elt gens scope pos) k it acc env).onRaise (λx=>do noteFrame x env;theTreesLotGoes x)) _ _ s)
 rw[compTurn_gen hk ha];refine Q0 (Sh (Q0 (Ra (turn n s hI) (λr s1 h1=>?_) λ_ _ z=>z)))
 cases r with
 |none=>exact Q2 h1
 |some v=>
  refine Q0 (Ra h1 (λ_ s0 h0=>Q0 (Ra h0 (λ_ s2 h2=>Q0 (Ra h2 (λok s3 h3=>?_) λ_ _ z=>z)) λ_ _ z=>z)) λ_ _ z=>z)
  cases ok with
  |false=>exact Q2 ⟨rfl,h3⟩
  |true=>exact h3 _ _ λs5 h5=>Q2 ⟨rfl,h5⟩
end
noncomputable def mD (N:Wb)(fs scope:Scope)(vs NB:Wb)(ix:WZ):Bool:=
 decide (scope.kind=.function)&&scope.names.all (λy=>decide (y.2≠.cell))&&scope.names.all (λy=>decide (y.2≠.local)||decide (scope.names.lookup y.1=some .local)) &&
 scope.names.all (λy=>decide (y.2≠.free)||(decide (fs.names.lookup y.1=some .cell)||decide (fs.names.lookup y.1=some .free))) &&
 decide (NB=vs++ix.map λi=>N.getD i "")&&decide NB.Nodup&&ix.all λi=>match N[i]? with|some y=>decide (scope.names.lookup y=some .free)|none=>false
structure cE(X:Cx)(scope:Scope)(vs NB:Wb)(ix:WZ):Prop where
 kind:scope.kind=.function
 cell:∀y∈scope.names,y.2≠.cell
 names:∀y∈scope.names,y.2=.local->scope.names.lookup y.1=some .local
 free:∀y,(y,NameKind.free)∈scope.names->(X.env.kindOf y=some .cell\/X.env.kindOf y=some .free)
 nb:NB=vs++ix.map λi=>X.N.getD i ""
 nd:NB.Nodup
 cap:∀i∈ix,∃y,X.N[i]?=some y/\scope.names.lookup y=some .free
def cE.of(h:mD N fs scope vs NB ix=true)(hN:X.N=N:=by rfl)(hf:X.env.scope=fs:=by rfl):cE X scope vs NB ix:=by
 subst hN hf;unfold mD at h;simp only[Q9]at h;obtain⟨⟨⟨⟨⟨⟨h1,h2⟩,h3⟩,h4⟩,h6⟩,h7⟩,h8⟩:=h;refine⟨RN h1,λy hy=>RN (QW.mp h2 y hy),λy hy e=>?_,λy hy=>?_,RN h6,RN h7,λi hi=>?_⟩;{have z:=QW.mp h3 y hy;rw[Bool.or_eq_true]at z;rcases z with z|z;{exact absurd e (RN z)};exact RN z};{have z:=QW.mp h4 _ hy;rw[Bool.or_eq_true,Bool.or_eq_true]at z;rcases z with z|z|z;{exact absurd rfl (RN z)};{exact .inl (RN z)};exact .inr (RN z)};have z:=QW.mp h8 i hi;cases e:X.N[i]? with
 |none=>rw[e]at z;cases z
 |some y=>rw[e]at z;exact⟨y,rfl,RN z⟩
section
variable{X:Cx}{scope:Scope}{vs:Wb}{NB:Wb}{ix:WZ}{pins:WD}{U:St}{H2:Hp}{s2:Shared}{fp:WU}
def cE.clos(B:cE X scope vs NB ix)(I2:Inv X pins U H2 s2):closureFor scope X.env=pure (eN X.env.cells scope.names []):=
 tL λn hn=>I2.ok.has n (B.free n hn)
def cE.look(B:cE X scope vs NB ix)(I2:Inv X pins U H2 s2){c:Addr}(h:(eN X.env.cells scope.names []).lookup y=some c):X.env.cells.lookup y=some c:=by rcases qq _ _ h with⟨m,e⟩|e;{obtain⟨c',hc⟩:=I2.ok.has y (B.free y m);rw[hc]at e⊢;exact congrArg some e};cases e
def EU(B:cE X scope vs NB ix)(I2:Inv X pins U H2 s2){C:Addr}(hC:s2.heap.objs.size<=C)(f2:∀b∈fp,iW X pins H2 b)(ft:∀b∈fp,b<s2.heap.objs.size):(X.block scope C NB s2 H2 fp).Ok where
 mod:=I2.ok.mod
 kind:=B.kind
 glob:=I2.ok.glob
 blt:=I2.ok.blt
 above:=hC
 inj:=λa b c h1 h2=>I2.ok.inj a b c (B.look I2 h1) (B.look I2 h2)
 has:=λy hy=>by
  have key:∀k,(relabel scope X.env).names.lookup y=some k->(k=.cell\/k=.free)->∃c,(eN X.env.cells scope.names []).lookup y=some c:=λk hk kk=>by
   rcases yQ (names:=scope.names) hk with e|⟨e,_⟩
   .rcases kk with rfl|rfl
    .exact absurd rfl (B.cell _ (jf e))
    .exact jU _ _ (.inl (jf e))
   .exact jU _ _ (.inl (jf e))
  rcases hy with e|e
  .exact key _ e (.inl rfl)
  .exact key _ e (.inr rfl)
 wZ:=λ_ _ z=>by cases z
 hd:=I2.ok.hd
 frames:=I2.ok.frames
 stk:=.inl rfl
 Hv:=λb hb=>⟨RH (RL (ft b hb) hC),λy c e=>(f2 b hb).2.2.2.2.1 y c (B.look I2 e)⟩
 bs:=I2.bs
 qt:=RM I2.ok.qt I2.sz
 qF:=λb o e hb=>by
  rcases(f2 b hb).2.2.2.1 with z|z
  .exact I2.ok.qF b o e z
  .exact absurd (RL (QT (I2.ok.bs b o e).1) z) (Ro _)
 ug:=λb hb z=>by
  rcases QX.mp (I2.lP b z)with e|e
  .exact(f2 b hb).2.1 e
  .exact(f2 b hb).2.2.1 e
 iz:=I2.stack
 rQ:=I2.pO
def BA(B:cE X scope vs NB ix)(I2:Inv X pins U H2 s2){C D:Addr}{tk:Nat}(hC:s2.heap.objs.size<=C)(hD:s2.heap.objs.size<=D)(hDC:D≠C)(f2:∀b∈fp,iW X pins H2 b)(ft:∀b∈fp,b<s2.heap.objs.size)(old:∀b o,s2.heap.get? b=some o->h1.get? b=some o)(hn:h1.Ns C m)(ho:h1.get? D=some oD)(hcl:∀v,oD.data≠.cell v) : Inv (X.block scope C NB s2 H2 fp) [(D,oD)] (List.replicate vs.length none++caps ix U) H2 { s2 with heap:=h1,toks:=tk } where
 ok:=EU B I2 hC f2 ft
 os:=rfl
 bare:=I2.bare
 base:=Un.kept old
 loc:=by
  refine⟨m,hn,λi y v e1 e2 _=>?_⟩
  have e1:NB[i]?=some y:=e1
  by_cases li:i<vs.length
  .rw[Sl (by rw[Sm];exact li),List.getElem?_replicate,if_pos li]at e2
   cases e2
  .obtain⟨j,rfl⟩:∃j,i=vs.length+j:=⟨i-vs.length,by lia⟩
   have e2:(caps ix U)[j]?=some (some v):=by
    rw[T5 (by rw[Sm];lia),Sm,Ve]at e2
    exact e2
   rw[B.nb]at e1;have e1:(ix.map λi=>X.N.getD i "")[j]?=some y:=by
    rw[T5 (by lia),Ve]at e1
    exact e1
   rw[R8]at e1;unfold caps at e2;rw[R8]at e2;cases q:ix[j]? with
   |none=>rw[q]at e1;cases e1
   |some i=>
    rw[q]at e1 e2;obtain⟨z,hz,fz⟩:=B.cap i (RD q);have ey:y=z:=by
     have w:X.N.getD i ""=y:=Option.some.inj e1;rw[<-w,Tq,hz];rfl
    subst ey;have e2:(U[i]?).join=some v:=Option.some.inj e2;have es:U[i]?=some (some v):=by
     cases w:U[i]? with
     |none=>rw[w]at e2;cases e2
     |some o=>rw[w]at e2;exact congrArg some e2
    have fk:=B.free y (jf fz);have vis:j8 X.env.scope y:=.inr fk;obtain⟨mm,_,hl⟩:=I2.loc;obtain⟨u,ru,lk⟩:=hl i y v hz es vis;refine⟨u,ru,.inr ⟨?_,?_⟩⟩
    .rcases sD (env:=X.env) (names:=scope.names) fz with e|⟨_,e⟩
     .exact .inr e
     .exact .inl e
    .rcases lk with⟨lk,_⟩|⟨_,c,hc,hcell⟩
     .rcases fk with fk|fk
      .rw[lk]at fk;cases fk
      .rw[lk]at fk;cases fk
     .obtain⟨c',hc'⟩:=jU (cells:=X.env.cells) scope.names [] (.inl (jf fz));have e3:=B.look I2 hc';rw[hc]at e3;cases e3;obtain⟨oc,g1,g2⟩:=hcell;exact⟨c,hc',oc,old _ _ g1,g2⟩
 cell:=λy c e=>by
  obtain⟨v,o,g1,g2⟩:=I2.cell y c (B.look I2 e);exact⟨v,o,old _ _ g1,g2⟩
 free:=I2.hok.fresh hC
 eE:=λy c e=>I2.eE y c (B.look I2 e)
 pin:=λp hp=>by
  have e:p=(D,oD):=by simpa[Cx.block]using hp
  subst e;refine⟨ho,I2.hok.fresh hD,hDC,λz=>?_,hcl⟩
  rcases QX.mp (I2.lP D z)with e|e
  .have e:D=X.env.locals:=e;exact absurd (RL I2.lt (e▸hD)) (Ro _)
  .exact I2.MZ hD e
 hok:=I2.hok.kept old
 len:=by
  show(List.replicate vs.length none++caps ix U).length=NB.length;rw[B.nb,RC,RC,GW,Q7,Sm]
end
abbrev TL:=List V->St->Hp->(List V->St->Hp->Prop)->Prop
noncomputable def PL (X:Cx)(D:Addr)(elt:Expr)(gens:WB)(scope:Scope)(pos:Pos) (k:Nat)(t:TL):Prop:=
 X.s₀.heap.objs.size<=D->(∀y c,X.env.cells.lookup y=some c->c≠D)->(∀e s',X.xe e s'->False)->
 ∀(pins:WD)(s:Shared)(U:St)(H:Hp)(ys:List V)(its:WQ) (nn:Nat)(Q:List V->St->Hp->Prop)(fin:Sem Fin)(Qf:Fin->Shared->Prop)(E:WA),
  (∀p∈X.pn++pins,p.1≠D)->Inv X ((D,iI its nn)::pins) U H s->Vals ys its->ys.length<=sizeLine->t ys U H Q->
  (∀s' ys' its' nn' σ' H',Inv X ((D,iI its' nn')::pins) σ' H' s'->Vals ys' its'->ys'.length<=sizeLine->Q ys' σ' H'->wpAny (model X.prog X.w) X.A fin Qf E s')->
  wpAny (model X.prog X.w) X.A (iS elt gens scope pos k (.ref D) X.env fin) Qf E s
noncomputable def IU (te:TE):TL:=λys U H Q=>te U H λv H1=>ys.length<sizeLine/\Q (ys++[v]) U H1
noncomputable def GX (J:It)(g:TG)(tt:TT)(tr:TL)(ys0:List V)(σ0:St)(H1:Hp)(Q:List V->St->Hp->Prop):Prop:=
 ∃W:Nat->Nat->List V->St->Hp->Prop,(∃m,W 0 m ys0 σ0 H1)/\∀i m ys U H,W i m ys U H->
  (J.stop i H/\Q ys U H)\/(J.go i H/\∃N:List V->St->Hp->Prop,(∀ys' σ' H',N ys' σ' H'->∃m',m'<m/\W (i+1) m' ys' σ' H') /\
   ∀x H',J.pN i H x H'->g x U H' λσ2 H2=>tt σ2 H2 λb H3=>if b=true then tr ys σ2 H3 N else N ys σ2 H3)
section
variable{X:Cx}{D:Addr}{elt tg iter:Expr}{gens:WB}{ifs:WX}{scope:Scope}{pos:Pos}{k:Nat}
def Ax(he:PE X elt te)(hk:gens[k]?=none:=by rfl):PL X D elt gens scope pos k (IU te):=by
 intro hD hc hx pins s U H ys its nn Q fin Qf E hp I rv hz h hf;unfold iS;rw[hk];refine Q0 (Q0 (Ra (he _ s U H _ I h) (λy s8 ⟨yv,H8,I8,r8,hlt,n8⟩=>Q0 ?_) λe s' z=>(hx e s' z).elim));have pD:=I8.pin (D,iI its nn) (Rw _ Q6);refine append_at (hsz:=by rw[R9,<-rv.length];exact hz) pD.1 λh9 hs9 hD9=>Q2 ?_;have I8n:Inv X pins U H8 s8:=I8.lT λp hp'=>I8.pin p (Rw _ (QU _ hp'));have I9:=I8n.turned (h':=h9) (t':=s8.toks) (it:=D) (λb o hb e=>hs9.extBut b o hb e) pD.2.1 pD.2.2.1 (.inr hD) hc hp;have e9:iI (its++[y]) (nn+1)={ cls:=.type "list",data:=.seq (its.toArray.push y) (nn+1) }:=by show({ cls:=.type "list",data:=.seq (its++[y]).toArray (nn+1) }:Obj)=_;rw[List.push_toArray]
 have I10:Inv X ((D,iI (its++[y]) (nn+1))::pins) U H8 { s8 with heap:=h9 }:=by refine I9.lT λp hp'=>?_;rcases QX.mp hp' with rfl|hp';{exact⟨hD9.trans (congrArg some e9.symm),pD.2.1,pD.2.2.1,pD.2.2.2.1,λv q=>by cases q⟩};exact I9.pin p (Rw _ hp')
 exact hf _ (ys++[yv]) (its++[y]) (nn+1) U H8 I10 (Vals.append rv (.cons r8 .nil)) (by rw[RC];exact hlt) n8
end
section
variable{X:Cx}{scope:Scope}{vs:Wb}{NB:Wb}{ix:WZ}
noncomputable def rP (wi:TI) (n:Nat)(ix:WZ)(g:TG)(tt:TT)(tr:TL):TE:=λU H Q=>wi U H λJ H1=>GX J g tt tr [] (List.replicate n none++caps ix U) H1 λys _ H'=>∀p,H' p=none->Q (.ref p) (upd H' p (.lst ys))
def sU{elt tg iter:Expr}{ifs:WX}{rest:WB}{pos:Pos}{g:TG}{tt:TT}{tr:TL}{J:It}{it:Addr}{tn:Nat->Heap->Prop}{fp:WU}{pins:WD}{U:St}{H2:Hp}{s2:Shared}{E:WA}{RR:Value->Addr->Result->Shared->Prop}{Qr:VK}(B:cE X scope vs NB ix)(hc:X.calm=true)(hg:∀(C:Addr)(s:Shared)(H:Hp)(fp:WU),PG (X.block scope C NB s H fp) tg g)(ht:∀(C:Addr)(s:Shared)(H:Hp)(fp:WU),vh (X.block scope C NB s H fp) ifs tt)(hr:∀(C:Addr)(s:Shared)(H:Hp)(fp:WU)(D:Addr),PL (X.block scope C NB s H fp) D elt (⟨tg,iter,ifs,0⟩::rest) scope pos 1 tr)(ha:∀g∈rest,g.is_async=0)(I2:Inv X pins U H2 s2)(T:Turn X.prog X.w X.K tg J fp it tn)(st2:tn 0 s2.heap)(f2:∀b∈fp,iW X pins H2 b)(h:GX J g tt tr [] (List.replicate vs.length none++caps ix U) H2 λys _ H'=>∀p,H' p=none->Qr (.ref p) (upd H' p (.lst ys)))(hRR:∀(D C:Addr)(Hf:Hp)(s':Shared)(m':WC),Inv X pins U Hf s'->s'.heap.Ns C m'->iW X pins Hf C->Qr (.ref D) Hf->RR (.ref D) C (.ok .next) s') : wpAny (model X.prog X.w) X.A (newList []) (λacc s3=>wpAny (model X.prog X.w) X.A (newFunctionEnv scope X.env.globals (eN X.env.cells scope.names []) [] X.env.qual none .none (some X.env)) (λcenv s4=> codeAny (model X.prog X.w) X.A (.compStart (.ListComp elt (⟨tg,iter,ifs,0⟩::rest) scope pos) 0 (.ref it) acc { cenv with scope:=relabel scope X.env }) (RR acc cenv.locals) s4) E s3) E s2:=by
 obtain⟨W,⟨m0,w0⟩,turn⟩:=h;have ha':∀g∈(⟨tg,iter,ifs,0⟩:Comprehension)::rest,g.is_async=0:=λg hg=>by rcases QX.mp hg with rfl|hg;{rfl};exact ha g hg
 refine Sq (wpAny_newFunctionEnv B.cell (by intro y hy;simp at hy) (λh1 hns hsb=>?_) B.kind);dsimp only at hns hsb⊢;generalize eG:s2.heap.push { cls:=.type "list",dict:=none,data:=.seq ([]:WQ).toArray }=G at hns hsb⊢;have hC:G.objs.size=s2.heap.objs.size+1:=by rw[<-eG,Heap.size_push]
 have hDC:s2.heap.objs.size≠G.objs.size:=by rw[hC];exact RH (US _)
 have hCle:s2.heap.objs.size<=G.objs.size:=by rw[hC];exact U1 _
 have old:∀b o,s2.heap.get? b=some o->h1.get? b=some o:=λb o e=>by have lt:=QT e;exact hsb.extBut b o (RH (RL lt hCle)) (QZ _ (eG▸QZ _ e))
 have hacc:h1.get? s2.heap.objs.size=some (iI [] 0):=hsb.extBut _ _ hDC (QZ _ (eG▸Rc _ rfl));have ft:∀b∈fp,b<s2.heap.objs.size:=λb hb=>by obtain⟨o,e,_⟩:=T.obj _ _ st2 b hb;exact QT e
 have cD:∀y c,(X.block scope G.objs.size NB s2 H2 fp).env.cells.lookup y=some c->c≠s2.heap.objs.size:=λy c e z=>by obtain⟨w,q⟩:=I2.cell y c (B.look I2 e);exact Ro _ (z▸q.lt)
 have loop:∀s3:Shared,s3={ s2 with heap:=h1,toks:=s2.toks+([]:List (Str×Value)).length }->
   codeAny (model X.prog X.w) X.A (.compLoop (.ListComp elt (⟨tg,iter,ifs,0⟩::rest) scope pos) 0 (.ref it) (.ref s2.heap.objs.size) (compEnvC scope (eN X.env.cells scope.names []) G.objs.size X.env))
    (RR (.ref s2.heap.objs.size) G.objs.size) s3:=by
  rintro s3 rfl;have I3:=BA (tk:=s2.toks+([]:List (Str×Value)).length) B I2 hCle (Q5 _) hDC f2 ft old hns hacc (λv q=>by cases q)
  have st3:tn 0 h1:=T.keep _ _ _ st2 λb _ o e=>old b o e
  have fy:∀{H':Hp}{oD:Obj},(∀b∈fp,H' b=none)->∀b∈fp,iW (X.block scope G.objs.size NB s2 H2 fp) [(s2.heap.objs.size,oD)] H' b:=λ{H' oD} hn b hb=>by
   refine⟨hn b hb,RH (RL (ft b hb) hCle),λz=>?_,.inl hb,λy c e=>(f2 b hb).2.2.2.2.1 y c (B.look I2 e),λp hp=>?_⟩;{rcases QX.mp (I2.lP b z)with e|e;{exact(f2 b hb).2.1 e};exact(f2 b hb).2.2.1 e};have e:p=(s2.heap.objs.size,oD):=by simpa[Cx.block]using hp
   subst e;exact Ne.symm (RH (ft b hb))
  refine Bo (k:=0) rfl ha' (λn s'=>∃i ys its nn σ' H',W i n ys σ' H'/\Inv (X.block scope G.objs.size NB s2 H2 fp) [(s2.heap.objs.size,iI its nn)] σ' H' s'/\tn i s'.heap/\(∀b∈fp,H' b=none)/\Vals ys its/\ys.length<=sizeLine)
   ?_ m0 ⟨0,[],[],0,_,H2,w0,I3,st3,λb hb=>(f2 b hb).1,.nil,RO _⟩
  rintro n s'⟨i,ys,its,nn,σ',H',w',I',st',fr',rv,hz⟩;rcases turn i n ys σ' H' w' with⟨stop,q⟩|⟨go,Nx,hNx,step⟩
  .refine Ra (T.done (X.block scope G.objs.size NB s2 H2 fp) rfl rfl rfl hc i _ s' _ H' (λ_ _=>False) I' (fy fr') st' stop) (λr s4 ⟨hr',I4⟩=>?_) λ_ _ z=>z.elim
   subst hr';have I5:=DB I2 f2 (Q5 _) I4 rv hz;obtain⟨m4,hn4,_⟩:=I4.loc;have hfree:H' s2.heap.objs.size=none:=(I4.pin (s2.heap.objs.size,iI its nn) (by show _∈[]++[(s2.heap.objs.size,iI its nn)];simp)).2.1
   have fC:iW X pins (upd H' s2.heap.objs.size (.lst ys)) G.objs.size:=I2.uK hCle (by
    rw[ah (Ne.symm hDC)];exact I4.free)
   exact hRR _ _ _ s4 m4 I5 hn4 fC (q _ hfree)
  .refine Ra (T.item (X.block scope G.objs.size NB s2 H2 fp) rfl rfl rfl hc i _ s' _ H' (λ_ _=>False) I' (fy fr') st' go) (λr s4 ⟨u,hr',h4⟩=>?_) λ_ _ z=>z.elim
   subst hr';refine Ra h4 (λ_ s4 ⟨v,H5,I5,r5,y5,st5,fr5⟩=>?_) λ_ _ z=>z.elim
   have pIt:∀b∈fp,∃o,s4.heap.get? b=some o/\∀v,o.data≠.cell v:=T.obj _ _ st5;have I5':=I5.pinned (fy fr5) pIt;refine Ra (hg _ _ _ _ _ s4 σ' H5 v u _ I5' r5 (step v H5 y5)) (λ_ s6 ⟨σ6,H6,I6,q6⟩=>?_) λ_ _ z=>z.elim
   refine Ra (ht _ _ _ _ _ s6 σ6 H6 _ I6 q6) (λb s7 ⟨H7,I7,q7⟩=>?_) λ_ _ z=>z.elim
   have stays:∀{s9:Shared}{H9:Hp}{σ9:St}{oD:Obj},Inv (X.block scope G.objs.size NB s2 H2 fp) ((s2.heap.objs.size,oD)::kF fp s4.heap) σ9 H9 s9->tn (i+1) s9.heap/\(∀b∈fp,H9 b=none)/\Inv (X.block scope G.objs.size NB s2 H2 fp) [(s2.heap.objs.size,oD)] σ9 H9 s9:=λ{s9 H9 σ9 oD} I9=>by
    refine⟨T.keep _ _ _ st5 λb hb o e=>(I9.pin (b,o) (Rw _ (QU _ (jR hb e)))).1,λb hb=>?_,I9.lT λp hp'=>I9.pin p (Rw _ ?_)⟩
    .obtain⟨o,e,d⟩:=pIt b hb;exact(I9.pin (b,o) (Rw _ (QU _ (jR hb e)))).2.1
    .rw[QS.mp hp'];exact Q6
   cases b with
   |false=>
    rw[if_neg QV]at q7⊢;obtain⟨m',hm,w7⟩:=hNx _ _ _ q7;obtain⟨g1,g2,g3⟩:=stays I7;exact⟨m',hm,i+1,ys,its,nn,σ6,H7,w7,g3,g1,g2,rv,hz⟩
   |true=>
    rw[if_pos rfl]at q7⊢;intro fin' Qf' hf';refine hr _ _ _ _ s2.heap.objs.size (Q5 _) cD (λ_ _ z=>z) (kF fp s4.heap) s7 σ6 H7 ys its nn Nx fin' Qf' _ (λp hp'=>?_) I7 rv hz q7 λs8 ys8 its8 nn8 σ8 H8 I8 rv8 hz8 n8=>?_
    .have hp'':p∈kF fp s4.heap:=hp';exact RH (ft _ (vp hp'').1)
    .obtain⟨m',hm,w8⟩:=hNx _ _ _ n8;obtain⟨g1,g2,g3⟩:=stays I8;exact hf' s8 ⟨m',hm,i+1,ys8,its8,nn8,σ8,H8,w8,g3,g1,g2,rv8,hz8⟩
 exact codeAny_compStart_list (loop _ rfl) (T.self _ 0 _ _ _ (T.keep _ _ _ st2 λb _ o e=>old b o e) (loop _ rfl))
def Fi{elt tg iter:Expr}{ifs:WX}{rest:WB}{pos:Pos}{wi:TI}{g:TG}{tt:TT}{tr:TL}(B:cE X scope vs NB ix)(hc:X.calm=true)(hi:PI X tg iter wi)(hg:∀(C:Addr)(s:Shared)(H:Hp)(fp:WU),PG (X.block scope C NB s H fp) tg g)(ht:∀(C:Addr)(s:Shared)(H:Hp)(fp:WU),vh (X.block scope C NB s H fp) ifs tt)(hr:∀(C:Addr)(s:Shared)(H:Hp)(fp:WU)(D:Addr),PL (X.block scope C NB s H fp) D elt (⟨tg,iter,ifs,0⟩::rest) scope pos 1 tr)(ha:∀g∈rest,g.is_async=0:=by decide)(hs:∀v,foldedSetIterable iter X.env v=pure v:=by intro _;rfl):PE X (.ListComp elt (⟨tg,iter,ifs,0⟩::rest) scope pos) (rP wi vs.length ix g tt tr):=by intro pins s U H Q I h;rw[eval_ListComp];refine wpAny_comprehension_free (use:=none) rfl hs (B.clos I) B.kind B.names (aH (hi pins s U H _ I h) λv s1 h1=>aH h1 λitv s2 h2=>?_);obtain⟨it,fp,tn,J,H2,e,I2,T,st2,f2,w⟩:=h2;subst e;refine sU (Qr:=Q) (RR:=λacc C=>compPost (model X.prog X.w) X.A X.xe none (EP X pins U Q) acc C) B hc hg ht hr ha I2 T st2 f2 w λD C Hf s' m' I' hn' fC q=>?_;refine⟨m',hn',λh'' hs''=>⟨.ref D,Hf,?_,rfl,q⟩⟩;obtain⟨c0,c1,c2,c3,c4,c5⟩:=fC;exact I'.turned (it:=C) (t':=s'.toks) (λb o hb e=>hs''.extBut b o hb e) c0 c1 c3 c4 c5
def w9{elt tg iter:Expr}{ifs:WX}{rest:WB}{pos py spos:Pos}{wi:TI}{g:TG}{tt:TT}{tr:TL}{j:Nat}{y:Str}(hN:X.N.Nodup)(hj:X.N[j]?=some y)(hy:X.env.scope.names.lookup y=some .local)(B:cE X scope vs NB ix)(hc:X.calm=true)(hi:PI X tg iter wi)(hg:∀(C:Addr)(s:Shared)(H:Hp)(fp:WU),PG (X.block scope C NB s H fp) tg g)(ht:∀(C:Addr)(s:Shared)(H:Hp)(fp:WU),vh (X.block scope C NB s H fp) ifs tt)(hr:∀(C:Addr)(s:Shared)(H:Hp)(fp:WU)(D:Addr),PL (X.block scope C NB s H fp) D elt (⟨tg,iter,ifs,0⟩::rest) scope pos 1 tr)(hsw:swapsWith (.ListComp elt (⟨tg,iter,ifs,0⟩::rest) scope pos) (some (.Name y py)) spos.line X.env=pure true)(ha:∀g∈rest,g.is_async=0:=by decide)(hs:∀v,foldedSetIterable iter X.env v=pure v:=by intro _;rfl):PS X (.Assign [.Name y py] (.ListComp elt (⟨tg,iter,ifs,0⟩::rest) scope pos) spos) (Gk (rP wi vs.length ix g tt tr) (kX j)):=by
 intro pins s U H Dn I h;rw[exec_Assign_Name_used _ _ _ _ hsw];refine Q0 (Sh (Q0 ?_));show wpAny (model X.prog X.w) X.A (comprehension (.ListComp elt (⟨tg,iter,ifs,0⟩::rest) scope pos) scope X.env _ (newList []) false (eval iter X.env) (some (assign (.Name y py) X.env))>>=λ_=>pure ()) _ _ s;refine Q0 (aH (wpAny_comprehension_free (use:=some (assign (.Name y py) X.env)) (Q:=λ_ s'=>SP X pins Dn .next s') rfl hs (B.clos I) B.kind B.names (aH (hi pins s U H _ I h) λv s1 h1=>aH h1 λitv s2 h2=>?_)) λ_ s' q=>Q2 (Q2 q));obtain⟨it,fp,tn,J,H2,e,I2,T,st2,f2,w⟩:=h2;subst e;refine sU (Qr:=λx H1=>kX j x U H1 Dn.nx) (RR:=λacc C=>compPost (model X.prog X.w) X.A X.xe (some (assign (.Name y py) X.env)) (λ_ s'=>SP X pins Dn .next s') acc C) B hc hg ht hr ha I2 T st2 f2 w λD C Hf s' m' I' hn' fC q=>?_;obtain⟨c0,c1,c2,c3,c4,c5⟩:=fC;show wpAny (model X.prog X.w) X.A (assign (.Name y py) X.env (.ref D)) _ _ s';refine wpAny_assign_Name (vA I' hN hj (.inl hy) (v:=.ref D) rfl (λs'' I'' ⟨a,sb,ha⟩=>?_) (.inr hy));have hCa:C≠a:=by rcases ha with e|e;{rw[e];exact c1};exact λz=>c4 y a e z.symm
 refine⟨m',hn'.sameBut sb hCa,λh3 hs3=>⟨_,Hf,?_,q⟩⟩;exact I''.turned (it:=C) (t':=s''.toks) (λb o hb e=>hs3.extBut b o hb e) c0 c1 c3 c4 c5
end
end L2
namespace Dv
open PySem L2 PySem.W
section
variable{X:Cx}{Ex:XK}{Y:WZ}{tg:Expr}
def Fy{a:Addr}(h:cT K iM a xs)(r:au K iM xs ds):As K (vC K a) ds iM:=by intro i H Hm s1 s2;have q:bQ K H a xs:=(cT.mono (s1.trans s2) h).sq;refine⟨λd e=>?_,λl=>⟨xs,q,by rw[r.len];exact l⟩⟩;obtain⟨v,e1,r1⟩:=r.get e;refine⟨⟨xs,v,q,e1⟩,λx H' y=>?_⟩;obtain⟨rfl,y⟩:=y;have:=y xs q;rw[e1]at this;cases this;exact⟨Hm,af.refl _,s2,af.refl _,λ_ _=>.inl rfl,r1.mono s1⟩
def Kg{a:Addr}(h:iM a=some (.tup xs))(r:au K iM xs ds):As K (I0 K a) ds iM:=by intro i H Hm s1 s2;have q:bI K H a xs:=bI.of (s2 _ _ (s1 _ _ h));refine⟨λd e=>?_,λl=>⟨xs,q,by rw[r.len];exact l⟩⟩;obtain⟨v,e1,r1⟩:=r.get e;refine⟨⟨xs,v,q,e1⟩,λx H' y=>?_⟩;obtain⟨rfl,y⟩:=y;have:=y xs q;rw[e1]at this;cases this;exact⟨Hm,af.refl _,s2,af.refl _,λ_ _=>.inl rfl,r1.mono s1⟩
def JS{lo:Int}{n i:Nat}(h:(jP lo n)[i]?=some d):i<n/\d=.int (lo+i):=by unfold jP at h;rw[R8]at h;by_cases c:i<n;{rw[Ry c]at h;cases h;exact⟨c,rfl⟩};rw[Rk (by rw[RB];lia)]at h;cases h
def Aw{lo:Int}{n:Nat}:As K (Eo lo n) (jP lo n) iM:=by intro i H Hm s1 s2;refine⟨λd e=>?_,λl=>?_⟩;{obtain⟨l,rfl⟩:=JS e;refine⟨l,λx H' y=>?_⟩;obtain⟨rfl,rfl⟩:=y;exact⟨Hm,af.refl _,s2,af.refl _,λ_ _=>.inl rfl,.int _⟩};unfold jP at l;rw[Q7,RB]at l;exact l
def Gf{T:Addr}(s:af Hm H)(hT:H T=none)(r1:Rp K Hm x a)(r2:Rp K Hm y b):∃Hm',af Hm Hm'/\af Hm' (upd H T (.tup [x,y]))/\af H (upd H T (.tup [x,y]))/\(∀a,H a≠none->OE (Hm' a) (Hm a))/\Rp K Hm' (.ref T) (.tuple [a,b]):=by have n:=jh s hT;have s2:=aG (o:=.tup [x,y]) n;refine⟨upd Hm T (.tup [x,y]),s2,λb o e=>?_,aG hT,λa ha=>.inl (ah λz=>ha (z▸hT)),.tup ao (.cons (r1.mono s2) (.cons (r2.mono s2) .nil))⟩;by_cases c:b=T;{rw[c,ao]at e⊢;exact e};rw[ah c]at e⊢;exact s _ _ e
def Eb{i:Nat}(h:(jk ds)[i]?=some d):∃e,ds[i]?=some e/\d=.tuple [.int i,e]:=by
 unfold jk at h;rw[R8,List.getElem?_zipIdx]at h;cases e:ds[i]? with
 |none=>rw[e]at h;cases h
 |some a=>rw[e]at h;simp at h;exact⟨a,rfl,h.symm⟩
def CI(ds:WN):(jk ds).length=ds.length:=by unfold jk;rw[Q7,List.length_zipIdx]
def GS{a:Addr}(h:cT K iM a xs)(r:au K iM xs ds):As K (Na K a) (jk ds) iM:=by intro i H Hm s1 s2;have q:bQ K H a xs:=(cT.mono (s1.trans s2) h).sq;refine⟨λd e=>?_,λl=>⟨xs,q,by rw[r.len,<-CI];exact l⟩⟩;obtain⟨d0,e0,rfl⟩:=Eb e;obtain⟨v,e1,r1⟩:=r.get e0;refine⟨⟨xs,v,q,e1⟩,λx H' y=>?_⟩;obtain⟨T,hT,rfl,y⟩:=y;obtain⟨x',e2,rfl⟩:=y xs q;rw[e1]at e2;cases e2;exact Gf s2 hT (.int _) (r1.mono s1)
open PyProof.Rows in
def JH{a:Addr}(I:Inv X pins U H s)(hq:bQ X.K H a xs)(q:R (vC X.K a) H):wpAny (model X.prog X.w) X.A (pyIter (.ref a)) (IY X pins U tg R) E s:=by
 obtain⟨its,rv,p,hz⟩:=I.list hq;refine wpAny_pyIter_list p.isList ?_;refine⟨s.heap.objs.size,[s.heap.objs.size],_,_,H,rfl,I.kept (t':=s.toks) λb o e=>QZ _ e,vq a _,⟨_,Rc _ rfl,rfl,rfl⟩,λb hb=>?_,q⟩;have e:b=s.heap.objs.size:=by simpa using hb
 subst e;exact I.uK (Q5 _) (I.hok.fresh (Q5 _))
open PyProof.Rows in
def Nl{a:Addr}(I:Inv X pins U H s)(hq:bI X.K H a xs)(q:R (I0 X.K a) H):wpAny (model X.prog X.w) X.A (pyIter (.ref a)) (IY X pins U tg R) E s:=by
 obtain⟨its,rv,p,hz⟩:=I.tuple hq;refine wpAny_pyIter_tuple (show s.heap.IsTuple a its.toArray from p) ?_;refine⟨s.heap.objs.size,[s.heap.objs.size],_,_,H,rfl,I.kept (t':=s.toks) λb o e=>QZ _ e,BY a _,⟨_,Rc _ rfl,rfl,rfl⟩,λb hb=>?_,q⟩;have e:b=s.heap.objs.size:=by simpa using hb
 subst e;exact I.uK (Q5 _) (I.hok.fresh (Q5 _))
def oR(h:SE X Ex Y e d):SI X Ex Y tg e (iE d):=by
 rw[Ot];refine⟨λU H R=>WE X e U H λx H1=>(∃a,x=.ref a/\(∃xs,bQ X.K H1 a xs)/\R (vC X.K a) H1)\/∃a,x=.ref a/\(∃xs,bI X.K H1 a xs)/\R (I0 X.K a) H1,?_,?_⟩;{intro pins s U H R I h;refine aH (h pins s I) λv s1 ⟨x,H1,I1,r1,q1⟩=>?_;rcases q1 with⟨a,rfl,⟨xs,hq⟩,q⟩|⟨a,rfl,⟨xs,hq⟩,q⟩;{cases r1;exact JH I1 hq q};cases r1;exact Nl I1 hq q};intro g x E U H Hm F P R hx Rl p q;refine h g x E U H Hm F _ _ hx Rl p λE' k v u H' Hm' F' fp p' R' s' T=>?_;obtain⟨hk,ds,e1,p'⟩:=p';obtain⟨Hm2,s2,R2,r2⟩:=T.ig R' hk;cases r2 with
 |lst a r=>cases e1;exact .inl ⟨_,rfl,⟨_,(cT.mono R2.sub a).sq⟩,q _ _ _ _ _ _ p' R2 (s'.trans s2) (Fy a r)⟩
 |tup a r=>cases e1;exact .inr ⟨_,rfl,⟨_,bI.of (R2.sub _ _ a)⟩,q _ _ _ _ _ _ p' R2 (s'.trans s2) (Kg a r)⟩
 |_=>cases e1
noncomputable def ju:WN->Option (WN)
 |[.int j]=>@ite _ (-(2^62)<=j/\j<2^62) (Classical.propDecidable _) (some (jP 0 j.toNat)) none
 |_=>none
noncomputable def sr:WN->Option (WN)
 |[.int i,.int j]=>@ite _ (-(2^62)<=i/\i<2^62/\-(2^62)<=j/\j<2^62) (Classical.propDecidable _) (some (jP i (j-i).toNat)) none
 |_=>none
def xg{g:Gh}{U:St}{E:En}{H Hm:Hp}{F:Nat->WU}{as:List Arg}{os:List (Option PyData)}{vs:List V}{ds:WN}{K:Frag}(R:Rl K g E U H Hm F)(G:Got K U Hm as os vs)(h:fill as E os=some ds):au K H vs ds:=pR R R.sub G h λ_ _ _ _=>rfl
def Oo(hg:Gl X "range")(hm:X.mg "range"=none)(ns:noStar a=true)(S:aV X Ex Y [a] as):SI X Ex Y tg (.Call (.Name "range" p) [a] [] pos) (f7 ju as):=by refine⟨_,Cw hg hm (fL (es:=[a]) (by rw[QY,ns];rfl)) (cI ns),λg x E U H Hm F P R hx Rl p q=>?_⟩;refine kE hx S Rl p λE1 os vs H1 Hm1 F1 p1 R1 s1 G=>?_;replace p1:aD (cZ as E1 os) _:=p1;rw[<-bg,fh]at p1;obtain⟨ds,hf,p1⟩:=p1;rw[<-bg]at p1;obtain⟨xs,hg',p1⟩:=p1;have r:=xg R1 G hf;unfold ju at hg';split at hg';{rename_i j;obtain⟨v,rfl,r1⟩:=fR r;cases r1;split at hg';{rename_i c;cases hg';exact⟨j,rfl,c.1,c.2,q _ _ _ _ _ _ p1 R1 s1 Aw⟩};cases hg'};cases hg'
def Of(hg:Gl X "range")(hm:X.mg "range"=none)(ns:noStar a=true)(ns2:noStar b=true)(S:aV X Ex Y [a,b] as):SI X Ex Y tg (.Call (.Name "range" p) [a,b] [] pos) (f7 sr as):=by refine⟨_,EZ hg hm (fL (es:=[a,b]) (by rw[QY,QY,ns,ns2];rfl)) ((cI ns).trans (by rw[cI ns2];rfl)) (cI ns2),λg x E U H Hm F P R hx Rl p q=>?_⟩;refine kE hx S Rl p λE1 os vs H1 Hm1 F1 p1 R1 s1 G=>?_;replace p1:aD (cZ as E1 os) _:=p1;rw[<-bg,fh]at p1;obtain⟨ds,hf,p1⟩:=p1;rw[<-bg]at p1;obtain⟨xs,hg',p1⟩:=p1;have r:=xg R1 G hf;unfold sr at hg';split at hg';{rename_i i j;obtain⟨v,w,rfl,r1,r2⟩:=gF r;cases r1;cases r2;split at hg';{rename_i c;cases hg';exact⟨i,j,rfl,c,q _ _ _ _ _ _ p1 R1 s1 Aw⟩};cases hg'};cases hg'
def NL{x1:Nat}(hg:Gl X "enumerate")(hm:X.mg "enumerate"=none)(ns:noStar e=true)(h:SE X Ex Y e d):SI X Ex Y (.Tuple elts x1 tp) (.Call (.Name "enumerate" p) [e] [] pos) (wU d):=by rw[K3];refine⟨_,KH hg hm (fL (es:=[e]) (by rw[QY,ns];rfl)) (cI ns),λg x E U H Hm F P R hx Rl p q=>?_⟩;refine h g x E U H Hm F _ _ hx Rl p λE' k v u H' Hm' F' fp p' R' s' T=>?_;obtain⟨hk,ds,rfl,p'⟩:=p';obtain⟨Hm2,s2,R2,r2⟩:=T.ig R' hk;obtain⟨a,xs,rfl,ha,r⟩:=lZ r2;exact⟨a,rfl,⟨xs,(cT.mono R2.sub ha).sq⟩,q _ _ _ _ _ _ p' R2 (s'.trans s2) (GS ha r)⟩
end
noncomputable def WG (X:Cx)(tg:Expr):TG:=λv U H Q=>∀(pins:WD)(s:Shared)(u:Value),Inv X pins U H s->RelV v u->wpAny (model X.prog X.w) X.A (assign tg X.env u) (λ_ s'=>∃σ' H',Inv X pins σ' H' s'/\Q σ' H') X.xe s
def WG.of(h:PG X tg t)(q:t v U H Q):WG X tg v U H Q:=λpins s u I r=>h pins s U H v u Q I r q
noncomputable def w6 (X:Cx)(ifs:WX):TT:=λU H Q=>∀(pins:WD)(s:Shared),Inv X pins U H s->wpAny (model X.prog X.w) X.A (forIn ifs true λc r=>if r=true then do let ok <-isTrue c X.env (eval c X.env);pure (ForInStep.yield ok)else pure (ForInStep.yield r)) (TP X pins U Q) X.xe s
def w6.of(h:vh X ifs t)(q:t U H Q):w6 X ifs U H Q:=λpins s I=>h pins s U H Q I q
noncomputable def WL (X:Cx)(D:Addr)(elt:Expr)(gens:WB)(scope:Scope)(pos:Pos) (k:Nat):TL:=λys U H Q=>
 X.s₀.heap.objs.size<=D->(∀y c,X.env.cells.lookup y=some c->c≠D)->(∀e s',X.xe e s'->False)->
 ∀(pins:WD)(s:Shared)(its:WQ) (nn:Nat)(fin:Sem Fin)(Qf:Fin->Shared->Prop)(E:WA),
  (∀p∈X.pn++pins,p.1≠D)->Inv X ((D,iI its nn)::pins) U H s->Vals ys its->ys.length<=sizeLine->
  (∀s' ys' its' nn' σ' H',Inv X ((D,iI its' nn')::pins) σ' H' s'->Vals ys' its'->ys'.length<=sizeLine->Q ys' σ' H'->wpAny (model X.prog X.w) X.A fin Qf E s')->
  wpAny (model X.prog X.w) X.A (iS elt gens scope pos k (.ref D) X.env fin) Qf E s
def WL.of{D:Addr}{k:Nat}(h:PL X D elt gens scope pos k t)(q:t ys U H Q):WL X D elt gens scope pos k ys U H Q:=λh1 h2 h3 pins s its nn fin Qf E hp I rv hz hf=>h h1 h2 h3 pins s U H ys its nn Q fin Qf E hp I rv hz q hf
noncomputable def Agree (cs:WZ)(U σ':St):Prop:=U.length=σ'.length/\∀j,j∉cs->σ'[j]?=U[j]?
def Agree.refl(cs:WZ)(U:St):Agree cs U U:=⟨rfl,λ_ _=>rfl⟩
theorem Agree.trans(h:Agree cs a b)(k:Agree cs b c):Agree cs a c:=⟨h.1.trans k.1,λj hj=>(k.2 j hj).trans (h.2 j hj)⟩
theorem Agree.symm(h:Agree cs a b):Agree cs b a:=⟨h.1.symm,λj hj=>(h.2 j hj).symm⟩
section
variable{K:Frag}{g:Gh}{E E0:En}{U σ':St}{H Hm:Hp}{F:Nat->WU}
def Rl.N3(R:Rl K g E U H Hm F){i:Nat}(o:bR E i=true)(v:Option V):Rl K g (E.set i none) (U.set i v) H Hm (λj=>if j=i then []else F j) where
 len:=by rw[Rf,Rf];exact R.len
 sub:=R.sub
 slot:=λj k' d' e'=>by
  by_cases c:j=i
  .subst c;rw[aF (iU o)]at e';cases e'
  .rw[ak (Ne.symm c)]at e';obtain⟨u,g1,g2⟩:=R.slot j k' d' e';exact⟨u,by rw[ak (Ne.symm c)];exact g1,by rw[if_neg c];exact g2⟩
 off:=λj a ha=>by
  by_cases c:j=i
  .rw[if_pos c]at ha;cases ha
  .rw[if_neg c]at ha;exact R.off j a ha
 bu:=λj a ha=>by
  by_cases c:j=i
  .rw[if_pos c]at ha;cases ha
  .rw[if_neg c]at ha;exact R.bu j a ha
 aQ:=λj l a g1 g2=>by
  by_cases c:j=i
  .rw[if_pos c]at g1;cases g1
  .rw[if_neg c]at g1
   by_cases c':l=i
   .rw[if_pos c']at g2;cases g2
   .rw[if_neg c']at g2;exact R.aQ j l a g1 g2
 fr:=R.fr
 new:=λj a ha=>by
  by_cases c:j=i
  .rw[if_pos c]at ha;cases ha
  .rw[if_neg c]at ha;exact R.new j a ha
 pin:=λq hq=>by
  obtain⟨g1,ds',g2⟩:=R.pin q hq;have c:i≠q.1:=λz=>by
   unfold bR at o;rw[z,g2]at o;cases o
  exact⟨by rw[ak c];exact g1,ds',by rw[ak c];exact g2⟩
 old:=R.old
theorem Rl.br:∀{cs:WZ}{E E0:En}{U:St}{F:Nat->WU},Rl K g E U H Hm F->Dv.br cs E=some E0->∃σ' F',Rl K g E0 σ' H Hm F'/\Agree cs U σ'/\(∀c∈cs,σ'[c]?=some none/\E0[c]?=some none)
 |[],E,E0,U,F,R,h=>by cases h;exact⟨U,F,R,Agree.refl _ _,λ_ z=>by cases z⟩
 |c::cs,E,E0,U,F,R,h=>by
  rw[Dv.br]at h;by_cases o:bR E c=true
  .rw[if_pos o]at h;have R1:=R.N3 o none;obtain⟨σ',F',R',a,n⟩:=Rl.br (cs:=cs) R1 h;have lc:=iU o;have keep:∀{l:WZ}{E E0:En},Dv.br l E=some E0->∀j,j∉l->E0[j]?=E[j]?:=by
    intro l;induction l with
    |nil=>intro E E0 h j _;cases h;rfl
    |cons i l ih=>intro E E0 h j hj;rw[Dv.br]at h;by_cases o:bR E i=true;{rw[if_pos o]at h;have ne:i≠j:=λz=>hj (z▸Q6);exact(ih h j λz=>hj (QU _ z)).trans (ak ne)};rw[if_neg o]at h;cases h
   refine⟨σ',F',R',⟨by rw[<-a.1,Rf],λj hj=>?_⟩,λd hd=>?_⟩;{have ne:c≠j:=λz=>hj (z▸Q6);exact(a.2 j λz=>hj (QU _ z)).trans (ak ne)};by_cases m:d∈cs;{exact n d m};have e:d=c:=(QX.mp hd).resolve_right m;subst e;exact⟨(a.2 d m).trans (aF (R.len▸lc)),(keep h d m).trans (aF lc)⟩
  rw[if_neg o]at h;cases h
def Rl.agree(R:Rl K g E U H Hm F)(a:Agree cs U σ')(n:∀c∈cs,E[c]?=some none):Rl K g E σ' H Hm F where
 len:=R.len.trans a.1
 sub:=R.sub
 slot:=λj k d e=>by
  obtain⟨v,h1,h2⟩:=R.slot j k d e;refine⟨v,?_,h2⟩;rw[a.2 j λz=>by rw[n j z]at e;cases e]
  exact h1
 off:=R.off
 bu:=R.bu
 aQ:=R.aQ
 fr:=R.fr
 new:=R.new
 pin:=λq hq=>by
  obtain⟨g1,ds',g2⟩:=R.pin q hq;refine⟨?_,ds',g2⟩;rw[a.2 q.1 λz=>by rw[n q.1 z]at g2;cases g2]
  exact g1
 old:=R.old
end
inductive kN(X:Cx)(Ex:XK)(Y:WZ):WX->DT->Prop
 |nil:kN X Ex Y [] iX
 |one {e:Expr}{t:DT}:ST X Ex Y e t->kN X Ex Y [e] t
def kN.ok(h:kN X Ex Y ifs t){F:Nat->WU}(hx:XL X Ex x g)(R:Rl X.K g E U H Hm F)(p:t x E P)(q:∀E' b H' Hm' F',P E' b->Rl X.K g E' U H' Hm' F'->af Hm Hm'->Q b H'):w6 X ifs (sel Y U) H Q:=by
 cases h with
 |nil=>exact w6.of Kq (q _ _ _ _ _ p R (af.refl _))
 |one h=>exact w6.of (Ko nh) (h g x E U H Hm F P Q hx R p q)
noncomputable def SL (X:Cx)(Y cs:WZ)(D:Addr)(elt:Expr)(gens:WB)(scope:Scope)(pos:Pos) (k:Nat)(dc:DC):Prop:=
 ∀(g:Gh)(E:En)(U:St)(H Hm:Hp)(F:Nat->WU)(ys:List V)(dys:WN)(P:WN->En->Prop)(Q:List V->St->Hp->Prop),Rl X.K g E U H Hm F->au X.K Hm ys dys->dc xF dys E P->
  (∀E' dys' ys' σ' H' Hm' F',P dys' E'->Rl X.K g E' σ' H' Hm' F'->af Hm Hm'->au X.K Hm' ys' dys'->Agree cs U σ'->Q ys' (sel Y σ') H')->WL X D elt gens scope pos k ys (sel Y U) H Q
section
variable{X:Cx}{Ex:XK}{Y cs:WZ}{D:Addr}{elt tg iter:Expr}{ifs:WX}{gens:WB}{scope:Scope}{pos:Pos}{k:Nat}
def Kh(h:SE X Ex Y elt d)(hk:gens[k]?=none):SL X Y cs D elt gens scope pos k (eF sizeLine d):=by intro g E U H Hm F ys dys P Q R r p q;refine WL.of (Ax cN hk) (h g xF E U H Hm F _ _ XL.no R p λE1 k1 v u H1 Hm1 F1 fp p1 R1 s1 T=>?_);obtain⟨hk,hl,p1⟩:=p1;obtain⟨Hm2,s2,R2,r2⟩:=T.ig R1 hk;exact⟨by rw[r.len];exact hl,q _ _ _ _ _ _ _ p1 R2 (s1.trans s2) ((r.mono (s1.trans s2)).snoc r2) (Agree.refl _ _)⟩
def GI{xs:WN}{t:Tg}{c:DT}{r:DC}{G:TG}{tt:TT}{tr:TL}{I:Nat->WN->En->Prop}{U:St}{F1:Nat->WU}{Q:List V->St->Hp->Prop}(hts:∀i∈t.slots,i∈cs)(it1:As K J xs Hm1)(R1:Rl K g E1 U H1 Hm1 F1)(r0:au K Hm1 ys dys)(i0:I 0 dys E1)(hG:∀{d:PyData}{v:V}{E E2:En}{U:St}{H Hm:Hp}{F:Nat->WU}{Q:St->Hp->Prop},cS t d E=some E2->Rp K Hm v d->Rl K g E U H Hm F->(∀σ' F',Rl K g E2 σ' H Hm F'->(∀j,j∉t.slots->σ'[j]?=U[j]?)->Q (sel Y σ') H)->G v (sel Y U) H Q)(hT:∀{E:En}{U:St}{H Hm:Hp}{F:Nat->WU}{P:En->Bool->Prop}{Q:Bool->Hp->Prop},Rl K g E U H Hm F->c xF E P->(∀E' b H' Hm' F',P E' b->Rl K g E' U H' Hm' F'->af Hm Hm'->Q b H')->tt (sel Y U) H Q)(hR:∀{E:En}{U:St}{H Hm:Hp}{F:Nat->WU}{ys:List V}{dys:WN}{P:WN->En->Prop}{Q:List V->St->Hp->Prop},Rl K g E U H Hm F->au K Hm ys dys->r xF dys E P->(∀E' dys' ys' σ' H' Hm' F',P dys' E'->Rl K g E' σ' H' Hm' F'->af Hm Hm'->au K Hm' ys' dys'->Agree cs U σ'->Q ys' (sel Y σ') H')->tr ys (sel Y U) H Q)(step:∀i d ys E,xs[i]?=some d->I i ys E->∃E2,cS t d E=some E2/\c xF E2 λE3 b=>if b=true then r xF ys E3 (I (i+1))else I (i+1) ys E3)(fin:∀E' dys' ys' σ' H' Hm' F',I xs.length dys' E'->Rl K g E' σ' H' Hm' F'->af Hm1 Hm'->au K Hm' ys' dys'->Agree cs U σ'->Q ys' (sel Y σ') H'):GX J G tt tr ys (sel Y U) H1 Q:=by
 refine⟨λi m ys τ H'=>m=xs.length-i/\i<=xs.length/\∃E' dys' σ' Hm' F',I i dys' E'/\Rl K g E' σ' H' Hm' F'/\af Hm1 Hm'/\au K Hm' ys dys'/\Agree cs U σ'/\τ=sel Y σ',⟨xs.length,by simp,RO _,E1,dys,U,Hm1,F1,i0,R1,af.refl _,r0,Agree.refl _ _,rfl⟩,?_⟩;rintro i m ys τ H2⟨rfl,hi,E2,dys2,σ2,Hm2,F2,i2,R2,s2,r2,a2,rfl⟩;obtain⟨go,stop⟩:=it1 i H2 Hm2 s2 R2.sub;by_cases c':i<xs.length
 .obtain⟨go,pN⟩:=go xs[i] (RI c');refine .inr ⟨go,λys τ H'=>i+1<=xs.length/\∃E' dys' σ' Hm' F',I (i+1) dys' E'/\Rl K g E' σ' H' Hm' F'/\af Hm1 Hm'/\au K Hm' ys dys'/\Agree cs U σ'/\τ=sel Y σ',λys τ H' z=>⟨xs.length-(i+1),by lia,rfl,z⟩,λx H3 y=>?_⟩;obtain⟨Hm3,t1,t2,t3,old,rx⟩:=pN x H3 y;have R3:=R2.turn t1 t2 t3 old;obtain⟨E4,e4,p4⟩:=step i xs[i] dys2 E2 (RI c') i2;refine hG e4 rx R3 λσ4 F4 R4 ag=>?_;have a4:Agree cs U σ4:=a2.trans ⟨by rw[<-R3.len,<-R4.len];exact(show E2.length=E4.length from R3.len.trans (by
   have h1:=R3.len;have h2:=R4.len;have:E4.length=E2.length:=by
    have go:∀{is:WZ}{ds:WN}{E E':En},bJ is ds E=some E'->E'.length=E.length:=by
     intro is
     induction is with
     |nil=>intro ds E E' h;cases ds with|nil=>cases h;rfl|cons _ _=>cases h
     |cons j is ih=>
      intro ds E E' h;cases ds with
      |nil=>cases h
      |cons d ds=>
       rw[bJ]at h
       by_cases o:bR E j=true
       .rw[if_pos o]at h;rw[ih h,Rf]
       .rw[if_neg o]at h;cases h
    cases t with
    |nm j=>exact go (is:=[j]) e4
    |tp js=>
     cases hd:xs[i]with
     |tuple ds=>rw[hd]at e4;exact go (is:=js) e4
     |_=>rw[hd]at e4;cases e4
   lia)),λj hj=>ag j λz=>hj (hts j z)⟩
  refine hT R4 p4 λE5 b H5 Hm5 F5 p5 R5 s5=>?_;cases b with
  |true=>refine mV (hR R5 (r2.mono (t1.trans s5)) (by simpa using p5) λE6 dys6 ys6 σ6 H6 Hm6 F6 p6 R6 s6 r6 a6=>?_);exact⟨c',E6,dys6,σ6,Hm6,F6,p6,R6,s2.trans (t1.trans (s5.trans s6)),r6,a4.trans a6,rfl⟩
  |false=>exact kG ⟨c',E5,dys2,σ4,Hm5,F5,by simpa using p5,R5,s2.trans (t1.trans s5),r2.mono (t1.trans s5),a4,rfl⟩
 have e:i=xs.length:=by lia
 subst e;exact .inl ⟨stop (Q5 _),fin _ _ _ _ _ _ _ i2 R2 s2 r2 a2⟩
def Gp:caps ix (sel Y U)=ix.map λi=>(((Y[i]?).map λm=>(U[m]?).join)).join:=by unfold caps sel;refine SV λi _=>?_;rw[R8]
def cu (Y cs ix:WZ):WZ:=cs++ix.map λi=>(Y[i]?).getD 0
def zW(hix:∀i∈ix,i<Y.length)(aQ:∀c∈cs,c∉Y)(a:Agree cs U σ0)(n:∀c∈cs,σ0[c]?=some none):List.replicate cs.length none++caps ix (sel Y U)=sel (cu Y cs ix) σ0:=by unfold cu;rw[Gp];unfold sel;rw[RG,RV];congr 1;{refine(List.eq_replicate_iff.mpr ⟨Q7 ..,λx hx=>?_⟩).symm;obtain⟨c,hc,rfl⟩:=Q8.mp hx;rw[n c hc];rfl};refine SV λi hi=>?_;have l:=hix i hi;show((Y[i]?).map λm=>(U[m]?).join).join=(σ0[(Y[i]?).getD 0]?).join;rw[RI l];show(U[Y[i]]?).join=(σ0[Y[i]]?).join;rw[a.2 Y[i] λz=>aQ _ z (U8 l)]
def zQ{rest:WB}{vs NB:Wb}{ix:WZ}{di:DI}{t:Tg}{c:DT}{r:DC}(B:cE X scope vs NB ix)(hc:X.calm=true)(hcs:cs.length=vs.length)(hix:∀i∈ix,i<Y.length)(aQ:∀c∈cs,c∉Y)(nd:(cu Y cs ix).Nodup)(hi:SI X Ex Y tg iter di)(ht:∀(C:Addr)(s:Shared)(H:Hp)(fp:WU),gS (X.block scope C NB s H fp) (cu Y cs ix) tg t)(hts:∀i∈t.slots,i∈cs)(hif:∀(C:Addr)(s:Shared)(H:Hp)(fp:WU),kN (X.block scope C NB s H fp) E0 (cu Y cs ix) ifs c)(hr:∀(C:Addr)(s:Shared)(H:Hp)(fp:WU)(D:Addr),SL (X.block scope C NB s H fp) (cu Y cs ix) cs D elt (⟨tg,iter,ifs,0⟩::rest) scope pos 1 r)(ha:∀g∈rest,g.is_async=0)(hs:∀v,foldedSetIterable iter X.env v=pure v){w:(V->Hp->Prop)->St->Hp->Prop}(hw:∀{wi:TI}{G:TG}{tt:TT}{tr:TL}{U:St}{H:Hp}{Q:VK},PI X tg iter wi->(∀(C:Addr)(s:Shared)(H:Hp)(fp:WU),PG (X.block scope C NB s H fp) tg G)->(∀(C:Addr)(s:Shared)(H:Hp)(fp:WU),vh (X.block scope C NB s H fp) ifs tt)-> (∀(C:Addr)(s:Shared)(H:Hp)(fp:WU)(D:Addr),PL (X.block scope C NB s H fp) D elt (⟨tg,iter,ifs,0⟩::rest) scope pos 1 tr)->rP wi vs.length ix G tt tr U H Q->w Q U H)(g:Gh)(x:XC)(E:En)(U:St)(H Hm:Hp)(F:Nat->WU)(P:En->Kd->PyData->Prop)(Q:VK)(hx:XL X Ex x g)(R:Rl X.K g E U H Hm F)(p:fD cs di t c r x E P)(q:∀E' k v u H' Hm' F' fp,P E' k v->Rl X.K g E' U H' Hm' F'->af Hm Hm'->Tm X.K g F' H' Hm' k u v fp->Q u H'):w Q (sel Y U) H:=by
 obtain⟨wi,hpi,hwi⟩:=hi;refine hw (wi:=wi) (G:=λv U H Q=>∀(C:Addr)(s:Shared)(H2:Hp)(fp:WU),WG (X.block scope C NB s H2 fp) tg v U H Q) (tt:=λU H Q=>∀(C:Addr)(s:Shared)(H2:Hp)(fp:WU),w6 (X.block scope C NB s H2 fp) ifs U H Q)
  (tr:=λys U H Q=>∀(C:Addr)(s:Shared)(H2:Hp)(fp:WU)(D:Addr),WL (X.block scope C NB s H2 fp) D elt (⟨tg,iter,ifs,0⟩::rest) scope pos 1 ys U H Q) hpi (λC s H2 fp pins s' U H v u Q I r h=>h C s H2 fp pins s' u I r) (λC s H2 fp pins s' U H Q I h=>h C s H2 fp pins s' I)
  (λC s H2 fp D h1 h2 h3 pins s' U H ys its nn Q fin Qf E hp I rv hz h hf=>h C s H2 fp D h1 h2 h3 pins s' its nn fin Qf E hp I rv hz hf) ?_
 refine hwi g x E U H Hm F _ _ hx R p λE1 xs J H1 Hm1 F1 p1 R1 s1 it1=>?_;obtain⟨E0',I,hcl,i0,step,fin⟩:=p1;obtain⟨σ0,F0,R0,a0,n0⟩:=R1.br hcl;rw[<-hcs,zW hix aQ a0 λc hc=>(n0 c hc).1];refine GI (cs:=cs) (t:=t) (c:=c) (r:=r) hts it1 R0 .nil i0 (λh1 h2 h3 h4 C s H2 fp=>?_) (λh1 h2 h3 C s H2 fp=>(hif C s H2 fp).ok XL.no h1 h2 h3) (λh1 h2 h3 h4 C s H2 fp D=>hr C s H2 fp D g _ _ _ _ _ _ _ _ _ h1 h2 h3 h4) step λE' dys' ys' σ' H' Hm' F' i R' s' r' a' p hp=>?_;{obtain⟨G,g1,g2⟩:=wc (X:=X.block scope C NB s H2 fp) hc B.nd nd (ht C s H2 fp);exact WG.of g1 (g2 h1 h2 h3 h4)};obtain⟨E2,hcl2,p2⟩:=fin _ _ i;obtain⟨σ2,F2,R2,a2,n2⟩:=R'.br hcl2;have R3:=R2.agree (cs:=cs) ((a0.trans a').trans a2).symm λc hc=>(n2 c hc).2;have s2:=aG (o:=.lst ys') hp;have R4:=R3.grow (H':=upd H' p (.lst ys')) s2 (af.refl _) (R3.sub.trans s2) (λi a ha=>R3.off i a ha) λ_ _=>.inl rfl;refine q _ _ _ _ _ Hm' F2 [p] p2 R4 (s1.trans s') ⟨.ow ao r',λa ha=>?_,λa ha i=>?_,λa ha=>?_⟩;{rw[QS.mp ha];exact R3.oW hp};{rw[QS.mp ha];exact R3.fresh hp};rw[QS.mp ha];exact R3.gO hp
end
section
variable{X:Cx}{Ex:XK}{Y cs:WZ}{elt tg iter:Expr}{ifs:WX}{scope:Scope}{pos:Pos}
def Mt{rest:WB}{vs NB:Wb}{ix:WZ}{di:DI}{t:Tg}{c:DT}{r:DC}(B:cE X scope vs NB ix)(hc:X.calm=true)(hcs:cs.length=vs.length)(hix:∀i∈ix,i<Y.length)(aQ:∀c∈cs,c∉Y)(nd:(cu Y cs ix).Nodup)(hi:SI X Ex Y tg iter di)(ht:∀(C:Addr)(s:Shared)(H:Hp)(fp:WU),gS (X.block scope C NB s H fp) (cu Y cs ix) tg t)(hts:∀i∈t.slots,i∈cs)(hif:∀(C:Addr)(s:Shared)(H:Hp)(fp:WU),kN (X.block scope C NB s H fp) E0 (cu Y cs ix) ifs c)(hr:∀(C:Addr)(s:Shared)(H:Hp)(fp:WU)(D:Addr),SL (X.block scope C NB s H fp) (cu Y cs ix) cs D elt (⟨tg,iter,ifs,0⟩::rest) scope pos 1 r)(ha:∀g∈rest,g.is_async=0)(hs:∀v,foldedSetIterable iter X.env v=pure v):SE X Ex Y (.ListComp elt (⟨tg,iter,ifs,0⟩::rest) scope pos) (fD cs di t c r):=λg x E U H Hm F P Q hx R p q=>
 zQ B hc hcs hix aQ nd hi ht hts hif hr ha hs (w:=λQ U H=>WE X (.ListComp elt (⟨tg,iter,ifs,0⟩::rest) scope pos) U H Q) (λh1 h2 h3 h4 h5=>WE.of (Fi B hc h1 h2 h3 h4 ha hs) h5) g x E U H Hm F P Q hx R p q
def NX{j:Nat}{y:Str}{py spos:Pos}(hN:X.N.Nodup)(hj:X.N[j]?=some y)(hy:X.env.scope.names.lookup y=some .local){rest:WB}{vs NB:Wb}{ix:WZ}{di:DI}{t:Tg}{c:DT}{r:DC}(B:cE X scope vs NB ix)(hc:X.calm=true)(hcs:cs.length=vs.length)(hix:∀i∈ix,i<(aT X).length)(aQ:∀c∈cs,c∉aT X)(nd:(cu (aT X) cs ix).Nodup)(hi:SI X Ex (aT X) tg iter di)(ht:∀(C:Addr)(s:Shared)(H:Hp)(fp:WU),gS (X.block scope C NB s H fp) (cu (aT X) cs ix) tg t)(hts:∀i∈t.slots,i∈cs)(hif:∀(C:Addr)(s:Shared)(H:Hp)(fp:WU),kN (X.block scope C NB s H fp) E0 (cu (aT X) cs ix) ifs c)(hr:∀(C:Addr)(s:Shared)(H:Hp)(fp:WU)(D:Addr),SL (X.block scope C NB s H fp) (cu (aT X) cs ix) cs D elt (⟨tg,iter,ifs,0⟩::rest) scope pos 1 r)(ha:∀g∈rest,g.is_async=0)(hs:∀v,foldedSetIterable iter X.env v=pure v)(hsw:swapsWith (.ListComp elt (⟨tg,iter,ifs,0⟩::rest) scope pos) (some (.Name y py)) spos.line X.env=pure true):S1 X Ex (.Assign [.Name y py] (.ListComp elt (⟨tg,iter,ifs,0⟩::rest) scope pos) spos) (aL j (fD cs di t c r)):=by
 rw[ua];intro g D' E U H Hm F D hx R p nx rt;refine zQ B hc hcs hix aQ nd hi ht hts hif hr ha hs (w:=λQ τ H=>(Q=λu H1=>D.nx (τ.set j (some u)) H1)->WS X (.Assign [.Name y py] (.ListComp elt (⟨tg,iter,ifs,0⟩::rest) scope pos) spos) D τ H)
  (λh1 h2 h3 h4 h5 e=>by
   subst e;exact WS.of (w9 hN hj hy B hc h1 h2 h3 h4 hsw ha hs) h5) g D'.xc E U H Hm F _ _ hx R p (λE' k v u H' Hm' F' fp p' R' s' T=>?_) rfl
 rw[lR Sz (l9 (bX hj)) (R'.len▸iU p'.1)];exact nx _ _ _ _ _ p'.2 (R'.put T p'.1) s'
end
end Dv
namespace L2
open PySem PySem.Spec PyProof.Rows
section
variable{X:Cx}
theorem vL:∀{xs:List V}{us:WQ} (k:Nat),Vals xs us->Vals (xs.take k) (us.take k)
 |_,_,0,_=>.nil
 |_,_,_+1,.nil=>.nil
 |_,_,k+1,.cons h r=>.cons h (vL k r)
theorem uX:∀{xs:List V}{us:WQ} (k:Nat),Vals xs us->Vals (xs.drop k) (us.drop k)
 |_,_,0,h=>h
 |_,_,_+1,.nil=>.nil
 |_,_,k+1,.cons _ r=>uX k r
theorem xo:∀{xs ys:List V}{us ws:WQ},Vals xs us->Vals ys ws->Vals (xs++ys) (us++ws)
 |_,_,_,_,.nil,h=>h
 |_,_,_,_,.cons h r,h2=>.cons h (xo r h2)
inductive yZ(x:V)(vs:List V)(H:Hp)(Q:VK):Prop
 |mk:∀(l:Addr)(xs:List V) (i:Nat) (y:V),(x=.ref l)->(vs=[.int (i:Int),y])->(H l=some (.lst xs))->(i<=xs.length)->(xs.length<sizeLine)->(Q .aK (upd H l (.lst (xs.take i++y::xs.drop i))))->yZ x vs H Q
def zE:V->List V->Hp->VK->Prop:=λx vs H Q=>yZ x vs H Q
def oQ:nV X "list.insert" zE:=by
 intro pins s U H x vs v us Q I rx rv h;obtain⟨l,xs,i,y,rfl,rfl,hH,hi,hs,q⟩:=h;cases rx;obtain⟨u1,u2,rfl,ru1,ru2⟩:=rv.two;obtain⟨t,rfl⟩:=ru1;obtain⟨z,its,n,r,hl,e⟩:=I.ud hH;have line:sizeLine<2^62:=by decide
 have fit:¬(!Builtin.List.listFitsIndex (i:Int))=true:=by rw[fitsIndex_both (k:=(i:Int)) (by lia) (by lia)];decide
 have sz:its.toArray.size<=sizeLine:=by rw[R9];lia
 have key:((λxs:WM=>have k:=if(i:Int)<0 then((i:Int)+(xs.size:Int)).toNat else min (i:Int).toNat xs.size;(xs.extract 0 k).push u2++xs.extract k) its.toArray)=(its.take i++u2::its.drop i).toArray:=by
  have h1:¬((i:Int)<0):=by lia
  have h2:min i its.length=i:=by lia
  apply Array.toList_inj.mp;simp[h1,h2];exact TM (by simp)
 have I2:∀tk,Inv X pins U (upd H l (.lst (xs.take i++y::xs.drop i))) { s with heap:=s.heap.update l (Obj.mapSeq (λxs:WM=>have k:=if(i:Int)<0 then((i:Int)+(xs.size:Int)).toNat else min (i:Int).toNat xs.size;(xs.extract 0 k).push u2++xs.extract k)),toks:=tk }:=λtk=>I.w4 (its':=its.take i++u2::its.drop i) hH e key (xo (vL i r) (.cons ru2 (uX i r))) (by
  rw[RC,RK,S9,Td];lia)
 generalize (i:Int)=x at fit I2⊢;exact Su F.slot_list_insert ⟨_,e,rfl⟩ F.entry_list_insert (F.args_list_insert_3 _ _ _) (AutoSeq1.list_insert_list_int_val_1 l its.toArray n x t u2 fit sz) ⟨e,.aK,_,I2 _,rfl,q⟩
end
end L2
namespace Dv
open PySem L2 PySem.W
noncomputable def vj (K:Frag)(f:DM)(r:V->List V->Hp->VK->Prop):Prop:=∀(H Hm:Hp)(a:Addr)(xs:List V)(ds:WN)(vs:List V)(args:WN)(P:WN->PyData->Prop)(Q:VK),H a=some (.lst xs)->Hm a=none->af Hm H->au K Hm xs ds->au K Hm vs args->f ds args P->
 (∀ys new u v,P new v->au K Hm ys new->Rp K Hm u v->Q u (upd H a (.lst ys)))->r (.ref a) vs H Q
theorem DQ:∀{es:List DE}{os:List (Option PyData)}{vs:List V}{ds:WN},Got K U Hm (es.map .ev) os vs->fill (es.map .ev) E os=some ds->au K Hm vs ds
 |[],_,_,_,.nil,h=>by cases h;exact .nil
 |e::es,_,_,_,.ev (os:=os) r G,h=>by
  have h:(fill (es.map .ev) E os).map (_::·)=some _:=h;cases hf:fill (es.map .ev) E os with
  |none=>rw[hf]at h;cases h
  |some ds=>rw[hf]at h;cases h;exact .cons r (DQ G hf)
inductive qv(X:Cx)(Ex:XK)(Y:WZ):WX->List DE->Prop
 |nil:qv X Ex Y [] []
 |cons {e:Expr}{d:DE}{es:WX}{ds:List DE}:SE X Ex Y e d->qv X Ex Y es ds->qv X Ex Y (e::es) (d::ds)
def qv.as(h:qv X Ex Y es ds):aV X Ex Y es (ds.map .ev):=by
 induction h with
 |nil=>exact .nil
 |cons h _ ih=>exact .ev h ih
def CS(ns:es.all noStar=true)(l:es.length<30):((backTo cpos (starEach es env)).all (λx=>!x.1)&&(backToKw cpos (keywordEach [] env)).all (λx=>x.1.isSome)&&decide (es.length+([]:List Keyword).length+(if([]:List Keyword).isEmpty then 0 else 1)<30))=true:=by have h:=iY (pos:=cpos) (env:=env) ns;rw[List.any_eq_false]at h;rw[Q9,Q9,QW];refine⟨⟨λx hx=>by simpa using h x hx,rfl⟩,Rg ?_⟩;show es.length+0+0<30;lia
section
variable{X:Cx}{Ex:XK}{Y:WZ}
def FN{i:Nat}(h:lE E i=true):∃p ds,E[i]?=some (some (.ow p,.list ds)):=by unfold lE at h;split at h;{rename_i p ds e;exact⟨p,ds,e⟩};cases h
def Oj{x name:Str}{id:String}{p apos cpos:Pos}{es:WX}{ds:List DE}{f:DM}{r:V->List V->Hp->VK->Prop}{i j:Nat}(hm:nV X id r)(D:vj X.K f r)(slot:Slot "list" name id)(hty:typeOf (.builtin id)=pure (.type "method_descriptor"))(hv:PE X (.Name x p) (lK j))(hj:Y[j]?=some i)(ns:es.all noStar=true)(l30:es.length<30)(hline:(apos.endLine==cpos.line)=true)(S:qv X Ex Y es ds):SE X Ex Y (.Call (.Attribute (.Name x p) name apos) es [] cpos) (gK f i ds):=by
 intro g xc E U H Hm F P Q hx R h q;replace h:bK (lE E i) _:=h;rw[fm]at h;obtain⟨ho,h⟩:=h;obtain⟨p0,ds0,e0⟩:=FN ho;obtain⟨v,h1,h2⟩:=R.slot i _ _ e0;have hs1:=eW hj h1;have fin:∀a xs0,v=.ref a->H a=some (.lst xs0)->uP X es (sel Y U) H λvs H2=>r (.ref a) vs H2 Q:=λa xs0 ev _=>by
  subst ev;refine kE hx S.as R h λE1 os vs H1 Hm1 F1 p1 R1 s1 G=>?_;replace p1:ET f i (ds.map .ev) E1 os P:=p1;unfold ET at p1;rw[<-bg,fh]at p1;obtain⟨args,hf,p1⟩:=p1;split at p1
  rotate_left
  .exact p1.elim
  rename_i p1' ds1 e1;have ra:=DQ G hf;obtain⟨v',g1,g2⟩:=R1.slot i _ _ e1;rw[h1]at g1;cases g1;generalize hfi:F1 i=fi at g2;cases g2 with
  |@ow _ _ xs1 _ ha1 hr1=>refine D H1 Hm1 a xs1 ds1 vs args _ Q ha1 (R1.off i a (by rw[hfi];exact Q6)) R1.sub hr1 ra p1 λys new u v p2 ry ru=>?_;obtain⟨a',xs',k1,k2,k3,k4,R2⟩:=R1.chg e1 ry;rw[h1]at k1;cases k1;exact q _ _ _ _ _ _ _ [] p2 R2 s1 (Tm.sh ru)
 generalize hfi:F i=fi at h2;cases h2 with
 |@ow _ a xs _ ha hr=>
  cases es with
  |nil=>exact WE.of (Me UZ slot hty hm hv rfl hline) ⟨_,hs1,.inl ⟨rfl,_,bQ.of ha⟩,fin a xs rfl ha⟩
  |cons e es=>have ns':=ns;rw[QY,Q9]at ns';exact WE.of (v9 UZ slot hty hm hv (fL ns) rfl (CS ns l30) hline (cI ns'.1) (iY ns'.2)) ⟨_,hs1,.inl ⟨rfl,_,bQ.of ha⟩,fin a xs rfl ha⟩
noncomputable def cz:DM:=λds args P=>match args with
 |[d]=>ds.length<sizeLine/\P (ds++[d]) .none
 |_=>False
def b6:vj K cz AM:=by intro H Hm a xs ds vs args P Q ha _ s r ra h q;unfold cz at h;split at h;{obtain⟨x,rfl,h1⟩:=fR ra;exact⟨a,xs,x,rfl,rfl,ha,by rw[r.len];exact h.1,q _ _ _ _ h.2 (r.snoc h1) .aK⟩};exact h.elim
inductive uN(K:Frag) (x:V)(vs:List V)(H:Hp)(Q:VK):Prop
 |mk:∀l b xs zs,(x=.ref l)->(vs=[.ref b])->(H l=some (.lst xs))->(cT K H b zs)->(xs.length+zs.length<=sizeLine)->(Q .aK (upd H l (.lst (xs++zs))))->uN K x vs H Q
def x8 (K:Frag):V->List V->Hp->VK->Prop:=λx vs H Q=>uN K x vs H Q
open PyProof.Rows in
def Bw:nV X "list.extend" (x8 X.K):=by
 intro pins s U H x vs v us Q I rx rv h;obtain⟨l,b,xs,zs,rfl,rfl,hH,hB,hz,q⟩:=h;cases rx;obtain⟨u,rfl,ru⟩:=rv.one;cases ru;obtain⟨z,its,n,r,hl,e⟩:=I.ud hH;obtain⟨z2,its2,n2,r2,e2⟩:=hB.get I;have hl2:=r2.length;have hsz:its.toArray.size+its2.toArray.size<=sizeLine:=by rw[R9,R9];lia
 have hlong:¬(!its.toArray.isEmpty&&Builtin.List.listTooLong (its.toArray.size+its2.toArray.size))=true:=by rw[xh hsz,Bool.and_false];exact QV
 refine Su F.slot_list_extend ⟨_,e,rfl⟩ F.entry_list_extend (F.args_list_extend_2 _ _)
  (AutoSeq1.list_extend_list_list_0 l its.toArray n b its2.toArray n2 hlong (by rw[R9];lia) (by lia)) ⟨e,e2,?_⟩
 refine⟨.aK,_,I.w4 (its':=its++its2) hH e (by simp) (r.append r2) ?_,rfl,q⟩;rw[RC];lia
noncomputable def qb:DM:=λds args P=>match args with
 |[.list es]=>ds.length+es.length<=sizeLine/\P (ds++es) .none
 |_=>False
def BD:vj K qb (x8 K):=by intro H Hm a xs ds vs args P Q ha _ s r ra h q;unfold qb at h;split at h;{obtain⟨x,rfl,h1⟩:=fR ra;obtain⟨b,zs,rfl,hb,r2⟩:=lZ h1;exact⟨a,b,xs,zs,rfl,rfl,ha,cT.mono s hb,by rw[r.len,r2.len];exact h.1,q _ _ _ _ h.2 (r.app r2) .aK⟩};exact h.elim
theorem au.dropLast(r:au K H vs ds):au K H vs.dropLast ds.dropLast:=by rw[List.dropLast_eq_take,List.dropLast_eq_take,r.len];exact r.take _
theorem au.erase:∀{vs:List V}{ds:WN} (i:Nat),au K H vs ds->au K H (vs.eraseIdx i) (ds.eraseIdx i)
 |_,_,_,.nil=>.nil
 |_,_,0,.cons _ r=>r
 |_,_,i+1,.cons h r=>.cons h (r.erase i)
noncomputable def rL:DM:=λds args P=>match args with
 |[]=>∃d,ds[ds.length-1]?=some d/\P ds.dropLast d
 |[.int i]=>(-(2^63)<=i/\i<2^63)/\∃n d,seqIndex? i ds.length=some n/\ds[n]?=some d/\P (ds.eraseIdx n) d
 |_=>False
def ue:nV X "list.pop" λx vs H Q=>FF x vs H Q\/y9 x vs H Q:=λpins s U H x xs v us Q I a b z=>z.elim (KS pins s U H x xs v us Q I a b) (G5 pins s U H x xs v us Q I a b)
def uh:vj K rL λx vs H Q=>FF x vs H Q\/y9 x vs H Q:=by intro H Hm a xs ds vs args P Q ha _ s r ra h q;unfold rL at h;split at h;{cases ra;obtain⟨d,e,h⟩:=h;obtain⟨v,ev,rv⟩:=r.get e;refine .inl ⟨a,xs,v,rfl,rfl,ha,by rw[r.len];exact ev,q _ _ _ _ h r.dropLast rv⟩};{obtain⟨x,rfl,h1⟩:=fR ra;cases h1;obtain⟨⟨b1,b2⟩,n,d,e1,e2,h⟩:=h;obtain⟨v,ev,rv⟩:=r.get e2;exact .inr ⟨a,xs,_,n,v,rfl,rfl,ha,b1,b2,by rw[r.len];exact e1,ev,q _ _ _ _ h (r.erase n) rv⟩};exact h.elim
noncomputable def j6:DM:=λds args P=>match args with
 |[.int i,d]=>∃n:Nat,i=n/\n<=ds.length/\ds.length<sizeLine/\P (ds.take n++d::ds.drop n) .none
 |_=>False
def nu:vj K j6 zE:=by intro H Hm a xs ds vs args P Q ha _ s r ra h q;unfold j6 at h;split at h;{obtain⟨x,y,rfl,h1,h2⟩:=gF ra;cases h1;obtain⟨n,rfl,l1,l2,h⟩:=h;exact⟨a,xs,n,y,rfl,rfl,ha,by rw[r.len];exact l1,by rw[r.len];exact l2,q _ _ _ _ h ((r.take n).app (.cons h2 (r.drop n))) .aK⟩};exact h.elim
end
def mU:bB a=bB b↔a=b:=by cases a<;>cases b<;>simp[bB]
theorem uO:∀{a b:List Key},a.map bB=b.map bB↔a=b
 |[],[]=>by simp
 |[],_::_=>by simp
 |_::_,[]=>by simp
 |a::as,b::bs=>by simp[mU,uO (a:=as) (b:=bs)]
def qV{a b:List Key}:PyData.tuple (a.map bB)=.tuple (b.map bB)↔a=b:=by rw[PyData.tuple.injEq];exact uO
def j5(h:jv w=true):∃k,w=bB k:=by
 cases w with
 |int i=>exact⟨.inl i,rfl⟩
 |str x=>exact⟨.inr x,rfl⟩
 |_=>cases h
theorem lq:∀{ks:WN},ks.all jv=true->∃k:List Key,ks=k.map bB
 |[],_=>⟨[],rfl⟩
 |w::ks,h=>by rw[QY,Q9]at h;obtain⟨k,rfl⟩:=j5 h.1;obtain⟨l,rfl⟩:=lq h.2;exact⟨k::l,rfl⟩
section
variable{K:Frag}{H:Hp}
def lW(r:Rp K H u (bB k)):u=kV k:=by
 cases k with
 |inl i=>have r:Rp K H u (.int i):=r;cases r;rfl
 |inr x=>have r:Rp K H u (.str x):=r;cases r;rfl
theorem wI:∀{us:List V}{k:List Key},au K H us (k.map bB)->us=k.map kV
 |_,[],r=>by cases r;rfl
 |_,k::ks,r=>by
  cases r with
  |cons h t=>rw[lW h,wI t];rfl
def tX{k:List Key}(r:Rp K H u (.tuple (k.map bB))):∃b,u=.ref b/\H b=some (.tup (k.map kV)):=by
 cases r with
 |tup a r=>exact⟨_,rfl,by rw[<-wI r];exact a⟩
theorem dg.len:∀{kvs:List (Key×V)}{ds:Vy},dg K H kvs ds->kvs.length=ds.length
 |_,_,.nil=>rfl
 |_,_,.cons _ r=>congrArg (·+1) r.len
theorem eL.len:∀{kvs:List (List Key×V)}{ds:Vy},eL K H kvs ds->kvs.length=ds.length
 |_,_,.nil=>rfl
 |_,_,.cons _ r=>congrArg (·+1) r.len
theorem dg.val:∀{kvs:List (Key×V)}{ds:Vy},dg K H kvs ds->(bY ds (bB k)=none/\cX kvs k=none)\/∃v d,cX kvs k=some v/\bY ds (bB k)=some d/\Rp K H v d
 |_,_,.nil=>.inl ⟨rfl,rfl⟩
 |_,_,.cons (k:=k') (v:=v) (d:=d) (kvs:=kvs) (ds:=ds) h r=>by
  by_cases c:k'=k;{subst c;exact .inr ⟨v,d,by unfold cX;rw[Ua (by simp)];rfl,by unfold bY;rw[Ua (by simp)];rfl,h⟩};have c':¬bB k'=bB k:=λz=>c (mU.mp z);have e1:cX ((k',v)::kvs) k=cX kvs k:=by unfold cX;rw[U9 (by simpa using c)]
  have e2:bY ((bB k',d)::ds) (bB k)=bY ds (bB k):=by unfold bY;rw[U9 (by simpa using c')]
  rw[e1,e2];exact r.val
theorem eL.val:∀{kvs:List (List Key×V)}{ds:Vy},eL K H kvs ds->(bY ds (.tuple (k.map bB))=none/\cX kvs k=none)\/∃v d,cX kvs k=some v/\bY ds (.tuple (k.map bB))=some d/\Rp K H v d
 |_,_,.nil=>.inl ⟨rfl,rfl⟩
 |_,_,.cons (k:=k') (v:=v) (d:=d) (kvs:=kvs) (ds:=ds) h r=>by
  by_cases c:k'=k;{subst c;exact .inr ⟨v,d,by unfold cX;rw[Ua (by simp)];rfl,by unfold bY;rw[Ua (by simp)];rfl,h⟩};have c':¬PyData.tuple (k'.map bB)=.tuple (k.map bB):=λz=>c (qV.mp z);have e1:cX ((k',v)::kvs) k=cX kvs k:=by unfold cX;rw[U9 (by simpa using c)]
  have e2:bY ((.tuple (k'.map bB),d)::ds) (.tuple (k.map bB))=bY ds (.tuple (k.map bB)):=by unfold bY;rw[U9 (by simpa using c')]
  rw[e1,e2];exact r.val
theorem dg.any:∀{kvs:List (Key×V)}{ds:Vy},dg K H kvs ds->(kvs.any λkv=>decide (kv.1=k))=ds.any λkv=>decide (kv.1=bB k)
 |_,_,.nil=>rfl
 |_,_,.cons (k:=k') h r=>by rw[Sb,Sb,r.any,decide_eq_decide.mpr (mU (a:=k') (b:=k)).symm]
theorem eL.any{k:List Key}:∀{kvs:List (List Key×V)}{ds:Vy},eL K H kvs ds->(kvs.any λkv=>decide (kv.1=k))=ds.any λkv=>decide (kv.1=.tuple (k.map bB))
 |_,_,.nil=>rfl
 |_,_,.cons (k:=k') h r=>by rw[Sb,Sb,r.any,decide_eq_decide.mpr (qV (a:=k') (b:=k)).symm]
theorem dg.app(k:Key)(h:Rp K H v d):∀{kvs:List (Key×V)}{ds:Vy},dg K H kvs ds->dg K H (kvs++[(k,v)]) (ds++[(bB k,d)])
 |_,_,.nil=>.cons h .nil
 |_,_,.cons g r=>.cons g (r.app k h)
theorem eL.app(k:List Key)(h:Rp K H v d):∀{kvs:List (List Key×V)}{ds:Vy},eL K H kvs ds->eL K H (kvs++[(k,v)]) (ds++[(.tuple (k.map bB),d)])
 |_,_,.nil=>.cons h .nil
 |_,_,.cons g r=>.cons g (r.app k h)
def dg.put(k:Key)(h:Rp K H v d)(r:dg K H kvs ds):dg K H (putK kvs k v) (putD ds (bB k) d):=by
 unfold putK putD;rw[r.any (k:=k)];split
 .have go:∀{kvs:List (Key×V)}{ds:Vy},dg K H kvs ds->dg K H (kvs.map λkv=>if kv.1=k then(kv.1,v)else kv) (ds.map λkv=>if kv.1=bB k then(kv.1,d)else kv):=by
   intro kvs;induction kvs with
   |nil=>intro ds r;cases r;exact .nil
   |cons p kvs ih=>
    intro ds r;cases r with
    |@cons k' v' d' _ ds g r=>rw[RE,RE];by_cases c:k'=k;{rw[if_pos c,if_pos (congrArg bB c)];exact .cons h (ih r)};rw[if_neg c,if_neg λz=>c (mU.mp z)];exact .cons g (ih r)
  exact go r
 exact r.app k h
def eL.put(k:List Key)(h:Rp K H v d)(r:eL K H kvs ds):eL K H (putK kvs k v) (putD ds (.tuple (k.map bB)) d):=by
 unfold putK putD;rw[r.any (k:=k)];split
 .have go:∀{kvs:List (List Key×V)}{ds:Vy},eL K H kvs ds->eL K H (kvs.map λkv=>if kv.1=k then(kv.1,v)else kv) (ds.map λkv=>if kv.1=.tuple (k.map bB)then(kv.1,d)else kv):=by
   intro kvs;induction kvs with
   |nil=>intro ds r;cases r;exact .nil
   |cons p kvs ih=>
    intro ds r;cases r with
    |@cons k' v' d' _ ds g r=>rw[RE,RE];by_cases c:k'=k;{rw[if_pos c,if_pos (by rw[c])];exact .cons h (ih r)};rw[if_neg c,if_neg λz=>c (qV.mp z)];exact .cons g (ih r)
  exact go r
 exact r.app k h
end
section
variable{X:Cx}{Ex:XK}{Y:WZ}
inductive Ik(neg:Bool) (x:V) (y:V)(H:Hp)(Q:VK):Prop
 |mk:∀a o,(y=.ref a)->(fQ H a x o)->(Q (.bl (if neg then !o.isSome else o.isSome)) H)->Ik neg x y H Q
def Gv (neg:Bool):R2:=λx y H Q=>Ik neg x y H Q
def KW(hu:X.A.units+64<cLine):bC X (compareOp .In) (Gv false):=by intro pins s U H x y v u Q I rx ry h;obtain⟨a,o,rfl,g,q⟩:=h;cases ry;exact Pz (by lia) I g rx λs3 I3=>⟨.bl o.isSome,H,I3,rfl,q⟩
def Es(hu:X.A.units+64<cLine):bC X (compareOp .NotIn) (Gv true):=by intro pins s U H x y v u Q I rx ry h;obtain⟨a,o,rfl,g,q⟩:=h;cases ry;exact KL (by lia) I g rx λs3 I3=>⟨.bl (!o.isSome),H,I3,rfl,q⟩
noncomputable def dF (neg:Bool):DR:=λds P=>z7 (λx y=>match y,x with
 |.dict ((.none,.none)::kvs),.tuple ks=>ks.all jv=true/\P .sh (.bool (if neg then !(bY kvs (.tuple ks)).isSome else(bY kvs (.tuple ks)).isSome))
 |.dict kvs,w=>(jv w=true/\gM kvs=true)/\P .sh (.bool (if neg then !(bY kvs w).isSome else(bY kvs w).isSome))
 |y,x=>HC neg [x,y] P) ds
noncomputable def yr (K:Frag)(neg:Bool):R2:=λx y H Q=>BC K neg x y H Q\/Gv neg x y H Q
def Mb(hu:X.A.units+64<cLine):bC X (compareOp .In) (yr X.K false):=bC.or (LP hu) (KW hu)
def CN(hu:X.A.units+64<cLine):bC X (compareOp .NotIn) (yr X.K true):=bC.or (E7 hu) (Es hu)
def qY(r:Rp K H u (.dict kvs))(h:gM kvs=true):∃a es,u=.ref a/\H a=some (.dK es)/\dg K H es kvs:=by
 cases r with
 |dk a r=>exact⟨_,_,rfl,a,r⟩
 |dt a r=>cases h
 |exc _ _=>cases h
def DA(r:Rp K H u (.dict ((.none,.none)::kvs))):∃a es,u=.ref a/\H a=some (.dT es)/\eL K H es kvs:=by
 generalize e:((PyData.none,PyData.none)::kvs)=ds at r;cases r with
 |dk a r=>
  cases r with
  |nil=>cases e
  |@cons k _ _ _ _ _ _=>cases k<;>cases e
 |dt a r=>cases e;exact⟨_,_,rfl,a,r⟩
 |exc _ _=>cases e
def Ac(neg:Bool):c9 K (dF neg) (r2 (yr K neg)):=by
 intro H Hm vs ds P Q s r h q;obtain⟨x,y,w,d,rfl,rfl,h1,h2,h⟩:=oj r h;have dflt:HC neg [w,d] P->r2 (yr K neg) [x,y] H Q:=λh=>.inl (MU neg H Hm _ _ P Q s r h q);have alt:∀kvs,d=.dict kvs->((jv w=true/\gM kvs=true)/\P .sh (.bool (if neg then !(bY kvs w).isSome else(bY kvs w).isSome)))->r2 (yr K neg) [x,y] H Q:=λkvs e hz=>by
  subst e;obtain⟨⟨hk,hp⟩,hz⟩:=hz;obtain⟨k,rfl⟩:=j5 hk;cases lW h1;obtain⟨a,es,rfl,ha,rt⟩:=qY h2 hp;refine .inr ⟨a,_,rfl,fQ.k (s _ _ ha),?_⟩;have e:(cX es k).isSome=(bY kvs (bB k)).isSome:=by rcases rt.val (k:=k)with⟨e1,e2⟩|⟨v,d,e1,e2,_⟩;{rw[e1,e2];rfl};rw[e1,e2];rfl
  rw[e];exact bO.sc q s hz (.bl _)
 have h2':=h2;cases h2' with
 |dk _ rk=>
  cases rk with
  |nil=>exact alt _ rfl h
  |@cons k _ _ _ _ _ _=>cases k<;>exact alt _ rfl h
 |exc _ _=>exact alt _ rfl h
 |@dt _ _ kvs _ _=>
  cases w with
  |tuple ks=>
   obtain⟨k,rfl⟩:=lq h.1;obtain⟨b,rfl,hb⟩:=tX h1;obtain⟨a,es,e,ha,rt⟩:=DA h2;cases e;refine .inr ⟨_,_,rfl,fQ.t (s _ _ ha) (s _ _ hb),?_⟩;have e:(cX es k).isSome=(bY kvs (.tuple (k.map bB))).isSome:=by rcases rt.val (k:=k)with⟨e1,e2⟩|⟨v,d,e1,e2,_⟩;{rw[e1,e2];rfl};rw[e1,e2];rfl
   rw[e];exact bO.sc q s h.2 (.bl _)
  |_=>exact alt _ rfl h
 |_=>exact dflt h
inductive Hx(x:V) (y:V)(H:Hp)(Q:VK):Prop
 |mk:∀a v,(x=.ref a)->(fQ H a y (some v))->(Q v H)->Hx x y H Q
def LR:R2:=λx y H Q=>Hx x y H Q
def Jb(hu:X.A.units+64<cLine):n9 X LR:=by intro value slice pins s U H x y v u Q I rx ry h hs;obtain⟨a,w,rfl,g,q⟩:=h;cases rx;exact PyProof.Rows.tail_any (zx I g) PySem.F.slot_dict_getitem.lookup (El (by lia) I g ry λw' s3 I3 rw'=>⟨w,H,I3,rw',q⟩) hs
noncomputable def atK (xs:WN) (i:Int):Option PyData:=match i with
 |.ofNat n=>xs[n]?
 |.negSucc n=>dM xs (.negSucc n)
def sW{xs:WN}{i:Int}:atK xs i=dM xs i:=by
 cases i with
 |ofNat n=>unfold atK dM kC;show xs[n]?=_;rw[if_pos (show(0:Int)<=Int.ofNat n from Int.natCast_nonneg n)];by_cases h:n<xs.length;{rw[if_pos (show Int.ofNat n<(xs.length:Int)from UB.mpr h)];rfl};rw[if_neg (show ¬Int.ofNat n<(xs.length:Int)from λz=>h (UB.mp z))];exact Rk (Nat.le_of_not_lt h)
 |negSucc n=>rfl
noncomputable def aW:DR:=λds P=>z7 (λx y=>match x,y with
 |.list xs,.int i=>aD (atK xs i) (P .sh)
 |.tuple xs,.int i=>aD (atK xs i) (P .sh)
 |.dict ((.none,.none)::kvs),.tuple ks=>ks.all jv=true/\∃d,bY kvs (.tuple ks)=some d/\P .sh d
 |.dict kvs,w=>(jv w=true/\gM kvs=true)/\∃d,bY kvs w=some d/\P .sh d
 |x,y=>HS [x,y] P) ds
def Ce (K:Frag):R2:=λx y H Q=>Lu K x y H Q\/LR x y H Q
def Pp(hu:X.A.units+64<cLine):n9 X (Ce X.K):=Em.or (Jb hu)
def JP:c9 K aW (r2 (Ce K)):=by
 intro H Hm vs ds P Q s r h q;obtain⟨x,y,d,w,rfl,rfl,h2,h1,h⟩:=oj r h;have dflt:HS [d,w] P->r2 (Ce K) [x,y] H Q:=λh=>.inl (Lv H Hm _ _ P Q s r h q);have alt:∀kvs,d=.dict kvs->((jv w=true/\gM kvs=true)/\∃d,bY kvs w=some d/\P .sh d)->r2 (Ce K) [x,y] H Q:=λkvs e hz=>by subst e;obtain⟨⟨hk,hp⟩,d,hv,hz⟩:=hz;obtain⟨k,rfl⟩:=j5 hk;cases lW h1;obtain⟨a,es,rfl,ha,rt⟩:=qY h2 hp;rcases rt.val (k:=k)with⟨e1,e2⟩|⟨v,d',e1,e2,rv⟩;{rw[e1]at hv;cases hv};rw[e2]at hv;cases hv;exact .inr ⟨a,v,rfl,by rw[<-e1];exact fQ.k (s _ _ ha),bO.sc q s hz rv⟩
 have h2':=h2;cases h2' with
 |lst _ _=>
  cases w with
  |int i=>have h:aD (atK _ i) (P .sh):=h;rw[sW,<-bg]at h;exact dflt h
  |_=>exact dflt h
 |tup _ _=>
  cases w with
  |int i=>have h:aD (atK _ i) (P .sh):=h;rw[sW,<-bg]at h;exact dflt h
  |_=>exact dflt h
 |dk _ rk=>
  cases rk with
  |nil=>exact alt _ rfl h
  |@cons k _ _ _ _ _ _=>cases k<;>exact alt _ rfl h
 |exc _ _=>exact alt _ rfl h
 |dt _ _=>
  cases w with
  |tuple ks=>obtain⟨hk,d,hv,hz⟩:=h;obtain⟨k,rfl⟩:=lq hk;obtain⟨b,rfl,hb⟩:=tX h1;obtain⟨a,es,e,ha,rt⟩:=DA h2;cases e;rcases rt.val (k:=k)with⟨e1,e2⟩|⟨v,d',e1,e2,rv⟩;{rw[e1]at hv;cases hv};rw[e2]at hv;cases hv;exact .inr ⟨_,v,rfl,by rw[<-e1];exact fQ.t (s _ _ ha) (s _ _ hb),bO.sc q s hz rv⟩
  |_=>exact alt _ rfl h
 |_=>exact dflt h
noncomputable def gc:DR:=λds P=>match ds with
 |[.dict kvs]=>gM kvs=true/\P .sh (.int kvs.length)
 |ds=>FH ds P
def Fq:c9 K gc λxs H Q=>(∃p ys,xs=[.ref p]/\(bQ K H p ys\/bI K H p ys)/\Q (.int ys.length) H)\/∃a kvs,xs=[V.ref a]/\H a=some (.dK kvs)/\Q (.int kvs.length) H:=by intro H Hm vs ds P Q s r h q;unfold gc at h;split at h;{obtain⟨x,rfl,h1⟩:=fR r;obtain⟨a,es,rfl,ha,rt⟩:=qY h1 h.1;exact .inr ⟨a,es,rfl,s _ _ ha,by rw[rt.len];exact bO.sc q s h.2 (.int _)⟩};exact .inl (Js H Hm _ _ P Q s r h q)
def Rl.GF{F:Nat->WU}(R:Rl K g E U H Hm F){i:Nat}{a:Addr}(e:E[i]?=some (some (k,d)))(hF:F i=[a])(hv:U[i]?=some (some (.ref a)))(new:Own K (upd H a o) Hm k (.ref a) d' [a])(nt:oN o)(hp:k=.ow true->∃ds,d'=.list ds) : Rl K g (E.set i (some (k,d'))) U (upd H a o) Hm F:=by
 have ma:a∈F i:=by rw[hF];exact Q6
 have na:=R.off i a ma;have up:∀b,b≠a->upd H a o b=H b:=λb hb=>ah hb;have li:=bX e;exact {
  len:=by rw[Rf];exact R.len
  sub:=λb u hb=>by
   have:b≠a:=λz=>by rw[z,na]at hb;cases hb
   rw[up b this];exact R.sub b u hb
  slot:=λj k' d'' e'=>by
   by_cases c:j=i
   .subst c;rw[aF li]at e';cases e';exact⟨_,hv,by rw[hF];exact new⟩
   .rw[ak (Ne.symm c)]at e';obtain⟨u,g1,g2⟩:=R.slot j k' d'' e';refine⟨u,g1,g2.step (af.refl _) λb hb=>up b λz=>c (R.aQ j i a (z▸hb) ma)⟩
  off:=R.off
  bu:=λj b hb=>by
   by_cases c:b=a
   .rw[c];exact⟨_,ao,nt⟩
   .rw[up b c];exact R.bu j b hb
  aQ:=R.aQ
  fr:=λq u hq ho=>by
   have:q≠a:=λz=>by
    rcases R.new i a ma with y|y
    .exact hq (z▸y)
    .rw[z,y]at ho;cases ho
   rw[up q this];exact R.fr q u hq ho
  new:=R.new
  pin:=λq hq=>by
   obtain⟨g1,ds',g2⟩:=R.pin q hq
   by_cases c:i=q.1
   .rw[<-c]at g1 g2⊢;rw[e]at g2;cases g2;obtain⟨ds,rfl⟩:=hp rfl;exact⟨g1,ds,aF li⟩
   .exact⟨g1,ds',by rw[ak c];exact g2⟩
  old:=R.old }
noncomputable def HH:BS:=λo i v H Q=>Ir o i v H Q\/∃a H',o=.ref a/\pA H a i v H'/\Q H'
def N7(hu:X.A.units+64<cLine):GG X HH:=by intro pins s U H o i v ov iv u Q I ro ri rv h;rcases h with h|⟨a,H',rfl,g,q⟩;{exact set_list pins s U H o i v ov iv u Q I ro ri rv h};cases ro;exact EV (by lia) I g ri rv λs' I'=>⟨H',I',q⟩
def Ku{F:Nat->WU}{i:Nat}(R:Rl K g E U H Hm F)(ho:U[i]?=some (some o))(rw':Rp K Hm wv w)(rv:Rp K Hm vv v)(h:fP.setI E i w v Qe)(q:∀E' H',Qe E'->Rl K g E' U H' Hm F->Q H'):HH o wv vv H Q:=by
 unfold fP.setI at h;split at h
 .rename_i p ds a e;rw[<-bg,xE]at h;obtain⟨n,hn,h⟩:=h;cases rw';obtain⟨v',h1,h2⟩:=R.slot i _ _ e;rw[ho]at h1;cases h1;generalize hfi:F i=fi at h2;cases h2 with
  |@ow _ b xs _ ha hr=>refine .inl ⟨b,xs,a,n,rfl,rfl,ha,by rw[hr.len];exact hn,q _ _ h ?_⟩;exact R.GF e hfi ho (.ow ao (hr.set rv n)) lO λ_=>⟨_,rfl⟩
 .rename_i p kvs _ e;obtain⟨⟨hk,hl⟩,h⟩:=h;obtain⟨k,rfl⟩:=j5 hk;cases lW rw';obtain⟨v',h1,h2⟩:=R.slot i _ _ e;rw[ho]at h1;cases h1;generalize hfi:F i=fi at h2;cases h2 with
  |@dk _ b es _ ha hr=>refine .inr ⟨b,_,rfl,pA.k ha (by rw[hr.len];exact hl),q _ _ h ?_⟩;exact R.GF e hfi ho (.dk ao (hr.put k rv)) sY λz=>by cases z
 .rename_i p kv kvs ks e;obtain⟨⟨hk,hl⟩,h⟩:=h;obtain⟨k,rfl⟩:=lq hk;obtain⟨c,rfl,hc⟩:=tX rw';obtain⟨v',h1,h2⟩:=R.slot i _ _ e;rw[ho]at h1;cases h1;generalize hfi:F i=fi at h2;cases h2 with
  |@dt _ b es _ ha hr=>refine .inr ⟨b,_,rfl,pA.t ha (R.sub _ _ hc) (by rw[hr.len];exact hl),q _ _ h ?_⟩;exact R.GF e hfi ho (.dt ao (hr.put k rv)) vJ λz=>by cases z
 exact h.elim
def NH{i jx:Nat}(hu:X.A.units+64<cLine)(hv:PE X (.Name x p) (lK jx))(hj:(aT X)[jx]?=some i)(hs:swapsWithSole [.Subscript (.Name x p) j pos'] e pos.line X.env=pure false)
  (ha:∀v,assign (.Subscript (.Name x p) j pos') X.env v=(do
   let ov <-holding [v] (eval (.Name x p) X.env)
   let iv <-holding [v,ov] (eval j X.env)
   standAt pos'
   holding [v,ov,iv] (setItem ov iv v)
   release [v,ov,iv] []))(hd:SE X Ex (aT X) e de)(hd2:SE X Ex (aT X) j dj):S1 X Ex (.Assign [.Subscript (.Name x p) j pos'] e pos) (fP i dj de):=by
 intro g D' E U H Hm F D hx R pp nx rt;refine WS.of (Dt cN (Ld hv cN (N7 hu) ha) hs) (hd g D'.xc E U H Hm F _ _ hx R pp λE1 k v u H1 Hm1 F1 fp p1 R1 s1 T=>?_)
 replace p1:bK k.fz _:=p1
 rw[fm,fm]at p1;obtain⟨hk,hh,p1⟩:=p1;obtain⟨Hm2,s2,R2,r2⟩:=T.ig R1 hk;obtain⟨o,ho⟩:=k7 R2 hh;refine⟨o,eW hj ho,hd2 g D'.xc E1 U H1 Hm2 F1 _ _ hx R2 p1 λE3 k3 v3 u3 H3 Hm3 F3 fp3 p3 R3 s3 T3=>?_⟩
 replace p3:bK k3.fz _:=p3
 rw[fm]at p3;obtain⟨hk3,p3⟩:=p3;obtain⟨Hm4,s4,R4,r4⟩:=T3.ig R3 hk3;exact Ku R4 ho r4 (r2.mono (s3.trans s4)) p3 λE' H' q R'=>nx _ _ _ _ _ q R' (s1.trans (s2.trans (s3.trans s4)))
end
noncomputable def ini:WV->WN->En
 |true::ms,d::ds=>some (.ow true,d)::ini ms ds
 |false::ms,d::ds=>some (.sh,d)::ini ms ds
 |_,_=>[]
noncomputable def fH:WV->En->Option (WN)
 |[],_=>some []
 |true::ms,some (.ow true,.list es)::E=>(fH ms E).map (.list es::·)
 |false::ms,_::E=>fH ms E
 |_,_=>none
noncomputable def fJ:WV->Nat->WU->List (Nat×Addr)
 |true::ms,n,a::as=>(n,a)::fJ ms (n+1) as
 |false::ms,n,as=>fJ ms (n+1) as
 |_,_,_=>[]
noncomputable def gx:WV->WU->List (WU)
 |true::ms,a::as=>[a]::gx ms as
 |false::ms,as=>[]::gx ms as
 |_,_=>[]
section
variable{K:Frag}{H Hm:Hp}
def Ag.yu(h:Ag K H Hm ms vs ds as):vs.length=ms.length:=by
 induction h with
 |nil=>rfl
 |sh _ _ ih=>rw[RK,RK,ih]
 |mu _ _ _ _ _ ih=>rw[RK,RK,ih]
def Ag.Qa(h:Ag K H Hm ms vs ds as):(ini ms ds).length=vs.length:=by
 induction h with
 |nil=>rfl
 |sh _ _ ih=>rw[ini,RK,RK,ih]
 |mu _ _ _ _ _ ih=>rw[ini,RK,RK,ih]
def Ag.pins(h:Ag K H Hm ms vs ds as):∀n,(fJ ms n as).map (·.2)=as:=by
 induction h with
 |nil=>exact λ_=>rfl
 |sh _ _ ih=>exact λn=>ih (n+1)
 |@mu _ _ _ _ a _ _ _ _ _ _ _ ih=>exact λn=>congrArg (a::·) (ih (n+1))
def Ag.slot(h:Ag K H Hm ms vs ds as):∀{i:Nat}{k:Kd}{d:PyData},(ini ms ds)[i]?=some (some (k,d))->∃v,vs[i]?=some v/\Own K H Hm k v d ((gx ms as)[i]?.getD []):=by
 induction h with
 |nil=>intro i k d e;simp[ini]at e
 |@sh ms vs ds as v d r _ ih=>
  intro i k d' e;rw[ini]at e;cases i with
  |zero=>cases e;exact⟨v,rfl,.sh r⟩
  |succ i=>exact ih e
 |@mu ms vs ds as a xs es h1 h2 h3 h4 _ ih=>
  intro i k d' e;rw[ini]at e;cases i with
  |zero=>cases e;exact⟨_,rfl,.ow h1 h2⟩
  |succ i=>exact ih e
def Ag.Ih(h:Ag K H Hm ms vs ds as):(∀(i:Nat) a,a∈(gx ms as)[i]?.getD []->a∈as/\Hm a=none/\∃xs,H a=some (.lst xs))/\∀(i j:Nat) a,a∈(gx ms as)[i]?.getD []->a∈(gx ms as)[j]?.getD []->i=j:=by
 induction h with
 |nil=>exact⟨λi a h=>by simp[gx]at h,λi j a h=>by simp[gx]at h⟩
 |@sh ms vs ds as v d r _ ih=>
  refine⟨λi a h=>?_,λi j a h1 h2=>?_⟩
  .rw[gx]at h;cases i with
   |zero=>simp at h
   |succ i=>exact ih.1 i a h
  rw[gx]at h1 h2;cases i with
  |zero=>simp at h1
  |succ i=>
   cases j with
   |zero=>simp at h2
   |succ j=>exact congrArg (·+1) (ih.2 i j a h1 h2)
 |@mu ms vs ds as a xs es g1 g2 g3 g4 _ ih=>
  refine⟨λi b h=>?_,λi j b h1 h2=>?_⟩
  .rw[gx]at h;cases i with
   |zero=>have h:b∈[a]:=h;rw[QS]at h;subst h;exact⟨Q6,g3,xs,g1⟩
   |succ i=>obtain⟨y1,y2⟩:=ih.1 i b h;exact⟨QU _ y1,y2⟩
  rw[gx]at h1 h2;cases i with
  |zero=>
   have h1:b∈[a]:=h1;rw[QS]at h1;subst h1;cases j with
   |zero=>rfl
   |succ j=>exact absurd (ih.1 j b h2).1 g4
  |succ i=>
   cases j with
   |zero=>have h2:b∈[a]:=h2;rw[QS]at h2;subst h2;exact absurd (ih.1 i b h1).1 g4
   |succ j=>exact congrArg (·+1) (ih.2 i j b h1 h2)
def Ag.pin(h:Ag K H Hm ms vs ds as):∀n,∀q∈fJ ms n as,∃i,q.1=n+i/\vs[i]?=some (.ref q.2)/\∃es,(ini ms ds)[i]?=some (some (.ow true,.list es)):=by
 induction h with
 |nil=>exact λn q h=>by cases h
 |@sh ms vs ds as v d r _ ih=>intro n q h;obtain⟨i,e,h1,h2⟩:=ih (n+1) q h;exact⟨i+1,by lia,h1,h2⟩
 |@mu ms vs ds as a xs es g1 g2 g3 g4 _ ih=>intro n q h;have h:q∈(n,a)::fJ ms (n+1) as:=h;rcases QX.mp h with rfl|h;{exact⟨0,rfl,rfl,es,rfl⟩};obtain⟨i,e,h1,h2⟩:=ih (n+1) q h;exact⟨i+1,by lia,h1,h2⟩
def Ag.back{H' Hm':Hp}{E:En}(h:Ag K H Hm ms vs ds as):∀{n:Nat}{us:WN},(∀q∈fJ ms n as,∃es xs,E[q.1]?=some (some (.ow true,.list es))/\H' q.2=some (.lst xs)/\au K Hm' xs es/\Hm' q.2=none)->fH ms (E.drop n)=some us->Bk K H' Hm' as us:=by
 induction h with
 |nil=>intro n us _ e;cases e;exact .nil
 |@sh ms vs ds as v d r _ ih=>
  intro n us hq e;cases hE:E.drop n with
  |nil=>rw[hE]at e;cases e
  |cons o E'=>rw[hE]at e;refine ih (n:=n+1) hq ?_;rw[show E.drop (n+1)=E' from by rw[<-List.tail_drop,hE];rfl];exact e
 |@mu ms vs ds as a xs es g1 g2 g3 g4 _ ih=>
  intro n us hq e;obtain⟨es',xs',e1,e2,e3,e4⟩:=hq (n,a) Q6;cases hE:E.drop n with
  |nil=>rw[hE]at e;cases e
  |cons o E'=>
   have ho:o=some (.ow true,.list es'):=by have:=Vh (xs:=E) (i:=n) (j:=0);rw[hE,Ux]at this;have e1:E[n]?=_:=e1;rw[e1]at this;exact Option.some.inj this
   subst ho;rw[hE]at e;have e:(fH ms E').map (PyData.list es'::·)=some us:=e;cases hb:fH ms E' with
   |none=>rw[hb]at e;cases e
   |some us'=>rw[hb]at e;cases e;refine .cons e2 e3 e4 (ih (n:=n+1) (λq hq'=>hq q (QU _ hq')) ?_);rw[show E.drop (n+1)=E' from by rw[<-List.tail_drop,hE];rfl];exact hb
def EB{n:Nat}(h:n<=U.length):sel (List.range n) U=U.take n:=by
 refine T4 λi=>?_;unfold sel;rw[R8,List.getElem?_take];by_cases c:i<n
 .rw[Ry c,if_pos c];have l:i<U.length:=by lia
  rw[RI l];show some ((U[i]?).join)=some U[i];rw[RI l];rfl
 rw[if_neg c,Rk (by rw[RB];lia)];rfl
def Ag.rl(h:Ag K H Hm ms vs ds as)(s:af Hm H) (m:Nat):Rl K ⟨H,Hm,fJ ms 0 as⟩ (ini ms ds++List.replicate m none) (vs.map some++List.replicate m none) H Hm (λi=>(gx ms as)[i]?.getD []):=by
 have hM:Gh.M ⟨H,Hm,fJ ms 0 as⟩=as:=h.pins 0;have inE:∀{i:Nat}{k:Kd}{d:PyData},(ini ms ds++List.replicate m none)[i]?=some (some (k,d))->(ini ms ds)[i]?=some (some (k,d)):=λ{i k d} e=>by rcases Rh i (ini ms ds).length with l|l;{rwa[Sl l]at e};rw[T5 l]at e;have:=RD e;have:=List.eq_of_mem_replicate this;cases this
 have D5:∀{i:Nat}{v:V},vs[i]?=some v->(vs.map some++List.replicate m none)[i]?=some (some v):=λ{i v} e=>by have l:=bX e;rw[Sl (by rw[Q7];exact l),R8,e];rfl
 exact {
  len:=by rw[RC,RC,h.Qa,Q7,Sm,Sm]
  sub:=s
  slot:=λi k d e=>by
   obtain⟨v,h1,h2⟩:=h.slot (inE e);exact⟨v,D5 h1,h2⟩
  off:=λi a ha=>(h.Ih.1 i a ha).2.1
  bu:=λi a ha=>by
   obtain⟨_,_,xs,e⟩:=h.Ih.1 i a ha;exact⟨_,e,lO⟩
  aQ:=λi j a h1 h2=>h.Ih.2 i j a h1 h2
  fr:=λp o _ e=>e
  new:=λi a ha=>.inl (by rw[hM];exact(h.Ih.1 i a ha).1)
  pin:=λq hq=>by
   obtain⟨i,e,h1,es,h2⟩:=h.pin 0 q hq;rw[SN]at e;rw[e];refine⟨D5 h1,es,?_⟩;rw[Sl (bX h2)];exact h2
  old:=λ_ _=>.inl rfl }
end
section
variable{P:Program}{w:World}{K:Frag}{mg:WC}{base:Heap}
noncomputable def cM (ms:WV)(Q:WN->Kd->PyData->Prop)(x:XC):iA where
 nx:=λE=>aD (fH ms E) λus=>Q us .sh .none
 rt:=λE k v=>aD (fH ms E) λus=>Q us k v
 xc:=x
def fF{f:Addr}{N ps:Wb}{k:Nat}{ms:WV}{sp:dS}{d:DS}{m:Nat}(F:lU K x qual st f fd)(S:bD N ps (av st))(hl:ms.length=ps.length)(hm:N.length<=ps.length+m)(hb:∀(cdv:Value)(A:Around)(outer:List Env)(s:Shared)(H:Hp)(Ex:XK),cC k (A.deeper (PyProof.Rows.envOfC qual (av st) s.heap.objs.size f cdv))->SS (c8 (cH P w) P w K mg base N qual (av st) f cdv A outer s H Ex) Ex (eK st) d)(hd:∀(ds:WN)(Q:WN->Kd->PyData->Prop)(x:XC),sp ds Q x->d (cM ms Q x) (ini ms ds++List.replicate m none)):dX P w K mg base (cH P w) (k+1) f fd ps (eO mg K ms sp):=by
 refine F.IM S (λvs H Q E h=>?_) (λcdv A outer s H vs Q E hr h=>?_);{obtain⟨ds,as,Hm,P',x,_,ag,_⟩:=h;rw[ag.yu,hl]};obtain⟨ds,as,Hm,P',xc,sm,ag,hsp,ret,exn⟩:=h;refine⟨_,gZ,?_⟩;have R:=ag.rl sm m;have hpre:N.length >= vs.length:=by rw[ag.yu,hl];have:=congrArg List.length S.pre;rw[S9]at this;lia
 have hsel:L2.start N vs=sel (List.range N.length) (vs.map some++List.replicate m none):=by
  have hv:vs.length=ps.length:=by rw[ag.yu,hl]
  rw[EB (by rw[RC,Q7,Sm];lia)];unfold L2.start;rw[List.take_append,Q7,TM (by rw[Q7];exact hpre),List.take_replicate];congr 2;lia
 rw[hsel];have hM:Gh.M ⟨H,Hm,fJ ms 0 as⟩=as:=ag.pins 0;have fin:∀{E':En}{k:Kd}{v:PyData}{u:V}{σ':St}{H' Hm':Hp}{F':Nat->WU}{fp:WU},(aD (fH ms E') λus=>P' us k v)->Rl K ⟨H,Hm,fJ ms 0 as⟩ E' σ' H' Hm' F'->Tm K ⟨H,Hm,fJ ms 0 as⟩ F' H' Hm' k u v fp->Q u H':=by
  intro E' k v u σ' H' Hm' F' fp p R' T;rw[<-bg]at p;obtain⟨us,hus,p⟩:=p;refine ret us k v u H' Hm' fp p (λa o e=>?_) R'.sub (λp o hp e=>R'.fr p o (by rw[hM];exact hp) e) (λa _ ha=>R'.old a ha) ?_ T.own λa ha=>⟨T.new a ha,T.off a ha⟩
  .have:H a≠none:=λz=>by rw[sm _ _ e]at z;cases z
   rcases R'.old a this with e'|⟨e',_⟩;{exact e'.trans e};have e':Hm a=none:=e';rw[e]at e';cases e'
  refine ag.back (E:=E') (n:=0) (λq hq=>?_) (by rw[V7];exact hus);obtain⟨h1,es,h2⟩:=R'.pin q hq;obtain⟨v',h3,h4⟩:=R'.slot _ _ _ h2;have hF:=R'.BX hq;rw[h1]at h3;cases h3;rw[hF]at h4;cases h4 with
  |ow e1 e2=>exact⟨es,_,h2,e1,e2,R'.off q.1 q.2 (by rw[hF];exact Q6)⟩
 refine hb cdv A outer s H E hr ⟨H,Hm,fJ ms 0 as⟩ (cM ms P' xc) _ _ H Hm _ _ (λc d' C a H' hC hx fr ha hn=>exn c d' C a H' hC hx (λp o hp ho=>fr p o (by rw[hM];exact hp) ho) ha hn) R (hd ds P' xc hsp) (λE' σ' H' Hm' F' p R' _=>?_) (λE' k v u σ' H' Hm' F' fp p R' T=>fin p R' T);exact fin (k:=.sh) (v:=.none) (u:=.aK) p R' (Tm.sh .aK)
end
section
variable{X:Cx}{Ex:XK}{Y:WZ}
def xI{i:Int} {j}:SE X Ex Y (.Constant (.int i) j pos) (dC (.int i)):=Cc kg λ_=>.int i
def xS{j}:SE X Ex Y (.Constant (.str x) j pos) (dC (.str x)):=Cc jr λ_=>.str x
def xB{b:Bool} {j}:SE X Ex Y (.Constant (.bool b) j pos) (dC (.bool b)):=Cc Oe λ_=>.bl b
def xN{j}:SE X Ex Y (.Constant .none j pos) (dC .none):=Cc sR λ_=>.aK
def xV(j:Nat){i:Nat}(hN:X.N[j]?=some x:=by rfl)(hv:j8 X.env.scope x:=by first|exact Or.inl rfl|exact Or.inr (Or.inl rfl)|exact Or.inr (Or.inr rfl))(hj:Y[j]?=some i:=by rfl)(hd:(x==("__debug__":Str))=false:=by decide)(hcd:(x==("__classdict__":Str))=false:=by decide):SE X Ex Y (.Name x pos) (cy i):=LU (fK hN hv hd hcd) hj
def a0:aV X Ex Y [] []:=.nil
def aP(j:Nat){i:Nat}(S:aV X Ex Y es as)(hN:X.N[j]?=some x:=by rfl)(hv:j8 X.env.scope x:=by first|exact Or.inl rfl|exact Or.inr (Or.inl rfl)|exact Or.inr (Or.inr rfl))(hj:Y[j]?=some i:=by rfl)(hd:(x==("__debug__":Str))=false:=by decide)(hcd:(x==("__classdict__":Str))=false:=by decide):aV X Ex Y (.Name x pos::es) (.pk i::as):=.pk (fK hN hv hd hcd) hj S
def aE(h:SE X Ex Y e d)(S:aV X Ex Y es as):aV X Ex Y (e::es) (.ev d::as):=.ev h S
def i7:DR:=mY λi j=>.int (i-j)
def qR:DR:=v8 (λ_ j=>0<j) λi j=>.int (i%j)
def F8:DR:=v8 AU λi j=>.int (i/j)
def rB:DR:=v8 uf λi j=>.int (i^j.toNat)
def sI:DR:=mY λi j=>.bool (decide (i<j))
def Qk:DR:=mY λi j=>.bool (decide (i<=j))
def vz:DR:=mY λi j=>.bool (decide (j<i))
def IB:DR:=mY λi j=>.bool (decide (j<=i))
noncomputable def iP:DR:=λds P=>match ds with
 |[.int a]=>P .sh (.int (-a))
 |_=>False
def Jo:c9 K iP (r1 (rU λi=>.int (-i))):=by intro H Hm vs ds P Q s r h q;unfold iP at h;split at h;{obtain⟨x,rfl,h1⟩:=fR r;cases h1;exact⟨_,rfl,bO.sc q s h (.int _)⟩};exact h.elim
variable{a b:Expr}{pos:Pos}{as:List Arg}
def gE(S:aV X Ex Y [a,b] as):SE X Ex Y (.BinOp a .Add b pos) (aa dW as):=lY JC JF S
def mK(S:aV X Ex Y [a,b] as):SE X Ex Y (.BinOp a .Sub b pos) (aa i7 as):=lY MR (kK λ_ _ _=>.int _) S
def mW(S:aV X Ex Y [a,b] as):SE X Ex Y (.BinOp a .Mult b pos) (aa iC as):=lY KI KC S
def wz(S:aV X Ex Y [a,b] as):SE X Ex Y (.BinOp a .Mod b pos) (aa qR as):=lY LH (uJ λ_ _ _=>.int _) S
def PU(S:aV X Ex Y [a,b] as):SE X Ex Y (.BinOp a .FloorDiv b pos) (aa F8 as):=lY GO (uJ λ_ _ _=>.int _) S
def xP(S:aV X Ex Y [a,b] as):SE X Ex Y (.BinOp a .Pow b pos) (aa rB as):=lY Ml (uJ λ_ _ _=>.int _) S
def nG(S:aV X Ex Y [a] as):SE X Ex Y (.UnaryOp .USub a pos) (aa iP as):=OD D6 Jo S
def QD(S:aV X Ex Y [a,b] as):SE X Ex Y (.Compare a [.Lt] [b] pos) (aa sI as):=Mr BE (fV _) (kK λ_ _ _=>.bl _) S
def Dw(S:aV X Ex Y [a,b] as):b8 X Ex Y (.Compare a [.Lt] [b] pos) (aa sI as):=ie BE (fV _) (kK λ_ _ _=>.bl _) S
def zP(S:aV X Ex Y [a,b] as):b8 X Ex Y (.Compare a [.Gt] [b] pos) (aa vz as):=ie Og (fV _) (kK λ_ _ _=>.bl _) S
def OR(S:aV X Ex Y [a,b] as):b8 X Ex Y (.Compare a [.GtE] [b] pos) (aa IB as):=ie IG (fV _) (kK λ_ _ _=>.bl _) S
def jt(hu:X.A.units+64<cLine)(S:aV X Ex Y [a,b] as):b8 X Ex Y (.Compare a [.Eq] [b] pos) (aa f9 as):=ie (Nt hu) (fV _) Mx S
def IS(hu:X.A.units+64<cLine)(S:aV X Ex Y [a,b] as):b8 X Ex Y (.Compare a [.NotEq] [b] pos) (aa pH as):=ie (MH hu) (fV _) M1 S
def QH(S:aV X Ex Y [a,b] as):b8 X Ex Y (.Compare a [.Is] [b] pos) (aa (fc false) as):=ie K9 (fV _) J9 S
def zL(hu:X.A.units+64<cLine)(S:aV X Ex Y [a,b] as)(hm:behindInMarks .In b=false:=by rfl):b8 X Ex Y (.Compare a [.In] [b] pos) (aa (dF false) as):=ie (Mb hu) hm (Ac false) S
def BQ(hu:X.A.units+64<cLine)(S:aV X Ex Y [a,b] as)(hm:behindInMarks .NotIn b=false:=by rfl):b8 X Ex Y (.Compare a [.NotIn] [b] pos) (aa (dF true) as):=ie (CN hu) hm (Ac true) S
def tV(j:Nat){i:Nat}(hN:X.N[j]?=some x:=by rfl)(hv:j8 X.env.scope x:=by first|exact Or.inl rfl|exact Or.inr (Or.inl rfl)|exact Or.inr (Or.inr rfl))(hj:Y[j]?=some i:=by rfl)(hd:(x==("__debug__":Str))=false:=by decide)(hcd:(x==("__classdict__":Str))=false:=by decide):ST X Ex Y (.Name x pos) (HU i):=Po (fK hN hv hd hcd) hj λ_=>rfl
def cP(hu:X.A.units+64<cLine)(S:aV X Ex Y [a,b] as)(hs:mJ b:=by intro _ _;rfl):SE X Ex Y (.Subscript a b pos) (aa aW as):=NN (Pp hu) hs JP S
variable{p:Pos}
def pF(hm:X.mg "len"=none)(S:aV X Ex Y [a] as)(hg:Gl X "len":=by rfl)(ns:noStar a=true:=by rfl):SE X Ex Y (.Call (.Name "len" p) [a] [] pos) (aa gc as):=ko (wH.or Cm) Fq hg hm PySem.boot_len (by decide) (by decide) (by rw[QY,ns];rfl) S
def Ig(hm:X.mg "list"=none)(S:aV X Ex Y [a] as)(hg:Gl X "list":=by rfl)(ns:noStar a=true:=by rfl):SE X Ex Y (.Call (.Name "list" p) [a] [] pos) (aa nv as):=pI we F7 hg hm PyProof.Rows.boot_list (by decide) (by decide) (by rw[QY,ns];rfl) S
def yg(hm:X.mg "tuple"=none)(S:aV X Ex Y [a] as)(hg:Gl X "tuple":=by rfl)(ns:noStar a=true:=by rfl):SE X Ex Y (.Call (.Name "tuple" p) [a] [] pos) (aa jy as):=pI oi D8 hg hm PyProof.Rows.boot_tuple (by decide) (by decide) (by rw[QY,ns];rfl) S
def Fw(hm:X.mg "min"=none)(S:aV X Ex Y [a,b] as)(hc:X.calm=true:=by rfl)(hg:Gl X "min":=by rfl)(ns:noStar a=true:=by rfl)(ns2:noStar b=true:=by rfl):SE X Ex Y (.Call (.Name "min" p) [a,b] [] pos) (aa sF as):=ko (uY hc) IF hg hm PyProof.Rows.boot_min (by decide) (by decide) (by rw[QY,QY,ns,ns2];rfl) S
def G0(hm:X.mg "max"=none)(S:aV X Ex Y [a,b] as)(hc:X.calm=true:=by rfl)(hg:Gl X "max":=by rfl)(ns:noStar a=true:=by rfl)(ns2:noStar b=true:=by rfl):SE X Ex Y (.Call (.Name "max" p) [a,b] [] pos) (aa r9 as):=ko (uU hc) IF hg hm PyProof.Rows.boot_max (by decide) (by decide) (by rw[QY,QY,ns,ns2];rfl) S
def Pf(hm:X.mg "abs"=none)(S:aV X Ex Y [a] as)(hg:Gl X "abs":=by rfl)(ns:noStar a=true:=by rfl):SE X Ex Y (.Call (.Name "abs" p) [a] [] pos) (aa wQ as):=ko Fe Kr hg hm PyProof.Rows.boot_abs (by decide) (by decide) (by rw[QY,ns];rfl) S
def P0(hm:X.mg "int"=none)(S:aV X Ex Y [a] as)(hg:Gl X "int":=by rfl)(ns:noStar a=true:=by rfl):SE X Ex Y (.Call (.Name "int" p) [a] [] pos) (aa mF as):=pI CY Ck hg hm PyProof.Rows.boot_int (by decide) (by decide) (by rw[QY,ns];rfl) S
def Df(hm:X.mg "sorted"=none)(S:aV X Ex Y [a] as)(hg:Gl X "sorted":=by rfl)(ns:noStar a=true:=by rfl):SE X Ex Y (.Call (.Name "sorted" p) [a] [] pos) (aa ou as):=ko wM EO hg hm PyProof.Rows.boot_sorted (by decide) (by decide) (by rw[QY,ns];rfl) S
def Mz(h1:X.mg "list"=none)(h2:X.mg "range"=none)(S:aV X Ex Y [a] as)(hc:X.calm=true:=by rfl)(g1:Gl X "list":=by rfl)(g2:Gl X "range":=by rfl)(ns:noStar a=true:=by rfl):SE X Ex Y (.Call (.Name "list" p) [.Call (.Name "range" p2) [a] [] pos2] [] pos) (aa lX as):=G9 hc g1 h1 g2 h2 ns S
def dU(S:aV X Ex Y es as)(ns:es.all noStar=true:=by rfl):SE X Ex Y (.List es pos) (aa cV as):=KO ns S
def bZ{k:Nat}(S:aV X Ex Y es as)(ns:es.all noStar=true:=by rfl):SE X Ex Y (.Tuple es k pos) (aa cY as):=LY ns S
variable{tg:Expr}
def l6(hm:X.mg "range"=none)(S:aV X Ex Y [a] as)(hg:Gl X "range":=by rfl)(ns:noStar a=true:=by rfl):SI X Ex Y tg (.Call (.Name "range" p) [a] [] pos) (f7 ju as):=Oo hg hm ns S
def DX(hm:X.mg "range"=none)(S:aV X Ex Y [a,b] as)(hg:Gl X "range":=by rfl)(ns:noStar a=true:=by rfl)(ns2:noStar b=true:=by rfl):SI X Ex Y tg (.Call (.Name "range" p) [a,b] [] pos) (f7 sr as):=Of hg hm ns ns2 S
def M0{x1:Nat}(hm:X.mg "enumerate"=none)(h:SE X Ex Y a d)(hg:Gl X "enumerate":=by rfl)(ns:noStar a=true:=by rfl):SI X Ex Y (.Tuple elts x1 tp) (.Call (.Name "enumerate" p) [a] [] pos) (wU d):=NL hg hm ns h
def gN(j:Nat){i:Nat}(hN:X.N[j]?=some x:=by rfl)(hj:Y[j]?=some i:=by rfl)(hl:Loc X.env.scope x:=by first|exact Or.inl rfl|exact Or.inr rfl)(hf:X.fn x=true\/X.env.scope.names.lookup x=some .local:=by first|exact Or.inl rfl|exact Or.inr rfl):gS X Y (.Name x p) (.nm i):=.nm hN hj hl hf
def g0:kJ X Y [] []:=.nil
def gC(j:Nat){i:Nat}(t:kJ X Y ts is)(hN:X.N[j]?=some x:=by rfl)(hj:Y[j]?=some i:=by rfl)(hl:Loc X.env.scope x:=by first|exact Or.inl rfl|exact Or.inr rfl)(hf:X.fn x=true\/X.env.scope.names.lookup x=some .local:=by first|exact Or.inl rfl|exact Or.inr rfl):kJ X Y (.Name x p::ts) (i::is):=.cons hN hj hl hf t
def gT{k:Nat}(t:kJ X Y ts is):gS X Y (.Tuple ts k p) (.tp is):=.tp t
def BF:Passes (cH X.prog X.w) X E0:=by rintro pins U H s e s' I⟨_,_,_,_,_,_,_,_,_,_,_,_,_,_,_,z⟩;exact z.elim
def aN{k k':Nat}(F:dB X.prog X.w X.K X.mg X.base k x ps (eO X.mg X.K ms sp))(hp:Passes (cH X.prog X.w) X Ex)(hr:cC k' X.A)(S:aV X Ex Y (e::es) as)(hk:k<=k':=by decide)(hg:Gl X x:=by rfl)(hd:(x==("__debug__":Str))=false:=by decide)(ns:(e::es).all noStar=true:=by rfl):SE X Ex Y (.Call (.Name x p) (e::es) [] pos) (aM sp ms as):=JE F hp (hr.mono hk) hg hd ns S
def jH(h:SE X Ex (aT X) a d):S1 X Ex (.Return (some a) pos) (gY d):=Ou h
def mQ(i:Nat)(hN:X.N[i]?=some x:=by rfl)(hv:j8 X.env.scope x:=by first|exact Or.inl rfl|exact Or.inr (Or.inl rfl)|exact Or.inr (Or.inr rfl))(hd:(x==("__debug__":Str))=false:=by decide)(hcd:(x==("__classdict__":Str))=false:=by decide):S1 X Ex (.Return (some (.Name x p)) pos) (jj i):=LJ (fK hN hv hd hcd) (bX hN)
def dR(h:SE X Ex (aT X) a d)(hs:swapsWith a none pos.line X.env=pure false:=by rfl):S1 X Ex (.Expr a pos) (cO d):=LQ h hs
def aZ(i:Nat)(hN:X.N.Nodup)(h:SE X Ex (aT X) a d)(hi:X.N[i]?=some x:=by rfl)(hl:Loc X.env.scope x:=by first|exact Or.inl rfl|exact Or.inr rfl)(hs:swapsWith a (some (.Name x p)) pos.line X.env=pure false:=by rfl)(hf:X.fn x=true\/X.env.scope.names.lookup x=some .local:=by first|exact Or.inl rfl|exact Or.inr rfl) : S1 X Ex (.Assign [.Name x p] a pos) (aL i d):=NR hN hi hl hs hf h
def Py{k:Nat}(hN:X.N.Nodup)(ht:kJ X (aT X) ts is)(h:SE X Ex (aT X) a d)(hc:X.calm=true:=by rfl)(hs:swapsWithSole [.Tuple ts k p] a pos.line X.env=pure false:=by rfl)(hw:swappedStores [.Tuple ts k p] a X.env=pure none:=by rfl):S1 X Ex (.Assign [.Tuple ts k p] a pos) (Ba is d):=Oq hc hN ht hs hw h
def oq(i:Nat)(hu:X.A.units+64<cLine)(hd:SE X Ex (aT X) a de)(hd2:SE X Ex (aT X) b dj)(hN:X.N[i]?=some x:=by rfl)(hv:j8 X.env.scope x:=by first|exact Or.inl rfl|exact Or.inr (Or.inl rfl)|exact Or.inr (Or.inr rfl))(hs:swapsWithSole [.Subscript (.Name x p) b pos'] a pos.line X.env=pure false:=by rfl)
  (ha:∀v,assign (.Subscript (.Name x p) b pos') X.env v=(do
   let ov <-holding [v] (eval (.Name x p) X.env)
   let iv <-holding [v,ov] (eval b X.env)
   standAt pos'
   holding [v,ov,iv] (setItem ov iv v)
   release [v,ov,iv] []):=by intro _;rfl)(hb:(x==("__debug__":Str))=false:=by decide)(hcd:(x==("__classdict__":Str))=false:=by decide):S1 X Ex (.Assign [.Subscript (.Name x p) b pos'] a pos) (fP i dj de):=NH hu (fK hN hv hb hcd) (l9 (bX hN)) hs ha hd hd2
def fM(hc:ST X Ex (aT X) a t)(ha:SS X Ex u d)(hb:SS X Ex v e):S1 X Ex (.If a u v pos) (b5 t d e):=Qd hc ha hb
def MC(hp:PassesOwn (model X.prog X.w) X.A X.env X.xe)(hc:ST X Ex (aT X) a t)(hb:SS X Ex u d):S1 X Ex (.While a u [] pos) (yw t d):=Jc hp hc hb
def fE(hp:PassesOwn (model X.prog X.w) X.A X.env X.xe)(hN:X.N.Nodup)(hi:SI X Ex (aT X) tg a di)(ht:gS X (aT X) tg t)(hb:SS X Ex u d)(hc:X.calm=true:=by rfl)(hs:∀x,foldedSetIterable a X.env x=pure x:=by intro _;rfl):S1 X Ex (.For tg a u [] pos) (dJ di t d):=N2 hp hc hN hi ht hb hs
end
section
variable{X:Cx}{Ex:XK}{Y:WZ}
def e0:qv X Ex Y [] []:=.nil
def eC(h:SE X Ex Y e d)(t:qv X Ex Y es ds):qv X Ex Y (e::es) (d::ds):=.cons h t
def xM(j:Nat){i:Nat}{x name:Str}{id:String}{p apos cpos:Pos}{es:WX}{ds:List DE}{f:DM}{r:V->List V->Hp->VK->Prop}(hm:nV X id r)(D:vj X.K f r)(slot:Slot "list" name id)(hty:typeOf (.builtin id)=pure (.type "method_descriptor"))(S:qv X Ex Y es ds)(hN:X.N[j]?=some x:=by rfl)(hv:j8 X.env.scope x:=by first|exact Or.inl rfl|exact Or.inr (Or.inl rfl)|exact Or.inr (Or.inr rfl))(hj:Y[j]?=some i:=by rfl)(ns:es.all noStar=true:=by rfl)(l30:decide (es.length<30)=true:=by rfl)(hline:(apos.endLine==cpos.line)=true:=by rfl)(hd:(x==("__debug__":Str))=false:=by decide)(hcd:(x==("__classdict__":Str))=false:=by decide):SE X Ex Y (.Call (.Attribute (.Name x p) name apos) es [] cpos) (gK f i ds):=Oj hm D slot hty (fK hN hv hd hcd) hj ns (RN l30) hline S
def kL:WZ->Bool
 |[]=>true
 |a::r=>!r.contains a&&kL r
theorem iu:∀{l:WZ},kL l=true->l.Nodup
 |[],_=>Rz
 |a::r,h=>by rw[kL,Q9,UY,UA,VC]at h;exact RX.mpr ⟨h.1,iu h.2⟩
noncomputable def yf (Y cs ix:WZ)(vs:Wb)(sl:WZ):Bool:=(cs.length==vs.length)&&ix.all (λi=>Nat.blt i Y.length)&&cs.all (λc=>!Y.contains c)&&kL (cu Y cs ix)&&sl.all (λi=>cs.contains i)
def wo(h:yf Y cs ix vs sl=true):cs.length=vs.length/\(∀i∈ix,i<Y.length)/\(∀c∈cs,c∉Y)/\(cu Y cs ix).Nodup/\∀i∈sl,i∈cs:=by unfold yf at h;rw[Q9,Q9,Q9,Q9,QW,QW,QW,beq_iff_eq]at h;obtain⟨⟨⟨⟨h1,h2⟩,h3⟩,h4⟩,h5⟩:=h;refine⟨h1,λi hi=>by simpa using h2 i hi,λc hc z=>?_,iu h4,λi hi=>?_⟩;{have:=h3 c hc;rw[UY,UA,VC]at this;exact this z};have:=h5 i hi;rw[UA,Sf]at this;exact this
def K0 (r:WB):Bool:=r.all λg=>g.is_async==0
def DV(h:K0 r=true):∀g∈r,g.is_async=0:=λg hg=>by have:=QW.mp h g hg;simpa using this
variable{cs:WZ}{elt tg iter:Expr}{ifs:WX}{scope:Scope}{pos:Pos}
def Bl{rest:WB}{vs NB:Wb}{ix:WZ}{di:DI}{t:Tg}{c:DT}{r:DC}(B:mD X.N X.env.scope scope vs NB ix=true)(hi:SI X Ex Y tg iter di)(ht:∀(C:Addr)(s:Shared)(H:Hp)(fp:WU),gS (X.block scope C NB s H fp) (cu Y cs ix) tg t)(hif:∀(C:Addr)(s:Shared)(H:Hp)(fp:WU),kN (X.block scope C NB s H fp) E0 (cu Y cs ix) ifs c)(hr:∀(C:Addr)(s:Shared)(H:Hp)(fp:WU)(D:Addr),SL (X.block scope C NB s H fp) (cu Y cs ix) cs D elt (⟨tg,iter,ifs,0⟩::rest) scope pos 1 r)(hc:X.calm=true:=by rfl)(ck:yf Y cs ix vs t.slots=true:=by rfl)(ha:K0 rest=true:=by rfl)(hs:∀v,foldedSetIterable iter X.env v=pure v:=by intro _;rfl):SE X Ex Y (.ListComp elt (⟨tg,iter,ifs,0⟩::rest) scope pos) (fD cs di t c r):=
 let⟨h1,h2,h3,h4,h5⟩:=wo ck
 Mt (cE.of B) hc h1 h2 h3 h4 hi ht h5 hif hr (DV ha) hs
def BR{j:Nat}{y:Str}{py spos:Pos}{rest:WB}{vs NB:Wb}{ix:WZ}{di:DI}{t:Tg}{c:DT}{r:DC}(hN:X.N.Nodup)(B:mD X.N X.env.scope scope vs NB ix=true)(hi:SI X Ex (aT X) tg iter di)(ht:∀(C:Addr)(s:Shared)(H:Hp)(fp:WU),gS (X.block scope C NB s H fp) (cu (aT X) cs ix) tg t)(hif:∀(C:Addr)(s:Shared)(H:Hp)(fp:WU),kN (X.block scope C NB s H fp) E0 (cu (aT X) cs ix) ifs c)(hr:∀(C:Addr)(s:Shared)(H:Hp)(fp:WU)(D:Addr),SL (X.block scope C NB s H fp) (cu (aT X) cs ix) cs D elt (⟨tg,iter,ifs,0⟩::rest) scope pos 1 r)(hj:X.N[j]?=some y:=by rfl)(hy:X.env.scope.names.lookup y=some .local:=by rfl)(hsw:swapsWith (.ListComp elt (⟨tg,iter,ifs,0⟩::rest) scope pos) (some (.Name y py)) spos.line X.env=pure true:=by rfl)(hc:X.calm=true:=by rfl)(ck:yf (aT X) cs ix vs t.slots=true:=by rfl)(ha:K0 rest=true:=by rfl)(hs:∀v,foldedSetIterable iter X.env v=pure v:=by intro _;rfl):S1 X Ex (.Assign [.Name y py] (.ListComp elt (⟨tg,iter,ifs,0⟩::rest) scope pos) spos) (aL j (fD cs di t c r)):=
 let⟨h1,h2,h3,h4,h5⟩:=wo ck
 NX hN hj hy (cE.of B) hc h1 h2 h3 h4 hi ht h5 hif hr (DV ha) hs hsw
def lg{D:Addr}{k:Nat}(h:SE X E0 Y elt d)(hk:gens[k]?=none:=by rfl):SL X Y cs D elt gens scope pos k (eF sizeLine d):=Kh h hk
noncomputable def xO:PyData->Option String
 |.none=>some "NoneType"
 |.bool _=>some "bool"
 |.int _=>some "int"
 |.str _=>some "str"
 |.list _=>some "list"
 |.tuple _=>some "tuple"
 |.dict _=>none
def lG (c t:String):Bool:=t==c||(c == "int" && t == "bool")
noncomputable def QB (c:String):DR:=λds P=>match ds with
 |[d]=>aD (xO d) λt=>P .sh (.bool (lG c t))
 |_=>False
end
end Dv
namespace Dv
open PySem L2 PySem.W
open Classical in
noncomputable def Gh.ff (g:Gh)(H:Hp)(fp:WU):Gh:=⟨λa=>if a∈fp then H a else g.H0 a,λa=>if a∈fp then none else g.iM a,g.pins⟩
section
variable{K:Frag}{g:Gh}{E:En}{U:St}{H H' Hm Hm':Hp}{F:Nat->WU}{fp:WU}
def jW{a:Addr}(h:a∈fp):(g.ff H fp).H0 a=H a:=by unfold Gh.ff;exact if_pos h
def fB{a:Addr}(h:a∉fp):(g.ff H fp).H0 a=g.H0 a:=by unfold Gh.ff;exact if_neg h
def ES{a:Addr}(h:a∈fp):(g.ff H fp).iM a=none:=by unfold Gh.ff;exact if_pos h
def Az{a:Addr}(h:a∉fp):(g.ff H fp).iM a=g.iM a:=by unfold Gh.ff;exact if_neg h
structure mC(g:Gh)(F:Nat->WU)(H Hm:Hp)(fp:WU):Prop where
 Ao:∀a∈fp,∃u,H a=some u/\oN u
 off:∀a∈fp,Hm a=none
 aQ:∀a∈fp,∀i,a∉F i
 new:∀a∈fp,g.H0 a=none
def mC.bu(A:mC g F H Hm fp):∀a∈fp,H a≠none:=λa ha z=>by obtain⟨u,hu,_⟩:=A.Ao a ha;rw[z]at hu;cases hu
def mC.notM(A:mC g F H Hm fp)(R:Rl K g E U H Hm F):∀a∈fp,a∉g.M:=λa ha m=>by obtain⟨q,hq,rfl⟩:=Q8.mp m;exact A.aQ _ ha q.1 (by rw[R.BX hq];exact Q6)
theorem Rl.ff(R:Rl K g E U H Hm F)(A:mC g F H Hm fp):Rl K (g.ff H fp) E U H Hm F where
 len:=R.len
 sub:=R.sub
 slot:=R.slot
 off:=R.off
 bu:=R.bu
 aQ:=R.aQ
 fr:=λp o hp ho=>by
  by_cases c:p∈fp
  .rw[jW c]at ho;exact ho
  .rw[fB c]at ho;exact R.fr p o hp ho
 new:=λi a ha=>by
  have c:a∉fp:=λz=>A.aQ a z i ha
  rw[fB c];exact R.new i a ha
 pin:=R.pin
 old:=λa ha=>by
  by_cases c:a∈fp
  .rw[ES c];exact .inl (A.off a c)
  .rw[fB c]at ha;rw[Az c];exact R.old a ha
def Rl.tE{F':Nat->WU}(A:mC g F H Hm fp)(nM:∀a∈fp,a∉g.M)(R:Rl K (g.ff H fp) E' σ' H' Hm' F'):Rl K g E' σ' H' Hm' F'/\mC g F' H' Hm' fp/\∀a∈fp,H' a=H a:=by
 have keep:∀a∈fp,H' a=H a:=λa ha=>by
  cases e:H a with
  |none=>exact absurd e (A.bu a ha)
  |some o=>exact R.fr a o (nM a ha) (by rw[jW ha];exact e)
 refine⟨?_,⟨λa ha=>by rw[keep a ha];exact A.Ao a ha,λa ha=>?_,λa ha i z=>?_,A.new⟩,keep⟩
 .exact {
   len:=R.len
   sub:=R.sub
   slot:=R.slot
   off:=R.off
   bu:=R.bu
   aQ:=R.aQ
   fr:=λp o hp ho=>by
    have c:p∉fp:=λz=>by rw[A.new p z]at ho;cases ho
    exact R.fr p o hp (by rw[fB c];exact ho)
   new:=λi a ha=>by
    rcases R.new i a ha with m|m
    .exact .inl m
    .by_cases c:a∈fp
     .exact .inr (A.new a c)
     .rw[fB c]at m;exact .inr m
   pin:=R.pin
   old:=λa ha=>by
    have c:a∉fp:=λz=>ha (A.new a z)
    have h':=R.old a (by rw[fB c];exact ha)
    rw[Az c]at h';exact h' }
 .have h':=R.old a (by rw[jW ha];exact A.bu a ha);obtain⟨u,hu,nt⟩:=A.Ao a ha;exact h'.off (ES ha) R.sub (by rw[keep a ha];exact hu) nt
 rcases R.new i a z with m|m;{exact nM a ha m};rw[jW ha]at m;exact A.bu a ha m
theorem XL.ff(A:mC g F H Hm fp)(h:XL X Ex x g):XL X Ex x (g.ff H fp):=λc d C a H' hC hx fr ha hn=>by
 have c0:a∉fp:=λz=>by rw[jW z]at hn;exact A.bu a z hn
 refine h c d C a H' hC hx (λp o hp ho=>fr p o hp ?_) ha (by rw[fB c0]at hn;exact hn);have c:p∉fp:=λz=>by rw[A.new p z]at ho;cases ho
 rw[fB c];exact ho
def eB.snoc{b:Addr}(e:H b=some (.lst ys))(r:au K Hm ys es)(i:eB K H Hm xs ds fp):b∉fp->eB K H Hm (xs++[.ref b]) (ds++[.list es]) (fp++[b]):=by
 induction i with
 |nil=>exact λn=>.own e r n .nil
 |kD h1 h2 t ih=>exact λn=>.kD h1 h2 (ih n)
 |own h1 h2 h3 t ih=>intro n;refine .own h1 h2 (λz=>?_) (ih λz=>n (QU _ z));rcases R7.mp z with z|z;{exact h3 z};exact n (QS.mp z▸Q6)
theorem eB.get:∀{xs:List V}{ds:WN}{fp:WU}{m:Nat},eB K H Hm xs ds fp->ds[m]?=some (.list es)->∃b ys,xs[m]?=some (.ref b)/\H b=some (.lst ys)/\au K Hm ys es/\b∈fp
 |_,_,_,_,.nil,h=>by simp at h
 |_,_,_,0,.kD e _ _,h=>by simp at h;rw[h]at e;cases e
 |_,_,_,m+1,.kD _ _ t,h=>t.get (m:=m) (by simpa using h)
 |_,_,_,0,.own e r _ _,h=>by simp at h;subst h;exact⟨_,_,rfl,e,r,Q6⟩
 |_,_,_,m+1,.own _ _ _ t,h=>by obtain⟨b,ys,h1,h2,h3,h4⟩:=t.get (m:=m) (by simpa using h);exact⟨b,ys,h1,h2,h3,QU _ h4⟩
theorem eB.put{b:Addr}(r:au K Hm ys new):∀{xs:List V}{ds:WN}{fp:WU}{m:Nat},eB K H Hm xs ds fp->xs[m]?=some (.ref b)->(∃es,ds[m]?=some (.list es))->eB K (upd H b (.lst ys)) Hm xs (ds.set m (.list new)) fp
 |_,_,_,_,.nil,h,_=>by simp at h
 |_,_,_,0,.kD e _ _,_,⟨es,h⟩=>by simp at h;rw[h]at e;cases e
 |_,_,_,m+1,.kD e h2 t,h,⟨es,h'⟩=>.kD e h2 (t.put (m:=m) r (by simpa using h) ⟨es,by simpa using h'⟩)
 |_,_,_,0,.own (b:=b') e r' n t,h,_=>by simp at h;subst h;exact .own ao r n (t.step (af.refl _) λa ha=>ah λz=>n (z▸ha))
 |_,_,_,m+1,.own (b:=b') (fp:=fp) e r' n t,h,⟨es,h'⟩=>by have h:_:=h;obtain⟨b2,ys2,g1,g2,g3,g4⟩:=t.get (m:=m) (es:=es) (by simpa using h');simp at h;rw[h]at g1;cases g1;refine .own (by rw[ah (show b'≠b from λz=>n (by rw[z];exact g4))];exact e) r' n (t.put (m:=m) r h ⟨es,by simpa using h'⟩)
def Rl.PZ(R:Rl K g E U H Hm F){i:Nat}{b:Addr}(e:E[i]?=some (some (k,d)))(hv:U[i]?=some (some v))(hb:b∈F i)(new:Own K (upd H b o) Hm k v d' (F i))(nt:oN o)(hp:k=.ow true->∃ds,d'=.list ds) : Rl K g (E.set i (some (k,d'))) U (upd H b o) Hm F:=by
 have na:=R.off i b hb;have up:∀c,c≠b->upd H b o c=H c:=λc hc=>ah hc;have li:=bX e;exact {
  len:=by rw[Rf];exact R.len
  sub:=λc u hc=>by
   have:c≠b:=λz=>by rw[z,na]at hc;cases hc
   rw[up c this];exact R.sub c u hc
  slot:=λj k' d'' e'=>by
   by_cases c:j=i
   .subst c;rw[aF li]at e';cases e';exact⟨_,hv,new⟩
   .rw[ak (Ne.symm c)]at e';obtain⟨u,g1,g2⟩:=R.slot j k' d'' e';refine⟨u,g1,g2.step (af.refl _) λa ha=>up a λz=>c (R.aQ j i b (z▸ha) hb)⟩
  off:=R.off
  bu:=λj a ha=>by
   by_cases c:a=b
   .rw[c];exact⟨_,ao,nt⟩
   .rw[up a c];exact R.bu j a ha
  aQ:=R.aQ
  fr:=λq u hq ho=>by
   have:q≠b:=λz=>by
    rcases R.new i b hb with y|y
    .exact hq (z▸y)
    .rw[z,y]at ho;cases ho
   rw[up q this];exact R.fr q u hq ho
  new:=R.new
  pin:=λq hq=>by
   obtain⟨g1,ds',g2⟩:=R.pin q hq
   by_cases c:i=q.1
   .rw[<-c]at g1 g2⊢;rw[e]at g2;cases g2;obtain⟨ds,rfl⟩:=hp rfl;exact⟨g1,ds,aF li⟩
   .exact⟨g1,ds',by rw[ak c];exact g2⟩
  old:=R.old }
def JR(h:cS t d E=some E'):E'.length=E.length:=by
 have go:∀{is:WZ}{ds:WN}{E E':En},bJ is ds E=some E'->E'.length=E.length:=by
  intro is;induction is with
  |nil=>intro ds E E' h;cases ds with|nil=>cases h;rfl|cons _ _=>cases h
  |cons j is ih=>
   intro ds E E' h;cases ds with
   |nil=>cases h
   |cons d ds=>rw[bJ]at h;by_cases o:bR E j=true;{rw[if_pos o]at h;rw[ih h,Rf]};rw[if_neg o]at h;cases h
 cases t with
 |nm j=>exact go (is:=[j]) h
 |tp js=>
  cases d with
  |tuple ds=>exact go (is:=js) h
  |_=>cases h
end
section
variable{X:Cx}{Ex:XK}{Y cs:WZ}{elt tg iter:Expr}{ifs:WX}{scope:Scope}{pos:Pos}
def Gq{vs:Wb}{t:Tg}(B:cE X scope vs NB ix)(hc:X.calm=true)(hcs:cs.length=vs.length)(hix:∀i∈ix,i<Y.length)(aQ:∀c∈cs,c∉Y)(nd:(cu Y cs ix).Nodup)(hi:SI X Ex Y tg iter di)(ht:∀(C:Addr)(s:Shared)(H:Hp)(fp:WU),gS (X.block scope C NB s H fp) (cu Y cs ix) tg t)(hts:∀i∈t.slots,i∈cs)(hif:∀(C:Addr)(s:Shared)(H:Hp)(fp:WU),kN (X.block scope C NB s H fp) E0 (cu Y cs ix) ifs c)(hr:∀(C:Addr)(s:Shared)(H:Hp)(fp:WU),SE (X.block scope C NB s H fp) E0 (cu Y cs ix) elt e)(hs:∀v,foldedSetIterable iter X.env v=pure v){w:(V->Hp->Prop)->St->Hp->Prop}(hw:∀{wi:TI}{G:TG}{tt:TT}{tr:TL}{U:St}{H:Hp}{Q:VK},PI X tg iter wi->(∀(C:Addr)(s:Shared)(H:Hp)(fp:WU),PG (X.block scope C NB s H fp) tg G)->(∀(C:Addr)(s:Shared)(H:Hp)(fp:WU),vh (X.block scope C NB s H fp) ifs tt)-> (∀(C:Addr)(s:Shared)(H:Hp)(fp:WU)(D:Addr),PL (X.block scope C NB s H fp) D elt (⟨tg,iter,ifs,0⟩::[]) scope pos 1 tr)->rP wi vs.length ix G tt tr U H Q->w Q U H)(g:Gh)(x:XC)(E:En)(U:St)(H Hm:Hp)(F:Nat->WU)(P:En->Kd->PyData->Prop)(Q:VK)(hx:XL X Ex x g)(R:Rl X.K g E U H Hm F)(p:oB sizeLine cs di t c e x E P)(q:∀E' k v u H' Hm' F' fp,P E' k v->Rl X.K g E' U H' Hm' F'->af Hm Hm'->Tm X.K g F' H' Hm' k u v fp->Q u H'):w Q (sel Y U) H:=by
 obtain⟨wi,hpi,hwi⟩:=hi;refine hw (wi:=wi) (G:=λv U H Q=>∀(C:Addr)(s:Shared)(H2:Hp)(fp:WU),WG (X.block scope C NB s H2 fp) tg v U H Q) (tt:=λU H Q=>∀(C:Addr)(s:Shared)(H2:Hp)(fp:WU),w6 (X.block scope C NB s H2 fp) ifs U H Q)
  (tr:=IU λU H Q=>∀(C:Addr)(s:Shared)(H2:Hp)(fp:WU),WE (X.block scope C NB s H2 fp) elt U H Q) hpi (λC s H2 fp pins s' U H v u Q I r h=>h C s H2 fp pins s' u I r) (λC s H2 fp pins s' U H Q I h=>h C s H2 fp pins s' I)
  (λC s H2 fp D=>Ax (λpins s' U H Q I h=>h C s H2 fp pins s' I)) ?_
 refine hwi g x E U H Hm F _ _ hx R p λE1 xs J H1 Hm1 F1 p1 R1 s1 it1=>?_;obtain⟨E0',I,hcl,i0,step,fin⟩:=p1;obtain⟨σ0,F0,R0,a0,n0⟩:=R1.br hcl;rw[<-hcs,zW hix aQ a0 λc hc=>(n0 c hc).1];refine⟨λi m ys τ H'=>m=xs.length-i/\i<=xs.length/\∃E' dys' σ' Hm' F' fp,I i dys' E'/\Rl X.K g E' σ' H' Hm' F'/\af Hm1 Hm'/\eB X.K H' Hm' ys dys' fp/\mC g F' H' Hm' fp/\Agree cs σ0 σ'/\τ=sel (cu Y cs ix) σ',
  ⟨xs.length,by simp,RO _,E0',[],σ0,Hm1,F0,[],i0,R0,af.refl _,.nil,⟨(λ_ z=>by cases z),(λ_ z=>by cases z),(λ_ z=>by cases z),λ_ z=>by cases z⟩,Agree.refl _ _,rfl⟩,?_⟩
 rintro i m ys τ H2⟨rfl,hi,E2,dys2,σ2,Hm2,F2,fp,i2,R2,s2,r2,A2,a2,rfl⟩;obtain⟨go,stop⟩:=it1 i H2 Hm2 s2 R2.sub;by_cases c':i<xs.length
 .obtain⟨go,pN⟩:=go xs[i] (RI c');refine .inr ⟨go,λys τ H'=>i+1<=xs.length/\∃E' dys' σ' Hm' F' fp,I (i+1) dys' E'/\Rl X.K g E' σ' H' Hm' F'/\af Hm1 Hm'/\eB X.K H' Hm' ys dys' fp/\mC g F' H' Hm' fp/\Agree cs σ0 σ'/\τ=sel (cu Y cs ix) σ',λys τ H' z=>⟨xs.length-(i+1),by lia,rfl,z⟩,λx H3 y C s H9 fp9=>?_⟩;obtain⟨Hm3,t1,t2,t3,old,rx⟩:=pN x H3 y;have R3:=R2.turn t1 t2 t3 old;have k3:∀a∈fp,H3 a=H2 a:=λa ha=>by
   cases e:H2 a with
   |none=>exact absurd e (A2.bu a ha)
   |some o=>exact t3 _ _ e
  have A3:mC g F2 H3 Hm3 fp:=⟨λa ha=>by rw[k3 a ha];exact A2.Ao a ha,λa ha=>by
   obtain⟨u,hu,nt⟩:=A2.Ao a ha;exact(old a (A2.bu a ha)).off (A2.off a ha) t2 (t3 _ _ hu) nt,A2.aQ,A2.new⟩
  have r3:=r2.step (H':=H3) t1 k3;have nM:=A3.notM R3;obtain⟨E4,e4,p4⟩:=step i xs[i] dys2 E2 (RI c') i2;obtain⟨G,g1,g2⟩:=wc (X:=X.block scope C NB s H9 fp9) hc B.nd nd (ht C s H9 fp9);refine WG.of g1 (g2 (g:=g.ff H3 fp) e4 rx (R3.ff A3) λσ4 F4 R4 ag=>?_);have a4:Agree cs σ0 σ4:=a2.trans ⟨by rw[<-R3.len,<-R4.len,JR e4],λj hj=>ag j λz=>hj (hts j z)⟩;intro C2 s2' H92 fp92;refine(hif C2 s2' H92 fp92).ok XL.no R4 p4 λE5 b H5 Hm5 F5 p5 R5 s5=>?_;cases b with
  |true=>
   refine mV λC3 s3' H93 fp93=>?_;refine hr C3 s3' H93 fp93 (g.ff H3 fp) xF E5 σ4 H5 Hm5 F5 _ _ XL.no R5 (by rw[if_pos rfl]at p5;exact p5) λE6 k6 v6 u6 H6 Hm6 F6 fp6 p6 R6 s6 T6=>?_;obtain⟨⟨pb,rfl⟩,hl,p6⟩:=p6;obtain⟨R6',A6,k6⟩:=Rl.tE A3 nM R6;have T1:=T6.own;have hlen:ys.length=dys2.length:=by
    have:∀{xs:List V}{ds:WN}{fp:WU}{H Hm:Hp},eB X.K H Hm xs ds fp->xs.length=ds.length:=by
     intro xs ds fp H Hm h;induction h with
     |nil=>rfl
     |kD _ _ _ ih=>rw[RK,RK,ih]
     |own _ _ _ _ ih=>rw[RK,RK,ih]
    exact this r2
   cases T1 with
   |@ow _ b zs es hb rz=>
    have nb:b∉fp:=λz=>by have:=T6.new b Q6;rw[jW z]at this;exact A3.bu b z this
    have r6:=(r3.step (H':=H6) (s5.trans s6) k6).snoc hb rz nb;refine⟨by rw[hlen];exact hl,c',E6,_,σ4,Hm6,F6,fp++[b],p6,R6',s2.trans (t1.trans (s5.trans s6)),r6,⟨λa ha=>?_,λa ha=>?_,λa ha=>?_,λa ha=>?_⟩,a4,rfl⟩;{rcases R7.mp ha with ha|ha;{exact A6.Ao a ha};rw[QS.mp ha];exact⟨_,hb,lO⟩};{rcases R7.mp ha with ha|ha;{exact A6.off a ha};rw[QS.mp ha];exact T6.off b Q6};{rcases R7.mp ha with ha|ha;{exact A6.aQ a ha};rw[QS.mp ha];exact T6.aQ b Q6};rcases R7.mp ha with ha|ha;{exact A6.new a ha};rw[QS.mp ha];have:=T6.new b Q6;rw[fB nb]at this;exact this
  |false=>obtain⟨R5',A5,k5⟩:=Rl.tE A3 nM R5;exact kG ⟨c',E5,dys2,σ4,Hm5,F5,fp,by simpa using p5,R5',s2.trans (t1.trans s5),r3.step (H':=H5) s5 k5,A5,a4,rfl⟩
 have e:i=xs.length:=by lia
 subst e;refine .inl ⟨stop (Q5 _),λp hp=>?_⟩;obtain⟨E3,hcl2,p2⟩:=fin _ _ i2;obtain⟨σ3,F3,R3p,a3,n3⟩:=(R2.ff A2).br hcl2;obtain⟨R3,A3,_⟩:=Rl.tE A2 (A2.notM R2) R3p;have R3':=R3.agree (cs:=cs) ((a0.trans a2).trans a3).symm λc hc=>(n3 c hc).2;have s3:=aG (o:=.lst ys) hp;have R4:=R3'.grow (H':=upd H2 p (.lst ys)) s3 (af.refl _) (R3'.sub.trans s3) (λi a ha=>R3'.off i a ha) λ_ _=>.inl rfl;have np:p∉fp:=λz=>A2.bu p z hp;refine q _ _ _ _ _ Hm2 F3 (p::fp) p2 R4 (s1.trans s2) ⟨.dp ao np (r2.step (H':=upd H2 p (.lst ys)) (af.refl _) λa ha=>ah λz=>np (z▸ha)),λa ha=>?_,λa ha i=>?_,λa ha=>?_⟩;{rcases QX.mp ha with rfl|ha;{exact R3'.oW hp};exact A2.off a ha};{rcases QX.mp ha with rfl|ha;{exact R3'.fresh hp};exact A3.aQ a ha i};rcases QX.mp ha with rfl|ha;{exact R3'.gO hp};exact A2.new a ha
end
section
variable{X:Cx}{Ex:XK}{Y cs:WZ}{elt tg iter:Expr}{ifs:WX}{scope:Scope}{pos:Pos}
def Pj{j:Nat}(hN:X.N.Nodup)(B:mD X.N X.env.scope scope vs NB ix=true)(hi:SI X Ex (aT X) tg iter di)(ht:∀(C:Addr)(s:Shared)(H:Hp)(fp:WU),gS (X.block scope C NB s H fp) (cu (aT X) cs ix) tg t)(hif:∀(C:Addr)(s:Shared)(H:Hp)(fp:WU),kN (X.block scope C NB s H fp) E0 (cu (aT X) cs ix) ifs c)(hr:∀(C:Addr)(s:Shared)(H:Hp)(fp:WU),SE (X.block scope C NB s H fp) E0 (cu (aT X) cs ix) elt e)(hj:X.N[j]?=some y:=by rfl)(hy:X.env.scope.names.lookup y=some .local:=by rfl)(hsw:swapsWith (.ListComp elt [⟨tg,iter,ifs,0⟩] scope pos) (some (.Name y py)) spos.line X.env=pure true:=by rfl)(hc:X.calm=true:=by rfl)(ck:yf (aT X) cs ix vs t.slots=true:=by rfl)(hs:∀v,foldedSetIterable iter X.env v=pure v:=by intro _;rfl):S1 X Ex (.Assign [.Name y py] (.ListComp elt [⟨tg,iter,ifs,0⟩] scope pos) spos) (aL j (oB sizeLine cs di t c e)):=by
 obtain⟨h1,h2,h3,h4,h5⟩:=wo ck;have B':cE X scope vs NB ix:=cE.of B;have ha:∀g∈([]:WB),g.is_async=0:=λ_ z=>by cases z
 rw[ua];intro g D' E U H Hm F D hx R p nx rt;refine Gq B' hc h1 h2 h3 h4 hi ht h5 hif hr hs (w:=λQ τ H=>(Q=λu H1=>D.nx (τ.set j (some u)) H1)->WS X (.Assign [.Name y py] (.ListComp elt [⟨tg,iter,ifs,0⟩] scope pos) spos) D τ H)
  (λg1 g2 g3 g4 g5 e=>by
   subst e;exact WS.of (w9 hN hj hy B' hc g1 g2 g3 g4 hsw ha hs) g5) g D'.xc E U H Hm F _ _ hx R p (λE' k v u H' Hm' F' fp p' R' s' T=>?_) rfl
 rw[lR Sz (l9 (bX hj)) (R'.len▸iU p'.1)];exact nx _ _ _ _ _ p'.2 (R'.put T p'.1) s'
def Ft{i n:Nat}(h:dD E n=some E')(ne:i≠n):E'[i]?=E[i]?:=by unfold dD at h;split at h;{split at h;{cases h;exact ak (Ne.symm ne)};cases h};cases h
def Nu{x y name:Str}{id:String}{p yp sp apos cpos:Pos}{jx:Expr}{f:DM}{r:V->List V->Hp->VK->Prop}{dj:DE}{i j n jn:Nat}(hm:nV X id r)(D:vj X.K f r)(slot:Slot "list" name id)(hty:typeOf (.builtin id)=pure (.type "method_descriptor"))(hv:PE X (.Name x p) (lK j))(hj:Y[j]?=some i)(hy:PE X (.Name y yp) (lK jn))(hjn:Y[jn]?=some n)(hs:mJ jx)(hd:SE X Ex Y jx dj)(hline:(apos.endLine==cpos.line)=true) : SE X Ex Y (.Call (.Attribute (.Subscript (.Name x p) jx sp) name apos) [.Name y yp] [] cpos) (yE f i dj n):=by
 intro g xc E U H Hm F P Q hx R h q;obtain⟨hh,h⟩:=h;obtain⟨o,ho⟩:=k7 R hh;refine WE.of (v9 UZ slot hty hm (cN (e:=.Subscript (.Name x p) jx sp)) (fL (es:=[.Name y yp]) rfl) rfl (CS rfl (show 1<30 by decide)) hline rfl rfl) ?_;refine WE.of (vW Em hv cN hs) ⟨o,eW hj ho,?_⟩;refine hd g xc E U H Hm F _ _ hx R h λE1 k1 w u1 H1 Hm1 F1 fp1 p1 R1 s1 T1=>?_;obtain⟨a,pp,ds,m,es,k,d,E2,rfl,e1,hix,hes,en,ne,hf,p1⟩:=p1;cases T1.own.int;obtain⟨v',h1,h2⟩:=R1.slot i _ _ e1;rw[ho]at h1;cases h1;obtain⟨vn,Hm2,F2,hvn,s2,R2,rn⟩:=R1.dD en hf;have e2:E2[i]?=some (some (.dp pp,.list ds)):=(Ft hf ne).trans e1;obtain⟨v2,h3,h4⟩:=R2.slot i _ _ e2;rw[ho]at h3;cases h3;generalize hfi:F2 i=fi at h4;cases h4 with
 |@dp _ a0 xs _ fq ha0 n0 it0=>
  obtain⟨b,ys,hxm,hb,ry,mb⟩:=it0.get hes;have hlen:xs.length=ds.length:=by
   have:∀{xs:List V}{ds:WN}{fp:WU}{H Hm:Hp},eB X.K H Hm xs ds fp->xs.length=ds.length:=by
    intro xs ds fp H Hm h;induction h with
    |nil=>rfl
    |kD _ _ _ ih=>rw[RK,RK,ih]
    |own _ _ _ _ ih=>rw[RK,RK,ih]
   exact this it0
  refine .inl ⟨_,xs,a,.ref b,rfl,rfl,bQ.of ha0,?_,.inl ⟨rfl,_,bQ.of hb⟩,?_⟩;{show(kC xs.length a).bind (λj=>xs[j]?)=some (.ref b);rw[hlen,show kC ds.length a=some m from hix];exact hxm};refine WE.of hy ⟨vn,eW hjn hvn,?_⟩;show r (.ref b) [vn] H1 Q;have mbF:b∈F2 i:=by rw[hfi];exact QU _ mb
  refine D H1 Hm2 b ys es [vn] [d] _ Q hb (R2.off i b mbF) R2.sub ry (.cons rn .nil) p1 λys' new u v p2 ry' ru=>?_;have nab:a0≠b:=λz=>n0 (z▸mb);have R3:=R2.PZ (o:=.lst ys') (d':=.list (ds.set m (.list new))) e2 ho mbF (by
   rw[hfi];exact .dp (by rw[ah nab];exact ha0) n0 (it0.put ry' hxm ⟨es,hes⟩)) lO λz=>by cases z
  exact q _ _ _ _ _ _ _ [] p2 R3 (s1.trans s2) (Tm.sh ru)
def OQ(j jn:Nat){i n:Nat}{x y name:Str}{id:String}{p yp sp apos cpos:Pos}{jx:Expr}{f:DM}{r:V->List V->Hp->VK->Prop}{dj:DE}(hm:nV X id r)(D:vj X.K f r)(slot:Slot "list" name id)(hty:typeOf (.builtin id)=pure (.type "method_descriptor"))(hd:SE X Ex Y jx dj)(hN:X.N[j]?=some x:=by rfl)(hv:j8 X.env.scope x:=by first|exact Or.inl rfl|exact Or.inr (Or.inl rfl)|exact Or.inr (Or.inr rfl))(hj:Y[j]?=some i:=by rfl)(hNn:X.N[jn]?=some y:=by rfl)(hvn:j8 X.env.scope y:=by first|exact Or.inl rfl|exact Or.inr (Or.inl rfl)|exact Or.inr (Or.inr rfl))(hjn:Y[jn]?=some n:=by rfl)(hs:mJ jx:=by intro _ _;rfl)(hline:(apos.endLine==cpos.line)=true:=by rfl)(hb:(x==("__debug__":Str))=false:=by decide)(hcd:(x==("__classdict__":Str))=false:=by decide)(hbn:(y==("__debug__":Str))=false:=by decide)(hcn:(y==("__classdict__":Str))=false:=by decide) : SE X Ex Y (.Call (.Attribute (.Subscript (.Name x p) jx sp) name apos) [.Name y yp] [] cpos) (yE f i dj n):=Nu hm D slot hty (fK hN hv hb hcd) hj (fK hNn hvn hbn hcn) hjn hs hd hline
end
end Dv
namespace Dv
open PySem L2
universe u
def aI {a b:Prop}(x:a)(y:b):a/\b:=⟨x,y⟩
theorem rr0:dC v x E Q=Q E .sh v:=rfl
theorem rr1:cy i x (o::E) Q=CD (o::E) i Q:=rfl
theorem rr2:aa r as x (o::E) Q=jO as x (o::E) λE1 os=>sA r as E1 os Q:=rfl
theorem rr3:aM sp ms as x (o::E) Q=jO as x (o::E) λE1 os=>Eg sp ms as x E1 os Q:=rfl
theorem rr4:bP d x (o::E) Q=d x (o::E) λE' _ v=>tH v (Q E'):=rfl
theorem rr5:HU i x (o::E) Q=EY (o::E) i Q:=rfl
theorem rr6:Qw t x (o::E) Q=t x (o::E) λE' b=>Q E' (!b):=rfl
theorem rr7:gH a b x (o::E) Q=a x (o::E) λE1 _ v=>AF v λc=>dP c (b x E1 Q) (Q E1 .sh (.bool false)):=rfl
theorem rr8:n5 a b x (o::E) Q=a x (o::E) λE1 _ v=>AF v λc=>dP c (Q E1 .sh (.bool true)) (b x E1 Q):=rfl
theorem rr9:PD a x (o::E) Q=a x (o::E) λE1 _ v=>tH v λc=>Q E1 .sh (.bool !c):=rfl
theorem rr10:MQ f f' a b c x (o::E) Q=a x (o::E) λE1 _ u=>rS u λi=>b x E1 λE2 _ v=>rS v λj=>dP (f i j) (c x E2 λE3 _ w=>rS w λk=>Q E3 .sh (.bool (f' j k))) (Q E2 .sh (.bool false)):=rfl
theorem rr11:QL c a b x (o::E) Q=c x (o::E) λE1 t=>dP t (a x E1 Q) (b x E1 Q):=rfl
theorem rr12:cF D E=D.nx E:=rfl
theorem rr13:aC a b D (o::E)=a { D with nx:=b D } (o::E):=rfl
theorem rr14:b5 c a b D (o::E)=c D.xc (o::E) λE1 t=>dP t (a D E1) (b D E1):=rfl
theorem rr15:aL i e D (o::E)=e D.xc (o::E) λE' k v=>bK (rH E' i) (D.nx (E'.set i (some (k,v)))):=rfl
theorem rr16:Ba is e D (o::E)=e D.xc (o::E) λE' k v=>bK k.fz (HA is v E' D.nx):=rfl
theorem rr17:gY e D (o::E)=e D.xc (o::E) D.rt:=rfl
theorem rr18:jj i D (o::E)=CM (o::E) i D.rt:=rfl
theorem rr19:gK f i es x (o::E) Q=bK (lE (o::E) i) (jO (es.map .ev) x (o::E) λE1 os=>ET f i (es.map .ev) E1 os Q):=rfl
theorem rr20:fP i j e D (o::E)=e D.xc (o::E) λE1 k v=>bK k.fz (bK (here E1 i) (j D.xc E1 λE2 k2 w=>bK k2.fz (fP.setI E2 i w v D.nx))):=rfl
theorem rr21:P4 f i e D (o::E)=bK (here (o::E) i) (e D.xc (o::E) λE1 _ v=>Lk f E1 i v D.nx):=rfl
theorem rr22:Ng c D E=D.xc c .none:=rfl
theorem rr23:cO e D (o::E)=e D.xc (o::E) λE' _ _=>D.nx E':=rfl
theorem rr24:iX x E Q=Q E true:=rfl
theorem rr25:iE e x (o::E) Q=e x (o::E) λE' k v=>bK k.fz (Hz v λxs=>Q E' xs):=rfl
theorem rr26:f7 g as x (o::E) Q=jO as x (o::E) λE1 os=>aD (cZ as E1 os) λds=>aD (g ds) λxs=>Q E1 xs:=rfl
theorem rr27:wU e x (o::E) Q=e x (o::E) λE' k v=>bK k.fz (uM v λds=>Q E' (jk ds)):=rfl
theorem rr28:Qx a b x (o::E) Q=a x (o::E) λE1 k v=>bK k.fz (b x E1 λE2 k2 v2=>bK k2.fz (uM v λds=>uM v2 λes=>Q E2 ((ds.zip es).map λp=>.tuple [p.1,p.2]))):=rfl
theorem rr29:eF most e x ys (o::E) Q=e x (o::E) λE1 k v=>k.fz=true/\ys.length<most/\Q (ys++[v]) E1:=rfl
theorem rr30:jO [] x E Q=Q E []:=rfl
theorem rr31:jO (.pk i::r) x (o::E) Q=bK (here (o::E) i) (jO r x (o::E) λE' os=>Q E' (none::os)):=rfl
theorem rr32:jO (.ev d::r) x (o::E) Q=d x (o::E) λE1 k v=>bK k.fz (jO r x E1 λE' os=>Q E' (some v::os)):=rfl
theorem rr33:cZ [] E []=some []:=rfl
theorem rr34:∀{i:Nat}{r:List Arg}{o:Option (Kd×PyData)}{E:En}{os:List (Option PyData)},cZ (.pk i::r) (o::E) (none::os)=match(o::E)[i]? with
  |some (some (k,d))=>dP k.rd ((cZ r (o::E) os).map (d::·)) none
  |_=>none:=rfl
theorem rr35:∀{d:DE}{v:PyData}{r:List Arg}{E:En}{os:List (Option PyData)},cZ (.ev d::r) E (some v::os)=(cZ r E os).map (v::·):=rfl
theorem rr36:aD (some a) Q=Q a:=rfl
theorem rr37:aD none Q=False:=rfl
theorem rr38:here (o::E) i=match(o::E)[i]? with
  |some (some _)=>true
  |_=>false:=rfl
theorem rr39:aB (some (k,d))=!k.pin:=rfl
theorem rr40:aB none=true:=rfl
theorem rr41:lE (o::E) i=match(o::E)[i]? with
  |some (some (.ow _,.list _))=>true
  |_=>false:=rfl
theorem rr42:jE (o::E) i=match(o::E)[i]? with
  |some (some (.sh,_))=>true
  |_=>false:=rfl
theorem rr43:qK (o::E) i=match(o::E)[i]? with
  |some (some (k,d))=>dP k.fz (some ((o::E).set i (some (.sh,d)))) none
  |_=>none:=rfl
theorem rr44:jl [] E=some E:=rfl
theorem rr45:jl (i::r) E=(qK E i).bind (jl r):=rfl
theorem rr46:CD (o::E) i Q=match(o::E)[i]? with
  |some (some (_,d))=>aD (qK (o::E) i) λE'=>Q E' .sh d
  |_=>False:=rfl
theorem rr47:CM (o::E) i Q=match(o::E)[i]? with
  |some (some (k,d))=>bK (!k.pin) (Q ((o::E).set i none) k d)
  |_=>False:=rfl
theorem rr48:EY (o::E) i Q=match(o::E)[i]? with
  |some (some (k,d))=>bK k.rd (tH d (Q (o::E)))
  |_=>False:=rfl
theorem rr49:∀{r:DR}{as:List Arg}{o:Option (Kd×PyData)}{E:En}{os:List (Option PyData)}{Q:En->Kd->PyData->Prop},sA r as (o::E) os Q=aD (cZ as (o::E) os) λds=>r ds λk v=>aD (qP as (o::E) k v) λE2=>Q E2 k v:=rfl
theorem rr50:∀{sp:dS}{ms:WV}{as:List Arg}{x:XC}{o:Option (Kd×PyData)}{E:En}{os:List (Option PyData)}{Q:En->Kd->PyData->Prop},Eg sp ms as x (o::E) os Q=aD (cZ as (o::E) os) λds=>bK (sQ ms as (o::E)) (sp ds (λus k v=>EI ms as (o::E) us k v Q) x):=rfl
theorem rr51:∀{f:DM}{i:Nat}{as:List Arg}{o:Option (Kd×PyData)}{E:En}{os:List (Option PyData)}{Q:En->Kd->PyData->Prop},ET f i as (o::E) os Q=aD (cZ as (o::E) os) λargs=>match(o::E)[i]? with
  |some (some (.ow p,.list ds))=>f ds args λnew v=>Q ((o::E).set i (some (.ow p,.list new))) .sh v
  |_=>False:=rfl
theorem rr52:Lk f (o::E) i v Q=match(o::E)[i]? with
  |some (some (_,.int a))=>rS v λb=>Q ((o::E).set i (some (.sh,.int (f a b))))
  |_=>False:=rfl
theorem rr53:tH (.bool b) Q=Q b:=rfl
theorem rr54:AF (.bool b) Q=Q b:=rfl
theorem rr55:rS (.int i) Q=Q i:=rfl
theorem rr56:tH (.list ds) Q=Q (!ds.isEmpty):=rfl
theorem rr57:Hz (.list ds) Q=Q ds:=rfl
theorem rr58:Hz (.tuple ds) Q=Q ds:=rfl
theorem rr59:uM (.list ds) Q=Q ds:=rfl
theorem rr60:qP as (o::E) k v=dP ((gB as).all (jE (o::E))||flat k v) (some (o::E)) (jl (gB as) (o::E)):=rfl
theorem rr61:gB []=[]:=rfl
theorem rr62:gB (.pk i::r)=i::gB r:=rfl
theorem rr63:gB (.ev d::r)=gB r:=rfl
theorem rr64:Kd.fz .sh=true:=rfl
theorem rr65:Kd.fz (.ow false)=true:=rfl
theorem rr66:Kd.fz (.dp false)=true:=rfl
theorem rr67:Kd.fz (.dk false)=true:=rfl
theorem rr68:Kd.fz (.dt false)=true:=rfl
theorem rr69:Kd.rd .sh=true:=rfl
theorem rr70:Kd.rd (.ow p)=true:=rfl
theorem rr71:Kd.rd (.dp p)=true:=rfl
theorem rr72:Kd.rd (.dk p)=true:=rfl
theorem rr73:Kd.rd (.dt p)=true:=rfl
theorem rr74:Kd.pin .sh=false:=rfl
theorem rr75:Kd.pin (.ow p)=p:=rfl
theorem rr76:Kd.pin (.dp p)=p:=rfl
theorem rr77:Kd.pin (.dk p)=p:=rfl
theorem rr78:Kd.pin (.dt p)=p:=rfl
theorem rr79:flat .sh v=lf v:=rfl
theorem rr80:lf (.int i)=true:=rfl
theorem rr81:lf (.bool b)=true:=rfl
theorem rr82:lf (.str s)=true:=rfl
theorem rr83:lf .none=true:=rfl
theorem rr84:(cM ms Q x).xc=x:=rfl
theorem rr85:(cM ms Q x).nx (o::E)=aD (fH ms (o::E)) λus=>Q us .sh .none:=rfl
theorem rr86:(cM ms Q x).rt (o::E) k v=aD (fH ms (o::E)) λus=>Q us k v:=rfl
theorem rr87:fH [] E=some []:=rfl
theorem rr88:fH (true::ms) (some (.ow true,.list es)::E)=(fH ms E).map (.list es::·):=rfl
theorem rr89:fH (false::ms) (o::E)=fH ms E:=rfl
theorem rr90:ini (true::ms) (d::ds)=some (.ow true,d)::ini ms ds:=rfl
theorem rr91:ini (false::ms) (d::ds)=some (.sh,d)::ini ms ds:=rfl
theorem rr92:ini [] []=[]:=rfl
theorem rr93:List.replicate (n+1) (none:Option (Kd×PyData))=none::List.replicate n none:=rfl
theorem rr94:List.replicate 0 (none:Option (Kd×PyData))=[]:=rfl
theorem rr95:∀{α β:Type}{f:α->β}{a:α},(some a).map f=some (f a):=rfl
theorem rr96:∀{α β:Type}{f:α->Option β}{a:α},(some a).bind f=f a:=rfl
theorem rr97:∀{α:Type}{p:α->Bool},[].all p=true:=rfl
theorem rr98:∀{α:Type}{p:α->Bool}{a:α}{l:List α},(a::l).all p=(p a&&l.all p):=rfl
theorem rr99:(true&&b)=b:=rfl
theorem rr100:(false&&b)=false:=rfl
theorem rr101:(true||b)=true:=rfl
theorem rr102:(false||b)=b:=rfl
theorem rr103:((!true)=false):=rfl
theorem rr104:((!false)=true):=rfl
theorem rr105:∀{α:Type}{l:List α},([]:List α)++l=l:=rfl
theorem rr106:∀{α:Type}{a:α}{l m:List α},(a::l)++m=a::(l++m):=rfl
theorem rr107:rH (o::E) i=match(o::E)[i]? with
  |some o=>aB o
  |none=>false:=rfl
theorem rr108:bK true P=P:=rfl
theorem rr109:bK false P=False:=rfl
theorem rr110:∀{α:Sort u}{a b:α},dP true a b=a:=rfl
theorem rr111:∀{α:Sort u}{a b:α},dP false a b=b:=rfl
theorem rr112:HA is (.tuple ds) E Q=aD (stK is ds E) Q:=rfl
theorem rr113:stK [] [] E=some E:=rfl
theorem rr114:stK (i::is) (d::ds) (o::E)=dP (rH (o::E) i) (stK is ds ((o::E).set i (some (.sh,d)))) none:=rfl
theorem rr115:lJ i []=false:=rfl
theorem rr116:lJ i (j::l)=(i==j||lJ i l):=rfl
theorem rr117:oz [] ks E=true:=rfl
theorem rr118:oz (i::r) ks E=((!lJ i ks&&!lJ i r&&lE E i)&&oz r ks E):=rfl
theorem rr119:∀{α:Type}{o:α}{E:List α},(o::E)[0]?=some o:=rfl
theorem rr120:∀{α:Type}{o:α}{E:List α}{n:Nat},(o::E)[n+1]?=E[n]?:=rfl
theorem rr121:∀{α:Type}{o a:α}{E:List α},(o::E).set 0 a=a::E:=rfl
theorem rr122:∀{α:Type}{o a:α}{E:List α}{n:Nat},(o::E).set (n+1) a=o::E.set n a:=rfl
def dv:=aI @rr0<|aI @rr1<|aI @rr2<|aI @rr3<|aI @rr4<|aI @rr5<|aI @rr6<|aI @rr7<|aI @rr8<|aI @rr9<|aI @rr10<|aI @rr11<|aI @rr12<|aI @rr13<|aI @rr14<|aI @rr15<|aI @rr16<|aI @rr17<|aI @rr18<|aI @rr19<|aI @rr20<|aI @rr21<|aI @rr22<|aI @rr23<|aI @rr24<|aI @rr25<|aI @rr26<|aI @rr27<|aI @rr28<|aI @rr29<|aI @rr30<|aI @rr31<|aI @rr32<|aI @rr33<|aI @rr34<|aI @rr35<|aI @rr36<|aI @rr37<|aI @rr38<|aI @rr39<|aI @rr40<|aI @rr41<|aI @rr42<|aI @rr43<|aI @rr44<|aI @rr45<|aI @rr46<|aI @rr47<|aI @rr48<|aI @rr49<|aI @rr50<|aI @rr51<|aI @rr52<|aI @rr53<|aI @rr54<|aI @rr55<|aI @rr56<|aI @rr57<|aI @rr58<|aI @rr59<|aI @rr60<|aI @rr61<|aI @rr62<|aI @rr63<|aI @rr64<|aI @rr65<|aI @rr66<|aI @rr67<|aI @rr68<|aI @rr69<|aI @rr70<|aI @rr71<|aI @rr72<|aI @rr73<|aI @rr74<|aI @rr75<|aI @rr76<|aI @rr77<|aI @rr78<|aI @rr79<|aI @rr80<|aI @rr81<|aI @rr82<|aI @rr83<|aI @rr84<|aI @rr85<|aI @rr86<|aI @rr87<|aI @rr88<|aI @rr89<|aI @rr90<|aI @rr91<|aI @rr92<|aI @rr93<|aI @rr94<|aI @rr95<|aI @rr96<|aI @rr97<|aI @rr98<|aI @rr99<|aI @rr100<|aI @rr101<|aI @rr102<|aI @rr103<|aI @rr104<|aI @rr105<|aI @rr106<|aI @rr107<|aI @rr108<|aI @rr109<|aI @rr112<|aI @rr113<|aI @rr114<|aI @rr115<|aI @rr116<|aI @rr117<|aI @rr118<|aI @rr119<|aI @rr120<|aI @rr121<|@rr122
def dw:
 (∀{o:Option (Kd×PyData)}{E:En}{i:Nat},bR (o::E) i=match(o::E)[i]? with
  |some o=>aB o
  |none=>false) /\
 (∀{P:Prop},(True/\P)=P) /\
 (∀{P:Prop},(P/\True)=P) /\
 (∀{α:Type}{a:α},(a=a)=True) /\
 (∀{b:Bool},(b||true)=true) /\
 (∀{α:Type}{a b:α},(if True then a else b)=a) /\
 (∀{α:Type}{a b:α},(if False then a else b)=b) /\
 (∀{p:Prop} [Decidable p],(decide p=true)=p) /\
 ((true=false)=False) /\
 ((false=true)=False) /\
 (∀{b:Bool},((!b)=true)=(b=false)) /\
 (∀{p:Prop} [Decidable p],(decide p=false)=¬p) /\
 (type_of%@fm) /\
 (∀{α:Type}{p:Prop} [Decidable p]{a b:α},dP (decide p) a b=if p then a else b) /\
 (∀{p:Prop} [Decidable p]{a b:Prop},dP (decide p) a b=if p then a else b) /\
 (∀{b:Bool}{p q:Prop},dP b p q=if b=true then p else q) /\
 (∀{α:Type}{b:Bool}{p q:α},dP b p q=if b=true then p else q):=
 ⟨(by intro o E i;unfold bR aB;generalize (o::E)[i]?=z;rcases z with _|_|⟨k,d⟩<;>rfl),(by intros;simp),(by intros;simp),(by intros;simp),(by intros;simp),(by intros;simp),(by intros;simp),(by intros;simp),(by intros;simp),(by intros;simp),(by intros;simp),(by intros;simp),@fm,(by intros;rw[cG];simp only[Sf]),(by intros;rw[cG];simp only[Sf]),(by intros;exact cG),(by intros;exact cG)⟩
def pg{x:PyData}{l:WN}:dM (x::l) 0=some x:=by unfold dM kC;simp
def Ql{x y:PyData}{l:WN}:dM (x::y::l) 1=some y:=by unfold dM kC;simp;rw[if_pos (by lia)];rfl
def QF{n:Nat}:jo (n+1) 0=some 0:=by unfold jo;simp
def O5{n:Nat}:jo (n+2) 1=some 1:=by unfold jo;simp;lia
theorem rr123:dW [.int a,.int b] P=P .sh (.int (a+b)):=rfl
theorem rr124:dW [.list a,.list b] P=(a.length+b.length<=sizeLine/\P (.ow false) (.list (a++b))):=rfl
theorem rr125:dW [.tuple a,.tuple b] P=((a≠[]/\a.length+b.length<=sizeLine)/\P .sh (.tuple (a++b))):=rfl
theorem rr126:i7 [.int a,.int b] P=P .sh (.int (a-b)):=rfl
theorem rr127:iC [.int a,.int b] P=(uC a b/\P .sh (.int (a*b))):=rfl
theorem rr128:iC [.list a,.int k] P=((-(2^63)<=k/\k<2^63/\a.length*k.toNat<=sizeLine)/\P (.ow false) (.list (List.replicate k.toNat a).flatten)):=rfl
theorem rr129:qR [.int a,.int b] P=(0<b/\P .sh (.int (a%b))):=rfl
theorem rr130:F8 [.int a,.int b] P=(AU a b/\P .sh (.int (a/b))):=rfl
theorem rr131:rB [.int a,.int b] P=(uf a b/\P .sh (.int (a^b.toNat))):=rfl
theorem rr132:sI [.int a,.int b] P=P .sh (.bool (decide (a<b))):=rfl
theorem rr133:Qk [.int a,.int b] P=P .sh (.bool (decide (a<=b))):=rfl
theorem rr134:vz [.int a,.int b] P=P .sh (.bool (decide (b<a))):=rfl
theorem rr135:IB [.int a,.int b] P=P .sh (.bool (decide (b<=a))):=rfl
theorem rr136:iP [.int a] P=P .sh (.int (-a)):=rfl
theorem rr137:f9 [.int a,.int b] P=P .sh (.bool (decide (a=b))):=rfl
theorem rr138:f9 [.str a,.str b] P=P .sh (.bool (decide (a=b))):=rfl
theorem rr139:pH [.int a,.int b] P=P .sh (.bool !(decide (a=b))):=rfl
theorem rr140:pH [.str a,.str b] P=P .sh (.bool !(decide (a=b))):=rfl
theorem rr141:f9 [.list a,.list b] P=((dl 8 (.list a)=true/\dl 8 (.list b)=true)/\P .sh (.bool (decide (PyData.list a=.list b)))):=rfl
theorem rr142:pH [.list a,.list b] P=((dl 8 (.list a)=true/\dl 8 (.list b)=true)/\P .sh (.bool !(decide (PyData.list a=.list b)))):=rfl
theorem rr143:aW [.list xs,.int i] P=aD (atK xs i) (P .sh):=rfl
theorem rr144:aW [.tuple xs,.int i] P=aD (atK xs i) (P .sh):=rfl
theorem rr145:gc [.list xs] P=P .sh (.int xs.length):=rfl
theorem rr146:gc [.tuple xs] P=P .sh (.int xs.length):=rfl
theorem rr147:nv [.list xs] P=P (.ow false) (.list xs):=rfl
theorem rr148:nv [.tuple xs] P=P (.ow false) (.list xs):=rfl
theorem rr149:jy [.list xs] P=P .sh (.tuple xs):=rfl
theorem rr150:jy [.tuple xs] P=P .sh (.tuple xs):=rfl
theorem rr151:sF [.int a,.int b] P=P .sh (.int (if b<a then b else a)):=rfl
theorem rr152:r9 [.int a,.int b] P=P .sh (.int (if b>a then b else a)):=rfl
theorem rr153:wQ [.int a] P=P .sh (.int (if a<0 then-a else a)):=rfl
theorem rr154:mF [.int a] P=P .sh (.int a):=rfl
theorem rr155:mF [.bool b] P=P .sh (.int (if b=true then 1 else 0)):=rfl
theorem rr156:lX [.int j] P=((0<=j/\j<=1000)/\P (.ow false) (.list (jP 0 j.toNat))):=rfl
theorem rr157:cV ds P=(ds.length<=sizeLine/\P (.ow false) (.list ds)):=rfl
theorem rr158:cY ds P=(ds.length<=sizeLine/\P .sh (.tuple ds)):=rfl
theorem rr159:qi false false [.list xs] P=P (.ow false) (.list (cutD xs none none)):=rfl
theorem rr160:qi true false [.list xs,.int a] P=P (.ow false) (.list (cutD xs (some a) none)):=rfl
theorem rr161:qi false true [.list xs,.int b] P=P (.ow false) (.list (cutD xs none (some b))):=rfl
theorem rr162:qi true true [.list xs,.int a,.int b] P=P (.ow false) (.list (cutD xs (some a) (some b))):=rfl
theorem rr163:qi false true [.tuple xs,.int b] P=P .sh (.tuple (cutD xs none (some b))):=rfl
theorem rr164:ju [.int j]=@ite _ (-(2^62)<=j/\j<2^62) (Classical.propDecidable _) (some (jP 0 j.toNat)) none:=rfl
theorem rr165:sr [.int i,.int j]=@ite _ (-(2^62)<=i/\i<2^62/\-(2^62)<=j/\j<2^62) (Classical.propDecidable _) (some (jP i (j-i).toNat)) none:=rfl
theorem rr166:QB c [d] P=aD (xO d) λt=>P .sh (.bool (lG c t)):=rfl
theorem rr167:xO (.int i)=some "int":=rfl
theorem rr168:xO (.tuple i)=some "tuple":=rfl
theorem rr169:xO (.list i)=some "list":=rfl
theorem rr170:xO (.bool b)=some "bool":=rfl
theorem rr171:xO .none=some "NoneType":=rfl
theorem rr172:lG "int" "int"=true:=rfl
theorem rr173:lG "int" "tuple"=false:=rfl
theorem rr174:lG "tuple" "int"=false:=rfl
theorem rr175:lG "tuple" "tuple"=true:=rfl
theorem rr176:lG "bool" "int"=false:=rfl
theorem rr177:lG "list" "list"=true:=rfl
theorem rr178:lG "int" "NoneType"=false:=rfl
theorem rr179:lG "tuple" "NoneType"=false:=rfl
theorem rr180:cz ds [d] P=(ds.length<sizeLine/\P (ds++[d]) .none):=rfl
theorem rr181:qb ds [.list es] P=(ds.length+es.length<=sizeLine/\P (ds++es) .none):=rfl
theorem rr182:rL ds [] P=∃d,ds[ds.length-1]?=some d/\P ds.dropLast d:=rfl
theorem rr183:rL ds [.int i] P=((-(2^63)<=i/\i<2^63)/\∃n d,seqIndex? i ds.length=some n/\ds[n]?=some d/\P (ds.eraseIdx n) d):=rfl
theorem rr184:cS (.nm i) d E=bJ [i] [d] E:=rfl
theorem rr185:cS (.tp is) (.tuple ds) E=bJ is ds E:=rfl
theorem rr186:bJ [] [] E=some E:=rfl
theorem rr187:br [] E=some E:=rfl
theorem rr188:fP.setI (o::E) i w v Q=match(o::E)[i]?,w with
  |some (some (.ow p,.list ds)),.int a=>aD (yz ds.length a) λn=>Q ((o::E).set i (some (.ow p,.list (ds.set n v))))
  |some (some (.dk p,.dict kvs)),w=>(jv w=true/\kvs.length<16777216)/\Q ((o::E).set i (some (.dk p,.dict (putD kvs w v))))
  |some (some (.dt p,.dict (_::kvs))),.tuple ks=>(ks.all jv=true/\kvs.length<16777216)/\Q ((o::E).set i (some (.dt p,.dict ((.none,.none)::putD kvs (.tuple ks) v))))
  |_,_=>False:=rfl
theorem rr189:EI ms as (o::E) us k v Q=aD (jC ms as us (o::E)) λE2=>aD (sN ms as us E2 k v) λE3=>Q E3 k v:=rfl
theorem rr190:jC [] [] [] E=some E:=rfl
theorem rr191:jC (false::ms) (a::r) us E=jC ms r us E:=rfl
theorem rr192:jC (true::ms) (.pk i::r) (u::us) (o::E)=match(o::E)[i]? with
  |some (some (.ow p,.list _))=>dP (AO u) (jC ms r us ((o::E).set i (some (.ow p,u)))) none
  |_=>none:=rfl
theorem rr193:AO (.list l)=true:=rfl
theorem rr194:sN ms as us (o::E) k v=dP ((kept ms as).all (jE (o::E))||(flat k v&&us.all (flat (.ow false)))) (some (o::E)) (jl (kept ms as) (o::E)):=rfl
theorem rr195:kept [] []=[]:=rfl
theorem rr196:kept (false::ms) (.pk i::r)=i::kept ms r:=rfl
theorem rr197:kept (false::ms) (.ev d::r)=kept ms r:=rfl
theorem rr198:kept (true::ms) (a::r)=kept ms r:=rfl
theorem rr199:sQ ms as (o::E)=(shape ms as&&oz (lent ms as) (kept ms as) (o::E)):=rfl
theorem rr200:lent [] []=[]:=rfl
theorem rr201:lent (true::ms) (.pk i::r)=i::lent ms r:=rfl
theorem rr202:lent (false::ms) (a::r)=lent ms r:=rfl
theorem rr203:shape [] []=true:=rfl
theorem rr204:shape (true::ms) (.pk i::r)=shape ms r:=rfl
theorem rr205:shape (false::ms) (a::r)=shape ms r:=rfl
theorem rr206:∀{α:Type},([]:List α).length=0:=rfl
theorem rr207:∀{α:Type}{a:α}{l:List α},(a::l).length=l.length+1:=rfl
theorem rr208:sizeLine=16777216:=rfl
theorem rr209:∀{f:DE->Arg},List.map f []=[]:=rfl
theorem rr210:∀{f:DE->Arg}{a:DE}{l:List DE},List.map f (a::l)=f a::List.map f l:=rfl
theorem rr211:atK (x::l) 0=some x:=rfl
theorem rr212:atK (x::y::l) 1=some y:=rfl
theorem rr213:yz (n+1) 0=some 0:=rfl
theorem rr214:yz (n+2) 1=some 1:=rfl
theorem rr215:yz (n+1+1) 1=some 1:=rfl
def Mh:(∀{x:PyData}{l:WN},dM (x::l) 0=some x)/\(∀{x y:PyData}{l:WN},dM (x::y::l) 1=some y)/\(∀{n:Nat},jo (n+1) 0=some 0)/\(∀{n:Nat},jo (n+2) 1=some 1)/\(∀{n:Nat},jo (n+1+1) 1=some 1)/\(∀{P:Kd->PyData->Prop},fc false [.none,.none] P=P .sh (.bool true))/\(∀{P:Kd->PyData->Prop},fc true [.none,.none] P=P .sh (.bool false))/\(∀{i:Int}{P:Kd->PyData->Prop},fc false [.int i,.none] P=P .sh (.bool false))/\(∀{i:Int}{P:Kd->PyData->Prop},fc true [.int i,.none] P=P .sh (.bool true))/\(∀{i:WN}{P:Kd->PyData->Prop},fc false [.tuple i,.none] P=P .sh (.bool false))/\(∀{i:WN}{P:Kd->PyData->Prop},fc true [.tuple i,.none] P=P .sh (.bool true))/\(∀{d:PyData}{xs:WN}{P:Kd->PyData->Prop},dF false [d,.list xs] P=((xs.all (dl 8)=true/\dl 8 d=true)/\P .sh (.bool (decide (d∈xs)))))/\(∀{d:PyData}{xs:WN}{P:Kd->PyData->Prop},dF true [d,.list xs] P=((xs.all (dl 8)=true/\dl 8 d=true)/\P .sh (.bool !(decide (d∈xs)))))/\(∀{d:PyData}{xs:WN}{P:Kd->PyData->Prop},dF false [d,.tuple xs] P=((xs.all (dl 8)=true/\dl 8 d=true)/\P .sh (.bool (decide (d∈xs)))))/\(∀{d:PyData}{xs:WN}{P:Kd->PyData->Prop},dF true [d,.tuple xs] P=((xs.all (dl 8)=true/\dl 8 d=true)/\P .sh (.bool !(decide (d∈xs)))))/\(∀{i:Nat}{is:WZ}{d:PyData}{ds:WN}{o:Option (Kd×PyData)}{E:En},bJ (i::is) (d::ds) (o::E)=if bR (o::E) i then bJ is ds ((o::E).set i (some (.sh,d)))else none)/\(∀{i:Nat}{r:WZ}{o:Option (Kd×PyData)}{E:En},br (i::r) (o::E)=if bR (o::E) i then br r ((o::E).set i none)else none)/\(∀{i:Nat},List.contains [] i=false)/\(∀{i j:Nat}{l:WZ},List.contains (j::l) i=(i==j||List.contains l i))/\(∀{α:Type},(([]:List α).Nodup)=True)/\(∀{i:Nat},([i]:WZ).Nodup=True)/\type_of%@sW/\type_of%@xE:=
 ⟨pg,Ql,QF,O5,O5,(by simp[fc]),(by simp[fc]),(by simp[fc]),(by simp[fc]),(by simp[fc]),(by simp[fc]),(by intro d xs P;cases d<;>rfl),(by intro d xs P;cases d<;>rfl),(by intro d xs P;cases d<;>rfl),(by intro d xs P;cases d<;>rfl),rfl,rfl,(by intros;simp),(by intros;rw[Ug]),(by intros;simp),(by intros;simp),@sW,@xE⟩
def dx:=aI @rr123<|aI @rr124<|aI @rr125<|aI @rr126<|aI @rr127<|aI @rr128<|aI @rr129<|aI @rr130<|aI @rr131<|aI @rr132<|aI @rr133<|aI @rr134<|aI @rr135<|aI @rr136<|aI @rr137<|aI @rr138<|aI @rr139<|aI @rr140<|aI @rr141<|aI @rr142<|aI @rr143<|aI @rr144<|aI @rr145<|aI @rr146<|aI @rr147<|aI @rr148<|aI @rr149<|aI @rr150<|aI @rr151<|aI @rr152<|aI @rr153<|aI @rr154<|aI @rr155<|aI @rr156<|aI @rr157<|aI @rr158<|aI @rr159<|aI @rr160<|aI @rr161<|aI @rr162<|aI @rr163<|aI @rr164<|aI @rr165<|aI @rr166<|aI @rr167<|aI @rr168<|aI @rr169<|aI @rr170<|aI @rr171<|aI @rr172<|aI @rr173<|aI @rr174<|aI @rr175<|aI @rr176<|aI @rr177<|aI @rr178<|aI @rr179<|aI @rr180<|aI @rr181<|aI @rr182<|aI @rr183<|aI @rr184<|aI @rr185<|aI @rr186<|aI @rr187<|aI @rr188<|aI @rr189<|aI @rr190<|aI @rr191<|aI @rr192<|aI @rr193<|aI @rr194<|aI @rr195<|aI @rr196<|aI @rr197<|aI @rr198<|aI @rr199<|aI @rr200<|aI @rr201<|aI @rr202<|aI @rr203<|aI @rr204<|aI @rr205<|aI @rr206<|aI @rr207<|aI @rr208<|aI @rr209<|aI @rr210<|aI @rr211<|aI @rr212<|aI @rr213<|aI @rr214<|aI @rr215<|@Mh
end Dv
namespace L2
open PySem PySem.Spec PyProof.Rows
def Dy{K:WJ}{mb:WC}{CX:kO}{k:Nat}{fa a:Addr}{sp:Sp}{s₁:Shared}{vs:WQ}{ns:Wa}(KX:K.In s₁.heap)(hns:s₁.heap.Ns mainGlobals mg)(hb:s₁.heap.Ns builtinsNs mb)(hbb:∀x:Str,x≠"__name__"->mb x=bootBuiltins x)(hlim:s₁.heap.NoLimit)(hg:s₁.gens=#[])(ha:s₁.heap.get? a=some { cls:=.type "list",data:=.seq vs.toArray })(hi:IntsAre vs ns)(hl:ns.length<=sizeLine)(hr:cC k callerA)(F:∀base:Heap,K.In base->base.Ns mainGlobals mg->dX P w K mg base CX k fa fd [x] sp)(hbind:∀(s:Shared)(u:Value),BindsTo s fd ⟨[u],[]⟩ [(x,u)])(hsp:∀H:Hp,GU H->Dv.cT K H a (ns.map V.int)->sp [.ref a] H (λv _=>v=.bl true) λ_ _ _=>False)(hCX:∀H e s',CX [] H s₁ (λ_ _ _=>False) e s'->False) : codeAny (model P w) callerA (.call (.ref fa) ⟨[.ref a],[]⟩) (λr s'=>r=.ok (.ret (.bool true))/\OldK s₁.heap s'.heap/\s'.os=s₁.os/\AllBare s'.gens) s₁:=by
 have rv:=vt hi;have yu:=hi.length
 -- from an abstract heap in which nothing but the script may be tracked
 have core:∀H:Hp,GU H->Dv.cT K H a (ns.map V.int)->dH P w H s₁.heap->(∀b,H b≠none->b=a)->(H a≠none->K.lookup a=none)->
   codeAny (model P w) callerA (.call (.ref fa) ⟨[.ref a],[]⟩) (λr s'=>r=.ok (.ret (.bool true))/\OldK s₁.heap s'.heap/\s'.os=s₁.os/\AllBare s'.gens) s₁:=by
  intro H hO hS hok hA hK;have base_of:∀{b:Addr}{o:Obj},s₁.heap.get? b=some o->H b=none->(nk s₁.heap H).get? b=some o:=λe n=>Gm e n
  have noA:∀{b:Addr}{o:Obj}{es:Array DictEntry}{ep:Nat},s₁.heap.get? b=some o->o.data=.dict es ep->H b=none:=λ{b o es ep} e d=>by
   cases q:H b with
   |none=>rfl
   |some u=>
    have e':b=a:=hA b (by rw[q];simp)
    subst e';rw[ha]at e;cases e;have d':Data.seq vs.toArray _=Data.dict es ep:=d;cases d'
  have nsK:∀{b:Addr}{m:WC},s₁.heap.Ns b m->(nk s₁.heap H).Ns b m:=λ{b m} ⟨o,es,ep,e,d,r⟩=>⟨o,es,ep,base_of e (noA e d),d,r⟩
  have hKb:K.In (nk s₁.heap H):=λb o e=>base_of (KX b o e) (by
   cases q:H b with
   |none=>rfl
   |some u=>
    have e':b=a:=hA b (by rw[q];simp)
    subst e';rw[hK (by rw[q];simp)]at e;cases e)
  have hM:Mod K mg (nk s₁.heap H):=⟨hKb,nsK hns,⟨mb,nsK hb,hbb⟩,let⟨mc,h1,h2⟩:=hlim;⟨mc,nsK h1,h2⟩⟩
  have e0:qL P w K mg (nk s₁.heap H) callerA [] s₁ H:=⟨rfl,hM,λb o e=>JG e,TF (CB _ _),trivial,λb hb=>absurd (show b∈([]:WU)from hb) (by simp),hok,.of_eq hg⟩
  refine Sk ((F _ hKb (nsK hns)).run callerA [] s₁ H ⟨[.ref a],[]⟩ [.ref a] [.ref a] _ _ hr e0 (hbind s₁ (.ref a)) (.cons rfl .nil) (hsp H hO hS)) λr s' h=>?_
  cases r with
  |error e=>exact(hCX H e s' h).elim
  |ok fl=>
   cases fl with
   |next=>exact False.elim h
   |brk=>exact False.elim h
   |cont=>exact False.elim h
   |ret u=>
    obtain⟨v,H',os,bare,un,hok',r',q⟩:=h;have q':v=.bl true:=q;subst q';obtain rfl:u=Value.bool true:=r';refine⟨rfl,OldK.of_keep λb o e=>?_,os,bare⟩
    cases q:H b with
    |none=>exact un.keep b o e q (by intro z;exact absurd (show b∈([]:WU)from z) (by simp)) (by simp)
    |some u=>
     rcases hO b with z|⟨ob,xs,z⟩
     .rw[q]at z;cases z
     .have z2:=un.jd b ob _ z;obtain⟨e1,_⟩:=hok b _ z;obtain⟨e2,_⟩:=hok' b _ z2;rw[e]at e1;cases e1;exact e2
 cases hk:K.lookup a with
 |some o=>
  -- the script is one of the module's own objects
  have e:=KX a o hk;rw[ha]at e;cases e;refine core (λ_=>none) (λ_=>.inl rfl) (.inr ⟨vs,_,hk,by rw[yu];exact hl,rv⟩) (λb u z=>by have z':(none:Option HO)=some u:=z;cases z') (λb z=>absurd rfl z) λz=>absurd rfl z
 |none=>
  refine core (λb=>if b=a then some (.ig { cls:=.type "list",data:=.seq vs.toArray } (.lst (ns.map V.int)))else none) (λb=>?_) (.inl (.inr ⟨{ cls:=.type "list",data:=.seq vs.toArray },if_pos rfl⟩)) (λb u z=>?_) (λb z=>?_) λ_=>hk
  .by_cases hb:b=a
   .exact .inr ⟨_,_,if_pos hb⟩
   .exact .inl (if_neg hb)
  .by_cases hb:b=a
   .have z':=(if_pos hb).symm.trans z;cases z';subst hb;exact⟨ha,by rw[Q7];exact hl,vs,_,rv,ha⟩
   .have z':=(if_neg hb).symm.trans z;cases z'
  .by_cases hb:b=a
   .exact hb
   .exact absurd (if_neg hb) z
def Mn{l:PySem.W.OpenLaw}{n k:Nat}{YP:World->Heap->Prop}{d:DefRec}{K:Params->WJ}{CX:World->kO}{sp:World->Sp}(hn:l.most=some n)(hn2:n<=sizeLine)(hdf:d.params.defaults=[])(hr:cC k callerA)(hY:∀(w:World)(h:Heap),YP w h->(K w.params).In h)(F:∀(w:World)(mg:WC)(fa:Addr)(h:Heap),(K w.params).In h->h.Ns mainGlobals mg->mg d.name=some (.ref fa)-> ∃fd:FuncData,(∀(s:Shared)(u:Value),BindsTo s fd ⟨[u],[]⟩ [(x,u)]) /\ ∀base:Heap,(K w.params).In base->base.Ns mainGlobals mg->dX l.prog w (K w.params) mg base (CX w) k fa fd [x] (sp w))(hsp:∀(w:World)(H:Hp)(a:Addr)(ns:Wa),ns.length<=n->GU H->Dv.cT (K w.params) H a (ns.map V.int)->sp w [.ref a] H (λv _=>v=.bl true) λ_ _ _=>False)(hCX:∀(w:World)(H:Hp)(s:Shared)(e:Value)(s':Shared),CX w [] H s (λ_ _ _=>False) e s'->False) : PySem.W.WalkO q loose XP YP l.row.toRowW d [] (λf vs=>PySem.call f vs):=by refine OY.zy hn hdf λw s₀ s₁ mg mb fa o pm cd doc a vs ns G Wd ho hd hcd hmg hobj hints hlen hg=>?_;have KX:=hY w _ Wd;obtain⟨fd,hb,hF⟩:=F w mg fa _ KX G.T.g hmg;exact Dy KX G.T.g G.T.b G.T.builtins G.T.nolimit hg hobj hints (RM hlen hn2) hr hF hb (λH hO hS=>hsp w H a ns hlen hO hS) λH e s'=>hCX w H s₁ e s'
end L2
namespace Dv
open PySem L2 PySem.W
inductive zU(K:Frag)(vs:List V)(H:Hp)(Q:VK):Prop
 |mk:∀(a:Addr)(ns:Wa),(vs=[.ref a])->(cT K H a (ns.map V.int))->(ns.length<=63)->(∀H',Q (.bl true) H')->zU K vs H Q
def Cq (K:Frag):Sp:=λvs H Q _E3=>zU K vs H Q
noncomputable def uL:dS:=λds Q x=>∃ns:Wa,ds=[.list (ns.map .int)]/\ns.length<=63/\Q [] .sh (.bool true)
def Jp(h:Cq K vs H Q E):eO mg K [false] uL vs H Q E:=by
 obtain⟨a,ns,rfl,r,hl,q⟩:=h;refine⟨[.list (ns.map .int)],[],H,λ_ _ r=>r=.bool true,xF,af.refl _,.sh (.lst r (rD ns)) .nil,⟨ns,rfl,hl,rfl⟩,λus k r u H' Hm' fp e _ _ _ _ _ o _=>?_,λ_ _ _ _ _ _ z=>z.elim⟩;cases e;cases o with
 |sh h=>cases h;exact q H'
def Cr{l:OpenLaw}{YP:World->Heap->Prop}{d:DefRec}{K:Params->Frag}{k:Nat}(hn:l.most=some 63)(hdf:d.params.defaults=[])(hr:cC k callerA)(hY:∀(w:World)(h:Heap),YP w h->(K w.params).In h)(F:∀(w:World)(mg:WC)(fa:Addr)(h:Heap),(K w.params).In h->h.Ns mainGlobals mg->mg d.name=some (.ref fa)-> ∃fd:FuncData,(∀(s:Shared)(u:Value),BindsTo s fd ⟨[u],[]⟩ [("script",u)])/\∀base:Heap,(K w.params).In base->base.Ns mainGlobals mg->dX l.prog w (K w.params) mg base (cH l.prog w) k fa fd ["script"] (eO mg (K w.params) [false] uL)) : WalkO q loose XP YP l.row.toRowW d [] (λf vs=>PySem.call f vs):=
 L2.Mn (n:=63) (k:=k) (x:="script") (CX:=λw=>cH l.prog w) (sp:=λw=>Cq (K w.params)) hn (by decide) hdf hr hY (λw mg fa h h1 h2 h3=>by
  obtain⟨fd,hb,hF⟩:=F w mg fa h h1 h2 h3;exact⟨fd,hb,λbase g1 g2=>(hF base g1 g2).imp λvs H Q E z=>Jp z⟩) (λ_ _ a ns hl _ hS=>⟨a,ns,rfl,hS,hl,λ_=>rfl⟩) λw H s e s' z=>by
  obtain⟨_,_,_,_,_,_,_,_,_,_,_,_,_,_,_,z⟩:=z;exact z.elim
noncomputable def prs {α:Type}:List α->Option (List (α×α))
 |[]=>some []
 |k::v::r=>(prs r).map ((k,v)::·)
 |[_]=>none
def Ef (kvs:Vy):Vy:=kvs.foldl (λacc kv=>putD acc kv.1 kv.2) []
noncomputable def sL:DR:=λds P=>∃kvs,prs ds=some kvs/\(kvs.all λkv=>jv kv.1)=true/\kvs.length<=15/\P (.dk false) (.dict (Ef kvs))
section
variable{K:Frag}{g:Gh}{E:En}{U:St}{H H' Hm Hm':Hp}{F:Nat->WU}
def Rl.OM(R:Rl K g E U H Hm F){p:Addr}(A:mC g F H Hm [p]):Rl K g E U (upd H p o) Hm F where
 len:=R.len
 sub:=λb u e=>by
  have:b≠p:=λz=>by rw[z,A.off p Q6]at e;cases e
  rw[ah this];exact R.sub _ _ e
 slot:=λi k d e=>by
  obtain⟨v,h1,h2⟩:=R.slot i k d e;exact⟨v,h1,h2.step (af.refl _) λa ha=>ah λz=>A.aQ p Q6 i (z▸ha)⟩
 off:=R.off
 bu:=λi a ha=>by
  obtain⟨u,hu,n⟩:=R.bu i a ha;have ne:a≠p:=λz=>A.aQ p Q6 i (z▸ha)
  exact⟨u,by rw[ah ne];exact hu,n⟩
 aQ:=R.aQ
 fr:=λq o hq ho=>by
  have:q≠p:=λz=>by rw[z,A.new p Q6]at ho;cases ho
  rw[ah this];exact R.fr q o hq ho
 new:=R.new
 pin:=R.pin
 old:=R.old
def CJ(r:au K H vs ds)(e:prs ds=some kvd)(hk:(kvd.all λkv=>jv kv.1)=true):∃kvs:List (Key×V),prs vs=some (kvs.map λkv=>(kV kv.1,kv.2))/\dg K H kvs kvd:=by
 induction kvd generalizing vs ds with
 |nil=>
  cases r with
  |nil=>exact⟨[],rfl,.nil⟩
  |cons h r=>
   cases r with
   |nil=>cases e
   |cons h2 r=>simp only[prs]at e;obtain⟨rest,e1,e2⟩:=Rt.mp e;cases e2
 |cons kv kvd ih=>
  cases r with
  |nil=>cases e
  |cons h r=>
   cases r with
   |nil=>cases e
   |cons h2 r=>simp only[prs]at e;obtain⟨rest,e1,e2⟩:=Rt.mp e;cases e2;rw[QY,Q9]at hk;obtain⟨k,ek⟩:=j5 hk.1;obtain⟨kvs,e2,q⟩:=ih r e1 hk.2;cases ek;rw[lW h];exact⟨(k,_)::kvs,by simp only[prs,e2];rfl,.cons h2 q⟩
theorem dg.length(h:dg K H kvs ds):kvs.length=ds.length:=by
 induction kvs generalizing ds with
 |nil=>cases h;rfl
 |cons kv kvs ih=>cases h with|cons a b=>exact congrArg (·+1) (ih b)
theorem sX:∀(kvs:List (Key×V)){kvd:Vy}{acc:List (Key×V)}{accd:Vy},dg K H kvs kvd->dg K H acc accd->dg K H (j9 acc kvs) (kvd.foldl (λacc kv=>putD acc kv.1 kv.2) accd)
 |[],kvd,_,_,r,h=>by cases r;exact h
 | (k,v)::kvs,kvd,_,_,r,h=>by
  cases r with
  |cons r t=>have:=sX kvs t (h.put k r);exact this
end
section
variable{X:Cx}{Ex:XK}{Y:WZ}
def WE.mono(h:WE X e U H Q)(q:∀v H,Q v H->Q' v H):WE X e U H Q':=λpins s I=>aH (h pins s I) λu s1 ⟨x,H1,I1,rx,q1⟩=>⟨x,H1,I1,rx,q _ _ q1⟩
theorem uG:∀{qs:List (Expr×Expr)}{H:Hp}{Q Q':List (V×V)->Hp->Prop},l7 (qs.map λq=>(WE X q.1,WE X q.2)) U H Q->(∀ps H,Q ps H->Q' ps H)->l7 (qs.map λq=>(WE X q.1,WE X q.2)) U H Q'
 |[],_,_,_,h,q=>q _ _ h
 |_::qs,_,_,_,h,q=>WE.mono h λ_ _ h1=>WE.mono h1 λ_ _ h2=>uG (qs:=qs) h2 λ_ _ h3=>q _ _ h3
theorem Ds:∀{ks vs:WX}{pos:Pos},ks.length=vs.length->CF X pos (ks.map some) vs ((ks.zip vs).map λq=>(WE X q.1,WE X q.2))
 |[],[],_,_=>Jy
 |k::ks,v::vs,_,h=>Fd cN cN (Ds (by simpa using h))
theorem wG:∀{ks vs es:WX}{H:Hp}{Q:List V->Hp->Prop},ks.length=vs.length->prs es=some (ks.zip vs)->uP X es U H Q->l7 ((ks.zip vs).map λq=>(WE X q.1,WE X q.2)) U H λps H1=>∃us,prs us=some ps/\Q us H1
 |[],[],es,H,Q,_,e,h=>by
  match es,e with
  |[],_=>exact⟨[],rfl,h⟩
  |[_],e=>cases e
  |_::_::r,e=>simp only[prs]at e;obtain⟨_,_,z⟩:=Rt.mp e;cases z
 |k::ks,v::vs,es,H,Q,hl,e,h=>by
  match es,e with
  |[],e=>cases e
  |[_],e=>cases e
  |a::b::r,e=>simp only[prs]at e;obtain⟨rest,e1,z⟩:=Rt.mp e;cases z;refine WE.mono h λx H1 h1=>WE.mono h1 λy H2 h2=>?_;have:=wG (ks:=ks) (vs:=vs) (es:=r) (H:=H2) (Q:=λus H3=>Q (x::y::us) H3) (by simpa using hl) e1 h2;refine uG this λps H3=>?_;rintro⟨us,e2,q⟩;exact⟨x::y::us,by simp only[prs,e2];rfl,q⟩
def Kz(S:aV X Ex Y es as)(hl:ks.length=vs.length)(he:prs es=some (ks.zip vs))(h0:ks≠[])(h15:ks.length<=15)(hp:gB as=[]):SE X Ex Y (.Dict (ks.map some) vs pos) (aa sL as):=by
 intro g x E U H Hm F P Q hx R h q;refine WE.of (Kl (Ds hl) (by rw[TN];exact QW.mpr λ_ _=>rfl) (by rw[Q7];exact hl) (λz=>h0 (List.map_eq_nil_iff.mp z)) (by rw[Q7];exact h15)) ?_;intro p hp0;have sH:=aG (o:=.dK []) hp0;have R1:=R.grow (H':=upd H p (.dK [])) sH (af.refl _) (R.sub.trans sH) (λi a ha=>R.off i a ha) λ_ _=>.inl rfl;have A:mC g F (upd H p (.dK [])) Hm [p]:=⟨λa ha=>by rw[QS.mp ha];exact⟨_,ao,sY⟩,λa ha=>by rw[QS.mp ha];exact R.oW hp0,λa ha i=>by rw[QS.mp ha];exact R.fresh hp0,λa ha=>by rw[QS.mp ha];exact R.gO hp0⟩;have nM:=A.notM R1;refine uG (wG hl he (kE (hx.ff A) S (R1.ff A) h (Q:=λus H2=>H2 p=some (.dK [])/\∀ps,prs us=some ps->∃kvs:List (Key×V),ps=kvs.map (λkv=>(kV kv.1,kv.2))/\kvs.length<=15/\Q (.ref p) (upd H2 p (.dK (j9 [] kvs)))) λE1 os us H1 Hm1 F1 pp R2 s1 G=>?_)) λps H2 ⟨us,e,h1,h2⟩=>⟨h1,h2 ps e⟩;replace pp:sA sL as E1 os P:=pp;unfold sA at pp;rw[<-bg,fh]at pp;obtain⟨ds,hf,kvd,e1,e2,e3,pp⟩:=pp;rw[<-bg,tR]at pp;obtain⟨E2,ha,pq⟩:=pp;have MF:au X.K Hm1 us ds:=pR R2 (af.refl _) G hf λi hi=>by rw[hp]at hi;cases hi
 obtain⟨R3,A3,keep⟩:=Rl.tE A nM R2;obtain⟨kvs,e4,kv⟩:=CJ MF e1 e2;have hE:E2=E1:=by unfold MY at ha;rw[hp]at ha;have:dO [] E1=some E1:=rfl;split at ha;{cases ha;rfl};rw[this]at ha;cases ha;rfl
 subst hE;refine⟨(keep p Q6).trans ao,λps ep=>⟨kvs,?_,by rw[kv.length];exact e3,?_⟩⟩;{rw[e4]at ep;cases ep;rfl};exact q _ _ _ _ _ Hm1 F1 [p] pq (R3.OM A3) s1 ⟨.dk ao (sX kvs kv .nil),λa ha=>A3.off a ha,λa ha i=>A3.aQ a ha i,λa ha=>A3.new a ha⟩
end
section
variable{X:Cx}{Ex:XK}{Y:WZ}
def C0(S:aV X Ex Y [k,v] as)(hp:gB as=[]:=by rfl):SE X Ex Y (.Dict [some k] [v] pos) (aa sL as):=Kz (ks:=[k]) (vs:=[v]) S rfl rfl (Vk _ _) (Nat.le_of_ble_eq_true rfl) hp
end
noncomputable def Rec (K:Frag) (x:Str)(st:Stmt):Prop:=∃(f:Addr)(fd:FuncData),nsIn K mainGlobals x=some (some (.ref f))/\lU K x x st f fd
def Ma{K:Frag}{x:Str}{st:Stmt}{f:Addr}{oc:Value}{od an:WO}{osl:Vz}{kV doc pm cdv ct:Value}(n:nsIn K mainGlobals x=some (some (.ref f)))(l:K.lookup f=some ⟨oc,od,.func (fnOf x x (jc st) (eK st) (av st) .none kV doc pm an cdv ct),osl⟩)(c:codeIn K cdv x=true)(k:keepIn K (.ref f)=true):Rec K x st:=⟨f,_,n,CT l c k⟩
noncomputable def K1 (K:Frag) (x:Str):Prop:=∃C,nsIn K mainGlobals x=some (some (.ref C))/\dN K C g8 "ValueError.__new__" none=true
def Jz{K:Frag}{x:Str}{C:Addr}(h1:nsIn K mainGlobals x=some (some (.ref C)))(h2:dN K C g8 "ValueError.__new__" none=true):K1 K x:=⟨C,h1,h2⟩
def dh{P:Program}{w:World}{K:Frag}{base:Heap}{mg:WC}{k:Nat}{x:Str}{ps:Wb}{sp:Sp}{st:Stmt}(N:∃h:Heap,K.In h/\h.Ns mainGlobals mg)(r:Rec K x st)(b:∀(kV doc pm:Value)(an:WO)(cdv ct:Value)(us:WQ),us.length=ps.length->bindArgs (fnOf x x (jc st) (eK st) (av st) .none kV doc pm an cdv ct) ⟨us,[]⟩=pure (ps.zip us))(ok:∀{f:Addr}{fd:FuncData},lU K x x st f fd->dX P w K mg base (cH P w) k f fd ps sp):dB P w K mg base k x ps sp:=by obtain⟨f,fd,n,F⟩:=r;obtain⟨h,X,G⟩:=N;exact⟨f,fd,mg_of X G n,F.kp,F.binds b,ok F⟩
end Dv
namespace L2
open PySem PySem.Spec PyProof.Rows PySem.W
section
variable{X:Cx}
theorem xC:∀{vs:WQ}{ds:WN}{as:WU},ReadsAll h vs ds as->∀{i:Nat}{v:Value},vs[i]?=some v->∃d bs,ds[i]?=some d/\Reads h v d bs
 |_,_,_,.nil,_,_,e=>nomatch e
 |_,_,_,.cons r _,0,_,e=>by cases e;exact⟨_,_,rfl,r⟩
 |_,_,_,.cons _ t,i+1,_,e=>xC t (i:=i) e
end
end L2
namespace Dv
open PySem L2 PySem.Spec PyProof.Rows PySem.W
inductive yU(K:Frag) (x:V)(vs:List V)(H:Hp)(Q:VK):Prop
 |mk:∀(p:Addr) (y:V)(xs:List V)(ds:WN)(d:PyData) (j:Nat),(x=.ref p)->(vs=[y])->(cT K H p xs)->(jL K H y d)->(lI K H xs ds)->(ds.all (dl 8)=true)->(dl 8 d=true)->(ds[j]?=some d)->((∀(m:Nat) e,m<j->ds[m]?=some e->e≠d))->(Q (.int j) H)->yU K x vs H Q
def JA (K:Frag):V->List V->Hp->VK->Prop:=λx vs H Q=>yU K x vs H Q
section
variable{X:Cx}{Ex:XK}{Y:WZ}
theorem xm{K:Frag}{H:Hp}:∀{xs:List V}{ds:WN},lI K H xs ds->xs.length=ds.length
 |_,_,.nil=>rfl
 |_,_,.cons _ r=>congrArg (·+1) (xm r)
def E8(hu:X.A.units+64<cLine):nV X "list.index" (JA X.K):=by
 intro pins s U H x vs v us Q I rx rv h;obtain⟨p,y,xs,ds,d,j,rfl,rfl,hH,hy,hx,la,ld,hj,hno,q⟩:=h;cases rx;obtain⟨u,rfl,ru⟩:=rv.one;obtain⟨hz,its,n,r,e⟩:=hH.get I;obtain⟨as,ra⟩:=I.readsAll hx r;obtain⟨bs,rb⟩:=I.reads hy ru;have l1:=xm hx;have l2:=r.length;have hlt:j<its.length:=by have:=(RW.mp hj).1;lia
 have line:sizeLine<2^62:=by decide
 have val:∀(m:Nat)(w:Value) e,its[m]?=some w->ds[m]?=some e->PyData.eqv (SeqAt.readOf s.heap w) d=decide (e=d):=λm w e' h1 h2=>by obtain⟨d',cs,h3,h4⟩:=xC ra h1;rw[h2]at h3;cases h3;have l3:=QW.mp la e' (RD h2);rw[SeqAt.readOf_eq (fj l3).1 h4,yV l3 ld]
 refine Su F.slot_list_index ⟨_,e,rfl⟩ F.entry_list_index (F.args_list_index_2 _ _) (SeqAt.list_indexAt p its.toArray n none #[] u (λy=>PyData.eqv (SeqAt.readOf s.heap y) d) j (by simpa using hlt) (by lia) ?_ ?_) ⟨e,?_,⟨.int j,H,I.tok _,⟨_,rfl⟩,q⟩⟩;{show PyData.eqv (SeqAt.readOf s.heap its.toArray[j]) d=true;rw[val j _ d (by simp[hlt]) hj];exact Rg rfl}
 .intro m hm hmj;have hm':m<its.length:=by simpa using hm
  have hn:m<ds.length:=by lia
  show PyData.eqv (SeqAt.readOf s.heap its.toArray[m]) d=false;rw[val m _ ds[m] (by simp[hm']) (RI hn)];exact Rm (hno m _ hmj (RI hn))
 refine SeqAt.items_eqAt (xs:=ds) (by simpa using ra) rb (j3 λe he=>(fj (QW.mp la e he)).1) (fj ld).1 ?_;have:=(fj ld).2;lia
end
end Dv
namespace Dv
open PySem L2 PySem.W
noncomputable def jN (c b:Str):Bool:=decide (b=c)||(decide (b="HailError")||decide (b="ValueError"))
section
variable{X:Cx}{Ex:XK}
noncomputable def Dj (K:Frag)(cs:Wb) (B:Str):Bool:=match nsIn K mainGlobals B with
 |some (some (.ref B'))=>cs.all λc=>match nsIn K mainGlobals c with
  |some (some (.ref C))=>exmOne K (.ref C) (.ref B')==some (jN c B)
  |_=>false
 |_=>false
def NT(h:Dj K cs B=true):∃B',nsIn K mainGlobals B=some (some (.ref B'))/\∀c∈cs,∃C,nsIn K mainGlobals c=some (some (.ref C))/\exmOne K (.ref C) (.ref B')=some (jN c B):=by unfold Dj at h;split at h;{rename_i B' e;refine⟨B',e,λc hc=>?_⟩;have z:=QW.mp h c hc;split at z;{rename_i C e2;exact⟨C,e2,by simpa using z⟩};cases z};cases h
end
noncomputable def GD (K:Frag)(C:Addr):Bool:=(LA K C&&findIn K (.ref C) "__setattr__" == some (some (.builtin "object.__setattr__")))&&(findIn K (.ref C) "__getattribute__" == some (some (.builtin "BaseException.__getattribute__"))&&findIn K (.ref C) "__getattr__" == some none) &&
 (findIn K (.ref C) "__class__" == some (some (.builtin "object.__class__"))&&(specialIn K (.builtin "object.__class__") "__get__" == some (some (.builtin "getset_descriptor.__get__"))&&takesIn K (.builtin "object.__class__")==some true))
def Nk{C:Addr}(h:GD K C=true):Aj K C:=by unfold GD at h;simp only[Q9,beq_iff_eq]at h;obtain⟨⟨⟨a,b⟩,c,d⟩,e,f,g⟩:=h;exact⟨⟨a,b,c,d⟩,e,f,g⟩
noncomputable def AH (K:Frag) (B:Str):WK:=match nsIn K mainGlobals B with
 |some (some v)=>some v
 |some none=>bootBuiltins B
 |none=>none
noncomputable def II (K:Frag)(cs Bs:Wb):Bool:=cs.all λc=>match nsIn K mainGlobals c with
 |some (some (.ref C))=>GD K C&&Bs.all λB=>match AH K B with
  |some v=>kitOne K (.ref C) v==some (jN c B)
  |none=>false
 |_=>false
def IT(h:II K cs Bs=true)(hc:c∈cs):∃C,nsIn K mainGlobals c=some (some (.ref C))/\Aj K C/\∀B∈Bs,∃v,AH K B=some v/\kitOne K (.ref C) v=some (jN c B):=by have z:=QW.mp h c hc;split at z;{rename_i C e;rw[Q9]at z;refine⟨C,e,Nk z.1,λB hB=>?_⟩;have y:=QW.mp z.2 B hB;split at y;{rename_i v e2;exact⟨v,e2,by simpa using y⟩};cases y};cases z
noncomputable def gV:Value->Option V
 |.ref a=>some (.ref a)
 |.type t=>some (.ty t)
 |_=>none
def Ey(h:gV u=some v):RelV v u:=by unfold gV at h;split at h;{cases h;rfl};{cases h;rfl};cases h
def zF(h:gV u=some v)(r:RelV v u2):u2=u:=by unfold gV at h;split at h;{cases h;exact r};{cases h;exact r};cases h
noncomputable def DK (K:Frag)(Bs:Wb):Bool:=Bs.all λB=>(!(B==("__debug__":Str)) && !(B==("__name__":Str)))&&match nsIn K mainGlobals B with
 |some (some u)=>(gV u).isSome
 |some none=>match bootBuiltins B with
  |some u=>(gV u).isSome
  |none=>false
 |none=>false
section
variable{X:Cx}{Ex:XK}{Y:WZ}
def vY(N:∃h:Heap,X.K.In h/\h.Ns mainGlobals X.mg)(h:DK X.K Bs=true)(hB:B∈Bs)(hg:Gl X B):∃u v,AH X.K B=some u/\gV u=some v/\∀p,PE X (.Name B p) (tC v):=by obtain⟨h0,KX,G⟩:=N;have z:=QW.mp h B hB;rw[Q9,Q9,UY,UY]at z;obtain⟨⟨z1,z2⟩,z⟩:=z;unfold AH;split at z;{rename_i u e;obtain⟨v,hv⟩:=VO.mp z;exact⟨u,v,rfl,hv,λp=>tT hg (mg_of KX G e) (Ey hv) z1⟩};{rename_i e;split at z;{rename_i u e2;obtain⟨v,hv⟩:=VO.mp z;exact⟨u,v,e2,hv,λp=>JB hg (S7 KX G e) e2 (Ey hv) (λq=>by rw[q]at z2;exact absurd z2 (by decide)) z1⟩};cases z};cases z
inductive Il(X:Cx)(Bs:Wb):WX->Wb->Prop
 |nil:Il X Bs [] []
 |cons {B:Str}{p:Pos}{es:WX}{bs:Wb}:Bs.contains B=true->Gl X B->Il X Bs es bs->Il X Bs (.Name B p::es) (B::bs)
def Qz(N:∃h:Heap,X.K.In h/\h.Ns mainGlobals X.mg)(kc:DK X.K Bs=true)(h:Il X Bs es bs):∃(us:WQ)(ws:List V)(t:TA),PA X es t/\(∀U H Q,Q ws H->t U H Q)/\ws.length=bs.length/\(∀xU,Vals ws xU->xU=us) /\ ∀C c,(∀B∈Bs,∃v,AH X.K B=some v/\kitOne X.K (.ref C) v=some (jN c B))->kitAny X.K (.ref C) us=some (bs.any (jN c)):=by
 induction h with
 |nil=>exact⟨[],[],_,bx,λ_ _ _ q=>q,rfl,λxU h=>by cases h;rfl,λ_ _ _=>rfl⟩
 |@cons B p es bs hB hg h ih=>
  obtain⟨us,ws,t,h1,h2,h3,h4,h5⟩:=ih;have hB:=List.contains_iff_mem.mp hB;obtain⟨u,w,e1,ru,pe⟩:=vY N kc hB hg;refine⟨u::us,w::ws,_,aA (pe p) h1,λU H Q q=>h2 _ _ _ q,congrArg (·+1) h3,λxU h=>?_,λC c k=>?_⟩
  .cases h with
   |cons r t=>rw[zF ru r,h4 _ t]
  obtain⟨v,e2,k2⟩:=k B hB;rw[e1]at e2;cases e2;rw[kitAny,k2,Sb];cases jN c B with
  |true=>rfl
  |false=>exact h5 C c k
end
noncomputable def Mj (E:En) (i:Nat):Bool:=match E[i]? with
 |some (some (.dk _,.dict _))=>true
 |_=>false
noncomputable def MS (i n:Nat)(f:DE):DE:=λx E Q=>Mj E i=true/\here E n=true/\f x E λE1 k1 v1=>k1.fz=true/\∃p kvs k,E1[i]?=some (some (.dk p,.dict kvs))/\E1[n]?=some (some (.sh,k))/\jv k=true/\gM kvs=true/\Q E1 .sh ((bY kvs k).getD v1)
section
variable{X:Cx}{Ex:XK}{Y:WZ}
def Qg(j jn:Nat){i n:Nat}(hu:X.A.units+64<cLine)(hf:SE X Ex Y f df)(hN:X.N[j]?=some x:=by rfl)(hv:j8 X.env.scope x:=by first|exact Or.inl rfl|exact Or.inr (Or.inl rfl)|exact Or.inr (Or.inr rfl))(hj:Y[j]?=some i:=by rfl)(hNn:X.N[jn]?=some y:=by rfl)(hvn:j8 X.env.scope y:=by first|exact Or.inl rfl|exact Or.inr (Or.inl rfl)|exact Or.inr (Or.inr rfl))(hjn:Y[jn]?=some n:=by rfl)(m:M2 X (.Name x p) "get" apos (.Name y yp) f cpos:=by exact⟨rfl,rfl,rfl,rfl⟩)(hb:(x==("__debug__":Str))=false:=by decide)(hcd:(x==("__classdict__":Str))=false:=by decide)(hbn:(y==("__debug__":Str))=false:=by decide)(hcn:(y==("__classdict__":Str))=false:=by decide) : SE X Ex Y (.Call (.Attribute (.Name x p) "get" apos) [.Name y yp,f] [] cpos) (MS i n df):=by
 intro g xc E U H Hm F P Q hx R h q;obtain⟨hd,hh,h⟩:=h;obtain⟨p0,kv0,e0⟩:∃p ds,E[i]?=some (some (.dk p,.dict ds)):=by unfold Mj at hd;split at hd;{rename_i p ds e;exact⟨p,ds,e⟩};cases hd
 obtain⟨v,h1,h2⟩:=R.slot i _ _ e0;obtain⟨vn,hvn'⟩:=k7 R hh;obtain⟨a,rfl,hD⟩:∃a,v=.ref a/\fW H a:=by
  generalize F i=fi at h2;cases h2 with
  |dk ha _=>exact⟨_,rfl,.inl ⟨_,.inl ha⟩⟩
 refine WE.of (Gd (by lia) (fK hN hv hb hcd) (fK hNn hvn hbn hcn) (cN (e:=f)) m) ⟨.ref a,eW hj h1,a,rfl,hD,vn,eW hjn hvn',?_⟩;refine hf g xc E U H Hm F _ _ hx R h λE1 k1 w u1 H1 Hm1 F1 fp1 p1 R1 s1 T1=>?_;obtain⟨hk,p2,kvs,k,e1,en,ik,pl,p1⟩:=p1;obtain⟨Hm2,s2,R2,rw2⟩:=T1.ig R1 hk;obtain⟨v',g1,g2⟩:=R2.slot i _ _ e1;rw[h1]at g1;cases g1;obtain⟨vn',g3,g4⟩:=R2.slot n _ _ en;rw[hvn']at g3;cases g3;have rk:Rp X.K Hm2 vn k:=by
  generalize F1 n=fn at g4;cases g4 with
  |sh r=>exact r
 obtain⟨ky,rfl⟩:=j5 ik;cases lW rk;generalize F1 i=fi at g2;cases g2 with
 |@dk _ _ es _ ha rt=>rcases rt.val (k:=ky)with⟨z1,z2⟩|⟨v,d',z1,z2,rv⟩;{refine⟨none,by rw[<-z2];exact fQ.k ha,?_⟩;rw[z1]at p1;exact q _ _ _ _ _ _ _ [] p1 R2 (s1.trans s2) (Tm.sh rw2)};refine⟨some v,by rw[<-z1];exact fQ.k ha,?_⟩;rw[z2]at p1;exact q _ _ _ _ _ _ _ [] p1 R2 (s1.trans s2) (Tm.sh rv)
end
noncomputable def Ja (i:Nat) (c:Int):DE:=λ_ E Q=>∃(k:Kd)(ds:WN) (j:Nat),E[i]?=some (some (k,.list ds))/\k.rd=true/\ds.all (dl 8)=true/\ds[j]?=some (.int (-c))/\(∀(m:Nat) e,m<j->ds[m]?=some e->e≠.int (-c))/\Q E .sh (.int j)
section
variable{X:Cx}{Ex:XK}{Y:WZ}
def OI(j:Nat){i:Nat}{c:Int}{k:Nat}(hu:X.A.units+64<cLine)(hN:X.N[j]?=some x:=by rfl)(hv:j8 X.env.scope x:=by first|exact Or.inl rfl|exact Or.inr (Or.inl rfl)|exact Or.inr (Or.inr rfl))(hj:Y[j]?=some i:=by rfl)(hline:(apos.endLine==cpos.line)=true:=by rfl)(b1:(x==("__debug__":Str))=false:=by decide)(b2:(x==("__classdict__":Str))=false:=by decide) : SE X Ex Y (.Call (.Attribute (.Name x p) "index" apos) [.UnaryOp .USub (.Constant (.int c) k cp) up] [] cpos) (Ja i c):=by intro g xc E U H Hm F P Q hx R h q;obtain⟨kk,ds,m,e1,hk,la,hm,hno,pq⟩:=h;obtain⟨v,h1,o1⟩:=R.slot i _ _ e1;obtain⟨a,xs,rfl,ha,rx⟩:=lZ (o1.rp (Hm':=H) hk R.sub λ_ _=>rfl);refine WE.of (v9 UZ PySem.F.slot_list_index PySem.F.type_list_index (E8 hu) (fK hN hv b1 b2) (aA (Hq D6 kg) bx) rfl rfl hline rfl rfl) ?_;refine⟨_,eW hj h1,.inl ⟨rfl,_,ha.sq⟩,?_⟩;exact⟨_,rfl,a,.int (-c),xs,ds,.int (-c),m,rfl,rfl,ha,.int _,rx.tw (l5 λd hd=>jT (QW.mp la d hd)),la,rfl,hm,hno,q _ _ _ _ _ _ _ [] pq R (af.refl _) (Tm.sh (.int _))⟩
end
end Dv
namespace SM
open PySem PySem.SetTable
section
variable{prog:Program}{w:World}{K:Type} [DecidableEq K]{knd:KeyKind prog w K}{A:Around}{E:WA}{s:Shared}{t:SetTable}{es:Array Ent}
theorem vN{a b:Addr}{ep N:Nat}(hr:A.units<cLine)(ho:s.heap.get? a=some o)(hd:o.data=.set es ep t)(T:TB t es)(S:SK knd s.heap es ks)(hk:IsTupleKey knd s.heap k b)(hl:N<10*turns t.mask)(hN:¬In t (pr t.mask (tupleKeyHash knd k) N).j)(hw:Way t (tupleKeyHash knd k) N)(q0:k∈ks->∀i,Q (.there (some i)) s)(q1:k∉ks->Q (.free (pr t.mask (tupleKeyHash knd k) N).j false) s) : ∀(fuel n:Nat)(p:Option Probe),n<=N->N-n<fuel->p.getD (t.probeStart (tupleKeyHash knd k))=pr t.mask (tupleKeyHash knd k) n->(∀(m i:Nat)(e:Ent),m<n->t.place[i]?=some (pr t.mask (tupleKeyHash knd k) m).j->es[i]?=some e->¬nO knd s.heap e k)->wpAny (model prog w) A (setSearchFrom a (.ref b) (tupleKeyHash knd k) false fuel p) Q E s
 |0,n,p,h1,h2,h3,h4=>absurd h2 (Ru _)
 |fuel+1,n,p,h1,h2,h3,h4=>by
  rw[setSearchFrom.eq_2];refine Q0 (SO ho hd T.fits ?_);dsimp only;rw[if_neg (by rw[T.Dp];exact QV),h3];have z:=uq T.ri T.du (hashAt:=λi=>(Option.map (λx=>x.fst) es[i]?).getD 0) hN hw (10*turns t.mask) n h1 (by lia);have entry:∀i j:Nat,t.place[i]?=some j->∃e,es[i]?=some e:=λi j h=>by
   have hi:i<es.size:=by rw[<-T.sz];exact j7 h
   exact⟨es[i],RP hi⟩
  rcases z with⟨z1,z2⟩|⟨m,i,c1,c2,c3,c4,c5,c6⟩
  .have no:k∉ks:=λhin=>by obtain⟨e,he,eo⟩:=S.on k hin;obtain⟨i,hi⟩:=Rq he;rw[RJ]at hi;obtain⟨b',_,eh,_⟩:=id eo;obtain⟨n',hn',hp⟩:=T.before hN hw hi eh;by_cases c:n'<n;{exact h4 n' i e c hp hi eo};refine z2 n' i (by lia) hn' hp ?_;rw[hi];exact eh
   split
   .next met heq=>
    have e:=z1.symm.trans heq;cases e;exact Q2 (q1 no)
   next x hx=>
   exact absurd z1 (hx _)
  obtain⟨e,he⟩:=entry i _ c3;obtain⟨k',hk',eo⟩:=S.ok e (RD (by rw[RJ];exact he));obtain⟨b',e1,e2,e3⟩:=id eo;obtain⟨eh,ev⟩:=e;simp only at e1 e2;subst e1;have more:∀{P:Unit->Sem SetFound},wpAny (model prog w) A (P ()) Q E s->wpAny (model prog w) A (if(!t.led)=true then do
       let r <-searchCouldBeSeen (.ref b) (List.map (λx=>x.snd) (Array.filter (λx=>x.fst==tupleKeyHash knd k) es).toList)
       if r=true then do
         let r <-unsupported "set:the-search-would-show-the-table"
         P r
        else P ()
      else P ()) Q E s:=λhP=>by
   split
   .refine Q0 (rM hk (λy hy=>?_) ?_)
    .obtain⟨f,hf,rfl⟩:=Q8.mp hy;obtain⟨k2,_,b2,f1,_,f3⟩:=S.ok f (by
      have:=UI.mp hf;rw[UI];exact(Array.mem_filter.mp this).1)
     exact⟨k2,b2,f1,f3⟩
    .rw[if_neg QV];exact hP
   .exact hP
  split
  .next met heq=>
   have e:=c5.symm.trans heq;cases e;dsimp only;refine more (P:=λ_=>_) ?_;rw[he];dsimp only;refine Q0 (Rb (wpAny_eqBool_tuple hr e3 hk ?_));refine Q0 (SO ho hd T.fits ?_);dsimp only;rw[if_neg (by simp)];have sm:t.sameMemory t.moves t.mask=some true:=by unfold sameMemory;rw[if_pos (by simp)]
   rw[sm];dsimp only;rw[if_pos rfl,oH T.ri c3];dsimp only;rw[he];dsimp only;refine Q0 (wpAny_isSame_ref_self ?_);refine Q0 (Q2 ?_);rw[if_pos rfl];dsimp only;by_cases c:k'=k;{subst c;rw[Rg rfl,if_pos rfl];exact Q2 (q0 hk' _)};rw[Rm c,if_neg QV];refine vN hr ho hd T S hk hl hN hw q0 q1 fuel (m+1) (some (pr t.mask (tupleKeyHash knd k) (m+1))) (by lia) (by lia) rfl λm' i' e' hm' hp' he' eo'=>?_;rcases Rh m' n with l|l;{exact h4 m' i' e' l hp' he' eo'};rcases Rh m' m with l2|l2;{refine c6 m' i' l l2 hp' ?_;rw[he'];obtain⟨_,_,g,_⟩:=eo';exact g};have em:m'=m:=by lia
   subst em;have ei:=T.ri.inj hp' c3;subst ei;rw[he]at he';cases he';exact c (eo.inj eo')
  next x hx=>
  exact absurd c5 (hx _)
end
section
variable{prog:Program}{w:World}{A:Around}{E:WA}{s:Shared}{t:SetTable}{es:Array Ent}
def items_int(h:ItemsAre (intKind prog w) k vs):∀v∈vs,∃i tk,v=Value.int i tk:=by
 induction h with
 |nil=>exact λv hv=>(nomatch hv)
 |cons h _ ih=>intro v hv;rcases QX.mp hv with rfl|hv;{obtain⟨tk,e⟩:=Value.isInt_shape h;exact⟨_,tk,e⟩};exact ih v hv
def Gi{a:Addr}(hk:IsTupleKey (intKind prog w) s.heap k a)(h:Q true s):wpAny (model prog w) A (hashByValue 8 (.ref a)) Q E s:=by obtain⟨o,items,n,ho,hc,hd,hi⟩:=hk;rw[hashByValue.eq_12];refine Q0 (wpAny_specialOf (s:=s) ⟨o,ho,hc⟩ F.slot_tuple_hash.lookup ?_);dsimp only;refine Q0 (wpAny_seqItems ho hd ?_);refine Q0 ?_;show wpAny _ _ (forIn items _ _) _ _ s;rw[<-Array.forIn_toList];refine V0 _ (λrest r s'=>s'=s/\r.1=none/\∀v∈rest,∃i tk,v=Value.int i tk) _ ?_ ?_ _ _ ⟨rfl,rfl,items_int hi⟩;{rintro v rest r s'⟨rfl,hr,hall⟩;obtain⟨i,tk,rfl⟩:=hall v Q6;rw[hashByValue.eq_3];refine Q0 (Q2 ?_);split;{next c=>exact absurd c (by decide)};exact Q2 ⟨rfl,rfl,λu hu'=>hall u (QU _ hu')⟩};rintro⟨r1,r2⟩s'⟨rfl,hr,_⟩;dsimp only at hr⊢;subst hr;exact Q2 h
def BZ{wanted:Nat}(hf:full (sizeAbove wanted-1+1)=true)(ho:(sizeAbove wanted-1)%2=1)(hl:es.size<=sizeAbove wanted-1) : ∃t' ord,t.relaid (es.map (λx=>x.fst)) wanted=some (t',ord)/\TB t' (ord.filterMap (es[·]?))/\(ord.filterMap (es[·]?)).toList.Perm es.toList/\t'.mask=sizeAbove wanted-1/\t'.led=t.led/\t'.plain=t.plain:=by
 obtain⟨es',t',e,T,p,l1,l2,m⟩:=FT (t:=t) hf ho hl;unfold relayAll at e;cases z:t.relaid (es.map (λx=>x.fst)) wanted with
 |none=>rw[z]at e;dsimp only at e;injection e with _ e;injection e with _ e;cases e
 |some p'=>obtain⟨t2,ord⟩:=p';rw[z]at e;dsimp only at e;split at e;{injection e with e1 e;injection e with e2 _;subst e1;subst e2;exact⟨t2,ord,rfl,T,p,m,l1,l2⟩};injection e with _ e;injection e with _ e;cases e
def CC{a:Addr}{ep wanted:Nat}(ha:s.heap.get? a=some o)(hd:o.data=.set es ep t)(fit:t.fits es.size=true)(hf:full (sizeAbove wanted-1+1)=true)(ho:(sizeAbove wanted-1)%2=1)(hl:es.size<=sizeAbove wanted-1)(hz:sizeAbove wanted<=sizeLine)(q:∀t' es',TB t' es'->es'.toList.Perm es.toList->t'.mask=sizeAbove wanted-1->t'.led=t.led->t'.plain=t.plain->Q () { s with heap:=s.heap.update a (Obj.putSet es' t') }):wpAny (model prog w) A (setRelay a wanted) Q E s:=by
 unfold setRelay;refine Q0 (SO ha hd fit ?_);dsimp only;rw[if_neg (by lia)];obtain⟨t',ord,e,T,p,m,l1,l2⟩:=BZ (t:=t) (es:=es) hf ho hl;rw[e];have sz:(ord.filterMap (es[·]?)).size=es.size:=by have z:=p.length_eq;rw[RQ,RQ]at z;exact z
 have go:∀{m0:Sem (Array Ent×SetTable)}{f:Array Ent×SetTable->Sem Unit}{Q':Unit->Shared->Prop},wpAny (model prog w) A (f (ord.filterMap (es[·]?),t')) Q' E s->wpAny (model prog w) A ((if((ord.filterMap (es[·]?)).size != es.size)=true then m0 else pure (ord.filterMap (es[·]?),t'))>>=f) Q' E s:=λh=>by rw[if_neg (by rw[sz];simp)];exact Q0 (Q2 h)
 refine go (f:=λx=>storeSet a x.fst x.snd) ?_;dsimp only;refine wpAny_storeSet_of ha hd (q _ _ T p m l1 l2) ?_;have:=hl;lia
noncomputable abbrev ents (prog:Program)(w:World)(bs:List (Addr×List Int)):List Ent:=bs.map λq=>(tupleKeyHash (intKind prog w) q.2,Value.ref q.1)
structure SR(prog:Program)(w:World)(o:Obj)(bs:List (Addr×List Int)):Prop where
 ex:o.ExactSet
 tb:∃es ep t,o.data=.set es ep t/\TB t es/\es.size*5<t.mask*3/\(t.mask=7\/t.mask=31\/t.mask=127\/t.mask=511)/\t.plain=true/\t.led=(!(w.params.followText "set-order"))/\es.toList.Perm (ents prog w bs)
def aX(p:es.toList.Perm (ents prog w bs))(hk:∀q∈bs,IsTupleKey (intKind prog w) h q.2 q.1):SK (intKind prog w) h es (bs.map (·.2)):=by refine⟨λe he=>?_,λk hk'=>?_,?_⟩;{obtain⟨q,hq,rfl⟩:=Q8.mp (p.mem_iff.mp he);exact⟨q.2,Q8.mpr ⟨q,hq,rfl⟩,q.1,rfl,rfl,hk q hq⟩};{obtain⟨q,hq,rfl⟩:=Q8.mp hk';exact⟨_,p.mem_iff.mpr (Q8.mpr ⟨q,hq,rfl⟩),q.1,rfl,rfl,hk q hq⟩};have:=p.length_eq;rw[RQ,Q7]at this;rw[this,Q7]
def Ff:SR prog w (kj w) []:=by refine⟨⟨rfl,rfl,rfl⟩,#[],0,_,rfl,⟨rfl,?_,?_,rfl,DF,(by decide:7%2=1),RO _,?_⟩,(by decide:0*5<7*3),.inl rfl,rfl,rfl,List.Perm.refl _⟩;{intro i k x y _ hx;cases hx};{intro i j h;cases h};intro i j e h;cases h
def GV{p:Nat}(hp:p<=es.size)(e:Ent):(insertAt es p e).toList.Perm (es.toList++[e]):=by
 have e1:(insertAt es p e).toList=es.toList.take p++e::es.toList.drop p:=by
  refine T4 λi=>?_;have lt:(es.toList.take p).length=p:=by rw[S9,RQ];lia
  rw[RJ,um hp];by_cases c:i<p;{rw[if_pos c,Sl (by lia),VP c,RJ]};rw[if_neg c,T5 (by lia),lt];by_cases c2:i=p;{rw[if_pos c2,c2,Nat.sub_self];rfl};rw[if_neg c2,show i-p=(i-1-p)+1 by lia,List.getElem?_cons_succ,Vh,show p+(i-1-p)=i-1 by lia,RJ]
 rw[e1];have e2:es.toList++[e]=es.toList.take p++(es.toList.drop p++[e]):=by rw[<-RY,V6]
 rw[e2];exact Se _ (TH (l₁:=[e]))
def Oi{n m:Nat}(h:m=7\/m=31\/m=127\/m=511)(h1:(n-1)*5<m*3)(h2:m*3<=n*5)(h3:n<=306):full (sizeAbove (grown n)-1+1)=true/\(sizeAbove (grown n)-1)%2=1/\n<=sizeAbove (grown n)-1/\sizeAbove (grown n)<=sizeLine/\n*5<(sizeAbove (grown n)-1)*3/\(sizeAbove (grown n)-1=31\/sizeAbove (grown n)-1=127\/sizeAbove (grown n)-1=511):=by
 have c:n=5\/n=19\/n=77:=by lia
 have g:=Jx (n:=n) (by lia);refine⟨g.1,g.2.1,g.2.2,?_⟩;rcases c with rfl|rfl|rfl<;>decide+kernel
def Mf{a b:Addr}(hr:A.units<cLine)(ha:s.heap.get? a=some o)(S:SR prog w o bs)(keys:∀q∈bs,IsTupleKey (intKind prog w) s.heap q.2 q.1)(hk:IsTupleKey (intKind prog w) s.heap k b)(few:bs.length+1<=306)(nin:k∉bs.map (·.2))(q1:∀h' o',Heap.SameBut a s.heap h'->h'.get? a=some o'->SR prog w o' (bs++[(b,k)])->Q true { s with heap:=h' }) : wpAny (model prog w) A (setAddHashed a (.ref b) (tupleKeyHash (intKind prog w) k)) Q E s:=by
 obtain⟨ex,es,ep,t,hd,T,nf,hm,tp,tl,pm⟩:=S;have sk:=aX (h:=s.heap) pm keys;unfold setAddHashed;refine Rb ?_;rw[show(100000:Nat)=Nat.succ 99999 from rfl,setAddHashedIn.eq_2];refine Q0 (SO ha hd T.fits ?_);dsimp only;rw[if_neg (by simp[byScan,Value.scannable])];unfold setSearch;obtain⟨N,hl,hN,hw⟩:=T.first (tupleKeyHash (intKind prog w) k);have lim:10*turns t.mask<=100000:=by unfold turns;lia
 refine Q0 (qh hr ha hd T sk hk hl hN hw ?_ 100000 0 none (RO _) (by lia) rfl λm i e hm'=>absurd hm' (Ru _));rw[if_neg nin];dsimp only;refine Q0 (SO ha hd T.fits ?_);dsimp only;have hj:=Bj t.mask (tupleKeyHash (intKind prog w) k) N;have szl:es.size=bs.length:=by have:=pm.length_eq;rwa[RQ,Q7]at this
 have T1:=T.put (e:=(tupleKeyHash (intKind prog w) k,.ref b)) hl hN hw (by lia) hj;have hp:(t.put (pr t.mask (tupleKeyHash (intKind prog w) k) N).j).2<=es.size:=by rw[<-T.sz];exact Gn T.ri _
 have P1:=(GV hp ((tupleKeyHash (intKind prog w) k,Value.ref b):Ent)).trans (pm.append_right [(tupleKeyHash (intKind prog w) k,Value.ref b)]);have P2:ents prog w bs++[(tupleKeyHash (intKind prog w) k,Value.ref b)]=ents prog w (bs++[(b,k)]):=by show _=List.map _ _;rw[RG];rfl
 rw[P2]at P1;have z1:=m7 hp ((tupleKeyHash (intKind prog w) k,Value.ref b):Ent);have m1:(t.put (pr t.mask (tupleKeyHash (intKind prog w) k) N).j).1.mask=t.mask:=rfl;have m2:(t.put (pr t.mask (tupleKeyHash (intKind prog w) k) N).j).1.plain=true:=tp;have m3:(t.put (pr t.mask (tupleKeyHash (intKind prog w) k) N).j).1.led=(!(w.params.followText "set-order")):=tl;generalize (t.put (pr t.mask (tupleKeyHash (intKind prog w) k) N).j).1=t1 at *;generalize (t.put (pr t.mask (tupleKeyHash (intKind prog w) k) N).j).2=p1 at *;have tail:wpAny (model prog w) A (do
   storeSet a (insertAt es p1 (tupleKeyHash (intKind prog w) k,.ref b)) t1
   if(!false&&t1.tooFull)=true then do
    let _ <-setRelay a (grown (es.size+1))
    pure true
   else pure true) Q E s:=by
  refine Q0 (wpAny_storeSet_of ha hd ?_ ?_)
  .have po:=putSet_of (insertAt es p1 (tupleKeyHash (intKind prog w) k,.ref b)) t1 hd;have g1:(s.heap.update a (Obj.putSet (insertAt es p1 (tupleKeyHash (intKind prog w) k,.ref b)) t1)).get? a=some { o with data:=.set (insertAt es p1 (tupleKeyHash (intKind prog w) k,.ref b)) (ep+1) t1 }:=by
    rw[SJ _ ha (by rw[po];rfl),po]
   have sb:=U6 s.heap a (Obj.putSet (insertAt es p1 (tupleKeyHash (intKind prog w) k,.ref b)) t1);generalize s.heap.update a (Obj.putSet (insertAt es p1 (tupleKeyHash (intKind prog w) k,.ref b)) t1)=h1 at *;have e2:t1.fill=es.size+1:=by
    unfold fill;rw[T1.sz,T1.du,z1];rfl
   split
   .next yt=>
    have full':t1.mask*3<=(es.size+1)*5:=by
     rw[<-e2];unfold tooFull at yt
     simpa using yt
    obtain⟨g2,g3,g4,g5,g6,g7⟩:=Oi (n:=es.size+1) hm (by simpa using nf) (by rw[m1]at full';exact full') (by lia)
    refine Q0 (CC (s:={ s with heap:=h1 }) g1 rfl T1.fits g2 g3 (by rw[z1];exact g4) g5 λt3 es3 T3 p3 m3' l3' l4'=>Q2 ?_)
    have po3:=putSet_of (o:={ o with data:=.set (insertAt es p1 (tupleKeyHash (intKind prog w) k,.ref b)) (ep+1) t1 }) es3 t3 rfl
    have l3:=p3.length_eq;rw[RQ,RQ,z1]at l3;refine q1 _ _ ⟨?_,λx hx=>?_⟩ (SJ _ g1 (by rw[po3];rfl)) ?_
    .exact(U6 h1 a (Obj.putSet es3 t3)).1.trans sb.1
    .exact((U6 h1 a (Obj.putSet es3 t3)).2 x hx).trans (sb.2 x hx)
    .rw[po3];exact⟨ex,es3,_,t3,rfl,T3,by rw[l3,m3'];exact g6,by rw[m3'];lia,by rw[l4',m2],by rw[l3',m3],p3.trans P1⟩
   .next nt=>
    refine Q2 (q1 _ _ sb g1 ⟨ex,_,_,t1,rfl,T1,?_,by rw[m1];exact hm,m2,m3,P1⟩)
    have e1:¬(t1.fill*5 >= t1.mask*3):=λq=>nt (by
     unfold tooFull;rw[Rg q];rfl)
    rw[e2]at e1;rw[z1];lia
  .rw[z1];exact RM (show _<=306 by lia) (by decide)
 rw[m2,if_pos rfl];refine Q0 (Gi hk ?_);exact tail
def JI{a b:Addr}(hr:A.units<cLine)(ha:s.heap.get? a=some o)(S:SR prog w o bs)(keys:∀q∈bs,IsTupleKey (intKind prog w) s.heap q.2 q.1)(hk:IsTupleKey (intKind prog w) s.heap k b)(q:∀r:Option Nat,r.isSome=decide (k∈bs.map (·.2))->Q r s):wpAny (model prog w) A (setFind a (.ref b) (tupleKeyHash (intKind prog w) k)) Q E s:=by
 obtain⟨ex,es,ep,t,hd,T,nf,hm,tp,tl,pm⟩:=S;have sk:=aX (h:=s.heap) pm keys;unfold setFind;rw[show(100000:Nat)=Nat.succ 99999 from rfl,setFindIn.eq_2];refine Q0 (SO ha hd T.fits ?_);dsimp only;rw[if_neg (by simp[byScan,Value.scannable])];unfold setSearch;obtain⟨N,hl,hN,hw⟩:=T.first (tupleKeyHash (intKind prog w) k);have lim:10*turns t.mask<=100000:=by unfold turns;lia
 refine Q0 (vN hr ha hd T sk hk hl hN hw (λhin i=>?_) (λhout=>?_) 100000 0 none (RO _) (by lia) rfl λm i e hm'=>absurd hm' (Ru _));{exact Q2 (q _ (by rw[Rg hin];rfl))};exact Q2 (q _ (by rw[Rm hout];rfl))
end
end SM
namespace SM
open PySem PySem.SetTable PySem.W PyProof.Rows
section
variable{prog:Program}{w:World}{A:Around}{E:WA}{s:Shared}{es:Array Ent}{ep:Nat}{a it:Addr}
def EN(q:Q (.ref s.heap.objs.size) { s with heap:=s.heap.push (kj w) }) : codeAny (model prog w) A (.call (.builtin "set.__new__") ⟨[.type "set"],[]⟩) (wants Q E) s:=by
 refine codeAny_of_tree (?_:_);show wpAny _ A.in1 (do
  checkBuiltinCall "set.__new__" ⟨[.type "set"],[]⟩
  again (.builtin "set.__new__" ⟨[.type "set"],[]⟩)) _ _ s
 refine Q0 (wpAny_of_eq F.newCall_set_0 (Q2 ⟨plainId_quiet F.plain_set_new _,VF F.entry_set_new (?_:_)⟩));rw[Around.under_plainId F.plain_set_new (_:Args)];unfold Builtin.«set.__new__»;unfold Builtin.Frozenset.newClass;have sub0:=sub_set_self;obtain⟨hp,g,d,tk,os⟩:=s;dsimp only
 wp_walk
 refine UU (Q2 (?_:_));dsimp only;simp only[newObj];refine Q0 (wpAny_alloc (Q2 (?_:_)));exact Q2 q
def Jw(q:Q (.ref s.heap.objs.size) { s with heap:=s.heap.push (kj w) }):wpAny (model prog w) A (call (.type "set") []) Q E s:=by
 obtain⟨cc,tl,hmro⟩:=F.called_set.mro;have made':=F.called_set.made;have sub':=F.called_set.sub;refine Sj (codeAny_of_tree (?_:wpAny _ _ (callAny (.type "set") _) _ _ _));refine Q2 ⟨Uw _ (by decide+kernel),VF F.entry_type_call (?_:_)⟩;rw[Around.under_plain (weight_type_call_type "set" ([]:WQ) []) rfl];have no':=F.called_set.notType;have can':=F.called_set.canCreate;have chk':=F.typeCall_set_0;repeat (any_goals (first|assumption|wp_step))
 refine Sk (EN (E:=E) (Q:=λob s1=>ob=.ref s.heap.objs.size/\s1={ s with heap:=s.heap.push (kj w) }) ⟨rfl,rfl⟩) λr s1 hr1=>?_;cases r with
 |error e=>exact hr1
 |ok fl=>
  cases fl with
  |ret ob=>
   obtain⟨rfl,rfl⟩:=hr1;have zs:(s.heap.push (kj w)).get? s.heap.objs.size=some (kj w):=Rc _ rfl;have ty:Shared.TypeIs { s with heap:=s.heap.push (kj w) } (.ref s.heap.objs.size) "set":=⟨_,zs,rfl⟩;have li':=F.called_set.init.lookup;have bi':=F.called_set.init.bind (.ref s.heap.objs.size);repeat (any_goals (first|assumption|wp_step))
   refine Sk (V1 (R:=wants (λr s2=>r=.none/\Q (.ref s.heap.objs.size) s2) E) F.called_set.init.plain F.entry_set_init (check_set_init ty (?_:_))) λr2 s2 hr2=>?_
   .unfold Builtin.«set.__init__» noKeywords
    wp_walk
    exact⟨rfl,q⟩
   cases r2 with
   |error e=>exact hr2
   |ok fl2=>
    cases fl2 with
    |ret r=>obtain⟨rfl,hq⟩:=hr2;repeat (any_goals (first|assumption|wp_step))
    |_=>exact hr2.elim
  |_=>exact hr1.elim
def yX(hh:A.handled=none)(S:gp w s.heap a es ep)(few:es.size<=306)(q:∀h' tk,(∀b o,s.heap.get? b=some o->h'.get? b=some o)->s.heap.objs.size<h'.objs.size->Q ((dQ w a ep es).toList.map (·.2)) { s with heap:=h',toks:=tk }):wpAny (model prog w) A (collect (.ref a)) Q E s:=by
 unfold collect;refine Q0 (wpAny_runValue (VF entry_proto_collect' (?_:_)));show wpAny _ _ (do
  again (.builtin "list.__iadd__" ⟨[<-newList [],.ref a],[]⟩)) _ _ s
 refine Q0 (VD (Q2 ⟨Uw _ (by decide+kernel),VF entry_list_iadd' (?_:_)⟩));rw[Around.under_plainId (by decide+kernel) _];refine id (?_:wpAny _ _ (Builtin.List.listExtendWith (.ref s.heap.objs.size) (.ref a) (.ref s.heap.objs.size)) _ _ _);have az:a<s.heap.objs.size:=by obtain⟨o,t,ho,_⟩:=S;exact QT ho
 have ne:=UG az;refine kdl_extend (prog:=prog) (R:=λr s'=>match r with
  |.ok (.ret v)=>wpAny (model prog w) A (match v with
   |.ref a=>do
    let o <-load a
    match o.data with
    |.seq xs _=>pure xs.toList
    |_=>unsupported "internal:collect"
   |_=>unsupported "internal:collect") Q E s'
  |.ok _=>False
  |.error e=>E e s') (s:={ s with heap:=s.heap.push (seqObj "list" #[] 0) }) (A:=A) (JD a es ep) ?_ (S.at λo e=>QZ _ e) s.heap.objs.size ne ne (.ref s.heap.objs.size) 0 (Rc _ rfl) (λh' tk acc c kp hS its=>?_) (RM few (by decide))
 .exact hh
 have e:acc.toList=(dQ w a ep es).toList.map (·.2):=by
  refine T4 λj=>?_;obtain⟨z1,z2⟩:=its;rw[R8,RJ,RJ];cases z:acc[j]? with
  |none=>have:=Array.getElem?_eq_none_iff.mp z;rw[Uz (by rw[qX];lia)];rfl
  |some v=>obtain⟨e,h1,h2⟩:=z2 j v z;rw[h1,h2];rfl
 refine id (?_:wpAny _ _ (do
  let o <-load s.heap.objs.size
  match o.data with
  |.seq xs _=>pure xs.toList
  |_=>unsupported "internal:collect") _ _ _)
 refine Q0 (wpAny_load hS (?_:_));refine Q2 ?_;rw[e];exact q h' tk (λb o hb=>kp b o (RH (QT hb)) (QZ _ hb)) (QT hS)
def SR.at(ho:s.heap.get? a=some o)(S:SR prog w o bs):∃es ep,gp w s.heap a es ep/\es.toList.Perm (ents prog w bs):=by obtain⟨ex,es,ep,t,hd,T,nf,hm,tp,tl,pm⟩:=S;exact⟨es,ep,⟨o,t,ho,ex,hd,T.fits,T.ri,T.sz,tp,tl⟩,pm⟩
def Oc{b:Addr}(hu:A.units+8<cLine)(ho:s.heap.get? a=some o)(S:SR prog w o bs)(keys:∀q∈bs,IsTupleKey (intKind prog w) s.heap q.2 q.1)(hk:IsTupleKey (intKind prog w) s.heap k b)(q:∀tk,Q (.bool (decide (k∈bs.map (·.2)))) { s with toks:=tk }):wpAny (model prog w) A (compareOp .In (.ref b) (.ref a)) Q E s:=by
 have ty:s.TypeIs (.ref a) "set":=⟨o,ho,S.ex.1⟩;refine id (?_:wpAny _ _ (do return .bool (<-contains (.ref a) (.ref b))) Q E s);refine Q0 (?_:_);unfold contains;try with_reducible refine Rb ?_
 refine Q0 (wpAny_specialOf ty F.slot_set_contains.lookup (?_:_));refine id (?_:wpAny _ _ (if(some (Value.builtin "set.__contains__")==some Value.none)=true then _ else _) _ E s);rw[if_neg (by rw[beq_builtin_none];exact QV)];refine Q0 (wpAny_callSpecialUnlessNone?_slot (name:=Str.ofString "__contains__") ty F.slot_set_contains
  (SY F.slot_set_contains ty entry_set_contains (?_:_) (F.args_set_contains_2 _ _)))
 unfold Builtin.«frozenset.__contains__»;unfold Builtin.Frozenset.oneOther;simp only[bind_assoc,Vl];unfold Builtin.Frozenset.addrOf;unfold Builtin.Frozenset.withSetAsKey;unfold setContains;refine Q0 (Q2 (?_:_));try dsimp only
 refine Q0 (Q2 (?_:_));try dsimp only
 refine Q0 (wpAny_tryCatch (?_:_));refine Rb (?_:_);refine Q0 (wpAny_pyHash_tuple (by simp;lia) hk (?_:_));refine Q0 (JI (s:={ s with toks:=s.toks+(k.length+1) }) (by simp;lia) ho S keys hk λr hr=>?_);refine Q2 (?_:_);refine id (?_:wpAny _ _ (ret (Value.bool r.isSome)) _ _ _);rw[hr];exact Q2 ⟨_,rfl,TZ (Q2 (q _))⟩
def Ks{b:Addr}(hu:A.units+8<cLine)(ho:s.heap.get? a=some o)(S:SR prog w o bs)(keys:∀q∈bs,IsTupleKey (intKind prog w) s.heap q.2 q.1)(hk:IsTupleKey (intKind prog w) s.heap k b)(few:bs.length+1<=306)(nin:k∉bs.map (·.2))(q:∀h' o' tk,Heap.SameBut a s.heap h'->h'.get? a=some o'->SR prog w o' (bs++[(b,k)])->Q .none { s with heap:=h',toks:=tk }):wpAny (model prog w) A (call (.builtin "set.add") [.ref a,.ref b]) Q E s:=by
 have ty:s.TypeIs (.ref a) "set":=⟨o,ho,S.ex.1⟩;refine SY F.slot_set_add ty F.entry_set_add (?_:_) (F.args_set_add_2 _ _);unfold Builtin.«set.add»;unfold Builtin.Frozenset.oneOther;simp only[bind_assoc,Vl];unfold Builtin.Frozenset.addrOf;unfold setAdd;refine Q0 (Q2 (?_:_));try dsimp only
 refine Q0 (Q2 (?_:_));try dsimp only
 refine Q0 (?_:_);refine Rb (?_:_);refine Q0 (wpAny_pyHash_tuple (by simp;lia) hk (?_:_));refine Mf (s:={ s with toks:=s.toks+(k.length+1) }) (by simp;lia) ho S keys hk few nin λh' o' sb ho' S'=>?_;refine id (?_:wpAny _ _ (ret Value.none) _ _ _);exact Q2 ⟨_,rfl,q h' o' _ sb ho' S'⟩
end
end SM
namespace L2
open PySem PySem.Spec PyProof.Rows
noncomputable def gq (P:Program)(w:World)(a:Addr)(bs:List (Addr×List Int)):HO:=.ext λh=>∃o,h.get? a=some o/\SM.SR P w o bs
def zK{a:Addr}(ho:h.get? a=some o)(S:SM.SR P w o bs):bT P w H h a (gq P w a bs):=
 ⟨⟨o,ho,S⟩,⟨o,ho⟩,λh1 h2 z k=>by
  obtain⟨o,z1,z2⟩:=z;exact⟨o,k o z1,z2⟩⟩
noncomputable def vZ (K:WJ)(H:Hp)(bs:List (Addr×List Int)):Prop:=∀q∈bs,bI K H q.1 (q.2.map V.int)
section
variable{X:Cx}{pins:WD}{U:St}{H:Hp}{s:Shared}
def w5(I:Inv X pins U H s){b:Addr}(h:bI X.K H b (ks.map V.int)):IsTupleKey (intKind X.prog X.w) s.heap ks b:=by obtain⟨its2,r2,⟨o2,e2,c2,n2,d2⟩,_⟩:=I.tuple h;exact⟨o2,its2.toArray,n2,e2,c2,d2,sZ (by simpa using r2)⟩
def Ay(I:Inv X pins U H s)(h:vZ X.K H bs):∀q∈bs,IsTupleKey (intKind X.prog X.w) s.heap q.2 q.1:=λq hq=>w5 I (h q hq)
end
section
variable{X:Cx}
def Cu:cA X (.type "set") (λxs H Q=>xs=[]/\∀p,H p=none->Q (.ref p) (upd H p (gq X.prog X.w p []))):=by intro pins s U H xs us Q I r h;obtain⟨rfl,q⟩:=h;cases r;refine SM.Jw ?_;refine⟨.ref s.heap.objs.size,_,I.laid (t':=s.toks) (λb o' hb=>QZ _ hb) (Q5 _) (o:=gq X.prog X.w s.heap.objs.size []) (zK (Rc _ rfl) SM.Ff),rfl,q _ (I.hok.fresh (Q5 _))⟩
inductive Ho(K:WJ)(P:Program)(w:World) (x:V) (y:V)(H:Hp)(Q:VK):Prop
 |mk:∀(b p:Addr)(ks:Wa)(bs:List (Addr×List Int)),(x=.ref b)->(y=.ref p)->(bI K H b (ks.map V.int))->(H p=some (gq P w p bs))->(vZ K H bs)->(Q (.bl (decide (ks∈bs.map (·.2)))) H)->Ho K P w x y H Q
def P6 (K:WJ)(P:Program)(w:World):R2:=λx y H Q=>Ho K P w x y H Q
def Mp(hu:X.A.units+8<cLine):bC X (compareOp .In) (P6 X.K X.prog X.w):=by intro pins s U H x y v u Q I rx ry h;obtain⟨b,p,ks,bs,rfl,rfl,hb,hp,hk,q⟩:=h;cases rx;cases ry;obtain⟨⟨o,ho,S⟩,_⟩:=I.hok p _ hp;exact SM.Oc hu ho S (Ay I hk) (w5 I hb) λtk=>⟨.bl _,H,I.tok tk,rfl,q⟩
inductive C6(K:WJ)(P:Program)(w:World) (x:V)(vs:List V)(H:Hp)(Q:VK):Prop
 |mk:∀(b p:Addr)(ks:Wa)(bs:List (Addr×List Int)),(x=.ref p)->(vs=[.ref b])->(bI K H b (ks.map V.int))->(H p=some (gq P w p bs))->(vZ K H bs)->(bs.length+1<=306)->(ks∉bs.map (·.2))->(Q .aK (upd H p (gq P w p (bs++[(b,ks)]))))->C6 K P w x vs H Q
noncomputable def OF (K:WJ)(P:Program)(w:World):V->List V->Hp->VK->Prop:=λx vs H Q=>C6 K P w x vs H Q
def KN(hu:X.A.units+8<cLine):Hu X "set.add" (OF X.K X.prog X.w):=by intro pins s U H x vs v us Q I rx rv h;obtain⟨b,p,ks,bs,rfl,rfl,hb,hp,hk,few,nin,q⟩:=h;cases rx;obtain⟨u,rfl,ru⟩:=rv.one;cases ru;obtain⟨⟨o,ho,S⟩,_⟩:=I.hok p _ hp;refine SM.Ks hu ho S (Ay I hk) (w5 I hb) few nin λh' o' tk sb ho' S'=>?_;have I2:=I.write (x:=p) (e:=p) (o:=gq X.prog X.w p (bs++[(b,ks)])) (t':=tk) (h':=h') (by rw[hp];trivial) (.inl rfl) (λc u hc hu'=>by rw[sb.2 c hc];exact hu') ⟨o',ho'⟩ (zK ho' S');exact⟨.aK,_,I2,rfl,q⟩
variable{o e:Expr}{es:WX}{to:TE}{t:TA}{name:Str}{apos cpos:Pos}{id:String}{r:V->List V->Hp->VK->Prop}
noncomputable def Pq (P:Program)(w:World)(r:V->List V->Hp->VK->Prop)(to:TE)(t:TA):TE:=λU H Q=>to U H λx H1=>(∃p bs,x=.ref p/\H1 p=some (gq P w p bs))/\t U H1 λxs H2=>r x xs H2 Q
def LZ(slot:Slot "set" name id)(hty:typeOf (.builtin id)=pure (.type "method_descriptor"))(hm:Hu X id r)(ho:PE X o to)(ha:PA X (e::es) t)(hbase:attributeBase o name X.env (eval o X.env)=eval o X.env:=by rfl)(hfew:((backTo cpos (starEach (e::es) X.env)).all (λx=>!x.1)&&(backToKw cpos (keywordEach [] X.env)).all (λx=>x.1.isSome) && decide ((e::es).length+([]:List Keyword).length+(if([]:List Keyword).isEmpty then 0 else 1)<30))=true:=by rfl)(hline:(apos.endLine==cpos.line)=true:=by rfl)(hs:starEach (e::es) X.env=(false,eval e X.env)::starEach es X.env:=by rfl)(hplain:(backTo cpos (starEach es X.env)).any (·.1)=false:=by rfl) : PE X (.Call (.Attribute o name apos) (e::es) [] cpos) (Pq X.prog X.w r to t):=by intro pins s U H Q I h;refine wpAny_Call_method_late hbase hfew hline rfl (aH (ho pins s U H _ I h) λv s1 ⟨x,H1,I1,r1,⟨p,bs,ex,hp⟩,q1⟩=>?_);subst ex;have r1':=r1;cases r1;obtain⟨⟨ob,hob,S⟩,_⟩:=I1.hok p _ hp;refine⟨"set",id,F.plainAttrs_set,slot,hty,⟨ob,hob,S.ex.1⟩,λb e=>?_,?_⟩;{cases e;exact⟨ob,hob,S.ex.2.1⟩};have hA:=ha cpos pins s1 U H1 _ I1 q1;rw[hs]at hA⊢;refine Ur (by show(false||(backTo cpos (starEach es X.env)).any (·.1))=false;rw[hplain]<;>rfl) (Us ?_);exact aH hA λus s2 ⟨vs,H2,I2,r2,q2⟩=>hm pins s2 U H2 _ vs _ us Q I2 r1' r2 q2
end
def vM{α β:Type}(f:α->β){us vs:List β}(p:us.Perm vs):∀{ds:List α},vs=ds.map f->∃cs:List α,cs.Perm ds/\us=cs.map f:=by
 induction p with
 |nil=>
  intro ds e;cases ds with
  |nil=>exact⟨[],.refl _,rfl⟩
  |cons d ds=>cases e
 |cons x _ ih=>
  intro ds e;cases ds with
  |nil=>cases e
  |cons d ds=>injection e with e1 e2;obtain⟨cs,h1,h2⟩:=ih e2;exact⟨d::cs,h1.cons _,by rw[e1,h2];rfl⟩
 |swap x y l=>
  intro ds e;cases ds with
  |nil=>cases e
  |cons d ds=>
   cases ds with
   |nil=>injection e with _ e;cases e
   |cons d2 ds=>injection e with e1 e2;injection e2 with e2 e3;exact⟨d2::d::ds,.swap _ _ _,by rw[e1,e2,e3];rfl⟩
 |trans _ _ ih1 ih2=>intro ds e;obtain⟨cs,h1,h2⟩:=ih2 e;obtain⟨bs,h3,h4⟩:=ih1 h2;exact⟨bs,h3.trans h1,h4⟩
section
variable{X:Cx}
noncomputable abbrev sP (ds:List (Addr×Int×Int)):List (Addr×List Int):=ds.map λd=>(d.1,[d.2.1,d.2.2])
noncomputable def L4 (K:WJ)(P:Program)(w:World):List V->Hp->VK->Prop:=λxs H Q=>∃(a:Addr)(ds:List (Addr×Int×Int)),xs=[.ref a]/\H a=some (gq P w a (sP ds))/\(∀d∈ds,bI K H d.1 [.int d.2.1,.int d.2.2])/\ds.length<=306 /\
 ∀(cs:List (Addr×Int×Int))(p:Addr),cs.Perm ds->cs.Pairwise (λc d=>mS c.2 d.2)->H p=none->Q (.ref p) (upd H p (.lst (cs.map λc=>.ref c.1)))
def xr(hc:X.calm=true):cA X (.builtin "sorted") (L4 X.K X.prog X.w):=by
 intro pins s U H xs us Q I r h;obtain⟨a,ds,rfl,ha,hd,few,q⟩:=h;obtain⟨u,rfl,ru⟩:=vals1 r;cases ru;obtain⟨⟨o,ho,S⟩,_⟩:=I.hok a _ ha;obtain⟨es,ep,SA,pm⟩:=S.at ho;have esz:es.size=ds.length:=by have:=pm.length_eq;rw[RQ,Q7,Q7]at this;exact this
 have hpk:∀d∈ds,TS.IsPair s.heap (.ref d.1)/\TS.pk s.heap (.ref d.1)=d.2:=λd hm=>by
  refine⟨?_,zI I (hd d hm)⟩;obtain⟨its2,r2,⟨o2,e2,c2,n2,d2⟩,_⟩:=I.tuple (hd d hm);cases r2 with
  |cons ra r3=>
   cases r3 with
   |cons rb r4=>cases r4;obtain⟨t,rfl⟩:=ra;obtain⟨u,rfl⟩:=rb;exact⟨d.1,o2,_,_,t,u,n2,rfl,e2,c2,d2⟩
 refine Calls.call_function_entry kind_sorted plain_sorted entry_sorted (args_sorted1 _) (?_:_);unfold Builtin.«sorted»;refine Q0 (m:=checkCount "sorted" 1 1 _) (Q2 (?_:_));refine Q0 (SM.yX (by simpa using I.ok.hd hc) SA (by lia) λh' tk kp sz=>?_);have pv:((SM.dQ X.w a ep es).toList.map (·.2)).Perm (ds.map λd=>Value.ref d.1):=by have:=((SM.yh X.w a ep es).trans pm).map (·.2);refine this.trans (List.Perm.of_eq ?_);show((ds.map _).map _).map _=_;rw[RV,RV];rfl
 generalize (SM.dQ X.w a ep es).toList.map (·.2)=vs at pv⊢;have vl:vs.length=ds.length:=by rw[pv.length_eq,Q7]
 have line:(1000:Nat)<=sizeLine:=by decide
 refine Q0 (VD (hsz:=by lia) (?_:_));have g0:(h'.push (seqObj "list" vs.toArray 0)).get? h'.objs.size=some (seqObj "list" vs.toArray 0):=Rc _ rfl;have kp2:∀b o,s.heap.get? b=some o->(h'.push (seqObj "list" vs.toArray 0)).get? b=some o:=λb o e=>QZ _ (kp b o e);have hv:∀v∈vs,TS.IsPair s.heap v:=λv m=>by obtain⟨d,hm,rfl⟩:=Q8.mp (pv.mem_iff.mp m);exact(hpk d hm).1
 have hv2:∀v∈vs,TS.IsPair (h'.push (seqObj "list" vs.toArray 0)) v:=λv m=>by obtain⟨b,o,i,j,t,u,n,e,ho,r⟩:=hv v m;exact⟨b,o,i,j,t,u,n,e,kp2 b o ho,r⟩
 refine Q0 (Rb (SY slot_list_sort ⟨_,g0,rfl⟩ entry_list_sort (TS.qf g0 hv2 (by lia) λout po srt=>⟨_,rfl,(?_:_)⟩) (args_list_sort _)));obtain⟨n,hn⟩:=sortedHeap_at (vs:=vs) (out:=out) g0;obtain⟨cs,pc,ec⟩:=vM (λd:Addr×Int×Int=>Value.ref d.1) (po.trans pv) rfl;have new:s.heap.get? h'.objs.size=none:=UD (UC sz);have rz:∀l:List (Addr×Int×Int),Vals (l.map λc=>V.ref c.1) (l.map λd=>Value.ref d.1):=λl=>by
  induction l with
  |nil=>exact .nil
  |cons c l ih=>exact .cons rfl ih
 have I2:=I.vX (a:=h'.objs.size) (o:=.lst (cs.map λc=>V.ref c.1)) (t':=tk) (h':=sortedHeap (h'.push (seqObj "list" vs.toArray 0)) h'.objs.size vs out) (λb o hb=>by
   have lt:=QT (kp b o hb);rw[sortedHeap_old (RH lt) (by rw[size_push'];exact VE lt)]
   exact kp2 b o hb) new
  ⟨by rw[Q7,pc.length_eq];lia,out.toList,n,by rw[ec];exact rz cs,by simpa using hn⟩
 refine Q2 ⟨_,rfl,.ref h'.objs.size,_,I2,rfl,q cs _ pc ?_ (I.g9 new)⟩;rw[ec,TV]at srt;refine UX (λ{c d} hc' hd' e=>?_) srt;have k1:∀d∈cs,TS.pk (h'.push (seqObj "list" vs.toArray 0)) (.ref d.1)=d.2:=λd m=>by rw[TS.uw (hpk d (pc.mem_iff.mp m)).1 λb o _ hb=>kp2 b o hb];exact(hpk d (pc.mem_iff.mp m)).2
 unfold TS.qw at e;rw[k1 c hc',k1 d hd']at e;exact TS.mz.mp e
end
end L2
namespace Dv
inductive vf{A0 A1:Type}(P:A0->A1->Prop):Prop
 |mk (a0:A0)(a1:A1)(h:P a0 a1):vf P
inductive qC{A0 A1 A2:Type}(P:A0->A1->A2->Prop):Prop
 |mk (a0:A0)(a1:A1)(a2:A2)(h:P a0 a1 a2):qC P
inductive yb{A0 A1 A2 A3:Type}(P:A0->A1->A2->A3->Prop):Prop
 |mk (a0:A0)(a1:A1)(a2:A2)(a3:A3)(h:P a0 a1 a2 a3):yb P
inductive Ep{A0 A1 A2 A3 A4:Type}(P:A0->A1->A2->A3->A4->Prop):Prop
 |mk (a0:A0)(a1:A1)(a2:A2)(a3:A3)(a4:A4)(h:P a0 a1 a2 a3 a4):Ep P
inductive yN{A0 A1 A2 A3 A4 A5:Type}(P:A0->A1->A2->A3->A4->A5->Prop):Prop
 |mk (a0:A0)(a1:A1)(a2:A2)(a3:A3)(a4:A4)(a5:A5)(h:P a0 a1 a2 a3 a4 a5):yN P
inductive Mw{A0 A1 A2 A3 A4 A5 A6:Type}(P:A0->A1->A2->A3->A4->A5->A6->Prop):Prop
 |mk (a0:A0)(a1:A1)(a2:A2)(a3:A3)(a4:A4)(a5:A5)(a6:A6)(h:P a0 a1 a2 a3 a4 a5 a6):Mw P
inductive MJ{A0 A1 A2 A3 A4 A5 A6 A7:Type}(P:A0->A1->A2->A3->A4->A5->A6->A7->Prop):Prop
 |mk (a0:A0)(a1:A1)(a2:A2)(a3:A3)(a4:A4)(a5:A5)(a6:A6)(a7:A7)(h:P a0 a1 a2 a3 a4 a5 a6 a7):MJ P
inductive Ll(p0 p1:Prop):Prop
 |mk (h0:p0)(h1:p1):Ll p0 p1
inductive Dq(p0 p1 p2:Prop):Prop
 |mk (h0:p0)(h1:p1)(h2:p2):Dq p0 p1 p2
inductive yP(p0 p1 p2 p3:Prop):Prop
 |mk (h0:p0)(h1:p1)(h2:p2)(h3:p3):yP p0 p1 p2 p3
inductive Hw(p0 p1 p2 p3 p4:Prop):Prop
 |mk (h0:p0)(h1:p1)(h2:p2)(h3:p3)(h4:p4):Hw p0 p1 p2 p3 p4
inductive zV(p0 p1 p2 p3 p4 p5:Prop):Prop
 |mk (h0:p0)(h1:p1)(h2:p2)(h3:p3)(h4:p4)(h5:p5):zV p0 p1 p2 p3 p4 p5
inductive oM(p0 p1 p2 p3 p4 p5 p6:Prop):Prop
 |mk (h0:p0)(h1:p1)(h2:p2)(h3:p3)(h4:p4)(h5:p5)(h6:p6):oM p0 p1 p2 p3 p4 p5 p6
inductive EG(p0 p1 p2 p3 p4 p5 p6 p7:Prop):Prop
 |mk (h0:p0)(h1:p1)(h2:p2)(h3:p3)(h4:p4)(h5:p5)(h6:p6)(h7:p7):EG p0 p1 p2 p3 p4 p5 p6 p7
inductive Mi(p0 p1 p2 p3 p4 p5 p6 p7 p8:Prop):Prop
 |mk (h0:p0)(h1:p1)(h2:p2)(h3:p3)(h4:p4)(h5:p5)(h6:p6)(h7:p7)(h8:p8):Mi p0 p1 p2 p3 p4 p5 p6 p7 p8
end Dv
namespace PB
open PySem L2 Dv
noncomputable def gJ:DS:=aC (Ba [1,2] (cy 0)) (aC (aL 3 (oB sizeLine [6] (f7 ju [.pk 1]) (.nm 6) (iX) (aa cV []))) (aC (dJ (iE (cy 2)) (.tp [4,5]) (aC (cO (yE cz 3 (cy 4) 5)) (cO (yE cz 3 (cy 5) 4)))) (jj 3)))
noncomputable def jg (Wr:dS):DS:=aC (aL 2 (aM Wr [false] [.pk 0])) (aC (aL 3 (aa iC [.ev (aa cV [.ev (dC .none)]),.ev (aa aW [.pk 0,.ev (dC (.int 0))])])) (aC (fP 3 (cy 1) (dC (.int 0))) (aC (aL 4 (aa cV [.pk 1])) (aC (yw (HU 4) (aC (aL 5 (aa cV [])) (aC (dJ (iE (cy 4)) (.nm 6) (dJ (iE (aa aW [.pk 2,.pk 6])) (.nm 7) (b5 (bP (aa (fc false) [.ev (aa aW [.pk 3,.pk 7]),.ev (dC .none)])) (aC (fP 3 (cy 7) (aa dW [.ev (aa aW [.pk 3,.pk 6]),.ev (dC (.int 1))])) (cO (gK cz 5 [cy 7]))) (cF)))) (aL 4 (cy 5))))) (jj 3)))))
noncomputable def gD:DS:=aC (aL 2 (aa iC [.ev (aa cV [.ev (dC (.int 0))]),.pk 1])) (aC (dJ (wU (aa (qi false true) [.pk 0,.ev (dC (.int 63))])) (.tp [3,4]) (fP 2 (aa qR [.pk 3,.pk 1]) (aa dW [.ev (aa iC [.ev (aa aW [.pk 2,.ev (aa qR [.pk 3,.pk 1])]),.ev (dC (.int 31))]),.pk 4]))) (jj 2))
noncomputable def gU (Wi:dS):DS:=aC (b5 (bP (aa f9 [.pk 0,.ev (aa cV [])])) (gY (aa cV [.ev (dC (.int 0))])) (cF)) (gY (aM Wi [false,false] [.pk 0,.ev (aa sF [.pk 1,.ev (aa gc [.pk 0])])]))
noncomputable def i8:DS:=aC (aL 2 (aa qR [.ev (aa dW [.pk 0,.ev (aa iC [.ev (dC (.int 7919)),.ev (aa dW [.pk 1,.ev (dC (.int 1))])])]),.ev (dC (.int 2147483647))])) (aC (aL 3 (aa cV [.ev (dC (.int 0))])) (aC (dJ (f7 ju [.ev (dC (.int 24))]) (.nm 4) (aC (aL 2 (aa qR [.ev (aa dW [.ev (aa dW [.ev (aa dW [.ev (aa iC [.pk 2,.pk 2]),.ev (aa iC [.ev (dC (.int 48271)),.pk 2])]),.ev (aa iC [.ev (dC (.int 3)),.pk 4])]),.pk 1]),.ev (dC (.int 2147483629))])) (fP 3 (dC (.int 0)) (aa dW [.ev (aa iC [.ev (aa aW [.pk 3,.ev (dC (.int 0))]),.ev (dC (.int 2147483629))]),.pk 2])))) (gG (b5 (bP (aa IB [.pk 0,.ev (aa rB [.ev (dC (.int 10)),.ev (dC (.int 18))])])) (cO (gK cz 3 [cy 0])) (cF)) (jj 3))))
noncomputable def iJ:DS:=aC (aL 2 (aa qR [.ev (aa aW [.pk 0,.ev (aa iP [.ev (dC (.int 1))])]),.pk 1])) (aC (fP 0 (aa iP [.ev (dC (.int 1))]) (aa F8 [.ev (aa aW [.pk 0,.ev (aa iP [.ev (dC (.int 1))])]),.pk 1])) (gG (b5 (bP (gH (aa f9 [.ev (aa aW [.pk 0,.ev (aa iP [.ev (dC (.int 1))])]),.ev (dC (.int 0))]) (aa vz [.ev (aa gc [.pk 0]),.ev (dC (.int 1))]))) (cO (gK rL 0 [])) (cF)) (jj 2)))
noncomputable def gX (Wm:dS):DS:=aC (aL 2 (aa lX [.pk 1])) (gY (fD [3] (f7 ju [.pk 1]) (.nm 3) (iX) (eF sizeLine (gK rL 2 [aM Wm [true,false] [.pk 0,.ev (aa gc [.pk 2])]]))))
noncomputable def fU (Wm:dS):DS:=aC (aL 2 (aa dW [.ev (dC (.int 2)),.ev (aM Wm [true,false] [.pk 0,.ev (dC (.int 3))])])) (aC (aL 3 (fD [13] (f7 ju [.pk 2]) (.nm 13) (iX) (eF sizeLine (aM Wm [true,false] [.pk 0,.ev (dC (.int 2))])))) (aC (aL 4 (fD [13] (f7 ju [.pk 1]) (.nm 13) (iX) (eF sizeLine (aM Wm [true,false] [.pk 0,.pk 2])))) (aC (aL 5 (aa cV [])) (aC (dJ (f7 ju [.pk 1]) (.nm 6) (dJ (f7 ju [.pk 6]) (.nm 7) (aC (aL 8 (aa wQ [.ev (aa i7 [.ev (aa aW [.pk 4,.pk 7]),.ev (aa aW [.pk 4,.pk 6])])])) (b5 (bP (n5 (aa f9 [.pk 8,.ev (dC (.int 1))]) (gH (aa f9 [.pk 8,.ev (dC (.int 0))]) (aa f9 [.ev (aa aW [.pk 3,.ev (aa aW [.pk 4,.pk 6])]),.ev (dC (.int 1))])))) (cO (gK cz 5 [aa cY [.pk 7,.pk 6]])) (cF))))) (aC (aL 9 (aa sL [.ev (dC (.int 0)),.ev (dC (.bool true))])) (aC (dJ (f7 ju [.pk 1]) (.nm 10) (dJ (iE (cy 5)) (.tp [11,12]) (b5 (bP (n5 (aa (dF false) [.pk 11,.pk 9]) (aa (dF false) [.pk 12,.pk 9]))) (aC (fP 9 (cy 11) (dC (.bool true))) (fP 9 (cy 12) (dC (.bool true)))) (cF)))) (gY (aa dW [.pk 5,.ev (fD [13] (f7 sr [.ev (dC (.int 1)),.pk 1]) (.nm 13) (bP (aa (dF true) [.pk 13,.pk 9])) (eF sizeLine (aa cY [.ev (dC (.int 0)),.pk 13])))]))))))))
noncomputable def iB (Wm We:dS):DS:=aC (aL 2 (aM Wm [true,false] [.pk 0,.ev (dC (.int 8))])) (aC (aL 3 (fD [8] (f7 sr [.ev (dC (.int 1)),.pk 1]) (.nm 8) (iX) (eF sizeLine (aa cY [.ev (aa i7 [.pk 8,.ev (dC (.int 1))]),.pk 8])))) (gG (b5 (bP (gH (aa f9 [.pk 2,.ev (dC (.int 1))]) (aa vz [.pk 1,.ev (dC (.int 2))]))) (cO (gK cz 3 [aa cY [.ev (dC (.int 0)),.ev (aa i7 [.pk 1,.ev (dC (.int 1))])]])) (cF)) (gG (b5 (bP (aa f9 [.pk 2,.ev (dC (.int 2))])) (aL 3 (fD [8] (f7 sr [.ev (dC (.int 1)),.pk 1]) (.nm 8) (iX) (eF sizeLine (aa cY [.ev (dC (.int 0)),.pk 8])))) (cF)) (gG (b5 (bP (gH (aa f9 [.pk 2,.ev (dC (.int 3))]) (aa sI [.pk 1,.ev (dC (.int 21))]))) (aC (aL 3 (aa cV [])) (dJ (f7 ju [.pk 1]) (.nm 4) (cO (gK qb 3 [fD [8] (f7 ju [.pk 4]) (.nm 8) (iX) (eF sizeLine (aa cY [.pk 8,.pk 4]))])))) (cF)) (gG (b5 (bP (gH (aa f9 [.pk 2,.ev (dC (.int 4))]) (aa sI [.pk 1,.ev (dC (.int 13))]))) (aL 3 (aM We [true,false] [.pk 0,.pk 1])) (cF)) (gG (b5 (bP (aa vz [.pk 2,.ev (dC (.int 4))])) (aC (aL 3 (aa cV [])) (dJ (f7 sr [.ev (dC (.int 1)),.pk 1]) (.nm 4) (cO (gK cz 3 [aa cY [.ev (aa aW [.ev (aa cV [.ev (aM Wm [true,false] [.pk 0,.pk 4]),.ev (aa i7 [.pk 4,.ev (dC (.int 1))]),.ev (aa r9 [.ev (dC (.int 0)),.ev (aa i7 [.pk 4,.ev (dC (.int 2))])])]),.ev (aM Wm [true,false] [.pk 0,.ev (dC (.int 3))])]),.pk 4]])))) (cF)) (gG (b5 (bP (aa vz [.pk 2,.ev (dC (.int 5))])) (aC (aL 5 (aa aW [.ev (aa cV [.ev (dC (.int 7)),.ev (dC (.int 7)),.ev (dC (.int 7)),.ev (dC (.int 142))]),.ev (aM Wm [true,false] [.pk 0,.ev (dC (.int 4))])])) (dJ (f7 ju [.ev (aM Wm [true,false] [.pk 0,.pk 5])]) (.nm 4) (aC (aL 6 (aM Wm [true,false] [.pk 0,.pk 1])) (aC (aL 7 (aM Wm [true,false] [.pk 0,.pk 1])) (b5 (bP (gH (aa sI [.pk 6,.pk 7]) (aa (dF true) [.ev (aa cY [.pk 6,.pk 7]),.pk 3]))) (cO (gK cz 3 [aa cY [.pk 6,.pk 7]])) (cF)))))) (cF)) (jj 3))))))))
noncomputable def iO (Wm Wj Wn:dS):DS:=aC (aL 2 (aa dW [.ev (dC (.int 1)),.ev (aM Wm [true,false] [.pk 0,.pk 1])])) (gG (b5 (bP (aa f9 [.ev (aM Wm [true,false] [.pk 0,.ev (dC (.int 8))]),.ev (dC (.int 0))])) (aL 2 (aa dW [.ev (dC (.int 1)),.ev (aM Wm [true,false] [.pk 0,.ev (dC (.int 60))])])) (cF)) (aC (aL 3 (aM Wj [true,false] [.pk 0,.pk 2])) (aC (aL 4 (aa cV [])) (aC (dJ (iE (aM Wn [true,false] [.pk 0,.pk 2])) (.tp [5,6]) (cO (gK cz 4 [aa cY [.ev (aa sF [.ev (aa aW [.pk 3,.pk 5]),.ev (aa aW [.pk 3,.pk 6])]),.ev (aa r9 [.ev (aa aW [.pk 3,.pk 5]),.ev (aa aW [.pk 3,.pk 6])])]]))) (gY (aa cY [.pk 2,.ev (aa jy [.ev (aa ou [.pk 4])])]))))))
noncomputable def gI (Wm:dS):DS:=aC (aL 3 (aa nv [.pk 2])) (aC (dJ (f7 ju [.ev (aM Wm [true,false] [.pk 0,.ev (dC (.int 4))])]) (.nm 4) (aC (aL 5 (aM Wm [true,false] [.pk 0,.ev (dC (.int 7))])) (aC (aL 6 (aM Wm [true,false] [.pk 0,.ev (aa dW [.ev (aa gc [.pk 3]),.ev (dC (.int 1))])])) (aC (aL 7 (aa aW [.ev (aa cV [.ev (aa iP [.ev (dC (.int 1))]),.pk 1,.ev (aa dW [.ev (aa dW [.pk 1,.ev (dC (.int 1))]),.ev (aM Wm [true,false] [.pk 0,.ev (aa rB [.ev (dC (.int 10)),.ev (dC (.int 60))])])]),.ev (aa i7 [.ev (aa iP [.ev (dC (.int 1))]),.ev (aM Wm [true,false] [.pk 0,.ev (aa rB [.ev (dC (.int 10)),.ev (dC (.int 60))])])])]),.ev (aM Wm [true,false] [.pk 0,.ev (dC (.int 4))])])) (gG (b5 (bP (aa f9 [.pk 5,.ev (dC (.int 0))])) (cO (gK j6 3 [cy 6,aa aW [.ev (aa cV [.ev (aa cY [.pk 7,.ev (dC (.int 0))]),.ev (aa cY [.ev (dC (.int 0)),.pk 7])]),.ev (aM Wm [true,false] [.pk 0,.ev (dC (.int 2))])]])) (cF)) (gG (b5 (bP (aa f9 [.pk 5,.ev (dC (.int 1))])) (aC (aL 8 (aM Wm [true,false] [.pk 0,.pk 1])) (cO (gK j6 3 [cy 6,aa cY [.pk 8,.pk 8]]))) (cF)) (gG (b5 (bP (gH (aa f9 [.pk 5,.ev (dC (.int 2))]) (aa pH [.pk 3,.ev (aa cV [])]))) (aC (aL 9 (aa aW [.pk 3,.ev (aM Wm [true,false] [.pk 0,.ev (aa gc [.pk 3])])])) (cO (gK j6 3 [cy 6,aa aW [.ev (aa cV [.pk 9,.ev (aa cY [.ev (aa aW [.pk 9,.ev (dC (.int 1))]),.ev (aa aW [.pk 9,.ev (dC (.int 0))])])]),.ev (aM Wm [true,false] [.pk 0,.ev (dC (.int 2))])]]))) (cF)) (b5 (bP (gH (aa vz [.pk 5,.ev (dC (.int 2))]) (aa pH [.pk 3,.ev (aa cV [])]))) (cO (gK rL 3 [aM Wm [true,false] [.pk 0,.ev (aa gc [.pk 3])]])) (cF))))))))) (jj 3))
noncomputable def iF:DS:=aC (aL 2 (aa sL [.ev (cy 1),.ev (dC (.int 0))])) (aC (dJ (f7 sr [.ev (dC (.int 1)),.ev (aa aW [.pk 0,.ev (dC (.int 0))])]) (.nm 3) (aC (aL 4 (aa cV [])) (aC (dJ (iE (aa (qi false true) [.ev (aa aW [.pk 0,.ev (dC (.int 1))]),.ev (aa iC [.ev (aa gc [.ev (aa aW [.pk 0,.ev (dC (.int 1))])]),.ev (aa mF [.ev (aa sI [.ev (aa gc [.pk 2]),.ev (aa aW [.pk 0,.ev (dC (.int 0))])])])])])) (.tp [5,6]) (gG (b5 (bP (gH (aa (dF false) [.pk 5,.pk 2]) (gH (aa f9 [.ev (aa aW [.pk 2,.pk 5]),.ev (aa i7 [.pk 3,.ev (dC (.int 1))])]) (aa (dF true) [.pk 6,.pk 2])))) (cO (gK cz 4 [cy 6])) (cF)) (b5 (bP (gH (aa (dF false) [.pk 6,.pk 2]) (gH (aa f9 [.ev (aa aW [.pk 2,.pk 6]),.ev (aa i7 [.pk 3,.ev (dC (.int 1))])]) (aa (dF true) [.pk 5,.pk 2])))) (cO (gK cz 4 [cy 5])) (cF)))) (dJ (iE (cy 4)) (.nm 7) (fP 2 (cy 7) (cy 3)))))) (gY (fD [8] (f7 ju [.ev (aa aW [.pk 0,.ev (dC (.int 0))])]) (.nm 8) (iX) (eF sizeLine (MS 2 8 (aa iP [.ev (dC (.int 1))]))))))
noncomputable def iT (Wh:dS):DS:=aC (b5 (bP (n5 (aa sI [.pk 0,.ev (dC (.int 1))]) (aa vz [.pk 0,.ev (dC (.int 60))]))) (gY (dC (.str "noweb"))) (cF)) (aC (aL 2 (aa cV [])) (aC (dJ (iE (cy 1)) (.tp [3,4]) (aC (aL 5 (aa cY [.ev (aa sF [.pk 3,.pk 4]),.ev (aa r9 [.pk 3,.pk 4])])) (aC (b5 (bP (n5 (aa f9 [.pk 3,.pk 4]) (n5 (aa sI [.ev (aa aW [.pk 5,.ev (dC (.int 0))]),.ev (dC (.int 0))]) (n5 (aa IB [.ev (aa aW [.pk 5,.ev (dC (.int 1))]),.pk 0]) (aa (dF false) [.pk 5,.pk 2]))))) (gY (dC (.str "noweb"))) (cF)) (cO (gK cz 2 [cy 5]))))) (aC (aL 6 (aM Wh [false,false] [.ev (aa cY [.pk 0,.ev (aa jy [.pk 1])]),.ev (dC (.int 0))])) (aC (b5 (bP (aa (dF false) [.ev (aa iP [.ev (dC (.int 1))]),.pk 6])) (gY (aa cY [.ev (dC (.str "apart")),.ev (Ja 6 1)])) (cF)) (gY (aa cY [.pk 0,.ev (aa jy [.ev (aa ou [.pk 2])])]))))))
noncomputable def ny (Wf Wk Wq Wl Wm Wo Wg:dS):DS:=aC (dJ (wU (aM Wf [false,false] [.pk 0,.ev (dC (.int 8))])) (.tp [1,2]) (aC (aL 3 (aM Wk [false,false] [.pk 2,.pk 1])) (aC (aL 4 (aM Wq [true,false] [.pk 3,.ev (dC (.int 12))])) (aC (aL 5 (aa aW [.pk 4,.ev (dC (.int 0))])) (aC (aL 6 (aM Wl [true,false,false] [.pk 3,.pk 5,.ev (aa (qi false true) [.ev (aa aW [.pk 4,.ev (dC (.int 1))]),.ev (dC (.int 197))])])) (gG (b5 (bP (aa f9 [.ev (aM Wm [true,false] [.pk 3,.ev (dC (.int 8))]),.ev (dC (.int 0))])) (aL 5 (aa aW [.ev (aa cV [.ev (dC (.int 0)),.ev (dC (.int 61)),.ev (aa i7 [.ev (aa iP [.ev (dC (.int 1))]),.ev (aM Wm [true,false] [.pk 3,.ev (aa rB [.ev (dC (.int 10)),.ev (dC (.int 60))])])]),.ev (aa dW [.ev (dC (.int 61)),.ev (aM Wm [true,false] [.pk 3,.ev (aa rB [.ev (dC (.int 10)),.ev (dC (.int 60))])])])]),.ev (aM Wm [true,false] [.pk 3,.ev (dC (.int 4))])])) (cF)) (aC (aL 7 (aa nv [.pk 6])) (b5 (bP (n5 (aa pH [.ev (aM Wo [false,false] [.pk 5,.pk 7]),.ev (aM Wg [false,false] [.pk 5,.pk 6])]) (aa pH [.pk 7,.pk 6]))) (gY (dC (.bool false))) (cF))))))))) (gY (dC (.bool true)))
end PB
namespace Dv
open PySem L2
noncomputable def vG (xs:WN)(tg:Tg)(b:DS)(D:iA)(E1:En):Prop:=∃I:Nat->En->Prop,I 0 E1/\(∀i d E,xs[i]?=some d->I i E->∃E2,cS tg d E=some E2/\b { D with nx:=I (i+1) } E2)/\∀E,I xs.length E->D.nx E
noncomputable def vm (cs:WZ)(xs:WN)(tg:Tg)(c:DT)(r:DC)(E1:En)(Q:En->Kd->PyData->Prop):Prop:=∃(E0:En)(I:Nat->WN->En->Prop),br cs E1=some E0/\I 0 [] E0/\(∀i d ys E,xs[i]?=some d->I i ys E->∃E2,cS tg d E=some E2/\c xF E2 λE3 b=>if b=true then r xF ys E3 (I (i+1))else I (i+1) ys E3)/\∀ys E,I xs.length ys E->∃E2,br cs E=some E2/\Q E2 (.ow false) (.list ys)
noncomputable def LM (most:Nat)(cs:WZ)(xs:WN)(tg:Tg)(c:DT)(e:DE)(E1:En)(Q:En->Kd->PyData->Prop):Prop:=∃(E0:En)(I:Nat->WN->En->Prop),br cs E1=some E0/\I 0 [] E0/\(∀i d ys E,xs[i]?=some d->I i ys E->∃E2,cS tg d E=some E2/\c xF E2 λE3 b=>if b=true then e xF E3 (λE4 k v=>(∃p,k=.ow p)/\ys.length<most/\I (i+1) (ys++[v]) E4)else I (i+1) ys E3)/\∀ys E,I xs.length ys E->∃E2,br cs E=some E2/\Q E2 (.dp false) (.list ys)
noncomputable def Pa (xs:WN)(tg:Tg)(c:DT)(r:DC)(x:XC)(ys:WN)(E1:En)(Q:WN->En->Prop):Prop:=∃I:Nat->WN->En->Prop,I 0 ys E1/\(∀i d ys E,xs[i]?=some d->I i ys E->∃E2,cS tg d E=some E2/\c x E2 λE3 b=>if b=true then r x ys E3 (I (i+1))else I (i+1) ys E3)/\∀ys E,I xs.length ys E->Q ys E
theorem dyr0:∀{it:DI}{tg:Tg}{b:DS}{D:iA}{o:Option (Kd×PyData)}{E:En},dJ it tg b D (o::E)=it D.xc (o::E) λE1 xs=>vG xs tg b D E1:=rfl
theorem dyr1:∀{cs:WZ}{it:DI}{tg:Tg}{c:DT}{r:DC}{x:XC}{o:Option (Kd×PyData)}{E:En}{Q:En->Kd->PyData->Prop},fD cs it tg c r x (o::E) Q=it x (o::E) λE1 xs=>vm cs xs tg c r E1 Q:=rfl
theorem dyr2:∀{most:Nat}{cs:WZ}{it:DI}{tg:Tg}{c:DT}{e:DE}{x:XC}{o:Option (Kd×PyData)}{E:En}{Q:En->Kd->PyData->Prop},oB most cs it tg c e x (o::E) Q=it x (o::E) λE1 xs=>LM most cs xs tg c e E1 Q:=rfl
theorem dyr3:∀{it:DI}{tg:Tg}{c:DT}{r:DC}{x:XC}{ys:WN}{o:Option (Kd×PyData)}{E:En}{Q:WN->En->Prop},O7 it tg c r x ys (o::E) Q=it x (o::E) λE1 xs=>Pa xs tg c r x ys E1 Q:=rfl
def dy:
 (∀{it:DI}{tg:Tg}{b:DS}{D:iA}{o:Option (Kd×PyData)}{E:En},dJ it tg b D (o::E)=it D.xc (o::E) λE1 xs=>vG xs tg b D E1) /\
 (∀{cs:WZ}{it:DI}{tg:Tg}{c:DT}{r:DC}{x:XC}{o:Option (Kd×PyData)}{E:En}{Q:En->Kd->PyData->Prop},fD cs it tg c r x (o::E) Q=it x (o::E) λE1 xs=>vm cs xs tg c r E1 Q) /\
 (∀{most:Nat}{cs:WZ}{it:DI}{tg:Tg}{c:DT}{e:DE}{x:XC}{o:Option (Kd×PyData)}{E:En}{Q:En->Kd->PyData->Prop},oB most cs it tg c e x (o::E) Q=it x (o::E) λE1 xs=>LM most cs xs tg c e E1 Q) /\
 (∀{it:DI}{tg:Tg}{c:DT}{r:DC}{x:XC}{ys:WN}{o:Option (Kd×PyData)}{E:En}{Q:WN->En->Prop},O7 it tg c r x ys (o::E) Q=it x (o::E) λE1 xs=>Pa xs tg c r x ys E1 Q):=⟨rfl,rfl,rfl,rfl⟩
theorem ux{i:Nat}{z:Option (Kd×PyData)}:∀{cs:WZ}{E E0:En},i∉cs->br cs (E.set i none)=some E0->br cs (E.set i z)=some (E0.set i z)
 |[],E,E0,_,h=>by have h:E.set i none=E0:=Option.some.inj h;show some _=some _;rw[<-h,List.set_set]
 |c::cs,E,E0,n,h=>by
  have nc:i≠c:=λe=>n (e▸Q6);have ns:i∉cs:=λm=>n (QU _ m);have ho:∀y:Option (Kd×PyData),bR (E.set i y) c=bR E c:=λy=>by unfold bR;rw[TY nc]
  unfold br at h⊢;rw[ho]at h⊢;split at h;{rename_i hc;rw[if_pos hc];rw[List.set_comm _ _ nc]at h⊢;exact ux ns h};cases h
theorem yq:∀{cs:WZ}{ds:WN}{E E' E0:En},cs.Nodup->br cs E=some E0->br cs E'=some E0->bJ cs ds E=bJ cs ds E'
 |[],ds,E,E',E0,_,h,h'=>by have h:E=E0:=Option.some.inj h;have h':E'=E0:=Option.some.inj h';rw[h,h']
 |c::cs,[],E,E',E0,_,h,h'=>rfl
 |c::cs,d::ds,E,E',E0,nd,h,h'=>by have n1:=(RX.mp nd).1;unfold br at h h';unfold bJ;split at h;{rename_i hc;split at h';{rename_i hc';rw[if_pos hc,if_pos hc'];exact yq (RX.mp nd).2 (ux n1 h) (ux n1 h')};cases h'};cases h
def AN{cs:WZ}{ds:WN}{E E' E0:En}(nd:kL cs=true)(h:br cs E=some E0)(h':br cs E'=some E0):bJ cs ds E=bJ cs ds E':=yq (iu nd) h h'
def rm{tg:Tg}{cs:WZ}{d:PyData}{E E' E0:En}(hs:tg.slots=cs)(nd:kL cs=true)(h:br cs E=some E0)(h':br cs E'=some E0):cS tg d E=cS tg d E':=by
 subst hs;cases tg with
 |nm i=>exact AN nd h h'
 |tp is=>
  cases d with
  |tuple ds=>exact AN nd h h'
  |_=>rfl
theorem jZ:∀{cs:WZ}{E E0:En},cs.Nodup->br cs E=some E0->br cs E0=some E0/\∀c∈cs,E0[c]?=some none
 |[],E,E0,_,h=>⟨rfl,λ_ z=>by cases z⟩
 |c::cs,E,E0,nd,h=>by
  have n1:=(RX.mp nd).1;have n2:=(RX.mp nd).2;unfold br at h;split at h
  .rename_i hc;obtain⟨h1,h2⟩:=jZ n2 h;have hlen:c<E.length:=by unfold bR at hc;rcases Rh c E.length with z|z;{exact z};rw[Rk z]at hc;cases hc
   have hcl:∀{cs:WZ}{E E0:En},c∉cs->br cs E=some E0->E0[c]?=E[c]?:=by
    intro cs;induction cs with
    |nil=>intro E E0 _ h;cases h;rfl
    |cons a cs ih=>intro E E0 n h;unfold br at h;split at h;{rw[ih (λm=>n (QU _ m)) h,TY (λe=>n (by rw[e];exact Q6))]};cases h
   have e0:E0[c]?=some none:=by rw[hcl n1 h,TX hlen]
   refine⟨?_,λx hx=>?_⟩
   .unfold br;rw[if_pos (by unfold bR;rw[e0])];have:E0.set c none=E0:=by
     refine T4 λj=>?_;by_cases e:c=j
     .subst e;have:c<E0.length:=by rcases Rh c E0.length with z|z;{exact z};rw[Rk z]at e0;cases e0
      rw[TX this,e0]
     rw[TY e]
    rw[this];exact h1
   cases hx with
   |head=>exact e0
   |tail _ m=>exact h2 x m
  cases h
def bH{α:Type}{l:List α}{i:Nat}{a:α}(ha:l[i]?=some a):i<l.length:=by rcases Rh i l.length with z|z;{exact z};rw[Rk z]at ha;cases ha
def take_snoc{α:Type}{l:List α}{i:Nat}{a:α}(ha:l[i]?=some a):l.take (i+1)=l.take i++[a]:=by rw[List.take_add_one,ha];rfl
def Lj{α:Type}{l:List α}{enc:α->PyData}{cs:WZ}{tg:Tg}{e:DE}{most:Nat}{E1 E0:En}{Q:En->Kd->PyData->Prop}(g:α->PyData)(h0:br cs E1=some E0)(h2:∀a,a∈l->∀I:En->PyData->Prop,(∀E4,br cs E4=some E0->I E4 (g a))->∃E2,cS tg (enc a) E0=some E2/\e xF E2 (λE4 k v=>(∃p,k=.ow p)/\I E4 v))(h3:Q E0 (.dp false) (.list (l.map g)))(hl:l.length<=most)(hs:tg.slots=cs:=by rfl)(nd:kL cs=true:=by rfl):LM most cs (l.map enc) tg iX e E1 Q:=by
 obtain⟨hc0,_⟩:=jZ (iu nd) h0;refine⟨E0,λi ys E=>ys=(l.take i).map g/\br cs E=some E0,h0,⟨rfl,hc0⟩,?_,?_⟩
 .rintro i d ys E hd⟨rfl,hE⟩;rw[R8]at hd;obtain⟨a,ha,rfl⟩:=Rt.mp hd;have hi:=bH ha;obtain⟨E2,hE2,hb⟩:=h2 a (RD ha) (λE4 v=>((l.take i).map g).length<most/\((l.take i).map g++[v]=(l.take (i+1)).map g/\br cs E4=some E0)) (λE4 hE4=>by
   refine⟨?_,?_,hE4⟩
   .rw[Q7,S9];lia
   .rw[take_snoc ha,RG];rfl)
  exact⟨E2,(rm hs nd hE hc0).trans hE2,hb⟩
 rintro ys E⟨rfl,hE⟩;rw[Q7,TQ];exact⟨E0,hE,h3⟩
def pT{α:Type}{l:List α}{enc:α->PyData}{tg:Tg}{b:DS}{D:iA}{E1:En}(I:Nat->En->Prop)(h0:I 0 E1)(hs:∀i a E,l[i]?=some a->I i E->∃E2,cS tg (enc a) E=some E2/\b { D with nx:=I (i+1) } E2)(he:∀E,I l.length E->D.nx E):vG (l.map enc) tg b D E1:=by refine⟨I,h0,λi d E hd hi=>?_,by rw[Q7];exact he⟩;rw[R8]at hd;obtain⟨a,ha,rfl⟩:=Rt.mp hd;exact hs i a E ha hi
def BJ{α:Type}{l:List α}{enc:α->PyData}{cs:WZ}{tg:Tg}{c:DT}{r:DC}{E1:En}{Q:En->Kd->PyData->Prop}(E0:En)(I:Nat->WN->En->Prop)(h0:br cs E1=some E0)(h1:I 0 [] E0)(hs:∀i a ys E,l[i]?=some a->I i ys E->∃E2,cS tg (enc a) E=some E2/\c xF E2 λE3 b=>if b=true then r xF ys E3 (I (i+1))else I (i+1) ys E3)(he:∀ys E,I l.length ys E->∃E2,br cs E=some E2/\Q E2 (.ow false) (.list ys)):vm cs (l.map enc) tg c r E1 Q:=by refine⟨E0,I,h0,h1,λi d ys E hd hi=>?_,by rw[Q7];exact he⟩;rw[R8]at hd;obtain⟨a,ha,rfl⟩:=Rt.mp hd;exact hs i a ys E ha hi
def EL{n i k:Nat}(h:(List.range n)[i]?=some k):i<n/\k=i:=by have hi:=bH h;rw[RB]at hi;rw[Ry hi]at h;cases h;exact⟨hi,rfl⟩
def MP{n:Nat}{enc:Nat->PyData}{tg:Tg}{b:DS}{D:iA}{E1:En}(I:Nat->En->Prop)(h0:I 0 E1)(hs:∀i E,i<n->I i E->∃E2,cS tg (enc i) E=some E2/\b { D with nx:=I (i+1) } E2)(he:∀E,I n E->D.nx E):vG ((List.range n).map enc) tg b D E1:=
 pT I h0 (λi a E ha hi=>by obtain⟨l,rfl⟩:=EL ha;exact hs a E l hi) (by rw[RB];exact he)
def Jq{α:Type}{l:List α}{enc:α->PyData}{cs:WZ}{tg:Tg}{e:DE}{most:Nat}{E1 E0:En}{Q:En->Kd->PyData->Prop}(S:En->Prop)(g:α->PyData)(h0:br cs E1=some E0)(hS:S E0)(h2:∀a,a∈l->∀E0',S E0'->∀I:En->PyData->Prop,(∀E4 E5,br cs E4=some E5->S E5->I E4 (g a))->∃E2,cS tg (enc a) E0'=some E2/\e xF E2 (λE4 k v=>k.fz=true/\I E4 v))(h3:∀E0',S E0'->Q E0' (.ow false) (.list (l.map g)))(hl:l.length<=most)(hs:tg.slots=cs:=by rfl)(nd:kL cs=true:=by rfl):vm cs (l.map enc) tg iX (eF most e) E1 Q:=by
 obtain⟨hc0,_⟩:=jZ (iu nd) h0;refine⟨E0,λi ys E=>ys=(l.take i).map g/\∃E5,br cs E=some E5/\S E5,h0,⟨rfl,E0,hc0,hS⟩,?_,?_⟩
 .rintro i d ys E hd⟨rfl,E5,hE,hS5⟩;rw[R8]at hd;obtain⟨a,ha,rfl⟩:=Rt.mp hd;have hi:=bH ha;obtain⟨hc5,_⟩:=jZ (iu nd) hE;obtain⟨E2,hE2,hb⟩:=h2 a (RD ha) E5 hS5 (λE4 v=>((l.take i).map g).length<most/\((l.take i).map g++[v]=(l.take (i+1)).map g/\∃E5,br cs E4=some E5/\S E5)) (λE4 E6 hE4 hS6=>by
   refine⟨?_,?_,E6,hE4,hS6⟩
   .rw[Q7,S9];lia
   .rw[take_snoc ha,RG];rfl)
  exact⟨E2,(rm hs nd hE hc5).trans hE2,hb⟩
 rintro ys E⟨rfl,E5,hE,hS5⟩;rw[Q7,TQ];exact⟨E5,hE,h3 E5 hS5⟩
def Jr{α:Type}{l:List α}{enc:α->PyData}{cs:WZ}{tg:Tg}{c:DT}{e:DE}{most:Nat}{E1 E0:En}{Q:En->Kd->PyData->Prop}(S:En->Prop)(g:α->Option PyData)(h0:br cs E1=some E0)(hS:S E0)(h2:∀a,a∈l->∀E0',S E0'->∀I:En->Option PyData->Prop,(∀E4 E5,br cs E4=some E5->S E5->I E4 (g a))->∃E2,cS tg (enc a) E0'=some E2/\c xF E2 λE3 b=>if b=true then e xF E3 (λE4 k v=>k.fz=true/\I E4 (some v))else I E3 none)(h3:∀E0',S E0'->Q E0' (.ow false) (.list (l.filterMap g)))(hl:l.length<=most)(hs:tg.slots=cs:=by rfl)(nd:kL cs=true:=by rfl):vm cs (l.map enc) tg c (eF most e) E1 Q:=by
 obtain⟨hc0,_⟩:=jZ (iu nd) h0;refine⟨E0,λi ys E=>ys=(l.take i).filterMap g/\∃E5,br cs E=some E5/\S E5,h0,⟨rfl,E0,hc0,hS⟩,?_,?_⟩
 .rintro i d ys E hd⟨rfl,E5,hE,hS5⟩;rw[R8]at hd;obtain⟨a,ha,rfl⟩:=Rt.mp hd;have hi:=bH ha;obtain⟨hc5,_⟩:=jZ (iu nd) hE;have hlen:((l.take i).filterMap g).length<most:=by have:=List.length_filterMap_le g (l.take i);rw[S9]at this;lia
  obtain⟨E2,hE2,hb⟩:=h2 a (RD ha) E5 hS5 (λE4 o=>match o with
   |some v=>((l.take i).filterMap g).length<most/\((l.take i).filterMap g++[v]=(l.take (i+1)).filterMap g/\∃E5,br cs E4=some E5/\S E5)
   |none=>(l.take i).filterMap g=(l.take (i+1)).filterMap g/\∃E5,br cs E4=some E5/\S E5) (λE4 E6 hE4 hS6=>by
   cases hg:g a with
   |none=>
    refine⟨?_,E6,hE4,hS6⟩;rw[take_snoc ha,UO,Rr,hg];exact(S8 _).symm
   |some v=>
    refine⟨hlen,?_,E6,hE4,hS6⟩;rw[take_snoc ha,UO,Rr,hg];rfl)
  exact⟨E2,(rm hs nd hE hc5).trans hE2,hb⟩
 rintro ys E⟨rfl,E5,hE,hS5⟩;rw[Q7,TQ];exact⟨E5,hE,h3 E5 hS5⟩
def sf{α:Type}{l:List α}{enc:α->PyData}{cs:WZ}{tg:Tg}{e:DE}{most:Nat}{E1 E0:En}{Q:En->Kd->PyData->Prop}(g:α->PyData)(h0:br cs E1=some E0)(h2:∀a,a∈l->∀I:En->PyData->Prop,(∀E4,br cs E4=some E0->I E4 (g a))->∃E2,cS tg (enc a) E0=some E2/\e xF E2 (λE4 k v=>k.fz=true/\I E4 v))(h3:Q E0 (.ow false) (.list (l.map g)))(hl:l.length<=most)(hs:tg.slots=cs:=by rfl)(nd:kL cs=true:=by rfl):vm cs (l.map enc) tg iX (eF most e) E1 Q:=
 Jq (·=E0) g h0 rfl (λa ha E0' e I hI=>by subst e;exact h2 a ha I λE4 h=>hI E4 _ h rfl) (λE0' e=>by subst e;exact h3) hl hs nd
def Mv{α:Type}{l:List α}{enc:α->PyData}{cs:WZ}{tg:Tg}{c:DT}{e:DE}{most:Nat}{E1 E0:En}{Q:En->Kd->PyData->Prop}(g:α->Option PyData)(h0:br cs E1=some E0)(h2:∀a,a∈l->∀I:En->Option PyData->Prop,(∀E4,br cs E4=some E0->I E4 (g a))->∃E2,cS tg (enc a) E0=some E2/\c xF E2 λE3 b=>if b=true then e xF E3 (λE4 k v=>k.fz=true/\I E4 (some v))else I E3 none)(h3:Q E0 (.ow false) (.list (l.filterMap g)))(hl:l.length<=most)(hs:tg.slots=cs:=by rfl)(nd:kL cs=true:=by rfl):vm cs (l.map enc) tg c (eF most e) E1 Q:=
 Jr (·=E0) g h0 rfl (λa ha E0' e I hI=>by subst e;exact h2 a ha I λE4 h=>hI E4 _ h rfl) (λE0' e=>by subst e;exact h3) hl hs nd
abbrev iD (n:Nat):PyData:=.int (n:Int)
abbrev nD (l:WZ):PyData:=.list (l.map iD)
abbrev bw (e:Nat×Nat):PyData:=.tuple [iD e.1,iD e.2]
abbrev wD (m:Nat)(es:WH):PyData:=.tuple [iD m,.tuple (es.map bw)]
def LN{n:Nat}:jP 0 n=(List.range n).map iD:=by unfold jP;refine SV λi _=>?_;rw[Int.zero_add]
def M5{n:Nat}:jP 1 n=(List.range n).map λi=>iD (i+1):=by unfold jP;refine SV λi _=>?_;show PyData.int _=PyData.int _;congr 1;lia
def jB{xs:WN}{i:Nat}:dM xs (i:Int)=xs[i]?:=by unfold dM kC;rw[if_pos (by lia)];split;{exact rfl};rw[Rk (by lia)];rfl
def D9{n i:Nat}(h:i<n):jo n (i:Int)=some i:=by unfold jo;rw[if_pos (by lia),if_pos (by lia)];rfl
def uF{n i:Nat}{Q:Nat->Prop}(h:i<n)(q:Q i):aD (jo n (i:Int)) Q:=by rw[D9 h];exact q
def yo{α β:Type}{o:Option α}{f:α->β}{Q:β->Prop}:aD (o.map f) Q=aD o λa=>Q (f a):=by cases o<;>rfl
def sG{α:Type}{l:List α}{f:α->PyData}{i:Nat}{Q:PyData->Prop}:aD (dM (l.map f) (i:Int)) Q=aD l[i]? λa=>Q (f a):=by rw[jB,R8,yo]
def DN{α:Type}{l:List α}{f:α->PyData}{a:Nat}:cutD (l.map f) (some (a:Int)) none=(l.drop a).map f:=by unfold cutD;have e1:HT.aJ (l.map f).length 0 (some (a:Int))=min a (l.map f).length:=HT.pU _ _ a;have e2:HT.aJ (l.map f).length (l.map f).length none=(l.map f).length:=rfl;rw[e1,e2,Q7,<-List.map_drop,<-VG];congr 1;rw[TM (by rw[Td];lia)];rcases Tr a l.length with h|h;{rw[Tt h]};rw[Tu h,VH,VB h]
def mj{α:Type}{l:List α}{f:α->PyData}{b:Nat}:cutD (l.map f) none (some (b:Int))=(l.take b).map f:=by unfold cutD;have e1:HT.aJ (l.map f).length (l.map f).length (some (b:Int))=min b (l.map f).length:=HT.pU _ _ b;have e2:HT.aJ (l.map f).length 0 none=0:=rfl;rw[e1,e2,Q7,V7,Nat.sub_zero,<-VG];congr 1;rcases Tr b l.length with h|h;{rw[Tt h]};rw[Tu h,TQ,TM h]
def xT{α:Type}{l:List α}{f:α->PyData}{a b:Nat}:cutD (l.map f) (some (a:Int)) (some (b:Int))=((l.take b).drop a).map f:=by unfold cutD;have e1:HT.aJ (l.map f).length 0 (some (a:Int))=min a (l.map f).length:=HT.pU _ _ a;have e2:HT.aJ (l.map f).length (l.map f).length (some (b:Int))=min b (l.map f).length:=HT.pU _ _ b;rw[e1,e2,Q7,<-List.map_drop,<-VG];congr 1;rw[List.drop_take];rcases Tr a l.length with h|h;{rw[Tt h];rcases Tr b l.length with g|g;{rw[Tt g]};rw[Tu g,TM (by rw[Td];lia),TM (by rw[Td];lia)]};rw[Tu h,VH,VB h,List.take_nil,List.take_nil]
def nA{α:Type}{l:List α}{f:α->PyData}:jk (l.map f)=l.zipIdx.map λp=>.tuple [iD p.2,f p.1]:=by unfold jk;rw[List.zipIdx_map,RV];rfl
theorem zip_map{α β:Type}{l:List α}{m:List β}{f:α->PyData}{g:β->PyData}:((l.map f).zip (m.map g)).map (λp=>PyData.tuple [p.1,p.2])=(l.zip m).map λp=>.tuple [f p.1,g p.2]:=by rw[List.zip_map,RV];rfl
def zS{α:Type}{l:List α}{f:α->PyData}{Q:PyData->Prop}:aD (dM (l.map f) 0) Q=aD l[0]? λa=>Q (f a):=sG (i:=0)
def z6{α:Type}{l:List α}{f:α->PyData}{Q:PyData->Prop}:aD (dM (l.map f) 1) Q=aD l[1]? λa=>Q (f a):=sG (i:=1)
def aX{α:Type}{o:Option α}{a:α}{Q:α->Prop}(h:o=some a)(q:Q a):aD o Q:=by rw[h];exact q
def yj{a b:Nat}:(a:Int)%(b:Int)=((a%b:Nat):Int):=(Int.natCast_emod a b).symm
def x9{a b:Nat}:(a:Int)/(b:Int)=((a/b:Nat):Int):=(Int.natCast_ediv a b).symm
def AD{a b:Nat}:((a:Int)<(b:Int))=(a<b):=propext UB
def AJ{a b:Nat}:((a:Int)<=(b:Int))=(a<=b):=propext Int.ofNat_le
def cast_eq{a b:Nat}:((a:Int)=(b:Int))=(a=b):=propext Int.ofNat_inj
def cast_pos{a:Nat}:((0:Int)<(a:Int))=(0<a):=propext Int.natCast_pos
def Ip{a b:Nat}:(if b<a then(b:Int)else(a:Int))=((min a b:Nat):Int):=by split<;>lia
def HM{a b:Nat}:(if a<b then(b:Int)else(a:Int))=((max a b:Nat):Int):=by split<;>lia
def HP{a b:Nat}:(if b>a then(b:Int)else(a:Int))=((max a b:Nat):Int):=by split<;>lia
def tF{ds:WN}:lf (.tuple ds)=ds.all lf:=mw ds
def Av{p:Bool}{ds:WN}:flat (.ow p) (.list ds)=ds.all lf:=rfl
def qU{α β:Type}{l:List α}{f:α->β}{p:β->Bool}:(l.map f).all p=l.all λa=>p (f a):=by rw[TN];rfl
def Ei{α:Type}{l:List α}:(l.all λ_=>true)=true:=by rw[QW];exact λ_ _=>rfl
def Bp{n:Nat}:lf (iD n)=true:=rfl
def wR{e:Nat×Nat}:lf (bw e)=true:=rfl
def IQ{m:Nat}{es:WH}:lf (wD m es)=true:=by rw[tF];show(lf (iD m)&&(lf (.tuple (es.map bw))&&true))=true;rw[tF,qU];simp[Bp,wR]
def OW:type_of%@tF/\type_of%@Av/\type_of%@qU/\type_of%@Ei/\type_of%@Bp/\type_of%@wR/\type_of%@IQ/\(decide True=true)/\(∀{ds:WN},lf (.list ds)=false)/\(∀{α:Type}{l m:List α}{p:α->Bool},(l++m).all p=(l.all p&&m.all p)):=⟨@tF,@Av,@qU,@Ei,@Bp,@wR,@IQ,rfl,rfl,(by intros;exact List.all_append)⟩
def dz:(type_of%OW)/\type_of%@LN/\type_of%@M5/\type_of%@sG/\type_of%@zS/\type_of%@z6/\type_of%@yo/\type_of%@DN/\type_of%@mj/\type_of%@xT/\type_of%@nA/\type_of%@zip_map/\type_of%@yj/\type_of%@x9/\type_of%@AD/\type_of%@AJ/\type_of%@cast_eq/\type_of%@cast_pos/\type_of%@bg/\type_of%@Ip/\type_of%@HM/\type_of%@HP /\
 (∀{α β:Type}{f:α->β}{l:List α},(l.map f).length=l.length)/\(∀{n:Nat},(List.range n).length=n)/\(∀{n:Nat},(n:Int).toNat=n):=
 ⟨OW,@LN,@M5,@sG,@zS,@z6,@yo,@DN,@mj,@xT,@nA,@zip_map,@yj,@x9,@AD,@AJ,@cast_eq,@cast_pos,@bg,@Ip,@HM,@HP,(by intros;exact Q7 ..),(by intros;exact RB),(by intros;exact Um _)⟩
def pJ (e f:Nat×Nat):Prop:=e.1<f.1\/(e.1=f.1/\e.2<=f.2)
def zh{α β:Type}(f:α->β){l:List α}:∀{m:List β},m.Perm (l.map f)->∃l':List α,l'.Perm l/\m=l'.map f:=by
 have:∀{a b:List β},a.Perm b->∀l:List α,b=l.map f->∃l':List α,l'.Perm l/\a=l'.map f:=by
  intro a b h;induction h with
  |nil=>intro l e;exact⟨l,.refl _,e⟩
  |cons x _ ih=>
   intro l e;cases l with
   |nil=>cases e
   |cons y l=>rw[RE,VI]at e;obtain⟨l',p,e'⟩:=ih l e.2;exact⟨y::l',p.cons _,by rw[e.1,e',RE]⟩
  |swap x y z=>
   intro l e
   match l,e with
   |[],e=>cases e
   |[_],e=>rw[RE,VI]at e;cases e.2
   |u::v::l,e=>rw[RE,RE,VI,VI]at e;exact⟨v::u::l,V4 _ _ _,by rw[RE,RE,e.1,e.2.1,e.2.2]⟩
  |trans _ _ ih1 ih2=>intro l e;obtain⟨l1,p1,e1⟩:=ih2 l e;obtain⟨l2,p2,e2⟩:=ih1 l1 e1;exact⟨l2,p2.trans p1,e2⟩
 intro m h;exact this h l rfl
def zJ{ps:WH}{P:Kd->PyData->Prop}(h:ps.length<=1000)(q:∀qs:WH,qs.Perm ps->qs.Pairwise pJ->P (.ow false) (.list (qs.map bw))):ou [.list (ps.map bw)] P:=by
 refine⟨ps.map (λe:Nat×Nat=>((e.1:Int),(e.2:Int))),by rw[RV];rfl,by rw[Q7];exact h,λms p s=>?_⟩;obtain⟨l,hl,rfl⟩:=zh _ p;rw[TV]at s;have:=q l hl (s.imp λ{a b} h=>by
  unfold mS at h;unfold pJ;simp only at h;lia)
 rw[RV];exact this
def oG{a b:Nat}:iD a=iD b↔a=b:=⟨λh=>by cases h;rfl,λh=>by rw[h]⟩
end Dv
namespace Gr
inductive R(E:Nat->Nat->Prop) (p:Nat):Nat->Nat->Prop
 |zero:R E p 0 p
 |step {d x y:Nat}:R E p d x->E x y->R E p (d+1) y
noncomputable def fW (E:Nat->Nat->Prop) (p x d:Nat):Prop:=R E p d x/\∀e,e<d->¬R E p e x
section
variable{E:Nat->Nat->Prop}{p:Nat}
def fW.eq{x d e:Nat}(h:fW E p x d)(g:fW E p x e):d=e:=by rcases Th d e with l|l|l;{exact absurd h.1 (g.2 d l)};{exact l};exact absurd g.1 (h.2 e l)
theorem Cj:∀(n:Nat){x d:Nat},d<=n->R E p d x->∃e,e<=d/\fW E p x e
 |0,x,d,l,h=>by
  obtain rfl:d=0:=by lia
  exact⟨0,Q5 _,h,λe he=>absurd he (Ru e)⟩
 |n+1,x,d,l,h=>by by_cases c:∃e,e<d/\R E p e x;{obtain⟨e,he,hr⟩:=c;obtain⟨e',h1,h2⟩:=Cj n (show e<=n by lia) hr;exact⟨e',by lia,h2⟩};exact⟨d,Q5 _,h,λe he hr=>c ⟨e,he,hr⟩⟩
open Classical in
noncomputable def dst (E:Nat->Nat->Prop) (p x:Nat):Nat:=if h:∃d,fW E p x d then Classical.choose h else 0
def ya{x d:Nat}(h:fW E p x d):dst E p x=d:=by have h':∃d,fW E p x d:=⟨d,h⟩;unfold dst;rw[dif_pos h'];exact(Classical.choose_spec h').eq h
def Mc{x d:Nat}(h:R E p d x):fW E p x (dst E p x):=by obtain⟨e,_,g⟩:=Cj d (Q5 _) h;rw[ya g];exact g
def R.trans{q:Nat}{d e x:Nat}(h:R E p d q)(g:R E q e x):R E p (d+e) x:=by
 induction g with
 |zero=>exact h
 |step _ s ih=>exact ih.step s
def R.head{q d x:Nat}(h:E p q)(g:R E q d x):R E p (1+d) x:=R.trans (R.step .zero h) g
def R.symm(sy:∀x y,E x y->E y x){d x:Nat}(h:R E p d x):R E x d p:=by
 induction h with
 |zero=>exact .zero
 |step _ s ih=>have:=R.head (sy _ _ s) ih;rwa[Nat.add_comm]at this
structure ir(E:Nat->Nat->Prop) (p r:Nat)(f:Nat->Option Nat)(cW:WZ):Prop where
 sound:∀x d,f x=some d->fW E p x d
 upto:∀x d,d<=r->R E p d x->∃e,f x=some e
 low:∀x d,f x=some d->d<=r
 cW:∀x,x∈cW↔f x=some r
structure gg(E:Nat->Nat->Prop) (r:Nat)(f:Nat->Option Nat)(cW:WZ)(g:Nat->Option Nat)(reached:WZ):Prop where
 ext:∀x d,f x=some d->g x=some d
 new:∀x d,g x=some d->f x=some d\/(f x=none/\d=r+1/\∃h,h∈cW/\E h x)
 got:∀x,x∈reached↔(f x=none/\g x=some (r+1))
def ir.start:ir E p 0 (λx=>if x=p then some 0 else none) [p]:=by
 refine⟨λx d h=>?_,λx d l h=>?_,λx d h=>?_,λx=>?_⟩;{by_cases c:x=p;{rw[if_pos c]at h;cases h;rw[c];exact⟨.zero,λe he=>absurd he (Ru e)⟩};rw[if_neg c]at h;cases h}
 .obtain rfl:d=0:=by lia
  cases h;exact⟨0,if_pos rfl⟩
 .by_cases c:x=p;{rw[if_pos c]at h;cases h;exact Q5 _};rw[if_neg c]at h;cases h
 rw[QS];constructor;{intro e;exact if_pos e};intro h;by_cases c:x=p;{exact c};rw[if_neg c]at h;cases h
def gg.start{r:Nat}{f:Nat->Option Nat}:gg E r f cW f []:=by refine⟨λx d h=>h,λx d h=>.inl h,λx=>?_⟩;constructor;{intro h;cases h};rintro⟨h1,h2⟩;rw[h1]at h2;cases h2
def gg.put{r:Nat}{f g:Nat->Option Nat}{h y:Nat}(B:gg E r f cW g reached)(he:h∈cW)(hy:E h y)(n:g y=none):gg E r f cW (λx=>if x=y then some (r+1)else g x) (reached++[y]):=by
 have fy:f y=none:=by
  cases e:f y with
  |none=>rfl
  |some d=>rw[B.ext y d e]at n;cases n
 refine⟨λx d e=>?_,λx d e=>?_,λx=>?_⟩;{by_cases c:x=y;{rw[c,fy]at e;cases e};show(if x=y then _ else _)=_;rw[if_neg c];exact B.ext x d e};{by_cases c:x=y;{rw[if_pos c]at e;cases e;rw[c];exact .inr ⟨fy,rfl,h,he,hy⟩};rw[if_neg c]at e;exact B.new x d e};rw[R7,QS,B.got x];constructor;{rintro (⟨h1,h2⟩|rfl);{refine⟨h1,?_⟩;by_cases c:x=y;{exact if_pos c};show(if x=y then _ else _)=_;rw[if_neg c];exact h2};exact⟨fy,if_pos rfl⟩};rintro⟨h1,h2⟩;by_cases c:x=y;{exact .inr c};rw[if_neg c]at h2;exact .inl ⟨h1,h2⟩
theorem gg.none{r:Nat}{f g:Nat->Option Nat}(B:gg E r f cW g reached){x:Nat}(h:g x=.none):f x=.none:=by
 cases e:f x with
 |none=>rfl
 |some d=>rw[B.ext x d e]at h;cases h
def gg.at{r:Nat}{f g:Nat->Option Nat}(B:gg E r f cW g reached)(A:ir E p r f cW){h:Nat}(he:h∈cW):g h=some r:=B.ext h r ((A.cW h).mp he)
def ir.next{r:Nat}{f g:Nat->Option Nat}{cW reached:WZ}(A:ir E p r f cW)(B:gg E r f cW g reached)(all:∀h,h∈cW->∀x,E h x->g x≠none):ir E p (r+1) g reached:=by
 refine⟨λx d e=>?_,λx d l h=>?_,λx d e=>?_,λx=>?_⟩;{rcases B.new x d e with h|⟨h1,rfl,h,he,hx⟩;{exact A.sound x d h};have rh:=(A.sound h r ((A.cW h).mp he)).1;refine⟨rh.step hx,λe he hr=>?_⟩;obtain⟨d,hd⟩:=A.upto x e (by lia) hr;rw[h1]at hd;cases hd}
 .by_cases c:d<=r;{obtain⟨e,he⟩:=A.upto x d c h;exact⟨e,B.ext x e he⟩};obtain rfl:d=r+1:=by lia
  cases h with
  |@step _ y _ hy hyx=>
   obtain⟨e,he⟩:=A.upto y r (Q5 _) hy;have el:=A.low y e he;by_cases ce:e=r
   .have:=all y ((A.cW y).mpr (ce▸he)) x hyx;cases e':g x with
    |none=>exact absurd e' this
    |some d=>exact⟨d,rfl⟩
   obtain⟨e',he'⟩:=A.upto x (e+1) (by lia) ((A.sound y e he).1.step hyx);exact⟨e',B.ext x e' he'⟩
 .rcases B.new x d e with h|⟨_,rfl,_⟩;{have:=A.low x d h;lia};exact Q5 _
 rw[B.got x];constructor;{exact λh=>h.2};intro h;refine⟨?_,h⟩;rcases B.new x (r+1) h with h'|⟨h',_⟩;{have:=A.low x _ h';lia};exact h'
def ir.done{r:Nat}{f:Nat->Option Nat}(A:ir E p r f []):∀{d x:Nat},R E p d x->∃e,f x=some e:=by
 intro d x h;induction h with
 |zero=>exact A.upto p 0 (RO _) .zero
 |@step d x y _ hxy ih=>
  obtain⟨e,he⟩:=ih;have el:=A.low x e he;have ne:e≠r:=λc=>by have:=(A.cW x).mpr (c▸he);cases this
  exact A.upto y (e+1) (by lia) ((A.sound x e he).1.step hxy)
def ir.val{r:Nat}{f:Nat->Option Nat}(A:ir E p r f []){x d:Nat}(h:R E p d x):f x=some (dst E p x):=by obtain⟨e,he⟩:=A.done h;rw[he,ya (A.sound x e he)]
end
noncomputable def cnt (f:Nat->Option Nat):Nat->Nat
 |0=>0
 |m+1=>cnt f m+(if f m=none then 1 else 0)
theorem xq{f g:Nat->Option Nat}(h:∀x,g x=none->f x=none):∀m,cnt g m<=cnt f m
 |0=>Q5 _
 |m+1=>by have:=xq h m;unfold cnt;by_cases c:g m=none;{rw[if_pos c,if_pos (h m c)];lia};rw[if_neg c];lia
theorem Dr{f g:Nat->Option Nat}(h:∀x,g x=none->f x=none){y:Nat}(fy:f y=none)(gy:g y≠none):∀m,y<m->cnt g m<cnt f m
 |0,l=>absurd l (Ru _)
 |m+1,l=>by unfold cnt;by_cases c:y=m;{have:=xq h m;rw[<-c,if_neg gy,if_pos fy,c];lia};have:=Dr h fy gy m (by lia);by_cases c:g m=none;{rw[if_pos c,if_pos (h m c)];lia};rw[if_neg c];lia
def cQ (es:WH) (x y:Nat):Prop:=(x,y)∈es\/(y,x)∈es
def rC(x y:Nat)(h:cQ es x y):cQ es y x:=h.elim .inr .inl
def jG (m:Nat)(es:WH):Prop:=∀p,p<m->∀x,x<m->∃d,R (cQ es) p d x
def zG{m:Nat}(h:∀k,0<k->k<m->∃p,p<k/\(p,k)∈es):jG m es:=by
 have z:∀n x,x<n->x<m->∃d,R (cQ es) x d 0:=by
  intro n;induction n with
  |zero=>exact λx h _=>absurd h (Ru _)
  |succ n ih=>intro x hx hm;by_cases c:x=0;{rw[c];exact⟨0,.zero⟩};obtain⟨q,hq,he⟩:=h x (by lia) hm;obtain⟨d,hd⟩:=ih q (by lia) (by lia);exact⟨1+d,R.head (.inr he) hd⟩
 intro p hp x hx;obtain⟨d,hd⟩:=z (p+1) p (by lia) hp;obtain⟨e,he⟩:=z (x+1) x (by lia) hx;exact⟨d+e,hd.trans (he.symm rC)⟩
def yR{m:Nat}{nm:Nat->Nat}(h:jG m es)(onto:∀x,x<m->∃a,a<m/\nm a=x)(e:∀a b,(a,b)∈es->cQ fs (nm a) (nm b)):jG m fs:=by
 intro p hp x hx;obtain⟨a,ha,rfl⟩:=onto p hp;obtain⟨b,hb,rfl⟩:=onto x hx;obtain⟨d,hd⟩:=h a ha b hb;have go:∀{d b:Nat},R (cQ es) a d b->R (cQ fs) (nm a) d (nm b):=by
  intro d b hd;induction hd with
  |zero=>exact .zero
  |step _ s ih=>refine R.step ih ?_;rcases s with s|s;{exact e _ _ s};exact rC _ _ (e _ _ s)
 exact⟨d,go hd⟩
theorem eY:∀(m:Nat)(l:WZ),l.Nodup->(∀x∈l,x<m)->l.length<=m
 |0,[],_,_=>Q5 _
 |0,x::_,_,h=>absurd (h x (Q6 ..)) (Ru _)
 |m+1,l,nd,h=>by
  have h1:(l.erase m).length<=m:=eY m (l.erase m) (nd.sublist (List.erase_sublist ..)) λx hx=>by have:=(nd.mem_erase_iff.mp hx);have:=h x this.2;lia
  have h2:l.length<=(l.erase m).length+1:=by rw[List.length_erase];split<;>lia
  lia
noncomputable def nb (x:Nat)(e:Nat×Nat):Option Nat:=if e.1=x then some e.2 else if e.2=x then some e.1 else none
def gP (es:WH) (x:Nat):WZ:=es.filterMap (nb x)
def tP{x y:Nat}(h:nb x e=some y):e=(x,y)\/e=(y,x):=by obtain⟨a,b⟩:=e;unfold nb at h;by_cases c:a=x;{rw[if_pos c]at h;cases h;rw[c];exact .inl rfl};rw[if_neg c]at h;by_cases c2:b=x;{rw[if_pos c2]at h;cases h;rw[c2];exact .inr rfl};rw[if_neg c2]at h;cases h
def uy{x y:Nat}:y∈gP es x↔cQ es x y:=by unfold gP;rw[Uk];constructor;{rintro⟨e,he,h⟩;rcases tP h with rfl|rfl;{exact .inl he};exact .inr he};rintro (h|h);{exact⟨_,h,if_pos rfl⟩};refine⟨_,h,?_⟩;show(if y=x then some x else if x=x then some y else none)=some y;by_cases c:y=x;{rw[if_pos c,c]};rw[if_neg c,if_pos rfl]
def Ji{x:Nat}:gP (es++fs) x=gP es x++gP fs x:=UO ..
structure Good(m:Nat)(es:WH):Prop where
 lt:∀e∈es,e.1<e.2/\e.2<m
 nd:es.Nodup
def Good.Iq{m:Nat}(g:Good m es){x y:Nat}(h:cQ es x y):x<m/\y<m:=by rcases h with h|h;{have:x<y/\y<m:=g.lt _ h;lia};have:y<x/\x<m:=g.lt _ h;lia
def Good.DY{m:Nat}(g:Good m es) (x:Nat):(gP es x).Nodup:=by unfold gP List.Nodup;rw[List.pairwise_filterMap];refine UX ?_ g.nd;intro a b ha hb ne y hy z hz e;subst e;rcases tP hy with rfl|rfl<;>rcases tP hz with rfl|rfl;{exact ne rfl};{have h1:x<y/\y<m:=g.lt _ ha;have h2:y<x/\x<m:=g.lt _ hb;lia};{have h1:y<x/\x<m:=g.lt _ ha;have h2:x<y/\y<m:=g.lt _ hb;lia};exact ne rfl
def Good.Ky{m:Nat}(g:Good m es) (x:Nat):(gP es x).length<=m:=eY m _ (g.DY x) λy hy=>(g.Iq (uy.mp hy)).2
def Good.perm{m:Nat}(p:fs.Perm es)(g:Good m es):Good m fs:=⟨λe h=>g.lt e (p.mem_iff.mp h),p.nodup_iff.mpr g.nd⟩
def Dz{m:Nat}(p:fs.Perm es)(h:jG m es):jG m fs:=yR (nm:=id) h (λx hx=>⟨x,hx,rfl⟩) λa b h=>.inl (p.mem_iff.mpr h)
noncomputable def zM (ms:WZ)(e:Nat×Nat):Nat×Nat:=(min (ms.getD e.1 0) (ms.getD e.2 0),max (ms.getD e.1 0) (ms.getD e.2 0))
def getD_inj{ms:WZ}(nd:ms.Nodup){a b:Nat}(ha:a<ms.length)(hb:b<ms.length)(e:ms.getD a 0=ms.getD b 0):a=b:=by rw[Tq,Tq,RI ha,RI hb]at e;have e':ms[a]=ms[b]:=e;rcases Th a b with l|l|l;{exact absurd e' (Tj.mp nd a b ha hb l)};{exact l};exact absurd e'.symm (Tj.mp nd b a hb ha l)
def AR{m:Nat}{ps:WH}{ms:WZ}(pm:ms.Perm (List.range m))(g:Good m ps):Good m (ps.map (zM ms)):=by
 have nd:ms.Nodup:=pm.nodup_iff.mpr Sz;have ln:ms.length=m:=by rw[pm.length_eq,RB]
 have lt:∀a,a<m->ms.getD a 0<m:=λa ha=>by
  have h:a<ms.length:=by lia
  rw[Tq,RI h];exact RU.mp (pm.mem_iff.mp (U8 h))
 refine⟨λe he=>?_,?_⟩
 .obtain⟨⟨a,b⟩,hp,rfl⟩:=Q8.mp he;have h:a<b/\b<m:=g.lt _ hp;have h1:=lt a (by lia);have h2:=lt b (by lia);have ne:ms.getD a 0≠ms.getD b 0:=λe=>by have:=getD_inj nd (by lia) (by lia) e;lia
  show min (ms.getD a 0) (ms.getD b 0)<max (ms.getD a 0) (ms.getD b 0)/\max (ms.getD a 0) (ms.getD b 0)<m;lia
 refine Ub _ ?_ (UX (S:=λx y=>x≠y/\(x.1<x.2/\x.2<m)/\(y.1<y.2/\y.2<m)) (λ{a b} ha hb h=>⟨h,g.lt _ ha,g.lt _ hb⟩) g.nd);rintro⟨a,b⟩⟨c,d⟩⟨ne,h1,h2⟩e;have h1:a<b/\b<m:=h1;have h2:c<d/\d<m:=h2;have e1:min (ms.getD a 0) (ms.getD b 0)=min (ms.getD c 0) (ms.getD d 0):=congrArg Prod.fst e;have e2:max (ms.getD a 0) (ms.getD b 0)=max (ms.getD c 0) (ms.getD d 0):=congrArg Prod.snd e;have e3:(ms.getD a 0=ms.getD c 0/\ms.getD b 0=ms.getD d 0)\/(ms.getD a 0=ms.getD d 0/\ms.getD b 0=ms.getD c 0):=by lia
 rcases e3 with⟨p,q⟩|⟨p,q⟩;{have r1:=getD_inj nd (by lia) (by lia) p;have r2:=getD_inj nd (by lia) (by lia) q;subst r1;subst r2;exact ne rfl};have r1:=getD_inj nd (by lia) (by lia) p;have r2:=getD_inj nd (by lia) (by lia) q;lia
def Bg{m:Nat}(pm:ms.Perm (List.range m))(h:jG m ps):jG m (ps.map (zM ms)):=by refine yR (nm:=λa=>ms.getD a 0) h (λx hx=>?_) λa b he=>?_;{obtain⟨i,hi⟩:=Rq (pm.mem_iff.mpr (RU.mpr hx));have li:=(RW.mp hi).1;rw[pm.length_eq,RB]at li;refine⟨i,li,?_⟩;show ms.getD i 0=x;rw[Tq,hi];rfl};have hm:zM ms (a,b)∈ps.map (zM ms):=Q8.mpr ⟨_,he,rfl⟩;show cQ _ (ms.getD a 0) (ms.getD b 0);have e:zM ms (a,b)=(min (ms.getD a 0) (ms.getD b 0),max (ms.getD a 0) (ms.getD b 0)):=rfl;rw[e]at hm;rcases Tr (ms.getD a 0) (ms.getD b 0)with l|l;{rw[Tt l,Vm l]at hm;exact .inl hm};rw[Tu l,Nat.max_eq_left l]at hm;exact .inr hm
section
variable{E:Nat->Nat->Prop}{p:Nat}
def fW.pred{x d:Nat}(h:fW E p x (d+1)):∃y,fW E p y d/\E y x:=by
 obtain⟨h1,h2⟩:=h;cases h1 with
 |@step _ y _ hy hyx=>refine⟨y,⟨hy,λe he hr=>?_⟩,hyx⟩;exact h2 (e+1) (by lia) (hr.step hyx)
theorem fW.chain{m:Nat}(lt:∀x y,E x y->x<m/\y<m)(hp:p<m):∀{d x:Nat},fW E p x d->∃l:WZ,l.length=d+1/\l.Nodup/\(∀y∈l,y<m)/\∀y∈l,∃k,k<=d/\fW E p y k
 |0,x,h=>by cases h.1;refine⟨[p],rfl,RX.mpr ⟨Ri,Rz⟩,λy hy=>?_,λy hy=>?_⟩;{rw[QS.mp hy];exact hp};rw[QS.mp hy];exact⟨0,Q5 _,h⟩
 |d+1,x,h=>by obtain⟨y,hy,hyx⟩:=h.pred;obtain⟨l,l1,l2,l3,l4⟩:=fW.chain lt hp hy;refine⟨x::l,by rw[RK,l1],RX.mpr ⟨λhx=>?_,l2⟩,λz hz=>?_,λz hz=>?_⟩;{obtain⟨k,hk,hd⟩:=l4 x hx;have:=hd.eq h;lia};{rcases QX.mp hz with rfl|hz;{exact(lt _ _ hyx).2};exact l3 z hz};rcases QX.mp hz with rfl|hz;{exact⟨d+1,Q5 _,h⟩};obtain⟨k,hk,hd⟩:=l4 z hz;exact⟨k,by lia,hd⟩
def fW.small{m:Nat}(lt:∀x y,E x y->x<m/\y<m)(hp:p<m){d x:Nat}(h:fW E p x d):d<m:=by obtain⟨l,l1,l2,l3,_⟩:=fW.chain lt hp h;have:=eY m l l2 l3;lia
def ir.round{r:Nat}{f:Nat->Option Nat}{cW mt:WZ}(A:ir E p r f cW)(hm:∀x,x∈mt↔f x=none/\∃h,f h=some r/\E h x):ir E p (r+1) (λx=>if x∈mt then some (r+1)else f x) mt:=by
 refine A.next ⟨λx d e=>?_,λx d e=>?_,λx=>?_⟩ λh he x hx=>?_
 .have:x∉mt:=λh=>by rw[((hm x).mp h).1]at e;cases e
  show(if x∈mt then _ else _)=_;rw[if_neg this];exact e
 .by_cases c:x∈mt;{rw[if_pos c]at e;cases e;obtain⟨h1,h,h2,h3⟩:=(hm x).mp c;exact .inr ⟨h1,rfl,h,(A.cW h).mpr h2,h3⟩};rw[if_neg c]at e;exact .inl e
 .constructor;{intro h;exact⟨((hm x).mp h).1,if_pos h⟩};rintro⟨h1,h2⟩;by_cases c:x∈mt;{exact c};rw[if_neg c,h1]at h2;cases h2
 show(if x∈mt then some (r+1)else f x)≠none;by_cases c:x∈mt;{rw[if_pos c];exact λh=>(nomatch h)};rw[if_neg c];intro fx;exact c ((hm x).mpr ⟨fx,h,(A.cW h).mp he,hx⟩)
def ir.all{m r:Nat}{f:Nat->Option Nat}{cW:WZ}(A:ir E p r f cW)(lt:∀x y,E x y->x<m/\y<m)(hp:p<m)(hr:m<=r+1){x d:Nat}(h:R E p d x):f x=some (dst E p x):=by have g:=Mc h;have s:=g.small lt hp;obtain⟨e,he⟩:=A.upto x _ (by lia) g.1;rw[he,ya (A.sound x e he)]
end
def lS:Nat->Nat
 |0=>0
 |b+1=>lS b+b
def yW{a b:Nat}(h:a<=b):lS a<=lS b:=by
 induction b with
 |zero=>
  obtain rfl:a=0:=by lia
  exact Q5 _
 |succ b ih=>by_cases c:a=b+1;{rw[c];exact Q5 _};exact RM (ih (by lia)) (Nat.le_add_right _ _)
theorem AG:∀m,2*lS m<=m*m
 |0=>Q5 _
 |m+1=>by have:=AG m;show 2*(lS m+m)<=(m+1)*(m+1);rw[Nat.mul_add,Nat.add_mul,Nat.mul_add];lia
def ix (e:Nat×Nat):Nat:=lS e.2+e.1
def My(he:e.1<e.2)(hf:f.1<f.2)(h:ix e=ix f):e=f:=by
 obtain⟨a,b⟩:=e;obtain⟨c,d⟩:=f;unfold ix at h;dsimp only at he hf h;have key:∀{a b c d:Nat},a<b->b<d->lS b+a<lS d+c:=λ{a b c d} h1 h2=>by have:=yW (a:=b+1) (b:=d) (by lia);have e:lS (b+1)=lS b+b:=rfl;lia
 rcases Th b d with l|l|l;{have:=key (c:=c) he l;lia};{subst l;rw[show a=c by lia]};have:=key (c:=a) hf l;lia
def kq{m:Nat}(g:Good m ps):2*ps.length<=m*m:=by have h:=eY (lS m) (ps.map ix) ?_ ?_;{rw[Q7]at h;have:=AG m;lia};{unfold List.Nodup;rw[TV];exact UX (λ{e f} he hf ne h=>ne (My (g.lt e he).1 (g.lt f hf).1 h)) g.nd};intro x hx;obtain⟨e,he,rfl⟩:=Q8.mp hx;have l:=g.lt e he;have:=yW (a:=e.2+1) (b:=m) (by lia);have e2:lS (e.2+1)=lS e.2+e.2:=rfl;unfold ix;lia
end Gr
local macro_rules | `(tactic| bv_omega) => do let ls ← (List.range 216).toArray.mapM fun k => `(Lean.Parser.Tactic.simpLemma| $(Lean.mkIdent (.str `Dv s!"rr{k}")):ident); `(tactic| dsimp only[$ls,*, Dv.dyr0, Dv.dyr1, Dv.dyr2, Dv.dyr3, Nat.reduceBEq])
local macro_rules | `(tactic| rfl') => do let ls ← (List.range 216).toArray.mapM fun k => `(Lean.Parser.Tactic.simpLemma| $(Lean.mkIdent (.str `Dv s!"rr{k}")):ident); `(tactic| ((try bv_omega); try simp only[$ls,*, Dv.dw, Dv.Mh, Dv.dy, Dv.dz, Nat.reduceBEq]))
local macro_rules | `(tactic| simp![$xs,*]) => do let ls ← (List.range 216).toArray.mapM fun k => `(Lean.Parser.Tactic.simpLemma| $(Lean.mkIdent (.str `Dv s!"rr{k}")):ident); let ys : Array (Lean.TSyntax `Lean.Parser.Tactic.simpLemma) := xs.getElems.map fun x => ⟨x.raw⟩; let zs := ls ++ ys; `(tactic| ((try bv_omega); try simp only[$zs,*, Dv.dw, Dv.Mh, Dv.dy, Dv.dz, Nat.reduceBEq]))
namespace PB
open PySem L2 Dv
def Ae{α:Type}{m k:Nat}{f:Nat->α}{v:α}:((List.range m).map f).set k v=(List.range m).map λi=>if i=k then v else f i:=by refine T4 λj=>?_;rw[Ue,Q7,RB,R8,R8];by_cases h:j<m;{rw[Ry h];by_cases c:k=j;{subst c;rw[if_pos rfl,if_pos h];simp};rw[if_neg c];simp[Ne.symm c]};rw[Rk (by rw[RB];lia)];by_cases c:k=j;{subst c;rw[if_pos rfl,if_neg h];rfl};rw[if_neg c];rfl
def Kf{α:Type}{m k:Nat}{f:Nat->α}(h:k<m):((List.range m).map f)[k]?=some (f k):=by rw[R8,Ry h];rfl
noncomputable def OZ (f:DM) (i n:Nat)(E1:En)(w:PyData)(Q:En->Kd->PyData->Prop):Prop:=∃a p ds m es k d E2,w=.int a/\E1[i]?=some (some (.dp p,.list ds))/\jo ds.length a=some m/\ds[m]?=some (.list es)/\E1[n]?=some (some (k,d))/\i≠n/\dD E1 n=some E2/\f es [d] λnew v=>Q (E2.set i (some (.dp p,.list (ds.set m (.list new))))) .sh v
def Cp{i n:Nat}:yE f i j n x (o::E) Q=(here (o::E) i=true/\j x (o::E) λE1 _ w=>OZ f i n E1 w Q):=rfl
def Cz{i n a m:Nat}{p:Bool}{E:En}{g:Nat->WN}{Q:En->Kd->PyData->Prop}(h1:E[i]?=some (some (.dp p,.list ((List.range m).map λi=>.list (g i)))))(h2:E[n]?=some (some (.sh,d)))(ne:i≠n)(ha:a<m)(hs:(g a).length<16777216)(q:Q (E.set i (some (.dp p,.list ((List.range m).map λk=>.list (if k=a then g k++[d]else g k))))) .sh .none):OZ cz i n E (iD a) Q:=by
 refine⟨a,p,_,a,g a,.sh,d,E,rfl,h1,?_,Kf ha,h2,ne,?_,?_⟩;{rw[Q7,RB];exact D9 ha}
 .have:=wX (E:=E) (is:=[n]) (by simp[jE,h2]);unfold dO at this;cases e:dD E n with
  |none=>rw[e]at this;cases this
  |some E2=>rw[e]at this;exact this
 refine⟨hs,?_⟩;show Q (E.set i (some (.dp p,.list (((List.range m).map λi=>PyData.list (g i)).set a (.list (g a++[d])))))) .sh .none;rw[Ae];have e:((List.range m).map λk=>if k=a then PyData.list (g a++[d])else .list (g k))=(List.range m).map λk=>PyData.list (if k=a then g k++[d]else g k):=by refine SV λk _=>?_;by_cases c:k=a;{rw[if_pos c,if_pos c,c]};rw[if_neg c,if_neg c]
 rw[e];exact q
noncomputable abbrev yD (m:Nat)(es:WH):PyData:=.list ((List.range m).map λi=>nD (Gr.gP es i))
noncomputable def BP:dS:=λds Q x=>∃m es,ds=[wD m es]/\m<=60/\Gr.Good m es/\Q [] (.dp false) (yD m es)
def NC:∀ds Q x,BP ds Q x->gJ (cM [false] Q x) (ini [false] ds++List.replicate 6 none):=by
 rintro _ Q x⟨m,es,rfl,hm,gd,q⟩;unfold gJ;rfl';rw[if_pos (by lia)];refine aX rfl (Lj (λ_=>PyData.list []) rfl (λa ha I hI=>?_) ?_ (by rw[RB];lia));{rfl';exact⟨by lia,⟨false,rfl⟩,hI _ rfl⟩};rfl';refine pT (λi E=>vf λ(o4 o5:Option (Kd×PyData))=>Dq (E=[some (.sh,wD m es),some (.sh,iD m),some (.sh,.tuple (es.map bw)),some (.dp false,yD m (es.take i)),o4,o5,none]) (aB o4=true) (aB o5=true)) ⟨none,none,rfl,rfl,rfl⟩ ?_ ?_
 .rintro i⟨a,b⟩_ hi⟨o4,o5,rfl,ho4,ho5⟩;have hab:=gd.lt _ (RD hi);have hab:a<b/\b<m:=hab;simp![ho4,ho5,Cp];have hn:∀k,(Gr.gP (es.take i) k).length<1000:=λk=>by have g2:Gr.Good m (es.take i):=⟨λe he=>gd.lt e (List.mem_of_mem_take he),List.Sublist.nodup (List.take_sublist _ _) gd.nd⟩;have:=g2.Ky k;lia
  refine Cz (g:=λk=>(Gr.gP (es.take i) k).map iD) rfl rfl (by lia) (by lia) (by rw[Q7];have:=hn a;lia) ?_;simp![ho4,ho5,Cp];refine Cz (g:=λk=>if k=a then(Gr.gP (es.take i) k).map iD++[iD b]else(Gr.gP (es.take i) k).map iD) rfl rfl (by lia) (by lia) (by rw[if_neg (by lia),Q7];have:=hn b;lia) ?_;refine⟨some (.sh,iD a),some (.sh,iD b),?_,rfl,rfl⟩;simp only[List.set_cons_succ,List.set_cons_zero];have e:∀k,(if k=b then(if k=a then(Gr.gP (es.take i) k).map iD++[iD b]else(Gr.gP (es.take i) k).map iD)++[iD a]else if k=a then(Gr.gP (es.take i) k).map iD++[iD b]else(Gr.gP (es.take i) k).map iD)=(Gr.gP (es.take (i+1)) k).map iD:=λk=>by rw[take_snoc hi,Gr.Ji,RG];unfold Gr.gP;rw[Rr,List.filterMap_nil];unfold Gr.nb;simp only;by_cases c:k=a;{subst c;rw[if_neg (by lia),if_pos rfl,if_pos rfl];rfl};by_cases c2:k=b;{subst c2;rw[if_pos rfl,if_neg c,if_neg (Ne.symm c),if_pos rfl];rfl};rw[if_neg c2,if_neg c,if_neg (Ne.symm c),if_neg (Ne.symm c2)];exact(S8 _).symm
  rw[SV λk _=>congrArg PyData.list (e k)]
 rintro _⟨o4,o5,rfl,ho4,ho5⟩;rw[TQ];rfl';exact q
open Classical in
noncomputable def cJ (es:WH) (p x:Nat):Option Nat:=if ∃d,Gr.R (Gr.cQ es) p d x then some (Gr.dst (Gr.cQ es) p x)else none
def oD:Option Nat->PyData
 |none=>.none
 |some n=>iD n
noncomputable abbrev su (f:Nat->Option Nat) (m:Nat):PyData:=.list ((List.range m).map λx=>oD (f x))
def EM{f:Nat->Option Nat}{m y d:Nat}:(((List.range m).map λx=>oD (f x)).set y (iD d))=(List.range m).map λx=>oD (if x=y then some d else f x):=by rw[Ae];refine SV λk _=>?_;by_cases c:k=y;{rw[if_pos c,if_pos c];rfl};rw[if_neg c,if_neg c]
def MO{m p r:Nat}{f:Nat->Option Nat}(B:Gr.ir (Gr.cQ es) p r f []) (x:Nat):f x=cJ es p x:=by
 unfold cJ;split;{rename_i h;obtain⟨d,h⟩:=h;exact B.val h};rename_i h;cases e:f x with
 |none=>rfl
 |some d=>exact absurd ⟨d,(B.sound x d e).1⟩ h
noncomputable def Fz:dS:=λds Q x=>∃m es p,ds=[wD m es,iD p]/\m<=60/\Gr.Good m es/\p<m/\Q [] (.ow false) (su (cJ es p) m)
def Lx:fc false [oD o,.none] P=P .sh (.bool o.isNone):=by cases o<;>simp[oD,fc,dx]
def N8:lf (oD o)=true:=by cases o<;>rfl
def KD{y:Nat}:nD (l++[y])=.list (l.map iD++[iD y]):=by show PyData.list ((l++[y]).map iD)=_;rw[RG];rfl
def Mu:∀ds Q x,Fz ds Q x->jg BP (cM [false,false] Q x) (ini [false,false] ds++List.replicate 6 none):=by
 rintro _ Q x⟨m,es,p,rfl,hm,gd,hp,q⟩;unfold jg;rfl';refine⟨m,es,rfl,hm,gd,?_⟩;rfl';have e0:(List.replicate m [PyData.none]).flatten=(List.range m).map λ_=>PyData.none:=by
  clear q hp gd hm;induction m with
  |zero=>rfl
  |succ k ih=>rw[List.replicate_succ',List.flatten_append,ih,List.range_succ,RG];rfl
 rw[e0];refine⟨by lia,⟨by lia,by lia,by lia⟩,uF (by rw[Q7,RB];exact hp) ?_⟩;rw[show PyData.int 0=iD 0 from rfl,show((List.range m).map λ_=>PyData.none)=(List.range m).map λx=>oD ((λ_=>none:Nat->Option Nat) x)from rfl,EM];refine⟨by lia,?_⟩;refine⟨λn E=>MJ λ(r:Nat)(g:Nat->Option Nat)(ed:WZ)(k2 k4:Kd)(o5 o6 o7:Option (Kd×PyData))=>Mi (E=[some (.sh,wD m es),some (.sh,iD p),some (k2,yD m es),some (.ow false,su g m),some (k4,nD ed),o5,o6,o7]) ((k2=.dp false\/k2=.sh)) ((k4=.ow false\/k4=.sh)) (aB o5=true) (aB o6=true) (aB o7=true) (n=2*Gr.cnt g m+(if ed=[]then 0 else 1)) (Gr.ir (Gr.cQ es) p r g ed) (∀x∈ed,x<m),?_,?_⟩;{exact⟨_,0,_,[p],_,_,none,none,none,rfl,.inl rfl,.inl rfl,rfl,rfl,rfl,rfl,Gr.ir.start,λx hx=>by rw[QS.mp hx];exact hp⟩};rintro n _⟨r,g,ed,k2,k4,o5,o6,o7,rfl,hk2,hk4,ho5,ho6,ho7,rfl,B,edm⟩;simp![List.isEmpty_map];refine⟨by rcases hk4 with rfl|rfl<;>rfl,?_⟩;cases ed with
 |nil=>simp![Vl];have e:su g m=su (cJ es p) m:=congrArg PyData.list (SV λx _=>congrArg oD (MO (m:=m) B x));rw[e];exact q
 |cons e0 er=>
  simp![List.isEmpty_cons,ho5];have f4:k4.fz=true:=by rcases hk4 with rfl|rfl<;>rfl
  rw[if_pos f4];refine⟨by lia,aX rfl ?_⟩;have ne:e0::er≠[]:=Vk _ _;generalize e0::er=ed at B edm ne⊢;have hE2:∀(k2:Kd),(k2=.dp false\/k2=.sh)->k2.rd=true/\k2.fz=true:=λk h=>by rcases h with rfl|rfl<;>exact⟨rfl,rfl⟩
  refine pT (λi E=>Ep λ(g':Nat->Option Nat)(rc:WZ)(k2:Kd)(o6 o7:Option (Kd×PyData))=>EG (E=[some (.sh,wD m es),some (.sh,iD p),some (k2,yD m es),some (.ow false,su g' m),some (.sh,nD ed),some (.ow false,nD rc),o6,o7]) ((k2=.dp false\/k2=.sh)) (aB o6=true) (aB o7=true) (Gr.gg (Gr.cQ es) r g ed g' rc) ((∀j h,j<i->ed[j]?=some h->∀x,Gr.cQ es h x->g' x≠none)) (rc.Nodup) (∀x∈rc,x<m)) ⟨g,[],k2,o6,o7,rfl,hk2,ho6,ho7,.start,λj h hj=>by lia,Rz,λ_ h=>absurd h Ri⟩ ?_ ?_
  .rintro i h _ hi⟨g',rc,k2,o6,o7,rfl,hk2,ho6,ho7,BI,don,rcn,rcm⟩;have mh:h∈ed:=RD hi;have hm':=edm h mh;obtain⟨rd2,fz2⟩:=hE2 k2 hk2;simp![ho6,rd2];rw[Ry hm'];refine aX rfl ?_;simp![fz2];have loop:∀k2,(k2=.dp false\/k2=.sh)->vG (List.map iD (Gr.gP es h)) (Tg.nm 7) (b5 (bP (aa (fc false) [Arg.ev (aa aW [Arg.pk 3,Arg.pk 7]),Arg.ev (dC PyData.none)])) (aC (fP 3 (cy 7) (aa dW [Arg.ev (aa aW [Arg.pk 3,Arg.pk 6]),Arg.ev (dC (PyData.int 1))])) (cO (gK cz 5 [cy 7]))) cF)
    { nx:=λE=>Ep λ(g':Nat->Option Nat)(rc:WZ)(k2:Kd)(o6 o7:Option (Kd×PyData))=>EG (E=[some (.sh,wD m es),some (.sh,iD p),some (k2,yD m es),some (.ow false,su g' m),some (.sh,nD ed),some (.ow false,nD rc),o6,o7]) ((k2=.dp false\/k2=.sh)) (aB o6=true) (aB o7=true) (Gr.gg (Gr.cQ es) r g ed g' rc) ((∀j h,j<i+1->ed[j]?=some h->∀x,Gr.cQ es h x->g' x≠none)) (rc.Nodup) (∀x∈rc,x<m),rt:=(cM [false,false] Q x).rt,xc:=x}
    [some (.sh,wD m es),some (.sh,iD p),some (k2,yD m es),some (.ow false,su g' m),some (.sh,nD ed),some (.ow false,nD rc),some (.sh,iD h),o7]:=by
    intro k2 hk2;refine pT (λi' E=>qC λ(g':Nat->Option Nat)(rc:WZ)(o7:Option (Kd×PyData))=>oM (E=[some (.sh,wD m es),some (.sh,iD p),some (k2,yD m es),some (.ow false,su g' m),some (.sh,nD ed),some (.ow false,nD rc),some (.sh,iD h),o7]) (aB o7=true) (Gr.gg (Gr.cQ es) r g ed g' rc) ((∀j h,j<i->ed[j]?=some h->∀x,Gr.cQ es h x->g' x≠none)) ((∀j y,j<i'->(Gr.gP es h)[j]?=some y->g' y≠none)) (rc.Nodup) (∀x∈rc,x<m)) ⟨g',rc,o7,rfl,ho7,BI,don,λj y hj=>by lia,rcn,rcm⟩ ?_ ?_
    .rintro i' y _ hy⟨g',rc,o7,rfl,ho7,BI,don,dni,rcn,rcm⟩;have hyE:Gr.cQ es h y:=Gr.uy.mp (RD hy);have ym:y<m:=(gd.Iq hyE).2;have eh:=BI.at B mh;simp![ho7,Ry ym,Ry hm',N8,Lx];cases gy:g' y with
     |some d=>
      simp only[dw,Vn];refine⟨g',rc,some (.sh,iD y),rfl,rfl,BI,don,λj z hj hz=>?_,rcn,rcm⟩
      by_cases c:j=i'
      .subst c;rw[hy]at hz;cases hz;rw[gy];simp
      .exact dni j z (by lia) hz
     |none=>
      have e1:oD (some r)=iD r:=rfl;have e2:(r:Int)+1=((r+1:Nat):Int):=rfl;simp![Vo,eh,e1,e2];have yrc:y∉rc:=λh'=>by
       have:=((BI.got y).mp h').2;rw[gy]at this;cases this
      have rcl:=Gr.eY m rc rcn rcm;refine uF ym ⟨by lia,_,rc++[y],some (.sh,iD y),?_,rfl,BI.put mh hyE gy,λj h' hj he x hx=>?_,λj z hj hz=>?_,?_,λx hx=>?_⟩
      .rw[EM,KD]
      .show(if x=y then some (r+1)else g' x)≠none
       split
       .exact λh=>(nomatch h)
       .exact don j h' hj he x hx
      .show(if z=y then some (r+1)else g' z)≠none
       split
       .exact λh=>(nomatch h)
       .rename_i c
        by_cases c2:j=i'
        .subst c2;rw[hy]at hz;cases hz;exact absurd rfl c
        .exact dni j z (by lia) hz
      .exact Tv.mpr ⟨rcn,RX.mpr ⟨Ri,Rz⟩,λa ha b hb e=>by
        cases QS.mp hb;exact yrc (e▸ha)⟩
      .rcases R7.mp hx with h'|h'
       .exact rcm x h'
       .rw[QS.mp h'];exact ym
    .rintro _⟨g',rc,o7,rfl,ho7,BI,don,dni,rcn,rcm⟩;refine⟨g',rc,k2,_,o7,rfl,hk2,rfl,ho7,BI,λj h' hj hh x hx=>?_,rcn,rcm⟩
     by_cases c:j=i
     .subst c;rw[hi]at hh;cases hh;obtain⟨l,hl⟩:=Vp.mp (Gr.uy.mpr hx);exact dni l x (bH hl) hl
     .exact don j h' (by lia) hh x hx
   split;{exact aX rfl (loop _ hk2)};exact aX rfl (loop _ (.inr rfl))
  rintro _⟨g',rc,k2,o6,o7,rfl,hk2,ho6,ho7,BI,don,rcn,rcm⟩;rfl';have all:∀h,h∈ed->∀x,Gr.cQ es h x->g' x≠none:=λh hh=>by obtain⟨j,hj⟩:=Vp.mp hh;exact don j h (bH hj) hj
  refine⟨_,?_,r+1,g',rc,k2,.sh,some (.sh,nD rc),o6,o7,rfl,hk2,.inr rfl,rfl,ho6,ho7,rfl,B.next BI all,rcm⟩;rw[if_neg ne];cases rc with
  |nil=>have:=Gr.xq (f:=g) (g:=g') (λx h=>BI.none h) m;rw[if_pos rfl];lia
  |cons y rc=>obtain⟨h1,h2⟩:=(BI.got y).mp (Q6 ..);have:=Gr.Dr (f:=g) (g:=g') (λx h=>BI.none h) h1 (by rw[h2];exact λh=>(nomatch h)) m (rcm y (Q6 ..));rw[if_neg (Vk _ _)];lia
structure NK(m:Nat)(es:WH):Prop where
 pos:1<=m
 le:m<=60
 gd:Gr.Good m es
 cn:Gr.jG m es
theorem sj:∀(rs:WZ){j:Nat}(h:j<rs.length),([rs[j]]++rs.eraseIdx j).Perm rs
 |[],_,h=>by cases h
 |r::rs,0,_=>by rw[List.eraseIdx_cons_zero];exact List.Perm.refl _
 |r::rs,j+1,h=>by rw[U0];have ih:=sj rs (j:=j) (by rw[RK]at h;lia);exact(V4 _ _ _).trans (ih.cons _)
theorem vc{f:Nat->PyData}:∀{rs:WZ}{j:Nat},(rs.map f).eraseIdx j=(rs.eraseIdx j).map f
 |[],_=>rfl
 |r::rs,0=>rfl
 |r::rs,j+1=>by rw[RE,U0,U0,RE,vc]
def AQ{r n:Nat}(h:r<n):seqIndex? (r:Int) n=some r:=by unfold seqIndex?;simp;lia
def yc{ms:WZ}{m:Nat}(pm:ms.Perm (List.range m)){a:Nat}(ha:a<m):ms[a]?=some (ms.getD a 0)/\ms.getD a 0<m:=by
 have h:a<ms.length:=by rw[pm.length_eq,RB];exact ha
 have e:ms.getD a 0=ms[a]:=by rw[Tq,RI h];rfl
 rw[e];exact⟨RI h,RU.mp (pm.mem_iff.mp (U8 h))⟩
structure Up(i:Nat)(ps:WH):Prop where
 len:ps.length=i
 at':∀(k:Nat)(e:Nat×Nat),ps[k]?=some e->e.2=k+1/\e.1<=k
def Up.snoc{i p:Nat}(h:Up i ps)(hp:p<=i):Up (i+1) (ps++[(p,i+1)]):=by refine⟨by rw[RC,h.len];rfl,λk e he=>?_⟩;rw[List.getElem?_append]at he;split at he;{exact h.at' k e he};rename_i hk;rw[List.getElem?_singleton]at he;split at he;{rename_i h0;cases he;have:=h.len;show i+1=k+1/\p<=k;lia};cases he
def Up.mem{i:Nat}(h:Up i ps)(he:e∈ps):e.1<e.2/\e.2<=i:=by obtain⟨k,hk⟩:=Vp.mp he;have:=h.at' k e hk;have:=bH hk;have:=h.len;lia
def Up.good{m:Nat}(h:Up (m-1) ps)(hm:1<=m):Gr.Good m ps:=by refine⟨λe he=>?_,?_⟩;{have:=h.mem he;lia};refine Tj.mpr λi j hi hj l e=>?_;have h1:=h.at' i _ (RI hi);have h2:=h.at' j _ (RI hj);rw[e]at h1;lia
def Up.conn{m:Nat}(h:Up (m-1) ps):Gr.jG m ps:=by
 refine Gr.zG λk h0 hk=>?_;have hl:k-1<ps.length:=by rw[h.len];lia
 have:=h.at' (k-1) _ (RI hl);refine⟨ps[k-1].1,by lia,?_⟩;have e:(ps[k-1].1,k)=ps[k-1]:=SX rfl (by show k=ps[k-1].2;lia);rw[e];exact U8 hl
end PB
namespace Dv
open PySem L2
def pV{α:Type}{l:List α}{enc:α->PyData}{tg:Tg}{b:DS}{D:iA}{E1:En}(I:Nat->En->Prop)(h0:I 0 E1)(hs:∀(J:En->Prop) i a E,l[i]?=some a->(∀E',I (i+1) E'->J E')->I i E->∃E2,cS tg (enc a) E=some E2/\b { D with nx:=J } E2)(he:∀E,I l.length E->D.nx E):vG (l.map enc) tg b D E1:=pT I h0 (λi a E ha hi=>hs (I (i+1)) i a E ha (λ_ h=>h) hi) he
def jQ{n:Nat}{enc:Nat->PyData}{tg:Tg}{b:DS}{D:iA}{E1:En}(I:Nat->En->Prop)(h0:I 0 E1)(hs:∀(J:En->Prop) i E,i<n->(∀E',I (i+1) E'->J E')->I i E->∃E2,cS tg (enc i) E=some E2/\b { D with nx:=J } E2)(he:∀E,I n E->D.nx E):vG ((List.range n).map enc) tg b D E1:=MP I h0 (λi E ha hi=>hs (I (i+1)) i E ha (λ_ h=>h) hi) he
def ee{a b:DS}{D:iA}{E:En}(J0:En->Prop)(h1:∀J:En->Prop,(∀E',J0 E'->J E')->a { D with nx:=J } E)(h2:∀B:En->Prop,(∀E',B E'=b D E')->∀E',J0 E'->B E'):gG a b D E:=⟨J0,h1 J0 λ_ h=>h,λE' h=>h2 (b D) (λ_=>rfl) E' h⟩
end Dv
namespace PB
open PySem L2 Dv Gr
abbrev inD (l:Wa):PyData:=.list (l.map .int)
structure dm(l:Wa):Prop where
 ne:l≠[]
 nn:∀x∈l,0<=x
 len:l.length<=2
def Cg{y:Int}:jo (l++[y]).length (-1)=some l.length:=by unfold jo;rw[if_neg (by lia),RC,if_pos (by simp;lia)];simp;lia
def HZ{y:Int}:dM (List.map PyData.int (l++[y])) (-1)=some (.int y):=by have e:kC (l++[y]).length (-1)=some l.length:=Cg;unfold dM;rw[Q7,e];simp
def Cy{y z:Int}:(List.map PyData.int (l++[y])).set l.length (.int z)=(l++[z]).map .int:=by rw[RG,List.set_append_right _ _ (by rw[Q7];exact Q5 _),Q7,Nat.sub_self,RG];rfl
noncomputable def kP:dS:=λdd Q x=>∃(l:Wa) (m:Nat),dd=[inD l,iD m]/\dm l/\0<m/\m<2^200/\∀(r:Nat) l',r<m->dm l'->Q [inD l'] .sh (iD r)
def N9:∀dd Q x,kP dd Q x->iJ (cM [true,false] Q x) (ini [true,false] dd++List.replicate 1 none):=by
 rintro _ Q x⟨l,m,rfl,P,hm,h2,q⟩;obtain⟨l0,y,rfl⟩:∃l0 y,l=l0++[y]:=by rcases List.eq_nil_or_concat l with e|⟨l0,y,e⟩;{exact absurd e P.ne};exact⟨l0,y,by rw[e,List.concat_eq_append]⟩
 unfold iJ;simp![HZ,Cg,Cy];refine⟨hm,⟨by lia,by lia⟩,?_⟩;have hy:0<=y:=P.nn y (by simp);have z0:0<=y/(m:Int):=Int.ediv_nonneg hy (by lia);have P':dm (l0++[y/(m:Int)]):=⟨by simp,λx hx=>by
  rcases R7.mp hx with h|h
  .exact P.nn x (R7.mpr (.inl h))
  .rw[QS.mp h];exact z0,by have:=P.len;simp at this⊢;lia⟩
 obtain⟨r,er⟩:∃r:Nat,y%(m:Int)=r:=⟨(y%(m:Int)).toNat,by have:=Int.emod_nonneg y (show(m:Int)≠0 by lia);lia⟩;have hr:r<m:=by have:=VU y (show(0:Int)<m by lia);lia
 rw[er];refine ee (λE=>∃l',E=[some (.ow true,inD l'),some (.sh,iD m),some (.sh,iD r)]/\dm l') (λJ hJ=>?_) λB hB=>?_
 .simp![HZ,Cg,Cy];split
  .split
   .rename_i hl;have e1:(List.map PyData.int (l0++[y/(m:Int)]))[(l0++[y/(m:Int)]).length-1]?=some (.int (y/(m:Int))):=by simp
    refine aX e1 ?_;refine hJ _ ⟨l0,?_,?_,?_,?_⟩;{rw[RG];simp};{rintro rfl;simp at hl};{exact λx hx=>P.nn x (R7.mpr (.inl hx))};have:=P.len;simp at this;lia
   exact hJ _ ⟨_,rfl,P'⟩
  exact hJ _ ⟨_,rfl,P'⟩
 rintro _⟨l',rfl,P⟩;rw[hB];rfl';exact q r l' hr P
noncomputable def Hl:dS:=λdd Q x=>∃(c:Int) (k:Nat),dd=[.int c,iD k]/\k<=1000/\∀l,dm l->Q [] (.ow false) (inD l)
def yC(c:Int){d:Int}(h:0<d):∃mk:Nat,c%d=mk/\(mk:Int)<d:=by have h1:=Int.emod_nonneg c (show d≠0 by lia);have h2:=VU c h;exact⟨(c%d).toNat,by lia,by lia⟩
def NQ:∀dd Q x,Hl dd Q x->i8 (cM [false,false] Q x) (ini [false,false] dd++List.replicate 3 none):=by rintro _ Q x⟨c,k,rfl,hk,q⟩;unfold i8;rfl';refine⟨.inl ⟨by lia,by lia⟩,by lia,by lia,?_⟩;obtain⟨mk,em,hmk⟩:=yC (c+7919*((k:Int)+1)) (d:=2147483647) (by lia);rw[em,if_pos ⟨by lia,by lia⟩];refine aX rfl ?_;refine jQ (λi E=>qC λ(mk n:Nat)(o4:Option (Kd×PyData))=>Dq (E=[some (.sh,.int c),some (.sh,iD k),some (.sh,iD mk),some (.ow false,inD [(n:Int)]),o4]) (aB o4=true) (mk<2147483647)) ⟨mk,0,none,rfl,rfl,by lia⟩ ?_ ?_;{clear hmk em mk;rintro J i _ hi hJ⟨mk,n,o4,rfl,h4,hmk⟩;simp![h4];refine⟨.inl ⟨by lia,by lia⟩,.inl ⟨by lia,by lia⟩,.inl ⟨by lia,by lia⟩,by lia,.inr ⟨by lia,by lia⟩,?_⟩;obtain⟨mk',em,hmk'⟩:=yC ((mk:Int)*(mk:Int)+48271*(mk:Int)+3*(i:Int)+(k:Int)) (d:=2147483629) (by lia);rw[em];refine hJ _ ⟨mk',n*2147483629+mk',some (.sh,iD i),?_,rfl,by lia⟩;rw[Int.natCast_add,Int.natCast_mul];rfl};rintro _⟨mk,n,o4,rfl,h4,_⟩;rfl';refine ee (λE=>vf λ(l:Wa)(o4:Option (Kd×PyData))=>Ll (E=[some (.sh,.int c),some (.sh,iD k),some (.sh,iD mk),some (.ow false,inD l),o4]) (dm l)) (λJ hJ=>?_) λB hB=>?_;{have p18:uf 10 18:=⟨by decide,by decide,by decide⟩;rfl';refine⟨p18,?_⟩;split;{rename_i hc;have hc0:(0:Int)<=c:=Int.le_trans (by decide) hc;refine⟨by lia,hJ _ ⟨[(n:Int),c],o4,rfl,by simp,λy hy=>?_,by simp⟩⟩;simp only[QX,Ri,or_false]at hy;rcases hy with rfl|rfl;{lia};exact hc0};refine hJ _ ⟨[(n:Int)],o4,rfl,by simp,λy hy=>?_,by simp⟩;rw[QS.mp hy];lia};rintro _⟨l,o4,rfl,P⟩;rw[hB];rfl';exact q l P
def Ox{ns:Wa}:dl 8 (.list (ns.map .int))=true:=by show((ns.map PyData.int).all (dl 7))=true;rw[QW];intro d h;obtain⟨c,_,rfl⟩:=Q8.mp h;rfl
def KR{m:Nat}:(List.replicate m [PyData.int 0]).flatten=(List.replicate m (0:Int)).map .int:=by
 induction m with
 |zero=>rfl
 |succ m ih=>rw[Ss,Tf,ih,Ss];rfl
noncomputable def Cd:dS:=λdd Q x=>∃(ns:Wa) (m:Nat),dd=[inD ns,iD m]/\0<m/\m<=1000/\ns.length<=63/\∀cs:Wa,cs.length=m->Q [] (.ow false) (inD cs)
def L5:∀dd Q x,Cd dd Q x->gD (cM [false,false] Q x) (ini [false,false] dd++List.replicate 3 none):=by
 rintro _ Q x⟨ns,m,rfl,h0,h2,hn,q⟩;unfold gD;simp![mj,Q7,show(63:Int)=((63:Nat):Int)from rfl,xT,nA,KR];refine⟨by lia,⟨by lia,by lia,by lia⟩,?_⟩;refine pT (λi E=>qC λ(cs:Wa)(a b:Option (Kd×PyData))=>yP (E=[some (.sh,inD ns),some (.sh,iD m),some (.ow false,inD cs),a,b]) (aB a=true) (aB b=true) (cs.length=m)) ?_ ?_ ?_;{exact⟨List.replicate m 0,none,none,rfl,rfl,rfl,Sm⟩}
 .rintro i⟨d,k⟩E hi⟨cs,a,b,rfl,ha,hb,hl⟩;have hk:k%m<cs.length:=by have:=U4 k h0;lia
  try bv_omega
  try simp only[dv,dw,dx,ha,hb,dz]
  refine⟨h0,aX (RI hk) ⟨.inr (by lia),h0,uF hk ⟨cs.set (k%m) (cs[k%m]*31+d),some (.sh,iD k),some (.sh,.int d),by unfold inD;rw[List.map_set],rfl,rfl,by rw[Rf];exact hl⟩⟩⟩
 rintro _⟨cs,a,b,rfl,ha,hb,hl⟩;try bv_omega
 try simp only[dv,dw,dx]
 exact q cs hl
noncomputable def Bu:dS:=λdd Q x=>∃(ns:Wa) (m:Nat),dd=[inD ns,iD m]/\0<m/\m<=1000/\ns.length<=63/\∀cs:Wa,cs.length<=m->Q [] (.ow false) (inD cs)
def Nd:∀dd Q x,Bu dd Q x->gU Cd (cM [false,false] Q x) (ini [false,false] dd++List.replicate 0 none):=by
 rintro _ Q x⟨ns,m,rfl,hm,h2,hn,q⟩;unfold gU;rfl';refine⟨by lia,⟨Ox,rfl⟩,?_⟩;split;{exact⟨by lia,q [0] (by simp;lia)⟩};rename_i hne;have h1:0<ns.length:=by rcases ns with _|⟨a,t⟩;{exact absurd rfl hne};simp
 refine⟨ns,min m ns.length,rfl,by lia,by lia,hn,λcs hc=>?_⟩;rfl';exact q cs (by lia)
noncomputable def IW:dS:=λdd Q x=>∃(l:Wa) (m:Nat),dd=[inD l,iD m]/\dm l/\m<=1000/\∀(ms:WZ) l',ms.Perm (List.range m)->dm l'->Q [inD l'] (.ow false) (nD ms)
def Ow:∀dd Q x,IW dd Q x->gX kP (cM [true,false] Q x) (ini [true,false] dd++List.replicate 2 none):=by
 rintro _ Q x⟨l,m,rfl,P,h2,q⟩;unfold gX;rfl';refine⟨⟨by lia,by lia⟩,?_⟩;rw[if_pos ⟨by lia,by lia⟩];refine aX rfl ?_;refine BJ _ (λi ys E=>yb λ(l:Wa)(ms rest:WZ)(o:Option (Kd×PyData))=>zV (ys=ms.map iD) (E=[some (.ow true,inD l),some (.sh,iD m),some (.ow false,nD rest),o]) (aB o=true) (ms.length=i) ((ms++rest).Perm (List.range m)) (dm l)) rfl ⟨l,[],List.range m,_,rfl,rfl,rfl,rfl,List.Perm.refl _,P⟩ ?_ ?_
 .rintro i j ys E hi⟨l,ms,rest,o,rfl,rfl,ho,hm,hp,P⟩;have hi:=bH hi;rw[RB]at hi;have hl:=hp.length_eq;rw[RC,RB]at hl;have hr:0<rest.length:=by lia
  try bv_omega
  try simp only[dv,dw,dx,ho,dz]
  refine⟨l,rest.length,rfl,P,hr,by lia,λr l' hr' P'=>?_⟩;try bv_omega
  try simp only[dv,dw,dx,dz]
  refine⟨⟨by lia,by lia⟩,r,iD rest[r],AQ hr',by rw[R8,RI hr'];rfl,by lia,l',ms++[rest[r]],rest.eraseIdx r,some (.sh,iD j),by rw[RG];rfl,by rw[vc],rfl,by rw[RC,hm];rfl,?_,P'⟩;rw[RY];exact(Se ms (sj rest hr')).trans hp
 rintro ys E⟨l,ms,rest,o,rfl,rfl,ho,hm,hp,P⟩;try bv_omega
 try simp only[dv,dw,dx,ho,dz]
 rw[RB]at hm;have:=hp.length_eq;rw[RC,hm,RB]at this;have e:rest=[]:=VJ (by lia);rw[e,S8]at hp;exact q ms _ hp P
end PB
namespace PB
open PySem L2 Dv
theorem rE{α:Type}{f:α->PyData}{p:α->Bool}:∀{l:List α},(l.filterMap λt=>if p t=true then some (f t)else none)=(l.filter p).map f
 |[]=>rfl
 |a::l=>by
  rw[Rr,List.filter_cons];cases h:p a with
  |true=>simp only[if_true];rw[rE];rfl
  |false=>simp only[if_neg (QV)];exact rE
end PB
namespace Gr
def lB (m:Nat)(es:WH):Prop:=∀x,x<m->∃d,R (cQ es) 0 d x
def R.mono{E F:Nat->Nat->Prop}(s:∀x y,E x y->F x y){p d x:Nat}(h:R E p d x):R F p d x:=by
 induction h with
 |zero=>exact .zero
 |step _ e ih=>exact ih.step (s _ _ e)
def lB.conn{m:Nat}(h:lB m es):jG m es:=λp hp x hx=>by obtain⟨d,hd⟩:=h p hp;obtain⟨e,he⟩:=h x hx;exact⟨d+e,(hd.symm rC).trans he⟩
theorem lB.mono{m:Nat}(h:lB m es)(s:∀e,e∈es->e∈fs):lB m fs:=λx hx=>by obtain⟨d,hd⟩:=h x hx;exact⟨d,hd.mono λx y e=>e.imp (s _) (s _)⟩
def jG.Ly{m:Nat}(h:jG m es):lB m es:=λx hx=>h 0 (by lia) x hx
def Good.put{m:Nat}(g:Good m es){x y:Nat}(l:x<y)(hy:y<m)(n:(x,y)∉es):Good m (es++[(x,y)]):=by refine⟨λe he=>?_,Tv.mpr ⟨g.nd,RX.mpr ⟨Ri,Rz⟩,λe he f hf h=>?_⟩⟩;{rcases R7.mp he with he|he;{exact g.lt e he};cases QS.mp he;exact⟨l,hy⟩};cases QS.mp hf;exact n (h▸he)
end Gr
namespace PB
open PySem L2 Dv Gr
def K5{l:WZ}{k:Nat}(h:k<l.length):l[k]?=some (l.getD k 0):=by rw[Tq,RI h];rfl
def fZ(h:∀B:En->Prop,(∀E',B E'=b D E')->a { D with nx:=B } E):aC a b D E:=h (b D) λ_=>rfl
structure BI(m j k:Nat)(ps:WH):Prop where
 gd:Good m ps
 lt:∀e∈ps,e.2<k\/(e.2=k/\e.1<j)
theorem BI.put{m j k:Nat}(h:BI m j k ps)(l:j<k)(hk:k<m):BI m (j+1) k (ps++[(j,k)]):=by refine⟨h.gd.put l hk λhm=>?_,λe he=>?_⟩;{have:k<k\/(k=k/\j<j):=h.lt _ hm;lia};rcases R7.mp he with he|he;{have:=h.lt e he;lia};cases QS.mp he;exact .inr ⟨rfl,US _⟩
def BI.skip{m j k:Nat}(h:BI m j k ps):BI m (j+1) k ps:=⟨h.gd,λe he=>by have:=h.lt e he;lia⟩
def BI.next{m k:Nat}(h:BI m k k ps):BI m 0 (k+1) ps:=⟨h.gd,λe he=>by have:=h.lt e he;lia⟩
abbrev kB (xs:WZ):Vy:=xs.map λx=>(iD x,.bool true)
def LF{y:Nat}:(bY (kB xs) (iD y)).isSome=decide (y∈xs):=by
 induction xs with
 |nil=>rfl
 |cons a t ih=>unfold bY at ih⊢;show(Option.map (·.2) (List.find? _ ((iD a,PyData.bool true)::kB t))).isSome=_;by_cases c:a=y;{subst c;rw[Ua (by simp)];simp};rw[U9 (by rw[Sf,oG];exact c),ih];simp[Ne.symm c]
def lA (xs:WZ) (y:Nat):WZ:=if y∈xs then xs else xs++[y]
def fG{x y:Nat}:x∈lA xs y↔x∈xs\/x=y:=by unfold lA;split;{rename_i h;exact⟨.inl,λz=>z.elim id λe=>e▸h⟩};rw[R7,QS]
def GY{y:Nat}:(lA xs y).length<=xs.length+1:=by unfold lA;split;{exact U1 _};rw[RC];exact Q5 _
def yF{y:Nat}:putD (kB xs) (iD y) (.bool true)=kB (lA xs y):=by
 unfold putD lA;have e:((kB xs).any λkv=>decide (kv.1=iD y))=decide (y∈xs):=by rw[Sg,U7,Sf];constructor;{rintro⟨kv,h1,h2⟩;obtain⟨x,hx,rfl⟩:=Q8.mp h1;rw[<-oG.mp (RN h2)];exact hx};exact λh=>⟨_,Q8.mpr ⟨y,h,rfl⟩,Rg rfl⟩
 rw[e];by_cases c:y∈xs;{rw[if_pos (Rg c),if_pos c,RV];refine SV λx hx=>?_;show(if iD x=iD y then(iD x,PyData.bool true)else(iD x,.bool true))=_;rw[ite_self]};rw[if_neg (by simp[c]),if_neg c];show _=(xs++[y]).map _;rw[RG];rfl
def B8{y:Nat}{ng:Bool}(h:P .sh (.bool (if ng then !decide (y∈xs)else decide (y∈xs)))):dF ng [iD y,.dict (kB xs)] P:=by
 rw[<-LF]at h;cases xs with
 |nil=>exact⟨⟨rfl,rfl⟩,h⟩
 |cons a t=>exact⟨⟨rfl,rfl⟩,h⟩
structure NI(m:Nat)(ps:WH) (t i:Nat)(xs:WZ):Prop where
 zero:0∈xs
 sound:∀x∈xs,∃d,R (cQ ps) 0 d x
 first:∀(n:Nat) x,(0<t\/n<i)->ps[n]?=some (0,x)->x∈xs
 lt:∀x∈xs,x<m
 nd:xs.Nodup
def NI.put{m:Nat}{t i x y:Nat}(h:NI m ps t i xs)(gd:Good m ps)(e:ps[i]?=some (x,y))(c:x∈xs\/y∈xs):NI m ps t (i+1) (lA (lA xs x) y):=by
 have m0:=RD e;have l0:=gd.lt _ m0;have both:(∃d,R (cQ ps) 0 d x)/\∃d,R (cQ ps) 0 d y:=by rcases c with c|c;{obtain⟨d,hd⟩:=h.sound x c;exact⟨⟨d,hd⟩,d+1,hd.step (.inl m0)⟩};obtain⟨d,hd⟩:=h.sound y c;exact⟨⟨d+1,hd.step (.inr m0)⟩,d,hd⟩
 have nd1:∀{l:WZ}{z:Nat},l.Nodup->(lA l z).Nodup:=λ{l z} hl=>by unfold lA;split;{exact hl};rename_i hz;exact Tv.mpr ⟨hl,RX.mpr ⟨Ri,Rz⟩,λa ha b hb e=>hz (by rw[<-QS.mp hb,<-e];exact ha)⟩
 refine⟨fG.mpr (.inl (fG.mpr (.inl h.zero))),λz hz=>?_,λn z hn hz=>?_,λz hz=>?_,nd1 (nd1 h.nd)⟩;{rcases fG.mp hz with hz|rfl;{rcases fG.mp hz with hz|rfl;{exact h.sound z hz};exact both.1};exact both.2};{by_cases cn:n=i;{rw[cn,e]at hz;cases hz;exact fG.mpr (.inr rfl)};exact fG.mpr (.inl (fG.mpr (.inl (h.first n z (by lia) hz))))};rcases fG.mp hz with hz|rfl;{rcases fG.mp hz with hz|rfl;{exact h.lt z hz};exact Uu l0.1 l0.2};exact l0.2
def NI.skip{m:Nat}{t i x y:Nat}(h:NI m ps t i xs)(e:ps[i]?=some (x,y))(c:x∉xs):NI m ps t (i+1) xs:=by refine⟨h.zero,h.sound,λn z hn hz=>?_,h.lt,h.nd⟩;by_cases cn:n=i;{rw[cn,e]at hz;cases hz;exact absurd h.zero c};exact h.first n z (by lia) hz
def NI.next{m:Nat}{t:Nat}(h:NI m ps t ps.length xs):NI m ps (t+1) 0 xs:=
 ⟨h.zero,h.sound,λn z _ hz=>h.first n z (.inr (RW.mp hz).1) hz,h.lt,h.nd⟩
noncomputable def zT (m:Nat)(xs:WZ):WH:=((List.range (m-1)).filter λk=>decide (k+1∉xs)).map λk=>(0,k+1)
def wB{m:Nat}:e∈zT m xs↔e.1=0/\0<e.2/\e.2<m/\e.2∉xs:=by
 unfold zT;rw[Q8];constructor;{rintro⟨k,hk,rfl⟩;rw[Uh,RU]at hk;have:=RN hk.2;exact⟨rfl,Nat.succ_pos k,by show k+1<m;lia,this⟩};rintro⟨h1,h2,h3,h4⟩;have e2:e.2-1+1=e.2:=by lia
 exact⟨e.2-1,Uh.mpr ⟨RU.mpr (by lia),Rg (by rw[e2];exact h4)⟩,by rw[e2,<-h1]⟩
def MM{m:Nat}(m1:1<=m)(g:Good m ps)(n:NI m ps m 0 xs):Good m (ps++zT m xs)/\lB m (ps++zT m xs):=by
 have nz:(zT m xs).Nodup:=by unfold zT;exact Ub _ (λa b h e=>h (Nat.succ.inj (Prod.mk.inj e).2)) (Sz.filter _)
 refine⟨⟨λe he=>?_,Tv.mpr ⟨g.nd,nz,λe he f hf h=>?_⟩⟩,λx hx=>?_⟩;{rcases R7.mp he with he|he;{exact g.lt e he};have:=wB.mp he;lia};{subst h;obtain⟨e1,e2⟩:=e;obtain⟨h1,_,_,h4⟩:=wB.mp hf;have h1:e1=0:=h1;subst h1;obtain⟨i,hi⟩:=Rq he;exact h4 (n.first i e2 (.inl (by lia)) hi)};by_cases c0:x=0;{rw[c0];exact⟨0,.zero⟩};by_cases c:x∈xs;{obtain⟨d,hd⟩:=n.sound x c;exact⟨d,hd.mono λa b e=>e.imp (Ui _) (Ui _)⟩};have:((0,x):Nat×Nat)∈zT m xs:=wB.mpr ⟨rfl,Nat.pos_of_ne_zero c0,hx,c⟩;exact⟨1,R.step .zero (.inl (Rw _ this))⟩
noncomputable def IL:dS:=λdd Q x=>∃(l:Wa) (m:Nat),dd=[inD l,iD m]/\dm l/\1<=m/\m<=12/\∀(ps:WH) l',Good m ps->lB m ps->dm l'->Q [inD l'] (.ow false) (.list (ps.map bw))
def Oa:∀dd Q x,IL dd Q x->fU kP (cM [true,false] Q x) (ini [true,false] dd++List.replicate 12 none):=by
 rintro _ Q x⟨l,m,rfl,P,h1,h2,q⟩;unfold fU;refine fZ λB hB=>?_;rfl';refine⟨l,3,rfl,P,by lia,by lia,λr l hr P=>?_⟩;rfl';show B _;rw[hB];clear hB B;refine fZ λB hB=>?_;rfl';rw[show(2:Int)+(r:Int)=((2+r:Nat):Int)by lia];generalize hso:2+r=so;rw[if_pos ⟨by lia,by lia⟩];refine aX rfl ?_;refine BJ _ (λi ys E=>qC λ(l:Wa)(ns:WZ)(o:Option (Kd×PyData))=>Hw (ys=ns.map iD) (E=[some (.ow true,inD l),some (.sh,iD m),some (.sh,iD so),none,none,none,none,none,none,none,none,none,none,o]) (aB o=true) (ns.length=i) (dm l)) rfl ⟨l,[],_,rfl,rfl,rfl,rfl,P⟩ ?_ ?_;{rintro i j ys E hi⟨l,ns,o,rfl,rfl,ho,hl,P⟩;have hi:=bH hi;rw[RB]at hi;simp![ho];refine⟨l,2,rfl,P,by lia,by lia,λr l hr P=>?_⟩;rfl';exact⟨by lia,l,ns++[r],_,by rw[RG];rfl,rfl,rfl,by rw[RC,hl];rfl,P⟩};rintro ys E⟨l,inn,o,rfl,rfl,ho,hl,P⟩;simp![ho];rw[RB]at hl;have hl:inn.length=so:=hl;rw[hB];clear hB B;refine fZ λB hB=>?_;rfl';rw[if_pos ⟨by lia,by lia⟩];refine aX rfl ?_;refine BJ _ (λi ys E=>qC λ(l:Wa)(ns:WZ)(o:Option (Kd×PyData))=>zV (ys=ns.map iD) (E=[some (.ow true,inD l),some (.sh,iD m),some (.sh,iD so),some (.ow false,nD inn),none,none,none,none,none,none,none,none,none,o]) (aB o=true) (ns.length=i) ((∀y∈ns,y<so)) (dm l)) rfl ⟨l,[],_,rfl,rfl,rfl,rfl,(λ_ z=>nomatch z),P⟩ ?_ ?_;{rintro i j ys E hi⟨l,ns,o,rfl,rfl,ho,hl,hb,P⟩;have hi:=bH hi;rw[RB]at hi;simp![ho];refine⟨l,so,rfl,P,by lia,by lia,λr l hr P=>?_⟩;rfl';refine⟨by lia,l,ns++[r],_,by rw[RG];rfl,rfl,rfl,by rw[RC,hl];rfl,λy hy=>?_,P⟩;rcases R7.mp hy with hy|hy;{exact hb y hy};rw[QS.mp hy];exact hr};rintro ys E⟨l,sp,o,rfl,rfl,ho,hl2,hb,P⟩;simp![ho];rw[RB]at hl2;rw[hB];clear hB B;refine fZ λB hB=>?_;rfl';refine⟨by lia,?_⟩;rw[hB];clear hB B;refine fZ λB hB=>?_;rfl';rw[if_pos ⟨by lia,by lia⟩];refine aX rfl ?_;refine jQ (λk E=>yb λ(ps:WH)(o6 o7 o8:Option (Kd×PyData))=>Hw (E=[some (.ow true,inD l),some (.sh,iD m),some (.sh,iD so),some (.ow false,nD inn),some (.ow false,nD sp),some (.ow false,.list (ps.map bw)),o6,o7,o8,none,none,none,none,none]) (aB o6=true) (aB o7=true) (aB o8=true) (BI m 0 k ps)) ⟨[],none,none,none,rfl,rfl,rfl,rfl,⟨⟨(λ_ z=>nomatch z),Rz⟩,λ_ z=>nomatch z⟩⟩ ?_ ?_
 .rintro J k _ hk hJ⟨ps,o6,o7,o8,rfl,h6,h7,h8,bi⟩;simp![h6];rw[if_pos ⟨by lia,by lia⟩];refine aX rfl ?_;refine jQ (λj E=>qC λ(ps:WH)(o7 o8:Option (Kd×PyData))=>yP (E=[some (.ow true,inD l),some (.sh,iD m),some (.sh,iD so),some (.ow false,nD inn),some (.ow false,nD sp),some (.ow false,.list (ps.map bw)),some (.sh,iD k),o7,o8,none,none,none,none,none]) (aB o7=true) (aB o8=true) (BI m j k ps)) ⟨ps,o7,o8,rfl,h7,h8,bi⟩ ?_ ?_
  .clear bi h7 h8 o7 o8 ps;rintro J2 j _ hj hJ2⟨ps,o7,o8,rfl,h7,h8,bi⟩;have gj:=K5 (l:=sp) (k:=j) (by lia);have gk:=K5 (l:=sp) (k:=k) (by lia);simp![h7,h8,gj,gk];generalize (if((sp.getD j 0:Nat):Int)-((sp.getD k 0:Nat):Int)<0 then-(((sp.getD j 0:Nat):Int)-((sp.getD k 0:Nat):Int))else((sp.getD j 0:Nat):Int)-((sp.getD k 0:Nat):Int))=cJ;have gi:=K5 (l:=inn) (k:=sp.getD k 0) (by rw[hl];exact hb _ (RD gk));have pl:ps.length<16777216:=by have:=Gr.kq bi.gd;have:m*m<=12*12:=Uc h2 h2;lia
   have put:=hJ2 _ ⟨ps++[(j,k)],some (.sh,iD j),some (.sh,.int cJ),by rw[RG],rfl,rfl,bi.put hj hk⟩;have skip:=hJ2 _ ⟨ps,some (.sh,iD j),some (.sh,.int cJ),rfl,rfl,rfl,bi.skip⟩;simp![gi];split;{exact⟨by lia,pl,put⟩};split;{split;{exact⟨by lia,pl,put⟩};exact skip};exact skip
  rintro _⟨ps,o7,o8,rfl,h7,h8,bi⟩;exact hJ _ ⟨ps,_,_,_,rfl,rfl,h7,h8,bi.next⟩
 rintro _⟨ps,o6,o7,o8,rfl,h6,h7,h8,bi⟩;have gd:=bi.gd;have pl:ps.length<=144:=by have:=Gr.kq gd;have:m*m<=12*12:=Uc h2 h2;lia
 show B _;rw[hB];clear hB B;refine fZ λB hB=>?_;rfl';refine⟨[(.int 0,.bool true)],rfl,rfl,by decide,?_⟩;have ed:Ef [(PyData.int 0,PyData.bool true)]=kB [0]:=by unfold Ef;simp[putD]
 rw[ed];show B _;rw[hB];clear hB B;refine fZ λB hB=>?_;rfl';rw[if_pos ⟨by lia,by lia⟩];refine aX rfl ?_;refine jQ (λt E=>Ep λ(xs:WZ)(kd:Kd)(o10 o11 o12:Option (Kd×PyData))=>zV (E=[some (.ow true,inD l),some (.sh,iD m),some (.sh,iD so),some (.ow false,nD inn),some (.ow false,nD sp),some (kd,.list (ps.map bw)),o6,o7,o8,some (.dk false,.dict (kB xs)),o10,o11,o12,none]) ((kd=.ow false\/kd=.sh)) (aB o10=true) (aB o11=true) (aB o12=true) (NI m ps t 0 xs)) ⟨[0],_,none,none,none,rfl,.inl rfl,rfl,rfl,rfl,⟨QS.mpr rfl,λx hx=>⟨0,by rw[QS.mp hx];exact .zero⟩,(λn x h=>by lia),λx hx=>by rw[QS.mp hx];exact h1,RX.mpr ⟨Ri,Rz⟩⟩⟩ ?_ ?_
 .rintro J t _ ht hJ⟨xs,kd,o10,o11,o12,rfl,hkd,h10,h11,h12,ni⟩;have fin:∀(o11 o12:Option (Kd×PyData)),aB o11=true->aB o12=true->vG (List.map bw ps) (Tg.tp [11,12]) (b5 (bP (n5 (aa (dF false) [Arg.pk 11,Arg.pk 9]) (aa (dF false) [Arg.pk 12,Arg.pk 9]))) (aC (fP 9 (cy 11) (dC (PyData.bool true))) (fP 9 (cy 12) (dC (PyData.bool true)))) cF) { nx:=J,rt:=(cM [true,false] Q x).rt,xc:=x } [some (.ow true,inD l),some (.sh,iD m),some (.sh,iD so),some (.ow false,nD inn),some (.ow false,nD sp),some (.sh,.list (ps.map bw)),o6,o7,o8,some (.dk false,.dict (kB xs)),some (.sh,iD t),o11,o12,none]:=λo11 o12 h11 h12=>by
   refine pV (λi E=>qC λ(xs:WZ)(o11 o12:Option (Kd×PyData))=>yP (E=[some (.ow true,inD l),some (.sh,iD m),some (.sh,iD so),some (.ow false,nD inn),some (.ow false,nD sp),some (.sh,.list (ps.map bw)),o6,o7,o8,some (.dk false,.dict (kB xs)),some (.sh,iD t),o11,o12,none]) (aB o11=true) (aB o12=true) (NI m ps t i xs)) ⟨xs,o11,o12,rfl,h11,h12,ni⟩ ?_ ?_
   .clear ni h11 h12 o11 o12 xs;rintro J2 i⟨u,v⟩_ hi hJ2⟨xs,o11,o12,rfl,h11,h12,ni⟩;simp![h11,h12];have put:(u∈xs\/v∈xs)->J2 [some (.ow true,inD l),some (.sh,iD m),some (.sh,iD so),some (.ow false,nD inn),some (.ow false,nD sp),some (.sh,.list (ps.map bw)),o6,o7,o8,some (.dk false,.dict (putD (putD (kB xs) (iD u) (.bool true)) (iD v) (.bool true))),some (.sh,iD t),some (.sh,iD u),some (.sh,iD v),none]:=λc=>by rw[yF,yF];exact hJ2 _ ⟨_,_,_,rfl,rfl,rfl,ni.put gd hi c⟩
    have xl:=Gr.eY m xs ni.nd ni.lt;have xl2:(putD (kB xs) (iD u) (PyData.bool true)).length<16777216:=by rw[yF,Q7];have:=GY (xs:=xs) (y:=u);lia
    refine B8 (ng:=false) ?_;by_cases c1:u∈xs;{simp![c1];exact⟨⟨rfl,by lia⟩,⟨rfl,xl2⟩,put (.inl c1)⟩};simp![c1];refine B8 (ng:=false) ?_;by_cases c2:v∈xs;{simp![c2];exact⟨⟨rfl,by lia⟩,⟨rfl,xl2⟩,put (.inr c2)⟩};simp![c2];exact hJ2 _ ⟨xs,_,_,rfl,rfl,rfl,ni.skip hi c1⟩
   rintro _⟨xs,o11,o12,rfl,h11,h12,ni⟩;exact hJ _ ⟨xs,.sh,_,_,_,rfl,.inr rfl,rfl,h11,h12,ni.next⟩
  rcases hkd with rfl|rfl;{simp![h10];exact fin _ _ h11 h12};simp![h10];exact fin _ _ h11 h12
 rintro _⟨xs,kd,o10,o11,o12,rfl,hkd,h10,h11,h12,ni⟩;show B _;rw[hB];clear hB B;have ni:NI m ps m 0 xs:=ni;obtain⟨gf,cf⟩:=MM h1 gd ni;have em:((m:Int)-1).toNat=m-1:=by lia
 have zl:(zT m xs).length<=m:=by unfold zT;rw[Q7];have:=List.length_filter_le (λk=>decide (k+1∉xs)) (List.range (m-1));rw[RB]at this;lia
 have key:∀(kd:Kd)(R:En->Kd->PyData->Prop),(∀E1,E1=[some (.ow true,inD l),some (.sh,iD m),some (.sh,iD so),some (.ow false,nD inn),some (.ow false,nD sp),some (kd,.list (ps.map bw)),o6,o7,o8,some (.dk false,.dict (kB xs)),o10,o11,o12,none]->R E1 (.ow false) (.list ((zT m xs).map bw)))->vm [13] (List.map (λi=>iD (i+1)) (List.range (m-1))) (Tg.nm 13) (bP (aa (dF true) [Arg.pk 13,Arg.pk 9])) (eF 16777216 (aa Dv.cY [Arg.ev (dC (PyData.int 0)),Arg.pk 13])) [some (.ow true,inD l),some (.sh,iD m),some (.sh,iD so),some (.ow false,nD inn),some (.ow false,nD sp),some (kd,.list (ps.map bw)),o6,o7,o8,some (.dk false,.dict (kB xs)),o10,o11,o12,none] R:=λkd R hR=>by
  refine Mv (λi=>if decide (i+1∉xs)=true then some (bw (0,i+1))else none) rfl (λi hi I hI=>?_) ?_ (by rw[RB];lia);{rfl';refine B8 (ng:=true) ?_;by_cases c:i+1∈xs;{rw[if_neg (by simp[c])]at hI;simp![c];exact hI _ rfl};rw[if_pos (by simp[c])]at hI;simp![c];rw[if_pos not_false];exact⟨by lia,hI _ rfl⟩};rw[rE];have e:((List.range (m-1)).filter λk=>decide (k+1∉xs)).map (λk=>bw (0,k+1))=(zT m xs).map bw:=by unfold zT;rw[RV];rfl
  rw[e];exact hR _ rfl
 rcases hkd with rfl|rfl;{simp![h10];rw[em,if_pos ⟨by lia,by lia,by lia,by lia⟩];refine aX rfl (key _ _ λE1 e=>?_);subst e;rfl';rw[<-RG];exact⟨by lia,q _ _ gf cf P⟩};simp![h10];rw[em,if_pos ⟨by lia,by lia,by lia,by lia⟩];refine aX rfl (key _ _ λE1 e=>?_);subst e;rfl';rw[<-RG];exact⟨by lia,q _ _ gf cf P⟩
noncomputable def IP:dS:=λdd Q x=>∃(l:Wa) (m:Nat),dd=[inD l,iD m]/\dm l/\1<=m/\m<=60/\∀(ps:WH) l',Good m ps->lB m ps->ps.length<=400->dm l'->Q [inD l'] (.ow false) (.list (ps.map bw))
structure TI(n m:Nat)(ps:WH):Prop where
 gd:Good m ps
 cn:lB m ps
 few:ps.length<=n
theorem TI.put{N m a b:Nat}(h:TI N m ps)(l:a<b)(hb:b<m)(n:(a,b)∉ps):TI (N+1) m (ps++[(a,b)]):=⟨h.gd.put l hb n,h.cn.mono λe he=>R7.mpr (.inl he),by rw[RC];exact Nat.succ_le_succ h.few⟩
def TI.mono{n k m:Nat}(h:TI n m ps)(l:n<=k):TI k m ps:=⟨h.gd,h.cn,RM h.few l⟩
def TI.of{n m:Nat}(gd:Good m ps)(h:∀k,0<k->k<m->∃p,p<k/\(p,k)∈ps)(l:ps.length<=n):TI n m ps:=⟨gd,(Gr.zG h).Ly,l⟩
def q9 (m:Nat):WH:=(List.range (m-1)).map λi=>(i,i+1)
def tG (m:Nat):WH:=(List.range (m-1)).map λi=>(0,i+1)
def wu{m:Nat}:TI m m (q9 m):=by refine TI.of ⟨λe he=>?_,Ub _ (λa b h e=>h (Prod.mk.inj e).1) Sz⟩ (λk h0 hk=>⟨k-1,by lia,Q8.mpr ⟨k-1,RU.mpr (by lia),by rw[Nat.sub_add_cancel h0]⟩⟩) (by rw[q9,Q7,RB];lia);obtain⟨i,hi,rfl⟩:=Q8.mp he;have:=RU.mp hi;exact⟨US i,by show i+1<m;lia⟩
def Jj{m:Nat}:TI m m (tG m):=by refine TI.of ⟨λe he=>?_,Ub _ (λa b h e=>h (Nat.succ.inj (Prod.mk.inj e).2)) Sz⟩ (λk h0 hk=>⟨0,h0,Q8.mpr ⟨k-1,RU.mpr (by lia),by rw[Nat.sub_add_cancel h0]⟩⟩) (by rw[tG,Q7,RB];lia);obtain⟨i,hi,rfl⟩:=Q8.mp he;have:=RU.mp hi;exact⟨Nat.succ_pos i,by show i+1<m;lia⟩
structure AI(m k:Nat)(ps:WH):Prop where
 gd:Good m ps
 all:∀e,e∈ps↔e.1<e.2/\e.2<k
def AI.next{m k:Nat}(h:AI m k ps)(hk:k<m):AI m (k+1) (ps++(List.range k).map λj=>(j,k)):=by
 have key:∀e:Nat×Nat,e∈(List.range k).map (λj=>(j,k))↔e.1<k/\e.2=k:=λe=>by rw[Q8];constructor;{rintro⟨j,hj,rfl⟩;exact⟨RU.mp hj,rfl⟩};rintro⟨h1,h2⟩;exact⟨e.1,RU.mpr h1,by rw[<-h2]⟩
 refine⟨⟨λe he=>?_,Tv.mpr ⟨h.gd.nd,Ub _ (λa b h e=>h (Prod.mk.inj e).1) Sz,λe he f hf z=>?_⟩⟩,λe=>?_⟩;{rcases R7.mp he with he|he;{exact h.gd.lt e he};have:=(key e).mp he;lia};{subst z;have h1:=(h.all _).mp he;have h2:=(key _).mp hf;lia};rw[R7,h.all e,key e];lia
def Oz:∀dd Q x,IP dd Q x->iB kP IL (cM [true,false] Q x) (ini [true,false] dd++List.replicate 7 none):=by
 rintro _ Q x⟨l,m,rfl,P,h1,h2,q⟩;have em:((m:Int)-1).toNat=m-1:=by lia
 unfold iB;refine fZ λB hB=>?_;rfl';refine⟨l,8,rfl,P,by lia,by lia,λw l hw P=>?_⟩;rfl';show B _;rw[hB];clear hB B;refine fZ λB hB=>?_;rfl';rw[em,if_pos ⟨by lia,by lia,by lia,by lia⟩];refine aX rfl (sf (λi=>bw (i,i+1)) rfl (λi hi I hI=>?_) ?_ (by rw[RB];lia));{rfl';rw[show((i+1:Nat):Int)-1=(i:Int)by lia];exact⟨by lia,hI _ rfl⟩};rfl';rw[show(List.range (m-1)).map (λi=>bw (i,i+1))=(q9 m).map bw by unfold q9;rw[RV];rfl,hB];clear hB B;refine ee (λE=>yN λ(l:Wa)(ps:WH)(o4 o5 o6 o7:Option (Kd×PyData))=>oM (E=[some (.ow true,inD l),some (.sh,iD m),some (.sh,iD w),some (.ow false,.list (ps.map bw)),o4,o5,o6,o7,none]) (aB o4=true) (aB o5=true) (aB o6=true) (aB o7=true) (dm l) (TI 250 m ps)) (λJ hJ=>?_) λB hB=>?_
 .rfl';have skip:=hJ _ ⟨l,q9 m,none,none,none,none,rfl,rfl,rfl,rfl,rfl,P,wu.mono (by lia)⟩;split
  .split
   .rename_i hm2;have rl:=(wu (m:=m)).few;have nm:(0,m-1)∉q9 m:=λz=>by obtain⟨i,hi,e⟩:=Q8.mp z;have:=Prod.mk.inj e;lia
    rw[show(m:Int)-1=((m-1:Nat):Int)by lia];refine⟨by lia,by lia,hJ _ ⟨l,q9 m++[(0,m-1)],none,none,none,none,?_,rfl,rfl,rfl,rfl,P,(wu.put (by lia) (by lia) nm).mono (by lia)⟩⟩;rw[RG];rfl
   exact skip
  exact skip
 rintro _⟨l,ps,o4,o5,o6,o7,rfl,h4,h5,h6,h7,P,ti⟩;rw[hB];clear hB B;refine ee (λE=>yN λ(l:Wa)(ps:WH)(o4 o5 o6 o7:Option (Kd×PyData))=>oM (E=[some (.ow true,inD l),some (.sh,iD m),some (.sh,iD w),some (.ow false,.list (ps.map bw)),o4,o5,o6,o7,none]) (aB o4=true) (aB o5=true) (aB o6=true) (aB o7=true) (dm l) (TI 250 m ps)) (λJ hJ=>?_) λB hB=>?_;{have skip:=hJ _ ⟨l,ps,o4,o5,o6,o7,rfl,h4,h5,h6,h7,P,ti⟩;rfl';split;{rw[em,if_pos ⟨by lia,by lia,by lia,by lia⟩];refine aX rfl (sf (λi=>bw (0,i+1)) rfl (λi hi I hI=>?_) ?_ (by rw[RB];lia));{rfl';exact⟨by lia,hI _ rfl⟩};rfl';rw[show(List.range (m-1)).map (λi=>bw (0,i+1))=(tG m).map bw by unfold tG;rw[RV];rfl];exact hJ _ ⟨l,tG m,o4,o5,o6,o7,rfl,h4,h5,h6,h7,P,Jj.mono (by lia)⟩};exact skip};clear ti P h4 h5 h6 h7 o4 o5 o6 o7 ps l;rintro _⟨l,ps,o4,o5,o6,o7,rfl,h4,h5,h6,h7,P,ti⟩;rw[hB];clear hB B;refine ee (λE=>yN λ(l:Wa)(ps:WH)(o4 o5 o6 o7:Option (Kd×PyData))=>oM (E=[some (.ow true,inD l),some (.sh,iD m),some (.sh,iD w),some (.ow false,.list (ps.map bw)),o4,o5,o6,o7,none]) (aB o4=true) (aB o5=true) (aB o6=true) (aB o7=true) (dm l) (TI 250 m ps)) (λJ hJ=>?_) λB hB=>?_;{have skip:=hJ _ ⟨l,ps,o4,o5,o6,o7,rfl,h4,h5,h6,h7,P,ti⟩;rfl';split;{split;{refine⟨by lia,?_⟩;rw[if_pos ⟨by lia,by lia⟩];refine aX rfl ?_;refine jQ (λk E=>vf λ(ps:WH)(o4:Option (Kd×PyData))=>Dq (E=[some (.ow true,inD l),some (.sh,iD m),some (.sh,iD w),some (.ow false,.list (ps.map bw)),o4,o5,o6,o7,none]) (aB o4=true) (AI m k ps)) ⟨[],o4,rfl,h4,⟨⟨(λ_ z=>nomatch z),Rz⟩,λe=>⟨(λz=>nomatch z),λz=>by lia⟩⟩⟩ ?_ ?_;{clear skip h4 o4 ti ps;rintro J2 k _ hk hJ2⟨ps,o4,rfl,h4,ai⟩;have pl:=Gr.kq ai.gd;have:=Uc h2 h2;simp![h4];rw[if_pos ⟨by lia,by lia⟩];refine aX rfl (sf (λj=>bw (j,k)) rfl (λj hj I hI=>?_) ?_ (by rw[RB];lia));{rfl';exact⟨by lia,hI _ rfl⟩};rfl';refine⟨by lia,hJ2 _ ⟨ps++(List.range k).map λj=>(j,k),some (.sh,iD k),?_,rfl,ai.next hk⟩⟩;rw[RG,RV];rfl};rintro _⟨ps,o4,rfl,h4,ai⟩;exact hJ _ ⟨l,ps,o4,o5,o6,o7,rfl,h4,h5,h6,h7,P,TI.of ai.gd (λk h0 hk=>⟨0,h0,(ai.all _).mpr ⟨h0,hk⟩⟩) (by have:=Gr.kq ai.gd;have:m*m<=20*20:=Uc (by lia) (by lia);lia)⟩};exact skip};exact skip};clear ti P h4 h5 h6 h7 o4 o5 o6 o7 ps l;rintro _⟨l,ps,o4,o5,o6,o7,rfl,h4,h5,h6,h7,P,ti⟩;rw[hB];clear hB B;refine ee (λE=>yN λ(l:Wa)(ps:WH)(o4 o5 o6 o7:Option (Kd×PyData))=>oM (E=[some (.ow true,inD l),some (.sh,iD m),some (.sh,iD w),some (.ow false,.list (ps.map bw)),o4,o5,o6,o7,none]) (aB o4=true) (aB o5=true) (aB o6=true) (aB o7=true) (dm l) (TI 250 m ps)) (λJ hJ=>?_) λB hB=>?_;{have skip:=hJ _ ⟨l,ps,o4,o5,o6,o7,rfl,h4,h5,h6,h7,P,ti⟩;rfl';split;{split;{refine⟨l,m,rfl,P,h1,by lia,λps l gd cn P=>?_⟩;rfl';exact hJ _ ⟨l,ps,o4,o5,o6,o7,rfl,h4,h5,h6,h7,P,gd,cn,by have:=Gr.kq gd;have:m*m<=12*12:=Uc (by lia) (by lia);lia⟩};exact skip};exact skip};clear ti P h4 h5 h6 h7 o4 o5 o6 o7 ps l;rintro _⟨l,ps,o4,o5,o6,o7,rfl,h4,h5,h6,h7,P,ti⟩;rw[hB];clear hB B;refine ee (λE=>yN λ(l:Wa)(ps:WH)(o4 o5 o6 o7:Option (Kd×PyData))=>oM (E=[some (.ow true,inD l),some (.sh,iD m),some (.sh,iD w),some (.ow false,.list (ps.map bw)),o4,o5,o6,o7,none]) (aB o4=true) (aB o5=true) (aB o6=true) (aB o7=true) (dm l) (TI 250 m ps)) (λJ hJ=>?_) λB hB=>?_
 .have skip:=hJ _ ⟨l,ps,o4,o5,o6,o7,rfl,h4,h5,h6,h7,P,ti⟩;rfl';split
  .refine⟨by lia,?_⟩;rw[em,if_pos ⟨by lia,by lia,by lia,by lia⟩];refine aX rfl ?_;refine jQ (λk E=>qC λ(l:Wa)(ps:WH)(o4:Option (Kd×PyData))=>yP (E=[some (.ow true,inD l),some (.sh,iD m),some (.sh,iD w),some (.ow false,.list (ps.map bw)),o4,o5,o6,o7,none]) (aB o4=true) (dm l) (Up k ps)) ⟨l,[],o4,rfl,h4,P,⟨rfl,λk e h=>by cases h⟩⟩ ?_ ?_
   .clear skip h4 o4 ti ps P l;rintro J2 k _ hk hJ2⟨l,ps,o4,rfl,h4,P,up⟩;simp![h4];refine⟨l,k+1,rfl,P,by lia,by lia,λr1 l hr1 P=>?_⟩;rfl';refine⟨by lia,l,3,rfl,P,by lia,by lia,λr2 l hr2 P=>?_⟩;simp![jB];obtain⟨p,hp,e⟩:∃p:Nat,p<=k/\([iD r1,.int (((k+1:Nat):Int)-1),.int (if((k+1:Nat):Int)-2>0 then((k+1:Nat):Int)-2 else 0)]:WN)[r2]?=some (iD p):=by rcases r2 with _|_|_|r2;{exact⟨r1,by lia,rfl⟩};{exact⟨k,by lia,by rw[show((k+1:Nat):Int)-1=(k:Int)by lia];rfl⟩};{refine⟨k-1,by lia,?_⟩;rw[show(if((k+1:Nat):Int)-2>0 then((k+1:Nat):Int)-2 else 0)=((k-1:Nat):Int)by split<;>lia];rfl};lia
    have ul:=up.len;refine aX e ⟨by lia,by lia,hJ2 _ ⟨l,ps++[(p,k+1)],some (.sh,iD (k+1)),?_,rfl,P,up.snoc hp⟩⟩;rw[RG];rfl
   rintro _⟨l,ps,o4,rfl,h4,P,up⟩;exact hJ _ ⟨l,ps,o4,o5,o6,o7,rfl,h4,h5,h6,h7,P,up.good h1,up.conn.Ly,by have:=up.len;lia⟩
  exact skip
 clear ti P h4 h5 h6 h7 o4 o5 o6 o7 ps l;rintro _⟨l,ps,o4,o5,o6,o7,rfl,h4,h5,h6,h7,P,ti⟩;rw[hB];clear hB B;refine ee (λE=>yN λ(l:Wa)(ps:WH)(o4 o5 o6 o7:Option (Kd×PyData))=>oM (E=[some (.ow true,inD l),some (.sh,iD m),some (.sh,iD w),some (.ow false,.list (ps.map bw)),o4,o5,o6,o7,none]) (aB o4=true) (aB o5=true) (aB o6=true) (aB o7=true) (dm l) (TI 400 m ps)) (λJ hJ=>?_) λB hB=>?_
 .have skip:=hJ _ ⟨l,ps,o4,o5,o6,o7,rfl,h4,h5,h6,h7,P,ti.mono (by lia)⟩;rfl';split
  .refine⟨by lia,l,4,rfl,P,by lia,by lia,λr l hr P=>?_⟩;simp![h5,jB];obtain⟨n,hn0,hn,e⟩:∃n:Nat,0<n/\n<=142/\([PyData.int 7,.int 7,.int 7,.int 142]:WN)[r]?=some (iD n):=by rcases r with _|_|_|_|r;{exact⟨7,by lia,by lia,rfl⟩};{exact⟨7,by lia,by lia,rfl⟩};{exact⟨7,by lia,by lia,rfl⟩};{exact⟨142,by lia,by lia,rfl⟩};lia
   refine aX e ⟨l,n,rfl,P,hn0,by lia,λr2 l hr2 P=>?_⟩;rfl';rw[if_pos ⟨by lia,by lia⟩];refine aX rfl ?_;refine jQ (λk E=>Ep λ(l:Wa)(ps:WH)(o4 o6 o7:Option (Kd×PyData))=>zV (E=[some (.ow true,inD l),some (.sh,iD m),some (.sh,iD w),some (.ow false,.list (ps.map bw)),o4,some (.sh,iD n),o6,o7,none]) (aB o4=true) (aB o6=true) (aB o7=true) (dm l) (TI (250+k) m ps)) ⟨l,ps,o4,o6,o7,rfl,h4,h6,h7,P,ti⟩ ?_ ?_;{clear skip h4 o4 h6 o6 h7 o7 ti ps P l;rintro J2 k _ hk hJ2⟨l,ps,o4,o6,o7,rfl,h4,h6,h7,P,ti⟩;have pl:=ti.few;simp![h4];refine⟨l,m,rfl,P,by lia,by lia,λu l hu P=>?_⟩;simp![h6];refine⟨l,m,rfl,P,by lia,by lia,λv l hv P=>?_⟩;simp![h7];have skip:=hJ2 _ ⟨l,ps,some (.sh,iD k),some (.sh,iD u),some (.sh,iD v),rfl,rfl,rfl,rfl,P,ti.mono (by lia)⟩;split;{rename_i huv;refine⟨by lia,⟨QW.mpr λe _=>rfl,rfl⟩,?_⟩;split;{rename_i hni;have nm:(u,v)∉ps:=λz=>hni (Q8.mpr ⟨_,z,rfl⟩);refine⟨by lia,by lia,hJ2 _ ⟨l,ps++[(u,v)],some (.sh,iD k),some (.sh,iD u),some (.sh,iD v),?_,rfl,rfl,rfl,P,ti.put huv hv nm⟩⟩;rw[RG];rfl};exact skip};exact skip};rintro _⟨l,ps,o4,o6,o7,rfl,h4,h6,h7,P,ti⟩;exact hJ _ ⟨l,ps,o4,_,o6,o7,rfl,h4,rfl,h6,h7,P,ti.mono (by lia)⟩
  exact skip
 clear ti P h4 h5 h6 h7 o4 o5 o6 o7 ps l;rintro _⟨l,ps,o4,o5,o6,o7,rfl,h4,h5,h6,h7,P,ti⟩;rw[hB];clear hB B;rfl';exact q ps l ti.gd ti.cn ti.few P
noncomputable def HJ:dS:=λdd Q x=>∃(l:Wa) (mo:Nat),dd=[inD l,iD mo]/\dm l/\0<mo/\mo<=60/\∀m es l',NK m es->es.Pairwise pJ->es.length<=400->dm l'->Q [inD l'] .sh (wD m es)
def Ov:∀dd Q x,HJ dd Q x->iO kP IW IP (cM [true,false] Q x) (ini [true,false] dd++List.replicate 5 none):=by
 rintro _ Q x⟨l,mo,rfl,P,h1,h2,q⟩;unfold iO;refine fZ λB hB=>?_;rfl';refine⟨l,mo,rfl,P,by lia,by lia,λr l hr P=>?_⟩;rfl';show B _;rw[hB];clear hB B;refine ee (λE=>vf λ(l:Wa) (m:Nat)=>yP (E=[some (.ow true,inD l),some (.sh,iD mo),some (.sh,iD m),none,none,none,none]) (1<=m) (m<=60) (dm l)) (λJ hJ=>?_) λB hB=>?_;{rfl';refine⟨l,8,rfl,P,by lia,by lia,λr2 l hr2 P=>?_⟩;rfl';split;{refine⟨l,60,rfl,P,by lia,by lia,λr3 l hr3 P=>?_⟩;rfl';rw[show(1:Int)+(r3:Int)=((1+r3:Nat):Int)by lia];exact hJ _ ⟨l,1+r3,rfl,by lia,by lia,P⟩};rw[show(1:Int)+(r:Int)=((1+r:Nat):Int)by lia];exact hJ _ ⟨l,1+r,rfl,by lia,by lia,P⟩};rintro _⟨l,m,rfl,hm1,hm2,P⟩;rw[hB];clear hB B;refine fZ λB hB=>?_;rfl';refine⟨l,m,rfl,P,by lia,λms l pm P=>?_⟩;rfl';rw[hB];clear hB B;refine fZ λB hB=>?_;rfl';refine⟨by lia,?_⟩;rw[hB];clear hB B;refine fZ λB hB=>?_;rfl';refine⟨l,m,rfl,P,hm1,hm2,λps l gd cn few P=>?_⟩;rfl';refine pV (λi E=>vf λ(o5 o6:Option (Kd×PyData))=>Dq (E=[some (.ow true,inD l),some (.sh,iD mo),some (.sh,iD m),some (.ow false,nD ms),some (.ow false,.list (((ps.take i).map (Gr.zM ms)).map bw)),o5,o6]) (aB o5=true) (aB o6=true)) ⟨none,none,rfl,rfl,rfl⟩ ?_ ?_
 .rintro J i e _ hi hJ⟨o5,o6,rfl,h5,h6⟩;have hl:=gd.lt e (RD hi);have g1:=yc pm (by lia:e.1<m);have g2:=yc pm hl.2;have tl:(ps.take i).length<=400:=RM (List.length_take_le ..) (by have:=bH hi;lia);simp![h5,h6,g1.1,g2.1];have ts:ps.take (i+1)=ps.take i++[e]:=by rw[List.take_succ,hi];rfl
  refine⟨by lia,by lia,hJ _ ⟨some (.sh,iD e.1),some (.sh,iD e.2),?_,rfl,rfl⟩⟩;rw[ts,RG,RG];rfl
 rintro _⟨o5,o6,rfl,h5,h6⟩;show B _;rw[hB];clear hB B;rw[TQ];rfl';refine zJ (by rw[Q7];lia) λqs pq so=>?_;rfl';exact⟨by lia,q m qs l ⟨hm1,hm2,Gr.Good.perm pq (Gr.AR pm gd),Gr.Dz pq (Gr.Bg pm cn.conn)⟩ so (by rw[pq.length_eq,Q7];exact few) P⟩
def NW{y:Nat}:aW [.dict kvs,iD y] P=((jv (iD y)=true/\gM kvs=true)/\∃d,bY kvs (iD y)=some d/\P .sh d):=by
 cases kvs with
 |nil=>rfl
 |cons kv t=>
  obtain⟨a,b⟩:=kv;cases a with
  |none=>cases b<;>rfl
  |_=>rfl
abbrev kI (ps:WH):Vy:=ps.map λe=>(iD e.1,iD e.2)
noncomputable def bM (ps:WH) (x:Nat):Option Nat:=(ps.find? λe=>decide (e.1=x)).map (·.2)
theorem oY{x:Nat}:∀{ps:WH},bY (kI ps) (iD x)=(bM ps x).map iD
 |[]=>rfl
 |e::ps=>by
  have ih:=oY (x:=x) (ps:=ps);unfold bY bM kI at ih⊢;rw[RE,T7,T7];by_cases c:e.1=x
  .have c':iD e.1=iD x:=by rw[c]
   simp only[c,decide_true];rfl
  have c':¬iD e.1=iD x:=λz=>c (oG.mp z);simp only[c,c',decide_false];exact ih
def q8{x:Nat}:bM ps x=none↔∀e∈ps,e.1≠x:=by unfold bM;rw[Option.map_eq_none_iff,List.find?_eq_none];simp
def Fj{y d:Nat}(h:bM ps y=none):bM (ps++[(y,d)])=λx=>if x=y then some d else bM ps x:=by
 funext x;unfold bM;rw[List.find?_append];by_cases c:x=y
 .subst c;have h':(ps.find? λe=>decide (e.1=x))=none:=by unfold bM at h;exact Option.map_eq_none_iff.mp h
  rw[h',if_pos rfl];simp
 rw[if_neg c];cases e:ps.find? λe=>decide (e.1=x)with
 |some v=>rfl
 |none=>simp[Ne.symm c]
def L8{y d:Nat}(h:bM ps y=none):putD (kI ps) (iD y) (iD d)=kI (ps++[(y,d)]):=by have no:=q8.mp h;unfold putD;rw[if_neg];{unfold kI;rw[RG];rfl};rw[U7];rintro⟨kv,h1,h2⟩;obtain⟨e,he,rfl⟩:=Q8.mp h1;exact no e he (oG.mp (RN h2))
def nH:∀{ps:WH},gM (kI ps)=true
 |[]=>rfl
 |_::_=>rfl
def MW{y:Nat}:dF true [iD y,.dict kvs] P=((jv (iD y)=true/\gM kvs=true)/\P .sh (.bool !(bY kvs (iD y)).isSome)):=by
 cases kvs with
 |nil=>rfl
 |cons kv t=>
  obtain⟨a,b⟩:=kv;cases a with
  |none=>cases b<;>rfl
  |_=>rfl
def IK{y d:Nat}(h:bM ps y=some d)(q:P .sh (iD d)):aW [.dict (kI ps),iD y] P:=by rw[NW];exact⟨⟨rfl,nH⟩,_,by rw[oY,h];rfl,q⟩
def EK{y:Nat}:dF true [iD y,.dict (kI ps)] P=P .sh (.bool (bM ps y).isNone):=by rw[MW,oY];refine propext ⟨λh=>?_,λh=>⟨⟨rfl,nH⟩,?_⟩⟩;{have h:=h.2;cases e:bM ps y<;>rw[e]at h<;>exact h};cases e:bM ps y<;>rw[e]at h<;>exact h
noncomputable def tY (es:WH)(g:Nat->Option Nat) (r i:Nat)(mt:WZ):Prop:=∀x,x∈mt↔g x=none/\∃h,g h=some r/\∃j:Nat,j<i/\(es[j]?=some (h,x)\/es[j]?=some (x,h))
def tY.step{es:WH}{g:Nat->Option Nat}{r i a b:Nat}{mt:WZ}(h:tY es g r i mt)(e:es[i]?=some (a,b)):tY es g r (i+1) ((mt++(if g a=some r/\g b=none then [b]else []))++(if g b=some r/\g a=none then [a]else [])):=by intro x;rw[R7,R7,h x];constructor;{rintro ((⟨h1,k,h2,j,hj,h3⟩|hx)|hx);{exact⟨h1,k,h2,j,by lia,h3⟩};{split at hx;{rename_i c;cases QS.mp hx;exact⟨c.2,a,c.1,i,by lia,.inl e⟩};cases hx};split at hx;{rename_i c;cases QS.mp hx;exact⟨c.2,b,c.1,i,by lia,.inr e⟩};cases hx};rintro⟨h1,k,h2,j,hj,h3⟩;by_cases cj:j=i;{rw[cj,e]at h3;rcases h3 with h3|h3;{cases h3;refine .inl (.inr ?_);rw[if_pos ⟨h2,h1⟩];exact QS.mpr rfl};cases h3;refine .inr ?_;rw[if_pos ⟨h2,h1⟩];exact QS.mpr rfl};exact .inl (.inl ⟨h1,k,h2,j,by lia,h3⟩)
def tY.all{es:WH}{g:Nat->Option Nat}{r:Nat}{mt:WZ}(h:tY es g r es.length mt):∀x,x∈mt↔g x=none/\∃k,g k=some r/\cQ es k x:=by intro x;rw[h x];constructor;{rintro⟨h1,k,h2,j,_,h3⟩;exact⟨h1,k,h2,h3.imp RD RD⟩};rintro⟨h1,k,h2,h3⟩;refine⟨h1,k,h2,?_⟩;rcases h3 with h3|h3;{obtain⟨j,hj⟩:=Rq h3;exact⟨j,(RW.mp hj).1,.inl hj⟩};obtain⟨j,hj⟩:=Rq h3;exact⟨j,(RW.mp hj).1,.inr hj⟩
def Hr{y:Nat}(h:P .sh (.bool (bM ps y).isSome)):dF false [iD y,.dict (kI ps)] P:=by
 have e:(bY (kI ps) (iD y)).isSome=(bM ps y).isSome:=by rw[oY];cases bM ps y<;>rfl
 rw[<-e]at h;cases ps with
 |nil=>exact⟨⟨rfl,rfl⟩,h⟩
 |cons a t=>exact⟨⟨rfl,rfl⟩,h⟩
def Jf{y d:Nat}(nd:(ps.map (·.1)).Nodup)(h:bM ps y=some d):putD (kI ps) (iD y) (iD d)=kI ps:=by
 have un:∀e∈ps,e.1=y->e.2=d:=λe he hy=>by
  unfold bM at h;obtain⟨f,hf,rfl⟩:=Rt.mp h;have h1:=List.mem_of_find?_eq_some hf;have h2:=RN (List.find?_some (p:=λe:Nat×Nat=>decide (e.1=y)) hf);obtain⟨i,hi⟩:=Rq he;obtain⟨j,hj⟩:=Rq h1;have li:=bH hi;have lj:=bH hj;have e1:(ps.map (·.1))[i]?=(ps.map (·.1))[j]?:=by rw[R8,R8,hi,hj];show some e.1=some f.1;rw[hy,h2]
  have:i=j:=(List.getElem?_inj (by rw[Q7];exact li) nd).mp e1;subst this;rw[hi]at hj;cases hj;rfl
 unfold putD;split;{rw[RV];refine SV λe he=>?_;show(if iD e.1=iD y then(iD e.1,iD d)else(iD e.1,iD e.2))=(iD e.1,iD e.2);split;{rename_i z;rw[un e he (oG.mp z)]};rfl};rename_i z;refine absurd ?_ z;unfold bM at h;obtain⟨f,hf,_⟩:=Rt.mp h;exact U7.mpr ⟨_,Q8.mpr ⟨f,List.mem_of_find?_eq_some hf,rfl⟩,Rg (by show iD f.1=iD y;rw[RN (List.find?_some (p:=λe:Nat×Nat=>decide (e.1=y)) hf)])⟩
noncomputable abbrev sO (es:WH) (p x:Nat):PyData:=match cJ es p x with
 |some d=>iD d
 |none=>.int (-1)
noncomputable def Bc:dS:=λdd Q x=>∃m es p,dd=[wD m es,iD p]/\1<=m/\m<=60/\(∀e∈es,e.1<m/\e.2<m)/\es.length<=1000/\p<m/\Q [] (.ow false) (.list ((List.range m).map (sO es p)))
structure FI(m:Nat)(ps:WH):Prop where
 nd:(ps.map (·.1)).Nodup
 lt:∀e∈ps,e.1<m
def FI.len{m:Nat}(h:FI m ps):ps.length<=m:=by
 have:=Gr.eY m (ps.map (·.1)) h.nd λx hx=>by obtain⟨e,he,rfl⟩:=Q8.mp hx;exact h.lt e he
 rwa[Q7]at this
def Lg:∀dd Q x,Bc dd Q x->iF (cM [false,false] Q x) (ini [false,false] dd++List.replicate 7 none):=by
 rintro _ Q x⟨m,es,p,rfl,h1,h2,hlt,few,hp,q⟩;unfold iF;refine fZ λB hB=>?_;rfl';refine⟨[(iD p,.int 0)],rfl,rfl,(show 1<=15 by decide),?_⟩;have ed:Ef [(iD p,PyData.int 0)]=kI [(p,0)]:=by unfold Ef;simp[putD]
 rw[ed];show B _;rw[hB];clear hB B;refine fZ λB hB=>?_;rfl';have em:((m:Int)-1).toNat=m-1:=by lia
 rw[em,if_pos ⟨by lia,by lia,by lia,by lia⟩];refine aX rfl ?_;refine jQ (λt E=>Mw λ(ps:WH)(ed:WZ)(o3 o4 o5 o6 o7:Option (Kd×PyData))=>EG (E=[some (.sh,wD m es),some (.sh,iD p),some (.dk false,.dict (kI ps)),o3,o4,o5,o6,o7,none]) (aB o3=true) (aB o4=true) (aB o5=true) (aB o6=true) (aB o7=true) (FI m ps) (ir (cQ es) p t (bM ps) ed)) ⟨[(p,0)],[p],none,none,none,none,none,rfl,rfl,rfl,rfl,rfl,rfl,⟨RX.mpr ⟨Ri,Rz⟩,λe he=>by rw[QS.mp he];exact hp⟩,?_⟩ ?_ ?_
 .have e:bM [(p,0)]=λx=>if x=p then some 0 else none:=by funext x;unfold bM;by_cases c:x=p;{subst c;simp};rw[if_neg c,U9 (by simp;exact λz=>c z.symm)];rfl
  rw[e];exact ir.start
 .rintro J t _ ht hJ⟨ps,ed,o3,o4,o5,o6,o7,rfl,h3,h4,h5,h6,h7,fi,bf⟩;have fl:=fi.len;simp![h3,h4];refine⟨by lia,nH,?_⟩;rfl';obtain⟨fs,efs⟩:∃fs,fs=(if ps.length<m then es else []):=⟨_,rfl⟩;have ecut:cutD (List.map bw es) none (some ((es.length:Int)*if ps.length<m then 1 else 0))=fs.map bw:=by rw[efs];split;{rw[Int.mul_one,mj,TM (Q5 _)]};rw[Int.mul_zero,show(0:Int)=((0:Nat):Int)from rfl,mj];rfl
  have fl2:fs.length<=1000:=by rw[efs];split;exact few;exact RO _
  have fsub:∀e∈fs,e∈es:=by rw[efs];split;exact λ_ h=>h;exact λ_ h=>nomatch h
  rw[ecut];refine⟨by split<;>exact .inr ⟨by lia,by lia⟩,?_⟩;refine pV (λi E=>qC λ(mt:WZ)(o5 o6:Option (Kd×PyData))=>Hw (E=[some (.sh,wD m es),some (.sh,iD p),some (.dk false,.dict (kI ps)),some (.sh,iD (t+1)),some (.ow false,nD mt),o5,o6,o7,none]) (aB o5=true) (aB o6=true) (mt.length<=2*i) (tY fs (bM ps) t i mt)) ⟨[],o5,o6,rfl,h5,h6,RO _,λx=>⟨(λz=>nomatch z),λ⟨_,_,_,j,hj,_⟩=>by lia⟩⟩ ?_ ?_
  .clear h5 h6 o5 o6;rintro J2 i⟨a,b⟩_ hi hJ2⟨mt,o5,o6,rfl,h5,h6,ml,mi⟩;have li:=bH hi;have hab:=hlt _ (fsub _ (RD hi));have st:=mi.step hi;simp![h5,h6];refine ee (λE=>E=[some (.sh,wD m es),some (.sh,iD p),some (.dk false,.dict (kI ps)),some (.sh,iD (t+1)),some (.ow false,nD (mt++(if bM ps a=some t/\bM ps b=none then [b]else []))),some (.sh,iD a),some (.sh,iD b),o7,none]) (λJ3 hJ3=>?_) λB3 hB3=>?_
   .have skip:¬(bM ps a=some t/\bM ps b=none)->J3 [some (.sh,wD m es),some (.sh,iD p),some (.dk false,.dict (kI ps)),some (.sh,iD (t+1)),some (.ow false,nD mt),some (.sh,iD a),some (.sh,iD b),o7,none]:=λc=>hJ3 _ (by rw[if_neg c,S8]);rfl';refine Hr ?_;cases ga:bM ps a with
    |none=>simp![Option.isSome_none];exact skip λz=>by rw[ga]at z;cases z.1
    |some d=>
     simp![VR];refine IK ga ?_;rfl';split
     .rename_i hd;have hd:d=t:=by lia
      subst hd;rw[EK];cases gb:bM ps b with
      |none=>simp![Vo];refine⟨by lia,hJ3 _ ?_⟩;rw[if_pos ⟨ga,gb⟩];unfold nD;rw[RG];rfl
      |some e=>simp![Vn];exact skip λz=>by rw[gb]at z;cases z.2
     rename_i hd;exact skip λz=>by rw[ga]at z;have:=Option.some.inj z.1;lia
   intro E' e;subst e;rw[hB3];generalize hmt:(mt++if bM ps a=some t/\bM ps b=none then [b]else [])=mt2 at st;have ml2:mt2.length<=mt.length+1:=by rw[<-hmt,RC];split<;>simp
   have skip:¬(bM ps b=some t/\bM ps a=none)->J2 [some (.sh,wD m es),some (.sh,iD p),some (.dk false,.dict (kI ps)),some (.sh,iD (t+1)),some (.ow false,nD mt2),some (.sh,iD a),some (.sh,iD b),o7,none]:=λc=>hJ2 _ ⟨mt2,_,_,rfl,rfl,rfl,by lia,by rw[if_neg c,S8]at st;exact st⟩;rfl';refine Hr ?_;cases gb:bM ps b with
   |none=>simp![Option.isSome_none];exact skip λz=>by rw[gb]at z;cases z.1
   |some d=>
    simp![VR];refine IK gb ?_;rfl';split
    .rename_i hd;have hd:d=t:=by lia
     subst hd;rw[EK];cases ga:bM ps a with
     |none=>simp![Vo];refine⟨by lia,hJ2 _ ⟨mt2++[a],some (.sh,iD a),some (.sh,iD b),?_,rfl,rfl,by rw[RC];show mt2.length+1<=_;lia,?_⟩⟩;{unfold nD;rw[RG];rfl};rw[if_pos ⟨gb,ga⟩]at st;exact st
     |some e=>simp![Vn];exact skip λz=>by rw[ga]at z;cases z.2
    rename_i hd;exact skip λz=>by rw[gb]at z;have:=Option.some.inj z.1;lia
  rintro _⟨mt,o5,o6,rfl,h5,h6,ml,mi⟩;have all:∀x,x∈mt↔bM ps x=none/\∃k,bM ps k=some t/\cQ es k x:=by
   by_cases c:ps.length<m;{rw[if_pos c]at efs;subst efs;exact mi.all};rw[if_neg c]at efs;subst efs;intro x;refine⟨λz=>?_,λz=>?_⟩;{obtain⟨_,_,_,j,hj,_⟩:=(mi x).mp z;exact absurd hj (Ru j)};obtain⟨z1,k,_,z3⟩:=z;have hx:x<m:=by rcases z3 with z|z;{exact(hlt _ z).2};exact(hlt _ z).1
   have no:=q8.mp z1;have:=Gr.eY m (x::ps.map (·.1)) (RX.mpr ⟨λy=>by obtain⟨e,he,rfl⟩:=Q8.mp y;exact no e he rfl,fi.nd⟩) λy hy=>by rcases QX.mp hy with rfl|hy;{exact hx};obtain⟨e,he,rfl⟩:=Q8.mp hy;exact fi.lt e he
   rw[RK,Q7]at this;lia
  have rd:=bf.round all;have mlt:∀x∈mt,x<m:=λx hx=>by obtain⟨_,k,_,z⟩:=(all x).mp hx;rcases z with z|z;{exact(hlt _ z).2};exact(hlt _ z).1
  rfl';refine pV (λi E=>vf λ(qs:WH)(o7:Option (Kd×PyData))=>yP (E=[some (.sh,wD m es),some (.sh,iD p),some (.dk false,.dict (kI qs)),some (.sh,iD (t+1)),some (.sh,nD mt),o5,o6,o7,none]) (aB o7=true) (FI m qs) (bM qs=λx=>if x∈mt.take i then some (t+1)else bM ps x)) ⟨ps,o7,rfl,h7,fi,by funext x;rw[List.take_zero,if_neg Ri]⟩ ?_ ?_
  .clear h7 o7;rintro J2 i y _ hi hJ2⟨qs,o7,rfl,h7,fq,eq⟩;have ql:=fq.len;have eq':∀x,bM qs x=if x∈mt.take i then some (t+1)else bM ps x:=λx=>congrFun eq x
   have hy:=mlt y (RD hi);have ts:mt.take (i+1)=mt.take i++[y]:=by rw[List.take_succ,hi];rfl
   have gn:(λx=>if x∈mt.take (i+1)then some (t+1)else bM ps x)=λx=>if x=y then some (t+1)else bM qs x:=by funext x;rw[eq' x,ts];by_cases c:x=y;{rw[if_pos (by simp[c]),if_pos c]};rw[if_neg c];by_cases c2:x∈mt.take i;{rw[if_pos (R7.mpr (.inl c2)),if_pos c2]};rw[if_neg (by simp[c,c2]),if_neg c2]
   simp![h7];refine⟨⟨rfl,by lia⟩,?_⟩;cases gy:bM qs y with
   |none=>
    rw[L8 gy];refine hJ2 _ ⟨qs++[(y,t+1)],some (.sh,iD y),rfl,rfl,⟨?_,λe he=>?_⟩,?_⟩
    .rw[RG];exact Tv.mpr ⟨fq.nd,RX.mpr ⟨Ri,Rz⟩,λa ha b hb e=>by
      obtain⟨c,hc,rfl⟩:=Q8.mp ha;rw[QS.mp hb]at e;exact q8.mp gy c hc e⟩
    .rcases R7.mp he with he|he;{exact fq.lt e he};rw[QS.mp he];exact hy
    rw[Fj gy,gn]
   |some d=>
    have hd:d=t+1:=by rw[eq' y]at gy;by_cases c:y∈mt.take i;{rw[if_pos c]at gy;exact(Option.some.inj gy).symm};rw[if_neg c,((all y).mp (RD hi)).1]at gy;cases gy
    subst hd;rw[Jf fq.nd gy];refine hJ2 _ ⟨qs,some (.sh,iD y),rfl,rfl,fq,?_⟩;rw[gn];funext x;by_cases c:x=y;{rw[if_pos c,c,gy]};rw[if_neg c]
  rintro _⟨qs,o7,rfl,h7,fq,eq⟩;rw[TQ]at eq;refine hJ _ ⟨qs,mt,_,_,o5,o6,o7,rfl,rfl,rfl,h5,h6,h7,fq,?_⟩;rw[eq];exact rd
 rintro _⟨ps,ed,o3,o4,o5,o6,o7,rfl,h3,h4,h5,h6,h7,fi,bf⟩;show B _;rw[hB];clear hB B;rfl';rw[if_pos ⟨by lia,by lia⟩];have Iq:∀x y,cQ es x y->x<m/\y<m:=λx y h=>by rcases h with h|h;{exact hlt _ h};exact(hlt _ h).symm
 have val:∀x,(bY (kI ps) (iD x)).getD (.int (-1))=sO es p x:=λx=>by
  rw[oY];unfold sO cJ;by_cases c:∃d,R (cQ es) p d x;{obtain⟨d,hd⟩:=c;rw[if_pos ⟨d,hd⟩,bf.all Iq hp (by lia) hd];rfl};rw[if_neg c];cases e:bM ps x with
  |none=>rfl
  |some d=>exact absurd ⟨d,(bf.sound x d e).1⟩ c
 refine aX rfl (sf (sO es p) rfl (λx hx I hI=>?_) ?_ (by rw[RB];lia));{rfl';refine⟨rfl,rfl,?_⟩;rfl';refine⟨false,kI ps,iD x,rfl,rfl,rfl,nH,?_⟩;rw[val x];exact hI _ rfl};rfl';exact q
end PB
namespace Dv
open PySem L2 PySem.W
noncomputable def aY (e:Int×Int):Int×Int:=(if e.2<e.1 then e.2 else e.1,if e.2>e.1 then e.2 else e.1)
noncomputable def fN (m:Int):WI->List (Int×Int)->Option (WI)
 |told,[]=>some told
 |told,e::r=>if((aY e).1<0\/m<=(aY e).2)\/e.1=e.2\/aY e∈told then none else fN m (told++[aY e]) r
noncomputable def Gz:DS:=λD E=>∃(m:Int)(ps:WI),E=[some (.sh,.int m),some (.sh,.list (ps.map pD)),none,none,none,none]/\ps.length<=300/\(fN m [] ps=none->D.xc "NoWeb" .none)/\∀qs,fN m [] ps=some qs->∀rs:WI,rs.Perm qs->rs.Pairwise mS->D.rt E (.ow false) (.list (rs.map pD))
def MN{H:Hp}{ys:List V}{ps:WI}(r:au K H ys (ps.map pD)){i:Nat}(hx:ys[i]?=some x):∃e b,ps[i]?=some e/\x=.ref b/\H b=some (.tup [.int e.1,.int e.2]):=by
 obtain⟨d,e,r'⟩:=r.Nj hx;rw[R8]at e;obtain⟨p,hp,rfl⟩:=Rt.mp e;cases r' with
 |tup b r2=>obtain⟨x,y,rfl,h2,h3⟩:=gF r2;cases h2;cases h3;exact⟨p,_,hp,rfl,b⟩
def Dl:[x.1,x.2]∈(sP ds).map (·.2)↔x∈ds.map (·.2):=by constructor;{intro h;obtain⟨q,hq,e⟩:=Q8.mp h;obtain⟨d,hd,rfl⟩:=Q8.mp hq;injection e with e1 e2;injection e2 with e2 _;exact Q8.mpr ⟨d,hd,SX e1 e2⟩};intro h;obtain⟨d,hd,rfl⟩:=Q8.mp h;exact Q8.mpr ⟨_,Q8.mpr ⟨d,hd,rfl⟩,rfl⟩
theorem D4:∀ds:List (Addr×Int×Int),(∀d∈ds,H d.1=some (.tup [.int d.2.1,.int d.2.2]))->au K H (ds.map λd=>V.ref d.1) ((ds.map (·.2)).map pD)
 |[],_=>.nil
 |d::ds,h=>.cons (.tup (h d Q6) (.cons (.int _) (.cons (.int _) .nil))) (D4 ds λd hd=>h d (QU _ hd))
end Dv
namespace PB
open PySem L2 Dv Gr
abbrev c2 (e:Nat×Nat):Int×Int:=((e.1:Int),(e.2:Int))
def fS (e:Nat×Nat):Nat×Nat:=(min e.1 e.2,max e.1 e.2)
def K8:aY (c2 e)=c2 (fS e):=by unfold aY fS c2;refine SX ?_ ?_;{show(if(e.2:Int)<(e.1:Int)then(e.2:Int)else(e.1:Int))=((min e.1 e.2:Nat):Int);split<;>lia};show(if(e.2:Int)>(e.1:Int)then(e.2:Int)else(e.1:Int))=((max e.1 e.2:Nat):Int);split<;>lia
theorem wF{m:Int}:∀{ps T qs:WI},fN m T ps=some qs->T.Nodup->qs=T++ps.map aY/\qs.Nodup/\∀e∈ps,0<=(aY e).1/\(aY e).2<m/\e.1≠e.2
 |[],T,qs,h,nd=>by rw[fN]at h;cases h;exact⟨by simp,nd,λ_ z=>nomatch z⟩
 |e::r,T,qs,h,nd=>by rw[fN]at h;split at h;{cases h};rename_i c;have c1:¬aY e∈T:=λz=>c (.inr (.inr z));obtain⟨h1,h2,h3⟩:=wF h (Tv.mpr ⟨nd,RX.mpr ⟨Ri,Rz⟩,λa ha b hb z=>c1 (by rw[<-QS.mp hb,<-z];exact ha)⟩);refine⟨by rw[h1,RY];rfl,h2,λf hf=>?_⟩;rcases QX.mp hf with rfl|hf;{refine⟨Int.not_lt.mp λz=>c (.inl (.inl z)),Int.not_le.mp λz=>c (.inl (.inr z)),λz=>c (.inr (.inl z))⟩};exact h3 f hf
def zH{m:Nat}(h:fN m [] ps=some qs):∃fs:WH,ps=fs.map c2/\qs=(fs.map fS).map c2/\(∀e∈fs,e.1<m/\e.2<m)/\Good m (fs.map fS):=by
 obtain⟨h1,h2,h3⟩:=wF h Rz;have key:∀{ps:WI},(∀e∈ps,0<=(aY e).1/\(aY e).2<m/\e.1≠e.2)->∃fs:WH,ps=fs.map c2/\∀e∈fs,e.1<m/\e.2<m/\e.1≠e.2:=by
  intro ps;induction ps with
  |nil=>exact λ_=>⟨[],rfl,λ_ z=>nomatch z⟩
  |cons e r ih=>
   intro h;obtain⟨fs,rfl,hf⟩:=ih λx hx=>h x (QU _ hx);obtain⟨a1,a2,a3⟩:=h e Q6;unfold aY at a1 a2;simp only at a1 a2;have b1:0<=e.1/\0<=e.2/\e.1<m/\e.2<m:=by split at a1<;>split at a2<;>lia
   refine⟨(e.1.toNat,e.2.toNat)::fs,?_,λx hx=>?_⟩;{rw[RE];congr 1;exact SX (by show e.1=((e.1.toNat:Nat):Int);lia) (by show e.2=((e.2.toNat:Nat):Int);lia)};rcases QX.mp hx with rfl|hx;{show e.1.toNat<m/\e.2.toNat<m/\e.1.toNat≠e.2.toNat;lia};exact hf x hx
 obtain⟨fs,rfl,hf⟩:=key h3;have eq:qs=(fs.map fS).map c2:=by rw[h1,List.nil_append,RV,RV];exact SV λe _=>K8
 refine⟨fs,rfl,eq,λe he=>⟨(hf e he).1,(hf e he).2.1⟩,⟨λe he=>?_,?_⟩⟩;{obtain⟨f,hf',rfl⟩:=Q8.mp he;have:=hf f hf';unfold fS;show min f.1 f.2<max f.1 f.2/\max f.1 f.2<m;lia};rw[eq]at h2;exact(TV.mp h2).imp λh z=>h (by rw[z])
def J1:cQ fs=cQ (fs.map fS):=by
 funext x y;refine propext ⟨λh=>?_,λh=>?_⟩
 .have key:∀a b:Nat,(a,b)∈fs->cQ (fs.map fS) a b:=λa b h=>by have this:fS (a,b)∈fs.map fS:=Q8.mpr ⟨_,h,rfl⟩;rcases Tr a b with l|l;{rw[show fS (a,b)=(a,b)from SX (Tt l) (Vm l)]at this;exact .inl this};rw[show fS (a,b)=(b,a)from SX (Tu l) (Nat.max_eq_left l)]at this;exact .inr this
  rcases h with h|h;{exact key x y h};exact(key y x h).symm
 have key:∀a b:Nat,(a,b)∈fs.map fS->cQ fs a b:=λa b h=>by obtain⟨e,he,z⟩:=Q8.mp h;unfold fS at z;have z1:=(Prod.mk.inj z).1;have z2:=(Prod.mk.inj z).2;rcases Tr e.1 e.2 with l|l;{rw[Tt l]at z1;rw[Vm l]at z2;exact .inl (by rw[<-z1,<-z2];exact he)};rw[Tu l]at z1;rw[Nat.max_eq_left l]at z2;exact .inr (by rw[<-z1,<-z2];exact he)
 rcases h with h|h;{exact key x y h};exact(key y x h).symm
def Jl(h:cQ es=cQ fs):cJ es=cJ fs:=by unfold cJ;rw[h]
inductive WR(m:Int)(ps:WI):PyData->Prop
 |no:(m<1\/60<m\/fN m [] ps=none)->WR m ps (.str "noweb")
 |apart {n x:Nat}{fs:WH}:m=n->1<=n->n<=60->ps=fs.map c2->(∀e∈fs,e.1<n/\e.2<n)->fN m [] ps=some ((fs.map fS).map c2)->x<n->cJ fs 0 x=none->(∀y,y<x->cJ fs 0 y≠none)->WR m ps (.tuple [.str "apart",iD x])
 |vd {n:Nat}{fs rs:WH}:m=n->1<=n->n<=60->ps=fs.map c2->(∀e∈fs,e.1<n/\e.2<n)->fN m [] ps=some ((fs.map fS).map c2)->(∀y,y<n->cJ fs 0 y≠none)->rs.Perm (fs.map fS)->rs.Pairwise pJ->WR m ps (wD n rs)
def L6(h:c2 a=c2 b):a=b:=SX (by have:=(Prod.mk.inj h).1;lia) (by have:=(Prod.mk.inj h).2;lia)
theorem mH:∀{fs gs:WH},fs.map c2=gs.map c2->fs=gs
 |[],[],_=>rfl
 |[],_::_,h=>by cases h
 |_::_,[],h=>by cases h
 |a::fs,b::gs,h=>by rw[RE,RE]at h;injection h with h1 h2;rw[L6 h1,mH h2]
theorem xD:∀{l k:WH},l.Perm k->l.Pairwise pJ->k.Pairwise pJ->l=k
 |[],k,p,_,_=>(List.Perm.nil_eq p)
 |a::l,[],p,_,_=>by have:=p.length_eq;simp at this
 |a::l,b::k,p,h1,h2=>by
  have ha:a∈b::k:=p.mem_iff.mp Q6;have hb:b∈a::l:=p.mem_iff.mpr Q6;have e:a=b:=by rcases QX.mp ha with z|z;{exact z};rcases QX.mp hb with y|y;{exact y.symm};have l1:=(VL.mp h2).1 a z;have l2:=(VL.mp h1).1 b y;unfold pJ at l1 l2;exact SX (by lia) (by lia)
  subst e;rw[xD (List.perm_cons a |>.mp p) (VL.mp h1).2 (VL.mp h2).2]
def WR.uniq{m:Int}(h:WR m ps d)(h':WR m ps d'):d=d':=by
 cases h with
 |no z=>
  cases h' with
  |no _=>rfl
  |apart e n1 n2 _ _ t _ _ _=>rcases z with z|z|z<;>first|lia|(rw[t]at z;cases z)
  |vd e n1 n2 _ _ t _ _ _=>rcases z with z|z|z<;>first|lia|(rw[t]at z;cases z)
 |@apart n x fs e n1 n2 pe lt t hx fx mx=>
  cases h' with
  |no z=>rcases z with z|z|z<;>first|lia|(rw[t]at z;cases z)
  |@apart n' x' fs' e' n1' n2' pe' lt' t' hx' fx' mx'=>
   have:fs=fs':=mH (pe.symm.trans pe');subst this;have:x=x':=by rcases Th x x' with c|c|c;{exact absurd fx (mx' x c)};{exact c};exact absurd fx' (mx x' c)
   rw[this]
  |@vd n' fs' rs e' n1' n2' pe' lt' t' al _ _=>have:fs=fs':=mH (pe.symm.trans pe');subst this;exact absurd fx (al x (by lia))
 |@vd n fs rs e n1 n2 pe lt t al pm so=>
  cases h' with
  |no z=>rcases z with z|z|z<;>first|lia|(rw[t]at z;cases z)
  |@apart n' x' fs' e' n1' n2' pe' lt' t' hx' fx' mx'=>have:fs=fs':=mH (pe.symm.trans pe');subst this;exact absurd fx' (al x' (by lia))
  |@vd n' fs' rs' e' n1' n2' pe' lt' t' al' pm' so'=>
   have:fs=fs':=mH (pe.symm.trans pe');subst this;have:n=n':=by lia
   subst this;rw[xD (pm.trans pm'.symm) so so']
def Lb(h:pD a=pD b):a=b:=by unfold pD at h;injection h with h;injection h with h1 h2;injection h1 with h1;injection h2 with h2 _;injection h2 with h2;exact SX h1 h2
def least{P:Nat->Prop}{x:Nat}(h:P x):∃y,y<=x/\P y/\∀z,z<y->¬P z:=by
 induction x using Nat.strongRecOn with
 |ind x ih=>by_cases c:∃z,z<x/\P z;{obtain⟨z,hz,pz⟩:=c;obtain⟨y,h1,h2,h3⟩:=ih z hz pz;exact⟨y,by lia,h2,h3⟩};exact⟨x,Q5 _,h,λz hz pz=>c ⟨z,hz,pz⟩⟩
def mP{x:Nat}:sO fs 0 x=.int (-1)↔cJ fs 0 x=none:=by
 unfold sO;cases cJ fs 0 x with
 |none=>simp
 |some d=>refine⟨λh=>?_,λh=>by cases h⟩;injection h with h;lia
noncomputable def oF:dS:=λdd Q x=>∃(m:Int)(ps:WI),dd=[.int m,.list (ps.map pD)]/\ps.length<=300/\∀d,WR m ps d->Q [] .sh d
def MI:∀dd Q x,oF dd Q x->iT Bc (cM [false,false] Q x) (ini [false,false] dd++List.replicate 5 none):=by
 rintro _ Q x⟨m,ps,rfl,hl,q⟩;unfold iT;refine fZ λB hB=>?_;rfl';split;{rename_i c;exact q _ (.no (.inl c))};split;{rename_i c;exact q _ (.no (.inr (.inl c)))};rename_i c1 c2';obtain⟨n,rfl⟩:∃n:Nat,m=n:=⟨m.toNat,by lia⟩;have n1:1<=n:=by lia
 have n2:n<=60:=by lia
 rw[hB];clear hB B;refine fZ λB hB=>?_;rfl';refine⟨by lia,?_⟩;rw[hB];clear hB B;refine fZ λB hB=>?_;rfl';refine pV (λi E=>yb λ(T:WI)(o3 o4 o5:Option (Kd×PyData))=>zV (E=[some (.sh,iD n),some (.sh,.list (ps.map pD)),some (.ow false,.list (T.map pD)),o3,o4,o5,none]) (aB o3=true) (aB o4=true) (aB o5=true) (T.length=i) (fN n [] ps=fN n T (ps.drop i))) ⟨[],none,none,none,rfl,rfl,rfl,rfl,rfl,rfl⟩ ?_ ?_
 .rintro J i e _ hi hJ⟨T,o3,o4,o5,rfl,h3,h4,h5,tl,et⟩;have li:=bH hi;have dr:ps.drop i=e::ps.drop (i+1):=by rw[List.drop_eq_getElem_cons li,(RW.mp hi).2]
  rw[dr,fN]at et;rw[show pD e=PyData.tuple [.int e.1,.int e.2]from rfl];simp![h3,h4,h5];generalize elo:(if e.2<e.1 then e.2 else e.1)=lo;generalize ehi:(if e.2>e.1 then e.2 else e.1)=hi;have en:aY e=(lo,hi):=by unfold aY;rw[elo,ehi]
  rw[en]at et;have bad:((lo<0\/(n:Int)<=hi)\/e.1=e.2\/(lo,hi)∈T)->Q [] .sh (.str "noweb"):=λz=>q _ (.no (.inr (.inr (by rw[et];exact if_pos z))));refine⟨by lia,?_⟩;split;{rename_i z;exact bad (.inr (.inl z))};rename_i z1;split;{rename_i z;exact bad (.inl (.inl z))};rename_i z2;split;{rename_i z;exact bad (.inl (.inr z))};rename_i z3;refine⟨⟨QW.mpr λa _=>rfl,rfl⟩,?_⟩;split;{rename_i z;obtain⟨f,hf,z⟩:=Q8.mp z;refine bad (.inr (.inr ?_));rw[<-Lb (a:=f) (b:=(lo,hi)) z];exact hf};rename_i z4;have z5:¬((lo<0\/(n:Int)<=hi)\/e.1=e.2\/(lo,hi)∈T):=by rintro ((z|z)|z|z);{exact z2 z};{exact z3 z};{exact z1 z};exact z4 (Q8.mpr ⟨_,z,rfl⟩)
  refine⟨by lia,hJ _ ⟨T++[(lo,hi)],some (.sh,.int e.1),some (.sh,.int e.2),some (.sh,pD (lo,hi)),?_,rfl,rfl,rfl,by rw[RC,tl];rfl,et.trans (if_neg z5)⟩⟩;rw[RG];rfl
 rintro _⟨T,o3,o4,o5,rfl,h3,h4,h5,tl,et⟩;rw[VH,fN]at et;obtain⟨fs,rfl,eT,oV,gd⟩:=zH et;have e2:(fs.map c2).map pD=fs.map bw:=by rw[RV];rfl
 have e3:T.map pD=(fs.map fS).map bw:=by rw[eT,RV];rfl
 rw[Q7]at hl;rw[e2,e3];show B _;rw[hB];clear hB B;refine fZ λB hB=>?_;rfl';refine⟨by lia,n,fs,0,rfl,n1,n2,oV,by lia,by lia,?_⟩;rfl';rw[hB];clear hB B;refine fZ λB hB=>?_;rfl';refine⟨⟨QW.mpr λa _=>by unfold sO;cases cJ fs 0 a<;>rfl,rfl⟩,?_⟩;split;{rename_i z;obtain⟨x0,hx0,z⟩:=Q8.mp z;have hx0:=RU.mp hx0;obtain⟨y,hy,py,my⟩:=least (P:=λx=>cJ fs 0 x=none) (mP.mp z);refine⟨.ow false,_,y,rfl,rfl,?_,?_,λk e hk he=>?_,?_⟩;{rw[TN];exact QW.mpr λa _=>by show dl 8 (sO fs 0 a)=true;unfold sO;cases cJ fs 0 a<;>rfl};{rw[R8,Ry (by lia)];exact congrArg some (mP.mpr py)};{rw[R8,Ry (by lia)]at he;cases he;exact λz=>my k hk (mP.mp z)};rfl';exact⟨by lia,q _ (.apart rfl n1 n2 rfl oV (by rw[et,eT]) (by lia) py my)⟩};rename_i z;rw[hB];clear hB B;rfl';refine zJ (by rw[Q7];lia) λrs pm so=>?_;rfl';exact⟨by lia,q _ (.vd rfl n1 n2 rfl oV (by rw[et,eT]) (λy hy h=>z (Q8.mpr ⟨y,RU.mpr hy,mP.mpr h⟩)) pm so)⟩
def GK (qs:WI) (a:Nat)(e:Int×Int):WI:=qs.take a++e::qs.drop a
def rG{a:Nat}(h:a<=qs.length):(GK qs a e).length=qs.length+1:=by unfold GK;rw[RC,RK,S9,Td];lia
def xY{a:Nat}(h:a<=qs.length)(h2:qs.length<=1000)(q:P ((GK qs a e).map pD) .none):j6 (qs.map pD) [iD a,pD e] P:=by refine⟨a,rfl,by rw[Q7];exact h,by rw[Q7];show qs.length<16777216;lia,?_⟩;rw[<-VG,<-List.map_drop,<-RE,<-RG];exact q
theorem yO:∀{qs:WI}{j:Nat},(qs.map pD).eraseIdx j=(qs.eraseIdx j).map pD
 |[],_=>rfl
 |r::rs,0=>rfl
 |r::rs,j+1=>by rw[RE,U0,U0,RE,yO]
def v7{qs:WI}:dl 8 (.list (qs.map pD))=true:=by show((qs.map pD).all (dl 7))=true;rw[TN];exact QW.mpr λ_ _=>rfl
noncomputable def BB:dS:=λdd Q x=>∃(l:Wa) (n:Nat)(es:WH),dd=[inD l,iD n,.tuple (es.map bw)]/\dm l/\1<=n/\n<=60/\es.length<=197/\∀(qs:WI) l',qs.length<=200->dm l'->Q [inD l'] (.ow false) (.list (qs.map pD))
def Lr:∀dd Q x,BB dd Q x->gI kP (cM [true,false,false] Q x) (ini [true,false,false] dd++List.replicate 7 none):=by
 rintro _ Q x⟨l,n,es,rfl,P,n1,n2,hl,q⟩;unfold gI;refine fZ λB hB=>?_;rfl';rw[show es.map bw=(es.map c2).map pD by rw[RV];rfl,hB];clear hB B;refine fZ λB hB=>?_;rfl';refine⟨l,4,rfl,P,by lia,by lia,λr l hr P=>?_⟩;rfl';rw[if_pos ⟨by lia,by lia⟩];refine aX rfl ?_;rw[show(es.map c2).map pD=es.map bw by rw[RV];rfl];refine jQ (λt E=>MJ λ(l:Wa)(qs:WI)(o4 o5 o6 o7 o8 o9:Option (Kd×PyData))=>Mi (E=[some (.ow true,inD l),some (.sh,iD n),some (.sh,.tuple (es.map bw)),some (.ow false,.list (qs.map pD)),o4,o5,o6,o7,o8,o9]) (aB o4=true) (aB o5=true) (aB o6=true) (aB o7=true) (aB o8=true) (aB o9=true) (dm l) (qs.length<=197+t)) ⟨l,es.map c2,none,none,none,none,none,none,by rw[show(es.map c2).map pD=es.map bw by rw[RV];rfl],rfl,rfl,rfl,rfl,rfl,rfl,P,by rw[Q7];exact hl⟩ ?_ ?_
 .clear P l;rintro J t _ ht hJ⟨l,qs,o4,o5,o6,o7,o8,o9,rfl,h4,h5,h6,h7,h8,h9,P,ql⟩;have p60:uf 10 60:=⟨by decide,by decide,by decide⟩;simp![h4];refine⟨l,7,rfl,P,by lia,by lia,λw l hw P=>?_⟩;simp![h5];refine⟨l,qs.length+1,rfl,P,by lia,by lia,λpg l hat P=>?_⟩;simp![h6];refine⟨p60,l,10^60,rfl,P,by lia,by lia,λr1 l hr1 P=>?_⟩;rfl';refine⟨p60,l,10^60,rfl,P,by lia,by lia,λr2 l hr2 P=>?_⟩;rfl';refine⟨by lia,l,4,rfl,P,by lia,by lia,λr3 l hr3 P=>?_⟩;simp![jB,h7];obtain⟨od,e⟩:∃od:Int,([PyData.int (-1),iD n,.int ((n:Int)+1+(r1:Int)),.int (-1-(r2:Int))]:WN)[r3]?=some (.int od):=by rcases r3 with _|_|_|_|r3;{exact⟨_,rfl⟩};{exact⟨_,rfl⟩};{exact⟨_,rfl⟩};{exact⟨_,rfl⟩};lia
  refine aX e ?_;clear e;refine ee (λE=>yb λ(l:Wa)(qs:WI)(o8 o9:Option (Kd×PyData))=>oM (E=[some (.ow true,inD l),some (.sh,iD n),some (.sh,.tuple (es.map bw)),some (.ow false,.list (qs.map pD)),some (.sh,iD t),some (.sh,iD w),some (.sh,iD pg),some (.sh,.int od),o8,o9]) (aB o8=true) (aB o9=true) (dm l) (pg<=qs.length) ((w<=0->qs.length<=197+t+1)) ((0<w->qs.length<=197+t))) (λJ hJ=>?_) λB hB=>?_
  .rfl';split
   .rename_i hw0;refine⟨by lia,by lia,by lia,l,2,rfl,P,by lia,by lia,λr4 l hr4 P=>?_⟩;simp![jB];obtain⟨e,he⟩:∃e:Int×Int,([PyData.tuple [.int od,.int 0],.tuple [.int 0,.int od]]:WN)[r4]?=some (pD e):=by rcases r4 with _|_|r4;{exact⟨(od,0),rfl⟩};{exact⟨(0,od),rfl⟩};lia
    refine aX he (xY (by lia) (by lia) ?_);have il:=rG (e:=e) (show pg<=qs.length by lia);exact hJ _ ⟨l,_,o8,o9,rfl,h8,h9,P,by lia,λ_=>by lia,λ_=>by lia⟩
   exact hJ _ ⟨l,qs,o8,o9,rfl,h8,h9,P,by lia,λ_=>by lia,λ_=>by lia⟩
  clear P h8 h9 o8 o9 ql hat qs l;rintro _⟨l,qs,o8,o9,rfl,h8,h9,P,hat,q1,q2⟩;rw[hB];clear hB B;refine ee (λE=>yb λ(l:Wa)(qs:WI)(o8 o9:Option (Kd×PyData))=>oM (E=[some (.ow true,inD l),some (.sh,iD n),some (.sh,.tuple (es.map bw)),some (.ow false,.list (qs.map pD)),some (.sh,iD t),some (.sh,iD w),some (.sh,iD pg),some (.sh,.int od),o8,o9]) (aB o8=true) (aB o9=true) (dm l) (pg<=qs.length) ((w<=1->qs.length<=197+t+1)) ((1<w->qs.length<=197+t))) (λJ hJ=>?_) λB hB=>?_;{rfl';split;{rename_i hw1;refine⟨l,n,rfl,P,by lia,by lia,λr4 l hr4 P=>?_⟩;simp![h8];refine⟨by lia,xY (e:=((r4:Int),(r4:Int))) hat (by lia) ?_⟩;have il:=rG (e:=((r4:Int),(r4:Int))) hat;exact hJ _ ⟨l,_,some (.sh,iD r4),o9,rfl,rfl,h9,P,by lia,λ_=>by lia,λ_=>by lia⟩};exact hJ _ ⟨l,qs,o8,o9,rfl,h8,h9,P,hat,λ_=>by lia,λ_=>by lia⟩};clear P h8 h9 o8 o9 q1 q2 hat qs l;rintro _⟨l,qs,o8,o9,rfl,h8,h9,P,hat,q1,q2⟩;rw[hB];clear hB B;refine ee (λE=>yb λ(l:Wa)(qs:WI)(o8 o9:Option (Kd×PyData))=>oM (E=[some (.ow true,inD l),some (.sh,iD n),some (.sh,.tuple (es.map bw)),some (.ow false,.list (qs.map pD)),some (.sh,iD t),some (.sh,iD w),some (.sh,iD pg),some (.sh,.int od),o8,o9]) (aB o8=true) (aB o9=true) (dm l) (pg<=qs.length) ((w<=2->qs.length<=197+t+1)) ((2<w->qs.length<=197+t))) (λJ hJ=>?_) λB hB=>?_
  .rfl';have skip:J _:=hJ _ ⟨l,qs,o8,o9,rfl,h8,h9,P,hat,λ_=>by lia,λ_=>by lia⟩;split
   .rename_i hw2;refine⟨by lia,⟨v7,rfl⟩,?_⟩;split
    .rename_i hne;have ql:0<qs.length:=by rcases qs with _|⟨a,r⟩;{exact absurd rfl hne};simp
     refine⟨l,qs.length,rfl,P,ql,by lia,λr4 l hr4 P=>?_⟩;simp![jB];refine aX (by rw[R8,RI hr4];rfl) ?_;generalize qs[r4]=e;rw[show pD e=PyData.tuple [.int e.1,.int e.2]from rfl];simp![h9];refine⟨by lia,by lia,l,2,rfl,P,by lia,by lia,λr5 l hr5 P=>?_⟩;simp![jB];obtain⟨f,hf⟩:∃f:Int×Int,([PyData.tuple [.int e.1,.int e.2],.tuple [.int e.2,.int e.1]]:WN)[r5]?=some (pD f):=by rcases r5 with _|_|r5;{exact⟨(e.1,e.2),rfl⟩};{exact⟨(e.2,e.1),rfl⟩};lia
     refine aX hf (xY hat (by lia) ?_);have il:=rG (e:=f) hat;exact hJ _ ⟨l,_,o8,some (.sh,pD e),rfl,h8,rfl,P,by lia,λ_=>by lia,λ_=>by lia⟩
    exact skip
   exact skip
  clear P h8 h9 o8 o9 q1 q2 hat qs l;rintro _⟨l,qs,o8,o9,rfl,h8,h9,P,hat,q1,q2⟩;rw[hB];clear hB B;rfl';have skip:J _:=hJ _ ⟨l,qs,some (.sh,iD t),some (.sh,iD w),some (.sh,iD pg),some (.sh,.int od),o8,o9,rfl,rfl,rfl,rfl,rfl,h8,h9,P,by lia⟩;split
  .rename_i hw3;refine⟨by lia,⟨v7,rfl⟩,?_⟩;split
   .rename_i hne;have ql:0<qs.length:=by rcases qs with _|⟨a,r⟩;{exact absurd rfl hne};simp
    refine⟨l,qs.length,rfl,P,ql,by lia,λr4 l hr4 P=>?_⟩;rfl';refine⟨⟨by lia,by lia⟩,r4,pD qs[r4],AQ hr4,by rw[R8,RI hr4];rfl,?_⟩;rw[yO];have:=List.length_eraseIdx_le qs r4;exact hJ _ ⟨l,qs.eraseIdx r4,some (.sh,iD t),some (.sh,iD w),some (.sh,iD pg),some (.sh,.int od),o8,o9,rfl,rfl,rfl,rfl,rfl,h8,h9,P,by lia⟩
   exact skip
  exact skip
 rintro _⟨l,qs,o4,o5,o6,o7,o8,o9,rfl,h4,h5,h6,h7,h8,h9,P,ql⟩;show B _;rw[hB];clear hB B;rfl';exact q qs l (by lia) P
def N1{m:Int}(h:WR m ps d):dl 8 d=true/\((∃s,d=.str s)\/∃l,d=.tuple l):=by
 cases h with
 |no _=>exact⟨by decide+kernel,.inl ⟨_,rfl⟩⟩
 |@apart n x fs _ _ _ _ _ _ _ _ _=>refine⟨?_,.inr ⟨_,rfl⟩⟩;show([PyData.str "apart",iD x].all (dl 7))=true;rw[QY,QY,List.all_nil];show(PyData.strOk "apart" && (true&&true))=true;decide+kernel
 |@vd n fs rs _ _ _ _ _ _ _ _ _=>
  refine⟨?_,.inr ⟨_,rfl⟩⟩;show([iD n,PyData.tuple (rs.map bw)].all (dl 7))=true;rw[QY,QY,List.all_nil];have:dl 7 (.tuple (rs.map bw))=true:=by show((rs.map bw).all (dl 6))=true;rw[TN];exact QW.mpr λ_ _=>rfl
  rw[this];rfl
def Ie{m:Int}(h:WR m ps d):lf d=true:=by
 cases h with
 |no _=>rfl
 |apart _ _ _ _ _ _ _ _ _=>rfl
 |@vd n fs rs _ _ _ _ _ _ _ _ _=>
  show lf.lfs [iD n,PyData.tuple (rs.map bw)]=true;rw[mw,QY,QY,List.all_nil];have:lf (.tuple (rs.map bw))=true:=by show lf.lfs (rs.map bw)=true;rw[mw,TN];exact QW.mpr λ_ _=>rfl
  rw[this];rfl
def NY{m:Int}(h:WR m ps d)(h':WR m ps d')(q:P .sh (.bool false)):pH [d,d'] P:=by cases h.uniq h';obtain⟨h1,h2⟩:=N1 h;rcases h2 with⟨s,rfl⟩|⟨l,rfl⟩;{show P .sh (.bool !(decide (s=s)));rw[Rg rfl];exact q};show _/\P .sh (.bool !(decide (PyData.tuple l=PyData.tuple l)));rw[Rg rfl];exact⟨⟨h1,h1⟩,q⟩
def JU:∀dd Q x,uL dd Q x->ny Bu Hl HJ BB kP oF oF (cM [false] Q x) (ini [false] dd++List.replicate 7 none):=by
 rintro _ Q x⟨ns,rfl,hn,q⟩;unfold ny;refine fZ λB hB=>?_;rfl';refine⟨ns,8,rfl,by lia,by lia,hn,λcs hcs=>?_⟩;simp![nA];refine pV (λi E=>Mw λ(o1 o2 o3 o4 o5 o6 o7:Option (Kd×PyData))=>EG (E=[some (.sh,inD ns),o1,o2,o3,o4,o5,o6,o7]) (aB o1=true) (aB o2=true) (aB o3=true) (aB o4=true) (aB o5=true) (aB o6=true) (aB o7=true)) ⟨none,none,none,none,none,none,none,rfl,rfl,rfl,rfl,rfl,rfl,rfl,rfl⟩ ?_ ?_
 .rintro J i⟨c,k⟩_ hi hJ⟨o1,o2,o3,o4,o5,o6,o7,rfl,h1,h2,h3,h4,h5,h6,h7⟩;have p60:uf 10 60:=⟨by decide,by decide,by decide⟩;have hk:k<=63:=by
   have:=bH hi;rw[List.length_zipIdx]at this;have e:=List.getElem?_zipIdx (l:=cs) (i:=0) (j:=i);rw[hi]at e;cases z:cs[i]? with
   |none=>rw[z]at e;cases e
   |some y=>rw[z]at e;have:=(Prod.mk.inj (Option.some.inj e)).2;lia
  simp![h1,h2];refine⟨c,k,rfl,by lia,λl P=>?_⟩;simp![h3];refine⟨l,12,rfl,P,by lia,by lia,λm es l W so few P=>?_⟩;simp![h4,h5];refine⟨l,m,es.take 197,?_,P,W.pos,W.le,by rw[S9];lia,λqs l ql P=>?_⟩;{rw[show(197:Int)=((197:Nat):Int)from rfl,mj]};simp![h6];refine ee (λE=>vf λ(l:Wa) (n:Int)=>Ll (dm l) (E=[some (.sh,inD ns),some (.sh,iD k),some (.sh,PyData.int c),some (.ow false,inD l),some (.sh,wD m es),some (.sh,.int n),some (.ow false,.list (qs.map pD)),o7])) (λJ2 hJ2=>?_) λB2 hB2=>?_
  .rfl';refine⟨l,8,rfl,P,by lia,by lia,λr l hr P=>?_⟩;rfl';split
   .refine⟨p60,l,10^60,rfl,P,by lia,by lia,λr1 l hr1 P=>?_⟩;rfl';refine⟨p60,l,10^60,rfl,P,by lia,by lia,λr2 l hr2 P=>?_⟩;rfl';refine⟨by lia,l,4,rfl,P,by lia,by lia,λr3 l hr3 P=>?_⟩;simp![jB];obtain⟨od,e⟩:∃od:Int,([PyData.int 0,PyData.int 61,.int (-1-(r1:Int)),.int (61+(r2:Int))]:WN)[r3]?=some (.int od):=by rcases r3 with _|_|_|_|r3;{exact⟨_,rfl⟩};{exact⟨_,rfl⟩};{exact⟨_,rfl⟩};{exact⟨_,rfl⟩};lia
    refine aX e ?_;exact hJ2 _ ⟨l,od,P,rfl⟩
   exact hJ2 _ ⟨l,m,P,rfl⟩
  rintro _⟨l,n,P,rfl⟩;rw[hB2];simp![h7];have al:(qs.all λa=>lf (pD a))=true:=QW.mpr λ_ _=>rfl;rw[if_pos al];simp![h7];refine⟨n,qs,rfl,by lia,λd hd=>?_⟩;simp![h7];rw[Ie hd,Bool.and_true,if_pos rfl];simp![h7];refine⟨n,qs,rfl,by lia,λd' hd'=>?_⟩;simp![h7,Ie hd'];refine NY hd hd' ?_;simp![h7];exact⟨⟨v7,v7⟩,hJ _ ⟨_,_,_,_,_,_,_,rfl,rfl,rfl,rfl,rfl,rfl,rfl,rfl⟩⟩
 rintro _⟨o1,o2,o3,o4,o5,o6,o7,rfl,_⟩;show B _;rw[hB];rfl';exact q
end PB
namespace L2
open PySem PySem.Spec PyProof.Rows PySem.W Builtin Builtin.ObjectAttr
noncomputable def jw (a C:Addr)(dd:WO):Heap->Prop:=λh=>∃(t0:Addr)(v2 v3 v4 v5:Value)(sl:Vz),h.get? a=some ⟨.ref C,dd,.fields #[.ref t0,.none,v2,v3,v4,v5],sl⟩
def wk{a C:Addr}(x:jw a C dd h):bT P w H h a (.ext (jw a C dd)):=by obtain⟨t0,v2,v3,v4,v5,sl,e⟩:=id x;exact⟨x,⟨_,e⟩,λh1 h2 ⟨t0,v2,v3,v4,v5,sl,e⟩ k=>⟨t0,v2,v3,v4,v5,sl,k _ e⟩⟩
def Inv.NF{a C:Addr}(I:Inv X pins U H s)(e:H a=some (.ext (jw a C dd))):jw a C dd s.heap:=(I.hok a _ e).1
section
variable{X:Cx}{x:Str}{p pos:Pos}{e:Expr}{es:WX}{t:TA}{C:Addr}
variable{CX:kO}{k:Nat}{f:Addr}{fd:FuncData}{ps:Wb}{sp:Sp}{E:XK}
noncomputable def MT (C:Addr)(sp:Sp)(E:XK)(t:TA):TE:=λU H Q=>t U H λvs H1=>vs.length<=sizeLine/\∀a,H1 a=none->sp (.ref a::vs) (upd H1 a (.ext (jw a C none))) (λv H2=>v=.aK/\Q (.ref a) H2) E
def GP(hc:dN X.K C g8 "ValueError.__new__" (some (.ref f))=true)(hf:typeIn X.K (.ref f)=some (.type "function"))(F:dX X.prog X.w X.K X.mg X.base CX k f fd ps sp)(hr:cC (k+1) X.A)(hb:Binds X.K fd ps [])(hx:Passes CX X E)(hg:Gl X x)(hm:X.mg x=some (.ref C))(hk:keepIn X.K (.ref C)=true)(ha:PA X (e::es) t)(hdb:(x==("__debug__":Str))=false:=by decide)(he:starEach (e::es) X.env=(false,eval e X.env)::starEach es X.env:=by rfl)(hpl:(backTo pos (starEach es X.env)).any (·.1)=false:=by rfl) : PE X (.Call (.Name x p) (e::es) [] pos) (MT C sp E t):=by
 intro pins s U H Q I h;refine Tw (iR I hg hm ?_ hdb);refine callWith_K (h₀:=X.base) I.ok.mod.vE hk (aH (ha pos pins s U H _ I h) λus s1 ⟨vs,H1,I1,r,hz,q⟩=>⟨I1.fT,?_⟩) he hpl;obtain⟨bm,N,nm,qn,bs,hd,sn,sub,ab,col,dd,k0,k1,k2,k3,k5,mN,hC,hN,hni,T⟩:=(pX I1.fT hc).obj;have X1:=I1.fT;obtain⟨hp,g,dr,tk,os⟩:=s1;have kp:∀b o,hp.get? b=some o->((hp.push (bZ us)).push (nL C hp.objs.size)).get? b=some o:=λb o e=>QZ _ (QZ _ e);have hget:((hp.push (bZ us)).push (nL C hp.objs.size)).get? (hp.objs.size+1)=some (nL C hp.objs.size):=by heap_get
 have new:hp.get? (hp.objs.size+1)=none:=UD (U1 _);have I2:=I1.vX (a:=hp.objs.size+1) (o:=.ext (jw (hp.objs.size+1) C none)) (t':=tk) kp new (wk ⟨_,_,_,_,_,_,hget⟩);have q2:=q _ (I1.g9 new);have r2:Vals (V.ref (hp.objs.size+1)::vs) (Value.ref (hp.objs.size+1)::us):=.cons rfl r;have hl:(Value.ref (hp.objs.size+1)::us).length=ps.length:=by have e:=r2.length;rw[F.len _ _ _ _ q2]at e;exact e.symm
 show wpAny (model X.prog X.w) X.A (call (Value.ref C) us) _ _ _;refine Sj (vS (fI:=f) Va T hC hN hni (λself=>bind_fn X1 self hf) ?_ (by show us.length<=sizeLine;rw[<-r.length];exact hz));refine Sk (F.run _ X.stack _ _ ⟨Value.ref (hp.objs.size+1)::us,[]⟩ (Value.ref (hp.objs.size+1)::us) _ _ E (hr.make C us []) (I2.Ge.make C us []) ?_ r2 q2) λr s' hq'=>?_;{have:=hb _ (Value.ref (hp.objs.size+1)::us) I2.fT (by rw[S8];exact hl);rw[S8]at this;exact this};cases r with
 |error e=>exact hx pins U _ _ e s' I2 hq'
 |ok fl=>
  cases fl with
  |ret u=>obtain⟨v,H',I3,rv,ev,q3⟩:=I2.after hq';subst ev;exact⟨rv,⟨V.ref (hp.objs.size+1),H',I3,rfl,q3⟩⟩
  |next=>exact False.elim hq'
  |brk=>exact False.elim hq'
  |cont=>exact False.elim hq'
end
section
variable{X:Cx}{pins:WD}{U:St}{H:Hp}{s:Shared}{a C:Addr}
def Inv.Pu{tk':Nat}{d:Addr}{t0:Addr}(I:Inv X pins U H s)(ea:H a=some (.ext (jw a C none)))(hfd:H d=none)(ned:d≠a)(keep:∀b o,b≠a->s.heap.get? b=some o->h'.get? b=some o)(hx':h'.get? a=some ⟨.ref C,some d,.fields #[.ref t0,.none,v2,v3,v4,v5],sl⟩)(hns:h'.Ns1 d (λy=>if y=f then some u else none))(ry:RelV y u)(hd:s.heap.objs.size<=d:=by exact Q5 _):Inv X pins U (upd (upd H d (.xd [(f,y)])) a (.ext (jw a C (some d)))) { s with heap:=h',toks:=tk' }:=by
 have neD:∀b o,s.heap.get? b=some o->b≠d:=λb o e=>RH (RL (QT e) hd);have neT:∀b o,H b=some o->b≠d:=λb o e z=>by rw[z,hfd]at e;cases e
 have neA:∀b o,H b=some o->o≠.ext (jw a C none)->b≠a:=λb o e n z=>by rw[z,ea]at e;exact n (Option.some.inj e).symm
 refine I.un ⟨λb o e n _ _=>keep b o (λz=>by rw[z,ea]at n;cases n) e,λb o e n _ _=>⟨o.slots,keep b o (λz=>by rw[z,ea]at n;cases n) e⟩,λb o e n _=>?_,λb o e _=>?_,λb xs e=>?_,λb o v e=>?_,λb ps e=>?_⟩ λb o e=>?_;{rw[ah (λz=>by rw[z,ea]at n;cases n),ah (neD b o e)];exact n};{by_cases z:b=a;{exact⟨_,by rw[z];exact hx'⟩};exact⟨o,keep b o z e⟩};{rw[ah (neA b _ e (by intro z;cases z)),ah (neT b _ e)];exact e};{rw[ah (neA b _ e (by intro z;cases z)),ah (neT b _ e)];exact e};{exact⟨#[],by rw[ah (neA b _ e (by intro z;cases z)),ah (neT b _ e),e];simp⟩};by_cases ba:b=a;{subst ba;rw[ao]at e;cases e;exact wk ⟨_,_,_,_,_,_,hx'⟩};rw[ah ba]at e;by_cases bd:b=d;{subst bd;rw[ao]at e;cases e;refine⟨_,hns,λn=>?_⟩;rw[Rn];by_cases z:n=f;{subst z;rw[Uv,if_pos rfl];exact ry};rw[if_neg z,beq_eq_false_iff_ne.mpr z];trivial};rw[ah bd]at e;refine(I.hok b o e).stay (λc v hc q=>keep c v (λz=>?_) q) (λc q=>?_) λc xs q=>?_;{rcases hc with hc|hc;{exact ba (hc▸z)};rw[z,ea]at hc;cases hc};{rw[ah (neA c _ q (by intro z;cases z)),ah (neT c _ q)];exact q};rw[ah (neA c _ q (by intro z;cases z)),ah (neT c _ q)];exact q
variable{o e value:Expr}{f y:Str}{pos pos' yp apos:Pos}{ta tv:TE}{es:WX}{t:TA}
noncomputable def Mk (K:Frag)(ta tv:TE) (f:Str):TS:=λD U H=>tv U H λy H1=>ta U H1 λx H2=>∃a C,x=.ref a/\H2 a=some (.ext (jw a C none))/\fY K C/\takerIn K C f=some none /\
 ∀d,H2 d=none->d≠a->D.nx U (upd (upd H2 d (.xd [(f,y)])) a (.ext (jw a C (some d))))
def GR(ha:PE X o ta)(hv:PE X value tv)(hs:swapsWith value (some (.Attribute o f pos')) pos.line X.env=pure false):PS X (.Assign [.Attribute o f pos'] value pos) (Mk X.K ta tv f):=by
 intro pins s U H D I h;refine plainObj_wpAny_Assign_Attribute (aH (hv pins s U H _ I h) λu s1 ⟨y,H1,I1,ry,q⟩=>aH (ha pins s1 U H1 _ I1 q) λov s2 ⟨x,H2,I2,rx,a,C,ex,ea,F,tk,q2⟩=>?_) hs
 subst ex;obtain rfl:ov=Value.ref a:=rx;obtain⟨t0,v2,v3,v4,v5,sl,hx⟩:=I2.NF ea;refine EE I2.fT F tk hx λh' tk' keep hx' hns=>?_
 have lt:a<s2.heap.objs.size:=QT hx;have ned:s2.heap.objs.size≠a:=Ne.symm (RH lt);have hfd:H2 s2.heap.objs.size=none:=I2.hok.fresh (Q5 _);refine⟨U,_,?_,q2 s2.heap.objs.size hfd ned⟩
 -- the dict,then the exception
 refine(Inv.Pu I2 ea hfd ned keep hx' hns ry)
inductive qg(K:Frag)(Q:VK)(vs:List V)(H1:Hp):Prop
 |mk:∀a C r rest,(vs=.ref a::rest)->(rest.length<=sizeLine)->(H1 a=some (.ext (jw a C none)))->(dN K C g8 "ValueError.__new__" r=true)->(Q .aK H1)->qg K Q vs H1
def Bt (K:Frag)(t:TA):TE:=λU H Q=>t U H λvs H1=>qg K Q vs H1
def yS{CH:Addr}(hg:Gl X y)(hm:X.mg y=some (.ref CH))(hs:specialIn X.K (.ref CH) "__getattribute__"=some (some (.builtin "type.__getattribute__")))(hr:readsIn X.K CH (.type "type")=true)(hf:findCls X.K (.ref CH) (.type "type") "__init__"=some (.val (.builtin "ValueError.__init__")))(ha:PA X (e::es) t)(hdb:(y==("__debug__":Str))=false:=by decide)(he:starEach (e::es) X.env=(false,eval e X.env)::starEach es X.env:=by rfl)(hpl:(backTo pos (starEach es X.env)).any (·.1)=false:=by rfl)
  (ht:eval (.Call (.Attribute (.Name y yp) "__init__" apos) (e::es) [] pos) X.env=(do
   let ov <-eval (.Name y yp) X.env
   standAt apos.atName
   let (f,first) <-holding [ov] (getMethod ov "__init__" pl)
   callWith pos f first (backTo pos (starEach (e::es) X.env)) (backToKw pos (keywordEach [] X.env))):=by rfl) :
  PE X (.Call (.Attribute (.Name y yp) "__init__" apos) (e::es) [] pos) (Bt X.K t):=by
 intro pins s U H Q I h;refine methodCall_KW (pl:=pl) (iR I hg hm ?_ hdb) ht;refine method_cls I.fT hs (cls_value I.fT hr hf rfl ?_);have I1:=I.tok (s.toks+1);refine Vu (aH (ha pos pins _ U H _ I1 h) λus s1 ⟨vs,H1,I1,r1,q1⟩=>?_) he hpl
 obtain⟨a,C,r,rest,rfl,hz,ea,hc,q⟩:=q1;obtain⟨us',rfl,rr⟩:∃us',us=Value.ref a::us'/\Vals rest us':=by
  cases r1 with
  |cons ru rr=>cases ru;exact⟨_,rfl,rr⟩
 .obtain⟨t0,v2,v3,v4,v5,sl,hx⟩:=I1.NF ea;have lt:=QT hx;obtain⟨hp,g,dr,tk,os⟩:=s1;refine vP (pX I1.fT hc) hx ?_ (by rw[<-rr.length];exact hz)
  have I2:Inv X pins U H1 ⟨hp.push (bZ us'),g,dr,tk,os⟩:=I1.kept (t':=tk) λb o e=>QZ _ e
  have hx2:(hp.push (bZ us')).get? a=some ⟨.ref C,none,.fields #[.ref t0,.none,v2,v3,v4,v5],sl⟩:=QZ _ hx;have eH:upd H1 a (.ext (jw a C none))=H1:=by
   funext b;unfold upd
   by_cases z:b=a
   .rw[if_pos z,z,ea]
   .rw[if_neg z]
  have hx3:=SJ (h:=hp.push (bZ us')) (a:=a) (Obj.mapFields (·.setIfInBounds 0 (.ref hp.objs.size))) hx2 rfl;have I3:=I2.write (x:=a) (e:=a) (o:=.ext (jw a C none)) (t':=tk) (h':=(hp.push (bZ us')).update a (Obj.mapFields (·.setIfInBounds 0 (.ref hp.objs.size)))) (by rw[ea];trivial) (.inl rfl)
   (λb u hb e=>(Vb _ _ _ _ hb).trans e) ⟨_,hx3⟩ (wk ⟨_,_,_,_,_,_,hx3⟩)
  rw[eH]at I3;exact⟨.aK,H1,I3,rfl,q⟩
end
section
variable{M:Model}{A:Around}{E:WA}{env:Env}
def mX(hh:A.handled=none)(h:wpAny M A x (λv s₁=>∃C nm q N bs bm hdct sn sub ab col dd k0 k1 k2 k3 k5 newId,bm.contains (.type "BaseException")=true/\∃e t v2 v3 v4 v5 dx sl,v=.ref e/\s₁.heap.get? C=some (excClassObj nm q C N bs bm hdct sn sub ab col dd k0 k1 k2 k3 k5 newId)/\s₁.heap.get? e=some ⟨.ref C,dx,.fields #[.ref t,.none,v2,v3,v4,v5],sl⟩/\E (.ref e) s₁) E s) : wpAny M A (raiseStmt env (some x) none) Q E s:=by
 unfold raiseStmt;refine Q0 (Ra h (λv s₁ h₁=>?_) λ_ _ x=>x);obtain⟨C,nm,q,N,bs,bm,hdct,sn,sub,ab,col,dd,k0,k1,k2,k3,k5,newId,hbase,e,t,v2,v3,v4,v5,dx,sl,rfl,cl,ob,hE⟩:=h₁;have bas:(Value.ref C::bm).contains (.type "BaseException")=true:=by rw[Ug,hbase,Bool.or_true]
 obtain⟨hp,g,d,tk,os⟩:=s₁;repeat (first|with_reducible refine UM ob ?_|with_reducible refine UM cl ?_|(with_reducible refine wpAny_isSubtype_exc cl ?_;rw[bas])|wp_step)
 exact wpAny_raiseNew_none hh hE
def EJ(hh:A.handled=none)(h:wpAny M A (eval x env) (λv s₁=>∃C nm q N bs bm hdct sn sub ab col dd k0 k1 k2 k3 k5 newId,bm.contains (.type "BaseException")=true/\∃e t v2 v3 v4 v5 dx sl,v=.ref e/\s₁.heap.get? C=some (excClassObj nm q C N bs bm hdct sn sub ab col dd k0 k1 k2 k3 k5 newId)/\s₁.heap.get? e=some ⟨.ref C,dx,.fields #[.ref t,.none,v2,v3,v4,v5],sl⟩/\E (.ref e) s₁) E s) : wpAny M A (exec (.Raise (some x) none pos) env) Q E s:=by
 rw[arm_exec_Raise];first
  |exact Q0 (Sh (mX hh (Q0 (Ra h (λv s₁ h₁=>Q0 (Sh (Q2 h₁))) λ_ _ x=>x))))
  | (simp only[evalOpt,Option.map];exact Q0 (Sh (mX hh (Q0 (Ra h (λv s₁ h₁=>Q0 (Sh (Q2 h₁))) λ_ _ x=>x)))))
  | (show wpAny M A (do standAt pos;raiseStmt env (some (do let v <-eval x env;standAt pos;pure v)) none) Q E s;exact Q0 (Sh (mX hh (Q0 (Ra h (λv s₁ h₁=>Q0 (Sh (Q2 h₁))) λ_ _ x=>x)))))
end
section
variable{P:Program}{w:World}{K:Frag}{mg:WC}{base:Heap}{N:Wb}{qual:Str}{scope:Scope}{f:Addr}{cd:Value}{A:Around}{outer:List Env}{s0:Shared}{H0:Hp}{E:XK}
noncomputable def Jh (K:Frag)(H0:Hp)(E:XK)(t:TE):TS:=λ_ U H=>t U H λv H1=>∃a C dd r,v=.ref a/\H0 a=none/\H1 a=some (.ext (jw a C dd))/\dN K C g8 "ValueError.__new__" r=true/\E (.ref C) (some a) (upd H1 a (.ext (dZ a C dd)))
def CQ(he:PE (c8 (cH P w) P w K mg base N qual scope f cd A outer s0 H0 E) e t) : PS (c8 (cH P w) P w K mg base N qual scope f cd A outer s0 H0 E) (.Raise (some e) none pos) (Jh K H0 E t):=by
 intro pins s U H D I h;refine EJ (I.ok.hd rfl) (aH (he pins s U H _ I h) λu s1 ⟨v,H1,I1,rv,a,C,dd,r,ev,na,ea,hc,q⟩=>?_);subst ev;cases rv;obtain⟨bm,N0,nm,qn,bs,hd,sn,sub,ab,col,dd',k0,k1,k2,k3,k5,mN,hC,hN,hni,T⟩:=(pX I1.fT hc).obj;obtain⟨t0,v2,v3,v4,v5,sl,hx⟩:=I1.NF ea;have n0:s0.heap.get? a=none:=by
  cases c:s0.heap.get? a with
  |none=>rfl
  |some o=>have:=I1.base.free a o c na (by show a∉([]:WU);simp);rw[ea]at this;cases this
 have I2:=I1.write (x:=a) (e:=a) (o:=.ext (dZ a C dd)) (t':=s1.toks) (h':=s1.heap) (by rw[ea];trivial) (.inl rfl) (λb u _ e=>e) ⟨_,hx⟩ (ye ⟨_,_,_,_,_,_,_,hx⟩);exact⟨C,nm,qn,N0,bs,bm,hd,sn,sub,ab,col,dd',k0,k1,k2,k3,k5,_,T.hasType (by decide),a,t0,v2,v3,v4,v5,dd,sl,rfl,hC,hx,D0 I2 ao hx n0 q⟩
end
end L2
namespace Dv
open PySem L2 PySem.W
noncomputable def Bv (K:Frag)(st:Stmt):Prop:=∃(CH CA fA:Addr)(fd:FuncData),nsIn K mainGlobals "HailError"=some (some (.ref CH))/\nsIn K mainGlobals "Apart"=some (some (.ref CA))/\lU K "__init__" "Apart.__init__" st fA fd /\
 specialIn K (.ref CH) "__getattribute__"=some (some (.builtin "type.__getattribute__"))/\readsIn K CH (.type "type")=true/\findCls K (.ref CH) (.type "type") "__init__"=some (.val (.builtin "ValueError.__init__")) /\
 dN K CA g8 "ValueError.__new__" (some (.ref fA))=true/\typeIn K (.ref fA)=some (.type "function")/\keepIn K (.ref CA)=true/\takerIn K CA "place"=some none/\findIn K (.ref CA) "place"=some none
def N6{K:Frag}{st:Stmt}{CH CA fA:Addr}{oc:Value}{od an:WO}{osl:Vz}{kV doc pm cdv ct:Value}(n1:nsIn K mainGlobals "HailError"=some (some (.ref CH)))(n2:nsIn K mainGlobals "Apart"=some (some (.ref CA)))(_:findIn K (.ref CA) "__init__"=some (some (.ref fA)))(l:K.lookup fA=some ⟨oc,od,.func (fnOf "__init__" "Apart.__init__" (jc st) (eK st) (av st) .none kV doc pm an cdv ct),osl⟩)(c:codeIn K cdv "Apart.__init__"=true)(k:keepIn K (.ref fA)=true)(h1:specialIn K (.ref CH) "__getattribute__"=some (some (.builtin "type.__getattribute__")))(h2:readsIn K CH (.type "type")=true)(h3:findCls K (.ref CH) (.type "type") "__init__"=some (.val (.builtin "ValueError.__init__")))(h4:dN K CA g8 "ValueError.__new__" (some (.ref fA))=true)(h5:typeIn K (.ref fA)=some (.type "function"))(h6:keepIn K (.ref CA)=true)(h7:takerIn K CA "place"=some none)(h8:findIn K (.ref CA) "place"=some none):Bv K st:=
 ⟨CH,CA,fA,_,n1,n2,CT l c k,h1,h2,h3,h4,h5,h6,h7,h8⟩
inductive HY(C:Addr)(vs:List V)(H:Hp)(Q:VK):Prop
 |mk:∀(a:Addr) (n:Int),(vs=[.ref a,.int n])->((0<=n/\n<60))->(H a=some (.ext (jw a C none)))->(∀d,H d=none->d≠a->Q .aK (upd (upd H d (.xd [("place",.int n)])) a (.ext (jw a C (some d)))))->HY C vs H Q
def Nm (C:Addr):Sp:=λvs H Q _E3=>HY C vs H Q
def OA:∀n:Nat,n<60->(toString ((n:Nat):Int):Str).length<=2:=by decide+kernel
def Od:∀n:Nat,n<60->((n:Nat):Int).natAbs.log2<1920:=by decide+kernel
def Mq{n:Int}(hx:x.length<=1000)(h:0<=n/\n<60):(x++(toString n:Str)).length<=sizeLine:=by obtain⟨k,rfl⟩:=Int.eq_ofNat_of_zero_le h.1;have h2:=OA k (by lia);rw[PySem.strLen_append];exact RM (by lia:_<=2000) (by decide)
def vo:Option Nat->V
 |none=>.aK
 |some d=>.int (d:Int)
theorem Ez{f:Nat->Option Nat}:∀{l:WZ}{ws:List V},au K H ws (l.map λx=>PB.oD (f x))->ws=l.map λx=>vo (f x)
 |[],_,h=>by cases h;rfl
 |x::l,ws,h=>by
  rw[RE]at h⊢;generalize e:PB.oD (f x)=d at h;cases h with
  |cons r t=>
   rw[Ez t];congr 1;cases c:f x with
   |none=>rw[c]at e;cases e;cases r;rfl
   |some n=>rw[c]at e;cases e;cases r;rfl
def oS{a:Addr}(s:af Hm H):af (upd Hm a o) (upd H a o):=λb u e=>by by_cases z:b=a;{subst z;rw[ao]at e⊢;exact e};rw[ah z]at e⊢;exact s _ _ e
def O0(h:Ag K H Hm [false,false] vs [d1,d2] as):∃v1 v2,vs=[v1,v2]/\as=[]/\Rp K Hm v1 d1/\Rp K Hm v2 d2:=by
 cases h with
 |sh r t=>
  cases t with
  |sh r2 t2=>
   cases t2 with
   |nil=>exact⟨_,_,rfl,rfl,r,r2⟩
noncomputable def GL (mg:WC)(K:Frag):Sp:=λvs H Q Ex=>∃(m:Int)(ps:WI) (v:V)(Hm:Hp),vs=[.int m,v]/\af Hm H/\Rp K Hm v (.list (ps.map pD))/\ps.length<=300 /\
 (∀d u H' Hm',PB.WR m ps d->Rp K Hm' u d->af Hm Hm'->af Hm' H'->af H H'->(∀a,H a≠none->OE (Hm' a) (Hm a))->Q u H') /\
 (∀C a H',mg "NoWeb"=some (.ref C)->PB.WR m ps (.str "noweb")->af H H'->H a=none->H' a=some (.ext (dZ a C none))->Ex (.ref C) (some a) H') /\
 (∀C a d x H',mg "Apart"=some (.ref C)->PB.WR m ps (.tuple [.str "apart",iD x])->af H H'->H a=none->H' a=some (.ext (dZ a C (some d)))->H' d=some (.xd [("place",.int (x:Int))])->Ex (.ref C) (some a) H')
noncomputable def G4:dS:=λdd Q x=>∃(m:Int)(ps:WI),dd=[.int m,.list (ps.map pD)]/\ps.length<=300/\(fN m [] ps=none->x "NoWeb" .none)/\∀qs,fN m [] ps=some qs->∀rs:WI,rs.Perm qs->rs.Pairwise mS->Q [] (.ow false) (.list (rs.map pD))
def Ln:∀dd Q x,G4 dd Q x->Gz (cM [false,false] Q x) (ini [false,false] dd++List.replicate 4 none):=by rintro _ Q x⟨m,ps,rfl,hl,bad,good⟩;exact⟨m,ps,rfl,hl,bad,λqs hq rs h1 h2=>good qs hq rs h1 h2⟩
end Dv
namespace Lm
open PySem L2 PySem.W Dv PB
noncomputable def top (i:Nat):Stmt:=PySem.Challenge.pw_farhail_k03_webs_refused.main.body.getD i (.Pass ⟨0,0,0,0⟩)
abbrev mL:Stmt:=inClass (top 5) 0
structure Txt(K:Frag)(mg:WC):Prop where
 abs:mg "abs"=none
 enumerate:mg "enumerate"=none
 int:mg "int"=none
 isinstance:mg "isinstance"=none
 len:mg "len"=none
 list:mg "list"=none
 max:mg "max"=none
 min:mg "min"=none
 range:mg "range"=none
 set:mg "set"=none
 sorted:mg "sorted"=none
 tuple:mg "tuple"=none
 ze:∃t,mg "MOST_PLACES"=some (.int 60 t)
 Hj:∃C,mg "NoWeb"=some (.ref C)/\dN K C g8 "ValueError.__new__" none=true
 kx:II K ["Apart","NoWeb"] ["Apart","NoPlace","NoThing","NoWeb","ValueError"]=true
 kc:DK K ["Apart","NoPlace","NoThing","NoWeb","ValueError"]=true
 zv:Dj K ["Apart","NoWeb"] "HailError"=true
 ap:Bv K mL
 ns:∃h:Heap,K.In h/\h.Ns mainGlobals mg
def uc{us:WQ}{n:Nat}(h:us.length=n+1):∃a t,t.length=n/\us=a::t:=by
 cases us with
 |nil=>cases h
 |cons a t=>exact⟨a,t,Nat.succ.inj h,rfl⟩
def QA{us:WQ}(h0:us.length=1):∃a0,us=[a0]:=by obtain⟨a0,t0,h1,rfl⟩:=uc h0;cases VJ h1;exact⟨a0,rfl⟩
def xU{us:WQ}(h0:us.length=2):∃a0 a1,us=[a0,a1]:=by obtain⟨a0,t0,h1,rfl⟩:=uc h0;obtain⟨a1,t1,h2,rfl⟩:=uc h1;cases VJ h2;exact⟨a0,a1,rfl⟩
def QJ{us:WQ}(h0:us.length=3):∃a0 a1 a2,us=[a0,a1,a2]:=by obtain⟨a0,t0,h1,rfl⟩:=uc h0;obtain⟨a1,t1,h2,rfl⟩:=uc h1;obtain⟨a2,t2,h3,rfl⟩:=uc h2;cases VJ h3;exact⟨a0,a1,a2,rfl⟩
local macro_rules | `(tactic| ac_nf) => `(tactic| (intro _ _ _ _ _ _ us hl; first | (obtain⟨_, e⟩ := QA hl; subst e; rfl) | (obtain⟨_, _, e⟩ := xU hl; subst e; rfl) | (obtain⟨_, _, _, e⟩ := QJ hl; subst e; rfl)))
section
variable(P:Program)(w:World)(K:Frag)(mg:WC)(base:Heap)
noncomputable abbrev nU:Prop:=dB P w K mg base 1 "_law_folded" ["script","many"] (eO mg K [false,false] Cd)
noncomputable abbrev oJ:Prop:=dB P w K mg base 2 "_law_cells" ["script","most"] (eO mg K [false,false] Bu)
noncomputable abbrev rT:Prop:=dB P w K mg base 1 "_law_pot" ["cell","k"] (eO mg K [false,false] Hl)
noncomputable abbrev eg:Prop:=dB P w K mg base 1 "_law_take" ["pot","many"] (eO mg K [true,false] kP)
noncomputable abbrev pK:Prop:=dB P w K mg base 2 "_law_order" ["pot","many"] (eO mg K [true,false] IW)
noncomputable abbrev lQ:Prop:=dB P w K mg base 2 "_law_bunches" ["pot","many"] (eO mg K [true,false] IL)
noncomputable abbrev qj:Prop:=dB P w K mg base 3 "_law_ties" ["pot","many"] (eO mg K [true,false] IP)
noncomputable abbrev tD:Prop:=dB P w K mg base 4 "_law_web" ["pot","most"] (eO mg K [true,false] HJ)
noncomputable abbrev nY:Prop:=dB P w K mg base 2 "_law_spoilt" ["pot","many","ties"] (eO mg K [true,false,false] BB)
noncomputable abbrev jz:Prop:=dB P w K mg base 1 "neighbour_lists" ["web"] (eO mg K [false] BP)
noncomputable abbrev k9:Prop:=dB P w K mg base 2 "fars_or_none" ["web","place"] (eO mg K [false,false] Fz)
noncomputable abbrev mq:Prop:=dB P w K mg base 1 "sorted_ties" ["many","ties"] (eO mg K [false,false] G4)
noncomputable abbrev qu:Prop:=dB P w K mg base 3 "made_web" ["many","ties"] (GL mg K)
noncomputable abbrev qk:Prop:=dB P w K mg base 4 "_law_told" ["many","ties"] (eO mg K [false,false] oF)
noncomputable abbrev qx:Prop:=dB P w K mg base 1 "_law_fars" ["web","place"] (eO mg K [false,false] Bc)
noncomputable abbrev rR:Prop:=dB P w K mg base 2 "_law_due" ["many","ties"] (eO mg K [false,false] oF)
end
section
variable{P:Program}{w:World}{K:Frag}{mg:WC}{base:Heap}
abbrev jF:Stmt:=top 15
def jJ:bD ["script","many","found","k","cell"] ["script","many"] (av jF):=by ac_rfl
def vO(T:Txt K mg)(r:Rec K "_law_folded" jF):nU P w K mg base:=
 dh T.ns r (by ac_nf) λF=>fF (m:=3) F jJ rfl (by decide) (d:=gD) (λcdv A outer s H Ex hr=>have hu:=hr.units;aj (aZ 2 jJ.nd (mW (aE (dU (aE (xI) a0)) (aP 1 a0)))) (aj (fE RZ jJ.nd (M0 T.enumerate (xH (aP 0 (aE (xI) a0)))) (gT (gC 3 (gC 4 g0))) (aq (oq 2 hu (gE (aE (mW (aE (cP hu (aP 2 (aE (wz (aP 3 (aP 1 a0))) a0))) (aE (xI) a0))) (aP 4 a0))) (wz (aP 3 (aP 1 a0)))))) (aq (mQ 2)))) PB.L5
abbrev kH:Stmt:=top 16
def xK:bD ["script","most"] ["script","most"] (av kH):=by ac_rfl
def yM(T:Txt K mg)(h0:nU P w K mg base)(r:Rec K "_law_cells" kH):oJ P w K mg base:=
 dh T.ns r (by ac_nf) λF=>fF (m:=0) F xK rfl (by decide) (d:=gU Cd) (λcdv A outer s H Ex hr=>have hu:=hr.units;aj (fM (b8.st (jt hu (aP 0 (aE (dU a0) a0)))) (aq (jH (dU (aE (xI) a0)))) (bF)) (aq (jH (aN h0 aO hr (aP 0 (aE (Fw T.min (aP 1 (aE (pF T.len (aP 0 a0)) a0))) a0)))))) PB.Nd
abbrev nI:Stmt:=top 13
def iy:bD ["cell","k","mark","found","turn"] ["cell","k"] (av nI):=by ac_rfl
def B9(T:Txt K mg)(r:Rec K "_law_pot" nI):rT P w K mg base:=
 dh T.ns r (by ac_nf) λF=>fF (m:=3) F iy rfl (by decide) (d:=i8) (λcdv A outer s H Ex hr=>have hu:=hr.units;aj (aZ 2 iy.nd (wz (aE (gE (aP 0 (aE (mW (aE (xI) (aE (gE (aP 1 (aE (xI) a0))) a0))) a0))) (aE (xI) a0)))) (aj (aZ 3 iy.nd (dU (aE (xI) a0))) (aj (fE RZ iy.nd (l6 T.range (aE (xI) a0)) (gN 4) (aj (aZ 2 iy.nd (wz (aE (gE (aE (gE (aE (gE (aE (mW (aP 2 (aP 2 a0))) (aE (mW (aE (xI) (aP 2 a0))) a0))) (aE (mW (aE (xI) (aP 4 a0))) a0))) (aP 1 a0))) (aE (xI) a0)))) (aq (oq 3 hu (gE (aE (mW (aE (cP hu (aP 3 (aE (xI) a0))) (aE (xI) a0))) (aP 2 a0))) (xI))))) (d7 (fM (b8.st (OR (aP 0 (aE (xP (aE (xI) (aE (xI) a0))) a0)))) (aq (dR (xM 3 cK b6 SG SH (eC (xV 0) e0)))) (bF)) (aq (mQ 3)))))) PB.NQ
abbrev lH:Stmt:=top 14
def qo:bD ["pot","many","found"] ["pot","many"] (av lH):=by ac_rfl
def zf(T:Txt K mg)(r:Rec K "_law_take" lH):eg P w K mg base:=
 dh T.ns r (by ac_nf) λF=>fF (m:=1) F qo rfl (by decide) (d:=iJ) (λcdv A outer s H Ex hr=>have hu:=hr.units;aj (aZ 2 qo.nd (wz (aE (cP hu (aP 0 (aE (nG (aE (xI) a0)) a0))) (aP 1 a0)))) (aj (oq 0 hu (PU (aE (cP hu (aP 0 (aE (nG (aE (xI) a0)) a0))) (aP 1 a0))) (nG (aE (xI) a0))) (d7 (fM (b8.st (gz.ku (dY (jt hu (aE (cP hu (aP 0 (aE (nG (aE (xI) a0)) a0))) (aE (xI) a0))) (cR (zP (aE (pF T.len (aP 0 a0)) (aE (xI) a0))))))) (aq (dR (xM 0 ue uh Vq Vr (e0)))) (bF)) (aq (mQ 2))))) PB.N9
abbrev ki:Stmt:=top 19
def oX:bD ["pot","many","left"] ["pot","many"] (av ki):=by ac_rfl
def yH(T:Txt K mg)(h0:eg P w K mg base)(r:Rec K "_law_order" ki):pK P w K mg base:=
 dh T.ns r (by ac_nf) λF=>fF (m:=2) F oX rfl (by decide) (d:=gX kP) (λcdv A outer s H Ex hr=>aj (aZ 2 oX.nd (Mz T.list T.range (aP 1 a0))) (aq (jH (Bl (vs:=["k"]) (NB:=["k","left","pot"]) (ix:=[2,0]) (by rfl) (l6 T.range (aP 1 a0)) (λ_ _ _ _=>gN 0) (λ_ _ _ _=>.nil) (λ_ _ _ _ _=>lg (xM 1 ue uh Vq Vr (eC (aN h0 BF hr (aP 2 (aE (pF T.len (aP 1 a0)) a0))) e0))))))) PB.Ow
abbrev iZ:Stmt:=top 18
def bz:bD ["pot","many","some","inner","spots","found","k","j","far","near","turn","one","other"] ["pot","many"] (av iZ):=by ac_rfl
def t9(T:Txt K mg)(h0:eg P w K mg base)(r:Rec K "_law_bunches" iZ):lQ P w K mg base:=
 dh T.ns r (by ac_nf) λF=>fF (m:=12) F bz rfl (by decide) (d:=fU kP) (λcdv A outer s H Ex hr=>have hu:=hr.units;aj (aZ 2 bz.nd (gE (aE (xI) (aE (aN h0 aO hr (aP 0 (aE (xI) a0))) a0)))) (aj (BR (j:=3) bz.nd (vs:=["k"]) (NB:=["k","pot"]) (ix:=[0]) (by rfl) (l6 T.range (aP 2 a0)) (λ_ _ _ _=>gN 0) (λ_ _ _ _=>.nil) (λ_ _ _ _ _=>lg (aN h0 BF hr (aP 1 (aE (xI) a0))))) (aj (BR (j:=4) bz.nd (vs:=["k"]) (NB:=["k","pot","some"]) (ix:=[0,2]) (by rfl) (l6 T.range (aP 1 a0)) (λ_ _ _ _=>gN 0) (λ_ _ _ _=>.nil) (λ_ _ _ _ _=>lg (aN h0 BF hr (aP 1 (aP 2 a0))))) (aj (aZ 5 bz.nd (dU a0)) (aj (fE RZ bz.nd (l6 T.range (aP 1 a0)) (gN 6) (aq (fE RZ bz.nd (l6 T.range (aP 6 a0)) (gN 7) (aj (aZ 8 bz.nd (Pf T.abs (aE (mK (aE (cP hu (aP 4 (aP 7 a0))) (aE (cP hu (aP 4 (aP 6 a0))) a0))) a0))) (aq (fM (b8.st (gz.ku (kM (jt hu (aP 8 (aE (xI) a0))) (cR (gz.ku (dY (jt hu (aP 8 (aE (xI) a0))) (cR (jt hu (aE (cP hu (aP 3 (aE (cP hu (aP 4 (aP 6 a0))) a0))) (aE (xI) a0)))))))))) (aq (dR (xM 5 cK b6 SG SH (eC (bZ (aP 7 (aP 6 a0))) e0)))) (bF))))))) (aj (aZ 9 bz.nd (C0 (aE (xI) (aE (xB) a0)))) (aj (fE RZ bz.nd (l6 T.range (aP 1 a0)) (gN 10) (aq (fE RZ bz.nd (oR (xV 5)) (gT (gC 11 (gC 12 g0))) (aq (fM (b8.st (gz.ku (kM (zL hu (aP 11 (aP 9 a0))) (cR (zL hu (aP 12 (aP 9 a0))))))) (aj (oq 9 hu (xB) (xV 11)) (aq (oq 9 hu (xB) (xV 12)))) (bF)))))) (aq (jH (gE (aP 5 (aE (Bl (vs:=["k"]) (NB:=["k","near"]) (ix:=[9]) (by rfl) (DX T.range (aE (xI) (aP 1 a0))) (λ_ _ _ _=>gN 0) (λ_ _ _ _=>.one (b8.st (BQ hu (aP 0 (aP 1 a0))))) (λ_ _ _ _ _=>lg (bZ (aE (xI) (aP 0 a0))))) a0)))))))))))) PB.Oa
abbrev ly:Stmt:=top 17
def bG:bD ["pot","many","way","found","k","most","one","other"] ["pot","many"] (av ly):=by ac_rfl
def zu(T:Txt K mg)(h0:eg P w K mg base)(h1:lQ P w K mg base)(r:Rec K "_law_ties" ly):qj P w K mg base:=
 dh T.ns r (by ac_nf) λF=>fF (m:=7) F bG rfl (by decide) (d:=iB kP IL) (λcdv A outer s H Ex hr=>have hu:=hr.units;aj (aZ 2 bG.nd (aN h0 aO hr (aP 0 (aE (xI) a0)))) (aj (BR (j:=3) bG.nd (vs:=["k"]) (NB:=["k"]) (ix:=[]) (by rfl) (DX T.range (aE (xI) (aP 1 a0))) (λ_ _ _ _=>gN 0) (λ_ _ _ _=>.nil) (λ_ _ _ _ _=>lg (bZ (aE (mK (aP 0 (aE (xI) a0))) (aP 0 a0))))) (d7 (fM (b8.st (gz.ku (dY (jt hu (aP 2 (aE (xI) a0))) (cR (zP (aP 1 (aE (xI) a0))))))) (aq (dR (xM 3 cK b6 SG SH (eC (bZ (aE (xI) (aE (mK (aP 1 (aE (xI) a0))) a0))) e0)))) (bF)) (d7 (fM (b8.st (jt hu (aP 2 (aE (xI) a0)))) (aq (BR (j:=3) bG.nd (vs:=["k"]) (NB:=["k"]) (ix:=[]) (by rfl) (DX T.range (aE (xI) (aP 1 a0))) (λ_ _ _ _=>gN 0) (λ_ _ _ _=>.nil) (λ_ _ _ _ _=>lg (bZ (aE (xI) (aP 0 a0)))))) (bF)) (d7 (fM (b8.st (gz.ku (dY (jt hu (aP 2 (aE (xI) a0))) (cR (Dw (aP 1 (aE (xI) a0))))))) (aj (aZ 3 bG.nd (dU a0)) (aq (fE RZ bG.nd (l6 T.range (aP 1 a0)) (gN 4) (aq (dR (xM 3 Bw BD PySem.F.slot_list_extend PySem.F.type_list_extend (eC (Bl (vs:=["j"]) (NB:=["j","k"]) (ix:=[4]) (by rfl) (l6 T.range (aP 4 a0)) (λ_ _ _ _=>gN 0) (λ_ _ _ _=>.nil) (λ_ _ _ _ _=>lg (bZ (aP 0 (aP 1 a0))))) e0))))))) (bF)) (d7 (fM (b8.st (gz.ku (dY (jt hu (aP 2 (aE (xI) a0))) (cR (Dw (aP 1 (aE (xI) a0))))))) (aq (aZ 3 bG.nd (aN h1 aO hr (aP 0 (aP 1 a0))))) (bF)) (d7 (fM (b8.st (zP (aP 2 (aE (xI) a0)))) (aj (aZ 3 bG.nd (dU a0)) (aq (fE RZ bG.nd (DX T.range (aE (xI) (aP 1 a0))) (gN 4) (aq (dR (xM 3 cK b6 SG SH (eC (bZ (aE (cP hu (aE (dU (aE (aN h0 aO hr (aP 0 (aP 4 a0))) (aE (mK (aP 4 (aE (xI) a0))) (aE (G0 T.max (aE (xI) (aE (mK (aP 4 (aE (xI) a0))) a0))) a0)))) (aE (aN h0 aO hr (aP 0 (aE (xI) a0))) a0))) (aP 4 a0))) e0))))))) (bF)) (d7 (fM (b8.st (zP (aP 2 (aE (xI) a0)))) (aj (aZ 5 bG.nd (cP hu (aE (dU (aE (xI) (aE (xI) (aE (xI) (aE (xI) a0))))) (aE (aN h0 aO hr (aP 0 (aE (xI) a0))) a0)))) (aq (fE RZ bG.nd (l6 T.range (aE (aN h0 aO hr (aP 0 (aP 5 a0))) a0)) (gN 4) (aj (aZ 6 bG.nd (aN h0 aO hr (aP 0 (aP 1 a0)))) (aj (aZ 7 bG.nd (aN h0 aO hr (aP 0 (aP 1 a0)))) (aq (fM (b8.st (gz.ku (dY (Dw (aP 6 (aP 7 a0))) (cR (BQ hu (aE (bZ (aP 6 (aP 7 a0))) (aP 3 a0))))))) (aq (dR (xM 3 cK b6 SG SH (eC (bZ (aP 6 (aP 7 a0))) e0)))) (bF)))))))) (bF)) (aq (mQ 3)))))))))) PB.Oz
abbrev nC:Stmt:=top 20
def gr:bD ["pot","most","many","order","found","one","other"] ["pot","most"] (av nC):=by ac_rfl
def BO(T:Txt K mg)(h0:eg P w K mg base)(h1:pK P w K mg base)(h2:qj P w K mg base)(r:Rec K "_law_web" nC):tD P w K mg base:=
 dh T.ns r (by ac_nf) λF=>fF (m:=5) F gr rfl (by decide) (d:=iO kP IW IP) (λcdv A outer s H Ex hr=>have hu:=hr.units;aj (aZ 2 gr.nd (gE (aE (xI) (aE (aN h0 aO hr (aP 0 (aP 1 a0))) a0)))) (d7 (fM (b8.st (jt hu (aE (aN h0 aO hr (aP 0 (aE (xI) a0))) (aE (xI) a0)))) (aq (aZ 2 gr.nd (gE (aE (xI) (aE (aN h0 aO hr (aP 0 (aE (xI) a0))) a0))))) (bF)) (aj (aZ 3 gr.nd (aN h1 aO hr (aP 0 (aP 2 a0)))) (aj (aZ 4 gr.nd (dU a0)) (aj (fE RZ gr.nd (oR (aN h2 aO hr (aP 0 (aP 2 a0)))) (gT (gC 5 (gC 6 g0))) (aq (dR (xM 4 cK b6 SG SH (eC (bZ (aE (Fw T.min (aE (cP hu (aP 3 (aP 5 a0))) (aE (cP hu (aP 3 (aP 6 a0))) a0))) (aE (G0 T.max (aE (cP hu (aP 3 (aP 5 a0))) (aE (cP hu (aP 3 (aP 6 a0))) a0))) a0))) e0))))) (aq (jH (bZ (aP 2 (aE (yg T.tuple (aE (Df T.sorted (aP 4 a0)) a0)) a0)))))))))) PB.Ov
abbrev jD:Stmt:=top 22
def cL:bD ["pot","many","ties","found","turn","way","at","odd","same","tie"] ["pot","many","ties"] (av jD):=by ac_rfl
def vV(T:Txt K mg)(h0:eg P w K mg base)(r:Rec K "_law_spoilt" jD):nY P w K mg base:=
 dh T.ns r (by ac_nf) λF=>fF (m:=7) F cL rfl (by decide) (d:=gI kP) (λcdv A outer s H Ex hr=>have hu:=hr.units;aj (aZ 3 cL.nd (Ig T.list (aP 2 a0))) (aj (fE RZ cL.nd (l6 T.range (aE (aN h0 aO hr (aP 0 (aE (xI) a0))) a0)) (gN 4) (aj (aZ 5 cL.nd (aN h0 aO hr (aP 0 (aE (xI) a0)))) (aj (aZ 6 cL.nd (aN h0 aO hr (aP 0 (aE (gE (aE (pF T.len (aP 3 a0)) (aE (xI) a0))) a0)))) (aj (aZ 7 cL.nd (cP hu (aE (dU (aE (nG (aE (xI) a0)) (aP 1 (aE (gE (aE (gE (aP 1 (aE (xI) a0))) (aE (aN h0 aO hr (aP 0 (aE (xP (aE (xI) (aE (xI) a0))) a0))) a0))) (aE (mK (aE (nG (aE (xI) a0)) (aE (aN h0 aO hr (aP 0 (aE (xP (aE (xI) (aE (xI) a0))) a0))) a0))) a0))))) (aE (aN h0 aO hr (aP 0 (aE (xI) a0))) a0)))) (d7 (fM (b8.st (jt hu (aP 5 (aE (xI) a0)))) (aq (dR (xM 3 oQ nu Vs Vt (eC (xV 6) (eC (cP hu (aE (dU (aE (bZ (aP 7 (aE (xI) a0))) (aE (bZ (aE (xI) (aP 7 a0))) a0))) (aE (aN h0 aO hr (aP 0 (aE (xI) a0))) a0))) e0))))) (bF)) (d7 (fM (b8.st (jt hu (aP 5 (aE (xI) a0)))) (aj (aZ 8 cL.nd (aN h0 aO hr (aP 0 (aP 1 a0)))) (aq (dR (xM 3 oQ nu Vs Vt (eC (xV 6) (eC (bZ (aP 8 (aP 8 a0))) e0)))))) (bF)) (d7 (fM (b8.st (gz.ku (dY (jt hu (aP 5 (aE (xI) a0))) (cR (IS hu (aP 3 (aE (dU a0) a0))))))) (aj (aZ 9 cL.nd (cP hu (aP 3 (aE (aN h0 aO hr (aP 0 (aE (pF T.len (aP 3 a0)) a0))) a0)))) (aq (dR (xM 3 oQ nu Vs Vt (eC (xV 6) (eC (cP hu (aE (dU (aP 9 (aE (bZ (aE (cP hu (aP 9 (aE (xI) a0))) (aE (cP hu (aP 9 (aE (xI) a0))) a0))) a0))) (aE (aN h0 aO hr (aP 0 (aE (xI) a0))) a0))) e0)))))) (bF)) (aq (fM (b8.st (gz.ku (dY (zP (aP 5 (aE (xI) a0))) (cR (IS hu (aP 3 (aE (dU a0) a0))))))) (aq (dR (xM 3 ue uh Vq Vr (eC (aN h0 aO hr (aP 0 (aE (pF T.len (aP 3 a0)) a0))) e0)))) (bF)))))))))) (aq (mQ 3)))) PB.Lr
abbrev f6:Stmt:=top 10
def d9:bD ["web","many","ties","lists","one","other"] ["web"] (av f6):=by ac_rfl
def om(T:Txt K mg)(r:Rec K "neighbour_lists" f6):jz P w K mg base:=
 dh T.ns r (by ac_nf) λF=>fF (m:=6) F d9 rfl (by decide) (d:=gJ) (λcdv A outer s H Ex hr=>aj (Py d9.nd (gC 1 (gC 2 g0)) (xV 0)) (aj (Pj (j:=3) d9.nd (vs:=["place"]) (NB:=["place"]) (ix:=[]) (by rfl) (l6 T.range (aP 1 a0)) (λ_ _ _ _=>gN 0) (λ_ _ _ _=>.nil) (λ_ _ _ _=>dU a0)) (aj (fE RZ d9.nd (oR (xV 2)) (gT (gC 4 (gC 5 g0))) (aj (dR (OQ 3 5 cK b6 SG SH (xV 4))) (aq (dR (OQ 3 4 cK b6 SG SH (xV 5)))))) (aq (mQ 3))))) PB.NC
abbrev iL:Stmt:=top 11
def bS:bD ["web","place","lists","fars","edge","reached","here","there"] ["web","place"] (av iL):=by ac_rfl
def sC(T:Txt K mg)(h0:jz P w K mg base)(r:Rec K "fars_or_none" iL):k9 P w K mg base:=
 dh T.ns r (by ac_nf) λF=>fF (m:=6) F bS rfl (by decide) (d:=jg BP) (λcdv A outer s H Ex hr=>have hu:=hr.units;aj (aZ 2 bS.nd (aN h0 aO hr (aP 0 a0))) (aj (aZ 3 bS.nd (mW (aE (dU (aE (xN) a0)) (aE (cP hu (aP 0 (aE (xI) a0))) a0)))) (aj (oq 3 hu (xI) (xV 1)) (aj (aZ 4 bS.nd (dU (aP 1 a0))) (aj (MC RZ (tV 4) (aj (aZ 5 bS.nd (dU a0)) (aj (fE RZ bS.nd (oR (xV 4)) (gN 6) (aq (fE RZ bS.nd (oR (cP hu (aP 2 (aP 6 a0)))) (gN 7) (aq (fM (b8.st (QH (aE (cP hu (aP 3 (aP 7 a0))) (aE (xN) a0)))) (aj (oq 3 hu (gE (aE (cP hu (aP 3 (aP 6 a0))) (aE (xI) a0))) (xV 7)) (aq (dR (xM 5 cK b6 SG SH (eC (xV 7) e0))))) (bF)))))) (aq (aZ 4 bS.nd (xV 5)))))) (aq (mQ 3))))))) PB.Mu
abbrev dI:Stmt:=top 9
def eX:bD ["many","ties","told","one","other","tie"] ["many","ties"] (av dI):=by ac_rfl
def rq{H H':Hp}(s:af H H'){a:Addr}(h:H' a=none):H a=none:=by
 cases e:H a with
 |none=>rfl
 |some o=>rw[s _ _ e]at h;cases h
def zB{H Hc:Hp}{F:Addr}{o:HO}(s:af H Hc)(n:H F=none):af H (upd Hc F o):=λb u e=>by
 have c:b≠F:=λz=>by rw[z,n]at e;cases e
 rw[ah c];exact s b u e
def KY(t1:mg "set"=none)(t2:mg "min"=none)(t3:mg "max"=none)(t4:mg "sorted"=none)(tW:∃C,mg "NoWeb"=some (.ref C)/\dN K C g8 "ValueError.__new__" none=true){f:Addr}{cdv:Value}{A:Around}{outer:List Env}{s:Shared}{H0:Hp}{Ex:XK}(hu:(A.deeper (PyProof.Rows.envOfC "sorted_ties" (av dI) s.heap.objs.size f cdv)).units+64<cLine) : SS (c8 (cH P w) P w K mg base ["many","ties","told","one","other","tie"] "sorted_ties" (av dI) f cdv A outer s H0 Ex) Ex (eK dI) Gz:=by
 obtain⟨C,hC,hX⟩:=tW;intro g D' E U H Hm F D hx R h nx rt;obtain⟨m,ps,rfl,hl,bad,good⟩:=h;have hu8:=Nat.lt_of_le_of_lt (Nat.add_le_add_left (by decide:8<=64) _) hu;obtain⟨v0,e0,w0⟩:=R.slot 0 _ _ rfl;cases w0.int;obtain⟨v1,e1,w1⟩:=R.slot 1 _ _ rfl;have r1:Rp K Hm v1 (.list (ps.map pD)):=by
  generalize F 1=f1 at w1;cases w1 with
  |sh r=>exact r
 obtain⟨L,ys,rfl,hL,ry⟩:=lZ r1;have len:=R.len;obtain⟨v2,v3,v4,v5,rfl⟩:∃v2 v3 v4 v5,U=[some (.int m),some (.ref L),v2,v3,v4,v5]:=by
  match U,len,e0,e1 with
  |[a,b,c,d,e,f],_,e0,e1=>cases e0;cases e1;exact⟨c,d,e,f,rfl⟩
 show k8 _ _ D [some (.int m),some (.ref L),v2,v3,v4,v5] H;refine k8.of (cg (fX (i:=2) eX.nd rfl (Or.inl rfl) (AS Cu (by rfl) t1 PyProof.Rows.boot_set))
  (cg (ED RZ rfl (Kc (pv 1)) (Dc rfl (qE (p9 (i:=3) eX.nd rfl (Or.inl rfl)) (qE (p9 (i:=4) eX.nd rfl (Or.inl rfl)) zC)))
   (cg (fX (i:=5) eX.nd rfl (Or.inl rfl) (pC (aA (eZ (uY rfl) (by rfl) t2 PyProof.Rows.boot_min (aA (pv 3) (aA (pv 4) bx))) (aA (eZ (uU rfl) (by rfl) t3 PyProof.Rows.boot_max (aA (pv 3) (aA (pv 4) bx))) bx))))
   (cg (jV (PW.pt (pw_or (jY BE (vW xQ (pv 5) kg (λ_ _=>rfl)) kg (fV _)) (pw_or1 (jY IG (vW xQ (pv 5) kg (λ_ _=>rfl)) (pv 0) (fV _))))) (bN (mR hX (by rfl) hC (aA jr bx) (by decide))) j4)
   (cg (jV (jY Bq (pv 3) (pv 4) (fV _)) (bN (mR hX (by rfl) hC (aA jr bx) (by decide))) j4)
   (cg (jV (jY (Mp hu8) (pv 5) (pv 2) (by rfl)) (bN (mR hX (by rfl) hC (aA jr bx) (by decide))) j4)
   (bN (uo (LZ PySem.F.slot_set_add PySem.F.type_set_add (KN hu8) (pv 2) (aA (pv 5) bx)))))))))
  (bN (pM (eZ (xr rfl) (by rfl) t4 PyProof.Rows.boot_sorted (aA (pv 2) bx)))))) ?_
 refine⟨rfl,λS hS=>?_⟩;have tS:=aG (o:=gq P w S []) hS;have sq:bQ K H L ys:=(cT.mono R.sub hL).sq;have ry:au K H ys (ps.map pD):=ry.mono R.sub;have raise:∀{Hd:Hp}{a:Addr},af H Hd->Hd a=none->fN m [] ps=none->Ex (.ref C) (some a) (upd Hd a (.ext (dZ a C none))):=λ{Hd a} sd ha z=>by refine hx "NoWeb" .none C a _ hC (bad z) (λp o hp ho=>aG ha _ _ (sd _ _ (R.fr p o hp ho))) ao ?_;exact R.gO (rq sd ha)
 refine⟨_,rfl,L,rfl,⟨ys,tS.seq sq⟩,FJ (xs:=ys) (λi U Hd=>∃(v3 v4 v5:Option V)(ds:List (Addr×Int×Int)),U=[some (.int m),some (.ref L),some (.ref S),v3,v4,v5]/\af H Hd/\Hd S=some (gq P w S (sP ds))/\(∀d∈ds,Hd d.1=some (.tup [.int d.2.1,.int d.2.2])/\H d.1=none)/\ds.length=i/\fN m [] ps=fN m (ds.map (·.2)) (ps.drop i)) ⟨v3,v4,v5,[],rfl,tS,ao,(λ_ z=>nomatch z),rfl,rfl⟩ ?_ ?_ ?_⟩;{rintro i U Hd _⟨_,_,_,_,_,sd,_⟩;exact sd.seq sq}
 .rintro i x U Hd hxi⟨v3,v4,v5,ds,rfl,sd,eS,ed,dl,et⟩;obtain⟨e,p,he,rfl,hp⟩:=MN ry hxi;have li:=(RW.mp he).1;have dr:ps.drop i=e::ps.drop (i+1):=by rw[List.drop_eq_getElem_cons li,(RW.mp he).2]
  rw[dr,fN]at et;refine⟨p,_,rfl,.inl (.inl (sd _ _ hp)),rfl,_,_,rfl,_,_,rfl,rfl,?_⟩;refine⟨_,rfl,_,rfl,_,_,rfl,_,rfl,_,rfl,_,_,rfl,?_⟩;refine⟨(by show 2<=sizeLine;decide),λc hc=>?_⟩;have tc:=aG (o:=.tup [.int (aY e).1,.int (aY e).2]) hc;have ec:upd Hd c (.tup [.int (aY e).1,.int (aY e).2]) c=some (.tup [.int (aY e).1,.int (aY e).2]):=ao;have eS2:=tc _ _ eS;have ed2:∀d∈ds,upd Hd c (.tup [.int (aY e).1,.int (aY e).2]) d.1=some (.tup [.int d.2.1,.int d.2.2])/\H d.1=none:=λd hd=>⟨tc _ _ (ed d hd).1,(ed d hd).2⟩;have sc:=sd.trans tc;have c0:H c=none:=rq sd hc;change kX 5 (.ref c) _ (upd Hd c (.tup [.int (aY e).1,.int (aY e).2])) _;generalize upd Hd c (.tup [.int (aY e).1,.int (aY e).2])=Hc at tc ec eS2 ed2 sc⊢;have kc:vZ K Hc (sP ds):=λq hq=>by obtain⟨d,hd,rfl⟩:=Q8.mp hq;exact .inl (.inl (ed2 d hd).1)
  have rz:∀(C1:Prop),C1->(C1->(((aY e).1<0\/m<=(aY e).2)\/e.1=e.2\/aY e∈ds.map (·.2)))->fN m [] ps=none:=λ_ h1 h2=>by rw[et,if_pos (h2 h1)]
  refine⟨_,rfl,c,_,0,_,rfl,rfl,.inl (.inl ec),zZ (j:=0) rfl,_,_,rfl,rfl,_,rfl,rF (λz=>?_) (λz1=>?_)⟩;{exact mV ⟨(by show 1<=sizeLine;decide),λa ha=>raise sc ha (by rw[et,if_pos (.inl (.inl (RN z)))])⟩};refine⟨_,rfl,c,_,1,_,rfl,rfl,.inl (.inl ec),zZ (j:=1) rfl,_,rfl,_,_,rfl,rfl,_,rfl,rF (λz=>?_) (λz2=>?_)⟩;{exact⟨(by show 1<=sizeLine;decide),λa ha=>raise sc ha (by rw[et,if_pos (.inl (.inr (RN z)))])⟩};refine⟨_,rfl,_,rfl,rfl,_,rfl,rF (λz=>?_) (λz3=>?_)⟩;{have z:=RN z;injection z with z;exact⟨(by show 1<=sizeLine;decide),λa ha=>raise sc ha (by rw[et,if_pos (.inr (.inl z))])⟩};refine⟨_,rfl,_,rfl,c,S,[(aY e).1,(aY e).2],_,rfl,rfl,.inl (.inl ec),eS2,kc,_,rfl,rF (λz=>?_) (λz4=>?_)⟩;{exact⟨(by show 1<=sizeLine;decide),λa ha=>raise sc ha (by rw[et,if_pos (.inr (.inr (Dl.mp (RN z))))])⟩};have nin:[(aY e).1,(aY e).2]∉(sP ds).map (·.2):=λz=>z4 (Rg z);refine⟨_,rfl,⟨S,_,rfl,eS2⟩,_,rfl,c,S,[(aY e).1,(aY e).2],_,rfl,rfl,.inl (.inl ec),eS2,kc,by rw[Q7];lia,nin,?_⟩;refine⟨_,_,_,ds++[(c,aY e)],rfl,zB sc hS,?_,λd hd=>?_,by rw[RC,dl];rfl,?_⟩;{rw[ao];show some (gq P w S (sP ds++[(c,[(aY e).1,(aY e).2])]))=some (gq P w S (sP (ds++[(c,aY e)])));rw[show sP (ds++[(c,aY e)])=sP ds++[(c,[(aY e).1,(aY e).2])]by show(ds++[(c,aY e)]).map _=_;rw[RG];rfl]}
  .have all:Hc d.1=some (.tup [.int d.2.1,.int d.2.2])/\H d.1=none:=by rcases R7.mp hd with hd|hd;{exact ed2 d hd};rw[QS.mp hd];exact⟨ec,c0⟩
   have nS:d.1≠S:=λz=>by have:=all.1;rw[z,eS2]at this;cases this
   rw[ah nS];exact all
  rw[et,if_neg,RG];{rfl};rintro ((z|z)|z|z);{exact z1 (Rg z)};{exact z2 (Rg z)};{exact z3 (Rg (by rw[z]))};exact nin (Dl.mpr z)
 rintro U Hd⟨v3',v4',v5',ds,rfl,sd,eS,ed,dl,et⟩;have yl:ys.length=ps.length:=by rw[ry.len,Q7]
 rw[yl,VH,fN]at et;refine⟨_,rfl,S,ds,rfl,eS,λd hd=>.inl (.inl (ed d hd).1),by lia,λcs u pc srt hu'=>?_⟩;have tu:=aG (o:=.lst (cs.map λc=>V.ref c.1)) hu';have uH:H u=none:=rq sd hu';have nF:∀a∈ds.map (·.1),H a=none/\Hd a≠none:=λa ha=>by obtain⟨d,hd,rfl⟩:=Q8.mp ha;exact⟨(ed d hd).2,by rw[(ed d hd).1];exact λz=>by cases z⟩
 have s1:af Hm (lend Hm (upd Hd u (.lst (cs.map λc=>V.ref c.1))) (ds.map (·.1))):=ic λa ha=>R.oW (nF a ha).1;have sHm:af Hm (upd Hd u (.lst (cs.map λc=>V.ref c.1))):=R.sub.trans (sd.trans tu);have R':=R.grow (sd.trans tu) s1 (iV sHm) (λi a ha=>by
  rw[b9 λz=>?_]
  .exact R.off i a ha
  .obtain⟨o,ho,_⟩:=R.bu i a ha;rw[(nF a z).1]at ho;cases ho) λa ha=>.inl (b9 λz=>R.pZ ha (nF a z).1)
 refine rt _ _ _ _ _ _ _ _ [u] (good _ et (cs.map (·.2)) (pc.map _) (by rw[TV];exact srt)) R' ⟨.ow ao ?_,λa ha=>?_,λa ha i=>?_,λa ha=>?_⟩;{refine D4 cs λd hd=>?_;have hd:=pc.mem_iff.mp hd;rw[eU (Q8.mpr ⟨d,hd,rfl⟩)];exact tu _ _ (ed d hd).1};{rw[QS.mp ha,b9 λz=>(nF u z).2 hu'];exact R.oW uH};{rw[QS.mp ha];exact R.fresh uH};rw[QS.mp ha];exact R.gO uH
def tQ(T:Txt K mg)(r:Rec K "sorted_ties" dI):mq P w K mg base:=
 dh T.ns r (by ac_nf) λF=>fF (m:=4) F eX rfl (by decide) (d:=Gz) (λcdv A outer s H Ex hr=>KY T.set T.min T.max T.sorted T.Hj hr.units) Ln
abbrev ji:Stmt:=top 8
def lN:bD ["many","ties","web","fars"] ["many","ties"] (av ji):=by ac_rfl
def FP:bD ["self","place"] ["self","place"] (av mL):=by ac_rfl
def GH{CH CA fA r:Addr}{fd:FuncData}(F:lU K "__init__" "Apart.__init__" mL fA fd)(hm:mg "HailError"=some (.ref CH))(h1:specialIn K (.ref CH) "__getattribute__"=some (some (.builtin "type.__getattribute__")))(h2:readsIn K CH (.type "type")=true)(h3:findCls K (.ref CH) (.type "type") "__init__"=some (.val (.builtin "ValueError.__init__")))(h4:dN K CA g8 "ValueError.__new__" (some (.ref r))=true)(h7:takerIn K CA "place"=some none)(xf:fY K CA):dX P w K mg base (cH P w) 1 fA fd ["self","place"] (Nm CA):=by
 refine F.IM FP (λvs H Q E h=>?_) (λcdv A outer s H vs Q E hr h=>?_);{obtain⟨a,n,rfl,_⟩:=h;rfl};obtain⟨a,n,rfl,hn,ea,k⟩:=h;refine⟨_,cg (uo (yS rfl hm h1 h2 h3 (aA (pv 0) (aA (Ah (yI (Fb (pv 1) ER))) bx)))) (bN (GR (pv 0) (pv 1) rfl)),?_⟩;have hz:=Mq (x:=Str.empty++"no ties lead from place 0 to place ") (by decide+kernel) hn;have hlog:n.natAbs.log2<1920:=by obtain⟨j,rfl⟩:=Int.eq_ofNat_of_zero_le hn.1;exact Od j (by lia)
 refine⟨_,rfl,(by decide+kernel),_,rfl,n,rfl,hlog,hz,hz,a,CA,_,_,rfl,(by show 1<=sizeLine;decide),ea,h4,?_⟩;exact⟨_,rfl,_,rfl,a,CA,rfl,ea,xf,h7,λd hd ne=>k d hd ne⟩
def Je{CA fA CW f:Addr}{fdA fd:FuncData}(hMP:∃t,mg "MOST_PLACES"=some (.int 60 t))(hT:mg "tuple"=none)(hW:mg "NoWeb"=some (.ref CW))(xW:dN K CW g8 "ValueError.__new__" none=true)(hA:mg "Apart"=some (.ref CA))(xA:dN K CA g8 "ValueError.__new__" (some (.ref fA))=true)(tA:typeIn K (.ref fA)=some (.type "function"))(kA:keepIn K (.ref CA)=true)(bA:Binds K fdA ["self","place"] [])(FA:dX P w K mg base (cH P w) 1 fA fdA ["self","place"] (Nm CA))(hS:dB P w K mg base 1 "sorted_ties" ["many","ties"] (eO mg K [false,false] G4))(hF:dB P w K mg base 2 "fars_or_none" ["web","place"] (eO mg K [false,false] Fz))(F:lU K "made_web" "made_web" ji f fd):dX P w K mg base (cH P w) 3 f fd ["many","ties"] (GL mg K):=by
 refine F.IM lN (λvs H Q E h=>?_) (λcdv A outer s H vs Q E hr h=>?_);{obtain⟨m,ps,v,Hm,rfl,_⟩:=h;rfl};obtain⟨m,ps,v,Hm,rfl,sm,rv,hl,good,no,apart⟩:=h;obtain⟨tM,hMP⟩:=hMP;have hr1:cC 1 _:=hr.mono (by decide);refine⟨_,cg (jV (Fc (FW Ij Ij kg (pv 0) (tT (v:=.int 60) rfl hMP ⟨tM,rfl⟩))) (bN (mR xW (by rfl) hW (aA (Ah (yI (Fb (tT (v:=.int 60) rfl hMP ⟨tM,rfl⟩) (yI ER)))) bx) (by decide))) j4)
  (cg (fX (i:=2) lN.nd rfl (Or.inl rfl) (pC (aA (pv 0) (aA (kZ oi (by rfl) hT PyProof.Rows.boot_tuple (aA (zD hS hr1 rfl (aA (pv 0) (aA (pv 1) bx))) bx)) bx))))
  (cg (fX (i:=3) lN.nd rfl (Or.inl rfl) (zD hF hr rfl (aA (pv 2) (aA kg bx))))
  (cg (jV (jY EF sR (pv 3) (by rfl)) (bN (CQ (GP xA tA FA hr bA aO rfl hA kA (aA (v9 UZ PySem.F.slot_list_index PySem.F.type_list_index GA (pv 3) (aA sR bx)) bx)))) j4)
  (bN (pM (pv 2)))))),?_⟩
 refine⟨_,rfl,_,_,rfl,rfl,_,rfl,?_⟩;have rz:∀{D:Ends}{U:St},(m<1\/60<m\/fN m [] ps=none)->DH CW E (IE (λU H Q=>Hg "a web has from 1 to " (Mm (tC (.int 60)) (Hg " places" LC)) Str.empty U H Q) G3) D U H:=λ{D U} z=>by refine⟨by decide+kernel,60,rfl,by decide+kernel,by decide+kernel,by decide+kernel,by decide+kernel,(by show 1<=sizeLine;decide),λa ha=>?_⟩;exact no CW a _ hW (.no z) (aG ha) ha ao
 refine rF (λc1=>?_) (λc1=>?_)
 .refine⟨_,_,rfl,rfl,_,rfl,rF (λcc=>?_) (λcc=>?_)⟩;{exact rz (.inr (.inl (by simpa using cc)))};have m1:1<=m:=RN c1;have m60:m<=60:=by simpa using cc
  refine⟨_,rfl,_,rfl,_,rfl,?_⟩;refine⟨[.int m,.list (ps.map pD)],[],Hm,λus k r=>∃qs rs,fN m [] ps=some qs/\rs.Perm qs/\rs.Pairwise mS/\k=.ow false/\r=.list (rs.map pD),λc _=>c="NoWeb"/\fN m [] ps=none,sm,.sh (.int _) (.sh rv .nil),⟨m,ps,rfl,hl,λz=>⟨rfl,z⟩,λqs hq rs h1 h2=>⟨qs,rs,hq,h1,h2,rfl,rfl⟩⟩,?_,?_⟩
  .rintro us k r u H1 Hm1 fp⟨qs,rs,hq,h1,h2,rfl,rfl⟩s1 s2 fr old bk o new;cases o with
   |@ow _ a1 zs _ ha rz=>
    have sH:af H H1:=λp o e=>fr p o Ri e;obtain⟨n,rfl⟩:∃n:Nat,m=n:=⟨m.toNat,by lia⟩;obtain⟨fs,rfl,rfl,oV,gd⟩:=zH hq;obtain⟨es,pe,rfl⟩:=vM c2 h1 rfl;have le:es.Pairwise pJ:=by rw[TV]at h2;refine h2.imp λ{a b} h=>?_;have h:((a.1:Int)<(b.1:Int))\/((a.1:Int)=(b.1:Int)/\(a.2:Int)<=(b.2:Int)):=h;show a.1<b.1\/(a.1=b.1/\a.2<=b.2);lia
    have efar:cJ es=cJ fs:=Jl (by rw[J1 (fs:=fs)];funext x y;exact propext ⟨λh=>h.imp pe.mem_iff.mp pe.mem_iff.mp,λh=>h.imp pe.mem_iff.mpr pe.mem_iff.mpr⟩);refine⟨a1,zs,rfl,.inl ⟨bQ.of ha,λg hg=>?_⟩⟩;refine⟨(by show 2<=sizeLine;decide),λw2 hv=>?_⟩;have none_m:∀{A B:Hp}{b:Addr},af A B->B b=none->A b=none:=λ{A B b} s h=>by
     cases e:A b with
     |none=>rfl
     |some o=>rw[s _ _ e]at h;cases h
    have mg0:=none_m s2 hg;have tg:=aG (o:=.tup zs) hg;have tgm:=aG (o:=.tup zs) mg0;have b1:=oS (a:=g) (o:=.tup zs) s2;have mv0:=none_m b1 hv;have tv:=aG (o:=.tup [.int (n:Int),.ref g]) hv;have tvm:=aG (o:=.tup [.int (n:Int),.ref g]) mv0;have b2:=oS (a:=w2) (o:=.tup [.int (n:Int),.ref g]) b1;have rw2:Rp K (upd (upd Hm1 g (.tup zs)) w2 (.tup [.int (n:Int),.ref g])) (.ref w2) (wD n es):=by refine .tup ao (.cons (.int _) (.cons (.tup (tvm _ _ ao) ?_) .nil));rw[RV]at rz;exact(rz.mono tgm).mono tvm
    have sH2:=(sH.trans tg).trans tv;have sM2:=(s1.trans tgm).trans tvm;have old2:∀a,H a≠none->OE (upd (upd Hm1 g (.tup zs)) w2 (.tup [.int (n:Int),.ref g]) a) (Hm a):=λa ha=>by have na:∀{B:Hp}{c:Addr},af H B->B c=none->a≠c:=λ{B c} s h z=>ha (none_m s (z▸h));rw[ah (na (sH.trans tg) hv),ah (na sH hg)];exact old a Ri ha
    show kX 2 (.ref w2) _ (upd (upd H1 g (.tup zs)) w2 (.tup [.int (n:Int),.ref g])) _;generalize upd (upd H1 g (.tup zs)) w2 (.tup [.int (n:Int),.ref g])=H2 at sH2 b2⊢;generalize upd (upd Hm1 g (.tup zs)) w2 (.tup [.int (n:Int),.ref g])=Hm2 at rw2 sM2 old2 b2;clear tv tvm tg tgm b1 hv hg mv0 mg0;refine⟨_,rfl,?_⟩;refine⟨[wD n es,iD 0],[],Hm2,λus k r=>k=.ow false/\r=su (cJ es 0) n,xF,b2,.sh rw2 (.sh (.int _) .nil),⟨n,es,0,rfl,by lia,gd.perm pe,by lia,rfl,rfl⟩,?_,λ_ _ _ _ _ _ z=>z.elim⟩;rintro us k r u H3 Hm3 fp⟨rfl,rfl⟩s3 s4 fr3 old3 bk3 o3 new3;cases o3 with
    |@ow _ b ws _ hb rw3=>
     have ew:=Ez rw3;have sH3:af H2 H3:=λp o e=>fr3 p o Ri e;have fl:ws.all gQ=true:=by rw[ew,TN];exact QW.mpr λx _=>by show gQ (vo (cJ es 0 x))=true;cases cJ es 0 x<;>rfl
     have at3:∀x,x<n->ws[x]?=some (vo (cJ es 0 x)):=λx hx=>by rw[ew,R8,Ry hx];rfl
     refine⟨_,rfl,b,ws,rfl,.inl (bQ.of hb),rfl,fl,_,rfl,rF (λz=>?_) (λz=>?_)⟩
     .obtain⟨x0,hx0,z⟩:=U7.mp z;rw[ew]at hx0;obtain⟨x0,hx1,rfl⟩:=Q8.mp hx0;have hx1:=RU.mp hx1;have f0:cJ es 0 x0=none:=by
       cases e:cJ es 0 x0 with
       |none=>rfl
       |some d=>rw[e]at z;cases z
      obtain⟨y,hy,py,my⟩:=least (P:=λx=>cJ fs 0 x=none) (by show cJ fs 0 x0=none;rw[<-efar];exact f0);have hy2:y<n:=by lia
      refine⟨_,rfl,.inl ⟨rfl,_,bQ.of hb⟩,b,ws,.aK,y,.aK,rfl,rfl,hb,rfl,fl,?_,rfl,λk z hk hz=>?_,?_⟩;{rw[at3 y hy2,efar,py];rfl}
      .rw[at3 k (by lia),efar]at hz;cases hz;cases e:cJ fs 0 k with
       |none=>exact absurd e (my k hk)
       |some d=>rfl
      refine⟨(by show 1<=sizeLine;decide),λa ha=>?_⟩;refine⟨a,y,rfl,⟨by lia,by lia⟩,ao,λd hd ne=>⟨rfl,a,CA,some d,_,rfl,none_m (sH2.trans sH3) ha,ao,xA,?_⟩⟩;rw[ah ne]at hd;refine apart CA a d y _ hA (.apart rfl (by lia) (by lia) rfl oV hq hy2 py my) (λp o e=>?_) (none_m (sH2.trans sH3) ha) ao ?_
      .have e3:=sH3 _ _ (sH2 _ _ e);have n1:p≠a:=λz=>by rw[z,ha]at e3;cases e3
       have n2:p≠d:=λz=>by rw[z,hd]at e3;cases e3
       rw[ah n1,ah n1,ah n2,ah n1];exact e3
      rw[ah ne,ah ne,ao]
     refine⟨_,rfl,good _ _ H3 Hm3 (.vd rfl (by lia) (by lia) rfl oV hq (λy hy h=>z ?_) pe le) (rw2.mono s3) (sM2.trans s3) s4 (sH2.trans sH3) λa ha=>?_⟩;{refine U7.mpr ⟨_,RD (at3 y hy),?_⟩;rw[efar,h];rfl};refine(old3 a Ri λy=>?_).trans (old2 a ha);exact ha (none_m sH2 y)
  rintro c d C a H1 hC⟨rfl,z⟩fr ha hn;exact no C a H1 hC (.no (.inr (.inr z))) (λp o e=>fr p o Ri e) hn ha
 have c1:m<1:=by simpa using c1
 exact⟨_,rfl,mV (rz (.inl c1))⟩
def zA(T:Txt K mg)(h0:mq P w K mg base)(h1:k9 P w K mg base)(r:Rec K "made_web" ji):qu P w K mg base:=
 dh T.ns r (by ac_nf) λF=>by
 obtain⟨CH,CA,fA,fdA,n1,n2,FA,a1,a2,a3,a4,a5,a6,a7,a8⟩:=T.ap;obtain⟨h,X,G⟩:=T.ns;obtain⟨CW,hW,xW⟩:=T.Hj;obtain⟨C',e,xis,_⟩:=IT T.kx (c:="Apart") (by decide)
 rw[n2]at e;cases e;exact Je T.ze T.tuple hW xW (mg_of X G n2) a4 a5 a6 (FA.binds (by ac_nf)) (GH FA (mg_of X G n1) a1 a2 a3 a4 a7 xis.1) h0 h1 F
abbrev cB:Stmt:=top 24
def dG:bD ["many","ties","found","e"] ["many","ties"] (av cB):=by ac_rfl
noncomputable def hsuite (s:Stmt):WY:=match s with
 |.Try _ [.ExceptHandler _ _ b _] _ _ _=>b
 |_=>[]
abbrev zw:WY:=hsuite ((eK cB).getD 1 (.Pass ⟨0,0,0,0⟩))
def JL{f:Addr}{fd:FuncData}(N:∃h:Heap,K.In h/\h.Ns mainGlobals mg)(hi:mg "isinstance"=none)(kx:II K ["Apart","NoWeb"] ["Apart","NoPlace","NoThing","NoWeb","ValueError"]=true)(kc:DK K ["Apart","NoPlace","NoThing","NoWeb","ValueError"]=true)(ex:Dj K ["Apart","NoWeb"] "HailError"=true)(rA:∀CA,nsIn K mainGlobals "Apart"=some (some (.ref CA))->findIn K (.ref CA) "place"=some none)(hM:dB P w K mg base 3 "made_web" ["many","ties"] (GL mg K))(F:lU K "_law_told" "_law_told" cB f fd):dX P w K mg base (cH P w) 4 f fd ["many","ties"] (eO mg K [false,false] oF):=by
 refine F.IM dG (λvs H Q E h=>?_) (λcdv A outer s H vs Q E hr h=>?_);{obtain⟨ds,as,Hm,P',x,_,ag,⟨m,ps,rfl,_⟩,_⟩:=h;obtain⟨v1,v2,rfl,_⟩:=O0 ag;rfl};obtain⟨ds,as,Hm,P',x,sm,ag,⟨m,ps,rfl,hl,q⟩,ret,exn⟩:=h;obtain⟨v1,v2,rfl,rfl,r1,r2⟩:=O0 ag;cases r1;obtain⟨B',nB,hc⟩:=NT ex;obtain⟨h0,KX,G⟩:=id N;have hand:∀(c:Str)(C a:Addr)(H1:Hp)(D:Ends),c∈(["Apart","NoWeb"]:Wb)->nsIn K mainGlobals c=some (some (.ref C))->DP H1 a C->
   (c="NoWeb"->∀t ws,H1 t=none->D.nx [some (.int m),some v2,some (.str "noweb"),some (.ref a)] (upd H1 t (.tup ws)))->
   (c="Apart"->∃(d:Addr) (n:Nat),H1 a=some (.ext (dZ a C (some d)))/\H1 d=some (.xd [("place",.int (n:Int))])/\∀t ws t2,H1 t=none->upd H1 t (.tup ws) t2=none->D.nx [some (.int m),some v2,some (.ref t2),some (.ref a)] (upd (upd H1 t (.tup ws)) t2 (.tup [.str "apart",.int (n:Int)])))->
   k8 (qe (c8 (cH P w) P w K mg base ["many","ties","found","e"] "_law_told" (av cB) f cdv A outer s H E) a) zw D [some (.int m),some v2,some .aK,some (.ref a)] H1:=λc C a H1 D hcs hn xi qn qa=>by
  obtain⟨uA,wA,gA,rA',peA⟩:=vY (X:=qe (c8 (cH P w) P w K mg base ["many","ties","found","e"] "_law_told" (av cB) f cdv A outer s H E) a) N kc (B:="Apart") (by decide) rfl
  obtain⟨uW,wW,gW,rW,peW⟩:=vY (X:=qe (c8 (cH P w) P w K mg base ["many","ties","found","e"] "_law_told" (av cB) f cdv A outer s H E) a) N kc (B:="NoWeb") (by decide) rfl
  obtain⟨uV,wV,gV',rV,peV⟩:=vY (X:=qe (c8 (cH P w) P w K mg base ["many","ties","found","e"] "_law_told" (av cB) f cdv A outer s H E) a) N kc (B:="ValueError") (by decide) rfl
  obtain⟨us,ws,t,t1,t2,t3,t4,t5⟩:=Qz (X:=qe (c8 (cH P w) P w K mg base ["many","ties","found","e"] "_law_told" (av cB) f cdv A outer s H E) a) N kc (.cons (B:="NoPlace") (p:=⟨184,26,184,33⟩) (by decide) rfl (.cons (B:="NoThing") (p:=⟨184,35,184,42⟩) (by decide) rfl .nil))
  obtain⟨C',n',xis,k⟩:=IT kx hcs;rw[hn]at n';cases n';have kit:∀{B:Str}{u:Value}{v:V},B∈(["Apart","NoPlace","NoThing","NoWeb","ValueError"]:Wb)->AH K B=some u->gV u=some v->∀u2,RelV v u2->kitOne K (.ref C) u2=some (jN c B):=λ{B u v} hB g r u2 h2=>by obtain⟨u',e,k⟩:=k B hB;rw[g]at e;cases e;rw[zF r h2];exact k
  refine k8.of (bN (jV (PW.pt (pw_or (xJ (eZ Di (by rfl) hi Ud (aA (pv 3) (aA (pC t1) bx)))) (pw_or1 (Fc (xJ (eZ nK (by rfl) hi Ud (aA (pv 3) (aA (peV _) bx)))))))) (bN (fX (i:=2) dG.nd rfl (Or.inl rfl) jr)) (bN (jV (jY Bq (eZ nK (by rfl) hi Ud (aA (pv 3) (aA (peA _) bx))) (eZ nK (by rfl) hi Ud (aA (pv 3) (aA (peW _) bx))) (fV _)) (bN (fX (i:=2) dG.nd rfl (Or.inl rfl) jr)) (bN (jV (xJ (eZ nK (by rfl) hi Ud (aA (pv 3) (aA (peW _) bx)))) (bN (fX (i:=2) dG.nd rfl (Or.inl rfl) jr)) (bN (fX (i:=2) dG.nd rfl (Or.inl rfl) (pC (aA jr (aA (Km (pv 3) rfl) bx))))))))))) ?_
  have h0:∀t o,H1 t=none->DP (upd H1 t o) a C:=λt o ht=>by rcases xi with e|⟨d,fs,e1,e2⟩;{exact .inl (aG ht _ _ e)};exact .inr ⟨d,fs,aG ht _ _ e1,aG ht _ _ e2⟩
  have any0:(["NoPlace","NoThing"]:Wb).any (jN c)=false:=by rcases QX.mp hcs with rfl|hcs;{decide+kernel};rw[QS.mp hcs];decide+kernel
  have bV:jN c "ValueError"=true:=by rcases QX.mp hcs with rfl|hcs;{decide+kernel};rw[QS.mp hcs];decide+kernel
  refine⟨_,rfl,t2 _ _ _ ⟨by rw[t3];decide,λt ht=>?_⟩⟩
  have xi:=h0 t (.tup ws) ht;refine⟨a,C,t,ws,_,rfl,xi,xis,ao,(λxU hu=>by rw[t4 _ hu];exact t5 C c k),_,rfl,?_⟩
  rw[any0];refine kG ?_;refine⟨_,rfl,a,C,wV,_,rfl,xi,xis,kit (by decide) gV' rV,_,rfl,?_⟩
  rw[bV];refine kG ?_;refine⟨_,rfl,a,C,wA,_,rfl,xi,xis,kit (by decide) gA rA',_,rfl,a,C,wW,_,rfl,xi,xis,kit (by decide) gW rW,?_⟩
  refine⟨rfl,_,rfl,?_⟩;rcases QX.mp hcs with rfl|hcs
  .rw[show decide (V.bl (jN "Apart" "Apart")=V.bl (jN "Apart" "NoWeb"))=false by decide+kernel]
   refine kG ?_;refine⟨_,rfl,a,C,wW,_,rfl,xi,xis,kit (by decide) gW rW,_,rfl,?_⟩
   rw[show jN "Apart" "NoWeb"=false by decide+kernel]
   refine kG ?_;obtain⟨d,n,ha,hd,q⟩:=qa rfl;refine⟨_,rfl,a,C,d,_,.int (n:Int),rfl,aG ht _ _ ha,aG ht _ _ hd,xis.1,rA C hn,?_,(by show 2<=sizeLine;decide),λt2 h2=>q t ws t2 ht h2⟩
   rw[Rn,Uv]
  .cases QS.mp hcs;rw[show decide (V.bl (jN "NoWeb" "Apart")=V.bl (jN "NoWeb" "NoWeb"))=false by decide+kernel]
   refine kG ?_;refine⟨_,rfl,a,C,wW,_,rfl,xi,xis,kit (by decide) gW rW,_,rfl,?_⟩
   rw[show jN "NoWeb" "NoWeb"=true by decide+kernel]
   refine mV ?_;exact qn rfl t ws ht
 refine⟨_,cg (fX (i:=2) dG.nd rfl (Or.inl rfl) sR)
  (cg (Lo (i:=3) rfl rfl rfl rfl (mg_of KX G nB) dG.nd rfl rfl
    (λpins Hd=>bN (fX (i:=2) dG.nd rfl (Or.inl rfl) (J8 rfl hM hr rfl (aA (pv 0) (aA (pv 1) bx)))))
    (λa=>gZ))
  (bN (pM (pv 2)))),?_⟩
 have exm:∀c∈(["Apart","NoWeb"]:Wb),∀C,mg c=some (.ref C)->nsIn K mainGlobals c=some (some (.ref C))/\exmOne K (.ref C) (.ref B')=some true:=λc hcs C hC=>by obtain⟨C',e1,e2⟩:=hc c hcs;have e3:=(mg_of KX G e1).symm.trans hC;cases e3;refine⟨e1,e2.trans ?_⟩;rcases QX.mp hcs with rfl|hcs;{decide+kernel};rw[QS.mp hcs];decide+kernel
 have fin:∀{H1:Hp}{u:V}{d:PyData}{Hm1:Hp},WR m ps d->Rp K Hm1 u d->af Hm Hm1->af Hm1 H1->af H H1->(∀a,H a≠none->OE (Hm1 a) (Hm a))->Q u H1:=λ{H1 u d Hm1} wr rp s1 s2 s3 old=>
  ret [] .sh d u H1 Hm1 [] (q d wr) s1 s2 (λp o _ e=>s3 p o e) (λa _ ha=>old a ha) .nil (.sh rp) (λa h=>by cases h)
 refine λpins=>⟨_,rfl,_,rfl,m,ps,v2,Hm,rfl,sm,r2,hl,λd u H' Hm' wr rp s1 s2 s3 old=>⟨_,rfl,fin wr rp s1 s2 s3 old⟩,λC a H' hC wr s1 hn ha=>?_,λC a d x H' hC wr s1 hn ha hd=>?_⟩;{obtain⟨e1,e2⟩:=exm "NoWeb" (by decide) C hC;refine⟨C,a,rfl,rfl,e2,hand "NoWeb" C a H' _ (by decide) e1 (.inl ha) (λ_ t ws ht=>?_) (λz=>absurd z (by decide))⟩;exact⟨_,rfl,fin wr (.str _) (af.refl Hm) (λp o e=>aG ht _ _ (s1 _ _ (sm _ _ e))) (λp o e=>aG ht _ _ (s1 _ _ e)) λa _=>.inl rfl⟩};obtain⟨e1,e2⟩:=exm "Apart" (by decide) C hC;refine⟨C,a,rfl,rfl,e2,hand "Apart" C a H' _ (by decide) e1 (.inr ⟨d,_,ha,hd⟩) (λz=>absurd z (by decide)) (λ_=>⟨d,x,ha,hd,λt ws t2 ht h2=>?_⟩)⟩;have n2:H t2=none:=by
  cases e:H t2 with
  |none=>rfl
  |some o=>rw[aG ht _ _ (s1 _ _ e)]at h2;cases h2
 have m2:Hm t2=none:=by
  cases e:Hm t2 with
  |none=>rfl
  |some o=>rw[sm _ _ e]at n2;cases n2
 refine⟨_,rfl,fin (Hm1:=upd Hm t2 (.tup [.str "apart",.int (x:Int)])) wr (.tup ao (.cons (.str _) (.cons (.int _) .nil))) (aG m2) ?_ (λp o e=>aG h2 _ _ (aG ht _ _ (s1 _ _ e))) λb hb=>.inl ?_⟩;{exact oS λp o e=>aG ht _ _ (s1 _ _ (sm _ _ e))};rw[ah λz=>hb (by rw[z];exact n2)]
def zz(T:Txt K mg)(h0:qu P w K mg base)(r:Rec K "_law_told" cB):qk P w K mg base:=
 dh T.ns r (by ac_nf) λF=>JL T.ns T.isinstance T.kx T.kc T.zv (λCA h=>by
  obtain⟨_,_,_,_,_,n2,_,_,_,_,_,_,_,_,a8⟩:=T.ap;rw[n2]at h;cases h;exact a8) h0 F
abbrev lF:Stmt:=top 21
def fO:bD ["web","place","found","turn","met","one","other","here"] ["web","place"] (av lF):=by ac_rfl
def zk(T:Txt K mg)(r:Rec K "_law_fars" lF):qx P w K mg base:=
 dh T.ns r (by ac_nf) λF=>fF (m:=7) F fO rfl (by decide) (d:=iF) (λcdv A outer s H Ex hr=>have hu:=hr.units;aj (aZ 2 fO.nd (C0 (aE (xV 1) (aE (xI) a0)))) (aj (fE RZ fO.nd (DX T.range (aE (xI) (aE (cP hu (aP 0 (aE (xI) a0))) a0))) (gN 3) (aj (aZ 4 fO.nd (dU a0)) (aj (fE RZ fO.nd (oR (xH (aE (cP hu (aP 0 (aE (xI) a0))) (aE (mW (aE (pF T.len (aE (cP hu (aP 0 (aE (xI) a0))) a0)) (aE (P0 T.int (aE (QD (aE (pF T.len (aP 2 a0)) (aE (cP hu (aP 0 (aE (xI) a0))) a0))) a0)) a0))) a0)))) (gT (gC 5 (gC 6 g0))) (d7 (fM (b8.st (gz.ku (dY (zL hu (aP 5 (aP 2 a0))) (dY (jt hu (aE (cP hu (aP 2 (aP 5 a0))) (aE (mK (aP 3 (aE (xI) a0))) a0))) (cR (BQ hu (aP 6 (aP 2 a0)))))))) (aq (dR (xM 4 cK b6 SG SH (eC (xV 6) e0)))) (bF)) (aq (fM (b8.st (gz.ku (dY (zL hu (aP 6 (aP 2 a0))) (dY (jt hu (aE (cP hu (aP 2 (aP 6 a0))) (aE (mK (aP 3 (aE (xI) a0))) a0))) (cR (BQ hu (aP 5 (aP 2 a0)))))))) (aq (dR (xM 4 cK b6 SG SH (eC (xV 5) e0)))) (bF))))) (aq (fE RZ fO.nd (oR (xV 4)) (gN 7) (aq (oq 2 hu (xV 3) (xV 7)))))))) (aq (jH (Bl (vs:=["here"]) (NB:=["here","found"]) (ix:=[2]) (by rfl) (l6 T.range (aE (cP hu (aP 0 (aE (xI) a0))) a0)) (λ_ _ _ _=>gN 0) (λ_ _ _ _=>.nil) (λ_ _ _ _ _=>lg (Qg 1 0 hu (nG (aE (xI) a0))))))))) PB.Lg
abbrev nN:Stmt:=top 23
def iH:bD ["many","ties","met","one","other","tie","fars"] ["many","ties"] (av nN):=by ac_rfl
def By(T:Txt K mg)(h0:qx P w K mg base)(r:Rec K "_law_due" nN):rR P w K mg base:=
 dh T.ns r (by ac_nf) λF=>fF (m:=5) F iH rfl (by decide) (d:=iT Bc) (λcdv A outer s H Ex hr=>have hu:=hr.units;aj (fM (b8.st (gz.ku (kM (Dw (aP 0 (aE (xI) a0))) (cR (zP (aP 0 (aE (xI) a0))))))) (aq (jH (xS))) (bF)) (aj (aZ 2 iH.nd (dU a0)) (aj (fE RZ iH.nd (oR (xV 1)) (gT (gC 3 (gC 4 g0))) (aj (aZ 5 iH.nd (bZ (aE (Fw T.min (aP 3 (aP 4 a0))) (aE (G0 T.max (aP 3 (aP 4 a0))) a0)))) (aj (fM (b8.st (gz.ku (kM (jt hu (aP 3 (aP 4 a0))) (kM (Dw (aE (cP hu (aP 5 (aE (xI) a0))) (aE (xI) a0))) (kM (OR (aE (cP hu (aP 5 (aE (xI) a0))) (aP 0 a0))) (cR (zL hu (aP 5 (aP 2 a0))))))))) (aq (jH (xS))) (bF)) (aq (dR (xM 2 cK b6 SG SH (eC (xV 5) e0))))))) (aj (aZ 6 iH.nd (aN h0 aO hr (aE (bZ (aP 0 (aE (yg T.tuple (aP 1 a0)) a0))) (aE (xI) a0)))) (aj (fM (b8.st (zL hu (aE (nG (aE (xI) a0)) (aP 6 a0)))) (aq (jH (bZ (aE (xS) (aE (OI 6 hu) a0))))) (bF)) (aq (jH (bZ (aP 0 (aE (yg T.tuple (aE (Df T.sorted (aP 2 a0)) a0)) a0)))))))))) PB.MI
abbrev wg:Stmt:=top 25
def jq:bD ["script","k","cell","pot","web","many","ties","handed"] ["script"] (av wg):=by ac_rfl
def M9(T:Txt K mg)(h0:oJ P w K mg base)(h1:rT P w K mg base)(h2:tD P w K mg base)(h3:nY P w K mg base)(h4:eg P w K mg base)(h5:qk P w K mg base)(h6:rR P w K mg base){f:Addr}{fd:FuncData}(F:lU K "law" "law" wg f fd):dX P w K mg base (cH P w) 5 f fd ["script"] (eO mg K [false] uL):=
 fF (m:=7) F jq rfl (by decide) (d:=ny Bu Hl HJ BB kP oF oF) (λcdv A outer s H Ex hr=>have hu:=hr.units;aj (fE RZ jq.nd (M0 T.enumerate (aN h0 aO hr (aP 0 (aE (xI) a0)))) (gT (gC 1 (gC 2 g0))) (aj (aZ 3 jq.nd (aN h1 aO hr (aP 2 (aP 1 a0)))) (aj (aZ 4 jq.nd (aN h2 aO hr (aP 3 (aE (xI) a0)))) (aj (aZ 5 jq.nd (cP hu (aP 4 (aE (xI) a0)))) (aj (aZ 6 jq.nd (aN h3 aO hr (aP 3 (aP 5 (aE (xH (aE (cP hu (aP 4 (aE (xI) a0))) (aE (xI) a0))) a0))))) (d7 (fM (b8.st (jt hu (aE (aN h4 aO hr (aP 3 (aE (xI) a0))) (aE (xI) a0)))) (aq (aZ 5 jq.nd (cP hu (aE (dU (aE (xI) (aE (xI) (aE (mK (aE (nG (aE (xI) a0)) (aE (aN h4 aO hr (aP 3 (aE (xP (aE (xI) (aE (xI) a0))) a0))) a0))) (aE (gE (aE (xI) (aE (aN h4 aO hr (aP 3 (aE (xP (aE (xI) (aE (xI) a0))) a0))) a0))) a0))))) (aE (aN h4 aO hr (aP 3 (aE (xI) a0))) a0))))) (bF)) (aj (aZ 7 jq.nd (Ig T.list (aP 6 a0))) (aq (fM (b8.st (gz.ku (kM (IS hu (aE (aN h5 aO hr (aP 5 (aP 7 a0))) (aE (aN h6 aO hr (aP 5 (aP 6 a0))) a0))) (cR (IS hu (aP 7 (aP 6 a0))))))) (aq (jH (xB))) (bF)))))))))) (aq (jH (xB)))) PB.JU
end
def all_mk{l:OpenLaw}{w:World}{K:Frag}{h:Heap}{mg:WC}{fa:Addr}(X:K.In h)(G:h.Ns mainGlobals mg)(hfa:mg "law"=some (.ref fa))(qd00:Rec K "_law_folded" jF)(qd01:Rec K "_law_cells" kH)(qd02:Rec K "_law_pot" nI)(qd03:Rec K "_law_take" lH)(qd04:Rec K "_law_order" ki)(qd05:Rec K "_law_bunches" iZ)(qd06:Rec K "_law_ties" ly)(qd07:Rec K "_law_web" nC)(qd08:Rec K "_law_spoilt" jD)(qd09:Rec K "neighbour_lists" f6)(qd10:Rec K "fars_or_none" iL)(qd11:Rec K "sorted_ties" dI)(qd12:Rec K "made_web" ji)(qd13:Rec K "_law_told" cB)(qd14:Rec K "_law_fars" lF)(qd15:Rec K "_law_due" nN)(qd16:Rec K "law" wg)(zabs:nsIn K mainGlobals "abs"=some none)(zenumerate:nsIn K mainGlobals "enumerate"=some none)(zint:nsIn K mainGlobals "int"=some none)(zisinstance:nsIn K mainGlobals "isinstance"=some none)(zlen:nsIn K mainGlobals "len"=some none)(zlist:nsIn K mainGlobals "list"=some none)(zmax:nsIn K mainGlobals "max"=some none)(zmin:nsIn K mainGlobals "min"=some none)(zrange:nsIn K mainGlobals "range"=some none)(zset:nsIn K mainGlobals "set"=some none)(zsorted:nsIn K mainGlobals "sorted"=some none)(ztuple:nsIn K mainGlobals "tuple"=some none)(gMOST_PLACES:∃t,nsIn K mainGlobals "MOST_PLACES"=some (some (.int 60 t)))(xNoWeb:K1 K "NoWeb")(ap:Bv K mL)(ykx:II K ["Apart","NoWeb"] ["Apart","NoPlace","NoThing","NoWeb","ValueError"]=true)(ykc:DK K ["Apart","NoPlace","NoThing","NoWeb","ValueError"]=true)(yexHailError:Dj K ["Apart","NoWeb"] "HailError"=true) : ∃fd:FuncData,(∀(s:Shared)(v:Value),BindsTo s fd ⟨[v],[]⟩ [("script",v)])/\∀base:Heap,K.In base->base.Ns mainGlobals mg->dX l.prog w K mg base (cH l.prog w) 5 fa fd ["script"] (eO mg K [false] uL):=by have T:Txt K mg:=⟨S7 X G zabs,S7 X G zenumerate,S7 X G zint,S7 X G zisinstance,S7 X G zlen,S7 X G zlist,S7 X G zmax,S7 X G zmin,S7 X G zrange,S7 X G zset,S7 X G zsorted,S7 X G ztuple,(let⟨t,ht⟩:=gMOST_PLACES;⟨t,mg_of X G ht⟩),(let⟨C,h1,h2⟩:=xNoWeb;⟨C,mg_of X G h1,h2⟩),ykx,ykc,yexHailError,ap,⟨h,X,G⟩⟩;obtain⟨fl,fdl,nl,Fl⟩:=qd16;have e:=hfa.symm.trans (mg_of X G nl);cases e;refine⟨fdl,?_,λbase _ _=>?_⟩;{obtain⟨_,_,_,_,_,_,_,_,_,rfl,_,_⟩:=Fl.ex;exact λs v=>.of_eq rfl};have Hd00:=vO (P:=l.prog) (w:=w) (base:=base) T qd00;have Hd01:=yM T Hd00 qd01;have Hd02:=B9 (P:=l.prog) (w:=w) (base:=base) T qd02;have Hd03:=zf (P:=l.prog) (w:=w) (base:=base) T qd03;have Hd04:=yH T Hd03 qd04;have Hd05:=t9 T Hd03 qd05;have Hd06:=zu T Hd03 Hd05 qd06;have Hd07:=BO T Hd03 Hd04 Hd06 qd07;have Hd08:=vV T Hd03 qd08;have Hd09:=om (P:=l.prog) (w:=w) (base:=base) T qd09;have Hd10:=sC T Hd09 qd10;have Hd11:=tQ (P:=l.prog) (w:=w) (base:=base) T qd11;have Hd12:=zA T Hd11 Hd10 qd12;have Hd13:=zz T Hd12 qd13;have Hd14:=zk (P:=l.prog) (w:=w) (base:=base) T qd14;have Hd15:=By T Hd14 qd15;exact M9 T Hd01 Hd02 Hd07 Hd08 Hd03 Hd13 Hd15 Fl
def walk{l:OpenLaw}{q:Program}{loose:Wb}{XP:(WC)->Heap->Prop}{YP:World->Heap->Prop}{d:DefRec}{K:Params->Frag}(hn:l.most=some 63)(hdf:d.params.defaults=[])(hY:∀(w:World)(h:Heap),YP w h->(K w.params).In h)(F:∀(w:World)(mg:WC)(fa:Addr)(h:Heap),(K w.params).In h->h.Ns mainGlobals mg->mg d.name=some (.ref fa)-> ∃fd:FuncData,(∀(s:Shared)(u:Value),BindsTo s fd ⟨[u],[]⟩ [("script",u)])/\∀base:Heap,(K w.params).In base->base.Ns mainGlobals mg->dX l.prog w (K w.params) mg base (cH l.prog w) 5 fa fd ["script"] (eO mg (K w.params) [false] uL)) : WalkO q loose XP YP l.row.toRowW d [] (λf vs=>PySem.call f vs):=Cr hn hdf ⟨rfl,by decide,by decide⟩ hY F
end Lm
open PySem PySem.W PyProof.Rows Dv
set_option maxRecDepth 100000 in
set_option maxHeartbeats 0 in
theorem PySem.Challenge.cw_farhail_k03_webs_refused_holds : PySem.Challenge.rw_farhail_k03_webs_refused.Holds := by
 w_on;o_law;k_head;(case hw=>w_witness2)
 k_fill
 refine Lm.walk (l:=PySem.Challenge.rw_farhail_k03_webs_refused) rfl rfl (λw h Wd=>PySem.W.kIn_of Wd) ?F
 case F=>
  intro w mg fa h KX G hmg
  refine' Lm.all_mk KX G hmg ?_ ?_ ?_ ?_ ?_ ?_ ?_ ?_ ?_ ?_ ?_ ?_ ?_ ?_ ?_ ?_ ?_ ?_ ?_ ?_ ?_ ?_ ?_ ?_ ?_ ?_ ?_ ?_ ?_ ?_ ?_ ?_ ?_ ?_ ?_
  iterate 17
   apply Ma
   iterate 4 (first|k_is|kernel_rfl)
  iterate 13
   first|k_is|kernel_rfl|(apply Exists.intro;first|k_is|kernel_rfl)
  iterate 1
   apply Jz
   iterate 2 (first|k_is|kernel_rfl)
  apply N6
  iterate 14 (first|k_is|kernel_rfl)
  all_goals first|kernel_rfl|k_is
