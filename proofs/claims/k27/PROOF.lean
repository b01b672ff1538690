import PyProof.Rows.All
import PySem.PyData
import Wide.All
import OpenK.AllK
import Wide.FinOn
import Lean
import PyProof.EqAt
import PyProof.EqKinds
import PyProof.TupleCall
import PyProof.SetKind
import PyProof.TupleKey
import PyProof.IsRules
import PyProof.SetRoads
import PyProof.RaisesMany
import PyProof.RulesTry
import PyProof.ExcClass2
import KE.KTryMore
import PyProof.RulesAs
import PyProof.NsDelKeeps
import KE.KDictList
import PyProof.P3In
import PyProof.Rows.SortShellK
import PyProof.TupleOfSeq
import PyProof.WalkInts
import PyProof.SeqI3
import PyProof.SumAnyB
import PyProof.Rows.SeqWords
import PyProof.ListRange
import PyProof.DictValues
import PyProof.DictWalks
import PyProof.NeKinds
import PyProof.FactsAll.list_2
import PySem.Challenge.RW_farhail_k27_whole_numbered_in_order
set_option linter.all false
local macro_rules | `(tactic| ac_rfl) => `(tactic| exact⟨rfl,rfl,rfl,by decide +kernel,rfl,by decide +kernel,by decide +kernel⟩)
set_option genSizeOf false
set_option genInjectivity false
section
open PySem
abbrev ZG:=List (PyData×PyData)
abbrev ZH:=Array (Option Value)
abbrev ZI:=Value->Shared->Prop
abbrev ZJ:=List Comprehension
abbrev ZK:=Str->Option Value
abbrev ZL:=List (Addr×Obj)
abbrev ZM:=List (List Nat)
abbrev ZN:=Array DictEntry
abbrev ZO:=Int->Int->Bool
abbrev ZP:=List (Nat×Nat)
abbrev ZQ:=List (Int×Int)
abbrev ZR:=PySem.W.Frag
abbrev ZS:=Option Value
abbrev ZT:=Array Value
abbrev ZU:=List PyData
abbrev ZV:=Option Addr
abbrev ZW:=List Value
abbrev ZX:=List Addr
abbrev ZY:=List Bool
abbrev ZZ:=List Expr
abbrev Za:=List Stmt
abbrev Zb:=List Nat
abbrev Zc:=List Int
abbrev Zd:=List Str
end
section
open PySem PySem.Spec PyProof.Rows PySem.W
def U0:=@wpAny_bind
def U1:=@List.mem_cons_self
def U3:=@wpAny_pure
def U4:=@List.mem_cons_of_mem
def U5:=@Nat.le_refl
def U6:=@List.mem_cons
def U7:=@List.length_map
def U8:=@List.mem_singleton
def U9:=@List.mem_map
def UE:=@List.mem_append
def UG:=@Heap.lt_size
def UH:=@Nat.ne_of_lt
def UI:=@List.map_cons
def UJ:=@Bool.and_eq_true
def UK:=@List.getElem?_map
def UL:=@List.length_cons
def UM:=@List.not_mem_nil
def UN:=@wpS_bind
def UO:=@List.size_toArray
def UP:=@List.mem_filter
def UQ:=@Heap.get?_push_of_some
def UR:=@List.length_append
def US:=@List.all_eq_true
def UT:=@of_decide_eq_true
def UU:=@List.all_cons
def UW:=@List.length_range
def UX:=@List.mem_range
def UY:=@wpS_pure
def UZ:=@Nat.lt_of_lt_of_le
def V0:=@List.getElem?_eq_getElem
def V1:=@List.map_map
def V2:=@List.map_append
def V3:=@Nat.zero_le
def V4:=@Nat.le_trans
def V5:=@Bool.false_ne_true
def V6:=@decide_eq_true
def V7:=@List.mem_of_getElem?
def V8:=@Heap.get?_push_size
def V9:=@wpAny_mono
def VA:=@List.nodup_cons
def VB:=@List.mem_append_right
def VC:=@Nat.lt_irrefl
def VD:=@List.getElem?_eq_none
def VE:=@List.getElem?_eq_some_iff
def VF:=@List.append_nil
def VG:=@Array.getElem?_toList
def VH:=@decide_eq_false
def VI:=@List.lookup_cons
def VJ:=@List.getD_eq_getElem?_getD
def VL:=@List.mem_flatMap
def VM:=@decide_eq_true_eq
def VN:=@List.sum_cons
def VO:=@PassesOwn.leaving
def VP:=@List.length_set
def VQ:=@List.getElem?_range
def VR:=@List.nodup_append
def VS:=@List.take_length
def VT:=@List.map_congr_left
def VU:=@mg_none_of
def VV:=@Nat.lt_or_ge
def VW:=@List.filterMap_cons
def VX:=@wpAny_holding
def VY:=@List.nodup_nil
def VZ:=@or_false
def Va:=@wpAny_newObj_type
def Vb:=@Array.getElem?_eq_getElem
def Vc:=@wpAny_call_entry
def Vd:=@List.append_assoc
def Ve:=@PySem.W.kia_one
def Vf:=@List.length_take
def Vg:=@List.length_replicate
def Vh:=@List.nodup_range
def Vi:=@List.Sublist.nodup
def Vj:=@List.pairwise_cons
def Vk:=@Nat.le_of_lt
def Vl:=@Array.length_toList
def Vm:=@Nat.ne_of_gt
def Vn:=@Heap.get?_update_other
def Vo:=@List.flatten_cons
def Vp:=@wpAny_rule
def Vq:=@Heap.SameBut.update
def Vr:=@wpS_mono
def Vs:=@wpS_forRange
def Vt:=@List.filter_sublist
def Vu:=@List.ext_getElem?
def Vv:=@Bool.eq_iff_iff
def Vw:=@True.intro
def Vx:=@wpAny_loadPart'
def Vy:=@if_false
def Vz:=@Heap.get?_update_self
def W0:=@Nat.not_lt_zero
def W2:=@List.getElem?_of_mem
def W3:=@List.getElem_mem
def W4:=@List.length_filter_le
def W5:=@List.filter_cons_of_pos
def W6:=@List.filter_cons_of_neg
def W7:=@Option.map_eq_some_iff
def W8:=@Array.getD_eq_getD_getElem?
def W9:=@List.filter_cons
def WA:=@Nat.lt_succ_of_lt
def WB:=@Nat.le_add_right
def WC:=@List.pairwise_map
def WD:=@List.flatten_append
def WH:=@List.mem_flatten
def WI:=@List.getElem?_append_right
def WJ:=@wpAny_field
def WK:=@Classical.byContradiction
def WM:=@List.pairwise_iff_getElem
def WN:=@wpAny_setField
def WO:=@Obj.data_mapFields
def WQ:=@Nat.lt_succ_self
def WR:=@codeAny_builtin
def WU:=@Heap.size_push
def WV:=@Bool.or_eq_true
def WX:=@PySem.F.slot_list_append
def WY:=@PySem.F.type_list_append
def WZ:=@List.Pairwise.imp_of_mem
def Wa:=@Nat.mul_le_mul
def Wb:=@List.contains_eq_mem
def Wc:=@wpAny_truthy_bool
def Wd:=@wpAny_passesOwn
def We:=@List.getElem?_append_left
def Wf:=@List.length_drop
def Wg:=@eq_of_beq
def Wh:=@List.replicate_succ
def Wi:=@Nat.le_succ
def Wj:=@call_meets
def Wk:=@List.length_singleton
def Wl:=@List.any_cons
def Wm:=@Nat.mod_lt
def Wn:=@Nat.lt_trichotomy
def Wo:=@Nat.not_lt
def Wq:=@List.all_map
def Wr:=@List.cons.injEq
def Ws:=@List.length_pos_of_mem
def Wt:=@Nat.min_eq_left
def Wu:=@Nat.min_eq_right
def Wv:=@List.getElem?_set
def Ww:=@Int.ofNat_lt
def Wx:=@wpAny_standAt
def Wy:=@Int.toNat_natCast
def Wz:=@wpAny_callSpecial?_slot
def X0:=@wpAny_typeOf
def X3:=@List.find?_cons
def X4:=@Nat.zero_lt_succ
def X5:=@Int.emod_lt_of_pos
def X6:=@Int.emod_nonneg
def X7:=@Nat.zero_add
def X8:=@Nat.le_of_eq
def XA:=@Around.under_plainId
def XD:=@wpAny_of_eq
def XE:=@wpAny_askSetting
def XF:=@Bool.false_eq_true
def XG:=@Nat.le_total
def XH:=@List.cons_ne_nil
def XI:=@List.Pairwise.filter
def XJ:=@Heap.get?_none_of_le
def XM:=@List.mem_append_left
def XN:=@List.getElem?_set_ne
def XO:=@PyProof.Rows.callWith_type1
def XQ:=@codeAny_mono
def XR:=@PySem.mem_of_lookup
def XS:=@List.map_nil
def XT:=@beq_self_eq_true
def XU:=@Array.getElem?_eq_none
def XW:=@List.filterMap_append
def XX:=@List.pairwise_lt_range
def XY:=@wpAny_pyIter_list
def XZ:=@Obj.isFreed_of_fields
def Xa:=@plainId_quiet
def Xb:=@wpAny_attempt
def Xc:=@List.getElem_of_mem
def Xd:=@List.take_succ
def Xe:=@List.nil_append
def Xf:=@Nat.le_succ_of_le
def Xg:=@Bool.not_eq_true'
def Xh:=@List.find?_cons_of_pos
def Xi:=@List.find?_cons_of_neg
def Xj:=@List.take_of_length_le
def Xk:=@List.drop_length
def Xl:=@List.filter_congr
def Xm:=@Nat.mul_assoc
def Xn:=@Int.natCast_nonneg
def Xo:=@List.getElem?_set_self
def Xp:=@wpAny_execs_nil
def Xq:=@Bool.false_and
def Xr:=@List.mem_filterMap
def Xs:=@List.of_mem_zip
def Xu:=@PyProof.Rows.slot_tuple_getitem
def Xv:=@List.eraseIdx_cons_succ
def Xw:=@Nat.succ_le_succ
def Xx:=@List.foldl_cons
def Xy:=@tupleKind_room_in1
def Xz:=@Nat.le_of_not_lt
def Y0:=@Array.getElem?_eq_some_iff
def Y3:=@List.range_succ
def Y4:=@wpAny_setState_of
def Y5:=@PyProof.Rows.F.plain_set_update_loop
def Y6:=@List.length_eq_zero_iff
def Y7:=@wpAny_ite_split
def Y8:=@wpAny_fieldsOf
def Y9:=@wpAny_newList
def YA:=@listItems_at
def YB:=@List.sum_append
def YC:=@Nat.sub_zero
def YD:=@List.any_eq_true
def YE:=@Option.toList_none
def YF:=@Option.toList_some
def YG:=@Nat.add_sub_cancel_left
def YH:=@PySem.F.plainAttrs_list
def YI:=@decide_eq_false_iff_not
def YJ:=@wpAny_dictEntries
def YK:=@F.slot_dict_valueiterator_next
def YL:=@wpAny_typeNameOfWhole_valiter
def YM:=@wpAny_typeNameOf_valiter
def YN:=@List.getElem_toArray
def YO:=@List.map_take
def YQ:=@List.Pairwise.map
def YR:=@List.isEmpty_map
def YS:=@List.perm_ext_iff_of_nodup
def YT:=@List.filter_map
def YU:=@List.eq_nil_of_length_eq_zero
def YV:=@Nat.lt_of_le_of_lt
def YW:=@List.getElem_map
def YX:=@List.length_pos_iff
def YY:=@Array.find?_toList
def YZ:=@List.any_eq_false
def Yb:=@PySem.W.kitx_list
def Yc:=@wpAny_Call_Name_kw
def Yd:=@List.getElem?_replicate
def Ye:=@List.take_sublist
def Yg:=@Nat.min_le_right
def Yh:=@Calls.callWith_builtin
def Yi:=@Nat.lt_succ_of_le
def Yj:=@Array.size_extract
def Yk:=@Classical.not_not
def Yl:=@List.range_eq_range'
def Ym:=@Array.getElem?_setIfInBounds
def Yn:=@List.getElem?_toArray
def Yo:=@List.Perm.append_left
def Yp:=@wpAny_pyIter_slot
def Yq:=@Obj.cls_mapFields
def Yr:=@wpAny_isInstance
def Ys:=@PyProof.Rows.boot_list
def Yt:=@wpAny_comprehension_free
def Yu:=@PyProof.Rows.boot_int
def Yv:=@PyProof.Rows.boot_sorted
def Yw:=@wpAny_isOneOf_valiter
def Yx:=@List.mem_erase_of_ne
def Yy:=@List.length_erase_of_mem
def Yz:=@Nat.max_eq_right
def Z0:=@List.mem_of_mem_take
def Z1:=@List.isEmpty_nil
def Z2:=@List.mem_iff_getElem?
def Z3:=@Decidable.of_not_not
def Z4:=@List.drop_eq_getElem_cons
def Z5:=@List.filter_eq_nil_iff
def Z6:=@List.exists_mem_of_ne_nil
def Z7:=@List.pairwise_singleton
def Z8:=@List.ne_nil_of_mem
def Z9:=@PyProof.Rows.slot_tuple_getitem.lookup
def ZA:=@List.eraseIdxIfInBounds_toArray
def ZC:=@PyProof.Rows.F.entry_set_update_loop
def ZD:=@F.entry_dict_valueiterator_next
def ZE:=@F.args_dict_valueiterator_next_1
def ZF:=@List.length_pos_iff_exists_mem
end
noncomputable section
namespace PySem.W.Fast
def tw55275257209723941:=Nat
def tw2570518990733155196:=Nat
def tw5020721410772924129:=Nat
def tw4984412597540265302:=Nat
def tw5823385163902321220:=Nat
def tw13414471115026305992:=Nat
def tw1229284205162744275:=Nat
def tw12647314301566732289:=Nat
def tw17443395657346386184:=Nat
def tw6834211501359905985:=Nat
def tw10967246709686800459:=Nat
def tw1473531549948914429:=Nat
def tw9569682257064383762:=Nat
def tw8479030107847567270:=Nat
def tw8920225846697143536:=Nat
def tw16706788063444921594:=Nat
def tw1675182770730230938:=Nat
def tw11254113238567093418:=Nat
def tw4939243436384465586:=Nat
def tw18079672062068392868:=Nat
def tw15252198300302421479:=Nat
def tw9943399834665191964:=Nat
def tw10036191673926684623:=Nat
def tw13381434252407925240:=Nat
def tw7799048604502848323:=Nat
def tw548161699851043128:=Nat
def tw7999912743453583493:=Nat
def tw12069630550101534382:=Nat
def tw9069868021333351441:=Nat
def tw12299526315985126753:=Nat
def tw4052015077434414205:=Nat
def tw17521234218923338742:=Nat
def tw7873379961724123835:=Nat
def tw6038592653267818480:=Nat
def tw14999857770990187756:=Nat
def tw706627542845339977:=Nat
def tw15605189419748288343:=Nat
def tw13853798935916968739:=Nat
def tw9658493754897093420:=Nat
def tw11340368880677478585:=Nat
def tw9413382716579532529:=Nat
def tw16740570527715366486:=Nat
def tw3213365735304091528:=Nat
def tw12084491270101582597:=Nat
def tw8129598089869299050:=Nat
def tw6546956098297480939:=Nat
def tw1601000719879944144:=Nat
def tw12813569676365586526:=Nat
def tw2614826276521911187:=Nat
def tw12096085961286316429:=Nat
def tw858305632419400171:=Nat
def tw15192756526216419467:=Nat
def tw17899391791519418621:=Nat
def tw5032937998554457752:=Nat
def tw1463060035875741162:=Nat
def tw3894044384519291054:=Nat
def tw14416994800751783005:=Nat
def tw18425678450479007051:=Nat
def tw7236827014352225823:=Nat
def tw8739135076820700982:=Nat
def tw2663802138754400942:=Nat
def tw13913232179733318160:=Nat
def tw4369539980734194344:=Nat
def tw3756666859590933475:=Nat
def tw5142891105503182333:=Nat
def tw6693452342146213431:=Nat
def tw12955840031627237097:=Nat
def tw4577303121898451119:=Nat
def tw2075485287480400625:=Nat
def tw16019824476036361847:=Nat
def tw1936566422998404876:=Nat
def tw4087298121235494476:=Nat
def tw17668557755439102883:=Nat
def tw15701145622611879195:=Nat
def tw15175517528594486752:=Nat
def tw7304520969559618295:=Nat
def tw10506272043267298552:=Nat
def tw14657289780946107118:=Nat
def tw14764734158406526067:=Nat
def tw10642610215759648345:=Nat
def tw15775503188326353820:=Nat
def tw17308393939159245084:=Nat
def tw3520218033749489081:=Nat
def tw3670487346104538877:=Nat
def tw254511347628657153:=Nat
def tw5917509306323132181:=Nat
def tw3198231209968576706:=Nat
def tw1856777892966702354:=Nat
def tw7970594194999064277:=Nat
def tw8255174592604030388:=Nat
def tw7670086890825024705:=Nat
def tw10681951601594739398:=Nat
def tw1033129180726399600:=Nat
def tw11658384029019990738:=Nat
def tw8286386517809953639:=Nat
def tw5828804468815343912:=Nat
def tw8251670372297650939:=Nat
def tw6069462054186591111:=Nat
def tw13461918184485524627:=Nat
def tw8342829887605764966:=Nat
def tw509839217239489014:=Nat
def tw15115602117235244131:=Nat
def tw8282304555355241434:=Nat
def tw16388630022172111401:=Nat
def tw5365677638802584192:=Nat
def tw15587261381348546984:=Nat
def tw14140046363227178644:=Nat
def tw9577634194376977210:=Nat
def tw4649023049829034412:=Nat
def tw6523858807290329880:=Nat
def tw4254265271563459346:=Nat
def tw3769507479176426868:=Nat
def tw13760779594524162402:=Nat
def tw10004682939688275776:=Nat
def tw10466248635135601772:=Nat
def tw13724267158416572416:=Nat
def tw18060053413735550903:=Nat
def tw8842029923861479799:=Nat
def tw2592671268219499392:=Nat
def tw4251202529903154295:=Nat
def tw7775478828326215282:=Nat
def tw5057761696788790165:=Nat
def tw727486662042991525:=Nat
def tw14317962402020978273:=Nat
def tw9314607074797534989:=Nat
def tw4989406168916807089:=Nat
def tw8457028042000990193:=Nat
def tw18443301469732908583:=Nat
def tw1135505620410450240:=Nat
def tw10997407746568915788:=Nat
def tw3937710170659394096:=Nat
def tw11270692231411765325:=Nat
def tw13986472718778922774:=Nat
def tw11427528286110648253:=Nat
def tw4415672517989332282:=Nat
def tw9672754407423013264:=Nat
def tw15835805800528939471:=Nat
def tw15763731061944036479:=Nat
def tw16419481939879088264:=Nat
def tw2027057324788272217:=Nat
def tw14355883634653837780:=Nat
def tw9547799621070977999:=Nat
def tw9389404897631643620:=Nat
def tw14781261228087413980:=Nat
def tw8578987387416027305:=Nat
def tw12750458521012759133:=Nat
def tw11148292053537521254:=Nat
def tw7666682740163975453:=Nat
def tw8871182314685699433:=Nat
def tw15439150510395750382:=Nat
def tw1552256486033183377:=Nat
def tw16613470026054180709:=Nat
def tw10266007630571736930:=Nat
def tw16945843717430231270:=Nat
def tw13562953273728071805:=Nat
def tw15080303167470757754:=Nat
def tw18440126178870011939:=Nat
def tw10714393782849122800:=Nat
def tw2165824233686189736:=Nat
def tw62520790475136801:=Nat
end PySem.W.Fast
set_option Elab.async false
set_option linter.all false
set_option maxHeartbeats 4000000
set_option maxRecDepth 100000
namespace Dv
open PySem
inductive Kd where
 |sh|ow (p:Bool)|dp (p:Bool)|dk (p:Bool)|dt (p:Bool)|st (p:Bool)
 deriving DecidableEq
def lD(n:Nat) (i:Int):Option Nat:=if 0<=i then(if i<n then some i.toNat else none)else if-(n:Int)<=i then some (i+n).toNat else none
def oj:PyData->Bool
 |.int _ | .str _=>true
 |_=>false
instance UD:DecidableEq PyData:=λa b=>Classical.propDecidable (a=b)
def dZ(kvs:ZG)(k:PyData):Option PyData:=(kvs.find? λkv=>decide (kv.1=k)).map (·.2)
def putD(kvs:ZG)(k v:PyData):ZG:=if(kvs.any λkv=>decide (kv.1=k))=true then kvs.map (λkv=>if kv.1=k then(kv.1,v)else kv)else kvs++[(k,v)]
def hi0:Nat:=0
def hi1:Nat:=hi0
def hi2:Nat:=hi1
def Uo:Nat:=hi2
def Ui:Nat:=Uo
def Ux:Nat:=Ui
def Uu:Nat:=Ux
def Uk:Nat:=Uu
def Uz:Nat:=Uk
def T7:Nat:=Uz
def Tu:Nat:=T7
def SQ:Nat:=Tu
def kK:Nat:=SQ
abbrev En:=List (Option (Kd×PyData))
abbrev Ze:=En->Kd->PyData->Prop
abbrev Zf:=List (Option PyData)
abbrev Zg:=Option (Kd×PyData)
abbrev Zh:=Kd->PyData->Prop
abbrev Zi:=En->Bool->Prop
abbrev Zj:=En->Prop
abbrev XC:=Str->PyData->Prop
abbrev xF:XC:=λ_ _=>False
abbrev DE:=XC->En->(Ze)->Prop
abbrev DT:=XC->En->(Zi)->Prop
abbrev DI:=XC->En->(En->ZU->Prop)->Prop
structure jl where
 nx:Zj
 rt:Ze
 xc:XC
abbrev DS:=jl->En->Prop
abbrev bq:=ZU->(ZU->Kd->PyData->Prop)->XC->Prop
def lf:PyData->Bool
 |.none | .bool _ | .int _ | .str _=>true
 |.tuple ds=>lfs ds
 |.list _ | .dict _=>false
where lfs:ZU->Bool
 |[]=>true
 |d::ds=>lf d&&lfs ds
theorem vW:∀ds:ZU,lf.lfs ds=ds.all lf
 |[]=>by rw[lf.lfs];rfl
 |d::ds=>by rw[lf.lfs,vW ds];rfl
def CP:PyData->Bool
 |.list _=>true
 |_=>false
def flat:Kd->PyData->Bool
 |.sh,d=>lf d
 |.ow _,.list ds=>ds.all lf
 |.dp _,.list ds=>ds.all λd=>match d with | .list es=>es.all lf|d=>lf d
 |.dk _,.dict kvs=>kvs.all λkv=>lf kv.2
 |.dt _,.dict kvs=>kvs.all λkv=>lf kv.2
 |_,_=>false
def Kd.fz:Kd->Bool
 |.sh | .ow false | .dp false | .dk false | .dt false=>true
 |_=>false
def Kd.rd:Kd->Bool
 |.st _=>false
 |_=>true
def Kd.pin:Kd->Bool
 |.ow p | .dp p | .dk p | .dt p | .st p=>p
 |.sh=>false
def dm(E:En) (i:Nat):Option En:=match E[i]? with
 |some (some (k,d))=>if k.fz then some (E.set i (some (.sh,d)))else none
 |_=>none
def eY:Zb->En->Option En
 |[],E=>some E
 |i::r,E=>(dm E i).bind (eY r)
inductive Arg where
 |pk (i:Nat)|ev (d:DE)
def iY:List Arg->Zb
 |[]=>[]
 |.pk i::r=>i::iY r
 |.ev _::r=>iY r
def here(E:En) (i:Nat):Bool:=match E[i]? with
 |some (some _)=>true
 |_=>false
def fill:List Arg->En->List (Option PyData)->Option (ZU)
 |[],_,[]=>some []
 |.pk i::r,E,none::os=>match E[i]? with
  |some (some (k,d))=>if k.rd then(fill r E os).map (d::·)else none
  |_=>none
 |.ev _::r,E,some v::os=>(fill r E os).map (v::·)
 |_,_,_=>none
def kH(E:En) (i:Nat):Bool:=match E[i]? with
 |some (some (.sh,_))=>true
 |_=>false
theorem Ao{E:En}:∀{is:Zb},is.all (kH E)=true->eY is E=some E
 |[],_=>rfl
 |i::r,h=>by
  rw[UU,UJ]at h;have e:dm E i=some E:=by
   have h1:=h.1;unfold kH at h1;unfold dm;split at h1
   .rename_i d e;rw[e];show some (E.set i (some (.sh,d)))=some E;congr 1;refine Vu λj=>?_;rw[Wv];by_cases c:i=j
    .subst c;rw[if_pos rfl,e];have l:i<E.length:=by rcases VV i E.length with z|z;{exact z};rw[VD z]at e;cases e
     rw[if_pos l]
    rw[if_neg c]
   cases h1
  show(dm E i).bind (eY r)=some E;rw[e];exact Ao h.2
def SH(as:List Arg)(E:En)(k:Kd)(v:PyData):Option En:=if((iY as).all (kH E)||flat k v)=true then some E else eY (iY as) E
def Ay{is:Zb}{E E2:En}{b:Bool}(h:(if(is.all (kH E)||b)=true then some E else eY is E)=some E2):(if b=true then some E else eY is E)=some E2:=by
 cases hs:is.all (kH E)with
 |true=>rw[hs,Bool.true_or,if_pos rfl]at h;rw[Ao hs,h,ite_self]
 |false=>rw[hs,Bool.false_or]at h;exact h
abbrev DR:=ZU->(Zh)->Prop
def dC(v:PyData):DE:=λ_ E Q=>(λ_:Nat=>Q E .sh v) kK
def tO:ZY->List Arg->ZU->En->Option En
 |[],[],[],E=>some E
 |false::ms,_::r,us,E=>tO ms r us E
 |true::ms,.pk i::r,u::us,E=>match E[i]? with
  |some (some (.ow p,.list _))=>if CP u then tO ms r us (E.set i (some (.ow p,u)))else none
  |_=>none
 |_,_,_,_=>none
def lent:ZY->List Arg->Zb
 |true::ms,.pk i::r=>i::lent ms r
 |_::ms,_::r=>lent ms r
 |_,_=>[]
def kept:ZY->List Arg->Zb
 |false::ms,.pk i::r=>i::kept ms r
 |_::ms,_::r=>kept ms r
 |_,_=>[]
def shape:ZY->List Arg->Bool
 |[],[]=>true
 |true::ms,.pk _::r=>shape ms r
 |false::ms,_::r=>shape ms r
 |_,_=>false
def Ak(ms:ZY)(as:List Arg)(E:En):Bool:=shape ms as&&decide (lent ms as).Nodup&&(lent ms as).all (λi=>!(kept ms as).contains i&&(match E[i]? with|some (some (.ow _,.list _))=>true|_=>false))
def Ny(ms:ZY)(as:List Arg)(us:ZU)(E:En)(k:Kd)(v:PyData):Option En:=if((kept ms as).all (kH E)||(flat k v&&us.all (flat (.ow false))))=true then some E else eY (kept ms as) E
def lE:PyData->Option Bool
 |.bool b=>some b
 |.int i=>some (!decide (i=0))
 |.none=>some false
 |.str _=>none
 |.list ds=>some !ds.isEmpty
 |.tuple ds=>some !ds.isEmpty
 |.dict _=>none
def N3(d:DE):DT:=λx E Q=>d x E λE' _ v=>∃b,lE v=some b/\Q E' b
def qy(t:DT):DT:=λx E Q=>(λ_:Nat=>t x E λE' b=>Q E' (!b)) kK
def Oj(a b:DE):DE:=λx E Q=>a x E λE1 _ v=>∃c,v=.bool c/\if c=true then b x E1 Q else Q E1 .sh (.bool false)
def So(a b:DE):DE:=λx E Q=>a x E λE1 _ v=>∃c,v=.bool c/\if c=true then Q E1 .sh (.bool true)else b x E1 Q
def Qs(a:DE):DE:=λx E Q=>a x E λE1 _ v=>∃c,lE v=some c/\Q E1 .sh (.bool !c)
def Hi(f f':ZO)(a b c:DE):DE:=λx E Q=>a x E λE1 _ u=>∃i,u=.int i/\b x E1 λE2 _ v=>∃j,v=.int j/\if f i j=true then c x E2 λE3 _ w=>∃k,w=.int k/\Q E3 .sh (.bool (f' j k))else Q E2 .sh (.bool false)
def SD(c:DT)(a b:DE):DE:=λx E Q=>c x E λE1 t=>if t=true then a x E1 Q else b x E1 Q
def dD:DS:=λD E=>(λ_:Nat=>D.nx E) kK
def av(a b:DS):DS:=λD E=>(λ_:Nat=>a { D with nx:=b D } E) kK
def El(a b:DS):DS:=λD E=>∃J:Zj,a { D with nx:=J } E/\∀E',J E'->b D E'
def P7(c:DT)(a b:DS):DS:=λD E=>c D.xc E λE1 t=>if t=true then a D E1 else b D E1
def bR(E:En) (i:Nat):Bool:=match E[i]? with
 |some (some (k,_))=>!k.pin
 |some none=>true
 |none=>false
def P4(i:Nat)(e:DE):DS:=λD E=>e D.xc E λE' k v=>bR E' i=true/\D.nx (E'.set i (some (k,v)))
inductive Tg where
 |nm (i:Nat)|tp (is:Zb)
def Tg.slots:Tg->Zb
 |.nm i=>[i]
 |.tp is=>is
def cy:Zb->ZU->En->Option En
 |[],[],E=>some E
 |i::is,d::ds,E=>if bR E i then cy is ds (E.set i (some (.sh,d)))else none
 |_,_,_=>none
def cT:Tg->PyData->En->Option En
 |.nm i,d,E=>cy [i] [d] E
 |.tp is,.tuple ds,E=>cy is ds E
 |_,_,_=>none
def bG(e:DE):DS:=λD E=>(λ_:Nat=>e D.xc E D.rt) kK
def jU(E:En) (i:Nat):Bool:=match E[i]? with
 |some (some (.ow _,.list _))=>true
 |_=>false
abbrev DM:=ZU->ZU->(ZU->PyData->Prop)->Prop
def ou:ZG->Bool
 | (.none,_)::_=>false
 |_=>true
def Bl(most:Nat) (i:Nat)(e:DE):DS:=λD E=>jU E i=true/\e D.xc E λE1 k v=>k.fz=true/\∃p ds es,E1[i]?=some (some (.ow p,.list ds))/\v=.list es/\ds.length+es.length<=most/\D.nx (E1.set i (some (.ow p,.list (ds++es))))
def Ax(f:DM) (i:Nat)(j:DE) (n:Nat):DE:=λx E Q=>here E i=true/\j x E λE1 _ w=>∃a p ds m es k d E2,w=.int a/\E1[i]?=some (some (.dp p,.list ds))/\lD ds.length a=some m/\ds[m]?=some (.list es)/\E1[n]?=some (some (k,d))/\i≠n/\dm E1 n=some E2/\f es [d] λnew v=>Q (E2.set i (some (.dp p,.list (ds.set m (.list new))))) .sh v
def lU(c:Str):DS:=λD _=>(λ_:Nat=>D.xc c .none) kK
def dQ(e:DE):DS:=λD E=>(λ_:Nat=>e D.xc E λE' _ _=>D.nx E') kK
def fm(it:DI)(tg:Tg)(b:DS):DS:=λD E=>(λ_:Nat=>it D.xc E λE1 xs=>∃I:Nat->En->Prop,I 0 E1/\(∀i d E,xs[i]?=some d->I i E->∃E2,cT tg d E=some E2/\b { D with nx:=I (i+1) } E2)/\∀E,I xs.length E->D.nx E) kK
def vA(c:DT)(b:DS):DS:=λD E=>∃W:Nat->En->Prop,(∃m,W m E)/\∀m E,W m E->c D.xc E λE1 t=>if t=true then b { D with nx:=λE'=>∃m',m'<m/\W m' E' } E1 else D.nx E1
def items:PyData->Option (ZU)
 |.list ds=>some ds
 |.tuple ds=>some ds
 |_=>none
def oE(e:DE):DI:=λx E Q=>e x E λE' k v=>k.fz=true/\∃ds,items v=some ds/\Q E' ds
def j7(ds:ZU):ZU:=ds.zipIdx.map λp=>.tuple [.int p.2,p.1]
def Sj(e:DE):DI:=λx E Q=>e x E λE' k v=>k.fz=true/\∃ds,v=.list ds/\Q E' (j7 ds)
def bE:Zb->En->Option En
 |[],E=>some E
 |i::r,E=>if bR E i then bE r (E.set i none)else none
abbrev DC:=XC->ZU->En->(ZU->En->Prop)->Prop
def eE:DT:=λ_ E Q=>(λ_:Nat=>Q E true) kK
def bY(most:Nat)(e:DE):DC:=λx ys E Q=>e x E λE1 k v=>k.fz=true/\ys.length<most/\Q (ys++[v]) E1
def Cj(it:DI)(tg:Tg)(c:DT)(r:DC):DC:=λx ys E Q=>(λ_:Nat=>it x E λE1 xs=>∃I:Nat->ZU->En->Prop,I 0 ys E1/\(∀i d ys E,xs[i]?=some d->I i ys E->∃E2,cT tg d E=some E2/\c x E2 λE3 b=>if b=true then r x ys E3 (I (i+1))else I (i+1) ys E3)/\∀ys E,I xs.length ys E->Q ys E) kK
def bJ(cs:Zb)(it:DI)(tg:Tg)(c:DT)(r:DC):DE:=λx E Q=>(λ_:Nat=>it x E λE1 xs=>∃(E0:En)(I:Nat->ZU->En->Prop),bE cs E1=some E0/\I 0 [] E0/\(∀i d ys E,xs[i]?=some d->I i ys E->∃E2,cT tg d E=some E2/\c xF E2 λE3 b=>if b=true then r xF ys E3 (I (i+1))else I (i+1) ys E3)/\∀ys E,I xs.length ys E->∃E2,bE cs E=some E2/\Q E2 (.ow false) (.list ys)) kK
def rB(most:Nat)(cs:Zb)(it:DI)(tg:Tg)(c:DT)(e:DE):DE:=λx E Q=>(λ_:Nat=>it x E λE1 xs=>∃(E0:En)(I:Nat->ZU->En->Prop),bE cs E1=some E0/\I 0 [] E0/\(∀i d ys E,xs[i]?=some d->I i ys E->∃E2,cT tg d E=some E2/\c xF E2 λE3 b=>if b=true then e xF E3 (λE4 k v=>(∃p,k=.ow p)/\ys.length<most/\I (i+1) (ys++[v]) E4)else I (i+1) ys E3)/\∀ys E,I xs.length ys E->∃E2,bE cs E=some E2/\Q E2 (.dp false) (.list ys)) kK
def kY(lo:Int) (n:Nat):ZU:=(List.range n).map λi:Nat=>PyData.int (lo+i)
def aL{α:Type}(o:Option α)(Q:α->Prop):Prop:=match o with
 |some a=>Q a
 |none=>False
def ef{α:Sort u}(b:Bool)(x y:α):α:=match b with
 |true=>x
 |false=>y
def cg:Zg->Bool
 |some (k,_)=>!k.pin
 |none=>true
def nO(E:En) (i:Nat):Bool:=match E[i]? with
 |some o=>cg o
 |none=>false
def bK(b:Bool)(P:Prop):Prop:=match b with
 |true=>P
 |false=>False
def kZ:List Arg->XC->En->(En->List (Option PyData)->Prop)->Prop
 |[],_,E,Q=>Q E []
 |.pk i::r,x,E,Q=>bK (here E i) (kZ r x E λE' os=>Q E' (none::os))
 |.ev d::r,x,E,Q=>d x E λE1 k v=>bK k.fz (kZ r x E1 λE' os=>Q E' (some v::os))
def t9(E:En) (i:Nat):Option En:=match E[i]? with
 |some (some (k,d))=>ef k.fz (some (E.set i (some (.sh,d)))) none
 |_=>none
def j5:Zb->En->Option En
 |[],E=>some E
 |i::r,E=>(t9 E i).bind (j5 r)
def dG:List Arg->En->List (Option PyData)->Option (ZU)
 |[],_,[]=>some []
 |.pk i::r,E,none::os=>match E[i]? with
  |some (some (k,d))=>ef k.rd ((dG r E os).map (d::·)) none
  |_=>none
 |.ev _::r,E,some v::os=>(dG r E os).map (v::·)
 |_,_,_=>none
def uG(as:List Arg)(E:En)(k:Kd)(v:PyData):Option En:=ef ((iY as).all (kH E)||flat k v) (some E) (j5 (iY as) E)
def Hj(E:En) (i:Nat)(Q:Ze):Prop:=match E[i]? with
 |some (some (_,d))=>aL (t9 E i) λE'=>Q E' .sh d
 |_=>False
def Bj(r:DR)(as:List Arg)(E:En)(os:Zf)(Q:Ze):Prop:=aL (dG as E os) λds=>r ds λk v=>aL (uG as E k v) λE2=>Q E2 k v
def nN(i:Nat):Zb->Bool
 |[]=>false
 |j::r=>i==j||nN i r
def rN:Zb->Zb->En->Bool
 |[],_,_=>true
 |i::r,ks,E=>(!nN i ks&&!nN i r&&jU E i)&&rN r ks E
def vg(ms:ZY)(as:List Arg)(E:En):Bool:=shape ms as&&rN (lent ms as) (kept ms as) E
def kQ:ZY->List Arg->ZU->En->Option En
 |[],[],[],E=>some E
 |false::ms,_::r,us,E=>kQ ms r us E
 |true::ms,.pk i::r,u::us,E=>match E[i]? with
  |some (some (.ow p,.list _))=>ef (CP u) (kQ ms r us (E.set i (some (.ow p,u)))) none
  |_=>none
 |_,_,_,_=>none
def u5(ms:ZY)(as:List Arg)(us:ZU)(E:En)(k:Kd)(v:PyData):Option En:=ef ((kept ms as).all (kH E)||(flat k v&&us.all (flat (.ow false)))) (some E) (j5 (kept ms as) E)
def G0(ms:ZY)(as:List Arg)(E:En)(us:ZU)(k:Kd)(v:PyData)(Q:Ze):Prop:=aL (kQ ms as us E) λE2=>aL (u5 ms as us E2 k v) λE3=>Q E3 k v
def G9(sp:bq)(ms:ZY)(as:List Arg)(x:XC)(E:En)(os:Zf)(Q:Ze):Prop:=aL (dG as E os) λds=>bK (vg ms as E) (sp ds (λus k v=>G0 ms as E us k v Q) x)
def vj(v:PyData)(Q:Bool->Prop):Prop:=aL (lE v) Q
def Gf(E:En) (i:Nat)(Q:Zi):Prop:=match E[i]? with
 |some (some (k,d))=>bK k.rd (vj d (Q E))
 |_=>False
def BW(v:PyData)(Q:Bool->Prop):Prop:=match v with
 |.bool b=>Q b
 |_=>False
def tG(v:PyData)(Q:Int->Prop):Prop:=match v with
 |.int i=>Q i
 |_=>False
def Kz(v:PyData)(Q:ZU->Prop):Prop:=aL (items v) Q
def xw(v:PyData)(Q:ZU->Prop):Prop:=match v with
 |.list xs=>Q xs
 |_=>False
def IF(E:En) (i:Nat)(Q:Ze):Prop:=match E[i]? with
 |some (some (k,d))=>bK (!k.pin) (Q (E.set i none) k d)
 |_=>False
def FL(f:DM) (i:Nat)(as:List Arg)(E:En)(os:Zf)(Q:Ze):Prop:=aL (dG as E os) λargs=>match E[i]? with
 |some (some (.ow p,.list ds))=>f ds args λnew v=>Q (E.set i (some (.ow p,.list new))) .sh v
 |_=>False
def E8(f:Int->Int->Int)(E:En) (i:Nat)(v:PyData)(Q:Zj):Prop:=match E[i]? with
 |some (some (_,.int a))=>tG v λb=>Q (E.set i (some (.sh,.int (f a b))))
 |_=>False
def stK:Zb->ZU->En->Option En
 |[],[],E=>some E
 |i::is,d::ds,E=>ef (nO E i) (stK is ds (E.set i (some (.sh,d)))) none
 |_,_,_=>none
def Li(is:Zb)(v:PyData)(E:En)(Q:Zj):Prop:=match v with
 |.tuple ds=>aL (stK is ds E) Q
 |_=>False
def As(n:Nat) (i:Int):Option Nat:=match i with
 |.ofNat k=>ef (Nat.blt k n) (some k) none
 |.negSucc k=>lD n (.negSucc k)
def aO(i:Nat):DE:=λ_ E Q=>Hj E i Q
def ah(r:DR)(as:List Arg):DE:=λx E Q=>kZ as x E λE1 os=>Bj r as E1 os Q
def aD(sp:bq)(ms:ZY)(as:List Arg):DE:=λx E Q=>kZ as x E λE1 os=>G9 sp ms as x E1 os Q
def bW(d:DE):DT:=λx E Q=>d x E λE' _ v=>vj v (Q E')
def xR(i:Nat):DT:=λ_ E Q=>Gf E i Q
def tW(a b:DE):DE:=λx E Q=>a x E λE1 _ v=>BW v λc=>ef c (b x E1 Q) (Q E1 .sh (.bool false))
def vm(a b:DE):DE:=λx E Q=>a x E λE1 _ v=>BW v λc=>ef c (Q E1 .sh (.bool true)) (b x E1 Q)
def nH(a:DE):DE:=λx E Q=>a x E λE1 _ v=>vj v λc=>Q E1 .sh (.bool !c)
def lX(f f':ZO)(a b c:DE):DE:=λx E Q=>a x E λE1 _ u=>tG u λi=>b x E1 λE2 _ v=>tG v λj=>ef (f i j) (c x E2 λE3 _ w=>tG w λk=>Q E3 .sh (.bool (f' j k))) (Q E2 .sh (.bool false))
def xY(c:DT)(a b:DE):DE:=λx E Q=>c x E λE1 t=>ef t (a x E1 Q) (b x E1 Q)
def cO(c:DT)(a b:DS):DS:=λD E=>c D.xc E λE1 t=>ef t (a D E1) (b D E1)
def aN(i:Nat)(e:DE):DS:=λD E=>e D.xc E λE' k v=>bK (nO E' i) (D.nx (E'.set i (some (k,v))))
def q9(is:Zb)(e:DE):DS:=λD E=>e D.xc E λE' k v=>bK k.fz (Li is v E' D.nx)
def jh(i:Nat):DS:=λD E=>IF E i D.rt
def qh(f:DM) (i:Nat)(es:List DE):DE:=λx E Q=>bK (jU E i) (kZ (es.map .ev) x E λE1 os=>FL f i (es.map .ev) E1 os Q)
def jV(i:Nat)(j:DE)(e:DE):DS:=λD E=>e D.xc E λE1 k v=>bK k.fz (bK (here E1 i) (j D.xc E1 λE2 k2 w=>bK k2.fz (setI E2 i w v D.nx)))
where setI (E:En) (i:Nat)(w v:PyData)(Q:Zj):Prop:=match E[i]?,w with
 |some (some (.ow p,.list ds)),.int a=>aL (As ds.length a) λn=>Q (E.set i (some (.ow p,.list (ds.set n v))))
 |some (some (.dk p,.dict kvs)),w=>(oj w=true/\kvs.length<16777216)/\Q (E.set i (some (.dk p,.dict (putD kvs w v))))
 |some (some (.dt p,.dict (_::kvs))),.tuple ks=>(ks.all oj=true/\kvs.length<16777216)/\Q (E.set i (some (.dt p,.dict ((.none,.none)::putD kvs (.tuple ks) v))))
 |_,_=>False
def w4(f:Int->Int->Int) (i:Nat)(e:DE):DS:=λD E=>bK (here E i) (e D.xc E λE1 _ v=>E8 f E1 i v D.nx)
def iE(e:DE):DI:=λx E Q=>e x E λE' k v=>bK k.fz (Kz v λds=>Q E' ds)
def sI(g:ZU->Option (ZU))(as:List Arg):DI:=λx E Q=>kZ as x E λE1 os=>aL (dG as E1 os) λds=>aL (g ds) λxs=>Q E1 xs
def x6(e:DE):DI:=λx E Q=>e x E λE' k v=>bK k.fz (xw v λds=>Q E' (j7 ds))
def Kp(a b:DE):DI:=λx E Q=>a x E λE1 k v=>bK k.fz (b x E1 λE2 k2 v2=>bK k2.fz (xw v λds=>xw v2 λes=>Q E2 ((ds.zip es).map λp=>.tuple [p.1,p.2])))
def bS{α:Type}{o:Option α}{Q:α->Prop}:(∃a,o=some a/\Q a)=aL o Q:=by
 cases o with
 |none=>exact propext ⟨λ⟨a,e,_⟩=>(by cases e),λh=>h.elim⟩
 |some a=>exact propext ⟨λ⟨b,e,q⟩=>by cases e;exact q,λh=>⟨a,rfl,h⟩⟩
def eF{b:Bool}{P:Prop}:bK b P=(b=true/\P):=by
 cases b with
 |true=>exact propext ⟨λh=>⟨rfl,h⟩,λh=>h.2⟩
 |false=>exact propext ⟨λh=>h.elim,λh=>by cases h.1⟩
universe u
def cG{α:Sort u}{b:Bool}{x y:α}:ef b x y=if b=true then x else y:=by cases b<;>rfl
def BZ{E:En}{i:Nat}:t9 E i=dm E i:=by unfold t9 dm;split;{rw[cG]};rfl
theorem uz:∀{is:Zb}{E:En},j5 is E=eY is E
 |[],_=>rfl
 |i::r,E=>by rw[j5,eY,BZ];congr 1;funext E1;exact uz
theorem gP:∀{as:List Arg}{E:En}{os:Zf},dG as E os=fill as E os
 |[],_,[]=>rfl
 |[],_,_::_=>rfl
 |.pk i::r,E,none::os=>by rw[dG,fill,gP];split;{rw[cG]};rfl
 |.ev _::r,E,some v::os=>by rw[dG,fill,gP]
 |.pk _::_,_,[]=>rfl
 |.pk _::_,_,some _::_=>rfl
 |.ev _::_,_,[]=>rfl
 |.ev _::_,_,none::_=>rfl
def BL{as:List Arg}{E:En}{k:Kd}{v:PyData}:uG as E k v=SH as E k v:=by unfold uG SH;rw[cG,uz]
theorem wB{i:Nat}:∀{l:Zb},nN i l=l.contains i
 |[]=>rfl
 |j::r=>by rw[nN,List.contains_cons,wB]
theorem CU{ks:Zb}{E:En}:∀{l:Zb},rN l ks E=(decide l.Nodup&&l.all λi=>!ks.contains i&&jU E i)
 |[]=>rfl
 |i::r=>by
  rw[rN,CU,wB,wB,UU];have:decide (i::r).Nodup=(!r.contains i&&decide r.Nodup):=by rw[Vv];simp[Wb]
  rw[this];cases ks.contains i<;>cases r.contains i<;>cases jU E i<;>cases decide r.Nodup<;>rfl
def IX{ms:ZY}{as:List Arg}{E:En}:vg ms as E=Ak ms as E:=by unfold vg Ak;rw[CU,Bool.and_assoc];rfl
theorem wN:∀{ms:ZY}{as:List Arg}{us:ZU}{E:En},kQ ms as us E=tO ms as us E
 |[],[],[],E=>rfl
 |[],[],_::_,E=>rfl
 |[],_::_,_,E=>rfl
 |false::ms,_::r,us,E=>by rw[kQ,tO,wN]
 |false::ms,[],us,E=>rfl
 |true::ms,[],us,E=>rfl
 |true::ms,.ev _::_,us,E=>rfl
 |true::ms,.pk i::r,[],E=>rfl
 |true::ms,.pk i::r,u::us,E=>by rw[kQ,tO];split;{rw[cG,wN]};rfl
def Km{ms:ZY}{as:List Arg}{us:ZU}{E:En}{k:Kd}{v:PyData}:u5 ms as us E k v=Ny ms as us E k v:=by unfold u5 Ny;rw[cG,uz]
def Eo{v:PyData}{Q:Bool->Prop}:(∃b,lE v=some b/\Q b)=vj v Q:=bS
def Lc{v:PyData}{Q:Bool->Prop}:(∃b,v=.bool b/\Q b)=BW v Q:=by
 cases v with
 |bool b=>exact propext ⟨λ⟨c,e,q⟩=>by cases e;exact q,λh=>⟨b,rfl,h⟩⟩
 |_=>exact propext ⟨λ⟨c,e,_⟩=>(by cases e),λh=>h.elim⟩
def Lm{v:PyData}{Q:Int->Prop}:(∃b,v=.int b/\Q b)=tG v Q:=by
 cases v with
 |int b=>exact propext ⟨λ⟨c,e,q⟩=>by cases e;exact q,λh=>⟨b,rfl,h⟩⟩
 |_=>exact propext ⟨λ⟨c,e,_⟩=>(by cases e),λh=>h.elim⟩
def DP{v:PyData}{Q:ZU->Prop}:(∃b,v=.list b/\Q b)=xw v Q:=by
 cases v with
 |list b=>exact propext ⟨λ⟨c,e,q⟩=>by cases e;exact q,λh=>⟨b,rfl,h⟩⟩
 |_=>exact propext ⟨λ⟨c,e,_⟩=>(by cases e),λh=>h.elim⟩
def oO{E:En}{i:Nat}:nO E i=bR E i:=by unfold bR nO cg;generalize E[i]?=z;rcases z with _|_|⟨k,d⟩<;>rfl
theorem Hl:∀{is:Zb}{ds:ZU}{E:En},stK is ds E=cy is ds E
 |[],[],E=>rfl
 |[],_::_,E=>rfl
 |_::_,[],E=>rfl
 |i::is,d::ds,E=>by rw[stK,cy,cG,Hl,oO]
def Ar{n:Nat}{i:Int}:As n i=lD n i:=by
 cases i with
 |ofNat k=>unfold As lD;show ef (Nat.blt k n) (some k) none=_;rw[if_pos (show(0:Int)<=Int.ofNat k from Xn k),cG];have:(Nat.blt k n=true)=((Int.ofNat k)<(n:Int)):=propext ⟨λh=>Ww.mpr (Nat.blt_eq.mp h),λh=>Nat.blt_eq.mpr (Ww.mp h)⟩;simp only[this];rfl
 |negSucc k=>rfl
def Mv{d:DE}:bW d=N3 d:=by funext x E Q;unfold bW N3;simp only[Eo]
def Cm{a b:DE}:tW a b=Oj a b:=by funext x E Q;unfold tW Oj;simp only[Lc,cG]
def Qy{a b:DE}:vm a b=So a b:=by funext x E Q;unfold vm So;simp only[Lc,cG]
def C0{a:DE}:nH a=Qs a:=by funext x E Q;unfold nH Qs;simp only[Eo]
def FI{f f':ZO}{a b c:DE}:lX f f' a b c=Hi f f' a b c:=by funext x E Q;unfold lX Hi;simp only[Lm,cG]
def Q3{c:DT}{a b:DE}:xY c a b=SD c a b:=by funext x E Q;unfold xY SD;simp only[cG]
def MH{c:DT}{a b:DS}:cO c a b=P7 c a b:=by funext D E;unfold cO P7;simp only[cG]
def vV{i:Nat}{e:DE}:aN i e=P4 i e:=by funext D E;unfold aN P4;simp only[eF,oO]
def Sg{e:DE}:iE e=oE e:=by funext x E Q;unfold iE oE;simp only[eF,bS];rfl
def NQ{e:DE}:x6 e=Sj e:=by funext x E Q;unfold x6 Sj;simp only[eF,DP]
end Dv
namespace L2
open PySem PySem.Spec PyProof.Rows
abbrev Key:=Sum Int Str
def rR:Key->Value->Bool
 |.inl k,v=>Value.isInt k v
 |.inr x,v=>Value.isStrOf x v
def TH(w:World):Key->Int
 |.inl k=>hashInt k
 |.inr x=>hashStr w x
def dB:∀{k:Key}{v:Value},rR k v=true->(∃i t,k=Sum.inl i/\v=Value.int i t)\/(∃x t,k=Sum.inr x/\v=Value.str x t)
 |.inl i,v,h=>by obtain⟨t,e⟩:=Value.isInt_shape (k:=i) (v:=v) h;exact .inl ⟨i,t,rfl,e⟩
 |.inr x,v,h=>by obtain⟨t,e⟩:=Value.isStrOf_shape (x:=x) (v:=v) h;exact .inr ⟨x,t,rfl,e⟩
def E9(i:Int)(t:Tok):rR (.inl i) (.int i t)=true:=by simp[rR,Value.isInt]
def Hy(x:Str)(t:Tok):rR (.inr x) (.str x t)=true:=by simp[rR,Value.isStrOf]
def Ob(a b:Int):decide ((Sum.inl a:Key)=Sum.inl b)=(a==b):=by by_cases e:a=b;{subst e;simp};have h:¬(Sum.inl a:Key)=Sum.inl b:=λq=>e (Sum.inl.inj q);rw[VH h];exact(beq_eq_false_iff_ne.mpr e).symm
def NR(a b:Str):decide ((Sum.inr a:Key)=Sum.inr b)=decide (a=b):=by by_cases e:a=b;{subst e;simp};have h:¬(Sum.inr a:Key)=Sum.inr b:=λq=>e (Sum.inr.inj q);rw[VH h,VH e]
def QW(a:Int) (b:Str):decide ((Sum.inl a:Key)=Sum.inr b)=false:=VH (λq=>nomatch q)
def Q2(a:Str) (b:Int):decide ((Sum.inr a:Key)=Sum.inl b)=false:=VH (λq=>nomatch q)
def c9(prog:Program)(w:World):PySem.KeyKind prog w Key where
 is:=rR
 hash:=TH w
 inj:=λv a b ha hb=>by
  rcases dB ha with⟨i,t,rfl,rfl⟩|⟨x,t,rfl,rfl⟩
  .rcases dB hb with⟨j,u,rfl,e⟩|⟨y,u,rfl,e⟩
   .injection e with e1 _;rw[e1]
   .exact nomatch e
  .rcases dB hb with⟨j,u,rfl,e⟩|⟨y,u,rfl,e⟩
   .exact nomatch e
   .injection e with e1 _;rw[e1]
 byValue:=λk v h=>by
  rcases dB h with⟨i,t,rfl,rfl⟩|⟨x,t,rfl,rfl⟩<;>rfl
 pyHash:=λhv h=>by
  rcases dB hv with⟨i,t,rfl,rfl⟩|⟨x,t,rfl,rfl⟩
  .exact wpAny_pyHash_int h
  .exact wpAny_pyHash_str h
 eqBool:=λhu hv h=>by
  rcases dB hu with⟨i,t,rfl,rfl⟩|⟨x,t,rfl,rfl⟩
  .rcases dB hv with⟨j,u,rfl,rfl⟩|⟨y,u,rfl,rfl⟩
   .rw[Ob]at h;exact wpAny_eqBool_int h
   .rw[QW]at h;exact SeqAt.EqAt.int_str i t y u _ _ _ _ h
  .rcases dB hv with⟨j,u,rfl,rfl⟩|⟨y,u,rfl,rfl⟩
   .rw[Q2]at h;exact SeqAt.EqAt.str_int x t j u _ _ _ _ h
   .rw[NR]at h;exact wpAny_eqBool_str h
 «strs»:=λk x t v h=>by
  rcases dB h with⟨i,u,rfl,e⟩|⟨y,u,rfl,e⟩
  .exact nomatch e
  .injection e with e1 _
   subst e1;cases v<;>rfl
def BE(prog:Program)(w:World) (i:Int)(t:Tok):(c9 prog w).is (.inl i) (.int i t)=true:=E9 i t
def Bs(prog:Program)(w:World) (x:Str)(t:Tok):(c9 prog w).is (.inr x) (.str x t)=true:=Hy x t
set_option genInjectivity true in
inductive V where
 |bw|bl (b:Bool)|int (i:Int)|str (x:Str)|om (b:Array UInt8)|Co (b:UInt64)|ref (a:Addr)|ty (n:String)
 deriving DecidableEq
def RelV:V->Value->Prop
 |.bw,u=>u=Value.none
 |.bl b,u=>u=Value.bool b
 |.int i,u=>∃t,u=Value.int i t
 |.str x,u=>∃t,u=Value.str x t
 |.om b,u=>∃t,u=Value.bytes b t
 |.Co b,u=>∃t,u=Value.float b t
 |.ref a,u=>u=Value.ref a
 |.ty n,u=>u=Value.type n
abbrev Vals:List V->ZW->Prop:=Paired RelV
theorem Vals.length{xs:List V}{us:ZW}(r:Vals xs us):xs.length=us.length:=Paired.length r
theorem Vals.get:∀{xs:List V}{us:ZW}{i:Nat}{x:V},Vals xs us->xs[i]?=some x->∃u,us[i]?=some u/\RelV x u
 |_,_,_,_,.nil,e=>by simp at e
 |_,_,0,_,.cons r _,e=>by simp at e;subst e;exact⟨_,rfl,r⟩
 |_,_,i+1,x,.cons _ t,e=>by obtain⟨u,h1,h2⟩:=Vals.get (i:=i) (x:=x) t (by simpa using e);exact⟨u,by simpa using h1,h2⟩
theorem Vals.set{x:V}{u:Value}(r:RelV x u):∀{xs:List V}{us:ZW} (i:Nat),Vals xs us->Vals (xs.set i x) (us.set i u)
 |_,_,_,.nil=>.nil
 |_,_,0,.cons _ t=>.cons r t
 |_,_,i+1,.cons q t=>.cons q (Vals.set r i t)
theorem Vals.append:∀{xs ys:List V}{us ws:ZW},Vals xs us->Vals ys ws->Vals (xs++ys) (us++ws)
 |_,_,_,_,.nil,s=>s
 |_,_,_,_,.cons r t,s=>.cons r (Vals.append t s)
theorem Vals.take:∀{xs:List V}{us:ZW} (n:Nat),Vals xs us->Vals (xs.take n) (us.take n)
 |_,_,0,_=>.nil
 |_,_,_+1,.nil=>.nil
 |_,_,n+1,.cons r t=>.cons r (Vals.take n t)
theorem Vals.drop:∀{xs:List V}{us:ZW} (n:Nat),Vals xs us->Vals (xs.drop n) (us.drop n)
 |_,_,0,r=>r
 |_,_,_+1,.nil=>.nil
 |_,_,n+1,.cons _ t=>Vals.drop n t
def kW:Option V->ZS->Prop
 |some v,some u=>RelV v u
 |none,none=>True
 |_,_=>False
def KV{κ:Type}:List (κ×V)->List (κ×Value)->Prop:=Paired λ(p:κ×V)(q:κ×Value)=>p.1=q.1/\RelV p.2 q.2
def kV:Key->V
 |.inl i=>.int i
 |.inr x=>.str x
inductive HO where
 |lst (xs:List V)
 |tup (xs:List V)
 |dK (kvs:List (Key×V))|dT (kvs:List (List Key×V))
 |set (S:Int->Bool) (n:Nat)
 |ins (C dx:Addr)(fs:List (Str×V))
 |own (x:Addr)
 |xd (fs:List (Str×V))
 |met (f x:Addr)
 |tB (lo hi:Int)
 |cL (o:Obj)(u:HO)
 |xZ (ps:ZT)
 |ext (φ:Heap->Prop)
abbrev Hp:=Addr->Option HO
def upd(H:Hp)(a:Addr)(o:HO):Hp:=λb=>if b=a then some o else H b
def aH{H:Hp}{a:Addr}{o:HO}:upd H a o a=some o:=by unfold upd;rw[if_pos rfl]
def aq{H:Hp}{a b:Addr}{o:HO}(h:b≠a):upd H a o b=H b:=by unfold upd;rw[if_neg h]
def Eg{H:Hp}{a b:Addr}{o u:HO}(h:H a=some o)(h':H b=some u)(d:o≠u):a≠b:=by intro e;subst e;rw[h]at h';exact d (Option.some.inj h')
def gY{H:Hp}{a b:Addr}{o:HO}(h:H a=some o)(h':H b=none):a≠b:=by intro e;subst e;rw[h]at h';cases h'
section
variable(P:Program)(w:World)
def bU(H:Hp)(h:Heap)(a:Addr):HO->Prop
 |.lst xs=>xs.length<=sizeLine/\∃(its:ZW) (n:Nat),Vals xs its/\h.get? a=some { cls:=.type "list",data:=.seq its.toArray n }
 |.tup xs=>xs.length<=sizeLine/\∃its:ZW,Vals xs its/\IsTup h a its.toArray
 |.dK kvs=>kvs.length<=sizeLine/\(a==sysModules)=false/\∃vs,KV kvs vs/\h.DictOf (c9 P w) a vs
 |.dT kvs=>kvs.length<=sizeLine/\(a==sysModules)=false/\∃xs:List (List Key×Addr×Value),
   Paired (λ(p:List Key×V)(q:List Key×Addr×Value)=>p.1=q.1/\H q.2.1=some (.tup (p.1.map kV))/\RelV p.2 q.2.2) kvs xs /\
   ∃o es ep,h.get? a=some o/\o.ExactDict/\o.data=.dict es ep/\es.toList=xs.map (entryOfKey (tupleKind (c9 P w)))/\(xs.map (·.1)).Nodup
 |.set S n=>h.SetOf (intKind P w) a S n
 |.ins C dx fs=>H dx=some (.own a)/\fs.length<=1000/\dx≠a/\h.get? a=some (PySem.W.instObj C dx) /\
   ∃mA,h.Ns1 dx mA/\(∀f,kW (fs.lookup f) (mA f))/\PySem.Within mA (fs.map (·.1))
 |.own _=>∃o,h.get? a=some o
 |.xd fs=>∃mA,h.Ns1 a mA/\∀f,kW (fs.lookup f) (mA f)
 |.tB lo hi=>∃t u v,h.get? a=some { cls:=.type "range",data:=.fields #[.int lo t,.int hi u,.int 1 v] }
 |.cL o u=>h.get? a=some o/\bU H h a u
 |.xZ ps=>h.get? a=some { cls:=.none,data:=.fields ps }
 |.met f x=>h.get? a=some (PySem.W.methodObj (.ref f) (.ref x))
 |.ext φ=>φ h/\(∃o,h.get? a=some o)/\∀h1 h2:Heap,φ h1->(∀o,h1.get? a=some o->h2.get? a=some o)->φ h2
def dN(H:Hp)(h:Heap):Prop:=∀a o,H a=some o->bU P w H h a o
end
section
variable{P:Program}{w:World}{H H':Hp}{h h':Heap}{a:Addr}{o:HO}
theorem bU.lt(x:bU P w H h a o):a<h.objs.size:=by
 cases o with
 |lst xs=>obtain⟨_,_,_,_,e⟩:=x;exact UG e
 |tup xs=>obtain⟨_,_,_,p⟩:=x;exact p.lt
 |dK kvs=>obtain⟨_,_,_,_,o,_,_,e,_⟩:=x;exact UG e
 |dT kvs=>obtain⟨_,_,_,_,o,_,_,e,_⟩:=x;exact UG e
 |set S n=>obtain⟨o,_,_,_,e,_⟩:=x;exact UG e
 |ins C dx fs=>obtain⟨_,_,_,e,_⟩:=x;exact UG e
 |own y=>obtain⟨_,e⟩:=x;exact UG e
 |xd fs=>obtain⟨_,⟨_,_,_,e,_⟩,_⟩:=x;exact UG e
 |tB lo hi=>obtain⟨_,_,_,e⟩:=x;exact UG e
 |cL ob u=>obtain⟨e,_⟩:=x;exact UG e
 |xZ ps=>exact UG (show h.get? a=some _ from x)
 |met f y=>exact UG (show h.get? a=some _ from x)
 |ext φ=>obtain⟨_,⟨_,e⟩,_⟩:=x;exact UG e
theorem Paired.DH{α β:Type}{F G:α->β->Prop}:∀{l₁:List α}{l₂:List β},Paired F l₁ l₂->(∀a b,F a b->G a b)->Paired G l₁ l₂
 |_,_,.nil,_=>.nil
 |_,_,.cons r t,f=>.cons (f _ _ r) (Paired.DH t f)
def bU.stay(x:bU P w H h a o)(k:∀b u,(b=a\/H b=some (.own a))->h.get? b=some u->h'.get? b=some u)(ho:∀b,H b=some (.own a)->H' b=some (.own a))(ht:∀b xs,H b=some (.tup xs)->H' b=some (.tup xs)):bU P w H' h' a o:=by
 induction o with
 |lst xs=>obtain⟨z,its,n,r,e⟩:=x;exact⟨z,its,n,r,k _ _ (.inl rfl) e⟩
 |tup xs=>obtain⟨z,its,r,ob,e,c⟩:=x;exact⟨z,its,r,ob,k _ _ (.inl rfl) e,c⟩
 |dK kvs=>obtain⟨z,y,vs,r,ob,es,ep,e,c⟩:=x;exact⟨z,y,vs,r,ob,es,ep,k _ _ (.inl rfl) e,c⟩
 |dT kvs=>obtain⟨z,y,xs,r,ob,es,ep,e,c⟩:=x;exact⟨z,y,xs,Paired.DH r λp q z=>⟨z.1,ht _ _ z.2.1,z.2.2⟩,ob,es,ep,k _ _ (.inl rfl) e,c⟩
 |set S n=>obtain⟨ob,es,ep,t,e,c⟩:=x;exact⟨ob,es,ep,t,k _ _ (.inl rfl) e,c⟩
 |ins C dx fs=>obtain⟨d,z,ne,e,mA,⟨od,es,ep,e2,c⟩,r⟩:=x;exact⟨ho _ d,z,ne,k _ _ (.inl rfl) e,mA,⟨od,es,ep,k _ _ (.inr d) e2,c⟩,r⟩
 |own y=>obtain⟨ob,e⟩:=x;exact⟨ob,k _ _ (.inl rfl) e⟩
 |xd fs=>obtain⟨mA,⟨od,es,ep,e,c⟩,r⟩:=x;exact⟨mA,⟨od,es,ep,k _ _ (.inl rfl) e,c⟩,r⟩
 |tB lo hi=>obtain⟨t,u,v,e⟩:=x;exact⟨t,u,v,k _ _ (.inl rfl) e⟩
 |cL ob u ih=>obtain⟨e,q⟩:=x;exact⟨k _ _ (.inl rfl) e,ih q⟩
 |xZ ps=>have e:h.get? a=some { cls:=.none,data:=.fields ps }:=x;show h'.get? a=some { cls:=.none,data:=.fields ps };exact k a _ (.inl rfl) e
 |met f y=>have e:h.get? a=some (PySem.W.methodObj (.ref f) (.ref y)):=x;show h'.get? a=some (PySem.W.methodObj (.ref f) (.ref y));exact k a _ (.inl rfl) e
 |ext φ=>obtain⟨p,⟨o,e⟩,st⟩:=x;exact⟨st _ _ p λo q=>k _ _ (.inl rfl) q,⟨o,k _ _ (.inl rfl) e⟩,st⟩
theorem dN.lt(x:dN P w H h)(e:H a=some o):a<h.objs.size:=(x a o e).lt
def dN.fresh(x:dN P w H h)(e:h.objs.size<=a):H a=none:=by
 cases q:H a with
 |none=>rfl
 |some u=>exact absurd (UZ (x.lt q) e) (VC _)
def dN.kept(x:dN P w H h)(k:∀b u,h.get? b=some u->h'.get? b=some u):dN P w H h':=λa o e=>
 (x a o e).stay (λb u _ q=>k b u q) (λ_ q=>q) λ_ _ q=>q
def dN.laid(x:dN P w H h)(k:∀b u,h.get? b=some u->h'.get? b=some u)(hp:h.objs.size<=a)(new:bU P w (upd H a o) h' a o):dN P w (upd H a o) h':=λb u e=>by have hn:=x.fresh hp;by_cases hb:b=a;{subst hb;rw[aH]at e;cases e;exact new};rw[aq hb]at e;exact(x b u e).stay (λc v _ q=>k c v q) (λc q=>by rw[aq (gY q hn)];exact q) λc xs q=>by rw[aq (gY q hn)];exact q
end
def Rd(H:Hp)(a:Addr)(u:HO):Prop:=H a=some u\/∃o,H a=some (.cL o u)
def Rd.ok{P:Program}{w:World}{H:Hp}{h:Heap}{a:Addr}{u:HO}(r:Rd H a u)(x:dN P w H h):bU P w H h a u:=by rcases r with r|⟨o,r⟩;{exact x a u r};obtain⟨_,q⟩:=x a _ r;exact q
def Gy:Option HO->Prop
 |some (.lst _)=>True
 |some (.dK _)=>True
 |some (.dT _)=>True
 |some (.set _ _)=>True
 |some (.ins _ _ _)=>True
 |some (.ext _)=>True
 |_=>False
section
variable{P:Program}{w:World}{H:Hp}{h h':Heap}{x e:Addr}{o':HO}
def dN.write(ok:dN P w H h)(mu:Gy (H x))(he:e=x\/H e=some (.own x))(k:∀b u,b≠e->h.get? b=some u->h'.get? b=some u)(heo:∃u,h'.get? e=some u)(new:bU P w (upd H x o') h' x o'):dN P w (upd H x o') h':=λb u q=>by
 have nown:∀c y,H c=some (.own y)->c≠x:=λc y r z=>by subst z;rw[r]at mu;exact mu
 have ntup:∀c xs,H c=some (.tup xs)->c≠x:=λc xs r z=>by subst z;rw[r]at mu;exact mu
 by_cases hb:b=x;{subst hb;rw[aH]at q;cases q;exact new};rw[aq hb]at q;by_cases hbe:b=e
 .have q':H b=some (.own x):=by rcases he with z|z;{exact absurd (hbe.trans z) hb};rw[hbe];exact z
  rw[q]at q';cases q';obtain⟨v,hv⟩:=heo;exact⟨v,by rw[hbe];exact hv⟩
 refine(ok b u q).stay (λc v hc r=>k c v ?_ r) (λc r=>by rw[aq (nown c b r)];exact r) λc xs r=>by rw[aq (ntup c xs r)];exact r
 rcases hc with rfl|hc;{exact hbe};rintro rfl;rcases he with z|z;{exact nown c b hc z};rw[hc]at z;cases z;exact hb rfl
end
structure Un(fs ex:ZX)(H H':Hp)(h h':Heap):Prop where
 keep:∀b o,h.get? b=some o->H b=none->b∉fs->b∉ex->h'.get? b=some o
 slot:∀b o,h.get? b=some o->H b=none->b∈fs->b∉ex->∃sl,h'.get? b=some { o with slots:=sl }
 free:∀b o,h.get? b=some o->H b=none->b∉ex->H' b=none
 there:∀b o,h.get? b=some o->b∉ex->∃o',h'.get? b=some o'
 tups:∀b xs,H b=some (.tup xs)->H' b=some (.tup xs)
 kM:∀b o u,H b=some (.cL o u)->H' b=some (.cL o u)
 lW:∀b ps,H b=some (.xZ ps)->∃more,H' b=some (.xZ (ps++more))
section
variable{fs fs' ex ex':ZX}{H H1 H2:Hp}{h h1 h2 h':Heap}{a x e:Addr}{o:HO}
def Un.any(u:Un fs ex H H1 h h1){b:Addr}{ob:Obj}(q:h.get? b=some ob)(n:H b=none)(hx:b∉ex):∃sl,h1.get? b=some { ob with slots:=sl }:=by by_cases hb:b∈fs;{exact u.slot b ob q n hb hx};exact⟨ob.slots,u.keep b ob q n hb hx⟩
def Un.kept(k:∀b u,h.get? b=some u->h'.get? b=some u):Un fs ex H H h h':=
 ⟨λb ob q _ _ _=>k b ob q,λb ob q _ _ _=>⟨ob.slots,k b ob q⟩,λ_ _ _ n _=>n,λb ob q _=>⟨ob,k b ob q⟩,λ_ _ q=>q,λ_ _ _ q=>q,λ_ ps q=>⟨#[],by rw[q];simp⟩⟩
def Un.refl:Un fs ex H H h h:=Un.kept λ_ _ q=>q
def Un.laid(k:∀b u,h.get? b=some u->h'.get? b=some u)(hp:h.objs.size<=a)(hn:H a=none):Un fs ex H (upd H a o) h h' where
 keep:=λb u q _ _ _=>k b u q
 slot:=λb u q _ _ _=>⟨u.slots,k b u q⟩
 free:=λb u q n _=>by rw[aq (UH (UZ (UG q) hp))];exact n
 there:=λb u q _=>⟨u,k b u q⟩
 tups:=λb xs q=>by rw[aq (gY q hn)];exact q
 kM:=λb u xs q=>by rw[aq (gY q hn)];exact q
 lW:=λb ps q=>⟨#[],by rw[aq (gY q hn),q];simp⟩
def Un.write(mu:Gy (H x))(he:e=x\/H e=some (.own x))(k:∀b u,b≠e->h.get? b=some u->h'.get? b=some u)(heo:∃u,h'.get? e=some u):Un fs ex H (upd H x o) h h':=by
 have hx:∀b,H b=none->b≠x:=λb n z=>by subst z;rw[n]at mu;exact mu
 have hb:∀b,H b=none->b≠e:=λb n z=>by subst z;rcases he with r|r;{exact hx b n r};rw[n]at r;cases r
 have hm:∀b u,H b=some u->¬Gy (some u)->b≠x:=λb u q nm z=>by subst z;rw[q]at mu;exact nm mu
 refine⟨λb u q n _ _=>k b u (hb b n) q,λb u q n _ _=>⟨u.slots,k b u (hb b n) q⟩,λb u q n _=>by rw[aq (hx b n)];exact n,λb u q _=>?_,
  λb xs q=>by rw[aq (hm b _ q λz=>z)];exact q,λb u xs q=>by rw[aq (hm b _ q λz=>z)];exact q,λb ps q=>⟨#[],by rw[aq (hm b _ q λz=>z),q];simp⟩⟩
 by_cases hbe:b=e;{subst hbe;exact heo};exact⟨u,k b u hbe q⟩
end
def Lu(h:Heap)(H:Hp):ZX:=(List.range h.objs.size).filter λa=>(H a).isSome
def pT(h:Heap)(H:Hp):Heap:=PySem.W.hideAll h (Lu h H)
def HJ(h:Heap)(H:Hp):(pT h H).objs.size=h.objs.size:=PySem.W.hideAll_size _ _
def Jo{h:Heap}{H:Hp}{b:Addr}{o:Obj}(e:h.get? b=some o)(n:H b=none):(pT h H).get? b=some o:=
 PySem.W.hideAll_get _ e λhm=>by have q:(H b).isSome=true:=(UP.mp hm).2;rw[n]at q;simp at q
def Nj{h:Heap}{H:Hp}{b:Addr}{o:Obj}(e:(pT h H).get? b=some o):h.get? b=some o/\H b=none:=by
 have e':h.get? b=some o:=PySem.W.of_hideAll (Lu h H) e;refine⟨e',?_⟩;cases q:H b with
 |none=>rfl
 |some x=>have hm:b∈Lu h H:=UP.mpr ⟨UX.mpr (UG e'),by simp[q]⟩;have z:(pT h H).get? b=none:=PySem.W.hideAll_none (Lu h H) hm;rw[z]at e;cases e
structure Mod(K:ZR)(mg:ZK)(base:Heap):Prop where
 C1:K.In base
 glob:base.Ns mainGlobals mg
 blt:∃mb,base.Ns builtinsNs mb/\∀x:Str,x≠"__name__"->mb x=bootBuiltins x
 nolimit:base.NoLimit
structure Cx where
 prog:Program
 w:World
 K:ZR
 mg:ZK
 base:Heap
 A:Around
 N:Zd
 s₀:Shared
 H₀:Hp
 env:Env
 outer:List Env
 stack:List Env
 ex:ZX
 fn:Str->Bool
 calm:Bool
 pn:ZL
 xe:ZI
def frs(l:List Env):ZX:=l.filterMap (·.frame)
abbrev Cx.fs(X:Cx):ZX:=frs X.outer
def kB(sc:Scope) (x:Str):Prop:=sc.names.lookup x=some .local\/sc.names.lookup x=some .cell\/sc.names.lookup x=some .free
def Loc(sc:Scope) (x:Str):Prop:=sc.names.lookup x=some .local\/sc.names.lookup x=some .cell
def Look(env:Env)(h:Heap)(m:ZK) (x:Str)(u:Value):Prop:=
 (env.kindOf x=some .local/\m x=some u)\/((env.kindOf x=some .cell\/env.kindOf x=some .free)/\∃c,env.cells.lookup x=some c/\h.IsCell c (some u))
structure Cx.Ok(X:Cx):Prop where
 mod:Mod X.K X.mg X.base
 kind:X.env.scope.kind=.function
 glob:X.env.globals=mainGlobals
 blt:X.env.builtins=builtinsNs
 above:X.s₀.heap.objs.size<=X.env.locals
 inj:∀x y c,X.env.cells.lookup x=some c->X.env.cells.lookup y=some c->x=y
 has:∀x,(X.env.kindOf x=some .cell\/X.env.kindOf x=some .free)->∃c,X.env.cells.lookup x=some c
 F9:∀x c,X.fn x=true->X.env.cells.lookup x=some c->X.s₀.heap.objs.size<=c
 hd:X.calm=true->X.A.handled=none
 frames:X.A.frames=some X.stack
 stk:X.stack=X.outer\/(X.stack=X.env::X.outer/\X.env.frame=some X.env.locals)
 Sy:∀b∈X.ex,b≠X.env.locals/\∀x c,X.env.cells.lookup x=some c->c≠b
 bs:∀b o,X.base.get? b=some o->X.s₀.heap.get? b=some o/\X.H₀ b=none
 yi:X.base.objs.size<=X.s₀.heap.objs.size
 wo:∀b o,X.base.get? b=some o->b∉X.ex
 DJ:∀b∈X.ex,b∉X.fs
 mH:X.s₀.heap.FunFrames X.base X.outer
 B8:∀b∈X.fs,X.H₀ b=none
structure Inv(X:Cx)(pins:ZL)(U:List (Option V))(H:Hp)(s:Shared):Prop where
 ok:X.Ok
 os:s.os=X.s₀.os
 bare:AllBare s.gens
 base:Un X.fs X.ex X.H₀ H X.s₀.heap s.heap
 loc:∃m,s.heap.Ns X.env.locals m/\∀(i:Nat) (x:Str) (v:V),X.N[i]?=some x->U[i]?=some (some v)->kB X.env.scope x->∃u,RelV v u/\Look X.env s.heap m x u
 cell:∀x c,X.env.cells.lookup x=some c->∃v,s.heap.IsCell c v
 free:H X.env.locals=none
 jf:∀x c,X.env.cells.lookup x=some c->H c=none
 pin:∀p∈X.pn++pins,s.heap.get? p.1=some p.2/\H p.1=none/\p.1≠X.env.locals/\p.1∉X.fs/\∀v,p.2.data≠.cell v
 hok:dN X.prog X.w H s.heap
 len:U.length=X.N.length
section
variable{X:Cx}{pins:ZL}{U:List (Option V)}{H H':Hp}{s:Shared}{h':Heap}
def Cx.Ok.SW(ok:X.Ok){b:Addr}{o:Obj}(e:X.base.get? b=some o):b∉X.fs:=λhb=>by have:=(ok.mH.mem hb).1;rw[e]at this;cases this
theorem Inv.bs(I:Inv X pins U H s):∀b o,X.base.get? b=some o->s.heap.get? b=some o/\H b=none:=λb o e=>
 ⟨I.base.keep b o (I.ok.bs b o e).1 (I.ok.bs b o e).2 (I.ok.SW e) (I.ok.wo b o e),I.base.free b o (I.ok.bs b o e).1 (I.ok.bs b o e).2 (I.ok.wo b o e)⟩
def Inv.bk(I:Inv X pins U H s):∀b o,X.base.get? b=some o->s.heap.get? b=some o:=λb o e=>(I.bs b o e).1
theorem Inv.mod(I:Inv X pins U H s):Mod X.K X.mg X.base:=I.ok.mod
def Inv.i7(I:Inv X pins U H s):X.K.In s.heap:=I.ok.mod.C1.keeps I.bk
theorem Inv.lt(I:Inv X pins U H s):X.env.locals<s.heap.objs.size:=let⟨_,hn,_⟩:=I.loc;hn.lt
def Inv.sz(I:Inv X pins U H s):X.s₀.heap.objs.size<=s.heap.objs.size:=V4 I.ok.above (Vk I.lt)
def Inv.Jq(I:Inv X pins U H s){a:Addr}(h:s.heap.objs.size<=a):a∉X.fs:=λhb=>by obtain⟨_,o,ho,_⟩:=I.ok.mH.mem hb;exact absurd (UZ (UG ho) (V4 I.sz h)) (VC _)
def Inv.za(I:Inv X pins U H s):∀x c,X.env.cells.lookup x=some c->c≠X.env.locals:=λx c e z=>by obtain⟨v,o,ho,hd⟩:=I.cell x c e;obtain⟨m,⟨o',es,ep,ho',hd',_⟩,_⟩:=I.loc;rw[z,ho']at ho;cases ho;rw[hd']at hd;cases hd
theorem Inv.mH(I:Inv X pins U H s):s.heap.FunFrames X.base X.outer:=by
 have all:∀(l:List Env),(∀b∈frs l,b∈X.fs)->X.s₀.heap.FunFrames X.base l->s.heap.FunFrames X.base l:=by
  intro l;induction l with
  |nil=>intro _ _;trivial
  |cons env r ih=>intro hs hl;obtain⟨hk,⟨L,o,hf,hn,ho,hd⟩,hr⟩:=hl;have hL:L∈X.fs:=hs L (by unfold frs;rw[VW,hf];exact U1);obtain⟨sl,e⟩:=I.base.slot L o ho (I.ok.B8 L hL) hL λz=>I.ok.DJ L z hL;exact⟨hk,⟨L,_,hf,hn,e,hd⟩,ih (λb hb=>hs b (by unfold frs;rw[VW,hf];exact U4 _ hb)) hr⟩
 exact all X.outer (λ_ hb=>hb) I.ok.mH
theorem Inv.stack(I:Inv X pins U H s):s.heap.FunFrames X.base X.stack:=by rcases I.ok.stk with e|⟨e,hf⟩;{rw[e];exact I.mH};rw[e];obtain⟨m,hn,_⟩:=I.loc;refine .cons (by rw[I.ok.kind];decide) hf hn ?_ I.mH;exact XJ (V4 I.ok.yi I.ok.above)
def Inv.ki(I:Inv X pins U H s):∀b∈frs X.stack,b∈X.env.locals::X.fs:=λb hb=>by rcases I.ok.stk with e|⟨e,hf⟩;{rw[e]at hb;exact U4 _ hb};rw[e]at hb;unfold frs at hb;rw[VW,hf]at hb;exact hb
def Inv.r9(I:Inv X pins U H s):∀b∈frs X.stack,H b=none:=λb hb=>by rcases U6.mp (I.ki b hb)with e|hb;{rw[e];exact I.free};obtain⟨_,o,ho,_⟩:=I.ok.mH.mem hb;exact I.base.free b o ho (I.ok.B8 b hb) λz=>I.ok.DJ b z hb
def Inv.step{g':Array GenState}{t':Nat}{d':Drawn}{ch:ZX}(I:Inv X pins U H s)(hch:∀b∈ch,(b∈X.ex\/X.s₀.heap.objs.size<=b)/\b≠X.env.locals/\(∀x c,X.env.cells.lookup x=some c->c≠b)/\∀p∈X.pn++pins,p.1≠b)(keep:∀b o,b≠X.env.locals->b∉X.fs->b∉ch->s.heap.get? b=some o->H b=none->h'.get? b=some o)(slot:∀b o,b≠X.env.locals->b∈X.fs->b∉ch->s.heap.get? b=some o->H b=none->∃sl,h'.get? b=some { o with slots:=sl })(free:∀b o,b∉ch->s.heap.get? b=some o->H b=none->H' b=none)(there:∀b o,b∉ch->s.heap.get? b=some o->∃o',h'.get? b=some o')(tups:∀b xs,H b=some (.tup xs)->H' b=some (.tup xs))(kM:∀b o u,H b=some (.cL o u)->H' b=some (.cL o u))(lW:∀b ps,H b=some (.xZ ps)->∃more,H' b=some (.xZ (ps++more)))(ns:∀m,s.heap.Ns X.env.locals m->h'.Ns X.env.locals m)(hok:dN X.prog X.w H' h')(hg:AllBare g') : Inv X pins U H' { s with heap:=h',gens:=g',drawn:=d',toks:=t' }:=by
 have neL:∀b o,X.s₀.heap.get? b=some o->b≠X.env.locals:=λb o e=>UH (UZ (UG e) I.ok.above);have neC:∀b o,X.s₀.heap.get? b=some o->b∉X.ex->b∉ch:=λb o e hx hb=>by rcases(hch b hb).1 with z|z;{exact hx z};exact absurd (UZ (UG e) z) (VC _)
 have cellK:∀x c,X.env.cells.lookup x=some c->∀v,s.heap.IsCell c v->h'.IsCell c v:=λx c e v ⟨o,ho,hd⟩=>by have nch:c∉ch:=λz=>(hch c z).2.2.1 x c e rfl;by_cases hc:c∈X.fs;{obtain⟨sl,q⟩:=slot c o (I.za x c e) hc nch ho (I.jf x c e);exact⟨_,q,hd⟩};exact⟨o,keep c o (I.za x c e) hc nch ho (I.jf x c e),hd⟩
 refine⟨I.ok,I.os,hg,⟨λb o e n hb hx=>?_,λb o e n hb hx=>?_,λb o e n hx=>?_,λb o e hx=>?_,λb xs e=>tups b xs (I.base.tups b xs e),λb o xs e=>kM b o xs (I.base.kM b o xs e),λb ps e=>?_⟩,?_,λx c e=>?_,?_,λx c e=>?_,λp hp=>?_,hok,I.len⟩;{exact keep b o (neL b o e) hb (neC b o e hx) (I.base.keep b o e n hb hx) (I.base.free b o e n hx)};{obtain⟨sl,e1⟩:=I.base.slot b o e n hb hx;obtain⟨sl',e2⟩:=slot b _ (neL b o e) hb (neC b o e hx) e1 (I.base.free b o e n hx);exact⟨sl',e2⟩};{obtain⟨o',e1⟩:=I.base.there b o e hx;exact free b o' (neC b o e hx) e1 (I.base.free b o e n hx)};{obtain⟨o',e1⟩:=I.base.there b o e hx;exact there b o' (neC b o e hx) e1};{obtain⟨m1,e1⟩:=I.base.lW b ps e;obtain⟨m2,e2⟩:=lW b _ e1;exact⟨m1++m2,by rw[e2,Array.append_assoc]⟩};{obtain⟨m,hn,hl⟩:=I.loc;refine⟨m,ns m hn,λi x v e1 e2 e3=>?_⟩;obtain⟨u,r,l⟩:=hl i x v e1 e2 e3;refine⟨u,r,?_⟩;rcases l with l|⟨k,c,e,z⟩;{exact .inl l};exact .inr ⟨k,c,e,cellK x c e _ z⟩};{obtain⟨v,z⟩:=I.cell x c e;exact⟨v,cellK x c e v z⟩};{obtain⟨m,⟨o,_,_,ho,_⟩,_⟩:=I.loc;exact free _ o (λz=>(hch _ z).2.1 rfl) ho I.free};{obtain⟨v,o,ho,hd⟩:=I.cell x c e;exact free c o (λz=>(hch c z).2.2.1 x c e rfl) ho (I.jf x c e)};obtain⟨e,n,ne,nf,d⟩:=I.pin p hp;have nch:p.1∉ch:=λz=>(hch p.1 z).2.2.2 p hp rfl;exact⟨keep p.1 p.2 ne nf nch e n,free p.1 p.2 nch e n,ne,nf,d⟩
def Inv.un{t':Nat}(I:Inv X pins U H s)(u:Un X.fs [] H H' s.heap h')(hok:dN X.prog X.w H' h'):Inv X pins U H' { s with heap:=h',toks:=t' }:=by
 obtain⟨m,⟨o,es,ep,ho,r⟩,_⟩:=id I.loc;obtain⟨sl,hL⟩:=u.any ho I.free (by simp);exact I.step (g':=s.gens) (d':=s.drawn) (ch:=[]) (λ_ z=>nomatch z) (λb o _ hb _ e n=>u.keep b o e n hb (by simp)) (λb o _ hb _ e n=>u.slot b o e n hb (by simp)) (λb o _ e n=>u.free b o e n (by simp)) (λb o _ e=>u.there b o e (by simp)) u.tups u.kM u.lW (λm' hm=>by
  obtain⟨o',es',ep',ho',r'⟩:=hm;rw[ho]at ho';cases ho';exact⟨_,es',ep',hL,r'⟩) hok I.bare
def Inv.call{g':Array GenState}{t':Nat}{d':Drawn}{ch:ZX}(I:Inv X pins U H s)(u:Un (frs X.stack) ch H H' s.heap h')(hok:dN X.prog X.w H' h')(hg:AllBare g')(hch:∀b∈ch,(b∈X.ex\/X.s₀.heap.objs.size<=b)/\b≠X.env.locals/\(∀x c,X.env.cells.lookup x=some c->c≠b)/\∀p∈X.pn++pins,p.1≠b) : Inv X pins U H' { s with heap:=h',gens:=g',drawn:=d',toks:=t' }:=by
 obtain⟨m,⟨o,es,ep,ho,r⟩,_⟩:=id I.loc;obtain⟨sl,hL⟩:=u.any ho I.free λz=>(hch _ z).2.1 rfl;exact I.step (ch:=ch) hch (λb o hL hb hc e n=>u.keep b o e n (λz=>(U6.mp (I.ki b z)).elim hL hb) hc) (λb o _ _ hc e n=>u.any e n hc) (λb o hc e n=>u.free b o e n hc) (λb o hc e=>u.there b o e hc) u.tups u.kM u.lW (λm' hm=>by
  obtain⟨o',es',ep',ho',r'⟩:=hm;rw[ho]at ho';cases ho';exact⟨_,es',ep',hL,r'⟩) hok hg
def Inv.turned{t':Nat}{it:Addr}(I:Inv X pins U H s)(k:∀b o,b≠it->s.heap.get? b=some o->h'.get? b=some o)(hn:H it=none)(hL:it≠X.env.locals)(h1:it∈X.ex\/X.s₀.heap.objs.size<=it)(h2:∀x c,X.env.cells.lookup x=some c->c≠it)(h3:∀p∈X.pn++pins,p.1≠it):Inv X pins U H { s with heap:=h',toks:=t' }:=by
 have nit:∀b u,H b=some u->b≠it:=λb u e z=>by rw[z,hn]at e;cases e
 refine I.step (g':=s.gens) (d':=s.drawn) (ch:=[it]) (λb hb=>?_) (λb o _ _ hc e _=>k b o (λz=>hc (by simp[z])) e) (λb o _ _ hc e _=>⟨o.slots,k b o (λz=>hc (by simp[z])) e⟩) (λ_ _ _ _ n=>n)
  (λb o hc e=>⟨o,k b o (λz=>hc (by simp[z])) e⟩) (λ_ _ e=>e) (λ_ _ _ e=>e) (λb ps e=>⟨#[],by rw[e];simp⟩) (λm hm=>?_) (λb u e=>?_) I.bare
 .have e:b=it:=by simpa using hb
  subst e;exact⟨h1,hL,h2,h3⟩
 .obtain⟨o,es,ep,ho,r⟩:=hm;exact⟨o,es,ep,k _ o (Ne.symm hL) ho,r⟩
 refine(I.hok b u e).stay (λc v hc q=>k c v ?_ q) (λ_ q=>q) λ_ _ q=>q;rcases hc with z|z;{rw[z];exact nit b u e};exact nit c _ z
def Inv.tok(I:Inv X pins U H s) (t:Nat):Inv X pins U H { s with toks:=t }:=I.un (h':=s.heap) (t':=t) Un.refl I.hok
theorem Inv.kept{t':Nat}(I:Inv X pins U H s)(k:∀b u,s.heap.get? b=some u->h'.get? b=some u):Inv X pins U H { s with heap:=h',toks:=t' }:=I.un (Un.kept k) (I.hok.kept k)
theorem Inv.laid{a:Addr}{o:HO}{t':Nat}(I:Inv X pins U H s)(k:∀b u,s.heap.get? b=some u->h'.get? b=some u)(hp:s.heap.objs.size<=a)(new:bU X.prog X.w (upd H a o) h' a o) : Inv X pins U (upd H a o) { s with heap:=h',toks:=t' }:=I.un (Un.laid k hp (I.hok.fresh hp)) (I.hok.laid k hp new)
theorem Inv.write{x e:Addr}{o:HO}{t':Nat}(I:Inv X pins U H s)(mu:Gy (H x))(he:e=x\/H e=some (.own x))(k:∀b u,b≠e->s.heap.get? b=some u->h'.get? b=some u)(heo:∃u,h'.get? e=some u)(new:bU X.prog X.w (upd H x o) h' x o):Inv X pins U (upd H x o) { s with heap:=h',toks:=t' }:=I.un (Un.write mu he k heo) (I.hok.write mu he k heo new)
def Inv.jM{pins':ZL}(I:Inv X pins U H s)(h:∀p∈pins',s.heap.get? p.1=some p.2/\H p.1=none/\p.1≠X.env.locals/\p.1∉X.fs/\∀v,p.2.data≠.cell v):Inv X pins' U H s:=
 ⟨I.ok,I.os,I.bare,I.base,I.loc,I.cell,I.free,I.jf,λp hp=>(UE.mp hp).elim (λz=>I.pin p (XM _ z)) (h p),I.hok,I.len⟩
def Am{N:Zd}(hN:N.Nodup){i j:Nat}{x:Str}(a:N[i]?=some x)(b:N[j]?=some x):i=j:=by obtain⟨h1,e1⟩:=VE.mp a;obtain⟨h2,e2⟩:=VE.mp b;exact(List.getElem_inj hN).mp (e1.trans e2.symm)
def x9{M:Model}{A:Around}{E:ZI}{i:Nat}{x:Str}{v:V}{u:Value}{Q:Unit->Shared->Prop}(I:Inv X pins U H s)(hN:X.N.Nodup)(hi:X.N[i]?=some x)(hx:Loc X.env.scope x)(r:RelV v u)(h:∀s',Inv X pins (U.set i (some v)) H s'->(∃a,Heap.SameBut a s.heap s'.heap/\(a=X.env.locals\/X.env.cells.lookup x=some a))->Q () s')(hf:X.fn x=true\/X.env.scope.names.lookup x=some .local:=by first|exact .inl rfl|exact .inr rfl|assumption):wpAny M A (storeName X.env x u) Q E s:=by
 obtain⟨m,hn,hl⟩:=id I.loc;have hcls:(X.env.scope.kind == .class||(X.env.scope.kind == .module&&X.env.locals != X.env.globals))=false:=by rw[I.ok.kind];rfl
 have hiσ:i<U.length:=by rw[I.len];exact(VE.mp hi).1
 have za:=I.za;have tracked:∀{a:Addr}{h':Heap},(∃o,s.heap.get? a=some o/\H a=none)->Heap.SameBut a s.heap h'->dN X.prog X.w H h':=λ{a h'} ha hs b ob e=>by obtain⟨_,_,hfree⟩:=ha;refine(I.hok b ob e).stay (λc w' hc q=>(hs.2 c ?_).trans q) (λ_ q=>q) λ_ _ q=>q;rintro rfl;rcases hc with rfl|hc;{rw[hfree]at e;cases e};rw[hfree]at hc;cases hc
 rcases hx with hk|hk;{refine wpAny_storeName_local hk hn (λh' hn' hs=>?_) hcls;obtain⟨oL,_,_,hoL,_⟩:=id hn;refine h _ ⟨I.ok,I.os,I.bare,⟨λb o e n hb hx=>?_,λb o e n hb hx=>?_,I.base.free,λb o e hx=>?_,I.base.tups,I.base.kM,I.base.lW⟩,⟨_,hn',λj y v' e1 e2 e3=>?_⟩,λy c e=>?_,I.free,I.jf,λp hp=>?_,tracked ⟨oL,hoL,I.free⟩ hs,by simpa using I.len⟩ ⟨_,hs,.inl rfl⟩;{exact(hs.2 b (UH (UZ (UG e) I.ok.above))).trans (I.base.keep b o e n hb hx)};{obtain⟨sl,e1⟩:=I.base.slot b o e n hb hx;exact⟨sl,(hs.2 b (UH (UZ (UG e) I.ok.above))).trans e1⟩};{obtain⟨o',e1⟩:=I.base.there b o e hx;exact⟨o',(hs.2 b (UH (UZ (UG e) I.ok.above))).trans e1⟩};{by_cases hj:j=i;{subst hj;rw[hi]at e1;cases e1;rw[Xo hiσ]at e2;cases e2;exact⟨u,r,.inl ⟨hk,by simp⟩⟩};rw[XN (Ne.symm hj)]at e2;obtain⟨u',r',q⟩:=hl j y v' e1 e2 e3;refine⟨u',r',?_⟩;rcases q with⟨k,e⟩|⟨k,c,e,z⟩;{refine .inl ⟨k,?_⟩;have:y≠x:=λe=>hj (Am hN e1 (e▸hi));simp[this,e]};exact .inr ⟨k,c,e,z.sameBut hs (za y c e)⟩};{obtain⟨w',z⟩:=I.cell y c e;exact⟨w',z.sameBut hs (za y c e)⟩};obtain⟨e,n,ne,nf,d⟩:=I.pin p hp;exact⟨(hs.2 p.1 ne).trans e,n,ne,nf,d⟩};have hfn:X.fn x=true:=by rcases hf with z|z;{exact z};rw[z]at hk;cases hk
 obtain⟨c,hc⟩:=I.ok.has x (.inl hk);obtain⟨w',z⟩:=I.cell x c hc;refine wpAny_storeName_cell I.ok.kind hk hc z (λh' hc' hs=>?_);obtain⟨oc,hoc,hocd⟩:=id z;refine h { s with heap:=h' } ⟨I.ok,I.os,I.bare,⟨λb o e n hb hx=>?_,λb o e n hb hx=>?_,I.base.free,λb o e hx=>?_,I.base.tups,I.base.kM,I.base.lW⟩,⟨m,hn.sameBut hs (Ne.symm (za x c hc)),λj y v' e1 e2 e3=>?_⟩,λy c' e=>?_,I.free,I.jf,λp hp=>?_,tracked ⟨oc,hoc,I.jf x c hc⟩ hs,by simpa using I.len⟩ ⟨c,hs,.inr hc⟩;{exact(hs.2 b (UH (UZ (UG e) (I.ok.F9 x c hfn hc)))).trans (I.base.keep b o e n hb hx)};{obtain⟨sl,e1⟩:=I.base.slot b o e n hb hx;exact⟨sl,(hs.2 b (UH (UZ (UG e) (I.ok.F9 x c hfn hc)))).trans e1⟩};{obtain⟨o',e1⟩:=I.base.there b o e hx;exact⟨o',(hs.2 b (UH (UZ (UG e) (I.ok.F9 x c hfn hc)))).trans e1⟩};{by_cases hj:j=i;{subst hj;rw[hi]at e1;cases e1;rw[Xo hiσ]at e2;cases e2;exact⟨u,r,.inr ⟨.inl hk,c,hc,hc'⟩⟩};rw[XN (Ne.symm hj)]at e2;obtain⟨u',r',q⟩:=hl j y v' e1 e2 e3;refine⟨u',r',?_⟩;rcases q with q|⟨k,c',e,z'⟩;{exact .inl q};refine .inr ⟨k,c',e,z'.sameBut hs ?_⟩;rintro rfl;exact hj (Am hN e1 (I.ok.inj _ _ _ e hc▸hi))};{by_cases hcc:c'=c;{subst hcc;exact⟨_,hc'⟩};obtain⟨w2,z2⟩:=I.cell y c' e;exact⟨w2,z2.sameBut hs hcc⟩};obtain⟨e,n,ne,nf,d⟩:=I.pin p hp;refine⟨(hs.2 p.1 ?_).trans e,n,ne,nf,d⟩;intro q;rw[q,hoc]at e;have q':oc=p.2:=Option.some.inj e;exact d w' (by rw[<-q'];exact hocd)
def tS{M:Model}{A:Around}{E:ZI}{i:Nat}{x:Str}{v:V}{u:Value}{Q:Unit->Shared->Prop}(I:Inv X pins U H s)(hN:X.N.Nodup)(hi:X.N[i]?=some x)(hx:Loc X.env.scope x)(r:RelV v u)(h:∀s',Inv X pins (U.set i (some v)) H s'->Q () s')(hf:X.fn x=true\/X.env.scope.names.lookup x=some .local:=by first|exact .inl rfl|exact .inr rfl|assumption):wpAny M A (storeName X.env x u) Q E s:=
 x9 I hN hi hx r (λs' I' _=>h s' I') hf
def Inv.Ew{s':Shared}{ch:ZX}(I:Inv X pins U H s)(ho:s'.os=s.os)(u:Un (frs X.stack) ch H H' s.heap s'.heap)(hok:dN X.prog X.w H' s'.heap)(hg:AllBare s'.gens)(hch:∀b∈ch,(b∈X.ex\/X.s₀.heap.objs.size<=b)/\b≠X.env.locals/\(∀x c,X.env.cells.lookup x=some c->c≠b)/\∀p∈X.pn++pins,p.1≠b):Inv X pins U H' s':=by obtain⟨h',g',d',t',o'⟩:=s';have e:o'=s.os:=ho;subst e;exact I.call (g':=g') (t':=t') (d':=d') u hok hg hch
end
abbrev XK:=Value->ZV->Hp->Prop
abbrev St:=List (Option V)
abbrev VK:=V->Hp->Prop
abbrev TE:=St->Hp->VK->Prop
abbrev TT:=St->Hp->(Bool->Hp->Prop)->Prop
abbrev TA:=St->Hp->(List V->Hp->Prop)->Prop
structure Ends where
 nx:St->Hp->Prop
 rt:VK
 bk:St->Hp->Prop:=λ_ _=>False
 ct:St->Hp->Prop:=λ_ _=>False
abbrev TS:=Ends->St->Hp->Prop
def EP(X:Cx)(pins:ZL)(U:St)(Q:VK)(u:Value)(s':Shared):Prop:=∃v H',Inv X pins U H' s'/\RelV v u/\Q v H'
def TP(X:Cx)(pins:ZL)(U:St)(Q:Bool->Hp->Prop)(b:Bool)(s':Shared):Prop:=∃H',Inv X pins U H' s'/\Q b H'
def AP(X:Cx)(pins:ZL)(U:St)(Q:List V->Hp->Prop)(us:ZW)(s':Shared):Prop:=∃vs H',Inv X pins U H' s'/\Vals vs us/\Q vs H'
def SP(X:Cx)(pins:ZL)(D:Ends)(f:Flow)(s':Shared):Prop:=
 match f with
 |.next=>∃σ' H',Inv X pins σ' H' s'/\D.nx σ' H'
 |.brk=>∃σ' H',Inv X pins σ' H' s'/\D.bk σ' H'
 |.cont=>∃σ' H',Inv X pins σ' H' s'/\D.ct σ' H'
 |.ret u=>∃v σ' H',Inv X pins σ' H' s'/\RelV v u/\D.rt v H'
def PE(X:Cx)(e:Expr)(t:TE):Prop:=
 ∀(pins:ZL)(s:Shared)(U:St)(H:Hp)(Q:VK),Inv X pins U H s->t U H Q->wpAny (model X.prog X.w) X.A (eval e X.env) (EP X pins U Q) X.xe s
def PT(X:Cx)(e:Expr)(t:TT):Prop:=
 ∀(pins:ZL)(s:Shared)(U:St)(H:Hp)(Q:Bool->Hp->Prop),Inv X pins U H s->t U H Q->wpAny (model X.prog X.w) X.A (isTrue e X.env (eval e X.env)) (TP X pins U Q) X.xe s
def PW(X:Cx)(e:Expr)(t:TT):Prop:=
 ∀(whole:Sem Value)(pins:ZL)(s:Shared)(U:St)(H:Hp)(Q:Bool->Hp->Prop),Inv X pins U H s->t U H Q->wpAny (model X.prog X.w) X.A (isTrue e X.env whole) (TP X pins U Q) X.xe s
def PW.pt{X:Cx}{e:Expr}{t:TT}(h:PW X e t):PT X e t:=h _
def PA(X:Cx)(es:ZZ)(t:TA):Prop:=
 ∀(pos:Pos)(pins:ZL)(s:Shared)(U:St)(H:Hp)(Q:List V->Hp->Prop),Inv X pins U H s->t U H Q->wpAny (model X.prog X.w) X.A (spliced (backTo pos (starEach es X.env))) (AP X pins U Q) X.xe s
def PS(X:Cx)(st:Stmt)(t:TS):Prop:=
 ∀(pins:ZL)(s:Shared)(U:St)(H:Hp)(D:Ends),Inv X pins U H s->t D U H->wpAny (model X.prog X.w) X.A (exec st X.env) (SP X pins D) X.xe s
def qm(X:Cx)(st:Za)(t:TS):Prop:=
 ∀(pins:ZL)(s:Shared)(U:St)(H:Hp)(D:Ends),Inv X pins U H s->t D U H->wpAny (model X.prog X.w) X.A (execs st X.env) (SP X pins D) X.xe s
def aU{α:Type}{t:Sem α}{Q Q':α->Shared->Prop}{M:Model}{A:Around}{E:ZI}{s:Shared}(h:wpAny M A t Q E s)(hQ:∀a s,Q a s->Q' a s):wpAny M A t Q' E s:=V9 h hQ λ_ _ x=>x
section
variable{X:Cx}
inductive K0(i:Nat)(U:St)(H:Hp)(Q:VK):Prop
 |mk:∀v,(U[i]?=some (some v))->(Q v H)->K0 i U H Q
def jK(i:Nat):TE:=λU H Q=>K0 i U H Q
def tC(v:V):TE:=λ_ H Q=>Q v H
def gn{i:Nat}{x:Str}{pos:Pos}(hN:X.N[i]?=some x)(hv:kB X.env.scope x)(hd:(x==("__debug__":Str))=false:=by decide)(hcd:(x==("__classdict__":Str))=false:=by decide):PE X (.Name x pos) (jK i):=by intro pins s U H Q I h;obtain⟨v,e,h⟩:=h;obtain⟨m,hn,hl⟩:=I.loc;obtain⟨u,r,l⟩:=hl i x v hN e hv;have fin:EP X pins U Q u s:=⟨v,H,I,r,h⟩;rcases l with⟨hk,hm⟩|⟨hk,c,hc,hcell⟩;{exact wpAny_Name (wpAny_loadName_local I.ok.kind hk hn hm fin) hd};rcases hk with hk|hk;{exact wpAny_Name (wpAny_loadName_cell I.ok.kind hk hc hcell fin) hd};exact wpAny_Name (wpAny_loadName_free I.ok.kind hk hc hcell fin hcd) hd
def N4{i j pos}:PE X (.Constant (.int i) j pos) (tC (.int i)):=λ_ _ _ H _ I h=>wpAny_Constant_int ⟨.int i,H,I.tok _,⟨_,rfl⟩,h⟩
def RO{b j pos}:PE X (.Constant (.bool b) j pos) (tC (.bl b)):=λ_ _ _ H _ I h=>Constant_bool ⟨.bl b,H,I,rfl,h⟩
def P1{j pos}:PE X (.Constant .none j pos) (tC .bw):=λ_ _ _ H _ I h=>Constant_none ⟨.bw,H,I,rfl,h⟩
def G7{x j pos}:PE X (.Constant (.str x) j pos) (tC (.str x)):=λ_ _ _ H _ I h=>Calls.Constant_str ⟨.str x,H,I.tok _,⟨_,rfl⟩,h⟩
def Gl(X:Cx) (x:Str):Prop:=X.env.kindOf x=some .globalImplicit
def Ck{E:ZI}{pins:ZL}{s:Shared}{U:St}{H:Hp}{x:Str}{u:Value}{pos:Pos}{Q:ZI}(I:Inv X pins U H s)(hg:Gl X x)(hm:X.mg x=some u)(h:Q u s)(hd:(x==("__debug__":Str))=false:=by decide):wpAny (model X.prog X.w) X.A (eval (.Name x pos) X.env) Q E s:=
 Calls.Name_function_global I.ok.kind hg (Calls.loadGlobal_global (by rw[I.ok.glob];exact I.mod.glob.keeps I.bk) hm h) hd
def mE{E:ZI}{pins:ZL}{s:Shared}{U:St}{H:Hp}{x:Str}{u:Value}{pos:Pos}{Q:ZI}(I:Inv X pins U H s)(hg:Gl X x)(hm:X.mg x=none)(hv:bootBuiltins x=some u)(h:Q u s)(hn:x≠"__name__":=by decide)(hd:(x==("__debug__":Str))=false:=by decide):wpAny (model X.prog X.w) X.A (eval (.Name x pos) X.env) Q E s:=by obtain⟨mb,h1,h2⟩:=I.mod.blt;exact Calls.Name_function_global I.ok.kind hg (Calls.loadGlobal_builtin (by rw[I.ok.glob];exact I.mod.glob.keeps I.bk) hm (by rw[I.ok.blt];exact h1.keeps I.bk) ((h2 x hn).trans hv) h) hd
def Mb{x:Str}{v:V}{u:Value}{pos:Pos}(hg:Gl X x)(hm:X.mg x=none)(hv:bootBuiltins x=some u)(r:RelV v u)(hn:x≠"__name__":=by decide)(hd:(x==("__debug__":Str))=false:=by decide):PE X (.Name x pos) (tC v):=
 λ_ _ _ H _ I h=>mE I hg hm hv ⟨v,H,I,r,h⟩ hn hd
variable{a b:Expr}{ta tb:TE}{pos:Pos}
variable{tA tB':TT}{rest:ZZ}
def Tq(t u:TT):TT:=λU H Q=>t U H λc H1=>if c=true then u U H1 Q else Q false H1
def Ub(t u:TT):TT:=λU H Q=>t U H λc H1=>if c=true then Q true H1 else u U H1 Q
def TN(t:TT):TT:=λU H Q=>t U H λc H1=>Q (!c) H1
def pw_and1(ha:PT X a tA):PW X (.BoolOp .And [a] pos) tA:=by
 intro wh pins s U H Q I h;refine isTrue_and (aU (ha pins s U H Q I h) λc s1 e=>?_);cases c with
 |true=>exact isTrue_and_nil e
 |false=>exact e
def pw_or1(ha:PT X a tA):PW X (.BoolOp .Or [a] pos) tA:=by
 intro wh pins s U H Q I h;refine isTrue_or (aU (ha pins s U H Q I h) λc s1 e=>?_);cases c with
 |false=>exact isTrue_or_nil e
 |true=>exact e
def pw_and(ha:PT X a tA)(hb:PW X (.BoolOp .And (b::rest) pos) tB'):PW X (.BoolOp .And (a::b::rest) pos) (Tq tA tB'):=by
 intro wh pins s U H Q I h;refine isTrue_and (aU (ha pins s U H _ I h) λc s1 ⟨H1,I1,q1⟩=>?_);cases c with
 |true=>exact hb wh pins s1 U H1 Q I1 q1
 |false=>exact⟨H1,I1,q1⟩
def pw_or(ha:PT X a tA)(hb:PW X (.BoolOp .Or (b::rest) pos) tB'):PW X (.BoolOp .Or (a::b::rest) pos) (Ub tA tB'):=by
 intro wh pins s U H Q I h;refine isTrue_or (aU (ha pins s U H _ I h) λc s1 ⟨H1,I1,q1⟩=>?_);cases c with
 |true=>exact⟨H1,I1,q1⟩
 |false=>exact hb wh pins s1 U H1 Q I1 q1
def GS(ha:PT X a tA):PT X (.UnaryOp .Not a pos) (TN tA):=by intro pins s U H Q I h;exact isTrue_not (ha pins s U H (λc H1=>Q (!c) H1) I h)
inductive Gg(tb:TE)(U:St)(Q:VK) (x:V)(H1:Hp):Prop
 |mk:∀c,(x=.bl c)->(if c=true then tb U H1 Q else Q (.bl false) H1)->Gg tb U Q x H1
def Sf(ta tb:TE):TE:=λU H Q=>ta U H λx H1=>Gg tb U Q x H1
def Rb{op}{t:TE}(h:PE X a t):PE X (.BoolOp op [a] pos) t:=λpins s U H Q I hw=>BoolOp_one (h pins s U H Q I hw)
def QJ(ha:PE X a ta)(hb:PE X (.BoolOp .And (b::rest) pos) tb):PE X (.BoolOp .And (a::b::rest) pos) (Sf ta tb):=by
 intro pins s U H Q I h;refine BoolOp_and (aU (ha pins s U H _ I h) λv s1 ⟨x,H1,I1,r1,q1⟩=>?_);obtain⟨c,rfl,q1⟩:=q1;cases r1;refine Wc ?_;cases c with
 |true=>exact hb pins s1 U H1 Q I1 q1
 |false=>exact⟨.bl false,H1,I1,rfl,q1⟩
def Um(t:TT)(ta tb:TE):TE:=λU H Q=>t U H λc H1=>if c=true then ta U H1 Q else tb U H1 Q
def J1{c:Expr}(hc:PT X c tA)(ha:PE X a ta)(hb:PE X b tb):PE X (.IfExp c a b pos) (Um tA ta tb):=by
 intro pins s U H Q I h;refine wpAny_IfExp (aU (hc pins s U H _ I h) λd s1 ⟨H1,I1,q1⟩=>?_);cases d with
 |true=>exact ha pins s1 U H1 Q I1 q1
 |false=>exact hb pins s1 U H1 Q I1 q1
end
def bI(K:ZR)(H:Hp)(a:Addr)(xs:List V):Prop:=
 Rd H a (.lst xs) \/
  ∃(o:Obj)(its:ZT) (n:Nat),K.lookup a=some o/\o.cls=.type "list"/\o.dict=none/\o.data=.seq its n/\its.size<=sizeLine/\Vals xs its.toList
def cP(K:ZR)(H:Hp)(a:Addr)(xs:List V):Prop:=
 Rd H a (.tup xs) \/
  ∃(o:Obj)(its:ZT) (n:Nat),K.lookup a=some o/\o.cls=.type "tuple"/\o.data=.seq its n/\its.size<=sizeLine/\Vals xs its.toList
def SX:Value->Option V
 |.none=>some .bw
 |.bool b=>some (.bl b)
 |.int i _=>some (.int i)
 |.str x _=>some (.str x)
 |.bytes b _=>some (.om b)
 |.float b _=>some (.Co b)
 |.ref a=>some (.ref a)
 |.type n=>some (.ty n)
 |_=>none
def RelV.abs{x:V}{u:Value}(r:RelV x u):SX u=some x:=by
 cases x with
 |bw=>cases r;rfl
 |bl _=>cases r;rfl
 |int _=>obtain⟨t,rfl⟩:=r;rfl
 |str _=>obtain⟨t,rfl⟩:=r;rfl
 |om _=>obtain⟨t,rfl⟩:=r;rfl
 |Co _=>obtain⟨t,rfl⟩:=r;rfl
 |ref _=>cases r;rfl
 |ty _=>cases r;rfl
theorem RelV.inj{x y:V}{u:Value}(r:RelV x u)(q:RelV y u):x=y:=Option.some.inj (r.abs.symm.trans q.abs)
theorem Vals.inj{xs ys:List V}{us:ZW}(h:Vals xs us)(h':Vals ys us):xs=ys:=by
 induction h generalizing ys with
 |nil=>cases h';rfl
 |cons r t ih=>cases h' with|cons r' t'=>rw[r.inj r',ih t']
section
variable{X:Cx}{pins:ZL}{U:St}{H:Hp}{s:Shared}{a:Addr}{xs ys:List V}
def bI.of{K:ZR}(h:H a=some (.lst xs)):bI K H a xs:=.inl (.inl h)
def cP.of{K:ZR}(h:H a=some (.tup xs)):cP K H a xs:=.inl (.inl h)
def Inv.list(I:Inv X pins U H s)(h:bI X.K H a xs):∃its:ZW,Vals xs its/\PlainL s.heap a its.toArray/\xs.length<=sizeLine:=by rcases h with h|⟨o,its,n,hk,hc,hd,hs,hz,r⟩;{obtain⟨z,its,n,r,e⟩:=h.ok I.hok;exact⟨its,r,⟨_,n,e,rfl,rfl,rfl⟩,z⟩};refine⟨its.toList,r,⟨o,n,I.i7 a o hk,hc,hd,by simpa using hs⟩,?_⟩;have e:=r.length;simp only[Vl]at e;lia
def Inv.tuple(I:Inv X pins U H s)(h:cP X.K H a xs):∃its:ZW,Vals xs its/\IsTup s.heap a its.toArray/\xs.length<=sizeLine:=by rcases h with h|⟨o,its,n,hk,hc,hs,hz,r⟩;{obtain⟨z,its,r,p⟩:=h.ok I.hok;exact⟨its,r,p,z⟩};refine⟨its.toList,r,⟨o,I.i7 a o hk,hc,n,by simpa using hs⟩,?_⟩;have e:=r.length;simp only[Vl]at e;lia
def Inv.pY(I:Inv X pins U H s)(h:bI X.K H a xs)(h':bI X.K H a ys):xs=ys:=by
 obtain⟨its,r,⟨o,n,e,_,_,d⟩,_⟩:=I.list h;obtain⟨its',r',⟨o',n',e',_,_,d'⟩,_⟩:=I.list h';rw[e]at e';cases e';rw[d]at d';injection d' with d1 _;have:its=its':=by simpa using congrArg Array.toList d1
 subst this;exact r.inj r'
def Inv.Ht(I:Inv X pins U H s)(h:cP X.K H a xs)(h':cP X.K H a ys):xs=ys:=by
 obtain⟨its,r,⟨o,e,_,n,d⟩,_⟩:=I.tuple h;obtain⟨its',r',⟨o',e',_,n',d'⟩,_⟩:=I.tuple h';rw[e]at e';cases e';rw[d]at d';injection d' with d1 _;have:its=its':=by simpa using congrArg Array.toList d1
 subst this;exact r.inj r'
end
section
variable{X:Cx}{st:Stmt}{rest:Za}{t u:TS}{e:Expr}{te:TE}{pos:Pos}
def Rt:TS:=λD U H=>D.nx U H
def To(t u:TS):TS:=λD U H=>t { D with nx:=u D } U H
def Mp:qm X [] Rt:=λ_ _ U H _ I h=>Xp ⟨U,H,I,h⟩
def AH(h1:PS X st t)(h2:qm X rest u):qm X (st::rest) (To t u):=by
 intro pins s U H D I h;refine wpAny_execs_cons (aU (h1 pins s U H { D with nx:=u D } I h) λf s1 q=>?_);cases f with
 |next=>obtain⟨σ',H',I',q⟩:=q;exact h2 pins s1 σ' H' D I' q
 |ret v=>exact q
 |brk=>exact q
 |cont=>exact q
def Mm(h1:PS X st t):qm X [st] t:=by
 intro pins s U H D I h;refine wpAny_execs_cons (aU (h1 pins s U H D I h) λf s1 q=>?_);cases f with
 |next=>exact Xp q
 |ret v=>exact q
 |brk=>exact q
 |cont=>exact q
def Inv.quiet{pins:ZL}{U:St}{H:Hp}{s:Shared}(I:Inv X pins U H s):interactive X.env=false:=by simp[interactive,I.ok.kind]
def Ri(te:TE):TS:=λD U H=>te U H λ_ H1=>D.nx U H1
def LZ(he:PE X e te)(hs:swapsWith e none pos.line X.env=pure false:=by rfl):PS X (.Expr e pos) (Ri te):=by intro pins s U H D I h;exact wpAny_Expr_any (aU (he pins s U H _ I h) λv s1 ⟨x,H1,I1,r1,q1⟩=>⟨U,H1,I1,q1⟩) I.quiet hs
def Tn(te:TE):TS:=λD U H=>te U H D.rt
def Fi(he:PE X e te):PS X (.Return (some e) pos) (Tn te):=by intro pins s U H D I h;exact wpAny_Return_some (aU (he pins s U H _ I h) λv s1 ⟨x,H1,I1,r1,q1⟩=>⟨x,U,H1,I1,r1,q1⟩)
def S8(c:TT)(t u:TS):TS:=λD U H=>c U H λb H1=>if b=true then t D U H1 else u D U H1
def RM{c:Expr}{a b:Za}{tc:TT}(hc:PT X c tc)(ha:qm X a t)(hb:qm X b u):PS X (.If c a b pos) (S8 tc t u):=by
 intro pins s U H D I h;refine wpAny_If (aU (hc pins s U H _ I h) λd s1 ⟨H1,I1,q1⟩=>?_);cases d with
 |true=>exact ha pins s1 U H1 D I1 q1
 |false=>exact hb pins s1 U H1 D I1 q1
end
abbrev TG:=V->St->Hp->(St->Hp->Prop)->Prop
abbrev sQ:=List V->St->Hp->(St->Hp->Prop)->Prop
def PG(X:Cx)(target:Expr)(t:TG):Prop:=
 ∀(pins:ZL)(s:Shared)(U:St)(H:Hp) (v:V)(u:Value)(Q:St->Hp->Prop),Inv X pins U H s->RelV v u->t v U H Q->
  wpAny (model X.prog X.w) X.A (assign target X.env u) (λ_ s'=>∃σ' H',Inv X pins σ' H' s'/\Q σ' H') X.xe s
def GD(X:Cx)(ts:ZZ)(t:sQ):Prop:=
 ∀(pins:ZL)(s:Shared)(U:St)(H:Hp)(vs:List V)(us:ZW)(Q:St->Hp->Prop),Inv X pins U H s->Vals vs us->t vs U H Q->
  wpAny (model X.prog X.w) X.A (assignInOrder ((assignEach ts X.env).map (·.2)) us) (λ_ s'=>∃σ' H',Inv X pins σ' H' s'/\Q σ' H') X.xe s
abbrev EU:=V->V->V->Hp->(Hp->Prop)->Prop
def Ke(X:Cx)(t:EU):Prop:=
 ∀(pins:ZL)(s:Shared)(U:St)(H:Hp) (o i v:V)(ov iv u:Value)(Q:Hp->Prop),Inv X pins U H s->RelV o ov->RelV i iv->RelV v u->t o i v H Q->
  wpAny (model X.prog X.w) X.A (setItem ov iv u) (λ_ s'=>∃H',Inv X pins U H' s'/\Q H') X.xe s
abbrev F8:=V->V->Hp->VK->Prop
def Fz(X:Cx)(op:Operator)(t:F8):Prop:=
 ∀(pins:ZL)(s:Shared)(U:St)(H:Hp) (x y:V)(v u:Value)(Q:VK),Inv X pins U H s->RelV x v->RelV y u->t x y H Q->
  wpAny (model X.prog X.w) X.A (inplaceOp op v u) (EP X pins U Q) X.xe s
section
variable{X:Cx}{pos:Pos}
def sj(i:Nat):TG:=λv U H Q=>Q (U.set i (some v)) H
def Cd{i:Nat}{x:Str}(hN:X.N.Nodup)(hi:X.N[i]?=some x)(hx:Loc X.env.scope x)(hf:X.fn x=true\/X.env.scope.names.lookup x=some .local:=by first|exact .inl rfl|exact .inr rfl|assumption):PG X (.Name x pos) (sj i):=by intro pins s U H v u Q I r h;exact wpAny_assign_Name (tS I hN hi hx r (λs' I'=>⟨_,H,I',h⟩) hf)
def Qh:sQ:=λvs U H Q=>vs=[]/\Q U H
inductive Ga(t:TG)(u:sQ)(vs:List V)(U:St)(H:Hp)(Q:(St->Hp->Prop)):Prop
 |mk:∀v r,(vs=v::r)->(t v U H λσ' H'=>u r σ' H' Q)->Ga t u vs U H Q
def KY(t:TG)(u:sQ):sQ:=λvs U H Q=>Ga t u vs U H Q
def Mz:GD X [] Qh:=by intro pins s U H vs us Q I r h;obtain⟨e,h⟩:=h;subst e;cases r;exact assignInOrder_nil ⟨U,H,I,h⟩
def JP{e:Expr}{es:ZZ}{t:TG}{u:sQ}(h1:PG X e t)(h2:GD X es u)(hs:(assignEach (e::es) X.env).map (·.2)=assign e X.env::(assignEach es X.env).map (·.2):=by rfl):GD X (e::es) (KY t u):=by
 intro pins s U H vs us Q I r h;obtain⟨v,vr,e1,h⟩:=h;subst e1;cases r with
 |cons r rr=>rw[hs];refine assignInOrder_cons (aU (h1 pins s U H _ _ _ I r h) λ_ s1 ⟨σ1,H1,I1,q1⟩=>?_);exact h2 pins s1 σ1 H1 _ _ Q I1 rr q1
inductive KA(K:ZR) (n:Nat)(t:sQ) (v:V)(U:St)(H:Hp)(Q:(St->Hp->Prop)):Prop
 |mk:∀a xs,(v=.ref a)->(cP K H a xs)->(xs.length=n)->(t xs U H Q)->KA K n t v U H Q
def jz(K:ZR) (n:Nat)(t:sQ):TG:=λv U H Q=>KA K n t v U H Q
def P6{es:ZZ}{k:Nat}{t:sQ}{n:Nat}(hc:X.calm=true)(h:GD X es t)(hn:(assignEach es X.env).length=n:=by rfl)(hst:(assignEach es X.env).findIdx? (·.1)=none:=by rfl):PG X (.Tuple es k pos) (jz X.K n t):=by intro pins s U H v u Q I r hw;obtain⟨a,xs,e1,hq,hl,hw⟩:=hw;subst e1;cases r;obtain⟨its,rv,ht,hz⟩:=I.tuple hq;refine assign_Tuple_tuple (I.ok.hd hc) ht (by simp[hn,<-hl,rv.length]) hst λh' hx=>?_;have I1:Inv X pins U H { s with heap:=h' }:=I.kept (t':=s.toks) λb o e=>hx b o (UH (UG e)) e;exact h pins _ U H xs _ Q I1 (by simpa using rv) hw
def kP(to ti:TE)(t:EU):TG:=λv U H Q=>to U H λo H1=>ti U H1 λi H2=>t o i v H2 λH3=>Q U H3
def Nz{o i:Expr}{to ti:TE}{t:EU}(ho:PE X o to)(hi:PE X i ti)(hs:Ke X t)
  (ha:∀v,assign (.Subscript o i pos) X.env v=(do
   let ov <-holding [v] (eval o X.env)
   let iv <-holding [v,ov] (eval i X.env)
   standAt pos
   holding [v,ov,iv] (setItem ov iv v)
   release [v,ov,iv] []):=by intro _;rfl):PG X (.Subscript o i pos) (kP to ti t):=by
 intro pins s U H v u Q I r h;rw[ha];refine U0 (VX (aU (ho pins s U H _ I h) λov s1 ⟨x,H1,I1,r1,q1⟩=>?_))
 refine U0 (VX (aU (hi pins s1 U H1 _ I1 q1) λiv s2 ⟨y,H2,I2,r2,q2⟩=>?_))
 refine U0 (Wx (U0 (VX (aU (hs pins s2 U H2 x y v ov iv u _ I2 r1 r2 r q2) λ_ s3 ⟨H3,I3,q3⟩=>?_))))
 exact wpAny_release ⟨U,H3,I3,q3⟩
def J8(te:TE)(g:TG):TS:=λD U H=>te U H λx H1=>g x U H1 D.nx
def HP{tg e:Expr}{te:TE}{g:TG}(he:PE X e te)(hg:PG X tg g)(hs:swapsWithSole [tg] e pos.line X.env=pure false:=by rfl)(hw:swappedStores [tg] e X.env=pure none:=by rfl)(h1:(assignEach [tg] X.env).map (·.2)=[assign tg X.env]:=by rfl):PS X (.Assign [tg] e pos) (J8 te g):=by intro pins s U H D I h;refine wpAny_Assign_stores (aU (he pins s U H _ I h) λv s1 ⟨x,H1,I1,r1,q1⟩=>?_) hs hw;rw[h1];exact aU (hg pins s1 U H1 x v _ I1 r1 q1) λ_ s2 q=>q
def Pn{i:Nat}{x:Str}{e:Expr}{te:TE}{pos':Pos}(hN:X.N.Nodup)(hi:X.N[i]?=some x)(hx:Loc X.env.scope x)(he:PE X e te)(hs:swapsWith e (some (.Name x pos')) pos.line X.env=pure false:=by rfl)(hf:X.fn x=true\/X.env.scope.names.lookup x=some .local:=by first|exact .inl rfl|exact .inr rfl|assumption) : PS X (.Assign [.Name x pos'] e pos) (J8 te (sj i)):=by intro pins s U H D I h;refine wpAny_Assign_Name (aU (he pins s U H _ I h) λv s1 ⟨y,H1,I1,r1,q1⟩=>?_) hs;exact tS I1 hN hi hx r1 (λs2 I2=>⟨_,H1,I2,q1⟩) hf
def Tw(i:Nat)(te:TE)(ti:F8):TS:=λD U H=>∃x,U[i]?=some (some x)/\te U H λy H1=>ti x y H1 λz H2=>D.nx (U.set i (some z)) H2
def Iv{i:Nat}{x:Str}{e:Expr}{te:TE}{op:Operator}{ti:F8}{pos':Pos}(hN:X.N.Nodup)(hi:X.N[i]?=some x)(hx:Loc X.env.scope x)(he:PE X e te)(ho:Fz X op ti)(hf:X.fn x=true\/X.env.scope.names.lookup x=some .local:=by first|exact .inl rfl|exact .inr rfl|assumption) : PS X (.AugAssign (.Name x pos') op e pos) (Tw i te ti):=by
 intro pins s U H D I h;obtain⟨v,e1,h⟩:=h;obtain⟨m,hn,hl⟩:=I.loc;have vis:kB X.env.scope x:=by rcases hx with k|k;exact .inl k;exact .inr (.inl k)
 obtain⟨u,r,l⟩:=hl i x v hi e1 vis;refine wpAny_AugAssign_Name ?_;have go:wpAny (model X.prog X.w) X.A (eval e X.env) (λw s₂=>wpAny (model X.prog X.w) X.A (inplaceOp op u w) (λr s₃=>wpAny (model X.prog X.w) X.A (storeName X.env x r) (λ_=>SP X pins D .next) X.xe s₃) X.xe s₂) X.xe s:=by refine aU (he pins s U H _ I h) λw s1 ⟨y,H1,I1,r1,q1⟩=>?_;refine aU (ho pins s1 U H1 v y u w _ I1 r r1 q1) λz s2 ⟨zv,H2,I2,r2,q2⟩=>?_;exact tS I2 hN hi hx r2 (λs3 I3=>⟨_,H2,I3,q2⟩) hf
 rcases l with⟨hk,hm⟩|⟨hk,c,hc,hcell⟩;{exact wpAny_loadName_local I.ok.kind hk hn hm go};rcases hk with hk|hk;{exact wpAny_loadName_cell I.ok.kind hk hc hcell go};rcases hx with k|k;{have:X.env.scope.names.lookup x=some .free:=hk;rw[k]at this;cases this};have:X.env.scope.names.lookup x=some .free:=hk;rw[k]at this;cases this
def Q4(f:Int->Int->Int):F8:=λx y H Q=>∃i j,x=.int i/\y=.int j/\Q (.int (f i j)) H
def Pa:Fz X .Add (Q4 λi j=>i+j):=by intro pins s U H x y v u Q I r1 r2 h;obtain⟨i,j,e1,e2,q⟩:=h;subst e1;subst e2;obtain⟨t,rfl⟩:=r1;obtain⟨t',rfl⟩:=r2;exact iadd_int ⟨.int _,H,I.tok _,⟨_,rfl⟩,q⟩
def QU:Fz X .Sub (Q4 λi j=>i-j):=by intro pins s U H x y v u Q I r1 r2 h;obtain⟨i,j,e1,e2,q⟩:=h;subst e1;subst e2;obtain⟨t,rfl⟩:=r1;obtain⟨t',rfl⟩:=r2;exact isub_int ⟨.int _,H,I.tok _,⟨_,rfl⟩,q⟩
end
section
variable{X:Cx}{pos:Pos}
def QK(c:TT)(tb:TS):TS:=λD U H=>∃W:Nat->St->Hp->Prop,(∃m,W m U H)/\∀m U H,W m U H->
 c U H λb H1=>if b=true then ∃N:St->Hp->Prop,(∀σ' H',N σ' H'->∃m',m'<m/\W m' σ' H')/\tb { D with nx:=N,ct:=N,bk:=D.nx } U H1 else D.nx U H1
def J0{c:Expr}{body:Za}{tc:TT}{tb:TS}(hp:PassesOwn (model X.prog X.w) X.A X.env X.xe)(hc:PT X c tc)(hb:qm X body tb):PS X (.While c body [] pos) (QK tc tb):=by
 intro pins s U H D I h;obtain⟨W,⟨m0,w0⟩,turn⟩:=h;refine wpAny_While (codeAny_whileLoop (λn s'=>∃σ' H',Inv X pins σ' H' s'/\W n σ' H') ?_ m0 ⟨U,H,I,w0⟩);rintro n s1⟨σ1,H1,I1,w1⟩;refine Wd hp (aU (hc pins s1 σ1 H1 _ I1 (turn n σ1 H1 w1)) λb s2 ⟨H2,I2,q2⟩=>?_);cases b with
 |true=>
  obtain⟨N,hN,q2⟩:=q2;rw[if_pos rfl];refine Wd hp (aU (hb pins s2 σ1 H2 _ I2 q2) λf s3 q3=>?_);cases f with
  |next=>obtain⟨σ3,H3,I3,n3⟩:=q3;obtain⟨m',hm,w3⟩:=hN σ3 H3 n3;exact⟨m',hm,σ3,H3,I3,w3⟩
  |cont=>obtain⟨σ3,H3,I3,n3⟩:=q3;obtain⟨m',hm,w3⟩:=hN σ3 H3 n3;exact⟨m',hm,σ3,H3,I3,w3⟩
  |brk=>exact q3
  |ret v=>exact q3
 |false=>rw[if_neg V5];exact Xp ⟨σ1,H2,I2,q2⟩
end
structure It where
 go:Nat->Hp->Prop
 tF:Nat->Hp->V->Hp->Prop
 stop:Nat->Hp->Prop
def eu(X:Cx)(pins:ZL)(H:Hp)(b:Addr):Prop:=
 H b=none/\b≠X.env.locals/\b∉X.fs/\(b∈X.ex\/X.s₀.heap.objs.size<=b)/\(∀x c,X.env.cells.lookup x=some c->c≠b)/\∀p∈X.pn++pins,p.1≠b
def Inv.rK{X:Cx}{pins:ZL}{U:St}{H H':Hp}{s:Shared}{b:Addr}(I:Inv X pins U H s)(hb:s.heap.objs.size<=b)(hn:H' b=none):eu X pins H' b:=by refine⟨hn,Vm (UZ I.lt hb),I.Jq hb,.inr (V4 I.sz hb),λx c e z=>?_,λp hp z=>?_⟩;{obtain⟨v,q⟩:=I.cell x c e;exact absurd (UZ q.lt (by rw[z];exact hb)) (VC _)};exact absurd (UZ (UG (I.pin p hp).1) (by rw[z];exact hb)) (VC _)
structure Turn(P:Program)(w:World)(K:ZR)(tg:Expr)(J:It)(fp:ZX)(it:Addr)(tn:Nat->Heap->Prop):Prop where
 mem:it∈fp
 obj:∀i h,tn i h->∀b∈fp,∃o,h.get? b=some o/\∀v,o.data≠.cell v
 keep:∀i h h',tn i h->(∀b∈fp,∀o,h.get? b=some o->h'.get? b=some o)->tn i h'
 item:∀(X:Cx),X.prog=P->X.w=w->X.K=K->X.calm=true->∀(i:Nat)(pins:ZL)(s:Shared)(U:St)(H:Hp)(E:ZI),Inv X pins U H s->(∀b∈fp,eu X pins H b)->tn i s.heap->J.go i H->
  wpAny (model P w) X.A (pyNext (.ref it)) (λr s1=>∃u,r=some u /\
   wpAny (model P w) X.A (letOwnedTupleGo tg (.ref it) u) (λ_ s2=>∃x H',Inv X pins U H' s2/\RelV x u/\J.tF i H x H'/\tn (i+1) s2.heap/\∀b∈fp,H' b=none) E s1) E s
 done:∀(X:Cx),X.prog=P->X.w=w->X.K=K->X.calm=true->∀(i:Nat)(pins:ZL)(s:Shared)(U:St)(H:Hp)(E:ZI),Inv X pins U H s->(∀b∈fp,eu X pins H b)->tn i s.heap->J.stop i H->
  wpAny (model P w) X.A (pyNext (.ref it)) (λr s1=>r=none/\Inv X pins U H s1) E s
 self:∀(A:Around) (i:Nat)(s:Shared)(Q:ZI)(E:ZI),tn i s.heap->Q (.ref it) s->wpAny (model P w) A (pyIter (.ref it)) Q E s
abbrev TI:=St->Hp->(It->Hp->Prop)->Prop
def K5(X:Cx)(pins:ZL)(U:St)(tg:Expr)(R:It->Hp->Prop)(itv:Value)(s2:Shared):Prop:=
 ∃(it:Addr)(fp:ZX)(tn:Nat->Heap->Prop)(J:It)(H':Hp),itv=.ref it/\Inv X pins U H' s2/\Turn X.prog X.w X.K tg J fp it tn/\tn 0 s2.heap/\(∀b∈fp,eu X pins H' b)/\R J H'
def PI(X:Cx)(tg iter:Expr)(wi:TI):Prop:=
 ∀(pins:ZL)(s:Shared)(U:St)(H:Hp)(R:It->Hp->Prop),Inv X pins U H s->wi U H R->
  wpAny (model X.prog X.w) X.A (eval iter X.env) (λv s1=>wpAny (model X.prog X.w) X.A (pyIter v) (K5 X pins U tg R) X.xe s1) X.xe s
def yP{M:Model}{A:Around}{E:ZI}{s:Shared}{tg:Expr}{it:Addr}{u:Value}{o:Obj}{n:String}{vs:ZT}{Q:Unit->Shared->Prop}(ho:s.heap.get? it=some o)(hc:o.cls=.type n)(hd:o.data=.fields vs)(hn:["enumerate","zip","dict_itemiterator","dict_reverseitemiterator","odict_iterator","itertools.zip_longest","itertools.pairwise"].contains n=false)(hQ:Q () s):wpAny M A (letOwnedTupleGo tg (.ref it) u) Q E s:=by
 unfold letOwnedTupleGo;cases tg<;>first
  |exact U3 hQ
  | (cases u<;>first
    |exact U3 hQ
    | (refine U0 (wpAny_load ho ?_)
       rw[hc,hd];show wpAny M A (if(["enumerate","zip","dict_itemiterator","dict_reverseitemiterator","odict_iterator","itertools.zip_longest","itertools.pairwise"].contains n&&vs[0]? == some (rawInt _))=true then _ else _) Q E s
       rw[if_neg (by intro h;rw[hn,Xq]at h;cases h)]
       exact U3 hQ))
def KW(K:ZR)(a:Addr):It:=
 ⟨λi H=>∃xs x,bI K H a xs/\xs[i]?=some x,λi H x H'=>H'=H/\∀xs,bI K H a xs->xs[i]?=some x,λi H=>∃xs,bI K H a xs/\xs.length<=i⟩
def Ll(K:ZR)(a:Addr):It:=
 ⟨λi H=>∃xs x,cP K H a xs/\xs[i]?=some x,λi H x H'=>H'=H/\∀xs,cP K H a xs->xs[i]?=some x,λi H=>∃xs,cP K H a xs/\xs.length<=i⟩
def Iz(lo:Int) (n:Nat):It:=⟨λi _=>i<n,λi H x H'=>H'=H/\x=.int (lo+i),λi _=>n<=i⟩
def Hh{P:Program}{w:World}{K:ZR}{tg:Expr}(a it:Addr):Turn P w K tg (KW K a) [it] it (λi h=>h.IsListIter it a i) where
 mem:=by simp
 obj:=λi h st b hb=>by
  have e:b=it:=by simpa using hb
  subst e;obtain⟨o,e,c,d⟩:=st;exact⟨o,e,λv z=>by rw[d]at z;cases z⟩
 keep:=λi h h' st k=>st.at λo e=>k it (by simp) o e
 item:=by
  intro X hP hw hK hc i pins s U H E I hf st hg;subst hP hw hK;obtain⟨xs,x,hq,hx⟩:=hg;obtain⟨its,rv,p,hz⟩:=I.list hq;obtain⟨u,hu,ru⟩:=rv.get hx;obtain⟨f0,f1,f2,f3,f4,f5⟩:=hf it (by simp)
  refine wpAny_pyNext_list_item st p.isList (x:=u) (by simpa using hu) λh' st' sb=>?_
  have I1:Inv X pins U H { s with heap:=h' }:=I.turned (t':=s.toks) (λb o hb e=>(sb.2 b hb).trans e) f0 f1 f3 f4 f5
  obtain⟨o,e,c,d⟩:=id st';exact⟨u,rfl,yP (s:={ s with heap:=h' }) e c d (by decide) ⟨x,H,I1,ru,⟨rfl,λys hy=>by rw[I.pY hy hq];exact hx⟩,st',λb hb=>(hf b hb).1⟩⟩
 done:=by
  intro X hP hw hK hc i pins s U H E I hf st hg;subst hP hw hK;obtain⟨xs,hq,hx⟩:=hg;obtain⟨its,rv,p,hz⟩:=I.list hq;obtain⟨f0,f1,f2,f3,f4,f5⟩:=hf it (by simp)
  have hl:=rv.length;exact wpAny_pyNext_list_end (I.ok.hd hc) st p.isList (by simp;lia) λh' eb=>⟨rfl,I.turned (t':=s.toks) (λb o hb e=>eb b o hb e) f0 f1 f3 f4 f5⟩
 self:=λ_ _ _ _ _ st h=>wpAny_pyIter_listiter st h
def Dy{P:Program}{w:World}{K:ZR}{tg:Expr}(a it:Addr):Turn P w K tg (Ll K a) [it] it (λi h=>h.IsTupleIter it a i) where
 mem:=by simp
 obj:=λi h st b hb=>by
  have e:b=it:=by simpa using hb
  subst e;obtain⟨o,e,c,d⟩:=st;exact⟨o,e,λv z=>by rw[d]at z;cases z⟩
 keep:=λi h h' st k=>st.at λo e=>k it (by simp) o e
 item:=by
  intro X hP hw hK hc i pins s U H E I hf st hg;subst hP hw hK;obtain⟨xs,x,hq,hx⟩:=hg;obtain⟨its,rv,p,hz⟩:=I.tuple hq;obtain⟨u,hu,ru⟩:=rv.get hx;obtain⟨f0,f1,f2,f3,f4,f5⟩:=hf it (by simp)
  refine wpAny_pyNext_tuple_item st (show s.heap.IsTuple a its.toArray from p) (x:=u) (by simpa using hu) λh' st' sb=>?_
  have I1:Inv X pins U H { s with heap:=h' }:=I.turned (t':=s.toks) (λb o hb e=>(sb.2 b hb).trans e) f0 f1 f3 f4 f5
  obtain⟨o,e,c,d⟩:=id st';exact⟨u,rfl,yP (s:={ s with heap:=h' }) e c d (by decide) ⟨x,H,I1,ru,⟨rfl,λys hy=>by rw[I.Ht hy hq];exact hx⟩,st',λb hb=>(hf b hb).1⟩⟩
 done:=by
  intro X hP hw hK hc i pins s U H E I hf st hg;subst hP hw hK;obtain⟨xs,hq,hx⟩:=hg;obtain⟨its,rv,p,hz⟩:=I.tuple hq;obtain⟨f0,f1,f2,f3,f4,f5⟩:=hf it (by simp)
  have hl:=rv.length;exact wpAny_pyNext_tuple_end (I.ok.hd hc) st (show s.heap.IsTuple a its.toArray from p) (by simp;lia) λh' eb=>⟨rfl,I.turned (t':=s.toks) (λb o hb e=>eb b o hb e) f0 f1 f3 f4 f5⟩
 self:=λ_ _ _ _ _ st h=>wpAny_pyIter_tupleiter st h
def Eh{P:Program}{w:World}{K:ZR}{tg:Expr}(it:Addr) (lo:Int) (n:Nat):Turn P w K tg (Iz lo n) [it] it (λi h=>IsRangeIter h it (lo+(i:Nat)*1) ((n:Int)-(i:Nat)) 1) where
 mem:=by simp
 obj:=λi h st b hb=>by
  have e:b=it:=by simpa using hb
  subst e;exact⟨_,st,λv z=>by
   have z':Data.fields _=Data.cell v:=z;cases z'⟩
 keep:=λi h h' st k=>k it (by simp) _ st
 item:=by
  intro X hP hw hK hc i pins s U H E I hf st hg;subst hP hw hK;obtain⟨f0,f1,f2,f3,f4,f5⟩:=hf it (by simp)
  have W:=Walks.range (prog:=X.prog) (w:=X.w) (I.ok.hd hc) it lo 1 n;refine W.item i s _ _ hg st λv h' tk hv st' kk=>?_
  obtain⟨t,rfl⟩:=hv;have I1:Inv X pins U H { s with heap:=h',toks:=tk }:=I.turned (λb o hb e=>kk b o (by simpa using hb) e) f0 f1 f3 f4 f5
  refine⟨_,rfl,yP (s:={ s with heap:=h',toks:=tk }) (n:="range_iterator") st' rfl rfl (by decide) ⟨.int (lo+i),H,I1,⟨t,?_⟩,⟨rfl,rfl⟩,st',λb hb=>(hf b hb).1⟩⟩
  rw[Int.mul_one]
 done:=by
  intro X hP hw hK hc i pins s U H E I hf st hg;subst hP hw hK;obtain⟨f0,f1,f2,f3,f4,f5⟩:=hf it (by simp)
  exact wpAny_pyNext_range_end (I.ok.hd hc) st (by have:n<=i:=hg;lia) λh' eb=>⟨rfl,I.turned (t':=s.toks) (λb o hb e=>eb b o hb e) f0 f1 f3 f4 f5⟩
 self:=λ_ _ _ _ _ st h=>wpAny_pyIter_rangeiter st h
section
variable{X:Cx}{tg:Expr}
def AZ{pins:ZL}{U:St}{H:Hp}{s:Shared}{R:It->Hp->Prop}{E:ZI}{lo hi:Int}{t u v:Tok}{tk:Nat}(I:Inv X pins U H s)(h1:-(2^62)<=lo)(h2:lo<2^62)(h3:-(2^62)<=hi)(h4:hi<2^62)(q:R (Iz lo (hi-lo).toNat) H):wpAny (model X.prog X.w) X.A (pyIter (.ref s.heap.objs.size)) (K5 X pins U tg R) E { s with heap:=s.heap.push { cls:=.type "range",data:=.fields #[.int lo t,.int hi u,.int 1 v] },toks:=tk }:=by
 refine wpAny_pyIter_range (IsRange.new ..) (small_one h1 h2 h3 h4) ?_;have I1:Inv X pins U H { s with heap:=s.heap.push { cls:=.type "range",data:=.fields #[.int lo t,.int hi u,.int 1 v] },toks:=tk }:=I.kept λb o e=>UQ _ e;refine⟨(s.heap.push { cls:=.type "range",data:=.fields #[.int lo t,.int hi u,.int 1 v] }).objs.size,[(s.heap.push { cls:=.type "range",data:=.fields #[.int lo t,.int hi u,.int 1 v] }).objs.size],_,_,H,rfl,
  I1.kept (t':=tk) λb o e=>UQ _ e,Eh _ lo (hi-lo).toNat,?_,λb hb=>?_,q⟩
 .have e1:lo+((0:Nat):Int)*1=lo:=by simp
  have e2:(((hi-lo).toNat:Nat):Int)-((0:Nat):Int)=Builtin.Range.rangeSize lo hi 1:=by rw[rangeSize_one];split<;>lia
  show IsRangeIter _ _ (lo+((0:Nat):Int)*1) ((((hi-lo).toNat:Nat):Int)-((0:Nat):Int)) 1;rw[e1,e2];exact V8 _ rfl
 have e:b=(s.heap.push { cls:=.type "range",data:=.fields #[.int lo t,.int hi u,.int 1 v] }).objs.size:=by simpa using hb
 subst e;exact I1.rK (U5 _) (I1.hok.fresh (U5 _))
inductive IB(R:(It->Hp->Prop))(vs:List V)(H1:Hp):Prop
 |mk:∀j:Int,(vs=[.int j])->(-(2^62)<=j)->(j<2^62)->(R (Iz 0 j.toNat) H1)->IB R vs H1
def Sd(ta:TA):TI:=λU H R=>ta U H λvs H1=>IB R vs H1
inductive G4(R:(It->Hp->Prop))(vs:List V)(H1:Hp):Prop
 |mk:∀i j:Int,(vs=[.int i,.int j])->((-(2^62)<=i/\i<2^62/\-(2^62)<=j/\j<2^62))->(R (Iz i (j-i).toNat) H1)->G4 R vs H1
def RZ(ta:TA):TI:=λU H R=>ta U H λvs H1=>G4 R vs H1
def GG{a:Expr}{ta:TA}{p pos:Pos}(hg:Gl X "range")(hm:X.mg "range"=none)(ha:PA X [a] ta)(hs:starEach [a] X.env=[(false,eval a X.env)]:=by rfl):PI X tg (.Call (.Name "range" p) [a] [] pos) (Sd ta):=by
 intro pins s U H R I h;refine Call_ (mE I hg hm boot_range (XO (aU (ha pos pins s U H _ I h) λus s1 ⟨vs,H1,I1,r1,q1⟩=>?_) hs rfl));obtain⟨j,e,q1,q2,q⟩:=q1;subst e;cases r1 with
 |cons r rr=>cases rr;obtain⟨t,rfl⟩:=r;exact call_range_1 (AZ I1 (by lia) (by lia) q1 q2 (by simpa using q))
def G8{a b:Expr}{ta:TA}{p pos:Pos}(hg:Gl X "range")(hm:X.mg "range"=none)(ha:PA X [a,b] ta)(hs:starEach [a,b] X.env=[(false,eval a X.env),(false,eval b X.env)]:=by rfl)(hs2:starEach [b] X.env=[(false,eval b X.env)]:=by rfl) : PI X tg (.Call (.Name "range" p) [a,b] [] pos) (RZ ta):=by
 intro pins s U H R I h;refine Call_ (mE I hg hm boot_range (XO (aU (ha pos pins s U H _ I h) λus s1 ⟨vs,H1,I1,r1,q1⟩=>?_) (by rw[hs,hs2]) (by rw[hs2];rfl)));obtain⟨i,j,e,⟨q1,q2,q3,q4⟩,q⟩:=q1;subst e;cases r1 with
 |cons r rr=>
  cases rr with
  |cons r' rr=>cases rr;obtain⟨t,rfl⟩:=r;obtain⟨t',rfl⟩:=r';exact call_range_2 (AZ I1 q1 q2 q3 q4 q)
def Tv(wi:TI)(g:TG)(tb:TS):TS:=λD U H=>wi U H λJ H1=>∃W:Nat->Nat->St->Hp->Prop,(∃m,W 0 m U H1)/\∀i m U H,W i m U H->
 (J.stop i H/\D.nx U H)\/(J.go i H/\∃N:St->Hp->Prop,(∀σ' H',N σ' H'->∃m',m'<m/\W (i+1) m' σ' H')/\∀x H',J.tF i H x H'->g x U H' λσ2 H2=>tb { D with nx:=N,ct:=N,bk:=D.nx } σ2 H2)
def gi(fp:ZX)(h:Heap):ZL:=fp.filterMap λb=>(h.get? b).map λo=>(b,o)
def e7{fp:ZX}{h:Heap}{b:Addr}{o:Obj}(hb:b∈fp)(e:h.get? b=some o):(b,o)∈gi fp h:=Xr.mpr ⟨b,hb,by rw[e];rfl⟩
def nh{fp:ZX}{h:Heap}{p:Addr×Obj}(hp:p∈gi fp h):p.1∈fp/\h.get? p.1=some p.2:=by
 obtain⟨b,hb,e⟩:=Xr.mp hp;cases q:h.get? b with
 |none=>rw[q]at e;cases e
 |some o=>rw[q]at e;have e':(b,o)=p:=Option.some.inj e;subst e';exact⟨hb,q⟩
def Inv.pinned{pins:ZL}{U:St}{H:Hp}{s:Shared}{fp:ZX}(I:Inv X pins U H s)(hf:∀b∈fp,eu X pins H b)(ho:∀b∈fp,∃o,s.heap.get? b=some o/\∀v,o.data≠.cell v):Inv X (pins++gi fp s.heap) U H s:=
 I.jM λp hp=>(UE.mp hp).elim (λz=>I.pin p (VB _ z)) λz=>by obtain⟨hb,e⟩:=nh z;obtain⟨f0,f1,f2,_⟩:=hf p.1 hb;obtain⟨o,e',d⟩:=ho p.1 hb;rw[e]at e';cases e';exact⟨e,f0,f1,f2,d⟩
def Inv.tT{pins pl:ZL}{U:St}{H:Hp}{s:Shared}(I:Inv X (pins++pl) U H s):Inv X pins U H s:=I.jM λp hp=>I.pin p (VB _ (XM _ hp))
def NG{iter:Expr}{body:Za}{wi:TI}{g:TG}{tb:TS}{pos:Pos}(hp:PassesOwn (model X.prog X.w) X.A X.env X.xe)(hc:X.calm=true)(hi:PI X tg iter wi)(hg:PG X tg g)(hb:qm X body tb)(hs:∀x,foldedSetIterable iter X.env x=pure x:=by intro _;rfl):PS X (.For tg iter body [] pos) (Tv wi g tb):=by
 intro pins s U H D I h;refine wpAny_For (aU (hi pins s U H _ I h) λv s1 h1=>aU h1 λitv s2 h2=>?_) hs
 obtain⟨it,fp,tn,J,H2,e,I2,T,st2,f2,W,⟨m0,w0⟩,turn⟩:=h2;subst e
 -- what stays true of the iterator's objects through the loop
 have stat:∀{H':Hp},(∀b∈fp,H' b=none)->∀b∈fp,eu X pins H' b:=λhn b hb=>⟨hn b hb,(f2 b hb).2⟩
 refine codeAny_forLoop_any (λn s'=>∃i σ' H',Inv X pins σ' H' s'/\tn i s'.heap/\(∀b∈fp,H' b=none)/\W i n σ' H') ?_ m0 ⟨0,U,H2,I2,st2,λb hb=>(f2 b hb).1,w0⟩
 rintro n s3⟨i,σ3,H3,I3,st3,fr3,w3⟩;rcases turn i n σ3 H3 w3 with⟨stop,qn⟩|⟨go,N,hN,step⟩
 .refine Wd hp (aU (T.done X rfl rfl rfl hc i pins s3 σ3 H3 X.xe I3 (stat fr3) st3 stop) λr s4 ⟨hr,I4⟩=>?_)
  subst hr;exact Xp ⟨σ3,H3,I4,qn⟩
 .refine Wd hp (aU (T.item X rfl rfl rfl hc i pins s3 σ3 H3 X.xe I3 (stat fr3) st3 go) λr s4 ⟨u,hr,h4⟩=>?_)
  subst hr;refine Wd hp (aU h4 λ_ s5 ⟨x,H5,I5,r5,y5,st5,fr5⟩=>?_)
  have I5':=I5.pinned (stat fr5) (T.obj _ _ st5);refine Wd hp (aU (hg _ s5 σ3 H5 x u _ I5' r5 (step x H5 y5)) λ_ s6 ⟨σ6,H6,I6,q6⟩=>?_)
  refine Wd hp (aU (hb _ s6 σ6 H6 _ I6 q6) λf s7 q7=>?_)
  have again:∀{σ7:St}{H7:Hp},Inv X (pins++gi fp s5.heap) σ7 H7 s7->N σ7 H7->∃m,m<n/\∃i σ' H',Inv X pins σ' H' s7/\tn i s7.heap/\(∀b∈fp,H' b=none)/\W i m σ' H':=λ{σ7 H7} I7 n7=>by
   obtain⟨m',hm,w7⟩:=hN σ7 H7 n7;refine⟨m',hm,i+1,σ7,H7,I7.tT,T.keep _ _ _ st5 λb hb o e=>(I7.pin (b,o) (VB _ (VB _ (e7 hb e)))).1,λb hb=>?_,w7⟩
   obtain⟨o,e,d⟩:=T.obj _ _ st5 b hb;exact(I7.pin (b,o) (VB _ (VB _ (e7 hb e)))).2.1
  cases f with
  |next=>obtain⟨σ7,H7,I7,n7⟩:=q7;exact again I7 n7
  |cont=>obtain⟨σ7,H7,I7,n7⟩:=q7;exact again I7 n7
  |brk=>obtain⟨σ7,H7,I7,q7⟩:=q7;exact⟨σ7,H7,I7.tT,q7⟩
  |ret v=>obtain⟨x7,σ7,H7,I7,r7,q7⟩:=q7;exact⟨x7,σ7,H7,I7.tT,r7,q7⟩
end
abbrev R2:=V->V->Hp->VK->Prop
def b9(X:Cx)(f:Value->Value->Sem Value)(r:R2):Prop:=
 ∀(pins:ZL)(s:Shared)(U:St)(H:Hp) (x y:V)(v u:Value)(Q:VK),Inv X pins U H s->RelV x v->RelV y u->r x y H Q->
  wpAny (model X.prog X.w) X.A (f v u) (EP X pins U Q) X.xe s
def Lz(X:Cx)(f:Value->Sem Value)(r:V->Hp->VK->Prop):Prop:=
 ∀(pins:ZL)(s:Shared)(U:St)(H:Hp) (x:V)(v:Value)(Q:VK),Inv X pins U H s->RelV x v->r x H Q->
  wpAny (model X.prog X.w) X.A (f v) (EP X pins U Q) X.xe s
def cI(X:Cx)(f:Value)(r:List V->Hp->VK->Prop):Prop:=
 ∀(pins:ZL)(s:Shared)(U:St)(H:Hp)(xs:List V)(us:ZW)(Q:VK),Inv X pins U H s->Vals xs us->r xs H Q->
  wpAny (model X.prog X.w) X.A (call f us) (EP X pins U Q) X.xe s
def TJ(X:Cx)(r:V->Hp->(Bool->Hp->Prop)->Prop):Prop:=
 ∀(pins:ZL)(s:Shared)(U:St)(H:Hp) (x:V)(v:Value)(Q:Bool->Hp->Prop),Inv X pins U H s->RelV x v->r x H Q->
  wpAny (model X.prog X.w) X.A (truthy v) (TP X pins U Q) X.xe s
def OD(r:R2)(ta tb:TE):TE:=λU H Q=>ta U H λx H1=>tb U H1 λy H2=>r x y H2 Q
def Ug(r:V->Hp->VK->Prop)(ta:TE):TE:=λU H Q=>ta U H λx H1=>r x H1 Q
inductive Sn(C:Int->Int->Prop)(g:Int->Int->V) (x:V) (y:V)(H:Hp)(Q:VK):Prop
 |mk:∀i j,(x=.int i)->(y=.int j)->(C i j)->(Q (g i j) H)->Sn C g x y H Q
def rI(C:Int->Int->Prop)(g:Int->Int->V):R2:=λx y H Q=>Sn C g x y H Q
inductive NV(g:Int->Int->V) (x:V) (y:V)(H:Hp)(Q:VK):Prop
 |mk:∀i j,(x=.int i)->(y=.int j)->(Q (g i j) H)->NV g x y H Q
def qp(g:Int->Int->V):R2:=λx y H Q=>NV g x y H Q
inductive Ss(g:Int->V) (x:V)(H:Hp)(Q:VK):Prop
 |mk:∀i,(x=.int i)->(Q (g i) H)->Ss g x H Q
def rU(g:Int->V):V->Hp->VK->Prop:=λx H Q=>Ss g x H Q
section
variable{X:Cx}{a b c:Expr}{ta tb tc:TE}{pos:Pos}
def Ja(ha:PE X a ta)(hb:PE X b tb){pins:ZL}{s:Shared}{U:St}{H:Hp}{R:V->V->Hp->Prop}(I:Inv X pins U H s)(h:ta U H λx H1=>tb U H1 λy H2=>R x y H2){Q:ZI}{f:Value->Value->Sem Value}(hf:∀v u s2 x y H2,Inv X pins U H2 s2->RelV x v->RelV y u->R x y H2->wpAny (model X.prog X.w) X.A (f v u) Q X.xe s2) : wpAny (model X.prog X.w) X.A (eval a X.env) (λv s₁=>wpAny (model X.prog X.w) X.A (eval b X.env) (λu s₂=>wpAny (model X.prog X.w) X.A (f v u) Q X.xe s₂) X.xe s₁) X.xe s:=by refine aU (ha pins s U H _ I h) λv s1 ⟨x,H1,I1,r1,q1⟩=>?_;refine aU (hb pins s1 U H1 _ I1 q1) λu s2 ⟨y,H2,I2,r2,q2⟩=>?_;exact hf v u s2 x y H2 I2 r1 r2 q2
def Sa{op:Operator}{r:R2}(ho:b9 X (binaryOp op) r)(ha:PE X a ta)(hb:PE X b tb):PE X (.BinOp a op b pos) (OD r ta tb):=by intro pins s U H Q I h;exact wpAny_BinOp (Ja ha hb I h λv u s2 x y H2 I2 rx ry q=>ho pins s2 U H2 x y v u Q I2 rx ry q)
def Rr{op:UnaryOp}{r:V->Hp->VK->Prop}(ho:Lz X (unaryOp op) r)(ha:PE X a ta):PE X (.UnaryOp op a pos) (Ug r ta):=by intro pins s U H Q I h;exact UnaryOp_ (aU (ha pins s U H _ I h) λv s1 ⟨x,H1,I1,r1,q1⟩=>ho pins s1 U H1 x v Q I1 r1 q1)
def KD{f:Value->Value->Sem Value}{C:Int->Int->Prop}{g:Int->Int->Int}(rule:∀(i j:Int)(t u:Tok)(s:Shared)(Q:ZI)(E:ZI),C i j->Q (.int (g i j) s.toks) { s with toks:=s.toks+1 }->wpAny (model X.prog X.w) X.A (f (.int i t) (.int j u)) Q E s) : b9 X f (rI C λi j=>.int (g i j)):=by intro pins s U H x y v u Q I rx ry h;obtain⟨i,j,rfl,rfl,hc,q⟩:=h;obtain⟨t,rfl⟩:=rx;obtain⟨t',rfl⟩:=ry;exact rule i j t t' s _ _ hc ⟨.int (g i j),H,I.tok _,⟨_,rfl⟩,q⟩
def Qi{f:Value->Value->Sem Value}{g:Int->Int->Int}(rule:∀(i j:Int)(t u:Tok)(s:Shared)(Q:ZI)(E:ZI),Q (.int (g i j) s.toks) { s with toks:=s.toks+1 }->wpAny (model X.prog X.w) X.A (f (.int i t) (.int j u)) Q E s) : b9 X f (qp λi j=>.int (g i j)):=by intro pins s U H x y v u Q I rx ry h;obtain⟨i,j,rfl,rfl,q⟩:=h;obtain⟨t,rfl⟩:=rx;obtain⟨t',rfl⟩:=ry;exact rule i j t t' s _ _ ⟨.int (g i j),H,I.tok _,⟨_,rfl⟩,q⟩
def Et{f:Value->Value->Sem Value}{g:ZO}(rule:∀(i j:Int)(t u:Tok)(s:Shared)(Q:ZI)(E:ZI),Q (.bool (g i j)) s->wpAny (model X.prog X.w) X.A (f (.int i t) (.int j u)) Q E s) : b9 X f (qp λi j=>.bl (g i j)):=by intro pins s U H x y v u Q I rx ry h;obtain⟨i,j,rfl,rfl,q⟩:=h;obtain⟨t,rfl⟩:=rx;obtain⟨t',rfl⟩:=ry;exact rule i j t t' s _ _ ⟨.bl (g i j),H,I,rfl,q⟩
def IQ(i j:Int):Prop:=0<=j/\j<=1000000/\i.natAbs<2^64
def kI(i j:Int):Prop:=(-(2^64)<i/\i<2^64)\/(-(2^64)<j/\j<2^64)
def kI.ok{i j:Int}(h:kI i j):IntMulOk i j:=by rcases h with⟨h1,h2⟩|⟨h1,h2⟩;{exact .of_left (intBits_le_64 h1 h2)};exact .of_right (intBits_le_64 h1 h2)
def Qx:b9 X (binaryOp .Add) (qp λi j=>.int (i+j)):=Qi λ_ _ _ _ _ _ _ q=>add_int q
def PK:b9 X (binaryOp .Sub) (qp λi j=>.int (i-j)):=Qi λ_ _ _ _ _ _ _ q=>sub_int q
def OC:b9 X (binaryOp .Mult) (rI kI λi j=>.int (i*j)):=KD λ_ _ _ _ _ _ _ hc q=>mul_int q hc.ok
def Nv:b9 X (binaryOp .Mod) (rI (λ_ j=>0<j) λi j=>.int (i%j)):=KD λi j _ _ _ _ _ hc q=>by have h1:(0:Int)<j:=hc;exact mod_int' (by lia) (by rw[Int.fmod_eq_emod_of_nonneg i (by lia)];exact q)
def QZ:b9 X (binaryOp .Pow) (rI IQ λi j=>.int (i^j.toNat)):=KD λ_ _ _ _ _ _ _ hc q=>pow_int_small hc.1 hc.2.1 hc.2.2 q
def Ur{f:Value->Sem Value}{g:Int->Int}(rule:∀(i:Int)(t:Tok)(s:Shared)(Q:ZI)(E:ZI),Q (.int (g i) s.toks) { s with toks:=s.toks+1 }->wpAny (model X.prog X.w) X.A (f (.int i t)) Q E s) : Lz X f (rU λi=>.int (g i)):=by intro pins s U H x v Q I rx h;obtain⟨i,rfl,q⟩:=h;obtain⟨t,rfl⟩:=rx;exact rule i t s _ _ ⟨.int (g i),H,I.tok _,⟨_,rfl⟩,q⟩
def Ra:Lz X (unaryOp .USub) (rU λi=>.int (-i)):=Ur λ_ _ _ _ _ q=>neg_int q
end
def J7:V->V->Bool
 |.bw,.bw=>true | .bw,.int _=>true | .int _,.bw=>true | .bw,.bl _=>true | .bl _,.bw=>true | .bw,.str _=>true | .str _,.bw=>true
 |.int _,.int _=>true | .bl _,.bl _=>true | .str _,.str _=>true | .om _,.om _=>true
 |.int _,.str _=>true | .str _,.int _=>true | .bl _,.str _=>true | .str _,.bl _=>true
 |_,_=>false
def Sk:R2:=λx y H Q=>J7 x y=true/\Q (.bl (decide (x=y))) H
def Sm:R2:=λx y H Q=>J7 x y=true/\Q (.bl (!decide (x=y))) H
def CC{i j:Int}:decide (V.int i=V.int j)=(i==j):=by rw[Vv];simp
def Hx{i j:Bool}:decide (V.bl i=V.bl j)=(i==j):=by rw[Vv];simp
def CV{i j:Str}:decide (V.str i=V.str j)=(i==j):=by rw[Vv];simp
def CK{i j:Array UInt8}:decide (V.om i=V.om j)=(i.toList==j.toList):=by rw[Vv];cases i;cases j;simp
section
variable{X:Cx}{a b c:Expr}{ta tb tc:TE}{pos:Pos}
def bA{pins:ZL}{U:St}{H:Hp}{s:Shared}{Q:VK}{k k':Bool}(I:Inv X pins U H s)(q:Q (.bl k) H)(e:k=k'):EP X pins U Q (.bool k') s:=by subst e;exact⟨.bl k,H,I,rfl,q⟩
def Ru:b9 X (compareOp .Eq) Sk:=by
 intro pins s U H x y v u Q I rx ry h;obtain⟨hs,q⟩:=h;cases x with
 |bw=>
  cases rx;cases y with
  |bw=>cases ry;exact PySem.EqNone.eq_none_none (bA I q (by simp))
  |bl j=>cases ry;exact PySem.EqNone.eq_none_bool (bA I q (by simp))
  |int j=>obtain⟨t',rfl⟩:=ry;exact PySem.EqNone.eq_none_int (bA I q (by simp))
  |str j=>obtain⟨t',rfl⟩:=ry;exact PySem.EqNone.eq_none_str (bA I q (by simp))
  |_=>exact absurd (show false=true from hs) V5
 |bl i=>
  cases rx;cases y with
  |bw=>cases ry;exact PySem.EqNone.eq_bool_none (bA I q (by simp))
  |bl j=>cases ry;exact eq_bool (bA I q Hx)
  |str j=>obtain⟨t',rfl⟩:=ry;exact PySem.EqMixed.eq_bool_str (bA I q (by simp))
  |_=>exact absurd (show false=true from hs) V5
 |int i=>
  obtain⟨t,rfl⟩:=rx;cases y with
  |bw=>cases ry;exact PySem.EqNone.eq_int_none (bA I q (by simp))
  |int j=>obtain⟨t',rfl⟩:=ry;exact eq_int (bA I q CC)
  |str j=>obtain⟨t',rfl⟩:=ry;exact PySem.EqMixed.eq_int_str (bA I q (by simp))
  |_=>exact absurd (show false=true from hs) V5
 |str i=>
  obtain⟨t,rfl⟩:=rx;cases y with
  |bw=>cases ry;exact PySem.EqNone.eq_str_none (bA I q (by simp))
  |bl j=>cases ry;exact PySem.EqMixed.eq_str_bool (bA I q (by simp))
  |int j=>obtain⟨t',rfl⟩:=ry;exact PySem.EqMixed.eq_str_int (bA I q (by simp))
  |str j=>obtain⟨t',rfl⟩:=ry;exact eq_str (bA I q CV)
  |_=>exact absurd (show false=true from hs) V5
 |om i=>
  obtain⟨t,rfl⟩:=rx;cases y with
  |om j=>obtain⟨t',rfl⟩:=ry;exact PySem.W.eq_bytes (bA I q CK)
  |_=>exact absurd (show false=true from hs) V5
 |_=>cases y<;>exact absurd (show false=true from hs) V5
def Rj:b9 X (compareOp .NotEq) Sm:=by
 intro pins s U H x y v u Q I rx ry h;obtain⟨hs,q⟩:=h;cases x with
 |bw=>
  cases rx;cases y with
  |bw=>cases ry;exact PySem.EqNone.ne_none_none (bA I q (by simp))
  |bl j=>cases ry;exact PySem.EqNone.ne_none_bool (bA I q (by simp))
  |int j=>obtain⟨t',rfl⟩:=ry;exact PySem.EqNone.ne_none_int (bA I q (by simp))
  |str j=>obtain⟨t',rfl⟩:=ry;exact PySem.EqNone.ne_none_str (bA I q (by simp))
  |_=>exact absurd (show false=true from hs) V5
 |bl i=>
  cases rx;cases y with
  |bw=>cases ry;exact PySem.EqNone.ne_bool_none (bA I q (by simp))
  |bl j=>cases ry;exact ne_bool (bA I q (congrArg not Hx))
  |str j=>obtain⟨t',rfl⟩:=ry;exact PySem.EqMixed.ne_bool_str (bA I q (by simp))
  |_=>exact absurd (show false=true from hs) V5
 |int i=>
  obtain⟨t,rfl⟩:=rx;cases y with
  |bw=>cases ry;exact PySem.EqNone.ne_int_none (bA I q (by simp))
  |int j=>obtain⟨t',rfl⟩:=ry;exact ne_int (bA I q (congrArg not CC))
  |str j=>obtain⟨t',rfl⟩:=ry;exact PySem.EqMixed.ne_int_str (bA I q (by simp))
  |_=>exact absurd (show false=true from hs) V5
 |str i=>
  obtain⟨t,rfl⟩:=rx;cases y with
  |bw=>cases ry;exact PySem.EqNone.ne_str_none (bA I q (by simp))
  |bl j=>cases ry;exact PySem.EqMixed.ne_str_bool (bA I q (by simp))
  |int j=>obtain⟨t',rfl⟩:=ry;exact PySem.EqMixed.ne_str_int (bA I q (by simp))
  |str j=>obtain⟨t',rfl⟩:=ry;exact ne_str (bA I q (congrArg not CV))
  |_=>exact absurd (show false=true from hs) V5
 |om i=>
  obtain⟨t,rfl⟩:=rx;cases y with
  |om j=>obtain⟨t',rfl⟩:=ry;exact PySem.W.ne_bytes (bA I q (congrArg not CK))
  |_=>exact absurd (show false=true from hs) V5
 |_=>cases y<;>exact absurd (show false=true from hs) V5
def vQ:b9 X (compareOp .Lt) (qp λi j=>.bl (decide (i<j))):=Et λ_ _ _ _ _ _ _ q=>lt_int q
def KP:b9 X (compareOp .LtE) (qp λi j=>.bl (decide (i<=j))):=Et λ_ _ _ _ _ _ _ q=>le_int q
def Si:b9 X (compareOp .Gt) (qp λi j=>.bl (decide (j<i))):=Et λ_ _ _ _ _ _ _ q=>gt_int q
def RP:b9 X (compareOp .GtE) (qp λi j=>.bl (decide (j<=i))):=Et λ_ _ _ _ _ _ _ q=>ge_int q
def NL:b9 X (compareOp .Is) (λx y H Q=>y=.bw/\Q (.bl (decide (x=.bw))) H):=by
 intro pins s U H x y v u Q I rx ry h;obtain⟨rfl,q⟩:=h;cases ry;refine is_none_gen (bA I q ?_);cases x<;>first
  | (cases rx;rfl)
  | (obtain⟨t,rfl⟩:=rx;rfl)
def My:b9 X (compareOp .IsNot) (λx y H Q=>y=.bw/\Q (.bl (!decide (x=.bw))) H):=by
 intro pins s U H x y v u Q I rx ry h;obtain⟨rfl,q⟩:=h;cases ry;refine isnot_none_gen (bA I q ?_);cases x<;>first
  | (cases rx;rfl)
  | (obtain⟨t,rfl⟩:=rx;rfl)
def b9.or{f:Value->Value->Sem Value}{r r':R2}(h:b9 X f r)(h':b9 X f r'):b9 X f (λx y H Q=>r x y H Q\/r' x y H Q):=by intro pins s U H x y v u Q I rx ry q;rcases q with q|q;{exact h pins s U H x y v u Q I rx ry q};exact h' pins s U H x y v u Q I rx ry q
def jv(b:Expr){op:CmpOp}(h:op≠.In:=by decide)(h2:op≠.NotIn:=by decide):behindInMarks op b=false:=by
 have e1:(op==CmpOp.In)=false:=by cases op<;>first|rfl|exact absurd rfl h
 have e2:(op==CmpOp.NotIn)=false:=by cases op<;>first|rfl|exact absurd rfl h2
 cases b<;>simp[behindInMarks,e1,e2]
def L7{op:CmpOp}{r:R2}(ho:b9 X (compareOp op) r)(ha:PE X a ta)(hb:PE X b tb)(hm:behindInMarks op b=false):PE X (.Compare a [op] [b] pos) (OD r ta tb):=by intro pins s U H Q I h;exact wpAny_Compare1 (Ja ha hb I h λv u s2 x y H2 I2 rx ry q=>ho pins s2 U H2 x y v u Q I2 rx ry q) hm
inductive Gu(Q:(Bool->Hp->Prop)) (x:V)(H':Hp):Prop
 |mk:∀k,(x=.bl k)->(Q k H')->Gu Q x H'
def Rg(t:TE):TT:=λU H Q=>t U H λx H'=>Gu Q x H'
def Qp(r r':R2)(ta tb tc:TE):TE:=λU H Q=>ta U H λx H1=>tb U H1 λy H2=>r x y H2 λz H3=>∃k,z=.bl k /\
 (if k=true then tc U H3 λw' H4=>r' y w' H4 Q else Q (.bl false) H3)
def Jm{op op':CmpOp}{r r':R2}(ho:b9 X (compareOp op) r)(ho':b9 X (compareOp op') r')(ha:PE X a ta)(hb:PE X b tb)(hc:PE X c tc)(hm:lastMarks [op,op'] [b,c]=false:=by with_unfolding_all rfl):PT X (.Compare a [op,op'] [b,c] pos) (Rg (Qp r r' ta tb tc)):=by
 intro pins s U H Q I h;refine isTrue_chain (aU (ha pins s U H _ I h) λv s1 ⟨x,H1,I1,r1,q1⟩=>test_link (aU (hb pins s1 U H1 _ I1 q1) λu s2 ⟨y,H2,I2,r2,q2⟩=>
  aU (ho pins s2 U H2 x y v u _ I2 r1 r2 q2) λd s3 ⟨z,H3,I3,r3,k,e,q3⟩=>?_)) hm
 subst e;cases r3;refine Wc ?_;cases k with
 |false=>obtain⟨k',e',q'⟩:=q3;cases e';exact ite_ff ⟨H3,I3,q'⟩
 |true=>refine ite_tt (test_last (aU (hc pins s3 U H3 _ I3 q3) λw' s4 ⟨z',H4,I4,r4,q4⟩=>aU (ho' pins s4 U H4 y z' u w' _ I4 r2 r4 q4) λd' s5 ⟨z2,H5,I5,r5,k2,e2,q5⟩=>?_));subst e2;cases r5;exact Wc ⟨H5,I5,q5⟩
def uA(K:ZR) (x:V)(H:Hp)(k:Bool):Prop:=
 match x with
 |.bw=>k=false
 |.bl b=>k=b
 |.int i=>k=(i != 0)
 |.str y=>y.length<=sizeLine/\k=((y.length:Int) != 0)
 |.om y=>y.size<=sizeLine/\k=((y.size:Int) != 0)
 |.ref p=>(∃xs,bI K H p xs/\k=!xs.isEmpty)\/(∃xs,cP K H p xs/\k=!xs.isEmpty)\/∃kvs,H p=some (.dK kvs)/\k=!kvs.isEmpty
 |_=>False
def ED{κ:Type}{kvs:List (κ×V)}{vs:List (κ×Value)}(r:KV kvs vs):(!vs.isEmpty)=!kvs.isEmpty:=by cases r<;>rfl
def vp{xs:List V}{its:ZW}(r:Vals xs its):(!its.toArray.isEmpty)=!xs.isEmpty:=by cases r<;>simp
def pA:(sizeLine:Nat)<2^63:=by rw[sizeLine_eq];decide
def AU:TJ X (λx H Q=>∃k,uA X.K x H k/\Q k H):=by
 intro pins s U H x v Q I rx h;obtain⟨k,e,q⟩:=h;have hl:=pA;have hs:sizeLine=16777216:=sizeLine_eq;cases x with
 |bw=>cases rx;have e':k=false:=e;subst e';exact truthy_none ⟨H,I,q⟩
 |bl b=>cases rx;have e':k=b:=e;subst e';exact Wc ⟨H,I,q⟩
 |int i=>obtain⟨t,rfl⟩:=rx;have e':k=(i != 0):=e;subst e';exact PySem.P.truthy_int ⟨H,I,q⟩
 |str y=>obtain⟨t,rfl⟩:=rx;obtain⟨hy,e'⟩:y.length<=sizeLine/\k=((y.length:Int) != 0):=e;subst e';exact PySem.P.truthy_str (by lia) ⟨H,I.tok _,q⟩
 |om y=>obtain⟨t,rfl⟩:=rx;obtain⟨hy,e'⟩:y.size<=sizeLine/\k=((y.size:Int) != 0):=e;subst e';exact PySem.W.truthy_bytes (by lia) ⟨H,I.tok _,q⟩
 |ref p=>cases rx;have e':(∃xs,bI X.K H p xs/\k=!xs.isEmpty)\/(∃xs,cP X.K H p xs/\k=!xs.isEmpty)\/∃kvs,H p=some (.dK kvs)/\k=!kvs.isEmpty:=e;rcases e' with⟨xs,hx,e'⟩|⟨xs,hx,e'⟩|⟨kvs,hx,e'⟩;{subst e';obtain⟨its,r,pl,hz⟩:=I.list hx;have hlen:=r.length;exact wpAny_truthy_list pl.isList (by simp only[UO];lia) ⟨H,I.tok _,by rw[vp r];exact q⟩};{subst e';obtain⟨its,r,pl,hz⟩:=I.tuple hx;have hlen:=r.length;exact truthy_tuple pl (by simp only[UO];lia) ⟨H,I.tok _,by rw[vp r];exact q⟩};subst e';obtain⟨hz,hS,vs,r,m⟩:kvs.length<=sizeLine/\(p==sysModules)=false/\∃vs,KV kvs vs/\s.heap.DictOf (c9 X.prog X.w) p vs:=I.hok p _ hx;have hlen:kvs.length=vs.length:=Paired.length r;exact wpAny_truthy_dict hS m (by lia) ⟨H,I.tok _,by rw[ED r];exact q⟩
 |_=>exact(show False from e).elim
def zU(ha:PE X a ta)(he:∀whole,isTrue a X.env whole=(do let v <-whole;standAt a.pos;holding [v] (truthy v))) :
  PT X a (λU H Q=>ta U H λx H'=>∃k,uA X.K x H' k/\Q k H'):=by
 intro pins s U H Q I h;exact isTrue_plain (aU (ha pins s U H _ I h) λv s1 ⟨x,H1,I1,r1,q1⟩=>AU pins s1 U H1 x v Q I1 r1 q1) (he _)
def DO:b9 X (binaryOp .Add) (λx y H Q=>∃i j,x=.str i/\y=.str j/\i.length+j.length<=sizeLine/\Q (.str (i++j)) H):=by intro pins s U H x y v u Q I rx ry h;obtain⟨i,j,rfl,rfl,hz,q⟩:=h;obtain⟨t,rfl⟩:=rx;obtain⟨t',rfl⟩:=ry;exact add_str (λt' tk=>⟨.str (i++j),H,I.tok _,⟨_,rfl⟩,q⟩) hz
def vals1{x:V}{us:ZW}(r:Vals [x] us):∃u,us=[u]/\RelV x u:=by
 cases r with
 |cons r1 r2=>cases r2;exact⟨_,rfl,r1⟩
def vals2{x y:V}{us:ZW}(r:Vals [x,y] us):∃u w',us=[u,w']/\RelV x u/\RelV y w':=by
 cases r with
 |cons r1 r2=>
  cases r2 with
  |cons r3 r4=>cases r4;exact⟨_,_,rfl,r1,r3⟩
def Jl:cI X (.builtin "abs") (λxs H Q=>∃i,xs=[.int i]/\Q (.int (if i<0 then-i else i)) H):=by intro pins s U H xs us Q I r h;obtain⟨i,rfl,q⟩:=h;obtain⟨u,rfl,t,rfl⟩:=vals1 r;exact call_abs_int λu tk=>⟨.int (if i<0 then-i else i),H,I.tok _,⟨_,rfl⟩,q⟩
def Gj(hc:X.calm=true):cI X (.builtin "max") (λxs H Q=>∃i j,xs=[.int i,.int j]/\Q (.int (if j>i then j else i)) H):=by intro pins s U H xs us Q I r h;obtain⟨i,j,rfl,q⟩:=h;obtain⟨u,w',rfl,⟨t,rfl⟩,⟨t',rfl⟩⟩:=vals2 r;refine max_two_ints (I.ok.hd hc) λh' tk k=>⟨_,H,I.kept k,?_,q⟩;by_cases hj:j>i;{rw[if_pos hj,if_pos hj];exact⟨_,rfl⟩};rw[if_neg hj,if_neg hj];exact⟨_,rfl⟩
def Gd(hc:X.calm=true):cI X (.builtin "min") (λxs H Q=>∃i j,xs=[.int i,.int j]/\Q (.int (if j<i then j else i)) H):=by intro pins s U H xs us Q I r h;obtain⟨i,j,rfl,q⟩:=h;obtain⟨u,w',rfl,⟨t,rfl⟩,⟨t',rfl⟩⟩:=vals2 r;refine min_two_ints (I.ok.hd hc) λh' tk k=>⟨_,H,I.kept k,?_,q⟩;by_cases hj:j<i;{rw[if_pos hj,if_pos hj];exact⟨_,rfl⟩};rw[if_neg hj,if_neg hj];exact⟨_,rfl⟩
def GB:cI X (.type "int") (λxs H Q=>(∃i,xs=[.int i]/\Q (.int i) H)\/∃k,xs=[.bl k]/\Q (.int (if k then 1 else 0)) H):=by intro pins s U H xs us Q I r h;rcases h with⟨i,rfl,q⟩|⟨k,rfl,q⟩;{obtain⟨u,rfl,t,rfl⟩:=vals1 r;exact call_int_int ⟨.int i,H,I,⟨_,rfl⟩,q⟩};obtain⟨u,rfl,r1⟩:=vals1 r;cases r1;exact call_int_bool ⟨.int (if k then 1 else 0),H,I.tok _,⟨_,rfl⟩,q⟩
end
structure Kn(h:Heap)(x dx C:Addr)(mA:ZK):Prop where
 obj:h.get? x=some (PySem.W.instObj C dx)
 ns:h.Ns1 dx mA
 ne:dx≠x
def Gx{h:Heap}{dx:Addr}{mA:ZK}(n:h.Ns1 dx mA):∃od,h.get? dx=some od/\∀name,PySem.W.lookIn name od=some (mA name):=by
 obtain⟨o,es,ep,ho,hd,hk,_,hm⟩:=n;refine⟨o,ho,λname=>?_⟩;have e:=hm name;unfold nsFind findBy at e;rw[<-YY]at e;unfold PySem.W.lookIn;rw[hd];dsimp only;split;{rename_i y q;rw[q]at e;exact congrArg some e};rename_i q;rw[q]at e;have a:es.toList.any (·.refKey)=false:=by rw[YZ];intro y hy;obtain⟨z,t,hkey⟩:=hk y (Array.mem_toList_iff.mp hy);simp[DictEntry.refKey,hkey]
 have a':¬es.toList.any (·.refKey)=true:=by rw[a];exact V5
 rw[if_neg a'];exact congrArg some e
def Kn.look{h:Heap}{x dx C:Addr}{mA:ZK}(I:Kn h x dx C mA):∃od,PySem.W.InstAt h x (PySem.W.instObj C dx) C (some od)/\∀name,PySem.W.lookIn name od=some (mA name):=
 let⟨od,ho,hl⟩:=Gx I.ns
 ⟨od,⟨I.obj,rfl,rfl,ho⟩,hl⟩
def kW.some_of{v:V}{o:ZS}(r:kW (some v) o):∃u,o=some u/\RelV v u:=by
 cases o with
 |none=>exact(show False from r).elim
 |some u=>exact⟨u,rfl,r⟩
section
variable{P:Program}{w:World}{H H':Hp}{h h':Heap}{a C dx:Addr}{fs fs':List (Str×V)}
def iZ(hok:dN P w H h)(e:H a=some (.ins C dx fs)):∃mA,Kn h a dx C mA/\(∀f,kW (fs.lookup f) (mA f))/\PySem.Within mA (fs.map (·.1))/\fs.length<=1000/\H dx=some (.own a):=by obtain⟨d,z,ne,ob,mA,n,r,q⟩:=(show bU P w H h a (.ins C dx fs)from hok a _ e);exact⟨mA,⟨ob,n,ne⟩,r,q,z,d⟩
end
structure Oa(K:ZR)(C:Addr):Prop where
 pg:PySem.W.plainGet K C Str.empty=true
 hd:PySem.W.hasDictIn K C=true
 po:PySem.W.plainOver K C=true
 sa:PySem.W.findIn K (.ref C) "__setattr__"=some (some (.builtin "object.__setattr__"))
def Oa.get{K:ZR}{C:Addr}(c:Oa K C) (f:Str):PySem.W.plainGet K C f=true:=c.pg
section
variable{X:Cx}{pins:ZL}{U:St}{H:Hp}{s:Shared}{A:Around}{E:ZI}{Q:ZI}{c:Value}{b:Bool}
inductive ir(K:ZR)(H:Hp):V->Value->Prop where
 |bw:ir K H .bw (.type "NoneType")
 |bl (x:Bool):ir K H (.bl x) (.type "bool")
 |int (i:Int):ir K H (.int i) (.type "int")
 |str (x:Str):ir K H (.str x) (.type "str")
 |Co (x:UInt64):ir K H (.Co x) (.type "float")
 |lst {a:Addr}{xs:List V}(e:H a=some (.lst xs)):ir K H (.ref a) (.type "list")
 |cL {a:Addr}{o:Obj}{xs:List V}(e:H a=some (.cL o (.lst xs))):ir K H (.ref a) (.type "list")
 |kl {a:Addr}{its:ZT}{n:Nat}(e:K.lookup a=some { cls:=.type "list",data:=.seq its n }):ir K H (.ref a) (.type "list")
 |tup {a:Addr}{xs:List V}(e:H a=some (.tup xs)):ir K H (.ref a) (.type "tuple")
 |dK {a:Addr}{kvs:List (Key×V)}(e:H a=some (.dK kvs)):ir K H (.ref a) (.type "dict")
 |dT {a:Addr}{kvs:List (List Key×V)}(e:H a=some (.dT kvs)):ir K H (.ref a) (.type "dict")
 |ins {a C dx:Addr}{fs:List (Str×V)}(e:H a=some (.ins C dx fs))(cl:Oa K C)(ha:PySem.W.findIn K (.ref C) "__class__"=some (some (.builtin "object.__class__")))
   (hn:PySem.W.specialIn K (.builtin "object.__class__") "__get__"=some (some (.builtin "getset_descriptor.__get__")))(htk:PySem.W.takesIn K (.builtin "object.__class__")=some true)
   (hm:PySem.W.mroIn K C (.type "object")=some true):ir K H (.ref a) (.ref C)
def Fc{x:V}{u t:Value}(I:Inv X pins U H s)(rx:RelV x u)(ty:ir X.K H x t)(e:PySem.W.kitOne X.K t c=some b)(h:∀tk,Q (.bool b) { s with toks:=tk }) : wpAny (model X.prog X.w) A (call (.builtin "isinstance") [u,c]) Q E s:=by
 cases ty with
 |bw=>cases (show u=Value.none from rx);exact Ve PySem.W.kitx_none I.i7 Vw e (λz=>nomatch z) h
 |bl y=>cases (show u=Value.bool y from rx);exact Ve PySem.W.kitx_bool I.i7 Vw e (λz=>nomatch z) h
 |int i=>obtain⟨t,q⟩:=(show ∃t,u=Value.int i t from rx);cases q;exact Ve PySem.W.kitx_int I.i7 Vw e (λz=>nomatch z) h
 |str y=>obtain⟨t,q⟩:=(show ∃t,u=Value.str y t from rx);cases q;exact Ve PySem.W.kitx_str I.i7 Vw e (λz=>nomatch z) h
 |Co y=>obtain⟨t,q⟩:=(show ∃t,u=Value.float y t from rx);cases q;exact Ve PySem.W.kitx_float I.i7 Vw e (λz=>nomatch z) h
 |@lst a xs ea=>cases (show u=Value.ref a from rx);obtain⟨_,_,n,_,h1⟩:=(show bU X.prog X.w H s.heap a (.lst xs)from I.hok a _ ea);exact Ve Yb I.i7 ⟨_,h1,rfl⟩ e (λz=>nomatch z) h
 |@cL a ob xs ea=>cases (show u=Value.ref a from rx);obtain⟨_,_,_,n,_,h1⟩:=(show bU X.prog X.w H s.heap a (.cL ob (.lst xs))from I.hok a _ ea);exact Ve Yb I.i7 ⟨_,h1,rfl⟩ e (λz=>nomatch z) h
 |@kl a its n ea=>cases (show u=Value.ref a from rx);exact Ve Yb I.i7 ⟨_,I.i7 a _ ea,rfl⟩ e (λz=>nomatch z) h
 |@tup a xs ea=>cases (show u=Value.ref a from rx);obtain⟨_,_,_,p⟩:=(show bU X.prog X.w H s.heap a (.tup xs)from I.hok a _ ea);obtain⟨o,h1,h2,_⟩:=p;exact Ve PySem.W.kitx_tuple I.i7 ⟨o,h1,h2⟩ e (λz=>nomatch z) h
 |@dK a kvs ea=>cases (show u=Value.ref a from rx);obtain⟨_,_,vs,_,p⟩:=(show bU X.prog X.w H s.heap a (.dK kvs)from I.hok a _ ea);obtain⟨o,es,ep,h1,h2,_⟩:=p;exact Ve PySem.W.kitx_dict I.i7 ⟨o,h1,h2.1⟩ e (λz=>nomatch z) h
 |@dT a kvs ea=>cases (show u=Value.ref a from rx);obtain⟨_,_,xs,_,o,es,ep,h1,h2,_⟩:=(show bU X.prog X.w H s.heap a (.dT kvs)from I.hok a _ ea);exact Ve PySem.W.kitx_dict I.i7 ⟨o,h1,h2.1⟩ e (λz=>nomatch z) h
 |@ins a C dx fs ea cl ha hn htk hm=>cases (show u=Value.ref a from rx);obtain⟨mA,O,_⟩:=iZ I.hok ea;obtain⟨od,J,_⟩:=O.look;exact Ve (PySem.W.kitx_own (cl.get _) cl.hd ha hn htk hm) I.i7 J e (λz=>nomatch z) h
end
structure fc(k:Nat)(A:Around):Prop where
 hd:A.handled=none
 dp:A.depth+3*k+5<recursionLimit
 un:A.units+16*k+200<cLine
def fc.mono{j k:Nat}{A:Around}(r:fc k A)(h:j<=k):fc j A:=⟨r.hd,by have:=r.dp;lia,by have:=r.un;lia⟩
theorem fc.deeper{k:Nat}{A:Around}(r:fc (k+1) A)(env:Env):fc k (A.deeper env):=
 ⟨r.hd,by have:=r.dp;show A.depth+1+3*k+5<_;lia,by have:=r.un;show A.units+3+16*k+200<_;lia⟩
theorem fc.depth{k:Nat}{A:Around}(r:fc k A):A.depth<recursionLimit:=by have:=r.dp;lia
theorem fc.units{k:Nat}{A:Around}(r:fc k A):A.units+64<cLine:=by have:=r.un;lia
def SY:TA:=λ_ H Q=>Q [] H
def RE(ta:TE)(tr:TA):TA:=λU H Q=>ta U H λx H1=>tr U H1 λxs H2=>Q (x::xs) H2
section
variable{X:Cx}{e:Expr}{es:ZZ}{te:TE}{t:TA}{pos:Pos}
def ji:PA X [] SY:=λ_ _ _ _ H Q I h=>Calls.spliced_nil ⟨[],H,I,.nil,h⟩
def gu(ha:PE X e te)(hr:PA X es t)(hs:starEach (e::es) X.env=(false,eval e X.env)::starEach es X.env:=by rfl):PA X (e::es) (RE te t):=by intro pos pins s U H Q I h;rw[hs];show wpAny _ _ (spliced ((false,eval e X.env)::backTo pos (starEach es X.env))) _ _ s;refine Calls.spliced_cons (aU (ha pins s U H _ I h) λu s1 ⟨x,H1,I1,r1,q1⟩=>?_);exact aU (hr pos pins s1 U H1 _ I1 q1) λus s2 ⟨xs,H2,I2,r2,q2⟩=>⟨x::xs,H2,I2,.cons r1 r2,q2⟩
def S4(t:TA):TE:=λU H Q=>t U H λxs H1=>xs.length<=sizeLine/\∀p,H1 p=none->Q (.ref p) (upd H1 p (.tup xs))
def TF(t:TA):TE:=λU H Q=>t U H λxs H1=>xs.length<=sizeLine/\∀p,H1 p=none->Q (.ref p) (upd H1 p (.lst xs))
def Oz{x1}(h:PA X es t):PE X (.Tuple es x1 pos) (S4 t):=by intro pins s U H Q I hq;refine wpAny_Tuple_spliced (aU (h pos pins s U H _ I hq) λus s1 ⟨xs,H1,I1,r,z,q⟩=>⟨by rw[<-r.length];exact z,?_⟩);have hf:H1 s1.heap.objs.size=none:=I1.hok.fresh (U5 _);refine⟨.ref s1.heap.objs.size,upd H1 s1.heap.objs.size (.tup xs),I1.laid (t':=s1.toks) (λb u e=>UQ _ e) (U5 _) ?_,rfl,q _ hf⟩;exact⟨z,us,r,⟨_,V8 _ rfl,rfl,_,rfl⟩⟩
def GL(h:PA X es t):PE X (.List es pos) (TF t):=by intro pins s U H Q I hq;refine wpAny_List_spliced (aU (h pos pins s U H _ I hq) λus s1 ⟨xs,H1,I1,r,z,q⟩=>⟨by rw[<-r.length];exact z,?_⟩);have hf:H1 s1.heap.objs.size=none:=I1.hok.fresh (U5 _);refine⟨.ref s1.heap.objs.size,upd H1 s1.heap.objs.size (.lst xs),I1.laid (t':=s1.toks) (λb u e=>UQ _ e) (U5 _) ?_,rfl,q _ hf⟩;exact⟨z,us,0,r,V8 _ rfl⟩
end
abbrev Sp:=List V->Hp->VK->XK->Prop
abbrev mS:=List Env->Hp->Shared->XK->Value->Shared->Prop
structure EF(P:Program)(w:World)(K:ZR)(mg:ZK)(base:Heap)(A:Around)(outer:List Env)(s:Shared)(H:Hp):Prop where
 frames:A.frames=some outer
 mod:Mod K mg base
 bs:∀b o,base.get? b=some o->s.heap.get? b=some o/\H b=none
 yi:base.objs.size<=s.heap.objs.size
 mH:s.heap.FunFrames base outer
 B8:∀b∈frs outer,H b=none
 hok:dN P w H s.heap
 bare:AllBare s.gens
def CE(outer:List Env)(P:Program)(w:World)(H:Hp)(s:Shared)(Q:VK)(u:Value)(s':Shared):Prop:=
 ∃v H',s'.os=s.os/\AllBare s'.gens/\Un (frs outer) [] H H' s.heap s'.heap/\dN P w H' s'.heap/\RelV v u/\Q v H'
def CR(CX:mS)(outer:List Env)(P:Program)(w:World)(H:Hp)(s:Shared)(Q:VK)(E:XK)(r:Result)(s':Shared):Prop:=
 match r with
 |.ok (.ret u)=>CE outer P w H s Q u s'
 |.ok _=>False
 |.error e=>CX outer H s E e s'
structure iw(P:Program)(w:World)(K:ZR)(mg:ZK)(base:Heap)(CX:mS) (k:Nat)(f:Addr)(fd:FuncData)(ps:Zd)(sp:Sp):Prop where
 len:∀vs H Q E,sp vs H Q E->vs.length=ps.length
 run:∀(A:Around)(outer:List Env)(s:Shared)(H:Hp)(args:Args)(us:ZW)(vs:List V)(Q:VK)(E:XK),fc k A->EF P w K mg base A outer s H->BindsTo s fd args (ps.zip us)->Vals vs us->sp vs H Q E->
  codeAny (model P w) A (.call (.ref f) args) (CR CX outer P w H s Q E) s
def iw.imp{P:Program}{w:World}{K:ZR}{mg:ZK}{base:Heap}{CX:mS}{k:Nat}{f:Addr}{fd:FuncData}{ps:Zd}{sp sp':Sp}(F:iw P w K mg base CX k f fd ps sp)(h:∀vs H Q E,sp' vs H Q E->sp vs H Q E):iw P w K mg base CX k f fd ps sp':=
 ⟨λvs H Q E q=>F.len vs H Q E (h _ _ _ _ q),λA outer s H args us vs Q E hr he hb hv hs=>F.run A outer s H args us vs Q E hr he hb hv (h _ _ _ _ hs)⟩
section
variable{X:Cx}{pins:ZL}{U:St}{H:Hp}{s s':Shared}
def Inv.Td(I:Inv X pins U H s):EF X.prog X.w X.K X.mg X.base X.A X.stack s H:=
 ⟨I.ok.frames,I.ok.mod,I.bs,V4 I.ok.yi I.sz,I.stack,I.r9,I.hok,I.bare⟩
def Inv.after{Q:VK}{u:Value}(I:Inv X pins U H s)(h:CE X.stack X.prog X.w H s Q u s'):EP X pins U Q u s':=by obtain⟨v,H',os,bare,un,hok,r,q⟩:=h;obtain⟨hh,g,d,t,os'⟩:=s';obtain rfl:os'=s.os:=os;exact⟨v,H',I.call (h':=hh) (g':=g) (d':=d) (t':=t) (ch:=[]) un hok bare (λb z=>absurd z (by simp)),r,q⟩
end
def Sh(sp:Sp)(dvs:List V)(E:XK)(t:TA):TE:=λU H Q=>t U H λvs H1=>sp (vs++dvs) H1 Q E
def Binds(K:ZR)(fd:FuncData)(ps:Zd)(ds:ZW):Prop:=
 ∀(s:Shared)(us:ZW),K.In s.heap->(us++ds).length=ps.length->BindsTo s fd ⟨us,[]⟩ (ps.zip (us++ds))
def Binds.all{K:ZR}{fd:FuncData}{ps:Zd}(h:∀us:ZW,us.length=ps.length->bindArgs fd ⟨us,[]⟩=pure (ps.zip us)):Binds K fd ps []:=λs us _ hl=>by rw[VF]at hl⊢;exact .of_eq (h us hl)
def Passes(CX:mS)(X:Cx)(E:XK):Prop:=∀(pins:ZL)(U:St)(H:Hp)(s:Shared)(e:Value)(s':Shared),Inv X pins U H s->CX X.stack H s E e s'->X.xe e s'
section
variable{X:Cx}{CX:mS}{k:Nat}{f C:Addr}{fd:FuncData}{ps:Zd}{sp:Sp}{dvs:List V}{ds:ZW}{E:XK}{x m:Str}{p pos apos:Pos}{e o:Expr}{es:ZZ}{ta:TE}{t:TA}
def Ov{pins:ZL}{U:St}{H:Hp}{s:Shared}{Q:VK}{us:ZW}{vs:List V}(F:iw X.prog X.w X.K X.mg X.base CX k f fd ps sp)(hr:fc k X.A)(hb:Binds X.K fd ps ds)(hd:Vals dvs ds)(hx:Passes CX X E)(I:Inv X pins U H s)(r:Vals vs us)(h:sp (vs++dvs) H Q E):wpAny (model X.prog X.w) X.A (call (.ref f) us) (EP X pins U Q) X.xe s:=by
 have r2:Vals (vs++dvs) (us++ds):=r.append hd;have hl:(us++ds).length=ps.length:=by rw[<-r2.length];exact F.len _ _ _ _ h
 refine wpAny_call (XQ (F.run X.A X.stack s H ⟨us,[]⟩ (us++ds) (vs++dvs) Q E hr I.Td (hb s us I.i7 hl) r2 h) λr s' hq=>?_);cases r with
 |error e=>exact hx pins U H s e s' I hq
 |ok fl=>
  cases fl with
  |ret u=>exact I.after hq
  |next=>exact False.elim hq
  |brk=>exact False.elim hq
  |cont=>exact False.elim hq
def MD(F:iw X.prog X.w X.K X.mg X.base CX k f fd ps sp)(hr:fc k X.A)(hg:Gl X x)(hm:X.mg x=some (.ref f))(hk:PySem.W.keepIn X.K (.ref f)=true)(hb:Binds X.K fd ps ds)(hd:Vals dvs ds)(hx:Passes CX X E)(ha:PA X (e::es) t)(hdb:(x==("__debug__":Str))=false:=by decide)(he:starEach (e::es) X.env=(false,eval e X.env)::starEach es X.env:=by rfl)(hpl:(backTo pos (starEach es X.env)).any (·.1)=false:=by rfl) : PE X (.Call (.Name x p) (e::es) [] pos) (Sh sp dvs E t):=by intro pins s U H Q I h;refine Yc (Ck I hg hm ?_ hdb);refine PySem.W.callWith_K (h₀:=X.base) I.ok.mod.C1 hk (aU (ha pos pins s U H _ I h) λus s1 ⟨vs,H1,I1,r,q⟩=>⟨I1.i7,?_⟩) he hpl;exact Ov F hr hb hd hx I1 r q
end
structure aG(N P:Zd)(sc:Scope):Prop where
 kind:sc.kind=.function
 co:sc.isCoroutine=false
 gen:sc.isGenerator=false
 nd:N.Nodup
 pre:N.take P.length=P
 par:∀x∈P,sc.names.lookup x=some .local\/sc.names.lookup x=some .cell
 zc:∀y∈sc.names,y.2≠.free
theorem xD{kindOf:Str->Option NameKind}{x:Str}:∀{binds:List (Str×Value)}{m:ZK},(∀v,(x,v)∉binds)->bindL kindOf binds m x=m x
 |[],_,_=>rfl
 | (n,v)::r,m,h=>by
  unfold bindL;rw[xD λw hw=>h w (U4 _ hw)];split
  .have:x≠n:=by rintro rfl;exact h v U1
   simp[this]
  rfl
theorem xu{kindOf:Str->Option NameKind}{x:Str}:∀{binds:List (Str×Value)}{m:ZK},(∀v,(x,v)∉binds)->bindC kindOf binds m x=m x
 |[],_,_=>rfl
 | (n,v)::r,m,h=>by
  unfold bindC;rw[xu λw hw=>h w (U4 _ hw)];split;{rfl};have:x≠n:=by rintro rfl;exact h v U1
  simp[this]
theorem x8{kindOf:Str->Option NameKind}{x:Str}{v:Value}:∀{P:Zd}{vs:ZW}{i:Nat}{m:ZK},P.Nodup->P[i]?=some x->vs[i]?=some v->kindOf x=some .local-> bindL kindOf (P.zip vs) m x=some v
 |[],_,_,_,_,h,_,_=>by simp at h
 |_::_,[],_,_,_,_,h,_=>by simp at h
 |p::P,w::vs,0,m,nd,h1,h2,hk=>by simp at h1 h2;subst h1;subst h2;show bindL kindOf ((p,w)::P.zip vs) m p=_;unfold bindL;rw[xD λv hv=>(VA.mp nd).1 (Xs hv).1,if_pos hk];simp
 |p::P,w::vs,i+1,m,nd,h1,h2,hk=>by show bindL kindOf ((p,w)::P.zip vs) m x=_;unfold bindL;exact x8 (i:=i) (VA.mp nd).2 (by simpa using h1) (by simpa using h2) hk
theorem xQ{kindOf:Str->Option NameKind}{x:Str}{v:Value}:∀{P:Zd}{vs:ZW}{i:Nat}{m:ZK},P.Nodup->P[i]?=some x->vs[i]?=some v->kindOf x≠some .local-> bindC kindOf (P.zip vs) m x=some v
 |[],_,_,_,_,h,_,_=>by simp at h
 |_::_,[],_,_,_,_,h,_=>by simp at h
 |p::P,w::vs,0,m,nd,h1,h2,hk=>by simp at h1 h2;subst h1;subst h2;show bindC kindOf ((p,w)::P.zip vs) m p=_;unfold bindC;rw[xu λv hv=>(VA.mp nd).1 (Xs hv).1,if_neg hk];simp
 |p::P,w::vs,i+1,m,nd,h1,h2,hk=>by show bindC kindOf ((p,w)::P.zip vs) m x=_;unfold bindC;exact xQ (i:=i) (VA.mp nd).2 (by simpa using h1) (by simpa using h2) hk
def start(N:Zd)(vs:List V):St:=vs.map some++List.replicate (N.length-vs.length) none
def iy(CX:mS)(P:Program)(w:World)(K:ZR)(mg:ZK)(base:Heap)(N:Zd) (qual:Str)(scope:Scope)(f:Addr)(cd:Value)(A:Around)(outer:List Env)(s:Shared)(H:Hp)(E:XK):Cx where
 prog:=P
 w:=w
 K:=K
 mg:=mg
 base:=base
 A:=A.deeper (envOfC qual scope s.heap.objs.size f cd)
 N:=N
 s₀:=s
 H₀:=H
 env:=envOfC qual scope s.heap.objs.size f cd
 outer:=outer
 stack:=envOfC qual scope s.heap.objs.size f cd::outer
 ex:=[]
 calm:=true
 fn:=λ_=>true
 pn:=[]
 xe:=λe s'=>wpAny (model P w) (A.deeper (envOfC qual scope s.heap.objs.size f cd)) (leaving (envOfC qual scope s.heap.objs.size f cd) e) (λ_ s''=>CX outer H s E e s'') (λe' s''=>CX outer H s E e' s'') s'
def Al{sc:Scope}{n:Nat}{x:Str}(h:sc.names.lookup x=some .cell):∃c,(cellsFrom n sc.names []).lookup x=some c:=by have q:=PySem.W.cellsFrom_some sc.names n [] (.inl h);exact Option.isSome_iff_exists.mp q
def GO{CX:mS}{P:Program}{w:World}{K:ZR}{mg:ZK}{base:Heap}{N ps:Zd}{qual:Str}{scope:Scope}{f:Addr}{cd:Value}{A:Around}{outer:List Env}{s s1:Shared}{H:Hp}{E:XK}{us:ZW}{vs:List V}(S:aG N ps scope)(hd:A.handled=none)(e0:EF P w K mg base A outer s H)(hl:vs.length=ps.length)(r:Vals vs us)(x:InCallC s s.heap.objs.size (bindL (envOfC qual scope s.heap.objs.size f cd).kindOf (ps.zip us) λ_=>none) (cellsFrom (s.heap.objs.size+1) scope.names []) (bindC (envOfC qual scope s.heap.objs.size f cd).kindOf (ps.zip us) λ_=>none) s1) : Inv (iy CX P w K mg base N qual scope f cd A outer s H E) [] (start N vs) H s1:=by
 have hpl:ps.length<=N.length:=by have:=congrArg List.length S.pre;rw[Vf]at this;lia
 obtain⟨h1,tk,rfl,hk⟩:=x.done;have noA:∀b:Addr,b∉(iy CX P w K mg base N qual scope f cd A outer s H E).ex:=λb z=>absurd (show b∈([]:ZX)from z) (by simp);refine⟨⟨e0.mod,S.kind,rfl,rfl,U5 _,λy z c h1 h2=>?_,λy hy=>?_,λy c _ h=>?_,λ_=>hd,Around.frames_deeper e0.frames,.inr ⟨rfl,rfl⟩,λb z=>absurd z (noA b),e0.bs,e0.yi,λb _ _=>noA b,λb z=>absurd z (noA b),e0.mH,e0.B8⟩,
  rfl,e0.bare,Un.kept hk,⟨_,x.toInCall.ns,λi y v h1 h2 h3=>?_⟩,λy c h=>⟨_,x.cell y c h⟩,e0.hok.fresh (U5 _),λy c h=>?_,λp hp=>absurd (show p∈([]:ZL)from hp) (by simp),e0.hok.kept hk,?_⟩
 .exact name_of_addr x.apart (XR h1) (XR h2)
 .have hy:scope.names.lookup y=some .cell\/scope.names.lookup y=some .free:=hy;rcases hy with hy|hy;{exact Al hy};exact absurd rfl (S.zc _ (XR hy))
 .exact Vk (x.above y c (XR h))
 .have hi:i<vs.length:=by unfold start at h2;by_cases hi:i<vs.length;{exact hi};rw[WI (by simpa using hi)]at h2;rw[Yd]at h2;split at h2<;>cases h2
  have ha:vs[i]?=some v:=by
   unfold start at h2;rw[We (by simpa using hi),UK]at h2;cases e:vs[i]? with
   |none=>rw[e]at h2;cases h2
   |some a=>rw[e]at h2;cases h2;rfl
  obtain⟨u,hu,rv⟩:=r.get ha;have hp:ps[i]?=some y:=by rw[<-S.pre,List.getElem?_take_of_lt (by lia)];exact h1
  have ndP:ps.Nodup:=by rw[<-S.pre];exact S.nd.sublist (Ye _ _)
  refine⟨u,rv,?_⟩;rcases S.par y (V7 hp)with k|k;{exact .inl ⟨k,x8 ndP hp hu k⟩};obtain⟨c,e⟩:=Al (n:=s.heap.objs.size+1) k;refine .inr ⟨.inl k,c,e,?_⟩;have q:=x.cell y c e;rw[xQ ndP hp hu (by show scope.names.lookup y≠_;rw[k];decide)]at q;exact q
 .exact e0.hok.fresh (Vk (x.above y c (XR h)))
 unfold start;show _=N.length;rw[UR,U7,Vg];lia
def Sb{CX:mS}{P:Program}{w:World}{K:ZR}{mg:ZK}{base:Heap}{k:Nat}{f:Addr}{name qual:Str}{params:Arguments}{body:Za}{scope:Scope}{dV kV doc pm cdv ct oc:Value}{an od:ZV}{osl:ZH}{N ps:Zd}{sp:Sp}(lk:K.lookup f=some ⟨oc,od,.func (PySem.W.fnOf name qual params body scope dV kV doc pm an cdv ct),osl⟩)(hcd:PySem.W.codeIn K cdv qual=true)(S:aG N ps scope)(len:∀vs H Q E,sp vs H Q E->vs.length=ps.length)(hbody:∀(A:Around)(outer:List Env)(s:Shared)(H:Hp)(vs:List V)(Q:VK)(E:XK),fc k (A.deeper (envOfC qual scope s.heap.objs.size f cdv))->sp vs H Q E-> ∃t,qm (iy CX P w K mg base N qual scope f cdv A outer s H E) body t/\t { nx:=λ_ H'=>Q .bw H',rt:=Q } (start N vs) H) : iw P w K mg base CX (k+1) f (PySem.W.fnOf name qual params body scope dV kV doc pm an cdv ct) ps sp:=by
 refine⟨len,λA outer s H args us vs Q E hr e0 hb r hsp=>?_⟩;have hl:=len _ _ _ _ hsp;have KX:K.In s.heap:=e0.mod.C1.keeps λb o e=>(e0.bs b o e).1;have lim:s.heap.NoLimit:=e0.mod.nolimit.keeps λb o e=>(e0.bs b o e).1;have hkind:∀y∈ps.zip us,scope.names.lookup y.1=some .local\/(scope.names.lookup y.1=some .cell/\((cellsFrom (s.heap.objs.size+1) scope.names []).lookup y.1).isSome=true):=λ⟨n,v⟩ hy=>by rcases S.par n (Xs hy).1 with q|q;{exact .inl q};exact .inr ⟨q,PySem.W.cellsFrom_some _ _ _ (.inl q)⟩
 refine codeAny_call_function hr.depth (KX _ _ lk) rfl S.co S.gen rfl (PySem.W.codeRec_of KX hcd) (hb _ _ _ _ ?_);refine wpAny_newFunctionEnv_cells S.kind hkind λenv he s1 x=>?_;subst he;refine⟨lim.keeps x.toInCall.keep,codeAny_func ?_⟩;obtain⟨t,ht,hq⟩:=hbody A outer s H vs Q E (hr.deeper _) hsp;have I:Inv (iy CX P w K mg base N qual scope f cdv A outer s H E) [] (start N vs) H s1:=GO S hr.hd e0 hl r x;refine V9 (ht [] s1 (start N vs) H _ I hq) (λfl s' hs=>?_) λe s' hs=>hs;have fin:∀{σ':St}{H':Hp}{v:V}{u:Value},Inv (iy CX P w K mg base N qual scope f cdv A outer s H E) [] σ' H' s'->RelV v u->Q v H'->CE outer P w H s Q u s':=
  λ{σ' H' v u} J rv q=>⟨v,H',J.os,J.bare,J.base,J.hok,rv,q⟩
 cases fl with
 |ret u=>obtain⟨v,σ',H',J,rv,q⟩:=hs;exact fin J rv q
 |next=>obtain⟨σ',H',J,q⟩:=hs;exact fin (v:=V.bw) (u:=Value.none) J rfl q
 |brk=>obtain⟨_,_,_,q⟩:=hs;exact False.elim q
 |cont=>obtain⟨_,_,_,q⟩:=hs;exact False.elim q
section
variable{X:Cx}{x:Str}{p pos:Pos}{e:Expr}{es:ZZ}{t:TA}{id T:String}{r:List V->Hp->VK->Prop}
def SN(r:List V->Hp->VK->Prop)(t:TA):TE:=λU H Q=>t U H λvs H1=>r vs H1 Q
def uD(hc:cI X (.builtin id) r)(hg:Gl X x)(hm:X.mg x=none)(hv:bootBuiltins x=some (.builtin id))(ha:PA X (e::es) t)(hn:x≠"__name__":=by decide)(hdb:(x==("__debug__":Str))=false:=by decide)(he:starEach (e::es) X.env=(false,eval e X.env)::starEach es X.env:=by rfl)(hpl:(backTo pos (starEach es X.env)).any (·.1)=false:=by rfl):PE X (.Call (.Name x p) (e::es) [] pos) (SN r t):=by intro pins s U H Q I h;refine Yc (mE I hg hm hv ?_ hn hdb);exact PyProof.Rows.callWith_builtin1 (aU (ha pos pins s U H _ I h) λus s1 ⟨vs,H1,I1,r1,q1⟩=>hc pins s1 U H1 vs us Q I1 r1 q1) he hpl
def kE(hc:cI X (.type T) r)(hg:Gl X x)(hm:X.mg x=none)(hv:bootBuiltins x=some (.type T))(ha:PA X (e::es) t)(hn:x≠"__name__":=by decide)(hdb:(x==("__debug__":Str))=false:=by decide)(he:starEach (e::es) X.env=(false,eval e X.env)::starEach es X.env:=by rfl)(hpl:(backTo pos (starEach es X.env)).any (·.1)=false:=by rfl):PE X (.Call (.Name x p) (e::es) [] pos) (SN r t):=by intro pins s U H Q I h;refine Yc (mE I hg hm hv ?_ hn hdb);exact XO (aU (ha pos pins s U H _ I h) λus s1 ⟨vs,H1,I1,r1,q1⟩=>hc pins s1 U H1 vs us Q I1 r1 q1) he hpl
end
end L2
namespace HT
open PySem PyProof.Rows
section
variable{prog:Program}{w:World}{A:Around}{E:ZI}{s:Shared}
def Ma{t b:Addr}{vs ws:ZW}{Q:ZI}(ht:IsTup s.heap t vs.toArray)(hb:IsTup s.heap b ws.toArray)(hv:vs≠[])(h1:ws=[]->Q (.ref t) s)(h2:ws≠[]->Q (.ref s.heap.objs.size) { s with heap:=s.heap.push { cls:=.type "tuple",data:=.seq (vs++ws).toArray } })(hsz:vs.length+ws.length<=sizeLine):wpAny (model prog w) A (binaryOp .Add (.ref t) (.ref b)) Q E s:=by
 obtain⟨⟨cls,dd,data,sl⟩,ho,hc,n,hd⟩:=id ht;obtain⟨⟨cls2,dd2,data2,sl2⟩,ho2,hc2,n2,hd2⟩:=id hb;simp only at hc hd hc2 hd2;subst hc hd hc2 hd2;have e:vs.toArray++ws.toArray=(vs++ws).toArray:=by simp
 by_cases hw:ws=[]
 .exact concat_meets ⟨_,ho,rfl⟩ ⟨_,ho2,rfl⟩ noFill_tuple_add seq_tuple_add PySem.F.slot_tuple_add PySem.F.entry_tuple_add (PySem.F.args_tuple_add_2 _ _)
   (tuple_addW1 t b vs.toArray ws.toArray n n2 dd dd2 sl sl2 (by simpa using hv) (by simp[hw])) ⟨ho,ho2,h1 hw⟩
 refine concat_meets ⟨_,ho,rfl⟩ ⟨_,ho2,rfl⟩ noFill_tuple_add seq_tuple_add PySem.F.slot_tuple_add PySem.F.entry_tuple_add (PySem.F.args_tuple_add_2 _ _)
  (tuple_addW2 t b vs.toArray ws.toArray n n2 dd dd2 sl sl2 (by simpa using hv) (by simpa using hw) (by rw[UO,UO];exact hsz)) ⟨ho,ho2,?_⟩
 rw[e];exact h2 hw
def aQ(n d:Nat):Option Int->Nat
 |none=>d
 |some v=>if v<0 then(v+(n:Int)).toNat else min v.toNat n
def sD(n d k:Nat):aQ n d (some (k:Int))=min k n:=by show(if(k:Int)<0 then((k:Int)+(n:Int)).toNat else min (k:Int).toNat n)=min k n;rw[if_neg (by lia),Wy]
def QY(n d:Nat)(hd:d<=n)(o:Option Int):aQ n d o<=n:=by
 cases o with
 |none=>exact hd
 |some v=>show(if v<0 then(v+(n:Int)).toNat else min v.toNat n)<=n;by_cases hv:v<0;{rw[if_pos hv];lia};rw[if_neg hv];exact Yg _ _
def Cp(v:Int) (n d:Nat):(if v<0 then max (v+(n:Int)) 0 else min v (n:Int))=((aQ n d (some v):Nat):Int):=by show(if v<0 then max (v+(n:Int)) 0 else min v (n:Int))=(((if v<0 then(v+(n:Int)).toNat else min v.toNat n):Nat):Int);by_cases hv:v<0;{simp only[if_pos hv];lia};simp only[if_neg hv];lia
def DN(lo hi:Option Int) (n:Nat):Builtin.Slice.sliceAdjust lo hi 1 (n:Int)=(((aQ n 0 lo:Nat):Int),((aQ n n hi:Nat):Int)):=by
 have h1:¬((1:Int)<0):=by lia
 unfold Builtin.Slice.sliceAdjust;simp only[h1,Vy];refine Prod.ext ?_ ?_
 .cases lo with
  |none=>rfl
  |some v=>exact Cp v n 0
 cases hi with
 |none=>rfl
 |some v=>exact Cp v n n
def EM(i j:Nat):Builtin.Slice.slicePlaces (i:Int) (j:Int) 1=j-i:=by
 unfold Builtin.Slice.slicePlaces;have h1:(1:Int)>0:=by lia
 simp only[h1,if_true,Int.ediv_one];split<;>lia
def vd{v:Value}{o:Option Int}{Q:Option Int->Shared->Prop}(p:IsPart v o)(h:Q o s):wpAny (model prog w) A (Builtin.Slice.slicePartIndex v) Q E s:=by
 cases p with
 |none=>exact slicePart_none h
 |int i t=>exact slicePart_int h
def lO{sl:Addr}{vl vu:Value}{lo hi:Option Int}{n:Nat}{Q:Int×Int×Nat->Shared->Prop}(hs:s.heap.IsSliceOf sl vl vu .none)(pl:IsPart vl lo)(pu:IsPart vu hi)(h:Q (((aQ n 0 lo:Nat):Int),1,aQ n n hi-aQ n 0 lo) s):wpAny (model prog w) A (Builtin.Slice.sliceApplied (.ref sl) (pure (n:Int))) Q E s:=by obtain⟨os,hos,hcs,hds⟩:=id hs;unfold Builtin.Slice.sliceApplied Builtin.Slice.sliceFields;refine U0 (U0 (WJ hos hds (x:=vl) rfl (U0 (WJ hos hds (x:=vu) rfl (U0 (WJ hos hds (x:=.none) rfl (U3 ?_)))))));refine U0 (slicePart_none ?_);show wpAny _ _ (if((1:Int)==0)=true then _ else _) _ _ s;rw[if_neg (by decide)];refine U0 (vd pl (U0 (vd pu (U0 (U3 ?_)))));show wpAny _ _ (match Builtin.Slice.sliceAdjust lo hi 1 (n:Int)with|(lo,hi)=>pure (lo,(1:Int),Builtin.Slice.slicePlaces lo hi 1)) _ _ s;rw[DN lo hi n];show wpAny _ _ (pure (((aQ n 0 lo:Nat):Int),(1:Int),Builtin.Slice.slicePlaces ((aQ n 0 lo:Nat):Int) ((aQ n n hi:Nat):Int) 1)) _ _ s;rw[EM];exact U3 h
def JN(xs:ZT) (i k:Nat):((List.range k).filterMap λ(m:Nat)=>xs[((i:Int)+(m:Int)*1).toNat]?).toArray=((xs.toList.drop i).take k).toArray:=by
 have e:(λ(m:Nat)=>xs[((i:Int)+(m:Int)*1).toNat]?)=λm=>xs[i+m]?:=by
  funext m;have:((i:Int)+(m:Int)*1).toNat=i+m:=by lia
  rw[this]
 rw[e];have:=pick_run xs i k;rw[List.filterMap_map]at this;have e2:((λx=>xs[x]?)∘λx=>i+x)=λm=>xs[i+m]?:=rfl;rw[e2]at this;rw[this]
def sG{t sl:Addr}{items:ZT}{vl vu:Value}{lo hi:Option Int}{Q:ZI}(ht:IsTup s.heap t items)(hs:s.heap.IsSliceOf sl vl vu .none)(pl:IsPart vl lo)(pu:IsPart vu hi)(hw:¬(aQ items.size 0 lo=0/\aQ items.size items.size hi=items.size))(h:Q (.ref s.heap.objs.size) { s with heap:=s.heap.push { cls:=.type "tuple",data:=.seq ((items.toList.drop (aQ items.size 0 lo)).take (aQ items.size items.size hi-aQ items.size 0 lo)).toArray } })(hsz:items.size<=sizeLine):wpAny (model prog w) A (getItem (.ref t) (.ref sl)) Q E s:=by
 have htake:sizeOk (.seq ((items.toList.drop (aQ items.size 0 lo)).take (aQ items.size items.size hi-aQ items.size 0 lo)).toArray):=by show((items.toList.drop (aQ items.size 0 lo)).take (aQ items.size items.size hi-aQ items.size 0 lo)).toArray.size<=sizeLine;rw[UO,Vf,Wf,Vl];exact V4 (Yg _ _) (V4 (Nat.sub_le _ _) hsz)
 have hj:aQ items.size items.size hi<=items.size:=QY _ _ (U5 _) hi;obtain⟨os,hos,hcs,hds⟩:=id hs;have hTs:s.TypeIs (.ref sl) "slice":=⟨os,hos,hcs⟩;unfold getItem;try with_reducible refine VX ?_
 first|refine U0 (U3 ?_)|skip
 refine U0 (wpAny_sequenceKey ht.typeIs (by decide) ?_);refine U0 (Wz (name:=Str.ofString "__getitem__") ht.typeIs Xu
  (Vc Xu ht.typeIs entry_tuple_getitem ?_ (args_tuple_getitem _ _)))
 show wpAny _ _ (Builtin.Tuple.tupleItemsOf (.ref t)>>=_) _ _ s;refine U0 (tupleItemsOf_ ht ?_);refine U0 (X0 hTs ?_);rw[if_pos (by decide)];refine U0 (lO hs pl pu ?_);have hno:¬((((aQ items.size 0 lo:Nat):Int)==0&&(1:Int)==1&&(aQ items.size items.size hi-aQ items.size 0 lo)==items.size)=true):=by intro q;rw[UJ,UJ]at q;have q1:((aQ items.size 0 lo:Nat):Int)=0:=Wg q.1.1;have q2:aQ items.size items.size hi-aQ items.size 0 lo=items.size:=Wg q.2;exact hw ⟨by lia,by lia⟩
 show wpAny _ _ (if(((aQ items.size 0 lo:Nat):Int)==0&&(1:Int)==1&&(aQ items.size items.size hi-aQ items.size 0 lo)==items.size)=true then _ else _) _ _ s;rw[if_neg hno,JN];first
  |exact U0 (m:=Builtin.Tuple.tupleExact _) (Va (U3 ⟨_,rfl,U3 h⟩) htake)
  |exact U0 (m:=Builtin.Tuple.tupleExact _) (Va (U0 (U3 (U3 ⟨_,rfl,U3 h⟩))) htake)
  |exact U0 (U0 (m:=Builtin.Tuple.tupleExact _) (Va (U3 (U3 ⟨_,rfl,U3 h⟩)) htake))
  |exact U0 (U0 (m:=Builtin.Tuple.tupleExact _) (Va (U3 ⟨_,rfl,U3 h⟩) htake))
end
end HT
namespace L2
open PySem PySem.Spec PyProof.Rows
abbrev TO:=St->Hp->(Option Int->Hp->Prop)->Prop
def PO(X:Cx)(e:Option Expr)(t:TO):Prop:=
 ∀(pins:ZL)(s:Shared)(U:St)(H:Hp)(Q:Option Int->Hp->Prop),Inv X pins U H s->t U H Q->
  wpAny (model X.prog X.w) X.A (evalPart e X.env) (λu s'=>∃o H',Inv X pins U H' s'/\IsPart u o/\Q o H') X.xe s
def MQ:TO:=λ_ H Q=>Q none H
def Rm(t:TE):TO:=λU H Q=>t U H λx H1=>∃i,x=.int i/\Q (some i) H1
def intsAre_of{ns:Zc}:∀{us:ZW},Vals (ns.map V.int) us->IntsAre us ns:=by
 induction ns with
 |nil=>intro us r;rw[XS]at r;cases r;exact .nil
 |cons n ns ih=>
  intro us r;rw[UI]at r;cases r with
  |cons r1 r2=>obtain⟨t,e⟩:=r1;subst e;exact .cons n t (ih r2)
section
variable{X:Cx}{e:Expr}{te:TE}{lo hi:Option Expr}{tl th:TO}{pos p2:Pos}
def Cs:PO X none MQ:=by intro pins s U H Q I h;rw[evalPart_none];exact U3 ⟨none,H,I,.none,h⟩
def Cq(h:PE X e te):PO X (some e) (Rm te):=by intro pins s U H Q I hw;rw[evalPart_some];refine aU (h pins s U H _ I hw) λu s1 ⟨x,H1,I1,r1,q1⟩=>?_;obtain⟨i,rfl,q⟩:=q1;obtain⟨t,rfl⟩:=r1;exact⟨some i,H1,I1,.int i t,q⟩
def FP(X:Cx)(r:V->Option Int->Option Int->Hp->VK->Prop):Prop:=
 ∀(pins:ZL)(s:Shared)(U:St)(H:Hp) (x:V)(v vl vu:Value)(lo hi:Option Int)(sl:Addr)(Q:VK),Inv X pins U H s->RelV x v->s.heap.IsSliceOf sl vl vu .none->IsPart vl lo->IsPart vu hi->r x lo hi H Q->
  ∃T id,typeLookup (.type T) "__getitem__"=pure (some (.builtin id))/\s.TypeIs v T/\wpAny (model X.prog X.w) X.A (getItem v (.ref sl)) (EP X pins U Q) X.xe s
def Uw(r:V->Option Int->Option Int->Hp->VK->Prop)(te:TE)(tl th:TO):TE:=λU H Q=>te U H λx H1=>tl U H1 λl H2=>th U H2 λu H3=>r x l u H3 Q
def Az{r:V->Option Int->Option Int->Hp->VK->Prop}(hr:FP X r)(he:PE X e te)(hl:PO X lo tl)(hu:PO X hi th):PE X (.Subscript e (.Slice lo hi none p2) pos) (Uw r te tl th):=by intro pins s U H Q I h;refine Subscript_ (aU (he pins s U H _ I h) λv s1 ⟨x,H1,I1,r1,q1⟩=>?_);refine wpAny_Slice (aU (hl pins s1 U H1 _ I1 q1) λvl s2 ⟨l,H2,I2,pl,q2⟩=>aU (hu pins s2 U H2 _ I2 q2) λvu s3 ⟨u,H3,I3,pu,q3⟩=>?_);rw[evalPart_none];refine U3 ?_;have I4:Inv X pins U H3 { s3 with heap:=s3.heap.push { cls:=.type "slice",data:=.fields #[vl,vu,.none] } }:=I3.kept (t':=s3.toks) λb ob q=>UQ _ q;obtain⟨T,id,hT,ht,hg⟩:=hr pins { s3 with heap:=s3.heap.push { cls:=.type "slice",data:=.fields #[vl,vu,.none] } } U H3 x v vl vu l u s3.heap.objs.size Q I4 r1 (Heap.IsSliceOf.new ..) pl pu q3;show wpAny (model X.prog X.w) X.A (subscriptTail e (.Slice lo hi none p2) v (.ref s3.heap.objs.size)) (EP X pins U Q) X.xe { s3 with heap:=s3.heap.push { cls:=.type "slice",data:=.fields #[vl,vu,.none] } };exact tail_any (ops:=[.ref s3.heap.objs.size,v]) ht hT hg (by with_unfolding_all rfl)
def pN(xs:List V)(lo hi:Option Int):List V:=(xs.drop (HT.aQ xs.length 0 lo)).take (HT.aQ xs.length xs.length hi-HT.aQ xs.length 0 lo)
def tK(xs:List V)(lo hi:Option Int):(pN xs lo hi).length<=xs.length:=by unfold pN;rw[Vf,Wf];exact V4 (Yg _ _) (Nat.sub_le _ _)
def S9(K:ZR):V->Option Int->Option Int->Hp->VK->Prop:=λx lo hi H Q=>∃a xs,x=.ref a/\cP K H a xs /\
 ¬(HT.aQ xs.length 0 lo=0/\HT.aQ xs.length xs.length hi=xs.length)/\∀p,H p=none->Q (.ref p) (upd H p (.tup (pN xs lo hi)))
def NC:FP X (S9 X.K):=by
 intro pins s U H x v vl vu lo hi sl Q I rx hs pl pu h;obtain⟨a,xs,rfl,hx,hw,q⟩:=h;cases rx;obtain⟨its,r,ht,hz⟩:=I.tuple hx;have hlen:its.toArray.size=xs.length:=by rw[UO];exact r.length.symm
 refine⟨"tuple",_,Z9,ht.typeIs,?_⟩;refine HT.sG ht hs pl pu (by rw[hlen];exact hw) ?_ (by rw[hlen];exact hz);rw[hlen];refine⟨.ref s.heap.objs.size,_,I.laid (t':=s.toks) (o:=.tup (pN xs lo hi)) (λb ob q=>UQ _ q) (U5 _) ?_,rfl,q _ (I.hok.fresh (U5 _))⟩;exact⟨V4 (tK xs lo hi) hz,_,(r.drop (HT.aQ xs.length 0 lo)).take (HT.aQ xs.length xs.length hi-HT.aQ xs.length 0 lo),IsTup.new _ _⟩
def Ks(K:ZR):R2:=λx y H Q=>∃a b xs ys,x=.ref a/\y=.ref b/\cP K H a xs/\cP K H b ys/\xs≠[]/\xs.length+ys.length<=sizeLine /\
 (ys=[]->Q (.ref a) H)/\(ys≠[]->∀p,H p=none->Q (.ref p) (upd H p (.tup (xs++ys))))
def Vals.vX{xs:List V}{us:ZW}(r:Vals xs us):us=[]↔xs=[]:=by
 cases r with
 |nil=>simp
 |cons _ _=>simp
def LF:b9 X (binaryOp .Add) (Ks X.K):=by intro pins s U H x y v u Q I rx ry h;obtain⟨a,b,xs,ys,rfl,rfl,ha,hb,hx,hz,q1,q2⟩:=h;cases rx;cases ry;obtain⟨its,r1,p1,_⟩:=I.tuple ha;obtain⟨its2,r2,p2,_⟩:=I.tuple hb;refine HT.Ma p1 p2 (λz=>hx (r1.vX.mp z)) (λz=>⟨.ref a,H,I,rfl,q1 (r2.vX.mp z)⟩) (λz=>?_) (by rw[<-r1.length,<-r2.length];exact hz);refine⟨.ref s.heap.objs.size,_,I.laid (t':=s.toks) (o:=.tup (xs++ys)) (λb ob q=>UQ _ q) (U5 _) ?_,rfl,q2 (λw=>z (r2.vX.mpr w)) _ (I.hok.fresh (U5 _))⟩;exact⟨by rw[UR];exact hz,_,r1.append r2,IsTup.new _ _⟩
end
def qc(n:Nat) (i:Int):Option Nat:=if 0<=i then(if i<n then some i.toNat else none)else if-(n:Int)<=i then some (i+n).toNat else none
def fh{α:Type}(xs:List α) (i:Int):Option α:=(qc xs.length i).bind λj=>xs[j]?
def CH{n:Nat}{i:Int}{j:Nat}(h:qc n i=some j):seqIndex? i n=some j/\j<n/\-(n:Int)<=i/\i<n:=by unfold qc at h;by_cases h0:0<=i;{rw[if_pos h0]at h;by_cases h1:i<n;{rw[if_pos h1]at h;have e:i.toNat=j:=Option.some.inj h;exact⟨by rw[seqIndex_of h0 h1,e],by lia,by lia,h1⟩};rw[if_neg h1]at h;cases h};rw[if_neg h0]at h;by_cases h1:-(n:Int)<=i;{rw[if_pos h1]at h;have e:(i+n).toNat=j:=Option.some.inj h;exact⟨by rw[seqIndex_neg (by lia) h1,e],by lia,h1,by lia⟩};rw[if_neg h1]at h;cases h
def wF{α:Type}{xs:List α}{i:Int}{v:α}(h:fh xs i=some v):∃j,seqIndex? i xs.length=some j/\xs[j]?=some v/\j<xs.length/\-(xs.length:Int)<=i/\i<xs.length:=by
 unfold fh at h;cases e:qc xs.length i with
 |none=>rw[e]at h;cases h
 |some j=>rw[e]at h;obtain⟨h1,h2,h3,h4⟩:=CH e;exact⟨j,h1,h,h2,h3,h4⟩
def pB(b:Expr):Prop:=∀o i,subscripted b false o i=operate [o,i] (getItem o i)
def qb(X:Cx)(r:R2):Prop:=
 ∀(value slice:Expr)(pins:ZL)(s:Shared)(U:St)(H:Hp) (x y:V)(v u:Value)(Q:VK),Inv X pins U H s->RelV x v->RelV y u->r x y H Q->
  subscripted slice false v u=operate [v,u] (getItem v u)->wpAny (model X.prog X.w) X.A (subscriptTail value slice v u) (EP X pins U Q) X.xe s
def QD(X:Cx)(id:String)(r:V->List V->Hp->VK->Prop):Prop:=
 ∀(pins:ZL)(s:Shared)(U:St)(H:Hp) (x:V)(xs:List V)(v:Value)(us:ZW)(Q:VK),Inv X pins U H s->RelV x v->Vals xs us->r x xs H Q->
  wpAny (model X.prog X.w) X.A (call (.builtin id) (v::us)) (EP X pins U Q) X.xe s
section
variable{X:Cx}{a b:Expr}{ta tb:TE}{pos:Pos}
def qb.or{r r':R2}(h:qb X r)(h':qb X r'):qb X (λx y H Q=>r x y H Q\/r' x y H Q):=by intro value slice pins s U H x y v u Q I rx ry q hs;rcases q with q|q;{exact h value slice pins s U H x y v u Q I rx ry q hs};exact h' value slice pins s U H x y v u Q I rx ry q hs
def Kq{r:R2}(hr:qb X r)(ha:PE X a ta)(hb:PE X b tb)(hs:pB b):PE X (.Subscript a b pos) (OD r ta tb):=by intro pins s U H Q I h;exact Subscript_ (Ja ha hb I h λv u s2 x y H2 I2 rx ry q=>hr a b pins s2 U H2 x y v u Q I2 rx ry q (hs _ _))
inductive K6(K:ZR) (x:V) (y:V)(H:Hp)(Q:VK):Prop
 |mk:∀p xs i v,(x=.ref p)->(y=.int i)->(bI K H p xs)->(fh xs i=some v)->(Q v H)->K6 K x y H Q
def Qu(K:ZR):R2:=λx y H Q=>K6 K x y H Q
inductive Lo(K:ZR) (x:V) (y:V)(H:Hp)(Q:VK):Prop
 |mk:∀p xs i v,(x=.ref p)->(y=.int i)->(cP K H p xs)->(fh xs i=some v)->(Q v H)->Lo K x y H Q
def OW(K:ZR):R2:=λx y H Q=>Lo K x y H Q
inductive Lq(x:V) (y:V)(H:Hp)(Q:VK):Prop
 |mk:∀z i c,(x=.str z)->(y=.int i)->(z.length<=sizeLine)->(fh z.cps.toList i=some c)->(Q (.str ⟨#[c]⟩) H)->Lq x y H Q
def Qn:R2:=λx y H Q=>Lq x y H Q
def ML:qb X (Qu X.K):=by
 intro value slice pins s U H x y v u Q I rx ry h hs;obtain⟨p,xs,i,z,rfl,rfl,hq,he,q⟩:=h;cases rx;obtain⟨t,rfl⟩:=ry;obtain⟨its,r,pl,hz⟩:=I.list hq;obtain⟨j,h1,h2,h3,h4,h5⟩:=wF he;obtain⟨w,ew,rw'⟩:=r.get h2;have hl:=r.length;have hn:=pA;have fin:EP X pins U Q w s:=⟨z,H,I,rw',q⟩;by_cases h0:0<=i
 .have hj:i.toNat=j:=by rw[seqIndex_of h0 h5]at h1;exact Option.some.inj h1
  exact item_listR pl.isList h0 (by lia) (by rw[hj];simpa using ew) fin hs
 have hj:(i+(its.toArray.size:Int)).toNat=j:=by rw[seqIndex_neg (by lia) h4]at h1;rw[UO,<-hl];exact Option.some.inj h1
 exact subscriptTail_builtinR (x:=w) pl.isList.typeIs slot_list_getitem.lookup
  (wpAny_getItem_list_neg (Q:=λr s'=>r=w/\EP X pins U Q r s') pl.isList (by lia) (by rw[UO]<;>lia) (by lia) (by rw[hj];simpa using ew) ⟨rfl,fin⟩) hs
def Oc:qb X (OW X.K):=by
 intro value slice pins s U H x y v u Q I rx ry h hs;obtain⟨p,xs,i,z,rfl,rfl,hq,he,q⟩:=h;cases rx;obtain⟨t,rfl⟩:=ry;obtain⟨its,r,pl,hz⟩:=I.tuple hq;obtain⟨j,h1,h2,h3,h4,h5⟩:=wF he;obtain⟨w,ew,rw'⟩:=r.get h2;have hl:=r.length;have hn:=pA;have fin:EP X pins U Q w s:=⟨z,H,I,rw',q⟩;exact subscriptTail_builtinR (x:=w) pl.typeIs slot_tuple_getitem.lookup
  (getItem_tuple (j:=j) (Q:=λr s'=>r=w/\EP X pins U Q r s') pl (by lia) (by lia) (by rw[UO,<-hl];exact h1) (by simpa using ew) ⟨rfl,fin⟩) hs
def N1:qb X Qn:=by
 intro value slice pins s U H x y v u Q I rx ry h hs;obtain⟨z,i,c,rfl,rfl,hz,he,q⟩:=h;obtain⟨t,rfl⟩:=rx;obtain⟨t',rfl⟩:=ry;obtain⟨j,h1,h2,h3,h4,h5⟩:=wF he;have hl:z.cps.toList.length=z.length:=by simp[Str.length]
 rw[hl]at h1 h4 h5;have hn:=pA;exact tail_any (typeIs_str s z t) slot_str_getitem.lookup (getItem_str (c:=c) (by
  have e1:decide (i < -(2^63:Int))=false:=VH (by lia)
  have e2:decide (i >= 2^63)=false:=VH (by lia)
  rw[e1,e2,Bool.or_false]) (by rw[h1];simpa using h2) ⟨.str ⟨#[c]⟩,H,I.tok _,⟨_,rfl⟩,q⟩) hs
def N5(K:ZR):R2:=λx y H Q=>Qu K x y H Q\/OW K x y H Q\/Qn x y H Q
def Ig:qb X (N5 X.K):=ML.or (Oc.or N1)
def Ds(its:ZW) (n j:Nat)(u:Value):Obj.mapSeq (·.setIfInBounds j u) { cls:=.type "list",data:=.seq its.toArray n }={ cls:=.type "list",data:=.seq (its.set j u).toArray n }:=by simp[Obj.mapSeq]
theorem Inv.lst{pins:ZL}{U:St}{H:Hp}{s:Shared}{p:Addr}{xs:List V}(I:Inv X pins U H s)(h:H p=some (.lst xs)) : ∃(its:ZW) (n:Nat),Vals xs its/\s.heap.get? p=some { cls:=.type "list",data:=.seq its.toArray n }/\xs.length<=sizeLine:=by obtain⟨z,its,n,r,e⟩:=I.hok p _ h;exact⟨its,n,r,e,z⟩
def Inv.OF{pins:ZL}{U:St}{H:Hp}{s:Shared}{p:Addr}{xs ys:List V}{its its':ZW}{n n':Nat}{f:Obj->Obj}(I:Inv X pins U H s)(h:H p=some (.lst xs))(ho:s.heap.get? p=some { cls:=.type "list",data:=.seq its.toArray n })(hf:f { cls:=.type "list",data:=.seq its.toArray n }={ cls:=.type "list",data:=.seq its'.toArray n' })(r:Vals ys its')(hz:ys.length<=sizeLine) (t:Nat) : Inv X pins U (upd H p (.lst ys)) { s with heap:=s.heap.update p f,toks:=t }:=by
 have e:(s.heap.update p f).get? p=some { cls:=.type "list",data:=.seq its'.toArray n' }:=by rw[Vz f ho (by rw[hf]<;>rfl),hf]
 refine I.write (x:=p) (e:=p) (by rw[h];trivial) (.inl rfl) (λb u hb q=>(Vn _ _ (Ne.symm hb)).trans q) ⟨_,e⟩ ?_;exact⟨hz,its',n',r,e⟩
inductive Ho(o:V) (i:V) (v:V)(H:Hp)(Q:(Hp->Prop)):Prop
 |mk:∀p xs k j,(o=.ref p)->(i=.int k)->(H p=some (.lst xs))->(qc xs.length k=some j)->(Q (upd H p (.lst (xs.set j v))))->Ho o i v H Q
def KR:V->V->V->Hp->(Hp->Prop)->Prop:=λo i v H Q=>Ho o i v H Q
def set_list:Ke X KR:=by
 intro pins s U H o i v ov iv u Q I ro ri rv h;obtain⟨p,xs,k,j,rfl,rfl,hp,hj,q⟩:=h;cases ro;obtain⟨t,rfl⟩:=ri;obtain⟨its,n,r,ho,hz⟩:=I.lst hp;obtain⟨h1,h2,h3,h4⟩:=CH hj;have hl:=r.length;have hn:=pA;have I':Inv X pins U (upd H p (.lst (xs.set j v))) { s with heap:=s.heap.update p (Obj.mapSeq (·.setIfInBounds j u)) }:=
  I.OF hp ho (Ds its n j u) (r.set rv j) (by rw[VP];exact hz) s.toks
 by_cases h0:0<=k
 .have hk:k.toNat=j:=by rw[seqIndex_of h0 h4]at h1;exact Option.some.inj h1
  exact PySem.W.ki_setAt ho h0 (by lia) (by rw[UO,<-hl];exact h4) (by rw[hk];exact⟨_,I',q⟩)
 have hk:(k+(its.toArray.size:Int)).toNat=j:=by rw[seqIndex_neg (by lia) h3]at h1;rw[UO,<-hl];exact Option.some.inj h1
 exact PySem.W.ki_setBack ho (by lia) (by rw[UO,<-hl];exact h3) (by lia) (by rw[hk];exact⟨_,I',q⟩)
def zC(lo hi:Option Int) (n:Nat):(sliceBounds lo hi none n).1=((HT.aQ n 0 lo:Nat):Int)/\(sliceBounds lo hi none n).2.1=((HT.aQ n n hi:Nat):Int)/\(sliceBounds lo hi none n).2.2=1:=by
 have one:∀i:Int,(sliceBounds (some i) none none n).1=((HT.aQ n 0 (some i):Nat):Int):=λi=>by simp only[sliceBounds,HT.aQ,Option.getD_none,show(1:Int)>0 by decide,if_true];by_cases h:i<0;{simp only[h,if_true]<;>lia};simp only[h,Vy]<;>lia
 refine⟨?_,?_,rfl⟩
 .cases lo with
  |none=>simp[sliceBounds,HT.aQ]
  |some i=>exact one i
 cases hi with
 |none=>simp[sliceBounds,HT.aQ]
 |some i=>exact one i
def yE(its:ZW)(lo hi:Option Int):slicePick its.toArray lo hi none=((its.drop (HT.aQ its.length 0 lo)).take (HT.aQ its.length its.length hi-HT.aQ its.length 0 lo)).toArray:=by obtain⟨h1,h2,h3⟩:=zC lo hi its.toArray.size;unfold slicePick;rw[h1,h2,h3];simp only[sliceRange_one,pick_run,UO]<;>rfl
inductive Ly(K:ZR) (x:V)(lo:Option Int)(hi:Option Int)(H:Hp)(Q:VK):Prop
 |mk:∀a xs,(x=.ref a)->(bI K H a xs)->(∀p,H p=none->Q (.ref p) (upd H p (.lst (pN xs lo hi))))->Ly K x lo hi H Q
def P0(K:ZR):V->Option Int->Option Int->Hp->VK->Prop:=λx lo hi H Q=>Ly K x lo hi H Q
def Me:FP X (P0 X.K):=by intro pins s U H x v vl vu lo hi sl Q I rx hs pl pu h;obtain⟨a,xs,rfl,hx,q⟩:=h;cases rx;obtain⟨its,r,ht,hz⟩:=I.list hx;have hlen:=r.length;refine⟨"list",_,slot_list_getitem.lookup,ht.isList.typeIs,?_⟩;refine wpAny_getItem_list_slice ht.isList hs pl pu .none (by simp) ?_ (by rw[UO]<;>lia);rw[yE,<-hlen];refine⟨.ref s.heap.objs.size,_,I.laid (t':=s.toks) (o:=.lst (pN xs lo hi)) (λb ob q=>UQ _ q) (U5 _) ?_,rfl,q _ (I.hok.fresh (U5 _))⟩;exact⟨V4 (tK xs lo hi) hz,_,0,(r.drop (HT.aQ xs.length 0 lo)).take (HT.aQ xs.length xs.length hi-HT.aQ xs.length 0 lo),V8 _ rfl⟩
def zb:cI X (.builtin "len") (λxs H Q=>∃p ys,xs=[.ref p]/\(bI X.K H p ys\/cP X.K H p ys)/\Q (.int ys.length) H):=by intro pins s U H xs us Q I r h;obtain⟨p,ys,rfl,hq,q⟩:=h;obtain⟨u,rfl,rx⟩:=vals1 r;cases rx;have hn:=pA;rcases hq with hq|hq;{obtain⟨its,r',pl,hz⟩:=I.list hq;have hlen:=r'.length;exact Calls.call_len_list pl.isList (by simp only[UO]<;>lia) ⟨.int ys.length,H,I.tok _,⟨s.toks+1,by rw[UO,hlen]⟩,q⟩};obtain⟨its,r',pl,hz⟩:=I.tuple hq;have hlen:=r'.length;exact len_tuple pl (by simp only[UO]<;>lia) ⟨.int ys.length,H,I.tok _,⟨s.toks+1,by rw[UO,hlen]⟩,q⟩
def cI.or{f:Value}{r r':List V->Hp->VK->Prop}(h:cI X f r)(h':cI X f r'):cI X f (λxs H Q=>r xs H Q\/r' xs H Q):=by intro pins s U H xs us Q I rs q;rcases q with q|q;{exact h pins s U H xs us Q I rs q};exact h' pins s U H xs us Q I rs q
def zG:cI X (.type "list") (λxs H Q=>∃p ys,xs=[.ref p]/\(bI X.K H p ys\/cP X.K H p ys)/\∀l,H l=none->Q (.ref l) (upd H l (.lst ys))):=by
 intro pins s U H xs us Q I r h;obtain⟨p,ys,rfl,hq,q⟩:=h;obtain⟨u,rfl,rx⟩:=vals1 r;cases rx;have fin:∀(its:ZW),Vals ys its->ys.length<=sizeLine->∀(h':Heap) (c':Nat),(∀b o',s.heap.get? b=some o'->h'.get? b=some o')->
   h'.get? s.heap.objs.size=some { cls:=.type "list",dict:=none,data:=.seq its.toArray c',slots:=#[] }->EP X pins U Q (.ref s.heap.objs.size) { s with heap:=h' }:=λits r' hz h' c' kp e=>
  ⟨.ref s.heap.objs.size,_,I.laid (t':=s.toks) kp (U5 _) (show bU X.prog X.w _ h' _ (.lst ys)from⟨hz,its,c',r',e⟩),rfl,q _ (I.hok.fresh (U5 _))⟩
 rcases hq with hq|hq;{obtain⟨its,r',pl,hz⟩:=I.list hq;have hlen:=r'.length;obtain⟨o,ho,hc,n,hd⟩:=pl.isList;exact call_list_seq p (.inl rfl) ho hc hd (λh' c' kp e=>fin its r' hz h' c' kp e) (by simp only[UO]<;>lia)};obtain⟨its,r',pl,hz⟩:=I.tuple hq;have hlen:=r'.length;obtain⟨o,ho,hc,n,hd⟩:=pl;exact call_list_seq p (.inr rfl) ho hc hd (λh' c' kp e=>fin its r' hz h' c' kp e) (by simp only[UO]<;>lia)
def qe:cI X (.type "tuple") (λxs H Q=>∃p ys,xs=[.ref p]/\((bI X.K H p ys/\∀l,H l=none->Q (.ref l) (upd H l (.tup ys)))\/(cP X.K H p ys/\Q (.ref p) H))):=by
 intro pins s U H xs us Q I r h;obtain⟨p,ys,rfl,h⟩:=h;obtain⟨u,rfl,rx⟩:=vals1 r;cases rx;rcases h with⟨hq,q⟩|⟨hq,q⟩
 .obtain⟨its,r',pl,hz⟩:=I.list hq;have hlen:=r'.length;refine call_tuple_list pl.isList (λh' kp=>?_) (by simp only[UO]<;>lia);have I1:Inv X pins U H { s with heap:=h' }:=I.kept (t':=s.toks) kp;have I2:Inv X pins U (upd H h'.objs.size (.tup ys)) { s with heap:=h'.push { cls:=.type "tuple",data:=.seq its.toArray } }:=
   I1.laid (t':=s.toks) (λb o e=>UQ _ e) (U5 _) (show bU X.prog X.w _ _ _ (.tup ys)from⟨hz,its,r',IsTup.new _ _⟩)
  exact⟨.ref h'.objs.size,_,I2,rfl,q _ (I1.hok.fresh (U5 _))⟩
 obtain⟨its,r',pl,hz⟩:=I.tuple hq;exact call_tuple_same pl ⟨.ref p,H,I,rfl,q⟩
def N2(K:ZR)(T:String) (x:V)(H:Hp):Prop:=match x with
 |.str _=>T="str"
 |.int _=>T="int"
 |.ref p=>(T="list"/\∃xs,bI K H p xs)\/(T="tuple"/\∃o,K.lookup p=some o/\o.cls=.type "tuple"/\o.dict=none) \/
   (T="dict"/\((∃kvs,H p=some (.dK kvs))\/∃kvs,H p=some (.dT kvs)))\/(T="set"/\∃S n,H p=some (.set S n))
 |_=>False
def GP{pins:ZL}{U:St}{H:Hp}{s:Shared}{T:String}{x:V}{v:Value}(I:Inv X pins U H s)(r:RelV x v)(ty:N2 X.K T x H) : s.TypeIs v T/\∀a,v=.ref a->∃ob,s.heap.get? a=some ob/\ob.dict=none:=by
 cases x with
 |str z=>obtain⟨t,rfl⟩:=r;cases (show T="str" from ty);exact⟨typeIs_str s z t,λ_ e=>nomatch e⟩
 |int i=>obtain⟨t,rfl⟩:=r;cases (show T="int" from ty);exact⟨typeIs_int s i t,λ_ e=>nomatch e⟩
 |ref p=>
  cases r;rcases ty with⟨rfl,xs,hq⟩|⟨rfl,o,hk,hc,hd⟩|⟨rfl,hk⟩|⟨rfl,S,n,hk⟩;{obtain⟨its,_,pl,_⟩:=I.list hq;refine⟨pl.isList.typeIs,λa e=>?_⟩;cases e;obtain⟨o,n,e,c,hd,_⟩:=pl;exact⟨o,e,hd⟩};{refine⟨⟨o,I.i7 p o hk,hc⟩,λa e=>?_⟩;cases e;exact⟨o,I.i7 _ o hk,hd⟩}
  .have z:∃o,s.heap.get? p=some o/\o.ExactDict:=by rcases hk with⟨kvs,hk⟩|⟨kvs,hk⟩;{obtain⟨_,_,_,_,o,_,_,e,ex,_⟩:=I.hok p _ hk;exact⟨o,e,ex⟩};obtain⟨_,_,_,_,o,_,_,e,ex,_⟩:=I.hok p _ hk;exact⟨o,e,ex⟩
   obtain⟨o,e,ex⟩:=z;refine⟨⟨o,e,ex.1⟩,λa e2=>?_⟩;cases e2;exact⟨o,e,ex.2.1⟩
  obtain⟨o,_,_,_,e,ex,_⟩:=I.hok p _ hk;refine⟨⟨o,e,ex.1⟩,λa e2=>?_⟩;cases e2;exact⟨o,e,ex.2.1⟩
 |_=>exact False.elim ty
def TM(K:ZR)(T:String)(r:V->List V->Hp->VK->Prop)(to:TE):TE:=λU H Q=>to U H λx H1=>N2 K T x H1/\r x [] H1 Q
def Ue(K:ZR)(T:String)(r:V->List V->Hp->VK->Prop)(to:TE)(t:TA):TE:=λU H Q=>to U H λx H1=>N2 K T x H1/\t U H1 λxs H2=>r x xs H2 Q
variable{o e:Expr}{es:ZZ}{to:TE}{t:TA}{name:Str}{apos cpos:Pos}{T id:String}{r:V->List V->Hp->VK->Prop}
def OI(pa:PlainAttrs T)(slot:Slot T name id)(hty:typeOf (.builtin id)=pure (.type "method_descriptor"))(hm:QD X id r)(ho:PE X o to)(hbase:attributeBase o name X.env (eval o X.env)=eval o X.env:=by rfl)(hline:(apos.endLine==cpos.line)=true:=by rfl):PE X (.Call (.Attribute o name apos) [] [] cpos) (TM X.K T r to):=by intro pins s U H Q I h;refine wpAny_Call_method0_late hbase hline (aU (ho pins s U H _ I h) λv s1 ⟨x,H1,I1,r1,ty,q1⟩=>?_);obtain⟨h1,h2⟩:=GP I1 r1 ty;exact⟨T,id,pa,slot,hty,h1,h2,Yh rfl (PySem.evalArgs_none (hm pins s1 U H1 x [] v [] Q I1 r1 .nil q1))⟩
def yO(pa:PlainAttrs T)(slot:Slot T name id)(hty:typeOf (.builtin id)=pure (.type "method_descriptor"))(hm:QD X id r)(ho:PE X o to)(ha:PA X (e::es) t)(hbase:attributeBase o name X.env (eval o X.env)=eval o X.env:=by rfl)(hfew:((backTo cpos (starEach (e::es) X.env)).all (λx=>!x.1)&&(backToKw cpos (keywordEach [] X.env)).all (λx=>x.1.isSome) && decide ((e::es).length+([]:List Keyword).length+(if([]:List Keyword).isEmpty then 0 else 1)<30))=true:=by rfl)(hline:(apos.endLine==cpos.line)=true:=by rfl)(hs:starEach (e::es) X.env=(false,eval e X.env)::starEach es X.env:=by rfl)(hplain:(backTo cpos (starEach es X.env)).any (·.1)=false:=by rfl) : PE X (.Call (.Attribute o name apos) (e::es) [] cpos) (Ue X.K T r to t):=by intro pins s U H Q I h;refine wpAny_Call_method_late hbase hfew hline rfl (aU (ho pins s U H _ I h) λv s1 ⟨x,H1,I1,r1,ty,q1⟩=>?_);obtain⟨h1,h2⟩:=GP I1 r1 ty;refine⟨T,id,pa,slot,hty,h1,h2,?_⟩;have hA:=ha cpos pins s1 U H1 _ I1 q1;rw[hs]at hA⊢;refine Yh (by show(false||(backTo cpos (starEach es X.env)).any (·.1))=false;rw[hplain]<;>rfl) (Calls.evalArgs_plain ?_);exact aU hA λus s2 ⟨vs,H2,I2,r2,q2⟩=>hm pins s2 U H2 x vs v us Q I2 r1 r2 q2
end
def vP(X:Cx)(id:String)(r:V->List V->Hp->VK->Prop):Prop:=
 ∀(pins:ZL)(s:Shared)(U:St)(H:Hp) (x:V)(xs:List V)(v:Value)(us:ZW)(Q:VK),Inv X pins U H s->RelV x v->Vals xs us->r x xs H Q->
  wpAny (model X.prog X.w) X.A (call (.builtin id) (v::us)) (EP X pins U Q) X.xe s
def Vals.one{x:V}{us:ZW}(h:Vals [x] us):∃u,us=[u]/\RelV x u:=by cases h with|cons r t=>cases t;exact⟨_,rfl,r⟩
def Vals.two{x y:V}{us:ZW}(h:Vals [x,y] us):∃u v,us=[u,v]/\RelV x u/\RelV y v:=by cases h with|cons r t=>cases t with|cons q t=>cases t;exact⟨_,_,rfl,r,q⟩
def Vals.zero:∀{us:ZW},Vals [] us->us=[]
 |_,.nil=>rfl
theorem Vals.dropLast{xs:List V}{us:ZW}(h:Vals xs us):Vals xs.dropLast us.dropLast:=by
 induction h with
 |nil=>exact .nil
 |cons r t ih=>
  cases t with
  |nil=>exact .nil
  |cons q t'=>exact .cons r ih
theorem Vals.eraseIdx:∀{xs:List V}{us:ZW} (i:Nat),Vals xs us->Vals (xs.eraseIdx i) (us.eraseIdx i)
 |_,_,_,.nil=>.nil
 |_,_,0,.cons _ t=>t
 |_,_,i+1,.cons r t=>.cons r (Vals.eraseIdx i t)
theorem Vals.rep{xs:List V}{us:ZW}(h:Vals xs us):∀k:Nat,Vals (List.replicate k xs).flatten (List.replicate k us).flatten
 |0=>.nil
 |k+1=>by rw[Wh,Wh,Vo,Vo];exact Vals.append h (Vals.rep h k)
def D4{α:Type}(l:List α):l.eraseIdx (l.length-1)=l.dropLast:=by
 induction l with
 |nil=>rfl
 |cons a r ih=>
  cases r with
  |nil=>rfl
  |cons b r=>
   have e:(a::b::r).length-1=((b::r).length-1)+1:=by have h1:(a::b::r).length=r.length+2:=rfl;have h2:(b::r).length=r.length+1:=rfl;lia
   rw[e,Xv,ih];all_goals rfl
theorem xX{α:Type}:∀(l:List α) (i:Nat),(l.eraseIdx i).length<=l.length
 |[],_=>U5 _
 |_::_,0=>Wi _
 |_::r,i+1=>Xw (xX r i)
theorem foldl_rep(its:ZW):∀(k:Nat)(acc:ZW), List.foldl (λx1 x2=>x1++x2) acc.toArray (List.replicate k its.toArray)=(acc++(List.replicate k its).flatten).toArray
 |0,acc=>by simp
 |k+1,acc=>by
  have e:acc.toArray++its.toArray=(acc++its).toArray:=by simp
  have e2:(acc++its)++(List.replicate k its).flatten=acc++(List.replicate (k+1) its).flatten:=by rw[Wh,Vo,Vd]
  rw[<-e2,<-foldl_rep its k (acc++its),<-e,Wh,Xx]
section
variable{X:Cx}{pins:ZL}{U:St}{H:Hp}{s:Shared}{l b:Addr}{xs ys zs:List V}
def Inv.yX{its its':ZW}{n:Nat}{f:ZT->ZT}{t':Nat}(I:Inv X pins U H s)(hH:H l=some (.lst xs))(e:s.heap.get? l=some { cls:=.type "list",data:=.seq its.toArray n })(hf:f its.toArray=its'.toArray)(hv:Vals ys its')(hz:ys.length<=sizeLine) : Inv X pins U (upd H l (.lst ys)) { s with heap:=s.heap.update l (Obj.mapSeq f),toks:=t' }:=by have q:=PySem.IsL.update e f;rw[hf]at q;refine I.write (x:=l) (e:=l) (by rw[hH];exact trivial) (.inl rfl) (λb' u hb hu=>(Vn s.heap (Obj.mapSeq f) (Ne.symm hb)).trans hu) ⟨_,q⟩ ?_;exact⟨hz,its',_,hv,q⟩
def Inv.O0{its:ZW}{t':Nat}(I:Inv X pins U H s)(hv:Vals ys its)(hz:ys.length<=sizeLine) : Inv X pins U (upd H s.heap.objs.size (.lst ys)) { s with heap:=s.heap.push { cls:=.type "list",data:=.seq its.toArray },toks:=t' }:=
 I.laid (λ_ _ q=>UQ _ q) (U5 _) ⟨hz,its,0,hv,V8 _ rfl⟩
theorem Inv.fresh(I:Inv X pins U H s):H s.heap.objs.size=none:=I.hok.fresh (U5 _)
def Inv.zm(I:Inv X pins U H s)(hH:H l=some (.lst xs)):xs.length<=sizeLine/\∃(its:ZW) (n:Nat),Vals xs its/\xs.length=its.length/\s.heap.get? l=some { cls:=.type "list",data:=.seq its.toArray n }:=by obtain⟨z,its,n,r,e⟩:=I.hok l _ hH;exact⟨z,its,n,r,r.length,e⟩
def tR{n:Nat}(h:n<=sizeLine):Builtin.List.listTooLong n=false:=by unfold Builtin.List.listTooLong;exact VH (by lia)
end
section
variable{X:Cx}
def C5:V->List V->Hp->VK->Prop:=λx vs H Q=>∃l xs y,x=.ref l/\vs=[y]/\H l=some (.lst xs)/\xs.length<sizeLine/\Q .bw (upd H l (.lst (xs++[y])))
def fQ:vP X "list.append" C5:=by intro pins s U H x vs v us Q I rx rv h;obtain⟨l,xs,y,rfl,rfl,hH,hz,q⟩:=h;cases rx;obtain⟨u,rfl,ru⟩:=rv.one;obtain⟨z,its,n,r,hl,e⟩:=I.zm hH;refine Wj F.slot_list_append ⟨_,e,rfl⟩ F.entry_list_append (F.args_list_append_2 _ _) (PySem.list_append l its.toArray n u (by rw[UO];lia)) ⟨e,?_⟩;refine⟨.bw,_,I.yX (its':=its++[u]) hH e (by simp) (r.append (.cons ru .nil)) ?_,rfl,q⟩;rw[UR,Wk];lia
inductive KO(x:V)(vs:List V)(H:Hp)(Q:VK):Prop
 |mk:∀l xs y,(x=.ref l)->(vs=[])->(H l=some (.lst xs))->(xs[xs.length-1]?=some y)->(Q y (upd H l (.lst xs.dropLast)))->KO x vs H Q
def IP:V->List V->Hp->VK->Prop:=λx vs H Q=>KO x vs H Q
def Qk:vP X "list.pop" IP:=by
 intro pins s U H x vs v us Q I rx rv h;obtain⟨l,xs,y,rfl,rfl,hH,hy,q⟩:=h;cases rx;have hus:=rv.zero;subst hus;obtain⟨z,its,n,r,hl,e⟩:=I.zm hH;obtain⟨u,hu,ru⟩:=r.get hy;have hy':its.toArray[its.toArray.size-1]?=some u:=by show its.toArray[its.length-1]?=some u;rw[<-VG,<-hl];exact hu
 refine Wj F.slot_list_pop ⟨_,e,rfl⟩ F.entry_list_pop (F.args_list_pop_1 _) (MeetsSeq.list_pop_last l its.toArray n u hy' (by rw[UO];lia)) ⟨e,?_⟩;refine⟨y,_,I.yX (its':=its.dropLast) hH e ?_ r.dropLast ?_,ru,q⟩;{show its.toArray.eraseIdxIfInBounds (its.toArray.size-1)=its.dropLast.toArray;rw[UO,ZA,D4]};rw[List.length_dropLast];lia
inductive CO(x:V)(vs:List V)(H:Hp)(Q:VK):Prop
 |mk:∀l xs i k y,(x=.ref l)->(vs=[.int i])->(H l=some (.lst xs))->(-(2^63)<=i)->(i<2^63)->(seqIndex? i xs.length=some k)->(xs[k]?=some y)->(Q y (upd H l (.lst (xs.eraseIdx k))))->CO x vs H Q
def zN:V->List V->Hp->VK->Prop:=λx vs H Q=>CO x vs H Q
def IV:vP X "list.pop" zN:=by
 intro pins s U H x vs v us Q I rx rv h;obtain⟨l,xs,i,k,y,rfl,rfl,hH,h1,h2,hk,hy,q⟩:=h;cases rx;obtain⟨u,rfl,ru⟩:=rv.one;obtain⟨t,rfl⟩:=ru;obtain⟨z,its,n,r,hl,e⟩:=I.zm hH;obtain⟨w,hw,rw'⟩:=r.get hy;refine Wj F.slot_list_pop ⟨_,e,rfl⟩ F.entry_list_pop (F.args_list_pop_2 _ _)
  (MeetsSeq.list_pop_at l its.toArray n i t k w (fitsIndex_both h1 h2) (by rw[UO,<-hl];exact hk) (by rw[<-VG];exact hw) (by rw[UO];lia)) ⟨e,?_⟩
 refine⟨y,_,I.yX (its':=its.eraseIdx k) hH e ?_ (r.eraseIdx k) ?_,rw',q⟩;{show its.toArray.eraseIdxIfInBounds k=(its.eraseIdx k).toArray;rw[ZA]};have:=xX xs k;lia
def len_rep{α:Type}(xs:List α) (k:Nat):(List.replicate k xs).flatten.length=k*xs.length:=by
 induction k with
 |zero=>simp
 |succ k ih=>rw[Wh,Vo,UR,ih,Nat.succ_mul,Nat.add_comm]
end
section
variable{κ:Type} [DecidableEq κ]
def cA(kvs:List (κ×V))(k:κ):Option V:=(kvs.find? λkv=>decide (kv.1=k)).map (·.2)
def putK(kvs:List (κ×V))(k:κ) (v:V):List (κ×V):=
 if(kvs.any λkv=>decide (kv.1=k))=true then kvs.map (λkv=>if kv.1=k then(kv.1,v)else kv)else kvs++[(k,v)]
def uv{p:κ×V}{r:List (κ×V)}{k:κ}(e:p.1=k):cA (p::r) k=some p.2:=by simp[cA,X3,e]
def uB{p:κ×V}{r:List (κ×V)}{k:κ}(e:¬p.1=k):cA (p::r) k=cA r k:=by simp[cA,X3,e]
theorem tX(k:κ):∀kvs:List (κ×V),(kvs.any λkv=>decide (kv.1=k))=(cA kvs k).isSome
 |[]=>rfl
 |p::r=>by rw[Wl];by_cases e:p.1=k;{simp only[uv e,V6 e,Bool.true_or,Option.isSome_some]};rw[uB e,VH e,Bool.false_or];exact tX k r
def sO(kvs:List (κ×V))(k:κ) (v:V):(putK kvs k v).length<=kvs.length+1:=by unfold putK;split;{rw[U7];lia};rw[UR,UL,List.length_nil];lia
def kW.kr{o:Option V}{u:ZS}(r:kW o u):o.isSome=u.isSome:=by
 cases o with
 |none=>cases u with
  |none=>rfl
  |some _=>exact(show False from r).elim
 |some _=>cases u with
  |none=>exact(show False from r).elim
  |some _=>rfl
def KV.val{kvs:List (κ×V)}{vs:List (κ×Value)}(r:KV kvs vs)(k:κ):kW (cA kvs k) (valueAt vs k):=by
 unfold KV at r;induction r with
 |nil=>exact Vw
 |@cons p q ps qs h t ih=>
  obtain⟨h1,h2⟩:=h;by_cases e:p.1=k
  .have e':q.1=k:=h1.symm.trans e;have b:valueAt (q::qs) k=some q.2:=by simp[valueAt,X3,e']
   rw[uv e,b];exact h2
  have e':¬q.1=k:=λz=>e (h1.trans z);have b:valueAt (q::qs) k=valueAt qs k:=by simp[valueAt,X3,e']
  rw[uB e,b];exact ih
theorem KV.any{kvs:List (κ×V)}{vs:List (κ×Value)}(r:KV kvs vs)(k:κ):(kvs.any λkv=>decide (kv.1=k))=vs.any λkv=>decide (kv.1=k):=by
 unfold KV at r;induction r with
 |nil=>rfl
 |cons h t ih=>rw[Wl,Wl,ih,h.1]
def KV.repl{kvs:List (κ×V)}{vs:List (κ×Value)}(r:KV kvs vs)(k:κ){y:V}{u:Value}(ry:RelV y u) : KV (kvs.map λkv=>if kv.1=k then(kv.1,y)else kv) (vs.map λkv=>if kv.1=k then(kv.1,u)else kv):=by
 unfold KV at r⊢;induction r with
 |nil=>exact .nil
 |@cons p q ps qs h t ih=>rw[UI,UI];refine .cons ?_ ih;obtain⟨h1,h2⟩:=h;by_cases e:p.1=k;{rw[if_pos e,if_pos (h1.symm.trans e)];exact⟨h1,ry⟩};rw[if_neg e,if_neg (λz=>e (h1.trans z))];exact⟨h1,h2⟩
def KV.put{kvs:List (κ×V)}{vs:List (κ×Value)}(r:KV kvs vs)(k:κ){y:V}{u:Value}(ry:RelV y u):KV (putK kvs k y) (stored vs k u):=by unfold putK stored;rw[r.any k];by_cases e:(vs.any λkv=>decide (kv.1=k))=true;{rw[if_pos e,if_pos e];exact r.repl k ry};rw[if_neg e,if_neg e];exact Paired.snoc r ⟨rfl,ry⟩
theorem KV.length{kvs:List (κ×V)}{vs:List (κ×Value)}(r:KV kvs vs):kvs.length=vs.length:=Paired.length r
end
def yJ{P:Program}{w:World}{k:Key}{u:Value}(r:RelV (kV k) u):(c9 P w).is k u=true:=by
 cases k with
 |inl i=>obtain⟨t,e⟩:=(show ∃t,u=Value.int i t from r);subst e;exact BE P w i t
 |inr x=>obtain⟨t,e⟩:=(show ∃t,u=Value.str x t from r);subst e;exact Bs P w x t
theorem yj{P:Program}{w:World}:∀{ks:List Key}{us:ZW},Vals (ks.map kV) us->ItemsAre (c9 P w) ks us
 |[],_,r=>by rw[XS]at r;cases r;exact .nil
 |k::ks,_,r=>by
  rw[UI]at r;cases r with
  |cons h t=>exact .cons (yJ h) (yj t)
abbrev KT(H:Hp):List (List Key×V)->List (List Key×Addr×Value)->Prop:=Paired λp q=>p.1=q.1/\H q.2.1=some (.tup (p.1.map kV))/\RelV p.2 q.2.2
def KT.val{H:Hp}{kvs:List (List Key×V)}{xs:List (List Key×Addr×Value)}(r:KT H kvs xs)(k:List Key):kW (cA kvs k) ((atKey xs k).map (·.2)):=by
 induction r with
 |nil=>exact Vw
 |@cons p q ps qs h t ih=>
  obtain⟨h1,_,h2⟩:=h;by_cases e:p.1=k
  .have e':q.1=k:=h1.symm.trans e;have b:atKey (q::qs) k=some q.2:=by simp[atKey,X3,e']
   rw[uv e,b];exact h2
  have e':¬q.1=k:=λz=>e (h1.trans z);have b:atKey (q::qs) k=atKey qs k:=by simp[atKey,X3,e']
  rw[uB e,b];exact ih
def KT.repl{H:Hp}{kvs:List (List Key×V)}{xs:List (List Key×Addr×Value)}(r:KT H kvs xs)(k:List Key){y:V}{u:Value}(ry:RelV y u) : KT H (kvs.map λkv=>if kv.1=k then(kv.1,y)else kv) (xs.map (putAt k u)):=by
 induction r with
 |nil=>exact .nil
 |@cons p q ps qs h t ih=>rw[UI,UI];refine .cons ?_ ih;obtain⟨h1,h2,h3⟩:=h;unfold putAt;by_cases e:p.1=k;{rw[if_pos e,if_pos (h1.symm.trans e)];exact⟨h1,h2,ry⟩};rw[if_neg e,if_neg (λz=>e (h1.trans z))];exact⟨h1,h2,h3⟩
def KT.put{H:Hp}{kvs:List (List Key×V)}{xs:List (List Key×Addr×Value)}(r:KT H kvs xs)(k:List Key){b:Addr}{y:V}{u:Value}(hb:H b=some (.tup (k.map kV)))(ry:RelV y u) : KT H (putK kvs k y) (storedH xs k b u):=by
 have e:(kvs.any λkv=>decide (kv.1=k))=(atKey xs k).isSome:=by rw[tX,(r.val k).kr,Option.isSome_map]
 unfold putK storedH;rw[e];by_cases q:(atKey xs k).isSome=true;{rw[if_pos q,if_pos q];exact r.repl k ry};rw[if_neg q,if_neg q];exact Paired.snoc r ⟨rfl,hb,ry⟩
def KT.keeps{H H':Hp}{kvs:List (List Key×V)}{xs:List (List Key×Addr×Value)}(r:KT H kvs xs)(ht:∀b ys,H b=some (.tup ys)->H' b=some (.tup ys)):KT H' kvs xs:=
 Paired.DH r λ_ _ z=>⟨z.1,ht _ _ z.2.1,z.2.2⟩
section
variable{P:Program}{w:World}{H:Hp}{h:Heap}{a:Addr}
def KZ{u:HO}(ok:dN P w H h)(e:Rd H a u):bU P w H h a u:=e.ok ok
def uT{kvs:List (Key×V)}(ok:dN P w H h)(e:Rd H a (.dK kvs)):kvs.length<=sizeLine/\(a==sysModules)=false/\∃vs,KV kvs vs/\h.DictOf (c9 P w) a vs:=
 show bU P w H h a (.dK kvs)from KZ ok e
def RA{kvs:List (Key×V)}(ok:dN P w H h)(e:H a=some (.dK kvs)):kvs.length<=sizeLine/\(a==sysModules)=false/\∃vs,KV kvs vs/\h.DictOf (c9 P w) a vs:=uT ok (.inl e)
def qW{ks:List Key}(ok:dN P w H h)(e:H a=some (.tup (ks.map kV))):(tupleKind (c9 P w)).is h ks a:=by obtain⟨_,its,r,o,h1,h2,n,h3⟩:=(show bU P w H h a (.tup (ks.map kV))from ok a _ e);exact⟨o,its.toArray,n,h1,h2,h3,by simpa using yj r⟩
def yN{kvs:List (List Key×V)}(ok:dN P w H h)(e:Rd H a (.dT kvs)):kvs.length<=sizeLine/\(a==sysModules)=false /\ ∃xs,KT H kvs xs/\h.DictOfH (tupleKind (c9 P w)) a xs:=by
 obtain⟨z,y,xs,r,o,es,ep,h1,h2,h3,h4,h5⟩:=(show bU P w H h a (.dT kvs)from KZ ok e);refine⟨z,y,xs,r,o,es,ep,h1,h2,h3,h4,λx hx=>?_,h5⟩;have all:∀{l:List (List Key×V)}{m:List (List Key×Addr×Value)},KT H l m->∀x∈m,(tupleKind (c9 P w)).is h x.1 x.2.1:=by
  intro l m q;induction q with
  |nil=>intro x hx;exact nomatch hx
  |@cons p q ps qs hq t ih=>intro x hx;rcases U6.mp hx with e|hx;{subst e;exact qW ok (by rw[<-hq.1];exact hq.2.1)};exact ih x hx
 exact all r x hx
def KH{kvs:List (List Key×V)}(ok:dN P w H h)(e:H a=some (.dT kvs)):kvs.length<=sizeLine/\(a==sysModules)=false /\ ∃xs,KT H kvs xs/\h.DictOfH (tupleKind (c9 P w)) a xs:=yN ok (.inl e)
end
def jF(H:Hp)(a:Addr) (y:V)(r:Option V):Prop:=
 (∃kvs k,Rd H a (.dK kvs)/\y=kV k/\r=cA kvs k)\/∃kvs k b,Rd H a (.dT kvs)/\y=.ref b/\H b=some (.tup (k.map kV))/\r=cA kvs k
def qO(H:Hp)(a:Addr) (y v:V)(H':Hp):Prop:=
 (∃kvs k,H a=some (.dK kvs)/\y=kV k/\kvs.length<sizeLine/\H'=upd H a (.dK (putK kvs k v))) \/
 ∃kvs k b,H a=some (.dT kvs)/\y=.ref b/\H b=some (.tup (k.map kV))/\kvs.length<sizeLine/\H'=upd H a (.dT (putK kvs k v))
theorem jF.k{H:Hp}{a:Addr}{kvs:List (Key×V)}{k:Key}(e:H a=some (.dK kvs)):jF H a (kV k) (cA kvs k):=.inl ⟨kvs,k,.inl e,rfl,rfl⟩
def jF.t{H:Hp}{a b:Addr}{kvs:List (List Key×V)}{k:List Key}(e:H a=some (.dT kvs))(eb:H b=some (.tup (k.map kV))):jF H a (.ref b) (cA kvs k):=.inr ⟨kvs,k,b,.inl e,rfl,eb,rfl⟩
theorem qO.k{H:Hp}{a:Addr}{kvs:List (Key×V)}{k:Key}{v:V}(e:H a=some (.dK kvs))(hl:kvs.length<sizeLine):qO H a (kV k) v (upd H a (.dK (putK kvs k v))):=.inl ⟨kvs,k,e,rfl,hl,rfl⟩
def qO.t{H:Hp}{a b:Addr}{kvs:List (List Key×V)}{k:List Key}{v:V}(e:H a=some (.dT kvs))(eb:H b=some (.tup (k.map kV)))(hl:kvs.length<sizeLine) : qO H a (.ref b) v (upd H a (.dT (putK kvs k v))):=.inr ⟨kvs,k,b,e,rfl,eb,hl,rfl⟩
section
variable{X:Cx}{pins:ZL}{U:St}{H:Hp}{s:Shared}{a:Addr}{y v:V}{u r:Value}{o:Option V}{A:Around}{E:ZI}
def Inv.big(I:Inv X pins U H s):sysModules<s.heap.objs.size:=by have h:mainGlobals<s.heap.objs.size:=(I.mod.glob.keeps I.bk).lt;exact Nat.lt_trans (by decide) h
def Fx{Q:ZI}(hu:A.units+1<cLine)(I:Inv X pins U H s)(g:jF H a y (some v))(ry:RelV y u)(h:∀w' s',Inv X pins U H s'->RelV v w'->Q w' s') : wpAny (model X.prog X.w) A (getItem (.ref a) u) Q E s:=by rcases g with⟨kvs,k,e,ey,l⟩|⟨kvs,k,b,e,ey,eb,l⟩;{subst ey;obtain⟨z,hd,vs,rel,dd⟩:=uT I.hok e;obtain⟨w',hw,rw'⟩:=kW.some_of (v:=v) (o:=valueAt vs k) (by rw[l];exact rel.val k);exact wpAny_getItem_of (yJ ry) dd.mapOf hw (h w' _ (I.tok _) rw')};subst ey;cases (show u=Value.ref b from ry);obtain⟨z,hd,xs,rel,dd⟩:=yN I.hok e;obtain⟨w',hw,rw'⟩:=kW.some_of (v:=v) (o:=(atKey xs k).map (·.2)) (by rw[l];exact rel.val k);obtain⟨p,hp,hp2⟩:=W7.mp hw;refine wpAny_getItem_heap (Xy hu) (qW I.hok eb) dd hp ?_;rw[hp2];exact h w' _ (I.tok _) rw'
def Ti{Q:ZI}(hu:A.units+1<cLine)(I:Inv X pins U H s)(g:jF H a y o)(ry:RelV y u)(h:∀s',Inv X pins U H s'->Q (.bool o.isSome) s') : wpAny (model X.prog X.w) A (compareOp .In u (.ref a)) Q E s:=by rcases g with⟨kvs,k,e,ey,l⟩|⟨kvs,k,b,e,ey,eb,l⟩;{subst ey;obtain⟨z,hd,vs,rel,dd⟩:=uT I.hok e;refine wpAny_in_of (yJ ry) hd dd.mapOf ?_;rw[<-(rel.val k).kr,<-l];exact h _ (I.tok _)};subst ey;cases (show u=Value.ref b from ry);obtain⟨z,hd,xs,rel,dd⟩:=yN I.hok e;refine wpAny_in_heap (Xy hu) (qW I.hok eb) hd dd ?_;have q:=(rel.val k).kr;rw[Option.isSome_map]at q;rw[<-q,<-l];exact h _ (I.tok _)
def wJ{h':Heap}{t':Nat}{ob:HO}(I:Inv X pins U H s)(mu:Gy (H a))(hs:Heap.SameBut a s.heap h')(he:∃q,h'.get? a=some q)(new:bU X.prog X.w (upd H a ob) h' a ob) : Inv X pins U (upd H a ob) { s with heap:=h',toks:=t' }:=
 I.write (x:=a) (e:=a) mu (.inl rfl) (λb q hb z=>(hs.2 b hb).trans z) he new
def Ol{P:Program}{w:World}{H':Hp}{h':Heap}{kvs:List (Key×V)}{vs:List (Key×Value)}(z:kvs.length<=sizeLine)(hd:(a==sysModules)=false)(rel:KV kvs vs)(dd:h'.DictOf (c9 P w) a vs) : bU P w H' h' a (.dK kvs):=⟨z,hd,vs,rel,dd⟩
def Ia{H':Hp}{Q:Unit->Shared->Prop}(hu:A.units+1<cLine)(I:Inv X pins U H s)(g:qO H a y v H')(ry:RelV y u)(rv:RelV v r)(h:∀s',Inv X pins U H' s'->Q () s') : wpAny (model X.prog X.w) A (setItem (.ref a) u r) Q E s:=by
 rcases g with⟨kvs,k,e,ey,l,eH⟩|⟨kvs,k,b,e,ey,eb,l,eH⟩
 .subst ey eH;obtain⟨z,hd,vs,rel,dd⟩:=RA I.hok e;have hz:vs.length<=sizeLine:=by rw[<-rel.length];exact z
  have hl:(putK kvs k v).length<=sizeLine:=by have:=sO kvs k v;lia
  refine wpAny_setItem_pairs (hsz:=hz) (yJ ry) dd λh' dd' hs=>h _ ?_;have he:∃q,h'.get? a=some q:=let⟨q,_,_,hq,_⟩:=dd';⟨q,hq⟩;exact wJ I (by rw[e];exact Vw) hs he (Ol hl hd (rel.put k rv) dd')
 subst ey eH;cases (show u=Value.ref b from ry);obtain⟨z,hd,xs,rel,dd⟩:=KH I.hok e;have hz:xs.length<=sizeLine:=by rw[<-Paired.length rel];exact z
 have hl:(putK kvs k v).length<=sizeLine:=by have:=sO kvs k v;lia
 refine wpAny_setItem_heap (hsz:=hz) (Xy hu) (qW I.hok eb) dd λh' dd' hs=>h _ ?_;obtain⟨q,es,ep,hq,h2,h3,h4,_,h5⟩:=dd';refine wJ I (by rw[e];exact Vw) hs ⟨q,hq⟩ ⟨hl,hd,_,(rel.put k eb rv).keeps λc ys ec=>?_,q,es,ep,hq,h2,h3,h4,h5⟩;rw[aq (Eg ec e (λz=>nomatch z))];exact ec
end
section
variable{X:Cx}{pins:ZL}{U:St}{H:Hp}{s:Shared}{a:Addr}{kvs:List (Key×V)}{k:Key}{u:Value}{A:Around}{E:ZI}
def Rw{Q:ZI}(I:Inv X pins U H s)(e:Rd H a (.dK kvs))(h:∀t s',Inv X pins U H s'->Q (.int kvs.length t) s'):wpAny (model X.prog X.w) A (call (.builtin "len") [.ref a]) Q E s:=by obtain⟨z,hd,vs,rel,dd⟩:=uT I.hok e;refine call_len_dict hd dd (by rw[<-rel.length];rw[sizeLine_eq]at z;lia) ?_;rw[<-rel.length];exact h _ _ (I.tok _)
end
def BD{X:Cx}{pins:ZL}{U:St}{H:Hp}{s:Shared}{a:Addr}{y:V}{o:Option V}(I:Inv X pins U H s)(g:jF H a y o):s.TypeIs (.ref a) "dict":=by rcases g with⟨kvs,k,e,_,_⟩|⟨kvs,k,b,e,_,_,_⟩;{obtain⟨_,_,vs,_,dd⟩:=uT I.hok e;exact dd.typeIs};obtain⟨_,_,xs,_,dd⟩:=yN I.hok e;exact dd.typeIs
def JV{P:Program}{w:World}{H:Hp}(h:Heap)(hb:sysModules<h.objs.size):bU P w H (h.push { cls:=.type "dict",data:=.dict #[] }) h.objs.size (.dT []):=
 ⟨V3 _,beq_eq_false_iff_ne.mpr (Ne.symm (UH hb)),[],.nil,_,#[],0,V8 _ rfl,⟨rfl,rfl,rfl⟩,rfl,rfl,VY⟩
def Ox:TE:=λ_ H Q=>∀p,H p=none->Q (.ref p) (upd H p (.dT []))
section
variable{X:Cx}{pos:Pos}
def Jr:PE X (.Dict [] [] pos) Ox:=λpins s U H Q I h=>
 wpAny_Dict_empty ⟨.ref s.heap.objs.size,_,I.laid (a:=s.heap.objs.size) (o:=.dT []) (t':=s.toks) (λ_ _ q=>UQ _ q) (U5 _) (JV s.heap I.big),rfl,h _ (I.hok.fresh (U5 _))⟩
end
end L2
namespace SO
open PySem PySem.W PySem.Calls PyProof.Rows
def uW{P:Params}{h:Heap}:∀(ns:Zc)(vs:ZW),WellAll P h vs (ns.map WData.int)->IntsAre vs ns:=by
 intro ns;induction ns with
 |nil=>intro vs w;rw[XS]at w;cases w;exact .nil
 |cons n ns ih=>
  intro vs w;rw[UI]at w;cases w with
  |cons a b=>cases a;exact .cons _ _ (ih _ b)
def Gb{l:OpenLaw}{n:Nat}(hn:l.most=some n){P:Params}{h:Heap}{args:List WData}{vals:ZW}(hpre:l.row.toRowW.claim.pre args=true)(hwl:WellAll P h vals args) : ∃a vs ns,vals=[Value.ref a]/\args=[WData.list (ns.map WData.int)]/\h.get? a=some { cls:=.type "list",data:=.seq vs.toArray }/\IntsAre vs ns/\ns.length<=n:=by
 have hsh:WShape.hasAll [] args [.list .int]=true:=(pre_splitW hpre).1;have hc:l.pre.holds [] { args:=args }=true:=(pre_splitW hpre).2;obtain⟨d,r,rfl,h1,h2⟩:=hasAllW_cons hsh;obtain rfl:=hasAllW_nil h2;obtain⟨xs,rfl,h3⟩:=hasW_list h1;obtain⟨ns,rfl⟩:=items_int h3;have hlen:ns.length<=n:=by
  unfold OpenLaw.pre at hc;have h4:(WTm.not (.lt (.lit (.int (n:Int))) (.len (.arg 0)))).holds [] { args:=[.list (ns.map .int)] }=true:=by have h4:=(holds_andW hc).1;rw[hn]at h4;exact h4
  have h5:=condW_of h4 (w_not (w_lt w_lit (w_len_list (w_arg rfl))));rw[U7]at h5;refine Xz λq=>?_;have q':(n:Int)<((ns.length:Nat):Int):=by lia
  first
   | (rw[V6 q']at h5;exact absurd h5 (by decide))
   | (simp at h5;lia)
 cases hwl with
 |cons w1 w2=>
  cases w2;cases w1 with
  |list ho hall=>exact⟨_,_,ns,rfl,rfl,ho,uW ns _ hall,hlen⟩
def HA(l:OpenLaw)(args:List WData):l.row.toRowW.claim.post args (.bool true) args=true:=
 postW_of (r:=l.row.toRowW) (X:=(true==true))
  (show WShape.has [] (.bool true) .bool=true by first|rfl|decide|simp[WShape.has,WShape.arms,WShape.armsAll])
  (show(WTm.eq .res (.lit (.bool true))).value [] { args:=args,res:=some (.bool true),after:=args }=some (.bool (true==true))from w_eq_bool (w_res rfl) w_lit) rfl
def Bx{l:OpenLaw}{n:Nat}{q:Program}{loose:Zd}{XP:(ZK)->Heap->Prop}{YP:World->Heap->Prop}{d:DefRec}(hn:l.most=some n)(hdf:d.params.defaults=[])(call:∀(w:World)(s₀ s₁:Shared)(mg mb:ZK)(fa:Addr)(o:Obj)(pm cd doc:Value)(a:Addr)(vs:ZW)(ns:Zc), Ground q loose [] XP w s₀ mg mb s₁.heap->YP w s₁.heap-> s₁.heap.get? fa=some o->o.data=.func (docDef d.name d.params d.body d.scope pm cd doc)->s₁.heap.CodeRec cd d.name->mg d.name=some (.ref fa)-> s₁.heap.get? a=some { cls:=.type "list",data:=.seq vs.toArray }->IntsAre vs ns->ns.length<=n->s₁.gens=#[]-> codeAny (model l.prog w) callerA (.call (.ref fa) ⟨[.ref a],[]⟩) (λr s'=>r=.ok (.ret (.bool true))/\OldK s₁.heap s'.heap/\s'.os=s₁.os/\AllBare s'.gens) s₁) : WalkO q loose XP YP l.row.toRowW d [] (λf vs=>PySem.call f vs):=by intro w s₀ s₁ mg mb G Zl fa o pm cd doc dV kV ho hd hcd hD hmg hg args vals as hpre hlay hrd hwl hlo;obtain rfl:dV=.none:=Dflts.none hD hdf;obtain rfl:kV=.none:=Dflts.noKw hD;obtain⟨a,vs,ns,rfl,rfl,hobj,hints,hlen⟩:=Gb hn hpre hwl;refine enter_call (XQ (call w s₀ s₁ mg mb fa o pm cd doc a vs ns G Zl ho (fd_plain hd) hcd hmg hobj hints hlen hg) λr s' hq=>?_);obtain⟨rfl,h2,h3,h4⟩:=hq;exact⟨.inl ⟨.bool true,.bool true,[],rfl,λ_=>rfl,.bool true,HA l _,λ_=>⟨List.Pairwise.nil,λ_ hm=>(nomatch hm)⟩⟩,h2,h3,h4⟩
end SO
namespace L2
open PySem PySem.Spec PyProof.Rows
theorem yg:∀{vs:ZW}{ns:Zc},IntsAre vs ns->Vals (ns.map V.int) vs
 |_,_,.nil=>.nil
 |_,_,.cons n t h=>.cons ⟨t,rfl⟩ (yg h)
def Jf(H:Hp):Prop:=∀b,H b=none\/∃o xs,H b=some (.cL o (.lst xs))
end L2
namespace L2
open PySem PySem.Spec PyProof.Rows
def lB(s:Stmt):Arguments:=match s with
 |.FunctionDef _ a _ _ _ _ _ _ _ _=>a
 |_=>{ posonlyargs:=[],args:=[],vararg:=none,kwonlyargs:=[],kw_defaults:=[],kwarg:=none,defaults:=[] }
def iV(s:Stmt):Za:=match s with
 |.FunctionDef _ _ b _ _ _ _ _ _ _=>b
 |_=>[]
def ay(s:Stmt):Scope:=match s with
 |.FunctionDef _ _ _ _ _ _ sc _ _ _=>sc
 |_=>{ kind:=.function,names:=[],isGenerator:=false,isCoroutine:=false }
abbrev E0:XK:=λ_ _ _=>False
structure vz(K:ZR) (x qual:Str)(st:Stmt)(f:Addr)(fd:FuncData):Prop where
 ex:∃(oc:Value)(od:ZV)(kV doc pm:Value)(an:ZV)(cdv ct:Value)(osl:ZH),
  fd=PySem.W.fnOf x qual (lB st) (iV st) (ay st) .none kV doc pm an cdv ct/\K.lookup f=some ⟨oc,od,.func fd,osl⟩/\PySem.W.codeIn K cdv qual=true
 kp:PySem.W.keepIn K (.ref f)=true
section
variable{P:Program}{w:World}{K:ZR}{mg:ZK}{base:Heap}
def vz.binds{x qual:Str}{st:Stmt}{f:Addr}{fd:FuncData}{ps:Zd}(F:vz K x qual st f fd)(h:∀(kV doc pm:Value)(an:ZV)(cdv ct:Value)(us:ZW),us.length=ps.length->bindArgs (PySem.W.fnOf x qual (lB st) (iV st) (ay st) .none kV doc pm an cdv ct) ⟨us,[]⟩=pure (ps.zip us)):Binds K fd ps []:=by obtain⟨oc,od,kV,doc,pm,an,cdv,ct,osl,rfl,lk,hcd⟩:=F.ex;exact .all (h kV doc pm an cdv ct)
def OA{x qual:Str}{st:Stmt}{f:Addr}{oc:Value}{od an:ZV}{osl:ZH}{kV doc pm cdv ct:Value}(l:K.lookup f=some ⟨oc,od,.func (PySem.W.fnOf x qual (lB st) (iV st) (ay st) .none kV doc pm an cdv ct),osl⟩)(c:PySem.W.codeIn K cdv qual=true)(k:PySem.W.keepIn K (.ref f)=true):vz K x qual st f (PySem.W.fnOf x qual (lB st) (iV st) (ay st) .none kV doc pm an cdv ct):=⟨⟨oc,od,kV,doc,pm,an,cdv,ct,osl,rfl,l,c⟩,k⟩
end
section
variable{X:Cx}
def G5:cI X (.builtin "len") (λxs H Q=>∃a kvs,xs=[V.ref a]/\H a=some (.dK kvs)/\Q (.int kvs.length) H):=by intro pins s U H xs us Q I r h;obtain⟨a,kvs,rfl,ha,q⟩:=h;obtain⟨u,rfl,ru⟩:=vals1 r;cases ru;exact Rw I (.inl ha) λt s' I'=>⟨.int kvs.length,H,I',⟨t,rfl⟩,q⟩
end
def qK{A B:Prop}(h:B):if false=true then A else B:=by rw[if_neg V5];exact h
def qv{A B:Prop}(h:A):if true=true then A else B:=by rw[if_pos rfl];exact h
def aj(H H':Hp):Prop:=∀b o,H b=some o->H' b=some o
def aj.refl(H:Hp):aj H H:=λ_ _ h=>h
def aj.trans{H H1 H2:Hp}(a:aj H H1)(b:aj H1 H2):aj H H2:=λc o h=>b c o (a c o h)
def aj.free{H H':Hp}(e:aj H H'){l:Addr}(h:H' l=Option.none):H l=Option.none:=by
 cases q:H l with
 |none=>rfl
 |some o=>rw[e l o q]at h;cases h
def cC(cells:List (Str×Addr)):List (Str×NameKind)->List (Str×Addr)->List (Str×Addr)
 |[],acc=>acc
 | (n,k)::r,acc=>cC cells r (if(k==NameKind.free)=true then(n,(cells.lookup n).getD 0)::acc else acc)
theorem nB{c:Addr}:∀(names:List (Str×NameKind))(acc:List (Str×Addr)),(cC cells names acc).lookup y=some c->((y,NameKind.free)∈names/\(cells.lookup y).getD 0=c)\/acc.lookup y=some c
 |[],_,h=>.inr h
 | (n,k)::r,acc,h=>by
  rcases nB r _ h with⟨a,b⟩|z;{exact .inl ⟨U4 _ a,b⟩};clear h;by_cases e:(k==NameKind.free)=true
  .rw[if_pos e]at z;rw[VI]at z;cases q:(y==n)with
   |true=>
    rw[q]at z;have ek:k=NameKind.free:=by simpa using e
    have en:y=n:=by simpa using q
    subst ek en;exact .inl ⟨U1,Option.some.inj z⟩
   |false=>rw[q]at z;exact .inr z
  rw[if_neg e]at z;exact .inr z
theorem fY:∀(names:List (Str×NameKind))(acc:List (Str×Addr)),((y,NameKind.free)∈names\/∃c,acc.lookup y=some c)->∃c,(cC cells names acc).lookup y=some c
 |[],_,h=>by rcases h with h|h;{cases h};exact h
 | (n,k)::r,acc,h=>by
  refine fY r _ ?_;rcases h with h|⟨c,h⟩;{rcases U6.mp h with e|h;{cases e;refine .inr ⟨(cells.lookup y).getD 0,?_⟩;rw[if_pos (by decide),VI,XT]};exact .inl h};by_cases e:(k==NameKind.free)=true
  .rw[if_pos e,VI];cases q:(y==n)with
   |true=>exact .inr ⟨_,rfl⟩
   |false=>exact .inr ⟨c,h⟩
  rw[if_neg e];exact .inr ⟨c,h⟩
def mU(h:∀n,(n,NameKind.free)∈scope.names->∃c,env.cells.lookup n=some c):closureFor scope env=pure (cC env.cells scope.names []):=by
 have key:∀(names:List (Str×NameKind))(cs:List (Str×Addr)),(∀n,(n,NameKind.free)∈names->∃c,env.cells.lookup n=some c)->
   (forIn names cs λ(x:Str×NameKind)(r:List (Str×Addr))=>(if(x.2==NameKind.free)=true then(cellOf env x.1>>=λa=>pure (ForInStep.yield ((x.1,a)::r)))else pure (ForInStep.yield r):Sem _))=pure (cC env.cells names cs):=by
  intro names
  induction names with
  |nil=>intro cs _;rfl
  |cons p r ih=>
   intro cs hp;obtain⟨n,k⟩:=p;rw[List.forIn_cons];by_cases e:(k==NameKind.free)=true
   .have ek:k=NameKind.free:=by simpa using e
    obtain⟨c,hc⟩:=hp n (by rw[ek];exact U1);rw[if_pos e];have e2:cellOf env n=pure c:=by unfold cellOf;rw[hc]
    show((cellOf env n>>=λa=>pure (ForInStep.yield ((n,a)::cs)))>>=_)=_;rw[e2];show(forIn r ((n,c)::cs) _:Sem _)=_;rw[ih _ λn' h'=>hp n' (U4 _ h')];show _=pure (cC env.cells r (if(k==NameKind.free)=true then(n,(env.cells.lookup n).getD 0)::cs else cs));rw[if_pos e,hc];rfl
   rw[if_neg e];show(forIn r cs _:Sem _)=_;rw[ih _ λn' h'=>hp n' (U4 _ h')];show _=pure (cC env.cells r (if(k==NameKind.free)=true then(n,(env.cells.lookup n).getD 0)::cs else cs));rw[if_neg e]
 unfold closureFor;have e:=key scope.names [] h;show((forIn scope.names [] λ(x:Str×NameKind)(r:List (Str×Addr))=>(if(x.2==NameKind.free)=true then(cellOf env x.1>>=λa=>pure (ForInStep.yield ((x.1,a)::r)))else pure (ForInStep.yield r):Sem _))>>=λr=>pure r)=_;rw[e];rfl
theorem dI{α:Type}{y:Str}{k:α}:∀{l:List (Str×α)},l.lookup y=some k->(y,k)∈l
 |[],h=>by cases h
 | (n,j)::r,h=>by
  rw[VI]at h;cases q:(y==n)with
  |true=>
   rw[q]at h;have en:y=n:=by simpa using q
   cases h;rw[en];exact U1
  |false=>rw[q]at h;exact U4 _ (dI h)
theorem pL{env:Env}{x:Str}{k:NameKind}:∀{names:List (Str×NameKind)},names.lookup x=some k->(relabel { (default:Scope)with names:=names } env).names.lookup x=some k\/(k=.free/\(relabel { (default:Scope)with names:=names } env).names.lookup x=some .cell)
 |[],h=>by cases h
 | (n,j)::r,h=>by
  have ih:=@pL env x k r;rw[VI]at h;show List.lookup x ((if(j==NameKind.free&&env.scope.kind == .function&&env.kindOf n==some .cell)=true then(n,NameKind.cell)else(n,j))::_)=_\/(_/\List.lookup x ((if(j==NameKind.free&&env.scope.kind == .function&&env.kindOf n==some .cell)=true then(n,NameKind.cell)else(n,j))::_)=_);cases q:(x==n)with
  |true=>rw[q]at h;cases h;by_cases e:(k==NameKind.free&&env.scope.kind == .function&&env.kindOf n==some .cell)=true;{rw[if_pos e,VI,q];refine .inr ⟨?_,rfl⟩;have z:=(UJ _ _▸(UJ _ _▸e).1:_/\_).1;simpa using z};rw[if_neg e,VI,q];exact .inl rfl
  |false=>rw[q]at h;by_cases e:(j==NameKind.free&&env.scope.kind == .function&&env.kindOf n==some .cell)=true;{rw[if_pos e,VI,q];exact ih h};rw[if_neg e,VI,q];exact ih h
theorem t8{env:Env}{x:Str}{k:NameKind}:∀{names:List (Str×NameKind)},(relabel { (default:Scope)with names:=names } env).names.lookup x=some k->names.lookup x=some k\/(names.lookup x=some .free/\k=.cell)
 |[],h=>by cases h
 | (n,j)::r,h=>by
  have ih:=@t8 env x k r;have h:List.lookup x ((if(j==NameKind.free&&env.scope.kind == .function&&env.kindOf n==some .cell)=true then(n,NameKind.cell)else(n,j))::(relabel { (default:Scope)with names:=r } env).names)=some k:=h;rw[VI];cases q:(x==n)with
  |true=>by_cases e:(j==NameKind.free&&env.scope.kind == .function&&env.kindOf n==some .cell)=true;{rw[if_pos e,VI,q]at h;cases h;have z:=(UJ _ _▸(UJ _ _▸e).1:_/\_).1;exact .inr ⟨by simpa using z,rfl⟩};rw[if_neg e,VI,q]at h;exact .inl h
  |false=>by_cases e:(j==NameKind.free&&env.scope.kind == .function&&env.kindOf n==some .cell)=true;{rw[if_pos e,VI,q]at h;exact ih h};rw[if_neg e,VI,q]at h;exact ih h
def caps(ix:Zb)(U:St):St:=ix.map λi=>(U[i]?).join
def Cx.block(X:Cx)(scope:Scope)(C:Addr)(NB:Zd)(s2:Shared)(H2:Hp)(fp:ZX):Cx:=
 { X with N:=NB,s₀:=s2,H₀:=H2,env:=compEnvC scope (cC X.env.cells scope.names []) C X.env,outer:=X.stack,ex:=fp,fn:=λ_=>false,pn:=[],xe:=λ_ _=>False }
def qi(X:Cx)(ifs:ZZ)(t:TT):Prop:=
 ∀(pins:ZL)(s:Shared)(U:St)(H:Hp)(Q:Bool->Hp->Prop),Inv X pins U H s->t U H Q->
  wpAny (model X.prog X.w) X.A (forIn ifs true λc r=>if r=true then do let ok <-isTrue c X.env (eval c X.env);pure (ForInStep.yield ok)else pure (ForInStep.yield r)) (TP X pins U Q) X.xe s
def Tz:TT:=λ_ H Q=>Q true H
def L8:qi X [] Tz:=λ_ _ _ H _ I h=>wpAny_tests_nil ⟨H,I,h⟩
def Ml(h:PT X c t):qi X [c] t:=λpins s U H Q I hw=>wpAny_tests_one (h pins s U H Q I hw)
abbrev dS(its:ZW) (n:Nat):Obj:={ cls:=.type "list",data:=.seq its.toArray n }
section
variable{X:Cx}{scope:Scope}{x:Str}{NB:Zd}{ix:Zb}{pins:ZL}{U:St}{H2:Hp}{s2:Shared}{fp:ZX}
def zx(ix:Zb)(U:St):(caps ix U).length=ix.length:=by unfold caps;rw[U7]
end
section
variable{X:Cx}{scope:Scope}{x:Str}{NB:Zd}{ix:Zb}{pins:ZL}{U:St}{H2:Hp}{s2:Shared}{fp:ZX}
def Fg{C D:Addr}{n:Nat}(I2:Inv X pins U H2 s2)(f2:∀b∈fp,eu X pins H2 b)(hD:s2.heap.objs.size<=D)(I4:Inv (X.block scope C NB s2 H2 fp) [(D,dS its n)] σB H' s4)(rv:Vals ys its)(hz:ys.length<=sizeLine):Inv X pins U (upd H' D (.lst ys)) s4:=by
 have hp:=I4.pin (D,dS its n) (by show _∈[]++[(D,dS its n)];simp);have hfree:H' D=none:=hp.2.1;have neD:∀b o,s2.heap.get? b=some o->b≠D:=λb o e=>UH (UZ (UG e) hD);have neT:∀b o,H2 b=some o->b≠D:=λb o e=>UH (UZ (I2.hok.lt e) hD);have u:Un (frs X.stack) fp H2 H' s2.heap s4.heap:=I4.base;refine I2.Ew (ch:=fp) I4.os ⟨u.keep,u.slot,λb o e n hx=>?_,u.there,λb xs e=>?_,λb o v e=>?_,λb ps e=>?_⟩ (λb o e=>?_) I4.bare λb hb=>?_;{rw[aq (neD b o e)];exact u.free b o e n hx};{rw[aq (neT b _ e)];exact u.tups b xs e};{rw[aq (neT b _ e)];exact u.kM b o v e};{rw[aq (neT b _ e)];exact u.lW b ps e}
 .by_cases hb:b=D;{subst hb;rw[aH]at e;cases e;exact⟨hz,its,n,rv,hp.1⟩};rw[aq hb]at e;have ne:∀{c:Addr}{w:HO},H' c=some w->c≠D:=λ{c w} q z=>by rw[z,hfree]at q;cases q
  exact(I4.hok b o e).stay (λ_ _ _ q=>q) (λc q=>by rw[aq (ne q)];exact q) λc xs q=>by rw[aq (ne q)];exact q
 obtain⟨_,g1,g2,g3,g4,g5⟩:=f2 b hb;exact⟨g3,g1,g4,g5⟩
end
end L2
namespace L2
open PySem PySem.Spec PyProof.Rows PySem.W
def oX(a C:Addr)(dd:ZV):Heap->Prop:=λh=>∃(t0:Addr)(v1 v2 v3 v4 v5:Value)(sl:ZH),h.get? a=some ⟨.ref C,dd,.fields #[.ref t0,v1,v2,v3,v4,v5],sl⟩
def FA{a C:Addr}(x:oX a C dd h):bU P w H h a (.ext (oX a C dd)):=by obtain⟨t0,v1,v2,v3,v4,v5,sl,e⟩:=id x;exact⟨x,⟨_,e⟩,λh1 h2 ⟨t0,v1,v2,v3,v4,v5,sl,e⟩ k=>⟨t0,v1,v2,v3,v4,v5,sl,k _ e⟩⟩
def six(newId:String)(l:List (ZS)):Bool:=l.length==6&&(match(l[4]?:Option (ZS))with|some (some (Value.builtin n))=>n==newId|_=>false)
def CZ(K:Frag)(C:Addr)(bmB:ZW):ZW->Bool
 |.ref C'::bm=>C'==C&&tailIn K bmB bm
 |_=>false
def gI(K:Frag)(C:Addr)(bmB:ZW)(newId:String)(r:ZS):Bool:=match K.lookup C with
 |some ob=>(match ob.cls with | .type t=>t == "type" | _=>false)&&(match ob.data with
  |.cls cd=>(CZ K C bmB cd.mro&&six newId ob.slots.toList)&&!cd.hasDel&&(nsOkIn K cd.ns&&nsIn K cd.ns "__init__" == some r)
  |_=>false)
 |none=>false
def Oi(h:six newId l=true):∃k0 k1 k2 k3 k5,l=[k0,k1,k2,k3,some (.builtin newId),k5]:=by
 unfold six at h;rw[UJ]at h;obtain⟨h1,h2⟩:=h;have h1:l.length=6:=Wg h1;rcases l with _|⟨k0,_|⟨k1,_|⟨k2,_|⟨k3,_|⟨k4,_|⟨k5,_|⟨k6,l⟩⟩⟩⟩⟩⟩⟩
 case cons.cons.cons.cons.cons.cons.nil=>
  cases k4 with
  |none=>cases h2
  |some v=>
   cases v with
   |builtin n=>exact⟨k0,k1,k2,k3,k5,by rw[show n=newId from Wg h2]⟩
   |_=>cases h2
 case cons.cons.cons.cons.cons.cons.cons=>cases h1
 all_goals cases h1
def Ez{K:Frag}{C:Addr}{bmB l:ZW}(h:CZ K C bmB l=true):∃bm,l=.ref C::bm/\tailIn K bmB bm=true:=by
 cases l with
 |nil=>cases h
 |cons v bm=>
  cases v with
  |ref a=>have h:(a==C&&tailIn K bmB bm)=true:=h;rw[UJ]at h;exact⟨bm,by rw[show a=C from Wg h.1],h.2⟩
  |_=>cases h
structure S0(C:Addr)(bmB:ZW)(newId:String)(r:ZS)(h:Heap):Prop where
 obj:∃bm N nm q bs hdct sn sub ab col dd k0 k1 k2 k3 k5 mN,h.get? C=some (excClassObj nm q C N bs bm hdct sn sub ab col dd k0 k1 k2 k3 k5 newId)/\h.Ns N mN/\mN "__init__"=r/\OwnTail h bmB bm
def EC{K:Frag}{h:Heap}{N:Addr}{mg:ZK}(X:K.In h)(G:h.Ns N mg)(e:nsIn K N n=some r):mg n=r:=by
 obtain⟨o,es,ep,ho,hd,_,hf⟩:=G;unfold nsIn at e;split at e
 .rename_i c d es' n' sl q;have z:=X _ _ q;rw[ho]at z;cases z;cases hd;split at e
  .rename_i en he;rw[<-hf];unfold nsFind findBy;rw[<-YY,he];first
    | (cases e;rfl)
    | (split at e<;>cases e<;>rfl)
  rename_i he;rw[<-hf];unfold nsFind findBy;rw[<-YY,he];split at e;{cases e};cases e;rfl
 cases e
def Mr{K:Frag}{C:Addr}(X:K.In h)(q:gI K C bmB newId r=true):S0 C bmB newId r h:=by
 unfold gI at q;cases ho:K.lookup C with
 |none=>rw[ho]at q;cases q
 |some ob=>
  rw[ho]at q;obtain⟨cls,dd,data,sl⟩:=ob;dsimp only at q;rw[UJ]at q;obtain⟨q0,q⟩:=q;have hc:cls=.type "type":=by
   cases cls with
   |type t=>exact congrArg Value.type (Wg q0)
   |_=>cases q0
  subst hc;cases data with
  |cls cd=>
   dsimp only at q;rw[UJ,UJ,UJ,UJ]at q;obtain⟨⟨⟨q1,q2⟩,hdel⟩,hok,hni⟩:=q;obtain⟨bm,hm,ht⟩:=Ez q1;obtain⟨l⟩:=sl;obtain⟨k0,k1,k2,k3,k5,hs⟩:=Oi q2;have hs:l=_:=hs;obtain⟨nm,bs,mro,ns,qn,hd,sn,sub,ab,col,del⟩:=cd;dsimp only at hm hdel hok hni;have hdel:del=false:=by cases del<;>first|rfl|cases hdel
   have hni:=Wg hni;subst hm hdel hs;have G:h.Ns ns (h.nsMap ns):=.of_isNs (isNs_of_in X hok);exact⟨bm,ns,nm,qn,bs,hd,sn,sub,ab,col,dd,k0,k1,k2,k3,k5,_,X _ _ ho,G,EC X G hni,tail_of_in X ht⟩
  |_=>cases q
def Jw{a:Addr}(x:bU P w H h a o):∃ob,h.get? a=some ob:=by
 cases o with
 |lst xs=>obtain⟨_,_,_,_,e⟩:=x;exact⟨_,e⟩
 |tup xs=>obtain⟨_,_,_,ob,e,_⟩:=x;exact⟨_,e⟩
 |dK kvs=>obtain⟨_,_,_,_,ob,_,_,e,_⟩:=x;exact⟨_,e⟩
 |dT kvs=>obtain⟨_,_,_,_,ob,_,_,e,_⟩:=x;exact⟨_,e⟩
 |set S n=>obtain⟨ob,_,_,_,e,_⟩:=x;exact⟨_,e⟩
 |ins C dx fs=>obtain⟨_,_,_,e,_⟩:=x;exact⟨_,e⟩
 |own y=>exact x
 |xd fs=>obtain⟨_,⟨od,_,_,e,_⟩,_⟩:=x;exact⟨_,e⟩
 |tB lo hi=>obtain⟨_,_,_,e⟩:=x;exact⟨_,e⟩
 |cL ob u=>obtain⟨e,_⟩:=x;exact⟨_,e⟩
 |xZ ps=>exact⟨_,x⟩
 |met f y=>exact⟨_,x⟩
 |ext φ=>obtain⟨_,e,_⟩:=x;exact e
section
variable{X:Cx}{pins:ZL}{U:St}{H:Hp}{s:Shared}{h':Heap}
def Inv.jD(I:Inv X pins U H s){a:Addr}(hn:s.heap.get? a=none):H a=none:=by
 cases z:H a with
 |none=>rfl
 |some o=>obtain⟨ob,e⟩:=Jw (I.hok a o z);rw[hn]at e;cases e
def Inv.yV{a:Addr}{t':Nat}(I:Inv X pins U H s)(k:∀b u,s.heap.get? b=some u->h'.get? b=some u)(hn:s.heap.get? a=none)(new:bU X.prog X.w (upd H a o) h' a o) : Inv X pins U (upd H a o) { s with heap:=h',toks:=t' }:=by
 have hf:=I.jD hn;have neA:∀b u,s.heap.get? b=some u->b≠a:=λb u e z=>by rw[z,hn]at e;cases e
 have neT:∀b u,H b=some u->b≠a:=λb u e z=>by rw[z,hf]at e;cases e
 refine I.un ⟨λb u e _ _ _=>k b u e,λb u e _ _ _=>⟨u.slots,k b u e⟩,λb u e n _=>by rw[aq (neA b u e)];exact n,λb u e _=>⟨u,k b u e⟩,λb xs e=>by rw[aq (neT b _ e)];exact e,
  λb u v e=>by rw[aq (neT b _ e)];exact e,λb ps e=>⟨#[],by rw[aq (neT b _ e),e];simp⟩⟩ λb u e=>?_
 by_cases hb:b=a;{subst hb;rw[aH]at e;cases e;exact new};rw[aq hb]at e;exact(I.hok b u e).stay (λc v _ q=>k c v q) (λc q=>by rw[aq (neT c _ q)];exact q) λc xs q=>by rw[aq (neT c _ q)];exact q
end
abbrev uZ:ZW:=[.type "ValueError",.type "Exception",.type "BaseException",.type "object"]
end L2
namespace SM
open PySem PySem.SetTable
def run(M:Nat) (b:Nat):Nat->Nat×Nat
 |0=>(b%M,b)
 |k+1=>(((run M b k).1*5+1+(run M b k).2/32)%M,(run M b k).2/32)
theorem sN(M b:Nat):∀k,(run M b k).2=b/32^k
 |0=>by simp[run]
 |k+1=>by show(run M b k).2/32=_;rw[sN M b k,Nat.div_div_eq_div_mul,Nat.pow_succ]
def z9{M b:Nat}(hM:0<M):∀k,(run M b k).1<M
 |0=>Wm _ hM
 |k+1=>Wm _ hM
def uO(M i:Nat):Nat:=(i*5+1)%M
def jC(M:Nat):Nat->Nat->Nat
 |i,0=>i
 |i,r+1=>uO M (jC M i r)
theorem rY(M i a:Nat):∀b,jC M i (a+b)=jC M (jC M i a) b
 |0=>rfl
 |b+1=>by show uO M (jC M i (a+b))=uO M (jC M (jC M i a) b);rw[rY M i a b]
def JG(M:Nat):Nat->Nat->Zb
 |_,0=>[]
 |i,r+1=>i::JG M (uO M i) r
theorem xW(M i:Nat):∀r,jC M (uO M i) r=jC M i (r+1)
 |0=>rfl
 |r+1=>by show uO M (jC M (uO M i) r)=uO M (jC M i (r+1));rw[xW M i r]
theorem zQ(M:Nat):∀(n i j:Nat),j∈JG M i n->∃r,r<n/\jC M i r=j
 |0,_,_,h=>by cases h
 |n+1,i,j,h=>by rcases U6.mp h with e|h;{exact⟨0,X4 _,e.symm⟩};obtain⟨r,hr,e⟩:=zQ M n _ j h;exact⟨r+1,Nat.succ_lt_succ hr,by rw[<-xW];exact e⟩
def full(M:Nat):Bool:=(List.range M).all (λj=>(JG M 0 M).contains j)&&decide (jC M 0 M=0)
def GN:full 8=true:=by decide+kernel
def LC:full 32=true:=by decide+kernel
def JM:full 128=true:=by decide+kernel
def IS:full 512=true:=by decide+kernel
def ye{M:Nat}(h:full M=true){j:Nat}(hj:j<M):∃r,r<M/\jC M 0 r=j:=by unfold full at h;rw[UJ]at h;have z:=US.mp h.1 j (UX.mpr hj);exact zQ M M 0 j (by simpa using z)
def A4{M:Nat}(h:full M=true){i j:Nat}(hi:i<M)(hj:j<M):∃r,r<M/\jC M i r=j:=by
 obtain⟨a,ha,ea⟩:=ye h hi;obtain⟨b,hb,eb⟩:=ye h hj;have back:jC M 0 M=0:=by unfold full at h;rw[UJ]at h;exact UT h.2
 by_cases q:a<=b;{refine⟨b-a,by lia,?_⟩;rw[<-ea,<-rY,show a+(b-a)=b by lia,eb]};refine⟨M-a+b,by lia,?_⟩;rw[<-ea,<-rY,show a+(M-a+b)=M+b by lia,rY,back,eb]
theorem wH{M b k:Nat}(hb:b<2^64)(hk:12<=k):∀r,(run M b (k+r)).1=jC M (run M b k).1 r
 |0=>rfl
 |r+1=>by
  show((run M b (k+r)).1*5+1+(run M b (k+r)).2/32)%M=uO M (jC M (run M b k).1 r);rw[wH hb hk r,sN];have e:b/32^(k+r)/32=0:=by rw[Nat.div_div_eq_div_mul,<-Nat.pow_succ];refine Nat.div_eq_of_lt (UZ hb ?_);have h1:(32:Nat)^13<=32^(k+r).succ:=Nat.pow_le_pow_right (by decide) (by lia);exact V4 (by decide) h1
  rw[e,Nat.add_zero];rfl
def qg(m:Nat)(p:Probe):Probe:=
 if p.more>0 then { p with j:=p.j+1,more:=p.more-1 } else
 { p with j:=(leap m p.i p.perturb).1,more:=runEnd m (leap m p.i p.perturb).1-(leap m p.i p.perturb).1,i:=(leap m p.i p.perturb).1,perturb:=(leap m p.i p.perturb).2 }
def Uh(m:Nat) (h:Int):Probe:={ j:=bits h%(m+1),more:=runEnd m (bits h%(m+1))-bits h%(m+1),i:=bits h%(m+1),perturb:=bits h,dummy:=none }
def pr(m:Nat) (h:Int):Nat->Probe
 |0=>Uh m h
 |n+1=>qg m (pr m h n)
def Cw(h:Int):bits h<2^64:=by unfold bits;have:=X5 h (show(0:Int)<2^64 by decide);have h0:=X6 h (show(2^64:Int)≠0 by decide);lia
theorem Bb(m:Nat) (h:Int):∀n,(pr m h n).dummy=none
 |0=>rfl
 |n+1=>by show(qg m (pr m h n)).dummy=none;unfold qg;split<;>exact Bb m h n
def sd(m:Nat) (h:Int) (n k:Nat):Prop:=pr m h n={ j:=(run (m+1) (bits h) k).1,more:=runEnd m (run (m+1) (bits h) k).1-(run (m+1) (bits h) k).1,i:=(run (m+1) (bits h) k).1,perturb:=(run (m+1) (bits h) k).2,dummy:=none }
theorem vo{m:Nat}{h:Int}{n k:Nat}(a:sd m h n k):∀r,r<=runEnd m (run (m+1) (bits h) k).1-(run (m+1) (bits h) k).1-> pr m h (n+r)={ j:=(run (m+1) (bits h) k).1+r,more:=runEnd m (run (m+1) (bits h) k).1-(run (m+1) (bits h) k).1-r,i:=(run (m+1) (bits h) k).1,perturb:=(run (m+1) (bits h) k).2,dummy:=none }
 |0,_=>a
 |r+1,hr=>by show qg m (pr m h (n+r))=_;rw[vo a r (by lia)];unfold qg;rw[if_pos (show runEnd m (run (m+1) (bits h) k).1-(run (m+1) (bits h) k).1-r>0 by lia)];congr 1
def xU(m i:Nat):runEnd m i-i<=9:=by unfold runEnd;split<;>lia
def Jz{m:Nat}{h:Int}{n k:Nat}(a:sd m h n k):∃n',n'<=n+10/\sd m h n' (k+1):=by have z:=vo a _ (U5 _);refine⟨n+(runEnd m (run (m+1) (bits h) k).1-(run (m+1) (bits h) k).1)+1,by have:=xU m (run (m+1) (bits h) k).1;lia,?_⟩;show qg m (pr m h (n+(runEnd m (run (m+1) (bits h) k).1-(run (m+1) (bits h) k).1)))=_;rw[z];unfold qg;rw[if_neg (show ¬(runEnd m (run (m+1) (bits h) k).1-(run (m+1) (bits h) k).1-(runEnd m (run (m+1) (bits h) k).1-(run (m+1) (bits h) k).1)>0)by lia)];rfl
theorem HB(m:Nat) (h:Int):∀k,∃n,n<=10*k/\sd m h n k
 |0=>⟨0,V3 _,rfl⟩
 |k+1=>by obtain⟨n,hn,a⟩:=HB m h k;obtain⟨n',hn',a'⟩:=Jz a;exact⟨n',by lia,a'⟩
def Q9{m:Nat}(hf:full (m+1)=true) (h:Int){j:Nat}(hj:j<=m):∃n,n<10*turns m/\(pr m h n).j=j:=by obtain⟨r,hr,e⟩:=A4 hf (z9 (b:=bits h) (X4 m) 12) (Yi hj);obtain⟨n,hn,a⟩:=HB m h (12+r);refine⟨n,?_,?_⟩;{unfold turns;lia};rw[a];show(run (m+1) (bits h) (12+r)).1=j;rw[wH (Cw h) (U5 _),e]
def iO(xs:Array Nat):Prop:=∀(i k x y:Nat),i<k->xs[i]?=some x->xs[k]?=some y->x<y
def iO.inj(h:iO xs){i k x:Nat}(a:xs[i]?=some x)(b:xs[k]?=some x):i=k:=by rcases Wn i k with z|z|z;{exact absurd (h i k x x z a b) (VC _)};{exact z};exact absurd (h k i x x z b a) (VC _)
def vt{α:Type}{xs:Array α}{i:Nat}{x:α}(h:xs[i]?=some x):i<xs.size:=(Y0.mp h).1
theorem uu(hr:iO xs) (j:Nat):∀(fuel lo hi:Nat),lo<=hi->hi<=xs.size->hi-lo<=fuel->(∀i x,xs[i]?=some x->i<lo->x<j)->(∀i x,xs[i]?=some x->hi<=i->j<=x)-> below.go xs j fuel lo hi<=xs.size/\∀i x,xs[i]?=some x->(i<below.go xs j fuel lo hi↔x<j)
 |0,lo,hi,h1,h2,h3,h4,h5=>by
  have e:lo=hi:=by lia
  subst e;unfold below.go;refine⟨h2,λi x hx=>⟨h4 i x hx,λlt=>?_⟩⟩;by_cases q:i<lo;{exact q};exact absurd lt (Wo.mpr (h5 i x hx (Wo.mp q)))
 |fuel+1,lo,hi,h1,h2,h3,h4,h5=>by
  unfold below.go;by_cases q:lo<hi
  .rw[if_pos q];have hm:(lo+hi)/2<xs.size:=by lia
   have gm:xs[(lo+hi)/2]?=some xs[(lo+hi)/2]:=Vb hm;have gd:xs.getD ((lo+hi)/2) j=xs[(lo+hi)/2]:=by rw[W8,gm];rfl
   dsimp only;rw[gd];by_cases c:xs[(lo+hi)/2]<j;{rw[if_pos c];refine uu hr j fuel _ hi (by lia) h2 (by lia) (λi x hx hi'=>?_) h5;by_cases e:i=(lo+hi)/2;{subst e;rw[gm]at hx;cases hx;exact c};exact Nat.lt_trans (hr i _ x _ (by lia) hx gm) c};rw[if_neg c];refine uu hr j fuel lo _ (by lia) (by lia) (by lia) h4 λi x hx hi'=>?_;by_cases e:i=(lo+hi)/2;{subst e;rw[gm]at hx;cases hx;exact Wo.mp c};exact V4 (Wo.mp c) (Vk (hr _ i _ x (by lia) gm hx))
  rw[if_neg q];have e:lo=hi:=by lia
  subst e;refine⟨h2,λi x hx=>⟨h4 i x hx,λlt=>?_⟩⟩;by_cases q:i<lo;{exact q};exact absurd lt (Wo.mpr (h5 i x hx (Wo.mp q)))
def jd{xs:Array Nat}(hr:iO xs) (j:Nat):below xs j<=xs.size/\∀i x,xs[i]?=some x->(i<below xs j↔x<j):=
 uu hr j xs.size 0 xs.size (V3 _) (U5 _) (by lia) (λ_ _ _ h=>absurd h (W0 _)) λi x hx h=>absurd (vt hx) (Wo.mpr h)
def below_at{xs:Array Nat}(hr:iO xs){i j:Nat}(h:xs[i]?=some j):below xs j=i:=by
 obtain⟨h1,h2⟩:=jd hr j;have a:¬i<below xs j:=λq=>VC _ ((h2 i j h).mp q);by_cases e:below xs j=i;{exact e};have lt:below xs j<i:=by lia
 have hb:below xs j<xs.size:=Nat.lt_trans lt (vt h);have gb:xs[below xs j]?=some xs[below xs j]:=Vb hb;have:=hr _ _ _ _ lt gb h;exact absurd ((h2 _ _ gb).mpr this) (VC _)
def HU{t:SetTable}(hr:iO t.place){i j:Nat}(h:t.place[i]?=some j):t.slot j=.live i:=by unfold slot;dsimp only;rw[below_at hr h,h,if_pos (by simp)]
def Eb{t:SetTable}(hr:iO t.place)(hd:t.dummies=#[]){j:Nat}(h:∀i:Nat,t.place[i]?≠some j):t.slot j=.empty:=by
 unfold slot;dsimp only;rw[if_neg (by simpa using h _)];have:has t.dummies j=false:=by unfold has;rw[hd];simp
 rw[this];rfl
def HQ{xs:Array Nat}(hr:iO xs){m:Nat}(hs:xs.size<=m):∃j,j<=m/\∀i:Nat,xs[i]?≠some j:=by
 refine WK λno=>?_;have all:∀j,j<=m->∃i:Nat,xs[i]?=some j:=λj hj=>WK λq=>no ⟨j,hj,λi e=>q ⟨i,e⟩⟩;have ge:∀j,j<=m->∀i:Nat,xs[i]?=some j->j<=i:=by
  intro j;induction j with
  |zero=>intro _ i _;exact V3 _
  |succ j ih=>intro hj i hi;obtain⟨i0,h0⟩:=all j (by lia);have l0:=ih (by lia) i0 h0;rcases Wn i0 i with z|z|z;{lia};{subst z;rw[h0]at hi;have:=Option.some.inj hi;lia};have:=hr i i0 _ _ z hi h0;lia
 obtain⟨i,hi⟩:=all m (U5 _);have h1:=ge m (U5 _) i hi;have h2:=vt hi;lia
def iZ{α:Type}{xs:Array α}{p:Nat}(hp:p<=xs.size)(x:α) (i:Nat):(insertAt xs p x)[i]?=if i<p then xs[i]? else if i=p then some x else xs[i-1]?:=by
 unfold insertAt;have s1:(xs.extract 0 p).size=p:=by rw[Yj];lia
 have s2:((xs.extract 0 p).push x).size=p+1:=by rw[Array.size_push,s1]
 rw[Array.getElem?_append,s2];by_cases h1:i<p;{rw[if_pos (by lia),if_pos h1,Array.getElem?_push,s1,if_neg (by lia),Array.getElem?_extract,if_pos (by lia),X7]};rw[if_neg h1];by_cases h2:i=p;{subst h2;rw[if_pos (by lia),if_pos rfl,Array.getElem?_push,s1,if_pos rfl]};rw[if_neg (by lia),if_neg h2,Array.getElem?_extract];by_cases h3:i-(p+1)<xs.size-p;{rw[if_pos (by lia),show p+(i-(p+1))=i-1 by lia]};rw[if_neg (by lia)];exact(XU (by lia)).symm
def mq{α:Type}{xs:Array α}{p:Nat}(hp:p<=xs.size)(x:α):(insertAt xs p x).size=xs.size+1:=by unfold insertAt;rw[Array.size_append,Array.size_push,Yj,Yj];lia
abbrev Ent:=Int×Value
def In(t:SetTable) (j:Nat):Prop:=∃i:Nat,t.place[i]?=some j
def Way(t:SetTable) (h:Int) (m:Nat):Prop:=∀m',m'<m->In t (pr t.mask h m').j
structure TB(t:SetTable)(es:Array Ent):Prop where
 sz:t.place.size=es.size
 ri:iO t.place
 le:∀i j:Nat,t.place[i]?=some j->j<=t.mask
 du:t.dummies=#[]
 fu:full (t.mask+1)=true
 od:t.mask%2=1
 nf:t.place.size<=t.mask
 rc:∀(i j:Nat)(e:Ent),t.place[i]?=some j->es[i]?=some e->∃m,m<10*turns t.mask/\(pr t.mask e.1 m).j=j/\Way t e.1 m
section
variable{t:SetTable}{es:Array Ent}
theorem TB.fits(T:TB t es):t.fits es.size=true:=by unfold SetTable.fits fill;rw[T.sz,T.du];have:=T.nf;rw[T.sz]at this;simpa using this
def TB.first(T:TB t es) (h:Int):∃N,N<10*turns t.mask/\¬In t (pr t.mask h N).j/\Way t h N:=by
 obtain⟨j,hj,hn⟩:=HQ T.ri T.nf;obtain⟨n,hlt,e⟩:=Q9 T.fu h hj;have key:∀n,¬In t (pr t.mask h n).j->∃N,N<=n/\¬In t (pr t.mask h N).j/\Way t h N:=by
  intro n;induction n using Nat.strongRecOn with
  |ind n ih=>intro hq;by_cases w:Way t h n;{exact⟨n,U5 _,hq,w⟩};obtain⟨m',q⟩:=Classical.not_forall.mp w;obtain⟨lt,q⟩:=Classical.not_imp.mp q;obtain⟨N,a,b,c⟩:=ih m' lt q;exact⟨N,by lia,b,c⟩
 obtain⟨N,a,b,c⟩:=key n (by rw[e];rintro⟨i,hi⟩;exact hn i hi);exact⟨N,by lia,b,c⟩
theorem Cv(hr:iO t.place)(hd:t.dummies=#[]){hashAt:Nat->Int}{h:Int}{N:Nat}(hN:¬In t (pr t.mask h N).j)(hw:Way t h N):∀(fuel n:Nat),n<=N->N-n<fuel->(probe.go t hashAt h fuel (pr t.mask h n)=some (.empty (pr t.mask h N).j none)/\∀m i:Nat,n<=m->m<N->t.place[i]?=some (pr t.mask h m).j->hashAt i≠h) \/ (∃m i:Nat,n<=m/\m<N/\t.place[i]?=some (pr t.mask h m).j/\hashAt i=h/\probe.go t hashAt h fuel (pr t.mask h n)=some (.candidate (pr t.mask h m).j i (pr t.mask h (m+1)))/\∀m' i':Nat,n<=m'->m'<m->t.place[i']?=some (pr t.mask h m').j->hashAt i'≠h)
 |0,n,h1,h2=>absurd h2 (W0 _)
 |fuel+1,n,h1,h2=>by
  unfold probe.go;by_cases e:n=N;{subst e;rw[Eb hr hd (λi q=>hN ⟨i,q⟩)];refine .inl ⟨?_,λm i a b=>by lia⟩;show some (Met.empty (pr t.mask h n).j (pr t.mask h n).dummy)=_;rw[Bb]};obtain⟨i,hi⟩:=hw n (by lia);rw[HU hr hi];dsimp only;by_cases q:hashAt i=h;{rw[if_pos (by rw[q];exact XT h)];exact .inr ⟨n,i,U5 _,by lia,hi,q,rfl,λm' i' a b=>by lia⟩};rw[if_neg (by simpa using q)];show(probe.go t hashAt h fuel (pr t.mask h (n+1))=_/\_)\/_;have other:∀i':Nat,t.place[i']?=some (pr t.mask h n).j->hashAt i'≠h:=λi' hi'=>by rw[hr.inj hi' hi];exact q
  rcases Cv hr hd (hashAt:=hashAt) hN hw fuel (n+1) (by lia) (by lia)with⟨a,b⟩|⟨m,i',c1,c2,c3,c4,c5,c6⟩;{refine .inl ⟨a,λm i' u v x=>?_⟩;by_cases z:m=n;{subst z;exact other i' x};exact b m i' (by lia) v x};refine .inr ⟨m,i',by lia,c2,c3,c4,c5,λm' i'' u v x=>?_⟩;by_cases z:m'=n;{subst z;exact other i'' x};exact c6 m' i'' (by lia) v x
theorem TB.freeSlot(T:TB t es){h:Int}{N:Nat}(hl:N<10*turns t.mask)(hN:¬In t (pr t.mask h N).j)(hw:Way t h N):t.freeSlot h=some ((pr t.mask h N).j,false):=by
 unfold SetTable.freeSlot;have z:=Cv T.ri T.du (hashAt:=λ_=>h+1) hN hw (10*turns t.mask) 0 (V3 _) (by lia);have e:t.probe (λ_=>h+1) h (t.probeStart h)=some (.empty (pr t.mask h N).j none):=by rcases z with⟨a,_⟩|⟨m,i,_,_,_,c,_⟩;{exact a};exact absurd c (by lia)
 rw[e];rfl
def Js(hr:iO xs) (j:Nat):below xs j<=xs.size:=(jd hr j).1
theorem TB.put(T:TB t es){N:Nat}(hl:N<10*turns t.mask)(hN:¬In t (pr t.mask e.1 N).j)(hw:Way t e.1 N)(room:es.size+1<=t.mask)(hjm:(pr t.mask e.1 N).j<=t.mask) : TB (t.put (pr t.mask e.1 N).j).1 (insertAt es (t.put (pr t.mask e.1 N).j).2 e):=by
 obtain⟨hb,hs⟩:=jd T.ri (pr t.mask e.1 N).j;have hb2:below t.place (pr t.mask e.1 N).j<=es.size:=by rw[<-T.sz];exact hb
 have nd:has t.dummies (pr t.mask e.1 N).j=false:=by
  unfold has;rw[T.du];simp
 have ep:(t.put (pr t.mask e.1 N).j).1={ t with place:=insertAt t.place (below t.place (pr t.mask e.1 N).j) (pr t.mask e.1 N).j }:=by
  unfold SetTable.put;dsimp only;rw[nd];rfl
 have ep2:(t.put (pr t.mask e.1 N).j).2=below t.place (pr t.mask e.1 N).j:=rfl;rw[ep,ep2];generalize hp:below t.place (pr t.mask e.1 N).j=p at *;generalize hj:(pr t.mask e.1 N).j=j at *;have g:=iZ hb j
 -- what was there is there
 have up:∀(i x:Nat),t.place[i]?=some x->∃i':Nat,(insertAt t.place p j)[i']?=some x:=λi x hx=>by
  by_cases q:i<p
  .exact⟨i,by rw[g,if_pos q];exact hx⟩
  .exact⟨i+1,by rw[g,if_neg (by lia),if_neg (by lia)];exact hx⟩
 have mine:(insertAt t.place p j)[p]?=some j:=by rw[g,if_neg (VC _),if_pos rfl]
 have down:∀(i x:Nat),(insertAt t.place p j)[i]?=some x->(i<p/\t.place[i]?=some x)\/(i=p/\x=j)\/(p<i/\t.place[i-1]?=some x):=λi x hx=>by
  rw[g]at hx
  by_cases q:i<p
  .rw[if_pos q]at hx;exact .inl ⟨q,hx⟩
  .rw[if_neg q]at hx
   by_cases q2:i=p
   .rw[if_pos q2]at hx;exact .inr (.inl ⟨q2,(Option.some.inj hx).symm⟩)
   .rw[if_neg q2]at hx;exact .inr (.inr ⟨by lia,hx⟩)
 have inUp:∀x,In t x->In { t with place:=insertAt t.place p j } x:=λx ⟨i,hi⟩=>up i x hi
 have noJ:∀(i:Nat),t.place[i]?≠some j:=λi q=>hN ⟨i,q⟩
 constructor
 .show(insertAt t.place p j).size=_;rw[mq hb,mq hb2,T.sz]
 .intro i k x y hik hx hy;rcases down i x hx with⟨a1,a2⟩|⟨a1,a2⟩|⟨a1,a2⟩<;>rcases down k y hy with⟨b1,b2⟩|⟨b1,b2⟩|⟨b1,b2⟩
  .exact T.ri i k x y hik a2 b2
  .rw[b2];exact(hs i x a2).mp a1
  .exact T.ri i (k-1) x y (by lia) a2 b2
  .lia
  .lia
  .rw[a2];have c:¬y<j:=λz=>by
    have:=(hs (k-1) y b2).mpr z;lia
   have d:y≠j:=λz=>noJ _ (z▸b2)
   lia
  .lia
  .lia
  .exact T.ri (i-1) (k-1) x y (by lia) a2 b2
 .intro i x hx;rcases down i x hx with⟨_,a2⟩|⟨_,a2⟩|⟨_,a2⟩
  .exact T.le _ _ a2
  .rw[a2];exact hjm
  .exact T.le _ _ a2
 .exact T.du
 .exact T.fu
 .exact T.od
 .show(insertAt t.place p j).size<=t.mask;rw[mq hb,T.sz];exact room
 .intro i x f hx hf;have gf:=iZ hb2 e i;rw[gf]at hf;have old:∀i0:Nat,t.place[i0]?=some x->es[i0]?=some f->∃m,m<10*turns t.mask/\(pr t.mask f.1 m).j=x/\Way { t with place:=insertAt t.place p j } f.1 m:=λi0 u v=>by
   obtain⟨m,c1,c2,c3⟩:=T.rc i0 x f u v;exact⟨m,c1,c2,λm' l=>inUp _ (c3 m' l)⟩
  rcases down i x hx with⟨a1,a2⟩|⟨a1,a2⟩|⟨a1,a2⟩
  .rw[if_pos a1]at hf;exact old i a2 hf
  .rw[if_neg (by lia),if_pos a1]at hf
   cases hf;exact⟨N,hl,by rw[a2];exact hj,λm' l=>inUp _ (hw m' l)⟩
  .rw[if_neg (by lia),if_neg (by lia)]at hf
   exact old (i-1) a2 hf
end
def pR{m i:Nat}(hi:i<=m):i+(runEnd m i-i)<=m:=by unfold runEnd;split<;>lia
theorem Lj(m:Nat) (h:Int):∀n,(pr m h n).j+(pr m h n).more<=m
 |0=>by have z:bits h%(m+1)<m+1:=Wm (bits h) (X4 m);show bits h%(m+1)+(runEnd m (bits h%(m+1))-bits h%(m+1))<=m;exact pR (by lia)
 |n+1=>by have ih:=Lj m h n;show(qg m (pr m h n)).j+(qg m (pr m h n)).more<=m;unfold qg;split;{dsimp only;lia};dsimp only;have:(leap m (pr m h n).i (pr m h n).perturb).1<m+1:=Wm _ (X4 m);exact pR (by lia)
def yF(m:Nat) (h:Int) (n:Nat):(pr m h n).j<=m:=by have:=Lj m h n;lia
def heads{m:Nat}(hf:full (m+1)=true) (h:Int){j:Nat}(hj:j<=m):∃k,k<turns m/\(run (m+1) (bits h) k).1=j:=by obtain⟨r,hr,e⟩:=A4 hf (z9 (b:=bits h) (X4 m) 12) (Yi hj);refine⟨12+r,?_,?_⟩;{unfold turns;lia};rw[wH (Cw h) (U5 _),e]
abbrev Own:=Array (Option Nat)
def Tk(o:Own) (j:Nat):Prop:=∃k,o[j]?=some (some k)
def AV(m:Nat)(o:Own) (h:Int) (n:Nat):Prop:=∀n',n'<n->Tk o (pr m h n').j
def getD_none{m:Nat}(hs:o.size=m+1){j:Nat}(hj:j<=m):(o.getD j (some 0)).isNone=true↔¬Tk o j:=by
 have g:o[j]?=some o[j]:=Vb (by lia);rw[W8,g];show(o[j]).isNone=true↔_;constructor;{rintro q⟨k,e⟩;rw[g]at e;rw[Option.some.inj e]at q;cases q};intro q;cases z:o[j]with
 |none=>rfl
 |some k=>exact absurd ⟨k,by rw[g,z]⟩ q
theorem yd{m:Nat}{h:Int}(hs:o.size=m+1):∀(fuel k n:Nat),sd m h n k->n<=10*k->AV m o h n->(∃k',k<=k'/\k'<k+fuel/\¬Tk o (run (m+1) (bits h) k').1)->∃N,N<10*(k+fuel)/\layClean.free m o fuel (run (m+1) (bits h) k).1 (run (m+1) (bits h) k).2=some (pr m h N).j/\¬Tk o (pr m h N).j/\AV m o h N
 |0,k,n,_,_,_,⟨k',a,b,_⟩=>by lia
 |fuel+1,k,n,a,hn,hw,⟨k',q1,q2,q3⟩=>by
  have hi:(run (m+1) (bits h) k).1<=m:=by have:=z9 (M:=m+1) (b:=bits h) (X4 m) k;lia
  have hre:=pR hi;have hle9:=xU m (run (m+1) (bits h) k).1;have hge:(run (m+1) (bits h) k).1<=runEnd m (run (m+1) (bits h) k).1:=by unfold runEnd;split<;>lia
  have pos:∀r,r<=runEnd m (run (m+1) (bits h) k).1-(run (m+1) (bits h) k).1->(pr m h (n+r)).j=(run (m+1) (bits h) k).1+r:=λr hr=>by rw[vo a r hr]
  unfold layClean.free;cases f:(List.range (runEnd m (run (m+1) (bits h) k).1+1-(run (m+1) (bits h) k).1)).find? (λk_1=>(o.getD ((run (m+1) (bits h) k).1+k_1) (some 0)).isNone)with
  |some r=>
   obtain⟨p1,i,hi',e1,e2⟩:=List.find?_eq_some_iff_getElem.mp f;rw[List.getElem_range]at e1;subst e1;have hlen:i<runEnd m (run (m+1) (bits h) k).1+1-(run (m+1) (bits h) k).1:=by simpa using hi'
   refine⟨n+i,by lia,?_,?_,λn' l=>?_⟩;{rw[pos i (by lia)]};{rw[pos i (by lia)];exact(getD_none hs (by lia)).mp p1};by_cases c:n'<n;{exact hw n' c};have e3:=e2 (n'-n) (by lia);rw[List.getElem_range]at e3;have e4:(!(o.getD ((run (m+1) (bits h) k).1+(n'-n)) (some 0)).isNone)=true:=e3;have z:¬(o.getD ((run (m+1) (bits h) k).1+(n'-n)) (some 0)).isNone=true:=λq=>by rw[q]at e4;cases e4
   have z2:=λq=>z ((getD_none hs (by lia)).mpr q);have z3:=Yk.mp z2;rw[show n'=n+(n'-n)by lia,pos (n'-n) (by lia)];exact z3
  |none=>
   have no:∀r,r<=runEnd m (run (m+1) (bits h) k).1-(run (m+1) (bits h) k).1->Tk o ((run (m+1) (bits h) k).1+r):=λr hr=>by have z:=List.find?_eq_none.mp f r (UX.mpr (by lia));exact Yk.mp λq=>z ((getD_none hs (by lia)).mpr q)
   have z:=vo a _ (U5 _);have a':sd m h (n+(runEnd m (run (m+1) (bits h) k).1-(run (m+1) (bits h) k).1)+1) (k+1):=by show qg m (pr m h (n+(runEnd m (run (m+1) (bits h) k).1-(run (m+1) (bits h) k).1)))=_;rw[z];unfold qg;rw[if_neg (show ¬(runEnd m (run (m+1) (bits h) k).1-(run (m+1) (bits h) k).1-(runEnd m (run (m+1) (bits h) k).1-(run (m+1) (bits h) k).1)>0)by lia)];rfl
   have w':AV m o h (n+(runEnd m (run (m+1) (bits h) k).1-(run (m+1) (bits h) k).1)+1):=λn' l=>by by_cases c:n'<n;{exact hw n' c};rw[show n'=n+(n'-n)by lia,pos (n'-n) (by lia)];exact no _ (by lia)
   have later:k+1<=k':=by
    rcases VV k k' with c|c;{exact c};have e:k'=k:=by lia
    subst e;exact absurd (by simpa using no 0 (V3 _)) q3
   obtain⟨N,c1,c2,c3,c4⟩:=yd hs fuel (k+1) _ a' (by lia) w' ⟨k',later,by lia,q3⟩;exact⟨N,by lia,c2,c3,c4⟩
def bZ(o:Own) (M:Nat):ZP:=(List.range M).filterMap λj=>(o.getD j none).map (j,·)
structure k7(m:Nat)(hs:Zc)(o:Own):Prop where
 sz:o.size=m+1
 pm:((bZ o (m+1)).map (·.2)).Perm (List.range hs.length)
 rc:∀(j k:Nat) (h:Int),o[j]?=some (some k)->hs[k]?=some h->∃n,n<10*turns m/\(pr m h n).j=j/\AV m o h n
 kl:∀j k:Nat,o[j]?=some (some k)->k<hs.length
def sJ{M j:Nat}(hj:j<M):List.range M=List.range j++j::List.range' (j+1) (M-j-1):=by rw[Yl,Yl,show(j::List.range' (j+1) (M-j-1))=List.range' j (M-j-1+1)from rfl];have e:=List.range'_append (s:=0) (m:=j) (n:=M-j-1+1) (step:=1);rw[Nat.one_mul,X7]at e;rw[e,show j+(M-j-1+1)=M by lia]
def uI{o:Own}{j x:Nat}(hj:j<o.size):(o.setIfInBounds j v).getD x none=if x=j then v else o.getD x none:=by rw[W8,W8,Ym];by_cases e:j=x;{subst e;rw[if_pos rfl,if_pos hj,if_pos rfl];rfl};rw[if_neg e,if_neg (λz=>e z.symm)]
theorem tU{f g:Nat->Option (Nat×Nat)}:∀{l:Zb},(∀x∈l,f x=g x)->l.filterMap f=l.filterMap g
 |[],_=>rfl
 |a::r,h=>by rw[VW,VW,h a U1,tU λx hx=>h x (U4 _ hx)]
def JL{m j k:Nat}(hs:o.size=m+1)(hj:j<=m)(hn:¬Tk o j):∃A B,bZ o (m+1)=A++B/\bZ (o.setIfInBounds j (some k)) (m+1)=A++(j,k)::B:=by
 have hnone:o.getD j none=none:=by
  have g:o[j]?=some o[j]:=Vb (by lia);rw[W8,g];show o[j]=none;cases z:o[j]with
  |none=>rfl
  |some k=>exact absurd ⟨k,by rw[g,z]⟩ hn
 refine⟨(List.range j).filterMap λx=>(o.getD x none).map (x,·),(List.range' (j+1) (m+1-j-1)).filterMap λx=>(o.getD x none).map (x,·),?_,?_⟩;{unfold bZ;rw[sJ (M:=m+1) (j:=j) (by lia),XW,VW,hnone];rfl};unfold bZ;rw[sJ (M:=m+1) (j:=j) (by lia),XW,VW,uI (by lia),if_pos rfl];show _++(j,k)::_=_;congr 1;{refine tU λx hx=>?_;have:=UX.mp hx;rw[uI (by lia),if_neg (by lia)]};congr 1;refine tU λx hx=>?_;have:=(List.mem_range'_1.mp hx).1;rw[uI (by lia),if_neg (by lia)]
def Hq{j k x:Nat}(h:Tk o x)(hn:¬Tk o j):Tk (o.setIfInBounds j (some k)) x:=by obtain⟨k',e⟩:=h;refine⟨k',?_⟩;have ne:j≠x:=λz=>hn ⟨k',by rw[z];exact e⟩;rw[Ym,if_neg ne];exact e
def k7.more{m:Nat}{h:Int}{N:Nat}(O:k7 m hs o)(hl:N<10*turns m)(hn:¬Tk o (pr m h N).j)(hw:AV m o h N):k7 m (hs++[h]) (o.setIfInBounds (pr m h N).j (some hs.length)):=by
 have hj:=yF m h N;have hjs:(pr m h N).j<o.size:=by rw[O.sz];lia
 have set:∀x,(o.setIfInBounds (pr m h N).j (some hs.length))[x]?=if(pr m h N).j=x then some (some hs.length)else o[x]?:=λx=>by rw[Ym];by_cases e:(pr m h N).j=x;{rw[if_pos e,if_pos hjs,if_pos e]};rw[if_neg e,if_neg e]
 refine⟨by rw[Array.size_setIfInBounds,O.sz],?_,λj k g hk hg=>?_,λj k hk=>?_⟩;{obtain⟨A,B,e1,e2⟩:=JL (k:=hs.length) O.sz hj hn;have p:=O.pm;rw[e1,V2]at p;rw[e2,V2,UI,UR,Wk,Y3];exact(List.perm_middle.trans (List.Perm.cons _ p)).trans (List.perm_append_singleton _ _).symm};{rw[set]at hk;by_cases e:(pr m h N).j=j;{rw[if_pos e]at hk;cases hk;rw[WI (U5 _),Nat.sub_self]at hg;cases hg;exact⟨N,hl,e,λn' l=>Hq (hw n' l) hn⟩};rw[if_neg e]at hk;have kl:=O.kl j k hk;rw[We kl]at hg;obtain⟨n,c1,c2,c3⟩:=O.rc j k g hk hg;exact⟨n,c1,c2,λn' l=>Hq (c3 n' l) hn⟩};rw[UR,Wk];rw[set]at hk;by_cases e:(pr m h N).j=j;{rw[if_pos e]at hk;cases hk;lia};rw[if_neg e]at hk;have:=O.kl j k hk;lia
theorem IC{f:Nat->Option (Nat×Nat)}:∀{l:Zb},(∀x∈l,∃y,f x=some y)->(l.filterMap f).length=l.length
 |[],_=>rfl
 |a::r,h=>by obtain⟨y,e⟩:=h a U1;rw[VW,e];show((r.filterMap f).length+1)=r.length+1;rw[IC λx hx=>h x (U4 _ hx)]
def pC{o:Own}{j k:Nat}:o.getD j none=some k↔o[j]?=some (some k):=by
 rw[W8];cases z:o[j]? with
 |none=>exact⟨λq=>(nomatch q),λq=>(nomatch q)⟩
 |some v=>exact⟨λq=>congrArg some q,λq=>Option.some.inj q⟩
def k7.room{m:Nat}{hs:Zc}(O:k7 m hs o)(hl:hs.length<=m):∃j,j<=m/\¬Tk o j:=by
 refine WK λno=>?_;have all:∀j,j<=m->Tk o j:=λj hj=>WK λq=>no ⟨j,hj,q⟩;have e:=O.pm.length_eq;rw[U7,UW]at e;unfold bZ at e;rw[IC (λx hx=>by
  obtain⟨k,hk⟩:=all x (by have:=UX.mp hx;lia)
  exact⟨(x,k),by rw[pC.mpr hk];rfl⟩),UW]at e
 lia
def rX(m:Nat)(acc:Option (Own×Nat)) (h:Int):Option (Own×Nat):=do
 let (owner,k) <-acc
 let j <-layClean.free m owner (turns m) (bits h%(m+1)) (bits h)
 pure (owner.setIfInBounds j (some k),k+1)
theorem AN{m:Nat}(hf:full (m+1)=true):∀(hs2 hs1:Zc)(o:Own),k7 m hs1 o->hs1.length+hs2.length<=m->∃o',hs2.foldl (rX m) (some (o,hs1.length))=some (o',(hs1++hs2).length)/\k7 m (hs1++hs2) o'
 |[],hs1,o,O,_=>⟨o,by rw[VF];rfl,by rw[VF];exact O⟩
 |h::r,hs1,o,O,hl=>by
  rw[UL]at hl;obtain⟨j0,hj0,n0⟩:=O.room (by lia);obtain⟨k',hk',e'⟩:=heads hf h hj0;obtain⟨N,c1,c2,c3,c4⟩:=yd (h:=h) O.sz (turns m) 0 0 rfl (U5 _) (λ_ l=>absurd l (W0 _)) ⟨k',V3 _,by lia,by rw[e'];exact n0⟩;have O2:=O.more (by lia) c3 c4;obtain⟨o',e1,O3⟩:=AN hf r (hs1++[h]) _ O2 (by rw[UR,Wk];lia);have st:rX m (some (o,hs1.length)) h=some (o.setIfInBounds (pr m h N).j (some hs1.length),hs1.length+1):=by show(layClean.free m o (turns m) (bits h%(m+1)) (bits h)).bind _=_;have c2:layClean.free m o (turns m) (bits h%(m+1)) (bits h)=some (pr m h N).j:=c2;rw[c2];rfl
  rw[Vd]at e1 O3;refine⟨o',?_,O3⟩;rw[Xx,st];rw[UR,Wk]at e1;exact e1
def ux{n j:Nat}:(Array.replicate n (none:Option Nat)).getD j none=none:=by rw[W8,Array.getElem?_replicate];split<;>rfl
def GA(m:Nat):k7 m [] (Array.replicate (m+1) none):=by
 refine⟨by rw[Array.size_replicate],?_,λj k h hk=>?_,λj k hk=>?_⟩
 .have e:bZ (Array.replicate (m+1) none) (m+1)=[]:=by unfold bZ;rw[List.filterMap_eq_nil_iff];intro x _;rw[ux];rfl
  rw[e];exact List.Perm.refl _
 .have:=pC.mpr hk;rw[ux]at this;cases this
 have:=pC.mpr hk;rw[ux]at this;cases this
def Bv{m:Nat}(hf:full (m+1)=true)(hl:hs.size<=m):∃o,layClean m hs=some o/\k7 m hs.toList o:=by obtain⟨o,e,O⟩:=AN hf hs.toList [] _ (GA m) (by simpa using hl);refine⟨o,?_,O⟩;have e2:layClean m hs=(hs.foldl (rX m) (some (Array.replicate (m+1) none,0))).map (·.1):=rfl;have e:hs.toList.foldl (rX m) (some (Array.replicate (m+1) none,0))=some (o,([]++hs.toList).length):=e;rw[e2,<-Array.foldl_toList,e];rfl
def tQ{o:Own}{M j k:Nat}:(j,k)∈bZ o M↔j<M/\o[j]?=some (some k):=by
 unfold bZ;rw[Xr];constructor
 .rintro⟨x,hx,e⟩;cases z:o.getD x none with
  |none=>rw[z]at e;cases e
  |some k'=>rw[z]at e;cases e;exact⟨UX.mp hx,pC.mp z⟩
 rintro⟨h1,h2⟩;exact⟨j,UX.mpr h1,by rw[pC.mpr h2];rfl⟩
theorem uo{o:Own}:∀(l:Zb),((l.filterMap λj=>(o.getD j none).map (j,·)).map (·.1))=l.filter λj=>(o.getD j none).isSome
 |[]=>rfl
 |a::r=>by
  rw[VW,W9];cases z:o.getD a none with
  |none=>exact uo r
  |some k=>show a::_=a::_;rw[<-uo r]
def Gi(o:Own) (M:Nat):iO ((bZ o M).map (·.1)).toArray:=by
 intro i k x y hik hx hy;have p:((bZ o M).map (·.1)).Pairwise (·<·):=by unfold bZ;rw[uo];exact(XX).filter _
 rw[Yn]at hx hy;obtain⟨h1,e1⟩:=VE.mp hx;obtain⟨h2,e2⟩:=VE.mp hy;rw[<-e1,<-e2];exact WM.mp p i k h1 h2 hik
theorem FN{α β:Type}{f:α->Option β}{g:α->β}:∀{l:List α},(∀x∈l,f x=some (g x))->l.filterMap f=l.map g
 |[],_=>rfl
 |a::r,h=>by rw[VW,h a U1,UI,FN λx hx=>h x (U4 _ hx)]
def JY{t:SetTable}{es:Array Ent}{wanted:Nat}(hf:full (sizeAbove wanted-1+1)=true)(ho:(sizeAbove wanted-1)%2=1)(hl:es.size<=sizeAbove wanted-1) : ∃es' t',relayAll t es wanted=(es',t',false)/\TB t' es'/\es'.toList.Perm es.toList/\t'.led=t.led/\t'.plain=t.plain/\t'.mask=sizeAbove wanted-1:=by
 obtain⟨o,e,O⟩:=Bv hf (hs:=es.map (·.1)) (by simpa using hl);generalize hm:sizeAbove wanted-1=m at *;have hn:(es.map (·.1)).toList.length=es.size:=by simp
 have pm:=O.pm;rw[hn]at pm;have order_lt:∀k∈(bZ o (m+1)).map (·.2),k<es.size:=λk hk=>UX.mp (pm.mem_iff.mp hk);have hg:∀k∈(bZ o (m+1)).map (·.2),es[k]?=some (es.getD k (0,.none)):=λk hk=>by have:=order_lt k hk;rw[W8,Vb this];rfl
 have esL:(((bZ o (m+1)).map (·.2)).toArray.filterMap (es[·]?)).toList=((bZ o (m+1)).map (·.2)).map λk=>es.getD k (0,.none):=by rw[Array.toList_filterMap];exact FN hg
 have len:(bZ o (m+1)).length=es.size:=by have:=pm.length_eq;rw[U7,UW]at this;exact this
 have es'sz:(((bZ o (m+1)).map (·.2)).toArray.filterMap (es[·]?)).size=es.size:=by rw[<-Vl,esL,U7,U7,len]
 have rel:t.relaid (es.map (·.1)) wanted=some ({ mask:=m,place:=((bZ o (m+1)).map (·.1)).toArray,dummies:=#[],finger:=t.finger,led:=t.led,moves:=t.movedTo m,plain:=t.plain },((bZ o (m+1)).map (·.2)).toArray):=by unfold relaid laid;rw[hm];show(layClean m (es.map (·.1))).bind _=_;rw[e];rfl
 have psz:((bZ o (m+1)).map (·.1)).toArray.size=es.size:=by rw[UO,U7,len]
 have T:TB { mask:=m,place:=((bZ o (m+1)).map (·.1)).toArray,dummies:=#[],finger:=t.finger,led:=t.led,moves:=t.movedTo m,plain:=t.plain } (((bZ o (m+1)).map (·.2)).toArray.filterMap (es[·]?)):=by
  have at_:∀(i j:Nat),((bZ o (m+1)).map (·.1)).toArray[i]?=some j->∃k,(bZ o (m+1))[i]?=some (j,k):=λi j h=>by
   rw[Yn,UK]at h;cases z:(bZ o (m+1))[i]? with
   |none=>rw[z]at h;cases h
   |some p=>rw[z]at h;obtain⟨a,b⟩:=p;cases h;exact⟨b,rfl⟩
  have inj:∀j k:Nat,o[j]?=some (some k)->j<=m->In { mask:=m,place:=((bZ o (m+1)).map (·.1)).toArray,dummies:=#[],finger:=t.finger,led:=t.led,moves:=t.movedTo m,plain:=t.plain } j:=λj k h hj=>by obtain⟨i,hi⟩:=W2 (tQ.mpr ⟨Yi hj,h⟩);refine⟨i,?_⟩;show((bZ o (m+1)).map (·.1)).toArray[i]?=some j;rw[Yn,UK,hi];rfl
  refine⟨by rw[es'sz];exact psz,Gi o (m+1),λi j h=>?_,rfl,hf,ho,by show _<=m;rw[psz];exact hl,λi j f h hf'=>?_⟩;{obtain⟨k,hk⟩:=at_ i j h;have:=(tQ.mp (V7 hk)).1;show j<=m;lia};obtain⟨k,hk⟩:=at_ i j h;have mem:=tQ.mp (V7 hk);have f1:(((bZ o (m+1)).map (·.2)).toArray.filterMap (es[·]?)).toList[i]?=some f:=by rw[VG];exact hf'
  rw[esL,UK,UK,hk]at f1;have f2:es.getD k (0,.none)=f:=Option.some.inj f1;have C1:k∈(bZ o (m+1)).map (·.2):=U9.mpr ⟨_,V7 hk,rfl⟩;have f3:=hg k C1;rw[f2]at f3;have f4:(es.map (·.1)).toList[k]?=some f.1:=by rw[VG,Array.getElem?_map,f3];rfl
  obtain⟨n,c1,c2,c3⟩:=O.rc j k f.1 mem.2 f4;refine⟨n,c1,c2,λn' l=>?_⟩;obtain⟨k',z⟩:=c3 n' l;exact inj _ k' z (yF m f.1 n')
 refine⟨_,_,?_,T,?_,rfl,rfl,rfl⟩;{unfold relayAll;rw[rel];dsimp only;rw[if_pos];rw[UJ];refine⟨?_,T.fits⟩;unfold coversAll;exact List.isPerm_iff.mpr pm};rw[esL];have p2:=pm.map λk=>es.getD k (0,.none);refine p2.trans (List.Perm.of_eq ?_);refine Vu λi=>?_;rw[UK];by_cases q:i<es.size;{rw[VQ q,VG,Vb q];show some (es.getD i (0,.none))=_;rw[W8,Vb q];rfl};rw[VD (by rw[UW];lia),VG,XU (by lia)];rfl
def Mg:full 16=true:=by decide+kernel
def M1:full 64=true:=by decide+kernel
def Jc:full 256=true:=by decide+kernel
def BB:∀n,n<=127->[8,16,32,64,128,256,512].contains (sizeAbove (grown n))=true/\n<sizeAbove (grown n):=by decide+kernel
def Nq{n:Nat}(hn:n<=127):full (sizeAbove (grown n)-1+1)=true/\(sizeAbove (grown n)-1)%2=1/\n<=sizeAbove (grown n)-1:=by
 obtain⟨h1,h2⟩:=BB n hn;generalize sizeAbove (grown n)=z at *;have:z=8\/z=16\/z=32\/z=64\/z=128\/z=256\/z=512:=by simpa using h1
 rcases this with rfl|rfl|rfl|rfl|rfl|rfl|rfl;{exact⟨GN,rfl,by lia⟩};{exact⟨Mg,rfl,by lia⟩};{exact⟨LC,rfl,by lia⟩};{exact⟨M1,rfl,by lia⟩};{exact⟨JM,rfl,by lia⟩};{exact⟨Jc,rfl,by lia⟩};exact⟨IS,rfl,by lia⟩
section
variable{prog:Program}{w:World}{K:Type} [DecidableEq K]{knd:KeyKind prog w K}{A:Around}{E:ZI}{s:Shared}{t:SetTable}{es:Array Ent}
def xh{p:Nat}(hp:p<=es.size)(e f:Ent):f∈(insertAt es p e).toList↔f=e\/f∈es.toList:=by constructor;{intro h;obtain⟨i,hi⟩:=W2 h;rw[VG,iZ hp]at hi;by_cases c:i<p;{rw[if_pos c]at hi;exact .inr (V7 (by rw[VG];exact hi))};rw[if_neg c]at hi;by_cases c2:i=p;{rw[if_pos c2]at hi;exact .inl (Option.some.inj hi).symm};rw[if_neg c2]at hi;exact .inr (V7 (by rw[VG];exact hi))};intro h;rcases h with rfl|h;{refine V7 (i:=p) ?_;rw[VG,iZ hp,if_neg (VC _),if_pos rfl]};obtain⟨i,hi⟩:=W2 h;rw[VG]at hi;by_cases c:i<p;{refine V7 (i:=i) ?_;rw[VG,iZ hp,if_pos c,hi]};refine V7 (i:=i+1) ?_;rw[VG,iZ hp,if_neg (by lia),if_neg (by lia),Nat.add_sub_cancel,hi]
def Ij:∀n,n<=127->n*5<(sizeAbove (grown n)-1)*3/\sizeAbove (grown n)<=512:=by decide+kernel
end
end SM
namespace L2
open PySem PySem.Spec PyProof.Rows
section
variable{X:Cx}
theorem oQ:∀{xs:List V}{us:ZW},Vals xs us->∀(i:Nat)(u:Value),us[i]?=some u->∃x,xs[i]?=some x/\RelV x u
 |_,_,.nil,i,u,h=>by cases h
 |_,_,.cons h r,0,u,e=>by cases e;exact⟨_,rfl,h⟩
 |_,_,.cons h r,i+1,u,e=>oQ r i u e
end
end L2
namespace L2
open PySem PySem.Spec PyProof.Rows PySem.SeqAt PySem.W
mutual
inductive mQ(K:ZR)(H:Hp):V->PyData->Prop
 |bw:mQ K H .bw .none
 |bl (b:Bool):mQ K H (.bl b) (.bool b)
 |int (i:Int):mQ K H (.int i) (.int i)
 |str (x:Str):mQ K H (.str x) (.str x)
 |lst {a:Addr}{xs:List V}{ds:ZU}:bI K H a xs->uK K H xs ds->mQ K H (.ref a) (.list ds)
 |tup {a:Addr}{xs:List V}{ds:ZU}:cP K H a xs->uK K H xs ds->mQ K H (.ref a) (.tuple ds)
inductive uK(K:ZR)(H:Hp):List V->ZU->Prop
 |nil:uK K H [] []
 |cons {x:V}{d:PyData}{xs:List V}{ds:ZU}:mQ K H x d->uK K H xs ds->uK K H (x::xs) (d::ds)
end
section
variable{X:Cx}{pins:ZL}{U:St}{H:Hp}{s:Shared}
mutual
theorem Inv.reads(I:Inv X pins U H s):∀{v:V}{d:PyData}{u:Value},mQ X.K H v d->RelV v u->∃as,Reads s.heap u d as
 |_,_,_,.bw,r=>by cases r;exact⟨_,.none⟩
 |_,_,_,.bl b,r=>by cases r;exact⟨_,.bool b⟩
 |_,_,_,.int i,r=>by obtain⟨t,rfl⟩:=r;exact⟨_,.int i t⟩
 |_,_,_,.str x,r=>by obtain⟨t,rfl⟩:=r;exact⟨_,.str x t⟩
 |_,_,_,.lst hq hs,r=>by cases r;obtain⟨its,rv,p,_⟩:=I.list hq;obtain⟨as,ra⟩:=I.readsAll hs rv;obtain⟨o,ho,hc,n,hd⟩:=p.isList;exact⟨_,.list ho hc hd (by simpa using ra)⟩
 |_,_,_,.tup hq hs,r=>by cases r;obtain⟨its,rv,p,_⟩:=I.tuple hq;obtain⟨as,ra⟩:=I.readsAll hs rv;obtain⟨o,ho,hc,n,hd⟩:=(show s.heap.IsTuple _ its.toArray from p);exact⟨_,.tuple ho hc hd (by simpa using ra)⟩
theorem Inv.readsAll(I:Inv X pins U H s):∀{vs:List V}{ds:ZU}{us:ZW},uK X.K H vs ds->Vals vs us->∃as,ReadsAll s.heap us ds as
 |_,_,_,.nil,r=>by cases r;exact⟨_,.nil⟩
 |_,_,_,.cons h hs,r=>by
  cases r with
  |cons r1 r2=>obtain⟨as,ra⟩:=I.reads h r1;obtain⟨bs,rb⟩:=I.readsAll hs r2;exact⟨_,.cons ra rb⟩
end
inductive KN(K:ZR)(neg:Bool) (x:V) (y:V)(H:Hp)(Q:VK):Prop
 |mk:∀d e,(mQ K H x d)->(mQ K H y e)->(shaped d=true)->(shaped e=true)->(noMix d e=true)->(Q (.bl (if neg then !same d e else same d e)) H)->KN K neg x y H Q
def JT(K:ZR)(neg:Bool):R2:=λx y H Q=>KN K neg x y H Q
def OZ(hu:X.A.units+64<cLine):b9 X (compareOp .Eq) (JT X.K false):=by intro pins s U H x y v u Q I rx ry h;obtain⟨d,e,h1,h2,s1,s2,nm,q⟩:=h;obtain⟨as,ra⟩:=I.reads h1 rx;obtain⟨bs,rb⟩:=I.reads h2 ry;exact eq_dataH_same ra rb s1 s2 hu nm ⟨.bl _,H,I,rfl,q⟩
def PN(hu:X.A.units+64<cLine):b9 X (compareOp .NotEq) (JT X.K true):=by intro pins s U H x y v u Q I rx ry h;obtain⟨d,e,h1,h2,s1,s2,nm,q⟩:=h;obtain⟨as,ra⟩:=I.reads h1 rx;obtain⟨bs,rb⟩:=I.reads h2 ry;exact ne_dataH_same ra rb s1 s2 hu nm ⟨.bl _,H,I,rfl,q⟩
end
end L2
namespace L2
open PySem PySem.Spec PyProof.Rows
section
variable{X:Cx}{e:Expr}{te:TE}
def G2(hc:X.calm=true):cI X (.builtin "all") (λxs H Q=>∃(a:Addr)(bs:ZY),xs=[.ref a]/\bI X.K H a (bs.map V.bl)/\Q (.bl (bs.all id)) H):=by
 intro pins s U H xs us Q I r h;obtain⟨a,bs,rfl,hq,q⟩:=h;obtain⟨u,rfl,ru⟩:=vals1 r;cases ru;obtain⟨its,rv,p,_⟩:=I.list hq;have hl:=p.isList;have hlt:a<s.heap.objs.size:=by obtain⟨o,ho,_⟩:=id hl;exact UG ho
 have hh:X.A.in1.handled=none:=by simp[I.ok.hd hc]
 refine call_all_walk (XY hl ?_);refine⟨_,_,_,_,_,_,λi=>bs.getD i false,rfl,Walks.list hh _ a (UH hlt) its.toArray,⟨⟨_,V8 _ rfl,rfl,rfl⟩,hl.push _⟩,λi v s' Q' E' hP hQ=>?_,λh' tk hk=>?_⟩
 .have hP':its[i]?=some v:=by simpa using hP
  obtain⟨x,hx,rx⟩:=oQ rv i v hP';rw[UK]at hx;cases e:bs[i]? with
  |none=>rw[e]at hx;cases hx
  |some b=>
   rw[e]at hx;cases hx;cases rx;have e2:bs.getD i false=b:=by rw[VJ,e];rfl
   dsimp only at hQ;rw[e2]at hQ;exact Wc hQ
 have kp:∀b o,s.heap.get? b=some o->h'.get? b=some o:=λb o hb=>hk b o (by
  have:=UG hb;simp only[U8];exact UH this) (UQ _ hb)
 have len:its.toArray.size=bs.length:=by rw[UO,<-rv.length,U7]
 refine⟨.bl _,H,I.kept (t':=tk) kp,rfl,?_⟩;have e:(List.range its.toArray.size).all (λi=>bs.getD i false)=bs.all id:=by rw[len];rw[Vv,US,US];constructor;{intro h b hb;obtain⟨i,hi⟩:=W2 hb;have:=h i (UX.mpr (VE.mp hi).1);rw[VJ,hi]at this;exact this};intro h i hi;have hi':=UX.mp hi;rw[VJ,V0 hi'];exact h _ (W3 hi')
 rw[e];exact q
end
end L2
namespace L2
open PySem PySem.Spec PyProof.Rows PySem.W Builtin Builtin.ObjectAttr
section
variable{X:Cx}{pins:ZL}{U:St}{H:Hp}{s:Shared}{a C:Addr}{dd:ZV}
def Kf:cI X (.builtin "isinstance") (λxs H Q=>∃x c t b,xs=[x,c]/\ir X.K H x t/\(∀u,RelV c u->kitOne X.K t u=some b)/\Q (.bl b) H):=by intro pins s U H xs us Q I r h;obtain⟨x,c,t,b,rfl,ty,k,q⟩:=h;obtain⟨u1,u2,rfl,ru1,ru2⟩:=r.two;exact Fc I ru1 ty (k u2 ru2) λtk=>⟨.bl b,H,I.tok tk,rfl,q⟩
variable{o e value:Expr}{f y:Str}{pos pos' yp apos:Pos}{ta tv:TE}{es:ZZ}{t:TA}
end
end L2
namespace L2
open PySem PySem.Spec PyProof.Rows
def cH{a:Addr}(h:H a=none):aj H (upd H a o):=λb u e=>by rw[aq (gY e h)];exact e
end L2
namespace Dv
open PySem L2 PySem.W
def bC:Key->PyData
 |.inl i=>.int i
 |.inr x=>.str x
def cu(K:Frag)(H:Hp)(a:Addr)(xs:List V):Prop:=Rd H a (.lst xs)\/∃(its:ZW) (n:Nat),K.lookup a=some { cls:=.type "list",data:=.seq its.toArray n }/\its.length<=sizeLine/\Vals xs its
def Rd.mono{a:Addr}(s:aj H H'):Rd H a u->Rd H' a u
 |.inl h=>.inl (s _ _ h)
 |.inr ⟨o,h⟩=>.inr ⟨o,s _ _ h⟩
theorem cu.mono{a:Addr}(s:aj H H'):cu K H a xs->cu K H' a xs
 |.inl h=>.inl (Rd.mono s h)
 |.inr h=>.inr h
def cu.sq{a:Addr}(h:cu K H a xs):bI K H a xs:=by rcases h with h|⟨its,n,hk,hl,r⟩;{exact .inl h};exact .inr ⟨_,its.toArray,n,hk,rfl,rfl,rfl,by rw[UO];exact hl,by simpa using r⟩
theorem cu.get{a:Addr}(I:L2.Inv X pins U H s)(h:cu X.K H a xs):xs.length<=sizeLine/\∃its n,Vals xs its/\s.heap.get? a=some { cls:=.type "list",data:=.seq its.toArray n }:=by rcases h with h|⟨its,n,hk,hl,r⟩;{obtain⟨z,its,n,r,e⟩:=h.ok I.hok;exact⟨z,its,n,r,e⟩};exact⟨by rw[r.length];exact hl,its,n,r,I.i7 a _ hk⟩
mutual
inductive Rp(K:Frag)(H:Hp):V->PyData->Prop
 |bw:Rp K H .bw .none
 |bl (b:Bool):Rp K H (.bl b) (.bool b)
 |int (i:Int):Rp K H (.int i) (.int i)
 |str (x:Str):Rp K H (.str x) (.str x)
 |lst {a:Addr}{xs:List V}{ds:ZU}:cu K H a xs->aC K H xs ds->Rp K H (.ref a) (.list ds)
 |tup {a:Addr}{xs:List V}{ds:ZU}:H a=some (.tup xs)->aC K H xs ds->Rp K H (.ref a) (.tuple ds)
 |dk {a:Addr}{kvs:List (Key×V)}{ds:ZG}:H a=some (.dK kvs)->fM K H kvs ds->Rp K H (.ref a) (.dict ds)
 |dt {a:Addr}{kvs:List (List Key×V)}{ds:ZG}:H a=some (.dT kvs)->fL K H kvs ds->Rp K H (.ref a) (.dict ((.none,.none)::ds))
 |exc {a C:Addr}{c:Str}:H a=some (.ext (oX a C none))->nsIn K mainGlobals c=some (some (.ref C))->Rp K H (.ref a) (.dict [(.none,.str c)])
inductive aC(K:Frag)(H:Hp):List V->ZU->Prop
 |nil:aC K H [] []
 |cons {x:V}{d:PyData}{xs:List V}{ds:ZU}:Rp K H x d->aC K H xs ds->aC K H (x::xs) (d::ds)
inductive fM(K:Frag)(H:Hp):List (Key×V)->List (PyData×PyData)->Prop
 |nil:fM K H [] []
 |cons {k:Key}{v:V}{d:PyData}{kvs:List (Key×V)}{ds:ZG}:Rp K H v d->fM K H kvs ds->fM K H ((k,v)::kvs) ((bC k,d)::ds)
inductive fL(K:Frag)(H:Hp):List (List Key×V)->List (PyData×PyData)->Prop
 |nil:fL K H [] []
 |cons {k:List Key}{v:V}{d:PyData}{kvs:List (List Key×V)}{ds:ZG}:Rp K H v d->fL K H kvs ds->fL K H ((k,v)::kvs) ((.tuple (k.map bC),d)::ds)
end
mutual
theorem Rp.mono(s:aj H H'):∀{v:V}{d:PyData},Rp K H v d->Rp K H' v d
 |_,_,.bw=>.bw
 |_,_,.bl b=>.bl b
 |_,_,.int i=>.int i
 |_,_,.str x=>.str x
 |_,_,.lst h r=>.lst (cu.mono s h) (r.mono s)
 |_,_,.tup h r=>.tup (s _ _ h) (r.mono s)
 |_,_,.dk h r=>.dk (s _ _ h) (r.mono s)
 |_,_,.dt h r=>.dt (s _ _ h) (r.mono s)
 |_,_,.exc h n=>.exc (s _ _ h) n
theorem aC.mono(s:aj H H'):∀{vs:List V}{ds:ZU},aC K H vs ds->aC K H' vs ds
 |_,_,.nil=>.nil
 |_,_,.cons h r=>.cons (h.mono s) (r.mono s)
theorem fM.mono(s:aj H H'):∀{kvs:List (Key×V)}{ds:ZG},fM K H kvs ds->fM K H' kvs ds
 |_,_,.nil=>.nil
 |_,_,.cons h r=>.cons (h.mono s) (r.mono s)
theorem fL.mono(s:aj H H'):∀{kvs:List (List Key×V)}{ds:ZG},fL K H kvs ds->fL K H' kvs ds
 |_,_,.nil=>.nil
 |_,_,.cons h r=>.cons (h.mono s) (r.mono s)
end
def nd:PyData->Bool
 |.list ds=>nds ds
 |.tuple ds=>nds ds
 |.dict _=>false
 |_=>true
where nds:ZU->Bool
 |[]=>true
 |d::ds=>nd d&&nds ds
mutual
theorem Rp.rj:∀{v:V}{d:PyData},Rp K H v d->nd d=true->mQ K H v d
 |_,_,.bw,_=>.bw
 |_,_,.bl b,_=>.bl b
 |_,_,.int i,_=>.int i
 |_,_,.str x,_=>.str x
 |_,_,.lst h r,e=>.lst h.sq (r.rj (by rw[nd]at e;exact e))
 |_,_,.tup h r,e=>.tup (cP.of h) (r.rj (by rw[nd]at e;exact e))
 |_,_,.dk _ _,e=>by rw[nd]at e;cases e
 |_,_,.dt _ _,e=>by rw[nd]at e;cases e
 |_,_,.exc _ _,e=>by rw[nd]at e;cases e
theorem aC.rj:∀{vs:List V}{ds:ZU},aC K H vs ds->nd.nds ds=true->uK K H vs ds
 |_,_,.nil,_=>.nil
 |_,_,.cons h r,e=>by rw[nd.nds,UJ]at e;exact .cons (h.rj e.1) (r.rj e.2)
end
def mW(H H':Hp):Prop:=∀a xs,H a=some (.tup xs)->H' a=some (.tup xs)
mutual
theorem Rp.lf(s:mW H H'):∀{v:V}{d:PyData},Rp K H v d->Dv.lf d=true->Rp K H' v d
 |_,_,.bw,_=>.bw
 |_,_,.bl b,_=>.bl b
 |_,_,.int i,_=>.int i
 |_,_,.str x,_=>.str x
 |_,_,.lst h r,e=>by rw[Dv.lf]at e;cases e
 |_,_,.tup h r,e=>by rw[Dv.lf]at e;exact .tup (s _ _ h) (r.lf s e)
 |_,_,.dk _ _,e=>by rw[Dv.lf]at e;cases e
 |_,_,.dt _ _,e=>by rw[Dv.lf]at e;cases e
 |_,_,.exc _ _,e=>by rw[Dv.lf]at e;cases e
theorem aC.lf(s:mW H H'):∀{vs:List V}{ds:ZU},aC K H vs ds->Dv.lf.lfs ds=true->aC K H' vs ds
 |_,_,.nil,_=>.nil
 |_,_,.cons h r,e=>by rw[Dv.lf.lfs,UJ]at e;exact .cons (h.lf s e.1) (r.lf s e.2)
end
section
variable{K:Frag}{H:Hp}
theorem aC.len:∀{vs:List V}{ds:ZU},aC K H vs ds->vs.length=ds.length
 |_,_,.nil=>rfl
 |_,_,.cons _ r=>congrArg (·+1) r.len
theorem aC.get:∀{vs:List V}{ds:ZU}{i:Nat}{d:PyData},aC K H vs ds->ds[i]?=some d->∃v,vs[i]?=some v/\Rp K H v d
 |_,_,_,_,.nil,e=>by simp at e
 |_,_,0,_,.cons h _,e=>by simp at e;subst e;exact⟨_,rfl,h⟩
 |_,_,i+1,_,.cons _ r,e=>r.get (i:=i) (by simpa using e)
theorem aC.P5:∀{vs:List V}{ds:ZU}{i:Nat}{v:V},aC K H vs ds->vs[i]?=some v->∃d,ds[i]?=some d/\Rp K H v d
 |_,_,_,_,.nil,e=>by simp at e
 |_,_,0,_,.cons h _,e=>by simp at e;subst e;exact⟨_,rfl,h⟩
 |_,_,i+1,_,.cons _ r,e=>r.P5 (i:=i) (by simpa using e)
theorem aC.app:∀{vs us:List V}{ds es:ZU},aC K H vs ds->aC K H us es->aC K H (vs++us) (ds++es)
 |_,_,_,_,.nil,s=>s
 |_,_,_,_,.cons h r,s=>.cons h (r.app s)
def aC.snoc(r:aC K H vs ds)(h:Rp K H v d):aC K H (vs++[v]) (ds++[d]):=r.app (.cons h .nil)
theorem aC.take:∀{vs:List V}{ds:ZU} (n:Nat),aC K H vs ds->aC K H (vs.take n) (ds.take n)
 |_,_,0,_=>.nil
 |_,_,_+1,.nil=>.nil
 |_,_,n+1,.cons h r=>.cons h (r.take n)
theorem aC.drop:∀{vs:List V}{ds:ZU} (n:Nat),aC K H vs ds->aC K H (vs.drop n) (ds.drop n)
 |_,_,0,r=>r
 |_,_,_+1,.nil=>.nil
 |_,_,n+1,.cons _ r=>r.drop n
theorem aC.set(h:Rp K H v d):∀{vs:List V}{ds:ZU} (i:Nat),aC K H vs ds->aC K H (vs.set i v) (ds.set i d)
 |_,_,_,.nil=>.nil
 |_,_,0,.cons _ r=>.cons h r
 |_,_,i+1,.cons g r=>.cons g (r.set h i)
theorem aC.rev:∀{vs:List V}{ds:ZU},aC K H vs ds->aC K H vs.reverse ds.reverse
 |_,_,.nil=>.nil
 |_,_,.cons h r=>by rw[List.reverse_cons,List.reverse_cons];exact r.rev.snoc h
end
inductive ff(K:Frag)(H Hm:Hp):List V->ZU->ZX->Prop
 |nil:ff K H Hm [] [] []
 |lM {x:V}{d:PyData}{xs:List V}{ds:ZU}{fp:ZX}:CP d=false->Rp K Hm x d->ff K H Hm xs ds fp->ff K H Hm (x::xs) (d::ds) fp
 |own {b:Addr}{ys:List V}{es:ZU}{xs:List V}{ds:ZU}{fp:ZX}:H b=some (.lst ys)->aC K Hm ys es->b∉fp->ff K H Hm xs ds fp->ff K H Hm (.ref b::xs) (.list es::ds) (b::fp)
inductive kD(K:Frag)(H Hm:Hp):List (List Key×V)->List (PyData×PyData)->ZX->Prop
 |nil:kD K H Hm [] [] []
 |own {k:List Key}{b:Addr}{ys:List V}{es:ZU}{kvs:List (List Key×V)}{ds:ZG}{fp:ZX}:H b=some (.lst ys)->aC K Hm ys es->b∉fp->kD K H Hm kvs ds fp->kD K H Hm ((k,.ref b)::kvs) ((.tuple (k.map bC),.list es)::ds) (b::fp)
inductive Own(K:Frag)(H Hm:Hp):Kd->V->PyData->ZX->Prop
 |sh {v:V}{d:PyData}:Rp K Hm v d->Own K H Hm .sh v d []
 |ow {p:Bool}{a:Addr}{xs:List V}{ds:ZU}:H a=some (.lst xs)->aC K Hm xs ds->Own K H Hm (.ow p) (.ref a) (.list ds) [a]
 |dp {p:Bool}{a:Addr}{xs:List V}{ds:ZU}{fp:ZX}:H a=some (.lst xs)->a∉fp->ff K H Hm xs ds fp->Own K H Hm (.dp p) (.ref a) (.list ds) (a::fp)
 |dk {p:Bool}{a:Addr}{kvs:List (Key×V)}{ds:ZG}:H a=some (.dK kvs)->fM K Hm kvs ds->Own K H Hm (.dk p) (.ref a) (.dict ds) [a]
 |dt {p:Bool}{a:Addr}{kvs:List (List Key×V)}{ds:ZG}:H a=some (.dT kvs)->fL K Hm kvs ds->Own K H Hm (.dt p) (.ref a) (.dict ((.none,.none)::ds)) [a]
 |st {p:Bool}{a:Addr}{kvs:List (List Key×V)}{ds:ZG}{fp:ZX}:H a=some (.dT kvs)->a∉fp->kD K H Hm kvs ds fp->Own K H Hm (.st p) (.ref a) (.dict ((.none,.none)::ds)) (a::fp)
section
variable{K:Frag}{H H' Hm Hm':Hp}
def ff.step(s:aj Hm Hm'){xs:List V}{ds:ZU}{fp:ZX}(i:ff K H Hm xs ds fp):(∀a∈fp,H' a=H a)->ff K H' Hm' xs ds fp:=by
 induction i with
 |nil=>exact λ_=>.nil
 |lM e r _ ih=>exact λh=>.lM e (r.mono s) (ih h)
 |own e r n _ ih=>exact λh=>.own ((h _ U1).trans e) (r.mono s) n (ih λa ha=>h a (U4 _ ha))
def ff.live(i:ff K H Hm xs ds fp):∀a∈fp,∃ys,H a=some (.lst ys):=by
 induction i with
 |nil=>exact λ_ h=>absurd h UM
 |lM _ _ _ ih=>exact ih
 |own e _ _ _ ih=>intro a h;rcases U6.mp h with rfl|h;{exact⟨_,e⟩};exact ih a h
def kD.step(s:aj Hm Hm'){xs:List (List Key×V)}{ds:ZG}{fp:ZX}(i:kD K H Hm xs ds fp):(∀a∈fp,H' a=H a)->kD K H' Hm' xs ds fp:=by
 induction i with
 |nil=>exact λ_=>.nil
 |own e r n _ ih=>exact λh=>.own ((h _ U1).trans e) (r.mono s) n (ih λa ha=>h a (U4 _ ha))
def kD.live(i:kD K H Hm xs ds fp):∀a∈fp,∃ys,H a=some (.lst ys):=by
 induction i with
 |nil=>exact λ_ h=>absurd h UM
 |own e _ _ _ ih=>intro a h;rcases U6.mp h with rfl|h;{exact⟨_,e⟩};exact ih a h
theorem Own.step{k:Kd}{v:V}{d:PyData}{fp:ZX}(o:Own K H Hm k v d fp)(s:aj Hm Hm')(h:∀a∈fp,H' a=H a):Own K H' Hm' k v d fp:=by
 cases o with
 |sh r=>exact .sh (r.mono s)
 |ow e r=>exact .ow ((h _ U1).trans e) (r.mono s)
 |dp e n t=>exact .dp ((h _ U1).trans e) n (t.step s λa ha=>h a (U4 _ ha))
 |dk e r=>exact .dk ((h _ U1).trans e) (r.mono s)
 |dt e r=>exact .dt ((h _ U1).trans e) (r.mono s)
 |st e n t=>exact .st ((h _ U1).trans e) n (t.step s λa ha=>h a (U4 _ ha))
def sZ(u:HO):Prop:=∀xs,u≠.tup xs
def mC:sZ (.lst xs):=λ_ z=>by cases z
def xO:sZ (.dK xs):=λ_ z=>by cases z
def tN:sZ (.dT xs):=λ_ z=>by cases z
theorem Own.live(o:Own K H Hm k v d fp):∀a∈fp,∃u,H a=some u/\sZ u:=by
 intro a ha;cases o with
 |sh _=>cases ha
 |ow e _=>rw[U8.mp ha];exact⟨_,e,by first|exact mC|exact xO|exact tN⟩
 |dp e _ t=>rcases U6.mp ha with rfl|ha;{exact⟨_,e,by first|exact mC|exact xO|exact tN⟩};obtain⟨ys,e⟩:=t.live a ha;exact⟨_,e,by first|exact mC|exact xO|exact tN⟩
 |dk e _=>rw[U8.mp ha];exact⟨_,e,by first|exact mC|exact xO|exact tN⟩
 |dt e _=>rw[U8.mp ha];exact⟨_,e,by first|exact mC|exact xO|exact tN⟩
 |st e _ t=>rcases U6.mp ha with rfl|ha;{exact⟨_,e,by first|exact mC|exact xO|exact tN⟩};obtain⟨ys,e⟩:=t.live a ha;exact⟨_,e,by first|exact mC|exact xO|exact tN⟩
def ff.Uy(s:aj Hm Hm')(i:ff K H Hm xs ds fp):(∀a∈fp,Hm' a=H a)->aC K Hm' xs ds:=by
 induction i with
 |nil=>exact λ_=>.nil
 |lM _ r _ ih=>exact λh=>.cons (r.mono s) (ih h)
 |own e r _ _ ih=>exact λh=>.cons (.lst (.inl (.inl ((h _ U1).trans e))) (r.mono s)) (ih λa ha=>h a (U4 _ ha))
def Own.rp(o:Own K H Hm k v d fp)(hk:k.rd=true)(s:aj Hm Hm')(h:∀a∈fp,Hm' a=H a):Rp K Hm' v d:=by
 cases o with
 |sh r=>exact r.mono s
 |ow e r=>exact .lst (.inl (.inl ((h _ U1).trans e))) (r.mono s)
 |dp e _ t=>exact .lst (.inl (.inl ((h _ U1).trans e))) (t.Uy s λa ha=>h a (U4 _ ha))
 |dk e r=>exact .dk ((h _ U1).trans e) (r.mono s)
 |dt e r=>exact .dt ((h _ U1).trans e) (r.mono s)
 |st _ _ _=>cases hk
def aC.AR(s:mW Hm Hm')(r:aC K Hm xs ds)(h:ds.all Dv.lf=true):aC K Hm' xs ds:=r.lf s (by rw[vW];exact h)
theorem ff.flat(s:mW Hm Hm'):∀{xs:List V}{ds:ZU}{fp:ZX},ff K H Hm xs ds fp->(ds.all λd=>match d with | .list es=>es.all Dv.lf|d=>Dv.lf d)=true->ff K H Hm' xs ds fp
 |_,_,_,.nil,_=>.nil
 |_,_,_,.lM (d:=d) e r t,h=>by rw[UU,UJ]at h;refine .lM e (r.lf s ?_) (t.flat s h.2);have h1:=h.1;cases d<;>first|exact h1|cases e
 |_,_,_,.own e r n t,h=>by rw[UU,UJ]at h;exact .own e (r.AR s h.1) n (t.flat s h.2)
theorem fM.flat(s:mW Hm Hm'):∀{kvs:List (Key×V)}{ds:ZG},fM K Hm kvs ds->(ds.all λkv=>Dv.lf kv.2)=true->fM K Hm' kvs ds
 |_,_,.nil,_=>.nil
 |_,_,.cons r t,h=>by rw[UU,UJ]at h;exact .cons (r.lf s h.1) (t.flat s h.2)
theorem fL.flat(s:mW Hm Hm'):∀{kvs:List (List Key×V)}{ds:ZG},fL K Hm kvs ds->(ds.all λkv=>Dv.lf kv.2)=true->fL K Hm' kvs ds
 |_,_,.nil,_=>.nil
 |_,_,.cons r t,h=>by rw[UU,UJ]at h;exact .cons (r.lf s h.1) (t.flat s h.2)
theorem Own.flat(o:Own K H Hm k v d fp)(s:mW Hm Hm')(h:Dv.flat k d=true):Own K H Hm' k v d fp:=by
 cases o with
 |sh r=>exact .sh (r.lf s h)
 |ow e r=>exact .ow e (r.AR s h)
 |dp e n t=>exact .dp e n (t.flat s h)
 |dk e r=>exact .dk e (r.flat s h)
 |dt e r=>have h:(Dv.lf .none&&_)=true:=h;rw[UJ]at h;exact .dt e (r.flat s h.2)
 |st _ _ _=>cases h
end
def OE(o p:Option HO):Prop:=o=p\/(p=none/\∃xs,o=some (.tup xs))
def OE.rfl':OE o o:=.inl rfl
def OE.trans(h:OE a b)(k:OE b c):OE a c:=by rcases h with rfl|⟨rfl,h⟩;{exact k};rcases k with rfl|⟨rfl,_⟩;{exact .inr ⟨rfl,h⟩};exact .inr ⟨rfl,h⟩
def OE.off{a:Addr}(h:OE (Hm a) p)(hp:p=none)(s:aj Hm H)(hu:H a=some u)(nt:sZ u):Hm a=none:=by rcases h with e|⟨_,xs,e⟩;{rw[e,hp]};have:=s _ _ e;rw[hu]at this;cases this;exact absurd rfl (nt xs)
structure Gh where
 H0:Hp
 fN:Hp
 pins:List (Nat×Addr)
def Gh.M(g:Gh):ZX:=g.pins.map (·.2)
structure Rl(K:Frag)(g:Gh)(E:En)(U:St)(H Hm:Hp)(F:Nat->ZX):Prop where
 len:E.length=U.length
 sub:aj Hm H
 slot:∀i k d,E[i]?=some (some (k,d))->∃v,U[i]?=some (some v)/\Own K H Hm k v d (F i)
 off:∀i a,a∈F i->Hm a=none
 bT:∀i a,a∈F i->∃u,H a=some u/\sZ u
 aV:∀i j a,a∈F i->a∈F j->i=j
 fr:∀p o,p∉g.M->g.H0 p=some o->H p=some o
 new:∀i a,a∈F i->a∈g.M\/g.H0 a=none
 pin:∀q∈g.pins,U[q.1]?=some (some (.ref q.2))/\∃ds,E[q.1]?=some (some (.ow true,.list ds))
 old:∀a,g.H0 a≠none->OE (Hm a) (g.fN a)
structure Tm(K:Frag)(g:Gh)(F:Nat->ZX)(H Hm:Hp)(k:Kd) (v:V)(d:PyData)(fp:ZX):Prop where
 own:Own K H Hm k v d fp
 off:∀a∈fp,Hm a=none
 aV:∀a∈fp,∀i,a∉F i
 new:∀a∈fp,g.H0 a=none
section
variable{K:Frag}{g:Gh}{E:En}{U:St}{H H' Hm Hm':Hp}{F:Nat->ZX}
def Rl.grow(R:Rl K g E U H Hm F)(h:aj H H')(s:aj Hm Hm')(b:aj Hm' H')(o:∀i a,a∈F i->Hm' a=none)(od:∀a,g.H0 a≠none->OE (Hm' a) (Hm a)):Rl K g E U H' Hm' F where
 len:=R.len
 sub:=b
 slot:=λi k d e=>by
  obtain⟨v,h1,h2⟩:=R.slot i k d e;refine⟨v,h1,h2.step s λa ha=>?_⟩
  obtain⟨u,hu,_⟩:=h2.live a ha;rw[hu];exact h _ _ hu
 off:=o
 bT:=λi a ha=>let⟨u,hu,n⟩:=R.bT i a ha;⟨u,h _ _ hu,n⟩
 aV:=R.aV
 fr:=λp o hp ho=>h _ _ (R.fr p o hp ho)
 new:=R.new
 pin:=R.pin
 old:=λa ha=>(od a ha).trans (R.old a ha)
def Rl.more(R:Rl K g E U H Hm F)(s:aj Hm Hm')(b:aj Hm' H)(o:∀i a,a∈F i->Hm' a=none)(od:∀a,g.H0 a≠none->OE (Hm' a) (Hm a)):Rl K g E U H Hm' F:=R.grow (aj.refl _) s b o od
def Rl.Dz(R:Rl K g E U H Hm F)(hq:q∈g.pins):F q.1=[q.2]:=by obtain⟨h1,ds,h2⟩:=R.pin q hq;obtain⟨v,h3,h4⟩:=R.slot _ _ _ h2;rw[h1]at h3;cases h3;generalize F q.1=fi at h4;cases h4;rfl
def Rl.notM(R:Rl K g E U H Hm F){i:Nat}(e:E[i]?=some (some (k,d)))(hk:k.pin=false){a:Addr}(ha:a∈F i):g.H0 a=none:=by rcases R.new i a ha with m|m;{obtain⟨q,hq,rfl⟩:=U9.mp m;have:=R.aV i q.1 q.2 ha (by rw[R.Dz hq];exact U1);obtain⟨_,ds,h2⟩:=R.pin q hq;rw[<-this,e]at h2;cases h2;cases hk};exact m
def Rl.RQ(R:Rl K g E U H Hm F){a:Addr}(ha:a∈g.M):H a≠none:=λz=>by obtain⟨q,hq,rfl⟩:=U9.mp ha;obtain⟨u,hu,_⟩:=R.bT q.1 q.2 (by rw[R.Dz hq];exact U1);rw[z]at hu;cases hu
def Rl.uQ(R:Rl K g E U H Hm F){a:Addr}(ha:g.H0 a≠none):H a≠none:=λz=>by
 by_cases m:a∈g.M;{exact R.RQ m z};cases e:g.H0 a with
 |none=>exact ha e
 |some o=>rw[R.fr a o m e]at z;cases z
def Rl.fresh(R:Rl K g E U H Hm F){p:Addr}(h:H p=none){i:Nat}:p∉F i:=λz=>by obtain⟨u,hu,_⟩:=R.bT i p z;rw[h]at hu;cases hu
def Rl.oF(R:Rl K g E U H Hm F){p:Addr}(h:H p=none):Hm p=none:=by
 cases e:Hm p with
 |none=>rfl
 |some o=>rw[R.sub _ _ e]at h;cases h
def Rl.gj(R:Rl K g E U H Hm F){p:Addr}(h:H p=none):g.H0 p=none:=by
 cases e:g.H0 p with
 |none=>rfl
 |some o=>exact absurd h (R.uQ (by rw[e];simp))
end
open Classical in
def lend(Hm H:Hp)(fp:ZX):Hp:=λa=>if a∈fp then H a else Hm a
open Classical in
def back(Hm:Hp)(fp:ZX):Hp:=λa=>if a∈fp then none else Hm a
section
variable{Hm H:Hp}{fp:ZX}{a:Addr}
def eN(h:a∈fp):lend Hm H fp a=H a:=by unfold lend;rw[if_pos h]
def cW(h:a∉fp):lend Hm H fp a=Hm a:=by unfold lend;rw[if_neg h]
def jX(h:a∈fp):back Hm fp a=none:=by unfold back;rw[if_pos h]
def dJ(h:a∉fp):back Hm fp a=Hm a:=by unfold back;rw[if_neg h]
def i6(n:∀a∈fp,Hm a=none):aj Hm (lend Hm H fp):=λb o e=>by
 have:b∉fp:=λz=>by rw[n b z]at e;cases e
 rw[cW this];exact e
def jJ(s:aj Hm H):aj (lend Hm H fp) H:=λb o e=>by by_cases h:b∈fp;{rw[eN h]at e;exact e};rw[cW h]at e;exact s _ _ e
def zf(s:aj Hm H):aj (back Hm fp) H:=λb o e=>by by_cases h:b∈fp;{rw[jX h]at e;cases e};rw[dJ h]at e;exact s _ _ e
end
section
variable{K:Frag}{g:Gh}{E:En}{U:St}{H H' Hm Hm':Hp}{F:Nat->ZX}{k:Kd}{v:V}{d:PyData}{fp:ZX}
def Tm.cL(T:Tm K g F H Hm k v d fp)(R:Rl K g E U H Hm F)(hk:k.fz=true):∃Hm',aj Hm Hm'/\Rl K g E U H Hm' F/\Rp K Hm' v d:=by have up:=i6 (Hm:=Hm) (H:=H) T.off;refine⟨lend Hm H fp,up,R.more up (jJ R.sub) (λi a ha=>?_) λa ha=>.inl (cW λz=>ha (T.new a z)),T.own.rp (by cases k<;>first|rfl|cases hk) up λa ha=>eN ha⟩;rw[cW λz=>T.aV a z i ha];exact R.off i a ha
def aJ{α:Type}{l:List α}{i:Nat}{a:α}(h:i<l.length):(l.set i a)[i]?=some a:=by rw[Wv];simp[h]
def au{α:Type}{l:List α}{i j:Nat}{a:α}(h:i≠j):(l.set i a)[j]?=l[j]?:=by rw[Wv];simp[h]
def Rl.put(R:Rl K g E U H Hm F)(T:Tm K g F H Hm k v d fp){i:Nat}(o:bR E i=true):Rl K g (E.set i (some (k,d))) (U.set i (some v)) H Hm (λj=>if j=i then fp else F j) where
 len:=by rw[VP,VP];exact R.len
 sub:=R.sub
 slot:=λj k' d' e=>by
  by_cases c:j=i
  .subst c;have hl:j<E.length:=by
    rcases VV j E.length with h|h
    .exact h
    .rw[VD (by rw[VP];exact h)]at e;cases e
   rw[aJ hl]at e;cases e;exact⟨v,aJ (R.len▸hl),by rw[if_pos rfl];exact T.own⟩
  .rw[au (Ne.symm c)]at e;obtain⟨u,h1,h2⟩:=R.slot j k' d' e;exact⟨u,by rw[au (Ne.symm c)];exact h1,by rw[if_neg c];exact h2⟩
 off:=λj a ha=>by
  by_cases c:j=i
  .rw[if_pos c]at ha;exact T.off a ha
  .rw[if_neg c]at ha;exact R.off j a ha
 bT:=λj a ha=>by
  by_cases c:j=i
  .rw[if_pos c]at ha;exact T.own.live a ha
  .rw[if_neg c]at ha;exact R.bT j a ha
 aV:=λj l a h1 h2=>by
  by_cases c:j=i
  .rw[if_pos c]at h1
   by_cases c':l=i
   .rw[c,c']
   .rw[if_neg c']at h2;exact absurd h2 (T.aV a h1 l)
  .rw[if_neg c]at h1
   by_cases c':l=i
   .rw[if_pos c']at h2;exact absurd h1 (T.aV a h2 j)
   .rw[if_neg c']at h2;exact R.aV j l a h1 h2
 fr:=R.fr
 new:=λj a ha=>by
  by_cases c:j=i
  .rw[if_pos c]at ha;exact .inr (T.new a ha)
  .rw[if_neg c]at ha;exact R.new j a ha
 pin:=λq hq=>by
  obtain⟨h1,ds,h2⟩:=R.pin q hq;have c:i≠q.1:=λz=>by
   unfold bR at o;rw[z,h2]at o;cases o
  exact⟨by rw[au c];exact h1,ds,by rw[au c];exact h2⟩
 old:=R.old
theorem Tm.sh(h:Rp K Hm v d):Tm K g F H Hm .sh v d []:=⟨.sh h,(λ_ z=>by cases z),(λ_ z=>by cases z),λ_ z=>by cases z⟩
def Rl.chg(R:Rl K g E U H Hm F){i:Nat}{p:Bool}{ds es:ZU}{ys:List V}(e:E[i]?=some (some (.ow p,.list ds)))(r:aC K Hm ys es):∃a xs,U[i]?=some (some (.ref a))/\H a=some (.lst xs)/\aC K Hm xs ds/\Hm a=none/\Rl K g (E.set i (some (.ow p,.list es))) U (upd H a (.lst ys)) Hm F:=by
 obtain⟨v,h1,h2⟩:=R.slot i _ _ e;generalize hf:F i=fi at h2;cases h2 with
 |@ow _ a xs _ ha hr=>
  have ma:a∈F i:=by rw[hf];exact U1
  have na:=R.off i a ma;have up:∀b,b≠a->upd H a (.lst ys) b=H b:=λb hb=>aq hb;have li:i<E.length:=by rcases VV i E.length with h|h;{exact h};rw[VD h]at e;cases e
  refine⟨a,xs,h1,ha,hr,na,?_⟩;exact {
   len:=by rw[VP];exact R.len
   sub:=λb o hb=>by
    have:b≠a:=λz=>by rw[z,na]at hb;cases hb
    rw[up b this];exact R.sub b o hb
   slot:=λj k' d' e'=>by
    by_cases c:j=i
    .subst c;rw[aJ li]at e';cases e';exact⟨_,h1,by rw[hf];exact .ow aH r⟩
    .rw[au (Ne.symm c)]at e';obtain⟨u,g1,g2⟩:=R.slot j k' d' e';refine⟨u,g1,g2.step (aj.refl _) λb hb=>up b λz=>c (R.aV j i a (z▸hb) ma)⟩
   off:=R.off
   bT:=λj b hb=>by
    by_cases c:b=a
    .rw[c];exact⟨_,aH,mC⟩
    .rw[up b c];exact R.bT j b hb
   aV:=R.aV
   fr:=λq o hq ho=>by
    have:q≠a:=λz=>by
     rcases R.new i a ma with y|y
     .exact hq (z▸y)
     .rw[z,y]at ho;cases ho
    rw[up q this];exact R.fr q o hq ho
   new:=R.new
   pin:=λq hq=>by
    obtain⟨g1,ds',g2⟩:=R.pin q hq
    by_cases c:i=q.1
    .rw[<-c]at g1 g2⊢;rw[e]at g2;cases g2;exact⟨g1,es,aJ li⟩
    .exact⟨g1,ds',by rw[au c];exact g2⟩
   old:=R.old }
theorem Rl.dm(R:Rl K g E U H Hm F){i:Nat}{E':En}{d:PyData}{k:Kd}(e:E[i]?=some (some (k,d)))(h:Dv.dm E i=some E'):∃v Hm' F',U[i]?=some (some v)/\aj Hm Hm'/\Rl K g E' U H Hm' F'/\Rp K Hm' v d:=by
 unfold Dv.dm at h;rw[e]at h;have h:(if k.fz=true then some (E.set i (some (.sh,d)))else none)=some E':=h;by_cases hk:k.fz=true
 .rw[if_pos hk]at h;cases h;obtain⟨v,h1,h2⟩:=R.slot i k d e;have up:=i6 (Hm:=Hm) (H:=H) (fp:=F i) (R.off i);have rp:=h2.rp (by cases k<;>first|rfl|cases hk) up λa ha=>eN ha;have li:i<E.length:=by rcases VV i E.length with h|h;{exact h};rw[VD h]at e;cases e
  refine⟨v,lend Hm H (F i),λj=>if j=i then []else F j,h1,up,?_,rp⟩;exact {
   len:=by rw[VP];exact R.len
   sub:=jJ R.sub
   slot:=λj k' d' e'=>by
    by_cases c:j=i
    .subst c;rw[aJ li]at e';cases e';exact⟨v,h1,by rw[if_pos rfl];exact .sh rp⟩
    .rw[au (Ne.symm c)]at e';obtain⟨u,g1,g2⟩:=R.slot j k' d' e';exact⟨u,g1,by rw[if_neg c];exact g2.step up λ_ _=>rfl⟩
   off:=λj a ha=>by
    by_cases c:j=i
    .rw[if_pos c]at ha;cases ha
    .rw[if_neg c]at ha;rw[cW λz=>c (R.aV j i a ha z)]
     exact R.off j a ha
   bT:=λj a ha=>by
    by_cases c:j=i
    .rw[if_pos c]at ha;cases ha
    .rw[if_neg c]at ha;exact R.bT j a ha
   aV:=λj l a g1 g2=>by
    by_cases c:j=i
    .rw[if_pos c]at g1;cases g1
    .rw[if_neg c]at g1
     by_cases c':l=i
     .rw[if_pos c']at g2;cases g2
     .rw[if_neg c']at g2;exact R.aV j l a g1 g2
   fr:=R.fr
   new:=λj a ha=>by
    by_cases c:j=i
    .rw[if_pos c]at ha;cases ha
    .rw[if_neg c]at ha;exact R.new j a ha
   pin:=λq hq=>by
    obtain⟨g1,ds',g2⟩:=R.pin q hq;have c:i≠q.1:=λz=>by
     rw[<-z,e]at g2;cases g2;cases hk
    exact⟨g1,ds',by rw[au c];exact g2⟩
   old:=λa ha=>by
    rw[cW λz=>ha (R.notM e (by cases k<;>first|rfl|(rename_i p;cases p<;>first|rfl|cases hk)|cases hk) z)]
    exact R.old a ha }
 rw[if_neg hk]at h;cases h
end
end Dv
namespace L2
open PySem PySem.Spec PyProof.Rows
def mY(h:Heap)(e C T:Addr)(dd:ZV):Prop:=
 ∃(t0:Addr)(v2 v3 v4 v5:Value)(sl:ZH)(oT:Obj)(ts:ZT),h.get? e=some ⟨.ref C,dd,.fields #[.ref t0,.ref T,v2,v3,v4,v5],sl⟩/\T≠e/\h.get? T=some oT/\oT.data=.fields ts/\ts[3]?=some .none
structure Way(fs:ZX)(e T:Addr)(h h':Heap):Prop where
 keep:∀b o,b≠e->b≠T->b∉fs->h.get? b=some o->h'.get? b=some o
 slot:∀b o,b≠e->b≠T->h.get? b=some o->∃sl,h'.get? b=some { o with slots:=sl }
section
variable{M:Model}{A:Around}{E:ZI}{s:Shared}
def yo{L e C t0 T0:Addr}{hadNext:Bool}(hfr:A.frames=some (env::outer))(hl:s.heap.FunFrames base (env::outer))(hf:env.frame=some L)(he:s.heap.get? e=some ⟨.ref C,dd,.fields #[.ref t0,w1,v2,v3,v4,v5],sl0⟩)(q:∀h' T,s.heap.get? T=none->Way (frs (env::outer)) e T s.heap h'->mY h' e C T dd->Q () { s with heap:=h' }) :
  wpAny M A (do let a <-frameOf env;let pl <-entryPlaceOf L hadNext;let b <-EntryCells.newEntry head a .none (rawInt L) .none pl;setField (.ref e) 1 b) (λ_ s'=>wpAny M A (setFlight (.ref e) none) Q E s') E s:=by
 have ene:e∉frs (env::outer):=λhm=>by obtain⟨_,o,ho,hnf⟩:=hl.mem hm;rw[he]at ho;cases ho;exact hnf _ rfl
 refine U0 (wpAny_frameOf_fun hfr hl hf λh1 hs1=>U0 (wpAny_entryPlaceOf λpl hpl=>?_))
 unfold EntryCells.newEntry newFields;refine U0 (Va ?_ (hpl.sizeOk5 _ _ _ _ _));have he1:h1.get? e=some ⟨.ref C,dd,.fields #[.ref t0,w1,v2,v3,v4,v5],sl0⟩:=(hs1.2.1 e ene).trans he;generalize hO:({ cls:=.type "traceback",dict:=none,data:=.fields ([head,.ref L,.none,rawInt L,.none]++(if pl.isEmpty then List.replicate 6 Value.none else pl)).toArray }:Obj)=oT
 have he2:=UQ (h:=h1) oT he1;refine WN he2 rfl (by show 1<6;decide) ?_
 have ne:h1.objs.size≠e:=Vm (UG he1);have hdT:oT.data=.fields ([head,.ref L,.none,rawInt L,.none]++(if pl.isEmpty then List.replicate 6 Value.none else pl)).toArray:=by rw[<-hO]
 have fr:oT.isFreed=false:=by rw[<-hO];rfl
 have he3:((h1.push oT).update e (Obj.mapFields (·.setIfInBounds 1 (Value.ref h1.objs.size)))).get? e=some ⟨.ref C,dd,.fields #[.ref t0,.ref h1.objs.size,v2,v3,v4,v5],sl0⟩:=Vz _ he2 rfl;have hT3:((h1.push oT).update e (Obj.mapFields (·.setIfInBounds 1 (Value.ref h1.objs.size)))).get? h1.objs.size=some oT:=(Vn _ _ (Ne.symm ne)).trans (V8 h1 fr);unfold setFlight;refine U0 (WJ he3 rfl (x:=.ref h1.objs.size) rfl ?_);rw[if_pos (show(Value.ref h1.objs.size != Value.none)=true by simp)]
 have sz:s.heap.objs.size=h1.objs.size:=hs1.1.symm;refine WN hT3 hdT (by simp only[UO,UR,UL,List.length_nil]<;>lia) (q _ h1.objs.size ?_ ⟨λb o b1 b2 b3 hb=>?_,λb o b1 b2 hb=>?_⟩ ?_)
 .exact XJ (X8 sz)
 .have hb1:h1.get? b=some o:=(hs1.2.1 b b3).trans hb;rw[Vn _ _ (Ne.symm b2),Vn _ _ (Ne.symm b1)];exact UQ _ hb1
 .obtain⟨sl,hb1⟩:=hs1.2.2 b o hb;refine⟨sl,?_⟩;rw[Vn _ _ (Ne.symm b2),Vn _ _ (Ne.symm b1)];exact UQ _ hb1
 .have dt:=WO hdT (·.setIfInBounds 3 ((none:ZV).elim Value.none λf=>rawInt f))
  refine⟨t0,v2,v3,v4,v5,sl0,_,_,?_,ne,Vz _ hT3 (XZ dt),dt,?_⟩
  .rw[Vn _ _ ne];exact he3
  .first|(simp;done)|(rcases hpl with rfl|⟨_,_,_,_,_,_,_,rfl⟩<;>simp)
def leave_new{L e C t0:Addr}(hfr:A.frames=some (env::outer))(hl:s.heap.FunFrames base (env::outer))(hf:env.frame=some L)(he:s.heap.get? e=some ⟨.ref C,dd,.fields #[.ref t0,.none,v2,v3,v4,v5],sl0⟩)(q:∀h' T,s.heap.get? T=none->Way (frs (env::outer)) e T s.heap h'->mY h' e C T dd->Q () { s with heap:=h' }):wpAny M A (leaving env (.ref e)) Q E s:=by unfold leaving noteFrame;simp only[hf];refine U0 (U0 (WJ he rfl (x:=.none) rfl ?_));rw[if_neg (show ¬((Value.none != Value.none)=true)by decide)];exact yo (T0:=e) hfr hl hf he q
def JX{L e C T:Addr}(hfr:A.frames=some (env::outer))(hl:s.heap.FunFrames base (env::outer))(hf:env.frame=some L)(ho:mY s.heap e C T dd)(q:∀h' T2,s.heap.get? T2=none->(∀b o,b≠e->b≠T->b≠T2->b∉frs (env::outer)->s.heap.get? b=some o->h'.get? b=some o)->(∀b o,b≠e->b≠T->b≠T2->s.heap.get? b=some o->∃sl,h'.get? b=some { o with slots:=sl })->mY h' e C T2 dd->Q () { s with heap:=h' }):wpAny M A (leaving env (.ref e)) Q E s:=by
 obtain⟨t0,v2,v3,v4,v5,sl0,oT,ts,he,hTe,hT,hdT,h3⟩:=ho;unfold leaving noteFrame;simp only[hf];refine U0 (U0 (WJ he rfl (x:=.ref T) rfl ?_));rw[if_pos (show(Value.ref T != Value.none)=true by simp)];refine U0 (WJ hT hdT h3 ?_);rw[if_neg (show ¬((Value.none==rawInt L)=true)by simp[rawInt])];refine U0 (WN hT hdT (Y0.mp h3).1 ?_);have other:∀b,b≠T->(s.heap.update T (Obj.mapFields (·.setIfInBounds 3 Value.none))).get? b=s.heap.get? b:=λb hb=>Vn _ _ (Ne.symm hb);have noRec:∀b o,s.heap.get? b=some o->(∀vs,o.data≠.fields vs)->b≠T:=λb o hb hnf z=>by rw[z,hT]at hb;cases hb;exact hnf ts hdT
 refine yo (s:={ s with heap:=s.heap.update T (Obj.mapFields (·.setIfInBounds 3 Value.none)) }) (T0:=T) hfr (hl.of_keeps λb o hb hnf=>⟨o,(other b (noRec b o hb hnf)).trans hb,rfl⟩) hf ((other e (Ne.symm hTe)).trans he) λh' T2 n2 W O=>?_;have n2':s.heap.get? T2=none:=by
  cases c:s.heap.get? T2 with
  |none=>rfl
  |some o=>exfalso;by_cases z:T2=T;{subst z;rw[Vz _ hT (XZ (WO hdT _))]at n2;cases n2};rw[show({ s with heap:=s.heap.update T (Obj.mapFields (·.setIfInBounds 3 Value.none)) }:Shared).heap.get? T2=s.heap.get? T2 from other T2 z,c]at n2;cases n2
 exact q h' T2 n2' (λb o b1 b2 b3 b4 hb=>W.keep b o b1 b3 b4 ((other b b2).trans hb)) (λb o b1 b2 b3 hb=>W.slot b o b1 b3 ((other b b2).trans hb)) O
end
end L2
namespace L2
open PySem PySem.Spec PyProof.Rows PySem.W
def gA(P:Program)(w:World):mS:=λouter H s E e s'=>
 ∃a C T H',e=.ref a/\s'.os=s.os/\AllBare s'.gens/\Un (frs outer) [] H H' s.heap s'.heap/\dN P w H' s'.heap/\mY s'.heap a C T none/\s.heap.get? T=none/\H' T=none/\s.heap.get? a=none/\H' a=some (.ext (oX a C none))/\E (.ref C) (some a) H'
def mY.T5{e C T:Addr}(o:mY h e C T dd):oX e C dd h:=by obtain⟨t0,v2,v3,v4,v5,sl,_,_,he,_⟩:=o;exact⟨t0,_,v2,v3,v4,v5,sl,he⟩
def MV{P:Program}{w:World}{H:Hp}{h h':Heap}{a C:Addr}{fs:ZX}{N:Addr->Prop}(ok:dN P w H h)(ha:H a=some (.ext (oX a C none)))(hN:∀b,N b->H b=none)(hf:∀b∈fs,H b=none)(k:∀b o,b≠a->¬N b->b∉fs->h.get? b=some o->h'.get? b=some o)(x:oX a C none h'):dN P w H h':=λb u e=>by by_cases z:b=a;{subst z;rw[ha]at e;cases e;exact FA x};have nn:∀c v,H c=some v->¬N c/\c∉fs:=λc v q=>⟨λy=>(by rw[hN c y]at q;cases q),λy=>(by rw[hf c y]at q;cases q)⟩;refine(ok b u e).stay (λc v hc r=>k c v ?_ ?_ ?_ r) (λc r=>r) λc xs r=>r;{rcases hc with y|y;{rw[y];exact z};intro q;rw[q,ha]at y;cases y};{rcases hc with y|y;{rw[y];exact(nn b u e).1};exact(nn c _ y).1};rcases hc with y|y;{rw[y];exact(nn b u e).2};exact(nn c _ y).2
section
variable{CX:mS}{P:Program}{w:World}{K:Frag}{mg:ZK}{base:Heap}{N:Zd}{qual:Str}{scope:Scope}{f:Addr}{cd:Value}{A:Around}{outer:List Env}{s0:Shared}{H0:Hp}{E:XK}
def CF{pins:ZL}{U:St}{H:Hp}{s:Shared}{a C T:Addr}{h':Heap}{Nw:Addr->Prop}(I:Inv (iy CX P w K mg base N qual scope f cd A outer s0 H0 E) pins U H s)(ha:H a=some (.ext (oX a C none)))(na:s0.heap.get? a=none)(hN:∀b,Nw b->H b=none)(hN0:∀b,Nw b->s0.heap.get? b=none)(hT:Nw T)(k:∀b o,b≠a->¬Nw b->b∉frs (envOfC qual scope s0.heap.objs.size f cd::outer)->s.heap.get? b=some o->h'.get? b=some o)(sl:∀b o,b≠a->¬Nw b->s.heap.get? b=some o->∃sl,h'.get? b=some { o with slots:=sl })(O:mY h' a C T none)(q:E (.ref C) (some a) H):gA P w outer H0 s0 E (.ref a) { s with heap:=h' }:=by
 have B:Un (frs outer) [] H0 H s0.heap s.heap:=I.base;have old:∀b o,s0.heap.get? b=some o->b≠a/\¬Nw b:=λb o e=>⟨(λz=>by rw[z,na]at e;cases e),λz=>by rw[hN0 b z]at e;cases e⟩;have notloc:∀b o,s0.heap.get? b=some o->b∉frs outer->b∉frs (envOfC qual scope s0.heap.objs.size f cd::outer):=λb o e nb z=>by
  have z2:b∈(envOfC qual scope s0.heap.objs.size f cd).frame.toList++frs outer:=by have:frs (envOfC qual scope s0.heap.objs.size f cd::outer)=s0.heap.objs.size::frs outer:=rfl;rw[this]at z;exact z
  rcases UE.mp z2 with y|y
  .have y:some s0.heap.objs.size=some b:=by
    have y0:(envOfC qual scope s0.heap.objs.size f cd).frame=some b:=by simpa using y
    exact y0
   have y:s0.heap.objs.size=b:=Option.some.inj y;exact absurd (UG e) (by rw[<-y];exact VC _)
  exact nb y
 refine⟨a,C,T,H,rfl,I.os,I.bare,⟨λb o e n nf nx=>?_,λb o e n nf nx=>?_,λb o e n nx=>B.free b o e n nx,λb o e nx=>?_,B.tups,B.kM,B.lW⟩,?_,O,hN0 T hT,hN T hT,na,ha,q⟩;{exact k b o (old b o e).1 (old b o e).2 (notloc b o e nf) (B.keep b o e n nf nx)};{obtain⟨sl1,e1⟩:=B.slot b o e n nf nx;obtain⟨sl2,e2⟩:=sl b _ (old b o e).1 (old b o e).2 e1;exact⟨sl2,e2⟩};{obtain⟨o1,e1⟩:=B.there b o e nx;obtain⟨sl2,e2⟩:=sl b _ (old b o e).1 (old b o e).2 e1;exact⟨_,e2⟩};exact MV I.hok ha hN (I.r9) (λb o b1 b2 b3 e=>k b o b1 b2 b3 e) O.T5
def QM{a C t0:Addr}(I:Inv (iy (gA P w) P w K mg base N qual scope f cd A outer s0 H0 E) pins U H s)(ha:H a=some (.ext (oX a C none)))(he:s.heap.get? a=some ⟨.ref C,none,.fields #[.ref t0,.none,v2,v3,v4,v5],sl0⟩)(na:s0.heap.get? a=none)(q:E (.ref C) (some a) H):(iy (gA P w) P w K mg base N qual scope f cd A outer s0 H0 E).xe (.ref a) s:=by
 refine leave_new (base:=base) (L:=s0.heap.objs.size) I.ok.frames I.stack rfl he λh' T nT W O=>?_;have nT0:s0.heap.get? T=none:=by
  cases c:s0.heap.get? T with
  |none=>rfl
  |some o=>obtain⟨o1,e1⟩:=I.base.there T o c (by show T∉([]:ZX);simp);rw[e1]at nT;cases nT
 exact CF (Nw:=λb=>b=T) I ha na (λb z=>by rw[z];exact I.jD nT) (λb z=>by rw[z];exact nT0) rfl (λb o b1 b2 b3 e=>W.keep b o b1 b2 b3 e) (λb o b1 b2 e=>W.slot b o b1 b2 e) O q
def aK:Passes (gA P w) (iy (gA P w) P w K mg base N qual scope f cd A outer s0 H0 E) E:=by
 intro pins U H s e s' I h;obtain⟨a,C,T,H',rfl,os,bare,un,hok,O,nT,hT,na,ha,q⟩:=h;have I':=I.Ew (s':=s') (ch:=[]) os un hok bare λb z=>absurd z (by simp);have up:∀b,s.heap.get? b=none->s0.heap.get? b=none:=λb n=>by
  cases c:s0.heap.get? b with
  |none=>rfl
  |some o=>obtain⟨o1,e1⟩:=I.base.there b o c (by show b∉([]:ZX);simp);rw[e1]at n;cases n
 refine JX (base:=base) (L:=s0.heap.objs.size) I'.ok.frames I'.stack rfl O λh' T2 n2 k sl O2=>?_;have nT2:s0.heap.get? T2=none:=by
  cases c:s0.heap.get? T2 with
  |none=>rfl
  |some o=>obtain⟨o1,e1⟩:=I'.base.there T2 o c (by show T2∉([]:ZX);simp);rw[e1]at n2;cases n2
 refine CF (Nw:=λb=>b=T\/b=T2) I' ha (up a na) (λb z=>?_) (λb z=>?_) (.inr rfl) (λb o b1 b2 b3 e=>k b o b1 (λz=>b2 (.inl z)) (λz=>b2 (.inr z)) b3 e) (λb o b1 b2 e=>sl b o b1 (λz=>b2 (.inl z)) (λz=>b2 (.inr z)) e) O2 q;{rcases z with rfl|rfl;{exact hT};exact I'.jD n2};rcases z with rfl|rfl;{exact up _ nT};exact nT2
end
section
variable{P:Program}{w:World}{K:Frag}{mg:ZK}{base:Heap}{N:Zd}{qual:Str}{scope:Scope}{f:Addr}{cd:Value}{A:Around}{outer:List Env}{s0:Shared}{H0:Hp}{E:XK}
def O6(C:Addr)(E:XK)(t:TA):TS:=λ_ U H=>t U H λvs H1=>vs.length<=sizeLine/\∀a,H1 a=none->E (.ref C) (some a) (upd H1 a (.ext (oX a C none)))
def IT{C:Addr}(hc:gI K C uZ "ValueError.__new__" none=true)(hg:Gl (iy (gA P w) P w K mg base N qual scope f cd A outer s0 H0 E) x)(hm:mg x=some (.ref C))(ha:PA (iy (gA P w) P w K mg base N qual scope f cd A outer s0 H0 E) (e::es) t)(hdb:(x==("__debug__":Str))=false:=by decide)(he:starEach (e::es) (envOfC qual scope s0.heap.objs.size f cd)=(false,eval e (envOfC qual scope s0.heap.objs.size f cd))::starEach es (envOfC qual scope s0.heap.objs.size f cd):=by rfl)(hpl:(backTo cpos (starEach es (envOfC qual scope s0.heap.objs.size f cd))).any (·.1)=false:=by rfl) : PS (iy (gA P w) P w K mg base N qual scope f cd A outer s0 H0 E) (.Raise (some (.Call (.Name x np) (e::es) [] cpos)) none pos) (O6 C E t):=by
 intro pins s U H D I h;obtain⟨bm,N0,nm,qn,bs,hd,sn,sub,ab,col,dd,k0,k1,k2,k3,k5,mN,hC,hN,hni,T⟩:=(Mr I.ok.mod.C1 hc).obj;refine wpAny_Raise_call_subT (C:=C) (nm:=nm) (q:=qn) (N:=N0) (bs:=bs) (bm:=bm) (hdct:=hd) (sn:=sn) (sub:=sub) (ab:=ab) (col:=col) (dd:=dd) (k0:=k0) (k1:=k1) (k2:=k2) (k3:=k3) (k5:=k5)
  PySem.F.excBase_ValueError (mN:=mN) (T.hasType (by decide)) (I.ok.hd rfl) (by show(backTo cpos (starEach (e::es) (envOfC qual scope s0.heap.objs.size f cd))).any (·.1)=false;rw[he];show(false||(backTo cpos (starEach es (envOfC qual scope s0.heap.objs.size f cd))).any (·.1))=false;rw[hpl];rfl) hni (Ck I hg hm ⟨rfl,?_⟩ hdb)
 have go:=ha cpos pins s U H _ I h;show wpAny (model P w) _ (evalArgs (.ref C) true (backTo cpos (starEach (e::es) (envOfC qual scope s0.heap.objs.size f cd))) []) _ _ _;have go':wpAny (model P w) _ (spliced (backTo cpos (starEach (e::es) (envOfC qual scope s0.heap.objs.size f cd)))) _ _ _:=go;rw[he]at go'⊢;refine Calls.evalArgs_plain (aU go' λus s1 ⟨vs,H1,I1,r,hz,q⟩=>?_);have kp:∀b o,base.get? b=some o->s1.heap.get? b=some o:=I1.bk;refine⟨rfl,by rw[<-r.length];exact hz,kp _ _ hC,hN.keeps kp,T.keeps kp,λh' a M=>?_⟩;obtain⟨hp,g,dr,tk,os⟩:=s1;obtain⟨keeps,new,t0,hx,_,_⟩:=M;have I2:=I1.yV (a:=a) (o:=.ext (oX a C none)) (t':=tk) keeps new (FA ⟨_,_,_,_,_,_,_,hx⟩);have na:s0.heap.get? a=none:=by
  cases c:s0.heap.get? a with
  |none=>rfl
  |some o=>obtain⟨o1,e1⟩:=I1.base.there a o c (by show a∉([]:ZX);simp);rw[e1]at new;cases new
 exact QM I2 (aH) hx na (q a (I1.jD new))
end
section
variable{P:Program}{w:World}{K:ZR}{mg:ZK}{base:Heap}
def vz.Nt{x qual:Str}{st:Stmt}{f:Addr}{fd:FuncData}{N ps:Zd}{k:Nat}{sp:Sp}(F:vz K x qual st f fd)(S:aG N ps (ay st))(len:∀vs H Q E,sp vs H Q E->vs.length=ps.length)(hbody:∀(cdv:Value)(A:Around)(outer:List Env)(s:Shared)(H:Hp)(vs:List V)(Q:VK)(E:XK),fc k (A.deeper (envOfC qual (ay st) s.heap.objs.size f cdv))->sp vs H Q E-> ∃t,qm (iy (gA P w) P w K mg base N qual (ay st) f cdv A outer s H E) (iV st) t/\t { nx:=λ_ H'=>Q .bw H',rt:=Q } (start N vs) H):iw P w K mg base (gA P w) (k+1) f fd ps sp:=by obtain⟨oc,od,kV,doc,pm,an,cdv,ct,osl,rfl,lk,hcd⟩:=F.ex;refine Sb lk hcd S len λA outer s H vs Q E hr hsp=>?_;obtain⟨t,h,q⟩:=hbody cdv A outer s H vs Q E hr hsp;exact⟨t,h,q⟩
def bV(P:Program)(w:World)(K:ZR)(mg:ZK)(base:Heap) (k:Nat) (x:Str)(ps:Zd)(sp:Sp):Prop:=
 ∃f fd,mg x=some (.ref f)/\PySem.W.keepIn K (.ref f)=true/\Binds K fd ps []/\iw P w K mg base (gA P w) k f fd ps sp
end
end L2
namespace Dv
open PySem L2 PySem.W
def WE(X:Cx)(e:Expr):TE:=λU H Q=>∀(pins:ZL)(s:Shared),Inv X pins U H s->wpAny (model X.prog X.w) X.A (eval e X.env) (EP X pins U Q) X.xe s
def bL:PE X e (WE X e):=λpins s _ _ _ I h=>h pins s I
def WE.of(h:PE X e t)(q:t U H Q):WE X e U H Q:=λpins s I=>h pins s U H Q I q
def WT(X:Cx)(e:Expr):TT:=λU H Q=>∀(pins:ZL)(s:Shared),Inv X pins U H s->wpAny (model X.prog X.w) X.A (isTrue e X.env (eval e X.env)) (TP X pins U Q) X.xe s
def j4:PT X e (WT X e):=λpins s _ _ _ I h=>h pins s I
def WT.of(h:PT X e t)(q:t U H Q):WT X e U H Q:=λpins s I=>h pins s U H Q I q
def yc(X:Cx):ZZ->TA
 |[],_,H,Q=>Q [] H
 |e::es,U,H,Q=>WE X e U H λv H1=>yc X es U H1 λvs H2=>Q (v::vs) H2
def sel(Y:Zb)(U:St):St:=Y.map λi=>(U[i]?).join
def cY{j i:Nat}(h:Y[j]?=some i)(e:U[i]?=some (some v)):(sel Y U)[j]?=some (some v):=by unfold sel;rw[UK,h];show some (U[i]?).join=_;rw[e];rfl
def XL(X:Cx)(Ex:XK)(x:XC)(g:Gh):Prop:=∀(c:Str)(d:PyData)(C a:Addr)(H':Hp),X.mg c=some (.ref C)->x c d->(∀p o,p∉g.M->g.H0 p=some o->H' p=some o)->H' a=some (.ext (oX a C none))->g.H0 a=none->Ex (.ref C) (some a) H'
def XL.no:XL X Ex xF g:=λ_ _ _ _ _ _ z=>z.elim
def SE(X:Cx)(Ex:XK)(Y:Zb)(e:Expr)(d:DE):Prop:=
 ∀(g:Gh)(x:XC)(E:En)(U:St)(H Hm:Hp)(F:Nat->ZX)(P:Ze)(Q:VK),XL X Ex x g->Rl X.K g E U H Hm F->d x E P->
  (∀E' k v u H' Hm' F' fp,P E' k v->Rl X.K g E' U H' Hm' F'->aj Hm Hm'->Tm X.K g F' H' Hm' k u v fp->Q u H')->WE X e (sel Y U) H Q
def ST(X:Cx)(Ex:XK)(Y:Zb)(e:Expr)(d:DT):Prop:=
 ∀(g:Gh)(x:XC)(E:En)(U:St)(H Hm:Hp)(F:Nat->ZX)(P:Zi)(Q:Bool->Hp->Prop),XL X Ex x g->Rl X.K g E U H Hm F->d x E P->
  (∀E' b H' Hm' F',P E' b->Rl X.K g E' U H' Hm' F'->aj Hm Hm'->Q b H')->WT X e (sel Y U) H Q
inductive aY(X:Cx)(Ex:XK)(Y:Zb):ZZ->List Arg->Prop
 |nil:aY X Ex Y [] []
 |pk {e:Expr}{es:ZZ}{as:List Arg}{i j:Nat}:PE X e (jK j)->Y[j]?=some i->aY X Ex Y es as->aY X Ex Y (e::es) (.pk i::as)
 |ev {e:Expr}{es:ZZ}{as:List Arg}{d:DE}:SE X Ex Y e d->aY X Ex Y es as->aY X Ex Y (e::es) (.ev d::as)
inductive Got(K:Frag)(U:St)(Hm:Hp):List Arg->List (Option PyData)->List V->Prop
 |nil:Got K U Hm [] [] []
 |pk {i:Nat}{v:V}{as:List Arg}{os:Zf}{vs:List V}:U[i]?=some (some v)->Got K U Hm as os vs->Got K U Hm (.pk i::as) (none::os) (v::vs)
 |ev {e:DE}{v:V}{d:PyData}{as:List Arg}{os:Zf}{vs:List V}:Rp K Hm v d->Got K U Hm as os vs->Got K U Hm (.ev e::as) (some d::os) (v::vs)
def ko{F:Nat->ZX}(R:Rl K g E U H Hm F){i:Nat}(h:here E i=true):∃v,U[i]?=some (some v):=by unfold here at h;split at h;{rename_i kd e;obtain⟨v,h1,_⟩:=R.slot i kd.1 kd.2 e;exact⟨v,h1⟩};cases h
section
variable{X:Cx}{Ex:XK}{Y:Zb}{g:Gh}{x:XC}{U:St}
def oG(hx:XL X Ex x g)(S:aY X Ex Y es as):∀{E:En}{H Hm:Hp}{F:Nat->ZX}{P:En->List (Option PyData)->Prop}{Q:List V->Hp->Prop},Rl X.K g E U H Hm F->kZ as x E P->(∀E' os vs H' Hm' F',P E' os->Rl X.K g E' U H' Hm' F'->aj Hm Hm'->Got X.K U Hm' as os vs->Q vs H')->yc X es (sel Y U) H Q:=by
 induction S with
 |nil=>exact λR h q=>q _ _ _ _ _ _ h R (aj.refl _) .nil
 |@pk e es as i j hp hj _ ih=>intro E H Hm F P Q R h q;replace h:bK (here E i) _:=h;rw[eF]at h;obtain⟨h1,h2⟩:=h;obtain⟨v,hv⟩:=ko R h1;refine WE.of hp ⟨v,cY hj hv,ih R h2 λE' os vs H' Hm' F' p R' s G=>q _ _ _ _ _ _ p R' s (.pk hv G)⟩
 |@ev e es as d hd _ ih=>intro E H Hm F P Q R h q;refine hd g x E U H Hm F _ _ hx R h λE1 k v u H1 Hm1 F1 fp p R1 s1 T=>?_;replace p:bK k.fz _:=p;rw[eF]at p;obtain⟨hk,p⟩:=p;obtain⟨Hm2,s2,R2,r⟩:=T.cL R1 hk;exact ih R2 p λE' os vs H' Hm' F' p' R' s' G=>q _ _ _ _ _ _ p' R' (s1.trans (s2.trans s')) (.ev (r.mono s') G)
def wk{F:Nat->ZX}(R:Rl K g E U H Hm F)(s:aj Hm Hm1):∀{as:List Arg}{os:Zf}{vs:List V}{ds:ZU},Got K U Hm as os vs->fill as E os=some ds->(∀i∈iY as,∀a∈F i,Hm1 a=H a)->aC K Hm1 vs ds:=by
 intro as os vs ds G;induction G generalizing ds with
 |nil=>intro h _;cases h;exact .nil
 |@pk i v as os vs hv G ih=>
  intro h n;rw[fill]at h;split at h
  .rename_i k d e;by_cases hk:k.rd=true
   .rw[if_pos hk]at h;cases hf:fill as E os with
    |none=>rw[hf]at h;cases h
    |some es=>rw[hf]at h;cases h;obtain⟨v',h1,h2⟩:=R.slot i k d e;rw[hv]at h1;cases h1;exact .cons (h2.rp hk s (n i U1)) (ih hf λj hj=>n j (U4 _ hj))
   rw[if_neg hk]at h;cases h
  cases h
 |@ev d v u as os vs r G ih=>
  intro h n;rw[fill]at h;cases hf:fill as E os with
  |none=>rw[hf]at h;cases h
  |some es=>rw[hf]at h;cases h;exact .cons (r.mono s) (ih hf n)
theorem pV:∀{is:Zb}{E E2:En},eY is E=some E2->E2.length=E.length/\∀j,(j∉is->E2[j]?=E[j]?)/\(j∈is->∃k d,E[j]?=some (some (k,d))/\k.fz=true/\E2[j]?=some (some (.sh,d)))
 |[],E,E2,h=>by cases h;exact⟨rfl,λj=>⟨λ_=>rfl,λz=>by cases z⟩⟩
 |i::r,E,E2,h=>by
  have h:(dm E i).bind (eY r)=some E2:=h;cases hf:dm E i with
  |none=>rw[hf]at h;cases h
  |some E1=>
   rw[hf]at h;obtain⟨l1,g1⟩:=pV (is:=r) (E:=E1) (E2:=E2) h;unfold dm at hf;split at hf
   .rename_i k d e;by_cases hk:k.fz=true
    .rw[if_pos hk]at hf;cases hf;have li:i<E.length:=by rcases VV i E.length with h|h;{exact h};rw[VD h]at e;cases e
     rw[VP]at l1;refine⟨l1,λj=>⟨λn=>?_,λm=>?_⟩⟩;{have n1:j≠i:=λz=>n (z▸U1);rw[(g1 j).1 λz=>n (U4 _ z),au (Ne.symm n1)]};by_cases c:j=i;{subst c;by_cases m':j∈r;{obtain⟨k2,d2,e2,_,e3⟩:=(g1 j).2 m';rw[aJ li]at e2;cases e2;exact⟨k,d,e,hk,e3⟩};exact⟨k,d,e,hk,by rw[(g1 j).1 m',aJ li]⟩};have m':j∈r:=(U6.mp m).resolve_left c;obtain⟨k2,d2,e2,h2,e3⟩:=(g1 j).2 m';rw[au (Ne.symm c)]at e2;exact⟨k2,d2,e2,h2,e3⟩
    rw[if_neg hk]at hf;cases hf
   cases hf
def zL{F:Nat->ZX}(R:Rl K g E U H Hm F)(hE:(if flat k v=true then some E else eY is E)=some E2)(sH:aj H H')(s1:aj (lend Hm H (is.flatMap F)) Hm2)(s2:aj Hm2 H')(old:∀a,H a≠none->OE (Hm2 a) (lend Hm H (is.flatMap F) a))(o:Own K H' Hm2 k u v fp)(fr:∀a∈fp,H a=none/\Hm2 a=none) : ∃Hm' F',Rl K g E2 U H' Hm' F'/\aj Hm Hm'/\Tm K g F' H' Hm' k u v fp:=by
 have mem:∀{a i},a∈F i->i∈is->a∈is.flatMap F:=λha hi=>VL.mpr ⟨_,hi,ha⟩;have off:∀a∈is.flatMap F,Hm a=none:=λa ha=>by obtain⟨i,_,h⟩:=VL.mp ha;exact R.off i a h
 have up:aj Hm (lend Hm H (is.flatMap F)):=i6 off;have bT:∀{i a},a∈F i->H a≠none:=λha z=>by obtain⟨u,hu,_⟩:=R.bT _ _ ha;rw[z]at hu;cases hu
 have nfp:∀a∈fp,∀i,a∉F i:=λa ha i=>R.fresh (fr a ha).1;by_cases hf:flat k v=true
 .rw[if_pos hf]at hE;cases hE;refine⟨back Hm2 (is.flatMap F),F,R.grow sH (λb o e=>?_) (zf s2) (λi a ha=>?_) (λa ha=>?_),λb o e=>?_,⟨o.flat (λa xs h=>?_) hf,λa ha=>?_,nfp,λa ha=>R.gj (fr a ha).1⟩⟩;{rw[dJ λz=>by rw[off b z]at e;cases e];exact s1 _ _ (up _ _ e)};{by_cases c:a∈is.flatMap F;{exact jX c};rw[dJ c];obtain⟨w,hw,nt⟩:=R.bT i a ha;exact(old a (bT ha)).off (by rw[cW c];exact R.off i a ha) s2 (sH _ _ hw) nt};{by_cases c:a∈is.flatMap F;{rw[jX c,off a c];exact .inl rfl};have h:=old a (R.uQ ha);rw[cW c]at h;rw[dJ c];exact h};{rw[dJ λz=>by rw[off b z]at e;cases e];exact s1 _ _ (up _ _ e)}
  .have c:a∉is.flatMap F:=λz=>by obtain⟨i,_,hi⟩:=VL.mp z;obtain⟨w,hw,nt⟩:=R.bT i a hi;have e2:Hm2 a=some w:=s1 _ _ (by rw[eN z];exact hw);rw[e2]at h;cases h;exact nt xs rfl
   rw[dJ c];exact h
  by_cases c:a∈is.flatMap F;{exact jX c};rw[dJ c];exact(fr a ha).2
 rw[if_neg hf]at hE;obtain⟨l2,g2⟩:=pV hE;have R':Rl K g E2 U H' Hm2 (λj=>if j∈is then []else F j):={
  len:=l2.trans R.len
  sub:=s2
  slot:=λj k' d' e'=>by
   by_cases c:j∈is
   .obtain⟨k0,d0,e0,hk0,e1⟩:=(g2 j).2 c;rw[e1]at e';cases e';obtain⟨v',h1,h2⟩:=R.slot j k0 _ e0;refine⟨v',h1,?_⟩;rw[if_pos c];exact .sh ((h2.rp (by cases k0<;>first|rfl|cases hk0) up λa ha=>eN (mem ha c)).mono s1)
   .rw[(g2 j).1 c]at e';obtain⟨v',h1,h2⟩:=R.slot j k' d' e';refine⟨v',h1,?_⟩;rw[if_neg c];refine h2.step (up.trans s1) λa ha=>?_
    obtain⟨w,hw,_⟩:=h2.live a ha;rw[hw];exact sH _ _ hw
  off:=λj a ha=>by
   by_cases c:j∈is
   .rw[if_pos c]at ha;cases ha
   .rw[if_neg c]at ha;obtain⟨w,hw,nt⟩:=R.bT j a ha;refine(old a (bT ha)).off ?_ s2 (sH _ _ hw) nt;rw[cW]
    .exact R.off j a ha
    .intro z;obtain⟨i,hi,h⟩:=VL.mp z;exact c (R.aV i j a h ha▸hi)
  bT:=λj a ha=>by
   by_cases c:j∈is
   .rw[if_pos c]at ha;cases ha
   .rw[if_neg c]at ha;obtain⟨w,hw,nt⟩:=R.bT j a ha;exact⟨w,sH _ _ hw,nt⟩
  aV:=λj l a h1 h2=>by
   by_cases c:j∈is
   .rw[if_pos c]at h1;cases h1
   .rw[if_neg c]at h1
    by_cases c':l∈is
    .rw[if_pos c']at h2;cases h2
    .rw[if_neg c']at h2;exact R.aV j l a h1 h2
  fr:=λp o hp ho=>sH _ _ (R.fr p o hp ho)
  new:=λj a ha=>by
   by_cases c:j∈is
   .rw[if_pos c]at ha;cases ha
   .rw[if_neg c]at ha;exact R.new j a ha
  pin:=λq hq=>by
   obtain⟨h1,ds',h2⟩:=R.pin q hq;have c:q.1∉is:=λz=>by
    obtain⟨k0,d0,e0,hk0,_⟩:=(g2 q.1).2 z;rw[h2]at e0;cases e0;cases hk0
   exact⟨h1,ds',by rw[(g2 q.1).1 c];exact h2⟩
  old:=λa ha=>by
   refine(old a (R.uQ ha)).trans ?_;rw[cW]
   .exact R.old a ha
   .intro z;obtain⟨i,hi,h⟩:=VL.mp z;obtain⟨k0,d0,e0,hk0,_⟩:=(g2 i).2 hi;exact ha (R.notM e0 (by cases k0<;>first|rfl|(rename_i p;cases p<;>first|rfl|cases hk0)|cases hk0) h) }
 refine⟨Hm2,_,R',up.trans s1,⟨o,λa ha=>(fr a ha).2,λa ha i=>?_,λa ha=>R.gj (fr a ha).1⟩⟩;by_cases c:i∈is;{rw[if_pos c];simp};rw[if_neg c];exact nfp a ha i
def cU(K:Frag)(f:DR)(r:List V->Hp->VK->Prop):Prop:=
 ∀(H Hm:Hp)(vs:List V)(ds:ZU)(P:Zh)(Q:VK),aj Hm H->aC K Hm vs ds->f ds P->
  (∀k v u H' Hm' fp,P k v->aj H H'->aj Hm Hm'->aj Hm' H'->(∀a,H a≠none->OE (Hm' a) (Hm a))->Own K H' Hm' k u v fp->(∀a∈fp,H a=none/\Hm' a=none)->Q u H')->r vs H Q
def gx(S:aY X Ex Y es as)(hr:∀U H Q,yc X es U H (λvs H1=>r vs H1 Q)->WE X e U H Q)(D:cU X.K f r):SE X Ex Y e (ah f as):=by
 intro g x E U H Hm F P Q hx R h q;refine hr _ _ _ (oG hx S R h λE1 os vs H1 Hm1 F1 p R1 s1 G=>?_);replace p:Bj f as E1 os P:=p;unfold Bj at p;rw[<-bS,gP]at p;obtain⟨ds,hf,hg⟩:=p;have off:∀a∈(iY as).flatMap F1,Hm1 a=none:=λa ha=>by obtain⟨i,_,h⟩:=VL.mp ha;exact R1.off i a h
 have up:=i6 (Hm:=Hm1) (H:=H1) off;refine D H1 (lend Hm1 H1 ((iY as).flatMap F1)) vs ds _ Q (jJ R1.sub) (wk R1 up G hf λi hi a ha=>eN (VL.mpr ⟨i,hi,ha⟩)) hg λk v u H' Hm2 fp p sH sM sS old o fr=>?_;replace p:aL (uG as E1 k v) _:=p;rw[<-bS,BL]at p;obtain⟨E2,ha,p⟩:=p;obtain⟨Hm',F',R',s',T⟩:=zL R1 (is:=iY as) (Ay ha) sH sM sS old o fr;exact q _ _ _ _ _ _ _ _ p R' (s1.trans s') T
end
end Dv
namespace L2
open PySem PySem.Spec PyProof.Rows
section
variable{X:Cx}
def Em(i j:Int):Prop:=0<j/\j<115792089237316195423570985008687907853269984665640564039457584007913129639936
def IJ:b9 X (binaryOp .FloorDiv) (rI Em λi j=>.int (i/j)):=KD λi j _ _ _ _ _ hc q=>by
 have h1:(0:Int)<j:=hc.1;have h2:j<115792089237316195423570985008687907853269984665640564039457584007913129639936:=hc.2;refine floordiv_int (by lia) (by rw[Int.fdiv_eq_ediv_of_nonneg i (by lia)];exact q) (.inl (PyProof.noPylong_of_log2 ?_));have:j.natAbs.log2<256:=(Nat.log2_lt (by lia)).mpr (by
  have:(2:Nat)^256=115792089237316195423570985008687907853269984665640564039457584007913129639936:=by decide
  lia)
 lia
end
end L2
namespace SM
open PySem PySem.SetTable
section
variable{prog:Program}{w:World}{K:Type} [DecidableEq K]{knd:KeyKind prog w K}{A:Around}{E:ZI}{s:Shared}{t:SetTable}{es:Array Ent}
def Dl(knd:KeyKind prog w K)(e:Ent)(k:K):Prop:=knd.is k e.2=true/\e.1=knd.hash k/\e.2.scannable=true
structure SP(knd:KeyKind prog w K)(es:Array Ent)(ks:List K):Prop where
 ok:∀e∈es.toList,∃k,k∈ks/\Dl knd e k
 on:∀k∈ks,∃e,e∈es.toList/\Dl knd e k
 len:es.size=ks.length
structure nL(knd:KeyKind prog w K)(o:Obj)(ks:List K):Prop where
 ex:o.ExactSet
 tb:∃es ep t,o.data=.set es ep t/\TB t es/\es.size*5<t.mask*3/\t.mask<=511/\t.plain=true/\t.led=(!(w.params.followText "set-order"))/\SP knd es ks
def SP.elems(S:SP knd es ks):ElemsOf knd es.toList:=λe he=>by obtain⟨k,_,h1,h2,h3⟩:=S.ok e he;exact⟨⟨k,h1,h2⟩,h3⟩
def SP.perm(S:SP knd es ks)(p:es'.toList.Perm es.toList):SP knd es' ks:=by refine⟨λe he=>S.ok e (p.mem_iff.mp he),λk hk=>?_,?_⟩;{obtain⟨e,h1,h2⟩:=S.on k hk;exact⟨e,p.mem_iff.mpr h1,h2⟩};have:=p.length_eq;rw[Vl,Vl]at this;rw[this,S.len]
def SP.put{p:Nat}(S:SP knd es ks)(hp:p<=es.size)(hk:knd.is k x=true)(hs:x.scannable=true):SP knd (insertAt es p (knd.hash k,x)) (ks++[k]):=by
 refine⟨λe he=>?_,λk' hk'=>?_,by rw[mq hp,S.len,UR,Wk]⟩;{rcases(xh hp _ _).mp he with rfl|he;{exact⟨k,by simp,hk,rfl,hs⟩};obtain⟨k',h1,h2⟩:=S.ok e he;exact⟨k',by simp[h1],h2⟩};rcases UE.mp hk' with h1|h1;{obtain⟨e,h2,h3⟩:=S.on k' h1;exact⟨e,(xh hp _ _).mpr (.inr h2),h3⟩};have:k'=k:=by simpa using h1
 subst this;exact⟨_,(xh hp _ _).mpr (.inl rfl),hk,rfl,hs⟩
def SP.find(S:SP knd es ks):(k∈ks->∃j,List.findIdx? (λe=>knd.is k e.2) es.toList=some j)/\(k∉ks->List.findIdx? (λe=>knd.is k e.2) es.toList=none):=by
 constructor
 .intro h;obtain⟨e,h1,h2,_⟩:=S.on k h;cases z:List.findIdx? (λe=>knd.is k e.2) es.toList with
  |none=>have:=List.findIdx?_eq_none_iff.mp z e h1;rw[h2]at this;cases this
  |some j=>exact⟨j,rfl⟩
 intro h;refine List.findIdx?_eq_none_iff.mpr λe he=>?_;obtain⟨k',h1,h2,_⟩:=S.ok e he;cases z:knd.is k e.2 with
 |false=>rfl
 |true=>exact absurd (knd.inj e.2 k k' z h2▸h1) h
def M3{N:Nat}{h:Int}(T:TB t es)(hl:N<10*turns t.mask)(hN:¬In t (pr t.mask h N).j)(hw:Way t h N)(room:es.size+1<=t.mask) : layNew t es h x=(insertAt es (t.put (pr t.mask h N).j).2 (h,x),(t.put (pr t.mask h N).j).1,false,false):=by have T1:=T.put (e:=(h,x)) hl hN hw room (yF t.mask h N);have f:=T1.fits;unfold layNew;rw[T.freeSlot hl hN hw];dsimp only at f⊢;unfold orStandIn;rw[f];rfl
def Nk{a:Addr}(ha:s.heap.get? a=some o)(S:nL knd o ks)(hk:knd.is k x=true)(hsc:x.scannable=true)(hpl:plainKind x=true)(few:ks.length+1<=127)(q0:k∈ks->Q false s)(q1:k∉ks->∀h' o',Heap.SameBut a s.heap h'->h'.get? a=some o'->nL knd o' (ks++[k])->Q true { s with heap:=h' }) : wpAny (model prog w) A (setAddHashed a x (knd.hash k)) Q E s:=by
 obtain⟨ex,es,ep,t,hd,T,nf,hm,pl,ld,sp⟩:=S;have bnd:es.size<scanBound:=by have z:scanBound=4096:=rfl;have:=sp.len;lia
 unfold setAddHashed setAddHashedIn;refine VX (U0 (Y4 ha hd T.fits ?_));dsimp only;rw[byScan_of hsc bnd sp.elems,if_pos rfl];unfold setAddByScan;refine U0 ?_;refine U0 (Vp ?_);refine U0 (wpAny_setScan_of hk ha hd T.fits sp.elems ?_);by_cases c:k∈ks;{obtain⟨j,hj⟩:=sp.find.1 c;rw[hj];dsimp only;exact U3 (U3 (q0 c))};rw[sp.find.2 c];dsimp only;obtain⟨N,hl,hN,hw⟩:=T.first (knd.hash k);have hj:=yF t.mask (knd.hash k) N;have T1:=T.put (e:=(knd.hash k,x)) hl hN hw (by lia) hj;have hp:(t.put (pr t.mask (knd.hash k) N).j).2<=es.size:=by rw[<-T.sz];exact Js T.ri _
 have S1:=sp.put (x:=x) hp hk hsc;have z1:=mq hp ((knd.hash k,x):Ent);have m1:(t.put (pr t.mask (knd.hash k) N).j).1.mask=t.mask:=rfl;have m2:(t.put (pr t.mask (knd.hash k) N).j).1.plain=t.plain:=rfl;have m3:(t.put (pr t.mask (knd.hash k) N).j).1.led=t.led:=rfl;rw[M3 T hl hN hw (by lia)];dsimp only at T1⊢;generalize (t.put (pr t.mask (knd.hash k) N).j).1=t1 at *;generalize (t.put (pr t.mask (knd.hash k) N).j).2=p1 at *;have len1:es.size+1<=127:=by rw[sp.len];exact few
 refine U0 (U3 ?_);rw[if_pos (m2.trans pl)];refine U0 ?_;rw[hashByValue_scannable 8 hsc,hpl];refine U3 ?_;rw[if_pos rfl];refine U0 (wpAny_storeSet_of ha hd ?_ ?_)
 .have po:=putSet_of (insertAt es p1 (knd.hash k,x)) t1 hd;have g1:(s.heap.update a (Obj.putSet (insertAt es p1 (knd.hash k,x)) t1)).get? a=some { o with data:=.set (insertAt es p1 (knd.hash k,x)) (ep+1) t1 }:=by rw[Vz _ ha (by rw[po];rfl),po]
  have sb:=Vq s.heap a (Obj.putSet (insertAt es p1 (knd.hash k,x)) t1);generalize s.heap.update a (Obj.putSet (insertAt es p1 (knd.hash k,x)) t1)=h1 at *;split;{obtain⟨g2,g3,g4⟩:=Nq (n:=es.size+1) len1;obtain⟨g5,g6⟩:=Ij (es.size+1) len1;rw[z1];obtain⟨es3,t3,e3,T3,p3,l3,pl3,m3'⟩:=JY (t:=t1) (es:=insertAt es p1 (knd.hash k,x)) (wanted:=grown (es.size+1)) g2 g3 (by rw[z1];exact g4);rw[e3];dsimp only;have l4:=p3.length_eq;rw[Vl,Vl,z1]at l4;refine U0 (U3 ?_);refine U0 (wpAny_storeSet_of (s:={ s with heap:=h1 }) g1 rfl ?_ (by rw[l4];exact V4 len1 (by decide)));have po3:=putSet_of (o:={ o with data:=.set (insertAt es p1 (knd.hash k,x)) (ep+1) t1 }) es3 t3 rfl;refine U3 (U3 (q1 c _ _ ⟨?_,λy hy=>?_⟩ (Vz _ g1 (by rw[po3];rfl)) ?_));{exact(Vq h1 a (Obj.putSet es3 t3)).1.trans sb.1};{exact((Vq h1 a (Obj.putSet es3 t3)).2 y hy).trans (sb.2 y hy)};rw[po3];exact⟨ex,es3,_,t3,rfl,T3,by rw[l4,m3'];exact g5,by rw[m3'];lia,pl3.trans (m2.trans pl),l3.trans (m3.trans ld),S1.perm p3⟩}
  next nt=>
  refine U3 (U3 (q1 c _ _ sb g1 ⟨ex,_,_,t1,rfl,T1,?_,by lia,m2.trans pl,m3.trans ld,S1⟩));have e1:¬(t1.fill*5 >= t1.mask*3):=λq=>nt (by
   unfold tooFull;rw[V6 q];rfl)
  have e2:t1.fill=(insertAt es p1 (knd.hash k,x)).size:=by unfold fill;rw[T1.sz,T1.du];rfl
  rw[e2]at e1;lia
 rw[z1];exact V4 len1 (by decide)
end
section
variable{prog:Program}{w:World}{K:Type} [DecidableEq K]{knd:KeyKind prog w K}{A:Around}
def fE(f:Nat->K):Nat->List K
 |0=>[]
 |i+1=>if f i∈fE f i then fE f i else fE f i++[f i]
theorem Af(f:Nat->K):∀i,(fE f i).length<=i
 |0=>U5 _
 |i+1=>by have ih:=Af f i;unfold fE;split;{lia};rw[UR,Wk];lia
theorem ze(f:Nat->K)(k:K):∀i,k∈fE f i↔∃j,j<i/\f j=k
 |0=>⟨λh=>(nomatch h),λ⟨j,h,_⟩=>absurd h (W0 _)⟩
 |i+1=>by
  have ih:=ze f k i;have up:(∃j,j<i+1/\f j=k)↔(∃j,j<i/\f j=k)\/f i=k:=by constructor;{rintro⟨j,h,e⟩;rcases Nat.lt_succ_iff_lt_or_eq.mp h with h|h;{exact .inl ⟨j,h,e⟩};subst h;exact .inr e};rintro (⟨j,h,e⟩|e);{exact⟨j,WA h,e⟩};exact⟨i,WQ i,e⟩
  rw[up,<-ih,show fE f (i+1)=if f i∈fE f i then fE f i else fE f i++[f i]from rfl];split
  .next c=>
   exact⟨.inl,λh=>h.elim id λe=>e▸c⟩
  rw[UE,U8];exact⟨λh=>h.elim .inl λe=>.inr e.symm,λh=>h.elim .inl λe=>.inr e.symm⟩
def Il:nL knd { cls:=.type "set",dict:=none,data:=.set #[] 0 (.fresh 0 0 (!(w.params.followText "set-order"))) } []:=by refine⟨⟨rfl,rfl,rfl⟩,#[],0,_,rfl,⟨rfl,?_,?_,rfl,GN,(by decide:7%2=1),V3 _,?_⟩,(by decide:0*5<7*3),(by decide:7<=511),rfl,rfl,⟨?_,?_,rfl⟩⟩;{intro i k x y _ hx;cases hx};{intro i j h;cases h};{intro i j e h;cases h};{intro e he;cases he};intro k hk;cases hk
section
variable{R:Result->Shared->Prop}{I:Addr}{fp wr:ZX}{G:Array GenState->Array GenState->Prop}{n:Nat}{P:Nat->Value->Prop}{St:Nat->Shared->Prop}
def DZ(W:PySem.WalksS prog w A.in1 I fp wr G n P St)(Z:Addr)(out:Z∉fp)(f:Nat->K)(is:∀i v,P i v->knd.is (f i) v=true/\v.scannable=true/\plainKind v=true)(few:n<=126):∀(d i:Nat)(s:Shared),n-i=d->i<=n->St i s->(∃o,s.heap.get? Z=some o/\nL knd o (fE f i))->(∀s',PySem.Moved (Z::wr) G s s'->(∃o,s'.heap.get? Z=some o/\nL knd o (fE f n))->R (.ok (.ret .none)) s')->codeAny (model prog w) A (.builtin "set.update.loop" ⟨[.ref Z,.ref I],[]⟩) R s:=by
 have zw:Z∉wr:=λh=>out (W.sub _ h);have more:∀b∈wr,b∈Z::wr:=λb hb=>U4 _ hb;intro d;induction d with
 |zero=>
  intro i s hd hi st so fin;have e:i=n:=by lia
  subst e;refine WR ZC ?_;rw[XA Y5 _];refine U0 (m:=pyNext (.ref I)) (W.done s _ _ st λs' mv=>?_);obtain⟨o,ho,so⟩:=so;exact U3 (fin s' (mv.mono more) ⟨o,mv.heap Z o zw ho,so⟩)
 |succ d ih=>
  intro i s hd hi st so fin;have lt:i<n:=by lia
  refine WR ZC ?_;rw[XA Y5 _];refine U0 (m:=pyNext (.ref I)) (W.item i s _ _ lt st λv s' hP st' mv=>?_);obtain⟨kb,ks,kp⟩:=is i v hP;obtain⟨o,ho,so⟩:=so;have ho':=mv.heap Z o zw ho;refine U0 (m:=holding [v] (setAdd Z v)) (VX ?_);unfold setAdd;refine VX (U0 (knd.pyHash kb ?_));have ml:=Af f i;have up:∀(h':Heap)(o':Obj),Heap.SameBut Z s'.heap h'->h'.get? Z=some o'->nL knd o' (fE f (i+1))->∀{tk:Nat},s'.toks<=tk->codeAny (model prog w) A (.builtin "set.update.loop" ⟨[.ref Z,.ref I],[]⟩) R { s' with heap:=h',toks:=tk }:=λh' o' sb ho2 so2 {tk} tl=>by refine ih (i+1) _ (by lia) lt (W.frame _ s' _ _ st' tl λc hc oc ec=>?_) ⟨o',ho2,so2⟩ λs2 mv2 so3=>?_;{rw[sb.2 c (λq=>out (q▸hc))];exact ec};refine fin s2 (PySem.Moved.trans W.gtrans ((mv.mono more).then_heap tl λc oc hc ec=>?_) mv2) so3;rw[sb.2 c (λq=>hc (by rw[q];exact U1))];exact ec
  refine Nk (s:={ s' with toks:=s'.toks+1 }) (A:=A.in1) ho' so kb ks kp (by lia) (λhin=>?_) λhout h' o' sb ho2 so2=>?_;{refine U3 ⟨Xa Y5 _,?_⟩;refine up s'.heap o ⟨rfl,λ_ _=>rfl⟩ ho' ?_ (WB _ _);rw[fE,if_pos hin];exact so};refine U3 ⟨Xa Y5 _,?_⟩;refine up h' o' sb ho2 ?_ (WB _ _);rw[fE,if_neg hout];exact so2
end
end
section
variable{prog:Program}{w:World}{K:Type} [DecidableEq K]{knd:KeyKind prog w K}{A:Around}{E:ZI}{s:Shared}
abbrev iH(w:World):Obj:={ cls:=.type "set",dict:=none,data:=.set #[] 0 (.fresh 0 0 (!(w.params.followText "set-order"))) }
def JW(l:Value)(q:Q (.ref s.heap.objs.size) { s with heap:=s.heap.push (iH w) }) : codeAny (model prog w) A (.call (.builtin "set.__new__") ⟨[.type "set",l],[]⟩) (wants Q E) s:=by
 refine codeAny_of_tree (?_:_);show wpAny _ A.in1 (do
  checkBuiltinCall "set.__new__" ⟨[.type "set",l],[]⟩
  again (.builtin "set.__new__" ⟨[.type "set",l],[]⟩)) _ _ s
 refine U0 (XD (F.newCall_set_1 l) (U3 ⟨Xa F.plain_set_new _,WR F.entry_set_new (?_:_)⟩));rw[XA F.plain_set_new (_:Args)];unfold Builtin.«set.__new__»;unfold Builtin.Frozenset.newClass;have sub0:=sub_set_self;obtain⟨hp,g,d,tk,os⟩:=s;dsimp only
 wp_walk
 refine XE (U3 (?_:_));dsimp only;simp only[newObj];refine U0 (wpAny_alloc (U3 (?_:_)));exact U3 q
def zZ{l:Addr}{f:Nat->K}(hh:A.handled=none)(hl:s.heap.IsList l its)(few:its.size<=126)(is:∀i v,its[i]?=some v->knd.is (f i) v=true/\v.scannable=true/\plainKind v=true)(q:∀(h':Heap) (tk:Nat)(o:Obj),(∀b o',s.heap.get? b=some o'->h'.get? b=some o')->h'.get? s.heap.objs.size=some o->nL knd o (fE f its.size)->Q (.ref s.heap.objs.size) { s with heap:=h',toks:=tk }) : wpAny (model prog w) A (call (.type "set") [.ref l]) Q E s:=by
 obtain⟨cc,tl,hmro⟩:=F.called_set.mro;have made':=F.called_set.made;have sub':=F.called_set.sub;refine wpAny_call (codeAny_of_tree (?_:wpAny _ _ (callAny (.type "set") _) _ _ _));refine U3 ⟨Code.quiet_builtin _ (by decide+kernel),WR F.entry_type_call (?_:_)⟩;rw[Around.under_plain (weight_type_call_type "set" [.ref l] []) rfl];have no':=F.called_set.notType;have can':=F.called_set.canCreate;have chk':=F.typeCall_set_1 (.ref l);repeat (any_goals (first|assumption|wp_step))
 refine XQ (JW (.ref l) (E:=E) (Q:=λob s1=>ob=.ref s.heap.objs.size/\s1={ s with heap:=s.heap.push (iH w) }) ⟨rfl,rfl⟩) λr s1 hr1=>?_;cases r with
 |error e=>exact hr1
 |ok fl=>
  cases fl with
  |ret ob=>
   obtain⟨rfl,rfl⟩:=hr1;have zs:(s.heap.push (iH w)).get? s.heap.objs.size=some (iH w):=V8 _ rfl;have ty:Shared.TypeIs { s with heap:=s.heap.push (iH w) } (.ref s.heap.objs.size) "set":=⟨_,zs,rfl⟩;have li':=F.called_set.init.lookup;have bi':=F.called_set.init.bind (.ref s.heap.objs.size);repeat (any_goals (first|assumption|wp_step))
   refine XQ (codeAny_call_builtin (R:=wants (λr s2=>r=.none/\∃h' tk o,s2={ s with heap:=h',toks:=tk }/\(∀b o',s.heap.get? b=some o'->h'.get? b=some o')/\h'.get? s.heap.objs.size=some o/\nL knd o (fE f its.size)) E) F.called_set.init.plain F.entry_set_init (check_set_init_1 ty ?_)) λr2 s2 hr2=>?_
   .obtain⟨ol,hol,hcl,nl,hdl⟩:=hl;obtain⟨ocl,odi,oda,osl⟩:=ol;simp only at hcl hdl;subst hcl;subst hdl;have hol2:(s.heap.push (iH w)).get? l=some { cls:=.type "list",dict:=odi,data:=.seq its nl,slots:=osl }:=UQ _ hol;have sl1:=F.sub_list_set;have sl2:=F.sub_list_frozenset;have nd':(Value.type "list" == Value.type "dict")=false:=by decide
    have hl1:(s.heap.push (iH w)).IsList l its:=⟨_,hol2,rfl,nl,rfl⟩;unfold Builtin.«set.__init__» noKeywords Builtin.Frozenset.updateFrom;generalize hPI:pyIter=PI
    wp_walk
    subst hPI;refine XY hl1 (U0 (wpAny_runValue ?_));have lz:l<s.heap.objs.size:=UG hol;have h3:A.in1.in1.in1.handled=none:=by simp[hh]
    have nI:l≠(s.heap.push (iH w)).objs.size:=by rw[WU];exact UH (WA lz)
    have out:s.heap.objs.size∉[(s.heap.push (iH w)).objs.size,l]:=by rw[WU];simp only[U6,UM,VZ,not_or];exact⟨UH (WQ _),Vm lz⟩
    refine DZ (knd:=knd) (Walks.list h3 _ l nI its).toS s.heap.objs.size out f is few its.size 0 _ rfl (V3 _) ⟨⟨_,V8 _ rfl,rfl,rfl⟩,hl1.push _⟩ ⟨iH w,UQ _ zs,Il⟩ ?fin
    case fin=>
     intro s' mv so;obtain⟨h',g',d',tk',os'⟩:=s';obtain rfl:g'=s.gens:=mv.gens;obtain rfl:d'=s.drawn:=mv.drawn;obtain rfl:os'=s.os:=mv.os;obtain⟨o,ho,so⟩:=so;refine U3 (?_:wpAny _ _ _ _ _ _);refine id (?_:wpAny _ _ (ret Value.none) _ _ _);refine U3 ⟨rfl,h',tk',o,rfl,λb o' hb=>?_,ho,so⟩
     have bz:=UG hb;refine mv.heap b o' ?_ (UQ _ (UQ _ hb));rw[WU];simp only[U6,UM,VZ,not_or];exact⟨UH bz,UH (WA bz)⟩
   cases r2 with
   |error e=>exact hr2
   |ok fl2=>
    cases fl2 with
    |ret r=>
     obtain⟨rfl,h',tk,o,rfl,kp,ho,so⟩:=hr2;repeat (any_goals (first|assumption|wp_step))
     exact q h' tk o kp ho so
    |_=>exact hr2.elim
  |_=>exact hr1.elim
end
def EK(hr:iO xs):below xs 0=0:=by
 obtain⟨h1,h2⟩:=jd hr 0;rcases Nat.eq_zero_or_pos (below xs 0)with z|z;{exact z};have hi:0<xs.size:=by lia
 have:=(h2 0 xs[0] (Vb hi)).mp z;lia
def EA(hr:iO xs){i j:Nat}(h:xs[i]?=some j):below xs (j+1)=i+1:=by
 obtain⟨h1,h2⟩:=jd hr (j+1);have a:=(h2 i j h).mpr (WQ j);rcases VV (i+1) (below xs (j+1))with z|z
 .have hi:i+1<xs.size:=by lia
  have e:=Vb hi;have b:=(h2 (i+1) _ e).mp z;have c:=hr i (i+1) j _ (WQ i) h e;lia
 lia
theorem vH{α:Type}:∀(l:List α) (i:Nat)(h:i<l.length),(l[i]::l.eraseIdx i).Perm l
 |x::l,0,_=>List.Perm.refl _
 |x::l,i+1,h=>by
  have hi:i<l.length:=by simpa using h
  have ih:=vH l i hi;refine List.Perm.trans (List.Perm.swap x l[i] (l.eraseIdx i)) (List.Perm.cons x ih)
theorem Di{α:Type}(next:Nat->Nat):∀(fuel k:Nat)(left:List α)(out:Array α),left.length=fuel->(pickOrder.go next fuel k left out).toList.Perm (out.toList++left)
 |0,k,left,out,h=>by have:left=[]:=Y6.mp h;subst this;unfold pickOrder.go;simp
 |fuel+1,k,left,out,h=>by
  unfold pickOrder.go;have lt:next k%left.length<left.length:=Wm _ (by lia)
  rw[V0 lt];dsimp only;refine(Di next fuel (k+1) _ _ (by rw[List.length_eraseIdx_of_lt lt];lia)).trans ?_;rw[Array.toList_push,Vd];refine Yo _ ?_;exact vH _ _ lt
def GH{α:Type}(next:Nat->Nat)(xs:Array α):(pickOrder next xs).toList.Perm xs.toList:=by
 have:=Di next xs.size 0 xs.toList #[] (by simp)
 simpa[pickOrder]using this
def dP(w:World)(a:Addr) (ep:Nat)(es:Array Ent):Array Ent:=if w.params.followText "set-order"=true then pickOrder (w.params.setOrder a ep) es else es
def z0(w:World)(a:Addr) (ep:Nat)(es:Array Ent):(dP w a ep es).toList.Perm es.toList:=by unfold dP;split;{exact GH _ _};exact List.Perm.refl _
def uC(w:World)(a:Addr) (ep:Nat)(es:Array Ent):(dP w a ep es).size=es.size:=by have:=(z0 w a ep es).length_eq;simpa using this
def jO:Slot "set_iterator" "__next__" "set_iterator.__next__" :=
 .of (owner:="set_iterator") (n:="__next__") (by
   rw[typeLookup_type,builtinLookup_eq_fast]
   kernel_rfl) (by decide+kernel) (by decide+kernel) (by decide+kernel)
  (by
   first
   |exact .inl (by decide+kernel)
   |exact .inr (by decide+kernel)) (by
   rw[isSubtype_type]
   kernel_rfl)
def AW:Slot "set_iterator" "__iter__" "set_iterator.__iter__" :=
 .of (owner:="set_iterator") (n:="__iter__") (by
   rw[typeLookup_type,builtinLookup_eq_fast]
   kernel_rfl) (by decide+kernel) (by decide+kernel) (by decide+kernel)
  (by
   first
   |exact .inl (by decide+kernel)
   |exact .inr (by decide+kernel)) (by
   rw[isSubtype_type]
   kernel_rfl)
def BV:entryFor table "set_iterator.__next__"=some Builtin.«set_iterator.__next__»:=entryFor_of_tree (by kernel_rfl)
def Aq(a:Value):argsOk "set_iterator.__next__" ⟨[a],[]⟩:=by
 unfold argsOk
 kernel_rfl
def Jv(a:Value):argsOk "set_iterator.__iter__" ⟨[a],[]⟩:=by
 unfold argsOk
 kernel_rfl
def L5:entryFor table "set.__iter__"=some Builtin.«frozenset.__iter__» :=
 entryFor_alias (id':="frozenset.__iter__") (by kernel_rfl) rfl (by decide+kernel) (by kernel_rfl)
def Nd:entryFor table "set_iterator.__iter__"=some Builtin.«dict_keyiterator.__iter__» :=
 entryFor_alias (id':="dict_keyiterator.__iter__") (by kernel_rfl) rfl (by decide+kernel) (by kernel_rfl)
def pW(h:Heap)(it a:Addr) (slot i n ep:Nat):Prop:=∃o,h.get? it=some o/\o.cls=.type "set_iterator"/\o.data=.fields #[.int slot 0,.int i 0,.ref a,.int n 0,.int ep 0]
def gZ(w:World)(h:Heap)(a:Addr)(es:Array Ent) (ep:Nat):Prop:=∃o t,h.get? a=some o/\o.ExactSet/\o.data=.set es ep t/\t.fits es.size=true/\iO t.place/\t.place.size=es.size/\t.plain=true/\t.led=(!(w.params.followText "set-order"))
def pW.ty{s:Shared}{it a:Addr}{slot i n ep:Nat}(x:pW s.heap it a slot i n ep):s.TypeIs (.ref it) "set_iterator":=by obtain⟨o,h1,h2,_⟩:=x;exact⟨o,h1,h2⟩
section
variable{prog:Program}{w:World}{A:Around}{E:ZI}{s:Shared}{es:Array Ent}{ep:Nat}{a it:Addr}
def Jy(S:gZ w s.heap a es ep)(q:Q (.ref s.heap.objs.size) { s with heap:=s.heap.push { cls:=.type "set_iterator",data:=.fields #[.int 0 0,.int 0 0,.ref a,.int es.size 0,.int ep 0] } }) : wpAny (model prog w) A (pyIter (.ref a)) Q E s:=by
 obtain⟨o,t,ho,ex,hd,fit,ri,sz,pl,ld⟩:=S;have ty:s.TypeIs (.ref a) "set":=⟨o,ho,ex.1⟩;refine Yp ty F.slot_set_iter (Vc F.slot_set_iter ty L5 ?_ (F.args_set_iter_1 _));unfold Builtin.«frozenset.__iter__»;refine U0 (m:=Builtin.Frozenset.slot0 "__iter__" _) (U3 (?_:_));unfold Builtin.Frozenset.sizeOf;refine U0 (U0 (wpAny_setEntries_of ho hd fit (U3 (?_:_))));unfold setDrawn;refine U0 ?_;refine U0 (Y4 ho hd fit ?_);dsimp only;unfold setsByText;refine U0 (U0 (XE (U3 (?_:_))));refine U3 ?_;have nd:¬((!(w.params.followText "set-order")&&(!t.plain&&decide (es.size>1)))=true):=by rw[pl];simp
 refine Y7 (λz=>absurd z nd) λ_=>?_;refine U0 (U3 (?_:_));refine U0 (wpAny_setEpoch_of ho hd fit ?_);unfold newFields;refine U0 (Va (U3 ⟨_,rfl,"set_iterator",_,⟨_,V8 _ rfl,rfl⟩,jO.lookup,?_⟩));simpa[rawInt]using q
def MA{slot i n:Nat}{Q:ZI}(hit:pW s.heap it a slot i n ep)(q:Q (.ref it) s):wpAny (model prog w) A (pyIter (.ref it)) Q E s:=by refine Yp hit.ty AW (Vc AW hit.ty Nd ?_ (Jv _));show wpAny _ _ (ret (.ref it)) _ _ s;exact U3 ⟨_,rfl,"set_iterator",_,hit.ty,jO.lookup,q⟩
def Bh{slot i:Nat}(S:gZ w s.heap a es ep)(hs:w.params.followText "set-order"=false->∀o es' ep' t,s.heap.get? a=some o->o.data=.set es' ep' t->below t.place slot=i)(q0:(dP w a ep es)[i]?=none->Q none s)(q1:∀e slot',(dP w a ep es)[i]?=some e->(w.params.followText "set-order"=false->∀o es' ep' t,s.heap.get? a=some o->o.data=.set es' ep' t->below t.place slot'=i+1)->Q (some (e.2,slot')) s) : wpAny (model prog w) A (setNext a slot i ep) Q E s:=by
 obtain⟨o,t,ho,ex,hd,fit,ri,sz,pl,ld⟩:=S;unfold setNext;refine U0 (Y4 ho hd fit ?_);dsimp only;unfold setsByText;refine U0 (U0 (XE (U3 (?_:_))));show wpAny _ _ (if w.params.followText "set-order"=true then _ else _) _ _ _;cases c:w.params.followText "set-order" with
 |true=>
  rw[if_pos rfl];rw[if_neg (by simp)];refine U0 ?_;unfold setWalk;refine U0 (Y4 ho hd fit ?_);dsimp only;unfold setsByText;refine U0 (U0 (XE (U3 (?_:_))));show wpAny _ _ (if w.params.followText "set-order"=true then _ else _) _ _ _;rw[if_pos c];refine U0 (XE (U3 (?_:_)));refine U3 ?_;have eo:dP w a ep es=pickOrder (w.params.setOrder a ep) es:=by unfold dP;rw[if_pos c]
  rw[eo]at q0 q1;show Q (((pickOrder (w.params.setOrder a ep) es)[i]?).map λe=>(e.2,slot)) s;cases z:(pickOrder (w.params.setOrder a ep) es)[i]? with
  |none=>exact q0 z
  |some e=>exact q1 e slot z (λh=>by rw[c]at h;cases h)
 |false=>
  rw[if_neg V5];have nd:¬((!t.plain&&decide (es.size>1))=true):=by rw[pl];simp
  refine Y7 (λz=>absurd z nd) λ_=>?_;have nl:¬((!t.led&&!es.isEmpty)=true):=by rw[ld,c];simp
  refine U0 (?_:wpAny _ _ (if(!t.led&&!es.isEmpty)=true then(unsupported "set:maker-not-led":Sem Unit)else pure ()) _ _ _);rw[if_neg nl];refine U3 (U3 (?_:_));have eo:dP w a ep es=es:=by unfold dP;rw[if_neg (by rw[c];exact V5)]
  rw[eo]at q0 q1;rw[hs c o es ep t ho hd];cases z:es[i]? with
  |none=>exact q0 z
  |some e=>
   have hi:i<t.place.size:=by rw[sz];exact vt z
   have zp:=Vb hi;rw[zp];obtain⟨eh,ev⟩:=e;refine q1 (eh,ev) _ z λ_ o' es' ep' t' h1 h2=>?_;rw[ho]at h1;cases h1;rw[hd]at h2;cases h2;exact EA ri zp
end
section
variable{prog:Program}{w:World}{A:Around}{E:ZI}{s:Shared}{es:Array Ent}{ep:Nat}{a it:Addr}
def Ku(w:World)(h:Heap)(a:Addr) (slot i:Nat):Prop:=w.params.followText "set-order"=false->∀o es' ep' t,h.get? a=some o->o.data=.set es' ep' t->below t.place slot=i
theorem gZ.sz(S:gZ w s.heap a es ep)(h:P es s):wpAny (model prog w) A (setEntries a) P E s:=by obtain⟨o,t,ho,ex,hd,fit,ri,sz,pl,ld⟩:=S;exact wpAny_setEntries_of ho hd fit h
def next_item{slot i:Nat}(ne:a≠it)(hit:pW s.heap it a slot i es.size ep)(S:gZ w s.heap a es ep)(F:Ku w s.heap a slot i)(he:(dP w a ep es)[i]?=some e)(q:∀h' slot',pW h' it a slot' (i+1) es.size ep->Ku w h' a slot' (i+1)->Heap.SameBut it s.heap h'->Q (some e.2) { s with heap:=h' }):wpAny (model prog w) A (pyNext (.ref it)) Q E s:=by
 obtain⟨o,ho,hc,hd⟩:=id hit;unfold pyNext;refine U0 (Xb (Wz (name:=Str.ofString "__next__") hit.ty jO
  (Vc jO hit.ty BV ?_ (Aq _))))
 unfold Builtin.«set_iterator.__next__»;refine U0 (m:=slotArgs "__next__" 0 _) (U3 (?_:_));refine U0 (Y8 ho hd ?_);dsimp only;refine U0 (S.sz ?_);rw[if_neg (by simp)];simp only[Wy];refine U0 (Bh S F (λz=>by rw[he]at z;cases z) λe' slot' z hF=>?_);rw[he]at z;cases z;dsimp only;refine U0 (WN ho hd (by simp) ?_);have g1:=Vz (Obj.mapFields (·.setIfInBounds 0 (rawInt (slot':Int)))) ho (XZ (WO hd _));have d1:=WO hd (·.setIfInBounds 0 (rawInt (slot':Int)));have sb1:=Vq s.heap it (Obj.mapFields (·.setIfInBounds 0 (rawInt (slot':Int))));generalize s.heap.update it (Obj.mapFields (·.setIfInBounds 0 (rawInt (slot':Int))))=h1 at *;refine U0 (WN (s:={ s with heap:=h1 }) g1 d1 (by simp) ?_);have g2:=Vz (Obj.mapFields (·.setIfInBounds 1 (rawInt ((i:Int)+1)))) g1 (XZ (WO d1 _));have d2:=WO d1 (·.setIfInBounds 1 (rawInt ((i:Int)+1)));have sb2:=Vq h1 it (Obj.mapFields (·.setIfInBounds 1 (rawInt ((i:Int)+1))));generalize h1.update it (Obj.mapFields (·.setIfInBounds 1 (rawInt ((i:Int)+1))))=h2 at *;have sb:Heap.SameBut it s.heap h2:=sb1.trans sb2;refine U3 ⟨_,rfl,U3 (q h2 slot' ⟨_,g2,?_,?_⟩ (λc o' es' ep' t h1 h2'=>?_) sb)⟩;{rw[Yq,Yq];exact hc};{rw[d2];simp[rawInt]};rw[sb.2 a ne]at h1;exact hF c o' es' ep' t h1 h2'
def next_end{slot i:Nat}(hh:A.handled=none)(hit:pW s.heap it a slot i es.size ep)(S:gZ w s.heap a es ep)(F:Ku w s.heap a slot i)(he:(dP w a ep es)[i]?=none)(q:∀h',Heap.ExtBut it s.heap h'->Q none { s with heap:=h' }):wpAny (model prog w) A (pyNext (.ref it)) Q E s:=by
 obtain⟨o,ho,hc,hd⟩:=id hit;unfold pyNext;refine U0 (Xb (Wz (name:=Str.ofString "__next__") hit.ty jO
  (Vc jO hit.ty BV ?_ (Aq _))))
 unfold Builtin.«set_iterator.__next__»;refine U0 (m:=slotArgs "__next__" 0 _) (U3 (?_:_));refine U0 (Y8 ho hd ?_);dsimp only;refine U0 (S.sz ?_);rw[if_neg (by simp)];simp only[Wy];refine U0 (Bh S F (λz=>?_) λe' slot' z hF=>by rw[he]at z;cases z);dsimp only;refine U0 (WN ho hd (by simp) ?_);refine U0 (m:=newExc (.type "StopIteration") []) ?_;simp only[newExc,newTuple];refine U0 (Va ?_ (by size_fits));refine U0 (m:=firstArgMember _ _) (XD (a:=Value.none) (by
  first
  |rfl
  | (simp only[firstArgMember];rfl)) ?_)
 refine Va (?_:_) (by size_fits);simp only[raiseNew];refine U0 (wpAny_handled (?_:_));rw[show A.in1.handled=none from hh];refine U0 (U3 (wpAny_throw (?_:_)));refine U0 (Yr (T:="StopIteration") (b:=true) ⟨_,V8 _ rfl,rfl⟩ isSubtype_stop (?_:_));exact U3 (q _ (((Vq ..).extBut.push _).push _))
def gZ.at(S:gZ w h a es ep)(k:∀o,h.get? a=some o->h'.get? a=some o):gZ w h' a es ep:=by obtain⟨o,t,ho,r⟩:=S;exact⟨o,t,k o ho,r⟩
def Ka(hh:A.handled=none)(I a:Addr)(ne:a≠I)(es:Array Ent) (ep:Nat) : Walks prog w A I [I,a] [I] es.size (λi v=>∃e,(dP w a ep es)[i]?=some e/\v=e.2) (λi h=>(∃slot,pW h I a slot i es.size ep/\Ku w h a slot i)/\gZ w h a es ep) where
 sub:=λb hb=>by
  simp at hb;simp[hb]
 frame:=λi h h' st hk=>by
  obtain⟨⟨slot,⟨o,ho,r⟩,F⟩,S⟩:=st;refine⟨⟨slot,⟨o,hk I (by simp) o ho,r⟩,λc o' es' ep' t h1 h2=>?_⟩,S.at λo e=>hk a (by simp) o e⟩
  obtain⟨ob,tb,hob,r2⟩:=S;have:=hk a (by simp) ob hob
  rw[this]at h1;cases h1;exact F c _ es' ep' t hob h2
 item:=λi s Q E hi st hQ=>by
  obtain⟨⟨slot,hit,F⟩,S⟩:=st;have hi':i<(dP w a ep es).size:=by
   rw[uC];exact hi
  have he:=Vb hi';refine next_item ne hit S F he λh' slot' hit' F' sb=>?_
  exact hQ _ h' s.toks ⟨_,he,rfl⟩ ⟨⟨slot',hit',F'⟩,S.at λo e=>by rw[sb.2 a ne];exact e⟩ λb o hb e=>by rw[sb.2 b (λz=>hb (by simp[z]))];exact e
 done:=λs Q E st hQ=>by
  obtain⟨⟨slot,hit,F⟩,S⟩:=st;refine next_end hh hit S F (XU (by rw[uC];exact U5 _)) λh' eb=>hQ h' s.toks λb o hb e=>eb b o (λz=>hb (by simp[z])) e
 self:=λi s Q E st hQ=>by
  obtain⟨⟨slot,hit,F⟩,S⟩:=st;exact MA hit hQ
end
end SM
namespace L2
open PySem PySem.Spec PyProof.Rows
theorem je:∀{us:ZW}{ns:Zc},IntsAre us ns->Vals (ns.map V.int) us
 |_,_,.nil=>.nil
 |_,_,.cons k t r=>.cons ⟨t,rfl⟩ (je r)
section
variable{X:Cx}
def Bo:cI X (.builtin "sorted") (λxs H Q=>∃(a:Addr)(ns:Zc),xs=[.ref a]/\bI X.K H a (ns.map V.int)/\ns.length<64/\∀(ms:Zc)(p:Addr),ms.Perm ns->ms.Pairwise (·<=·)->H p=none->Q (.ref p) (upd H p (.lst (ms.map V.int)))):=by
 intro pins s U H xs us Q I r h;obtain⟨a,ns,rfl,hq,hl,q⟩:=h;obtain⟨u,rfl,ru⟩:=r.one;cases ru;obtain⟨its,rv,p,_⟩:=I.list hq;have hlen:its.length=ns.length:=by rw[<-rv.length,U7]
 refine sorted_ints p.isList (intsAre_of rv) (by lia) λout ms h1 h2 h3=>?_;obtain⟨e,he⟩:=sortedAll_at s.heap its out;have new:s.heap.get? (s.heap.objs.size+1)=none:=XJ (Wi _);have rm:=je h1;have ml:ms.length=ns.length:=h2.length_eq;have I2:=I.yV (a:=s.heap.objs.size+1) (o:=.lst (ms.map V.int)) (t':=s.toks) (h':=sortedAll s.heap its out) (λb o hb=>sortedAll_old hb) new
  ⟨by rw[U7,ml];exact Vk (UZ hl (by decide)),out.toList,e,rm,by simpa using he⟩
 exact⟨.ref (s.heap.objs.size+1),_,I2,rfl,q ms _ h2 h3 (I.jD new)⟩
end
end L2
namespace SM
open PySem PySem.SetTable PySem.W PyProof.Rows
section
variable{prog:Program}{w:World}{A:Around}{E:ZI}{s:Shared}{es:Array Ent}{ep:Nat}{a it:Addr}
def Jt(ty:s.TypeIs (.ref a) "set")(q:Q false s):wpAny (model prog w) A (Builtin.List.listLengthHint (.ref a)) Q E s:=by
 unfold Builtin.List.listLengthHint;refine U0 (wpAny_specialOf ty F.slot_set_len.lookup (?_:_));generalize hid:("set.__len__":String)=idl
 wp_delta
 rw[show splitId idl=some ("set","__len__")from by
  subst hid;decide+kernel]
 subst hid;refine U0 (Yr (T:="set") (b:=true) ty (by
  rw[isSubtype_type]
  kernel_rfl) (?_:_))
 refine Y7 (λz=>absurd z (by decide)) (λ_=>(?_:_));refine Y7 (λ_=>(?_:_)) (λz=>absurd (by decide+kernel) z);refine U0 (X0 ty (?_:_));exact U3 q
def Mq(a:Addr)(es:Array Ent) (ep:Nat):KdlSrc prog w "set" a a es.size (λi v=>∃e,(dP w a ep es)[i]?=some e/\v=e.2) (λh=>gZ w h a es ep) where
 type:=λs S=>by
  obtain⟨o,t,ho,ex,_⟩:=S;exact⟨o,ho,ex.1⟩
 there:=λh S=>by
  obtain⟨o,t,ho,_⟩:=S;exact⟨UG ho,UG ho⟩
 keep:=λh h' S hk=>S.at λo e=>hk a (.inl rfl) o e
 notList:=by decide
 notTuple:=by decide
 hint:=λA E s Q S q=>by
  obtain⟨o,t,ho,ex,_⟩:=S;exact Jt ⟨o,ho,ex.1⟩ q
 iter:=λA s hh S=>by
  refine⟨_,_,λE Q q=>Jy S q,Ka hh _ a ?_ es ep,⟨⟨0,⟨_,V8 _ rfl,rfl,rfl⟩,λc o' es' ep' t h1 h2=>?_⟩,S.at λo e=>UQ _ e⟩⟩
  .obtain⟨o,t,ho,_⟩:=S;exact UH (UG ho)
  .obtain⟨o,t,ho,ex,hd,fit,ri,r⟩:=S;rw[UQ _ ho]at h1;cases h1;rw[hd]at h2;cases h2;exact EK ri
def BC(hh:A.handled=none)(S:gZ w s.heap a es ep)(few:es.size<=126)(q:∀h' tk,(∀b o,s.heap.get? b=some o->h'.get? b=some o)->s.heap.objs.size<h'.objs.size->Q ((dP w a ep es).toList.map (·.2)) { s with heap:=h',toks:=tk }):wpAny (model prog w) A (collect (.ref a)) Q E s:=by
 unfold collect;refine U0 (wpAny_runValue (WR entry_proto_collect' (?_:_)));show wpAny _ _ (do
  again (.builtin "list.__iadd__" ⟨[<-newList [],.ref a],[]⟩)) _ _ s
 refine U0 (Y9 (U3 ⟨Code.quiet_builtin _ (by decide+kernel),WR entry_list_iadd' (?_:_)⟩));rw[XA (by decide+kernel) _];refine id (?_:wpAny _ _ (Builtin.List.listExtendWith (.ref s.heap.objs.size) (.ref a) (.ref s.heap.objs.size)) _ _ _);have az:a<s.heap.objs.size:=by obtain⟨o,t,ho,_⟩:=S;exact UG ho
 have ne:=Vm az;refine kdl_extend (prog:=prog) (R:=λr s'=>match r with
  |.ok (.ret v)=>wpAny (model prog w) A (match v with
   |.ref a=>do
    let o <-load a
    match o.data with
    |.seq xs _=>pure xs.toList
    |_=>unsupported "internal:collect"
   |_=>unsupported "internal:collect") Q E s'
  |.ok _=>False
  |.error e=>E e s') (s:={ s with heap:=s.heap.push (seqObj "list" #[] 0) }) (A:=A) (Mq a es ep) ?_ (S.at λo e=>UQ _ e) s.heap.objs.size ne ne (.ref s.heap.objs.size) 0 (V8 _ rfl) (λh' tk acc c kp hS its=>?_) (V4 few (by decide))
 .exact hh
 have e:acc.toList=(dP w a ep es).toList.map (·.2):=by
  refine Vu λj=>?_;obtain⟨z1,z2⟩:=its;rw[UK,VG,VG];cases z:acc[j]? with
  |none=>have:=Array.getElem?_eq_none_iff.mp z;rw[XU (by rw[uC];lia)];rfl
  |some v=>obtain⟨e,h1,h2⟩:=z2 j v z;rw[h1,h2];rfl
 refine id (?_:wpAny _ _ (do
  let o <-load s.heap.objs.size
  match o.data with
  |.seq xs _=>pure xs.toList
  |_=>unsupported "internal:collect") _ _ _)
 refine U0 (wpAny_load hS (?_:_));refine U3 ?_;rw[e];exact q h' tk (λb o hb=>kp b o (UH (UG hb)) (UQ _ hb)) (UG hS)
end
end SM
namespace L2
open PySem PySem.Spec PyProof.Rows
def wK(P:Program)(w:World)(a:Addr)(ks:Zc):HO:=.ext λh=>∃o,h.get? a=some o/\SM.nL (intKind P w) o ks
end L2
namespace SM
theorem BY{K:Type} [DecidableEq K](f:Nat->K):∀i,(fE f i).Nodup
 |0=>VY
 |i+1=>by
  have ih:=BY f i;unfold fE;split;{exact ih}
  next c=>
  refine VR.mpr ⟨ih,VA.mpr ⟨UM,VY⟩,λx hx y hy e=>?_⟩;cases U8.mp hy;exact c (e▸hx)
end SM
namespace L2
open PySem PySem.Spec PyProof.Rows
section
variable{X:Cx}
def FY(hc:X.calm=true):cI X (.type "set") (λxs H Q=>∃(a:Addr)(ns:Zc),xs=[.ref a]/\bI X.K H a (ns.map V.int)/\ns.length<=126/\∀(p:Addr)(ks:Zc),H p=none->(∀x,x∈ks↔x∈ns)->ks.Nodup->Q (.ref p) (upd H p (wK X.prog X.w p ks))):=by
 intro pins s U H xs us Q I r h;obtain⟨a,ns,rfl,hq,few,q⟩:=h;obtain⟨u,rfl,ru⟩:=vals1 r;cases ru;obtain⟨its,rv,p,_⟩:=I.list hq;have hlen:its.length=ns.length:=by rw[<-rv.length,U7]
 refine SM.zZ (knd:=intKind X.prog X.w) (f:=λi=>ns.getD i 0) (I.ok.hd hc) p.isList (by simp[hlen];lia) (λi v hv=>?_) λh' tk o kp ho st=>?_
 .have hv':its[i]?=some v:=by simpa using hv
  obtain⟨x,hx,rx⟩:=oQ rv i v hv';rw[UK]at hx;cases z:ns[i]? with
  |none=>rw[z]at hx;cases hx
  |some n=>rw[z]at hx;cases hx;obtain⟨t,rfl⟩:=rx;rw[VJ,z];exact⟨intKind_is _ _ n t,rfl,rfl⟩
 rw[UO,hlen]at st;refine⟨.ref s.heap.objs.size,_,I.laid (t':=tk) kp (U5 _) (o:=wK X.prog X.w s.heap.objs.size (SM.fE (λi=>ns.getD i 0) ns.length)) ?_,rfl,q _ _ (I.hok.fresh (U5 _)) (λx=>?_) (SM.BY _ _)⟩;{refine⟨⟨o,ho,st⟩,⟨o,ho⟩,λh1 h2 z k=>?_⟩;obtain⟨o,z1,z2⟩:=z;exact⟨o,k o z1,z2⟩};rw[SM.ze];constructor;{rintro⟨j,h1,rfl⟩;rw[VJ,V0 h1];exact W3 h1};intro h;obtain⟨j,h1,h2⟩:=Xc h;refine⟨j,h1,?_⟩;rw[VJ,V0 h1];exact h2
end
end L2
namespace TS
open PySem PyProof.Rows
section
variable{prog:Program}{w:World}{A:Around}{E:ZI}{s:Shared}
def wX(prog:Program)(w:World)(A:Around)(s:Shared)(kd:SortKind)(P:Value->Prop):Prop:=∀(E:ZI) x y,P x->P y->∀Q:Bool->Shared->Prop,(∀b,Q b s)->wpAny (model prog w) A (keyLt' kd x y) Q E s
def Good(P:Value->Prop)(xs:Array Keyed):Prop:=∀(i:Nat)(p:Keyed),xs[i]?=some p->P p.1
variable{kd:SortKind}{P:Value->Prop}
def ask{st:SortSt}(L:wX prog w A s kd P)(hk:kindOf st=kd)(hx:P x.1)(hy:P y.1)(h:∀b,Q (some b) st):wpS (model prog w) A E s (lt' x y) Q st:=by rw[lt'_eq];refine UN (wpS_get ?_);rw[hk];refine UN (wpS_lift (Xb (L _ _ _ hx hy _ λb=>⟨rfl,?_⟩)));exact UY (h b)
def CI{st:SortSt}{i:Nat}(hi:i<xs.size)(h:∀p,xs[i]?=some p->Q p st):wpS (model prog w) A E s (elem' xs i) Q st:=by rw[elem'_eq,Vb hi];exact UY (h _ (Vb hi))
end
section
variable{prog:Program}{w:World}{A:Around}{E:ZI}{s:Shared}{kd:SortKind}{P:Value->Prop}
def TR{M:Model}{U α:Type}{a b:Nat}{m1 m2:StateT U Sem α}{Q:α->U->Prop}{st:U}(h1:a=b->wpS M A E s m1 Q st)(h2:a≠b->wpS M A E s m2 Q st):wpS M A E s (if(a==b)=true then m1 else m2) Q st:=by by_cases e:a=b;{rw[if_pos (beq_iff_eq.mpr e)];exact h1 e};rw[if_neg (λz=>e (beq_iff_eq.mp z))];exact h2 e
def kC{M:Model}{U α:Type}{c:Prop} [Decidable c]{m1 m2:StateT U Sem α}{Q:α->U->Prop}{st:U}(h1:c->wpS M A E s m1 Q st)(h2:¬c->wpS M A E s m2 Q st):wpS M A E s (if c then m1 else m2) Q st:=by by_cases e:c;{rw[if_pos e];exact h1 e};rw[if_neg e];exact h2 e
end
structure SB(kd:SortKind)(xs0:Array Keyed)(st:SortSt):Prop where
 perm:(arrOf st).Perm xs0
 kind:kindOf st=kd
 ok:failedOf st=none
theorem SB.size{kd:SortKind}{st:SortSt}(B:SB kd xs0 st):(arrOf st).size=xs0.size:=B.perm.size_eq
def Good.perm(G:Good P ys)(p:xs.Perm ys):Good P xs:=λi q h=>by have m:q∈xs.toList:=V7 (by rw[VG];exact h);have m2:q∈ys.toList:=(Array.perm_iff_toList_perm.mp p).mem_iff.mp m;obtain⟨j,hj⟩:=W2 m2;rw[VG]at hj;exact G j q hj
section
variable{prog:Program}{w:World}{A:Around}{E:ZI}{s:Shared}{kd:SortKind}{P:Value->Prop}{xs0:Array Keyed}
def gR{st:SortSt}{i j:Nat}(L:wX prog w A s kd P)(G:Good P xs0)(B:SB kd xs0 st)(hi:i<xs0.size)(hj:j<xs0.size)(h:∀b,Q (some b) st):wpS (model prog w) A E s (ltAt' i j) Q st:=by rw[ltAt'_eq];refine UN (wpS_get ?_);have G':=G.perm B.perm;refine UN (CI (by rw[B.size];exact hi) λp hp=>?_);refine UN (CI (by rw[B.size];exact hj) λq hq=>?_);exact ask L B.kind (G' _ _ hp) (G' _ _ hq) h
def jA{st:SortSt}{i j:Nat}(B:SB kd xs0 st)(h:∀st',SB kd xs0 st'->pendingOf st'=pendingOf st->Q () st'):wpS (model prog w) A E s (reverseSlice' i j) Q st:=by rw[reverseSlice'_eq];exact wpS_modify (h _ ⟨(mirror_perm _ _ _ _).trans B.perm,B.kind,B.ok⟩ rfl)
def IM{st:SortSt}{lo nrem:Nat}(L:wX prog w A s kd P)(G:Good P xs0)(B:SB kd xs0 st)(h1:1<=nrem)(hn:lo+nrem<=xs0.size)(h:∀m st',SB kd xs0 st'->pendingOf st'=pendingOf st->1<=m->m<=nrem->Q (some m) st') : wpS (model prog w) A E s (countRun' lo nrem) Q st:=by
 unfold countRun';refine UN (Vr (Vs (I:=λx c st'=>st'=st/\c.1=none/\c.2=x) (Q:=λc st'=>st'=st/\c.1=none/\1<=c.2/\c.2<=nrem) ?step ?fin ⟨rfl,rfl,rfl⟩) ?post)
 case step=>
  rintro x⟨o,n⟩st' a b⟨rfl,rfl,rfl⟩;dsimp only;refine UN (gR L G B (by dsimp only at a b;lia) (by dsimp only at a b;lia) λc=>?_)
  dsimp only;refine kC (λ_=>UY ⟨rfl,rfl,by dsimp only at a b⊢;lia,by dsimp only at a b⊢;lia⟩) (λ_=>UY ⟨rfl,rfl,rfl⟩)
 case fin=>
  rintro⟨o,n⟩st'⟨rfl,rfl,e⟩;dsimp only at e;exact⟨rfl,rfl,by dsimp only;lia,by dsimp only;lia⟩
 case post=>
  rintro⟨o,n⟩st'⟨rfl,rfl,n1,n2⟩;dsimp only at n1 n2⊢;refine TR (λe=>UY (h _ _ B rfl n1 n2)) (λe=>?_)
  refine kC (λn0=>?_) (λn0=>?_)
  .refine UN (gR L G B (by lia) (by lia) λc=>?_)
   dsimp only;refine kC (λ_=>UY (h _ _ B rfl n1 n2)) (λ_=>?_)
   refine UN (jA B λst6 B6 p6=>?_)
   refine UN (wpS_lift (Vp ⟨rfl,?_⟩));refine UN (Vr (Vs (I:=λx c st2=>SB kd xs0 st2/\pendingOf st2=pendingOf st'/\c.1=none/\c.2.1=x) (Q:=λc st2=>SB kd xs0 st2/\pendingOf st2=pendingOf st'/\c.1=none/\1<=c.2.1/\c.2.1<=nrem) ?step1 ?fin1 ⟨B6,p6,rfl,rfl⟩) ?post1)
   case step1=>
    rintro x⟨o,m,q⟩st2 a b⟨B2,p2,rfl,rfl⟩;dsimp only at a b⊢;refine UN (gR L G B2 (by lia) (by lia) λc=>?_)
    dsimp only;refine kC (λ_=>?_) (λ_=>?_)
    .refine kC (λ_=>?_) (λ_=>?_)
     .exact UN (jA B2 λst3 B3 p3=>UY ⟨B3,p3.trans p2,rfl,rfl⟩)
     .exact UY ⟨B2,p2,rfl,rfl⟩
    .refine UN (gR L G B2 (by lia) (by lia) λc2=>?_)
     dsimp only;refine kC (λ_=>?_) (λ_=>?_)
     .exact UY ⟨B2,p2,rfl,by dsimp only;lia,by dsimp only;lia⟩
     .exact UY ⟨B2,p2,rfl,rfl⟩
   case fin1=>
    rintro⟨o,m,q⟩st2⟨B2,p2,rfl,e2⟩;dsimp only at e2;exact⟨B2,p2,rfl,by dsimp only;lia,by dsimp only;lia⟩
   case post1=>
    rintro⟨o,m,q⟩st2⟨B2,p2,rfl,m1,m2⟩;dsimp only at m1 m2⊢;refine kC (λ_=>?_) (λ_=>?_)
    .refine UN (jA B2 λst3 B3 p3=>?_)
     refine UN (jA B3 λst4 B4 p4=>?_)
     refine UN (Vr (Vs (I:=λx c st5=>st5=st4/\c.1=none/\c.2=x) (Q:=λc st5=>st5=st4/\c.1=none/\1<=c.2/\c.2<=nrem) ?stepL2 ?finL2 ⟨rfl,rfl,rfl⟩) ?postL2)
     case stepL2=>
      rintro x⟨o,m⟩st5 a b⟨rfl,rfl,rfl⟩;dsimp only at a b⊢;refine UN (gR L G B4 (by lia) (by lia) λc=>?_)
      dsimp only;refine kC (λ_=>UY ⟨rfl,rfl,by dsimp only;lia,by dsimp only;lia⟩) (λ_=>UY ⟨rfl,rfl,rfl⟩)
     case finL2=>
      rintro⟨o,m⟩st5⟨rfl,rfl,e2⟩;dsimp only at e2;exact⟨rfl,rfl,by dsimp only;lia,by dsimp only;lia⟩
     case postL2=>
      rintro⟨o,m⟩st5⟨rfl,rfl,k1,k2⟩;dsimp only at k1 k2⊢;exact UY (h _ _ B4 (p4.trans (p3.trans p2)) k1 k2)
    .refine UN (jA B2 λst4 B4 p4=>?_)
     refine UN (Vr (Vs (I:=λx c st5=>st5=st4/\c.1=none/\c.2=x) (Q:=λc st5=>st5=st4/\c.1=none/\1<=c.2/\c.2<=nrem) ?stepL3 ?finL3 ⟨rfl,rfl,rfl⟩) ?postL3)
     case stepL3=>
      rintro x⟨o,m⟩st5 a b⟨rfl,rfl,rfl⟩;dsimp only at a b⊢;refine UN (gR L G B4 (by lia) (by lia) λc=>?_)
      dsimp only;refine kC (λ_=>UY ⟨rfl,rfl,by dsimp only;lia,by dsimp only;lia⟩) (λ_=>UY ⟨rfl,rfl,rfl⟩)
     case finL3=>
      rintro⟨o,m⟩st5⟨rfl,rfl,e2⟩;dsimp only at e2;exact⟨rfl,rfl,by dsimp only;lia,by dsimp only;lia⟩
     case postL3=>
      rintro⟨o,m⟩st5⟨rfl,rfl,k1,k2⟩;dsimp only at k1 k2⊢;exact UY (h _ _ B4 (p4.trans p2) k1 k2)
  .have p6:pendingOf st'=pendingOf st':=rfl;refine UN (wpS_lift (Vp ⟨rfl,?_⟩));refine UN (Vr (Vs (I:=λx c st2=>SB kd xs0 st2/\pendingOf st2=pendingOf st'/\c.1=none/\c.2.1=x) (Q:=λc st2=>SB kd xs0 st2/\pendingOf st2=pendingOf st'/\c.1=none/\1<=c.2.1/\c.2.1<=nrem) ?step4 ?fin4 ⟨B,p6,rfl,rfl⟩) ?post4)
   case step4=>
    rintro x⟨o,m,q⟩st2 a b⟨B2,p2,rfl,rfl⟩;dsimp only at a b⊢;refine UN (gR L G B2 (by lia) (by lia) λc=>?_)
    dsimp only;refine kC (λ_=>?_) (λ_=>?_)
    .refine kC (λ_=>?_) (λ_=>?_)
     .exact UN (jA B2 λst3 B3 p3=>UY ⟨B3,p3.trans p2,rfl,rfl⟩)
     .exact UY ⟨B2,p2,rfl,rfl⟩
    .refine UN (gR L G B2 (by lia) (by lia) λc2=>?_)
     dsimp only;refine kC (λ_=>?_) (λ_=>?_)
     .exact UY ⟨B2,p2,rfl,by dsimp only;lia,by dsimp only;lia⟩
     .exact UY ⟨B2,p2,rfl,rfl⟩
   case fin4=>
    rintro⟨o,m,q⟩st2⟨B2,p2,rfl,e2⟩;dsimp only at e2;exact⟨B2,p2,rfl,by dsimp only;lia,by dsimp only;lia⟩
   case post4=>
    rintro⟨o,m,q⟩st2⟨B2,p2,rfl,m1,m2⟩;dsimp only at m1 m2⊢;refine kC (λ_=>?_) (λ_=>?_)
    .refine UN (jA B2 λst3 B3 p3=>?_)
     refine UN (jA B3 λst4 B4 p4=>?_)
     refine UN (Vr (Vs (I:=λx c st5=>st5=st4/\c.1=none/\c.2=x) (Q:=λc st5=>st5=st4/\c.1=none/\1<=c.2/\c.2<=nrem) ?stepL5 ?finL5 ⟨rfl,rfl,rfl⟩) ?postL5)
     case stepL5=>
      rintro x⟨o,m⟩st5 a b⟨rfl,rfl,rfl⟩;dsimp only at a b⊢;refine UN (gR L G B4 (by lia) (by lia) λc=>?_)
      dsimp only;refine kC (λ_=>UY ⟨rfl,rfl,by dsimp only;lia,by dsimp only;lia⟩) (λ_=>UY ⟨rfl,rfl,rfl⟩)
     case finL5=>
      rintro⟨o,m⟩st5⟨rfl,rfl,e2⟩;dsimp only at e2;exact⟨rfl,rfl,by dsimp only;lia,by dsimp only;lia⟩
     case postL5=>
      rintro⟨o,m⟩st5⟨rfl,rfl,k1,k2⟩;dsimp only at k1 k2⊢;exact UY (h _ _ B4 (p4.trans (p3.trans p2)) k1 k2)
    .refine UN (jA B2 λst4 B4 p4=>?_)
     refine UN (Vr (Vs (I:=λx c st5=>st5=st4/\c.1=none/\c.2=x) (Q:=λc st5=>st5=st4/\c.1=none/\1<=c.2/\c.2<=nrem) ?stepL6 ?finL6 ⟨rfl,rfl,rfl⟩) ?postL6)
     case stepL6=>
      rintro x⟨o,m⟩st5 a b⟨rfl,rfl,rfl⟩;dsimp only at a b⊢;refine UN (gR L G B4 (by lia) (by lia) λc=>?_)
      dsimp only;refine kC (λ_=>UY ⟨rfl,rfl,by dsimp only;lia,by dsimp only;lia⟩) (λ_=>UY ⟨rfl,rfl,rfl⟩)
     case finL6=>
      rintro⟨o,m⟩st5⟨rfl,rfl,e2⟩;dsimp only at e2;exact⟨rfl,rfl,by dsimp only;lia,by dsimp only;lia⟩
     case postL6=>
      rintro⟨o,m⟩st5⟨rfl,rfl,k1,k2⟩;dsimp only at k1 k2⊢;exact UY (h _ _ B4 (p4.trans p2) k1 k2)
def Q6{st:SortSt}{lo n k:Nat}(L:wX prog w A s kd P)(G:Good P xs0)(B:SB kd xs0 st)(hn:lo+n<=xs0.size)(h:∀st',SB kd xs0 st'->pendingOf st'=pendingOf st->Q true st') : wpS (model prog w) A E s (binarySort' lo n k) Q st:=by
 unfold binarySort';refine UN (Vr (Vs (I:=λx c st'=>SB kd xs0 st'/\pendingOf st'=pendingOf st/\c.1=none) (Q:=λc st'=>SB kd xs0 st'/\pendingOf st'=pendingOf st/\c.1=none) ?step (λ_ _ q=>q) ⟨B,rfl,rfl⟩) ?post)
 case post=>
  rintro⟨o,u⟩st'⟨B1,p1,rfl⟩;exact UY (h _ B1 p1)
 case step=>
  rintro x⟨o,u⟩st' a b⟨B1,p1,rfl⟩;dsimp only;refine UN (Vr (Vs (I:=λy c st2=>st2=st'/\c.1=none/\c.2.2<=x) (Q:=λc st2=>st2=st'/\c.1=none/\c.2.2<=x) ?step1 (λ_ _ q=>q) ⟨rfl,rfl,U5 _⟩) ?post1)
  case step1=>
   rintro y⟨o,l,r⟩st2 _ _⟨rfl,rfl,le⟩;dsimp only at le⊢;refine kC (λ_=>UY ⟨rfl,rfl,le⟩) (λlr=>?_)
   refine UN (gR L G B1 (by lia) (by lia) λc=>?_)
   dsimp only;refine kC (λ_=>UY ⟨rfl,rfl,by dsimp only;lia⟩) (λ_=>UY ⟨rfl,rfl,le⟩)
  case post1=>
   rintro⟨o,l,r⟩st2⟨rfl,rfl,le⟩;dsimp only;refine UN (wpS_modify ?_);exact UY ⟨⟨(bubble_perm _ _ _).trans B1.perm,B1.kind,B1.ok⟩,p1,rfl⟩
end
def IsPair(h:Heap)(v:Value):Prop:=∃(a:Addr)(o:Obj) (i j:Int)(t u:Tok) (n:Nat),v=.ref a/\h.get? a=some o/\o.cls=.type "tuple"/\o.data=.seq #[.int i t,.int j u] n
section
variable{prog:Program}{w:World}{A:Around}{E:ZI}{s:Shared}
def OQ(b:Bool){i j:Int}(h:∀c,Q c s):wpAny (model prog w) A (oneLt' b (.int i t) (.int j u)) Q E s:=by
 cases b with
 |true=>exact oneLt_int (h _)
 |false=>rw[oneLt'_eq];rw[if_neg V5];refine U0 (?_:wpAny _ _ (compareOp .Lt (.int i t) (.int j u)) _ _ _);exact lt_int (Wc (h _))
def Ef:wX prog w A s (tuples' true) (IsPair s.heap):=by
 rintro E x y⟨a,o,i,j,t,u,n,rfl,ho,hc,hd⟩⟨a2,o2,i2,j2,t2,u2,n2,rfl,ho2,hc2,hd2⟩Q h;refine U0 (YA ho hd ?_);refine U0 (YA ho2 hd2 ?_);dsimp only;refine U0 ?_;refine wpAny_forIn_list _ (λrest r s'=>s'=s/\r.1=none/\∀x∈rest,∃(i j:Int)(t u:Tok),x.1=(Value.int i t,Value.int j u)) _ ?_ ?_ _ _ ⟨rfl,rfl,λx hx=>?_⟩
 .rintro⟨⟨p,q⟩,k⟩rest⟨r,⟨⟩⟩s'⟨rfl,rfl,hall⟩;obtain⟨i3,j3,t3,u3,e⟩:=hall _ U1;dsimp only at e;cases e;dsimp only;refine U0 ((intKind prog w).eqBool (a:=i3) (b:=j3) (intKind_is _ _ i3 t3) (intKind_is _ _ j3 u3) ?_);cases decide (i3=j3)with
  |true=>exact U3 ⟨rfl,rfl,λx hx=>hall x (U4 _ hx)⟩
  |false=>exact U0 (OQ _ λc=>U3 (U3 (h c)))
 .rintro⟨r,⟨⟩⟩s'⟨rfl,rfl,_⟩;exact U3 (h _)
 have hx':x=((Value.int i t,Value.int i2 t2),0)\/x=((Value.int j u,Value.int j2 u2),1):=by simpa using hx
 rcases hx' with rfl|rfl;{exact⟨_,_,_,_,rfl⟩};exact⟨_,_,_,_,rfl⟩
def EW(hv:IsPair s.heap v)(h:∀i t,Q (some (.int i t)) s):wpAny (model prog w) A (firstOfTuple' v) Q E s:=by obtain⟨a,o,i,j,t,u,n,rfl,ho,hc,hd⟩:=hv;unfold firstOfTuple';refine U0 (X0 (T:="tuple") ⟨o,ho,hc⟩ ?_);rw[if_neg (by decide)];refine U0 (YA ho hd (U3 ?_));exact h i t
theorem firsts:∀{vs:ZW},(∀v∈vs,IsPair s.heap v)->(∀os:List (ZS),os.length=vs.length->(∀o∈os,∃i t,o=some (Value.int i t))->Q os s)->wpAny (model prog w) A (vs.mapM firstOfTuple') Q E s
 |[],_,h=>by rw[List.mapM_nil];exact U3 (h [] rfl λo ho=>(nomatch ho))
 |v::r,hv,h=>by rw[List.mapM_cons];refine U0 (EW (hv v U1) λi t=>?_);refine U0 (firsts (λx hx=>hv x (U4 _ hx)) λos ol oh=>?_);refine U3 (h _ (by simp[ol]) λo ho=>?_);rcases U6.mp ho with rfl|ho;{exact⟨i,t,rfl⟩};exact oh o ho
def DK{Q:SortKind->Shared->Prop}(h0:vs≠[])(hv:∀v∈vs,IsPair s.heap v)(h:Q (tuples' true) s):wpAny (model prog w) A (keyKind' vs.toArray) Q E s:=by
 rw[keyKind'_eq,List.mapM_toArray];rw[map_eq_pure_bind,bind_assoc];refine U0 (firsts hv λos ol oh=>?_);rw[pure_bind];have all:os.toArray.all (·.isSome)=true:=by rw[List.all_toArray,US];intro o ho;obtain⟨i,t,rfl⟩:=oh o ho;rfl
 rw[if_pos all];refine U0 (Vp ?_);have inte:∃us:ZW,os.toArray.filterMap id=us.toArray/\us≠[]/\∃ns,IntsAre us ns:=by
  have go:∀os:List (ZS),(∀o∈os,∃i t,o=some (Value.int i t))->∃us ns,os.filterMap id=us/\us.length=os.length/\IntsAre us ns:=λos=>by
   induction os with
   |nil=>exact λ_=>⟨[],[],rfl,rfl,.nil⟩
   |cons o r ih=>intro hh;obtain⟨i,t,rfl⟩:=hh o U1;obtain⟨us,ns,e,l,I⟩:=ih λx hx=>hh x (U4 _ hx);exact⟨.int i t::us,i::ns,by simp[e],by simp[l],.cons i t I⟩
  obtain⟨us,ns,e,l,I⟩:=go os oh;refine⟨us,?_,λz=>h0 ?_,ns,I⟩;{rw[List.filterMap_toArray,e]};rw[z]at l;have:vs.length=0:=by rw[<-ol,<-l];rfl
  exact Y6.mp this
 obtain⟨us,e,un,ns,I⟩:=inte;rw[e,oneTypeOnly'_eq,List.mapM_toArray,mapM_typeOf_ints I];simp only[map_pure,pure_bind];obtain⟨u0,ur,rfl⟩:=List.exists_cons_of_ne_nil un;have hall:((List.map (λ_=>Value.type "int") (u0::ur)).toArray.all λx=>x==Value.type "int")=true:=by simp only[List.all_toArray,Wq,US];intro _ _;rfl
 have h1:(List.map (λ_=>Value.type "int") (u0::ur)).toArray[0]?=some (Value.type "int"):=by simp
 rw[h1];simp only[hall,if_true,pure_bind];exact U3 h
end
def IsPair.keep{a:Addr}(p:IsPair h v)(ha:h.get? a=some c)(hc:c.cls=.type "list")(k:∀b o,b≠a->h.get? b=some o->h'.get? b=some o):IsPair h' v:=by obtain⟨b,o,i,j,t,u,n,rfl,ho,hco,hd⟩:=p;refine⟨b,o,i,j,t,u,n,rfl,k b o (λz=>?_) ho,hco,hd⟩;rw[z,ha]at ho;cases ho;rw[hc]at hco;injection hco with z;exact absurd z (by decide)
end TS
namespace L2
open PySem PySem.Spec PyProof.Rows
def FQ(p:us.Perm its):∀{ys:List V},Vals ys its->∃zs,zs.Perm ys/\Vals zs us:=by
 induction p with
 |nil=>exact λ{ys} r=>⟨ys,List.Perm.refl _,r⟩
 |cons x _ ih=>
  intro ys r;cases r with
  |cons h r=>obtain⟨zs,p1,r1⟩:=ih r;exact⟨_::zs,p1.cons _,.cons h r1⟩
 |swap x y l=>
  intro ys r;cases r with
  |cons h r=>
   cases r with
   |cons h2 r=>exact⟨_::_::_,List.Perm.swap _ _ _,.cons h2 (.cons h r)⟩
 |trans _ _ ih1 ih2=>intro ys r;obtain⟨zs,p1,r1⟩:=ih2 r;obtain⟨ws,p2,r2⟩:=ih1 r1;exact⟨ws,p2.trans p1,r2⟩
abbrev rW:Obj:={ cls:=.type "cell",data:=.cell none }
def Cx.bg(X:Cx)(scope:Scope) (x:Str)(C c:Addr)(NB:Zd)(s2:Shared)(H2:Hp)(fp:ZX):Cx:=
 { X with N:=NB,s₀:=s2,H₀:=H2,env:=compEnvC scope ((x,c)::cC X.env.cells scope.names []) C X.env,outer:=X.stack,ex:=fp,fn:=λy=>y==x,pn:=[],xe:=λ_ _=>False }
section
variable{X:Cx}{scope:Scope}{x:Str}{NB:Zd}{ix:Zb}{pins:ZL}{U:St}{H2:Hp}{s2:Shared}{fp:ZX}
def ud(I2:Inv X pins U H2 s2){c:Addr}(e:X.env.cells.lookup y=some c):c<s2.heap.objs.size:=by obtain⟨v,q⟩:=I2.cell y c e;exact q.lt
end
section
variable{X:Cx}{scope:Scope}{x:Str}{NB:Zd}{ix:Zb}{pins:ZL}{U:St}{H2:Hp}{s2:Shared}{fp:ZX}
def Ep{C c D:Addr}{n:Nat}(I2:Inv X pins U H2 s2)(f2:∀b∈fp,eu X pins H2 b)(hD:s2.heap.objs.size<=D)(I4:Inv (X.bg scope x C c NB s2 H2 fp) [(D,dS its n)] σB H' s4)(rv:Vals ys its)(hz:ys.length<=sizeLine):Inv X pins U (upd H' D (.lst ys)) s4:=by
 have hp:=I4.pin (D,dS its n) (by show _∈[]++[(D,dS its n)];simp);have hfree:H' D=none:=hp.2.1;have neD:∀b o,s2.heap.get? b=some o->b≠D:=λb o e=>UH (UZ (UG e) hD);have neT:∀b o,H2 b=some o->b≠D:=λb o e=>UH (UZ (I2.hok.lt e) hD);have u:Un (frs X.stack) fp H2 H' s2.heap s4.heap:=I4.base;refine I2.Ew (ch:=fp) I4.os ⟨u.keep,u.slot,λb o e n hx=>?_,u.there,λb xs e=>?_,λb o v e=>?_,λb ps e=>?_⟩ (λb o e=>?_) I4.bare λb hb=>?_;{rw[aq (neD b o e)];exact u.free b o e n hx};{rw[aq (neT b _ e)];exact u.tups b xs e};{rw[aq (neT b _ e)];exact u.kM b o v e};{rw[aq (neT b _ e)];exact u.lW b ps e}
 .by_cases hb:b=D;{subst hb;rw[aH]at e;cases e;exact⟨hz,its,n,rv,hp.1⟩};rw[aq hb]at e;have ne:∀{c:Addr}{w:HO},H' c=some w->c≠D:=λ{c w} q z=>by rw[z,hfree]at q;cases q
  exact(I4.hok b o e).stay (λ_ _ _ q=>q) (λc q=>by rw[aq (ne q)];exact q) λc xs q=>by rw[aq (ne q)];exact q
 obtain⟨_,g1,g2,g3,g4,g5⟩:=f2 b hb;exact⟨g3,g1,g4,g5⟩
end
def QE(K:ZR)(a:Addr):It:=
 ⟨λi H=>∃xs x,bI K H a xs/\xs[i]?=some x,λi H v H'=>∃T,H T=none/\v=.ref T/\∀xs,bI K H a xs->∃x,xs[i]?=some x/\H'=upd H T (.tup [.int i,x]),λi H=>∃xs,bI K H a xs/\xs.length<=i⟩
def FE{P:Program}{w:World}{K:ZR}{elts:ZZ}{x1:Nat}{pos:Pos}(a e it:Addr)(hne:e≠it) : Turn P w K (.Tuple elts x1 pos) (QE K a) [e,it] e (λi h=>(∃old,IsEnum h e it i old)/\h.IsListIter it a i) where
 mem:=by simp
 obj:=λi h st b hb=>by
  obtain⟨⟨old,he⟩,o,e1,c,d⟩:=st;rcases U6.mp hb with z|z
  .subst z;exact⟨_,he,λv q=>by cases q⟩
  .have z:b=it:=by simpa using z
   subst z;exact⟨o,e1,λv q=>by rw[d]at q;cases q⟩
 keep:=λi h h' st k=>by
  obtain⟨⟨old,he⟩,li⟩:=st;exact⟨⟨old,k e (by simp) _ he⟩,li.at λo q=>k it (by simp) o q⟩
 item:=by
  intro X hP hw hK hc i pins s U H E I hf st hg;subst hP hw hK;obtain⟨xs,x,hq,hx⟩:=hg;obtain⟨its,rv,p,hz⟩:=I.list hq;obtain⟨u,hu,ru⟩:=rv.get hx;obtain⟨⟨old,he⟩,hit⟩:=st;have fe:=hf e (by simp)
  have fi:=hf it (by simp)
  refine wpAny_pyNext_enum_item he hit p.isList (x:=u) (by simpa using hu) hne λh1 heo hit1 ht1 hz1 hk1=>⟨_,rfl,?_⟩
  refine wpAny_letOwnedTupleGo_enum heo λh2 he2 hs2=>?_
  have elt:e<s.heap.objs.size:=UG he;have ht2:h2.get? s.heap.objs.size=some { cls:=.type "tuple",data:=.seq #[.int i s.toks,u] }:=(hs2.2 _ (Vm elt)).trans ht1;have hfr:H s.heap.objs.size=none:=I.hok.fresh (U5 _);have k2:∀b o,b≠e->b≠it->s.heap.get? b=some o->h2.get? b=some o:=λb o b1 b2 q=>hs2.extBut b o b1 (hk1 b o b1 b2 q)
  have neT:∀b o,H b=some o->b≠s.heap.objs.size:=λb o q z=>by rw[z,hfr]at q;cases q
  have neS:∀b o,s.heap.get? b=some o->b≠s.heap.objs.size:=λb o q=>UH (UG q)
  have nt:∀b o,H b=some o->b≠e/\b≠it:=λb o q=>⟨(λz=>by rw[z,fe.1]at q;cases q),(λz=>by rw[z,fi.1]at q;cases q)⟩
  have nin:∀b,b∉[e,it]->b≠e/\b≠it:=λb hb=>⟨λz=>hb (by simp[z]),λz=>hb (by simp[z])⟩
  have I2:Inv X pins U (upd H s.heap.objs.size (.tup [.int i,x])) { s with heap:=h2,toks:=s.toks+1 }:=by
   refine I.step (g':=s.gens) (d':=s.drawn) (ch:=[e,it]) (λb hb=>?_) (λb o _ _ hc' q _=>k2 b o (nin b hc').1 (nin b hc').2 q) (λb o _ _ hc' q _=>⟨o.slots,k2 b o (nin b hc').1 (nin b hc').2 q⟩)
    (λb o _ q n=>by rw[aq (neS b o q)];exact n) (λb o hc' q=>⟨o,k2 b o (nin b hc').1 (nin b hc').2 q⟩) (λb ys q=>by rw[aq (neT b _ q)];exact q) (λb o v q=>by rw[aq (neT b _ q)];exact q)
    (λb ps q=>⟨#[],by rw[aq (neT b _ q),q];simp⟩) (λm hm=>?_) (λb o q=>?_) I.bare
   .rcases U6.mp hb with z|z
    .subst z;exact⟨fe.2.2.2.1,fe.2.1,fe.2.2.2.2.1,fe.2.2.2.2.2⟩
    .have z:b=it:=by simpa using z
     subst z;exact⟨fi.2.2.2.1,fi.2.1,fi.2.2.2.2.1,fi.2.2.2.2.2⟩
   .obtain⟨o,es,ep,ho,r⟩:=hm;exact⟨o,es,ep,k2 _ o (Ne.symm fe.2.1) (Ne.symm fi.2.1) ho,r⟩
   .by_cases z:b=s.heap.objs.size
    .subst z;rw[aH]at q;cases q;exact⟨(by show 2<=sizeLine;decide),[.int i s.toks,u],.cons ⟨_,rfl⟩ (.cons ru .nil),_,ht2,rfl,_,rfl⟩
    .rw[aq z]at q;refine(I.hok b o q).stay (λc v hc' r=>k2 c v ?_ ?_ r) (λc r=>by rw[aq (neT c _ r)];exact r) λc ys r=>by rw[aq (neT c _ r)];exact r
     .rcases hc' with y|y
      .rw[y];exact(nt b o q).1
      .exact(nt c _ y).1
     .rcases hc' with y|y
      .rw[y];exact(nt b o q).2
      .exact(nt c _ y).2
  refine⟨.ref s.heap.objs.size,_,I2,rfl,⟨s.heap.objs.size,hfr,rfl,λys hy=>⟨x,by rw[I.pY hy hq];exact hx,rfl⟩⟩,⟨⟨_,he2⟩,?_⟩,λb hb=>?_⟩
  .exact hit1.at λo q=>hs2.extBut it o (Ne.symm hne) q
  .rcases U6.mp hb with z|z
   .subst z;rw[aq (UH elt)];exact fe.1
   .have z:b=it:=by simpa using z
    subst z;obtain⟨o,q,_⟩:=id hit;rw[aq (UH (UG q))];exact fi.1
 done:=by
  intro X hP hw hK hc i pins s U H E I hf st hg;subst hP hw hK;obtain⟨xs,hq,hx⟩:=hg;obtain⟨its,rv,p,hz⟩:=I.list hq;obtain⟨⟨old,he⟩,hit⟩:=st;obtain⟨f0,f1,f2,f3,f4,f5⟩:=hf it (by simp)
  have hl:=rv.length;exact wpAny_pyNext_enum_end (I.ok.hd hc) he hit p.isList (by simp;lia) λh' eb=>⟨rfl,I.turned (t':=s.toks) (λb o hb q=>eb b o hb q) f0 f1 f3 f4 f5⟩
 self:=λ_ _ _ _ _ st h=>by
  obtain⟨⟨old,he⟩,_⟩:=st;exact wpAny_pyIter_enum he h
section
variable{X:Cx}
inductive GW(K:ZR)(R:(It->Hp->Prop))(vs:List V)(H1:Hp):Prop
 |mk:∀a,(vs=[.ref a])->((∃xs,bI K H1 a xs))->(R (QE K a) H1)->GW K R vs H1
def RX(K:ZR)(ta:TA):TI:=λU H R=>ta U H λvs H1=>GW K R vs H1
def LY{elts:ZZ}{x1:Nat}{tp p pos:Pos}{e:Expr}{ta:TA}(hg:Gl X "enumerate")(hm:X.mg "enumerate"=none)(ha:PA X [e] ta)(hs:starEach [e] X.env=[(false,eval e X.env)]:=by rfl) : PI X (.Tuple elts x1 tp) (.Call (.Name "enumerate" p) [e] [] pos) (RX X.K ta):=by
 intro pins s U H R I h;refine Call_ (mE I hg hm boot_enumerate (XO (aU (ha pos pins s U H _ I h) λus s1 ⟨vs,H1,I1,r1,q1⟩=>?_) hs rfl));obtain⟨a,ev,⟨xs,hq⟩,q⟩:=q1;subst ev;obtain⟨u,rfl,ru⟩:=r1.one;cases ru;obtain⟨its,rv,pl,hz⟩:=I1.list hq;refine call_enumerate_list pl.isList λh' he hit hsz hk=>?_;refine wpAny_pyIter_enum he ?_;have I2:Inv X pins U H1 { s1 with heap:=h' }:=I1.kept (t':=s1.toks) hk;refine⟨s1.heap.objs.size+1,[s1.heap.objs.size+1,s1.heap.objs.size],_,_,H1,rfl,I2,FE a _ _ (Nat.succ_ne_self _),⟨⟨_,he⟩,hit⟩,λb hb=>?_,q⟩;have hb:s1.heap.objs.size<=b:=by
  rcases U6.mp hb with z|z;{rw[z];exact Wi _};have z:b=s1.heap.objs.size:=by simpa using z
  rw[z];exact U5 _
 exact I1.rK hb (I1.hok.fresh hb)
end
section
variable{prog:Program}{w:World}{A:Around}{R:Result->Shared->Prop}{s:Shared}
abbrev CW(prog:Program)(w:World)(A:Around)(env:Env)(R:Result->Shared->Prop):ZI:=notedBy (model prog w) A env λe s'=>R (.error e) s'
end
def Pu(K:ZR)(a b:Addr):It:=
 ⟨λi H=>∃xs ys x y,bI K H a xs/\bI K H b ys/\xs[i]?=some x/\ys[i]?=some y,λi H v H'=>∃T,H T=none/\v=.ref T/\∀xs ys,bI K H a xs->bI K H b ys->∃x y,xs[i]?=some x/\ys[i]?=some y/\H'=upd H T (.tup [x,y]),
  λi H=>∃xs ys,bI K H a xs/\bI K H b ys/\(xs.length<=i\/ys.length<=i)⟩
def J2{P:Program}{w:World}{K:ZR}{elts:ZZ}{x1:Nat}{pos:Pos}(a b z TI TO i1 i2:Addr)(D:PySem.ZipApart z TI TO i1 i2 a b) : Turn P w K (.Tuple elts x1 pos) (Pu K a b) [z,TI,TO,i1,i2] z (λi h=>PySem.IsZip h z TI TO .none/\PySem.IsPair h TI (.ref i1) (.ref i2)/\(∃u v,PySem.IsPair h TO u v)/\h.IsListIter i1 a i/\h.IsListIter i2 b i) where
 mem:=by simp
 obj:=λi h st c hc=>by
  obtain⟨h1,h2,⟨u,v,h3⟩,h4,h5⟩:=st;simp only[U6,UM,VZ]at hc;rcases hc with rfl|rfl|rfl|rfl|rfl
  .exact⟨_,h1,λv q=>by cases q⟩
  .exact⟨_,h2,λv q=>by cases q⟩
  .exact⟨_,h3,λv q=>by cases q⟩
  .obtain⟨o,e1,_,d⟩:=h4;exact⟨o,e1,λv q=>by rw[d]at q;cases q⟩
  .obtain⟨o,e1,_,d⟩:=h5;exact⟨o,e1,λv q=>by rw[d]at q;cases q⟩
 keep:=λi h h' st k=>by
  obtain⟨h1,h2,⟨u,v,h3⟩,h4,h5⟩:=st;exact⟨k z (by simp) _ h1,k TI (by simp) _ h2,⟨u,v,k TO (by simp) _ h3⟩,h4.at λo q=>k i1 (by simp) o q,h5.at λo q=>k i2 (by simp) o q⟩
 item:=by
  intro X hP hw hK hc i pins s U H E I hf st hg;subst hP hw hK;obtain⟨xs,ys,x,y,hq,hq2,hx,hy⟩:=hg;obtain⟨its,rv,p,_⟩:=I.list hq;obtain⟨its2,rv2,p2,_⟩:=I.list hq2;obtain⟨u,hu,ru⟩:=rv.get hx;obtain⟨u2,hu2,ru2⟩:=rv2.get hy;obtain⟨h1,h2,⟨ua,ub,h3⟩,h4,h5⟩:=st;have fz:=hf z (by simp)
  have fI:=hf TI (by simp)
  have fO:=hf TO (by simp)
  have f1:=hf i1 (by simp)
  have f2:=hf i2 (by simp)
  refine PySem.wpAny_pyNext_zip_item D h1 h2 h3 h4 h5 p.isList p2.isList (x:=u) (y:=u2) (by simpa using hu) (by simpa using hu2) λhA a1 a2 a3 a4 a5 a6 a7=>⟨_,rfl,?_⟩
  refine PySem.wpAny_letOwnedTupleGo_zip a1 λhB b1 hs=>?_
  have zlt:z<s.heap.objs.size:=UG h1;have ht2:hB.get? s.heap.objs.size=some { cls:=.type "tuple",data:=.seq #[u,u2] }:=(hs.2 _ (Vm zlt)).trans a5;have hfr:H s.heap.objs.size=none:=I.hok.fresh (U5 _);have k2:∀c o,c≠z->c≠TO->c≠i1->c≠i2->s.heap.get? c=some o->hB.get? c=some o:=λc o c1 c2 c3 c4 q=>hs.extBut c o c1 (a7 c o c1 c2 c3 c4 q)
  have neT:∀c o,H c=some o->c≠s.heap.objs.size:=λc o q z=>by rw[z,hfr]at q;cases q
  have neS:∀c o,s.heap.get? c=some o->c≠s.heap.objs.size:=λc o q=>UH (UG q)
  have nt:∀c o,H c=some o->c≠z/\c≠TO/\c≠i1/\c≠i2:=λc o q=>⟨(λe=>by rw[e,fz.1]at q;cases q),(λe=>by rw[e,fO.1]at q;cases q),(λe=>by rw[e,f1.1]at q;cases q),(λe=>by rw[e,f2.1]at q;cases q)⟩
  have nin:∀c,c∉[z,TO,i1,i2]->c≠z/\c≠TO/\c≠i1/\c≠i2:=λc hc=>⟨λe=>hc (by simp[e]),λe=>hc (by simp[e]),λe=>hc (by simp[e]),λe=>hc (by simp[e])⟩
  have kk:∀c o,(c≠z/\c≠TO/\c≠i1/\c≠i2)->s.heap.get? c=some o->hB.get? c=some o:=λc o n q=>k2 c o n.1 n.2.1 n.2.2.1 n.2.2.2 q
  have I2:Inv X pins U (upd H s.heap.objs.size (.tup [x,y])) { s with heap:=hB }:=by
   refine I.step (g':=s.gens) (d':=s.drawn) (t':=s.toks) (ch:=[z,TO,i1,i2]) (λc hc=>?_) (λc o _ _ hc' q _=>kk c o (nin c hc') q) (λc o _ _ hc' q _=>⟨o.slots,kk c o (nin c hc') q⟩)
    (λc o _ q n=>by rw[aq (neS c o q)];exact n) (λc o hc' q=>⟨o,kk c o (nin c hc') q⟩) (λc ys q=>by rw[aq (neT c _ q)];exact q) (λc o v q=>by rw[aq (neT c _ q)];exact q)
    (λc ps q=>⟨#[],by rw[aq (neT c _ q),q];simp⟩) (λm hm=>?_) (λc o q=>?_) I.bare
   .simp only[U6,UM,VZ]at hc;rcases hc with rfl|rfl|rfl|rfl
    .exact⟨fz.2.2.2.1,fz.2.1,fz.2.2.2.2.1,fz.2.2.2.2.2⟩
    .exact⟨fO.2.2.2.1,fO.2.1,fO.2.2.2.2.1,fO.2.2.2.2.2⟩
    .exact⟨f1.2.2.2.1,f1.2.1,f1.2.2.2.2.1,f1.2.2.2.2.2⟩
    .exact⟨f2.2.2.2.1,f2.2.1,f2.2.2.2.2.1,f2.2.2.2.2.2⟩
   .obtain⟨o,es,ep,ho,r⟩:=hm;exact⟨o,es,ep,kk _ o ⟨Ne.symm fz.2.1,Ne.symm fO.2.1,Ne.symm f1.2.1,Ne.symm f2.2.1⟩ ho,r⟩
   .by_cases e:c=s.heap.objs.size
    .subst e;rw[aH]at q;cases q;exact⟨(by show 2<=sizeLine;decide),[u,u2],.cons ru (.cons ru2 .nil),_,ht2,rfl,_,rfl⟩
    .rw[aq e]at q;refine(I.hok c o q).stay (λd v hd r=>kk d v ?_ r) (λd r=>by rw[aq (neT d _ r)];exact r) λd ys r=>by rw[aq (neT d _ r)];exact r
     rcases hd with y|y
     .rw[y];exact nt c o q
     .exact nt d _ y
  refine⟨.ref s.heap.objs.size,_,I2,rfl,⟨s.heap.objs.size,hfr,rfl,λxs2 ys2 hx2 hy2=>⟨x,y,by rw[I.pY hx2 hq];exact hx,by rw[I.pY hy2 hq2];exact hy,rfl⟩⟩,⟨b1,?_,⟨_,_,hs.extBut _ _ D.TOz a2⟩,a3.at λo q=>hs.extBut _ _ D.i1z q,a4.at λo q=>hs.extBut _ _ D.i2z q⟩,λc hc=>?_⟩
  .exact k2 _ _ D.TIz D.TITO D.TIi1 D.TIi2 h2
  .have old:∀c,(∃o,s.heap.get? c=some o)->H c=none->upd H s.heap.objs.size (.tup [x,y]) c=none:=λc ⟨o,q⟩ hn=>by rw[aq (neS c o q)];exact hn
   simp only[U6,UM,VZ]at hc;rcases hc with rfl|rfl|rfl|rfl|rfl
   .exact old _ ⟨_,h1⟩ fz.1
   .exact old _ ⟨_,h2⟩ fI.1
   .exact old _ ⟨_,h3⟩ fO.1
   .obtain⟨o,q,_⟩:=id h4;exact old _ ⟨o,q⟩ f1.1
   .obtain⟨o,q,_⟩:=id h5;exact old _ ⟨o,q⟩ f2.1
 done:=by
  intro X hP hw hK hc i pins s U H E I hf st hg;subst hP hw hK;obtain⟨xs,ys,hq,hq2,hx⟩:=hg;obtain⟨its,rv,p,_⟩:=I.list hq;obtain⟨its2,rv2,p2,_⟩:=I.list hq2;obtain⟨h1,h2,⟨ua,ub,h3⟩,h4,h5⟩:=st;have hl:=rv.length;have hl2:=rv2.length;have fz:=hf z (by simp)
  have fO:=hf TO (by simp)
  have f1:=hf i1 (by simp)
  have f2:=hf i2 (by simp)
  refine PySem.wpAny_pyNext_zip_end (I.ok.hd hc) D h1 h2 h3 h4 h5 p.isList p2.isList (hx.imp (λe=>by simp;lia) (λe=>by simp;lia)) λhA k=>⟨rfl,?_⟩
  have nin:∀c,c∉[z,TO,i1,i2]->c≠z/\c≠TO/\c≠i1/\c≠i2:=λc hc=>⟨λe=>hc (by simp[e]),λe=>hc (by simp[e]),λe=>hc (by simp[e]),λe=>hc (by simp[e])⟩
  have kk:∀c o,(c≠z/\c≠TO/\c≠i1/\c≠i2)->s.heap.get? c=some o->hA.get? c=some o:=λc o n q=>k c o n.1 n.2.1 n.2.2.1 n.2.2.2 q
  have nt:∀c o,H c=some o->c≠z/\c≠TO/\c≠i1/\c≠i2:=λc o q=>⟨(λe=>by rw[e,fz.1]at q;cases q),(λe=>by rw[e,fO.1]at q;cases q),(λe=>by rw[e,f1.1]at q;cases q),(λe=>by rw[e,f2.1]at q;cases q)⟩
  refine I.step (g':=s.gens) (d':=s.drawn) (t':=s.toks) (ch:=[z,TO,i1,i2]) (λc hc=>?_) (λc o _ _ hc' q _=>kk c o (nin c hc') q) (λc o _ _ hc' q _=>⟨o.slots,kk c o (nin c hc') q⟩)
   (λc o _ q n=>n) (λc o hc' q=>⟨o,kk c o (nin c hc') q⟩) (λc ys q=>q) (λc o v q=>q) (λc ps q=>⟨#[],by rw[q];simp⟩) (λm hm=>?_) (λc o q=>?_) I.bare
  .simp only[U6,UM,VZ]at hc;rcases hc with rfl|rfl|rfl|rfl
   .exact⟨fz.2.2.2.1,fz.2.1,fz.2.2.2.2.1,fz.2.2.2.2.2⟩
   .exact⟨fO.2.2.2.1,fO.2.1,fO.2.2.2.2.1,fO.2.2.2.2.2⟩
   .exact⟨f1.2.2.2.1,f1.2.1,f1.2.2.2.2.1,f1.2.2.2.2.2⟩
   .exact⟨f2.2.2.2.1,f2.2.1,f2.2.2.2.2.1,f2.2.2.2.2.2⟩
  .obtain⟨o,es,ep,ho,r⟩:=hm;exact⟨o,es,ep,kk _ o ⟨Ne.symm fz.2.1,Ne.symm fO.2.1,Ne.symm f1.2.1,Ne.symm f2.2.1⟩ ho,r⟩
  .refine(I.hok c o q).stay (λd v hd r=>kk d v ?_ r) (λd r=>r) λd ys r=>r
   rcases hd with y|y
   .rw[y];exact nt c o q
   .exact nt d _ y
 self:=λ_ _ _ _ _ st h=>PySem.wpAny_pyIter_zip st.1 h
section
variable{X:Cx}
inductive Lw(K:ZR)(R:(It->Hp->Prop))(vs:List V)(H1:Hp):Prop
 |mk:∀a b,(vs=[.ref a,.ref b])->((∃xs,bI K H1 a xs))->((∃ys,bI K H1 b ys))->(R (Pu K a b) H1)->Lw K R vs H1
def Kl(K:ZR)(ta:TA):TI:=λU H R=>ta U H λvs H1=>Lw K R vs H1
def QF{x1:Nat}(hg:Gl X "zip")(hm:X.mg "zip"=none)(ha:PA X [e1,e2] ta)(hs:starEach [e1,e2] X.env=[(false,eval e1 X.env),(false,eval e2 X.env)]:=by rfl)(hs2:starEach [e2] X.env=[(false,eval e2 X.env)]:=by rfl) : PI X (.Tuple elts x1 tp) (.Call (.Name "zip" p) [e1,e2] [] pos) (Kl X.K ta):=by
 intro pins s U H R I h;refine Call_ (mE I hg hm PyProof.Rows.boot_zip (XO (aU (ha pos pins s U H _ I h) λus s1 ⟨vs,H1,I1,r1,q1⟩=>?_) (by rw[hs,hs2]) (by rw[hs2];rfl)));obtain⟨a,b,ev,⟨xs,hq⟩,⟨ys,hq2⟩,q⟩:=q1;subst ev;obtain⟨u1,u2,rfl,ru1,ru2⟩:=r1.two;cases ru1;cases ru2;obtain⟨its,rv,pl,_⟩:=I1.list hq;obtain⟨its2,rv2,pl2,_⟩:=I1.list hq2;have la:a<s1.heap.objs.size:=by obtain⟨o,ho,_⟩:=pl.isList;exact UG ho
 have lb:b<s1.heap.objs.size:=by obtain⟨o,ho,_⟩:=pl2.isList;exact UG ho
 refine PySem.call_zip_2 pl.isList pl2.isList λh' hz h2 h3 h4 h5 hsz hk=>?_;refine PySem.wpAny_pyIter_zip hz ?_;have I2:Inv X pins U H1 { s1 with heap:=h' }:=I1.kept (t':=s1.toks) hk;have ga:∀k:Nat,a≠s1.heap.objs.size+k:=λk=>UH (UZ la (WB _ _));have gb:∀k:Nat,b≠s1.heap.objs.size+k:=λk=>UH (UZ lb (WB _ _));have D:PySem.ZipApart (s1.heap.objs.size+4) (s1.heap.objs.size+2) (s1.heap.objs.size+3) s1.heap.objs.size (s1.heap.objs.size+1) a b:=by constructor<;>first|exact ga 4|exact ga 3|exact ga 1|exact ga 0|exact gb 4|exact gb 3|exact gb 1|exact gb 0|exact UH (by lia)|exact Vm (by lia)
 refine⟨s1.heap.objs.size+4,[s1.heap.objs.size+4,s1.heap.objs.size+2,s1.heap.objs.size+3,s1.heap.objs.size,s1.heap.objs.size+1],_,_,H1,rfl,I2,J2 a b _ _ _ _ _ D,⟨hz,h2,⟨_,_,h3⟩,h4,h5⟩,λc hc=>?_,q⟩;have hb:s1.heap.objs.size<=c:=by simp only[U6,UM,VZ]at hc;rcases hc with rfl|rfl|rfl|rfl|rfl;{exact WB _ _};{exact WB _ _};{exact WB _ _};{exact U5 _};exact WB _ _
 exact I1.rK hb (I1.hok.fresh hb)
end
end L2
namespace L2
open PySem PySem.Spec PyProof.Rows PySem.W
section
variable{X:Cx}
theorem tE(ns:Zc):∀k,k<=ns.length->preSum (λi=>ns.getD i 0) k=(ns.take k).sum
 |0,_=>rfl
 |k+1,h=>by have ih:=tE ns k (by lia);rw[preSum,ih,Xd,V0 (show k<ns.length by lia),VJ,V0 (show k<ns.length by lia)];rw[YB];simp
def int_at{ns:Zc}{its:ZW}(rv:Vals (ns.map V.int) its){i:Nat}(h:its[i]?=some v):∃t,v=.int (ns.getD i 0) t:=by
 obtain⟨x,hx,rx⟩:=oQ rv i v h;rw[UK]at hx;cases e:ns[i]? with
 |none=>rw[e]at hx;cases hx
 |some b=>rw[e]at hx;cases hx;obtain⟨t,rfl⟩:=rx;exact⟨t,by rw[VJ,e];rfl⟩
def Ib(hc:X.calm=true):cI X (.builtin "sum") (λxs H Q=>∃(a:Addr)(ns:Zc),xs=[.ref a]/\bI X.K H a (ns.map V.int)/\Q (.int ns.sum) H):=by
 intro pins s U H xs us Q I r h;obtain⟨a,ns,rfl,hq,q⟩:=h;obtain⟨u,rfl,ru⟩:=vals1 r;cases ru;obtain⟨its,rv,p,_⟩:=I.list hq;have hl:=p.isList;have hlt:a<s.heap.objs.size:=by obtain⟨o,ho,_⟩:=id hl;exact UG ho
 have hh:X.A.in1.handled=none:=by simp[I.ok.hd hc]
 have hn:its.toArray.size=ns.length:=by rw[UO,<-rv.length,U7]
 refine call_sum_walkAnyB (XY hl ?_);refine⟨_,_,_,_,_,_,_,λi=>ns.getD i 0,rfl,(Walks.list hh _ a (UH hlt) its.toArray).toS,?_,?_,?_,?_⟩;{exact⟨⟨_,V8 _ rfl,rfl,rfl⟩,hl.push _⟩};{intro b hb;show b<(s.heap.push _).objs.size;rw[WU];rcases U6.mp hb with rfl|hb;{exact WQ _};rcases U6.mp hb with rfl|hb;{exact WA hlt};cases hb}
 .intro i v hP;have hP':its[i]?=some v:=by simpa using hP
  obtain⟨t,rfl⟩:=int_at rv hP';exact .inl ⟨t,rfl⟩
 intro s' t' mv;obtain⟨h',g,d,t,os⟩:=s';obtain⟨m1,m2,m3,m4,m5⟩:=mv;dsimp only at m1 m2 m3 m4;subst m2 m3 m4;rw[hn,tE ns _ (U5 _),VS];exact⟨.int _,H,I.kept (t':=t) (old_kept m1),⟨_,rfl⟩,q⟩
end
end L2
namespace Dv
open PySem L2 PySem.W
section
variable{K:Frag}{H Hm:Hp}{P:Zh}{Q:VK}
def bM(K:Frag)(H Hm:Hp)(P:Zh)(Q:VK):Prop:=∀k v u H' Hm' fp,P k v->aj H H'->aj Hm Hm'->aj Hm' H'->(∀a,H a≠none->OE (Hm' a) (Hm a))->Own K H' Hm' k u v fp->(∀a∈fp,H a=none/\Hm' a=none)->Q u H'
def bM.sc(q:bM K H Hm P Q)(s:aj Hm H)(p:P .sh v)(r:Rp K Hm u v):Q u H:=q _ _ _ _ _ [] p (aj.refl _) (aj.refl _) s (λ_ _=>.inl rfl) (.sh r) λ_ z=>by cases z
def j6(s:aj Hm H){p:Addr}(h:H p=none):Hm p=none:=by
 cases e:Hm p with
 |none=>rfl
 |some o=>rw[s _ _ e]at h;cases h
def bM.nl(q:bM K H Hm P Q)(s:aj Hm H){p:Addr}(pp:P (.ow false) (.list ds))(hp:H p=none)(r:aC K Hm xs ds):Q (.ref p) (upd H p (.lst xs)):=
 q _ _ _ _ Hm [p] pp (cH hp) (aj.refl _) (s.trans (cH hp)) (λ_ _=>.inl rfl) (.ow aH r) λa ha=>by rw[U8.mp ha];exact⟨hp,j6 s hp⟩
def bM.nt(q:bM K H Hm P Q)(s:aj Hm H){p:Addr}(pp:P .sh (.tuple ds))(hp:H p=none)(r:aC K Hm xs ds):Q (.ref p) (upd H p (.tup xs)):=by
 have n:=j6 s hp;have s2:=cH (o:=.tup xs) n;refine q _ _ _ _ (upd Hm p (.tup xs)) [] pp (cH hp) s2 (λb o e=>?_) (λa ha=>.inl (aq λz=>ha (z▸hp))) (.sh (.tup aH (r.mono s2))) λ_ z=>by cases z
 by_cases c:b=p;{rw[c,aH]at e⊢;exact e};rw[aq c]at e⊢;exact s _ _ e
end
def r2(r:R2):List V->Hp->VK->Prop:=λvs H Q=>match vs with
 |[x,y]=>r x y H Q
 |_=>False
def r1(r:V->Hp->VK->Prop):List V->Hp->VK->Prop:=λvs H Q=>match vs with
 |[x]=>r x H Q
 |_=>False
def dR(h:aC K H vs [a]):∃x,vs=[x]/\Rp K H x a:=by
 cases h with
 |cons h t=>cases t;exact⟨_,rfl,h⟩
def iA(h:aC K H vs [a,b]):∃x y,vs=[x,y]/\Rp K H x a/\Rp K H y b:=by
 cases h with
 |cons h t=>obtain⟨y,rfl,h2⟩:=dR t;exact⟨_,_,rfl,h,h2⟩
def b9.or(h:b9 X f r)(k:b9 X f s):b9 X f λx y H Q=>r x y H Q\/s x y H Q:=λpins st U H x y v u Q I a b z=>z.elim (h pins st U H x y v u Q I a b) (k pins st U H x y v u Q I a b)
section
variable{X:Cx}{Ex:XK}{Y:Zb}
def oH(ho:b9 X (binaryOp op) r)(D:cU X.K f (r2 r))(S:aY X Ex Y [a,b] as):SE X Ex Y (.BinOp a op b pos) (ah f as):=gx (r:=r2 r) S (λU H Q h=>WE.of (Sa ho bL bL) h) D
def R8(ho:Lz X (unaryOp op) r)(D:cU X.K f (r1 r))(S:aY X Ex Y [a] as):SE X Ex Y (.UnaryOp op a pos) (ah f as):=gx (r:=r1 r) S (λU H Q h=>WE.of (Rr ho bL) h) D
def GZ(ho:b9 X (compareOp op) r)(hm:behindInMarks op b=false)(D:cU X.K f (r2 r))(S:aY X Ex Y [a,b] as):SE X Ex Y (.Compare a [op] [b] pos) (ah f as):=gx (r:=r2 r) S (λU H Q h=>WE.of (L7 ho bL bL hm) h) D
def Ro(ho:qb X r)(hs:pB b)(D:cU X.K f (r2 r))(S:aY X Ex Y [a,b] as):SE X Ex Y (.Subscript a b pos) (ah f as):=gx (r:=r2 r) S (λU H Q h=>WE.of (Kq ho bL bL hs) h) D
end
def pI(g:Int->Int->PyData):DR:=λds P=>match ds with
 |[.int a,.int b]=>P .sh (g a b)
 |_=>False
def yQ(C:Int->Int->Prop)(g:Int->Int->PyData):DR:=λds P=>match ds with
 |[.int a,.int b]=>C a b/\P .sh (g a b)
 |_=>False
def wV{Z:Prop}{f:Int->Int->Prop}(h:match ds with|[PyData.int a,.int b]=>f a b|_=>False)(k:∀a b,ds=[.int a,.int b]->f a b->Z):Z:=by split at h;{exact k _ _ rfl h};exact h.elim
def pZ{g:Int->Int->PyData}{gv:Int->Int->V}(hg:∀a b Hm,Rp K Hm (gv a b) (g a b)):cU K (pI g) (r2 (qp gv)):=by intro H Hm vs ds P Q s r h q;refine wV h λa b e p=>?_;subst e;obtain⟨x,y,rfl,h1,h2⟩:=iA r;cases h1;cases h2;exact⟨a,b,rfl,rfl,bM.sc q s p (hg a b Hm)⟩
def wI{g:Int->Int->PyData}{gv:Int->Int->V}(hg:∀a b Hm,Rp K Hm (gv a b) (g a b)):cU K (yQ C g) (r2 (rI C gv)):=by intro H Hm vs ds P Q s r h q;refine wV h λa b e p=>?_;subst e;obtain⟨x,y,rfl,h1,h2⟩:=iA r;cases h1;cases h2;exact⟨a,b,rfl,rfl,p.1,bM.sc q s p.2 (hg a b Hm)⟩
inductive GI(K:Frag) (x:V) (y:V)(H:Hp)(Q:VK):Prop
 |mk:∀l b xs zs,(x=.ref l)->(y=.ref b)->(cu K H l xs)->(cu K H b zs)->(xs.length+zs.length<=sizeLine)->(∀p,H p=none->Q (.ref p) (upd H p (.lst (xs++zs))))->GI K x y H Q
def Lx(K:Frag):R2:=λx y H Q=>GI K x y H Q
section
variable{X:Cx}
def LW:b9 X (binaryOp .Add) (Lx X.K):=by
 intro pins s U H x y v u Q I rx ry h;obtain⟨l,b,xs,zs,rfl,rfl,hH,hB,hz,q⟩:=h;cases rx;cases ry;obtain⟨z,its,n,r,e⟩:=hH.get I;obtain⟨z2,its2,n2,r2,e2⟩:=hB.get I;have hl:=r.length;have hl2:=r2.length;refine PySem.P.add_list e e2 ?_ (by rw[UO,UO];lia);have ea:its.toArray++its2.toArray=(its++its2).toArray:=by simp
 rw[ea];exact⟨.ref _,_,I.O0 (t':=s.toks) (r.append r2) (by rw[UR];lia),rfl,q _ I.fresh⟩
end
def Sx(f:PyData->Prop):ZU->Prop
 |[x]=>f x
 |_=>False
def BK(f:PyData->PyData->Prop):ZU->Prop
 |[x,y]=>f x y
 |_=>False
def Sz(f:PyData->PyData->PyData->Prop):ZU->Prop
 |[x,y,z]=>f x y z
 |_=>False
def Bg(d:PyData)(f:Int->Prop):Prop:=match d with
 |.int i=>f i
 |_=>False
def rZ(r:Rp K H x d)(h:Bg d f):∃i,x=.int i/\f i:=by
 cases r with
 |int i=>exact⟨i,rfl,h⟩
 |_=>exact h.elim
def QS(r:aC K H vs ds)(h:Sx f ds):∃x d,vs=[x]/\ds=[d]/\Rp K H x d/\f d:=by
 cases r with
 |nil=>exact h.elim
 |cons h1 r=>
  cases r with
  |nil=>exact⟨_,_,rfl,rfl,h1,h⟩
  |cons=>exact h.elim
def rA(r:aC K H vs ds)(h:BK f ds):∃x y d e,vs=[x,y]/\ds=[d,e]/\Rp K H x d/\Rp K H y e/\f d e:=by
 cases r with
 |nil=>exact h.elim
 |cons h1 r=>
  cases r with
  |nil=>exact h.elim
  |cons h2 r=>
   cases r with
   |nil=>exact⟨_,_,_,_,rfl,rfl,h1,h2,h⟩
   |cons=>exact h.elim
def QX(r:aC K H vs ds)(h:Sz f ds):∃x y z d e d',vs=[x,y,z]/\ds=[d,e,d']/\Rp K H x d/\Rp K H y e/\Rp K H z d'/\f d e d':=by
 cases r with
 |nil=>exact h.elim
 |cons h1 r=>
  cases r with
  |nil=>exact h.elim
  |cons h2 r=>
   cases r with
   |nil=>exact h.elim
   |cons h3 r=>
    cases r with
    |nil=>exact⟨_,_,_,_,_,_,rfl,rfl,h1,h2,h3,h⟩
    |cons=>exact h.elim
def d8:DR:=λds P=>BK (λx y=>match x,y with
 |.int a,.int b=>P .sh (.int (a+b))
 |.list a,.list b=>a.length+b.length<=sizeLine/\P (.ow false) (.list (a++b))
 |.tuple a,.tuple b=>(a≠[]/\a.length+b.length<=sizeLine)/\P .sh (.tuple (a++b))
 |.str a,.str b=>a.length+b.length<=sizeLine/\P .sh (.str (a++b))
 |_,_=>False) ds
def Ko(K:Frag):R2:=λx y H Q=>(((qp λi j=>.int (i+j)) x y H Q\/Lx K x y H Q)\/Ks K x y H Q)\/∃i j,x=.str i/\y=.str j/\i.length+j.length<=sizeLine/\Q (.str (i++j)) H
def Mw:b9 X (binaryOp .Add) (Ko X.K):=((Qx.or LW).or LF).or DO
def Na:cU K d8 (r2 (Ko K)):=by
 intro H Hm vs ds P Q s r h q;obtain⟨x,y,d,e,rfl,rfl,h1,h2,h⟩:=rA r h;cases h1 with
 |int a=>
  cases h2 with
  |int b=>exact .inl (.inl (.inl ⟨_,_,rfl,rfl,bM.sc q s h (.int _)⟩))
  |_=>exact h.elim
 |lst a1 r1=>
  cases h2 with
  |lst a2 r2=>exact .inl (.inl (.inr ⟨_,_,_,_,rfl,rfl,cu.mono s a1,cu.mono s a2,by rw[r1.len,r2.len];exact h.1,λp hp=>bM.nl q s h.2 hp (r1.app r2)⟩))
  |_=>exact h.elim
 |@tup a xs ds1 a1 r1=>
  cases h2 with
  |@tup b ys ds2 a2 r2=>refine .inl (.inr ⟨_,_,_,_,rfl,rfl,cP.of (s _ _ a1),cP.of (s _ _ a2),λz=>h.1.1 ?_,by rw[r1.len,r2.len];exact h.1.2,λz=>?_,λ_ p hp=>bM.nt q s h.2 hp (r1.app r2)⟩);{subst z;cases r1;rfl};subst z;cases r2;have h:P .sh (.tuple (ds1++[])):=h.2;rw[VF]at h;exact bM.sc q s h (.tup a1 r1)
  |_=>exact h.elim
 |str a=>
  cases h2 with
  |str b=>exact .inr ⟨_,_,rfl,rfl,h.1,bM.sc q s h.2 (.str _)⟩
  |_=>exact h.elim
 |_=>exact h.elim
inductive FO(K:Frag) (x:V) (y:V)(H:Hp)(Q:VK):Prop
 |mk:∀l k xs,(x=.ref l)->(y=.int k)->(cu K H l xs)->(-(2^63)<=k)->(k<2^63)->(xs.length*k.toNat<=sizeLine)->(∀p,H p=none->Q (.ref p) (upd H p (.lst (List.replicate k.toNat xs).flatten)))->FO K x y H Q
def KC(K:Frag):R2:=λx y H Q=>FO K x y H Q
section
variable{X:Cx}
open PyProof.Rows in
def LP:b9 X (binaryOp .Mult) (KC X.K):=by
 intro pins s U H x y v u Q I rx ry h;obtain⟨l,k,xs,rfl,rfl,hH,h1,h2,hz,q⟩:=h;cases rx;obtain⟨t,rfl⟩:=ry;obtain⟨z,its,n,r,e⟩:=hH.get I;have hl:=r.length;have hlen:its.toArray.size*k.toNat<=sizeLine:=by rw[UO,<-hl];exact hz
 have hcap:¬its.toArray.size*k.toNat>(2^63-1)/8:=by
  have:(sizeLine:Nat)<=(2^63-1)/8:=by decide
  lia
 have hfit:¬(!Builtin.List.listFitsIndex k)=true:=by rw[fitsIndex_both h1 h2];exact V5
 have hlong:¬Builtin.List.listTooLong (its.toArray.size*k.toNat)=true:=by rw[tR hlen];exact V5
 have hnew:List.foldl (λx1 x2=>x1++x2) #[] (List.replicate (if its.toArray.isEmpty=true then 0 else k.toNat) its.toArray)=(List.replicate k.toNat its).flatten.toArray:=by
  have f0:∀m:Nat,List.foldl (λx1 x2=>x1++x2) #[] (List.replicate m its.toArray)=(List.replicate m its).flatten.toArray:=λm=>by have:=foldl_rep its m [];rw[Xe]at this;exact this
  rw[f0];cases its with
  |nil=>simp
  |cons a r'=>rw[if_neg (by simp)]
 refine wpAny_binaryOp_repeat_ref (T:="list") (U:="int") (by decide) ⟨_,e,rfl⟩ (λs'=>typeIs_int s' k t) noFill_list_mul F.fills_int_mul F.slot_int_rmul repeat_list F.slot_int_index.lookup
  (Wj F.slot_int_rmul (typeIs_int s k t) F.entry_int_rmul (F.args_int_rmul_2 _ _) (int___rmul___int_list k t l its.toArray n)
   ⟨e,rfl,⟨_,e,rfl⟩,Wj F.slot_list_mul ⟨_,e,rfl⟩ F.entry_list_mul (F.args_list_mul_2 _ _) (AutoListH.list___mul___list_int_3 l its.toArray n k t hfit hcap hlong) ⟨e,?_⟩⟩)
 rw[hnew];exact⟨.ref _,_,I.O0 (t':=s.toks) (r.rep k.toNat) (by rw[len_rep,Nat.mul_comm];exact hz),rfl,q _ I.fresh⟩
end
theorem aC.rep(r:aC K H xs ds):∀n:Nat,aC K H (List.replicate n xs).flatten (List.replicate n ds).flatten
 |0=>.nil
 |n+1=>by rw[Wh,Wh,Vo,Vo];exact r.app (r.rep n)
def gG:DR:=λds P=>match ds with
 |[.int a,.int b]=>kI a b/\P .sh (.int (a*b))
 |[.list a,.int k]=>(-(2^63)<=k/\k<2^63/\a.length*k.toNat<=sizeLine)/\P (.ow false) (.list (List.replicate k.toNat a).flatten)
 |_=>False
def KJ(K:Frag):R2:=λx y H Q=>(rI kI λi j=>.int (i*j)) x y H Q\/KC K x y H Q
def Mn:b9 X (binaryOp .Mult) (KJ X.K):=OC.or LP
def MF:cU K gG (r2 (KJ K)):=by
 intro H Hm vs ds P Q s r h q;unfold gG at h;split at h;{obtain⟨x,y,rfl,h1,h2⟩:=iA r;cases h1;cases h2;exact .inl ⟨_,_,rfl,rfl,h.1,bM.sc q s h.2 (.int _)⟩}
 .obtain⟨x,y,rfl,h1,h2⟩:=iA r;cases h2;cases h1 with
  |lst a1 r1=>exact .inr ⟨_,_,_,rfl,rfl,cu.mono s a1,h.1.1,h.1.2.1,by rw[r1.len];exact h.1.2.2,λp hp=>bM.nl q s h.2 hp (r1.rep _)⟩
 exact h.elim
end Dv
namespace L2
open PySem PySem.Spec PyProof.Rows
section
variable{prog:Program}{w:World}{A:Around}{E:ZI}{s:Shared}
def yz{t sl:Addr}{items:ZT}{vl vu:Value}{lo hi:Option Int}{Q:ZI}(ht:IsTup s.heap t items)(hs:s.heap.IsSliceOf sl vl vu .none)(pl:IsPart vl lo)(pu:IsPart vu hi)(w0:HT.aQ items.size 0 lo=0)(w1:HT.aQ items.size items.size hi=items.size)(h:Q (.ref t) s):wpAny (model prog w) A (getItem (.ref t) (.ref sl)) Q E s:=by
 obtain⟨os,hos,hcs,hds⟩:=id hs;have hTs:s.TypeIs (.ref sl) "slice":=⟨os,hos,hcs⟩;unfold getItem;refine VX (?_:_);refine U0 (wpAny_sequenceKey ht.typeIs (by decide) (?_:_));refine U0 (Wz (name:=Str.ofString "__getitem__") ht.typeIs Xu
  (Vc Xu ht.typeIs entry_tuple_getitem (?_:_) (args_tuple_getitem _ _)))
 refine id (?_:wpAny _ _ (Builtin.Tuple.tupleItemsOf (.ref t)>>=_) _ _ s);refine U0 (tupleItemsOf_ ht (?_:_));refine U0 (X0 hTs (?_:_));rw[if_pos (by decide)];refine U0 (HT.lO hs pl pu (?_:_));have yes:(((HT.aQ items.size 0 lo:Nat):Int)==0&&(1:Int)==1&&(HT.aQ items.size items.size hi-HT.aQ items.size 0 lo)==items.size)=true:=by rw[w0,w1,YC];simp
 refine id (?_:wpAny _ _ (if(((HT.aQ items.size 0 lo:Nat):Int)==0&&(1:Int)==1&&(HT.aQ items.size items.size hi-HT.aQ items.size 0 lo)==items.size)=true then _ else _) _ _ s);rw[if_pos yes];refine U0 (m:=Builtin.Tuple.tupleIsExact _) (U0 (X0 ht.typeIs (U3 (?_:_))));rw[if_pos (by decide)];refine U0 (Vp (?_:_));exact U3 ⟨_,rfl,U3 h⟩
end
section
variable{X:Cx}
def Kv(K:ZR):V->Option Int->Option Int->Hp->VK->Prop:=λx lo hi H Q=>∃a xs,x=.ref a/\cP K H a xs /\
 (HT.aQ xs.length 0 lo=0/\HT.aQ xs.length xs.length hi=xs.length->Q (.ref a) H)/\(¬(HT.aQ xs.length 0 lo=0/\HT.aQ xs.length xs.length hi=xs.length)->∀p,H p=none->Q (.ref p) (upd H p (.tup (pN xs lo hi))))
def LB:FP X (Kv X.K):=by
 intro pins s U H x v vl vu lo hi sl Q I rx hs pl pu h;obtain⟨a,xs,rfl,hx,q1,q2⟩:=h;by_cases c:HT.aQ xs.length 0 lo=0/\HT.aQ xs.length xs.length hi=xs.length
 .cases rx;obtain⟨its,r,ht,hz⟩:=I.tuple hx;have hlen:its.toArray.size=xs.length:=by rw[UO];exact r.length.symm
  refine⟨"tuple",_,Z9,ht.typeIs,?_⟩;exact yz ht hs pl pu (by rw[hlen];exact c.1) (by rw[hlen];exact c.2) ⟨.ref a,H,I,rfl,q1 c⟩
 exact NC pins s U H (.ref a) v vl vu lo hi sl Q I rx hs pl pu ⟨a,xs,rfl,hx,c,q2 c⟩
end
end L2
namespace Dv
open PySem L2 PySem.W
def dl:Nat->PyData->Bool
 |_,.none=>true
 |_,.int _=>true
 |_,.str x=>PyData.strOk x
 |n+1,.list ds=>ds.all (dl n)
 |n+1,.tuple ds=>ds.all (dl n)
 |_,_=>false
theorem o9:∀{ds:ZU},(∀d∈ds,d.canLay0=true)->PyData.canLayAll0 ds=true
 |[],_=>rfl
 |d::ds,h=>by rw[PyData.canLayAll0,h d U1,o9 λe he=>h e (U4 _ he)];rfl
theorem rM{n:Nat}:∀{ds:ZU},(∀d∈ds,d.depth<=n)->PyData.depthAll ds<=n
 |[],_=>by rw[PyData.depthAll];exact V3 _
 |d::ds,h=>by rw[PyData.depthAll];exact Nat.max_le.mpr ⟨h d U1,rM λe he=>h e (U4 _ he)⟩
theorem jr:∀{n:Nat}{d:PyData},dl n d=true->d.canLay0=true/\d.depth<=n
 |_,.none,_=>⟨rfl,V3 _⟩
 |_,.int _,_=>⟨rfl,V3 _⟩
 |n,.str x,h=>⟨by cases n<;>exact h,V3 _⟩
 |n+1,.list ds,h=>by have h:ds.all (dl n)=true:=h;rw[US]at h;refine⟨by rw[PyData.canLay0];exact o9 λd hd=>(jr (h d hd)).1,?_⟩;rw[PyData.depth];have:=rM (n:=n) (ds:=ds) λd hd=>(jr (h d hd)).2;lia
 |n+1,.tuple ds,h=>by have h:ds.all (dl n)=true:=h;rw[US]at h;refine⟨by rw[PyData.canLay0];exact o9 λd hd=>(jr (h d hd)).1,?_⟩;rw[PyData.depth];have:=rM (n:=n) (ds:=ds) λd hd=>(jr (h d hd)).2;lia
 |0,.list _,h=>by cases h
 |0,.tuple _,h=>by cases h
 |n,.bool _,h=>by cases n<;>cases h
 |n,.dict _,h=>by cases n<;>cases h
theorem qX:∀{ds:ZU},(∀d∈ds,nd d=true)->nd.nds ds=true
 |[],_=>rfl
 |d::ds,h=>by rw[nd.nds,h d U1,qX λe he=>h e (U4 _ he)];rfl
theorem mT:∀{n:Nat}{d:PyData},dl n d=true->nd d=true
 |_,.none,_=>rfl
 |_,.int _,_=>rfl
 |_,.str _,_=>rfl
 |_,.bool _,_=>rfl
 |n+1,.list ds,h=>by have h:ds.all (dl n)=true:=h;rw[US]at h;rw[nd];exact qX λd hd=>mT (h d hd)
 |n+1,.tuple ds,h=>by have h:ds.all (dl n)=true:=h;rw[US]at h;rw[nd];exact qX λd hd=>mT (h d hd)
 |0,.list _,h=>by cases h
 |0,.tuple _,h=>by cases h
 |n,.dict _,h=>by cases n<;>cases h
theorem qR(hf:∀a b,f a=true->f b=true->SeqAt.noMix a b=true):∀{xs ys:ZU},xs.all f=true->ys.all f=true->SeqAt.noMixAll xs ys=true
 |[],[],_,_=>rfl
 |[],_::_,_,_=>rfl
 |_::_,[],_,_=>rfl
 |x::xs,y::ys,h1,h2=>by rw[UU,UJ]at h1 h2;rw[SeqAt.noMixAll,hf x y h1.1 h2.1,qR hf h1.2 h2.2];rfl
def Gs:∀(n:Nat)(a b:PyData),dl n a=true->dl n b=true->SeqAt.noMix a b=true:=by
 intro n;induction n with
 |zero=>intro a b ha hb;cases a<;>first|(cases ha;done)|(cases b<;>first|(cases hb;done)|rfl)
 |succ n ih=>
  intro a b ha hb;cases a with
  |list xs=>
   cases b with
   |list ys=>rw[SeqAt.noMix];exact qR ih ha hb
   |dict _=>cases hb
   |bool _=>cases hb
   |_=>rfl
  |tuple xs=>
   cases b with
   |tuple ys=>rw[SeqAt.noMix];exact qR ih ha hb
   |dict _=>cases hb
   |bool _=>cases hb
   |_=>rfl
  |dict _=>cases ha
  |bool _=>cases ha
  |_=>cases b<;>first|(cases hb;done)|rfl
def Fb{n:Nat}(ha:dl n a=true)(hb:dl n b=true):PyData.eqv a b=decide (a=b):=by rw[<-SeqAt.same_eq_eqv a b (Gs n a b ha hb),Vv,PyProof.Rows.same_iff,VM]
def xC{n:Nat}(h:dl n d=true)(l:n<=60):SeqAt.shaped d=true:=by obtain⟨h1,h2⟩:=jr h;unfold SeqAt.shaped;rw[h1,V6 (V4 h2 (by lia))];rfl
def Ls(a b:PyData)(P:Bool->Prop):Prop:=match a,b with
 |.int a,.int b=>P (decide (a=b))
 |.str a,.str b=>P (decide (a=b))
 |.bool a,.bool b=>P (decide (a=b))
 |.none,.none=>P true
 |a,b=>(dl 8 a=true/\dl 8 b=true)/\P (decide (a=b))
def lH:DR:=λds P=>match ds with
 |[a,b]=>Ls a b λc=>P .sh (.bool c)
 |_=>False
def mD:DR:=λds P=>match ds with
 |[a,b]=>Ls a b λc=>P .sh (.bool !c)
 |_=>False
def t7(K:Frag)(neg:Bool):R2:=λx y H Q=>JT K neg x y H Q\/(if neg then Sm x y H Q else Sk x y H Q)
section
variable{X:Cx}
def Ip(hu:X.A.units+64<cLine):b9 X (compareOp .Eq) (t7 X.K false):=(OZ hu).or (Ru (X:=X))
def Om(hu:X.A.units+64<cLine):b9 X (compareOp .NotEq) (t7 X.K true):=(PN hu).or (Rj (X:=X))
end
def Fw(neg:Bool)(s:aj Hm H)(h1:Rp K Hm x a)(h2:Rp K Hm y b)(h:Ls a b Pb)(q:∀c,Pb c->Q (.bl (if neg then !c else c)) H):t7 K neg x y H Q:=by
 have gen:dl 8 a=true/\dl 8 b=true->Pb (decide (a=b))->t7 K neg x y H Q:=λhd p=>by
  refine .inl ⟨a,b,(h1.mono s).rj (mT hd.1),(h2.mono s).rj (mT hd.2),xC hd.1 (by decide),xC hd.2 (by decide),Gs 8 a b hd.1 hd.2,?_⟩;have e:Spec.same a b=decide (a=b):=by rw[Vv,PyProof.Rows.same_iff,VM]
  rw[e];exact q _ p
 have sc:J7 x y=true->Pb (decide (x=y))->t7 K neg x y H Q:=λhs p=>by
  refine .inr ?_;cases neg with
  |true=>exact⟨hs,q _ p⟩
  |false=>exact⟨hs,q _ p⟩
 unfold Ls at h;split at h;{cases h1;cases h2;refine sc rfl ?_;simpa using h};{cases h1;cases h2;refine sc rfl ?_;simpa using h};{cases h1;cases h2;refine sc rfl ?_;simpa using h};{cases h1;cases h2;exact gen ⟨rfl,rfl⟩ (by simpa using h)};exact gen h.1 h.2
def HH:cU K lH (r2 (t7 K false)):=by intro H Hm vs ds P Q s r h q;unfold lH at h;split at h;{obtain⟨x,y,rfl,h1,h2⟩:=iA r;exact Fw false s h1 h2 h λc p=>bM.sc q s p (.bl _)};exact h.elim
def QV:cU K mD (r2 (t7 K true)):=by intro H Hm vs ds P Q s r h q;unfold mD at h;split at h;{obtain⟨x,y,rfl,h1,h2⟩:=iA r;exact Fw true s h1 h2 h λc p=>bM.sc q s p (.bl _)};exact h.elim
def dF(neg:Bool):DR:=λds P=>match ds with
 |[a,.none]=>P .sh (.bool (if neg then !decide (a=.none)else decide (a=.none)))
 |_=>False
def BP(h:Rp K H x d):decide (x=.bw)=decide (d=.none):=by cases h<;>simp
def L6:cU K (dF false) (r2 λx y H Q=>y=.bw/\Q (.bl (decide (x=.bw))) H):=by intro H Hm vs ds P Q s r h q;unfold dF at h;split at h;{obtain⟨x,y,rfl,h1,h2⟩:=iA r;cases h2;refine⟨rfl,?_⟩;rw[BP h1];exact bM.sc q s h (.bl _)};exact h.elim
def JQ:cU K (dF true) (r2 λx y H Q=>y=.bw/\Q (.bl (!decide (x=.bw))) H):=by intro H Hm vs ds P Q s r h q;unfold dF at h;split at h;{obtain⟨x,y,rfl,h1,h2⟩:=iA r;cases h2;refine⟨rfl,?_⟩;rw[BP h1];exact bM.sc q s h (.bl _)};exact h.elim
def Le(neg:Bool):DR:=λds P=>match ds with
 |[d,.list xs]=>(xs.all (dl 8)=true/\dl 8 d=true)/\P .sh (.bool (if neg then !decide (d∈xs)else decide (d∈xs)))
 |[d,.tuple xs]=>(xs.all (dl 8)=true/\dl 8 d=true)/\P .sh (.bool (if neg then !decide (d∈xs)else decide (d∈xs)))
 |_=>False
inductive Ln(K:Frag)(neg:Bool) (x:V) (y:V)(H:Hp)(Q:VK):Prop
 |mk:∀(d:PyData)(xs:ZU),(mQ K H x d)->((mQ K H y (.list xs)\/mQ K H y (.tuple xs)))->(PyData.canLayAll0 xs=true)->(d.canLay0=true)->(d.depth<=60)->(Q (.bl (if neg then !xs.any λy=>PyData.eqv y d else xs.any λy=>PyData.eqv y d)) H)->Ln K neg x y H Q
def Jb(K:Frag)(neg:Bool):R2:=λx y H Q=>Ln K neg x y H Q
section
variable{X:Cx}
def Pf(hu:X.A.units+64<cLine):b9 X (compareOp .In) (Jb X.K false):=by intro pins s U H x y v u Q I rx ry h;obtain⟨d,xs,hx,hy,l1,l2,dp,q⟩:=h;obtain⟨bs,rb⟩:=I.reads hx rx;rcases hy with hy|hy;{obtain⟨as,ra⟩:=I.reads hy ry;exact SeqAt.in_list_reads ra rb l1 l2 (by lia) ⟨.bl _,H,I,rfl,q⟩};obtain⟨as,ra⟩:=I.reads hy ry;exact SeqAt.in_tuple_reads ra rb l1 l2 (by lia) ⟨.bl _,H,I,rfl,q⟩
end
def Cn{n:Nat}{xs:ZU}(h:xs.all (dl n)=true)(hd:dl n d=true):(xs.any λy=>PyData.eqv y d)=decide (d∈xs):=by rw[Vv,YD,VM];rw[US]at h;constructor;{rintro⟨y,hy,e⟩;rw[Fb (h y hy) hd,VM]at e;exact e▸hy};intro m;exact⟨d,m,by rw[Fb hd hd];simp⟩
def O1{K:Frag}(neg:Bool):cU K (Le neg) (r2 (Jb K neg)):=by intro H Hm vs ds P Q s r h q;unfold Le at h;split at h;{rename_i d xs;obtain⟨x,y,rfl,h1,h2⟩:=iA r;obtain⟨⟨ha,hd⟩,p⟩:=h;refine⟨d,xs,(h1.mono s).rj (mT hd),.inl ((h2.mono s).rj (by rw[nd];exact qX λd hd=>mT (US.mp ha d hd))),o9 λe he=>(jr (US.mp ha e he)).1,(jr hd).1,V4 (jr hd).2 (by decide),?_⟩;rw[Cn ha hd];exact bM.sc q s p (.bl _)};{rename_i d xs;obtain⟨x,y,rfl,h1,h2⟩:=iA r;obtain⟨⟨ha,hd⟩,p⟩:=h;refine⟨d,xs,(h1.mono s).rj (mT hd),.inr ((h2.mono s).rj (by rw[nd];exact qX λd hd=>mT (US.mp ha d hd))),o9 λe he=>(jr (US.mp ha e he)).1,(jr hd).1,V4 (jr hd).2 (by decide),?_⟩;rw[Cn ha hd];exact bM.sc q s p (.bl _)};exact h.elim
def KQ:DR:=λds P=>match ds with
 |[.list xs,.int i]=>∃d,fh xs i=some d/\P .sh d
 |[.tuple xs,.int i]=>∃d,fh xs i=some d/\P .sh d
 |_=>False
theorem aC.fh(r:aC K H vs ds){i:Int}(h:L2.fh ds i=some d):∃v,L2.fh vs i=some v/\Rp K H v d:=by
 unfold L2.fh at h⊢;rw[r.len];cases e:qc ds.length i with
 |none=>rw[e]at h;cases h
 |some j=>rw[e]at h;exact r.get h
def Q8:cU K KQ (r2 (N5 K)):=by
 intro H Hm vs ds P Q s r h q;unfold KQ at h;split at h
 .obtain⟨x,y,rfl,h1,h2⟩:=iA r;obtain⟨d,e,p⟩:=h;cases h2;cases h1 with
  |lst a1 r1=>obtain⟨v,e2,rv⟩:=r1.fh e;exact .inl ⟨_,_,_,v,rfl,rfl,(cu.mono s a1).sq,e2,bM.sc q s p rv⟩
 .obtain⟨x,y,rfl,h1,h2⟩:=iA r;obtain⟨d,e,p⟩:=h;cases h2;cases h1 with
  |tup a1 r1=>obtain⟨v,e2,rv⟩:=r1.fh e;exact .inr (.inl ⟨_,_,_,v,rfl,rfl,cP.of (s _ _ a1),e2,bM.sc q s p rv⟩)
 exact h.elim
def cutD(xs:ZU)(lo hi:Option Int):ZU:=(xs.drop (HT.aQ xs.length 0 lo)).take (HT.aQ xs.length xs.length hi-HT.aQ xs.length 0 lo)
def aC.cut(r:aC K H vs ds)(lo hi:Option Int):aC K H (pN vs lo hi) (cutD ds lo hi):=by unfold pN cutD;rw[r.len];exact(r.drop _).take _
def HV(d:PyData)(lo hi:Option Int)(P:Zh):Prop:=match d with
 |.list xs=>P (.ow false) (.list (cutD xs lo hi))
 |.tuple xs=>P .sh (.tuple (cutD xs lo hi))
 |_=>False
def oq(bl bh:Bool):DR:=λds P=>match bl,bh with
 |false,false=>Sx (λd=>HV d none none P) ds
 |true,false=>BK (λd e=>Bg e λa=>HV d (some a) none P) ds
 |false,true=>BK (λd e=>Bg e λb=>HV d none (some b) P) ds
 |true,true=>Sz (λd e e'=>Bg e λa=>Bg e' λb=>HV d (some a) (some b) P) ds
def wY(K:Frag):V->Option Int->Option Int->Hp->VK->Prop:=λx lo hi H Q=>P0 K x lo hi H Q\/Kv K x lo hi H Q
def J9:FP X (wY X.K):=λpins s U H x v vl vu lo hi sl Q I rx hs pl pu h=>h.elim (Me pins s U H x v vl vu lo hi sl Q I rx hs pl pu) (LB pins s U H x v vl vu lo hi sl Q I rx hs pl pu)
def Hr(bl bh:Bool)(K:Frag):List V->Hp->VK->Prop:=λvs H Q=>match bl,bh,vs with
 |false,false,[x]=>wY K x none none H Q
 |true,false,[x,a]=>∃i,a=.int i/\wY K x (some i) none H Q
 |false,true,[x,b]=>∃i,b=.int i/\wY K x none (some i) H Q
 |true,true,[x,a,b]=>∃i,a=.int i/\∃j,b=.int j/\wY K x (some i) (some j) H Q
 |_,_,_=>False
def Ek(h:HT.aQ xs.length 0 lo=0/\HT.aQ xs.length xs.length hi=xs.length):cutD xs lo hi=xs:=by unfold cutD;rw[h.1,h.2,List.drop_zero,YC,VS]
def uP(q:bM K H Hm P Q)(s:aj Hm H)(h1:Rp K Hm x d)(h:HV d lo hi P):wY K x lo hi H Q:=by
 cases h1 with
 |lst a1 r1=>exact .inl ⟨_,_,rfl,(cu.mono s a1).sq,λp hp=>bM.nl q s h hp (r1.cut lo hi)⟩
 |tup a1 r1=>refine .inr ⟨_,_,rfl,cP.of (s _ _ a1),λw=>?_,λ_ p hp=>bM.nt q s h hp (r1.cut lo hi)⟩;rw[r1.len]at w;have h:P .sh (.tuple (cutD _ lo hi)):=h;rw[Ek w]at h;exact bM.sc q s h (.tup a1 r1)
 |_=>exact h.elim
def zT(bl bh:Bool):cU K (oq bl bh) (Hr bl bh K):=by
 intro H Hm vs ds P Q s r h q;cases bl with
 |false=>
  cases bh with
  |false=>obtain⟨x,d,rfl,rfl,h1,h⟩:=QS r h;exact uP q s h1 h
  |true=>obtain⟨x,y,d,e,rfl,rfl,h1,h2,h⟩:=rA r h;obtain⟨i,rfl,h⟩:=rZ h2 h;exact⟨_,rfl,uP q s h1 h⟩
 |true=>
  cases bh with
  |false=>obtain⟨x,y,d,e,rfl,rfl,h1,h2,h⟩:=rA r h;obtain⟨i,rfl,h⟩:=rZ h2 h;exact⟨_,rfl,uP q s h1 h⟩
  |true=>obtain⟨x,y,z,d,e,e',rfl,rfl,h1,h2,h3,h⟩:=QX r h;obtain⟨i,rfl,h⟩:=rZ h2 h;obtain⟨j,rfl,h⟩:=rZ h3 h;exact⟨_,rfl,_,rfl,uP q s h1 h⟩
section
variable{X:Cx}{Ex:XK}{Y:Zb}{a l u:Expr}{pos p2:Pos}{as:List Arg}
def Qw(S:aY X Ex Y [a,l] as):SE X Ex Y (.Subscript a (.Slice (some l) none none p2) pos) (ah (oq true false) as):=gx (r:=Hr true false X.K) S (λU H Q h=>WE.of (Az J9 bL (Cq bL) Cs) h) (zT _ _)
def Gk(S:aY X Ex Y [a,u] as):SE X Ex Y (.Subscript a (.Slice none (some u) none p2) pos) (ah (oq false true) as):=gx (r:=Hr false true X.K) S (λU H Q h=>WE.of (Az J9 bL Cs (Cq bL)) h) (zT _ _)
open PyProof.Rows in
def NN(h:yc X [a,l,u] U H λvs H1=>Hr true true X.K vs H1 Q):WE X (.Subscript a (.Slice (some l) (some u) none p2) pos) U H Q:=by intro pins s I;refine Subscript_ (aU (h pins s I) λv s1 ⟨x,H1,I1,r1,q1⟩=>?_);refine wpAny_Slice ?_;rw[evalPart_some];refine aU (q1 pins s1 I1) λvl s2 ⟨y,H2,I2,pl,q2⟩=>?_;rw[evalPart_some];refine aU (q2 pins s2 I2) λvu s3 ⟨z,H3,I3,pu,q3⟩=>?_;obtain⟨i,rfl,j,rfl,q3⟩:=q3;obtain⟨t1,rfl⟩:=pl;obtain⟨t2,rfl⟩:=pu;rw[evalPart_none];refine U3 ?_;have I4:Inv X pins U H3 { s3 with heap:=s3.heap.push { cls:=.type "slice",data:=.fields #[.int i t1,.int j t2,.none] } }:=I3.kept (t':=s3.toks) λb ob q=>UQ _ q;obtain⟨T,id,hT,ht,hg⟩:=J9 pins { s3 with heap:=s3.heap.push { cls:=.type "slice",data:=.fields #[.int i t1,.int j t2,.none] } } U H3 x v (.int i t1) (.int j t2) (some i) (some j) s3.heap.objs.size Q I4 r1 (Heap.IsSliceOf.new ..) (.int i t1) (.int j t2) q3;show wpAny (model X.prog X.w) X.A (subscriptTail a (.Slice (some l) (some u) none p2) v (.ref s3.heap.objs.size)) (EP X pins U Q) X.xe { s3 with heap:=s3.heap.push { cls:=.type "slice",data:=.fields #[.int i t1,.int j t2,.none] } };exact tail_any (ops:=[.ref s3.heap.objs.size,v]) ht hT hg (by with_unfolding_all rfl)
def OV(S:aY X Ex Y [a,l,u] as):SE X Ex Y (.Subscript a (.Slice (some l) (some u) none p2) pos) (ah (oq true true) as):=gx (r:=Hr true true X.K) S (λU H Q h=>NN h) (zT _ _)
end
end Dv
namespace L2
open PySem PySem.Spec PyProof.Rows
section
variable{X:Cx}
def HY(hc:X.calm=true):cI X (.builtin "any") (λxs H Q=>∃(a:Addr)(bs:ZY),xs=[.ref a]/\bI X.K H a (bs.map V.bl)/\Q (.bl (bs.any id)) H):=by
 intro pins s U H xs us Q I r h;obtain⟨a,bs,rfl,hq,q⟩:=h;obtain⟨u,rfl,ru⟩:=vals1 r;cases ru;obtain⟨its,rv,p,_⟩:=I.list hq;have hl:=p.isList;have hlt:a<s.heap.objs.size:=by obtain⟨o,ho,_⟩:=id hl;exact UG ho
 have hh:X.A.in1.handled=none:=by simp[I.ok.hd hc]
 refine call_any_walk (XY hl ?_);refine⟨_,_,_,_,_,_,λi=>bs.getD i false,rfl,Walks.list hh _ a (UH hlt) its.toArray,⟨⟨_,V8 _ rfl,rfl,rfl⟩,hl.push _⟩,λi v s' Q' E' hP hQ=>?_,λh' tk hk=>?_⟩
 .have hP':its[i]?=some v:=by simpa using hP
  obtain⟨x,hx,rx⟩:=oQ rv i v hP';rw[UK]at hx;cases e:bs[i]? with
  |none=>rw[e]at hx;cases hx
  |some b=>
   rw[e]at hx;cases hx;cases rx;have e2:bs.getD i false=b:=by rw[VJ,e];rfl
   dsimp only at hQ;rw[e2]at hQ;exact Wc hQ
 have kp:∀b o,s.heap.get? b=some o->h'.get? b=some o:=λb o hb=>hk b o (by
  have:=UG hb;simp only[U8];exact UH this) (UQ _ hb)
 have len:its.toArray.size=bs.length:=by rw[UO,<-rv.length,U7]
 refine⟨.bl _,H,I.kept (t':=tk) kp,rfl,?_⟩;have e:(List.range its.toArray.size).any (λi=>bs.getD i false)=bs.any id:=by rw[len,Vv,YD,YD];constructor;{rintro⟨i,hi,h⟩;have hi':=UX.mp hi;rw[VJ,V0 hi']at h;exact⟨_,W3 hi',h⟩};rintro⟨b,hb,h⟩;obtain⟨i,hi⟩:=W2 hb;refine⟨i,UX.mpr (VE.mp hi).1,?_⟩;rw[VJ,hi];exact h
 rw[e];exact q
end
section
variable{X:Cx}
def BF:cI X (.type "range") (λxs H Q=>∃j:Int,xs=[.int j]/\∀p,H p=none->Q (.ref p) (upd H p (.tB 0 j))):=by intro pins s U H xs us Q I r h;obtain⟨j,rfl,q⟩:=h;obtain⟨u,rfl,ru⟩:=vals1 r;obtain⟨t,rfl⟩:=ru;refine call_range_1 (?_:_);exact⟨.ref s.heap.objs.size,_,I.laid (o:=.tB 0 j) (λb o e=>UQ _ e) (U5 _) ⟨_,_,_,V8 _ rfl⟩,rfl,q _ (I.hok.fresh (U5 _))⟩
def D9(hc:X.calm=true):cI X (.type "list") (λxs H Q=>∃(a:Addr) (j:Int),xs=[.ref a]/\H a=some (.tB 0 j)/\0<=j/\j<=1000/\∀l,H l=none->Q (.ref l) (upd H l (.lst (((List.range j.toNat).map λi:Nat=>(i:Int)).map V.int)))):=by
 intro pins s U H xs us Q I r h;obtain⟨a,j,rfl,ha,j0,j1,q⟩:=h;obtain⟨u,rfl,ru⟩:=vals1 r;cases ru;obtain⟨t,u,v,e⟩:=I.hok a _ ha;refine call_list_range (n:=j.toNat) (I.ok.hd hc) e (small_one (by decide) (by decide) (by lia) (by lia)) (by rw[rangeSize_one];split<;>lia) (by lia) λh' tk acc c kp hS its=>?_;obtain⟨z1,z2⟩:=its;have rv:Vals (((List.range j.toNat).map λi:Nat=>(i:Int)).map V.int) acc.toList:=by
  have go:∀(l:ZW) (k:Nat),(∀(i:Nat)(v:Value),l[i]?=some v->∃t:Tok,v=Value.int ((k+i:Nat):Int) t)->Vals (((List.range' k l.length).map λi:Nat=>(i:Int)).map V.int) l:=λl=>by
   induction l with
   |nil=>exact λk _=>.nil
   |cons x l ih=>intro k h;obtain⟨t,e⟩:=h 0 x rfl;refine .cons ⟨t,by simpa using e⟩ (ih (k+1) λi v hv=>?_);obtain⟨t,e⟩:=h (i+1) v hv;exact⟨t,by rw[e,Nat.add_assoc,Nat.add_comm 1 i]⟩
  have:=go acc.toList 0 λi v hv=>by obtain⟨t,e⟩:=z2 i v (by simpa using hv);exact⟨t,by rw[e];simp⟩
  rw[Yl];simpa[z1]using this
 exact⟨.ref s.heap.objs.size,_,I.laid (t':=tk) kp (U5 _) (o:=.lst _) ⟨by rw[U7,U7,UW];exact V4 (show j.toNat<=1000 by lia) (by decide),acc.toList,c,rv,by simpa using hS⟩,rfl,q _ (I.hok.fresh (U5 _))⟩
end
end L2
namespace L2
open PySem PySem.Spec PyProof.Rows PySem.W
def c7{α:Type}(c:Zb)(x:α):List (List Nat×List α)->List (List Nat×List α)
 |[]=>[(c,[x])]
 | (d,xs)::gs=>if d=c then(d,xs++[x])::gs else(d,xs)::c7 c x gs
def iN{α:Type}(l:List (List Nat×α)):List (List Nat×List α):=l.foldl (λgs q=>c7 q.1 q.2 gs) []
def m6{α:Type}(l:List (List Nat×α))(q:List Nat×α):iN (l++[q])=c7 q.1 q.2 (iN l):=by unfold iN;rw[List.foldl_append];rfl
theorem Ab{α:Type}(c:Zb)(x:α):∀gs:List (List Nat×List α),(c7 c x gs).length<=gs.length+1/\∀n,(∀g∈gs,g.2.length<=n)->∀g∈c7 c x gs,g.2.length<=n+1
 |[]=>⟨U5 _,λn _ g hg=>by cases U8.mp hg;exact Xw (V3 _)⟩
 | (d,xs)::gs=>by obtain⟨h1,h2⟩:=Ab c x gs;by_cases e:d=c;{have e2:c7 c x ((d,xs)::gs)=(d,xs++[x])::gs:=if_pos e;rw[e2];refine⟨Wi _,λn hn g hg=>?_⟩;rcases U6.mp hg with rfl|hg;{have:=hn _ U1;rw[UR];exact Xw this};exact Xf (hn g (U4 _ hg))};have e2:c7 c x ((d,xs)::gs)=(d,xs)::c7 c x gs:=if_neg e;rw[e2];refine⟨Xw h1,λn hn g hg=>?_⟩;rcases U6.mp hg with rfl|hg;{exact Xf (hn _ U1)};exact h2 n (λg hg=>hn g (U4 _ hg)) g hg
theorem tY{α:Type}:∀(n:Nat)(l:List (List Nat×α)),(iN (l.take n)).length<=n/\∀g∈iN (l.take n),g.2.length<=n
 |0,l=>by rw[List.take_zero];exact⟨U5 _,λg hg=>(nomatch hg)⟩
 |n+1,l=>by
  obtain⟨h1,h2⟩:=tY n l;rw[Xd];cases e:l[n]? with
  |none=>rw[YE,VF];exact⟨Xf h1,λg hg=>Xf (h2 g hg)⟩
  |some q=>rw[YF,m6];obtain⟨h3,h4⟩:=Ab q.1 q.2 (iN (l.take n));exact⟨by lia,h4 n h2⟩
theorem xq{α:Type}(c:Zb)(x:α):∀gs:List (List Nat×List α),(gs.map (·.1)).Nodup->((c7 c x gs).map (·.1)).Nodup/\∀d,d∈(c7 c x gs).map (·.1)↔d∈gs.map (·.1)\/d=c
 |[],_=>⟨VA.mpr ⟨UM,VY⟩,λd=>by simp[c7]⟩
 | (e,xs)::gs,h=>by obtain⟨n1,n2⟩:=VA.mp h;obtain⟨h1,h2⟩:=xq c x gs n2;by_cases k:e=c;{have e2:c7 c x ((e,xs)::gs)=(e,xs++[x])::gs:=if_pos k;rw[e2];refine⟨h,λd=>?_⟩;show d∈e::gs.map (·.1)↔d∈e::gs.map (·.1)\/d=c;constructor;{exact .inl};rintro (z|rfl);{exact z};rw[k];exact U1};have e2:c7 c x ((e,xs)::gs)=(e,xs)::c7 c x gs:=if_neg k;rw[e2];refine⟨VA.mpr ⟨λz=>?_,h1⟩,λd=>?_⟩;{rcases(h2 e).mp z with z|z;{exact n1 z};exact k z};show d∈e::(c7 c x gs).map (·.1)↔d∈e::gs.map (·.1)\/d=c;rw[U6,U6,h2 d];constructor;{rintro (z|z|z);{exact .inl (.inl z)};{exact .inl (.inr z)};exact .inr z};rintro ((z|z)|z);{exact .inl z};{exact .inr (.inl z)};exact .inr (.inr z)
section
variable{X:Cx}{a:Expr}{ta:TE}{pos:Pos}
def Mu(ha:PE X a ta):PE X (.UnaryOp .Not a pos) (λU H Q=>ta U H λx H1=>∃k,uA X.K x H1 k/\Q (.bl (!k)) H1):=by intro pins s U H Q I h;refine UnaryOp_ (aU (ha pins s U H _ I h) λv s1 ⟨x,H1,I1,r1,k,tk,q1⟩=>?_);refine not_of (aU (AU pins s1 U H1 x v (λb H2=>Q (.bl (!b)) H2) I1 r1 ⟨k,tk,q1⟩) λb s2 ⟨H2,I2,q2⟩=>?_);exact⟨.bl (!b),H2,I2,rfl,q2⟩
end
end L2
namespace Dv
open PySem L2 PySem.W
section
variable{X:Cx}{Ex:XK}{Y:Zb}
def DX(h:PE X e (tC u))(r:∀Hm,Rp X.K Hm u v):SE X Ex Y e (dC v):=λg x E U H Hm F P Q hx R p q=>WE.of h (q _ _ _ _ _ _ _ [] p R (aj.refl _) (Tm.sh (r Hm)))
def Pj{i j:Nat}(h:PE X e (jK j))(hj:Y[j]?=some i):SE X Ex Y e (aO i):=by
 intro g x E U H Hm F P Q hx R p q;replace p:Hj E i P:=p;unfold Hj at p;split at p
 rotate_left
 .exact p.elim
 rename_i k d e1;rw[<-bS,BZ]at p;obtain⟨E',e2,p⟩:=p;obtain⟨v,Hm',F',h1,s,R',r⟩:=R.dm e1 e2;exact WE.of h ⟨v,cY hj h1,q _ _ _ _ _ _ _ [] p R' s (Tm.sh r)⟩
def bN(X:Cx)(Ex:XK)(Y:Zb)(e:Expr)(d:DE):Prop:=
 ∀(g:Gh)(x:XC)(E:En)(U:St)(H Hm:Hp)(F:Nat->ZX)(P:Ze)(Q:Bool->Hp->Prop),XL X Ex x g->Rl X.K g E U H Hm F->d x E P->
  (∀E' k v H' Hm' F',P E' k v->Rl X.K g E' U H' Hm' F'->aj Hm Hm'->∃b,lE v=some b/\Q b H')->WT X e (sel Y U) H Q
def bN.st{e:Expr}{d:DE}(h:bN X Ex Y e d):ST X Ex Y e (bW d):=by rw[Mv];exact λg x E U H Hm F P Q hx R p q=>h g x E U H Hm F _ Q hx R p λE' k v H' Hm' F' ⟨b,e1,p⟩ R' s=>⟨b,e1,q _ _ _ _ _ p R' s⟩
theorem Rp.lE{b:Bool}(r:Rp K H u v)(h:Dv.lE v=some b):uA K u H b:=by
 cases r with
 |bw=>cases h;rfl
 |bl c=>cases h;rfl
 |int i=>cases h;show(!decide (i=0))=(i != 0);rw[bne,Bool.beq_eq_decide_eq]
 |str _=>cases h
 |lst a r1=>cases h;refine .inl ⟨_,a.sq,?_⟩;cases r1<;>rfl
 |tup a r1=>cases h;refine .inr (.inl ⟨_,cP.of a,?_⟩);cases r1<;>rfl
 |dk _ _=>cases h
 |dt _ _=>cases h
 |exc _ _=>cases h
theorem Own.lE{b:Bool}(o:Own K H Hm k u v fp)(s:aj Hm H)(h:Dv.lE v=some b):uA K u H b:=by by_cases hk:k.rd=true;{exact(o.rp (Hm':=H) hk s λ_ _=>rfl).lE h};cases o<;>first|exact absurd rfl hk|cases h
def SE.xJ(h:SE X Ex Y e d)(he:∀whole,isTrue e X.env whole=(do let v <-whole;standAt e.pos;holding [v] (truthy v))):bN X Ex Y e d:=by intro g x E U H Hm F P Q hx R p q;refine WT.of (zU bL he) (h g x E U H Hm F P _ hx R p λE' k v u H' Hm' F' fp p' R' s T=>?_);obtain⟨b,e1,q'⟩:=q _ _ _ _ _ _ p' R' s;exact⟨b,T.own.lE R'.sub e1,q'⟩
def N9(ho:b9 X (compareOp op) r)(hm:behindInMarks op b=false)(h:yc X [a,b] U H λvs H1=>r2 r vs H1 λx H'=>∃k,uA X.K x H' k/\Q k H'):WT X (.Compare a [op] [b] pos) U H Q:=by intro pins s I;refine wpAny_isTrue_Compare1 (aU (h pins s I) λv s1 ⟨x,H1,I1,r1,q1⟩=>aU (q1 pins s1 I1) λu s2 ⟨y,H2,I2,r2,q2⟩=>aU (ho pins s2 U H2 x y v u _ I2 r1 r2 q2) λc s3 ⟨z,H3,I3,r3,q3⟩=>?_) hm;exact AU pins s3 U H3 z c Q I3 r3 q3
def Qj(S:aY X Ex Y es as)(hr:∀U H (Q:Bool->Hp->Prop),yc X es U H (λvs H1=>r vs H1 λx H'=>∃k,uA X.K x H' k/\Q k H')->WT X e U H Q)(D:cU X.K f r):bN X Ex Y e (ah f as):=by
 intro g x E U H Hm F P Q hx R h q;refine hr _ _ _ (oG hx S R h λE1 os vs H1 Hm1 F1 p R1 s1 G=>?_);replace p:Bj f as E1 os P:=p;unfold Bj at p;rw[<-bS,gP]at p;obtain⟨ds,hf,hg⟩:=p;have off:∀a∈(iY as).flatMap F1,Hm1 a=none:=λa ha=>by obtain⟨i,_,h⟩:=VL.mp ha;exact R1.off i a h
 have up:=i6 (Hm:=Hm1) (H:=H1) off;refine D H1 (lend Hm1 H1 ((iY as).flatMap F1)) vs ds _ _ (jJ R1.sub) (wk R1 up G hf λi hi a ha=>eN (VL.mpr ⟨i,hi,ha⟩)) hg λk v u H' Hm2 fp p sH sM sS old o fr=>?_;replace p:aL (uG as E1 k v) _:=p;rw[<-bS,BL]at p;obtain⟨E2,ha,p⟩:=p;obtain⟨Hm',F',R',s',T⟩:=zL R1 (is:=iY as) (Ay ha) sH sM sS old o fr;obtain⟨b,e1,q'⟩:=q _ _ _ _ _ _ p R' (s1.trans s');exact⟨b,o.lE sS e1,q'⟩
def gX(ho:b9 X (compareOp op) r)(hm:behindInMarks op b=false)(D:cU X.K f (r2 r))(S:aY X Ex Y [a,b] as):bN X Ex Y (.Compare a [op] [b] pos) (ah f as):=Qj S (λU H Q h=>N9 ho hm h) D
theorem Own.bool{c:Bool}(o:Own K H Hm k u (.bool c) fp):u=.bl c:=by
 cases o with
 |sh r=>cases r;rfl
theorem Own.int{i:Int}(o:Own K H Hm k u (.int i) fp):u=.int i:=by
 cases o with
 |sh r=>cases r;rfl
def OH(h:SE X Ex Y a d):SE X Ex Y (.BoolOp op [a] pos) d:=λg x E U H Hm F P Q hx R p q=>WE.of (Rb bL) (h g x E U H Hm F P Q hx R p q)
def O5{a b:Expr}{rest:ZZ}{pos:Pos}{d e:DE}(ha:SE X Ex Y a d)(hb:SE X Ex Y (.BoolOp .And (b::rest) pos) e):SE X Ex Y (.BoolOp .And (a::b::rest) pos) (tW d e):=by
 rw[Cm];intro g x E U H Hm F P Q hx R p q;refine WE.of (QJ bL bL) (ha g x E U H Hm F _ _ hx R p λE1 k v u H1 Hm1 F1 fp p1 R1 s1 T=>?_);obtain⟨c,rfl,p1⟩:=p1;refine⟨c,T.own.bool,?_⟩;cases c with
 |true=>exact qv (hb g x E1 U H1 Hm1 F1 P Q hx R1 p1 λE' k v u H' Hm' F' fp p' R' s' T'=>q _ _ _ _ _ _ _ _ p' R' (s1.trans s') T')
 |false=>exact qK (q _ _ _ _ _ _ _ [] p1 R1 s1 (Tm.sh (.bl false)))
def Pq(ha:SE X Ex Y a d):SE X Ex Y (.UnaryOp .Not a pos) (nH d):=by rw[C0];intro g x E U H Hm F P Q hx R p q;refine WE.of (Mu bL) (ha g x E U H Hm F _ _ hx R p λE1 k v u H1 Hm1 F1 fp p1 R1 s1 T=>?_);obtain⟨c,hc,p1⟩:=p1;exact⟨c,T.own.lE R1.sub hc,q _ _ _ _ _ _ _ [] p1 R1 s1 (Tm.sh (.bl _))⟩
def sr(ha:bN X Ex Y a d):bN X Ex Y (.UnaryOp .Not a pos) (nH d):=by rw[C0];intro g x E U H Hm F P Q hx R p q;refine WT.of (GS j4) (ha g x E U H Hm F _ _ hx R p λE1 k v H1 Hm1 F1 p1 R1 s1=>?_);obtain⟨c,hc,p1⟩:=p1;obtain⟨b,e1,q'⟩:=q _ _ _ _ _ _ p1 R1 s1;refine⟨c,hc,?_⟩;cases e1;exact q'
def WW(X:Cx)(e:Expr):TT:=λU H Q=>∀(whole:Sem Value)(pins:ZL)(s:Shared),Inv X pins U H s->wpAny (model X.prog X.w) X.A (isTrue e X.env whole) (TP X pins U Q) X.xe s
def pw_ww:PW X e (WW X e):=λwh pins s _ _ _ I h=>h wh pins s I
def WW.of(h:PW X e t)(q:t U H Q):WW X e U H Q:=λwh pins s I=>h wh pins s U H Q I q
def pF(X:Cx)(Ex:XK)(Y:Zb)(e:Expr)(d:DE):Prop:=
 ∀(g:Gh)(x:XC)(E:En)(U:St)(H Hm:Hp)(F:Nat->ZX)(P:Ze)(Q:Bool->Hp->Prop),XL X Ex x g->Rl X.K g E U H Hm F->d x E P->
  (∀E' k v H' Hm' F',P E' k v->Rl X.K g E' U H' Hm' F'->aj Hm Hm'->∃b,lE v=some b/\Q b H')->WW X e (sel Y U) H Q
def pF.xJ(h:pF X Ex Y e d):bN X Ex Y e d:=λg x E U H Hm F P Q hx R p q=>WT.of (PW.pt pw_ww) (h g x E U H Hm F P Q hx R p q)
def k8(h:bN X Ex Y a d):pF X Ex Y (.BoolOp op [a] pos) d:=λg x E U H Hm F P Q hx R p q=>by
 cases op with
 |And=>exact WW.of (pw_and1 j4) (h g x E U H Hm F P Q hx R p q)
 |Or=>exact WW.of (pw_or1 j4) (h g x E U H Hm F P Q hx R p q)
def M4{a b:Expr}{rest:ZZ}{pos:Pos}{d e:DE}(ha:bN X Ex Y a d)(hb:pF X Ex Y (.BoolOp .And (b::rest) pos) e):pF X Ex Y (.BoolOp .And (a::b::rest) pos) (tW d e):=by
 rw[Cm];intro g x E U H Hm F P Q hx R p q;refine WW.of (pw_and j4 pw_ww) (ha g x E U H Hm F _ _ hx R p λE1 k v H1 Hm1 F1 p1 R1 s1=>?_);obtain⟨c,rfl,p1⟩:=p1;refine⟨c,rfl,?_⟩;cases c with
 |true=>exact qv (hb g x E1 U H1 Hm1 F1 P Q hx R1 p1 λE' k v H' Hm' F' p' R' s'=>q _ _ _ _ _ _ p' R' (s1.trans s'))
 |false=>obtain⟨b,e1,q'⟩:=q _ _ _ _ _ _ p1 R1 s1;cases e1;exact qK q'
def qL{a b:Expr}{rest:ZZ}{pos:Pos}{d e:DE}(ha:bN X Ex Y a d)(hb:pF X Ex Y (.BoolOp .Or (b::rest) pos) e):pF X Ex Y (.BoolOp .Or (a::b::rest) pos) (vm d e):=by
 rw[Qy];intro g x E U H Hm F P Q hx R p q;refine WW.of (pw_or j4 pw_ww) (ha g x E U H Hm F _ _ hx R p λE1 k v H1 Hm1 F1 p1 R1 s1=>?_);obtain⟨c,rfl,p1⟩:=p1;refine⟨c,rfl,?_⟩;cases c with
 |true=>obtain⟨b,e1,q'⟩:=q _ _ _ _ _ _ p1 R1 s1;cases e1;exact qv q'
 |false=>exact qK (hb g x E1 U H1 Hm1 F1 P Q hx R1 p1 λE' k v H' Hm' F' p' R' s'=>q _ _ _ _ _ _ p' R' (s1.trans s'))
def qQ(ho:b9 X (compareOp op) (qp λi j=>.bl (f i j)))(ho':b9 X (compareOp op') (qp λi j=>.bl (f' i j)))(hm:lastMarks [op,op'] [b,c]=false)(ha:SE X Ex Y a da)(hb:SE X Ex Y b db)(hc:SE X Ex Y c dc):bN X Ex Y (.Compare a [op,op'] [b,c] pos) (lX f f' da db dc):=by rw[FI];intro g x E U H Hm F P Q hx R p q;refine WT.of (Jm ho ho' bL bL bL hm) (ha g x E U H Hm F _ _ hx R p λE1 k1 v1 u1 H1 Hm1 F1 fp1 p1 R1 s1 T1=>?_);obtain⟨i,rfl,p1⟩:=p1;cases T1.own.int;refine hb g x E1 U H1 Hm1 F1 _ _ hx R1 p1 λE2 k2 v2 u2 H2 Hm2 F2 fp2 p2 R2 s2 T2=>?_;obtain⟨j,rfl,p2⟩:=p2;cases T2.own.int;refine⟨i,j,rfl,rfl,f i j,rfl,?_⟩;by_cases z:f i j=true;{rw[if_pos z]at p2⊢;refine hc g x E2 U H2 Hm2 F2 _ _ hx R2 p2 λE3 k3 v3 u3 H3 Hm3 F3 fp3 p3 R3 s3 T3=>?_;obtain⟨k,rfl,p3⟩:=p3;cases T3.own.int;obtain⟨b',e1,q'⟩:=q _ _ _ _ _ _ p3 R3 (s1.trans (s2.trans s3));cases e1;exact⟨j,k,rfl,rfl,_,rfl,q'⟩};rw[if_neg z]at p2⊢;obtain⟨b',e1,q'⟩:=q _ _ _ _ _ _ p2 R2 (s1.trans s2);cases e1;exact⟨_,rfl,q'⟩
def yG(hc:ST X Ex Y c t)(ha:SE X Ex Y a d)(hb:SE X Ex Y b e):SE X Ex Y (.IfExp c a b pos) (xY t d e):=by
 rw[Q3];intro g x E U H Hm F P Q hx R p q;refine WE.of (J1 j4 bL bL) (hc g x E U H Hm F _ _ hx R p λE1 b H1 Hm1 F1 p1 R1 s1=>?_);cases b with
 |true=>exact qv (ha g x E1 U H1 Hm1 F1 P Q hx R1 (by simpa using p1) λE' k v u H' Hm' F' fp p' R' s' T'=>q _ _ _ _ _ _ _ _ p' R' (s1.trans s') T')
 |false=>exact qK (hb g x E1 U H1 Hm1 F1 P Q hx R1 (by simpa using p1) λE' k v u H' Hm' F' fp p' R' s' T'=>q _ _ _ _ _ _ _ _ p' R' (s1.trans s') T')
def TX{i j:Nat}(h:PE X e (jK j))(hj:Y[j]?=some i)(he:∀whole,isTrue e X.env whole=(do let v <-whole;standAt e.pos;holding [v] (truthy v))):ST X Ex Y e (xR i):=by
 intro g x E U H Hm F P Q hx R p q;replace p:Gf E i P:=p;unfold Gf at p;split at p
 rotate_left
 .exact p.elim
 rename_i k d e1;rw[eF,<-Eo]at p;obtain⟨hk,b,ht,p⟩:=p;obtain⟨v,h1,h2⟩:=R.slot i k d e1;exact WT.of (zU h he) ⟨v,cY hj h1,b,h2.lE R.sub ht,q _ _ _ _ _ p R (aj.refl _)⟩
def pX(ha:ST X Ex Y a t):ST X Ex Y (.UnaryOp .Not a pos) (qy t):=by intro g x E U H Hm F P Q hx R p q;exact WT.of (GS j4) (ha g x E U H Hm F _ _ hx R p λE1 b H1 Hm1 F1 p1 R1 s1=>q _ _ _ _ _ p1 R1 s1)
end
def noStar:Expr->Bool
 |.Starred ..=>false
 |_=>true
def bQ(h:noStar e=true):starEach (e::es) env=(false,eval e env)::starEach es env:=by cases e<;>first|rfl|cases h
theorem iP:∀{es:ZZ},es.all noStar=true->(backTo pos (starEach es env)).any (·.1)=false
 |[],_=>rfl
 |e::es,h=>by rw[UU,UJ]at h;rw[bQ h.1];show(false||(backTo pos (starEach es env)).any (·.1))=false;rw[iP h.2];rfl
section
variable{X:Cx}{Ex:XK}{Y:Zb}
theorem eW:∀{es:ZZ},es.all noStar=true->PA X es (yc X es)
 |[],_=>ji
 |e::es,h=>by rw[UU,UJ]at h;exact gu bL (eW h.2) (bQ h.1)
def fU{x:Str}{id:String}{p pos:Pos}{e:Expr}{es:ZZ}{as:List Arg}{f:DR}{r:List V->Hp->VK->Prop}(hc:cI X (.builtin id) r)(D:cU X.K f r)(hg:Gl X x)(hm:X.mg x=none)(hv:bootBuiltins x=some (.builtin id))(hn:x≠"__name__")(hd:(x==("__debug__":Str))=false)(ns:(e::es).all noStar=true)(S:aY X Ex Y (e::es) as):SE X Ex Y (.Call (.Name x p) (e::es) [] pos) (ah f as):=
 gx S (λU H Q h=>WE.of (uD hc hg hm hv (eW ns) hn hd (bQ (by rw[UU,UJ]at ns;exact ns.1)) (iP (by rw[UU,UJ]at ns;exact ns.2))) h) D
def qw(hc:cI X (.type T) r)(D:cU X.K f r)(hg:Gl X x)(hm:X.mg x=none)(hv:bootBuiltins x=some (.type T))(hn:x≠"__name__")(hd:(x==("__debug__":Str))=false)(ns:(e::es).all noStar=true)(S:aY X Ex Y (e::es) as):SE X Ex Y (.Call (.Name x p) (e::es) [] pos) (ah f as):=
 gx S (λU H Q h=>WE.of (kE hc hg hm hv (eW ns) hn hd (bQ (by rw[UU,UJ]at ns;exact ns.1)) (iP (by rw[UU,UJ]at ns;exact ns.2))) h) D
def cK:DR:=λds P=>ds.length<=sizeLine/\P (.ow false) (.list ds)
def jz:DR:=λds P=>ds.length<=sizeLine/\P .sh (.tuple ds)
def MJ:cU K cK λxs H Q=>xs.length<=sizeLine/\∀p,H p=none->Q (.ref p) (upd H p (.lst xs)):=λH Hm vs ds P Q s r h q=>⟨by rw[r.len];exact h.1,λp hp=>bM.nl q s h.2 hp r⟩
def Mj:cU K jz λxs H Q=>xs.length<=sizeLine/\∀p,H p=none->Q (.ref p) (upd H p (.tup xs)):=λH Hm vs ds P Q s r h q=>⟨by rw[r.len];exact h.1,λp hp=>bM.nt q s h.2 hp r⟩
def Q7(ns:es.all noStar=true)(S:aY X Ex Y es as):SE X Ex Y (.List es pos) (ah cK as):=gx S (λU H Q h=>WE.of (GL (eW ns)) h) MJ
def Pk{k:Nat}(ns:es.all noStar=true)(S:aY X Ex Y es as):SE X Ex Y (.Tuple es k pos) (ah jz as):=gx S (λU H Q h=>WE.of (Oz (eW ns)) h) Mj
def Kc:DR:=λds P=>match ds with
 |[.list xs]=>P .sh (.int xs.length)
 |[.tuple xs]=>P .sh (.int xs.length)
 |_=>False
def LD:cU K Kc λxs H Q=>∃p ys,xs=[.ref p]/\(bI K H p ys\/cP K H p ys)/\Q (.int ys.length) H:=by
 intro H Hm vs ds P Q s r h q;unfold Kc at h;split at h
 .obtain⟨x,rfl,h1⟩:=dR r;cases h1 with
  |lst a r1=>exact⟨_,_,rfl,.inl (cu.mono s a).sq,by rw[r1.len];exact bM.sc q s h (.int _)⟩
 .obtain⟨x,rfl,h1⟩:=dR r;cases h1 with
  |tup a r1=>exact⟨_,_,rfl,.inr (cP.of (s _ _ a)),by rw[r1.len];exact bM.sc q s h (.int _)⟩
 exact h.elim
def kg:DR:=λds P=>match ds with
 |[.list xs]=>P (.ow false) (.list xs)
 |[.tuple xs]=>P (.ow false) (.list xs)
 |_=>False
def Kh:cU K kg λxs H Q=>∃p ys,xs=[.ref p]/\(bI K H p ys\/cP K H p ys)/\∀l,H l=none->Q (.ref l) (upd H l (.lst ys)):=by
 intro H Hm vs ds P Q s r h q;unfold kg at h;split at h
 .obtain⟨x,rfl,h1⟩:=dR r;cases h1 with
  |lst a r1=>exact⟨_,_,rfl,.inl (cu.mono s a).sq,λp hp=>bM.nl q s h hp r1⟩
 .obtain⟨x,rfl,h1⟩:=dR r;cases h1 with
  |tup a r1=>exact⟨_,_,rfl,.inr (cP.of (s _ _ a)),λp hp=>bM.nl q s h hp r1⟩
 exact h.elim
def oz:DR:=λds P=>match ds with
 |[.list xs]=>P .sh (.tuple xs)
 |[.tuple xs]=>P .sh (.tuple xs)
 |_=>False
def HE:cU K oz λxs H Q=>∃p ys,xs=[.ref p]/\((bI K H p ys/\∀l,H l=none->Q (.ref l) (upd H l (.tup ys)))\/(cP K H p ys/\Q (.ref p) H)):=by
 intro H Hm vs ds P Q s r h q;unfold oz at h;split at h
 .obtain⟨x,rfl,h1⟩:=dR r;cases h1 with
  |lst a r1=>exact⟨_,_,rfl,.inl ⟨(cu.mono s a).sq,λp hp=>bM.nt q s h hp r1⟩⟩
 .obtain⟨x,rfl,h1⟩:=dR r;cases h1 with
  |tup a r1=>exact⟨_,_,rfl,.inr ⟨cP.of (s _ _ a),bM.sc q s h (.tup a r1)⟩⟩
 exact h.elim
def rS:DR:=pI λi j=>.int (if j<i then j else i)
def uS:DR:=pI λi j=>.int (if j>i then j else i)
def Lv{f:Int->Int->Int}:cU K (pI λi j=>.int (f i j)) λxs H Q=>∃i j,xs=[.int i,.int j]/\Q (.int (f i j)) H:=by intro H Hm vs ds P Q s r h q;refine wV h λa b e p=>?_;subst e;obtain⟨x,y,rfl,h1,h2⟩:=iA r;cases h1;cases h2;exact⟨a,b,rfl,bM.sc q s p (.int _)⟩
def zu:DR:=λds P=>match ds with
 |[.int i]=>P .sh (.int (if i<0 then-i else i))
 |_=>False
def LH:cU K zu λxs H Q=>∃i,xs=[.int i]/\Q (.int (if i<0 then-i else i)) H:=by intro H Hm vs ds P Q s r h q;unfold zu at h;split at h;{obtain⟨x,rfl,h1⟩:=dR r;cases h1;exact⟨_,rfl,bM.sc q s h (.int _)⟩};exact h.elim
def oU:DR:=λds P=>match ds with
 |[.int i]=>P .sh (.int i)
 |[.bool k]=>P .sh (.int (if k then 1 else 0))
 |_=>False
def FH:cU K oU λxs H Q=>(∃i,xs=[.int i]/\Q (.int i) H)\/∃k,xs=[.bl k]/\Q (.int (if k then 1 else 0)) H:=by intro H Hm vs ds P Q s r h q;unfold oU at h;split at h;{obtain⟨x,rfl,h1⟩:=dR r;cases h1;exact .inl ⟨_,rfl,bM.sc q s h (.int _)⟩};{obtain⟨x,rfl,h1⟩:=dR r;cases h1;exact .inr ⟨_,rfl,bM.sc q s h (.int _)⟩};exact h.elim
theorem jG:∀{vs:List V}{ns:Zc},aC K H vs (ns.map PyData.int)->vs=ns.map V.int
 |_,[],h=>by cases h;rfl
 |_,n::ns,h=>by
  cases h with
  |cons h t=>cases h;rw[jG t];rfl
theorem lC:∀(ns:Zc),aC K H (ns.map V.int) (ns.map PyData.int)
 |[]=>.nil
 |n::ns=>.cons (.int n) (lC ns)
theorem rE:∀{vs:List V}{ns:ZY},aC K H vs (ns.map PyData.bool)->vs=ns.map V.bl
 |_,[],h=>by cases h;rfl
 |_,n::ns,h=>by
  cases h with
  |cons h t=>cases h;rw[rE t];rfl
def dX(h:Rp K H x (.list ds)):∃a xs,x=.ref a/\cu K H a xs/\aC K H xs ds:=by
 cases h with
 |lst a r=>exact⟨_,_,rfl,a,r⟩
def Es:DR:=λds P=>∃ns:Zc,ds=[.list (ns.map .int)]/\P .sh (.int ns.sum)
def Mh:cU K Es λxs H Q=>∃(a:Addr)(ns:Zc),xs=[.ref a]/\bI K H a (ns.map V.int)/\Q (.int ns.sum) H:=by rintro H Hm vs ds P Q s r⟨ns,rfl,h⟩q;obtain⟨x,rfl,h1⟩:=dR r;obtain⟨a,xs,rfl,ha,r1⟩:=dX h1;cases jG r1;exact⟨a,ns,rfl,(cu.mono s ha).sq,bM.sc q s h (.int _)⟩
def EO:DR:=λds P=>∃bs:ZY,ds=[.list (bs.map .bool)]/\P .sh (.bool (bs.any id))
def zA:DR:=λds P=>∃bs:ZY,ds=[.list (bs.map .bool)]/\P .sh (.bool (bs.all id))
def LK:cU K EO λxs H Q=>∃(a:Addr)(bs:ZY),xs=[.ref a]/\bI K H a (bs.map V.bl)/\Q (.bl (bs.any id)) H:=by rintro H Hm vs ds P Q s r⟨ns,rfl,h⟩q;obtain⟨x,rfl,h1⟩:=dR r;obtain⟨a,xs,rfl,ha,r1⟩:=dX h1;cases rE r1;exact⟨a,ns,rfl,(cu.mono s ha).sq,bM.sc q s h (.bl _)⟩
def MN:cU K zA λxs H Q=>∃(a:Addr)(bs:ZY),xs=[.ref a]/\bI K H a (bs.map V.bl)/\Q (.bl (bs.all id)) H:=by rintro H Hm vs ds P Q s r⟨ns,rfl,h⟩q;obtain⟨x,rfl,h1⟩:=dR r;obtain⟨a,xs,rfl,ha,r1⟩:=dX h1;cases rE r1;exact⟨a,ns,rfl,(cu.mono s ha).sq,bM.sc q s h (.bl _)⟩
def qS:DR:=λds P=>∃ns:Zc,ds=[.list (ns.map .int)]/\ns.length<64/\∀ms:Zc,ms.Perm ns->ms.Pairwise (·<=·)->P (.ow false) (.list (ms.map .int))
def GK:cU K qS λxs H Q=>∃(a:Addr)(ns:Zc),xs=[.ref a]/\bI K H a (ns.map V.int)/\ns.length<64/\∀(ms:Zc)(p:Addr),ms.Perm ns->ms.Pairwise (·<=·)->H p=none->Q (.ref p) (upd H p (.lst (ms.map V.int))):=by rintro H Hm vs ds P Q s r⟨ns,rfl,hn,h⟩q;obtain⟨x,rfl,h1⟩:=dR r;obtain⟨a,xs,rfl,ha,r1⟩:=dX h1;cases jG r1;exact⟨a,ns,rfl,(cu.mono s ha).sq,hn,λms p m1 m2 hp=>bM.nl q s (h ms m1 m2) hp (lC ms)⟩
def pD(p:Int×Int):PyData:=.tuple [.int p.1,.int p.2]
inductive B5(vs:List V)(H:Hp)(Q:VK):Prop
 |mk:∀j:Int,(vs=[.int j])->(∀p,H p=none->0<=j/\j<=1000/\∀l,upd H p (.tB 0 j) l=none->Q (.ref l) (upd (upd H p (.tB 0 j)) l (.lst (((List.range j.toNat).map λi:Nat=>(i:Int)).map V.int))))->B5 vs H Q
def HS:List V->Hp->VK->Prop:=λvs H Q=>B5 vs H Q
def lQ:DR:=λds P=>match ds with
 |[.int j]=>(0<=j/\j<=1000)/\P (.ow false) (.list (kY 0 j.toNat))
 |_=>False
def M8(n:Nat):aC K H (((List.range n).map λi:Nat=>(i:Int)).map V.int) (kY 0 n):=by have:=lC (K:=K) (H:=H) ((List.range n).map λi:Nat=>(i:Int));rw[V1 (l:=List.range n) (g:=PyData.int)]at this;unfold kY;rw[show(λi:Nat=>PyData.int (0+i))=PyData.int∘λi:Nat=>(i:Int)from funext λi=>by simp];exact this
def Io:cU K lQ HS:=by intro H Hm vs ds P Q s r h q;unfold lQ at h;split at h;{obtain⟨x,rfl,h1⟩:=dR r;cases h1;rename_i j;refine⟨j,rfl,λp hp=>⟨h.1.1,h.1.2,λl hl=>?_⟩⟩;have s1:=cH (o:=.tB 0 j) hp;have s2:=cH (o:=.lst (((List.range j.toNat).map λi:Nat=>(i:Int)).map V.int)) hl;refine q _ _ _ _ Hm [l] h.2 (s1.trans s2) (aj.refl _) (s.trans (s1.trans s2)) (λ_ _=>.inl rfl) (.ow aH (M8 _)) λa ha=>?_;rw[U8.mp ha];have:H l=none:=s1.free hl;exact⟨this,j6 s this⟩};exact h.elim
def I0(hc:X.calm=true)(g1:Gl X "list")(m1:X.mg "list"=none)(g2:Gl X "range")(m2:X.mg "range"=none)(ns:noStar a=true)(S:aY X Ex Y [a] as) : SE X Ex Y (.Call (.Name "list" p1) [.Call (.Name "range" p2) [a] [] pos2] [] pos) (ah lQ as):=
 gx (r:=HS) S (λU H Q h=>WE.of (kE (D9 hc) g1 m1 Ys (gu (kE BF g2 m2 PyProof.Rows.boot_range (eW (es:=[a]) (by rw[UU,ns];rfl)) (by decide) (by decide) (bQ ns) (by rfl)) ji)) (by
  refine λpins s I=>aU (h pins s I) λv s1 ⟨x,H1,I1,r1,j,e,q⟩=>⟨x,H1,I1,r1,?_⟩
  cases e;refine⟨j,rfl,λp hp=>?_⟩
  obtain⟨q1,q2,q3⟩:=q p hp;exact⟨p,j,rfl,aH,q1,q2,q3⟩)) Io
end
inductive Ag(K:Frag)(H Hm:Hp):ZY->List V->ZU->ZX->Prop
 |nil:Ag K H Hm [] [] [] []
 |sh {ms:ZY}{vs:List V}{ds:ZU}{as:ZX}{v:V}{d:PyData}:Rp K Hm v d->Ag K H Hm ms vs ds as->Ag K H Hm (false::ms) (v::vs) (d::ds) as
 |mu {ms:ZY}{vs:List V}{ds:ZU}{as:ZX}{a:Addr}{xs:List V}{es:ZU}:H a=some (.lst xs)->aC K Hm xs es->Hm a=none->a∉as->Ag K H Hm ms vs ds as->Ag K H Hm (true::ms) (.ref a::vs) (.list es::ds) (a::as)
inductive Bk(K:Frag)(H Hm:Hp):ZX->ZU->Prop
 |nil:Bk K H Hm [] []
 |cons {a:Addr}{xs:List V}{es:ZU}{as:ZX}{us:ZU}:H a=some (.lst xs)->aC K Hm xs es->Hm a=none->Bk K H Hm as us->Bk K H Hm (a::as) (.list es::us)
def cE(mg:ZK)(K:Frag)(ms:ZY)(sp:bq):Sp:=λvs H Q Ex=>∃(ds:ZU)(as:ZX)(Hm:Hp)(P:ZU->Kd->PyData->Prop)(x:XC),aj Hm H/\Ag K H Hm ms vs ds as/\sp ds P x /\
 (∀us k r u H' Hm' fp,P us k r->aj Hm Hm'->aj Hm' H'->(∀p o,p∉as->H p=some o->H' p=some o)->(∀a,a∉as->H a≠none->OE (Hm' a) (Hm a))->Bk K H' Hm' as us->Own K H' Hm' k u r fp->(∀a∈fp,H a=none/\Hm' a=none)->Q u H') /\
 (∀c d C a H',mg c=some (.ref C)->x c d->(∀p o,p∉as->H p=some o->H' p=some o)->H' a=some (.ext (oX a C none))->H a=none->Ex (.ref C) (some a) H')
section
variable{K:Frag}{g:Gh}{U:St}
def RW{F:Nat->ZX}(R:Rl K g E U H Hm F)(s:aj Hm Hm1):∀{ms:ZY}{as:List Arg}{os:Zf}{vs:List V}{ds:ZU},Got K U Hm as os vs->fill as E os=some ds->shape ms as=true->(lent ms as).Nodup->(∀i∈lent ms as,∃p es,E[i]?=some (some (.ow p,.list es)))->(∀i∈kept ms as,∀a∈F i,Hm1 a=H a)->(∀i∈lent ms as,∀a∈F i,Hm1 a=none)->∃ix:List (Nat×Addr),ix.map (·.1)=lent ms as/\Ag K H Hm1 ms vs ds (ix.map (·.2))/\∀q∈ix,U[q.1]?=some (some (.ref q.2))/\F q.1=[q.2]:=by
 intro ms as os vs ds G;induction G generalizing ms ds with
 |nil=>
  intro h sh nd hl hk hn;cases ms with
  |nil=>cases h;exact⟨[],rfl,.nil,λ_ z=>by cases z⟩
  |cons b ms=>cases b<;>cases sh
 |@pk i v as os vs hv G ih=>
  intro h sh nd hl hk hn;cases ms with
  |nil=>cases sh
  |cons b ms=>
   cases b with
   |false=>
    rw[fill]at h;split at h
    .rename_i k d e;by_cases hr:k.rd=true
     .rw[if_pos hr]at h;cases hf:fill as E os with
      |none=>rw[hf]at h;cases h
      |some es=>rw[hf]at h;cases h;obtain⟨v',h1,h2⟩:=R.slot i k d e;rw[hv]at h1;cases h1;obtain⟨ix,e1,e2,e3⟩:=ih (ms:=ms) hf sh nd hl (λj hj=>hk j (U4 _ hj)) hn;exact⟨ix,e1,.sh (h2.rp hr s (hk i U1)) e2,e3⟩
     rw[if_neg hr]at h;cases h
    cases h
   |true=>
    rw[fill]at h;obtain⟨p,es0,e0⟩:=hl i U1;rw[e0]at h;have h:(if(Kd.ow p).rd=true then(fill as E os).map (PyData.list es0::·)else none)=some _:=h;rw[if_pos (show(Kd.ow p).rd=true from rfl)]at h;cases hf:fill as E os with
    |none=>rw[hf]at h;cases h
    |some es=>
     rw[hf]at h;cases h;obtain⟨v',h1,h2⟩:=R.slot i _ _ e0;rw[hv]at h1;cases h1;have nd':=VA.mp (show(i::lent ms as).Nodup from nd);obtain⟨ix,e1,e2,e3⟩:=ih (ms:=ms) hf sh nd'.2 (λj hj=>hl j (U4 _ hj)) hk (λj hj=>hn j (U4 _ hj));have hFi:=hn i U1;generalize hF:F i=fi at h2 hFi;cases h2 with
     |@ow _ a xs _ ha hr=>refine⟨(i,a)::ix,?_,.mu ha (hr.mono s) (hFi a U1) ?_ e2,?_⟩;{show i::ix.map (·.1)=i::lent ms as;rw[e1]};{intro m;obtain⟨q,hq,rfl⟩:=U9.mp m;have:=R.aV i q.1 q.2 (by rw[hF];exact U1) (by rw[(e3 q hq).2];exact U1);exact nd'.1 (e1▸(this▸U9.mpr ⟨q,hq,rfl⟩))};intro q hq;rcases U6.mp hq with rfl|hq;{exact⟨hv,hF⟩};exact e3 q hq
 |@ev d0 v u as os vs r G ih=>
  intro h sh nd hl hk hn;cases ms with
  |nil=>cases sh
  |cons b ms=>
   cases b with
   |true=>cases sh
   |false=>
    rw[fill]at h;cases hf:fill as E os with
    |none=>rw[hf]at h;cases h
    |some es=>rw[hf]at h;cases h;obtain⟨ix,e1,e2,e3⟩:=ih (ms:=ms) hf sh nd hl hk hn;exact⟨ix,e1,.sh (r.mono s) e2,e3⟩
theorem p9:∀{ms:ZY}{as:List Arg}{us:ZU}{E E2:En},tO ms as us E=some E2->(lent ms as).Nodup->E2.length=E.length/\(∀j,j∉lent ms as->E2[j]?=E[j]?)/\(lent ms as).length=us.length /\ ∀(n i:Nat)(u:PyData),(lent ms as)[n]?=some i->us[n]?=some u->∃p es es',u=.list es'/\E[i]?=some (some (.ow p,.list es))/\E2[i]?=some (some (.ow p,.list es'))
 |[],[],[],E,E2,h,_=>by cases h;exact⟨rfl,λ_ _=>rfl,rfl,λ_ _ _ z=>by cases z⟩
 |[],[],_::_,E,E2,h,_=>by cases h
 |[],_::_,_,E,E2,h,_=>by cases h
 |false::ms,.pk j::r,us,E,E2,h,nd=>p9 (ms:=ms) (as:=r) (us:=us) h nd
 |false::ms,.ev _::r,us,E,E2,h,nd=>p9 (ms:=ms) (as:=r) (us:=us) h nd
 |false::ms,[],us,E,E2,h,_=>by cases h
 |true::ms,[],us,E,E2,h,_=>by cases h
 |true::ms,.ev _::r,us,E,E2,h,_=>by cases h
 |true::ms,.pk i::r,[],E,E2,h,_=>by cases h
 |true::ms,.pk i::r,u::us,E,E2,h,nd=>by
  rw[tO]at h;obtain⟨n1,n2⟩:=VA.mp (show(i::lent ms r).Nodup from nd);split at h
  .rename_i p es e;by_cases hu:CP u=true
   .rw[if_pos hu]at h;cases u with
    |list es'=>
     have li:i<E.length:=by rcases VV i E.length with h|h;{exact h};rw[VD h]at e;cases e
     obtain⟨l1,g1,l2,g2⟩:=p9 (ms:=ms) (as:=r) (us:=us) h n2;rw[VP]at l1;refine⟨l1,λj hj=>?_,congrArg (·+1) l2,λn j v h1 h2=>?_⟩;{have hj':j∉lent ms r:=λz=>hj (U4 _ z);have hne:i≠j:=λz=>hj (z▸U1);rw[g1 j hj',au hne]};cases n with
     |zero=>cases h1;cases h2;exact⟨p,es,es',rfl,e,by rw[g1 i n1,aJ li]⟩
     |succ n=>have h1:(lent ms r)[n]?=some j:=h1;have h2:us[n]?=some v:=h2;obtain⟨p',fs,fs',e1,e2,e3⟩:=g2 n j v h1 h2;have hne:i≠j:=λz=>n1 (z▸V7 h1);rw[au hne]at e2;exact⟨p',fs,fs',e1,e2,e3⟩
    |_=>cases hu
   rw[if_neg hu]at h;cases h
  cases h
theorem Bk.get:∀{as:ZX}{us:ZU}{n:Nat}{a:Addr},Bk K H Hm as us->as[n]?=some a->∃xs es,us[n]?=some (.list es)/\H a=some (.lst xs)/\aC K Hm xs es/\Hm a=none
 |_,_,_,_,.nil,h=>by simp at h
 |_,_,0,_,.cons h1 h2 h3 _,h=>by simp at h;subst h;exact⟨_,_,rfl,h1,h2,h3⟩
 |_,_,n+1,_,.cons _ _ _ t,h=>t.get (n:=n) (by simpa using h)
def Dt{E E2 E3:En}{H H' Hm Hm2:Hp}{F:Nat->ZX}{is:Zb}{ix:List (Nat×Addr)}{us:ZU}{k:Kd}{u:V}{v:PyData}{fp:ZX}(R:Rl K g E U H Hm F)(hix:∀q∈ix,U[q.1]?=some (some (.ref q.2))/\F q.1=[q.2])(hik:∀q∈ix,q.1∉is)(l2:E2.length=E.length)(hs:∀j,j∉ix.map (·.1)->E2[j]?=E[j]?)(hu:∀q∈ix,∃p es xs' es',PyData.list es'∈us/\E[q.1]?=some (some (.ow p,.list es))/\E2[q.1]?=some (some (.ow p,.list es'))/\H' q.2=some (.lst xs')/\aC K Hm2 xs' es'/\Hm2 q.2=none)(hE:(if(flat k v&&us.all (flat (.ow false)))=true then some E2 else eY is E2)=some E3)(s1:aj (lend Hm H (is.flatMap F)) Hm2)(s2:aj Hm2 H')(sH:∀p o,p∉ix.map (·.2)->H p=some o->H' p=some o)(old:∀a,a∉ix.map (·.2)->H a≠none->OE (Hm2 a) (lend Hm H (is.flatMap F) a))(o:Own K H' Hm2 k u v fp)(fr:∀a∈fp,H a=none/\Hm2 a=none) : ∃Hm' F',Rl K g E3 U H' Hm' F'/\aj Hm Hm'/\Tm K g F' H' Hm' k u v fp:=by
 have mem:∀{a i},a∈F i->i∈is->a∈is.flatMap F:=λha hi=>VL.mpr ⟨_,hi,ha⟩;have off:∀a∈is.flatMap F,Hm a=none:=λa ha=>by obtain⟨i,_,h⟩:=VL.mp ha;exact R.off i a h
 have up:aj Hm (lend Hm H (is.flatMap F)):=i6 off;have bT:∀{i a},a∈F i->H a≠none:=λha z=>by obtain⟨u,hu,_⟩:=R.bT _ _ ha;rw[z]at hu;cases hu
 have own:∀q∈ix,q.2∈F q.1:=λq hq=>by rw[(hix q hq).2];exact U1
 have lentF:∀{i a},a∈F i->a∈ix.map (·.2)->i∈ix.map (·.1):=λ{i a} ha m=>by obtain⟨q,hq,rfl⟩:=U9.mp m;exact U9.mpr ⟨q,hq,(R.aV i q.1 q.2 ha (own q hq)).symm⟩
 have lis:∀a,a∈ix.map (·.2)->a∉is.flatMap F:=λa m z=>by obtain⟨q,hq,rfl⟩:=U9.mp m;obtain⟨i,hi,h⟩:=VL.mp z;exact hik q hq (R.aV i q.1 q.2 h (own q hq)▸hi)
 have nfp:∀a∈fp,∀i,a∉F i:=λa ha i=>R.fresh (fr a ha).1;have m2:∀{a},H a≠none->a∉is.flatMap F->(a∉ix.map (·.2)/\OE (Hm2 a) (Hm a))\/(a∈ix.map (·.2)/\Hm2 a=none):=λ{a} h c=>by by_cases z:a∈ix.map (·.2);{obtain⟨q,hq,rfl⟩:=U9.mp z;obtain⟨_,_,_,_,_,_,_,_,_,e⟩:=hu q hq;exact .inr ⟨z,e⟩};refine .inl ⟨z,?_⟩;have h':=old a z h;rw[cW c]at h';exact h'
 have offI:∀{i a},a∈F i->a∉is.flatMap F->Hm2 a=none:=λ{i a} ha c=>by rcases m2 (bT ha) c with⟨z,e⟩|⟨_,e⟩;{obtain⟨w,hw,nt⟩:=R.bT i a ha;exact e.off (R.off i a ha) s2 (sH a w z hw) nt};exact e
 have od:∀{a},g.H0 a≠none->a∉is.flatMap F->OE (Hm2 a) (g.fN a):=λ{a} h c=>by rcases m2 (R.uQ h) c with⟨_,e⟩|⟨z,e⟩;{exact e.trans (R.old a h)};obtain⟨q,hq,rfl⟩:=U9.mp z;have h':=R.old _ h;rw[R.off q.1 q.2 (own q hq)]at h';rw[e];exact h'
 have hliv:∀{i a},a∈F i->∃w,H' a=some w/\sZ w:=λ{i a} ha=>by by_cases z:a∈ix.map (·.2);{obtain⟨q,hq,rfl⟩:=U9.mp z;obtain⟨_,_,_,_,_,_,_,e,_,_⟩:=hu q hq;exact⟨_,e,mC⟩};obtain⟨w,hw,nt⟩:=R.bT i a ha;exact⟨w,sH a w z hw,nt⟩
 have keepH:∀{j a},j∉ix.map (·.1)->a∈F j->H' a=H a:=λ{j a} hj ha=>by obtain⟨w,hw,_⟩:=R.bT j a ha;rw[hw];exact sH a w (λz=>hj (lentF ha z)) hw
 have frm:∀p o,p∉g.M->g.H0 p=some o->H' p=some o:=λp o hp ho=>by refine sH p o (λz=>?_) (R.fr p o hp ho);obtain⟨q,hq,rfl⟩:=U9.mp z;rcases R.new q.1 q.2 (own q hq)with y|y;{exact hp y};rw[y]at ho;cases ho
 have pinn:∀{E4:En},(∀j,j∉is->E4[j]?=E2[j]?)->(∀j∈is,E4[j]?=E2[j]?\/∃k d,E2[j]?=some (some (k,d))/\k.fz=true)->∀q∈g.pins,U[q.1]?=some (some (.ref q.2))/\∃ds,E4[q.1]?=some (some (.ow true,.list ds)):=λ{E4} h4 h5 q hq=>by
  obtain⟨h1,ds',h2⟩:=R.pin q hq;refine⟨h1,?_⟩;have e2:∃ds,E2[q.1]?=some (some (.ow true,.list ds)):=by by_cases z:q.1∈ix.map (·.1);{obtain⟨q',hq',e⟩:=U9.mp z;obtain⟨p,es,xs',es',_,g1,g2,_⟩:=hu q' hq';rw[e,h2]at g1;cases g1;exact⟨es',e▸g2⟩};exact⟨ds',by rw[hs _ z];exact h2⟩
  obtain⟨ds,e2⟩:=e2;by_cases z:q.1∈is;{rcases h5 _ z with y|⟨k0,d0,y,yk⟩;{exact⟨ds,y.trans e2⟩};rw[e2]at y;cases y;cases yk};exact⟨ds,(h4 _ z).trans e2⟩
 by_cases hf:(flat k v&&us.all (flat (.ow false)))=true
 .rw[if_pos hf]at hE;cases hE;rw[UJ,US]at hf;have st:mW Hm2 (back Hm2 (is.flatMap F)):=λa xs h=>by
   have c:a∉is.flatMap F:=λz=>by obtain⟨i,_,hi⟩:=VL.mp z;obtain⟨w,hw,nt⟩:=R.bT i a hi;have e2:Hm2 a=some w:=s1 _ _ (by rw[eN z];exact hw);rw[e2]at h;cases h;exact nt xs rfl
   rw[dJ c];exact h
  have upB:aj Hm (back Hm2 (is.flatMap F)):=λb o e=>by rw[dJ λz=>by rw[off b z]at e;cases e];exact s1 _ _ (up _ _ e)
  have R':Rl K g E2 U H' (back Hm2 (is.flatMap F)) F:={
   len:=l2.trans R.len
   sub:=zf s2
   slot:=λj k' d' e'=>by
    by_cases z:j∈ix.map (·.1)
    .obtain⟨q,hq,rfl⟩:=U9.mp z;obtain⟨p,es,xs',es',mu,g1,g2,g3,g4,_⟩:=hu q hq;rw[g2]at e';cases e';obtain⟨h1,h2⟩:=hix q hq;exact⟨_,h1,by rw[h2];exact .ow g3 (g4.AR st (hf.2 _ mu))⟩
    .rw[hs j z]at e';obtain⟨v',h1,h2⟩:=R.slot j k' d' e';exact⟨v',h1,h2.step upB λa ha=>keepH z ha⟩
   off:=λi a ha=>by
    by_cases c:a∈is.flatMap F
    .exact jX c
    .rw[dJ c];exact offI ha c
   bT:=λi a ha=>hliv ha
   aV:=R.aV
   fr:=frm
   new:=R.new
   pin:=pinn (λj _=>rfl) λj _=>.inl rfl
   old:=λa ha=>by
    by_cases c:a∈is.flatMap F
    .have h':=R.old a ha;rw[off a c]at h';rw[jX c];exact h'
    .rw[dJ c];exact od ha c }
  refine⟨_,F,R',upB,⟨o.flat st hf.1,λa ha=>?_,nfp,λa ha=>R.gj (fr a ha).1⟩⟩;by_cases c:a∈is.flatMap F;{exact jX c};rw[dJ c];exact(fr a ha).2
 rw[if_neg hf]at hE;obtain⟨l3,g3⟩:=pV hE;have R':Rl K g E3 U H' Hm2 (λj=>if j∈is then []else F j):={
  len:=l3.trans (l2.trans R.len)
  sub:=s2
  slot:=λj k' d' e'=>by
   by_cases c:j∈is
   .obtain⟨k0,d0,e0,hk0,e1⟩:=(g3 j).2 c;rw[e1]at e';cases e';have z:j∉ix.map (·.1):=λz=>by
     obtain⟨q,hq,rfl⟩:=U9.mp z;exact hik q hq c
    rw[hs j z]at e0;obtain⟨v',h1,h2⟩:=R.slot j k0 _ e0;refine⟨v',h1,?_⟩;rw[if_pos c];exact .sh ((h2.rp (by cases k0<;>first|rfl|cases hk0) up λa ha=>eN (mem ha c)).mono s1)
   .rw[(g3 j).1 c]at e';rw[if_neg c]
    by_cases z:j∈ix.map (·.1)
    .obtain⟨q,hq,rfl⟩:=U9.mp z;obtain⟨p,es,xs',es',mu,g1,g2,g4,g5,_⟩:=hu q hq;rw[g2]at e';cases e';obtain⟨h1,h2⟩:=hix q hq;exact⟨_,h1,by rw[h2];exact .ow g4 g5⟩
    .rw[hs j z]at e';obtain⟨v',h1,h2⟩:=R.slot j k' d' e';exact⟨v',h1,h2.step (up.trans s1) λa ha=>keepH z ha⟩
  off:=λj a ha=>by
   by_cases c:j∈is
   .rw[if_pos c]at ha;cases ha
   .rw[if_neg c]at ha;exact offI ha λz=>by
     obtain⟨i,hi,h⟩:=VL.mp z;exact c (R.aV i j a h ha▸hi)
  bT:=λj a ha=>by
   by_cases c:j∈is
   .rw[if_pos c]at ha;cases ha
   .rw[if_neg c]at ha;exact hliv ha
  aV:=λj l a h1 h2=>by
   by_cases c:j∈is
   .rw[if_pos c]at h1;cases h1
   .rw[if_neg c]at h1
    by_cases c':l∈is
    .rw[if_pos c']at h2;cases h2
    .rw[if_neg c']at h2;exact R.aV j l a h1 h2
  fr:=frm
  new:=λj a ha=>by
   by_cases c:j∈is
   .rw[if_pos c]at ha;cases ha
   .rw[if_neg c]at ha;exact R.new j a ha
  pin:=pinn (λj hj=>(g3 j).1 hj) λj hj=>by
   obtain⟨k0,d0,e0,hk0,_⟩:=(g3 j).2 hj;exact .inr ⟨k0,d0,e0,hk0⟩
  old:=λa ha=>by
   refine od ha λz=>?_
   obtain⟨i,hi,h⟩:=VL.mp z;obtain⟨k0,d0,e0,hk0,_⟩:=(g3 i).2 hi;have zi:i∉ix.map (·.1):=λz=>by
    obtain⟨q,hq,rfl⟩:=U9.mp z;exact hik q hq hi
   rw[hs i zi]at e0;exact ha (R.notM e0 (by cases k0<;>first|rfl|(rename_i p;cases p<;>first|rfl|cases hk0)|cases hk0) h) }
 refine⟨Hm2,_,R',up.trans s1,⟨o,λa ha=>(fr a ha).2,λa ha i=>?_,λa ha=>R.gj (fr a ha).1⟩⟩;by_cases c:i∈is;{rw[if_pos c];simp};rw[if_neg c];exact nfp a ha i
end
section
variable{X:Cx}{Ex:XK}{Y:Zb}
def M5{x:Str}{k:Nat}{ps:Zd}{ms:ZY}{sp:bq}{p pos:Pos}{e:Expr}{es:ZZ}{as:List Arg}(F:bV X.prog X.w X.K X.mg X.base k x ps (cE X.mg X.K ms sp))(hp:Passes (gA X.prog X.w) X Ex)(hr:fc k X.A)(hg:Gl X x)(hd:(x==("__debug__":Str))=false)(ns:(e::es).all noStar=true)(S:aY X Ex Y (e::es) as):SE X Ex Y (.Call (.Name x p) (e::es) [] pos) (aD sp ms as):=by
 intro g xc E U H Hm Fo P Q hx R h q;obtain⟨f,fd,h1,h2,h3,h4⟩:=F;refine WE.of (MD (E:=Ex) h4 hr hg h1 h2 h3 .nil hp (eW ns) hd (bQ (by rw[UU,UJ]at ns;exact ns.1)) (iP (by rw[UU,UJ]at ns;exact ns.2))) ?_;refine oG hx S R h λE1 os vs H1 Hm1 F1 p R1 s1 G=>?_;replace p:G9 sp ms as xc E1 os P:=p;unfold G9 at p;rw[<-bS,gP]at p;obtain⟨ds,hf,p⟩:=p;rw[eF,IX]at p;obtain⟨hl,hsp⟩:=p;unfold Ak at hl;rw[UJ,UJ,VM,US]at hl;obtain⟨⟨l1,l2⟩,l3⟩:=hl;have hlent:∀i∈lent ms as,i∉kept ms as/\∃p es,E1[i]?=some (some (.ow p,.list es)):=λi hi=>by have:=l3 i hi;rw[UJ]at this;refine⟨λz=>?_,?_⟩;{have y:=this.1;rw[Xg,Wb]at y;simp[z]at y};have y:=this.2;split at y;{rename_i p es e;exact⟨p,es,e⟩};cases y
 have off:∀a∈(kept ms as).flatMap F1,Hm1 a=none:=λa ha=>by obtain⟨i,_,h⟩:=VL.mp ha;exact R1.off i a h
 have up:=i6 (Hm:=Hm1) (H:=H1) off;obtain⟨ix,e1,e2,e3⟩:=RW R1 up (ms:=ms) G hf l1 l2 (λi hi=>(hlent i hi).2) (λi hi a ha=>eN (VL.mpr ⟨i,hi,ha⟩)) λi hi a ha=>by
  rw[cW λz=>by
   obtain⟨j,hj,h⟩:=VL.mp z;exact(hlent i hi).1 (R1.aV j i a h ha▸hj)]
  exact R1.off i a ha
 show cE X.mg X.K ms sp (vs++[]) H1 Q Ex;rw[VF];refine⟨ds,ix.map (·.2),lend Hm1 H1 ((kept ms as).flatMap F1),_,xc,jJ R1.sub,e2,hsp,λus k r u H' Hm' fp p sM sS fr old bk o new=>?_,λc d C a H' hC hxc fr ha hn=>?_⟩
 .replace p:G0 ms as E1 us k r P:=p;unfold G0 at p;rw[<-bS,wN]at p;obtain⟨E2,hu,p⟩:=p;rw[<-bS,Km]at p;obtain⟨E3,ha,p⟩:=p;obtain⟨u1,u2,u3,u4⟩:=p9 hu l2;have hu':∀q∈ix,∃p es xs' es',PyData.list es'∈us/\E1[q.1]?=some (some (.ow p,.list es))/\E2[q.1]?=some (some (.ow p,.list es'))/\H' q.2=some (.lst xs')/\aC X.K Hm' xs' es'/\Hm' q.2=none:=λq hq=>by
   obtain⟨n,hn⟩:=W2 hq;have hn1:(lent ms as)[n]?=some q.1:=by rw[<-e1,UK,hn];rfl
   have hn2:(ix.map (·.2))[n]?=some q.2:=by rw[UK,hn];rfl
   obtain⟨xs',es',g1,g2,g3,g4⟩:=bk.get hn2;obtain⟨p',es,es'',g5,g6,g7⟩:=u4 n q.1 _ hn1 g1;cases g5;exact⟨p',es,xs',es',V7 g1,g6,g7,g2,g3,g4⟩
  obtain⟨Hm'',F'',R'',s'',T⟩:=Dt R1 (is:=kept ms as) (ix:=ix) (us:=us) e3 (λq hq=>(hlent q.1 (e1▸U9.mpr ⟨q,hq,rfl⟩)).1) u1 (λj hj=>u2 j (e1▸hj)) hu' (Ay ha) sM sS fr old o new;exact q _ _ _ _ _ _ _ _ p R'' (s1.trans s'') T
 refine hx c d C a H' hC hxc (λp o hp ho=>?_) ha (R1.gj hn);refine fr p o (λz=>?_) (R1.fr p o hp ho);obtain⟨q,hq,rfl⟩:=U9.mp z;rcases R1.new q.1 q.2 (by rw[(e3 q hq).2];exact U1)with y|y;{exact hp y};rw[y]at ho;cases ho
end
def WS(X:Cx)(st:Stmt):TS:=λD U H=>∀(pins:ZL)(s:Shared),Inv X pins U H s->wpAny (model X.prog X.w) X.A (exec st X.env) (SP X pins D) X.xe s
def sR(X:Cx)(st:Za):TS:=λD U H=>∀(pins:ZL)(s:Shared),Inv X pins U H s->wpAny (model X.prog X.w) X.A (execs st X.env) (SP X pins D) X.xe s
def Ej:PS X st (WS X st):=λpins s _ _ _ I h=>h pins s I
def jT:qm X st (sR X st):=λpins s _ _ _ I h=>h pins s I
def WS.of(h:PS X st t)(q:t D U H):WS X st D U H:=λpins s I=>h pins s U H D I q
def sR.of(h:qm X st t)(q:t D U H):sR X st D U H:=λpins s I=>h pins s U H D I q
def bB{α:Type}{l:List α}{i:Nat}{a:α}(h:l[i]?=some a):i<l.length:=by rcases VV i l.length with z|z;{exact z};rw[VD z]at h;cases h
def lA{Y:Zb}{U:St}{j i:Nat}{v:Option V}(nd:Y.Nodup)(h:Y[j]?=some i)(hi:i<U.length):(sel Y U).set j v=sel Y (U.set i v):=by
 have lj:j<Y.length:=bB h;refine Vu λk=>?_;by_cases c:k=j;{subst c;rw[aJ (by unfold sel;rw[U7];exact lj)];unfold sel;rw[UK,h];show some v=some ((U.set i v)[i]?).join;rw[aJ hi];rfl};rw[au (Ne.symm c)];unfold sel;rw[UK,UK];cases e:Y[k]? with
 |none=>rfl
 |some m=>
  have ne:i≠m:=λz=>c (by
   have h1:=VE.mp e;have h2:=VE.mp h;obtain⟨l1,e1⟩:=h1;obtain⟨l2,e2⟩:=h2;exact(List.getElem_inj nd).mp (e1.trans (z.symm.trans e2.symm)))
  show some (U[m]?).join=some ((U.set i v)[m]?).join;rw[au ne]
abbrev aT(X:Cx):Zb:=List.range X.N.length
def Su(X:Cx)(Ex:XK)(w:TS)(d:DS):Prop:=
 ∀(g:Gh)(D':jl)(E:En)(U:St)(H Hm:Hp)(F:Nat->ZX)(D:Ends),XL X Ex D'.xc g->Rl X.K g E U H Hm F->d D' E->
  (∀E' σ' H' Hm' F',D'.nx E'->Rl X.K g E' σ' H' Hm' F'->aj Hm Hm'->D.nx (sel (aT X) σ') H')->
  (∀E' k v u σ' H' Hm' F' fp,D'.rt E' k v->Rl X.K g E' σ' H' Hm' F'->Tm X.K g F' H' Hm' k u v fp->D.rt u H')->w D (sel (aT X) U) H
abbrev S1(X:Cx)(Ex:XK)(st:Stmt)(d:DS):Prop:=Su X Ex (WS X st) d
abbrev SS(X:Cx)(Ex:XK)(st:Za)(d:DS):Prop:=Su X Ex (sR X st) d
section
variable{X:Cx}{Ex:XK}
def cB:SS X Ex [] dD:=λg D' E U H Hm F D hx R h nx rt=>sR.of Mp (nx _ _ _ _ _ h R (aj.refl _))
def ai{st:Stmt}{rest:Za}{a b:DS}(h1:S1 X Ex st a)(h2:SS X Ex rest b):SS X Ex (st::rest) (av a b):=by intro g D' E U H Hm F D hx R h nx rt;refine sR.of (AH Ej jT) (h1 g { D' with nx:=b D' } E U H Hm F _ hx R h (λE1 σ1 H1 Hm1 F1 p1 R1 s1=>?_) rt);exact h2 g D' E1 σ1 H1 Hm1 F1 D hx R1 p1 (λE2 σ2 H2 Hm2 F2 p2 R2 s2=>nx _ _ _ _ _ p2 R2 (s1.trans s2)) rt
def FF{st:Stmt}{rest:Za}{a b:DS}(h1:S1 X Ex st a)(h2:SS X Ex rest b):SS X Ex (st::rest) (El a b):=by intro g D' E U H Hm F D hx R h nx rt;obtain⟨J,h,hJ⟩:=h;refine sR.of (AH Ej jT) (h1 g { D' with nx:=J } E U H Hm F _ hx R h (λE1 σ1 H1 Hm1 F1 p1 R1 s1=>?_) rt);exact h2 g D' E1 σ1 H1 Hm1 F1 D hx R1 (hJ E1 p1) (λE2 σ2 H2 Hm2 F2 p2 R2 s2=>nx _ _ _ _ _ p2 R2 (s1.trans s2)) rt
def ao(h1:S1 X Ex st a):SS X Ex [st] a:=λg D' E U H Hm F D hx R h nx rt=>sR.of (Mm Ej) (h1 g D' E U H Hm F D hx R h nx rt)
def S3(hc:ST X Ex (aT X) c t)(ha:SS X Ex a d)(hb:SS X Ex b2 e):S1 X Ex (.If c a b2 pos) (cO t d e):=by
 rw[MH];intro g D' E U H Hm F D hx R h nx rt;refine WS.of (RM j4 jT jT) (hc g D'.xc E U H Hm F _ (λb H1=>if b=true then sR X a D _ H1 else sR X b2 D _ H1) hx R h λE1 b H1 Hm1 F1 p1 R1 s1=>?_);cases b with
 |true=>exact qv (ha g D' E1 U H1 Hm1 F1 D hx R1 (by simpa using p1) (λE2 σ2 H2 Hm2 F2 p2 R2 s2=>nx _ _ _ _ _ p2 R2 (s1.trans s2)) rt)
 |false=>exact qK (hb g D' E1 U H1 Hm1 F1 D hx R1 (by simpa using p1) (λE2 σ2 H2 Hm2 F2 p2 R2 s2=>nx _ _ _ _ _ p2 R2 (s1.trans s2)) rt)
def Rk(h:SE X Ex (aT X) e d):S1 X Ex (.Return (some e) pos) (bG d):=λg D' E U H Hm F D hx R p nx rt=>WS.of (Fi bL) (h g D'.xc E U H Hm F _ _ hx R p λE' k v u H' Hm' F' fp p' R' s' T=>rt _ _ _ _ _ _ _ _ _ p' R' T)
def P8(h:SE X Ex (aT X) e d)(hs:swapsWith e none pos.line X.env=pure false):S1 X Ex (.Expr e pos) (dQ d):=λg D' E U H Hm F D hx R p nx rt=>WS.of (LZ bL hs) (h g D'.xc E U H Hm F _ _ hx R p λE' k v u H' Hm' F' fp p' R' s' T=>nx _ _ _ _ _ p' R' s')
def Rl.move{K:Frag}{g:Gh}{E:En}{U:St}{H Hm:Hp}{F:Nat->ZX}(R:Rl K g E U H Hm F){i:Nat}{k:Kd}{d:PyData}(e:E[i]?=some (some (k,d)))(hk:k.pin=false):∃v F',U[i]?=some (some v)/\Rl K g (E.set i none) U H Hm F'/\Tm K g F' H Hm k v d (F i):=by
 obtain⟨v,h1,h2⟩:=R.slot i k d e;have li:=bB e;refine⟨v,λj=>if j=i then []else F j,h1,?_,⟨h2,R.off i,λa ha j=>?_,λa ha=>R.notM e hk ha⟩⟩
 .exact {
   len:=by rw[VP];exact R.len
   sub:=R.sub
   slot:=λj k' d' e'=>by
    by_cases c:j=i
    .subst c;rw[aJ li]at e';cases e'
    .rw[au (Ne.symm c)]at e';obtain⟨u,g1,g2⟩:=R.slot j k' d' e';exact⟨u,g1,by rw[if_neg c];exact g2⟩
   off:=λj a ha=>by
    by_cases c:j=i
    .rw[if_pos c]at ha;cases ha
    .rw[if_neg c]at ha;exact R.off j a ha
   bT:=λj a ha=>by
    by_cases c:j=i
    .rw[if_pos c]at ha;cases ha
    .rw[if_neg c]at ha;exact R.bT j a ha
   aV:=λj l a g1 g2=>by
    by_cases c:j=i
    .rw[if_pos c]at g1;cases g1
    .rw[if_neg c]at g1
     by_cases c':l=i
     .rw[if_pos c']at g2;cases g2
     .rw[if_neg c']at g2;exact R.aV j l a g1 g2
   fr:=R.fr
   new:=λj a ha=>by
    by_cases c:j=i
    .rw[if_pos c]at ha;cases ha
    .rw[if_neg c]at ha;exact R.new j a ha
   pin:=λq hq=>by
    obtain⟨g1,ds',g2⟩:=R.pin q hq;have c:i≠q.1:=λz=>by
     rw[<-z,e]at g2;cases g2;cases hk
    exact⟨g1,ds',by rw[au c];exact g2⟩
   old:=R.old }
 by_cases c:j=i;{rw[if_pos c];simp};rw[if_neg c];exact λz=>c (R.aV j i a z ha)
def gU{n i:Nat}(h:i<n):(List.range n)[i]?=some i:=VQ h
def QL{i:Nat}(h:PE X e (jK i))(hi:i<X.N.length):S1 X Ex (.Return (some e) pos) (jh i):=by
 intro g D' E U H Hm F D hx R p nx rt;replace p:IF E i D'.rt:=p;unfold IF at p;split at p
 rotate_left
 .exact p.elim
 rename_i k d e1;rw[eF]at p;obtain⟨hk,p⟩:=p;have hk:k.pin=false:=by simpa using hk
 obtain⟨v,F',h1,R',T⟩:=R.move e1 hk;exact WS.of (Fi h) ⟨v,cY (gU hi) h1,rt _ _ _ _ _ _ _ _ _ p R' T⟩
def i8{i:Nat}(h:bR E i=true):i<E.length:=by rcases VV i E.length with z|z;{exact z};unfold bR at h;rw[VD z]at h;cases h
def RI{i:Nat}{x:Str}{e:Expr}{pos pos':Pos}{d:DE}(hN:X.N.Nodup)(hi:X.N[i]?=some x)(hl:Loc X.env.scope x)(hs:swapsWith e (some (.Name x pos')) pos.line X.env=pure false)(hf:X.fn x=true\/X.env.scope.names.lookup x=some .local)(h:SE X Ex (aT X) e d):S1 X Ex (.Assign [.Name x pos'] e pos) (aN i d):=by rw[vV];intro g D' E U H Hm F D hx R p nx rt;refine WS.of (Pn hN hi hl bL hs hf) (h g D'.xc E U H Hm F _ _ hx R p λE' k v u H' Hm' F' fp p' R' s' T=>?_);show D.nx ((sel (aT X) U).set i (some u)) H';rw[lA Vh (gU (bB hi)) (R'.len▸i8 p'.1)];exact nx _ _ _ _ _ p'.2 (R'.put T p'.1) s'
inductive mK(X:Cx)(Y:Zb):ZZ->Zb->Prop
 |nil:mK X Y [] []
 |cons {x:Str}{p:Pos}{j i:Nat}{ts:ZZ}{is:Zb}:X.N[j]?=some x->Y[j]?=some i->Loc X.env.scope x->(X.fn x=true\/X.env.scope.names.lookup x=some .local)->mK X Y ts is->mK X Y (.Name x p::ts) (i::is)
inductive fG(X:Cx)(Y:Zb):Expr->Tg->Prop
 |nm {x:Str}{p:Pos}{j i:Nat}:X.N[j]?=some x->Y[j]?=some i->Loc X.env.scope x->(X.fn x=true\/X.env.scope.names.lookup x=some .local)->fG X Y (.Name x p) (.nm i)
 |tp {ts:ZZ}{k:Nat}{p:Pos}{is:Zb}:mK X Y ts is->fG X Y (.Tuple ts k p) (.tp is)
def Uj(X:Cx)(Y:Zb)(tg:Tg)(G:TG):Prop:=∀{g:Gh}{d:PyData}{v:V}{E E2:En}{U:St}{H Hm:Hp}{F:Nat->ZX}{Q:St->Hp->Prop},cT tg d E=some E2->Rp X.K Hm v d->Rl X.K g E U H Hm F->(∀σ' F',Rl X.K g E2 σ' H Hm F'->(∀j,j∉tg.slots->σ'[j]?=U[j]?)->Q (sel Y σ') H)->G v (sel Y U) H Q
def IK(hN:X.N.Nodup)(nd:Y.Nodup)(h:mK X Y ts is):∃G:sQ,GD X ts G/\(assignEach ts X.env).length=is.length/\(assignEach ts X.env).findIdx? (·.1)=none /\ ∀{g:Gh}{ds:ZU}{vs:List V}{E E2:En}{U:St}{H Hm:Hp}{F:Nat->ZX}{Q:St->Hp->Prop},cy is ds E=some E2->aC X.K Hm vs ds->Rl X.K g E U H Hm F->(∀σ' F',Rl X.K g E2 σ' H Hm F'->(∀j,j∉is->σ'[j]?=U[j]?)->Q (sel Y σ') H)->vs.length=is.length/\G vs (sel Y U) H Q:=by
 induction h with
 |nil=>
  refine⟨Qh,Mz,rfl,rfl,λ{g ds vs E E2 U H Hm F Q} h r R q=>?_⟩;cases ds with
  |nil=>cases h;cases r;exact⟨rfl,rfl,q _ _ R λ_ _=>rfl⟩
  |cons _ _=>cases h
 |@cons x p j i ts is h1 h2 h3 h4 _ ih=>
  obtain⟨G,g1,g2,g3,g4⟩:=ih;refine⟨KY (sj j) G,JP (Cd hN h1 h3 h4) g1,?_,?_,λ{g ds vs E E2 U H Hm F Q} h r R q=>?_⟩;{show(assignEach ts X.env).length+1=_;rw[g2];rfl};{show List.findIdx? (·.1) ((false,assign (.Name x p) X.env)::assignEach ts X.env)=none;rw[List.findIdx?_cons,g3];rfl};cases ds with
  |nil=>cases h
  |cons d ds=>
   rw[cy]at h;by_cases o:bR E i=true
   .rw[if_pos o]at h;cases r with
    |cons r1 r2=>
     obtain⟨l,k⟩:=g4 h r2 (R.put (Tm.sh r1) o) λσ' F' R' a=>q σ' F' R' λj' hj=>by have ne:i≠j':=λz=>hj (z▸U1);exact(a j' λz=>hj (U4 _ z)).trans (au ne)
     refine⟨congrArg (·+1) l,_,_,rfl,?_⟩;show G _ ((sel Y U).set j (some _)) H Q;rw[lA nd h2 (R.len▸i8 o)];exact k
   rw[if_neg o]at h;cases h
def rT(hc:X.calm=true)(hN:X.N.Nodup)(nd:Y.Nodup)(h:fG X Y e tg):∃G,PG X e G/\Uj X Y tg G:=by
 cases h with
 |@nm x p j i h1 h2 h3 h4=>refine⟨sj j,Cd hN h1 h3 h4,λ{g d v E E2 U H Hm F Q} h r R q=>?_⟩;have h:cy [i] [d] E=some E2:=h;rw[cy]at h;by_cases o:bR E i=true;{rw[if_pos o]at h;cases h;show Q ((sel Y U).set j (some v)) H;rw[lA nd h2 (R.len▸i8 o)];exact q _ _ (R.put (Tm.sh r) o) λj' hj=>au (show i≠j' from λz=>hj (z▸U1))};rw[if_neg o]at h;cases h
 |@tp ts k p is h=>
  obtain⟨G,g1,g2,g3,g4⟩:=IK hN nd h;refine⟨_,P6 hc g1 g2 g3,λ{g d v E E2 U H Hm F Q} h r R q=>?_⟩;cases d with
  |tuple ds=>
   have h:cy is ds E=some E2:=h;cases r with
   |tup a r=>obtain⟨l,k⟩:=g4 h r R q;exact⟨_,_,rfl,cP.of (R.sub _ _ a),l,k⟩
  |_=>cases h
def Se{k:Nat}(hc:X.calm=true)(hN:X.N.Nodup)(ht:mK X (aT X) ts is)(hs:swapsWithSole [.Tuple ts k p] e pos.line X.env=pure false)(hw:swappedStores [.Tuple ts k p] e X.env=pure none)(h:SE X Ex (aT X) e d):S1 X Ex (.Assign [.Tuple ts k p] e pos) (q9 is d):=by
 intro g D' E U H Hm F D hx R pp nx rt;obtain⟨G,g1,g2⟩:=rT hc hN Vh (fG.tp (k:=k) (p:=p) ht);refine WS.of (HP bL g1 hs hw) (h g D'.xc E U H Hm F _ _ hx R pp λE' k v u H' Hm' F' fp p' R' s' T=>?_);replace p':bK k.fz _:=p';rw[eF]at p';obtain⟨hk,p'⟩:=p';unfold Li at p';split at p'
 rotate_left
 .exact p'.elim
 rename_i ds;rw[<-bS,Hl]at p';obtain⟨E2,e2,p'⟩:=p';have e2:cT (.tp is) (.tuple ds) E'=some E2:=e2;obtain⟨Hm2,s2,R2,r2⟩:=T.cL R' hk;exact g2 e2 r2 R2 λσ' F' R3 _=>nx _ _ _ _ _ p' R3 (s'.trans s2)
def MP(hp:PassesOwn (model X.prog X.w) X.A X.env X.xe)(hc:ST X Ex (aT X) c t)(hb:SS X Ex b d):S1 X Ex (.While c b [] pos) (vA t d):=by
 intro g D' E U H Hm F D hx R h nx rt;obtain⟨W,⟨m0,w0⟩,step⟩:=h;refine WS.of (J0 hp j4 jT) ⟨λm τ H'=>∃E' σ' Hm' F',W m E'/\Rl X.K g E' σ' H' Hm' F'/\aj Hm Hm'/\τ=sel (aT X) σ',⟨m0,E,U,Hm,F,w0,R,aj.refl _,rfl⟩,?_⟩;rintro m τ H1⟨E1,σ1,Hm1,F1,w1,R1,s1,rfl⟩;refine hc g D'.xc E1 σ1 H1 Hm1 F1 _ _ hx R1 (step m E1 w1) λE2 b2 H2 Hm2 F2 p2 R2 s2=>?_;cases b2 with
 |true=>
  refine qv ⟨λτ H'=>∃m',m'<m/\∃E' σ' Hm' F',W m' E'/\Rl X.K g E' σ' H' Hm' F'/\aj Hm Hm'/\τ=sel (aT X) σ',λ_ _ z=>z,?_⟩;exact hb g { D' with nx:=λE'=>∃m',m'<m/\W m' E' } E2 σ1 H2 Hm2 F2 _ hx R2 (by simpa using p2) (λE3 σ3 H3 Hm3 F3 p3 R3 s3=>by
   obtain⟨m',hm,w3⟩:=p3;exact⟨m',hm,E3,σ3,Hm3,F3,w3,R3,s1.trans (s2.trans s3),rfl⟩) rt
 |false=>exact qK (nx _ _ _ _ _ (by simpa using p2) R2 (s1.trans s2))
def xT(K:Frag)(J:It)(xs:ZU)(fN:Hp):Prop:=∀(i:Nat)(H Hm:Hp),aj fN Hm->aj Hm H->
 (∀d,xs[i]?=some d->J.go i H/\∀x H',J.tF i H x H'->∃Hm',aj Hm Hm'/\aj Hm' H'/\aj H H'/\(∀a,H a≠none->OE (Hm' a) (Hm a))/\Rp K Hm' x d)/\(xs.length<=i->J.stop i H)
def SI(X:Cx)(Ex:XK)(Y:Zb)(tg e:Expr)(d:DI):Prop:=∃wi:TI,PI X tg e wi /\
 ∀(g:Gh)(x:XC)(E:En)(U:St)(H Hm:Hp)(F:Nat->ZX)(P:En->ZU->Prop)(R:It->Hp->Prop),XL X Ex x g->Rl X.K g E U H Hm F->d x E P->
  (∀E' xs J H' Hm' F',P E' xs->Rl X.K g E' U H' Hm' F'->aj Hm Hm'->xT X.K J xs Hm'->R J H')->wi (sel Y U) H R
def Rl.turn{F:Nat->ZX}(R:Rl K g E U H Hm F)(s1:aj Hm Hm')(s2:aj Hm' H')(s3:aj H H')(old:∀a,H a≠none->OE (Hm' a) (Hm a)):Rl K g E U H' Hm' F:=
 R.grow s3 s1 s2 (λi a ha=>by
  obtain⟨u,hu,nt⟩:=R.bT i a ha;exact(old a (by rw[hu];simp)).off (R.off i a ha) s2 (s3 _ _ hu) nt) λa ha=>old a (R.uQ ha)
def RG(hp:PassesOwn (model X.prog X.w) X.A X.env X.xe)(hc:X.calm=true)(hN:X.N.Nodup)(hi:SI X Ex (aT X) tg it di)(ht:fG X (aT X) tg t)(hb:SS X Ex b d)(hs:∀x,foldedSetIterable it X.env x=pure x):S1 X Ex (.For tg it b [] pos) (fm di t d):=by
 intro g D' E U H Hm F D hx R h nx rt;obtain⟨wi,hpi,hw⟩:=hi;obtain⟨G,g1,g2⟩:=rT hc hN Vh ht;refine WS.of (NG hp hc hpi g1 jT hs) (hw g D'.xc E U H Hm F _ _ hx R h λE1 xs J H1 Hm1 F1 p1 R1 s1 it1=>?_);obtain⟨I,i0,step,fin⟩:=p1;refine⟨λi m τ H'=>m=xs.length-i/\i<=xs.length/\∃E' σ' Hm' F',I i E'/\Rl X.K g E' σ' H' Hm' F'/\aj Hm1 Hm'/\τ=sel (aT X) σ',⟨xs.length,by simp,V3 _,E1,U,Hm1,F1,i0,R1,aj.refl _,rfl⟩,?_⟩;rintro i m τ H2⟨rfl,hi,E2,σ2,Hm2,F2,i2,R2,s2,rfl⟩;obtain⟨go,stop⟩:=it1 i H2 Hm2 s2 R2.sub;by_cases c:i<xs.length;{obtain⟨go,tF⟩:=go xs[i] (V0 c);refine .inr ⟨go,λτ H'=>i+1<=xs.length/\∃E' σ' Hm' F',I (i+1) E'/\Rl X.K g E' σ' H' Hm' F'/\aj Hm1 Hm'/\τ=sel (aT X) σ',λτ H' z=>⟨xs.length-(i+1),by lia,rfl,z⟩,λx H3 y=>?_⟩;obtain⟨Hm3,t1,t2,t3,old,r⟩:=tF x H3 y;have R3:=R2.turn t1 t2 t3 old;obtain⟨E4,e4,p4⟩:=step i xs[i] E2 (V0 c) i2;refine g2 e4 r R3 λσ4 F4 R4 _=>?_;exact hb g { D' with nx:=I (i+1) } E4 σ4 H3 Hm3 F4 _ hx R4 p4 (λE5 σ5 H5 Hm5 F5 p5 R5 s5=>⟨c,E5,σ5,Hm5,F5,p5,R5,s2.trans (t1.trans s5),rfl⟩) rt};have e:i=xs.length:=by lia
 subst e;exact .inl ⟨stop (U5 _),nx _ _ _ _ _ (fin E2 i2) R2 (s1.trans s2)⟩
end
end Dv
namespace L2
open PySem PySem.Spec PyProof.Rows
def iU(elt:Expr)(gens:ZJ)(scope:Scope)(pos:Pos) (k:Nat)(acc:Value)(env:Env)(fin:Sem Fin):Sem Fin:=match gens[k]? with
 |some g'=>do
  let x <-eval g'.iter env
  standAt g'.iter.pos
  let x <-foldedSetIterable g'.iter env x
  let y <-holding [x] (pyIter x)
  let _ <-runOwn (.compStart (.ListComp elt gens scope pos) k y acc env) env
  fin
 |none=>do
  (do let _ <-call (.builtin "list.append") [acc,<-eval elt env])
  fin
def compTurn_gen{k:Nat}(hk:gens[k]?=some ⟨tg,iter,ifs,0⟩)(ha:∀g∈gens,g.is_async=0)(it acc:Value)(env:Env) :
  compTurn (.ListComp elt gens scope pos) k it acc env=(do
   standAt iter.pos
   match <-pyNext it with
   |none=>pure (.done .next)
   |some v=>
    letOwnedTupleGo tg it v
    assign tg env v
    let mut ok:=true
    for c in ifs do
     if ok then ok <-isTrue c env (eval c env)
    if ok then iU elt gens scope pos (k+1) acc env (again (.compLoop (.ListComp elt gens scope pos) k it acc env))
    else again (.compLoop (.ListComp elt gens scope pos) k it acc env)):=by
 unfold compTurn iU;simp only[hk];cases h:gens[k+1]? with
 |none=>rfl
 |some g'=>have e:=ha g' (V7 h);obtain⟨t,i,f,a⟩:=g';dsimp only at e;subst e;rfl
section
variable{prog:Program}{w:World}{A:Around}{R:Result->Shared->Prop}{s:Shared}{elt tg iter:Expr}{gens:ZJ}{ifs:ZZ}{scope:Scope}{pos:Pos}{k:Nat}
def pJ(hk:gens[k]?=some ⟨tg,iter,ifs,0⟩)(ha:∀g∈gens,g.is_async=0)(I:Nat->Shared->Prop)(turn:∀n s,I n s->wpAny (model prog w) A (pyNext it) (λr s1=>match r with
   |none=>R (.ok .next) s1
   |some v=>wpAny (model prog w) A (letOwnedTupleGo tg it v) (λ_ s0=>wpAny (model prog w) A (assign tg env v) (λ_ s2=>wpAny (model prog w) A (forIn ifs true λc r=>if r=true then do let ok <-isTrue c env (eval c env);pure (ForInStep.yield ok)else pure (ForInStep.yield r)) (λok s3=>
      if ok=true then ∀(fin:Sem Fin)(Qf:Fin->Shared->Prop),(∀s5,(∃m,m<n/\I m s5)->wpAny (model prog w) A fin Qf (CW prog w A env R) s5)->wpAny (model prog w) A (iU elt gens scope pos (k+1) acc env fin) Qf (CW prog w A env R) s3
      else ∃m,m<n/\I m s3) (CW prog w A env R) s2) (CW prog w A env R) s0) (CW prog w A env R) s1) (CW prog w A env R) s)
  (n:Nat)(h:I n s):codeAny (model prog w) A (.compLoop (.ListComp elt gens scope pos) k it acc env) R s:=by
 refine codeAny_loop rfl I (λn s hI=>?_) n h
 refine(wpAny_noted (?_:_):wpAny _ A ((compTurn (.ListComp elt gens scope pos) k it acc env).onRaise (λx=>do noteFrame x env;theTreesLotGoes x)) _ _ s)
 rw[compTurn_gen hk ha];refine U0 (Wx (U0 (V9 (turn n s hI) (λr s1 h1=>?_) λ_ _ z=>z)))
 cases r with
 |none=>exact U3 h1
 |some v=>
  refine U0 (V9 h1 (λ_ s0 h0=>U0 (V9 h0 (λ_ s2 h2=>U0 (V9 h2 (λok s3 h3=>?_) λ_ _ z=>z)) λ_ _ z=>z)) λ_ _ z=>z)
  cases ok with
  |false=>exact U3 ⟨rfl,h3⟩
  |true=>exact h3 _ _ λs5 h5=>U3 ⟨rfl,h5⟩
def Bp(hk:gens[k]?=some ⟨tg,iter,ifs,0⟩)(h0:codeAny (model prog w) A (.compLoop (.ListComp elt gens scope pos) k it acc env) R s)(h:wpAny (model prog w) A (pyIter it) (λit' s'=>codeAny (model prog w) A (.compLoop (.ListComp elt gens scope pos) k it' acc env) R s') (notedBy (model prog w) A env λx s'=>R (.error x) s') s) : codeAny (model prog w) A (.compStart (.ListComp elt gens scope pos) k it acc env) R s:=by
 refine codeAny_of_tree ?_;show wpAny _ _ ((compStart (.ListComp elt gens scope pos) k it acc env).onRaise (λx=>do noteFrame x env;standAt theWindowsPlace)) _ _ s;refine wpAny_notedAt ?_;unfold compStart;have ec:(clausesOf (.ListComp elt gens scope pos))[k]?=some ⟨tg,iter,ifs,0⟩:=hk;rw[ec];show wpAny _ _ (ask>>=_) _ _ s;refine U0 (XE (wpAny_ite ?_));split
 .first
   |exact U0 (U3 (U3 (And.intro rfl h0)))
   |exact U3 (And.intro rfl h0)
 first
  |exact U0 (Vp (U0 (Wx (U0 (V9 h (λit' s' h'=>U3 (And.intro rfl h')) λ_ _ x=>x)))))
  | (refine U0 (Vp ?_);show wpAny _ _ (standAt iter.pos>>=_) _ _ s;exact U0 (Wx (U0 (V9 h (λit' s' h'=>U3 (And.intro rfl h')) λ_ _ x=>x))))
end
def oW(N:Zd)(fs scope:Scope)(vs NB:Zd)(ix:Zb):Bool:=
 decide (scope.kind=.function)&&scope.names.all (λy=>decide (y.2≠.cell))&&scope.names.all (λy=>decide (y.2≠.local)||decide (scope.names.lookup y.1=some .local)) &&
 scope.names.all (λy=>decide (y.2≠.free)||(decide (fs.names.lookup y.1=some .cell)||decide (fs.names.lookup y.1=some .free))) &&
 decide (NB=vs++ix.map λi=>N.getD i "")&&decide NB.Nodup&&ix.all λi=>match N[i]? with|some y=>decide (scope.names.lookup y=some .free)|none=>false
structure cX(X:Cx)(scope:Scope)(vs NB:Zd)(ix:Zb):Prop where
 kind:scope.kind=.function
 cell:∀y∈scope.names,y.2≠.cell
 names:∀y∈scope.names,y.2=.local->scope.names.lookup y.1=some .local
 free:∀y,(y,NameKind.free)∈scope.names->(X.env.kindOf y=some .cell\/X.env.kindOf y=some .free)
 nb:NB=vs++ix.map λi=>X.N.getD i ""
 nd:NB.Nodup
 cap:∀i∈ix,∃y,X.N[i]?=some y/\scope.names.lookup y=some .free
def cX.of(h:oW N fs scope vs NB ix=true)(hN:X.N=N:=by rfl)(hf:X.env.scope=fs:=by rfl):cX X scope vs NB ix:=by
 subst hN hf;unfold oW at h;simp only[UJ]at h;obtain⟨⟨⟨⟨⟨⟨h1,h2⟩,h3⟩,h4⟩,h6⟩,h7⟩,h8⟩:=h;refine⟨UT h1,λy hy=>UT (US.mp h2 y hy),λy hy e=>?_,λy hy=>?_,UT h6,UT h7,λi hi=>?_⟩;{have z:=US.mp h3 y hy;rw[WV]at z;rcases z with z|z;{exact absurd e (UT z)};exact UT z};{have z:=US.mp h4 _ hy;rw[WV,WV]at z;rcases z with z|z|z;{exact absurd rfl (UT z)};{exact .inl (UT z)};exact .inr (UT z)};have z:=US.mp h8 i hi;cases e:X.N[i]? with
 |none=>rw[e]at z;cases z
 |some y=>rw[e]at z;exact⟨y,rfl,UT z⟩
section
variable{X:Cx}{scope:Scope}{vs:Zd}{NB:Zd}{ix:Zb}{pins:ZL}{U:St}{H2:Hp}{s2:Shared}{fp:ZX}
def cX.clos(B:cX X scope vs NB ix)(I2:Inv X pins U H2 s2):closureFor scope X.env=pure (cC X.env.cells scope.names []):=
 mU λn hn=>I2.ok.has n (B.free n hn)
def cX.look(B:cX X scope vs NB ix)(I2:Inv X pins U H2 s2){c:Addr}(h:(cC X.env.cells scope.names []).lookup y=some c):X.env.cells.lookup y=some c:=by rcases nB _ _ h with⟨m,e⟩|e;{obtain⟨c',hc⟩:=I2.ok.has y (B.free y m);rw[hc]at e⊢;exact congrArg some e};cases e
def Ir(B:cX X scope vs NB ix)(I2:Inv X pins U H2 s2){C:Addr}(hC:s2.heap.objs.size<=C)(f2:∀b∈fp,eu X pins H2 b)(ft:∀b∈fp,b<s2.heap.objs.size):(X.block scope C NB s2 H2 fp).Ok where
 mod:=I2.ok.mod
 kind:=B.kind
 glob:=I2.ok.glob
 blt:=I2.ok.blt
 above:=hC
 inj:=λa b c h1 h2=>I2.ok.inj a b c (B.look I2 h1) (B.look I2 h2)
 has:=λy hy=>by
  have key:∀k,(relabel scope X.env).names.lookup y=some k->(k=.cell\/k=.free)->∃c,(cC X.env.cells scope.names []).lookup y=some c:=λk hk kk=>by
   rcases t8 (names:=scope.names) hk with e|⟨e,_⟩
   .rcases kk with rfl|rfl
    .exact absurd rfl (B.cell _ (dI e))
    .exact fY _ _ (.inl (dI e))
   .exact fY _ _ (.inl (dI e))
  rcases hy with e|e
  .exact key _ e (.inl rfl)
  .exact key _ e (.inr rfl)
 F9:=λ_ _ z=>by cases z
 hd:=I2.ok.hd
 frames:=I2.ok.frames
 stk:=.inl rfl
 Sy:=λb hb=>⟨UH (UZ (ft b hb) hC),λy c e=>(f2 b hb).2.2.2.2.1 y c (B.look I2 e)⟩
 bs:=I2.bs
 yi:=V4 I2.ok.yi I2.sz
 wo:=λb o e hb=>by
  rcases(f2 b hb).2.2.2.1 with z|z
  .exact I2.ok.wo b o e z
  .exact absurd (UZ (UG (I2.ok.bs b o e).1) z) (VC _)
 DJ:=λb hb z=>by
  rcases U6.mp (I2.ki b z)with e|e
  .exact(f2 b hb).2.1 e
  .exact(f2 b hb).2.2.1 e
 mH:=I2.stack
 B8:=I2.r9
def EX(B:cX X scope vs NB ix)(I2:Inv X pins U H2 s2){C D:Addr}{tk:Nat}(hC:s2.heap.objs.size<=C)(hD:s2.heap.objs.size<=D)(hDC:D≠C)(f2:∀b∈fp,eu X pins H2 b)(ft:∀b∈fp,b<s2.heap.objs.size)(old:∀b o,s2.heap.get? b=some o->h1.get? b=some o)(hn:h1.Ns C m)(ho:h1.get? D=some oD)(hcl:∀v,oD.data≠.cell v) : Inv (X.block scope C NB s2 H2 fp) [(D,oD)] (List.replicate vs.length none++caps ix U) H2 { s2 with heap:=h1,toks:=tk } where
 ok:=Ir B I2 hC f2 ft
 os:=rfl
 bare:=I2.bare
 base:=Un.kept old
 loc:=by
  refine⟨m,hn,λi y v e1 e2 _=>?_⟩
  have e1:NB[i]?=some y:=e1
  by_cases li:i<vs.length
  .rw[We (by rw[Vg];exact li),Yd,if_pos li]at e2
   cases e2
  .obtain⟨j,rfl⟩:∃j,i=vs.length+j:=⟨i-vs.length,by lia⟩
   have e2:(caps ix U)[j]?=some (some v):=by
    rw[WI (by rw[Vg];lia),Vg,YG]at e2
    exact e2
   rw[B.nb]at e1;have e1:(ix.map λi=>X.N.getD i "")[j]?=some y:=by
    rw[WI (by lia),YG]at e1
    exact e1
   rw[UK]at e1;unfold caps at e2;rw[UK]at e2;cases q:ix[j]? with
   |none=>rw[q]at e1;cases e1
   |some i=>
    rw[q]at e1 e2;obtain⟨z,hz,fz⟩:=B.cap i (V7 q);have ey:y=z:=by
     have w:X.N.getD i ""=y:=Option.some.inj e1;rw[<-w,VJ,hz];rfl
    subst ey;have e2:(U[i]?).join=some v:=Option.some.inj e2;have es:U[i]?=some (some v):=by
     cases w:U[i]? with
     |none=>rw[w]at e2;cases e2
     |some o=>rw[w]at e2;exact congrArg some e2
    have fk:=B.free y (dI fz);have vis:kB X.env.scope y:=.inr fk;obtain⟨mm,_,hl⟩:=I2.loc;obtain⟨u,ru,lk⟩:=hl i y v hz es vis;refine⟨u,ru,.inr ⟨?_,?_⟩⟩
    .rcases pL (env:=X.env) (names:=scope.names) fz with e|⟨_,e⟩
     .exact .inr e
     .exact .inl e
    .rcases lk with⟨lk,_⟩|⟨_,c,hc,hcell⟩
     .rcases fk with fk|fk
      .rw[lk]at fk;cases fk
      .rw[lk]at fk;cases fk
     .obtain⟨c',hc'⟩:=fY (cells:=X.env.cells) scope.names [] (.inl (dI fz));have e3:=B.look I2 hc';rw[hc]at e3;cases e3;obtain⟨oc,g1,g2⟩:=hcell;exact⟨c,hc',oc,old _ _ g1,g2⟩
 cell:=λy c e=>by
  obtain⟨v,o,g1,g2⟩:=I2.cell y c (B.look I2 e);exact⟨v,o,old _ _ g1,g2⟩
 free:=I2.hok.fresh hC
 jf:=λy c e=>I2.jf y c (B.look I2 e)
 pin:=λp hp=>by
  have e:p=(D,oD):=by simpa[Cx.block]using hp
  subst e;refine⟨ho,I2.hok.fresh hD,hDC,λz=>?_,hcl⟩
  rcases U6.mp (I2.ki D z)with e|e
  .have e:D=X.env.locals:=e;exact absurd (UZ I2.lt (e▸hD)) (VC _)
  .exact I2.Jq hD e
 hok:=I2.hok.kept old
 len:=by
  show(List.replicate vs.length none++caps ix U).length=NB.length;rw[B.nb,UR,UR,zx,U7,Vg]
end
abbrev TL:=List V->St->Hp->(List V->St->Hp->Prop)->Prop
def PL(X:Cx)(D:Addr)(elt:Expr)(gens:ZJ)(scope:Scope)(pos:Pos) (k:Nat)(t:TL):Prop:=
 X.s₀.heap.objs.size<=D->(∀y c,X.env.cells.lookup y=some c->c≠D)->(∀e s',X.xe e s'->False)->
 ∀(pins:ZL)(s:Shared)(U:St)(H:Hp)(ys:List V)(its:ZW) (nn:Nat)(Q:List V->St->Hp->Prop)(fin:Sem Fin)(Qf:Fin->Shared->Prop)(E:ZI),
  (∀p∈X.pn++pins,p.1≠D)->Inv X ((D,dS its nn)::pins) U H s->Vals ys its->ys.length<=sizeLine->t ys U H Q->
  (∀s' ys' its' nn' σ' H',Inv X ((D,dS its' nn')::pins) σ' H' s'->Vals ys' its'->ys'.length<=sizeLine->Q ys' σ' H'->wpAny (model X.prog X.w) X.A fin Qf E s')->
  wpAny (model X.prog X.w) X.A (iU elt gens scope pos k (.ref D) X.env fin) Qf E s
def Lg(te:TE):TL:=λys U H Q=>te U H λv H1=>ys.length<sizeLine/\Q (ys++[v]) U H1
def AM(J:It)(g:TG)(tt:TT)(tr:TL)(ys0:List V)(σ0:St)(H1:Hp)(Q:List V->St->Hp->Prop):Prop:=
 ∃W:Nat->Nat->List V->St->Hp->Prop,(∃m,W 0 m ys0 σ0 H1)/\∀i m ys U H,W i m ys U H->
  (J.stop i H/\Q ys U H)\/(J.go i H/\∃N:List V->St->Hp->Prop,(∀ys' σ' H',N ys' σ' H'->∃m',m'<m/\W (i+1) m' ys' σ' H') /\
   ∀x H',J.tF i H x H'->g x U H' λσ2 H2=>tt σ2 H2 λb H3=>if b=true then tr ys σ2 H3 N else N ys σ2 H3)
def RS(wi:TI)(g:TG)(tt:TT)(tr:TL):TL:=λys U H Q=>wi U H λJ H1=>AM J g tt tr ys U H1 Q
section
variable{X:Cx}{D:Addr}{elt tg iter:Expr}{gens:ZJ}{ifs:ZZ}{scope:Scope}{pos:Pos}{k:Nat}
def Ci(he:PE X elt te)(hk:gens[k]?=none:=by rfl):PL X D elt gens scope pos k (Lg te):=by
 intro hD hc hx pins s U H ys its nn Q fin Qf E hp I rv hz h hf;unfold iU;rw[hk];refine U0 (U0 (V9 (he _ s U H _ I h) (λy s8 ⟨yv,H8,I8,r8,hlt,n8⟩=>U0 ?_) λe s' z=>(hx e s' z).elim));have pD:=I8.pin (D,dS its nn) (VB _ U1);refine append_at (hsz:=by rw[UO,<-rv.length];exact hz) pD.1 λh9 hs9 hD9=>U3 ?_;have I8n:Inv X pins U H8 s8:=I8.jM λp hp'=>I8.pin p (VB _ (U4 _ hp'));have I9:=I8n.turned (h':=h9) (t':=s8.toks) (it:=D) (λb o hb e=>hs9.extBut b o hb e) pD.2.1 pD.2.2.1 (.inr hD) hc hp;have e9:dS (its++[y]) (nn+1)={ cls:=.type "list",data:=.seq (its.toArray.push y) (nn+1) }:=by show({ cls:=.type "list",data:=.seq (its++[y]).toArray (nn+1) }:Obj)=_;rw[List.push_toArray]
 have I10:Inv X ((D,dS (its++[y]) (nn+1))::pins) U H8 { s8 with heap:=h9 }:=by refine I9.jM λp hp'=>?_;rcases U6.mp hp' with rfl|hp';{exact⟨hD9.trans (congrArg some e9.symm),pD.2.1,pD.2.2.1,pD.2.2.2.1,λv q=>by cases q⟩};exact I9.pin p (VB _ hp')
 exact hf _ (ys++[yv]) (its++[y]) (nn+1) U H8 I10 (Vals.append rv (.cons r8 .nil)) (by rw[UR];exact hlt) n8
def JS{b:Addr}(f:eu X ((D,o)::pins) H b)(hn:H' b=none):eu X ((D,o')::pins) H' b:=by obtain⟨f0,f1,f2,f3,f4,f5⟩:=f;refine⟨hn,f1,f2,f3,f4,λp hp=>?_⟩;rcases UE.mp hp with hp|hp;{exact f5 p (XM _ hp)};rcases U6.mp hp with rfl|hp;{exact f5 (D,o) (VB _ U1)};exact f5 p (VB _ (U4 _ hp))
def Oh(hc:X.calm=true)(hi:PI X tg iter wi)(hg:PG X tg g)(ht:qi X ifs tt)(hr:PL X D elt gens scope pos (k+1) tr)(hk:gens[k]?=some ⟨tg,iter,ifs,0⟩:=by rfl)(ha:∀g∈gens,g.is_async=0:=by decide)(hs:∀v,foldedSetIterable iter X.env v=pure v:=by intro _;rfl):PL X D elt gens scope pos k (RS wi g tt tr):=by
 intro hD hcD hx pins s U H ys its nn Q fin Qf E hp I rv hz h hf;unfold iU;rw[hk];refine U0 (V9 (hi _ s U H _ I h) (λv s1 h1=>U0 (Wx (U0 (XD (hs v) (U0 (VX (V9 h1 (λitv s2 h2=>?_) λe s' z=>(hx e s' z).elim))))))) λe s' z=>(hx e s' z).elim);obtain⟨it,fp,tn,J,H2,e,I2,T,st2,f2,W,⟨m0,w0⟩,turn⟩:=h2;subst e;refine U0 (wpAny_runOwn ?_);have loop:codeAny (model X.prog X.w) X.A (.compLoop (.ListComp elt gens scope pos) k (.ref it) (.ref D) X.env) (λr s'=>match r with | .ok f=>wpAny (model X.prog X.w) X.A fin Qf E s' | .error e=>cameBackBy (model X.prog X.w) X.A X.env E e s') s2:=by
  refine pJ hk ha (λn s'=>∃i ys' its' nn' σ' H',W i n ys' σ' H'/\Inv X ((D,dS its' nn')::pins) σ' H' s'/\tn i s'.heap/\(∀b∈fp,H' b=none)/\Vals ys' its'/\ys'.length<=sizeLine) ?_ m0 ⟨0,ys,its,nn,U,H2,w0,I2,st2,λb hb=>(f2 b hb).1,rv,hz⟩;rintro n s'⟨i,ys',its',nn',σ',H',w',I',st',fr',rv',hz'⟩;have fy:∀{H3:Hp},(∀b∈fp,H3 b=none)->∀b∈fp,eu X ((D,dS its' nn')::pins) H3 b:=λhn b hb=>JS (f2 b hb) (hn b hb);rcases turn i n ys' σ' H' w' with⟨stop,q⟩|⟨go,Nx,hNx,step⟩;{refine V9 (T.done X rfl rfl rfl hc i _ s' _ H' (λ_ _=>False) I' (fy fr') st' stop) (λr s4 ⟨hr',I4⟩=>?_) λ_ _ z=>z.elim;subst hr';exact hf _ _ _ _ _ _ I4 rv' hz' q};refine V9 (T.item X rfl rfl rfl hc i _ s' _ H' (λ_ _=>False) I' (fy fr') st' go) (λr s4 ⟨u,hr',h4⟩=>?_) λ_ _ z=>z.elim;subst hr';refine V9 h4 (λ_ s4 ⟨v,H5,I5,r5,y5,st5,fr5⟩=>?_) λ_ _ z=>z.elim;have pIt:∀b∈fp,∃o,s4.heap.get? b=some o/\∀v,o.data≠.cell v:=T.obj _ _ st5;have I5':=I5.pinned (fy fr5) pIt;refine V9 (hg _ s4 σ' H5 v u _ I5' r5 (step v H5 y5)) (λ_ s6 ⟨σ6,H6,I6,q6⟩=>?_) λe s' z=>(hx e s' z).elim;refine V9 (ht _ s6 σ6 H6 _ I6 q6) (λb s7 ⟨H7,I7,q7⟩=>?_) λe s' z=>(hx e s' z).elim;have stays:∀{s9:Shared}{H9:Hp}{σ9:St}{oD:Obj},Inv X ((D,oD)::(pins++gi fp s4.heap)) σ9 H9 s9->tn (i+1) s9.heap/\(∀b∈fp,H9 b=none)/\Inv X ((D,oD)::pins) σ9 H9 s9:=λ{s9 H9 σ9 oD} I9=>by refine⟨T.keep _ _ _ st5 λb hb o e=>(I9.pin (b,o) (VB _ (U4 _ (VB _ (e7 hb e))))).1,λb hb=>?_,I9.jM λp hp'=>I9.pin p (VB _ ?_)⟩;{obtain⟨o,e,d⟩:=pIt b hb;exact(I9.pin (b,o) (VB _ (U4 _ (VB _ (e7 hb e))))).2.1};rcases U6.mp hp' with rfl|hp';{exact U1};exact U4 _ (XM _ hp')
  cases b with
  |false=>rw[if_neg V5]at q7⊢;obtain⟨m',hm,w7⟩:=hNx _ _ _ q7;obtain⟨g1,g2,g3⟩:=stays I7;exact⟨m',hm,i+1,ys',its',nn',σ6,H7,w7,g3,g1,g2,rv',hz'⟩
  |true=>rw[if_pos rfl]at q7⊢;intro fin' Qf' hf';refine hr hD hcD hx (pins++gi fp s4.heap) s7 σ6 H7 ys' its' nn' Nx fin' Qf' _ (λp hp'=>?_) I7 rv' hz' q7 λs8 ys8 its8 nn8 σ8 H8 I8 rv8 hz8 n8=>?_;{rcases UE.mp hp' with hp'|hp';{exact hp p (XM _ hp')};rcases UE.mp hp' with hp'|hp';{exact hp p (VB _ hp')};exact Ne.symm ((f2 p.1 (nh hp').1).2.2.2.2.2 (D,dS its nn) (VB _ U1))};obtain⟨m',hm,w8⟩:=hNx _ _ _ n8;obtain⟨g1,g2,g3⟩:=stays I8;exact hf' s8 ⟨m',hm,i+1,ys8,its8,nn8,σ8,H8,w8,g3,g1,g2,rv8,hz8⟩
 exact Bp hk loop (T.self _ 0 _ _ _ st2 loop)
end
section
variable{X:Cx}{scope:Scope}{vs:Zd}{NB:Zd}{ix:Zb}
def oA(wi:TI) (n:Nat)(ix:Zb)(g:TG)(tt:TT)(tr:TL):TE:=λU H Q=>wi U H λJ H1=>AM J g tt tr [] (List.replicate n none++caps ix U) H1 λys _ H'=>∀p,H' p=none->Q (.ref p) (upd H' p (.lst ys))
def u9{elt tg iter:Expr}{ifs:ZZ}{rest:ZJ}{pos:Pos}{g:TG}{tt:TT}{tr:TL}{J:It}{it:Addr}{tn:Nat->Heap->Prop}{fp:ZX}{pins:ZL}{U:St}{H2:Hp}{s2:Shared}{E:ZI}{RR:Value->Addr->Result->Shared->Prop}{Qr:VK}(B:cX X scope vs NB ix)(hc:X.calm=true)(hg:∀(C:Addr)(s:Shared)(H:Hp)(fp:ZX),PG (X.block scope C NB s H fp) tg g)(ht:∀(C:Addr)(s:Shared)(H:Hp)(fp:ZX),qi (X.block scope C NB s H fp) ifs tt)(hr:∀(C:Addr)(s:Shared)(H:Hp)(fp:ZX)(D:Addr),PL (X.block scope C NB s H fp) D elt (⟨tg,iter,ifs,0⟩::rest) scope pos 1 tr)(ha:∀g∈rest,g.is_async=0)(I2:Inv X pins U H2 s2)(T:Turn X.prog X.w X.K tg J fp it tn)(st2:tn 0 s2.heap)(f2:∀b∈fp,eu X pins H2 b)(h:AM J g tt tr [] (List.replicate vs.length none++caps ix U) H2 λys _ H'=>∀p,H' p=none->Qr (.ref p) (upd H' p (.lst ys)))(hRR:∀(D C:Addr)(Hf:Hp)(s':Shared)(m':ZK),Inv X pins U Hf s'->s'.heap.Ns C m'->eu X pins Hf C->Qr (.ref D) Hf->RR (.ref D) C (.ok .next) s') : wpAny (model X.prog X.w) X.A (newList []) (λacc s3=>wpAny (model X.prog X.w) X.A (newFunctionEnv scope X.env.globals (cC X.env.cells scope.names []) [] X.env.qual none .none (some X.env)) (λcenv s4=> codeAny (model X.prog X.w) X.A (.compStart (.ListComp elt (⟨tg,iter,ifs,0⟩::rest) scope pos) 0 (.ref it) acc { cenv with scope:=relabel scope X.env }) (RR acc cenv.locals) s4) E s3) E s2:=by
 obtain⟨W,⟨m0,w0⟩,turn⟩:=h;have ha':∀g∈(⟨tg,iter,ifs,0⟩:Comprehension)::rest,g.is_async=0:=λg hg=>by rcases U6.mp hg with rfl|hg;{rfl};exact ha g hg
 refine Va (wpAny_newFunctionEnv B.cell (by intro y hy;simp at hy) (λh1 hns hsb=>?_) B.kind);dsimp only at hns hsb⊢;generalize eG:s2.heap.push { cls:=.type "list",dict:=none,data:=.seq ([]:ZW).toArray }=G at hns hsb⊢;have hC:G.objs.size=s2.heap.objs.size+1:=by rw[<-eG,WU]
 have hDC:s2.heap.objs.size≠G.objs.size:=by rw[hC];exact UH (WQ _)
 have hCle:s2.heap.objs.size<=G.objs.size:=by rw[hC];exact Wi _
 have old:∀b o,s2.heap.get? b=some o->h1.get? b=some o:=λb o e=>by have lt:=UG e;exact hsb.extBut b o (UH (UZ lt hCle)) (UQ _ (eG▸UQ _ e))
 have hacc:h1.get? s2.heap.objs.size=some (dS [] 0):=hsb.extBut _ _ hDC (UQ _ (eG▸V8 _ rfl));have ft:∀b∈fp,b<s2.heap.objs.size:=λb hb=>by obtain⟨o,e,_⟩:=T.obj _ _ st2 b hb;exact UG e
 have cD:∀y c,(X.block scope G.objs.size NB s2 H2 fp).env.cells.lookup y=some c->c≠s2.heap.objs.size:=λy c e z=>by obtain⟨w,q⟩:=I2.cell y c (B.look I2 e);exact VC _ (z▸q.lt)
 have loop:∀s3:Shared,s3={ s2 with heap:=h1,toks:=s2.toks+([]:List (Str×Value)).length }->
   codeAny (model X.prog X.w) X.A (.compLoop (.ListComp elt (⟨tg,iter,ifs,0⟩::rest) scope pos) 0 (.ref it) (.ref s2.heap.objs.size) (compEnvC scope (cC X.env.cells scope.names []) G.objs.size X.env))
    (RR (.ref s2.heap.objs.size) G.objs.size) s3:=by
  rintro s3 rfl;have I3:=EX (tk:=s2.toks+([]:List (Str×Value)).length) B I2 hCle (U5 _) hDC f2 ft old hns hacc (λv q=>by cases q)
  have st3:tn 0 h1:=T.keep _ _ _ st2 λb _ o e=>old b o e
  have fy:∀{H':Hp}{oD:Obj},(∀b∈fp,H' b=none)->∀b∈fp,eu (X.block scope G.objs.size NB s2 H2 fp) [(s2.heap.objs.size,oD)] H' b:=λ{H' oD} hn b hb=>by
   refine⟨hn b hb,UH (UZ (ft b hb) hCle),λz=>?_,.inl hb,λy c e=>(f2 b hb).2.2.2.2.1 y c (B.look I2 e),λp hp=>?_⟩;{rcases U6.mp (I2.ki b z)with e|e;{exact(f2 b hb).2.1 e};exact(f2 b hb).2.2.1 e};have e:p=(s2.heap.objs.size,oD):=by simpa[Cx.block]using hp
   subst e;exact Ne.symm (UH (ft b hb))
  refine pJ (k:=0) rfl ha' (λn s'=>∃i ys its nn σ' H',W i n ys σ' H'/\Inv (X.block scope G.objs.size NB s2 H2 fp) [(s2.heap.objs.size,dS its nn)] σ' H' s'/\tn i s'.heap/\(∀b∈fp,H' b=none)/\Vals ys its/\ys.length<=sizeLine)
   ?_ m0 ⟨0,[],[],0,_,H2,w0,I3,st3,λb hb=>(f2 b hb).1,.nil,V3 _⟩
  rintro n s'⟨i,ys,its,nn,σ',H',w',I',st',fr',rv,hz⟩;rcases turn i n ys σ' H' w' with⟨stop,q⟩|⟨go,Nx,hNx,step⟩
  .refine V9 (T.done (X.block scope G.objs.size NB s2 H2 fp) rfl rfl rfl hc i _ s' _ H' (λ_ _=>False) I' (fy fr') st' stop) (λr s4 ⟨hr',I4⟩=>?_) λ_ _ z=>z.elim
   subst hr';have I5:=Fg I2 f2 (U5 _) I4 rv hz;obtain⟨m4,hn4,_⟩:=I4.loc;have hfree:H' s2.heap.objs.size=none:=(I4.pin (s2.heap.objs.size,dS its nn) (by show _∈[]++[(s2.heap.objs.size,dS its nn)];simp)).2.1
   have fC:eu X pins (upd H' s2.heap.objs.size (.lst ys)) G.objs.size:=I2.rK hCle (by
    rw[aq (Ne.symm hDC)];exact I4.free)
   exact hRR _ _ _ s4 m4 I5 hn4 fC (q _ hfree)
  .refine V9 (T.item (X.block scope G.objs.size NB s2 H2 fp) rfl rfl rfl hc i _ s' _ H' (λ_ _=>False) I' (fy fr') st' go) (λr s4 ⟨u,hr',h4⟩=>?_) λ_ _ z=>z.elim
   subst hr';refine V9 h4 (λ_ s4 ⟨v,H5,I5,r5,y5,st5,fr5⟩=>?_) λ_ _ z=>z.elim
   have pIt:∀b∈fp,∃o,s4.heap.get? b=some o/\∀v,o.data≠.cell v:=T.obj _ _ st5;have I5':=I5.pinned (fy fr5) pIt;refine V9 (hg _ _ _ _ _ s4 σ' H5 v u _ I5' r5 (step v H5 y5)) (λ_ s6 ⟨σ6,H6,I6,q6⟩=>?_) λ_ _ z=>z.elim
   refine V9 (ht _ _ _ _ _ s6 σ6 H6 _ I6 q6) (λb s7 ⟨H7,I7,q7⟩=>?_) λ_ _ z=>z.elim
   have stays:∀{s9:Shared}{H9:Hp}{σ9:St}{oD:Obj},Inv (X.block scope G.objs.size NB s2 H2 fp) ((s2.heap.objs.size,oD)::gi fp s4.heap) σ9 H9 s9->tn (i+1) s9.heap/\(∀b∈fp,H9 b=none)/\Inv (X.block scope G.objs.size NB s2 H2 fp) [(s2.heap.objs.size,oD)] σ9 H9 s9:=λ{s9 H9 σ9 oD} I9=>by
    refine⟨T.keep _ _ _ st5 λb hb o e=>(I9.pin (b,o) (VB _ (U4 _ (e7 hb e)))).1,λb hb=>?_,I9.jM λp hp'=>I9.pin p (VB _ ?_)⟩
    .obtain⟨o,e,d⟩:=pIt b hb;exact(I9.pin (b,o) (VB _ (U4 _ (e7 hb e)))).2.1
    .rw[U8.mp hp'];exact U1
   cases b with
   |false=>
    rw[if_neg V5]at q7⊢;obtain⟨m',hm,w7⟩:=hNx _ _ _ q7;obtain⟨g1,g2,g3⟩:=stays I7;exact⟨m',hm,i+1,ys,its,nn,σ6,H7,w7,g3,g1,g2,rv,hz⟩
   |true=>
    rw[if_pos rfl]at q7⊢;intro fin' Qf' hf';refine hr _ _ _ _ s2.heap.objs.size (U5 _) cD (λ_ _ z=>z) (gi fp s4.heap) s7 σ6 H7 ys its nn Nx fin' Qf' _ (λp hp'=>?_) I7 rv hz q7 λs8 ys8 its8 nn8 σ8 H8 I8 rv8 hz8 n8=>?_
    .have hp'':p∈gi fp s4.heap:=hp';exact UH (ft _ (nh hp'').1)
    .obtain⟨m',hm,w8⟩:=hNx _ _ _ n8;obtain⟨g1,g2,g3⟩:=stays I8;exact hf' s8 ⟨m',hm,i+1,ys8,its8,nn8,σ8,H8,w8,g3,g1,g2,rv8,hz8⟩
 exact codeAny_compStart_list (loop _ rfl) (T.self _ 0 _ _ _ (T.keep _ _ _ st2 λb _ o e=>old b o e) (loop _ rfl))
def J5{elt tg iter:Expr}{ifs:ZZ}{rest:ZJ}{pos:Pos}{wi:TI}{g:TG}{tt:TT}{tr:TL}(B:cX X scope vs NB ix)(hc:X.calm=true)(hi:PI X tg iter wi)(hg:∀(C:Addr)(s:Shared)(H:Hp)(fp:ZX),PG (X.block scope C NB s H fp) tg g)(ht:∀(C:Addr)(s:Shared)(H:Hp)(fp:ZX),qi (X.block scope C NB s H fp) ifs tt)(hr:∀(C:Addr)(s:Shared)(H:Hp)(fp:ZX)(D:Addr),PL (X.block scope C NB s H fp) D elt (⟨tg,iter,ifs,0⟩::rest) scope pos 1 tr)(ha:∀g∈rest,g.is_async=0:=by decide)(hs:∀v,foldedSetIterable iter X.env v=pure v:=by intro _;rfl):PE X (.ListComp elt (⟨tg,iter,ifs,0⟩::rest) scope pos) (oA wi vs.length ix g tt tr):=by intro pins s U H Q I h;rw[eval_ListComp];refine Yt (use:=none) rfl hs (B.clos I) B.kind B.names (aU (hi pins s U H _ I h) λv s1 h1=>aU h1 λitv s2 h2=>?_);obtain⟨it,fp,tn,J,H2,e,I2,T,st2,f2,w⟩:=h2;subst e;refine u9 (Qr:=Q) (RR:=λacc C=>compPost (model X.prog X.w) X.A X.xe none (EP X pins U Q) acc C) B hc hg ht hr ha I2 T st2 f2 w λD C Hf s' m' I' hn' fC q=>?_;refine⟨m',hn',λh'' hs''=>⟨.ref D,Hf,?_,rfl,q⟩⟩;obtain⟨c0,c1,c2,c3,c4,c5⟩:=fC;exact I'.turned (it:=C) (t':=s'.toks) (λb o hb e=>hs''.extBut b o hb e) c0 c1 c3 c4 c5
def Ba{elt tg iter:Expr}{ifs:ZZ}{rest:ZJ}{pos py spos:Pos}{wi:TI}{g:TG}{tt:TT}{tr:TL}{j:Nat}{y:Str}(hN:X.N.Nodup)(hj:X.N[j]?=some y)(hy:X.env.scope.names.lookup y=some .local)(B:cX X scope vs NB ix)(hc:X.calm=true)(hi:PI X tg iter wi)(hg:∀(C:Addr)(s:Shared)(H:Hp)(fp:ZX),PG (X.block scope C NB s H fp) tg g)(ht:∀(C:Addr)(s:Shared)(H:Hp)(fp:ZX),qi (X.block scope C NB s H fp) ifs tt)(hr:∀(C:Addr)(s:Shared)(H:Hp)(fp:ZX)(D:Addr),PL (X.block scope C NB s H fp) D elt (⟨tg,iter,ifs,0⟩::rest) scope pos 1 tr)(hsw:swapsWith (.ListComp elt (⟨tg,iter,ifs,0⟩::rest) scope pos) (some (.Name y py)) spos.line X.env=pure true)(ha:∀g∈rest,g.is_async=0:=by decide)(hs:∀v,foldedSetIterable iter X.env v=pure v:=by intro _;rfl):PS X (.Assign [.Name y py] (.ListComp elt (⟨tg,iter,ifs,0⟩::rest) scope pos) spos) (J8 (oA wi vs.length ix g tt tr) (sj j)):=by
 intro pins s U H Dn I h;rw[exec_Assign_Name_used _ _ _ _ hsw];refine U0 (Wx (U0 ?_));show wpAny (model X.prog X.w) X.A (comprehension (.ListComp elt (⟨tg,iter,ifs,0⟩::rest) scope pos) scope X.env _ (newList []) false (eval iter X.env) (some (assign (.Name y py) X.env))>>=λ_=>pure ()) _ _ s;refine U0 (aU (Yt (use:=some (assign (.Name y py) X.env)) (Q:=λ_ s'=>SP X pins Dn .next s') rfl hs (B.clos I) B.kind B.names (aU (hi pins s U H _ I h) λv s1 h1=>aU h1 λitv s2 h2=>?_)) λ_ s' q=>U3 (U3 q));obtain⟨it,fp,tn,J,H2,e,I2,T,st2,f2,w⟩:=h2;subst e;refine u9 (Qr:=λx H1=>sj j x U H1 Dn.nx) (RR:=λacc C=>compPost (model X.prog X.w) X.A X.xe (some (assign (.Name y py) X.env)) (λ_ s'=>SP X pins Dn .next s') acc C) B hc hg ht hr ha I2 T st2 f2 w λD C Hf s' m' I' hn' fC q=>?_;obtain⟨c0,c1,c2,c3,c4,c5⟩:=fC;show wpAny (model X.prog X.w) X.A (assign (.Name y py) X.env (.ref D)) _ _ s';refine wpAny_assign_Name (x9 I' hN hj (.inl hy) (v:=.ref D) rfl (λs'' I'' ⟨a,sb,ha⟩=>?_) (.inr hy));have hCa:C≠a:=by rcases ha with e|e;{rw[e];exact c1};exact λz=>c4 y a e z.symm
 refine⟨m',hn'.sameBut sb hCa,λh3 hs3=>⟨_,Hf,?_,q⟩⟩;exact I''.turned (it:=C) (t':=s''.toks) (λb o hb e=>hs3.extBut b o hb e) c0 c1 c3 c4 c5
end
end L2
namespace Dv
open PySem L2 PySem.W
section
variable{X:Cx}{Ex:XK}{Y:Zb}{tg:Expr}
def JA{a:Addr}(h:cu K fN a xs)(r:aC K fN xs ds):xT K (KW K a) ds fN:=by intro i H Hm s1 s2;have q:bI K H a xs:=(cu.mono (s1.trans s2) h).sq;refine⟨λd e=>?_,λl=>⟨xs,q,by rw[r.len];exact l⟩⟩;obtain⟨v,e1,r1⟩:=r.get e;refine⟨⟨xs,v,q,e1⟩,λx H' y=>?_⟩;obtain⟨rfl,y⟩:=y;have:=y xs q;rw[e1]at this;cases this;exact⟨Hm,aj.refl _,s2,aj.refl _,λ_ _=>.inl rfl,r1.mono s1⟩
def Nl{a:Addr}(h:fN a=some (.tup xs))(r:aC K fN xs ds):xT K (Ll K a) ds fN:=by intro i H Hm s1 s2;have q:cP K H a xs:=cP.of (s2 _ _ (s1 _ _ h));refine⟨λd e=>?_,λl=>⟨xs,q,by rw[r.len];exact l⟩⟩;obtain⟨v,e1,r1⟩:=r.get e;refine⟨⟨xs,v,q,e1⟩,λx H' y=>?_⟩;obtain⟨rfl,y⟩:=y;have:=y xs q;rw[e1]at this;cases this;exact⟨Hm,aj.refl _,s2,aj.refl _,λ_ _=>.inl rfl,r1.mono s1⟩
def LL{lo:Int}{n i:Nat}(h:(kY lo n)[i]?=some d):i<n/\d=.int (lo+i):=by unfold kY at h;rw[UK]at h;by_cases c:i<n;{rw[VQ c]at h;cases h;exact⟨c,rfl⟩};rw[VD (by rw[UW];lia)]at h;cases h
def BS{lo:Int}{n:Nat}:xT K (Iz lo n) (kY lo n) fN:=by intro i H Hm s1 s2;refine⟨λd e=>?_,λl=>?_⟩;{obtain⟨l,rfl⟩:=LL e;refine⟨l,λx H' y=>?_⟩;obtain⟨rfl,rfl⟩:=y;exact⟨Hm,aj.refl _,s2,aj.refl _,λ_ _=>.inl rfl,.int _⟩};unfold kY at l;rw[U7,UW]at l;exact l
def AQ{T:Addr}(s:aj Hm H)(hT:H T=none)(r1:Rp K Hm x a)(r2:Rp K Hm y b):∃Hm',aj Hm Hm'/\aj Hm' (upd H T (.tup [x,y]))/\aj H (upd H T (.tup [x,y]))/\(∀a,H a≠none->OE (Hm' a) (Hm a))/\Rp K Hm' (.ref T) (.tuple [a,b]):=by have n:=j6 s hT;have s2:=cH (o:=.tup [x,y]) n;refine⟨upd Hm T (.tup [x,y]),s2,λb o e=>?_,cH hT,λa ha=>.inl (aq λz=>ha (z▸hT)),.tup aH (.cons (r1.mono s2) (.cons (r2.mono s2) .nil))⟩;by_cases c:b=T;{rw[c,aH]at e⊢;exact e};rw[aq c]at e⊢;exact s _ _ e
def IA{i:Nat}(h:(j7 ds)[i]?=some d):∃e,ds[i]?=some e/\d=.tuple [.int i,e]:=by
 unfold j7 at h;rw[UK,List.getElem?_zipIdx]at h;cases e:ds[i]? with
 |none=>rw[e]at h;cases h
 |some a=>rw[e]at h;simp at h;exact⟨a,rfl,h.symm⟩
def G3(ds:ZU):(j7 ds).length=ds.length:=by unfold j7;rw[U7,List.length_zipIdx]
def Kg{a:Addr}(h:cu K fN a xs)(r:aC K fN xs ds):xT K (QE K a) (j7 ds) fN:=by intro i H Hm s1 s2;have q:bI K H a xs:=(cu.mono (s1.trans s2) h).sq;refine⟨λd e=>?_,λl=>⟨xs,q,by rw[r.len,<-G3];exact l⟩⟩;obtain⟨d0,e0,rfl⟩:=IA e;obtain⟨v,e1,r1⟩:=r.get e0;refine⟨⟨xs,v,q,e1⟩,λx H' y=>?_⟩;obtain⟨T,hT,rfl,y⟩:=y;obtain⟨x',e2,rfl⟩:=y xs q;rw[e1]at e2;cases e2;exact AQ s2 hT (.int _) (r1.mono s1)
open PyProof.Rows in
def Nh{a:Addr}(I:Inv X pins U H s)(hq:bI X.K H a xs)(q:R (KW X.K a) H):wpAny (model X.prog X.w) X.A (pyIter (.ref a)) (K5 X pins U tg R) E s:=by
 obtain⟨its,rv,p,hz⟩:=I.list hq;refine XY p.isList ?_;refine⟨s.heap.objs.size,[s.heap.objs.size],_,_,H,rfl,I.kept (t':=s.toks) λb o e=>UQ _ e,Hh a _,⟨_,V8 _ rfl,rfl,rfl⟩,λb hb=>?_,q⟩;have e:b=s.heap.objs.size:=by simpa using hb
 subst e;exact I.rK (U5 _) (I.hok.fresh (U5 _))
open PyProof.Rows in
def Pd{a:Addr}(I:Inv X pins U H s)(hq:cP X.K H a xs)(q:R (Ll X.K a) H):wpAny (model X.prog X.w) X.A (pyIter (.ref a)) (K5 X pins U tg R) E s:=by
 obtain⟨its,rv,p,hz⟩:=I.tuple hq;refine wpAny_pyIter_tuple (show s.heap.IsTuple a its.toArray from p) ?_;refine⟨s.heap.objs.size,[s.heap.objs.size],_,_,H,rfl,I.kept (t':=s.toks) λb o e=>UQ _ e,Dy a _,⟨_,V8 _ rfl,rfl,rfl⟩,λb hb=>?_,q⟩;have e:b=s.heap.objs.size:=by simpa using hb
 subst e;exact I.rK (U5 _) (I.hok.fresh (U5 _))
def cF(h:SE X Ex Y e d):SI X Ex Y tg e (iE d):=by
 rw[Sg];refine⟨λU H R=>WE X e U H λx H1=>(∃a,x=.ref a/\(∃xs,bI X.K H1 a xs)/\R (KW X.K a) H1)\/∃a,x=.ref a/\(∃xs,cP X.K H1 a xs)/\R (Ll X.K a) H1,?_,?_⟩;{intro pins s U H R I h;refine aU (h pins s I) λv s1 ⟨x,H1,I1,r1,q1⟩=>?_;rcases q1 with⟨a,rfl,⟨xs,hq⟩,q⟩|⟨a,rfl,⟨xs,hq⟩,q⟩;{cases r1;exact Nh I1 hq q};cases r1;exact Pd I1 hq q};intro g x E U H Hm F P R hx Rl p q;refine h g x E U H Hm F _ _ hx Rl p λE' k v u H' Hm' F' fp p' R' s' T=>?_;obtain⟨hk,ds,e1,p'⟩:=p';obtain⟨Hm2,s2,R2,r2⟩:=T.cL R' hk;cases r2 with
 |lst a r=>cases e1;exact .inl ⟨_,rfl,⟨_,(cu.mono R2.sub a).sq⟩,q _ _ _ _ _ _ p' R2 (s'.trans s2) (JA a r)⟩
 |tup a r=>cases e1;exact .inr ⟨_,rfl,⟨_,cP.of (R2.sub _ _ a)⟩,q _ _ _ _ _ _ p' R2 (s'.trans s2) (Nl a r)⟩
 |_=>cases e1
def yl:ZU->Option (ZU)
 |[.int j]=>@ite _ (-(2^62)<=j/\j<2^62) (Classical.propDecidable _) (some (kY 0 j.toNat)) none
 |_=>none
def FW:ZU->Option (ZU)
 |[.int i,.int j]=>@ite _ (-(2^62)<=i/\i<2^62/\-(2^62)<=j/\j<2^62) (Classical.propDecidable _) (some (kY i (j-i).toNat)) none
 |_=>none
def zX{g:Gh}{U:St}{E:En}{H Hm:Hp}{F:Nat->ZX}{as:List Arg}{os:Zf}{vs:List V}{ds:ZU}{K:Frag}(R:Rl K g E U H Hm F)(G:Got K U Hm as os vs)(h:fill as E os=some ds):aC K H vs ds:=wk R R.sub G h λ_ _ _ _=>rfl
def RL(hg:Gl X "range")(hm:X.mg "range"=none)(ns:noStar a=true)(S:aY X Ex Y [a] as):SI X Ex Y tg (.Call (.Name "range" p) [a] [] pos) (sI yl as):=by refine⟨_,GG hg hm (eW (es:=[a]) (by rw[UU,ns];rfl)) (bQ ns),λg x E U H Hm F P R hx Rl p q=>?_⟩;refine oG hx S Rl p λE1 os vs H1 Hm1 F1 p1 R1 s1 G=>?_;replace p1:aL (dG as E1 os) _:=p1;rw[<-bS,gP]at p1;obtain⟨ds,hf,p1⟩:=p1;rw[<-bS]at p1;obtain⟨xs,hg',p1⟩:=p1;have r:=zX R1 G hf;unfold yl at hg';split at hg';{rename_i j;obtain⟨v,rfl,r1⟩:=dR r;cases r1;split at hg';{rename_i c;cases hg';exact⟨j,rfl,c.1,c.2,q _ _ _ _ _ _ p1 R1 s1 BS⟩};cases hg'};cases hg'
def RU(hg:Gl X "range")(hm:X.mg "range"=none)(ns:noStar a=true)(ns2:noStar b=true)(S:aY X Ex Y [a,b] as):SI X Ex Y tg (.Call (.Name "range" p) [a,b] [] pos) (sI FW as):=by refine⟨_,G8 hg hm (eW (es:=[a,b]) (by rw[UU,UU,ns,ns2];rfl)) ((bQ ns).trans (by rw[bQ ns2];rfl)) (bQ ns2),λg x E U H Hm F P R hx Rl p q=>?_⟩;refine oG hx S Rl p λE1 os vs H1 Hm1 F1 p1 R1 s1 G=>?_;replace p1:aL (dG as E1 os) _:=p1;rw[<-bS,gP]at p1;obtain⟨ds,hf,p1⟩:=p1;rw[<-bS]at p1;obtain⟨xs,hg',p1⟩:=p1;have r:=zX R1 G hf;unfold FW at hg';split at hg';{rename_i i j;obtain⟨v,w,rfl,r1,r2⟩:=iA r;cases r1;cases r2;split at hg';{rename_i c;cases hg';exact⟨i,j,rfl,c,q _ _ _ _ _ _ p1 R1 s1 BS⟩};cases hg'};cases hg'
def Rf{x1:Nat}(hg:Gl X "enumerate")(hm:X.mg "enumerate"=none)(ns:noStar e=true)(h:SE X Ex Y e d):SI X Ex Y (.Tuple elts x1 tp) (.Call (.Name "enumerate" p) [e] [] pos) (x6 d):=by rw[NQ];refine⟨_,LY hg hm (eW (es:=[e]) (by rw[UU,ns];rfl)) (bQ ns),λg x E U H Hm F P R hx Rl p q=>?_⟩;refine h g x E U H Hm F _ _ hx Rl p λE' k v u H' Hm' F' fp p' R' s' T=>?_;obtain⟨hk,ds,rfl,p'⟩:=p';obtain⟨Hm2,s2,R2,r2⟩:=T.cL R' hk;obtain⟨a,xs,rfl,ha,r⟩:=dX r2;exact⟨a,rfl,⟨xs,(cu.mono R2.sub ha).sq⟩,q _ _ _ _ _ _ p' R2 (s'.trans s2) (Kg ha r)⟩
def Jd{ds es:ZU}{i:Nat}(h:((ds.zip es).map λp=>PyData.tuple [p.1,p.2])[i]?=some d):∃a b,ds[i]?=some a/\es[i]?=some b/\d=.tuple [a,b]:=by
 rw[UK]at h;cases e:(ds.zip es)[i]? with
 |none=>rw[e]at h;cases h
 |some p=>rw[e]at h;cases h;obtain⟨h1,h2⟩:=List.getElem?_zip_eq_some.mp e;exact⟨_,_,h1,h2,rfl⟩
def Mt{a b:Addr}{ds:ZU}(h:cu K fN a xs)(h2:cu K fN b ys)(r:aC K fN xs ds)(r2:aC K fN ys es):xT K (Pu K a b) ((ds.zip es).map λp=>.tuple [p.1,p.2]) fN:=by intro i H Hm s1 s2;have q:bI K H a xs:=(cu.mono (s1.trans s2) h).sq;have q2:bI K H b ys:=(cu.mono (s1.trans s2) h2).sq;refine⟨λd e=>?_,λl=>⟨xs,ys,q,q2,?_⟩⟩;{obtain⟨d1,d2,e1,e2,rfl⟩:=Jd e;obtain⟨v1,f1,g1⟩:=r.get e1;obtain⟨v2,f2,g2⟩:=r2.get e2;refine⟨⟨xs,ys,v1,v2,q,q2,f1,f2⟩,λx H' y=>?_⟩;obtain⟨T,hT,rfl,y⟩:=y;obtain⟨x1,z1,hx,hz2,rfl⟩:=y xs ys q q2;rw[f1]at hx;cases hx;rw[f2]at hz2;cases hz2;exact AQ s2 hT (g1.mono s1) (g2.mono s1)};rw[U7,List.length_zip]at l;have:=r.len;have:=r2.len;lia
def RD{x1:Nat}(hg:Gl X "zip")(hm:X.mg "zip"=none)(ns:noStar e1=true)(ns2:noStar e2=true)(h1:SE X Ex Y e1 d1)(h2:SE X Ex Y e2 d2):SI X Ex Y (.Tuple elts x1 tp) (.Call (.Name "zip" p) [e1,e2] [] pos) (Kp d1 d2):=by refine⟨_,QF hg hm (eW (es:=[e1,e2]) (by rw[UU,UU,ns,ns2];rfl)) ((bQ ns).trans (by rw[bQ ns2];rfl)) (bQ ns2),λg x E U H Hm F P R hx Rl p q=>?_⟩;refine h1 g x E U H Hm F _ _ hx Rl p λE1 k v u H1 Hm1 F1 fp p1 R1 s1 T=>?_;replace p1:bK k.fz _:=p1;rw[eF]at p1;obtain⟨hk,p1⟩:=p1;obtain⟨Hm2,s2,R2,r2⟩:=T.cL R1 hk;refine h2 g x E1 U H1 Hm2 F1 _ _ hx R2 p1 λE3 k3 v3 u3 H3 Hm3 F3 fp3 p3 R3 s3 T3=>?_;replace p3:bK k3.fz _:=p3;rw[eF,<-DP]at p3;obtain⟨hk3,ds,rfl,p3⟩:=p3;rw[<-DP]at p3;obtain⟨es,rfl,p3⟩:=p3;obtain⟨Hm4,s4,R4,r4⟩:=T3.cL R3 hk3;have r2':=r2.mono (s3.trans s4);obtain⟨a,xs,rfl,ha,ra⟩:=dX r2';obtain⟨b,ys,rfl,hb,rb⟩:=dX r4;exact⟨a,b,rfl,⟨xs,(cu.mono R4.sub ha).sq⟩,⟨ys,(cu.mono R4.sub hb).sq⟩,q _ _ _ _ _ _ p3 R4 (s1.trans (s2.trans (s3.trans s4))) (Mt ha hb ra rb)⟩
end
def WG(X:Cx)(tg:Expr):TG:=λv U H Q=>∀(pins:ZL)(s:Shared)(u:Value),Inv X pins U H s->RelV v u->wpAny (model X.prog X.w) X.A (assign tg X.env u) (λ_ s'=>∃σ' H',Inv X pins σ' H' s'/\Q σ' H') X.xe s
def WG.of(h:PG X tg t)(q:t v U H Q):WG X tg v U H Q:=λpins s u I r=>h pins s U H v u Q I r q
def vM(X:Cx)(ifs:ZZ):TT:=λU H Q=>∀(pins:ZL)(s:Shared),Inv X pins U H s->wpAny (model X.prog X.w) X.A (forIn ifs true λc r=>if r=true then do let ok <-isTrue c X.env (eval c X.env);pure (ForInStep.yield ok)else pure (ForInStep.yield r)) (TP X pins U Q) X.xe s
def vM.of(h:qi X ifs t)(q:t U H Q):vM X ifs U H Q:=λpins s I=>h pins s U H Q I q
def WL(X:Cx)(D:Addr)(elt:Expr)(gens:ZJ)(scope:Scope)(pos:Pos) (k:Nat):TL:=λys U H Q=>
 X.s₀.heap.objs.size<=D->(∀y c,X.env.cells.lookup y=some c->c≠D)->(∀e s',X.xe e s'->False)->
 ∀(pins:ZL)(s:Shared)(its:ZW) (nn:Nat)(fin:Sem Fin)(Qf:Fin->Shared->Prop)(E:ZI),
  (∀p∈X.pn++pins,p.1≠D)->Inv X ((D,dS its nn)::pins) U H s->Vals ys its->ys.length<=sizeLine->
  (∀s' ys' its' nn' σ' H',Inv X ((D,dS its' nn')::pins) σ' H' s'->Vals ys' its'->ys'.length<=sizeLine->Q ys' σ' H'->wpAny (model X.prog X.w) X.A fin Qf E s')->
  wpAny (model X.prog X.w) X.A (iU elt gens scope pos k (.ref D) X.env fin) Qf E s
def Rz{D:Addr}{k:Nat}:PL X D elt gens scope pos k (WL X D elt gens scope pos k):=λh1 h2 h3 pins s U H ys its nn Q fin Qf E hp I rv hz h hf=>h h1 h2 h3 pins s its nn fin Qf E hp I rv hz hf
def WL.of{D:Addr}{k:Nat}(h:PL X D elt gens scope pos k t)(q:t ys U H Q):WL X D elt gens scope pos k ys U H Q:=λh1 h2 h3 pins s its nn fin Qf E hp I rv hz hf=>h h1 h2 h3 pins s U H ys its nn Q fin Qf E hp I rv hz q hf
def Agree(cs:Zb)(U σ':St):Prop:=U.length=σ'.length/\∀j,j∉cs->σ'[j]?=U[j]?
def Agree.refl(cs:Zb)(U:St):Agree cs U U:=⟨rfl,λ_ _=>rfl⟩
theorem Agree.trans(h:Agree cs a b)(k:Agree cs b c):Agree cs a c:=⟨h.1.trans k.1,λj hj=>(k.2 j hj).trans (h.2 j hj)⟩
theorem Agree.symm(h:Agree cs a b):Agree cs b a:=⟨h.1.symm,λj hj=>(h.2 j hj).symm⟩
section
variable{K:Frag}{g:Gh}{E E0:En}{U σ':St}{H Hm:Hp}{F:Nat->ZX}
def Rl.Ry(R:Rl K g E U H Hm F){i:Nat}(o:bR E i=true)(v:Option V):Rl K g (E.set i none) (U.set i v) H Hm (λj=>if j=i then []else F j) where
 len:=by rw[VP,VP];exact R.len
 sub:=R.sub
 slot:=λj k' d' e'=>by
  by_cases c:j=i
  .subst c;rw[aJ (i8 o)]at e';cases e'
  .rw[au (Ne.symm c)]at e';obtain⟨u,g1,g2⟩:=R.slot j k' d' e';exact⟨u,by rw[au (Ne.symm c)];exact g1,by rw[if_neg c];exact g2⟩
 off:=λj a ha=>by
  by_cases c:j=i
  .rw[if_pos c]at ha;cases ha
  .rw[if_neg c]at ha;exact R.off j a ha
 bT:=λj a ha=>by
  by_cases c:j=i
  .rw[if_pos c]at ha;cases ha
  .rw[if_neg c]at ha;exact R.bT j a ha
 aV:=λj l a g1 g2=>by
  by_cases c:j=i
  .rw[if_pos c]at g1;cases g1
  .rw[if_neg c]at g1
   by_cases c':l=i
   .rw[if_pos c']at g2;cases g2
   .rw[if_neg c']at g2;exact R.aV j l a g1 g2
 fr:=R.fr
 new:=λj a ha=>by
  by_cases c:j=i
  .rw[if_pos c]at ha;cases ha
  .rw[if_neg c]at ha;exact R.new j a ha
 pin:=λq hq=>by
  obtain⟨g1,ds',g2⟩:=R.pin q hq;have c:i≠q.1:=λz=>by
   unfold bR at o;rw[z,g2]at o;cases o
  exact⟨by rw[au c];exact g1,ds',by rw[au c];exact g2⟩
 old:=R.old
theorem Rl.bE:∀{cs:Zb}{E E0:En}{U:St}{F:Nat->ZX},Rl K g E U H Hm F->Dv.bE cs E=some E0->∃σ' F',Rl K g E0 σ' H Hm F'/\Agree cs U σ'/\(∀c∈cs,σ'[c]?=some none/\E0[c]?=some none)
 |[],E,E0,U,F,R,h=>by cases h;exact⟨U,F,R,Agree.refl _ _,λ_ z=>by cases z⟩
 |c::cs,E,E0,U,F,R,h=>by
  rw[Dv.bE]at h;by_cases o:bR E c=true
  .rw[if_pos o]at h;have R1:=R.Ry o none;obtain⟨σ',F',R',a,n⟩:=Rl.bE (cs:=cs) R1 h;have lc:=i8 o;have keep:∀{l:Zb}{E E0:En},Dv.bE l E=some E0->∀j,j∉l->E0[j]?=E[j]?:=by
    intro l;induction l with
    |nil=>intro E E0 h j _;cases h;rfl
    |cons i l ih=>intro E E0 h j hj;rw[Dv.bE]at h;by_cases o:bR E i=true;{rw[if_pos o]at h;have ne:i≠j:=λz=>hj (z▸U1);exact(ih h j λz=>hj (U4 _ z)).trans (au ne)};rw[if_neg o]at h;cases h
   refine⟨σ',F',R',⟨by rw[<-a.1,VP],λj hj=>?_⟩,λd hd=>?_⟩;{have ne:c≠j:=λz=>hj (z▸U1);exact(a.2 j λz=>hj (U4 _ z)).trans (au ne)};by_cases m:d∈cs;{exact n d m};have e:d=c:=(U6.mp hd).resolve_right m;subst e;exact⟨(a.2 d m).trans (aJ (R.len▸lc)),(keep h d m).trans (aJ lc)⟩
  rw[if_neg o]at h;cases h
def Rl.agree(R:Rl K g E U H Hm F)(a:Agree cs U σ')(n:∀c∈cs,E[c]?=some none):Rl K g E σ' H Hm F where
 len:=R.len.trans a.1
 sub:=R.sub
 slot:=λj k d e=>by
  obtain⟨v,h1,h2⟩:=R.slot j k d e;refine⟨v,?_,h2⟩;rw[a.2 j λz=>by rw[n j z]at e;cases e]
  exact h1
 off:=R.off
 bT:=R.bT
 aV:=R.aV
 fr:=R.fr
 new:=R.new
 pin:=λq hq=>by
  obtain⟨g1,ds',g2⟩:=R.pin q hq;refine⟨?_,ds',g2⟩;rw[a.2 q.1 λz=>by rw[n q.1 z]at g2;cases g2]
  exact g1
 old:=R.old
end
inductive ig(X:Cx)(Ex:XK)(Y:Zb):ZZ->DT->Prop
 |nil:ig X Ex Y [] eE
 |one {e:Expr}{t:DT}:ST X Ex Y e t->ig X Ex Y [e] t
def ig.ok(h:ig X Ex Y ifs t){F:Nat->ZX}(hx:XL X Ex x g)(R:Rl X.K g E U H Hm F)(p:t x E P)(q:∀E' b H' Hm' F',P E' b->Rl X.K g E' U H' Hm' F'->aj Hm Hm'->Q b H'):vM X ifs (sel Y U) H Q:=by
 cases h with
 |nil=>exact vM.of L8 (q _ _ _ _ _ p R (aj.refl _))
 |one h=>exact vM.of (Ml j4) (h g x E U H Hm F P Q hx R p q)
def SL(X:Cx)(Y cs:Zb)(D:Addr)(elt:Expr)(gens:ZJ)(scope:Scope)(pos:Pos) (k:Nat)(dc:DC):Prop:=
 ∀(g:Gh)(E:En)(U:St)(H Hm:Hp)(F:Nat->ZX)(ys:List V)(dys:ZU)(P:ZU->En->Prop)(Q:List V->St->Hp->Prop),Rl X.K g E U H Hm F->aC X.K Hm ys dys->dc xF dys E P->
  (∀E' dys' ys' σ' H' Hm' F',P dys' E'->Rl X.K g E' σ' H' Hm' F'->aj Hm Hm'->aC X.K Hm' ys' dys'->Agree cs U σ'->Q ys' (sel Y σ') H')->WL X D elt gens scope pos k ys (sel Y U) H Q
section
variable{X:Cx}{Ex:XK}{Y cs:Zb}{D:Addr}{elt tg iter:Expr}{ifs:ZZ}{gens:ZJ}{scope:Scope}{pos:Pos}{k:Nat}
def LN(h:SE X Ex Y elt d)(hk:gens[k]?=none):SL X Y cs D elt gens scope pos k (bY sizeLine d):=by intro g E U H Hm F ys dys P Q R r p q;refine WL.of (Ci bL hk) (h g xF E U H Hm F _ _ XL.no R p λE1 k1 v u H1 Hm1 F1 fp p1 R1 s1 T=>?_);obtain⟨hk,hl,p1⟩:=p1;obtain⟨Hm2,s2,R2,r2⟩:=T.cL R1 hk;exact⟨by rw[r.len];exact hl,q _ _ _ _ _ _ _ p1 R2 (s1.trans s2) ((r.mono (s1.trans s2)).snoc r2) (Agree.refl _ _)⟩
def uy{xs:ZU}{t:Tg}{c:DT}{r:DC}{G:TG}{tt:TT}{tr:TL}{I:Nat->ZU->En->Prop}{U:St}{F1:Nat->ZX}{Q:List V->St->Hp->Prop}(hts:∀i∈t.slots,i∈cs)(it1:xT K J xs Hm1)(R1:Rl K g E1 U H1 Hm1 F1)(r0:aC K Hm1 ys dys)(i0:I 0 dys E1)(hG:∀{d:PyData}{v:V}{E E2:En}{U:St}{H Hm:Hp}{F:Nat->ZX}{Q:St->Hp->Prop},cT t d E=some E2->Rp K Hm v d->Rl K g E U H Hm F->(∀σ' F',Rl K g E2 σ' H Hm F'->(∀j,j∉t.slots->σ'[j]?=U[j]?)->Q (sel Y σ') H)->G v (sel Y U) H Q)(hT:∀{E:En}{U:St}{H Hm:Hp}{F:Nat->ZX}{P:Zi}{Q:Bool->Hp->Prop},Rl K g E U H Hm F->c xF E P->(∀E' b H' Hm' F',P E' b->Rl K g E' U H' Hm' F'->aj Hm Hm'->Q b H')->tt (sel Y U) H Q)(hR:∀{E:En}{U:St}{H Hm:Hp}{F:Nat->ZX}{ys:List V}{dys:ZU}{P:ZU->En->Prop}{Q:List V->St->Hp->Prop},Rl K g E U H Hm F->aC K Hm ys dys->r xF dys E P->(∀E' dys' ys' σ' H' Hm' F',P dys' E'->Rl K g E' σ' H' Hm' F'->aj Hm Hm'->aC K Hm' ys' dys'->Agree cs U σ'->Q ys' (sel Y σ') H')->tr ys (sel Y U) H Q)(step:∀i d ys E,xs[i]?=some d->I i ys E->∃E2,cT t d E=some E2/\c xF E2 λE3 b=>if b=true then r xF ys E3 (I (i+1))else I (i+1) ys E3)(fin:∀E' dys' ys' σ' H' Hm' F',I xs.length dys' E'->Rl K g E' σ' H' Hm' F'->aj Hm1 Hm'->aC K Hm' ys' dys'->Agree cs U σ'->Q ys' (sel Y σ') H'):AM J G tt tr ys (sel Y U) H1 Q:=by
 refine⟨λi m ys τ H'=>m=xs.length-i/\i<=xs.length/\∃E' dys' σ' Hm' F',I i dys' E'/\Rl K g E' σ' H' Hm' F'/\aj Hm1 Hm'/\aC K Hm' ys dys'/\Agree cs U σ'/\τ=sel Y σ',⟨xs.length,by simp,V3 _,E1,dys,U,Hm1,F1,i0,R1,aj.refl _,r0,Agree.refl _ _,rfl⟩,?_⟩;rintro i m ys τ H2⟨rfl,hi,E2,dys2,σ2,Hm2,F2,i2,R2,s2,r2,a2,rfl⟩;obtain⟨go,stop⟩:=it1 i H2 Hm2 s2 R2.sub;by_cases c':i<xs.length
 .obtain⟨go,tF⟩:=go xs[i] (V0 c');refine .inr ⟨go,λys τ H'=>i+1<=xs.length/\∃E' dys' σ' Hm' F',I (i+1) dys' E'/\Rl K g E' σ' H' Hm' F'/\aj Hm1 Hm'/\aC K Hm' ys dys'/\Agree cs U σ'/\τ=sel Y σ',λys τ H' z=>⟨xs.length-(i+1),by lia,rfl,z⟩,λx H3 y=>?_⟩;obtain⟨Hm3,t1,t2,t3,old,rx⟩:=tF x H3 y;have R3:=R2.turn t1 t2 t3 old;obtain⟨E4,e4,p4⟩:=step i xs[i] dys2 E2 (V0 c') i2;refine hG e4 rx R3 λσ4 F4 R4 ag=>?_;have a4:Agree cs U σ4:=a2.trans ⟨by rw[<-R3.len,<-R4.len];exact(show E2.length=E4.length from R3.len.trans (by
   have h1:=R3.len;have h2:=R4.len;have:E4.length=E2.length:=by
    have go:∀{is:Zb}{ds:ZU}{E E':En},cy is ds E=some E'->E'.length=E.length:=by
     intro is
     induction is with
     |nil=>intro ds E E' h;cases ds with|nil=>cases h;rfl|cons _ _=>cases h
     |cons j is ih=>
      intro ds E E' h;cases ds with
      |nil=>cases h
      |cons d ds=>
       rw[cy]at h
       by_cases o:bR E j=true
       .rw[if_pos o]at h;rw[ih h,VP]
       .rw[if_neg o]at h;cases h
    cases t with
    |nm j=>exact go (is:=[j]) e4
    |tp js=>
     cases hd:xs[i]with
     |tuple ds=>rw[hd]at e4;exact go (is:=js) e4
     |_=>rw[hd]at e4;cases e4
   lia)),λj hj=>ag j λz=>hj (hts j z)⟩
  refine hT R4 p4 λE5 b H5 Hm5 F5 p5 R5 s5=>?_;cases b with
  |true=>refine qv (hR R5 (r2.mono (t1.trans s5)) (by simpa using p5) λE6 dys6 ys6 σ6 H6 Hm6 F6 p6 R6 s6 r6 a6=>?_);exact⟨c',E6,dys6,σ6,Hm6,F6,p6,R6,s2.trans (t1.trans (s5.trans s6)),r6,a4.trans a6,rfl⟩
  |false=>exact qK ⟨c',E5,dys2,σ4,Hm5,F5,by simpa using p5,R5,s2.trans (t1.trans s5),r2.mono (t1.trans s5),a4,rfl⟩
 have e:i=xs.length:=by lia
 subst e;exact .inl ⟨stop (U5 _),fin _ _ _ _ _ _ _ i2 R2 s2 r2 a2⟩
def OP(hc:X.calm=true)(hN:X.N.Nodup)(nd:Y.Nodup)(hi:SI X Ex Y tg iter di)(ht:fG X Y tg t)(hts:∀i∈t.slots,i∈cs)(hif:ig X Ex Y ifs c)(hr:SL X Y cs D elt gens scope pos (k+1) r)(hk:gens[k]?=some ⟨tg,iter,ifs,0⟩)(ha:∀g∈gens,g.is_async=0)(hs:∀v,foldedSetIterable iter X.env v=pure v):SL X Y cs D elt gens scope pos k (Cj di t c r):=by intro g E U H Hm F ys dys P Q R rr p q;obtain⟨wi,hpi,hw⟩:=hi;obtain⟨G,g1,g2⟩:=rT hc hN nd ht;refine WL.of (Oh (tt:=vM X ifs) hc hpi g1 (λpins s U H Q I h=>h pins s I) Rz hk ha hs) (hw g xF E U H Hm F _ _ XL.no R p λE1 xs J H1 Hm1 F1 p1 R1 s1 it1=>?_);obtain⟨I,i0,step,fin⟩:=p1;exact uy (cs:=cs) (t:=t) (c:=c) (r:=r) hts it1 R1 (rr.mono s1) i0 (λh1 h2 h3 h4=>g2 h1 h2 h3 h4) (λh1 h2 h3=>hif.ok XL.no h1 h2 h3) (λh1 h2 h3 h4=>hr g _ _ _ _ _ _ _ _ _ h1 h2 h3 h4) step λE' dys' ys' σ' H' Hm' F' i R' s' r' a'=>q _ _ _ _ _ _ _ (fin _ _ i) R' (s1.trans s') r' a'
def JK:caps ix (sel Y U)=ix.map λi=>(((Y[i]?).map λm=>(U[m]?).join)).join:=by unfold caps sel;refine VT λi _=>?_;rw[UK]
def bO(Y cs ix:Zb):Zb:=cs++ix.map λi=>(Y[i]?).getD 0
def we(hix:∀i∈ix,i<Y.length)(aV:∀c∈cs,c∉Y)(a:Agree cs U σ0)(n:∀c∈cs,σ0[c]?=some none):List.replicate cs.length none++caps ix (sel Y U)=sel (bO Y cs ix) σ0:=by unfold bO;rw[JK];unfold sel;rw[V2,V1];congr 1;{refine(List.eq_replicate_iff.mpr ⟨U7 ..,λx hx=>?_⟩).symm;obtain⟨c,hc,rfl⟩:=U9.mp hx;rw[n c hc];rfl};refine VT λi hi=>?_;have l:=hix i hi;show((Y[i]?).map λm=>(U[m]?).join).join=(σ0[(Y[i]?).getD 0]?).join;rw[V0 l];show(U[Y[i]]?).join=(σ0[Y[i]]?).join;rw[a.2 Y[i] λz=>aV _ z (W3 l)]
def B9{rest:ZJ}{vs NB:Zd}{ix:Zb}{di:DI}{t:Tg}{c:DT}{r:DC}(B:cX X scope vs NB ix)(hc:X.calm=true)(hcs:cs.length=vs.length)(hix:∀i∈ix,i<Y.length)(aV:∀c∈cs,c∉Y)(nd:(bO Y cs ix).Nodup)(hi:SI X Ex Y tg iter di)(ht:∀(C:Addr)(s:Shared)(H:Hp)(fp:ZX),fG (X.block scope C NB s H fp) (bO Y cs ix) tg t)(hts:∀i∈t.slots,i∈cs)(hif:∀(C:Addr)(s:Shared)(H:Hp)(fp:ZX),ig (X.block scope C NB s H fp) E0 (bO Y cs ix) ifs c)(hr:∀(C:Addr)(s:Shared)(H:Hp)(fp:ZX)(D:Addr),SL (X.block scope C NB s H fp) (bO Y cs ix) cs D elt (⟨tg,iter,ifs,0⟩::rest) scope pos 1 r)(ha:∀g∈rest,g.is_async=0)(hs:∀v,foldedSetIterable iter X.env v=pure v){w:(V->Hp->Prop)->St->Hp->Prop}(hw:∀{wi:TI}{G:TG}{tt:TT}{tr:TL}{U:St}{H:Hp}{Q:VK},PI X tg iter wi->(∀(C:Addr)(s:Shared)(H:Hp)(fp:ZX),PG (X.block scope C NB s H fp) tg G)->(∀(C:Addr)(s:Shared)(H:Hp)(fp:ZX),qi (X.block scope C NB s H fp) ifs tt)-> (∀(C:Addr)(s:Shared)(H:Hp)(fp:ZX)(D:Addr),PL (X.block scope C NB s H fp) D elt (⟨tg,iter,ifs,0⟩::rest) scope pos 1 tr)->oA wi vs.length ix G tt tr U H Q->w Q U H)(g:Gh)(x:XC)(E:En)(U:St)(H Hm:Hp)(F:Nat->ZX)(P:Ze)(Q:VK)(hx:XL X Ex x g)(R:Rl X.K g E U H Hm F)(p:bJ cs di t c r x E P)(q:∀E' k v u H' Hm' F' fp,P E' k v->Rl X.K g E' U H' Hm' F'->aj Hm Hm'->Tm X.K g F' H' Hm' k u v fp->Q u H'):w Q (sel Y U) H:=by
 obtain⟨wi,hpi,hwi⟩:=hi;refine hw (wi:=wi) (G:=λv U H Q=>∀(C:Addr)(s:Shared)(H2:Hp)(fp:ZX),WG (X.block scope C NB s H2 fp) tg v U H Q) (tt:=λU H Q=>∀(C:Addr)(s:Shared)(H2:Hp)(fp:ZX),vM (X.block scope C NB s H2 fp) ifs U H Q)
  (tr:=λys U H Q=>∀(C:Addr)(s:Shared)(H2:Hp)(fp:ZX)(D:Addr),WL (X.block scope C NB s H2 fp) D elt (⟨tg,iter,ifs,0⟩::rest) scope pos 1 ys U H Q) hpi (λC s H2 fp pins s' U H v u Q I r h=>h C s H2 fp pins s' u I r) (λC s H2 fp pins s' U H Q I h=>h C s H2 fp pins s' I)
  (λC s H2 fp D h1 h2 h3 pins s' U H ys its nn Q fin Qf E hp I rv hz h hf=>h C s H2 fp D h1 h2 h3 pins s' its nn fin Qf E hp I rv hz hf) ?_
 refine hwi g x E U H Hm F _ _ hx R p λE1 xs J H1 Hm1 F1 p1 R1 s1 it1=>?_;obtain⟨E0',I,hcl,i0,step,fin⟩:=p1;obtain⟨σ0,F0,R0,a0,n0⟩:=R1.bE hcl;rw[<-hcs,we hix aV a0 λc hc=>(n0 c hc).1];refine uy (cs:=cs) (t:=t) (c:=c) (r:=r) hts it1 R0 .nil i0 (λh1 h2 h3 h4 C s H2 fp=>?_) (λh1 h2 h3 C s H2 fp=>(hif C s H2 fp).ok XL.no h1 h2 h3) (λh1 h2 h3 h4 C s H2 fp D=>hr C s H2 fp D g _ _ _ _ _ _ _ _ _ h1 h2 h3 h4) step λE' dys' ys' σ' H' Hm' F' i R' s' r' a' p hp=>?_;{obtain⟨G,g1,g2⟩:=rT (X:=X.block scope C NB s H2 fp) hc B.nd nd (ht C s H2 fp);exact WG.of g1 (g2 h1 h2 h3 h4)};obtain⟨E2,hcl2,p2⟩:=fin _ _ i;obtain⟨σ2,F2,R2,a2,n2⟩:=R'.bE hcl2;have R3:=R2.agree (cs:=cs) ((a0.trans a').trans a2).symm λc hc=>(n2 c hc).2;have s2:=cH (o:=.lst ys') hp;have R4:=R3.grow (H':=upd H' p (.lst ys')) s2 (aj.refl _) (R3.sub.trans s2) (λi a ha=>R3.off i a ha) λ_ _=>.inl rfl;refine q _ _ _ _ _ Hm' F2 [p] p2 R4 (s1.trans s') ⟨.ow aH r',λa ha=>?_,λa ha i=>?_,λa ha=>?_⟩;{rw[U8.mp ha];exact R3.oF hp};{rw[U8.mp ha];exact R3.fresh hp};rw[U8.mp ha];exact R3.gj hp
end
end Dv
namespace L2
open PySem PySem.Spec PyProof.Rows
structure dO(X:Cx)(scope:Scope) (x:Str)(vs NB:Zd)(ix:Zb):Prop where
 kind:scope.kind=.function
 cell:∀y∈scope.names,y.2=.cell->y.1=x
 names:∀y∈scope.names,y.2=.local->scope.names.lookup y.1=some .local
 free:∀y,(y,NameKind.free)∈scope.names->(X.env.kindOf y=some .cell\/X.env.kindOf y=some .free)
 zc:(x,NameKind.free)∉scope.names
 var:scope.names.lookup x=some .cell
 nb:NB=vs++ix.map λi=>X.N.getD i ""
 nd:NB.Nodup
 cap:∀i∈ix,∃y,X.N[i]?=some y/\scope.names.lookup y=some .free
 cf:∀(n:Nat)(acc:List (Str×Addr)),cellsFrom n scope.names acc=(x,n)::acc
 pc:∀h:Heap,pushCells h scope.names=h.push rW
section
variable{M:Model}{A:Around}{E:ZI}{s:Shared}{X:Cx}{scope:Scope}{x:Str}{vs NB:Zd}{ix:Zb}
def TU{g:Addr}(B:dO X scope x vs NB ix)(q:Q { scope:=scope,locals:=s.heap.objs.size,globals:=g,cells:=(x,s.heap.objs.size+1)::cl,qual:=ql,func:=none,code:=env.code,frame:=env.frame,builtins:=env.builtins } { s with heap:=(s.heap.push { cls:=.type "dict",data:=.dict #[] }).push rW }) : wpAny M A (newFunctionEnv scope g cl [] ql none .none (some env)) Q E s:=by simp only[newFunctionEnv,Option.isSome_some,if_true];refine U0 (wpAny_alloc (?_:_));refine U0 (wpAny_layCells _ (λname kind cells=>by cases hkc:kind==NameKind.cell<;>simp[hkc]) _ _ _ _ (?_:_));rw[B.cf,B.pc];rw[show({ s with heap:=s.heap.push { cls:=.type "dict",data:=.dict #[] } }:Shared).heap.objs.size=s.heap.objs.size+1 from WU ..];rw[List.forIn_nil];exact U0 (U3 (U3 q))
end
section
variable{X:Cx}{scope:Scope}{x:Str}{vs NB:Zd}{ix:Zb}{pins:ZL}{U:St}{H2:Hp}{s2:Shared}{fp:ZX}
def dO.clos(B:dO X scope x vs NB ix)(I2:Inv X pins U H2 s2):closureFor scope X.env=pure (cC X.env.cells scope.names []):=
 mU λn hn=>I2.ok.has n (B.free n hn)
def dO.look(B:dO X scope x vs NB ix)(I2:Inv X pins U H2 s2){c c':Addr}(h:((x,c)::cC X.env.cells scope.names []).lookup y=some c'):(y=x/\c'=c)\/X.env.cells.lookup y=some c':=by
 rw[VI]at h;cases q:(y==x)with
 |true=>rw[q]at h;exact .inl ⟨by simpa using q,(Option.some.inj h).symm⟩
 |false=>rw[q]at h;rcases nB _ _ h with⟨m,e⟩|e;{obtain⟨c2,hc⟩:=I2.ok.has y (B.free y m);rw[hc]at e⊢;exact .inr (congrArg some e)};cases e
def dO.apart(B:dO X scope x vs NB ix)(I2:Inv X pins U H2 s2){c c' b:Addr}(hc:s2.heap.objs.size<=c)(h:((x,c)::cC X.env.cells scope.names []).lookup y=some c')(hb:b<s2.heap.objs.size)(nb:∀z d,X.env.cells.lookup z=some d->d≠b):c'≠b:=by rcases B.look I2 h with⟨_,rfl⟩|e;{exact Vm (UZ hb hc)};exact nb y c' e
def GQ(B:dO X scope x vs NB ix)(I2:Inv X pins U H2 s2){C c:Addr}(hC:s2.heap.objs.size<=C)(hc:s2.heap.objs.size<=c)(f2:∀b∈fp,eu X pins H2 b)(ft:∀b∈fp,b<s2.heap.objs.size):(X.bg scope x C c NB s2 H2 fp).Ok where
 mod:=I2.ok.mod
 kind:=B.kind
 glob:=I2.ok.glob
 blt:=I2.ok.blt
 above:=hC
 inj:=λa b d h1 h2=>by
  rcases B.look I2 h1 with⟨e1,e2⟩|e1<;>rcases B.look I2 h2 with⟨e3,e4⟩|e3
  .rw[e1,e3]
  .exact absurd (UZ (ud I2 e3) (e2▸hc)) (VC _)
  .exact absurd (UZ (ud I2 e1) (e4▸hc)) (VC _)
  .exact I2.ok.inj a b d e1 e3
 has:=λy hy=>by
  show ∃d,((x,c)::cC X.env.cells scope.names []).lookup y=some d;rw[VI];cases q:(y==x)with
  |true=>exact⟨c,rfl⟩
  |false=>
   have nx:y≠x:=λz=>by rw[z,XT]at q;cases q
   have key:∀k,(relabel scope X.env).names.lookup y=some k->(k=.cell\/k=.free)->∃d,(cC X.env.cells scope.names []).lookup y=some d:=λk hk kk=>by
    rcases t8 (names:=scope.names) hk with e|⟨e,_⟩
    .rcases kk with rfl|rfl
     .exact absurd (B.cell _ (dI e) rfl) nx
     .exact fY _ _ (.inl (dI e))
    .exact fY _ _ (.inl (dI e))
   rcases hy with e|e
   .exact key _ e (.inl rfl)
   .exact key _ e (.inr rfl)
 F9:=λy d z e=>by
  rcases B.look I2 e with⟨_,rfl⟩|e
  .exact hc
  .have z:(y==x)=true:=z;have yx:y=x:=by simpa using z
   have h:((x,c)::cC X.env.cells scope.names []).lookup y=some d:=‹_›;rw[VI,z]at h;cases h;exact hc
 hd:=I2.ok.hd
 frames:=I2.ok.frames
 stk:=.inl rfl
 Sy:=λb hb=>⟨UH (UZ (ft b hb) hC),λy d e=>B.apart I2 hc e (ft b hb) (f2 b hb).2.2.2.2.1⟩
 bs:=I2.bs
 yi:=V4 I2.ok.yi I2.sz
 wo:=λb o e hb=>by
  rcases(f2 b hb).2.2.2.1 with z|z
  .exact I2.ok.wo b o e z
  .exact absurd (UZ (UG (I2.ok.bs b o e).1) z) (VC _)
 DJ:=λb hb z=>by
  rcases U6.mp (I2.ki b z)with e|e
  .exact(f2 b hb).2.1 e
  .exact(f2 b hb).2.2.1 e
 mH:=I2.stack
 B8:=I2.r9
def EJ(B:dO X scope x vs NB ix)(I2:Inv X pins U H2 s2){C c D:Addr}{tk:Nat}(hC:s2.heap.objs.size<=C)(hD:s2.heap.objs.size<=D)(hDC:D≠C)(hc:s2.heap.objs.size<=c)(hcc:h1.IsCell c none)(f2:∀b∈fp,eu X pins H2 b)(ft:∀b∈fp,b<s2.heap.objs.size)(old:∀b o,s2.heap.get? b=some o->h1.get? b=some o)(hn:h1.Ns C m)(ho:h1.get? D=some oD)(hcl:∀v,oD.data≠.cell v) : Inv (X.bg scope x C c NB s2 H2 fp) [(D,oD)] (List.replicate vs.length none++caps ix U) H2 { s2 with heap:=h1,toks:=tk } where
 ok:=GQ B I2 hC hc f2 ft
 os:=rfl
 bare:=I2.bare
 base:=Un.kept old
 loc:=by
  refine⟨m,hn,λi y v e1 e2 _=>?_⟩
  have e1:NB[i]?=some y:=e1
  by_cases li:i<vs.length
  .rw[We (by rw[Vg];exact li),Yd,if_pos li]at e2
   cases e2
  .obtain⟨j,rfl⟩:∃j,i=vs.length+j:=⟨i-vs.length,by lia⟩
   have e2:(caps ix U)[j]?=some (some v):=by
    rw[WI (by rw[Vg];lia),Vg,YG]at e2
    exact e2
   rw[B.nb]at e1;have e1:(ix.map λi=>X.N.getD i "")[j]?=some y:=by
    rw[WI (by lia),YG]at e1
    exact e1
   rw[UK]at e1;unfold caps at e2;rw[UK]at e2;cases q:ix[j]? with
   |none=>rw[q]at e1;cases e1
   |some i=>
    rw[q]at e1 e2;obtain⟨z,hz,fz⟩:=B.cap i (V7 q);have ey:y=z:=by
     have w:X.N.getD i ""=y:=Option.some.inj e1;rw[<-w,VJ,hz];rfl
    subst ey;have e2:(U[i]?).join=some v:=Option.some.inj e2;have es:U[i]?=some (some v):=by
     cases w:U[i]? with
     |none=>rw[w]at e2;cases e2
     |some o=>rw[w]at e2;exact congrArg some e2
    have fk:=B.free y (dI fz);have vis:kB X.env.scope y:=.inr fk;obtain⟨mm,_,hl⟩:=I2.loc;obtain⟨u,ru,lk⟩:=hl i y v hz es vis;refine⟨u,ru,.inr ⟨?_,?_⟩⟩
    .rcases pL (env:=X.env) (names:=scope.names) fz with e|⟨_,e⟩
     .exact .inr e
     .exact .inl e
    .rcases lk with⟨lk,_⟩|⟨_,d,hd,hcell⟩
     .rcases fk with fk|fk
      .rw[lk]at fk;cases fk
      .rw[lk]at fk;cases fk
     .obtain⟨c',hc'⟩:=fY (cells:=X.env.cells) scope.names [] (.inl (dI fz));have nx:(y==x)=false:=by
       cases q:(y==x)with
       |false=>rfl
       |true=>
        have e:y=x:=by simpa using q
        exact absurd (e▸dI fz) B.zc
      have hc2:((x,c)::cC X.env.cells scope.names []).lookup y=some c':=by
       rw[VI,nx];exact hc'
      have e3:X.env.cells.lookup y=some c':=by
       rcases B.look I2 hc2 with⟨e,_⟩|e
       .rw[e,XT]at nx;cases nx
       .exact e
      rw[hd]at e3;cases e3;obtain⟨oc,g1,g2⟩:=hcell;exact⟨d,hc2,oc,old _ _ g1,g2⟩
 cell:=λy d e=>by
  rcases B.look I2 e with⟨_,rfl⟩|e
  .exact⟨none,hcc⟩
  .obtain⟨v,o,g1,g2⟩:=I2.cell y d e;exact⟨v,o,old _ _ g1,g2⟩
 free:=I2.hok.fresh hC
 jf:=λy d e=>by
  rcases B.look I2 e with⟨_,rfl⟩|e
  .exact I2.hok.fresh hc
  .exact I2.jf y d e
 pin:=λp hp=>by
  have e:p=(D,oD):=by simpa[Cx.bg]using hp
  subst e;refine⟨ho,I2.hok.fresh hD,hDC,λz=>?_,hcl⟩
  rcases U6.mp (I2.ki D z)with e|e
  .have e:D=X.env.locals:=e;exact absurd (UZ I2.lt (e▸hD)) (VC _)
  .exact I2.Jq hD e
 hok:=I2.hok.kept old
 len:=by
  show(List.replicate vs.length none++caps ix U).length=NB.length;rw[B.nb,UR,UR,zx,U7,Vg]
end
section
variable{X:Cx}{scope:Scope}{x:Str}{vs:Zd}{NB:Zd}{ix:Zb}
def D0{elt tg iter:Expr}{ifs:ZZ}{rest:ZJ}{pos:Pos}{g:TG}{tt:TT}{tr:TL}{J:It}{it:Addr}{tn:Nat->Heap->Prop}{fp:ZX}{pins:ZL}{U:St}{H2:Hp}{s2:Shared}{E:ZI}{RR:Value->Addr->Result->Shared->Prop}{Qr:VK}(B:dO X scope x vs NB ix)(hc:X.calm=true)(hg:∀(C c:Addr)(s:Shared)(H:Hp)(fp:ZX),PG (X.bg scope x C c NB s H fp) tg g)(ht:∀(C c:Addr)(s:Shared)(H:Hp)(fp:ZX),qi (X.bg scope x C c NB s H fp) ifs tt)(hr:∀(C c:Addr)(s:Shared)(H:Hp)(fp:ZX)(D:Addr),PL (X.bg scope x C c NB s H fp) D elt (⟨tg,iter,ifs,0⟩::rest) scope pos 1 tr)(ha:∀g∈rest,g.is_async=0)(I2:Inv X pins U H2 s2)(T:Turn X.prog X.w X.K tg J fp it tn)(st2:tn 0 s2.heap)(f2:∀b∈fp,eu X pins H2 b)(h:AM J g tt tr [] (List.replicate vs.length none++caps ix U) H2 λys _ H'=>∀p,H' p=none->Qr (.ref p) (upd H' p (.lst ys)))(hRR:∀(D C:Addr)(Hf:Hp)(s':Shared)(m':ZK),Inv X pins U Hf s'->s'.heap.Ns C m'->eu X pins Hf C->Qr (.ref D) Hf->RR (.ref D) C (.ok .next) s') : wpAny (model X.prog X.w) X.A (newList []) (λacc s3=>wpAny (model X.prog X.w) X.A (newFunctionEnv scope X.env.globals (cC X.env.cells scope.names []) [] X.env.qual none .none (some X.env)) (λcenv s4=> codeAny (model X.prog X.w) X.A (.compStart (.ListComp elt (⟨tg,iter,ifs,0⟩::rest) scope pos) 0 (.ref it) acc { cenv with scope:=relabel scope X.env }) (RR acc cenv.locals) s4) E s3) E s2:=by
 obtain⟨W,⟨m0,w0⟩,turn⟩:=h;have ha':∀g∈(⟨tg,iter,ifs,0⟩:Comprehension)::rest,g.is_async=0:=λg hg=>by rcases U6.mp hg with rfl|hg;{rfl};exact ha g hg
 refine Va (TU B ?_);dsimp only;generalize eG:s2.heap.push { cls:=.type "list",dict:=none,data:=.seq ([]:ZW).toArray }=G;obtain⟨h1,eh1⟩:∃h1,h1=(G.push { cls:=.type "dict",data:=.dict #[] }).push { cls:=.type "cell",data:=.cell none }:=⟨_,rfl⟩;rw[<-eh1];have hC:G.objs.size=s2.heap.objs.size+1:=by rw[<-eG,WU]
 have hDC:s2.heap.objs.size≠G.objs.size:=by rw[hC];exact UH (WQ _)
 have hCle:s2.heap.objs.size<=G.objs.size:=by rw[hC];exact Wi _
 have up:∀b o,G.get? b=some o->h1.get? b=some o:=λb o e=>by rw[eh1];exact UQ _ (UQ _ e)
 have old:∀b o,s2.heap.get? b=some o->h1.get? b=some o:=λb o e=>up b o (eG▸UQ _ e);have hacc:h1.get? s2.heap.objs.size=some (dS [] 0):=up _ _ (eG▸V8 _ rfl);have hns:h1.Ns G.objs.size (λ_=>none):=by rw[eh1];exact(Heap.Ns.new G (.type "dict")).keeps λb o e=>UQ _ e
 have hcc:h1.IsCell (G.objs.size+1) none:=by rw[eh1];refine⟨rW,?_,rfl⟩;have e:=V8 (G.push { cls:=.type "dict",data:=.dict #[] }) (o:=rW) rfl;rw[WU]at e;exact e
 have hcle:s2.heap.objs.size<=G.objs.size+1:=Xf hCle;have ft:∀b∈fp,b<s2.heap.objs.size:=λb hb=>by obtain⟨o,e,_⟩:=T.obj _ _ st2 b hb;exact UG e
 have cD:∀y c,(X.bg scope x G.objs.size (G.objs.size+1) NB s2 H2 fp).env.cells.lookup y=some c->c≠s2.heap.objs.size:=λy c e z=>by rcases B.look I2 e with⟨_,e4⟩|e4;{rw[e4,hC]at z;exact absurd z (Vm (WA (WQ _)))};exact VC _ (z▸ud I2 e4)
 have loop:∀s3:Shared,s3={ s2 with heap:=h1 }->
   codeAny (model X.prog X.w) X.A (.compLoop (.ListComp elt (⟨tg,iter,ifs,0⟩::rest) scope pos) 0 (.ref it) (.ref s2.heap.objs.size) (compEnvC scope ((x,G.objs.size+1)::cC X.env.cells scope.names []) G.objs.size X.env))
    (RR (.ref s2.heap.objs.size) G.objs.size) s3:=by
  rintro s3 rfl;have I3:=EJ (tk:=s2.toks) B I2 hCle (U5 _) hDC hcle hcc f2 ft old hns hacc (λv q=>by cases q)
  have st3:tn 0 h1:=T.keep _ _ _ st2 λb _ o e=>old b o e
  have fy:∀{H':Hp}{oD:Obj},(∀b∈fp,H' b=none)->∀b∈fp,eu (X.bg scope x G.objs.size (G.objs.size+1) NB s2 H2 fp) [(s2.heap.objs.size,oD)] H' b:=λ{H' oD} hn b hb=>by
   refine⟨hn b hb,UH (UZ (ft b hb) hCle),λz=>?_,.inl hb,λy c e=>B.apart I2 hcle e (ft b hb) (f2 b hb).2.2.2.2.1,λp hp=>?_⟩;{rcases U6.mp (I2.ki b z)with e|e;{exact(f2 b hb).2.1 e};exact(f2 b hb).2.2.1 e};have e:p=(s2.heap.objs.size,oD):=by simpa[Cx.bg]using hp
   subst e;exact Ne.symm (UH (ft b hb))
  refine pJ (k:=0) rfl ha' (λn s'=>∃i ys its nn σ' H',W i n ys σ' H'/\Inv (X.bg scope x G.objs.size (G.objs.size+1) NB s2 H2 fp) [(s2.heap.objs.size,dS its nn)] σ' H' s'/\tn i s'.heap/\(∀b∈fp,H' b=none)/\Vals ys its/\ys.length<=sizeLine)
   ?_ m0 ⟨0,[],[],0,_,H2,w0,I3,st3,λb hb=>(f2 b hb).1,.nil,V3 _⟩
  rintro n s'⟨i,ys,its,nn,σ',H',w',I',st',fr',rv,hz⟩;rcases turn i n ys σ' H' w' with⟨stop,q⟩|⟨go,Nx,hNx,step⟩
  .refine V9 (T.done (X.bg scope x G.objs.size (G.objs.size+1) NB s2 H2 fp) rfl rfl rfl hc i _ s' _ H' (λ_ _=>False) I' (fy fr') st' stop) (λr s4 ⟨hr',I4⟩=>?_) λ_ _ z=>z.elim
   subst hr';have I5:=Ep I2 f2 (U5 _) I4 rv hz;obtain⟨m4,hn4,_⟩:=I4.loc;have hfree:H' s2.heap.objs.size=none:=(I4.pin (s2.heap.objs.size,dS its nn) (by show _∈[]++[(s2.heap.objs.size,dS its nn)];simp)).2.1
   have fC:eu X pins (upd H' s2.heap.objs.size (.lst ys)) G.objs.size:=I2.rK hCle (by
    rw[aq (Ne.symm hDC)];exact I4.free)
   exact hRR _ _ _ s4 m4 I5 hn4 fC (q _ hfree)
  .refine V9 (T.item (X.bg scope x G.objs.size (G.objs.size+1) NB s2 H2 fp) rfl rfl rfl hc i _ s' _ H' (λ_ _=>False) I' (fy fr') st' go) (λr s4 ⟨u,hr',h4⟩=>?_) λ_ _ z=>z.elim
   subst hr';refine V9 h4 (λ_ s4 ⟨v,H5,I5,r5,y5,st5,fr5⟩=>?_) λ_ _ z=>z.elim
   have pIt:∀b∈fp,∃o,s4.heap.get? b=some o/\∀v,o.data≠.cell v:=T.obj _ _ st5;have I5':=I5.pinned (fy fr5) pIt;refine V9 (hg _ _ _ _ _ _ s4 σ' H5 v u _ I5' r5 (step v H5 y5)) (λ_ s6 ⟨σ6,H6,I6,q6⟩=>?_) λ_ _ z=>z.elim
   refine V9 (ht _ _ _ _ _ _ s6 σ6 H6 _ I6 q6) (λb s7 ⟨H7,I7,q7⟩=>?_) λ_ _ z=>z.elim
   have stays:∀{s9:Shared}{H9:Hp}{σ9:St}{oD:Obj},Inv (X.bg scope x G.objs.size (G.objs.size+1) NB s2 H2 fp) ((s2.heap.objs.size,oD)::gi fp s4.heap) σ9 H9 s9->tn (i+1) s9.heap/\(∀b∈fp,H9 b=none)/\Inv (X.bg scope x G.objs.size (G.objs.size+1) NB s2 H2 fp) [(s2.heap.objs.size,oD)] σ9 H9 s9:=λ{s9 H9 σ9 oD} I9=>by
    refine⟨T.keep _ _ _ st5 λb hb o e=>(I9.pin (b,o) (VB _ (U4 _ (e7 hb e)))).1,λb hb=>?_,I9.jM λp hp'=>I9.pin p (VB _ ?_)⟩
    .obtain⟨o,e,d⟩:=pIt b hb;exact(I9.pin (b,o) (VB _ (U4 _ (e7 hb e)))).2.1
    .rw[U8.mp hp'];exact U1
   cases b with
   |false=>
    rw[if_neg V5]at q7⊢;obtain⟨m',hm,w7⟩:=hNx _ _ _ q7;obtain⟨g1,g2,g3⟩:=stays I7;exact⟨m',hm,i+1,ys,its,nn,σ6,H7,w7,g3,g1,g2,rv,hz⟩
   |true=>
    rw[if_pos rfl]at q7⊢;intro fin' Qf' hf';refine hr _ _ _ _ _ s2.heap.objs.size (U5 _) cD (λ_ _ z=>z) (gi fp s4.heap) s7 σ6 H7 ys its nn Nx fin' Qf' _ (λp hp'=>?_) I7 rv hz q7 λs8 ys8 its8 nn8 σ8 H8 I8 rv8 hz8 n8=>?_
    .have hp'':p∈gi fp s4.heap:=hp';exact UH (ft _ (nh hp'').1)
    .obtain⟨m',hm,w8⟩:=hNx _ _ _ n8;obtain⟨g1,g2,g3⟩:=stays I8;exact hf' s8 ⟨m',hm,i+1,ys8,its8,nn8,σ8,H8,w8,g3,g1,g2,rv8,hz8⟩
 exact codeAny_compStart_list (loop _ rfl) (T.self _ 0 _ _ _ (T.keep _ _ _ st2 λb _ o e=>old b o e) (loop _ rfl))
def J3{elt tg iter:Expr}{ifs:ZZ}{rest:ZJ}{pos:Pos}{wi:TI}{g:TG}{tt:TT}{tr:TL}(B:dO X scope x vs NB ix)(hc:X.calm=true)(hi:PI X tg iter wi)(hg:∀(C c:Addr)(s:Shared)(H:Hp)(fp:ZX),PG (X.bg scope x C c NB s H fp) tg g)(ht:∀(C c:Addr)(s:Shared)(H:Hp)(fp:ZX),qi (X.bg scope x C c NB s H fp) ifs tt)(hr:∀(C c:Addr)(s:Shared)(H:Hp)(fp:ZX)(D:Addr),PL (X.bg scope x C c NB s H fp) D elt (⟨tg,iter,ifs,0⟩::rest) scope pos 1 tr)(ha:∀g∈rest,g.is_async=0:=by decide)(hs:∀v,foldedSetIterable iter X.env v=pure v:=by intro _;rfl):PE X (.ListComp elt (⟨tg,iter,ifs,0⟩::rest) scope pos) (oA wi vs.length ix g tt tr):=by intro pins s U H Q I h;rw[eval_ListComp];refine Yt (use:=none) rfl hs (B.clos I) B.kind B.names (aU (hi pins s U H _ I h) λv s1 h1=>aU h1 λitv s2 h2=>?_);obtain⟨it,fp,tn,J,H2,e,I2,T,st2,f2,w⟩:=h2;subst e;refine D0 (Qr:=Q) (RR:=λacc C=>compPost (model X.prog X.w) X.A X.xe none (EP X pins U Q) acc C) B hc hg ht hr ha I2 T st2 f2 w λD C Hf s' m' I' hn' fC q=>?_;refine⟨m',hn',λh'' hs''=>⟨.ref D,Hf,?_,rfl,q⟩⟩;obtain⟨c0,c1,c2,c3,c4,c5⟩:=fC;exact I'.turned (it:=C) (t':=s'.toks) (λb o hb e=>hs''.extBut b o hb e) c0 c1 c3 c4 c5
end
end L2
namespace Dv
open PySem L2 PySem.W
section
variable{X:Cx}{Ex:XK}{Y cs:Zb}{elt tg iter:Expr}{ifs:ZZ}{scope:Scope}{pos:Pos}
def Ji{cx:Str}{rest:ZJ}{vs NB:Zd}{ix:Zb}{di:DI}{t:Tg}{c:DT}{r:DC}(B:dO X scope cx vs NB ix)(hc:X.calm=true)(hcs:cs.length=vs.length)(hix:∀i∈ix,i<Y.length)(aV:∀c∈cs,c∉Y)(nd:(bO Y cs ix).Nodup)(hi:SI X Ex Y tg iter di)(ht:∀(C c':Addr)(s:Shared)(H:Hp)(fp:ZX),fG (X.bg scope cx C c' NB s H fp) (bO Y cs ix) tg t)(hts:∀i∈t.slots,i∈cs)(hif:∀(C c':Addr)(s:Shared)(H:Hp)(fp:ZX),ig (X.bg scope cx C c' NB s H fp) E0 (bO Y cs ix) ifs c)(hr:∀(C c':Addr)(s:Shared)(H:Hp)(fp:ZX)(D:Addr),SL (X.bg scope cx C c' NB s H fp) (bO Y cs ix) cs D elt (⟨tg,iter,ifs,0⟩::rest) scope pos 1 r)(ha:∀g∈rest,g.is_async=0)(hs:∀v,foldedSetIterable iter X.env v=pure v){w:(V->Hp->Prop)->St->Hp->Prop}(hw:∀{wi:TI}{G:TG}{tt:TT}{tr:TL}{U:St}{H:Hp}{Q:VK},PI X tg iter wi->(∀(C c':Addr)(s:Shared)(H:Hp)(fp:ZX),PG (X.bg scope cx C c' NB s H fp) tg G)->(∀(C c':Addr)(s:Shared)(H:Hp)(fp:ZX),qi (X.bg scope cx C c' NB s H fp) ifs tt)-> (∀(C c':Addr)(s:Shared)(H:Hp)(fp:ZX)(D:Addr),PL (X.bg scope cx C c' NB s H fp) D elt (⟨tg,iter,ifs,0⟩::rest) scope pos 1 tr)->oA wi vs.length ix G tt tr U H Q->w Q U H)(g:Gh)(x:XC)(E:En)(U:St)(H Hm:Hp)(F:Nat->ZX)(P:Ze)(Q:VK)(hx:XL X Ex x g)(R:Rl X.K g E U H Hm F)(p:bJ cs di t c r x E P)(q:∀E' k v u H' Hm' F' fp,P E' k v->Rl X.K g E' U H' Hm' F'->aj Hm Hm'->Tm X.K g F' H' Hm' k u v fp->Q u H'):w Q (sel Y U) H:=by
 obtain⟨wi,hpi,hwi⟩:=hi;refine hw (wi:=wi) (G:=λv U H Q=>∀(C c':Addr)(s:Shared)(H2:Hp)(fp:ZX),WG (X.bg scope cx C c' NB s H2 fp) tg v U H Q) (tt:=λU H Q=>∀(C c':Addr)(s:Shared)(H2:Hp)(fp:ZX),vM (X.bg scope cx C c' NB s H2 fp) ifs U H Q)
  (tr:=λys U H Q=>∀(C c':Addr)(s:Shared)(H2:Hp)(fp:ZX)(D:Addr),WL (X.bg scope cx C c' NB s H2 fp) D elt (⟨tg,iter,ifs,0⟩::rest) scope pos 1 ys U H Q) hpi (λC c' s H2 fp pins s' U H v u Q I r h=>h C c' s H2 fp pins s' u I r) (λC c' s H2 fp pins s' U H Q I h=>h C c' s H2 fp pins s' I)
  (λC c' s H2 fp D h1 h2 h3 pins s' U H ys its nn Q fin Qf E hp I rv hz h hf=>h C c' s H2 fp D h1 h2 h3 pins s' its nn fin Qf E hp I rv hz hf) ?_
 refine hwi g x E U H Hm F _ _ hx R p λE1 xs J H1 Hm1 F1 p1 R1 s1 it1=>?_;obtain⟨E0',I,hcl,i0,step,fin⟩:=p1;obtain⟨σ0,F0,R0,a0,n0⟩:=R1.bE hcl;rw[<-hcs,we hix aV a0 λc hc=>(n0 c hc).1];refine uy (cs:=cs) (t:=t) (c:=c) (r:=r) hts it1 R0 .nil i0 (λh1 h2 h3 h4 C c' s H2 fp=>?_) (λh1 h2 h3 C c' s H2 fp=>(hif C c' s H2 fp).ok XL.no h1 h2 h3) (λh1 h2 h3 h4 C c' s H2 fp D=>hr C c' s H2 fp D g _ _ _ _ _ _ _ _ _ h1 h2 h3 h4) step λE' dys' ys' σ' H' Hm' F' i R' s' r' a' p hp=>?_;{obtain⟨G,g1,g2⟩:=rT (X:=X.bg scope cx C c' NB s H2 fp) hc B.nd nd (ht C c' s H2 fp);exact WG.of g1 (g2 h1 h2 h3 h4)};obtain⟨E2,hcl2,p2⟩:=fin _ _ i;obtain⟨σ2,F2,R2,a2,n2⟩:=R'.bE hcl2;have R3:=R2.agree (cs:=cs) ((a0.trans a').trans a2).symm λc hc=>(n2 c hc).2;have s2:=cH (o:=.lst ys') hp;have R4:=R3.grow (H':=upd H' p (.lst ys')) s2 (aj.refl _) (R3.sub.trans s2) (λi a ha=>R3.off i a ha) λ_ _=>.inl rfl;refine q _ _ _ _ _ Hm' F2 [p] p2 R4 (s1.trans s') ⟨.ow aH r',λa ha=>?_,λa ha i=>?_,λa ha=>?_⟩;{rw[U8.mp ha];exact R3.oF hp};{rw[U8.mp ha];exact R3.fresh hp};rw[U8.mp ha];exact R3.gj hp
def PR{rest:ZJ}{vs NB:Zd}{ix:Zb}{di:DI}{t:Tg}{c:DT}{r:DC}(B:cX X scope vs NB ix)(hc:X.calm=true)(hcs:cs.length=vs.length)(hix:∀i∈ix,i<Y.length)(aV:∀c∈cs,c∉Y)(nd:(bO Y cs ix).Nodup)(hi:SI X Ex Y tg iter di)(ht:∀(C:Addr)(s:Shared)(H:Hp)(fp:ZX),fG (X.block scope C NB s H fp) (bO Y cs ix) tg t)(hts:∀i∈t.slots,i∈cs)(hif:∀(C:Addr)(s:Shared)(H:Hp)(fp:ZX),ig (X.block scope C NB s H fp) E0 (bO Y cs ix) ifs c)(hr:∀(C:Addr)(s:Shared)(H:Hp)(fp:ZX)(D:Addr),SL (X.block scope C NB s H fp) (bO Y cs ix) cs D elt (⟨tg,iter,ifs,0⟩::rest) scope pos 1 r)(ha:∀g∈rest,g.is_async=0)(hs:∀v,foldedSetIterable iter X.env v=pure v):SE X Ex Y (.ListComp elt (⟨tg,iter,ifs,0⟩::rest) scope pos) (bJ cs di t c r):=λg x E U H Hm F P Q hx R p q=>
 B9 B hc hcs hix aV nd hi ht hts hif hr ha hs (w:=λQ U H=>WE X (.ListComp elt (⟨tg,iter,ifs,0⟩::rest) scope pos) U H Q) (λh1 h2 h3 h4 h5=>WE.of (J5 B hc h1 h2 h3 h4 ha hs) h5) g x E U H Hm F P Q hx R p q
def Rh{j:Nat}{y:Str}{py spos:Pos}(hN:X.N.Nodup)(hj:X.N[j]?=some y)(hy:X.env.scope.names.lookup y=some .local){rest:ZJ}{vs NB:Zd}{ix:Zb}{di:DI}{t:Tg}{c:DT}{r:DC}(B:cX X scope vs NB ix)(hc:X.calm=true)(hcs:cs.length=vs.length)(hix:∀i∈ix,i<(aT X).length)(aV:∀c∈cs,c∉aT X)(nd:(bO (aT X) cs ix).Nodup)(hi:SI X Ex (aT X) tg iter di)(ht:∀(C:Addr)(s:Shared)(H:Hp)(fp:ZX),fG (X.block scope C NB s H fp) (bO (aT X) cs ix) tg t)(hts:∀i∈t.slots,i∈cs)(hif:∀(C:Addr)(s:Shared)(H:Hp)(fp:ZX),ig (X.block scope C NB s H fp) E0 (bO (aT X) cs ix) ifs c)(hr:∀(C:Addr)(s:Shared)(H:Hp)(fp:ZX)(D:Addr),SL (X.block scope C NB s H fp) (bO (aT X) cs ix) cs D elt (⟨tg,iter,ifs,0⟩::rest) scope pos 1 r)(ha:∀g∈rest,g.is_async=0)(hs:∀v,foldedSetIterable iter X.env v=pure v)(hsw:swapsWith (.ListComp elt (⟨tg,iter,ifs,0⟩::rest) scope pos) (some (.Name y py)) spos.line X.env=pure true):S1 X Ex (.Assign [.Name y py] (.ListComp elt (⟨tg,iter,ifs,0⟩::rest) scope pos) spos) (aN j (bJ cs di t c r)):=by
 rw[vV];intro g D' E U H Hm F D hx R p nx rt;refine B9 B hc hcs hix aV nd hi ht hts hif hr ha hs (w:=λQ τ H=>(Q=λu H1=>D.nx (τ.set j (some u)) H1)->WS X (.Assign [.Name y py] (.ListComp elt (⟨tg,iter,ifs,0⟩::rest) scope pos) spos) D τ H)
  (λh1 h2 h3 h4 h5 e=>by
   subst e;exact WS.of (Ba hN hj hy B hc h1 h2 h3 h4 hsw ha hs) h5) g D'.xc E U H Hm F _ _ hx R p (λE' k v u H' Hm' F' fp p' R' s' T=>?_) rfl
 rw[lA Vh (gU (bB hj)) (R'.len▸i8 p'.1)];exact nx _ _ _ _ _ p'.2 (R'.put T p'.1) s'
def QI{cx:Str}{rest:ZJ}{vs NB:Zd}{ix:Zb}{di:DI}{t:Tg}{c:DT}{r:DC}(B:dO X scope cx vs NB ix)(hc:X.calm=true)(hcs:cs.length=vs.length)(hix:∀i∈ix,i<Y.length)(aV:∀c∈cs,c∉Y)(nd:(bO Y cs ix).Nodup)(hi:SI X Ex Y tg iter di)(ht:∀(C c':Addr)(s:Shared)(H:Hp)(fp:ZX),fG (X.bg scope cx C c' NB s H fp) (bO Y cs ix) tg t)(hts:∀i∈t.slots,i∈cs)(hif:∀(C c':Addr)(s:Shared)(H:Hp)(fp:ZX),ig (X.bg scope cx C c' NB s H fp) E0 (bO Y cs ix) ifs c)(hr:∀(C c':Addr)(s:Shared)(H:Hp)(fp:ZX)(D:Addr),SL (X.bg scope cx C c' NB s H fp) (bO Y cs ix) cs D elt (⟨tg,iter,ifs,0⟩::rest) scope pos 1 r)(ha:∀g∈rest,g.is_async=0)(hs:∀v,foldedSetIterable iter X.env v=pure v):SE X Ex Y (.ListComp elt (⟨tg,iter,ifs,0⟩::rest) scope pos) (bJ cs di t c r):=λg x E U H Hm F P Q hx R p q=>
 Ji B hc hcs hix aV nd hi ht hts hif hr ha hs (w:=λQ U H=>WE X (.ListComp elt (⟨tg,iter,ifs,0⟩::rest) scope pos) U H Q) (λh1 h2 h3 h4 h5=>WE.of (J3 B hc h1 h2 h3 h4 ha hs) h5) g x E U H Hm F P Q hx R p q
end
def Aj(K:Frag)(f:DM)(r:V->List V->Hp->VK->Prop):Prop:=∀(H Hm:Hp)(a:Addr)(xs:List V)(ds:ZU)(vs:List V)(args:ZU)(P:ZU->PyData->Prop)(Q:VK),H a=some (.lst xs)->Hm a=none->aj Hm H->aC K Hm xs ds->aC K Hm vs args->f ds args P->
 (∀ys new u v,P new v->aC K Hm ys new->Rp K Hm u v->Q u (upd H a (.lst ys)))->r (.ref a) vs H Q
theorem FD:∀{es:List DE}{os:Zf}{vs:List V}{ds:ZU},Got K U Hm (es.map .ev) os vs->fill (es.map .ev) E os=some ds->aC K Hm vs ds
 |[],_,_,_,.nil,h=>by cases h;exact .nil
 |e::es,_,_,_,.ev (os:=os) r G,h=>by
  have h:(fill (es.map .ev) E os).map (_::·)=some _:=h;cases hf:fill (es.map .ev) E os with
  |none=>rw[hf]at h;cases h
  |some ds=>rw[hf]at h;cases h;exact .cons r (FD G hf)
inductive sX(X:Cx)(Ex:XK)(Y:Zb):ZZ->List DE->Prop
 |nil:sX X Ex Y [] []
 |cons {e:Expr}{d:DE}{es:ZZ}{ds:List DE}:SE X Ex Y e d->sX X Ex Y es ds->sX X Ex Y (e::es) (d::ds)
def sX.as(h:sX X Ex Y es ds):aY X Ex Y es (ds.map .ev):=by
 induction h with
 |nil=>exact .nil
 |cons h _ ih=>exact .ev h ih
def HW(ns:es.all noStar=true)(l:es.length<30):((backTo cpos (starEach es env)).all (λx=>!x.1)&&(backToKw cpos (keywordEach [] env)).all (λx=>x.1.isSome)&&decide (es.length+([]:List Keyword).length+(if([]:List Keyword).isEmpty then 0 else 1)<30))=true:=by have h:=iP (pos:=cpos) (env:=env) ns;rw[YZ]at h;rw[UJ,UJ,US];refine⟨⟨λx hx=>by simpa using h x hx,rfl⟩,V6 ?_⟩;show es.length+0+0<30;lia
section
variable{X:Cx}{Ex:XK}{Y:Zb}
def JD{i:Nat}(h:jU E i=true):∃p ds,E[i]?=some (some (.ow p,.list ds)):=by unfold jU at h;split at h;{rename_i p ds e;exact⟨p,ds,e⟩};cases h
def Rn{x name:Str}{id:String}{p apos cpos:Pos}{es:ZZ}{ds:List DE}{f:DM}{r:V->List V->Hp->VK->Prop}{i j:Nat}(hm:vP X id r)(D:Aj X.K f r)(slot:Slot "list" name id)(hty:typeOf (.builtin id)=pure (.type "method_descriptor"))(hv:PE X (.Name x p) (jK j))(hj:Y[j]?=some i)(ns:es.all noStar=true)(l30:es.length<30)(hline:(apos.endLine==cpos.line)=true)(S:sX X Ex Y es ds):SE X Ex Y (.Call (.Attribute (.Name x p) name apos) es [] cpos) (qh f i ds):=by
 intro g xc E U H Hm F P Q hx R h q;replace h:bK (jU E i) _:=h;rw[eF]at h;obtain⟨ho,h⟩:=h;obtain⟨p0,ds0,e0⟩:=JD ho;obtain⟨v,h1,h2⟩:=R.slot i _ _ e0;have hs1:=cY hj h1;have fin:∀a xs0,v=.ref a->H a=some (.lst xs0)->yc X es (sel Y U) H λvs H2=>r (.ref a) vs H2 Q:=λa xs0 ev _=>by
  subst ev;refine oG hx S.as R h λE1 os vs H1 Hm1 F1 p1 R1 s1 G=>?_;replace p1:FL f i (ds.map .ev) E1 os P:=p1;unfold FL at p1;rw[<-bS,gP]at p1;obtain⟨args,hf,p1⟩:=p1;split at p1
  rotate_left
  .exact p1.elim
  rename_i p1' ds1 e1;have ra:=FD G hf;obtain⟨v',g1,g2⟩:=R1.slot i _ _ e1;rw[h1]at g1;cases g1;generalize hfi:F1 i=fi at g2;cases g2 with
  |@ow _ _ xs1 _ ha1 hr1=>refine D H1 Hm1 a xs1 ds1 vs args _ Q ha1 (R1.off i a (by rw[hfi];exact U1)) R1.sub hr1 ra p1 λys new u v p2 ry ru=>?_;obtain⟨a',xs',k1,k2,k3,k4,R2⟩:=R1.chg e1 ry;rw[h1]at k1;cases k1;exact q _ _ _ _ _ _ _ [] p2 R2 s1 (Tm.sh ru)
 generalize hfi:F i=fi at h2;cases h2 with
 |@ow _ a xs _ ha hr=>
  cases es with
  |nil=>exact WE.of (OI YH slot hty hm hv rfl hline) ⟨_,hs1,.inl ⟨rfl,_,bI.of ha⟩,fin a xs rfl ha⟩
  |cons e es=>have ns':=ns;rw[UU,UJ]at ns';exact WE.of (yO YH slot hty hm hv (eW ns) rfl (HW ns l30) hline (bQ ns'.1) (iP ns'.2)) ⟨_,hs1,.inl ⟨rfl,_,bI.of ha⟩,fin a xs rfl ha⟩
def eO:DM:=λds args P=>match args with
 |[d]=>ds.length<sizeLine/\P (ds++[d]) .none
 |_=>False
def fV:Aj K eO C5:=by intro H Hm a xs ds vs args P Q ha _ s r ra h q;unfold eO at h;split at h;{obtain⟨x,rfl,h1⟩:=dR ra;exact⟨a,xs,x,rfl,rfl,ha,by rw[r.len];exact h.1,q _ _ _ _ h.2 (r.snoc h1) .bw⟩};exact h.elim
inductive xx(K:Frag) (x:V)(vs:List V)(H:Hp)(Q:VK):Prop
 |mk:∀l b xs zs,(x=.ref l)->(vs=[.ref b])->(H l=some (.lst xs))->(cu K H b zs)->(xs.length+zs.length<=sizeLine)->(Q .bw (upd H l (.lst (xs++zs))))->xx K x vs H Q
def zy(K:Frag):V->List V->Hp->VK->Prop:=λx vs H Q=>xx K x vs H Q
open PyProof.Rows in
def DG:vP X "list.extend" (zy X.K):=by
 intro pins s U H x vs v us Q I rx rv h;obtain⟨l,b,xs,zs,rfl,rfl,hH,hB,hz,q⟩:=h;cases rx;obtain⟨u,rfl,ru⟩:=rv.one;cases ru;obtain⟨z,its,n,r,hl,e⟩:=I.zm hH;obtain⟨z2,its2,n2,r2,e2⟩:=hB.get I;have hl2:=r2.length;have hsz:its.toArray.size+its2.toArray.size<=sizeLine:=by rw[UO,UO];lia
 have hlong:¬(!its.toArray.isEmpty&&Builtin.List.listTooLong (its.toArray.size+its2.toArray.size))=true:=by rw[tR hsz,Bool.and_false];exact V5
 refine Wj F.slot_list_extend ⟨_,e,rfl⟩ F.entry_list_extend (F.args_list_extend_2 _ _)
  (AutoSeq1.list_extend_list_list_0 l its.toArray n b its2.toArray n2 hlong (by rw[UO];lia) (by lia)) ⟨e,e2,?_⟩
 refine⟨.bw,_,I.yX (its':=its++its2) hH e (by simp) (r.append r2) ?_,rfl,q⟩;rw[UR];lia
def sC:DM:=λds args P=>match args with
 |[.list es]=>ds.length+es.length<=sizeLine/\P (ds++es) .none
 |_=>False
def EB:Aj K sC (zy K):=by intro H Hm a xs ds vs args P Q ha _ s r ra h q;unfold sC at h;split at h;{obtain⟨x,rfl,h1⟩:=dR ra;obtain⟨b,zs,rfl,hb,r2⟩:=dX h1;exact⟨a,b,xs,zs,rfl,rfl,ha,cu.mono s hb,by rw[r.len,r2.len];exact h.1,q _ _ _ _ h.2 (r.app r2) .bw⟩};exact h.elim
theorem aC.dropLast(r:aC K H vs ds):aC K H vs.dropLast ds.dropLast:=by rw[List.dropLast_eq_take,List.dropLast_eq_take,r.len];exact r.take _
theorem aC.erase:∀{vs:List V}{ds:ZU} (i:Nat),aC K H vs ds->aC K H (vs.eraseIdx i) (ds.eraseIdx i)
 |_,_,_,.nil=>.nil
 |_,_,0,.cons _ r=>r
 |_,_,i+1,.cons h r=>.cons h (r.erase i)
def wL:DM:=λds args P=>match args with
 |[]=>∃d,ds[ds.length-1]?=some d/\P ds.dropLast d
 |[.int i]=>(-(2^63)<=i/\i<2^63)/\∃n d,seqIndex? i ds.length=some n/\ds[n]?=some d/\P (ds.eraseIdx n) d
 |_=>False
def Cb:vP X "list.pop" λx vs H Q=>IP x vs H Q\/zN x vs H Q:=λpins s U H x xs v us Q I a b z=>z.elim (Qk pins s U H x xs v us Q I a b) (IV pins s U H x xs v us Q I a b)
def CB:Aj K wL λx vs H Q=>IP x vs H Q\/zN x vs H Q:=by intro H Hm a xs ds vs args P Q ha _ s r ra h q;unfold wL at h;split at h;{cases ra;obtain⟨d,e,h⟩:=h;obtain⟨v,ev,rv⟩:=r.get e;refine .inl ⟨a,xs,v,rfl,rfl,ha,by rw[r.len];exact ev,q _ _ _ _ h r.dropLast rv⟩};{obtain⟨x,rfl,h1⟩:=dR ra;cases h1;obtain⟨⟨b1,b2⟩,n,d,e1,e2,h⟩:=h;obtain⟨v,ev,rv⟩:=r.get e2;exact .inr ⟨a,xs,_,n,v,rfl,rfl,ha,b1,b2,by rw[r.len];exact e1,ev,q _ _ _ _ h (r.erase n) rv⟩};exact h.elim
end
def pQ:bC a=bC b↔a=b:=by cases a<;>cases b<;>simp[bC]
theorem xm:∀{a b:List Key},a.map bC=b.map bC↔a=b
 |[],[]=>by simp
 |[],_::_=>by simp
 |_::_,[]=>by simp
 |a::as,b::bs=>by simp[pQ,xm (a:=as) (b:=bs)]
def uf{a b:List Key}:PyData.tuple (a.map bC)=.tuple (b.map bC)↔a=b:=by rw[PyData.tuple.injEq];exact xm
def sf(h:oj w=true):∃k,w=bC k:=by
 cases w with
 |int i=>exact⟨.inl i,rfl⟩
 |str x=>exact⟨.inr x,rfl⟩
 |_=>cases h
theorem kq:∀{ks:ZU},ks.all oj=true->∃k:List Key,ks=k.map bC
 |[],_=>⟨[],rfl⟩
 |w::ks,h=>by rw[UU,UJ]at h;obtain⟨k,rfl⟩:=sf h.1;obtain⟨l,rfl⟩:=kq h.2;exact⟨k::l,rfl⟩
section
variable{K:Frag}{H:Hp}
def ve(r:Rp K H u (bC k)):u=kV k:=by
 cases k with
 |inl i=>have r:Rp K H u (.int i):=r;cases r;rfl
 |inr x=>have r:Rp K H u (.str x):=r;cases r;rfl
theorem uw:∀{us:List V}{k:List Key},aC K H us (k.map bC)->us=k.map kV
 |_,[],r=>by cases r;rfl
 |_,k::ks,r=>by
  cases r with
  |cons h t=>rw[ve h,uw t];rfl
def wR{k:List Key}(r:Rp K H u (.tuple (k.map bC))):∃b,u=.ref b/\H b=some (.tup (k.map kV)):=by
 cases r with
 |tup a r=>exact⟨_,rfl,by rw[<-uw r];exact a⟩
theorem fM.len:∀{kvs:List (Key×V)}{ds:ZG},fM K H kvs ds->kvs.length=ds.length
 |_,_,.nil=>rfl
 |_,_,.cons _ r=>congrArg (·+1) r.len
theorem fL.len:∀{kvs:List (List Key×V)}{ds:ZG},fL K H kvs ds->kvs.length=ds.length
 |_,_,.nil=>rfl
 |_,_,.cons _ r=>congrArg (·+1) r.len
theorem fM.val:∀{kvs:List (Key×V)}{ds:ZG},fM K H kvs ds->(dZ ds (bC k)=none/\cA kvs k=none)\/∃v d,cA kvs k=some v/\dZ ds (bC k)=some d/\Rp K H v d
 |_,_,.nil=>.inl ⟨rfl,rfl⟩
 |_,_,.cons (k:=k') (v:=v) (d:=d) (kvs:=kvs) (ds:=ds) h r=>by
  by_cases c:k'=k;{subst c;exact .inr ⟨v,d,by unfold cA;rw[Xh (by simp)];rfl,by unfold dZ;rw[Xh (by simp)];rfl,h⟩};have c':¬bC k'=bC k:=λz=>c (pQ.mp z);have e1:cA ((k',v)::kvs) k=cA kvs k:=by unfold cA;rw[Xi (by simpa using c)]
  have e2:dZ ((bC k',d)::ds) (bC k)=dZ ds (bC k):=by unfold dZ;rw[Xi (by simpa using c')]
  rw[e1,e2];exact r.val
theorem fL.val:∀{kvs:List (List Key×V)}{ds:ZG},fL K H kvs ds->(dZ ds (.tuple (k.map bC))=none/\cA kvs k=none)\/∃v d,cA kvs k=some v/\dZ ds (.tuple (k.map bC))=some d/\Rp K H v d
 |_,_,.nil=>.inl ⟨rfl,rfl⟩
 |_,_,.cons (k:=k') (v:=v) (d:=d) (kvs:=kvs) (ds:=ds) h r=>by
  by_cases c:k'=k;{subst c;exact .inr ⟨v,d,by unfold cA;rw[Xh (by simp)];rfl,by unfold dZ;rw[Xh (by simp)];rfl,h⟩};have c':¬PyData.tuple (k'.map bC)=.tuple (k.map bC):=λz=>c (uf.mp z);have e1:cA ((k',v)::kvs) k=cA kvs k:=by unfold cA;rw[Xi (by simpa using c)]
  have e2:dZ ((.tuple (k'.map bC),d)::ds) (.tuple (k.map bC))=dZ ds (.tuple (k.map bC)):=by unfold dZ;rw[Xi (by simpa using c')]
  rw[e1,e2];exact r.val
theorem fM.any:∀{kvs:List (Key×V)}{ds:ZG},fM K H kvs ds->(kvs.any λkv=>decide (kv.1=k))=ds.any λkv=>decide (kv.1=bC k)
 |_,_,.nil=>rfl
 |_,_,.cons (k:=k') h r=>by rw[Wl,Wl,r.any,decide_eq_decide.mpr (pQ (a:=k') (b:=k)).symm]
theorem fL.any{k:List Key}:∀{kvs:List (List Key×V)}{ds:ZG},fL K H kvs ds->(kvs.any λkv=>decide (kv.1=k))=ds.any λkv=>decide (kv.1=.tuple (k.map bC))
 |_,_,.nil=>rfl
 |_,_,.cons (k:=k') h r=>by rw[Wl,Wl,r.any,decide_eq_decide.mpr (uf (a:=k') (b:=k)).symm]
theorem fM.app(k:Key)(h:Rp K H v d):∀{kvs:List (Key×V)}{ds:ZG},fM K H kvs ds->fM K H (kvs++[(k,v)]) (ds++[(bC k,d)])
 |_,_,.nil=>.cons h .nil
 |_,_,.cons g r=>.cons g (r.app k h)
theorem fL.app(k:List Key)(h:Rp K H v d):∀{kvs:List (List Key×V)}{ds:ZG},fL K H kvs ds->fL K H (kvs++[(k,v)]) (ds++[(.tuple (k.map bC),d)])
 |_,_,.nil=>.cons h .nil
 |_,_,.cons g r=>.cons g (r.app k h)
def fM.put(k:Key)(h:Rp K H v d)(r:fM K H kvs ds):fM K H (putK kvs k v) (putD ds (bC k) d):=by
 unfold putK putD;rw[r.any (k:=k)];split
 .have go:∀{kvs:List (Key×V)}{ds:ZG},fM K H kvs ds->fM K H (kvs.map λkv=>if kv.1=k then(kv.1,v)else kv) (ds.map λkv=>if kv.1=bC k then(kv.1,d)else kv):=by
   intro kvs;induction kvs with
   |nil=>intro ds r;cases r;exact .nil
   |cons p kvs ih=>
    intro ds r;cases r with
    |@cons k' v' d' _ ds g r=>rw[UI,UI];by_cases c:k'=k;{rw[if_pos c,if_pos (congrArg bC c)];exact .cons h (ih r)};rw[if_neg c,if_neg λz=>c (pQ.mp z)];exact .cons g (ih r)
  exact go r
 exact r.app k h
def fL.put(k:List Key)(h:Rp K H v d)(r:fL K H kvs ds):fL K H (putK kvs k v) (putD ds (.tuple (k.map bC)) d):=by
 unfold putK putD;rw[r.any (k:=k)];split
 .have go:∀{kvs:List (List Key×V)}{ds:ZG},fL K H kvs ds->fL K H (kvs.map λkv=>if kv.1=k then(kv.1,v)else kv) (ds.map λkv=>if kv.1=.tuple (k.map bC)then(kv.1,d)else kv):=by
   intro kvs;induction kvs with
   |nil=>intro ds r;cases r;exact .nil
   |cons p kvs ih=>
    intro ds r;cases r with
    |@cons k' v' d' _ ds g r=>rw[UI,UI];by_cases c:k'=k;{rw[if_pos c,if_pos (by rw[c])];exact .cons h (ih r)};rw[if_neg c,if_neg λz=>c (uf.mp z)];exact .cons g (ih r)
  exact go r
 exact r.app k h
end
section
variable{X:Cx}{Ex:XK}{Y:Zb}
inductive Lp(neg:Bool) (x:V) (y:V)(H:Hp)(Q:VK):Prop
 |mk:∀a o,(y=.ref a)->(jF H a x o)->(Q (.bl (if neg then !o.isSome else o.isSome)) H)->Lp neg x y H Q
def O4(neg:Bool):R2:=λx y H Q=>Lp neg x y H Q
def NP(hu:X.A.units+64<cLine):b9 X (compareOp .In) (O4 false):=by intro pins s U H x y v u Q I rx ry h;obtain⟨a,o,rfl,g,q⟩:=h;cases ry;exact Ti (by lia) I g rx λs3 I3=>⟨.bl o.isSome,H,I3,rfl,q⟩
def lJ(neg:Bool):DR:=λds P=>BK (λx y=>match y,x with
 |.dict ((.none,.none)::kvs),.tuple ks=>ks.all oj=true/\P .sh (.bool (if neg then !(dZ kvs (.tuple ks)).isSome else(dZ kvs (.tuple ks)).isSome))
 |.dict kvs,w=>(oj w=true/\ou kvs=true)/\P .sh (.bool (if neg then !(dZ kvs w).isSome else(dZ kvs w).isSome))
 |y,x=>Le neg [x,y] P) ds
def EG(K:Frag)(neg:Bool):R2:=λx y H Q=>Jb K neg x y H Q\/O4 neg x y H Q
def Ii(hu:X.A.units+64<cLine):b9 X (compareOp .In) (EG X.K false):=b9.or (Pf hu) (NP hu)
def tZ(r:Rp K H u (.dict kvs))(h:ou kvs=true):∃a es,u=.ref a/\H a=some (.dK es)/\fM K H es kvs:=by
 cases r with
 |dk a r=>exact⟨_,_,rfl,a,r⟩
 |dt a r=>cases h
 |exc _ _=>cases h
def Iq(r:Rp K H u (.dict ((.none,.none)::kvs))):∃a es,u=.ref a/\H a=some (.dT es)/\fL K H es kvs:=by
 generalize e:((PyData.none,PyData.none)::kvs)=ds at r;cases r with
 |dk a r=>
  cases r with
  |nil=>cases e
  |@cons k _ _ _ _ _ _=>cases k<;>cases e
 |dt a r=>cases e;exact⟨_,_,rfl,a,r⟩
 |exc _ _=>cases e
def C9(neg:Bool):cU K (lJ neg) (r2 (EG K neg)):=by
 intro H Hm vs ds P Q s r h q;obtain⟨x,y,w,d,rfl,rfl,h1,h2,h⟩:=rA r h;have dflt:Le neg [w,d] P->r2 (EG K neg) [x,y] H Q:=λh=>.inl (O1 neg H Hm _ _ P Q s r h q);have alt:∀kvs,d=.dict kvs->((oj w=true/\ou kvs=true)/\P .sh (.bool (if neg then !(dZ kvs w).isSome else(dZ kvs w).isSome)))->r2 (EG K neg) [x,y] H Q:=λkvs e hz=>by
  subst e;obtain⟨⟨hk,hp⟩,hz⟩:=hz;obtain⟨k,rfl⟩:=sf hk;cases ve h1;obtain⟨a,es,rfl,ha,rt⟩:=tZ h2 hp;refine .inr ⟨a,_,rfl,jF.k (s _ _ ha),?_⟩;have e:(cA es k).isSome=(dZ kvs (bC k)).isSome:=by rcases rt.val (k:=k)with⟨e1,e2⟩|⟨v,d,e1,e2,_⟩;{rw[e1,e2];rfl};rw[e1,e2];rfl
  rw[e];exact bM.sc q s hz (.bl _)
 have h2':=h2;cases h2' with
 |dk _ rk=>
  cases rk with
  |nil=>exact alt _ rfl h
  |@cons k _ _ _ _ _ _=>cases k<;>exact alt _ rfl h
 |exc _ _=>exact alt _ rfl h
 |@dt _ _ kvs _ _=>
  cases w with
  |tuple ks=>
   obtain⟨k,rfl⟩:=kq h.1;obtain⟨b,rfl,hb⟩:=wR h1;obtain⟨a,es,e,ha,rt⟩:=Iq h2;cases e;refine .inr ⟨_,_,rfl,jF.t (s _ _ ha) (s _ _ hb),?_⟩;have e:(cA es k).isSome=(dZ kvs (.tuple (k.map bC))).isSome:=by rcases rt.val (k:=k)with⟨e1,e2⟩|⟨v,d,e1,e2,_⟩;{rw[e1,e2];rfl};rw[e1,e2];rfl
   rw[e];exact bM.sc q s h.2 (.bl _)
  |_=>exact alt _ rfl h
 |_=>exact dflt h
inductive Lh(x:V) (y:V)(H:Hp)(Q:VK):Prop
 |mk:∀a v,(x=.ref a)->(jF H a y (some v))->(Q v H)->Lh x y H Q
def Qo:R2:=λx y H Q=>Lh x y H Q
def Nm(hu:X.A.units+64<cLine):qb X Qo:=by intro value slice pins s U H x y v u Q I rx ry h hs;obtain⟨a,w,rfl,g,q⟩:=h;cases rx;exact PyProof.Rows.tail_any (BD I g) PySem.F.slot_dict_getitem.lookup (Fx (by lia) I g ry λw' s3 I3 rw'=>⟨w,H,I3,rw',q⟩) hs
def atK(xs:ZU) (i:Int):Option PyData:=match i with
 |.ofNat n=>xs[n]?
 |.negSucc n=>fh xs (.negSucc n)
def uX{xs:ZU}{i:Int}:atK xs i=fh xs i:=by
 cases i with
 |ofNat n=>unfold atK fh qc;show xs[n]?=_;rw[if_pos (show(0:Int)<=Int.ofNat n from Xn n)];by_cases h:n<xs.length;{rw[if_pos (show Int.ofNat n<(xs.length:Int)from Ww.mpr h)];rfl};rw[if_neg (show ¬Int.ofNat n<(xs.length:Int)from λz=>h (Ww.mp z))];exact VD (Xz h)
 |negSucc n=>rfl
def b7:DR:=λds P=>BK (λx y=>match x,y with
 |.list xs,.int i=>aL (atK xs i) (P .sh)
 |.tuple xs,.int i=>aL (atK xs i) (P .sh)
 |.dict ((.none,.none)::kvs),.tuple ks=>ks.all oj=true/\∃d,dZ kvs (.tuple ks)=some d/\P .sh d
 |.dict kvs,w=>(oj w=true/\ou kvs=true)/\∃d,dZ kvs w=some d/\P .sh d
 |x,y=>KQ [x,y] P) ds
def DB(K:Frag):R2:=λx y H Q=>N5 K x y H Q\/Qo x y H Q
def S6(hu:X.A.units+64<cLine):qb X (DB X.K):=Ig.or (Nm hu)
def MR:cU K b7 (r2 (DB K)):=by
 intro H Hm vs ds P Q s r h q;obtain⟨x,y,d,w,rfl,rfl,h2,h1,h⟩:=rA r h;have dflt:KQ [d,w] P->r2 (DB K) [x,y] H Q:=λh=>.inl (Q8 H Hm _ _ P Q s r h q);have alt:∀kvs,d=.dict kvs->((oj w=true/\ou kvs=true)/\∃d,dZ kvs w=some d/\P .sh d)->r2 (DB K) [x,y] H Q:=λkvs e hz=>by subst e;obtain⟨⟨hk,hp⟩,d,hv,hz⟩:=hz;obtain⟨k,rfl⟩:=sf hk;cases ve h1;obtain⟨a,es,rfl,ha,rt⟩:=tZ h2 hp;rcases rt.val (k:=k)with⟨e1,e2⟩|⟨v,d',e1,e2,rv⟩;{rw[e1]at hv;cases hv};rw[e2]at hv;cases hv;exact .inr ⟨a,v,rfl,by rw[<-e1];exact jF.k (s _ _ ha),bM.sc q s hz rv⟩
 have h2':=h2;cases h2' with
 |lst _ _=>
  cases w with
  |int i=>have h:aL (atK _ i) (P .sh):=h;rw[uX,<-bS]at h;exact dflt h
  |_=>exact dflt h
 |tup _ _=>
  cases w with
  |int i=>have h:aL (atK _ i) (P .sh):=h;rw[uX,<-bS]at h;exact dflt h
  |_=>exact dflt h
 |dk _ rk=>
  cases rk with
  |nil=>exact alt _ rfl h
  |@cons k _ _ _ _ _ _=>cases k<;>exact alt _ rfl h
 |exc _ _=>exact alt _ rfl h
 |dt _ _=>
  cases w with
  |tuple ks=>obtain⟨hk,d,hv,hz⟩:=h;obtain⟨k,rfl⟩:=kq hk;obtain⟨b,rfl,hb⟩:=wR h1;obtain⟨a,es,e,ha,rt⟩:=Iq h2;cases e;rcases rt.val (k:=k)with⟨e1,e2⟩|⟨v,d',e1,e2,rv⟩;{rw[e1]at hv;cases hv};rw[e2]at hv;cases hv;exact .inr ⟨_,v,rfl,by rw[<-e1];exact jF.t (s _ _ ha) (s _ _ hb),bM.sc q s hz rv⟩
  |_=>exact alt _ rfl h
 |_=>exact dflt h
def eK:DR:=λds P=>match ds with
 |[.dict kvs]=>ou kvs=true/\P .sh (.int kvs.length)
 |ds=>Kc ds P
def IY:cU K eK λxs H Q=>(∃p ys,xs=[.ref p]/\(bI K H p ys\/cP K H p ys)/\Q (.int ys.length) H)\/∃a kvs,xs=[V.ref a]/\H a=some (.dK kvs)/\Q (.int kvs.length) H:=by intro H Hm vs ds P Q s r h q;unfold eK at h;split at h;{obtain⟨x,rfl,h1⟩:=dR r;obtain⟨a,es,rfl,ha,rt⟩:=tZ h1 h.1;exact .inr ⟨a,es,rfl,s _ _ ha,by rw[rt.len];exact bM.sc q s h.2 (.int _)⟩};exact .inl (LD H Hm _ _ P Q s r h q)
def Rl.JC{F:Nat->ZX}(R:Rl K g E U H Hm F){i:Nat}{a:Addr}(e:E[i]?=some (some (k,d)))(hF:F i=[a])(hv:U[i]?=some (some (.ref a)))(new:Own K (upd H a o) Hm k (.ref a) d' [a])(nt:sZ o)(hp:k=.ow true->∃ds,d'=.list ds) : Rl K g (E.set i (some (k,d'))) U (upd H a o) Hm F:=by
 have ma:a∈F i:=by rw[hF];exact U1
 have na:=R.off i a ma;have up:∀b,b≠a->upd H a o b=H b:=λb hb=>aq hb;have li:=bB e;exact {
  len:=by rw[VP];exact R.len
  sub:=λb u hb=>by
   have:b≠a:=λz=>by rw[z,na]at hb;cases hb
   rw[up b this];exact R.sub b u hb
  slot:=λj k' d'' e'=>by
   by_cases c:j=i
   .subst c;rw[aJ li]at e';cases e';exact⟨_,hv,by rw[hF];exact new⟩
   .rw[au (Ne.symm c)]at e';obtain⟨u,g1,g2⟩:=R.slot j k' d'' e';refine⟨u,g1,g2.step (aj.refl _) λb hb=>up b λz=>c (R.aV j i a (z▸hb) ma)⟩
  off:=R.off
  bT:=λj b hb=>by
   by_cases c:b=a
   .rw[c];exact⟨_,aH,nt⟩
   .rw[up b c];exact R.bT j b hb
  aV:=R.aV
  fr:=λq u hq ho=>by
   have:q≠a:=λz=>by
    rcases R.new i a ma with y|y
    .exact hq (z▸y)
    .rw[z,y]at ho;cases ho
   rw[up q this];exact R.fr q u hq ho
  new:=R.new
  pin:=λq hq=>by
   obtain⟨g1,ds',g2⟩:=R.pin q hq
   by_cases c:i=q.1
   .rw[<-c]at g1 g2⊢;rw[e]at g2;cases g2;obtain⟨ds,rfl⟩:=hp rfl;exact⟨g1,ds,aJ li⟩
   .exact⟨g1,ds',by rw[au c];exact g2⟩
  old:=R.old }
def Ld:EU:=λo i v H Q=>KR o i v H Q\/∃a H',o=.ref a/\qO H a i v H'/\Q H'
def RT(hu:X.A.units+64<cLine):Ke X Ld:=by intro pins s U H o i v ov iv u Q I ro ri rv h;rcases h with h|⟨a,H',rfl,g,q⟩;{exact set_list pins s U H o i v ov iv u Q I ro ri rv h};cases ro;exact Ia (by lia) I g ri rv λs' I'=>⟨H',I',q⟩
def MB{F:Nat->ZX}{i:Nat}(R:Rl K g E U H Hm F)(ho:U[i]?=some (some o))(rw':Rp K Hm wv w)(rv:Rp K Hm vv v)(h:jV.setI E i w v Qe)(q:∀E' H',Qe E'->Rl K g E' U H' Hm F->Q H'):Ld o wv vv H Q:=by
 unfold jV.setI at h;split at h
 .rename_i p ds a e;rw[<-bS,Ar]at h;obtain⟨n,hn,h⟩:=h;cases rw';obtain⟨v',h1,h2⟩:=R.slot i _ _ e;rw[ho]at h1;cases h1;generalize hfi:F i=fi at h2;cases h2 with
  |@ow _ b xs _ ha hr=>refine .inl ⟨b,xs,a,n,rfl,rfl,ha,by rw[hr.len];exact hn,q _ _ h ?_⟩;exact R.JC e hfi ho (.ow aH (hr.set rv n)) mC λ_=>⟨_,rfl⟩
 .rename_i p kvs _ e;obtain⟨⟨hk,hl⟩,h⟩:=h;obtain⟨k,rfl⟩:=sf hk;cases ve rw';obtain⟨v',h1,h2⟩:=R.slot i _ _ e;rw[ho]at h1;cases h1;generalize hfi:F i=fi at h2;cases h2 with
  |@dk _ b es _ ha hr=>refine .inr ⟨b,_,rfl,qO.k ha (by rw[hr.len];exact hl),q _ _ h ?_⟩;exact R.JC e hfi ho (.dk aH (hr.put k rv)) xO λz=>by cases z
 .rename_i p kv kvs ks e;obtain⟨⟨hk,hl⟩,h⟩:=h;obtain⟨k,rfl⟩:=kq hk;obtain⟨c,rfl,hc⟩:=wR rw';obtain⟨v',h1,h2⟩:=R.slot i _ _ e;rw[ho]at h1;cases h1;generalize hfi:F i=fi at h2;cases h2 with
  |@dt _ b es _ ha hr=>refine .inr ⟨b,_,rfl,qO.t ha (R.sub _ _ hc) (by rw[hr.len];exact hl),q _ _ h ?_⟩;exact R.JC e hfi ho (.dt aH (hr.put k rv)) tN λz=>by cases z
 exact h.elim
def RB{i jx:Nat}(hu:X.A.units+64<cLine)(hv:PE X (.Name x p) (jK jx))(hj:(aT X)[jx]?=some i)(hs:swapsWithSole [.Subscript (.Name x p) j pos'] e pos.line X.env=pure false)
  (ha:∀v,assign (.Subscript (.Name x p) j pos') X.env v=(do
   let ov <-holding [v] (eval (.Name x p) X.env)
   let iv <-holding [v,ov] (eval j X.env)
   standAt pos'
   holding [v,ov,iv] (setItem ov iv v)
   release [v,ov,iv] []))(hd:SE X Ex (aT X) e de)(hd2:SE X Ex (aT X) j dj):S1 X Ex (.Assign [.Subscript (.Name x p) j pos'] e pos) (jV i dj de):=by
 intro g D' E U H Hm F D hx R pp nx rt;refine WS.of (HP bL (Nz hv bL (RT hu) ha) hs) (hd g D'.xc E U H Hm F _ _ hx R pp λE1 k v u H1 Hm1 F1 fp p1 R1 s1 T=>?_)
 replace p1:bK k.fz _:=p1
 rw[eF,eF]at p1;obtain⟨hk,hh,p1⟩:=p1;obtain⟨Hm2,s2,R2,r2⟩:=T.cL R1 hk;obtain⟨o,ho⟩:=ko R2 hh;refine⟨o,cY hj ho,hd2 g D'.xc E1 U H1 Hm2 F1 _ _ hx R2 p1 λE3 k3 v3 u3 H3 Hm3 F3 fp3 p3 R3 s3 T3=>?_⟩
 replace p3:bK k3.fz _:=p3
 rw[eF]at p3;obtain⟨hk3,p3⟩:=p3;obtain⟨Hm4,s4,R4,r4⟩:=T3.cL R3 hk3;exact MB R4 ho r4 (r2.mono (s3.trans s4)) p3 λE' H' q R'=>nx _ _ _ _ _ q R' (s1.trans (s2.trans (s3.trans s4)))
end
def ini:ZY->ZU->En
 |true::ms,d::ds=>some (.ow true,d)::ini ms ds
 |false::ms,d::ds=>some (.sh,d)::ini ms ds
 |_,_=>[]
def fS:ZY->En->Option (ZU)
 |[],_=>some []
 |true::ms,some (.ow true,.list es)::E=>(fS ms E).map (.list es::·)
 |false::ms,_::E=>fS ms E
 |_,_=>none
def gh:ZY->Nat->ZX->List (Nat×Addr)
 |true::ms,n,a::as=>(n,a)::gh ms (n+1) as
 |false::ms,n,as=>gh ms (n+1) as
 |_,_,_=>[]
def gS:ZY->ZX->List (ZX)
 |true::ms,a::as=>[a]::gS ms as
 |false::ms,as=>[]::gS ms as
 |_,_=>[]
section
variable{K:Frag}{H Hm:Hp}
def Ag.A9(h:Ag K H Hm ms vs ds as):vs.length=ms.length:=by
 induction h with
 |nil=>rfl
 |sh _ _ ih=>rw[UL,UL,ih]
 |mu _ _ _ _ _ ih=>rw[UL,UL,ih]
def Ag.Tj(h:Ag K H Hm ms vs ds as):(ini ms ds).length=vs.length:=by
 induction h with
 |nil=>rfl
 |sh _ _ ih=>rw[ini,UL,UL,ih]
 |mu _ _ _ _ _ ih=>rw[ini,UL,UL,ih]
def Ag.pins(h:Ag K H Hm ms vs ds as):∀n,(gh ms n as).map (·.2)=as:=by
 induction h with
 |nil=>exact λ_=>rfl
 |sh _ _ ih=>exact λn=>ih (n+1)
 |@mu _ _ _ _ a _ _ _ _ _ _ _ ih=>exact λn=>congrArg (a::·) (ih (n+1))
def Ag.slot(h:Ag K H Hm ms vs ds as):∀{i:Nat}{k:Kd}{d:PyData},(ini ms ds)[i]?=some (some (k,d))->∃v,vs[i]?=some v/\Own K H Hm k v d ((gS ms as)[i]?.getD []):=by
 induction h with
 |nil=>intro i k d e;simp[ini]at e
 |@sh ms vs ds as v d r _ ih=>
  intro i k d' e;rw[ini]at e;cases i with
  |zero=>cases e;exact⟨v,rfl,.sh r⟩
  |succ i=>exact ih e
 |@mu ms vs ds as a xs es h1 h2 h3 h4 _ ih=>
  intro i k d' e;rw[ini]at e;cases i with
  |zero=>cases e;exact⟨_,rfl,.ow h1 h2⟩
  |succ i=>exact ih e
def Ag.Kw(h:Ag K H Hm ms vs ds as):(∀(i:Nat) a,a∈(gS ms as)[i]?.getD []->a∈as/\Hm a=none/\∃xs,H a=some (.lst xs))/\∀(i j:Nat) a,a∈(gS ms as)[i]?.getD []->a∈(gS ms as)[j]?.getD []->i=j:=by
 induction h with
 |nil=>exact⟨λi a h=>by simp[gS]at h,λi j a h=>by simp[gS]at h⟩
 |@sh ms vs ds as v d r _ ih=>
  refine⟨λi a h=>?_,λi j a h1 h2=>?_⟩
  .rw[gS]at h;cases i with
   |zero=>simp at h
   |succ i=>exact ih.1 i a h
  rw[gS]at h1 h2;cases i with
  |zero=>simp at h1
  |succ i=>
   cases j with
   |zero=>simp at h2
   |succ j=>exact congrArg (·+1) (ih.2 i j a h1 h2)
 |@mu ms vs ds as a xs es g1 g2 g3 g4 _ ih=>
  refine⟨λi b h=>?_,λi j b h1 h2=>?_⟩
  .rw[gS]at h;cases i with
   |zero=>have h:b∈[a]:=h;rw[U8]at h;subst h;exact⟨U1,g3,xs,g1⟩
   |succ i=>obtain⟨y1,y2⟩:=ih.1 i b h;exact⟨U4 _ y1,y2⟩
  rw[gS]at h1 h2;cases i with
  |zero=>
   have h1:b∈[a]:=h1;rw[U8]at h1;subst h1;cases j with
   |zero=>rfl
   |succ j=>exact absurd (ih.1 j b h2).1 g4
  |succ i=>
   cases j with
   |zero=>have h2:b∈[a]:=h2;rw[U8]at h2;subst h2;exact absurd (ih.1 i b h1).1 g4
   |succ j=>exact congrArg (·+1) (ih.2 i j b h1 h2)
def Ag.pin(h:Ag K H Hm ms vs ds as):∀n,∀q∈gh ms n as,∃i,q.1=n+i/\vs[i]?=some (.ref q.2)/\∃es,(ini ms ds)[i]?=some (some (.ow true,.list es)):=by
 induction h with
 |nil=>exact λn q h=>by cases h
 |@sh ms vs ds as v d r _ ih=>intro n q h;obtain⟨i,e,h1,h2⟩:=ih (n+1) q h;exact⟨i+1,by lia,h1,h2⟩
 |@mu ms vs ds as a xs es g1 g2 g3 g4 _ ih=>intro n q h;have h:q∈(n,a)::gh ms (n+1) as:=h;rcases U6.mp h with rfl|h;{exact⟨0,rfl,rfl,es,rfl⟩};obtain⟨i,e,h1,h2⟩:=ih (n+1) q h;exact⟨i+1,by lia,h1,h2⟩
def Ag.back{H' Hm':Hp}{E:En}(h:Ag K H Hm ms vs ds as):∀{n:Nat}{us:ZU},(∀q∈gh ms n as,∃es xs,E[q.1]?=some (some (.ow true,.list es))/\H' q.2=some (.lst xs)/\aC K Hm' xs es/\Hm' q.2=none)->fS ms (E.drop n)=some us->Bk K H' Hm' as us:=by
 induction h with
 |nil=>intro n us _ e;cases e;exact .nil
 |@sh ms vs ds as v d r _ ih=>
  intro n us hq e;cases hE:E.drop n with
  |nil=>rw[hE]at e;cases e
  |cons o E'=>rw[hE]at e;refine ih (n:=n+1) hq ?_;rw[show E.drop (n+1)=E' from by rw[<-List.tail_drop,hE];rfl];exact e
 |@mu ms vs ds as a xs es g1 g2 g3 g4 _ ih=>
  intro n us hq e;obtain⟨es',xs',e1,e2,e3,e4⟩:=hq (n,a) U1;cases hE:E.drop n with
  |nil=>rw[hE]at e;cases e
  |cons o E'=>
   have ho:o=some (.ow true,.list es'):=by have:=List.getElem?_drop (xs:=E) (i:=n) (j:=0);rw[hE,Nat.add_zero]at this;have e1:E[n]?=_:=e1;rw[e1]at this;exact Option.some.inj this
   subst ho;rw[hE]at e;have e:(fS ms E').map (PyData.list es'::·)=some us:=e;cases hb:fS ms E' with
   |none=>rw[hb]at e;cases e
   |some us'=>rw[hb]at e;cases e;refine .cons e2 e3 e4 (ih (n:=n+1) (λq hq'=>hq q (U4 _ hq')) ?_);rw[show E.drop (n+1)=E' from by rw[<-List.tail_drop,hE];rfl];exact hb
def HX{n:Nat}(h:n<=U.length):sel (List.range n) U=U.take n:=by
 refine Vu λi=>?_;unfold sel;rw[UK,List.getElem?_take];by_cases c:i<n
 .rw[VQ c,if_pos c];have l:i<U.length:=by lia
  rw[V0 l];show some ((U[i]?).join)=some U[i];rw[V0 l];rfl
 rw[if_neg c,VD (by rw[UW];lia)];rfl
def Ag.rl(h:Ag K H Hm ms vs ds as)(s:aj Hm H) (m:Nat):Rl K ⟨H,Hm,gh ms 0 as⟩ (ini ms ds++List.replicate m none) (vs.map some++List.replicate m none) H Hm (λi=>(gS ms as)[i]?.getD []):=by
 have hM:Gh.M ⟨H,Hm,gh ms 0 as⟩=as:=h.pins 0;have inE:∀{i:Nat}{k:Kd}{d:PyData},(ini ms ds++List.replicate m none)[i]?=some (some (k,d))->(ini ms ds)[i]?=some (some (k,d)):=λ{i k d} e=>by rcases VV i (ini ms ds).length with l|l;{rwa[We l]at e};rw[WI l]at e;have:=V7 e;have:=List.eq_of_mem_replicate this;cases this
 have inV:∀{i:Nat}{v:V},vs[i]?=some v->(vs.map some++List.replicate m none)[i]?=some (some v):=λ{i v} e=>by have l:=bB e;rw[We (by rw[U7];exact l),UK,e];rfl
 exact {
  len:=by rw[UR,UR,h.Tj,U7,Vg,Vg]
  sub:=s
  slot:=λi k d e=>by
   obtain⟨v,h1,h2⟩:=h.slot (inE e);exact⟨v,inV h1,h2⟩
  off:=λi a ha=>(h.Kw.1 i a ha).2.1
  bT:=λi a ha=>by
   obtain⟨_,_,xs,e⟩:=h.Kw.1 i a ha;exact⟨_,e,mC⟩
  aV:=λi j a h1 h2=>h.Kw.2 i j a h1 h2
  fr:=λp o _ e=>e
  new:=λi a ha=>.inl (by rw[hM];exact(h.Kw.1 i a ha).1)
  pin:=λq hq=>by
   obtain⟨i,e,h1,es,h2⟩:=h.pin 0 q hq;rw[X7]at e;rw[e];refine⟨inV h1,es,?_⟩;rw[We (bB h2)];exact h2
  old:=λ_ _=>.inl rfl }
end
section
variable{P:Program}{w:World}{K:Frag}{mg:ZK}{base:Heap}
def aX(ms:ZY)(Q:ZU->Kd->PyData->Prop)(x:XC):jl where
 nx:=λE=>aL (fS ms E) λus=>Q us .sh .none
 rt:=λE k v=>aL (fS ms E) λus=>Q us k v
 xc:=x
def bD{f:Addr}{N ps:Zd}{k:Nat}{ms:ZY}{sp:bq}{d:DS}{m:Nat}(F:vz K x qual st f fd)(S:aG N ps (ay st))(hl:ms.length=ps.length)(hm:N.length<=ps.length+m)(hb:∀(cdv:Value)(A:Around)(outer:List Env)(s:Shared)(H:Hp)(Ex:XK),fc k (A.deeper (PyProof.Rows.envOfC qual (ay st) s.heap.objs.size f cdv))->SS (iy (gA P w) P w K mg base N qual (ay st) f cdv A outer s H Ex) Ex (iV st) d)(hd:∀(ds:ZU)(Q:ZU->Kd->PyData->Prop)(x:XC),sp ds Q x->d (aX ms Q x) (ini ms ds++List.replicate m none)):iw P w K mg base (gA P w) (k+1) f fd ps (cE mg K ms sp):=by
 refine F.Nt S (λvs H Q E h=>?_) (λcdv A outer s H vs Q E hr h=>?_);{obtain⟨ds,as,Hm,P',x,_,ag,_⟩:=h;rw[ag.A9,hl]};obtain⟨ds,as,Hm,P',xc,sm,ag,hsp,ret,exn⟩:=h;refine⟨_,jT,?_⟩;have R:=ag.rl sm m;have hpre:N.length >= vs.length:=by rw[ag.A9,hl];have:=congrArg List.length S.pre;rw[Vf]at this;lia
 have hsel:L2.start N vs=sel (List.range N.length) (vs.map some++List.replicate m none):=by
  have hv:vs.length=ps.length:=by rw[ag.A9,hl]
  rw[HX (by rw[UR,U7,Vg];lia)];unfold L2.start;rw[List.take_append,U7,Xj (by rw[U7];exact hpre),List.take_replicate];congr 2;lia
 rw[hsel];have hM:Gh.M ⟨H,Hm,gh ms 0 as⟩=as:=ag.pins 0;have fin:∀{E':En}{k:Kd}{v:PyData}{u:V}{σ':St}{H' Hm':Hp}{F':Nat->ZX}{fp:ZX},(aL (fS ms E') λus=>P' us k v)->Rl K ⟨H,Hm,gh ms 0 as⟩ E' σ' H' Hm' F'->Tm K ⟨H,Hm,gh ms 0 as⟩ F' H' Hm' k u v fp->Q u H':=by
  intro E' k v u σ' H' Hm' F' fp p R' T;rw[<-bS]at p;obtain⟨us,hus,p⟩:=p;refine ret us k v u H' Hm' fp p (λa o e=>?_) R'.sub (λp o hp e=>R'.fr p o (by rw[hM];exact hp) e) (λa _ ha=>R'.old a ha) ?_ T.own λa ha=>⟨T.new a ha,T.off a ha⟩
  .have:H a≠none:=λz=>by rw[sm _ _ e]at z;cases z
   rcases R'.old a this with e'|⟨e',_⟩;{exact e'.trans e};have e':Hm a=none:=e';rw[e]at e';cases e'
  refine ag.back (E:=E') (n:=0) (λq hq=>?_) (by rw[List.drop_zero];exact hus);obtain⟨h1,es,h2⟩:=R'.pin q hq;obtain⟨v',h3,h4⟩:=R'.slot _ _ _ h2;have hF:=R'.Dz hq;rw[h1]at h3;cases h3;rw[hF]at h4;cases h4 with
  |ow e1 e2=>exact⟨es,_,h2,e1,e2,R'.off q.1 q.2 (by rw[hF];exact U1)⟩
 refine hb cdv A outer s H E hr ⟨H,Hm,gh ms 0 as⟩ (aX ms P' xc) _ _ H Hm _ _ (λc d' C a H' hC hx fr ha hn=>exn c d' C a H' hC hx (λp o hp ho=>fr p o (by rw[hM];exact hp) ho) ha hn) R (hd ds P' xc hsp) (λE' σ' H' Hm' F' p R' _=>?_) (λE' k v u σ' H' Hm' F' fp p R' T=>fin p R' T);exact fin (k:=.sh) (v:=.none) (u:=.bw) p R' (Tm.sh .bw)
end
section
variable{X:Cx}{Ex:XK}{Y:Zb}
def xI{i:Int} {j}:SE X Ex Y (.Constant (.int i) j pos) (dC (.int i)):=DX N4 λ_=>.int i
def xS{j}:SE X Ex Y (.Constant (.str x) j pos) (dC (.str x)):=DX G7 λ_=>.str x
def xB{b:Bool} {j}:SE X Ex Y (.Constant (.bool b) j pos) (dC (.bool b)):=DX RO λ_=>.bl b
def xN{j}:SE X Ex Y (.Constant .none j pos) (dC .none):=DX P1 λ_=>.bw
def xV(j:Nat){i:Nat}(hN:X.N[j]?=some x:=by rfl)(hv:kB X.env.scope x:=by first|exact Or.inl rfl|exact Or.inr (Or.inl rfl)|exact Or.inr (Or.inr rfl))(hj:Y[j]?=some i:=by rfl)(hd:(x==("__debug__":Str))=false:=by decide)(hcd:(x==("__classdict__":Str))=false:=by decide):SE X Ex Y (.Name x pos) (aO i):=Pj (gn hN hv hd hcd) hj
def a0:aY X Ex Y [] []:=.nil
def aP(j:Nat){i:Nat}(S:aY X Ex Y es as)(hN:X.N[j]?=some x:=by rfl)(hv:kB X.env.scope x:=by first|exact Or.inl rfl|exact Or.inr (Or.inl rfl)|exact Or.inr (Or.inr rfl))(hj:Y[j]?=some i:=by rfl)(hd:(x==("__debug__":Str))=false:=by decide)(hcd:(x==("__classdict__":Str))=false:=by decide):aY X Ex Y (.Name x pos::es) (.pk i::as):=.pk (gn hN hv hd hcd) hj S
def aE(h:SE X Ex Y e d)(S:aY X Ex Y es as):aY X Ex Y (e::es) (.ev d::as):=.ev h S
def kP:DR:=pI λi j=>.int (i-j)
def kU:DR:=yQ (λ_ j=>0<j) λi j=>.int (i%j)
def wG:DR:=yQ Em λi j=>.int (i/j)
def JB:DR:=yQ IQ λi j=>.int (i^j.toNat)
def IE:DR:=pI λi j=>.bool (decide (i<j))
def Uq:DR:=pI λi j=>.bool (decide (i<=j))
def AD:DR:=pI λi j=>.bool (decide (j<i))
def KG:DR:=pI λi j=>.bool (decide (j<=i))
def w9:DR:=λds P=>match ds with
 |[.int a]=>P .sh (.int (-a))
 |_=>False
def Mi:cU K w9 (r1 (rU λi=>.int (-i))):=by intro H Hm vs ds P Q s r h q;unfold w9 at h;split at h;{obtain⟨x,rfl,h1⟩:=dR r;cases h1;exact⟨_,rfl,bM.sc q s h (.int _)⟩};exact h.elim
variable{a b:Expr}{pos:Pos}{as:List Arg}
def gJ(S:aY X Ex Y [a,b] as):SE X Ex Y (.BinOp a .Add b pos) (ah d8 as):=oH Mw Na S
def qM(S:aY X Ex Y [a,b] as):SE X Ex Y (.BinOp a .Sub b pos) (ah kP as):=oH PK (pZ λ_ _ _=>.int _) S
def kT(S:aY X Ex Y [a,b] as):SE X Ex Y (.BinOp a .Mult b pos) (ah gG as):=oH Mn MF S
def n6(S:aY X Ex Y [a,b] as):SE X Ex Y (.BinOp a .Mod b pos) (ah kU as):=oH Nv (wI λ_ _ _=>.int _) S
def DV(S:aY X Ex Y [a,b] as):SE X Ex Y (.BinOp a .FloorDiv b pos) (ah wG as):=oH IJ (wI λ_ _ _=>.int _) S
def S7(S:aY X Ex Y [a,b] as):SE X Ex Y (.BinOp a .Pow b pos) (ah JB as):=oH QZ (wI λ_ _ _=>.int _) S
def NT(S:aY X Ex Y [a] as):SE X Ex Y (.UnaryOp .USub a pos) (ah w9 as):=R8 Ra Mi S
def OL(hu:X.A.units+64<cLine)(S:aY X Ex Y [a,b] as):SE X Ex Y (.Compare a [.Eq] [b] pos) (ah lH as):=GZ (Ip hu) (jv _) HH S
def SA(hu:X.A.units+64<cLine)(S:aY X Ex Y [a,b] as)(hm:behindInMarks .In b=false:=by rfl):SE X Ex Y (.Compare a [.In] [b] pos) (ah (lJ false) as):=GZ (Ii hu) hm (C9 false) S
def Qa(S:aY X Ex Y [a,b] as):bN X Ex Y (.Compare a [.Lt] [b] pos) (ah IE as):=gX vQ (jv _) (pZ λ_ _ _=>.bl _) S
def HF(S:aY X Ex Y [a,b] as):bN X Ex Y (.Compare a [.Gt] [b] pos) (ah AD as):=gX Si (jv _) (pZ λ_ _ _=>.bl _) S
def SJ(S:aY X Ex Y [a,b] as):bN X Ex Y (.Compare a [.GtE] [b] pos) (ah KG as):=gX RP (jv _) (pZ λ_ _ _=>.bl _) S
def HR(hu:X.A.units+64<cLine)(S:aY X Ex Y [a,b] as):bN X Ex Y (.Compare a [.Eq] [b] pos) (ah lH as):=gX (Ip hu) (jv _) HH S
def Df(hu:X.A.units+64<cLine)(S:aY X Ex Y [a,b] as):bN X Ex Y (.Compare a [.NotEq] [b] pos) (ah mD as):=gX (Om hu) (jv _) QV S
def Sq(S:aY X Ex Y [a,b] as):bN X Ex Y (.Compare a [.Is] [b] pos) (ah (dF false) as):=gX NL (jv _) L6 S
def Og(S:aY X Ex Y [a,b] as):bN X Ex Y (.Compare a [.IsNot] [b] pos) (ah (dF true) as):=gX My (jv _) JQ S
def Sv(hu:X.A.units+64<cLine)(S:aY X Ex Y [a,b] as)(hm:behindInMarks .In b=false:=by rfl):bN X Ex Y (.Compare a [.In] [b] pos) (ah (lJ false) as):=gX (Ii hu) hm (C9 false) S
def sV(h:SE X Ex Y e d)(he:∀whole,isTrue e X.env whole=(do let v <-whole;standAt e.pos;holding [v] (truthy v)):=by intro _;rfl):bN X Ex Y e d:=h.xJ he
def tV(j:Nat){i:Nat}(hN:X.N[j]?=some x:=by rfl)(hv:kB X.env.scope x:=by first|exact Or.inl rfl|exact Or.inr (Or.inl rfl)|exact Or.inr (Or.inr rfl))(hj:Y[j]?=some i:=by rfl)(hd:(x==("__debug__":Str))=false:=by decide)(hcd:(x==("__classdict__":Str))=false:=by decide):ST X Ex Y (.Name x pos) (xR i):=TX (gn hN hv hd hcd) hj λ_=>rfl
def dW(hu:X.A.units+64<cLine)(S:aY X Ex Y [a,b] as)(hs:pB b:=by intro _ _;rfl):SE X Ex Y (.Subscript a b pos) (ah b7 as):=Ro (S6 hu) hs MR S
variable{p:Pos}
def jR(hm:X.mg "len"=none)(S:aY X Ex Y [a] as)(hg:Gl X "len":=by rfl)(ns:noStar a=true:=by rfl):SE X Ex Y (.Call (.Name "len" p) [a] [] pos) (ah eK as):=fU (zb.or G5) IY hg hm PySem.boot_len (by decide) (by decide) (by rw[UU,ns];rfl) S
def vC(hm:X.mg "list"=none)(S:aY X Ex Y [a] as)(hg:Gl X "list":=by rfl)(ns:noStar a=true:=by rfl):SE X Ex Y (.Call (.Name "list" p) [a] [] pos) (ah kg as):=qw zG Kh hg hm Ys (by decide) (by decide) (by rw[UU,ns];rfl) S
def Qc(hm:X.mg "tuple"=none)(S:aY X Ex Y [a] as)(hg:Gl X "tuple":=by rfl)(ns:noStar a=true:=by rfl):SE X Ex Y (.Call (.Name "tuple" p) [a] [] pos) (ah oz as):=qw qe HE hg hm PyProof.Rows.boot_tuple (by decide) (by decide) (by rw[UU,ns];rfl) S
def ES(hm:X.mg "min"=none)(S:aY X Ex Y [a,b] as)(hc:X.calm=true:=by rfl)(hg:Gl X "min":=by rfl)(ns:noStar a=true:=by rfl)(ns2:noStar b=true:=by rfl):SE X Ex Y (.Call (.Name "min" p) [a,b] [] pos) (ah rS as):=fU (Gd hc) Lv hg hm PyProof.Rows.boot_min (by decide) (by decide) (by rw[UU,UU,ns,ns2];rfl) S
def J4(hm:X.mg "max"=none)(S:aY X Ex Y [a,b] as)(hc:X.calm=true:=by rfl)(hg:Gl X "max":=by rfl)(ns:noStar a=true:=by rfl)(ns2:noStar b=true:=by rfl):SE X Ex Y (.Call (.Name "max" p) [a,b] [] pos) (ah uS as):=fU (Gj hc) Lv hg hm PyProof.Rows.boot_max (by decide) (by decide) (by rw[UU,UU,ns,ns2];rfl) S
def SV(hm:X.mg "abs"=none)(S:aY X Ex Y [a] as)(hg:Gl X "abs":=by rfl)(ns:noStar a=true:=by rfl):SE X Ex Y (.Call (.Name "abs" p) [a] [] pos) (ah zu as):=fU Jl LH hg hm PyProof.Rows.boot_abs (by decide) (by decide) (by rw[UU,ns];rfl) S
def TY(hm:X.mg "int"=none)(S:aY X Ex Y [a] as)(hg:Gl X "int":=by rfl)(ns:noStar a=true:=by rfl):SE X Ex Y (.Call (.Name "int" p) [a] [] pos) (ah oU as):=qw GB FH hg hm Yu (by decide) (by decide) (by rw[UU,ns];rfl) S
def S2(hm:X.mg "sum"=none)(S:aY X Ex Y [a] as)(hc:X.calm=true:=by rfl)(hg:Gl X "sum":=by rfl)(ns:noStar a=true:=by rfl):SE X Ex Y (.Call (.Name "sum" p) [a] [] pos) (ah Es as):=fU (Ib hc) Mh hg hm PyProof.Rows.boot_sum (by decide) (by decide) (by rw[UU,ns];rfl) S
def Tc(hm:X.mg "any"=none)(S:aY X Ex Y [a] as)(hc:X.calm=true:=by rfl)(hg:Gl X "any":=by rfl)(ns:noStar a=true:=by rfl):SE X Ex Y (.Call (.Name "any" p) [a] [] pos) (ah EO as):=fU (HY hc) LK hg hm PyProof.Rows.boot_any (by decide) (by decide) (by rw[UU,ns];rfl) S
def Q0(hm:X.mg "all"=none)(S:aY X Ex Y [a] as)(hc:X.calm=true:=by rfl)(hg:Gl X "all":=by rfl)(ns:noStar a=true:=by rfl):SE X Ex Y (.Call (.Name "all" p) [a] [] pos) (ah zA as):=fU (G2 hc) MN hg hm PyProof.Rows.boot_all (by decide) (by decide) (by rw[UU,ns];rfl) S
def Fv(hm:X.mg "sorted"=none)(S:aY X Ex Y [a] as)(hg:Gl X "sorted":=by rfl)(ns:noStar a=true:=by rfl):SE X Ex Y (.Call (.Name "sorted" p) [a] [] pos) (ah qS as):=fU Bo GK hg hm Yv (by decide) (by decide) (by rw[UU,ns];rfl) S
def HM(h1:X.mg "list"=none)(h2:X.mg "range"=none)(S:aY X Ex Y [a] as)(hc:X.calm=true:=by rfl)(g1:Gl X "list":=by rfl)(g2:Gl X "range":=by rfl)(ns:noStar a=true:=by rfl):SE X Ex Y (.Call (.Name "list" p) [.Call (.Name "range" p2) [a] [] pos2] [] pos) (ah lQ as):=I0 hc g1 h1 g2 h2 ns S
def cZ(S:aY X Ex Y es as)(ns:es.all noStar=true:=by rfl):SE X Ex Y (.List es pos) (ah cK as):=Q7 ns S
def rG{k:Nat}(S:aY X Ex Y es as)(ns:es.all noStar=true:=by rfl):SE X Ex Y (.Tuple es k pos) (ah jz as):=Pk ns S
variable{tg:Expr}
def KS(hm:X.mg "range"=none)(S:aY X Ex Y [a] as)(hg:Gl X "range":=by rfl)(ns:noStar a=true:=by rfl):SI X Ex Y tg (.Call (.Name "range" p) [a] [] pos) (sI yl as):=RL hg hm ns S
def Ud(hm:X.mg "range"=none)(S:aY X Ex Y [a,b] as)(hg:Gl X "range":=by rfl)(ns:noStar a=true:=by rfl)(ns2:noStar b=true:=by rfl):SI X Ex Y tg (.Call (.Name "range" p) [a,b] [] pos) (sI FW as):=RU hg hm ns ns2 S
def Jh{x1:Nat}(hm:X.mg "enumerate"=none)(h:SE X Ex Y a d)(hg:Gl X "enumerate":=by rfl)(ns:noStar a=true:=by rfl):SI X Ex Y (.Tuple elts x1 tp) (.Call (.Name "enumerate" p) [a] [] pos) (x6 d):=Rf hg hm ns h
def Kl{x1:Nat}(hm:X.mg "zip"=none)(h:SE X Ex Y a d)(h2:SE X Ex Y b d2)(hg:Gl X "zip":=by rfl)(ns:noStar a=true:=by rfl)(ns2:noStar b=true:=by rfl):SI X Ex Y (.Tuple elts x1 tp) (.Call (.Name "zip" p) [a,b] [] pos) (Kp d d2):=RD hg hm ns ns2 h h2
def gN(j:Nat){i:Nat}(hN:X.N[j]?=some x:=by rfl)(hj:Y[j]?=some i:=by rfl)(hl:Loc X.env.scope x:=by first|exact Or.inl rfl|exact Or.inr rfl)(hf:X.fn x=true\/X.env.scope.names.lookup x=some .local:=by first|exact Or.inl rfl|exact Or.inr rfl):fG X Y (.Name x p) (.nm i):=.nm hN hj hl hf
def g0:mK X Y [] []:=.nil
def gC(j:Nat){i:Nat}(t:mK X Y ts is)(hN:X.N[j]?=some x:=by rfl)(hj:Y[j]?=some i:=by rfl)(hl:Loc X.env.scope x:=by first|exact Or.inl rfl|exact Or.inr rfl)(hf:X.fn x=true\/X.env.scope.names.lookup x=some .local:=by first|exact Or.inl rfl|exact Or.inr rfl):mK X Y (.Name x p::ts) (i::is):=.cons hN hj hl hf t
def gT{k:Nat}(t:mK X Y ts is):fG X Y (.Tuple ts k p) (.tp is):=.tp t
def sA:Passes (gA X.prog X.w) X E0:=by rintro pins U H s e s' I⟨_,_,_,_,_,_,_,_,_,_,_,_,_,_,z⟩;exact z.elim
def aF{k k':Nat}(F:bV X.prog X.w X.K X.mg X.base k x ps (cE X.mg X.K ms sp))(hp:Passes (gA X.prog X.w) X Ex)(hr:fc k' X.A)(S:aY X Ex Y (e::es) as)(hk:k<=k':=by decide)(hg:Gl X x:=by rfl)(hd:(x==("__debug__":Str))=false:=by decide)(ns:(e::es).all noStar=true:=by rfl):SE X Ex Y (.Call (.Name x p) (e::es) [] pos) (aD sp ms as):=M5 F hp (hr.mono hk) hg hd ns S
def bP(h:SE X Ex (aT X) a d):S1 X Ex (.Return (some a) pos) (bG d):=Rk h
def ng(i:Nat)(hN:X.N[i]?=some x:=by rfl)(hv:kB X.env.scope x:=by first|exact Or.inl rfl|exact Or.inr (Or.inl rfl)|exact Or.inr (Or.inr rfl))(hd:(x==("__debug__":Str))=false:=by decide)(hcd:(x==("__classdict__":Str))=false:=by decide):S1 X Ex (.Return (some (.Name x p)) pos) (jh i):=QL (gn hN hv hd hcd) (bB hN)
def fT(h:SE X Ex (aT X) a d)(hs:swapsWith a none pos.line X.env=pure false:=by rfl):S1 X Ex (.Expr a pos) (dQ d):=P8 h hs
def aZ(i:Nat)(hN:X.N.Nodup)(h:SE X Ex (aT X) a d)(hi:X.N[i]?=some x:=by rfl)(hl:Loc X.env.scope x:=by first|exact Or.inl rfl|exact Or.inr rfl)(hs:swapsWith a (some (.Name x p)) pos.line X.env=pure false:=by rfl)(hf:X.fn x=true\/X.env.scope.names.lookup x=some .local:=by first|exact Or.inl rfl|exact Or.inr rfl) : S1 X Ex (.Assign [.Name x p] a pos) (aN i d):=RI hN hi hl hs hf h
def zW{k:Nat}(hN:X.N.Nodup)(ht:mK X (aT X) ts is)(h:SE X Ex (aT X) a d)(hc:X.calm=true:=by rfl)(hs:swapsWithSole [.Tuple ts k p] a pos.line X.env=pure false:=by rfl)(hw:swappedStores [.Tuple ts k p] a X.env=pure none:=by rfl):S1 X Ex (.Assign [.Tuple ts k p] a pos) (q9 is d):=Se hc hN ht hs hw h
def zq(i:Nat)(hu:X.A.units+64<cLine)(hd:SE X Ex (aT X) a de)(hd2:SE X Ex (aT X) b dj)(hN:X.N[i]?=some x:=by rfl)(hv:kB X.env.scope x:=by first|exact Or.inl rfl|exact Or.inr (Or.inl rfl)|exact Or.inr (Or.inr rfl))(hs:swapsWithSole [.Subscript (.Name x p) b pos'] a pos.line X.env=pure false:=by rfl)
  (ha:∀v,assign (.Subscript (.Name x p) b pos') X.env v=(do
   let ov <-holding [v] (eval (.Name x p) X.env)
   let iv <-holding [v,ov] (eval b X.env)
   standAt pos'
   holding [v,ov,iv] (setItem ov iv v)
   release [v,ov,iv] []):=by intro _;rfl)(hb:(x==("__debug__":Str))=false:=by decide)(hcd:(x==("__classdict__":Str))=false:=by decide):S1 X Ex (.Assign [.Subscript (.Name x p) b pos'] a pos) (jV i dj de):=RB hu (gn hN hv hb hcd) (gU (bB hN)) hs ha hd hd2
def f7(hc:ST X Ex (aT X) a t)(ha:SS X Ex u d)(hb:SS X Ex v e):S1 X Ex (.If a u v pos) (cO t d e):=S3 hc ha hb
def Fy(hp:PassesOwn (model X.prog X.w) X.A X.env X.xe)(hc:ST X Ex (aT X) a t)(hb:SS X Ex u d):S1 X Ex (.While a u [] pos) (vA t d):=MP hp hc hb
def ie(hp:PassesOwn (model X.prog X.w) X.A X.env X.xe)(hN:X.N.Nodup)(hi:SI X Ex (aT X) tg a di)(ht:fG X (aT X) tg t)(hb:SS X Ex u d)(hc:X.calm=true:=by rfl)(hs:∀x,foldedSetIterable a X.env x=pure x:=by intro _;rfl):S1 X Ex (.For tg a u [] pos) (fm di t d):=RG hp hc hN hi ht hb hs
end
section
variable{X:Cx}{Ex:XK}{Y:Zb}
def e0:sX X Ex Y [] []:=.nil
def eC(h:SE X Ex Y e d)(t:sX X Ex Y es ds):sX X Ex Y (e::es) (d::ds):=.cons h t
def xM(j:Nat){i:Nat}{x name:Str}{id:String}{p apos cpos:Pos}{es:ZZ}{ds:List DE}{f:DM}{r:V->List V->Hp->VK->Prop}(hm:vP X id r)(D:Aj X.K f r)(slot:Slot "list" name id)(hty:typeOf (.builtin id)=pure (.type "method_descriptor"))(S:sX X Ex Y es ds)(hN:X.N[j]?=some x:=by rfl)(hv:kB X.env.scope x:=by first|exact Or.inl rfl|exact Or.inr (Or.inl rfl)|exact Or.inr (Or.inr rfl))(hj:Y[j]?=some i:=by rfl)(ns:es.all noStar=true:=by rfl)(l30:decide (es.length<30)=true:=by rfl)(hline:(apos.endLine==cpos.line)=true:=by rfl)(hd:(x==("__debug__":Str))=false:=by decide)(hcd:(x==("__classdict__":Str))=false:=by decide):SE X Ex Y (.Call (.Attribute (.Name x p) name apos) es [] cpos) (qh f i ds):=Rn hm D slot hty (gn hN hv hd hcd) hj ns (UT l30) hline S
def kO:Zb->Bool
 |[]=>true
 |a::r=>!r.contains a&&kO r
theorem g8:∀{l:Zb},kO l=true->l.Nodup
 |[],_=>VY
 |a::r,h=>by rw[kO,UJ,Xg,Wb,YI]at h;exact VA.mpr ⟨h.1,g8 h.2⟩
def wZ(Y cs ix:Zb)(vs:Zd)(sl:Zb):Bool:=(cs.length==vs.length)&&ix.all (λi=>Nat.blt i Y.length)&&cs.all (λc=>!Y.contains c)&&kO (bO Y cs ix)&&sl.all (λi=>cs.contains i)
def vq(h:wZ Y cs ix vs sl=true):cs.length=vs.length/\(∀i∈ix,i<Y.length)/\(∀c∈cs,c∉Y)/\(bO Y cs ix).Nodup/\∀i∈sl,i∈cs:=by unfold wZ at h;rw[UJ,UJ,UJ,UJ,US,US,US,beq_iff_eq]at h;obtain⟨⟨⟨⟨h1,h2⟩,h3⟩,h4⟩,h5⟩:=h;refine⟨h1,λi hi=>by simpa using h2 i hi,λc hc z=>?_,g8 h4,λi hi=>?_⟩;{have:=h3 c hc;rw[Xg,Wb,YI]at this;exact this z};have:=h5 i hi;rw[Wb,VM]at this;exact this
def Iu(r:ZJ):Bool:=r.all λg=>g.is_async==0
def uR(h:Iu r=true):∀g∈r,g.is_async=0:=λg hg=>by have:=US.mp h g hg;simpa using this
variable{cs:Zb}{elt tg iter:Expr}{ifs:ZZ}{scope:Scope}{pos:Pos}
def fJ{rest:ZJ}{vs NB:Zd}{ix:Zb}{di:DI}{t:Tg}{c:DT}{r:DC}(B:oW X.N X.env.scope scope vs NB ix=true)(hi:SI X Ex Y tg iter di)(ht:∀(C:Addr)(s:Shared)(H:Hp)(fp:ZX),fG (X.block scope C NB s H fp) (bO Y cs ix) tg t)(hif:∀(C:Addr)(s:Shared)(H:Hp)(fp:ZX),ig (X.block scope C NB s H fp) E0 (bO Y cs ix) ifs c)(hr:∀(C:Addr)(s:Shared)(H:Hp)(fp:ZX)(D:Addr),SL (X.block scope C NB s H fp) (bO Y cs ix) cs D elt (⟨tg,iter,ifs,0⟩::rest) scope pos 1 r)(hc:X.calm=true:=by rfl)(ck:wZ Y cs ix vs t.slots=true:=by rfl)(ha:Iu rest=true:=by rfl)(hs:∀v,foldedSetIterable iter X.env v=pure v:=by intro _;rfl):SE X Ex Y (.ListComp elt (⟨tg,iter,ifs,0⟩::rest) scope pos) (bJ cs di t c r):=
 let⟨h1,h2,h3,h4,h5⟩:=vq ck
 PR (cX.of B) hc h1 h2 h3 h4 hi ht h5 hif hr (uR ha) hs
def JO{j:Nat}{y:Str}{py spos:Pos}{rest:ZJ}{vs NB:Zd}{ix:Zb}{di:DI}{t:Tg}{c:DT}{r:DC}(hN:X.N.Nodup)(B:oW X.N X.env.scope scope vs NB ix=true)(hi:SI X Ex (aT X) tg iter di)(ht:∀(C:Addr)(s:Shared)(H:Hp)(fp:ZX),fG (X.block scope C NB s H fp) (bO (aT X) cs ix) tg t)(hif:∀(C:Addr)(s:Shared)(H:Hp)(fp:ZX),ig (X.block scope C NB s H fp) E0 (bO (aT X) cs ix) ifs c)(hr:∀(C:Addr)(s:Shared)(H:Hp)(fp:ZX)(D:Addr),SL (X.block scope C NB s H fp) (bO (aT X) cs ix) cs D elt (⟨tg,iter,ifs,0⟩::rest) scope pos 1 r)(hj:X.N[j]?=some y:=by rfl)(hy:X.env.scope.names.lookup y=some .local:=by rfl)(hsw:swapsWith (.ListComp elt (⟨tg,iter,ifs,0⟩::rest) scope pos) (some (.Name y py)) spos.line X.env=pure true:=by rfl)(hc:X.calm=true:=by rfl)(ck:wZ (aT X) cs ix vs t.slots=true:=by rfl)(ha:Iu rest=true:=by rfl)(hs:∀v,foldedSetIterable iter X.env v=pure v:=by intro _;rfl):S1 X Ex (.Assign [.Name y py] (.ListComp elt (⟨tg,iter,ifs,0⟩::rest) scope pos) spos) (aN j (bJ cs di t c r)):=
 let⟨h1,h2,h3,h4,h5⟩:=vq ck
 Rh hN hj hy (cX.of B) hc h1 h2 h3 h4 hi ht h5 hif hr (uR ha) hs hsw
def wO(N:Zd)(fs scope:Scope) (x:Str)(vs NB:Zd)(ix:Zb):Bool:=
 decide (scope.kind=.function)&&scope.names.all (λy=>decide (y.2≠.cell)||decide (y.1=x))&&scope.names.all (λy=>decide (y.2≠.local)||decide (scope.names.lookup y.1=some .local)) &&
 scope.names.all (λy=>decide (y.2≠.free)||(decide (y.1≠x)&&(decide (fs.names.lookup y.1=some .cell)||decide (fs.names.lookup y.1=some .free))))&&decide (scope.names.lookup x=some .cell) &&
 decide (NB=vs++ix.map λi=>N.getD i "")&&decide NB.Nodup&&ix.all λi=>match N[i]? with|some y=>decide (scope.names.lookup y=some .free)|none=>false
def dO.of(h:wO X.N X.env.scope scope x vs NB ix=true)(cf:∀(n:Nat)(acc:List (Str×Addr)),cellsFrom n scope.names acc=(x,n)::acc)(pc:∀h:Heap,pushCells h scope.names=h.push rW):dO X scope x vs NB ix:=by unfold wO at h;simp only[UJ]at h;obtain⟨⟨⟨⟨⟨⟨⟨h1,h2⟩,h3⟩,h4⟩,h5⟩,h6⟩,h7⟩,h8⟩:=h;refine⟨UT h1,λy hy e=>?_,λy hy e=>?_,λy hy=>?_,λhy=>?_,UT h5,UT h6,UT h7,λi hi=>?_,cf,pc⟩;{have z:=US.mp h2 y hy;rw[WV]at z;exact z.elim (λz=>absurd e (UT z)) λz=>UT z};{have z:=US.mp h3 y hy;rw[WV]at z;exact z.elim (λz=>absurd e (UT z)) λz=>UT z};{have z:=US.mp h4 _ hy;rw[WV,UJ,WV]at z;exact z.elim (λz=>absurd rfl (UT z)) λz=>z.2.imp UT UT};{have z:=US.mp h4 _ hy;rw[WV,UJ]at z;exact z.elim (λz=>absurd rfl (UT z)) λz=>absurd rfl (UT z.1)};have z:=US.mp h8 i hi;split at z;{rename_i y e;exact⟨y,e,UT z⟩};cases z
def Te{cx:Str}{rest:ZJ}{vs NB:Zd}{ix:Zb}{di:DI}{t:Tg}{c:DT}{r:DC}(B:wO X.N X.env.scope scope cx vs NB ix=true)(hi:SI X Ex Y tg iter di)(ht:∀(C c':Addr)(s:Shared)(H:Hp)(fp:ZX),fG (X.bg scope cx C c' NB s H fp) (bO Y cs ix) tg t)(hif:∀(C c':Addr)(s:Shared)(H:Hp)(fp:ZX),ig (X.bg scope cx C c' NB s H fp) E0 (bO Y cs ix) ifs c)(hr:∀(C c':Addr)(s:Shared)(H:Hp)(fp:ZX)(D:Addr),SL (X.bg scope cx C c' NB s H fp) (bO Y cs ix) cs D elt (⟨tg,iter,ifs,0⟩::rest) scope pos 1 r)(cf:∀(n:Nat)(acc:List (Str×Addr)),cellsFrom n scope.names acc=(cx,n)::acc:=by intro _ _;rfl)(pc:∀h:Heap,pushCells h scope.names=h.push rW:=by intro _;rfl)(hc:X.calm=true:=by rfl)(ck:wZ Y cs ix vs t.slots=true:=by rfl)(ha:Iu rest=true:=by rfl)(hs:∀v,foldedSetIterable iter X.env v=pure v:=by intro _;rfl):SE X Ex Y (.ListComp elt (⟨tg,iter,ifs,0⟩::rest) scope pos) (bJ cs di t c r):=
 let⟨h1,h2,h3,h4,h5⟩:=vq ck
 QI (dO.of B cf pc) hc h1 h2 h3 h4 hi ht h5 hif hr (uR ha) hs
def cS{D:Addr}{k:Nat}(h:SE X E0 Y elt d)(hk:gens[k]?=none:=by rfl):SL X Y cs D elt gens scope pos k (bY sizeLine d):=LN h hk
def Er:Zd->Bool
 |[]=>true
 |a::r=>!r.contains a&&Er r
theorem CJ:∀{l:Zd},Er l=true->l.Nodup
 |[],_=>VY
 |a::r,h=>by rw[Er,UJ,Xg,Wb,YI]at h;exact VA.mpr ⟨h.1,CJ h.2⟩
def PU{D:Addr}{k:Nat}(hi:SI X E0 Y tg iter di)(ht:fG X Y tg t)(hif:ig X E0 Y ifs c)(hr:SL X Y cs D elt gens scope pos (k+1) r)(hc:X.calm=true:=by rfl)(hN:Er X.N=true:=by rfl)(nd:kO Y=true:=by rfl)(hts:(t.slots.all λi=>cs.contains i)=true:=by rfl)(hk:gens[k]?=some ⟨tg,iter,ifs,0⟩:=by rfl)(ha:Iu gens=true:=by rfl)(hs:∀v,foldedSetIterable iter X.env v=pure v:=by intro _;rfl):SL X Y cs D elt gens scope pos k (Cj di t c r):=
 OP hc (CJ hN) (g8 nd) hi ht (λi hi=>by
  have:=US.mp hts i hi;rw[Wb,VM]at this;exact this) hif hr hk (uR ha) hs
def K9{i:Nat}(ho:Fz X op (Q4 f))(hN:X.N.Nodup)(hi:X.N[i]?=some x)(hl:Loc X.env.scope x)(hf:X.fn x=true\/X.env.scope.names.lookup x=some .local)(h:SE X Ex (aT X) e d):S1 X Ex (.AugAssign (.Name x pos') op e pos) (w4 f i d):=by
 intro g D' E U H Hm F D hx R p nx rt;replace p:bK (here E i) _:=p;rw[eF]at p;obtain⟨hh,p⟩:=p;obtain⟨v0,hv0⟩:=ko R hh;refine WS.of (Iv hN hi hl bL ho hf) ⟨v0,cY (gU (bB hi)) hv0,h g D'.xc E U H Hm F _ _ hx R p λE' k v u H' Hm' F' fp p' R' s' T=>?_⟩;replace p':E8 f E' i v D'.nx:=p';unfold E8 at p';split at p'
 rotate_left
 .exact p'.elim
 rename_i k' a e1;rw[<-Lm]at p';obtain⟨b,rfl,p'⟩:=p';obtain⟨v1,h1,h2⟩:=R'.slot i _ _ e1;rw[hv0]at h1;cases h1;cases h2.int;cases T.own.int;refine⟨a,b,rfl,rfl,?_⟩;have ho:bR E' i=true:=by
  unfold bR;rw[e1];cases k' with
  |sh=>rfl
  |_=>cases h2
 show D.nx ((sel (aT X) U).set i (some _)) H';rw[lA Vh (gU (bB hi)) (R'.len▸i8 ho)];exact nx _ _ _ _ _ p' (R'.put (Tm.sh (.int _)) ho) s'
def MO(i:Nat)(hN:X.N.Nodup)(h:SE X Ex (aT X) e d)(hi:X.N[i]?=some x:=by rfl)(hl:Loc X.env.scope x:=by first|exact Or.inl rfl|exact Or.inr rfl)(hf:X.fn x=true\/X.env.scope.names.lookup x=some .local:=by first|exact Or.inl rfl|exact Or.inr rfl):S1 X Ex (.AugAssign (.Name x pos') .Add e pos) (w4 (·+·) i d):=K9 Pa hN hi hl hf h
def LO(i:Nat)(hN:X.N.Nodup)(h:SE X Ex (aT X) e d)(hi:X.N[i]?=some x:=by rfl)(hl:Loc X.env.scope x:=by first|exact Or.inl rfl|exact Or.inr rfl)(hf:X.fn x=true\/X.env.scope.names.lookup x=some .local:=by first|exact Or.inl rfl|exact Or.inr rfl):S1 X Ex (.AugAssign (.Name x pos') .Sub e pos) (w4 (·-·) i d):=K9 QU hN hi hl hf h
def xP:PyData->Option String
 |.none=>some "NoneType"
 |.bool _=>some "bool"
 |.int _=>some "int"
 |.str _=>some "str"
 |.list _=>some "list"
 |.tuple _=>some "tuple"
 |.dict _=>none
def jL(c t:String):Bool:=t==c||(c == "int" && t == "bool")
def yq(c:String):DR:=λds P=>match ds with
 |[d]=>aL (xP d) λt=>P .sh (.bool (jL c t))
 |_=>False
def tys:List String:=["NoneType","bool","int","str","list","tuple"]
def AX(K:Frag)(cs:List String):Bool:=cs.all λc=>tys.all λt=>kitOne K (.type t) (.type c)==some (jL c t)
def NF{K:Frag}{cs:List String}(h:AX K cs=true){c t:String}(hc:c∈cs)(ht:t∈tys):kitOne K (.type t) (.type c)=some (jL c t):=by have:=US.mp (US.mp h c hc) t ht;simpa using this
def RJ(s:aj Hm H)(r:Rp K Hm v d)(h:xP d=some t):ir K H v (.type t)/\t∈tys:=by
 cases r with
 |bw=>cases h;exact⟨.bw,by decide⟩
 |bl b=>cases h;exact⟨.bl b,by decide⟩
 |int i=>cases h;exact⟨.int i,by decide⟩
 |str x=>cases h;exact⟨.str x,by decide⟩
 |lst a _=>cases h;refine⟨?_,by decide⟩;rcases a with (a|⟨o,a⟩)|⟨its,n,a,_⟩;{exact .lst (s _ _ a)};{exact .cL (s _ _ a)};exact .kl a
 |tup a _=>cases h;exact⟨.tup (s _ _ a),by decide⟩
 |dk _ _=>cases h
 |dt _ _=>cases h
 |exc _ _=>cases h
def QO{css:List String}(kf:AX X.K css=true)(hc:css.contains c=true)(hm:X.mg "isinstance"=none)(hm2:X.mg x=none)(hv:bootBuiltins x=some (.type c))(hg:Gl X "isinstance")(hg2:Gl X x)(hn:x≠"__name__")(hd:(x==("__debug__":Str))=false)(ns:noStar a=true)(S:aY X Ex Y [a] as) : SE X Ex Y (.Call (.Name "isinstance" p) [a,.Name x p2] [] pos) (ah (yq c) as):=by refine gx (r:=λvs H Q=>∃v t,vs=[v]/\ir X.K H v (.type t)/\t∈tys/\Q (.bl (jL c t)) H) S (λU H Q h=>WE.of (uD Kf hg hm PyProof.Rows.boot_isinstance (gu bL (gu (Mb (v:=.ty c) hg2 hm2 hv rfl hn hd) ji) (bQ ns)) (by decide) (by decide) (bQ ns) (by rfl)) ?_) ?_;{refine λpins s I=>aU (h pins s I) λv s1 ⟨y,H1,I1,r1,w,t,e,ty,ht,q⟩=>⟨y,H1,I1,r1,?_⟩;cases e;refine⟨_,_,_,_,rfl,ty,λu hu=>?_,q⟩;cases hu;exact NF kf (by simpa using hc) ht};intro H Hm vs ds P Q s r h q;unfold yq at h;split at h;{obtain⟨v,rfl,h1⟩:=dR r;rw[<-bS]at h;obtain⟨t,e,h⟩:=h;obtain⟨ty,ht⟩:=RJ s h1 e;exact⟨v,t,rfl,ty,ht,bM.sc q s h (.bl _)⟩};exact h.elim
def D5(kf:AX X.K css=true)(hm:X.mg "isinstance"=none)(hm2:X.mg x=none)(hv:bootBuiltins x=some (.type c))(S:aY X Ex Y [a] as)(hc:css.contains c=true:=by decide)(hg:Gl X "isinstance":=by rfl)(hg2:Gl X x:=by rfl)(hn:x≠"__name__":=by decide)(hd:(x==("__debug__":Str))=false:=by decide)(ns:noStar a=true:=by rfl) : SE X Ex Y (.Call (.Name "isinstance" p) [a,.Name x p2] [] pos) (ah (yq c) as):=QO kf hc hm hm2 hv hg hg2 hn hd ns S
end
end Dv
namespace Dv
open PySem L2 PySem.W
open Classical in
def Gh.iQ(g:Gh)(H:Hp)(fp:ZX):Gh:=⟨λa=>if a∈fp then H a else g.H0 a,λa=>if a∈fp then none else g.fN a,g.pins⟩
section
variable{K:Frag}{g:Gh}{E:En}{U:St}{H H' Hm Hm':Hp}{F:Nat->ZX}{fp:ZX}
def oY{a:Addr}(h:a∈fp):(g.iQ H fp).H0 a=H a:=by unfold Gh.iQ;exact if_pos h
def iT{a:Addr}(h:a∉fp):(g.iQ H fp).H0 a=g.H0 a:=by unfold Gh.iQ;exact if_neg h
def Hs{a:Addr}(h:a∈fp):(g.iQ H fp).fN a=none:=by unfold Gh.iQ;exact if_pos h
def BQ{a:Addr}(h:a∉fp):(g.iQ H fp).fN a=g.fN a:=by unfold Gh.iQ;exact if_neg h
structure l6(g:Gh)(F:Nat->ZX)(H Hm:Hp)(fp:ZX):Prop where
 BN:∀a∈fp,∃u,H a=some u/\sZ u
 off:∀a∈fp,Hm a=none
 aV:∀a∈fp,∀i,a∉F i
 new:∀a∈fp,g.H0 a=none
def l6.bT(A:l6 g F H Hm fp):∀a∈fp,H a≠none:=λa ha z=>by obtain⟨u,hu,_⟩:=A.BN a ha;rw[z]at hu;cases hu
def l6.notM(A:l6 g F H Hm fp)(R:Rl K g E U H Hm F):∀a∈fp,a∉g.M:=λa ha m=>by obtain⟨q,hq,rfl⟩:=U9.mp m;exact A.aV _ ha q.1 (by rw[R.Dz hq];exact U1)
theorem Rl.iQ(R:Rl K g E U H Hm F)(A:l6 g F H Hm fp):Rl K (g.iQ H fp) E U H Hm F where
 len:=R.len
 sub:=R.sub
 slot:=R.slot
 off:=R.off
 bT:=R.bT
 aV:=R.aV
 fr:=λp o hp ho=>by
  by_cases c:p∈fp
  .rw[oY c]at ho;exact ho
  .rw[iT c]at ho;exact R.fr p o hp ho
 new:=λi a ha=>by
  have c:a∉fp:=λz=>A.aV a z i ha
  rw[iT c];exact R.new i a ha
 pin:=R.pin
 old:=λa ha=>by
  by_cases c:a∈fp
  .rw[Hs c];exact .inl (A.off a c)
  .rw[iT c]at ha;rw[BQ c];exact R.old a ha
def Rl.zh{F':Nat->ZX}(A:l6 g F H Hm fp)(nM:∀a∈fp,a∉g.M)(R:Rl K (g.iQ H fp) E' σ' H' Hm' F'):Rl K g E' σ' H' Hm' F'/\l6 g F' H' Hm' fp/\∀a∈fp,H' a=H a:=by
 have keep:∀a∈fp,H' a=H a:=λa ha=>by
  cases e:H a with
  |none=>exact absurd e (A.bT a ha)
  |some o=>exact R.fr a o (nM a ha) (by rw[oY ha];exact e)
 refine⟨?_,⟨λa ha=>by rw[keep a ha];exact A.BN a ha,λa ha=>?_,λa ha i z=>?_,A.new⟩,keep⟩
 .exact {
   len:=R.len
   sub:=R.sub
   slot:=R.slot
   off:=R.off
   bT:=R.bT
   aV:=R.aV
   fr:=λp o hp ho=>by
    have c:p∉fp:=λz=>by rw[A.new p z]at ho;cases ho
    exact R.fr p o hp (by rw[iT c];exact ho)
   new:=λi a ha=>by
    rcases R.new i a ha with m|m
    .exact .inl m
    .by_cases c:a∈fp
     .exact .inr (A.new a c)
     .rw[iT c]at m;exact .inr m
   pin:=R.pin
   old:=λa ha=>by
    have c:a∉fp:=λz=>ha (A.new a z)
    have h':=R.old a (by rw[iT c];exact ha)
    rw[BQ c]at h';exact h' }
 .have h':=R.old a (by rw[oY ha];exact A.bT a ha);obtain⟨u,hu,nt⟩:=A.BN a ha;exact h'.off (Hs ha) R.sub (by rw[keep a ha];exact hu) nt
 rcases R.new i a z with m|m;{exact nM a ha m};rw[oY ha]at m;exact A.bT a ha m
theorem ff.snoc{xs:List V}{ds:ZU}{b:Addr}{ys:List V}{es:ZU}(e:H b=some (.lst ys))(r:aC K Hm ys es):∀{xs:List V}{ds:ZU}{fp:ZX},ff K H Hm xs ds fp->b∉fp->ff K H Hm (xs++[.ref b]) (ds++[.list es]) (fp++[b])
 |_,_,_,.nil,n=>.own e r n .nil
 |_,_,_,.lM h1 h2 t,n=>.lM h1 h2 (t.snoc (xs:=xs) (ds:=ds) e r n)
 |_,_,_,.own h1 h2 h3 t,n=>.own h1 h2 (λz=>by
   rcases UE.mp z with z|z
   .exact h3 z
   .exact n (U8.mp z▸U1)) (t.snoc (xs:=xs) (ds:=ds) e r λz=>n (U4 _ z))
theorem ff.get:∀{xs:List V}{ds:ZU}{fp:ZX}{m:Nat},ff K H Hm xs ds fp->ds[m]?=some (.list es)->∃b ys,xs[m]?=some (.ref b)/\H b=some (.lst ys)/\aC K Hm ys es/\b∈fp
 |_,_,_,_,.nil,h=>by simp at h
 |_,_,_,0,.lM e _ _,h=>by simp at h;rw[h]at e;cases e
 |_,_,_,m+1,.lM _ _ t,h=>t.get (m:=m) (by simpa using h)
 |_,_,_,0,.own e r _ _,h=>by simp at h;subst h;exact⟨_,_,rfl,e,r,U1⟩
 |_,_,_,m+1,.own _ _ _ t,h=>by obtain⟨b,ys,h1,h2,h3,h4⟩:=t.get (m:=m) (by simpa using h);exact⟨b,ys,h1,h2,h3,U4 _ h4⟩
theorem ff.put{b:Addr}(r:aC K Hm ys new):∀{xs:List V}{ds:ZU}{fp:ZX}{m:Nat},ff K H Hm xs ds fp->xs[m]?=some (.ref b)->(∃es,ds[m]?=some (.list es))->ff K (upd H b (.lst ys)) Hm xs (ds.set m (.list new)) fp
 |_,_,_,_,.nil,h,_=>by simp at h
 |_,_,_,0,.lM e _ _,_,⟨es,h⟩=>by simp at h;rw[h]at e;cases e
 |_,_,_,m+1,.lM e h2 t,h,⟨es,h'⟩=>.lM e h2 (t.put (m:=m) r (by simpa using h) ⟨es,by simpa using h'⟩)
 |_,_,_,0,.own (b:=b') e r' n t,h,_=>by simp at h;subst h;exact .own aH r n (t.step (aj.refl _) λa ha=>aq λz=>n (z▸ha))
 |_,_,_,m+1,.own (b:=b') (fp:=fp) e r' n t,h,⟨es,h'⟩=>by have h:_:=h;obtain⟨b2,ys2,g1,g2,g3,g4⟩:=t.get (m:=m) (es:=es) (by simpa using h');simp at h;rw[h]at g1;cases g1;refine .own (by rw[aq (show b'≠b from λz=>n (by rw[z];exact g4))];exact e) r' n (t.put (m:=m) r h ⟨es,by simpa using h'⟩)
def Rl.Tt(R:Rl K g E U H Hm F){i:Nat}{b:Addr}(e:E[i]?=some (some (k,d)))(hv:U[i]?=some (some v))(hb:b∈F i)(new:Own K (upd H b o) Hm k v d' (F i))(nt:sZ o)(hp:k=.ow true->∃ds,d'=.list ds) : Rl K g (E.set i (some (k,d'))) U (upd H b o) Hm F:=by
 have na:=R.off i b hb;have up:∀c,c≠b->upd H b o c=H c:=λc hc=>aq hc;have li:=bB e;exact {
  len:=by rw[VP];exact R.len
  sub:=λc u hc=>by
   have:c≠b:=λz=>by rw[z,na]at hc;cases hc
   rw[up c this];exact R.sub c u hc
  slot:=λj k' d'' e'=>by
   by_cases c:j=i
   .subst c;rw[aJ li]at e';cases e';exact⟨_,hv,new⟩
   .rw[au (Ne.symm c)]at e';obtain⟨u,g1,g2⟩:=R.slot j k' d'' e';refine⟨u,g1,g2.step (aj.refl _) λa ha=>up a λz=>c (R.aV j i b (z▸ha) hb)⟩
  off:=R.off
  bT:=λj a ha=>by
   by_cases c:a=b
   .rw[c];exact⟨_,aH,nt⟩
   .rw[up a c];exact R.bT j a ha
  aV:=R.aV
  fr:=λq u hq ho=>by
   have:q≠b:=λz=>by
    rcases R.new i b hb with y|y
    .exact hq (z▸y)
    .rw[z,y]at ho;cases ho
   rw[up q this];exact R.fr q u hq ho
  new:=R.new
  pin:=λq hq=>by
   obtain⟨g1,ds',g2⟩:=R.pin q hq
   by_cases c:i=q.1
   .rw[<-c]at g1 g2⊢;rw[e]at g2;cases g2;obtain⟨ds,rfl⟩:=hp rfl;exact⟨g1,ds,aJ li⟩
   .exact⟨g1,ds',by rw[au c];exact g2⟩
  old:=R.old }
def MC(h:cT t d E=some E'):E'.length=E.length:=by
 have go:∀{is:Zb}{ds:ZU}{E E':En},cy is ds E=some E'->E'.length=E.length:=by
  intro is;induction is with
  |nil=>intro ds E E' h;cases ds with|nil=>cases h;rfl|cons _ _=>cases h
  |cons j is ih=>
   intro ds E E' h;cases ds with
   |nil=>cases h
   |cons d ds=>rw[cy]at h;by_cases o:bR E j=true;{rw[if_pos o]at h;rw[ih h,VP]};rw[if_neg o]at h;cases h
 cases t with
 |nm j=>exact go (is:=[j]) h
 |tp js=>
  cases d with
  |tuple ds=>exact go (is:=js) h
  |_=>cases h
end
section
variable{X:Cx}{Ex:XK}{Y cs:Zb}{elt tg iter:Expr}{ifs:ZZ}{scope:Scope}{pos:Pos}
def Ju{vs:Zd}{t:Tg}(B:cX X scope vs NB ix)(hc:X.calm=true)(hcs:cs.length=vs.length)(hix:∀i∈ix,i<Y.length)(aV:∀c∈cs,c∉Y)(nd:(bO Y cs ix).Nodup)(hi:SI X Ex Y tg iter di)(ht:∀(C:Addr)(s:Shared)(H:Hp)(fp:ZX),fG (X.block scope C NB s H fp) (bO Y cs ix) tg t)(hts:∀i∈t.slots,i∈cs)(hif:∀(C:Addr)(s:Shared)(H:Hp)(fp:ZX),ig (X.block scope C NB s H fp) E0 (bO Y cs ix) ifs c)(hr:∀(C:Addr)(s:Shared)(H:Hp)(fp:ZX),SE (X.block scope C NB s H fp) E0 (bO Y cs ix) elt e)(hs:∀v,foldedSetIterable iter X.env v=pure v){w:(V->Hp->Prop)->St->Hp->Prop}(hw:∀{wi:TI}{G:TG}{tt:TT}{tr:TL}{U:St}{H:Hp}{Q:VK},PI X tg iter wi->(∀(C:Addr)(s:Shared)(H:Hp)(fp:ZX),PG (X.block scope C NB s H fp) tg G)->(∀(C:Addr)(s:Shared)(H:Hp)(fp:ZX),qi (X.block scope C NB s H fp) ifs tt)-> (∀(C:Addr)(s:Shared)(H:Hp)(fp:ZX)(D:Addr),PL (X.block scope C NB s H fp) D elt (⟨tg,iter,ifs,0⟩::[]) scope pos 1 tr)->oA wi vs.length ix G tt tr U H Q->w Q U H)(g:Gh)(x:XC)(E:En)(U:St)(H Hm:Hp)(F:Nat->ZX)(P:Ze)(Q:VK)(hx:XL X Ex x g)(R:Rl X.K g E U H Hm F)(p:rB sizeLine cs di t c e x E P)(q:∀E' k v u H' Hm' F' fp,P E' k v->Rl X.K g E' U H' Hm' F'->aj Hm Hm'->Tm X.K g F' H' Hm' k u v fp->Q u H'):w Q (sel Y U) H:=by
 obtain⟨wi,hpi,hwi⟩:=hi;refine hw (wi:=wi) (G:=λv U H Q=>∀(C:Addr)(s:Shared)(H2:Hp)(fp:ZX),WG (X.block scope C NB s H2 fp) tg v U H Q) (tt:=λU H Q=>∀(C:Addr)(s:Shared)(H2:Hp)(fp:ZX),vM (X.block scope C NB s H2 fp) ifs U H Q)
  (tr:=Lg λU H Q=>∀(C:Addr)(s:Shared)(H2:Hp)(fp:ZX),WE (X.block scope C NB s H2 fp) elt U H Q) hpi (λC s H2 fp pins s' U H v u Q I r h=>h C s H2 fp pins s' u I r) (λC s H2 fp pins s' U H Q I h=>h C s H2 fp pins s' I)
  (λC s H2 fp D=>Ci (λpins s' U H Q I h=>h C s H2 fp pins s' I)) ?_
 refine hwi g x E U H Hm F _ _ hx R p λE1 xs J H1 Hm1 F1 p1 R1 s1 it1=>?_;obtain⟨E0',I,hcl,i0,step,fin⟩:=p1;obtain⟨σ0,F0,R0,a0,n0⟩:=R1.bE hcl;rw[<-hcs,we hix aV a0 λc hc=>(n0 c hc).1];refine⟨λi m ys τ H'=>m=xs.length-i/\i<=xs.length/\∃E' dys' σ' Hm' F' fp,I i dys' E'/\Rl X.K g E' σ' H' Hm' F'/\aj Hm1 Hm'/\ff X.K H' Hm' ys dys' fp/\l6 g F' H' Hm' fp/\Agree cs σ0 σ'/\τ=sel (bO Y cs ix) σ',
  ⟨xs.length,by simp,V3 _,E0',[],σ0,Hm1,F0,[],i0,R0,aj.refl _,.nil,⟨(λ_ z=>by cases z),(λ_ z=>by cases z),(λ_ z=>by cases z),λ_ z=>by cases z⟩,Agree.refl _ _,rfl⟩,?_⟩
 rintro i m ys τ H2⟨rfl,hi,E2,dys2,σ2,Hm2,F2,fp,i2,R2,s2,r2,A2,a2,rfl⟩;obtain⟨go,stop⟩:=it1 i H2 Hm2 s2 R2.sub;by_cases c':i<xs.length
 .obtain⟨go,tF⟩:=go xs[i] (V0 c');refine .inr ⟨go,λys τ H'=>i+1<=xs.length/\∃E' dys' σ' Hm' F' fp,I (i+1) dys' E'/\Rl X.K g E' σ' H' Hm' F'/\aj Hm1 Hm'/\ff X.K H' Hm' ys dys' fp/\l6 g F' H' Hm' fp/\Agree cs σ0 σ'/\τ=sel (bO Y cs ix) σ',λys τ H' z=>⟨xs.length-(i+1),by lia,rfl,z⟩,λx H3 y C s H9 fp9=>?_⟩;obtain⟨Hm3,t1,t2,t3,old,rx⟩:=tF x H3 y;have R3:=R2.turn t1 t2 t3 old;have k3:∀a∈fp,H3 a=H2 a:=λa ha=>by
   cases e:H2 a with
   |none=>exact absurd e (A2.bT a ha)
   |some o=>exact t3 _ _ e
  have A3:l6 g F2 H3 Hm3 fp:=⟨λa ha=>by rw[k3 a ha];exact A2.BN a ha,λa ha=>by
   obtain⟨u,hu,nt⟩:=A2.BN a ha;exact(old a (A2.bT a ha)).off (A2.off a ha) t2 (t3 _ _ hu) nt,A2.aV,A2.new⟩
  have r3:=r2.step (H':=H3) t1 k3;have nM:=A3.notM R3;obtain⟨E4,e4,p4⟩:=step i xs[i] dys2 E2 (V0 c') i2;obtain⟨G,g1,g2⟩:=rT (X:=X.block scope C NB s H9 fp9) hc B.nd nd (ht C s H9 fp9);refine WG.of g1 (g2 (g:=g.iQ H3 fp) e4 rx (R3.iQ A3) λσ4 F4 R4 ag=>?_);have a4:Agree cs σ0 σ4:=a2.trans ⟨by rw[<-R3.len,<-R4.len,MC e4],λj hj=>ag j λz=>hj (hts j z)⟩;intro C2 s2' H92 fp92;refine(hif C2 s2' H92 fp92).ok XL.no R4 p4 λE5 b H5 Hm5 F5 p5 R5 s5=>?_;cases b with
  |true=>
   refine qv λC3 s3' H93 fp93=>?_;refine hr C3 s3' H93 fp93 (g.iQ H3 fp) xF E5 σ4 H5 Hm5 F5 _ _ XL.no R5 (by rw[if_pos rfl]at p5;exact p5) λE6 k6 v6 u6 H6 Hm6 F6 fp6 p6 R6 s6 T6=>?_;obtain⟨⟨pb,rfl⟩,hl,p6⟩:=p6;obtain⟨R6',A6,k6⟩:=Rl.zh A3 nM R6;have T1:=T6.own;have hlen:ys.length=dys2.length:=by
    have:∀{xs:List V}{ds:ZU}{fp:ZX}{H Hm:Hp},ff X.K H Hm xs ds fp->xs.length=ds.length:=by
     intro xs ds fp H Hm h;induction h with
     |nil=>rfl
     |lM _ _ _ ih=>rw[UL,UL,ih]
     |own _ _ _ _ ih=>rw[UL,UL,ih]
    exact this r2
   cases T1 with
   |@ow _ b zs es hb rz=>
    have nb:b∉fp:=λz=>by have:=T6.new b U1;rw[oY z]at this;exact A3.bT b z this
    have r6:=(r3.step (H':=H6) (s5.trans s6) k6).snoc (xs:=[]) (ds:=[]) hb rz nb;refine⟨by rw[hlen];exact hl,c',E6,_,σ4,Hm6,F6,fp++[b],p6,R6',s2.trans (t1.trans (s5.trans s6)),r6,⟨λa ha=>?_,λa ha=>?_,λa ha=>?_,λa ha=>?_⟩,a4,rfl⟩;{rcases UE.mp ha with ha|ha;{exact A6.BN a ha};rw[U8.mp ha];exact⟨_,hb,mC⟩};{rcases UE.mp ha with ha|ha;{exact A6.off a ha};rw[U8.mp ha];exact T6.off b U1};{rcases UE.mp ha with ha|ha;{exact A6.aV a ha};rw[U8.mp ha];exact T6.aV b U1};rcases UE.mp ha with ha|ha;{exact A6.new a ha};rw[U8.mp ha];have:=T6.new b U1;rw[iT nb]at this;exact this
  |false=>obtain⟨R5',A5,k5⟩:=Rl.zh A3 nM R5;exact qK ⟨c',E5,dys2,σ4,Hm5,F5,fp,by simpa using p5,R5',s2.trans (t1.trans s5),r3.step (H':=H5) s5 k5,A5,a4,rfl⟩
 have e:i=xs.length:=by lia
 subst e;refine .inl ⟨stop (U5 _),λp hp=>?_⟩;obtain⟨E3,hcl2,p2⟩:=fin _ _ i2;obtain⟨σ3,F3,R3p,a3,n3⟩:=(R2.iQ A2).bE hcl2;obtain⟨R3,A3,_⟩:=Rl.zh A2 (A2.notM R2) R3p;have R3':=R3.agree (cs:=cs) ((a0.trans a2).trans a3).symm λc hc=>(n3 c hc).2;have s3:=cH (o:=.lst ys) hp;have R4:=R3'.grow (H':=upd H2 p (.lst ys)) s3 (aj.refl _) (R3'.sub.trans s3) (λi a ha=>R3'.off i a ha) λ_ _=>.inl rfl;have np:p∉fp:=λz=>A2.bT p z hp;refine q _ _ _ _ _ Hm2 F3 (p::fp) p2 R4 (s1.trans s2) ⟨.dp aH np (r2.step (H':=upd H2 p (.lst ys)) (aj.refl _) λa ha=>aq λz=>np (z▸ha)),λa ha=>?_,λa ha i=>?_,λa ha=>?_⟩;{rcases U6.mp ha with rfl|ha;{exact R3'.oF hp};exact A2.off a ha};{rcases U6.mp ha with rfl|ha;{exact R3'.fresh hp};exact A3.aV a ha i};rcases U6.mp ha with rfl|ha;{exact R3'.gj hp};exact A2.new a ha
end
section
variable{X:Cx}{Ex:XK}{Y cs:Zb}{elt tg iter:Expr}{ifs:ZZ}{scope:Scope}{pos:Pos}
def SR{j:Nat}(hN:X.N.Nodup)(B:oW X.N X.env.scope scope vs NB ix=true)(hi:SI X Ex (aT X) tg iter di)(ht:∀(C:Addr)(s:Shared)(H:Hp)(fp:ZX),fG (X.block scope C NB s H fp) (bO (aT X) cs ix) tg t)(hif:∀(C:Addr)(s:Shared)(H:Hp)(fp:ZX),ig (X.block scope C NB s H fp) E0 (bO (aT X) cs ix) ifs c)(hr:∀(C:Addr)(s:Shared)(H:Hp)(fp:ZX),SE (X.block scope C NB s H fp) E0 (bO (aT X) cs ix) elt e)(hj:X.N[j]?=some y:=by rfl)(hy:X.env.scope.names.lookup y=some .local:=by rfl)(hsw:swapsWith (.ListComp elt [⟨tg,iter,ifs,0⟩] scope pos) (some (.Name y py)) spos.line X.env=pure true:=by rfl)(hc:X.calm=true:=by rfl)(ck:wZ (aT X) cs ix vs t.slots=true:=by rfl)(hs:∀v,foldedSetIterable iter X.env v=pure v:=by intro _;rfl):S1 X Ex (.Assign [.Name y py] (.ListComp elt [⟨tg,iter,ifs,0⟩] scope pos) spos) (aN j (rB sizeLine cs di t c e)):=by
 obtain⟨h1,h2,h3,h4,h5⟩:=vq ck;have B':cX X scope vs NB ix:=cX.of B;have ha:∀g∈([]:ZJ),g.is_async=0:=λ_ z=>by cases z
 rw[vV];intro g D' E U H Hm F D hx R p nx rt;refine Ju B' hc h1 h2 h3 h4 hi ht h5 hif hr hs (w:=λQ τ H=>(Q=λu H1=>D.nx (τ.set j (some u)) H1)->WS X (.Assign [.Name y py] (.ListComp elt [⟨tg,iter,ifs,0⟩] scope pos) spos) D τ H)
  (λg1 g2 g3 g4 g5 e=>by
   subst e;exact WS.of (Ba hN hj hy B' hc g1 g2 g3 g4 hsw ha hs) g5) g D'.xc E U H Hm F _ _ hx R p (λE' k v u H' Hm' F' fp p' R' s' T=>?_) rfl
 rw[lA Vh (gU (bB hj)) (R'.len▸i8 p'.1)];exact nx _ _ _ _ _ p'.2 (R'.put T p'.1) s'
def A8{i n:Nat}(h:dm E n=some E')(ne:i≠n):E'[i]?=E[i]?:=by unfold dm at h;split at h;{split at h;{cases h;exact au (Ne.symm ne)};cases h};cases h
def OB{x y name:Str}{id:String}{p yp sp apos cpos:Pos}{jx:Expr}{f:DM}{r:V->List V->Hp->VK->Prop}{dj:DE}{i j n jn:Nat}(hm:vP X id r)(D:Aj X.K f r)(slot:Slot "list" name id)(hty:typeOf (.builtin id)=pure (.type "method_descriptor"))(hv:PE X (.Name x p) (jK j))(hj:Y[j]?=some i)(hy:PE X (.Name y yp) (jK jn))(hjn:Y[jn]?=some n)(hs:pB jx)(hd:SE X Ex Y jx dj)(hline:(apos.endLine==cpos.line)=true) : SE X Ex Y (.Call (.Attribute (.Subscript (.Name x p) jx sp) name apos) [.Name y yp] [] cpos) (Ax f i dj n):=by
 intro g xc E U H Hm F P Q hx R h q;obtain⟨hh,h⟩:=h;obtain⟨o,ho⟩:=ko R hh;refine WE.of (yO YH slot hty hm (bL (e:=.Subscript (.Name x p) jx sp)) (eW (es:=[.Name y yp]) rfl) rfl (HW rfl (show 1<30 by decide)) hline rfl rfl) ?_;refine WE.of (Kq Ig hv bL hs) ⟨o,cY hj ho,?_⟩;refine hd g xc E U H Hm F _ _ hx R h λE1 k1 w u1 H1 Hm1 F1 fp1 p1 R1 s1 T1=>?_;obtain⟨a,pp,ds,m,es,k,d,E2,rfl,e1,hix,hes,en,ne,hf,p1⟩:=p1;cases T1.own.int;obtain⟨v',h1,h2⟩:=R1.slot i _ _ e1;rw[ho]at h1;cases h1;obtain⟨vn,Hm2,F2,hvn,s2,R2,rn⟩:=R1.dm en hf;have e2:E2[i]?=some (some (.dp pp,.list ds)):=(A8 hf ne).trans e1;obtain⟨v2,h3,h4⟩:=R2.slot i _ _ e2;rw[ho]at h3;cases h3;generalize hfi:F2 i=fi at h4;cases h4 with
 |@dp _ a0 xs _ fq ha0 n0 it0=>
  obtain⟨b,ys,hxm,hb,ry,mb⟩:=it0.get hes;have hlen:xs.length=ds.length:=by
   have:∀{xs:List V}{ds:ZU}{fp:ZX}{H Hm:Hp},ff X.K H Hm xs ds fp->xs.length=ds.length:=by
    intro xs ds fp H Hm h;induction h with
    |nil=>rfl
    |lM _ _ _ ih=>rw[UL,UL,ih]
    |own _ _ _ _ ih=>rw[UL,UL,ih]
   exact this it0
  refine .inl ⟨_,xs,a,.ref b,rfl,rfl,bI.of ha0,?_,.inl ⟨rfl,_,bI.of hb⟩,?_⟩;{show(qc xs.length a).bind (λj=>xs[j]?)=some (.ref b);rw[hlen,show qc ds.length a=some m from hix];exact hxm};refine WE.of hy ⟨vn,cY hjn hvn,?_⟩;show r (.ref b) [vn] H1 Q;have mbF:b∈F2 i:=by rw[hfi];exact U4 _ mb
  refine D H1 Hm2 b ys es [vn] [d] _ Q hb (R2.off i b mbF) R2.sub ry (.cons rn .nil) p1 λys' new u v p2 ry' ru=>?_;have nab:a0≠b:=λz=>n0 (z▸mb);have R3:=R2.Tt (o:=.lst ys') (d':=.list (ds.set m (.list new))) e2 ho mbF (by
   rw[hfi];exact .dp (by rw[aq nab];exact ha0) n0 (it0.put ry' hxm ⟨es,hes⟩)) mC λz=>by cases z
  exact q _ _ _ _ _ _ _ [] p2 R3 (s1.trans s2) (Tm.sh ru)
def Sw(j jn:Nat){i n:Nat}{x y name:Str}{id:String}{p yp sp apos cpos:Pos}{jx:Expr}{f:DM}{r:V->List V->Hp->VK->Prop}{dj:DE}(hm:vP X id r)(D:Aj X.K f r)(slot:Slot "list" name id)(hty:typeOf (.builtin id)=pure (.type "method_descriptor"))(hd:SE X Ex Y jx dj)(hN:X.N[j]?=some x:=by rfl)(hv:kB X.env.scope x:=by first|exact Or.inl rfl|exact Or.inr (Or.inl rfl)|exact Or.inr (Or.inr rfl))(hj:Y[j]?=some i:=by rfl)(hNn:X.N[jn]?=some y:=by rfl)(hvn:kB X.env.scope y:=by first|exact Or.inl rfl|exact Or.inr (Or.inl rfl)|exact Or.inr (Or.inr rfl))(hjn:Y[jn]?=some n:=by rfl)(hs:pB jx:=by intro _ _;rfl)(hline:(apos.endLine==cpos.line)=true:=by rfl)(hb:(x==("__debug__":Str))=false:=by decide)(hcd:(x==("__classdict__":Str))=false:=by decide)(hbn:(y==("__debug__":Str))=false:=by decide)(hcn:(y==("__classdict__":Str))=false:=by decide) : SE X Ex Y (.Call (.Attribute (.Subscript (.Name x p) jx sp) name apos) [.Name y yp] [] cpos) (Ax f i dj n):=OB hm D slot hty (gn hN hv hb hcd) hj (gn hNn hvn hbn hcn) hjn hs hd hline
end
section
variable{P:Program}{w:World}{K:Frag}{mg:ZK}{base:Heap}{N:Zd}{qual:Str}{scope:Scope}{f:Addr}{cd:Value}{A:Around}{outer:List Env}{s0:Shared}{H0:Hp}{Ex:XK}
def oV{j}(h:∃C,mg x=some (.ref C)/\gI K C uZ "ValueError.__new__" none=true)(hg:Gl (iy (gA P w) P w K mg base N qual scope f cd A outer s0 H0 Ex) x:=by rfl)(hdb:(x==("__debug__":Str))=false:=by decide) : S1 (iy (gA P w) P w K mg base N qual scope f cd A outer s0 H0 Ex) Ex (.Raise (some (.Call (.Name x np) [.Constant (.str y) j p] [] cpos)) none pos) (lU x):=by obtain⟨C,h⟩:=h;intro g D' E U H Hm F D hx R hp nx rt;refine WS.of (IT h.2 hg h.1 (gu G7 ji) hdb) ⟨by show 1<=sizeLine;decide,λa ha=>?_⟩;exact hx x .none C a _ h.1 hp (λp o hp ho=>cH ha _ _ (R.fr p o hp ho)) aH (R.gj ha)
end
end Dv
namespace Dv
open PySem L2
def K4(most:Nat)(E:En) (i:Nat)(v:PyData)(Q:Zj):Prop:=match E[i]?,v with
 |some (some (.ow p,.list ds)),.list es=>ds.length+es.length<=most/\Q (E.set i (some (.ow p,.list (ds++es))))
 |_,_=>False
universe u
def aI{a b:Prop}(x:a)(y:b):a/\b:=⟨x,y⟩
theorem rr0:dC v x E Q=Q E .sh v:=rfl
theorem rr1:aO i x (o::E) Q=Hj (o::E) i Q:=rfl
theorem rr2:ah r as x (o::E) Q=kZ as x (o::E) λE1 os=>Bj r as E1 os Q:=rfl
theorem rr3:aD sp ms as x (o::E) Q=kZ as x (o::E) λE1 os=>G9 sp ms as x E1 os Q:=rfl
theorem rr4:bW d x (o::E) Q=d x (o::E) λE' _ v=>vj v (Q E'):=rfl
theorem rr5:xR i x (o::E) Q=Gf (o::E) i Q:=rfl
theorem rr6:qy t x (o::E) Q=t x (o::E) λE' b=>Q E' (!b):=rfl
theorem rr7:tW a b x (o::E) Q=a x (o::E) λE1 _ v=>BW v λc=>ef c (b x E1 Q) (Q E1 .sh (.bool false)):=rfl
theorem rr8:vm a b x (o::E) Q=a x (o::E) λE1 _ v=>BW v λc=>ef c (Q E1 .sh (.bool true)) (b x E1 Q):=rfl
theorem rr9:nH a x (o::E) Q=a x (o::E) λE1 _ v=>vj v λc=>Q E1 .sh (.bool !c):=rfl
theorem rr10:lX f f' a b c x (o::E) Q=a x (o::E) λE1 _ u=>tG u λi=>b x E1 λE2 _ v=>tG v λj=>ef (f i j) (c x E2 λE3 _ w=>tG w λk=>Q E3 .sh (.bool (f' j k))) (Q E2 .sh (.bool false)):=rfl
theorem rr11:xY c a b x (o::E) Q=c x (o::E) λE1 t=>ef t (a x E1 Q) (b x E1 Q):=rfl
theorem rr12:dD D E=D.nx E:=rfl
theorem rr13:av a b D (o::E)=a { D with nx:=b D } (o::E):=rfl
theorem rr14:cO c a b D (o::E)=c D.xc (o::E) λE1 t=>ef t (a D E1) (b D E1):=rfl
theorem rr15:aN i e D (o::E)=e D.xc (o::E) λE' k v=>bK (nO E' i) (D.nx (E'.set i (some (k,v)))):=rfl
theorem rr16:q9 is e D (o::E)=e D.xc (o::E) λE' k v=>bK k.fz (Li is v E' D.nx):=rfl
theorem rr17:bG e D (o::E)=e D.xc (o::E) D.rt:=rfl
theorem rr18:jh i D (o::E)=IF (o::E) i D.rt:=rfl
theorem rr19:qh f i es x (o::E) Q=bK (jU (o::E) i) (kZ (es.map .ev) x (o::E) λE1 os=>FL f i (es.map .ev) E1 os Q):=rfl
theorem rr20:jV i j e D (o::E)=e D.xc (o::E) λE1 k v=>bK k.fz (bK (here E1 i) (j D.xc E1 λE2 k2 w=>bK k2.fz (jV.setI E2 i w v D.nx))):=rfl
theorem rr21:w4 f i e D (o::E)=bK (here (o::E) i) (e D.xc (o::E) λE1 _ v=>E8 f E1 i v D.nx):=rfl
theorem rr22:lU c D E=D.xc c .none:=rfl
theorem rr23:dQ e D (o::E)=e D.xc (o::E) λE' _ _=>D.nx E':=rfl
theorem rr24:eE x E Q=Q E true:=rfl
theorem rr25:iE e x (o::E) Q=e x (o::E) λE' k v=>bK k.fz (Kz v λxs=>Q E' xs):=rfl
theorem rr26:sI g as x (o::E) Q=kZ as x (o::E) λE1 os=>aL (dG as E1 os) λds=>aL (g ds) λxs=>Q E1 xs:=rfl
theorem rr27:x6 e x (o::E) Q=e x (o::E) λE' k v=>bK k.fz (xw v λds=>Q E' (j7 ds)):=rfl
theorem rr28:Kp a b x (o::E) Q=a x (o::E) λE1 k v=>bK k.fz (b x E1 λE2 k2 v2=>bK k2.fz (xw v λds=>xw v2 λes=>Q E2 ((ds.zip es).map λp=>.tuple [p.1,p.2]))):=rfl
theorem rr29:bY most e x ys (o::E) Q=e x (o::E) λE1 k v=>k.fz=true/\ys.length<most/\Q (ys++[v]) E1:=rfl
theorem rr30:kZ [] x E Q=Q E []:=rfl
theorem rr31:kZ (.pk i::r) x (o::E) Q=bK (here (o::E) i) (kZ r x (o::E) λE' os=>Q E' (none::os)):=rfl
theorem rr32:kZ (.ev d::r) x (o::E) Q=d x (o::E) λE1 k v=>bK k.fz (kZ r x E1 λE' os=>Q E' (some v::os)):=rfl
theorem rr33:dG [] E []=some []:=rfl
theorem rr34:∀{i:Nat}{r:List Arg}{o:Zg}{E:En}{os:Zf},dG (.pk i::r) (o::E) (none::os)=match(o::E)[i]? with
  |some (some (k,d))=>ef k.rd ((dG r (o::E) os).map (d::·)) none
  |_=>none:=rfl
theorem rr35:∀{d:DE}{v:PyData}{r:List Arg}{E:En}{os:Zf},dG (.ev d::r) E (some v::os)=(dG r E os).map (v::·):=rfl
theorem rr36:aL (some a) Q=Q a:=rfl
theorem rr37:aL none Q=False:=rfl
theorem rr38:here (o::E) i=match(o::E)[i]? with
  |some (some _)=>true
  |_=>false:=rfl
theorem rr39:cg (some (k,d))=!k.pin:=rfl
theorem rr40:cg none=true:=rfl
theorem rr41:jU (o::E) i=match(o::E)[i]? with
  |some (some (.ow _,.list _))=>true
  |_=>false:=rfl
theorem rr42:kH (o::E) i=match(o::E)[i]? with
  |some (some (.sh,_))=>true
  |_=>false:=rfl
theorem rr43:t9 (o::E) i=match(o::E)[i]? with
  |some (some (k,d))=>ef k.fz (some ((o::E).set i (some (.sh,d)))) none
  |_=>none:=rfl
theorem rr44:j5 [] E=some E:=rfl
theorem rr45:j5 (i::r) E=(t9 E i).bind (j5 r):=rfl
theorem rr46:Hj (o::E) i Q=match(o::E)[i]? with
  |some (some (_,d))=>aL (t9 (o::E) i) λE'=>Q E' .sh d
  |_=>False:=rfl
theorem rr47:IF (o::E) i Q=match(o::E)[i]? with
  |some (some (k,d))=>bK (!k.pin) (Q ((o::E).set i none) k d)
  |_=>False:=rfl
theorem rr48:Gf (o::E) i Q=match(o::E)[i]? with
  |some (some (k,d))=>bK k.rd (vj d (Q (o::E)))
  |_=>False:=rfl
theorem rr49:∀{r:DR}{as:List Arg}{o:Zg}{E:En}{os:Zf}{Q:Ze},Bj r as (o::E) os Q=aL (dG as (o::E) os) λds=>r ds λk v=>aL (uG as (o::E) k v) λE2=>Q E2 k v:=rfl
theorem rr50:∀{sp:bq}{ms:ZY}{as:List Arg}{x:XC}{o:Zg}{E:En}{os:Zf}{Q:Ze},G9 sp ms as x (o::E) os Q=aL (dG as (o::E) os) λds=>bK (vg ms as (o::E)) (sp ds (λus k v=>G0 ms as (o::E) us k v Q) x):=rfl
theorem rr51:∀{f:DM}{i:Nat}{as:List Arg}{o:Zg}{E:En}{os:Zf}{Q:Ze},FL f i as (o::E) os Q=aL (dG as (o::E) os) λargs=>match(o::E)[i]? with
  |some (some (.ow p,.list ds))=>f ds args λnew v=>Q ((o::E).set i (some (.ow p,.list new))) .sh v
  |_=>False:=rfl
theorem rr52:E8 f (o::E) i v Q=match(o::E)[i]? with
  |some (some (_,.int a))=>tG v λb=>Q ((o::E).set i (some (.sh,.int (f a b))))
  |_=>False:=rfl
theorem rr53:vj (.bool b) Q=Q b:=rfl
theorem rr54:BW (.bool b) Q=Q b:=rfl
theorem rr55:tG (.int i) Q=Q i:=rfl
theorem rr56:vj (.list ds) Q=Q (!ds.isEmpty):=rfl
theorem rr57:Kz (.list ds) Q=Q ds:=rfl
theorem rr58:Kz (.tuple ds) Q=Q ds:=rfl
theorem rr59:xw (.list ds) Q=Q ds:=rfl
theorem rr60:uG as (o::E) k v=ef ((iY as).all (kH (o::E))||flat k v) (some (o::E)) (j5 (iY as) (o::E)):=rfl
theorem rr61:iY []=[]:=rfl
theorem rr62:iY (.pk i::r)=i::iY r:=rfl
theorem rr63:iY (.ev d::r)=iY r:=rfl
theorem rr64:Kd.fz .sh=true:=rfl
theorem rr65:Kd.fz (.ow false)=true:=rfl
theorem rr66:Kd.fz (.dp false)=true:=rfl
theorem rr67:Kd.fz (.dk false)=true:=rfl
theorem rr68:Kd.fz (.dt false)=true:=rfl
theorem rr69:Kd.rd .sh=true:=rfl
theorem rr70:Kd.rd (.ow p)=true:=rfl
theorem rr71:Kd.rd (.dp p)=true:=rfl
theorem rr72:Kd.rd (.dk p)=true:=rfl
theorem rr73:Kd.rd (.dt p)=true:=rfl
theorem rr74:Kd.pin .sh=false:=rfl
theorem rr75:Kd.pin (.ow p)=p:=rfl
theorem rr76:Kd.pin (.dp p)=p:=rfl
theorem rr77:Kd.pin (.dk p)=p:=rfl
theorem rr78:Kd.pin (.dt p)=p:=rfl
theorem rr79:flat .sh v=lf v:=rfl
theorem rr80:lf (.int i)=true:=rfl
theorem rr81:lf (.bool b)=true:=rfl
theorem rr82:lf (.str s)=true:=rfl
theorem rr83:lf .none=true:=rfl
theorem rr84:(aX ms Q x).xc=x:=rfl
theorem rr85:(aX ms Q x).nx (o::E)=aL (fS ms (o::E)) λus=>Q us .sh .none:=rfl
theorem rr86:(aX ms Q x).rt (o::E) k v=aL (fS ms (o::E)) λus=>Q us k v:=rfl
theorem rr87:fS [] E=some []:=rfl
theorem rr88:fS (true::ms) (some (.ow true,.list es)::E)=(fS ms E).map (.list es::·):=rfl
theorem rr89:fS (false::ms) (o::E)=fS ms E:=rfl
theorem rr90:ini (true::ms) (d::ds)=some (.ow true,d)::ini ms ds:=rfl
theorem rr91:ini (false::ms) (d::ds)=some (.sh,d)::ini ms ds:=rfl
theorem rr92:ini [] []=[]:=rfl
theorem rr93:List.replicate (n+1) (none:Zg)=none::List.replicate n none:=rfl
theorem rr94:List.replicate 0 (none:Zg)=[]:=rfl
theorem rr95:∀{α β:Type}{f:α->β}{a:α},(some a).map f=some (f a):=rfl
theorem rr96:∀{α β:Type}{f:α->Option β}{a:α},(some a).bind f=f a:=rfl
theorem rr97:∀{α:Type}{p:α->Bool},[].all p=true:=rfl
theorem rr98:∀{α:Type}{p:α->Bool}{a:α}{l:List α},(a::l).all p=(p a&&l.all p):=rfl
theorem rr99:(true&&b)=b:=rfl
theorem rr100:(false&&b)=false:=rfl
theorem rr101:(true||b)=true:=rfl
theorem rr102:(false||b)=b:=rfl
theorem rr103:((!true)=false):=rfl
theorem rr104:((!false)=true):=rfl
theorem rr105:∀{α:Type}{l:List α},([]:List α)++l=l:=rfl
theorem rr106:∀{α:Type}{a:α}{l m:List α},(a::l)++m=a::(l++m):=rfl
theorem rr107:nO (o::E) i=match(o::E)[i]? with
  |some o=>cg o
  |none=>false:=rfl
theorem rr108:bK true P=P:=rfl
theorem rr109:bK false P=False:=rfl
theorem rr110:∀{α:Sort u}{a b:α},ef true a b=a:=rfl
theorem rr111:∀{α:Sort u}{a b:α},ef false a b=b:=rfl
theorem rr112:Li is (.tuple ds) E Q=aL (stK is ds E) Q:=rfl
theorem rr113:stK [] [] E=some E:=rfl
theorem rr114:stK (i::is) (d::ds) (o::E)=ef (nO (o::E) i) (stK is ds ((o::E).set i (some (.sh,d)))) none:=rfl
theorem rr115:nN i []=false:=rfl
theorem rr116:nN i (j::l)=(i==j||nN i l):=rfl
theorem rr117:rN [] ks E=true:=rfl
theorem rr118:rN (i::r) ks E=((!nN i ks&&!nN i r&&jU E i)&&rN r ks E):=rfl
theorem rr119:∀{α:Type}{o:α}{E:List α},(o::E)[0]?=some o:=rfl
theorem rr120:∀{α:Type}{o:α}{E:List α}{n:Nat},(o::E)[n+1]?=E[n]?:=rfl
theorem rr121:∀{α:Type}{o a:α}{E:List α},(o::E).set 0 a=a::E:=rfl
theorem rr122:∀{α:Type}{o a:α}{E:List α}{n:Nat},(o::E).set (n+1) a=o::E.set n a:=rfl
def dv:=aI @rr0<|aI @rr1<|aI @rr2<|aI @rr3<|aI @rr4<|aI @rr5<|aI @rr6<|aI @rr7<|aI @rr8<|aI @rr9<|aI @rr10<|aI @rr11<|aI @rr12<|aI @rr13<|aI @rr14<|aI @rr15<|aI @rr16<|aI @rr17<|aI @rr18<|aI @rr19<|aI @rr20<|aI @rr21<|aI @rr22<|aI @rr23<|aI @rr24<|aI @rr25<|aI @rr26<|aI @rr27<|aI @rr28<|aI @rr29<|aI @rr30<|aI @rr31<|aI @rr32<|aI @rr33<|aI @rr34<|aI @rr35<|aI @rr36<|aI @rr37<|aI @rr38<|aI @rr39<|aI @rr40<|aI @rr41<|aI @rr42<|aI @rr43<|aI @rr44<|aI @rr45<|aI @rr46<|aI @rr47<|aI @rr48<|aI @rr49<|aI @rr50<|aI @rr51<|aI @rr52<|aI @rr53<|aI @rr54<|aI @rr55<|aI @rr56<|aI @rr57<|aI @rr58<|aI @rr59<|aI @rr60<|aI @rr61<|aI @rr62<|aI @rr63<|aI @rr64<|aI @rr65<|aI @rr66<|aI @rr67<|aI @rr68<|aI @rr69<|aI @rr70<|aI @rr71<|aI @rr72<|aI @rr73<|aI @rr74<|aI @rr75<|aI @rr76<|aI @rr77<|aI @rr78<|aI @rr79<|aI @rr80<|aI @rr81<|aI @rr82<|aI @rr83<|aI @rr84<|aI @rr85<|aI @rr86<|aI @rr87<|aI @rr88<|aI @rr89<|aI @rr90<|aI @rr91<|aI @rr92<|aI @rr93<|aI @rr94<|aI @rr95<|aI @rr96<|aI @rr97<|aI @rr98<|aI @rr99<|aI @rr100<|aI @rr101<|aI @rr102<|aI @rr103<|aI @rr104<|aI @rr105<|aI @rr106<|aI @rr107<|aI @rr108<|aI @rr109<|aI @rr112<|aI @rr113<|aI @rr114<|aI @rr115<|aI @rr116<|aI @rr117<|aI @rr118<|aI @rr119<|aI @rr120<|aI @rr121<|@rr122
def dw:
 (∀{o:Zg}{E:En}{i:Nat},bR (o::E) i=match(o::E)[i]? with
  |some o=>cg o
  |none=>false) /\
 (∀{P:Prop},(True/\P)=P) /\
 (∀{P:Prop},(P/\True)=P) /\
 (∀{α:Type}{a:α},(a=a)=True) /\
 (∀{b:Bool},(b||true)=true) /\
 (∀{α:Type}{a b:α},(if True then a else b)=a) /\
 (∀{α:Type}{a b:α},(if False then a else b)=b) /\
 (∀{p:Prop} [Decidable p],(decide p=true)=p) /\
 ((true=false)=False) /\
 ((false=true)=False) /\
 (∀{b:Bool},((!b)=true)=(b=false)) /\
 (∀{p:Prop} [Decidable p],(decide p=false)=¬p) /\
 (type_of%@eF) /\
 (∀{α:Type}{p:Prop} [Decidable p]{a b:α},ef (decide p) a b=if p then a else b) /\
 (∀{p:Prop} [Decidable p]{a b:Prop},ef (decide p) a b=if p then a else b) /\
 (∀{b:Bool}{p q:Prop},ef b p q=if b=true then p else q) /\
 (∀{α:Type}{b:Bool}{p q:α},ef b p q=if b=true then p else q):=
 ⟨(by intro o E i;unfold bR cg;generalize (o::E)[i]?=z;rcases z with _|_|⟨k,d⟩<;>rfl),(by intros;simp),(by intros;simp),(by intros;simp),(by intros;simp),(by intros;simp),(by intros;simp),(by intros;simp),(by intros;simp),(by intros;simp),(by intros;simp),(by intros;simp),@eF,(by intros;rw[cG];simp only[VM]),(by intros;rw[cG];simp only[VM]),(by intros;exact cG),(by intros;exact cG)⟩
def Ul{x:PyData}{l:ZU}:fh (x::l) 0=some x:=by unfold fh qc;simp
def Uc{x y:PyData}{l:ZU}:fh (x::y::l) 1=some y:=by unfold fh qc;simp;rw[if_pos (by lia)];rfl
def TZ{n:Nat}:lD (n+1) 0=some 0:=by unfold lD;simp
def SK{n:Nat}:lD (n+2) 1=some 1:=by unfold lD;simp;lia
theorem rr123:d8 [.int a,.int b] P=P .sh (.int (a+b)):=rfl
theorem rr124:d8 [.list a,.list b] P=(a.length+b.length<=sizeLine/\P (.ow false) (.list (a++b))):=rfl
theorem rr125:d8 [.tuple a,.tuple b] P=((a≠[]/\a.length+b.length<=sizeLine)/\P .sh (.tuple (a++b))):=rfl
theorem rr126:kP [.int a,.int b] P=P .sh (.int (a-b)):=rfl
theorem rr127:gG [.int a,.int b] P=(kI a b/\P .sh (.int (a*b))):=rfl
theorem rr128:gG [.list a,.int k] P=((-(2^63)<=k/\k<2^63/\a.length*k.toNat<=sizeLine)/\P (.ow false) (.list (List.replicate k.toNat a).flatten)):=rfl
theorem rr129:kU [.int a,.int b] P=(0<b/\P .sh (.int (a%b))):=rfl
theorem rr130:wG [.int a,.int b] P=(Em a b/\P .sh (.int (a/b))):=rfl
theorem rr131:JB [.int a,.int b] P=(IQ a b/\P .sh (.int (a^b.toNat))):=rfl
theorem rr132:IE [.int a,.int b] P=P .sh (.bool (decide (a<b))):=rfl
theorem rr133:Uq [.int a,.int b] P=P .sh (.bool (decide (a<=b))):=rfl
theorem rr134:AD [.int a,.int b] P=P .sh (.bool (decide (b<a))):=rfl
theorem rr135:KG [.int a,.int b] P=P .sh (.bool (decide (b<=a))):=rfl
theorem rr136:w9 [.int a] P=P .sh (.int (-a)):=rfl
theorem rr137:lH [.int a,.int b] P=P .sh (.bool (decide (a=b))):=rfl
theorem rr138:lH [.str a,.str b] P=P .sh (.bool (decide (a=b))):=rfl
theorem rr139:mD [.int a,.int b] P=P .sh (.bool !(decide (a=b))):=rfl
theorem rr140:mD [.str a,.str b] P=P .sh (.bool !(decide (a=b))):=rfl
theorem rr141:lH [.list a,.list b] P=((dl 8 (.list a)=true/\dl 8 (.list b)=true)/\P .sh (.bool (decide (PyData.list a=.list b)))):=rfl
theorem rr142:mD [.list a,.list b] P=((dl 8 (.list a)=true/\dl 8 (.list b)=true)/\P .sh (.bool !(decide (PyData.list a=.list b)))):=rfl
theorem rr143:b7 [.list xs,.int i] P=aL (atK xs i) (P .sh):=rfl
theorem rr144:b7 [.tuple xs,.int i] P=aL (atK xs i) (P .sh):=rfl
theorem rr145:eK [.list xs] P=P .sh (.int xs.length):=rfl
theorem rr146:eK [.tuple xs] P=P .sh (.int xs.length):=rfl
theorem rr147:kg [.list xs] P=P (.ow false) (.list xs):=rfl
theorem rr148:kg [.tuple xs] P=P (.ow false) (.list xs):=rfl
theorem rr149:oz [.list xs] P=P .sh (.tuple xs):=rfl
theorem rr150:oz [.tuple xs] P=P .sh (.tuple xs):=rfl
theorem rr151:rS [.int a,.int b] P=P .sh (.int (if b<a then b else a)):=rfl
theorem rr152:uS [.int a,.int b] P=P .sh (.int (if b>a then b else a)):=rfl
theorem rr153:zu [.int a] P=P .sh (.int (if a<0 then-a else a)):=rfl
theorem rr154:oU [.int a] P=P .sh (.int a):=rfl
theorem rr155:oU [.bool b] P=P .sh (.int (if b=true then 1 else 0)):=rfl
theorem rr156:lQ [.int j] P=((0<=j/\j<=1000)/\P (.ow false) (.list (kY 0 j.toNat))):=rfl
theorem rr157:cK ds P=(ds.length<=sizeLine/\P (.ow false) (.list ds)):=rfl
theorem rr158:jz ds P=(ds.length<=sizeLine/\P .sh (.tuple ds)):=rfl
theorem rr159:oq false false [.list xs] P=P (.ow false) (.list (cutD xs none none)):=rfl
theorem rr160:oq true false [.list xs,.int a] P=P (.ow false) (.list (cutD xs (some a) none)):=rfl
theorem rr161:oq false true [.list xs,.int b] P=P (.ow false) (.list (cutD xs none (some b))):=rfl
theorem rr162:oq true true [.list xs,.int a,.int b] P=P (.ow false) (.list (cutD xs (some a) (some b))):=rfl
theorem rr163:oq false true [.tuple xs,.int b] P=P .sh (.tuple (cutD xs none (some b))):=rfl
theorem rr164:yl [.int j]=@ite _ (-(2^62)<=j/\j<2^62) (Classical.propDecidable _) (some (kY 0 j.toNat)) none:=rfl
theorem rr165:FW [.int i,.int j]=@ite _ (-(2^62)<=i/\i<2^62/\-(2^62)<=j/\j<2^62) (Classical.propDecidable _) (some (kY i (j-i).toNat)) none:=rfl
theorem rr166:yq c [d] P=aL (xP d) λt=>P .sh (.bool (jL c t)):=rfl
theorem rr167:xP (.int i)=some "int":=rfl
theorem rr168:xP (.tuple i)=some "tuple":=rfl
theorem rr169:xP (.list i)=some "list":=rfl
theorem rr170:xP (.bool b)=some "bool":=rfl
theorem rr171:xP .none=some "NoneType":=rfl
theorem rr172:jL "int" "int"=true:=rfl
theorem rr173:jL "int" "tuple"=false:=rfl
theorem rr174:jL "tuple" "int"=false:=rfl
theorem rr175:jL "tuple" "tuple"=true:=rfl
theorem rr176:jL "bool" "int"=false:=rfl
theorem rr177:jL "list" "list"=true:=rfl
theorem rr178:jL "int" "NoneType"=false:=rfl
theorem rr179:jL "tuple" "NoneType"=false:=rfl
theorem rr180:eO ds [d] P=(ds.length<sizeLine/\P (ds++[d]) .none):=rfl
theorem rr181:sC ds [.list es] P=(ds.length+es.length<=sizeLine/\P (ds++es) .none):=rfl
theorem rr182:wL ds [] P=∃d,ds[ds.length-1]?=some d/\P ds.dropLast d:=rfl
theorem rr183:wL ds [.int i] P=((-(2^63)<=i/\i<2^63)/\∃n d,seqIndex? i ds.length=some n/\ds[n]?=some d/\P (ds.eraseIdx n) d):=rfl
theorem rr184:cT (.nm i) d E=cy [i] [d] E:=rfl
theorem rr185:cT (.tp is) (.tuple ds) E=cy is ds E:=rfl
theorem rr186:cy [] [] E=some E:=rfl
theorem rr187:bE [] E=some E:=rfl
theorem rr188:jV.setI (o::E) i w v Q=match(o::E)[i]?,w with
  |some (some (.ow p,.list ds)),.int a=>aL (As ds.length a) λn=>Q ((o::E).set i (some (.ow p,.list (ds.set n v))))
  |some (some (.dk p,.dict kvs)),w=>(oj w=true/\kvs.length<16777216)/\Q ((o::E).set i (some (.dk p,.dict (putD kvs w v))))
  |some (some (.dt p,.dict (_::kvs))),.tuple ks=>(ks.all oj=true/\kvs.length<16777216)/\Q ((o::E).set i (some (.dt p,.dict ((.none,.none)::putD kvs (.tuple ks) v))))
  |_,_=>False:=rfl
theorem rr189:G0 ms as (o::E) us k v Q=aL (kQ ms as us (o::E)) λE2=>aL (u5 ms as us E2 k v) λE3=>Q E3 k v:=rfl
theorem rr190:kQ [] [] [] E=some E:=rfl
theorem rr191:kQ (false::ms) (a::r) us E=kQ ms r us E:=rfl
theorem rr192:kQ (true::ms) (.pk i::r) (u::us) (o::E)=match(o::E)[i]? with
  |some (some (.ow p,.list _))=>ef (CP u) (kQ ms r us ((o::E).set i (some (.ow p,u)))) none
  |_=>none:=rfl
theorem rr193:CP (.list l)=true:=rfl
theorem rr194:u5 ms as us (o::E) k v=ef ((kept ms as).all (kH (o::E))||(flat k v&&us.all (flat (.ow false)))) (some (o::E)) (j5 (kept ms as) (o::E)):=rfl
theorem rr195:kept [] []=[]:=rfl
theorem rr196:kept (false::ms) (.pk i::r)=i::kept ms r:=rfl
theorem rr197:kept (false::ms) (.ev d::r)=kept ms r:=rfl
theorem rr198:kept (true::ms) (a::r)=kept ms r:=rfl
theorem rr199:vg ms as (o::E)=(shape ms as&&rN (lent ms as) (kept ms as) (o::E)):=rfl
theorem rr200:lent [] []=[]:=rfl
theorem rr201:lent (true::ms) (.pk i::r)=i::lent ms r:=rfl
theorem rr202:lent (false::ms) (a::r)=lent ms r:=rfl
theorem rr203:shape [] []=true:=rfl
theorem rr204:shape (true::ms) (.pk i::r)=shape ms r:=rfl
theorem rr205:shape (false::ms) (a::r)=shape ms r:=rfl
theorem rr206:∀{α:Type},([]:List α).length=0:=rfl
theorem rr207:∀{α:Type}{a:α}{l:List α},(a::l).length=l.length+1:=rfl
theorem rr208:sizeLine=16777216:=rfl
theorem rr209:∀{f:DE->Arg},List.map f []=[]:=rfl
theorem rr210:∀{f:DE->Arg}{a:DE}{l:List DE},List.map f (a::l)=f a::List.map f l:=rfl
theorem rr211:atK (x::l) 0=some x:=rfl
theorem rr212:atK (x::y::l) 1=some y:=rfl
theorem rr213:As (n+1) 0=some 0:=rfl
theorem rr214:As (n+2) 1=some 1:=rfl
theorem rr215:As (n+1+1) 1=some 1:=rfl
def Us:(∀{x:PyData}{l:ZU},fh (x::l) 0=some x)/\(∀{x y:PyData}{l:ZU},fh (x::y::l) 1=some y)/\(∀{n:Nat},lD (n+1) 0=some 0)/\(∀{n:Nat},lD (n+2) 1=some 1)/\(∀{n:Nat},lD (n+1+1) 1=some 1)/\(∀{P:Zh},dF false [.none,.none] P=P .sh (.bool true))/\(∀{P:Zh},dF true [.none,.none] P=P .sh (.bool false))/\(∀{i:Int}{P:Zh},dF false [.int i,.none] P=P .sh (.bool false))/\(∀{i:Int}{P:Zh},dF true [.int i,.none] P=P .sh (.bool true))/\(∀{i:ZU}{P:Zh},dF false [.tuple i,.none] P=P .sh (.bool false))/\(∀{i:ZU}{P:Zh},dF true [.tuple i,.none] P=P .sh (.bool true))/\(∀{d:PyData}{xs:ZU}{P:Zh},lJ false [d,.list xs] P=((xs.all (dl 8)=true/\dl 8 d=true)/\P .sh (.bool (decide (d∈xs)))))/\(∀{d:PyData}{xs:ZU}{P:Zh},lJ true [d,.list xs] P=((xs.all (dl 8)=true/\dl 8 d=true)/\P .sh (.bool !(decide (d∈xs)))))/\(∀{d:PyData}{xs:ZU}{P:Zh},lJ false [d,.tuple xs] P=((xs.all (dl 8)=true/\dl 8 d=true)/\P .sh (.bool (decide (d∈xs)))))/\(∀{d:PyData}{xs:ZU}{P:Zh},lJ true [d,.tuple xs] P=((xs.all (dl 8)=true/\dl 8 d=true)/\P .sh (.bool !(decide (d∈xs)))))/\(∀{i:Nat}{is:Zb}{d:PyData}{ds:ZU}{o:Zg}{E:En},cy (i::is) (d::ds) (o::E)=if bR (o::E) i then cy is ds ((o::E).set i (some (.sh,d)))else none)/\(∀{i:Nat}{r:Zb}{o:Zg}{E:En},bE (i::r) (o::E)=if bR (o::E) i then bE r ((o::E).set i none)else none)/\(∀{i:Nat},List.contains [] i=false)/\(∀{i j:Nat}{l:Zb},List.contains (j::l) i=(i==j||List.contains l i))/\(∀{α:Type},(([]:List α).Nodup)=True)/\(∀{i:Nat},([i]:Zb).Nodup=True)/\type_of%@uX/\type_of%@Ar:=
 ⟨Ul,Uc,TZ,SK,SK,(by simp[dF]),(by simp[dF]),(by simp[dF]),(by simp[dF]),(by simp[dF]),(by simp[dF]),(by intro d xs P;cases d<;>rfl),(by intro d xs P;cases d<;>rfl),(by intro d xs P;cases d<;>rfl),(by intro d xs P;cases d<;>rfl),rfl,rfl,(by intros;simp),(by intros;rw[List.contains_cons]),(by intros;simp),(by intros;simp),@uX,@Ar⟩
def dx:=aI @rr123<|aI @rr124<|aI @rr125<|aI @rr126<|aI @rr127<|aI @rr128<|aI @rr129<|aI @rr130<|aI @rr131<|aI @rr132<|aI @rr133<|aI @rr134<|aI @rr135<|aI @rr136<|aI @rr137<|aI @rr138<|aI @rr139<|aI @rr140<|aI @rr141<|aI @rr142<|aI @rr143<|aI @rr144<|aI @rr145<|aI @rr146<|aI @rr147<|aI @rr148<|aI @rr149<|aI @rr150<|aI @rr151<|aI @rr152<|aI @rr153<|aI @rr154<|aI @rr155<|aI @rr156<|aI @rr157<|aI @rr158<|aI @rr159<|aI @rr160<|aI @rr161<|aI @rr162<|aI @rr163<|aI @rr164<|aI @rr165<|aI @rr166<|aI @rr167<|aI @rr168<|aI @rr169<|aI @rr170<|aI @rr171<|aI @rr172<|aI @rr173<|aI @rr174<|aI @rr175<|aI @rr176<|aI @rr177<|aI @rr178<|aI @rr179<|aI @rr180<|aI @rr181<|aI @rr182<|aI @rr183<|aI @rr184<|aI @rr185<|aI @rr186<|aI @rr187<|aI @rr188<|aI @rr189<|aI @rr190<|aI @rr191<|aI @rr192<|aI @rr193<|aI @rr194<|aI @rr195<|aI @rr196<|aI @rr197<|aI @rr198<|aI @rr199<|aI @rr200<|aI @rr201<|aI @rr202<|aI @rr203<|aI @rr204<|aI @rr205<|aI @rr206<|aI @rr207<|aI @rr208<|aI @rr209<|aI @rr210<|aI @rr211<|aI @rr212<|aI @rr213<|aI @rr214<|aI @rr215<|@Us
end Dv
namespace L2
open PySem PySem.Spec PyProof.Rows
def Gw{K:ZR}{mb:ZK}{CX:mS}{k:Nat}{fa a:Addr}{sp:Sp}{s₁:Shared}{vs:ZW}{ns:Zc}(KX:K.In s₁.heap)(hns:s₁.heap.Ns mainGlobals mg)(hb:s₁.heap.Ns builtinsNs mb)(hbb:∀x:Str,x≠"__name__"->mb x=bootBuiltins x)(hlim:s₁.heap.NoLimit)(hg:s₁.gens=#[])(ha:s₁.heap.get? a=some { cls:=.type "list",data:=.seq vs.toArray })(hi:IntsAre vs ns)(hl:ns.length<=sizeLine)(hr:fc k callerA)(F:∀base:Heap,K.In base->base.Ns mainGlobals mg->iw P w K mg base CX k fa fd [x] sp)(hbind:∀(s:Shared)(u:Value),BindsTo s fd ⟨[u],[]⟩ [(x,u)])(hsp:∀H:Hp,Jf H->Dv.cu K H a (ns.map V.int)->sp [.ref a] H (λv _=>v=.bl true) λ_ _ _=>False)(hCX:∀H e s',CX [] H s₁ (λ_ _ _=>False) e s'->False) : codeAny (model P w) callerA (.call (.ref fa) ⟨[.ref a],[]⟩) (λr s'=>r=.ok (.ret (.bool true))/\OldK s₁.heap s'.heap/\s'.os=s₁.os/\AllBare s'.gens) s₁:=by
 have rv:=yg hi;have A9:=hi.length
 -- from an abstract heap in which nothing but the script may be tracked
 have core:∀H:Hp,Jf H->Dv.cu K H a (ns.map V.int)->dN P w H s₁.heap->(∀b,H b≠none->b=a)->(H a≠none->K.lookup a=none)->
   codeAny (model P w) callerA (.call (.ref fa) ⟨[.ref a],[]⟩) (λr s'=>r=.ok (.ret (.bool true))/\OldK s₁.heap s'.heap/\s'.os=s₁.os/\AllBare s'.gens) s₁:=by
  intro H hO hS hok hA hK;have base_of:∀{b:Addr}{o:Obj},s₁.heap.get? b=some o->H b=none->(pT s₁.heap H).get? b=some o:=λe n=>Jo e n
  have noA:∀{b:Addr}{o:Obj}{es:ZN}{ep:Nat},s₁.heap.get? b=some o->o.data=.dict es ep->H b=none:=λ{b o es ep} e d=>by
   cases q:H b with
   |none=>rfl
   |some u=>
    have e':b=a:=hA b (by rw[q];simp)
    subst e';rw[ha]at e;cases e;have d':Data.seq vs.toArray _=Data.dict es ep:=d;cases d'
  have nsK:∀{b:Addr}{m:ZK},s₁.heap.Ns b m->(pT s₁.heap H).Ns b m:=λ{b m} ⟨o,es,ep,e,d,r⟩=>⟨o,es,ep,base_of e (noA e d),d,r⟩
  have hKb:K.In (pT s₁.heap H):=λb o e=>base_of (KX b o e) (by
   cases q:H b with
   |none=>rfl
   |some u=>
    have e':b=a:=hA b (by rw[q];simp)
    subst e';rw[hK (by rw[q];simp)]at e;cases e)
  have hM:Mod K mg (pT s₁.heap H):=⟨hKb,nsK hns,⟨mb,nsK hb,hbb⟩,let⟨mc,h1,h2⟩:=hlim;⟨mc,nsK h1,h2⟩⟩
  have e0:EF P w K mg (pT s₁.heap H) callerA [] s₁ H:=⟨rfl,hM,λb o e=>Nj e,X8 (HJ _ _),trivial,λb hb=>absurd (show b∈([]:ZX)from hb) (by simp),hok,.of_eq hg⟩
  refine XQ ((F _ hKb (nsK hns)).run callerA [] s₁ H ⟨[.ref a],[]⟩ [.ref a] [.ref a] _ _ hr e0 (hbind s₁ (.ref a)) (.cons rfl .nil) (hsp H hO hS)) λr s' h=>?_
  cases r with
  |error e=>exact(hCX H e s' h).elim
  |ok fl=>
   cases fl with
   |next=>exact False.elim h
   |brk=>exact False.elim h
   |cont=>exact False.elim h
   |ret u=>
    obtain⟨v,H',os,bare,un,hok',r',q⟩:=h;have q':v=.bl true:=q;subst q';obtain rfl:u=Value.bool true:=r';refine⟨rfl,OldK.of_keep λb o e=>?_,os,bare⟩
    cases q:H b with
    |none=>exact un.keep b o e q (by intro z;exact absurd (show b∈([]:ZX)from z) (by simp)) (by simp)
    |some u=>
     rcases hO b with z|⟨ob,xs,z⟩
     .rw[q]at z;cases z
     .have z2:=un.kM b ob _ z;obtain⟨e1,_⟩:=hok b _ z;obtain⟨e2,_⟩:=hok' b _ z2;rw[e]at e1;cases e1;exact e2
 cases hk:K.lookup a with
 |some o=>
  -- the script is one of the module's own objects
  have e:=KX a o hk;rw[ha]at e;cases e;refine core (λ_=>none) (λ_=>.inl rfl) (.inr ⟨vs,_,hk,by rw[A9];exact hl,rv⟩) (λb u z=>by have z':(none:Option HO)=some u:=z;cases z') (λb z=>absurd rfl z) λz=>absurd rfl z
 |none=>
  refine core (λb=>if b=a then some (.cL { cls:=.type "list",data:=.seq vs.toArray } (.lst (ns.map V.int)))else none) (λb=>?_) (.inl (.inr ⟨{ cls:=.type "list",data:=.seq vs.toArray },if_pos rfl⟩)) (λb u z=>?_) (λb z=>?_) λ_=>hk
  .by_cases hb:b=a
   .exact .inr ⟨_,_,if_pos hb⟩
   .exact .inl (if_neg hb)
  .by_cases hb:b=a
   .have z':=(if_pos hb).symm.trans z;cases z';subst hb;exact⟨ha,by rw[U7];exact hl,vs,_,rv,ha⟩
   .have z':=(if_neg hb).symm.trans z;cases z'
  .by_cases hb:b=a
   .exact hb
   .exact absurd (if_neg hb) z
def PD{l:PySem.W.OpenLaw}{n k:Nat}{YP:World->Heap->Prop}{d:DefRec}{K:Params->ZR}{CX:World->mS}{sp:World->Sp}(hn:l.most=some n)(hn2:n<=sizeLine)(hdf:d.params.defaults=[])(hr:fc k callerA)(hY:∀(w:World)(h:Heap),YP w h->(K w.params).In h)(F:∀(w:World)(mg:ZK)(fa:Addr)(h:Heap),(K w.params).In h->h.Ns mainGlobals mg->mg d.name=some (.ref fa)-> ∃fd:FuncData,(∀(s:Shared)(u:Value),BindsTo s fd ⟨[u],[]⟩ [(x,u)]) /\ ∀base:Heap,(K w.params).In base->base.Ns mainGlobals mg->iw l.prog w (K w.params) mg base (CX w) k fa fd [x] (sp w))(hsp:∀(w:World)(H:Hp)(a:Addr)(ns:Zc),ns.length<=n->Jf H->Dv.cu (K w.params) H a (ns.map V.int)->sp w [.ref a] H (λv _=>v=.bl true) λ_ _ _=>False)(hCX:∀(w:World)(H:Hp)(s:Shared)(e:Value)(s':Shared),CX w [] H s (λ_ _ _=>False) e s'->False) : PySem.W.WalkO q loose XP YP l.row.toRowW d [] (λf vs=>PySem.call f vs):=by refine SO.Bx hn hdf λw s₀ s₁ mg mb fa o pm cd doc a vs ns G Zl ho hd hcd hmg hobj hints hlen hg=>?_;have KX:=hY w _ Zl;obtain⟨fd,hb,hF⟩:=F w mg fa _ KX G.T.g hmg;exact Gw KX G.T.g G.T.b G.T.builtins G.T.nolimit hg hobj hints (V4 hlen hn2) hr hF hb (λH hO hS=>hsp w H a ns hlen hO hS) λH e s'=>hCX w H s₁ e s'
end L2
namespace Dv
open PySem L2 PySem.W
inductive Cf(K:Frag)(vs:List V)(H:Hp)(Q:VK):Prop
 |mk:∀(a:Addr)(ns:Zc),(vs=[.ref a])->(cu K H a (ns.map V.int))->(ns.length<=63)->(∀H',Q (.bl true) H')->Cf K vs H Q
def Ft(K:Frag):Sp:=λvs H Q _E3=>Cf K vs H Q
def vU:bq:=λds Q x=>∃ns:Zc,ds=[.list (ns.map .int)]/\ns.length<=63/\Q [] .sh (.bool true)
def MS(h:Ft K vs H Q E):cE mg K [false] vU vs H Q E:=by
 obtain⟨a,ns,rfl,r,hl,q⟩:=h;refine⟨[.list (ns.map .int)],[],H,λ_ _ r=>r=.bool true,xF,aj.refl _,.sh (.lst r (lC ns)) .nil,⟨ns,rfl,hl,rfl⟩,λus k r u H' Hm' fp e _ _ _ _ _ o _=>?_,λ_ _ _ _ _ _ z=>z.elim⟩;cases e;cases o with
 |sh h=>cases h;exact q H'
def Gz{l:OpenLaw}{YP:World->Heap->Prop}{d:DefRec}{K:Params->Frag}{k:Nat}(hn:l.most=some 63)(hdf:d.params.defaults=[])(hr:fc k callerA)(hY:∀(w:World)(h:Heap),YP w h->(K w.params).In h)(F:∀(w:World)(mg:ZK)(fa:Addr)(h:Heap),(K w.params).In h->h.Ns mainGlobals mg->mg d.name=some (.ref fa)-> ∃fd:FuncData,(∀(s:Shared)(u:Value),BindsTo s fd ⟨[u],[]⟩ [("script",u)])/\∀base:Heap,(K w.params).In base->base.Ns mainGlobals mg->iw l.prog w (K w.params) mg base (gA l.prog w) k fa fd ["script"] (cE mg (K w.params) [false] vU)) : WalkO q loose XP YP l.row.toRowW d [] (λf vs=>PySem.call f vs):=
 L2.PD (n:=63) (k:=k) (x:="script") (CX:=λw=>gA l.prog w) (sp:=λw=>Ft (K w.params)) hn (by decide) hdf hr hY (λw mg fa h h1 h2 h3=>by
  obtain⟨fd,hb,hF⟩:=F w mg fa h h1 h2 h3;exact⟨fd,hb,λbase g1 g2=>(hF base g1 g2).imp λvs H Q E z=>MS z⟩) (λ_ _ a ns hl _ hS=>⟨a,ns,rfl,hS,hl,λ_=>rfl⟩) λw H s e s' z=>by
  obtain⟨_,_,_,_,_,_,_,_,_,_,_,_,_,_,z⟩:=z;exact z.elim
end Dv
namespace TS
open PySem PyProof.Rows
section
variable{prog:Program}{w:World}{A:Around}{E:ZI}{s:Shared}{kd:SortKind}{P:Value->Prop}{xs0:Array Keyed}
def PF{st:SortSt}(L:wX prog w A s kd P)(G:Good P xs0)(B:SB kd xs0 st)(p0:pendingOf st=#[])(h2:2<=xs0.size)(h64:xs0.size<64)(h:∀st',SB kd xs0 st'->Q () st'):wpS (model prog w) A E s sortRuns' Q st:=by
 rw[sortRuns'_eq];refine UN (wpS_get ?_);dsimp only;have hmr:minRun' xs0.size xs0.size 0=xs0.size:=by
  obtain⟨f,hf⟩:∃f,xs0.size=f+1:=⟨xs0.size-1,by lia⟩;have:minRun' (f+1) xs0.size 0=xs0.size:=by rw[minRun'_succ,if_pos h64];rfl
  rwa[<-hf]at this
 simp only[B.size,hmr];refine UN (Vr (Vs
  (I:=λx c st'=>(x=0/\c=(none,0)/\SB kd xs0 st'/\pendingOf st'=#[])\/(1<=x/\c=(none,xs0.size)/\SB kd xs0 st'/\(pendingOf st').size=1))
  (Q:=λc st'=>c=(none,xs0.size)/\SB kd xs0 st'/\(pendingOf st').size=1) ?step ?fin (.inl ⟨rfl,rfl,B,p0⟩)) ?post)
 case fin=>
  rintro c st' (⟨hx,_,_⟩|⟨_,hc,hD⟩)
  .lia
  .exact⟨hc,hD⟩
 case step=>
  rintro x c st' _ hx (⟨rfl,rfl,B1,p1⟩|⟨hx1,rfl,hD⟩)
  .dsimp only;rw[if_neg (by lia)]
   simp only[YC,Nat.min_self,X7];refine UN (IM L G B1 (by lia) (by lia) λm st2 B2 p2 m1 m2=>?_)
   dsimp only;have push:∀st3:SortSt,SB kd xs0 st3->pendingOf st3=#[]->SB kd xs0 (setPending st3 ((pendingOf st3).push (0,xs0.size,0)))/\(pendingOf (setPending st3 ((pendingOf st3).push (0,xs0.size,0)))).size=1:=λst3 B3 p3=>
    ⟨⟨B3.perm,B3.kind,B3.ok⟩,by show((pendingOf st3).push _).size=1;rw[p3];rfl⟩
   by_cases hlt:m<xs0.size
   .rw[if_pos hlt];refine UN (wpS_lift (Vp ⟨rfl,?_⟩));refine UN (Q6 L G B2 (by lia) λst3 B3 p3=>?_)
    simp only[Bool.not_true,XF,Vy];refine UN (wpS_get ?_);have p4:pendingOf st3=#[]:=p3.trans (p2.trans p1);have hb:(pendingOf st3).back?=none:=by rw[p4];rfl
    rw[hb];dsimp only;exact UN (wpS_modify (UY (.inr ⟨by lia,rfl,push st3 B3 p4⟩)))
   .rw[if_neg hlt];have hm:m=xs0.size:=by lia
    subst hm;refine UN (wpS_get ?_);have p4:pendingOf st2=#[]:=p2.trans p1;have hb:(pendingOf st2).back?=none:=by rw[p4];rfl
    rw[hb];dsimp only;exact UN (wpS_modify (UY (.inr ⟨by lia,rfl,push st2 B2 p4⟩)))
  .dsimp only;rw[if_pos (U5 _)];exact UY ⟨rfl,hD⟩
 case post=>
  rintro c st'⟨rfl,B1,p1⟩;dsimp only;refine UN (Vr (Vs (I:=λ_ c st''=>st''=st'/\c=(none,())) (Q:=λc st''=>st''=st'/\c=(none,())) ?_ (λ_ _ hh=>hh) ⟨rfl,rfl⟩) ?_)
  .rintro x c st'' _ _⟨rfl,rfl⟩;refine UN (wpS_get ?_);rw[if_pos (by rw[p1];exact U5 1)]
   exact UY ⟨rfl,rfl⟩
  .rintro c st''⟨rfl,rfl⟩;exact UY (h _ B1)
end
section
variable{prog:Program}{w:World}{A:Around}{E:ZI}{s:Shared}
def AO{a:Addr}{n:Nat}(ho:s.heap.get? a=some (seqObj "list" vs.toArray n))(hv:∀v∈vs,IsPair s.heap v)(few:vs.length<=63)(h:∀us:ZT,us.toList.Perm vs->R (.done (.ret .none)) { s with heap:=sortedHeap s.heap a vs us }):wpAny (model prog w) A (Builtin.«list.sort» ⟨[.ref a],[]⟩) R E s:=by
 have line:(1000:Nat)<=sizeLine:=by decide
 have az:a<s.heap.objs.size:=UG ho;rw[list_sort_plain (a:Addr)];refine U0 (YA ho rfl (?_:_));refine U0 (listUpdate_at ho rfl (?_:_) (by simp;lia) (by simp));obtain⟨ep,g1⟩:∃ep,(s.heap.update a (Obj.mapSeq λ_=>#[])).get? a=some (seqObj "list" #[] ep):=⟨_,get?_update_seq ho λ_=>#[]⟩;refine U0 (seqEpoch_at g1 rfl (?_:_));refine U0 (wpAny_newTuple (?_:_) (by simp;lia));refine U0 (Y9 (?_:_));refine VX (?_:_);have g6:(((s.heap.update a (Obj.mapSeq λ_=>#[])).push (seqObj "tuple" vs.toArray 0)).push (seqObj "list" #[] 0)).get? a=some (seqObj "list" #[] ep):=UQ _ (UQ _ g1);have keep:∀b o,b≠a->s.heap.get? b=some o->(((s.heap.update a (Obj.mapSeq λ_=>#[])).push (seqObj "tuple" vs.toArray 0)).push (seqObj "list" #[] 0)).get? b=some o:=λb o hb e=>UQ _ (UQ _ ((Vn _ _ (Ne.symm hb)).trans e));have hv6:∀v∈vs,IsPair (((s.heap.update a (Obj.mapSeq λ_=>#[])).push (seqObj "tuple" vs.toArray 0)).push (seqObj "list" #[] 0)) v:=λv m=>(hv v m).keep ho rfl keep;refine id (?_:wpAny (model prog w) A _ R E { s with heap:=((s.heap.update a (Obj.mapSeq λ_=>#[])).push (seqObj "tuple" vs.toArray 0)).push (seqObj "list" #[] 0) });dsimp only;have psz:(vs.toArray.zip vs.toArray).size=vs.length:=by simp
 have out:∀zs:Array Keyed,zs.Perm (vs.toArray.zip vs.toArray)->(zs.map (·.2)).toList.Perm vs:=λzs p=>by
  have p2:=(Array.perm_iff_toList_perm.mp p).map (·.2);rw[Array.toList_map];refine p2.trans ?_;have:((vs.toArray.zip vs.toArray).toList.map (·.2))=vs:=by rw[Array.toList_zip];simp[List.map_snd_zip]
  rw[this]
 by_cases h2:vs.toArray.size<2;{rw[if_pos h2,if_pos h2];refine U0 (U3 (?_:_));rw[StateT.run_pure];refine U0 (U3 (?_:_));dsimp only;refine U0 (seqEpoch_at g6 rfl (?_:_));have o1:=out (vs.toArray.zip vs.toArray) (Array.Perm.refl _);have l1:=o1.length_eq;rw[Vl]at l1;refine U0 (listUpdate_at g6 rfl (?_:_) (by simp) (V4 (X8 l1) (by lia)));simp only[bne_self_eq_false,XF,Vy];refine U3 (?_:_);exact h _ o1};rw[if_neg h2,if_neg h2];have ne:vs≠[]:=λz=>h2 (by rw[z];decide);refine U0 (DK (s:={ s with heap:=((s.heap.update a (Obj.mapSeq λ_=>#[])).push (seqObj "tuple" vs.toArray 0)).push (seqObj "list" #[] 0) }) ne hv6 (?_:_));refine U0 (V9 (PF (kd:=tuples' true) (P:=IsPair (((s.heap.update a (Obj.mapSeq λ_=>#[])).push (seqObj "tuple" vs.toArray 0)).push (seqObj "list" #[] 0))) (xs0:=vs.toArray.zip vs.toArray) (s:={ s with heap:=((s.heap.update a (Obj.mapSeq λ_=>#[])).push (seqObj "tuple" vs.toArray 0)).push (seqObj "list" #[] 0) }) (Q:=λ_ st'=>SB (tuples' true) (vs.toArray.zip vs.toArray) st') Ef (λk p hp=>?_) ⟨Array.Perm.refl _,rfl,rfl⟩ rfl (by rw[psz];rw[UO]at h2;lia) (by rw[psz];lia) λst' B=>B) ?_ λ_ _ e=>e);{have m:p∈(vs.toArray.zip vs.toArray).toList:=V7 (by rw[VG];exact hp);rw[Array.toList_zip]at m;exact hv6 _ (Xs m).1};rintro⟨⟨⟩,st'⟩s'⟨rfl,B⟩;dsimp only;refine U0 (seqEpoch_at g6 rfl (?_:_));have o1:=out _ B.perm;have l1:=o1.length_eq;rw[Vl]at l1;refine U0 (listUpdate_at g6 rfl (?_:_) (by simp) (V4 (X8 l1) (by lia)));rw[B.ok];simp only[bne_self_eq_false,XF,Vy];refine U3 (?_:_);exact h _ o1
end
end TS
namespace L2
open PySem PySem.Spec PyProof.Rows
section
variable{X:Cx}
inductive zl(K:ZR)(xs:List V)(H:Hp)(Q:VK):Prop
 |mk:∀(a:Addr)(ys:List V),(xs=[.ref a])->(bI K H a ys)->((∀y∈ys,∃(b:Addr) (i j:Int),y=.ref b/\cP K H b [.int i,.int j]))->(ys.length<=63)->(∀(zs:List V)(p:Addr),zs.Perm ys->H p=none->Q (.ref p) (upd H p (.lst zs)))->zl K xs H Q
def Dj(K:ZR):List V->Hp->VK->Prop:=λxs H Q=>zl K xs H Q
def yw:cI X (.builtin "sorted") (Dj X.K):=by
 intro pins s U H xs us Q I r h;obtain⟨a,ys,rfl,hq,tu,few,q⟩:=h;obtain⟨u,rfl,ru⟩:=r.one;cases ru;obtain⟨its,rv,p,_⟩:=I.list hq;have hlen:its.length=ys.length:=rv.length.symm;have hv:∀v∈its,TS.IsPair s.heap v:=λv m=>by
  obtain⟨i,hi⟩:=W2 m;have go:∀{ys:List V}{its:ZW},Vals ys its->∀(i:Nat)(u:Value),its[i]?=some u->∃x,ys[i]?=some x/\RelV x u:=λ{ys its} r=>by
   induction r with
   |nil=>exact λi u h=>(nomatch h)
   |cons h _ ih=>
    intro i u e;cases i with
    |zero=>cases e;exact⟨_,rfl,h⟩
    |succ i=>exact ih i u e
  obtain⟨x,hx,rx⟩:=go rv i v hi;obtain⟨b,i1,j1,rfl,sb⟩:=tu x (V7 hx);cases rx;obtain⟨its2,r2,⟨o2,e2,c2,n2,d2⟩,_⟩:=I.tuple sb;cases r2 with
  |cons ra r3=>
   cases r3 with
   |cons rb r4=>cases r4;obtain⟨t,rfl⟩:=ra;obtain⟨u,rfl⟩:=rb;exact⟨b,o2,i1,j1,t,u,n2,rfl,e2,c2,d2⟩
 have line:(1000:Nat)<=sizeLine:=by decide
 refine Calls.call_function_entry kind_sorted plain_sorted entry_sorted (args_sorted1 _) (?_:_);unfold Builtin.«sorted»;refine U0 (m:=checkCount "sorted" 1 1 _) (U3 (?_:_));refine U0 (collect_list p.isList (?_:_) (by lia));refine U0 (Y9 (?_:_) (by lia));have sz:((s.heap.push (seqObj "list" #[] 0)).update s.heap.objs.size (Obj.mapSeq (·++its.toArray))).objs.size=s.heap.objs.size+1:=by rw[Heap.size_update];exact size_push' _ _
 have g0:(((s.heap.push (seqObj "list" #[] 0)).update s.heap.objs.size (Obj.mapSeq (·++its.toArray))).push (seqObj "list" its.toArray 0)).get? (s.heap.objs.size+1)=some (seqObj "list" its.toArray 0):=by rw[<-sz];exact V8 _ rfl
 have old:∀b o,s.heap.get? b=some o->(((s.heap.push (seqObj "list" #[] 0)).update s.heap.objs.size (Obj.mapSeq (·++its.toArray))).push (seqObj "list" its.toArray 0)).get? b=some o:=λb o e=>UQ _ ((Vn _ _ (Vm (UG e))).trans (UQ _ e));refine id (?_:wpAny _ _ _ _ _ { s with heap:=((s.heap.push (seqObj "list" #[] 0)).update s.heap.objs.size (Obj.mapSeq (·++its.toArray))).push (seqObj "list" its.toArray 0) });rw[sz];have hv2:∀v∈its,TS.IsPair (((s.heap.push (seqObj "list" #[] 0)).update s.heap.objs.size (Obj.mapSeq (·++its.toArray))).push (seqObj "list" its.toArray 0)) v:=λv m=>by obtain⟨b,o,i,j,t,u,n,e,ho,r⟩:=hv v m;exact⟨b,o,i,j,t,u,n,e,old b o ho,r⟩
 refine U0 (VX (Vc slot_list_sort ⟨_,g0,rfl⟩ entry_list_sort (TS.AO g0 hv2 (by lia) λout pm=>⟨_,rfl,(?_:_)⟩) (args_list_sort _)));obtain⟨n,hn⟩:=sortedHeap_at (vs:=its) (out:=out) g0;obtain⟨zs,pz,rz⟩:=FQ pm rv;have new:s.heap.get? (s.heap.objs.size+1)=none:=XJ (Wi _);have I2:=I.yV (a:=s.heap.objs.size+1) (o:=.lst zs) (t':=s.toks) (h':=sortedHeap (((s.heap.push (seqObj "list" #[] 0)).update s.heap.objs.size (Obj.mapSeq (·++its.toArray))).push (seqObj "list" its.toArray 0)) (s.heap.objs.size+1) its out) (λb o hb=>by
   have lt:=UG hb;rw[sortedHeap_old (UH (WA lt)) (by rw[size_push',sz];exact WA (WA lt))]
   exact old b o hb) new
  ⟨by rw[pz.length_eq];lia,out.toList,n,rz,by simpa using hn⟩
 exact U3 ⟨_,rfl,.ref (s.heap.objs.size+1),_,I2,rfl,q zs _ pz (I.jD new)⟩
end
end L2
namespace Dv
open PySem L2 PySem.W
def vf:DR:=λds P=>∃ps:ZQ,ds=[.list (ps.map pD)]/\ps.length<=63/\∀qs:ZQ,qs.Perm ps->P (.ow false) (.list (qs.map pD))
def IL:∀{zs ys:List V},zs.Perm ys->∀{ps:ZQ},aC K H ys (ps.map pD)->∃qs:ZQ,qs.Perm ps/\aC K H zs (qs.map pD):=by
 intro zs ys h;induction h with
 |nil=>intro ps r;exact⟨ps,.refl _,r⟩
 |cons x _ ih=>
  intro ps r;cases ps with
  |nil=>cases r
  |cons p ps=>
   cases r with
   |cons h t=>obtain⟨qs,pq,r'⟩:=ih t;exact⟨p::qs,pq.cons _,.cons h r'⟩
 |swap x y l=>
  intro ps r
  match ps,r with
  |p::p2::ps,.cons h (.cons h2 t)=>exact⟨p2::p::ps,List.Perm.swap _ _ _,.cons h2 (.cons h t)⟩
 |trans _ _ ih1 ih2=>intro ps r;obtain⟨q1,p1,r1⟩:=ih2 r;obtain⟨q2,p2,r2⟩:=ih1 r1;exact⟨q2,p2.trans p1,r2⟩
def GF:cU K vf (Dj K):=by
 rintro H Hm vs ds P Q s r⟨ps,rfl,hn,h⟩q;obtain⟨x,rfl,h1⟩:=dR r;obtain⟨a,xs,rfl,ha,r1⟩:=dX h1;have l1:xs.length=ps.length:=by rw[r1.len,U7]
 refine⟨a,xs,rfl,(cu.mono s ha).sq,λy hy=>?_,by rw[l1];exact hn,λzs p pm hp=>?_⟩
 .obtain⟨i,hi⟩:=W2 hy;obtain⟨d,e,r'⟩:=r1.P5 hi;rw[UK]at e;obtain⟨p,_,rfl⟩:=W7.mp e;cases r' with
  |tup b r2=>obtain⟨x,y,rfl,h2,h3⟩:=iA r2;cases h2;cases h3;exact⟨_,_,_,rfl,cP.of (s _ _ b)⟩
 obtain⟨qs,pq,r'⟩:=IL pm r1;exact bM.nl q s (h qs pq) hp r'
section
variable{X:Cx}{Ex:XK}{Y:Zb}{a:Expr}{p pos:Pos}{as:List Arg}
def N6(hm:X.mg "sorted"=none)(S:aY X Ex Y [a] as)(hg:Gl X "sorted":=by rfl)(ns:noStar a=true:=by rfl):SE X Ex Y (.Call (.Name "sorted" p) [a] [] pos) (ah vf as):=fU yw GF hg hm Yv (by decide) (by decide) (by rw[UU,ns];rfl) S
end
end Dv
namespace Dv
open PySem L2 PySem.W PyProof.Rows
def yy{M:Model}{A:Around}{E:ZI}{s:Shared}{a b:Value}{T id:String}{Q:ZI}(ha:s.TypeIs a T)(hb:s.TypeIs b T)(hl:typeLookup (.type T) (dunderI "add")=pure (some (.builtin id)))(hi:isSeqSlotId id=true)(hfill:fillsNumberSlot (.type T) "add"=pure false)(hc:wpAny M A (call (.builtin id) [a,b]) Q E s):wpAny M A (inplaceOp .Add a b) Q E s:=by
 unfold inplaceOp;refine VX ?_;have hfi:fillsInplaceSlot (.type T) "add" (Operator.Add == .Add)=pure false:=by unfold fillsInplaceSlot;show(typeLookup (.type T) (dunderI "add")>>=λfi=>pure (fi.isSome&&!isSeqSlot fi))=pure false;rw[hl];show(pure ((some (Value.builtin id)).isSome&&!isSeqSlotId id):Sem Bool)=pure false;rw[hi];rfl
 have hsi:seqSlot? (.type T) (dunderI "add")=pure (some (.builtin id)):=PySem.seqSlot_of hl hi;refine U0 (X0 ha (U0 (XD hfi ?_)));show wpAny M A (if false=true then _ else _) Q E s;rw[if_neg V5];refine U0 (binaryOp1_none (nm:="add") ha hb hfill ?_);refine U0 (XD hsi ?_);exact U0 (Vp hc)
def Uv(K:Frag):F8:=λx y H Q=>∃l b xs zs,x=.ref l/\y=.ref b/\H l=some (.lst xs)/\cu K H b zs/\xs.length+zs.length<=sizeLine/\Q (.ref l) (upd H l (.lst (xs++zs)))
section
variable{X:Cx}{Ex:XK}
def MG:Fz X .Add (Uv X.K):=by
 intro pins s U H x y v u Q I rx ry h;obtain⟨l,b,xs,zs,rfl,rfl,hH,hB,hz,q⟩:=h;cases rx;cases ry;obtain⟨z,its,n,r,hl,e⟩:=I.zm hH;obtain⟨z2,its2,n2,r2,e2⟩:=hB.get I;have hl2:=r2.length;have hsz:its.toArray.size+its2.toArray.size<=sizeLine:=by rw[UO,UO];lia
 have hlong:¬(!its.toArray.isEmpty&&Builtin.List.listTooLong (its.toArray.size+its2.toArray.size))=true:=by rw[tR hsz,Bool.and_false];exact V5
 refine yy (T:="list") ⟨_,e,rfl⟩ ⟨_,e2,rfl⟩ F.slot_list_iadd.lookup (by decide+kernel) noFill_list_add ?_;refine Wj F.slot_list_iadd ⟨_,e,rfl⟩ F.entry_list_iadd (F.args_list_iadd_2 _ _)
  (AutoSeq1.list___iadd___list_list_0 l its.toArray n b its2.toArray n2 hlong (by rw[UO];lia) (by lia)) ⟨e,e2,?_⟩
 refine⟨.ref l,_,I.yX (its':=its++its2) hH e (by simp) (r.append r2) ?_,rfl,q⟩;rw[UR];lia
def RV{i:Nat}(hN:X.N.Nodup)(hi:X.N[i]?=some x)(hl:Loc X.env.scope x)(hf:X.fn x=true\/X.env.scope.names.lookup x=some .local)(h:SE X Ex (aT X) e d):S1 X Ex (.AugAssign (.Name x pos') .Add e pos) (Bl sizeLine i d):=by
 intro g D' E U H Hm F D hx R p nx rt;obtain⟨hh,p⟩:=p;have hh':here E i=true:=by unfold jU at hh;unfold here;split at hh;{rename_i q;rw[q]};cases hh
 obtain⟨v0,hv0⟩:=ko R hh';refine WS.of (Iv hN hi hl bL MG hf) ⟨v0,cY (gU (bB hi)) hv0,h g D'.xc E U H Hm F _ _ hx R p λE' k v u H' Hm' F' fp p' R' s' T=>?_⟩;obtain⟨fz,pp,ds,es,e1,rfl,hlen,p'⟩:=p';obtain⟨Hm2,up,R2,rp⟩:=T.cL R' fz;obtain⟨b,zs,rfl,hb,rz⟩:=dX rp;obtain⟨v1,h1,h2⟩:=R2.slot i _ _ e1;rw[hv0]at h1;cases h1;generalize hfi:F' i=fi at h2;cases h2 with
 |@ow _ a xs _ ha rx=>
  obtain⟨a',xs',g1,g2,g3,g4,R3⟩:=R2.chg (es:=ds++es) e1 (rx.app rz);rw[hv0]at g1;cases g1;rw[ha]at g2;cases g2;refine⟨a,b,xs,zs,rfl,rfl,ha,cu.mono R2.sub hb,by rw[rx.len,rz.len];exact hlen,?_⟩;show D.nx ((sel (aT X) U).set i (some (.ref a))) _;have hsel:(sel (aT X) U).set i (some (.ref a))=sel (aT X) U:=by refine Vu λj=>?_;rw[Wv];by_cases c:i=j;{subst c;have:=cY (gU (bB hi)) hv0;rw[if_pos rfl,this,if_pos];rcases VV i (sel (aT X) U).length with z|z;{exact z};rw[VD z]at this;cases this};rw[if_neg c]
  rw[hsel];exact nx _ _ _ _ _ p' R3 (s'.trans up)
def S5(i:Nat)(hN:X.N.Nodup)(h:SE X Ex (aT X) e d)(hi:X.N[i]?=some x:=by rfl)(hl:Loc X.env.scope x:=by first|exact Or.inl rfl|exact Or.inr rfl)(hf:X.fn x=true\/X.env.scope.names.lookup x=some .local:=by first|exact Or.inl rfl|exact Or.inr rfl):S1 X Ex (.AugAssign (.Name x pos') .Add e pos) (Bl sizeLine i d):=RV hN hi hl hf h
end
end Dv
namespace Dv
open PySem L2 PySem.W
section
variable{K:Frag}{g:Gh}{E:En}{U:St}{H H' Hm Hm':Hp}{F:Nat->ZX}
def Rl.yT(R:Rl K g E U H Hm F){p:Addr}(A:l6 g F H Hm [p]):Rl K g E U (upd H p o) Hm F where
 len:=R.len
 sub:=λb u e=>by
  have:b≠p:=λz=>by rw[z,A.off p U1]at e;cases e
  rw[aq this];exact R.sub _ _ e
 slot:=λi k d e=>by
  obtain⟨v,h1,h2⟩:=R.slot i k d e;exact⟨v,h1,h2.step (aj.refl _) λa ha=>aq λz=>A.aV p U1 i (z▸ha)⟩
 off:=R.off
 bT:=λi a ha=>by
  obtain⟨u,hu,n⟩:=R.bT i a ha;have ne:a≠p:=λz=>A.aV p U1 i (z▸ha)
  exact⟨u,by rw[aq ne];exact hu,n⟩
 aV:=R.aV
 fr:=λq o hq ho=>by
  have:q≠p:=λz=>by rw[z,A.new p U1]at ho;cases ho
  rw[aq this];exact R.fr q o hq ho
 new:=R.new
 pin:=R.pin
 old:=R.old
end
end Dv
namespace SM
open PySem
section
variable{prog:Program}{w:World}{K:Type} [DecidableEq K]{knd:HeapKind prog w K}{A:Around}{E:ZI}{s:Shared}{d a:Addr}{k:K}{xs:List (K×Addr×Value)}
def FZ(hu:knd.room A)(hkey:knd.is s.heap k a)(hm:s.heap.DictOfH knd d xs)(hsz:xs.length<=sizeLine)(old:∀p,atKey xs k=some p->Q p.2 { s with toks:=s.toks+knd.draws k })(new:atKey xs k=none->∀h',h'.DictOfH knd d (storedH xs k a dv)->Heap.SameBut d s.heap h'->Q dv { s with heap:=h',toks:=s.toks+knd.draws k }):wpAny (model prog w) A (dictSetDefault d (.ref a) dv) Q E s:=by
 obtain⟨o,es,ep,ho,hc,hd,he,his,hn⟩:=hm;unfold dictSetDefault;try with_reducible refine VX ?_
 refine U0 (knd.pyHash hu hkey (?_:_));refine U0 (wpAny_dictFind_heap (s:={ s with toks:=s.toks+knd.draws k }) hu hkey ho hd he his hn (λhno=>?_) λj p hj=>?_)
 .have hnot:k∉xs.map (·.1):=not_mem_keys_of_get hno;have hat:=atKey_none_of_get hno;refine U0 (Vp (U0 (wpAny_updateDictKeys (hz:=by have e:=size_of_entries he;lia) (s:={ s with toks:=s.toks+knd.draws k }) ho hd (U3 (new hat _ ⟨_,_,ep+1,Vz _ ho (Obj.isFreed_of_dict (Obj.data_mapDictKeys hd _)),hc.mapDictKeys _,Obj.data_mapDictKeys hd _,?_,?_,?_⟩ (Vq ..))))));{rw[storedH_new hat];simp[he,entryOfKey]}
  .rw[storedH_new hat];intro x hx;rcases UE.mp hx with hx|hx;{exact knd.keeps (his x hx) ho hd (Vq ..)};have e:x=(k,a,dv):=by simpa using hx
   subst e;exact knd.keeps hkey ho hd (Vq ..)
  rw[storedH_new hat,V2,VR];refine⟨hn,by simp,λx hx y hy e=>?_⟩;have e2:y=k:=by simpa using hy
  exact hnot (by rw[<-e2,<-e];exact hx)
 have hat:=atKey_of_get hn hj;refine U0 (YJ (s:={ s with toks:=s.toks+knd.draws k }) ho hd (?_:_));rw[entry_at he j,hj];exact U0 (Vp (U3 (old p hat)))
def uV(hu:knd.room A.in1)(hkey:knd.is s.heap k a)(hd0:(d==sysModules)=false)(hm:s.heap.DictOfH knd d xs)(hsz:xs.length<=sizeLine)(old:∀p,atKey xs k=some p->Q p.2 { s with toks:=s.toks+knd.draws k })(new:atKey xs k=none->∀h',h'.DictOfH knd d (storedH xs k a dv)->Heap.SameBut d s.heap h'->Q dv { s with heap:=h',toks:=s.toks+knd.draws k }):wpAny (model prog w) A (call (.builtin "dict.setdefault") [.ref d,.ref a,dv]) Q E s:=by refine Vc F.slot_dict_setdefault hm.typeIs F.entry_dict_setdefault (?_:_) (F.args_dict_setdefault_3 _ _ _);unfold Builtin.«dict.setdefault»;refine U0 (?_:_);unfold Builtin.Dict.keyAndDefault;refine U0 (wpAny_notOrdered_dict hm.typeIs (?_:_));refine id (?_:wpAny _ _ (pure (d,Value.ref a,some dv)) _ _ s);refine U3 (?_:_);refine id (?_:wpAny _ _ (if(d==sysModules)=true then _ else(dictSetDefault d (.ref a) dv>>=_)) _ _ s);rw[if_neg (by rw[hd0];exact V5)];exact U0 (FZ hu hkey hm hsz (λp hp=>U3 ⟨p.2,rfl,old p hp⟩) λhn h' hm' hs'=>U3 ⟨dv,rfl,new hn h' hm' hs'⟩)
end
end SM
namespace L2
open PySem PySem.Spec PyProof.Rows
section
variable{X:Cx}
def Rx:V->List V->Hp->VK->Prop:=λx vs H Q=>∃(a b:Addr)(kvs:List (List Key×V))(k:List Key) (v:V),x=.ref a/\vs=[.ref b,v]/\H a=some (.dT kvs)/\H b=some (.tup (k.map kV))/\kvs.length<sizeLine /\
 match cA kvs k with
 |some u=>Q u H
 |none=>Q v (upd H a (.dT (kvs++[(k,v)])))
def L0(hu:X.A.units+8<cLine):QD X "dict.setdefault" Rx:=by
 intro pins s U H x vs v us Q I rx rv h;obtain⟨a,b,kvs,k,y,rfl,rfl,ha,hb,hl,q⟩:=h;cases rx;obtain⟨u1,u2,rfl,ru1,ru2⟩:=rv.two;cases ru1;obtain⟨z,hd,xs,rel,dd⟩:=KH I.hok ha;have hz:xs.length<=sizeLine:=by rw[<-Paired.length rel];exact z
 have rv2:=rel.val k;refine SM.uV (Xy (by lia)) (qW I.hok hb) hd dd hz (λp hp=>?_) λhn h' dd' hs=>?_
 .rw[hp]at rv2;cases e:cA kvs k with
  |none=>rw[e]at rv2;exact absurd rv2.kr (by simp)
  |some u=>rw[e]at rv2 q;obtain⟨w',hw,rw'⟩:=kW.some_of (v:=u) (o:=some p.2) rv2;cases hw;exact⟨u,H,I.tok _,rw',q⟩
 rw[hn]at rv2;cases e:cA kvs k with
 |some u=>rw[e]at rv2;exact absurd rv2.kr (by simp)
 |none=>
  rw[e]at q;have ep:putK kvs k y=kvs++[(k,y)]:=by unfold putK;rw[if_neg];rw[tX,e];decide
  have rp:=rel.put k hb ru2;rw[ep]at rp;obtain⟨qo,es,ep',hq,h2,h3,h4,_,h5⟩:=dd';refine⟨y,_,wJ I (ob:=.dT (kvs++[(k,y)])) (by rw[ha];exact Vw) hs ⟨qo,hq⟩ ⟨by rw[UR];exact hl,hd,_,rp.keeps λc ys ec=>?_,qo,es,ep',hq,h2,h3,h4,h5⟩,ru2,q⟩;rw[aq (Eg ec ha (λz=>nomatch z))];exact ec
end
end L2
namespace SM
open PySem
def AE(h:Heap)(d:Addr)(es:ZN) (ep:Nat):Prop:=∃o,h.get? d=some o/\o.ExactDict/\o.data=.dict es ep
section
variable{prog:Program}{w:World}{A:Around}{E:ZI}{s:Shared}{es:ZN}{ep:Nat}{v d it:Addr}{i:Nat}
def AE.ty(h:AE s.heap d es ep):s.TypeIs (.ref d) "dict":=by obtain⟨o,ho,hc,_⟩:=h;exact⟨o,ho,hc.1⟩
def LJ(hd:(d==sysModules)=false)(hm:AE s.heap d es ep)(q:Q (.ref s.heap.objs.size) { s with heap:=s.heap.push { cls:=.type "dict_values",data:=.fields #[.ref d] } }) : wpAny (model prog w) A (call (.builtin "dict.values") [.ref d]) Q E s:=by refine Vc F.slot_dict_values hm.ty F.entry_dict_values (?_:_) (F.args_dict_values_1 _);unfold Builtin.«dict.values»;refine U0 (?_:_);unfold Builtin.Dict.noArgs;refine U0 (wpAny_notOrdered_dict hm.ty (?_:_));refine id (?_:wpAny _ _ (pure d) _ _ s);refine U3 (?_:_);refine id (?_:wpAny _ _ (Builtin.Dict.showsAll d>>=_) _ _ s);unfold Builtin.Dict.showsAll;rw[if_neg (by rw[hd];exact V5)];refine U0 (U3 (?_:_));exact U0 (Va (U3 ⟨_,rfl,q⟩))
def Fj(hv:s.heap.IsValuesView v d)(hm:AE s.heap d es ep)(q:Q (.ref s.heap.objs.size) { s with heap:=s.heap.push { cls:=.type "dict_valueiterator",data:=.fields #[.ref d,.int 0 0,.int es.size 0,.int ep 0] } }):wpAny (model prog w) A (pyIter (.ref v)) Q E s:=by
 obtain⟨ov,v1,v2,v3⟩:=id hv;obtain⟨o,m1,m2,m3⟩:=id hm;refine Yp hv.typeIs F.slot_dict_values_iter (Vc F.slot_dict_values_iter hv.typeIs F.entry_dict_values_iter (?_:_) (F.args_dict_values_iter_1 _));unfold Builtin.«dict_values.__iter__»;refine U0 (U3 (?_:_));refine U0 (?_:_);unfold Builtin.Dict_items.dictOf;refine U0 (WJ v1 v3 (x:=.ref d) rfl (U3 (?_:_)));refine U0 (?_:_);unfold Builtin.Dict_items.newIterator;refine U0 (YJ m1 m3 (?_:_));refine U0 (wpAny_dictEpoch m1 m3 (?_:_));have own0:Builtin.Dict_items.ownsTuple "dict_valueiterator"=false:=by decide
 simp only[own0,XF,Vy];refine Va (U3 ⟨_,rfl,"dict_valueiterator",_,⟨_,V8 _ rfl,rfl⟩,YK.lookup,(?_:_)⟩);simpa[rawInt]using q
def J6(ht:s.heap.IsValIter it d i es.size ep)(hm:AE s.heap d es ep)(hx:es[i]?=some e)(q:∀h',h'.IsValIter it d (i+1) es.size ep->Heap.SameBut it s.heap h'->Q (some e.val) { s with heap:=h' }):wpAny (model prog w) A (pyNext (.ref it)) Q E s:=by
 obtain⟨o,t1,t2,t3⟩:=id ht;obtain⟨od,m1,m2,m3⟩:=id hm;unfold pyNext;refine U0 (Xb (Wz (name:=Str.ofString "__next__") ht.typeIs YK
  (Vc YK ht.typeIs ZD (?_:_) (ZE _))))
 refine U0 (U3 (?_:_));refine U0 (?_:_);refine U0 (?_:_);first|refine U0 (YL ht.typeIs (U3 (?_:_)))|refine U0 (YM ht.typeIs (U3 (?_:_)))
 refine U0 (Y8 t1 t3 (?_:_));have own0:Builtin.Dict_items.ownsTuple "dict_valueiterator"=false:=by decide
 simp only[own0,XF,Vy];refine id (?_:wpAny _ _ (if(Value.ref d==Value.none)=true then _ else _) _ _ s);have nn:¬((Value.ref d==Value.none)=true):=λz=>V5 z;rw[if_neg nn];refine U0 (U3 (?_:_));refine U0 (YJ m1 m3 (?_:_));rw[if_neg (by simp)];refine U0 (U3 (?_:_));refine U0 (wpAny_dictEpoch m1 m3 (?_:_));rw[if_neg (by simp)];refine U3 (?_:_);have lt:i<es.size:=(Y0.mp hx).1;have ev:es[i]=e:=(Y0.mp hx).2;simp only[show ¬((i:Int)<0)from Int.not_lt.mpr (Xn i),Vy,Wy,Vb lt];refine U0 (?_:_);first|refine U0 (YL ht.typeIs (U3 (?_:_)))|refine U0 (YM ht.typeIs (U3 (?_:_)))
 refine U0 (Yw ht.typeIs (?_:_));refine id (?_:wpAny _ _ (setField (.ref it) 1 (rawInt ((i:Int)+1))>>=_) _ _ s);refine U0 (WN t1 t3 (by simp) (?_:_));have ht':(s.heap.update it (Obj.mapFields (·.setIfInBounds 1 (rawInt ((i:Int)+1))))).IsValIter it d (i+1) es.size ep:=
  ⟨_,Vz _ t1 (XZ (WO t3 _)),(Yq ..).trans t2,by rw[WO t3];simp[rawInt]⟩
 generalize hU:s.heap.update it (Obj.mapFields (·.setIfInBounds 1 (rawInt ((i:Int)+1))))=Zk at ht'⊢;refine U0 (VX (?_:_));refine U0 (Yw (s:={ s with heap:=Zk }) ht'.typeIs (?_:_));refine U0 (Yw (s:={ s with heap:=Zk }) ht'.typeIs (?_:_));refine id (?_:wpAny _ _ (pure es[i].val) _ _ _);refine U3 (U3 ⟨_,rfl,U3 (?_:_)⟩);rw[ev];exact q Zk ht' (hU▸Vq ..)
def Bu(hh:A.handled=none)(ht:s.heap.IsValIter it d i es.size ep)(hm:AE s.heap d es ep)(hx:es.size<=i)(q:∀h',Heap.ExtBut it s.heap h'->Q none { s with heap:=h' }):wpAny (model prog w) A (pyNext (.ref it)) Q E s:=by
 obtain⟨o,t1,t2,t3⟩:=id ht;obtain⟨od,m1,m2,m3⟩:=id hm;unfold pyNext;refine U0 (Xb (Wz (name:=Str.ofString "__next__") ht.typeIs YK
  (Vc YK ht.typeIs ZD (?_:_) (ZE _))))
 refine U0 (U3 (?_:_));refine U0 (?_:_);refine U0 (?_:_);first|refine U0 (YL ht.typeIs (U3 (?_:_)))|refine U0 (YM ht.typeIs (U3 (?_:_)))
 refine U0 (Y8 t1 t3 (?_:_));have own0:Builtin.Dict_items.ownsTuple "dict_valueiterator"=false:=by decide
 simp only[own0,XF,Vy];refine id (?_:wpAny _ _ (if(Value.ref d==Value.none)=true then _ else _) _ _ s);have nn:¬((Value.ref d==Value.none)=true):=λz=>V5 z;rw[if_neg nn];refine U0 (U3 (?_:_));refine U0 (YJ m1 m3 (?_:_));rw[if_neg (by simp)];refine U0 (U3 (?_:_));refine U0 (wpAny_dictEpoch m1 m3 (?_:_));rw[if_neg (by simp)];refine U3 (?_:_);simp only[show ¬((i:Int)<0)from Int.not_lt.mpr (Xn i),Vy,Wy,XU hx];refine U0 (?_:_);first|refine U0 (YL ht.typeIs (U3 (?_:_)))|refine U0 (YM ht.typeIs (U3 (?_:_)))
 refine id (?_:wpAny _ _ (setField (.ref it) 0 .none>>=_) _ _ s);refine U0 (WN t1 t3 (by simp) (?_:_));refine id (?_:wpAny _ _ (newExc (.type "StopIteration") []>>=_) _ _ _);refine U0 (?_:_);simp only[newTuple,newExc];refine U0 (Va (?_:_) (by size_fits));refine U0 (m:=firstArgMember _ _) (XD (a:=Value.none) (by first|rfl|(simp only[firstArgMember];rfl)) (?_:_));refine Va (?_:_) (by size_fits);simp only[raiseNew];refine U0 (wpAny_handled (?_:_));rw[show A.in1.handled=none from hh];refine U0 (U3 (wpAny_throw (?_:_)));refine U0 (Yr (T:="StopIteration") (b:=true) ⟨_,V8 _ rfl,rfl⟩ isSubtype_stop (?_:_));exact U3 (q _ (((Vq ..).extBut.push _).push _))
end
end SM
namespace L2
open PySem PySem.Spec PyProof.Rows
def OJ(a:Addr)(o:Obj):It:=
 ⟨λi H=>∃kvs x,H a=some (.cL o (.dT kvs))/\kvs[i]?=some x,λi H x H'=>H'=H/\∀kvs,H a=some (.cL o (.dT kvs))->(kvs[i]?).map (·.2)=some x,λi H=>∃kvs,H a=some (.cL o (.dT kvs))/\kvs.length<=i⟩
theorem yf{α β:Type}{F:α->β->Prop}:∀{l:List α}{m:List β},Paired F l m->∀{i:Nat}{x:α},l[i]?=some x->∃y,m[i]?=some y/\F x y
 |_,_,.nil,_,_,h=>nomatch h
 |_,_,.cons r _,0,_,h=>by cases h;exact⟨_,rfl,r⟩
 |_,_,.cons _ t,i+1,_,h=>yf t (i:=i) h
section
variable{X:Cx}{pins:ZL}{U:St}{H:Hp}{s:Shared}
def GY(I:Inv X pins U H s){a:Addr}{o:Obj}{kvs:List (List Key×V)}(h:H a=some (.cL o (.dT kvs))):∃es ep,o.data=.dict es ep/\SM.AE s.heap a es ep/\es.size=kvs.length/\∀(i:Nat)(x:List Key×V),kvs[i]?=some x->∃e:DictEntry,es[i]?=some e/\RelV x.2 e.val:=by
 obtain⟨ho,_,_,xs,rel,o2,es,ep,h1,h2,h3,h4,_⟩:=(show bU X.prog X.w H s.heap a (.cL o (.dT kvs))from I.hok a _ h);have e:o2=o:=by rw[ho]at h1;exact(Option.some.inj h1).symm
 subst e;refine⟨es,ep,h3,⟨o2,ho,h2,h3⟩,?_,λi x hx=>?_⟩;{have:=congrArg List.length h4;rw[Vl,U7]at this;rw[this,Paired.length rel]};obtain⟨y,hy,r⟩:=yf rel hx;have:es.toList[i]?=some (entryOfKey (tupleKind (c9 X.prog X.w)) y):=by rw[h4,UK,hy];rfl
 rw[VG]at this;exact⟨_,this,r.2.2⟩
end
def Hu{P:Program}{w:World}{K:ZR}{tg:Expr}(a it:Addr)(o:Obj){es:ZN}{ep:Nat}(ho:o.data=.dict es ep):Turn P w K tg (OJ a o) [it] it (λi h=>h.IsValIter it a i es.size ep) where
 mem:=by simp
 obj:=λi h st b hb=>by
  have e:b=it:=by simpa using hb
  subst e;obtain⟨o,e,c,d⟩:=st;exact⟨o,e,λv z=>by rw[d]at z;cases z⟩
 keep:=λi h h' st k=>by
  obtain⟨o,e,r⟩:=st;exact⟨o,k it (by simp) o e,r⟩
 item:=by
  intro X hP hw hK hc i pins s U H E I hf st hg;subst hP hw hK;obtain⟨kvs,x,hq,hx⟩:=hg;obtain⟨es2,ep2,d2,ea,sz,val⟩:=GY I hq;rw[ho]at d2;cases d2;obtain⟨e,he,re⟩:=val i x hx;obtain⟨f0,f1,f2,f3,f4,f5⟩:=hf it (by simp)
  refine SM.J6 st ea he λh' st' sb=>?_
  have I1:Inv X pins U H { s with heap:=h' }:=I.turned (t':=s.toks) (λb o hb e=>(sb.2 b hb).trans e) f0 f1 f3 f4 f5
  obtain⟨o,e,c,d⟩:=id st';refine⟨_,rfl,yP (s:={ s with heap:=h' }) e c d (by decide) ⟨x.2,H,I1,re,⟨rfl,λkvs2 h2=>?_⟩,st',λb hb=>(hf b hb).1⟩⟩
  rw[hq]at h2;cases h2;rw[hx];rfl
 done:=by
  intro X hP hw hK hc i pins s U H E I hf st hg;subst hP hw hK;obtain⟨kvs,hq,hx⟩:=hg;obtain⟨es2,ep2,d2,ea,sz,val⟩:=GY I hq;rw[ho]at d2;cases d2;obtain⟨f0,f1,f2,f3,f4,f5⟩:=hf it (by simp)
  exact SM.Bu (I.ok.hd hc) st ea (by lia) λh' eb=>⟨rfl,I.turned (t':=s.toks) (λb o hb e=>eb b o hb e) f0 f1 f3 f4 f5⟩
 self:=λ_ _ _ _ _ st h=>wpAny_pyIter_valiter st h
inductive Ih(R:(It->Hp->Prop)) (x:V)(H1:Hp):Prop
 |mk:∀a kvs,(x=.ref a)->(H1 a=some (.dT kvs))->(∀o,R (OJ a o) (upd H1 a (.cL o (.dT kvs))))->Ih R x H1
def RK(tl:TE):TI:=λU H R=>tl U H λx H1=>Ih R x H1
section
variable{X:Cx}{tg:Expr}
def MX{l:Expr}{tl:TE}{apos cpos:Pos}(hl:PE X l tl)(hbase:attributeBase l "values" X.env (eval l X.env)=eval l X.env:=by rfl)(hline:(apos.endLine==cpos.line)=true:=by rfl):PI X tg (.Call (.Attribute l "values" apos) [] [] cpos) (RK tl):=by
 intro pins s U H R I h;refine wpAny_Call_method0_late hbase hline (aU (hl pins s U H _ I h) λv s1 ⟨x,H1,I1,r1,q1⟩=>?_);obtain⟨a,kvs,e,ha,q⟩:=q1;subst e;cases r1;obtain⟨z,hd,xs,rel,o,es,ep,h1,h2,h3,h4,h5⟩:=(show bU X.prog X.w H1 s1.heap a (.dT kvs)from I1.hok a _ ha);have If:Inv X pins U (upd H1 a (.cL o (.dT kvs))) s1:=by have:=I1.write (x:=a) (e:=a) (o:=.cL o (.dT kvs)) (h':=s1.heap) (t':=s1.toks) (by rw[ha];trivial) (.inl rfl) (λ_ _ _ e=>e) ⟨o,h1⟩ ⟨h1,z,hd,xs,Paired.DH rel λp q r=>⟨r.1,by rw[aq (Eg r.2.1 ha (λz=>nomatch z))];exact r.2.1,r.2.2⟩,o,es,ep,h1,h2,h3,h4,h5⟩;exact this
 refine⟨"dict","dict.values",F.plainAttrs_dict,F.slot_dict_values,F.type_dict_values,⟨o,h1,h2.1⟩,λb e=>?_,Yh rfl (PySem.evalArgs_none (SM.LJ hd ⟨o,h1,h2,h3⟩ ?_))⟩;{cases e;exact⟨o,h1,h2.2.1⟩};have hv:(s1.heap.push { cls:=.type "dict_values",data:=.fields #[.ref a] }).IsValuesView s1.heap.objs.size a:=⟨_,V8 _ rfl,rfl,rfl⟩;have I2:Inv X pins U (upd H1 a (.cL o (.dT kvs))) { s1 with heap:=s1.heap.push { cls:=.type "dict_values",data:=.fields #[.ref a] } }:=If.kept (t':=s1.toks) λb o e=>UQ _ e;refine SM.Fj (s:={ s1 with heap:=s1.heap.push { cls:=.type "dict_values",data:=.fields #[.ref a] } }) hv ⟨o,UQ _ h1,h2,h3⟩ ?_;generalize s1.heap.push { cls:=.type "dict_values",data:=.fields #[.ref a] }=hp at hv I2⊢;refine⟨hp.objs.size,[hp.objs.size],_,_,_,rfl,I2.kept (t':=s1.toks) λb o e=>UQ _ e,Hu a _ o h3,⟨_,V8 _ rfl,rfl,rfl⟩,λb hb=>?_,q o⟩;have e:b=hp.objs.size:=by simpa using hb
 subst e;exact I2.rK (U5 _) (I2.hok.fresh (U5 _))
end
end L2
namespace Dv
open PySem L2 PySem.W
def EE:DE:=λ_ E Q=>Q E (.st false) (.dict [(.none,.none)])
def kJ:ZG->PyData->PyData->List (PyData×PyData)
 |[],k,d=>[(k,.list [d])]
 | (k',v)::r,k,d=>if k'=k then(k',match v with | .list es=>.list (es++[d])|v=>v)::r else(k',v)::kJ r k d
def NS:PyData->Nat
 |.list es=>es.length
 |_=>0
def Jx(i jc n:Nat):DE:=λ_ E Q=>∃kvs kc ks k d E2,E[i]?=some (some (.st false,.dict ((.none,.none)::kvs)))/\E[jc]?=some (some (kc,.list ks))/\kc.rd=true/\ks.all oj=true/\E[n]?=some (some (k,d))/\i≠n/\dm E n=some E2/\kvs.length<sizeLine/\(kvs.all λkv=>decide (NS kv.2<sizeLine))=true/\Q (E2.set i (some (.st false,.dict ((.none,.none)::kJ kvs (.tuple ks) d)))) .sh .none
def JH(i:Nat):DI:=λ_ E Q=>∃kvs,E[i]?=some (some (.st false,.dict ((.none,.none)::kvs)))/\Q (E.set i none) (kvs.map (·.2))
section
variable{K:Frag}{H H' Hm Hm':Hp}
def kD.len(i:kD K H Hm xs ds fp):xs.length=ds.length:=by
 induction i with
 |nil=>rfl
 |own _ _ _ _ ih=>exact congrArg (·+1) ih
def Hv{k k':List Key}(h:PyData.tuple (k.map bC)=.tuple (k'.map bC)):k=k':=by
 replace h:=PyData.tuple.inj h;induction k generalizing k' with
 |nil=>cases k' with|nil=>rfl|cons _ _=>cases h
 |cons a k ih=>
  cases k' with
  |nil=>cases h
  |cons b k'=>rw[UI,UI,Wr]at h;rw[ih h.2];have h1:=h.1;cases a<;>cases b<;>first|(cases h1;rfl)|cases h1
theorem kD.find(k:List Key):∀{xs:List (List Key×V)}{ds:ZG}{fp:ZX},kD K H Hm xs ds fp->(cA xs k=none/\∀(H':Hp) d e x,H' e=some (.lst [x])->Rp K Hm x d->(∀a∈fp,H' a=H a)->e∉fp->kD K H' Hm (xs++[(k,.ref e)]) (kJ ds (.tuple (k.map bC)) d) (fp++[e])) \/ ∃b ys,cA xs k=some (.ref b)/\b∈fp/\H b=some (.lst ys)/\(∃kv∈ds,ys.length=NS kv.2)/\∀(H':Hp) x d,Rp K Hm x d->H' b=some (.lst (ys++[x]))->(∀a∈fp,a≠b->H' a=H a)->kD K H' Hm xs (kJ ds (.tuple (k.map bC)) d) fp
 |_,_,_,.nil=>.inl ⟨rfl,λ_ d e x he r _ n=>.own he (.cons r .nil) UM .nil⟩
 |_,_,_,.own (k:=k') (b:=b) (ys:=ys) (es:=es) (kvs:=kvs) (ds:=ds) (fp:=fp) hb r nb t=>by
  by_cases c:k'=k;{subst c;refine .inr ⟨b,ys,?_,U1,hb,⟨_,U1,r.len⟩,λH' x d rx h1 h2=>?_⟩;{unfold cA;rw[Xh (by simp)];rfl};unfold kJ;rw[if_pos rfl];exact .own h1 (r.snoc rx) nb (t.step (aj.refl _) λa ha=>h2 a (U4 _ ha) λz=>nb (z▸ha))};have ne:PyData.tuple (k'.map bC)≠.tuple (k.map bC):=λz=>c (Hv z);have ev:cA ((k',V.ref b)::kvs) k=cA kvs k:=by unfold cA;rw[Xi (by simpa using c)]
  rcases t.find k with⟨e1,h⟩|⟨b',ys',e1,m1,e2,⟨kv,m2,e3⟩,h⟩;{refine .inl ⟨ev.trans e1,λH' d e x h1 rx h2 n=>?_⟩;unfold kJ;rw[if_neg ne];refine .own ((h2 _ U1).trans hb) r (λz=>?_) (h H' d e x h1 rx (λa ha=>h2 a (U4 _ ha)) λz=>n (U4 _ z));rcases UE.mp z with z|z;{exact nb z};exact n (U8.mp z▸U1)};refine .inr ⟨b',ys',ev.trans e1,U4 _ m1,e2,⟨kv,U4 _ m2,e3⟩,λH' x d rx h1 h2=>?_⟩;have nbb:b≠b':=λz=>nb (z▸m1);unfold kJ;rw[if_neg ne];exact .own ((h2 b U1 nbb).trans hb) r nb (h H' x d rx h1 λa ha hn=>h2 a (U4 _ ha) hn)
def kD.vals(s:aj Hm Hm')(i:kD K H Hm xs ds fp):(∀a∈fp,Hm' a=H a)->aC K Hm' (xs.map (·.2)) (ds.map (·.2)):=by
 induction i with
 |nil=>exact λ_=>.nil
 |own e r _ _ ih=>exact λh=>.cons (.lst (.inl (.inl ((h _ U1).trans e))) (r.mono s)) (ih λa ha=>h a (U4 _ ha))
end
section
variable{X:Cx}{Ex:XK}{Y:Zb}{pos:Pos}{tg:Expr}
def Rv:SE X Ex Y (.Dict [] [] pos) EE:=by intro g x E U H Hm F P Q hx R p q;refine WE.of Jr λa ha=>?_;have s2:=cH (o:=.dT []) ha;have R2:=R.grow (H':=upd H a (.dT [])) s2 (aj.refl _) (R.sub.trans s2) (λi b hb=>R.off i b hb) λ_ _=>.inl rfl;refine q _ _ _ _ _ Hm F [a] p R2 (aj.refl _) ⟨.st aH UM .nil,λb hb=>?_,λb hb i=>?_,λb hb=>?_⟩;{rw[U8.mp hb];exact R.oF ha};{rw[U8.mp hb];exact R.fresh ha};rw[U8.mp hb];exact R.gj ha
def set_same{U:St}{i:Nat}(h:U[i]?=some (some v)):U.set i (some v)=U:=by refine Vu λj=>?_;rw[Wv];by_cases c:i=j;{subst c;rw[if_pos rfl,h,if_pos (bB h)]};rw[if_neg c]
def Pr{ap1 cpos2 ap2 cpos3:Pos}{i j jc jj n jn:Nat}(hu:X.A.units+64<cLine)(hg:Gl X "tuple")(hm:X.mg "tuple"=none)(hv:PE X (.Name x p) (jK j))(hj:Y[j]?=some i)(hc:PE X (.Name c cp) (jK jj))(hjc:Y[jj]?=some jc)(hy:PE X (.Name y yp) (jK jn))(hjn:Y[jn]?=some n)(l1:(ap1.endLine==cpos2.line)=true)(l2:(ap2.endLine==cpos3.line)=true) : SE X Ex Y (.Call (.Attribute (.Call (.Attribute (.Name x p) "setdefault" ap1) [.Call (.Name "tuple" tp) [.Name c cp] [] cpos1,.List [] lp] [] cpos2) "append" ap2) [.Name y yp] [] cpos3) (Jx i jc n):=by
 intro g xc E U H Hm F P Q hx R h q;obtain⟨kvd,kc,ks,k0,d,E2,e1,ec,hkc,hks,en,ne,hf,hl,hl2,pq⟩:=h;obtain⟨vn,Hm2,F2,hvn,s2,R2,rn⟩:=R.dm en hf;have e2:E2[i]?=some (some (.st false,.dict ((.none,.none)::kvd))):=(A8 hf ne).trans e1;obtain⟨v,F3,hv3,R3,T3⟩:=R2.move e2 rfl;obtain⟨vc,hvc,oc⟩:=R.slot jc _ _ ec;have rc:Rp X.K H vc (.list ks):=oc.rp hkc R.sub λ_ _=>rfl;obtain⟨k,rfl⟩:=kq hks;generalize hfi:F2 i=fi at T3;obtain⟨own,toff,tdis,tnew⟩:=T3;have li:=bB e2;have op:bR (E2.set i none) i=true:=by unfold bR;rw[aJ li]
 cases own with
 |@st _ a kvs _ fp ha na tis=>
 cases rc with
 |@lst ca xs _ hca rxs=>
 have exs:=uw rxs;subst exs;refine WE.of (yO YH WX WY fQ (yO PySem.F.plainAttrs_dict PySem.F.slot_dict_setdefault PySem.F.type_dict_setdefault (L0 (by lia)) hv (gu (kE qe hg hm PyProof.Rows.boot_tuple (gu hc ji)) (gu (GL ji) ji)) rfl rfl l1 rfl rfl) (gu hy ji) rfl rfl l2 rfl rfl) ?_;refine⟨_,cY hj hv3,.inr (.inr (.inl ⟨rfl,.inr ⟨_,ha⟩⟩)),_,cY hjc hvc,ca,_,rfl,.inl ⟨hca.sq,λtp htp=>⟨V3 _,λe he=>?_⟩⟩⟩;have tt:=cH (o:=.tup (k.map kV)) htp;have te:=cH (o:=.lst []) he;have st:=tt.trans te;have etp:upd (upd H tp (.tup (k.map kV))) e (.lst []) tp=some (.tup (k.map kV)):=te _ _ aH;have ee:upd (upd H tp (.tup (k.map kV))) e (.lst []) e=some (.lst []):=aH;have ne0:H e=none:=by
  cases z:H e with
  |none=>rfl
  |some o=>rw[tt _ _ z]at he;cases he
 generalize upd (upd H tp (.tup (k.map kV))) e (.lst [])=H2 at st etp ee;have R4:=R3.grow st (aj.refl _) (R3.sub.trans st) R3.off λ_ _=>.inl rfl;have ha2:=st _ _ ha;have lv:∀b∈fp,H2 b=H b:=λb hb=>by obtain⟨ys,h⟩:=tis.live b hb;rw[h];exact st _ _ h
 have tis2:=tis.step (H':=H2) (aj.refl Hm2) lv;have nae:a≠e:=λz=>by rw[z,ne0]at ha;cases ha
 have nfe:e∉fp:=λz=>by obtain⟨ys,h⟩:=tis.live e z;rw[ne0]at h;cases h
 refine⟨a,tp,kvs,k,.ref e,rfl,rfl,ha2,etp,by rw[tis.len];exact hl,?_⟩;rcases tis2.find k with⟨ev,h⟩|⟨b,ys,ev,mb,hb,⟨kv,mk,lk⟩,h⟩
 .rw[ev];have ee3:upd H2 a (.dT (kvs++[(k,.ref e)])) e=some (.lst []):=by rw[aq nae.symm];exact ee
  refine⟨.inl ⟨rfl,_,bI.of ee3⟩,_,cY hjn hvn,e,[],vn,rfl,rfl,ee3,by show 0<sizeLine;decide,?_⟩;have A1:l6 g F3 H2 Hm2 [a]:=⟨λb hb=>by rw[U8.mp hb];exact⟨_,ha2,tN⟩,λb hb=>by rw[U8.mp hb];exact toff a U1,λb hb i=>by rw[U8.mp hb];exact tdis a U1 i,λb hb=>by rw[U8.mp hb];exact tnew a U1⟩;have R5:=R4.yT (o:=.dT (kvs++[(k,.ref e)])) A1;have A2:l6 g F3 (upd H2 a (.dT (kvs++[(k,.ref e)]))) Hm2 [e]:=⟨λb hb=>by rw[U8.mp hb];exact⟨_,ee3,mC⟩,λb hb=>by rw[U8.mp hb];exact R3.oF ne0,λb hb i=>by rw[U8.mp hb];exact R3.fresh ne0,λb hb=>by rw[U8.mp hb];exact R3.gj ne0⟩;have R6:=R5.yT (o:=.lst [vn]) A2;have T6:Tm X.K g F3 (upd (upd H2 a (.dT (kvs++[(k,.ref e)]))) e (.lst [vn])) Hm2 (.st false) (.ref a) (.dict ((.none,.none)::kJ kvd (.tuple (k.map bC)) d)) (a::(fp++[e])):=by refine⟨.st (by rw[aq nae,aH]) (λz=>?_) (h _ d e vn aH rn (λb hb=>?_) nfe),λb hb=>?_,λb hb i=>?_,λb hb=>?_⟩;{rcases UE.mp z with z|z;{exact na z};exact nae (U8.mp z)};{rw[aq (λz:b=e=>nfe (z▸hb)),aq λz:b=a=>na (z▸hb)]};{rcases U6.mp hb with rfl|hb;{exact toff _ U1};rcases UE.mp hb with hb|hb;{exact toff _ (U4 _ hb)};rw[U8.mp hb];exact R3.oF ne0};{rcases U6.mp hb with rfl|hb;{exact tdis _ U1 i};rcases UE.mp hb with hb|hb;{exact tdis _ (U4 _ hb) i};rw[U8.mp hb];exact R3.fresh ne0};rcases U6.mp hb with rfl|hb;{exact tnew _ U1};rcases UE.mp hb with hb|hb;{exact tnew _ (U4 _ hb)};rw[U8.mp hb];exact R3.gj ne0
  have R7:=R6.put T6 op;rw[List.set_set,set_same hv3]at R7;exact q _ _ _ _ _ _ _ [] pq R7 s2 (Tm.sh .bw)
 rw[ev];have ly:ys.length<sizeLine:=by rw[lk];exact UT (US.mp hl2 kv mk)
 refine⟨.inl ⟨rfl,_,bI.of hb⟩,_,cY hjn hvn,b,ys,vn,rfl,rfl,hb,ly,?_⟩;have A1:l6 g F3 H2 Hm2 [b]:=⟨λc hc=>by rw[U8.mp hc];exact⟨_,hb,mC⟩,λc hc=>by rw[U8.mp hc];exact toff b (U4 _ mb),λc hc i=>by rw[U8.mp hc];exact tdis b (U4 _ mb) i,λc hc=>by rw[U8.mp hc];exact tnew b (U4 _ mb)⟩;have R6:=R4.yT (o:=.lst (ys++[vn])) A1;have T6:Tm X.K g F3 (upd H2 b (.lst (ys++[vn]))) Hm2 (.st false) (.ref a) (.dict ((.none,.none)::kJ kvd (.tuple (k.map bC)) d)) (a::fp):=
  ⟨.st (by rw[aq (λz:a=b=>na (z▸mb))];exact ha2) na (h _ vn d rn aH λc _ hc=>aq hc),toff,tdis,tnew⟩
 have R7:=R6.put T6 op;rw[List.set_set,set_same hv3]at R7;exact q _ _ _ _ _ _ _ [] pq R7 s2 (Tm.sh .bw)
def TQ(j jj jn:Nat){i jc n:Nat}(hu:X.A.units+64<cLine)(hm:X.mg "tuple"=none)(hg:Gl X "tuple":=by rfl)(hN:X.N[j]?=some x:=by rfl)(hv:kB X.env.scope x:=by first|exact Or.inl rfl|exact Or.inr (Or.inl rfl)|exact Or.inr (Or.inr rfl))(hj:Y[j]?=some i:=by rfl)(hNc:X.N[jj]?=some c:=by rfl)(hvc:kB X.env.scope c:=by first|exact Or.inl rfl|exact Or.inr (Or.inl rfl)|exact Or.inr (Or.inr rfl))(hjc:Y[jj]?=some jc:=by rfl)(hNn:X.N[jn]?=some y:=by rfl)(hvn:kB X.env.scope y:=by first|exact Or.inl rfl|exact Or.inr (Or.inl rfl)|exact Or.inr (Or.inr rfl))(hjn:Y[jn]?=some n:=by rfl)(l1:(ap1.endLine==cpos2.line)=true:=by rfl)(l2:(ap2.endLine==cpos3.line)=true:=by rfl)(b1:(x==("__debug__":Str))=false:=by decide)(b2:(x==("__classdict__":Str))=false:=by decide)(b3:(c==("__debug__":Str))=false:=by decide)(b4:(c==("__classdict__":Str))=false:=by decide)(b5:(y==("__debug__":Str))=false:=by decide)(b6:(y==("__classdict__":Str))=false:=by decide) : SE X Ex Y (.Call (.Attribute (.Call (.Attribute (.Name x p) "setdefault" ap1) [.Call (.Name "tuple" tp) [.Name c cp] [] cpos1,.List [] lp] [] cpos2) "append" ap2) [.Name y yp] [] cpos3) (Jx i jc n):=Pr hu hg hm (gn hN hv b1 b2) hj (gn hNc hvc b3 b4) hjc (gn hNn hvn b5 b6) hjn l1 l2
def JZ{a:Addr}(h:fN a=some (.cL o (.dT kvs)))(r:aC K fN (kvs.map (·.2)) ds):xT K (OJ a o) ds fN:=by intro i H Hm s1 s2;have q:H a=some (.cL o (.dT kvs)):=s2 _ _ (s1 _ _ h);have hlen:=r.len;rw[U7]at hlen;refine⟨λd e=>?_,λl=>⟨kvs,q,by lia⟩⟩;obtain⟨v,e1,r1⟩:=r.get e;rw[UK]at e1;obtain⟨kv,e2,rfl⟩:=W7.mp e1;refine⟨⟨kvs,kv,q,e2⟩,λx H' y=>?_⟩;obtain⟨rfl,y⟩:=y;have:=y kvs q;rw[e2]at this;cases this;exact⟨Hm,aj.refl _,s2,aj.refl _,λ_ _=>.inl rfl,r1.mono s1⟩
def OO{i j:Nat}(hv:PE X (.Name x p) (jK j))(hj:Y[j]?=some i)(hline:(apos.endLine==cpos.line)=true):SI X Ex Y tg (.Call (.Attribute (.Name x p) "values" apos) [] [] cpos) (JH i):=by
 refine⟨_,MX hv rfl hline,?_⟩;intro g xc E U H Hm F P RR hx R h q;obtain⟨kvd,e1,pq⟩:=h;obtain⟨v,F3,hv3,R3,T3⟩:=R.move e1 rfl;generalize hfi:F i=fi at T3;obtain⟨own,toff,tdis,tnew⟩:=T3;cases own with
 |@st _ a kvs _ fp ha na tis=>
 refine⟨_,cY hj hv3,a,kvs,rfl,ha,λo=>?_⟩;have A1:l6 g F3 H Hm [a]:=⟨λb hb=>by rw[U8.mp hb];exact⟨_,ha,tN⟩,λb hb=>by rw[U8.mp hb];exact toff a U1,λb hb i=>by rw[U8.mp hb];exact tdis a U1 i,λb hb=>by rw[U8.mp hb];exact tnew a U1⟩;have R5:=R3.yT (o:=.cL o (.dT kvs)) A1;have tis2:=tis.step (H':=upd H a (.cL o (.dT kvs))) (aj.refl Hm) λb hb=>aq λz=>na (z▸hb);have ha5:upd H a (.cL o (.dT kvs)) a=some (.cL o (.dT kvs)):=aH;generalize upd H a (.cL o (.dT kvs))=H5 at R5 tis2 ha5⊢;have up:=i6 (Hm:=Hm) (H:=H5) toff;have R6:=R5.more up (jJ R5.sub) (λj b hb=>by rw[cW λz=>tdis b z j hb];exact R5.off j b hb) λb hb=>.inl (cW λz=>hb (tnew b z));exact q _ _ _ _ (lend Hm H5 (a::fp)) _ pq R6 up (JZ ((eN U1).trans ha5) (tis2.vals up λb hb=>eN (U4 _ hb)))
def Pg(j:Nat){i:Nat}(hN:X.N[j]?=some x:=by rfl)(hv:kB X.env.scope x:=by first|exact Or.inl rfl|exact Or.inr (Or.inl rfl)|exact Or.inr (Or.inr rfl))(hj:Y[j]?=some i:=by rfl)(hline:(apos.endLine==cpos.line)=true:=by rfl)(b1:(x==("__debug__":Str))=false:=by decide)(b2:(x==("__classdict__":Str))=false:=by decide) : SI X Ex Y tg (.Call (.Attribute (.Name x p) "values" apos) [] [] cpos) (JH i):=OO (gn hN hv b1 b2) hj hline
end
def Rec(K:Frag) (x:Str)(st:Stmt):Prop:=∃(f:Addr)(fd:FuncData),nsIn K mainGlobals x=some (some (.ref f))/\vz K x x st f fd
def Pe{K:Frag}{x:Str}{st:Stmt}{f:Addr}{oc:Value}{od an:ZV}{osl:ZH}{kV doc pm cdv ct:Value}(n:nsIn K mainGlobals x=some (some (.ref f)))(l:K.lookup f=some ⟨oc,od,.func (fnOf x x (lB st) (iV st) (ay st) .none kV doc pm an cdv ct),osl⟩)(c:codeIn K cdv x=true)(k:keepIn K (.ref f)=true):Rec K x st:=⟨f,_,n,OA l c k⟩
def w5(K:Frag) (x:Str):Prop:=∃C,nsIn K mainGlobals x=some (some (.ref C))/\gI K C uZ "ValueError.__new__" none=true
def Nn{K:Frag}{x:Str}{C:Addr}(h1:nsIn K mainGlobals x=some (some (.ref C)))(h2:gI K C uZ "ValueError.__new__" none=true):w5 K x:=⟨C,h1,h2⟩
def aW{P:Program}{w:World}{K:Frag}{base:Heap}{mg:ZK}{k:Nat}{x:Str}{ps:Zd}{sp:Sp}{st:Stmt}(N:∃h:Heap,K.In h/\h.Ns mainGlobals mg)(r:Rec K x st)(b:∀(kV doc pm:Value)(an:ZV)(cdv ct:Value)(us:ZW),us.length=ps.length->bindArgs (fnOf x x (lB st) (iV st) (ay st) .none kV doc pm an cdv ct) ⟨us,[]⟩=pure (ps.zip us))(ok:∀{f:Addr}{fd:FuncData},vz K x x st f fd->iw P w K mg base (gA P w) k f fd ps sp):bV P w K mg base k x ps sp:=by obtain⟨f,fd,n,F⟩:=r;obtain⟨h,X,G⟩:=N;exact⟨f,fd,mg_of X G n,F.kp,F.binds b,ok F⟩
end Dv
namespace SM
open PySem PySem.SetTable PySem.W PyProof.Rows
section
variable{prog:Program}{w:World}{A:Around}{E:ZI}{s:Shared}{es:Array Ent}{ep:Nat}{a it:Addr}
def By(hh:A.handled=none)(ho:s.heap.get? a=some o)(T:nL (intKind prog w) o ks)(few:ks.length<=63)(q:∀(h':Heap) (tk:Nat)(p:Addr)(out:ZT)(ms:Zc) (n:Nat),(∀b o',s.heap.get? b=some o'->h'.get? b=some o')->s.heap.get? p=none->h'.get? p=some (seqObj "list" out n)->L2.Vals (ms.map L2.V.int) out.toList->(∀x,x∈ms↔x∈ks)->ms.length=ks.length->ms.Pairwise (·<=·)->Q (.ref p) { s with heap:=h',toks:=tk }) : wpAny (model prog w) A (call (.builtin "sorted") [.ref a]) Q E s:=by
 obtain⟨ex,es,ep,t,hd,TBt,_,_,pl,ld,sp⟩:=T;have S:gZ w s.heap a es ep:=⟨o,t,ho,ex,hd,TBt.fits,TBt.ri,TBt.sz,pl,ld⟩;have el:=sp.len;refine Calls.call_function_entry kind_sorted plain_sorted entry_sorted (args_sorted1 _) (?_:_);unfold Builtin.«sorted»;refine U0 (m:=checkCount "sorted" 1 1 _) (U3 (?_:_));refine U0 (BC (by simpa using hh) S (by lia) λh' tk kp sz=>?_);have pe:=z0 w a ep es;have eint:∀l:List Ent,(∀e∈l,∃k,k∈ks/\Dl (intKind prog w) e k)->∃ns:Zc,IntsAre (l.map (·.2)) ns/\∀x,x∈ns↔∃e∈l,Dl (intKind prog w) e x:=λl=>by
  induction l with
  |nil=>exact λ_=>⟨[],.nil,λx=>⟨λh=>(nomatch h),λ⟨e,h,_⟩=>(nomatch h)⟩⟩
  |cons e l ih=>intro h;obtain⟨ns,h1,h2⟩:=ih λe' he'=>h e' (U4 _ he');obtain⟨k,_,h3,h4,h5⟩:=h e U1;obtain⟨tk,h6⟩:=Value.isInt_shape h3;obtain⟨eh,ev⟩:=e;dsimp only at h4 h6;subst h6;refine⟨k::ns,.cons k tk h1,λx=>?_⟩;rw[U6,h2 x];constructor;{rintro (rfl|⟨e',h7,h8⟩);{exact⟨_,U1,h3,h4,h5⟩};exact⟨e',U4 _ h7,h8⟩};rintro⟨e',h7,h8⟩;rcases U6.mp h7 with rfl|h7;{exact .inl ((intKind prog w).inj _ _ _ h8.1 h3)};exact .inr ⟨e',h7,h8⟩
 obtain⟨ns,hI,hns⟩:=eint (dP w a ep es).toList λe he=>sp.ok e (pe.mem_iff.mp he);have vl:((dP w a ep es).toList.map (·.2)).length=ks.length:=by rw[U7,pe.length_eq];simpa using el
 have mem:∀x,x∈ns↔x∈ks:=λx=>by rw[hns x];constructor;{rintro⟨e,h1,h2⟩;obtain⟨k,h3,h4⟩:=sp.ok e (pe.mem_iff.mp h1);exact(intKind prog w).inj _ _ _ h2.1 h4.1▸h3};intro h;obtain⟨e,h1,h2⟩:=sp.on x h;exact⟨e,pe.mem_iff.mpr h1,h2⟩
 generalize (dP w a ep es).toList.map (·.2)=vs at *;refine U0 (Y9 (hsz:=V4 (show vs.length<=63 by lia) (by decide)) (?_:_));have g0:(h'.push (seqObj "list" vs.toArray 0)).get? h'.objs.size=some (seqObj "list" vs.toArray 0):=V8 _ rfl;refine U0 (VX (Vc slot_list_sort ⟨_,g0,rfl⟩ entry_list_sort (list_sort_tree g0 hI (by lia) λout ms a1 a2 a3=>⟨_,rfl,(?_:_)⟩) (args_list_sort _)));obtain⟨n,hn⟩:=sortedHeap_at (vs:=vs) (out:=out) g0;have hlen:ns.length=ks.length:=by rw[<-vl];exact(L2.je hI).length.symm▸(by simp)
 refine U3 ⟨_,rfl,q _ _ h'.objs.size out ms n (λb o' hb=>?_) (XJ (Vk sz)) hn (L2.je a1) (λx=>by rw[a2.mem_iff,mem x]) (a2.length_eq.trans hlen) a3⟩;have hb':=kp b o' hb;have lt:=UG hb';rw[sortedHeap_old (UH lt) (by rw[size_push'];exact WA lt)];exact UQ _ hb'
end
end SM
namespace L2
open PySem PySem.Spec PyProof.Rows
section
variable{X:Cx}
def yD(hc:X.calm=true):cI X (.builtin "sorted") (λxs H Q=>∃(a:Addr)(ks:Zc),xs=[.ref a]/\H a=some (wK X.prog X.w a ks)/\ks.length<=63/\∀(ms:Zc)(p:Addr),(∀x,x∈ms↔x∈ks)->ms.length=ks.length->ms.Pairwise (·<=·)->H p=none->Q (.ref p) (upd H p (.lst (ms.map V.int)))):=by
 intro pins s U H xs us Q I r h;obtain⟨a,ks,rfl,ha,few,q⟩:=h;obtain⟨u,rfl,ru⟩:=vals1 r;cases ru;obtain⟨⟨o,z1,z2⟩,_⟩:=I.hok a _ ha;refine SM.By (I.ok.hd hc) z1 z2 few λh' tk p out ms n kp new hp rm mem ml srt=>?_;have I2:=I.yV (a:=p) (o:=.lst (ms.map V.int)) (t':=tk) (h':=h') kp new
  ⟨by rw[U7,ml];exact V4 few (by decide),out.toList,n,rm,by simpa using hp⟩
 exact⟨.ref p,_,I2,rfl,q ms _ mem ml srt (I.jD new)⟩
end
end L2
namespace Dv
open PySem L2 PySem.W
def rQ:DR:=λds P=>∃ns:Zc,ds=[.list (ns.map .int)]/\ns.length<=63/\∀ms:Zc,(∀x,x∈ms↔x∈ns)->ms.Pairwise (·<·)->P (.ow false) (.list (ms.map .int))
def C7(s:aj H H2){a:Addr}(h:H2 a=none):H a=none:=by
 cases e:H a with
 |none=>rfl
 |some o=>rw[s _ _ e]at h;cases h
def bM.up(q:bM K H Hm P Q)(s:aj H H2):bM K H2 Hm P Q:=λk v u H' Hm' fp pp s1 s2 s3 od o fr=>
 q k v u H' Hm' fp pp (s.trans s1) s2 s3 (λa ha=>od a λz=>ha (C7 s z)) o λa ha=>⟨C7 s (fr a ha).1,(fr a ha).2⟩
theorem zB{α:Type} [DecidableEq α]:∀{l:List α},¬l.Nodup->∃k:List α,k.length+1=l.length/\∀x∈l,x∈k
 |[],h=>absurd VY h
 |a::l,h=>by by_cases c:a∈l;{exact⟨l,rfl,λx hx=>(U6.mp hx).elim (λe=>e▸c) id⟩};obtain⟨k,h1,h2⟩:=zB (l:=l) λz=>h (VA.mpr ⟨c,z⟩);refine⟨a::k,by rw[UL,UL,h1],λx hx=>?_⟩;rcases U6.mp hx with rfl|hx;{exact U1};exact U4 _ (h2 x hx)
theorem zO{α:Type} [DecidableEq α]:∀{l k:List α},l.Nodup->(∀x∈l,x∈k)->l.length<=k.length
 |[],_,_,_=>V3 _
 |a::l,k,h,s=>by obtain⟨h1,h2⟩:=VA.mp h;have m:=s a U1;have:=zO (l:=l) (k:=k.erase a) h2 λx hx=>(Yx (λz:x=a=>h1 (z▸hx))).mpr (s x (U4 _ hx));rw[Yy m]at this;have:=Ws m;rw[UL];lia
def RN{α:Type} [DecidableEq α]{l k:List α}(h:k.Nodup)(s:∀x∈k,x∈l)(e:l.length=k.length):l.Nodup:=by by_cases c:l.Nodup;{exact c};obtain⟨l',h1,h2⟩:=zB c;have:=zO h λx hx=>h2 x (s x hx);lia
section
variable{X:Cx}{Ex:XK}{Y:Zb}{a:Expr}{as:List Arg}{p p2 pos pos2:Pos}
abbrev Lb(X:Cx):List V->Hp->VK->Prop:=λxs H Q=>∃(a:Addr)(ns:Zc),xs=[.ref a]/\bI X.K H a (ns.map V.int)/\ns.length<=126/\∀(p:Addr)(ks:Zc),H p=none->(∀x,x∈ks↔x∈ns)->ks.Nodup->Q (.ref p) (upd H p (wK X.prog X.w p ks))
abbrev K3(X:Cx):List V->Hp->VK->Prop:=λxs H Q=>∃(a:Addr)(ks:Zc),xs=[.ref a]/\H a=some (wK X.prog X.w a ks)/\ks.length<=63/\∀(ms:Zc)(p:Addr),(∀x,x∈ms↔x∈ks)->ms.length=ks.length->ms.Pairwise (·<=·)->H p=none->Q (.ref p) (upd H p (.lst (ms.map V.int)))
def Ff:cU X.K rQ λvs H Q=>Lb X vs H λv H1=>K3 X [v] H1 Q:=by rintro H Hm vs ds P Q s r⟨ns,rfl,hn,h⟩q;obtain⟨x,rfl,h1⟩:=dR r;obtain⟨a,xs,rfl,ha,r1⟩:=dX h1;cases jG r1;refine⟨a,ns,rfl,(cu.mono s ha).sq,by lia,λp ks hp hm nd=>?_⟩;refine⟨p,ks,rfl,aH,V4 (zO nd λx hx=>(hm x).mp hx) hn,λms p' m1 m2 m3 hp'=>?_⟩;have sH:=cH (o:=wK X.prog X.w p ks) hp;refine bM.nl (bM.up q sH) (s.trans sH) (h ms (λx=>(m1 x).trans (hm x)) ?_) hp' (lC ms);have nm:=RN nd (λx hx=>(m1 x).mpr hx) m2;exact(m3.and nm).imp λ⟨u,v⟩=>by lia
def zz(hm:X.mg "sorted"=none)(hm2:X.mg "set"=none)(S:aY X Ex Y [a] as)(hc:X.calm=true:=by rfl)(hg:Gl X "sorted":=by rfl)(hg2:Gl X "set":=by rfl)(ns:noStar a=true:=by rfl):SE X Ex Y (.Call (.Name "sorted" p) [.Call (.Name "set" p2) [a] [] pos2] [] pos) (ah rQ as):=
 gx (r:=λvs H Q=>Lb X vs H λv H1=>K3 X [v] H1 Q) S (λU H Q h=>WE.of (uD (yD hc) hg hm Yv (gu (kE (FY hc) hg2 hm2 PyProof.Rows.boot_set (eW (es:=[a]) (by rw[UU,ns];rfl)) (by decide) (by decide) (bQ ns) (iP rfl)) ji) (by decide) (by decide) rfl rfl) h) Ff
end
end Dv
namespace L2
open PySem PySem.Spec PyProof.Rows PySem.W Builtin Builtin.ObjectAttr PySem.SeqAt
open AutoSeq1 (wpAny_loadPart')
open MeetsSeq MeetsSeq2 MeetsSeq3
def Jj(l b:Addr)(items items2:ZT) (n n2:Nat)(dd dd2:ZV)(sl sl2:ZH) (z:Nat)(h1:z<items.size)(h2:z<items2.size) (k:Nat) : ∀i:Nat,z-i=k->i<=z->Meets (Builtin.«list.__eq__.loop» ⟨[.ref l,.ref b,rawInt i,rawInt 1],[]⟩) (λA R s=>s.heap.get? l=some { cls:=.type "list",dict:=dd,data:=.seq items n,slots:=sl }/\s.heap.get? b=some { cls:=.type "list",dict:=dd2,data:=.seq items2 n2,slots:=sl2 } /\ (∀j (h1:j<items.size)(h2:j<items2.size),j<z->EqAt A.in1 s items[j] items2[j] true)/\EqAt A.in1 s items[z] items2[z] false /\ (∀(prog:Program)(w:World)(A:Around)(E:ZI)(Q:ZI),Q (.bool false) s->wpAny (model prog w) A (richCompare .LtE items[z] items2[z]) Q E s) /\ R (.ok (.ret (.bool false))) s):=by
 induction k with
 |zero=>
  intro i hk hz prog w A R s h;obtain⟨hp,g,d,tk,os⟩:=s;obtain⟨hl,hb,he,hf,hr,h⟩:=h;have e:i=z:=by lia
  subst e;have hi1:items[((i:Nat):Int).toNat]?=some items[i]:=by simp[h1]
  have hi2:items2[((i:Nat):Int).toNat]?=some items2[i]:=by simp[h2]
  wp_walk using Vx hl,Vx hb
  rw[hi1,hi2];refine U0 (hf prog w _ _ ?_)
  wp_walk using Vx hl,Vx hb
  rw[hi1,hi2];refine U0 (hr prog w _ _ _ ?_)
  wp_walk
  exact h
 |succ k ih=>
  intro i hk hz prog w A R s h;obtain⟨hp,g,d,tk,os⟩:=s;obtain⟨hl,hb,he,hf,hr,h⟩:=h
  wp_walk using Vx hl,Vx hb
  have hlt:i<items.size:=by lia
  have hlt2:i<items2.size:=by lia
  have hi1:items[((i:Nat):Int).toNat]?=some items[i]:=by simp[hlt]
  have hi2:items2[((i:Nat):Int).toNat]?=some items2[i]:=by simp[hlt2]
  have hc:((i:Int)+1)=((i+1:Nat):Int):=by push_cast;rfl
  rw[hi1,hi2];refine U0 (he i hlt hlt2 (by lia) prog w _ _ ?_)
  wp_walk
  rw[hc];exact⟨Xa plain_eq_loop _,WR entry_eq_loop (by
   rw[XA plain_eq_loop _];exact ih (i+1) (by lia) (by lia) prog w A R _ ⟨hl,hb,he,hf,hr,h⟩)⟩
def II(l b:Addr)(items items2:ZT) (n n2:Nat)(dd dd2:ZV)(sl sl2:ZH) (z:Nat)(h1:z<items.size)(h2:z<items2.size) : Meets (Builtin.«list.__le__» ⟨[.ref l,.ref b],[]⟩) (λA R s=>s.heap.get? l=some { cls:=.type "list",dict:=dd,data:=.seq items n,slots:=sl }/\s.heap.get? b=some { cls:=.type "list",dict:=dd2,data:=.seq items2 n2,slots:=sl2 } /\ (∀j (h1:j<items.size)(h2:j<items2.size),j<z->EqAt A.in1 s items[j] items2[j] true)/\EqAt A.in1 s items[z] items2[z] false /\ (∀(prog:Program)(w:World)(A:Around)(E:ZI)(Q:ZI),Q (.bool false) s->wpAny (model prog w) A (richCompare .LtE items[z] items2[z]) Q E s) /\ R (.ok (.ret (.bool false))) s):=by
 intro prog w A R s h;obtain⟨hp,g,d,tk,os⟩:=s;obtain⟨hl,hb,he,hf,hr,h⟩:=h;have f3:=AutoSeq1.sub_list_list
 wp_walk using Vx hl,Vx hb
 exact⟨Xa plain_eq_loop _,WR entry_eq_loop (by
  rw[XA plain_eq_loop _];exact Jj l b items items2 n n2 dd dd2 sl sl2 z h1 h2 _ 0 rfl (by lia) prog w A R _ ⟨hl,hb,he,hf,hr,h⟩)⟩
theorem oJ:∀{vs:ZW}{ns:Zc},IntsAre vs ns->∀{j:Nat}{m:Int},ns[j]?=some m->∃t,vs[j]?=some (.int m t)
 |_,[],h,j,m,e=>by simp at e
 |_,n::ns,h,j,m,e=>by
  obtain⟨t,vs',rfl,h'⟩:=IntsAre.cons_inv h;cases j with
  |zero=>simp at e;subst e;exact⟨t,rfl⟩
  |succ j=>simpa using oJ h' (by simpa using e)
inductive La(K:Frag) (x:V) (y:V)(H:Hp)(Q:VK):Prop
 |mk:∀(a b:Addr)(ns ms:Zc) (z:Nat) (n m:Int),(x=.ref a)->(y=.ref b)->(bI K H a (ns.map V.int))->(bI K H b (ms.map V.int))->((∀j,j<z->ns[j]?=ms[j]?))->(ns[z]?=some n)->(ms[z]?=some m)->(m<n)->(Q (.bl false) H)->La K x y H Q
def Qz(K:Frag):R2:=λx y H Q=>La K x y H Q
def Ph(hu:X.A.units+64<cLine):b9 X (compareOp .LtE) (Qz X.K):=by
 intro pins s U H x y v u Q I rx ry h;obtain⟨a,b,ns,ms,z,n,m,rfl,rfl,ha,hb,hj,hn,hm,lt,q⟩:=h;cases rx;cases ry;obtain⟨its,r1,p1,_⟩:=I.list ha;obtain⟨its2,r2,p2,_⟩:=I.list hb;have i1:=intsAre_of r1;have i2:=intsAre_of r2;obtain⟨⟨cls,dd,data,sl⟩,ho,hc,n1,hd⟩:=p1.isList;obtain⟨⟨cls2,dd2,data2,sl2⟩,ho2,hc2,n2,hd2⟩:=p2.isList;simp only at hc hd hc2 hd2;subst hc hd hc2 hd2;obtain⟨t1,g1⟩:=oJ i1 hn;obtain⟨t2,g2⟩:=oJ i2 hm;have l1:z<its.toArray.size:=by rw[UO];exact(VE.mp g1).1
 have l2:z<its2.toArray.size:=by rw[UO];exact(VE.mp g2).1
 have e1:its.toArray[z]=.int n t1:=by rw[YN];exact Option.some.inj (by rw[<-g1,V0])
 have e2:its2.toArray[z]=.int m t2:=by rw[YN];exact Option.some.inj (by rw[<-g2,V0])
 refine richCompare_meets_room (op:=.LtE) ⟨_,ho,rfl⟩ ⟨_,ho2,rfl⟩ F.slot_list_le F.entry_list_le (F.args_list_le_2 _ _) (II _ _ its.toArray its2.toArray n1 n2 dd dd2 sl sl2 z l1 l2) ⟨ho,ho2,λj h1 h2 hz=>?_,?_,λprog w A E Q h=>?_,show Value.bool false≠Value.notImplemented/\_ from⟨(λx=>nomatch x),⟨.bl _,H,I,rfl,q⟩⟩⟩ (by lia)
 .have ln:j<ns.length:=by have:=(VE.mp hn).1;lia
  have e:=hj j hz;rw[V0 ln]at e;obtain⟨u1,k1⟩:=oJ i1 (V0 ln);obtain⟨u2,k2⟩:=oJ i2 e.symm;rw[show its.toArray[j]=.int ns[j] u1 by
   rw[YN];exact Option.some.inj (by rw[<-k1,V0]),show its2.toArray[j]=.int ns[j] u2 by
   rw[YN];exact Option.some.inj (by rw[<-k2,V0])]
  have:=EqAt.int_int (A:=X.A.in1) (s:=s) ns[j] u1 ns[j] u2;rw[XT]at this;exact this
 .rw[e1,e2];have:=EqAt.int_int (A:=X.A.in1) (s:=s) n t1 m t2;rw[show(n==m)=false from beq_eq_false_iff_ne.mpr (by lia)]at this;exact this
 rw[e1,e2];refine le_int ?_;rw[VH (by lia)];exact h
end L2
namespace Dv
open PySem L2 PySem.W
def JF:DR:=λds P=>∃(ns ms:Zc) (z:Nat) (n m:Int),ds=[.list (ns.map .int),.list (ms.map .int)]/\(∀j,j<z->ns[j]?=ms[j]?)/\ns[z]?=some n/\ms[z]?=some m/\m<n/\P .sh (.bool false)
def LX:cU K JF (r2 (Qz K)):=by intro H Hm vs ds P Q s r h q;obtain⟨ns,ms,z,n,m,rfl,h1,h2,h3,h4,p⟩:=h;obtain⟨x,y,rfl,r1,r2⟩:=iA r;obtain⟨a,xs,rfl,ha,k1⟩:=dX r1;obtain⟨b,ys,rfl,hb,k2⟩:=dX r2;cases jG k1;cases jG k2;exact⟨a,b,ns,ms,z,n,m,rfl,rfl,(cu.mono s ha).sq,(cu.mono s hb).sq,h1,h2,h3,h4,bM.sc q s p (.bl _)⟩
section
variable{X:Cx}{Ex:XK}{Y:Zb}
def Tp(hu:X.A.units+64<cLine)(S:aY X Ex Y [a,b] as):bN X Ex Y (.Compare a [.LtE] [b] pos) (ah JF as):=gX (Ph hu) (jv _) LX S
end
end Dv
namespace PB
open PySem L2 Dv
def iz:DS:=av (q9 [1,2] (aO 0)) (av (aN 3 (rB sizeLine [6] (sI yl [.pk 1]) (.nm 6) (eE) (ah cK []))) (av (fm (iE (aO 2)) (.tp [4,5]) (av (dQ (Ax eO 3 (aO 4) 5)) (dQ (Ax eO 3 (aO 5) 4)))) (jh 3)))
def jQ(AAI:bq):DS:=av (aN 2 (aD AAI [false] [.pk 0])) (av (aN 3 (ah gG [.ev (ah cK [.ev (dC .none)]),.ev (ah b7 [.pk 0,.ev (dC (.int 0))])])) (av (jV 3 (aO 1) (dC (.int 0))) (av (aN 4 (ah cK [.pk 1])) (av (vA (xR 4) (av (aN 5 (ah cK [])) (av (fm (iE (aO 4)) (.nm 6) (fm (iE (ah b7 [.pk 2,.pk 6])) (.nm 7) (cO (bW (ah (dF false) [.ev (ah b7 [.pk 3,.pk 7]),.ev (dC .none)])) (av (jV 3 (aO 7) (ah d8 [.ev (ah b7 [.pk 3,.pk 6]),.ev (dC (.int 1))])) (dQ (qh eO 5 [aO 7]))) (dD)))) (aN 4 (aO 5))))) (jh 3)))))
def iu:DS:=cO (qy (bW (lX (λi j=>decide (i<=j)) (λi j=>decide (i<j)) (dC (.int 0)) (aO 1) (ah b7 [.pk 0,.ev (dC (.int 0))])))) (lU "NoPlace") (dD)
def ni(AAL Zr:bq):DS:=av (dQ (aD AAL [false,false] [.pk 0,.pk 1])) (bG (aD Zr [false,false] [.pk 0,.pk 1]))
def lY:DS:=bG (ah rS [.ev (ah b7 [.pk 0,.ev (ah b7 [.pk 1,.ev (dC (.int 0))])]),.ev (ah b7 [.pk 0,.ev (ah b7 [.pk 1,.ev (dC (.int 1))])])])
def nQ:DS:=av (q9 [2,3] (aO 0)) (av (aN 4 (xY (bW (ah lH [.pk 1,.ev (dC (.str "ties"))])) (ah cK []) (ah lQ [.pk 2]))) (av (aN 5 (xY (bW (ah lH [.pk 1,.ev (dC (.str "places"))])) (ah cK []) (ah kg [.pk 3]))) (bG (ah d8 [.pk 4,.pk 5]))))
def nG:DS:=av (aN 2 (ah w9 [.ev (dC (.int 1))])) (av (fm (iE (aO 1)) (.nm 3) (av (cO (qy (bW (lX (λi j=>decide (i<j)) (λi j=>decide (i<j)) (aO 2) (aO 3) (ah b7 [.pk 0,.ev (dC (.int 0))])))) (bG (dC (.bool false))) (dD)) (aN 2 (aO 3)))) (bG (dC (.bool true))))
def fZ(Zm:bq):DS:=cO (qy (bW (aD Zm [false,false] [.pk 0,.pk 1]))) (lU "NoLooks") (dD)
def nV(AAH:bq):DS:=av (cO (bW (ah (yq "int") [.pk 1])) (bG (ah b7 [.pk 0,.pk 1])) (dD)) (bG (aD AAH [false,false] [.pk 0,.pk 1]))
def pK(Zq AAR:bq):DS:=av (aN 3 (bJ [4] (iE (aO 1)) (.nm 4) (eE) (bY sizeLine (aD Zq [false,false] [.pk 0,.pk 4])))) (bG (bJ [4] (iE (aO 2)) (.nm 4) (eE) (bY sizeLine (bJ [5] (iE (aO 3)) (.nm 5) (eE) (bY sizeLine (aD AAR [false,false] [.pk 5,.pk 4]))))))
def qa(AAN AAS Zp:bq):DS:=av (dQ (aD AAN [false,false] [.pk 0,.pk 1])) (av (aN 3 (aD AAS [false,false] [.pk 0,.pk 2])) (av (aN 4 (EE)) (av (fm (Kp (aO 3) (aD Zp [false,false,false] [.pk 0,.pk 1,.pk 3])) (.tp [5,6]) (dQ (Jx 4 6 5))) (bG (bJ [7] (JH 4) (.nm 7) (bW (ah AD [.ev (ah eK [.pk 7]),.ev (dC (.int 1))])) (bY sizeLine (aO 7)))))))
def qV:DS:=av (q9 [1,2] (aO 0)) (bG (ah lH [.ev (ah eK [.pk 2]),.ev (ah kP [.pk 1,.ev (dC (.int 1))])]))
def iK(Zu:bq):DS:=cO (qy (bW (aD Zu [false] [.pk 0]))) (lU "NoTree") (dD)
def jS:DS:=av (aN 3 (ah cK [])) (av (aN 4 (ah cK [.ev (ah jz [.pk 1,.pk 2])])) (av (vA (xR 4) (av (q9 [5,6] (qh wL 4 [])) (av (dQ (qh eO 3 [aO 6])) (Bl sizeLine 4 (bJ [7] (iE (ah b7 [.pk 0,.pk 6])) (.nm 7) (bW (ah mD [.pk 7,.pk 5])) (bY sizeLine (ah jz [.pk 6,.pk 7]))))))) (bG (ah qS [.pk 3]))))
def nF(AAM AAL AAI AAJ:bq):DS:=av (dQ (aD AAM [false] [.pk 0])) (av (dQ (aD AAL [false,false] [.pk 0,.pk 1])) (av (aN 2 (aD AAI [false] [.pk 0])) (bG (bJ [3] (iE (ah b7 [.pk 2,.pk 1])) (.nm 3) (eE) (bY sizeLine (aD AAJ [false,false,false] [.pk 2,.pk 1,.pk 3]))))))
def mP(AAM AAG:bq):DS:=av (dQ (aD AAM [false] [.pk 0])) (av (aN 3 (aD AAG [false,false,false] [.pk 0,.pk 1,.pk 2])) (bG (xY (xR 3) (ah jz [.ev (ah b7 [.ev (ah b7 [.pk 3,.ev (dC (.int 0))]),.ev (dC (.int 0))]),.ev (ah b7 [.ev (ah b7 [.pk 3,.ev (dC (.int 0))]),.ev (dC (.int 1))])]) (dC .none))))
def qG(AAK:bq):DS:=bG (bJ [3] (iE (aD AAK [false,false] [.pk 0,.pk 1])) (.nm 3) (qy (bW (ah EO [.ev (bJ [4] (iE (aO 3)) (.nm 4) (eE) (bY sizeLine (ah (lJ false) [.pk 4,.pk 2])))]))) (bY sizeLine (aO 3)))
def kG(AAM AAS AAI AAF:bq):DS:=av (dQ (aD AAM [false] [.pk 0])) (av (cO (bW (ah IE [.ev (ah eK [.ev (aD AAS [false,false] [.pk 0,.pk 1])]),.ev (dC (.int 2))])) (bG (ah cK [])) (dD)) (av (aN 2 (bJ [6] (iE (aD AAI [false] [.pk 0])) (.nm 6) (eE) (bY sizeLine (ah eK [.pk 6])))) (av (aN 3 (bJ [6,7] (x6 (aO 2)) (.tp [6,7]) (bW (ah lH [.pk 7,.ev (dC (.int 1))])) (bY sizeLine (aO 6)))) (av (cO (bW (ah lH [.pk 1,.ev (dC (.str "all"))])) (bG (bJ [6] (iE (aO 3)) (.nm 6) (eE) (bY sizeLine (ah cK [.ev (ah cK [.pk 6]),.ev (ah cK [])])))) (dD)) (av (aN 4 (bJ [6,7] (x6 (aO 2)) (.tp [6,7]) (bW (ah AD [.pk 7,.ev (dC (.int 2))])) (bY sizeLine (aO 6)))) (av (cO (qy (xR 4)) (bG (ah cK [.ev (bJ [6] (iE (aO 3)) (.nm 6) (eE) (bY sizeLine (ah cK [.pk 6])))])) (dD)) (av (aN 5 (bJ [6] (iE (aO 4)) (.nm 6) (eE) (bY sizeLine (aD AAF [false,false,false] [.pk 0,.pk 6,.pk 4])))) (bG (bJ [6] (iE (aO 5)) (.nm 6) (xR 6) (bY sizeLine (aO 6)))))))))))
def kX(AAO:bq):DS:=bG (ah Es [.ev (bJ [2] (iE (aD AAO [false,false] [.pk 0,.pk 1])) (.nm 2) (eE) (bY sizeLine (ah kP [.ev (ah eK [.pk 2]),.ev (dC (.int 1))])))])
def nX:DS:=av (aN 3 (ah eK [.ev (bJ [4] (iE (aO 0)) (.nm 4) (bW (ah (lJ false) [.pk 4,.pk 1])) (bY sizeLine (aO 4)))])) (av (cO (bW (ah AD [.pk 3,.ev (dC (.int 0))])) (bG (ah jz [.ev (xY (bW (ah lH [.pk 3,.ev (dC (.int 1))])) (dC (.int 1)) (dC (.int 0))),.ev (dC (.int 0))])) (dD)) (bG (ah jz [.ev (ah eK [.ev (bJ [4] (iE (aO 0)) (.nm 4) (bW (ah KG [.pk 4,.pk 2])) (bY sizeLine (aO 4)))]),.ev (dC (.int 1))])))
def mF(AAP:bq):DS:=av (aN 3 (dC (.int 1))) (av (aN 4 (dC (.int 0))) (av (fm (iE (aO 0)) (.nm 5) (av (q9 [6,7] (aD AAP [false,false,false] [.pk 5,.pk 1,.pk 2])) (av (aN 4 (ah d8 [.ev (ah gG [.pk 4,.pk 6]),.ev (ah gG [.pk 3,.pk 7])])) (aN 3 (ah gG [.pk 3,.pk 6]))))) (jh 4)))
def nj(Zs:bq):DS:=av (aN 3 (dC (.int 1))) (av (fm (iE (aO 0)) (.nm 4) (aN 3 (ah gG [.pk 3,.ev (aD Zs [false,false,false] [.pk 4,.pk 1,.pk 2])]))) (jh 3))
def jW(AAW AAO:bq):DS:=bG (aD AAW [false,false,false] [.ev (aD AAO [false,false] [.pk 0,.pk 1]),.ev (ah cK []),.ev (dC (.int 0))])
def pS:DS:=bG (ah qS [.ev (bJ [1,2,3] (iE (aO 0)) (.nm 1) (eE) (Cj (iE (aO 1)) (.nm 2) (eE) (Cj (iE (aO 2)) (.nm 3) (eE) (bY sizeLine (aO 3)))))])
def n5(AAO AAW AAQ:bq):DS:=av (aN 3 (aD AAO [false,false] [.pk 0,.pk 1])) (av (cO (qy (bW (lX (λi j=>decide (i<=j)) (λi j=>decide (i<j)) (dC (.int 0)) (aO 2) (aD AAW [false,false,false] [.pk 3,.ev (ah cK []),.ev (dC (.int 0))])))) (lU "NoSuch") (dD)) (av (aN 4 (ah cK [])) (av (aN 5 (aO 2)) (av (fm (iE (aD AAQ [false] [.pk 3])) (.nm 6) (av (aN 7 (aD AAW [false,false,false] [.pk 3,.ev (ah d8 [.pk 4,.ev (ah cK [.pk 6])]),.ev (ah d8 [.pk 6,.ev (dC (.int 1))])])) (cO (bW (ah IE [.pk 5,.pk 7])) (dQ (qh eO 4 [aO 6])) (w4 (·-·) 5 (aO 7))))) (jh 4)))))
def nA(AAQ AAW:bq):DS:=av (aN 3 (aD AAQ [false] [.pk 0])) (av (cO (bW (vm (ah mD [.pk 1,.ev (ah rQ [.pk 1])]) (nH (ah zA [.ev (bJ [4] (iE (aO 1)) (.nm 4) (eE) (bY sizeLine (ah (lJ false) [.pk 4,.pk 3])))])))) (bG (dC (.bool false))) (dD)) (bG (ah lH [.ev (aD AAW [false,false,false] [.pk 0,.pk 1,.pk 2]),.ev (dC (.int 1))])))
def jm(AAO Zt AAQ AAW:bq):DS:=av (aN 3 (aD AAO [false,false] [.pk 0,.pk 1])) (av (cO (qy (bW (aD Zt [false,false,false] [.pk 3,.pk 2,.ev (ah b7 [.pk 0,.ev (dC (.int 0))])]))) (lU "NotOne") (dD)) (av (aN 4 (dC (.int 0))) (av (aN 5 (ah cK [])) (av (fm (iE (aD AAQ [false] [.pk 3])) (.nm 6) (cO (bW (ah (lJ false) [.pk 6,.pk 2])) (dQ (qh eO 5 [aO 6])) (w4 (·+·) 4 (aD AAW [false,false,false] [.pk 3,.ev (ah d8 [.pk 5,.ev (ah cK [.pk 6])]),.ev (ah d8 [.pk 6,.ev (dC (.int 1))])])))) (jh 4)))))
end PB
namespace Dv
open PySem L2
def zV(xs:ZU)(tg:Tg)(b:DS)(D:jl)(E1:En):Prop:=∃I:Nat->En->Prop,I 0 E1/\(∀i d E,xs[i]?=some d->I i E->∃E2,cT tg d E=some E2/\b { D with nx:=I (i+1) } E2)/\∀E,I xs.length E->D.nx E
def xE(cs:Zb)(xs:ZU)(tg:Tg)(c:DT)(r:DC)(E1:En)(Q:Ze):Prop:=∃(E0:En)(I:Nat->ZU->En->Prop),bE cs E1=some E0/\I 0 [] E0/\(∀i d ys E,xs[i]?=some d->I i ys E->∃E2,cT tg d E=some E2/\c xF E2 λE3 b=>if b=true then r xF ys E3 (I (i+1))else I (i+1) ys E3)/\∀ys E,I xs.length ys E->∃E2,bE cs E=some E2/\Q E2 (.ow false) (.list ys)
def Ow(most:Nat)(cs:Zb)(xs:ZU)(tg:Tg)(c:DT)(e:DE)(E1:En)(Q:Ze):Prop:=∃(E0:En)(I:Nat->ZU->En->Prop),bE cs E1=some E0/\I 0 [] E0/\(∀i d ys E,xs[i]?=some d->I i ys E->∃E2,cT tg d E=some E2/\c xF E2 λE3 b=>if b=true then e xF E3 (λE4 k v=>(∃p,k=.ow p)/\ys.length<most/\I (i+1) (ys++[v]) E4)else I (i+1) ys E3)/\∀ys E,I xs.length ys E->∃E2,bE cs E=some E2/\Q E2 (.dp false) (.list ys)
def QT(xs:ZU)(tg:Tg)(c:DT)(r:DC)(x:XC)(ys:ZU)(E1:En)(Q:ZU->En->Prop):Prop:=∃I:Nat->ZU->En->Prop,I 0 ys E1/\(∀i d ys E,xs[i]?=some d->I i ys E->∃E2,cT tg d E=some E2/\c x E2 λE3 b=>if b=true then r x ys E3 (I (i+1))else I (i+1) ys E3)/\∀ys E,I xs.length ys E->Q ys E
theorem dyr0:∀{it:DI}{tg:Tg}{b:DS}{D:jl}{o:Zg}{E:En},fm it tg b D (o::E)=it D.xc (o::E) λE1 xs=>zV xs tg b D E1:=rfl
theorem dyr1:∀{cs:Zb}{it:DI}{tg:Tg}{c:DT}{r:DC}{x:XC}{o:Zg}{E:En}{Q:Ze},bJ cs it tg c r x (o::E) Q=it x (o::E) λE1 xs=>xE cs xs tg c r E1 Q:=rfl
theorem dyr2:∀{most:Nat}{cs:Zb}{it:DI}{tg:Tg}{c:DT}{e:DE}{x:XC}{o:Zg}{E:En}{Q:Ze},rB most cs it tg c e x (o::E) Q=it x (o::E) λE1 xs=>Ow most cs xs tg c e E1 Q:=rfl
theorem dyr3:∀{it:DI}{tg:Tg}{c:DT}{r:DC}{x:XC}{ys:ZU}{o:Zg}{E:En}{Q:ZU->En->Prop},Cj it tg c r x ys (o::E) Q=it x (o::E) λE1 xs=>QT xs tg c r x ys E1 Q:=rfl
def dy:
 (∀{it:DI}{tg:Tg}{b:DS}{D:jl}{o:Zg}{E:En},fm it tg b D (o::E)=it D.xc (o::E) λE1 xs=>zV xs tg b D E1) /\
 (∀{cs:Zb}{it:DI}{tg:Tg}{c:DT}{r:DC}{x:XC}{o:Zg}{E:En}{Q:Ze},bJ cs it tg c r x (o::E) Q=it x (o::E) λE1 xs=>xE cs xs tg c r E1 Q) /\
 (∀{most:Nat}{cs:Zb}{it:DI}{tg:Tg}{c:DT}{e:DE}{x:XC}{o:Zg}{E:En}{Q:Ze},rB most cs it tg c e x (o::E) Q=it x (o::E) λE1 xs=>Ow most cs xs tg c e E1 Q) /\
 (∀{it:DI}{tg:Tg}{c:DT}{r:DC}{x:XC}{ys:ZU}{o:Zg}{E:En}{Q:ZU->En->Prop},Cj it tg c r x ys (o::E) Q=it x (o::E) λE1 xs=>QT xs tg c r x ys E1 Q):=⟨rfl,rfl,rfl,rfl⟩
def ME{a b:DS}{D:jl}{E:En}(h:av a b D E):El a b D E:=⟨b D,h,λ_ z=>z⟩
theorem wm{i:Nat}{z:Zg}:∀{cs:Zb}{E E0:En},i∉cs->bE cs (E.set i none)=some E0->bE cs (E.set i z)=some (E0.set i z)
 |[],E,E0,_,h=>by have h:E.set i none=E0:=Option.some.inj h;show some _=some _;rw[<-h,List.set_set]
 |c::cs,E,E0,n,h=>by
  have nc:i≠c:=λe=>n (e▸U1);have ns:i∉cs:=λm=>n (U4 _ m);have ho:∀y:Zg,bR (E.set i y) c=bR E c:=λy=>by unfold bR;rw[XN nc]
  unfold bE at h⊢;rw[ho]at h⊢;split at h;{rename_i hc;rw[if_pos hc];rw[List.set_comm _ _ nc]at h⊢;exact wm ns h};cases h
theorem zD:∀{cs:Zb}{ds:ZU}{E E' E0:En},cs.Nodup->bE cs E=some E0->bE cs E'=some E0->cy cs ds E=cy cs ds E'
 |[],ds,E,E',E0,_,h,h'=>by have h:E=E0:=Option.some.inj h;have h':E'=E0:=Option.some.inj h';rw[h,h']
 |c::cs,[],E,E',E0,_,h,h'=>rfl
 |c::cs,d::ds,E,E',E0,nd,h,h'=>by have n1:=(VA.mp nd).1;unfold bE at h h';unfold cy;split at h;{rename_i hc;split at h';{rename_i hc';rw[if_pos hc,if_pos hc'];exact zD (VA.mp nd).2 (wm n1 h) (wm n1 h')};cases h'};cases h
def B0{cs:Zb}{ds:ZU}{E E' E0:En}(nd:kO cs=true)(h:bE cs E=some E0)(h':bE cs E'=some E0):cy cs ds E=cy cs ds E':=zD (g8 nd) h h'
def t6{tg:Tg}{cs:Zb}{d:PyData}{E E' E0:En}(hs:tg.slots=cs)(nd:kO cs=true)(h:bE cs E=some E0)(h':bE cs E'=some E0):cT tg d E=cT tg d E':=by
 subst hs;cases tg with
 |nm i=>exact B0 nd h h'
 |tp is=>
  cases d with
  |tuple ds=>exact B0 nd h h'
  |_=>rfl
theorem lu:∀{cs:Zb}{E E0:En},cs.Nodup->bE cs E=some E0->bE cs E0=some E0/\∀c∈cs,E0[c]?=some none
 |[],E,E0,_,h=>⟨rfl,λ_ z=>by cases z⟩
 |c::cs,E,E0,nd,h=>by
  have n1:=(VA.mp nd).1;have n2:=(VA.mp nd).2;unfold bE at h;split at h
  .rename_i hc;obtain⟨h1,h2⟩:=lu n2 h;have hlen:c<E.length:=by unfold bR at hc;rcases VV c E.length with z|z;{exact z};rw[VD z]at hc;cases hc
   have hcl:∀{cs:Zb}{E E0:En},c∉cs->bE cs E=some E0->E0[c]?=E[c]?:=by
    intro cs;induction cs with
    |nil=>intro E E0 _ h;cases h;rfl
    |cons a cs ih=>intro E E0 n h;unfold bE at h;split at h;{rw[ih (λm=>n (U4 _ m)) h,XN (λe=>n (by rw[e];exact U1))]};cases h
   have e0:E0[c]?=some none:=by rw[hcl n1 h,Xo hlen]
   refine⟨?_,λx hx=>?_⟩
   .unfold bE;rw[if_pos (by unfold bR;rw[e0])];have:E0.set c none=E0:=by
     refine Vu λj=>?_;by_cases e:c=j
     .subst e;have:c<E0.length:=by rcases VV c E0.length with z|z;{exact z};rw[VD z]at e0;cases e0
      rw[Xo this,e0]
     rw[XN e]
    rw[this];exact h1
   cases hx with
   |head=>exact e0
   |tail _ m=>exact h2 x m
  cases h
def cR{α:Type}{l:List α}{i:Nat}{a:α}(ha:l[i]?=some a):i<l.length:=by rcases VV i l.length with z|z;{exact z};rw[VD z]at ha;cases ha
def take_snoc{α:Type}{l:List α}{i:Nat}{a:α}(ha:l[i]?=some a):l.take (i+1)=l.take i++[a]:=by rw[List.take_add_one,ha];rfl
def PJ{α:Type}{l:List α}{enc:α->PyData}{cs:Zb}{tg:Tg}{e:DE}{most:Nat}{E1 E0:En}{Q:Ze}(g:α->PyData)(h0:bE cs E1=some E0)(h2:∀a,a∈l->∀I:En->PyData->Prop,(∀E4,bE cs E4=some E0->I E4 (g a))->∃E2,cT tg (enc a) E0=some E2/\e xF E2 (λE4 k v=>(∃p,k=.ow p)/\I E4 v))(h3:Q E0 (.dp false) (.list (l.map g)))(hl:l.length<=most)(hs:tg.slots=cs:=by rfl)(nd:kO cs=true:=by rfl):Ow most cs (l.map enc) tg eE e E1 Q:=by
 obtain⟨hc0,_⟩:=lu (g8 nd) h0;refine⟨E0,λi ys E=>ys=(l.take i).map g/\bE cs E=some E0,h0,⟨rfl,hc0⟩,?_,?_⟩
 .rintro i d ys E hd⟨rfl,hE⟩;rw[UK]at hd;obtain⟨a,ha,rfl⟩:=W7.mp hd;have hi:=cR ha;obtain⟨E2,hE2,hb⟩:=h2 a (V7 ha) (λE4 v=>((l.take i).map g).length<most/\((l.take i).map g++[v]=(l.take (i+1)).map g/\bE cs E4=some E0)) (λE4 hE4=>by
   refine⟨?_,?_,hE4⟩
   .rw[U7,Vf];lia
   .rw[take_snoc ha,V2];rfl)
  exact⟨E2,(t6 hs nd hE hc0).trans hE2,hb⟩
 rintro ys E⟨rfl,hE⟩;rw[U7,VS];exact⟨E0,hE,h3⟩
def mX{α:Type}{l:List α}{enc:α->PyData}{tg:Tg}{b:DS}{D:jl}{E1:En}(I:Nat->En->Prop)(h0:I 0 E1)(hs:∀i a E,l[i]?=some a->I i E->∃E2,cT tg (enc a) E=some E2/\b { D with nx:=I (i+1) } E2)(he:∀E,I l.length E->D.nx E):zV (l.map enc) tg b D E1:=by refine⟨I,h0,λi d E hd hi=>?_,by rw[U7];exact he⟩;rw[UK]at hd;obtain⟨a,ha,rfl⟩:=W7.mp hd;exact hs i a E ha hi
def KI{α:Type}{l:List α}{enc:α->PyData}{cs:Zb}{tg:Tg}{c:DT}{r:DC}{E1:En}{Q:Ze}(E0:En)(I:Nat->ZU->En->Prop)(h0:bE cs E1=some E0)(h1:I 0 [] E0)(hs:∀i a ys E,l[i]?=some a->I i ys E->∃E2,cT tg (enc a) E=some E2/\c xF E2 λE3 b=>if b=true then r xF ys E3 (I (i+1))else I (i+1) ys E3)(he:∀ys E,I l.length ys E->∃E2,bE cs E=some E2/\Q E2 (.ow false) (.list ys)):xE cs (l.map enc) tg c r E1 Q:=by refine⟨E0,I,h0,h1,λi d ys E hd hi=>?_,by rw[U7];exact he⟩;rw[UK]at hd;obtain⟨a,ha,rfl⟩:=W7.mp hd;exact hs i a ys E ha hi
def E7{n i k:Nat}(h:(List.range n)[i]?=some k):i<n/\k=i:=by have hi:=cR h;rw[UW]at hi;rw[VQ hi]at h;cases h;exact⟨hi,rfl⟩
def NI{n:Nat}{enc:Nat->PyData}{tg:Tg}{b:DS}{D:jl}{E1:En}(I:Nat->En->Prop)(h0:I 0 E1)(hs:∀i E,i<n->I i E->∃E2,cT tg (enc i) E=some E2/\b { D with nx:=I (i+1) } E2)(he:∀E,I n E->D.nx E):zV ((List.range n).map enc) tg b D E1:=
 mX I h0 (λi a E ha hi=>by obtain⟨l,rfl⟩:=E7 ha;exact hs a E l hi) (by rw[UW];exact he)
def CY{α:Type}{l:List α}{enc:α->PyData}{cs:Zb}{tg:Tg}{e:DE}{most:Nat}{E1 E0:En}{Q:Ze}(S:Zj)(g:α->PyData)(h0:bE cs E1=some E0)(hS:S E0)(h2:∀a,a∈l->∀E0',S E0'->∀I:En->PyData->Prop,(∀E4 E5,bE cs E4=some E5->S E5->I E4 (g a))->∃E2,cT tg (enc a) E0'=some E2/\e xF E2 (λE4 k v=>k.fz=true/\I E4 v))(h3:∀E0',S E0'->Q E0' (.ow false) (.list (l.map g)))(hl:l.length<=most)(hs:tg.slots=cs:=by rfl)(nd:kO cs=true:=by rfl):xE cs (l.map enc) tg eE (bY most e) E1 Q:=by
 obtain⟨hc0,_⟩:=lu (g8 nd) h0;refine⟨E0,λi ys E=>ys=(l.take i).map g/\∃E5,bE cs E=some E5/\S E5,h0,⟨rfl,E0,hc0,hS⟩,?_,?_⟩
 .rintro i d ys E hd⟨rfl,E5,hE,hS5⟩;rw[UK]at hd;obtain⟨a,ha,rfl⟩:=W7.mp hd;have hi:=cR ha;obtain⟨hc5,_⟩:=lu (g8 nd) hE;obtain⟨E2,hE2,hb⟩:=h2 a (V7 ha) E5 hS5 (λE4 v=>((l.take i).map g).length<most/\((l.take i).map g++[v]=(l.take (i+1)).map g/\∃E5,bE cs E4=some E5/\S E5)) (λE4 E6 hE4 hS6=>by
   refine⟨?_,?_,E6,hE4,hS6⟩
   .rw[U7,Vf];lia
   .rw[take_snoc ha,V2];rfl)
  exact⟨E2,(t6 hs nd hE hc5).trans hE2,hb⟩
 rintro ys E⟨rfl,E5,hE,hS5⟩;rw[U7,VS];exact⟨E5,hE,h3 E5 hS5⟩
def Np{α:Type}{l:List α}{enc:α->PyData}{cs:Zb}{tg:Tg}{c:DT}{e:DE}{most:Nat}{E1 E0:En}{Q:Ze}(S:Zj)(g:α->Option PyData)(h0:bE cs E1=some E0)(hS:S E0)(h2:∀a,a∈l->∀E0',S E0'->∀I:En->Option PyData->Prop,(∀E4 E5,bE cs E4=some E5->S E5->I E4 (g a))->∃E2,cT tg (enc a) E0'=some E2/\c xF E2 λE3 b=>if b=true then e xF E3 (λE4 k v=>k.fz=true/\I E4 (some v))else I E3 none)(h3:∀E0',S E0'->Q E0' (.ow false) (.list (l.filterMap g)))(hl:l.length<=most)(hs:tg.slots=cs:=by rfl)(nd:kO cs=true:=by rfl):xE cs (l.map enc) tg c (bY most e) E1 Q:=by
 obtain⟨hc0,_⟩:=lu (g8 nd) h0;refine⟨E0,λi ys E=>ys=(l.take i).filterMap g/\∃E5,bE cs E=some E5/\S E5,h0,⟨rfl,E0,hc0,hS⟩,?_,?_⟩
 .rintro i d ys E hd⟨rfl,E5,hE,hS5⟩;rw[UK]at hd;obtain⟨a,ha,rfl⟩:=W7.mp hd;have hi:=cR ha;obtain⟨hc5,_⟩:=lu (g8 nd) hE;have hlen:((l.take i).filterMap g).length<most:=by have:=List.length_filterMap_le g (l.take i);rw[Vf]at this;lia
  obtain⟨E2,hE2,hb⟩:=h2 a (V7 ha) E5 hS5 (λE4 o=>match o with
   |some v=>((l.take i).filterMap g).length<most/\((l.take i).filterMap g++[v]=(l.take (i+1)).filterMap g/\∃E5,bE cs E4=some E5/\S E5)
   |none=>(l.take i).filterMap g=(l.take (i+1)).filterMap g/\∃E5,bE cs E4=some E5/\S E5) (λE4 E6 hE4 hS6=>by
   cases hg:g a with
   |none=>
    refine⟨?_,E6,hE4,hS6⟩;rw[take_snoc ha,XW,VW,hg];exact(VF _).symm
   |some v=>
    refine⟨hlen,?_,E6,hE4,hS6⟩;rw[take_snoc ha,XW,VW,hg];rfl)
  exact⟨E2,(t6 hs nd hE hc5).trans hE2,hb⟩
 rintro ys E⟨rfl,E5,hE,hS5⟩;rw[U7,VS];exact⟨E5,hE,h3 E5 hS5⟩
def gg{α:Type}{l:List α}{enc:α->PyData}{cs:Zb}{tg:Tg}{e:DE}{most:Nat}{E1 E0:En}{Q:Ze}(g:α->PyData)(h0:bE cs E1=some E0)(h2:∀a,a∈l->∀I:En->PyData->Prop,(∀E4,bE cs E4=some E0->I E4 (g a))->∃E2,cT tg (enc a) E0=some E2/\e xF E2 (λE4 k v=>k.fz=true/\I E4 v))(h3:Q E0 (.ow false) (.list (l.map g)))(hl:l.length<=most)(hs:tg.slots=cs:=by rfl)(nd:kO cs=true:=by rfl):xE cs (l.map enc) tg eE (bY most e) E1 Q:=
 CY (·=E0) g h0 rfl (λa ha E0' e I hI=>by subst e;exact h2 a ha I λE4 h=>hI E4 _ h rfl) (λE0' e=>by subst e;exact h3) hl hs nd
def jb{α:Type}{l:List α}{enc:α->PyData}{cs:Zb}{tg:Tg}{c:DT}{e:DE}{most:Nat}{E1 E0:En}{Q:Ze}(g:α->Option PyData)(h0:bE cs E1=some E0)(h2:∀a,a∈l->∀I:En->Option PyData->Prop,(∀E4,bE cs E4=some E0->I E4 (g a))->∃E2,cT tg (enc a) E0=some E2/\c xF E2 λE3 b=>if b=true then e xF E3 (λE4 k v=>k.fz=true/\I E4 (some v))else I E3 none)(h3:Q E0 (.ow false) (.list (l.filterMap g)))(hl:l.length<=most)(hs:tg.slots=cs:=by rfl)(nd:kO cs=true:=by rfl):xE cs (l.map enc) tg c (bY most e) E1 Q:=
 Np (·=E0) g h0 rfl (λa ha E0' e I hI=>by subst e;exact h2 a ha I λE4 h=>hI E4 _ h rfl) (λE0' e=>by subst e;exact h3) hl hs nd
abbrev iD(n:Nat):PyData:=.int (n:Int)
abbrev nD(l:Zb):PyData:=.list (l.map iD)
abbrev ia(e:Nat×Nat):PyData:=.tuple [iD e.1,iD e.2]
abbrev wD(m:Nat)(es:ZP):PyData:=.tuple [iD m,.tuple (es.map ia)]
def Od{n:Nat}:kY 0 n=(List.range n).map iD:=by unfold kY;refine VT λi _=>?_;rw[Int.zero_add]
def QB{n:Nat}:kY 1 n=(List.range n).map λi=>iD (i+1):=by unfold kY;refine VT λi _=>?_;show PyData.int _=PyData.int _;congr 1;lia
def Ik{xs:ZU}{i:Nat}:fh xs (i:Int)=xs[i]?:=by unfold fh qc;rw[if_pos (by lia)];split;{exact rfl};rw[VD (by lia)];rfl
def Fe{n i:Nat}(h:i<n):lD n (i:Int)=some i:=by unfold lD;rw[if_pos (by lia),if_pos (by lia)];rfl
def xg{n i:Nat}{Q:Nat->Prop}(h:i<n)(q:Q i):aL (lD n (i:Int)) Q:=by rw[Fe h];exact q
def Au{α β:Type}{o:Option α}{f:α->β}{Q:β->Prop}:aL (o.map f) Q=aL o λa=>Q (f a):=by cases o<;>rfl
def rF{α:Type}{l:List α}{f:α->PyData}{i:Nat}{Q:PyData->Prop}:aL (fh (l.map f) (i:Int)) Q=aL l[i]? λa=>Q (f a):=by rw[Ik,UK,Au]
def Gm{α:Type}{l:List α}{f:α->PyData}{a:Nat}:cutD (l.map f) (some (a:Int)) none=(l.drop a).map f:=by unfold cutD;have e1:HT.aQ (l.map f).length 0 (some (a:Int))=min a (l.map f).length:=HT.sD _ _ a;have e2:HT.aQ (l.map f).length (l.map f).length none=(l.map f).length:=rfl;rw[e1,e2,U7,<-List.map_drop,<-YO];congr 1;rw[Xj (by rw[Wf];lia)];rcases XG a l.length with h|h;{rw[Wt h]};rw[Wu h,Xk,List.drop_of_length_le h]
def z5{α:Type}{l:List α}{f:α->PyData}{b:Nat}:cutD (l.map f) none (some (b:Int))=(l.take b).map f:=by unfold cutD;have e1:HT.aQ (l.map f).length (l.map f).length (some (b:Int))=min b (l.map f).length:=HT.sD _ _ b;have e2:HT.aQ (l.map f).length 0 none=0:=rfl;rw[e1,e2,U7,List.drop_zero,YC,<-YO];congr 1;rcases XG b l.length with h|h;{rw[Wt h]};rw[Wu h,VS,Xj h]
def Ai{α:Type}{l:List α}{f:α->PyData}{a b:Nat}:cutD (l.map f) (some (a:Int)) (some (b:Int))=((l.take b).drop a).map f:=by unfold cutD;have e1:HT.aQ (l.map f).length 0 (some (a:Int))=min a (l.map f).length:=HT.sD _ _ a;have e2:HT.aQ (l.map f).length (l.map f).length (some (b:Int))=min b (l.map f).length:=HT.sD _ _ b;rw[e1,e2,U7,<-List.map_drop,<-YO];congr 1;rw[List.drop_take];rcases XG a l.length with h|h;{rw[Wt h];rcases XG b l.length with g|g;{rw[Wt g]};rw[Wu g,Xj (by rw[Wf];lia),Xj (by rw[Wf];lia)]};rw[Wu h,Xk,List.drop_of_length_le h,List.take_nil,List.take_nil]
def uh{α:Type}{l:List α}{f:α->PyData}:j7 (l.map f)=l.zipIdx.map λp=>.tuple [iD p.2,f p.1]:=by unfold j7;rw[List.zipIdx_map,V1];rfl
theorem zip_map{α β:Type}{l:List α}{m:List β}{f:α->PyData}{g:β->PyData}:((l.map f).zip (m.map g)).map (λp=>PyData.tuple [p.1,p.2])=(l.zip m).map λp=>.tuple [f p.1,g p.2]:=by rw[List.zip_map,V1];rfl
def De{α:Type}{l:List α}{f:α->PyData}{Q:PyData->Prop}:aL (fh (l.map f) 0) Q=aL l[0]? λa=>Q (f a):=rF (i:=0)
def Dd{α:Type}{l:List α}{f:α->PyData}{Q:PyData->Prop}:aL (fh (l.map f) 1) Q=aL l[1]? λa=>Q (f a):=rF (i:=1)
def eX{α:Type}{o:Option α}{a:α}{Q:α->Prop}(h:o=some a)(q:Q a):aL o Q:=by rw[h];exact q
def Bd{a b:Nat}:(a:Int)%(b:Int)=((a%b:Nat):Int):=(Int.natCast_emod a b).symm
def Ah{a b:Nat}:(a:Int)/(b:Int)=((a/b:Nat):Int):=(Int.natCast_ediv a b).symm
def C4{a b:Nat}:((a:Int)<(b:Int))=(a<b):=propext Ww
def CQ{a b:Nat}:((a:Int)<=(b:Int))=(a<=b):=propext Int.ofNat_le
def cast_eq{a b:Nat}:((a:Int)=(b:Int))=(a=b):=propext Int.ofNat_inj
def cast_pos{a:Nat}:((0:Int)<(a:Int))=(0<a):=propext Int.natCast_pos
def KL{a b:Nat}:(if b<a then(b:Int)else(a:Int))=((min a b:Nat):Int):=by split<;>lia
def KU{a b:Nat}:(if a<b then(b:Int)else(a:Int))=((max a b:Nat):Int):=by split<;>lia
def K1{a b:Nat}:(if b>a then(b:Int)else(a:Int))=((max a b:Nat):Int):=by split<;>lia
def vO{ds:ZU}:lf (.tuple ds)=ds.all lf:=vW ds
def C6{p:Bool}{ds:ZU}:flat (.ow p) (.list ds)=ds.all lf:=rfl
def uH{α β:Type}{l:List α}{f:α->β}{p:β->Bool}:(l.map f).all p=l.all λa=>p (f a):=by rw[Wq];rfl
def Ie{α:Type}{l:List α}:(l.all λ_=>true)=true:=by rw[US];exact λ_ _=>rfl
def EI{n:Nat}:lf (iD n)=true:=rfl
def zP{e:Nat×Nat}:lf (ia e)=true:=rfl
def Ky{m:Nat}{es:ZP}:lf (wD m es)=true:=by rw[vO];show(lf (iD m)&&(lf (.tuple (es.map ia))&&true))=true;rw[vO,uH];simp[EI,zP]
def SG:type_of%@vO/\type_of%@C6/\type_of%@uH/\type_of%@Ie/\type_of%@EI/\type_of%@zP/\type_of%@Ky/\(decide True=true)/\(∀{ds:ZU},lf (.list ds)=false)/\(∀{α:Type}{l m:List α}{p:α->Bool},(l++m).all p=(l.all p&&m.all p)):=⟨@vO,@C6,@uH,@Ie,@EI,@zP,@Ky,rfl,rfl,(by intros;exact List.all_append)⟩
def dz:(type_of%SG)/\type_of%@Od/\type_of%@QB/\type_of%@rF/\type_of%@De/\type_of%@Dd/\type_of%@Au/\type_of%@Gm/\type_of%@z5/\type_of%@Ai/\type_of%@uh/\type_of%@zip_map/\type_of%@Bd/\type_of%@Ah/\type_of%@C4/\type_of%@CQ/\type_of%@cast_eq/\type_of%@cast_pos/\type_of%@bS/\type_of%@KL/\type_of%@KU/\type_of%@K1 /\
 (∀{α β:Type}{f:α->β}{l:List α},(l.map f).length=l.length)/\(∀{n:Nat},(List.range n).length=n)/\(∀{n:Nat},(n:Int).toNat=n):=
 ⟨SG,@Od,@QB,@rF,@De,@Dd,@Au,@Gm,@z5,@Ai,@uh,@zip_map,@Bd,@Ah,@C4,@CQ,@cast_eq,@cast_pos,@bS,@KL,@KU,@K1,(by intros;exact U7 ..),(by intros;exact UW),(by intros;exact Wy _)⟩
def sW{α β:Type}(f:α->β){l:List α}:∀{m:List β},m.Perm (l.map f)->∃l':List α,l'.Perm l/\m=l'.map f:=by
 have:∀{a b:List β},a.Perm b->∀l:List α,b=l.map f->∃l':List α,l'.Perm l/\a=l'.map f:=by
  intro a b h;induction h with
  |nil=>intro l e;exact⟨l,.refl _,e⟩
  |cons x _ ih=>
   intro l e;cases l with
   |nil=>cases e
   |cons y l=>rw[UI,Wr]at e;obtain⟨l',p,e'⟩:=ih l e.2;exact⟨y::l',p.cons _,by rw[e.1,e',UI]⟩
  |swap x y z=>
   intro l e
   match l,e with
   |[],e=>cases e
   |[_],e=>rw[UI,Wr]at e;cases e.2
   |u::v::l,e=>rw[UI,UI,Wr,Wr]at e;exact⟨v::u::l,List.Perm.swap _ _ _,by rw[UI,UI,e.1,e.2.1,e.2.2]⟩
  |trans _ _ ih1 ih2=>intro l e;obtain⟨l1,p1,e1⟩:=ih2 l e;obtain⟨l2,p2,e2⟩:=ih1 l1 e1;exact⟨l2,p2.trans p1,e2⟩
 intro m h;exact this h l rfl
def CN{ns:Zb}{P:Zh}(h:ns.length<64)(q:∀ms:Zb,ms.Perm ns->ms.Pairwise (·<=·)->P (.ow false) (nD ms)):qS [nD ns] P:=by refine⟨ns.map (λn:Nat=>(n:Int)),by rw[V1];rfl,by rw[U7];exact h,λms p s=>?_⟩;obtain⟨l,hl,rfl⟩:=sW _ p;rw[WC]at s;have:=q l hl (List.Pairwise.imp (S:=(·<=·)) (λ{a b} h=>by lia) s);rw[V1];exact this
def Mx{ps:ZP}{P:Zh}(h:ps.length<=63)(q:∀qs:ZP,qs.Perm ps->P (.ow false) (.list (qs.map ia))):vf [.list (ps.map ia)] P:=by refine⟨ps.map (λe:Nat×Nat=>((e.1:Int),(e.2:Int))),by rw[V1];rfl,by rw[U7];exact h,λms p=>?_⟩;obtain⟨l,hl,rfl⟩:=sW _ p;have:=q l hl;rw[V1];exact this
theorem K2:∀{ns:Zb},(ns.map (λn:Nat=>(n:Int))).sum=((ns.sum:Nat):Int)
 |[]=>rfl
 |n::ns=>by rw[UI,VN,VN,K2,Int.natCast_add]
def NW{ns:Zb}{P:Zh}(q:P .sh (iD ns.sum)):Es [nD ns] P:=⟨ns.map (λn:Nat=>(n:Int)),by rw[V1];rfl,by rw[K2];exact q⟩
def PX{bs:ZY}{P:Zh}(q:P .sh (.bool (bs.any id))):EO [.list (bs.map .bool)] P:=⟨bs,rfl,q⟩
def Fd{bs:ZY}{P:Zh}(q:P .sh (.bool (bs.all id))):zA [.list (bs.map .bool)] P:=⟨bs,rfl,q⟩
def EY{a b:Nat}:iD a=iD b↔a=b:=⟨λh=>by cases h;rfl,λh=>by rw[h]⟩
theorem map_inj{α β:Type}{f:α->β}(h:∀a b,f a=f b->a=b):∀{l m:List α},l.map f=m.map f->l=m
 |[],[],_=>rfl
 |[],_::_,e=>by cases e
 |_::_,[],e=>by cases e
 |a::l,b::m,e=>by rw[UI,UI,Wr]at e;rw[h _ _ e.1,map_inj h e.2]
end Dv
namespace Gr
inductive R(E:Nat->Nat->Prop) (p:Nat):Nat->Nat->Prop
 |zero:R E p 0 p
 |step {d x y:Nat}:R E p d x->E x y->R E p (d+1) y
def oN(E:Nat->Nat->Prop) (p x d:Nat):Prop:=R E p d x/\∀e,e<d->¬R E p e x
section
variable{E:Nat->Nat->Prop}{p:Nat}
def oN.eq{x d e:Nat}(h:oN E p x d)(g:oN E p x e):d=e:=by rcases Wn d e with l|l|l;{exact absurd h.1 (g.2 d l)};{exact l};exact absurd g.1 (h.2 e l)
theorem Ic:∀(n:Nat){x d:Nat},d<=n->R E p d x->∃e,e<=d/\oN E p x e
 |0,x,d,l,h=>by
  obtain rfl:d=0:=by lia
  exact⟨0,U5 _,h,λe he=>absurd he (W0 e)⟩
 |n+1,x,d,l,h=>by by_cases c:∃e,e<d/\R E p e x;{obtain⟨e,he,hr⟩:=c;obtain⟨e',h1,h2⟩:=Ic n (show e<=n by lia) hr;exact⟨e',by lia,h2⟩};exact⟨d,U5 _,h,λe he hr=>c ⟨e,he,hr⟩⟩
open Classical in
def dst(E:Nat->Nat->Prop) (p x:Nat):Nat:=if h:∃d,oN E p x d then Classical.choose h else 0
def uY{x d:Nat}(h:oN E p x d):dst E p x=d:=by have h':∃d,oN E p x d:=⟨d,h⟩;unfold dst;rw[dif_pos h'];exact(Classical.choose_spec h').eq h
def Qm{x d:Nat}(h:R E p d x):oN E p x (dst E p x):=by obtain⟨e,_,g⟩:=Ic d (U5 _) h;rw[uY g];exact g
def R.trans{q:Nat}{d e x:Nat}(h:R E p d q)(g:R E q e x):R E p (d+e) x:=by
 induction g with
 |zero=>exact h
 |step _ s ih=>exact ih.step s
def R.head{q d x:Nat}(h:E p q)(g:R E q d x):R E p (1+d) x:=R.trans (R.step .zero h) g
def R.symm(sy:∀x y,E x y->E y x){d x:Nat}(h:R E p d x):R E x d p:=by
 induction h with
 |zero=>exact .zero
 |step _ s ih=>have:=R.head (sy _ _ s) ih;rwa[Nat.add_comm]at this
structure oR(E:Nat->Nat->Prop) (p r:Nat)(f:Nat->Option Nat)(d9:Zb):Prop where
 sound:∀x d,f x=some d->oN E p x d
 upto:∀x d,d<=r->R E p d x->∃e,f x=some e
 low:∀x d,f x=some d->d<=r
 d9:∀x,x∈d9↔f x=some r
structure g9(E:Nat->Nat->Prop) (r:Nat)(f:Nat->Option Nat)(d9:Zb)(g:Nat->Option Nat)(reached:Zb):Prop where
 ext:∀x d,f x=some d->g x=some d
 new:∀x d,g x=some d->f x=some d\/(f x=none/\d=r+1/\∃h,h∈d9/\E h x)
 got:∀x,x∈reached↔(f x=none/\g x=some (r+1))
def oR.start:oR E p 0 (λx=>if x=p then some 0 else none) [p]:=by
 refine⟨λx d h=>?_,λx d l h=>?_,λx d h=>?_,λx=>?_⟩;{by_cases c:x=p;{rw[if_pos c]at h;cases h;rw[c];exact⟨.zero,λe he=>absurd he (W0 e)⟩};rw[if_neg c]at h;cases h}
 .obtain rfl:d=0:=by lia
  cases h;exact⟨0,if_pos rfl⟩
 .by_cases c:x=p;{rw[if_pos c]at h;cases h;exact U5 _};rw[if_neg c]at h;cases h
 rw[U8];constructor;{intro e;exact if_pos e};intro h;by_cases c:x=p;{exact c};rw[if_neg c]at h;cases h
def g9.start{r:Nat}{f:Nat->Option Nat}:g9 E r f d9 f []:=by refine⟨λx d h=>h,λx d h=>.inl h,λx=>?_⟩;constructor;{intro h;cases h};rintro⟨h1,h2⟩;rw[h1]at h2;cases h2
def g9.put{r:Nat}{f g:Nat->Option Nat}{h y:Nat}(B:g9 E r f d9 g reached)(he:h∈d9)(hy:E h y)(n:g y=none):g9 E r f d9 (λx=>if x=y then some (r+1)else g x) (reached++[y]):=by
 have fy:f y=none:=by
  cases e:f y with
  |none=>rfl
  |some d=>rw[B.ext y d e]at n;cases n
 refine⟨λx d e=>?_,λx d e=>?_,λx=>?_⟩;{by_cases c:x=y;{rw[c,fy]at e;cases e};show(if x=y then _ else _)=_;rw[if_neg c];exact B.ext x d e};{by_cases c:x=y;{rw[if_pos c]at e;cases e;rw[c];exact .inr ⟨fy,rfl,h,he,hy⟩};rw[if_neg c]at e;exact B.new x d e};rw[UE,U8,B.got x];constructor;{rintro (⟨h1,h2⟩|rfl);{refine⟨h1,?_⟩;by_cases c:x=y;{exact if_pos c};show(if x=y then _ else _)=_;rw[if_neg c];exact h2};exact⟨fy,if_pos rfl⟩};rintro⟨h1,h2⟩;by_cases c:x=y;{exact .inr c};rw[if_neg c]at h2;exact .inl ⟨h1,h2⟩
theorem g9.none{r:Nat}{f g:Nat->Option Nat}(B:g9 E r f d9 g reached){x:Nat}(h:g x=.none):f x=.none:=by
 cases e:f x with
 |none=>rfl
 |some d=>rw[B.ext x d e]at h;cases h
def g9.at{r:Nat}{f g:Nat->Option Nat}(B:g9 E r f d9 g reached)(A:oR E p r f d9){h:Nat}(he:h∈d9):g h=some r:=B.ext h r ((A.d9 h).mp he)
def oR.next{r:Nat}{f g:Nat->Option Nat}{d9 reached:Zb}(A:oR E p r f d9)(B:g9 E r f d9 g reached)(all:∀h,h∈d9->∀x,E h x->g x≠none):oR E p (r+1) g reached:=by
 refine⟨λx d e=>?_,λx d l h=>?_,λx d e=>?_,λx=>?_⟩;{rcases B.new x d e with h|⟨h1,rfl,h,he,hx⟩;{exact A.sound x d h};have rh:=(A.sound h r ((A.d9 h).mp he)).1;refine⟨rh.step hx,λe he hr=>?_⟩;obtain⟨d,hd⟩:=A.upto x e (by lia) hr;rw[h1]at hd;cases hd}
 .by_cases c:d<=r;{obtain⟨e,he⟩:=A.upto x d c h;exact⟨e,B.ext x e he⟩};obtain rfl:d=r+1:=by lia
  cases h with
  |@step _ y _ hy hyx=>
   obtain⟨e,he⟩:=A.upto y r (U5 _) hy;have el:=A.low y e he;by_cases ce:e=r
   .have:=all y ((A.d9 y).mpr (ce▸he)) x hyx;cases e':g x with
    |none=>exact absurd e' this
    |some d=>exact⟨d,rfl⟩
   obtain⟨e',he'⟩:=A.upto x (e+1) (by lia) ((A.sound y e he).1.step hyx);exact⟨e',B.ext x e' he'⟩
 .rcases B.new x d e with h|⟨_,rfl,_⟩;{have:=A.low x d h;lia};exact U5 _
 rw[B.got x];constructor;{exact λh=>h.2};intro h;refine⟨?_,h⟩;rcases B.new x (r+1) h with h'|⟨h',_⟩;{have:=A.low x _ h';lia};exact h'
def oR.done{r:Nat}{f:Nat->Option Nat}(A:oR E p r f []):∀{d x:Nat},R E p d x->∃e,f x=some e:=by
 intro d x h;induction h with
 |zero=>exact A.upto p 0 (V3 _) .zero
 |@step d x y _ hxy ih=>
  obtain⟨e,he⟩:=ih;have el:=A.low x e he;have ne:e≠r:=λc=>by have:=(A.d9 x).mpr (c▸he);cases this
  exact A.upto y (e+1) (by lia) ((A.sound x e he).1.step hxy)
def oR.val{r:Nat}{f:Nat->Option Nat}(A:oR E p r f []){x d:Nat}(h:R E p d x):f x=some (dst E p x):=by obtain⟨e,he⟩:=A.done h;rw[he,uY (A.sound x e he)]
end
def cnt(f:Nat->Option Nat):Nat->Nat
 |0=>0
 |m+1=>cnt f m+(if f m=none then 1 else 0)
theorem zY{f g:Nat->Option Nat}(h:∀x,g x=none->f x=none):∀m,cnt g m<=cnt f m
 |0=>U5 _
 |m+1=>by have:=zY h m;unfold cnt;by_cases c:g m=none;{rw[if_pos c,if_pos (h m c)];lia};rw[if_neg c];lia
theorem Gn{f g:Nat->Option Nat}(h:∀x,g x=none->f x=none){y:Nat}(fy:f y=none)(gy:g y≠none):∀m,y<m->cnt g m<cnt f m
 |0,l=>absurd l (W0 _)
 |m+1,l=>by unfold cnt;by_cases c:y=m;{have:=zY h m;rw[<-c,if_neg gy,if_pos fy,c];lia};have:=Gn h fy gy m (by lia);by_cases c:g m=none;{rw[if_pos c,if_pos (h m c)];lia};rw[if_neg c];lia
def aB(es:ZP) (x y:Nat):Prop:=(x,y)∈es\/(y,x)∈es
def cN(x y:Nat)(h:aB es x y):aB es y x:=h.elim .inr .inl
def c8(m:Nat)(es:ZP):Prop:=∀p,p<m->∀x,x<m->∃d,R (aB es) p d x
def LM{m:Nat}(h:∀k,0<k->k<m->∃p,p<k/\(p,k)∈es):c8 m es:=by
 have z:∀n x,x<n->x<m->∃d,R (aB es) x d 0:=by
  intro n;induction n with
  |zero=>exact λx h _=>absurd h (W0 _)
  |succ n ih=>intro x hx hm;by_cases c:x=0;{rw[c];exact⟨0,.zero⟩};obtain⟨q,hq,he⟩:=h x (by lia) hm;obtain⟨d,hd⟩:=ih q (by lia) (by lia);exact⟨1+d,R.head (.inr he) hd⟩
 intro p hp x hx;obtain⟨d,hd⟩:=z (p+1) p (by lia) hp;obtain⟨e,he⟩:=z (x+1) x (by lia) hx;exact⟨d+e,hd.trans (he.symm cN)⟩
def Ae{m:Nat}{nm:Nat->Nat}(h:c8 m es)(onto:∀x,x<m->∃a,a<m/\nm a=x)(e:∀a b,(a,b)∈es->aB fs (nm a) (nm b)):c8 m fs:=by
 intro p hp x hx;obtain⟨a,ha,rfl⟩:=onto p hp;obtain⟨b,hb,rfl⟩:=onto x hx;obtain⟨d,hd⟩:=h a ha b hb;have go:∀{d b:Nat},R (aB es) a d b->R (aB fs) (nm a) d (nm b):=by
  intro d b hd;induction hd with
  |zero=>exact .zero
  |step _ s ih=>refine R.step ih ?_;rcases s with s|s;{exact e _ _ s};exact cN _ _ (e _ _ s)
 exact⟨d,go hd⟩
theorem eV:∀(m:Nat)(l:Zb),l.Nodup->(∀x∈l,x<m)->l.length<=m
 |0,[],_,_=>U5 _
 |0,x::_,_,h=>absurd (h x (U1 ..)) (W0 _)
 |m+1,l,nd,h=>by
  have h1:(l.erase m).length<=m:=eV m (l.erase m) (nd.sublist (List.erase_sublist ..)) λx hx=>by have:=(nd.mem_erase_iff.mp hx);have:=h x this.2;lia
  have h2:l.length<=(l.erase m).length+1:=by rw[List.length_erase];split<;>lia
  lia
def nb(x:Nat)(e:Nat×Nat):Option Nat:=if e.1=x then some e.2 else if e.2=x then some e.1 else none
def cM(es:ZP) (x:Nat):Zb:=es.filterMap (nb x)
def wj{x y:Nat}(h:nb x e=some y):e=(x,y)\/e=(y,x):=by obtain⟨a,b⟩:=e;unfold nb at h;by_cases c:a=x;{rw[if_pos c]at h;cases h;rw[c];exact .inl rfl};rw[if_neg c]at h;by_cases c2:b=x;{rw[if_pos c2]at h;cases h;rw[c2];exact .inr rfl};rw[if_neg c2]at h;cases h
def bH{x y:Nat}:y∈cM es x↔aB es x y:=by unfold cM;rw[Xr];constructor;{rintro⟨e,he,h⟩;rcases wj h with rfl|rfl;{exact .inl he};exact .inr he};rintro (h|h);{exact⟨_,h,if_pos rfl⟩};refine⟨_,h,?_⟩;show(if y=x then some x else if x=x then some y else none)=some y;by_cases c:y=x;{rw[if_pos c,c]};rw[if_neg c,if_pos rfl]
def LU{x:Nat}:cM (es++fs) x=cM es x++cM fs x:=XW ..
structure Good(m:Nat)(es:ZP):Prop where
 lt:∀e∈es,e.1<e.2/\e.2<m
 nd:es.Nodup
def Good.bX{m:Nat}(g:Good m es){x y:Nat}(h:aB es x y):x<m/\y<m:=by rcases h with h|h;{have:x<y/\y<m:=g.lt _ h;lia};have:y<x/\x<m:=g.lt _ h;lia
def Good.fP{m:Nat}(g:Good m es) (x:Nat):(cM es x).Nodup:=by unfold cM List.Nodup;rw[List.pairwise_filterMap];refine WZ ?_ g.nd;intro a b ha hb ne y hy z hz e;subst e;rcases wj hy with rfl|rfl<;>rcases wj hz with rfl|rfl;{exact ne rfl};{have h1:x<y/\y<m:=g.lt _ ha;have h2:y<x/\x<m:=g.lt _ hb;lia};{have h1:y<x/\x<m:=g.lt _ ha;have h2:x<y/\y<m:=g.lt _ hb;lia};exact ne rfl
def Good.oK{m:Nat}(g:Good m es) (x:Nat):(cM es x).length<=m:=eV m _ (g.fP x) λy hy=>(g.bX (bH.mp hy)).2
def Good.perm{m:Nat}(p:fs.Perm es)(g:Good m es):Good m fs:=⟨λe h=>g.lt e (p.mem_iff.mp h),p.nodup_iff.mpr g.nd⟩
def HC{m:Nat}(p:fs.Perm es)(h:c8 m es):c8 m fs:=Ae (nm:=id) h (λx hx=>⟨x,hx,rfl⟩) λa b h=>.inl (p.mem_iff.mpr h)
def yb(ms:Zb)(e:Nat×Nat):Nat×Nat:=(min (ms.getD e.1 0) (ms.getD e.2 0),max (ms.getD e.1 0) (ms.getD e.2 0))
def getD_inj{ms:Zb}(nd:ms.Nodup){a b:Nat}(ha:a<ms.length)(hb:b<ms.length)(e:ms.getD a 0=ms.getD b 0):a=b:=by rw[VJ,VJ,V0 ha,V0 hb]at e;have e':ms[a]=ms[b]:=e;rcases Wn a b with l|l|l;{exact absurd e' (WM.mp nd a b ha hb l)};{exact l};exact absurd e'.symm (WM.mp nd b a hb ha l)
def Dq{m:Nat}{ps:ZP}{ms:Zb}(pm:ms.Perm (List.range m))(g:Good m ps):Good m (ps.map (yb ms)):=by
 have nd:ms.Nodup:=pm.nodup_iff.mpr Vh;have ln:ms.length=m:=by rw[pm.length_eq,UW]
 have lt:∀a,a<m->ms.getD a 0<m:=λa ha=>by
  have h:a<ms.length:=by lia
  rw[VJ,V0 h];exact UX.mp (pm.mem_iff.mp (W3 h))
 refine⟨λe he=>?_,?_⟩
 .obtain⟨⟨a,b⟩,hp,rfl⟩:=U9.mp he;have h:a<b/\b<m:=g.lt _ hp;have h1:=lt a (by lia);have h2:=lt b (by lia);have ne:ms.getD a 0≠ms.getD b 0:=λe=>by have:=getD_inj nd (by lia) (by lia) e;lia
  show min (ms.getD a 0) (ms.getD b 0)<max (ms.getD a 0) (ms.getD b 0)/\max (ms.getD a 0) (ms.getD b 0)<m;lia
 refine YQ _ ?_ (WZ (S:=λx y=>x≠y/\(x.1<x.2/\x.2<m)/\(y.1<y.2/\y.2<m)) (λ{a b} ha hb h=>⟨h,g.lt _ ha,g.lt _ hb⟩) g.nd);rintro⟨a,b⟩⟨c,d⟩⟨ne,h1,h2⟩e;have h1:a<b/\b<m:=h1;have h2:c<d/\d<m:=h2;have e1:min (ms.getD a 0) (ms.getD b 0)=min (ms.getD c 0) (ms.getD d 0):=congrArg Prod.fst e;have e2:max (ms.getD a 0) (ms.getD b 0)=max (ms.getD c 0) (ms.getD d 0):=congrArg Prod.snd e;have e3:(ms.getD a 0=ms.getD c 0/\ms.getD b 0=ms.getD d 0)\/(ms.getD a 0=ms.getD d 0/\ms.getD b 0=ms.getD c 0):=by lia
 rcases e3 with⟨p,q⟩|⟨p,q⟩;{have r1:=getD_inj nd (by lia) (by lia) p;have r2:=getD_inj nd (by lia) (by lia) q;subst r1;subst r2;exact ne rfl};have r1:=getD_inj nd (by lia) (by lia) p;have r2:=getD_inj nd (by lia) (by lia) q;lia
def EH{m:Nat}(pm:ms.Perm (List.range m))(h:c8 m ps):c8 m (ps.map (yb ms)):=by refine Ae (nm:=λa=>ms.getD a 0) h (λx hx=>?_) λa b he=>?_;{obtain⟨i,hi⟩:=W2 (pm.mem_iff.mpr (UX.mpr hx));have li:=(VE.mp hi).1;rw[pm.length_eq,UW]at li;refine⟨i,li,?_⟩;show ms.getD i 0=x;rw[VJ,hi];rfl};have hm:yb ms (a,b)∈ps.map (yb ms):=U9.mpr ⟨_,he,rfl⟩;show aB _ (ms.getD a 0) (ms.getD b 0);have e:yb ms (a,b)=(min (ms.getD a 0) (ms.getD b 0),max (ms.getD a 0) (ms.getD b 0)):=rfl;rw[e]at hm;rcases XG (ms.getD a 0) (ms.getD b 0)with l|l;{rw[Wt l,Yz l]at hm;exact .inl hm};rw[Wu l,Nat.max_eq_left l]at hm;exact .inr hm
section
variable{E:Nat->Nat->Prop}{p:Nat}
def oN.pred{x d:Nat}(h:oN E p x (d+1)):∃y,oN E p y d/\E y x:=by
 obtain⟨h1,h2⟩:=h;cases h1 with
 |@step _ y _ hy hyx=>refine⟨y,⟨hy,λe he hr=>?_⟩,hyx⟩;exact h2 (e+1) (by lia) (hr.step hyx)
end
def fD:Nat->Nat
 |0=>0
 |b+1=>fD b+b
def y9{a b:Nat}(h:a<=b):fD a<=fD b:=by
 induction b with
 |zero=>
  obtain rfl:a=0:=by lia
  exact U5 _
 |succ b ih=>by_cases c:a=b+1;{rw[c];exact U5 _};exact V4 (ih (by lia)) (WB _ _)
theorem CM:∀m,2*fD m<=m*m
 |0=>U5 _
 |m+1=>by have:=CM m;show 2*(fD m+m)<=(m+1)*(m+1);rw[Nat.mul_add,Nat.add_mul,Nat.mul_add];lia
def ix(e:Nat×Nat):Nat:=fD e.2+e.1
def NJ(he:e.1<e.2)(hf:f.1<f.2)(h:ix e=ix f):e=f:=by
 obtain⟨a,b⟩:=e;obtain⟨c,d⟩:=f;unfold ix at h;dsimp only at he hf h;have key:∀{a b c d:Nat},a<b->b<d->fD b+a<fD d+c:=λ{a b c d} h1 h2=>by have:=y9 (a:=b+1) (b:=d) (by lia);have e:fD (b+1)=fD b+b:=rfl;lia
 rcases Wn b d with l|l|l;{have:=key (c:=c) he l;lia};{subst l;rw[show a=c by lia]};have:=key (c:=a) hf l;lia
def JU{m:Nat}(g:Good m ps):2*ps.length<=m*m:=by have h:=eV (fD m) (ps.map ix) ?_ ?_;{rw[U7]at h;have:=CM m;lia};{unfold List.Nodup;rw[WC];exact WZ (λ{e f} he hf ne h=>ne (NJ (g.lt e he).1 (g.lt f hf).1 h)) g.nd};intro x hx;obtain⟨e,he,rfl⟩:=U9.mp hx;have l:=g.lt e he;have:=y9 (a:=e.2+1) (b:=m) (by lia);have e2:fD (e.2+1)=fD e.2+e.2:=rfl;unfold ix;lia
end Gr
local macro_rules | `(tactic| bv_omega) => do let ls ← (List.range 216).toArray.mapM fun k => `(Lean.Parser.Tactic.simpLemma| $(Lean.mkIdent (.str `Dv s!"rr{k}")):ident); `(tactic| dsimp only[$ls,*, Dv.dyr0, Dv.dyr1, Dv.dyr2, Dv.dyr3, Nat.reduceBEq])
local macro_rules | `(tactic| rfl') => `(tactic| ((try bv_omega); try simp only[Dv.dv, Dv.dw, Dv.dx, Dv.dy, Dv.dz, Nat.reduceBEq]))
local macro_rules | `(tactic| simp![$xs,*]) => `(tactic| ((try bv_omega); try simp only[Dv.dv, Dv.dw, Dv.dx, Dv.dy, Dv.dz, Nat.reduceBEq, $xs,*]))
namespace PB
open PySem L2 Dv
def CS{α:Type}{m k:Nat}{f:Nat->α}{v:α}:((List.range m).map f).set k v=(List.range m).map λi=>if i=k then v else f i:=by refine Vu λj=>?_;rw[Wv,U7,UW,UK,UK];by_cases h:j<m;{rw[VQ h];by_cases c:k=j;{subst c;rw[if_pos rfl,if_pos h];simp};rw[if_neg c];simp[Ne.symm c]};rw[VD (by rw[UW];lia)];by_cases c:k=j;{subst c;rw[if_pos rfl,if_neg h];rfl};rw[if_neg c];rfl
def M7{α:Type}{m k:Nat}{f:Nat->α}(h:k<m):((List.range m).map f)[k]?=some (f k):=by rw[UK,VQ h];rfl
def Sl(f:DM) (i n:Nat)(E1:En)(w:PyData)(Q:Ze):Prop:=∃a p ds m es k d E2,w=.int a/\E1[i]?=some (some (.dp p,.list ds))/\lD ds.length a=some m/\ds[m]?=some (.list es)/\E1[n]?=some (some (k,d))/\i≠n/\dm E1 n=some E2/\f es [d] λnew v=>Q (E2.set i (some (.dp p,.list (ds.set m (.list new))))) .sh v
def FG{i n:Nat}:Ax f i j n x (o::E) Q=(here (o::E) i=true/\j x (o::E) λE1 _ w=>Sl f i n E1 w Q):=rfl
def EZ{i n a m:Nat}{p:Bool}{E:En}{g:Nat->ZU}{Q:Ze}(h1:E[i]?=some (some (.dp p,.list ((List.range m).map λi=>.list (g i)))))(h2:E[n]?=some (some (.sh,d)))(ne:i≠n)(ha:a<m)(hs:(g a).length<16777216)(q:Q (E.set i (some (.dp p,.list ((List.range m).map λk=>.list (if k=a then g k++[d]else g k))))) .sh .none):Sl eO i n E (iD a) Q:=by
 refine⟨a,p,_,a,g a,.sh,d,E,rfl,h1,?_,M7 ha,h2,ne,?_,?_⟩;{rw[U7,UW];exact Fe ha}
 .have:=Ao (E:=E) (is:=[n]) (by simp[kH,h2]);unfold eY at this;cases e:dm E n with
  |none=>rw[e]at this;cases this
  |some E2=>rw[e]at this;exact this
 refine⟨hs,?_⟩;show Q (E.set i (some (.dp p,.list (((List.range m).map λi=>PyData.list (g i)).set a (.list (g a++[d])))))) .sh .none;rw[CS];have e:((List.range m).map λk=>if k=a then PyData.list (g a++[d])else .list (g k))=(List.range m).map λk=>PyData.list (if k=a then g k++[d]else g k):=by refine VT λk _=>?_;by_cases c:k=a;{rw[if_pos c,if_pos c,c]};rw[if_neg c,if_neg c]
 rw[e];exact q
abbrev vJ(m:Nat)(es:ZP):PyData:=.list ((List.range m).map λi=>nD (Gr.cM es i))
def rJ:bq:=λds Q x=>∃m es,ds=[wD m es]/\m<=60/\Gr.Good m es/\Q [] (.dp false) (vJ m es)
def OX:∀ds Q x,rJ ds Q x->iz (aX [false] Q x) (ini [false] ds++List.replicate 6 none):=by
 rintro _ Q x⟨m,es,rfl,hm,gd,q⟩;unfold iz;rfl';rw[if_pos (by lia)];refine eX rfl (PJ (λ_=>PyData.list []) rfl (λa ha I hI=>?_) ?_ (by rw[UW];lia));{rfl';exact⟨by lia,⟨false,rfl⟩,hI _ rfl⟩};rfl';refine mX (λi E=>∃o4 o5:Zg,E=[some (.sh,wD m es),some (.sh,iD m),some (.sh,.tuple (es.map ia)),some (.dp false,vJ m (es.take i)),o4,o5,none]/\cg o4=true/\cg o5=true) ⟨none,none,rfl,rfl,rfl⟩ ?_ ?_
 .rintro i⟨a,b⟩_ hi⟨o4,o5,rfl,ho4,ho5⟩;have hab:=gd.lt _ (V7 hi);have hab:a<b/\b<m:=hab;simp![ho4,ho5,FG];have hn:∀k,(Gr.cM (es.take i) k).length<1000:=λk=>by have g2:Gr.Good m (es.take i):=⟨λe he=>gd.lt e (Z0 he),Vi (Ye _ _) gd.nd⟩;have:=g2.oK k;lia
  refine EZ (g:=λk=>(Gr.cM (es.take i) k).map iD) rfl rfl (by lia) (by lia) (by rw[U7];have:=hn a;lia) ?_;simp![ho4,ho5,FG];refine EZ (g:=λk=>if k=a then(Gr.cM (es.take i) k).map iD++[iD b]else(Gr.cM (es.take i) k).map iD) rfl rfl (by lia) (by lia) (by rw[if_neg (by lia),U7];have:=hn b;lia) ?_;refine⟨some (.sh,iD a),some (.sh,iD b),?_,rfl,rfl⟩;simp only[List.set_cons_succ,List.set_cons_zero];have e:∀k,(if k=b then(if k=a then(Gr.cM (es.take i) k).map iD++[iD b]else(Gr.cM (es.take i) k).map iD)++[iD a]else if k=a then(Gr.cM (es.take i) k).map iD++[iD b]else(Gr.cM (es.take i) k).map iD)=(Gr.cM (es.take (i+1)) k).map iD:=λk=>by rw[take_snoc hi,Gr.LU,V2];unfold Gr.cM;rw[VW,List.filterMap_nil];unfold Gr.nb;simp only;by_cases c:k=a;{subst c;rw[if_neg (by lia),if_pos rfl,if_pos rfl];rfl};by_cases c2:k=b;{subst c2;rw[if_pos rfl,if_neg c,if_neg (Ne.symm c),if_pos rfl];rfl};rw[if_neg c2,if_neg c,if_neg (Ne.symm c),if_neg (Ne.symm c2)];exact(VF _).symm
  rw[VT λk _=>congrArg PyData.list (e k)]
 rintro _⟨o4,o5,rfl,ho4,ho5⟩;rw[VS];rfl';exact q
open Classical in
def Dc(es:ZP) (p x:Nat):Option Nat:=if ∃d,Gr.R (Gr.aB es) p d x then some (Gr.dst (Gr.aB es) p x)else none
def oD:Option Nat->PyData
 |none=>.none
 |some n=>iD n
abbrev vS(f:Nat->Option Nat) (m:Nat):PyData:=.list ((List.range m).map λx=>oD (f x))
def HG{f:Nat->Option Nat}{m y d:Nat}:(((List.range m).map λx=>oD (f x)).set y (iD d))=(List.range m).map λx=>oD (if x=y then some d else f x):=by rw[CS];refine VT λk _=>?_;by_cases c:k=y;{rw[if_pos c,if_pos c];rfl};rw[if_neg c,if_neg c]
def OT{m p r:Nat}{f:Nat->Option Nat}(B:Gr.oR (Gr.aB es) p r f []) (x:Nat):f x=Dc es p x:=by
 unfold Dc;split;{rename_i h;obtain⟨d,h⟩:=h;exact B.val h};rename_i h;cases e:f x with
 |none=>rfl
 |some d=>exact absurd ⟨d,(B.sound x d e).1⟩ h
def JR{m p x:Nat}(cn:Gr.c8 m es)(hp:p<m)(hx:x<m):Dc es p x=some (Gr.dst (Gr.aB es) p x):=if_pos (cn p hp x hx)
def Dm:bq:=λds Q x=>∃m es p,ds=[wD m es,iD p]/\m<=60/\Gr.Good m es/\p<m/\Q [] (.ow false) (vS (Dc es p) m)
def OG:dF false [oD o,.none] P=P .sh (.bool o.isNone):=by cases o<;>simp[oD,dF,dx]
def RC:lf (oD o)=true:=by cases o<;>rfl
def Cu{y:Nat}:nD (l++[y])=.list (l.map iD++[iD y]):=by show PyData.list ((l++[y]).map iD)=_;rw[V2];rfl
def ON:∀ds Q x,Dm ds Q x->jQ rJ (aX [false,false] Q x) (ini [false,false] ds++List.replicate 6 none):=by
 rintro _ Q x⟨m,es,p,rfl,hm,gd,hp,q⟩;unfold jQ;rfl';refine⟨m,es,rfl,hm,gd,?_⟩;rfl';have e0:(List.replicate m [PyData.none]).flatten=(List.range m).map λ_=>PyData.none:=by
  clear q hp gd hm;induction m with
  |zero=>rfl
  |succ k ih=>rw[List.replicate_succ',WD,ih,Y3,V2];rfl
 rw[e0];refine⟨by lia,⟨by lia,by lia,by lia⟩,xg (by rw[U7,UW];exact hp) ?_⟩;rw[show PyData.int 0=iD 0 from rfl,show((List.range m).map λ_=>PyData.none)=(List.range m).map λx=>oD ((λ_=>none:Nat->Option Nat) x)from rfl,HG];refine⟨by lia,?_⟩;refine⟨λn E=>∃(r:Nat)(g:Nat->Option Nat)(ed:Zb)(k2 k4:Kd)(o5 o6 o7:Zg),E=[some (.sh,wD m es),some (.sh,iD p),some (k2,vJ m es),some (.ow false,vS g m),some (k4,nD ed),o5,o6,o7]/\(k2=.dp false\/k2=.sh)/\(k4=.ow false\/k4=.sh)/\cg o5=true/\cg o6=true/\cg o7=true/\n=2*Gr.cnt g m+(if ed=[]then 0 else 1)/\Gr.oR (Gr.aB es) p r g ed/\∀x∈ed,x<m,?_,?_⟩;{exact⟨_,0,_,[p],_,_,none,none,none,rfl,.inl rfl,.inl rfl,rfl,rfl,rfl,rfl,Gr.oR.start,λx hx=>by rw[U8.mp hx];exact hp⟩};rintro n _⟨r,g,ed,k2,k4,o5,o6,o7,rfl,hk2,hk4,ho5,ho6,ho7,rfl,B,edm⟩;simp![YR];refine⟨by rcases hk4 with rfl|rfl<;>rfl,?_⟩;cases ed with
 |nil=>simp![Z1];have e:vS g m=vS (Dc es p) m:=congrArg PyData.list (VT λx _=>congrArg oD (OT (m:=m) B x));rw[e];exact q
 |cons e0 er=>
  simp![List.isEmpty_cons,ho5];have f4:k4.fz=true:=by rcases hk4 with rfl|rfl<;>rfl
  rw[if_pos f4];refine⟨by lia,eX rfl ?_⟩;have ne:e0::er≠[]:=XH _ _;generalize e0::er=ed at B edm ne⊢;have hE2:∀(k2:Kd),(k2=.dp false\/k2=.sh)->k2.rd=true/\k2.fz=true:=λk h=>by rcases h with rfl|rfl<;>exact⟨rfl,rfl⟩
  refine mX (λi E=>∃(g':Nat->Option Nat)(rc:Zb)(k2:Kd)(o6 o7:Zg),E=[some (.sh,wD m es),some (.sh,iD p),some (k2,vJ m es),some (.ow false,vS g' m),some (.sh,nD ed),some (.ow false,nD rc),o6,o7]/\(k2=.dp false\/k2=.sh)/\cg o6=true/\cg o7=true/\Gr.g9 (Gr.aB es) r g ed g' rc/\(∀j h,j<i->ed[j]?=some h->∀x,Gr.aB es h x->g' x≠none)/\rc.Nodup/\∀x∈rc,x<m) ⟨g,[],k2,o6,o7,rfl,hk2,ho6,ho7,.start,λj h hj=>by lia,VY,λ_ h=>absurd h UM⟩ ?_ ?_
  .rintro i h _ hi⟨g',rc,k2,o6,o7,rfl,hk2,ho6,ho7,BI,don,rcn,rcm⟩;have mh:h∈ed:=V7 hi;have hm':=edm h mh;obtain⟨rd2,fz2⟩:=hE2 k2 hk2;simp![ho6,rd2];rw[VQ hm'];refine eX rfl ?_;simp![fz2];have loop:∀k2,(k2=.dp false\/k2=.sh)->zV (List.map iD (Gr.cM es h)) (Tg.nm 7) (cO (bW (ah (dF false) [Arg.ev (ah b7 [Arg.pk 3,Arg.pk 7]),Arg.ev (dC PyData.none)])) (av (jV 3 (aO 7) (ah d8 [Arg.ev (ah b7 [Arg.pk 3,Arg.pk 6]),Arg.ev (dC (PyData.int 1))])) (dQ (qh eO 5 [aO 7]))) dD)
    { nx:=λE=>∃(g':Nat->Option Nat)(rc:Zb)(k2:Kd)(o6 o7:Zg),E=[some (.sh,wD m es),some (.sh,iD p),some (k2,vJ m es),some (.ow false,vS g' m),some (.sh,nD ed),some (.ow false,nD rc),o6,o7]/\(k2=.dp false\/k2=.sh)/\cg o6=true/\cg o7=true/\Gr.g9 (Gr.aB es) r g ed g' rc/\(∀j h,j<i+1->ed[j]?=some h->∀x,Gr.aB es h x->g' x≠none)/\rc.Nodup/\∀x∈rc,x<m,rt:=(aX [false,false] Q x).rt,xc:=x }
    [some (.sh,wD m es),some (.sh,iD p),some (k2,vJ m es),some (.ow false,vS g' m),some (.sh,nD ed),some (.ow false,nD rc),some (.sh,iD h),o7]:=by
    intro k2 hk2;refine mX (λi' E=>∃(g':Nat->Option Nat)(rc:Zb)(o7:Zg),E=[some (.sh,wD m es),some (.sh,iD p),some (k2,vJ m es),some (.ow false,vS g' m),some (.sh,nD ed),some (.ow false,nD rc),some (.sh,iD h),o7]/\cg o7=true/\Gr.g9 (Gr.aB es) r g ed g' rc/\(∀j h,j<i->ed[j]?=some h->∀x,Gr.aB es h x->g' x≠none)/\(∀j y,j<i'->(Gr.cM es h)[j]?=some y->g' y≠none)/\rc.Nodup/\∀x∈rc,x<m) ⟨g',rc,o7,rfl,ho7,BI,don,λj y hj=>by lia,rcn,rcm⟩ ?_ ?_
    .rintro i' y _ hy⟨g',rc,o7,rfl,ho7,BI,don,dni,rcn,rcm⟩;have hyE:Gr.aB es h y:=Gr.bH.mp (V7 hy);have ym:y<m:=(gd.bX hyE).2;have eh:=BI.at B mh;simp![ho7,VQ ym,VQ hm',RC,OG];cases gy:g' y with
     |some d=>
      simp only[dw,Option.isNone_some];refine⟨g',rc,some (.sh,iD y),rfl,rfl,BI,don,λj z hj hz=>?_,rcn,rcm⟩
      by_cases c:j=i'
      .subst c;rw[hy]at hz;cases hz;rw[gy];simp
      .exact dni j z (by lia) hz
     |none=>
      have e1:oD (some r)=iD r:=rfl;have e2:(r:Int)+1=((r+1:Nat):Int):=rfl;simp![Option.isNone_none,eh,e1,e2];have yrc:y∉rc:=λh'=>by
       have:=((BI.got y).mp h').2;rw[gy]at this;cases this
      have rcl:=Gr.eV m rc rcn rcm;refine xg ym ⟨by lia,_,rc++[y],some (.sh,iD y),?_,rfl,BI.put mh hyE gy,λj h' hj he x hx=>?_,λj z hj hz=>?_,?_,λx hx=>?_⟩
      .rw[HG,Cu]
      .show(if x=y then some (r+1)else g' x)≠none
       split
       .exact λh=>(nomatch h)
       .exact don j h' hj he x hx
      .show(if z=y then some (r+1)else g' z)≠none
       split
       .exact λh=>(nomatch h)
       .rename_i c
        by_cases c2:j=i'
        .subst c2;rw[hy]at hz;cases hz;exact absurd rfl c
        .exact dni j z (by lia) hz
      .exact VR.mpr ⟨rcn,VA.mpr ⟨UM,VY⟩,λa ha b hb e=>by
        cases U8.mp hb;exact yrc (e▸ha)⟩
      .rcases UE.mp hx with h'|h'
       .exact rcm x h'
       .rw[U8.mp h'];exact ym
    .rintro _⟨g',rc,o7,rfl,ho7,BI,don,dni,rcn,rcm⟩;refine⟨g',rc,k2,_,o7,rfl,hk2,rfl,ho7,BI,λj h' hj hh x hx=>?_,rcn,rcm⟩
     by_cases c:j=i
     .subst c;rw[hi]at hh;cases hh;obtain⟨l,hl⟩:=Z2.mp (Gr.bH.mpr hx);exact dni l x (cR hl) hl
     .exact don j h' (by lia) hh x hx
   split;{exact eX rfl (loop _ hk2)};exact eX rfl (loop _ (.inr rfl))
  rintro _⟨g',rc,k2,o6,o7,rfl,hk2,ho6,ho7,BI,don,rcn,rcm⟩;rfl';have all:∀h,h∈ed->∀x,Gr.aB es h x->g' x≠none:=λh hh=>by obtain⟨j,hj⟩:=Z2.mp hh;exact don j h (cR hj) hj
  refine⟨_,?_,r+1,g',rc,k2,.sh,some (.sh,nD rc),o6,o7,rfl,hk2,.inr rfl,rfl,ho6,ho7,rfl,B.next BI all,rcm⟩;rw[if_neg ne];cases rc with
  |nil=>have:=Gr.zY (f:=g) (g:=g') (λx h=>BI.none h) m;rw[if_pos rfl];lia
  |cons y rc=>obtain⟨h1,h2⟩:=(BI.got y).mp (U1 ..);have:=Gr.Gn (f:=g) (g:=g') (λx h=>BI.none h) h1 (by rw[h2];exact λh=>(nomatch h)) m (rcm y (U1 ..));rw[if_neg (XH _ _)];lia
structure bF(m:Nat)(es:ZP):Prop where
 pos:1<=m
 le:m<=60
 gd:Gr.Good m es
 cn:Gr.c8 m es
def bF.few{m:Nat}(W:bF m es):es.length<=1800:=by have h:=Gr.JU W.gd;have:=Wa W.le W.le;lia
abbrev aV(es:ZP) (p x:Nat):Nat:=Gr.dst (Gr.aB es) p x
abbrev Dg(m:Nat)(es:ZP) (p:Nat):PyData:=.list ((List.range m).map λx=>iD (aV es p x))
def OU{m p:Nat}(cn:Gr.c8 m es)(hp:p<m):vS (Dc es p) m=Dg m es p:=congrArg PyData.list (VT λx hx=>by rw[JR cn hp (UX.mp hx)];rfl)
def wU:bq:=λds Q x=>∃m es,∃p:Int,ds=[wD m es,.int p]/\(0<=p/\p<m->Q [] .sh .none)/\(¬(0<=p/\p<m)->x "NoPlace" .none)
def Ql:∀ds Q x,wU ds Q x->iu (aX [false,false] Q x) (ini [false,false] ds++List.replicate 0 none):=by rintro _ Q x⟨m,es,p,rfl,q,r⟩;unfold iu;rfl';split;{rename_i h;split;{rename_i h2;exact r λz=>h2 z.2};rename_i h2;exact q ⟨h,Z3 h2⟩};rename_i h;exact r λz=>h z.1
def Dp:bq:=λds Q x=>∃m es,∃p:Int,ds=[wD m es,.int p]/\bF m es/\(∀k:Nat,p=k->k<m->Q [] (.ow false) (Dg m es k))/\(¬(0<=p/\p<m)->x "NoPlace" .none)
def QA:∀ds Q x,Dp ds Q x->ni wU Dm (aX [false,false] Q x) (ini [false,false] ds++List.replicate 0 none):=by
 rintro _ Q x⟨m,es,p,rfl,W,q,r⟩;unfold ni;rfl';refine⟨m,es,p,rfl,λhp=>?_,r⟩;rfl';obtain⟨k,rfl⟩:=Int.eq_ofNat_of_zero_le hp.1;have hk:k<m:=by lia
 refine⟨m,es,k,rfl,W.le,W.gd,hk,?_⟩;rfl';rw[OU W.cn hk];exact q k rfl hk
abbrev Th:=Nat ⊕ (Nat×Nat)
def gz:Th->PyData
 |.inl x=>iD x
 |.inr e=>ia e
def TV(m:Nat):Th->Prop
 |.inl x=>x<m
 |.inr e=>e.1<m/\e.2<m
def td(es:ZP) (p:Nat):Th->Nat
 |.inl x=>aV es p x
 |.inr e=>min (aV es p e.1) (aV es p e.2)
def Ua:lf (gz t)=true:=by cases t<;>rfl
def DQ:bq:=λds Q x=>∃m es p,∃e:Nat×Nat,ds=[Dg m es p,ia e]/\e.1<m/\e.2<m/\Q [] .sh (iD (td es p (.inr e)))
def N8:∀ds Q x,DQ ds Q x->lY (aX [false,false] Q x) (ini [false,false] ds++List.replicate 0 none):=by rintro _ Q x⟨m,es,p,e,rfl,h1,h2,q⟩;unfold lY;simp![VQ h1,VQ h2];exact q
def Ea:bq:=λds Q x=>∃m es p t,ds=[Dg m es p,gz t]/\TV m t/\Q [] .sh (iD (td es p t))
def Of:∀ds Q x,Ea ds Q x->nV DQ (aX [false,false] Q x) (ini [false,false] ds++List.replicate 0 none):=by
 rintro _ Q x⟨m,es,p,t,rfl,h,q⟩;unfold nV;cases t with
 |inl k=>have h:k<m:=h;simp![gz,VQ h];exact q
 |inr e=>simp![gz];refine⟨m,es,p,e,rfl,h.1,h.2,?_⟩;rfl';exact q
def aR(k:Str) (m:Nat)(es:ZP):List Th:=(if k="ties" then []else(List.range m).map Sum.inl)++(if k="places" then []else es.map Sum.inr)
def IG{m:Nat}(g:Gr.Good m es):∀t∈aR k m es,TV m t:=by intro t ht;rcases UE.mp ht with h|h;{split at h;{cases h};obtain⟨x,hx,rfl⟩:=U9.mp h;exact UX.mp hx};split at h;{cases h};obtain⟨e,he,rfl⟩:=U9.mp h;have:=g.lt e he;exact⟨by show e.1<m;lia,this.2⟩
def Gq{m:Nat}(W:bF m es):(aR k m es).length<=1860:=by unfold aR;have:=W.few;have:=W.le;rw[UR];split<;>split<;>simp<;>lia
def v8:bq:=λds Q x=>∃m es k,ds=[wD m es,.str k]/\bF m es/\Q [] (.ow false) (.list ((aR k m es).map gz))
def OM:∀ds Q x,v8 ds Q x->nQ (aX [false,false] Q x) (ini [false,false] ds++List.replicate 4 none):=by
 rintro _ Q x⟨m,es,k,rfl,W,q⟩;have e:(aR k m es).map gz=(if k="ties" then []else(List.range m).map iD)++(if k="places" then []else es.map ia):=by unfold aR;rw[V2];congr 1;{split;{rfl};rw[V1];rfl};split;{rfl};rw[V1];rfl
 have hm:=W.le;have hf:=W.few;unfold nQ;rfl';rw[e]at q;by_cases c1:k="ties";{by_cases c2:k="places";{subst c1;exact absurd c2 (by decide)};simp only[if_pos c1,if_neg c2,dv,dw,dx,dy,dz,Nat.reduceBEq]at q⊢;exact⟨by lia,by lia,q⟩};by_cases c2:k="places";{simp only[if_neg c1,if_pos c2,dv,dw,dx,dy,dz,Nat.reduceBEq,VF]at q⊢;exact⟨⟨by lia,by lia⟩,by lia,by lia,q⟩};simp only[if_neg c1,if_neg c2,dv,dw,dx,dy,dz,Nat.reduceBEq]at q⊢;exact⟨⟨by lia,by lia⟩,by lia,q⟩
def rising(l:Zb):Prop:=l.Pairwise (·<·)
def pO{m:Nat}(h:rising l)(lt:∀x∈l,x<m):l.length<=m:=Gr.eV m l (h.imp λh=>UH h) lt
structure jY(m:Nat)(ls:Zb):Prop where
 up:rising ls
 lt:∀l∈ls,l<m
def jY.len{m:Nat}(h:jY m ls):ls.length<=m:=pO h.up h.lt
def iI(m:Nat) (last:Int):Zc->Bool
 |[]=>true
 |l::ls=>decide (last<l)&&decide (l<m)&&iI m l ls
def DU:bq:=λds Q x=>∃m es,∃ls:Zc,ds=[wD m es,.list (ls.map .int)]/\Q [] .sh (.bool (iI m (-1) ls))
def PC:∀ds Q x,DU ds Q x->nG (aX [false,false] Q x) (ini [false,false] ds++List.replicate 2 none):=by
 rintro _ Q x⟨m,es,ls,rfl,q⟩;unfold nG;rfl';refine mX (λi E=>∃(last:Int)(o:Zg),E=[some (.sh,wD m es),some (.sh,.list (ls.map .int)),some (.sh,.int last),o]/\cg o=true/\iI m (-1) ls=iI m last (ls.drop i)) ⟨-1,none,rfl,rfl,rfl⟩ ?_ ?_
 .rintro i l _ hi⟨last,o,rfl,ho,e⟩;have hd:ls.drop i=l::ls.drop (i+1):=by rw[Z4 (cR hi)];rw[V0 (cR hi)]at hi;rw[Option.some.inj hi]
  rw[hd,iI]at e;simp![ho];split;{rename_i h1;split;{rename_i h2;rw[e,VH h2,Bool.and_false,Xq]at q;exact q};rename_i h2;refine⟨l,_,rfl,rfl,?_⟩;rw[e,V6 h1,V6 (Z3 h2),Bool.true_and,Bool.true_and]};rename_i h1;rw[e,VH h1,Xq,Xq]at q;exact q
 rintro _⟨last,o,rfl,ho,e⟩;rw[Xk,iI]at e;rw[e]at q;rfl';exact q
theorem xo{m:Nat}:∀{ls:Zb}{last:Int},iI m last (ls.map λn:Nat=>(n:Int))=true↔(ls.Pairwise (·<·)/\(∀l∈ls,l<m)/\∀l∈ls,last<(l:Int))
 |[],last=>by simp[iI]
 |a::ls,last=>by rw[UI,iI,UJ,UJ,VM,VM,xo,Vj];constructor;{rintro⟨⟨h1,h2⟩,h3,h4,h5⟩;refine⟨⟨λb hb=>by have:=h5 b hb;lia,h3⟩,λl hl=>?_,λl hl=>?_⟩;{rcases U6.mp hl with rfl|hl;{lia};exact h4 l hl};rcases U6.mp hl with rfl|hl;{exact h1};have:=h5 l hl;lia};rintro⟨⟨h1,h2⟩,h3,h4⟩;have:=h3 a U1;exact⟨⟨h4 a U1,by lia⟩,h2,λl hl=>h3 l (U4 _ hl),λl hl=>by have:=h1 l hl;lia⟩
def DF{m:Nat}(h:jY m ls):iI m (-1) (ls.map λn:Nat=>(n:Int))=true:=xo.mpr ⟨h.up,h.lt,λl _=>by lia⟩
def Nb:nD ls=.list ((ls.map λn:Nat=>(n:Int)).map .int):=by show PyData.list _=_;rw[V1];rfl
def AK:bq:=λds Q x=>∃m es,∃ls:Zc,ds=[wD m es,.list (ls.map .int)]/\(iI m (-1) ls=true->Q [] .sh .none)/\(iI m (-1) ls=false->x "NoLooks" .none)
def P9:∀ds Q x,AK ds Q x->fZ DU (aX [false,false] Q x) (ini [false,false] ds++List.replicate 0 none):=by rintro _ Q x⟨m,es,ls,rfl,q,r⟩;unfold fZ;rfl';refine⟨m,es,ls,rfl,?_⟩;rfl';split;{rename_i h;exact r h};rename_i h;exact q (by simpa using h)
def Nr{m:Nat}(h:jY m ls)(q:Q [] .sh .none):AK [wD m es,nD ls] Q x:=⟨m,es,ls.map λn:Nat=>(n:Int),by rw[Nb],λ_=>q,λz=>by rw[DF h]at z;cases z⟩
def br(es:ZP)(ls:Zb)(t:Th):Zb:=ls.map λp=>td es p t
def D8:bq:=λds Q x=>∃m es ls,∃ts:List Th,ds=[wD m es,nD ls,.list (ts.map gz)]/\bF m es/\(∀p∈ls,p<m)/\ls.length<=1000/\(∀t∈ts,TV m t)/\ts.length<=1860/\Q [] (.ow false) (.list (ts.map λt=>nD (br es ls t)))
def QC:∀ds Q x,D8 ds Q x->pK Dp Ea (aX [false,false,false] Q x) (ini [false,false,false] ds++List.replicate 3 none):=by
 rintro _ Q x⟨m,es,ls,ts,rfl,W,hl,fl,ht,ft,q⟩;unfold pK;rfl';refine gg (λp=>Dg m es p) rfl (λp hp I hI=>?_) ?_ (by lia)
 .rfl';refine⟨m,es,p,rfl,W,λk e hk=>?_,λz=>absurd ⟨by lia,by have:=hl p hp;lia⟩ z⟩;have e:p=k:=by lia
  subst e;rfl';exact hI _ rfl
 rfl';refine CY (λE=>∃k:Kd,E=[some (.sh,wD m es),some (.sh,nD ls),some (.sh,.list (ts.map gz)),some (k,.list (ls.map λp=>Dg m es p)),none,none]/\k.fz=true) (λt=>nD (br es ls t)) rfl ⟨_,rfl,rfl⟩ ?_ ?_ (by lia)
 .rintro t hti _⟨k,rfl,hk⟩I hI;simp![hk];refine gg (λp=>iD (td es p t)) rfl (λp hp I2 hI2=>?_) ?_ (by lia);{rfl';refine⟨m,es,p,t,rfl,ht t hti,?_⟩;rfl';exact hI2 _ rfl};rfl';have e:nD (br es ls t)=.list (ls.map λp=>iD (td es p t)):=by unfold br;show PyData.list _=_;rw[V1];rfl
  rw[e]at hI;exact hI _ _ rfl ⟨.sh,rfl,rfl⟩
 rintro _⟨k,rfl,hk⟩;rfl';exact q
theorem dY{α:Type}{f:α->PyData}{p:α->Bool}:∀{l:List α},(l.filterMap λt=>if p t=true then some (f t)else none)=(l.filter p).map f
 |[]=>rfl
 |a::l=>by
  rw[VW,W9];cases h:p a with
  |true=>simp only[if_true];rw[dY];rfl
  |false=>simp only[if_neg (V5)];exact dY
end PB
namespace Gr
abbrev ds(es:ZP) (p x:Nat):Nat:=dst (aB es) p x
section
variable{m:Nat}{es:ZP}
def c8.is(cn:c8 m es){p x:Nat}(hp:p<m)(hx:x<m):oN (aB es) p x (ds es p x):=let⟨_,h⟩:=cn p hp x hx;Qm h
def b8{p:Nat}:ds es p p=0:=uY ⟨.zero,λe he=>absurd he (W0 e)⟩
def c8.le(cn:c8 m es){p x d:Nat}(hp:p<m)(hx:x<m)(h:R (aB es) p d x):ds es p x<=d:=by rcases VV d (ds es p x)with l|l;{exact absurd h ((cn.is hp hx).2 d l)};exact l
def c8.fD(cn:c8 m es){p x y:Nat}(hp:p<m)(hx:x<m)(hy:y<m):ds es p y<=ds es p x+ds es x y:=cn.le hp hy ((cn.is hp hx).1.trans (cn.is hx hy).1)
def c8.sy(cn:c8 m es){p x:Nat}(hp:p<m)(hx:x<m):ds es p x=ds es x p:=by have h1:=cn.le hx hp ((cn.is hp hx).1.symm cN);have h2:=cn.le hp hx ((cn.is hx hp).1.symm cN);lia
def c8.zero(cn:c8 m es){p x:Nat}(hp:p<m)(hx:x<m)(h:ds es p x=0):x=p:=by have:=(cn.is hp hx).1;rw[h]at this;cases this;rfl
def c8.Tf(cn:c8 m es){p x y:Nat}(hp:p<m)(hx:x<m)(hy:y<m)(h:aB es x y):ds es p y<=ds es p x+1:=cn.le hp hy ((cn.is hp hx).1.step h)
theorem c8.pred(cn:c8 m es)(gd:Good m es){p x:Nat}(hp:p<m)(hx:x<m)(h:x≠p):∃y,y<m/\aB es x y/\ds es p y+1=ds es p x:=by
 have hI:=cn.is hp hx;cases e:ds es p x with
 |zero=>exact absurd (cn.zero hp hx e) h
 |succ d=>rw[e]at hI;obtain⟨y,hy,a⟩:=hI.pred;exact⟨y,(gd.bX a).1,cN _ _ a,by rw[show ds es p y=d from uY hy]⟩
structure Tree(m:Nat)(es:ZP):Prop where
 gd:Good m es
 cn:c8 m es
 len:es.length+1=m
def jB(x y:Nat):Nat×Nat:=(min x y,max x y)
def oZ(gd:Good m es){x y:Nat}(h:aB es x y):jB x y∈es:=by
 rcases h with h|h
 .have:=gd.lt _ h;have:x<y/\y<m:=this;have e:jB x y=(x,y):=by unfold jB;rw[Wt (by lia),Yz (by lia)]
  rw[e];exact h
 have:=gd.lt _ h;have:y<x/\x<m:=this;have e:jB x y=(y,x):=by unfold jB;rw[Wu (by lia),Nat.max_eq_left (by lia)]
 rw[e];exact h
def sub_len'{α:Type} [DecidableEq α]{l:List α}(nd:l.Nodup):∀{k:List α},(∀x∈l,x∈k)->l.length<=k.length:=by
 induction l with
 |nil=>intro k _;exact V3 _
 |cons a l ih=>intro k h;have ha:=h a U1;have nd':=VA.mp nd;have:=ih nd'.2 (k:=k.erase a) λx hx=>(Yx λe=>nd'.1 (by rw[<-e];exact hx)).mpr (h x (U4 _ hx));rw[Yy ha]at this;have:=Ws ha;rw[UL];lia
def Bc{α:Type} [DecidableEq α]{l k:List α}(nd:l.Nodup)(h:∀x∈l,x∈k)(hl:k.length<=l.length):∀x∈k,x∈l:=by intro x hx;by_cases c:x∈l;{exact c};exfalso;have:=sub_len' nd (k:=k.erase x) λy hy=>(Yx λe=>c (by rw[<-e];exact hy)).mpr (h y hy);rw[Yy hx]at this;have:=Ws hx;lia
open Classical in
def Tree.d9(T:Tree m es){p:Nat}(hp:p<m):∃par:Nat->Nat,(∀x,x<m->x≠p->par x<m/\aB es x (par x)/\ds es p (par x)+1=ds es p x)/\∀x y,aB es x y->(x≠p/\y=par x)\/(y≠p/\x=par y):=by
 have ch:∀x,∃y,x<m->x≠p->y<m/\aB es x y/\ds es p y+1=ds es p x:=λx=>by by_cases c:x<m/\x≠p;{obtain⟨y,h1,h2,h3⟩:=T.cn.pred T.gd hp c.1 c.2;exact⟨y,λ_ _=>⟨h1,h2,h3⟩⟩};exact⟨0,λh1 h2=>absurd ⟨h1,h2⟩ c⟩
 have⟨par,hpar⟩:∃par:Nat->Nat,∀x,x<m->x≠p->par x<m/\aB es x (par x)/\ds es p (par x)+1=ds es p x:=⟨λx=>Classical.choose (ch x),λx h1 h2=>Classical.choose_spec (ch x) h1 h2⟩;refine⟨par,hpar,λx y h=>?_⟩;have two:∀{a b c d:Nat},jB a b=jB c d->(a=c/\b=d)\/(a=d/\b=c):=λ{a b c d} e=>by have e1:min a b=min c d:=congrArg Prod.fst e;have e2:max a b=max c d:=congrArg Prod.snd e;lia
 have mem:∀z,z∈(List.range m).filter (λx=>decide (x≠p))↔z<m/\z≠p:=λz=>by rw[UP,UX,VM]
 have nd0:((List.range m).filter λx=>decide (x≠p)).Nodup:=Vi Vt Vh;have len:es.length<=(((List.range m).filter λx=>decide (x≠p)).map λx=>jB x (par x)).length:=by
  rw[U7];have:=sub_len' (l:=List.range m) Vh (k:=p::(List.range m).filter λx=>decide (x≠p)) λx hx=>by by_cases c:x=p;{rw[c];exact U1};exact U4 _ ((mem x).mpr ⟨UX.mp hx,c⟩)
  rw[UW,UL]at this;have:=T.len;lia
 have nd:(((List.range m).filter λx=>decide (x≠p)).map λx=>jB x (par x)).Nodup:=by refine YQ _ (R:=λa b=>a≠b/\(a<m/\a≠p)/\(b<m/\b≠p)) (λa b hab e=>?_) (WZ (R:=λa b=>a≠b) (λ{a b} ha hb h=>⟨h,(mem a).mp ha,(mem b).mp hb⟩) nd0);obtain⟨ne,ha,hb⟩:=hab;obtain⟨_,_,h1⟩:=hpar a ha.1 ha.2;obtain⟨_,_,h2⟩:=hpar b hb.1 hb.2;rcases two e with⟨z,_⟩|⟨z1,z2⟩;{exact ne z};rw[z2]at h1;rw[<-z1]at h2;lia
 have inn:=Bc nd (λe he=>by
  obtain⟨z,hz,rfl⟩:=U9.mp he;obtain⟨h1,h2⟩:=(mem z).mp hz;exact oZ T.gd (hpar z h1 h2).2.1) len
 obtain⟨z,hz,e⟩:=U9.mp (inn _ (oZ T.gd h));have hz:=(mem z).mp hz;rcases two e with⟨e1,e2⟩|⟨e1,e2⟩;{subst e1;exact .inl ⟨hz.2,e2.symm⟩};subst e1;exact .inr ⟨hz.2,e2.symm⟩
def Tree.near(T:Tree m es){p x y:Nat}(hp:p<m)(h:aB es x y):ds es p x=ds es p y+1\/ds es p y=ds es p x+1:=by obtain⟨par,h1,h2⟩:=T.d9 hp;obtain⟨hx,hy⟩:=T.gd.bX h;rcases h2 x y h with⟨n,rfl⟩|⟨n,rfl⟩;{exact .inl (h1 x hx n).2.2.symm};exact .inr (h1 y hy n).2.2.symm
def Tree.one(T:Tree m es){p x y z:Nat}(hp:p<m)(h:aB es x y)(g:aB es x z)(hy:ds es p x=ds es p y+1)(hz:ds es p x=ds es p z+1):y=z:=by
 obtain⟨par,h1,h2⟩:=T.d9 hp;obtain⟨hx,hy'⟩:=T.gd.bX h;have hz':=(T.gd.bX g).2;have key:∀w,aB es x w->w<m->ds es p x=ds es p w+1->w=par x:=λw a hw e=>by rcases h2 x w a with⟨_,r⟩|⟨n,r⟩;{exact r};have:=(h1 w hw n).2.2;rw[<-r]at this;lia
 rw[key y h hy' hy,key z g hz' hz]
def aM(es:ZP) (p n x:Nat):Prop:=ds es n x+1=ds es p x
def Tree.yh(T:Tree m es){p n x:Nat}(hx:x<m)(h:aB es p n):aM es p n x\/ds es n x=ds es p x+1:=by obtain⟨hp,hn⟩:=T.gd.bX h;have:=T.near hx h;unfold aM;rw[T.cn.sy hn hx,T.cn.sy hp hx];lia
def Tree.kF(T:Tree m es){p n k x:Nat}(hx:x<m)(h:aB es p n)(g:aB es p k)(hn:aM es p n x)(hk:aM es p k x):n=k:=by obtain⟨hp,hn'⟩:=T.gd.bX h;have hk':=(T.gd.bX g).2;unfold aM at hn hk;rw[T.cn.sy hn' hx,T.cn.sy hp hx]at hn;rw[T.cn.sy hk' hx,T.cn.sy hp hx]at hk;exact T.one hx h g (by lia) (by lia)
def Tree.some(T:Tree m es){p x:Nat}(hp:p<m)(hx:x<m)(ne:x≠p):∃n,aB es p n/\aM es p n x:=by obtain⟨n,hn,a,e⟩:=T.cn.pred T.gd hx hp (Ne.symm ne);refine⟨n,a,?_⟩;unfold aM;rw[T.cn.sy hn hx,T.cn.sy hp hx];exact e
def Tree.mJ(T:Tree m es){p n x y:Nat}(hp:p<m)(hn:n<m)(h:aB es p n)(hb:aM es p n x)(a:aB es x y)(ne:y≠p):aM es p n y:=by
 obtain⟨hx,hy⟩:=T.gd.bX a;unfold aM at hb⊢;rcases T.yh hy h with z|z;{exact z};exfalso;have h1:=T.near hp a;have h2:=T.near hn a;have e1:ds es p y+1=ds es p x:=by lia
 have e2:ds es n y=ds es n x+1:=by lia
 by_cases c:x=n;{subst c;rw[b8]at hb;exact ne (T.cn.zero hp hy (by lia))};obtain⟨z,hz,b,e3⟩:=T.cn.pred T.gd hn hx c;have h5:=T.cn.fD hp hn hz;have h6:ds es p n=1:=by have:=T.near hp h;rw[b8]at this;lia
 have h7:=T.near hp b;have:=T.one hp a b (by lia) (by lia);subst this;lia
def Tree.dn(T:Tree m es){p n:Nat}(hp:p<m)(h:aB es p n):ds es p n=1:=by have:=T.near hp h;rw[b8]at this;lia
def Tree.IZ(T:Tree m es){p n x:Nat}(hp:p<m)(hx:x<m)(h:aB es p n)(hb:aM es p n x)(ne:x≠n):∃y,y<m/\aB es y x/\aM es p n y/\ds es p x=ds es p y+1/\ds es n y+1=ds es n x:=by obtain⟨_,hn⟩:=T.gd.bX h;obtain⟨y,hy,a,e⟩:=T.cn.pred T.gd hn hx ne;have h1:=T.cn.fD hp hn hy;have h2:=T.dn hp h;have h3:=T.near hp a;unfold aM at hb⊢;exact⟨y,hy,cN _ _ a,by lia,by lia,e⟩
def fW(T:Tree m es){p n:Nat}(hp:p<m)(h:aB es p n):aM es p n n:=by unfold aM;rw[b8,T.dn hp h]
def Tree.par(T:Tree m es){x u d v:Nat}(hx:x<m)(h:R (aB es) u d v):(ds es x v)%2=(ds es x u+d)%2:=by
 induction h with
 |zero=>rfl
 |step _ a ih=>have:=T.near hx a;lia
def Tree.walk(T:Tree m es){l w b:Nat}(hl:l<m)(a:aB es w b)(nl:¬aM es w b l){d v:Nat}(h:R (aB es) l d v)(hv:aM es w b v):ds es l w+1+ds es b v<=d:=by
 obtain⟨hw,hb⟩:=T.gd.bX a;induction h with
 |zero=>exact absurd hv nl
 |@step d y v r c ih=>
  obtain⟨hy,hv'⟩:=T.gd.bX c;by_cases q:aM es w b y;{have:=ih q;have:=T.cn.Tf hb hy hv' c;lia};have e:y=w:=by by_cases z:y=w;{exact z};exact absurd (T.mJ hw hb a hv (cN _ _ c) z) q
  subst e;have e2:=T.kF hv' a c hv (fW T hw c);subst e2;have:=T.cn.le hl hw r;rw[b8];lia
def Tree.j8(T:Tree m es){l w b v:Nat}(hl:l<m)(hv':v<m)(a:aB es w b)(nl:¬aM es w b l)(hv:aM es w b v):ds es l v=ds es l w+1+ds es b v:=by obtain⟨hw,hb⟩:=T.gd.bX a;have h1:=T.walk hl a nl (T.cn.is hl hv').1 hv;have h2:=T.cn.fD hl hw hv';have h3:=T.cn.fD hw hb hv';have h4:=T.dn hw a;lia
def cb(es:ZP)(ls:Zb) (p n:Nat):Nat:=(ls.filter λl=>decide (ds es n l+1=ds es p l)).length
def G6{ls:Zb}{p q r:Nat->Bool}(h1:∀l∈ls,p l=true->r l=true)(h2:∀l∈ls,q l=true->r l=true)(dj:∀l∈ls,p l=true->q l=true->False):(ls.filter p).length+(ls.filter q).length<=(ls.filter r).length:=by
 induction ls with
 |nil=>exact U5 _
 |cons a ls ih=>have ih:=ih (λl hl=>h1 l (U4 _ hl)) (λl hl=>h2 l (U4 _ hl)) λl hl=>dj l (U4 _ hl);have k1:=h1 a U1;have k2:=h2 a U1;have k3:=dj a U1;rw[W9,W9,W9];cases e1:p a<;>cases e2:q a<;>cases e3:r a<;>simp_all<;>lia
def one_le{ls:Zb}{p r:Nat->Bool}(h1:∀l∈ls,p l=true->r l=true):(ls.filter p).length<=(ls.filter r).length:=by
 have:=G6 (q:=λ_=>false) h1 (λl _ z=>by cases z) λl _ _ z=>by cases z
 lia
end
end Gr
namespace PB
open Dv Gr
section
variable{m:Nat}{es:ZP}
def pt(es:ZP)(ls:Zb)(t u:Th):Nat:=(ls.filter λl=>decide (td es l t≠td es l u)).length
def R9:pt es ls t u<=ls.length:=W4 ..
def MM:pt es ls t u=pt es ls u t:=by unfold pt;congr 1;refine Xl λl _=>?_;by_cases c:td es l t=td es l u;{rw[VH (by simpa using c),VH (by simpa using c.symm)]};rw[V6 c,V6 (Ne.symm c)]
def GX(h:∀l∈ls,td es l t≠td es l u):pt es ls t u=ls.length:=by unfold pt;rw[List.filter_eq_self.mpr λl hl=>V6 (h l hl)]
theorem mid(T:Tree m es){u v:Nat}(hu:u<m)(hv:v<m):∀{i j:Nat},ds es u v=i+j->∃w,w<m/\ds es u w=i/\ds es w v=j
 |i,0,h=>⟨v,hv,by lia,b8⟩
 |i,j+1,h=>by
  obtain⟨w,hw,h1,h2⟩:=mid T hu hv (i:=i+1) (j:=j) (by lia);obtain⟨y,hy,a,e⟩:=T.cn.pred T.gd hu hw λz=>by rw[z,b8]at h1;lia
  have h3:=T.cn.fD hy hw hv;have h4:=T.dn hy (cN _ _ a);have h5:=T.cn.fD hu hy hv;exact⟨y,hy,by lia,by lia⟩
def xH(T:Tree m es){w a l u v:Nat}(hu:u<m)(hv:v<m)(hl:l<m)(h:aB es w a)(hb:aM es w a l)(nv:¬aM es w a v)(hle:ds es a u<=ds es w v):ds es l u<ds es l v:=by obtain⟨hw,ha⟩:=T.gd.bX h;have h1:=T.j8 hv hl h nv hb;have h2:=T.cn.fD hl ha hu;rw[T.cn.sy hl ha]at h2;rw[T.cn.sy hl hv];rw[T.cn.sy hv hw]at h1;lia
def bd{w a l:Nat}(h:decide (ds es a l+1=ds es w l)=true):aM es w a l:=UT (p:=ds es a l+1=ds es w l) h
def Hg(T:Tree m es)(hl:∀l∈ls,l<m){w a b:Nat}(h:aB es w a)(g:aB es w b)(ne:a≠b)(ha:∀l∈ls,aM es w a l->td es l t≠td es l u)(hb:∀l∈ls,aM es w b l->td es l t≠td es l u):cb es ls w a+cb es ls w b<=pt es ls t u:=
 G6 (λl h1 h2=>V6 (ha l h1 (bd h2))) (λl h1 h2=>V6 (hb l h1 (bd h2))) λl h1 h2 h3=>ne (T.kF (hl l h1) h g (bd h2) (bd h3))
def Po{w a:Nat}(ha:∀l∈ls,aM es w a l->td es l t≠td es l u):cb es ls w a<=pt es ls t u:=one_le λl h1 h2=>V6 (ha l h1 (bd h2))
def vI(T:Tree m es)(hl:∀l∈ls,l<m){u v:Nat}(hu:u<m)(hv:v<m)(ne:u≠v):pt es ls (.inl u) (.inl v)=ls.length\/∃w a b,aB es w a/\aB es w b/\a≠b/\cb es ls w a+cb es ls w b<=pt es ls (.inl u) (.inl v):=by
 rcases Nat.mod_two_eq_zero_or_one (ds es u v)with e|e
 .right;obtain⟨k,hk⟩:∃k,ds es u v=k+k:=⟨ds es u v/2,by lia⟩;have k0:k≠0:=λz=>ne (T.cn.zero hu hv (by lia)).symm;obtain⟨w,hw,h1,h2⟩:=mid T hu hv hk;have nwu:w≠u:=λz=>by rw[z,b8]at h1;lia
  have nwv:w≠v:=λz=>by rw[z,b8]at h2;lia
  obtain⟨a,ha,aa,ea⟩:=T.cn.pred T.gd hu hw nwu;obtain⟨b,hb,ab,eb⟩:=T.cn.pred T.gd hv hw nwv;rw[T.cn.sy hv hw]at eb;rw[T.cn.sy hv hb]at eb;rw[T.cn.sy hu ha]at ea;rw[T.cn.sy hu hw]at ea;have nab:a≠b:=λz=>by subst z;have:=T.cn.fD hu ha hv;rw[T.cn.sy hu ha]at this;rw[T.cn.sy hu hw]at h1;lia
  have bu:aM es w a u:=ea;have bv:aM es w b v:=eb;rw[T.cn.sy hu hw]at h1;refine⟨w,a,b,aa,ab,nab,Hg T hl aa ab nab (λl hl' hb'=>?_) λl hl' hb'=>?_⟩;{have:=xH T hu hv (hl l hl') aa hb' (λz=>nab (T.kF hv aa ab z bv)) (by lia);show ds es l u≠ds es l v;lia};have:=xH T hv hu (hl l hl') ab hb' (λz=>nab (T.kF hu aa ab bu z)) (by lia);show ds es l u≠ds es l v;lia
 left;refine GX λl hl'=>?_;have:=T.par (hl l hl') (T.cn.is hu hv).1;show ds es l u≠ds es l v;intro z;rw[z]at this;lia
structure ya(es:ZP) (x y z t:Nat):Prop where
 xy:aB es x y
 zt:aB es z t
 fy:ds es z y=ds es z x+1
 ft:ds es x t=ds es x z+1
 ne:x=z->y≠t
def ya.swap(T:Tree m es){x y z t:Nat}(F:ya es x y z t):ya es z t x y:=⟨F.zt,F.xy,F.ft,F.fy,λe z=>F.ne e.symm z.symm⟩
def tl(es:ZP) (l x y:Nat):Nat:=min (ds es l x) (ds es l y)
def v9{l x y:Nat}:tl es l x y=tl es l y x:=Nat.min_comm ..
def pU(T:Tree m es){x y z t w a l j:Nat}(F:ya es x y z t)(hl:l<m)(hw:w<m)(h:aB es w a)(e0:ds es x z=j+j)(e1:ds es w z=j)(e2:ds es x w=j)(hb:aM es w a l)(hz:¬aM es w a z)(ht:¬aM es w a t)(ha:(j=0/\a=y)\/ds es a x+1=j):tl es l x y<tl es l z t:=by
 obtain⟨hx,hy⟩:=T.gd.bX F.xy;obtain⟨hz',ht'⟩:=T.gd.bX F.zt;have ham:=(T.gd.bX h).2;have c1:=T.j8 hz' hl h hz hb;have c2:=T.j8 ht' hl h ht hb;have t1:=T.cn.fD hx hw ht';have ft:=F.ft;rw[T.cn.sy hz' hw,T.cn.sy hz' hl]at c1;rw[T.cn.sy ht' hw,T.cn.sy ht' hl]at c2;unfold tl;have hle:min (ds es l x) (ds es l y)<=ds es a l+(j-1):=by rcases ha with⟨j0,rfl⟩|e;{rw[T.cn.sy hl ham];lia};have:=T.cn.fD hl ham hx;rw[T.cn.sy hl ham]at this;lia
 lia
def LR(T:Tree m es){x y z t:Nat}(F:ya es x y z t){j:Nat}(e:ds es x z=j+j):∃w a b,w<m/\aB es w a/\aB es w b/\a≠b/\∀l,l<m->(aM es w a l->tl es l x y<tl es l z t)/\(aM es w b l->tl es l z t<tl es l x y):=by
 obtain⟨hx,hy⟩:=T.gd.bX F.xy;obtain⟨hz,ht⟩:=T.gd.bX F.zt;by_cases j0:j=0
 .subst j0;have exz:=T.cn.zero hx hz e;subst exz;have nyt:=F.ne rfl;have ns:∀c,c<m->¬aM es z c z:=λc _ q=>by unfold aM at q;rw[b8]at q;lia
  refine⟨z,y,t,hz,F.xy,F.zt,nyt,λl hl=>⟨λhb=>?_,λhb=>?_⟩⟩;{exact pU (j:=0) T F hl hz F.xy e b8 b8 hb (ns y hy) (λq=>nyt (T.kF ht F.xy F.zt q (fW T hz F.zt))) (.inl ⟨rfl,rfl⟩)};exact pU (j:=0) T (F.swap T) hl hz F.zt e b8 b8 hb (ns t ht) (λq=>nyt (T.kF hy F.xy F.zt (fW T hz F.xy) q)) (.inl ⟨rfl,rfl⟩)
 obtain⟨w,hw,h1,h2⟩:=mid T hx hz e;have nwx:w≠x:=λq=>by rw[q,b8]at h1;lia
 have nwz:w≠z:=λq=>by rw[q,b8]at h2;lia
 obtain⟨a,ha,aa,ea⟩:=T.cn.pred T.gd hx hw nwx;obtain⟨b,hb,ab,eb⟩:=T.cn.pred T.gd hz hw nwz;rw[T.cn.sy hz hb,T.cn.sy hz hw]at eb;rw[T.cn.sy hx ha]at ea;have ea':aM es w a x:=by unfold aM;rw[ea,T.cn.sy hx hw]
 have nab:a≠b:=λq=>by subst q;have:=T.cn.fD hx ha hz;rw[T.cn.sy hx ha]at this;lia
 have ft:=F.ft;have fy:=F.fy;have nt:t≠w:=λq=>by rw[q]at ft;lia
 have ny:y≠w:=λq=>by rw[q,T.cn.sy hz hw,T.cn.sy hz hx]at fy;lia
 have bz:aM es w b z:=eb;have bt:aM es w b t:=T.mJ hw hb ab bz F.zt nt;have by':aM es w a y:=T.mJ hw ha aa ea' F.xy ny;refine⟨w,a,b,hw,aa,ab,nab,λl hl=>⟨λq=>?_,λq=>?_⟩⟩;{exact pU T F hl hw aa e h2 h1 q (λr=>nab (T.kF hz aa ab r bz)) (λr=>nab (T.kF ht aa ab r bt)) (.inr (by lia))};exact pU T (F.swap T) hl hw ab (by rw[T.cn.sy hz hx];exact e) (by rw[T.cn.sy hw hx];exact h1) (by rw[T.cn.sy hz hw];exact h2) q (λr=>nab (T.kF hx aa ab ea' r)) (λr=>nab (T.kF hy aa ab by' r)) (.inr (by lia))
def Nc(T:Tree m es){x y z t:Nat}(F:ya es x y z t)(e:ds es x z%2=1){l:Nat}(hl:l<m):tl es l x y≠tl es l z t:=by
 obtain⟨hx,hy⟩:=T.gd.bX F.xy;obtain⟨hz,ht⟩:=T.gd.bX F.zt;have side:∀{x y z t:Nat},ya es x y z t->ds es x z%2=1->ds es l x=ds es l y+1->tl es l x y≠tl es l z t:=λ{x y z t} F e q=>by
  obtain⟨hx,hy⟩:=T.gd.bX F.xy;obtain⟨hz,ht⟩:=T.gd.bX F.zt;have hb:aM es x y l:=by unfold aM;rw[T.cn.sy hy hl,T.cn.sy hx hl];lia
  have fy:=F.fy;have nz:¬aM es x y z:=λr=>by unfold aM at r;rw[T.cn.sy hy hz,T.cn.sy hx hz]at r;lia
  have xz:z≠x:=λr=>by rw[r,b8]at e;lia
  have nt:¬aM es x y t:=λr=>nz (T.mJ hx hy F.xy r (cN _ _ F.zt) xz);have c1:=T.j8 hz hl F.xy nz hb;have c2:=T.j8 ht hl F.xy nt hb;rw[T.cn.sy hz hl,T.cn.sy hy hl]at c1;rw[T.cn.sy ht hl,T.cn.sy hy hl]at c2;unfold tl;lia
 rcases T.near hl F.xy with q|q;{exact side F e q};rcases T.near hl F.zt with r|r;{exact Ne.symm (side (F.swap T) (by rw[T.cn.sy hz hx];exact e) r)};have:=T.par hl (T.cn.is hx hz).1;unfold tl;lia
def JI(T:Tree m es)(he:e∈es)(hf:f∈es)(ne:e≠f):∃x y z t,ya es x y z t/\(∀l,td es l (.inr e)=tl es l x y)/\∀l,td es l (.inr f)=tl es l z t:=by
 have ae:aB es e.1 e.2:=.inl he;have af:aB es f.1 f.2:=.inl hf;obtain⟨h1,h2⟩:=T.gd.bX ae;obtain⟨h3,h4⟩:=T.gd.bX af
 -- the end of e that is nearer to f's first
 have⟨x,y,axy,fy,te,se⟩:∃x y,aB es x y/\ds es f.1 y=ds es f.1 x+1/\(∀l,td es l (.inr e)=tl es l x y)/\((x=e.1/\y=e.2)\/(x=e.2/\y=e.1)):=by
  rcases T.near h3 ae with q|q
  .exact⟨e.2,e.1,cN _ _ ae,q,λl=>v9,.inr ⟨rfl,rfl⟩⟩
  .exact⟨e.1,e.2,ae,q,λl=>rfl,.inl ⟨rfl,rfl⟩⟩
 obtain⟨hx,hy⟩:=T.gd.bX axy;rcases T.near hx af with q|q
 .refine⟨x,y,f.2,f.1,⟨axy,cN _ _ af,?_,q,λz1 z2=>?_⟩,te,λl=>v9⟩
  .have g1:=T.near h4 axy;have g2:=T.cn.fD h3 h4 hy;have g3:=T.dn h3 af;rw[T.cn.sy hx h3,T.cn.sy hx h4]at q;lia
  .have el:=(T.gd.lt e he).1;have fl:=(T.gd.lt f hf).1;rcases se with⟨r1,r2⟩|⟨r1,r2⟩
   .lia
   .exact ne (Prod.ext (by lia) (by lia))
 .refine⟨x,y,f.1,f.2,⟨axy,af,fy,q,λz1 z2=>?_⟩,te,λl=>rfl⟩
  have el:=(T.gd.lt e he).1;have fl:=(T.gd.lt f hf).1;rcases se with⟨r1,r2⟩|⟨r1,r2⟩
  .exact ne (Prod.ext (by lia) (by lia))
  .lia
def zS(T:Tree m es)(hl:∀l∈ls,l<m)(he:e∈es)(hf:f∈es)(ne:e≠f):pt es ls (.inr e) (.inr f)=ls.length\/∃w a b,aB es w a/\aB es w b/\a≠b/\cb es ls w a+cb es ls w b<=pt es ls (.inr e) (.inr f):=by obtain⟨x,y,z,t,F,te,tf⟩:=JI T he hf ne;rcases Nat.mod_two_eq_zero_or_one (ds es x z)with q|q;{right;obtain⟨w,a,b,hw,aa,ab,nab,h⟩:=LR T F (j:=ds es x z/2) (by lia);refine⟨w,a,b,aa,ab,nab,Hg T hl aa ab nab (λl hl' hb=>?_) λl hl' hb=>?_⟩;{rw[te,tf];have:=(h l (hl l hl')).1 hb;lia};rw[te,tf];have:=(h l (hl l hl')).2 hb;lia};left;exact GX λl hl'=>by rw[te,tf];exact Nc T F q (hl l hl')
def xK(T:Tree m es)(hl:∀l∈ls,l<m){u:Nat}(hu:u<m)(he:e∈es):∃w a,aB es w a/\cb es ls w a<=pt es ls (.inl u) (.inr e):=by
 have ae:aB es e.1 e.2:=.inl he;have⟨x,y,axy,fy,te⟩:∃x y,aB es x y/\ds es u y=ds es u x+1/\∀l,td es l (.inr e)=tl es l x y:=by rcases T.near hu ae with q|q;{exact⟨e.2,e.1,cN _ _ ae,q,λl=>v9⟩};exact⟨e.1,e.2,ae,q,λl=>rfl⟩
 obtain⟨hx,hy⟩:=T.gd.bX axy;refine⟨x,y,axy,Po λl hl' hb=>?_⟩;have hlm:=hl l hl';have nu:¬aM es x y u:=λr=>by unfold aM at r;rw[T.cn.sy hy hu,T.cn.sy hx hu]at r;lia
 have c1:=T.j8 hu hlm axy nu hb;rw[te];show ds es l u≠tl es l x y;unfold aM at hb;rw[T.cn.sy hu hlm,T.cn.sy hy hlm]at c1;rw[T.cn.sy hy hlm,T.cn.sy hx hlm]at hb;unfold tl;lia
def Lk{ls:Zb}{p q r:Nat->Bool}(h:∀l∈ls,r l=true->p l=true\/q l=true):(ls.filter r).length<=(ls.filter p).length+(ls.filter q).length:=by
 induction ls with
 |nil=>exact U5 _
 |cons a ls ih=>have ih:=ih λl hl=>h l (U4 _ hl);have k:=h a U1;rw[W9,W9,W9];cases e1:p a<;>cases e2:q a<;>cases e3:r a<;>simp_all<;>lia
def Hz{ls:Zb}{w a b:Nat}{t u:Th}(h:∀l∈ls,td es l t≠td es l u->aM es w a l\/aM es w b l):pt es ls t u<=cb es ls w a+cb es ls w b:=Lk λl hl hr=>(h l hl (UT hr)).imp (λz=>V6 (p:=ds es a l+1=ds es w l) z) λz=>V6 (p:=ds es b l+1=ds es w l) z
def NY{ls:Zb}{w a:Nat}{t u:Th}(h:∀l∈ls,td es l t≠td es l u->aM es w a l):pt es ls t u<=cb es ls w a:=by
 have:=Lk (ls:=ls) (r:=λl=>decide (td es l t≠td es l u)) (p:=λl=>decide (ds es a l+1=ds es w l)) (q:=λ_=>false) λl hl hr=>.inl (V6 (p:=ds es a l+1=ds es w l) (h l hl (UT hr)));have e:(ls.filter λ_=>false)=[]:=Z5.mpr λ_ _ z=>by cases z
 rw[e]at this;exact this
def Ac(T:Tree m es){l w a:Nat}:td es l (.inr (jB w a))=tl es l w a:=by show min (ds es l (min w a)) (ds es l (max w a))=min (ds es l w) (ds es l a);rcases XG w a with h|h;{rw[Wt h,Yz h]};rw[Wu h,Nat.max_eq_left h,Nat.min_comm]
def Iw(T:Tree m es)(hl:∀l∈ls,l<m){w a b:Nat}(h:aB es w a)(g:aB es w b):pt es ls (.inl a) (.inl b)<=cb es ls w a+cb es ls w b:=Hz λl hl' ne=>by obtain⟨hw,ha⟩:=T.gd.bX h;have hb:=(T.gd.bX g).2;have hlm:=hl l hl';have ne:ds es l a≠ds es l b:=ne;have e1:=T.near hlm h;have e2:=T.near hlm g;unfold aM;rw[T.cn.sy ha hlm,T.cn.sy hw hlm,T.cn.sy hb hlm];lia
def L1(T:Tree m es)(hl:∀l∈ls,l<m){w a b:Nat}(h:aB es w a)(g:aB es w b):pt es ls (.inr (jB w a)) (.inr (jB w b))<=cb es ls w a+cb es ls w b:=Hz λl hl' ne=>by obtain⟨hw,ha⟩:=T.gd.bX h;have hb:=(T.gd.bX g).2;have hlm:=hl l hl';rw[Ac T,Ac T]at ne;unfold tl at ne;have e1:=T.near hlm h;have e2:=T.near hlm g;unfold aM;rw[T.cn.sy ha hlm,T.cn.sy hw hlm,T.cn.sy hb hlm];lia
def Oe(T:Tree m es)(hl:∀l∈ls,l<m){w a:Nat}(h:aB es w a):pt es ls (.inl w) (.inr (jB w a))<=cb es ls w a:=NY λl hl' ne=>by obtain⟨hw,ha⟩:=T.gd.bX h;have hlm:=hl l hl';rw[Ac T]at ne;have ne:ds es l w≠tl es l w a:=ne;unfold tl at ne;have e1:=T.near hlm h;unfold aM;rw[T.cn.sy ha hlm,T.cn.sy hw hlm];lia
end
end PB
namespace Dv
open PySem L2
def N7{most i:Nat}:Bl most i e D (o::E)=(jU (o::E) i=true/\e D.xc (o::E) λE1 k v=>k.fz=true/\K4 most E1 i v D.nx):=by unfold Bl;congr 1;congr 1;funext E1 k v;congr 1;unfold K4;refine propext ⟨λ⟨p,ds,es,e1,e2,h,q⟩=>by subst e2;rw[e1];exact⟨h,q⟩,λh=>?_⟩;split at h;{rename_i p ds es e1;exact⟨p,ds,es,e1,rfl,h.1,h.2⟩};exact h.elim
def RH{most i:Nat}{p:Bool}(h:E[i]?=some (some (.ow p,.list ds)))(hl:ds.length+es.length<=most)(q:Q (E.set i (some (.ow p,.list (ds++es))))):K4 most E i (.list es) Q:=by unfold K4;rw[h];exact⟨hl,q⟩
end Dv
namespace PB
open PySem L2 Dv Gr
def pc(m:Nat)(es:ZP) (p n:Nat):Zb:=(List.range m).filter λx=>decide (ds es n x+1=ds es p x)
def cz{m p n x:Nat}:x∈pc m es p n↔x<m/\aM es p n x:=by unfold pc;rw[UP,UX,VM];exact Iff.rfl
def yM{m p n:Nat}:rising (pc m es p n):=XI _ XX
structure vD(m:Nat)(es:ZP) (p n:Nat)(vis:Zb)(stk:ZP):Prop where
 nd:(vis++stk.map (·.2)).Nodup
 yh:∀x∈vis++stk.map (·.2),x<m/\aM es p n x
 par:∀q∈stk,aB es q.1 q.2/\ds es p q.2=ds es p q.1+1
 cl:∀x∈vis,∀y,aB es x y->ds es p y=ds es p x+1->y∈vis++stk.map (·.2)
 up:∀x∈vis++stk.map (·.2),x≠n->∃y∈vis,aB es y x/\ds es p x=ds es p y+1
 st:n∈vis++stk.map (·.2)
def vD.start{m p n:Nat}(T:Tree m es)(h:aB es p n):vD m es p n [] [(p,n)]:=by
 obtain⟨hp,hn⟩:=T.gd.bX h;have one:∀x,x∈([]:Zb)++[(p,n)].map (·.2)↔x=n:=λx=>by simp
 refine⟨by simp,λx hx=>?_,λq hq=>?_,λx hx=>absurd hx UM,λx hx ne=>absurd ((one x).mp hx) ne,(one n).mpr rfl⟩;{rw[(one x).mp hx];exact⟨hn,fW T hp h⟩};rw[U8.mp hq];exact⟨h,by rw[b8,T.dn hp h]⟩
def vD.step{m p n l h:Nat}{es:ZP}{vis:Zb}{stk:ZP}(T:Tree m es)(hpn:aB es p n)(D:vD m es p n vis (stk++[(l,h)])):vD m es p n (vis++[h]) (stk++((cM es h).filter λy=>decide (y≠l)).map λy=>(h,y)):=by
 obtain⟨hp,hn⟩:=T.gd.bX hpn;have old:∀x,x∈vis++(stk++[(l,h)]).map (·.2)↔x∈vis\/x∈stk.map (·.2)\/x=h:=λx=>by
  rw[UE,V2,UE];simp
 have hh:=D.yh h ((old h).mpr (.inr (.inr rfl)));have⟨alh,elh⟩:=D.par (l,h) (UE.mpr (.inr U1));have alh:aB es l h:=alh;have elh:ds es p h=ds es p l+1:=elh;have kid:∀y,aB es h y->(y≠l↔ds es p y=ds es p h+1):=λy a=>by
  constructor
  .intro ne;rcases T.near hp a with z|z
   .exact absurd (T.one hp a (cN _ _ alh) z (by lia)) ne
   .exact z
  .rintro e rfl;lia
 have newm:∀y,y∈(((cM es h).filter λy=>decide (y≠l)).map λy=>(h,y)).map (·.2)↔aB es h y/\ds es p y=ds es p h+1:=λy=>by
  rw[V1];have:((λx:Nat×Nat=>x.2)∘λy=>(h,y))=id:=rfl
  rw[this,List.map_id,UP,VM,bH];exact⟨λ⟨a,b⟩=>⟨a,(kid y a).mp b⟩,λ⟨a,b⟩=>⟨a,(kid y a).mpr b⟩⟩
 have ndo:=D.nd;rw[V2,<-Vd]at ndo;have hnot:h∉vis++stk.map (·.2):=λz=>(VR.mp ndo).2.2 h z h (by simp) rfl
 have nvis:h∉vis:=λz=>hnot (UE.mpr (.inl z))
 have newn:∀y,aB es h y->ds es p y=ds es p h+1->y∉vis++(stk++[(l,h)]).map (·.2):=λy a e z=>by
  have yn:y≠n:=λq=>by
   have h1:=T.dn hp hpn;have h2:=hh.2;unfold aM at h2;rw[q]at e;lia
  obtain⟨w,hw,b,e2⟩:=D.up y z yn;have:=T.one hp (cN _ _ a) (cN _ _ b) e e2;exact nvis (this▸hw)
 have nw:∀x,x∈(vis++[h])++(stk++((cM es h).filter λy=>decide (y≠l)).map λy=>(h,y)).map (·.2)↔(x∈vis\/x∈stk.map (·.2)\/x=h)\/(aB es h x/\ds es p x=ds es p h+1):=λx=>by
  rw[UE,V2,UE,UE,newm,U8];constructor
  .rintro ((a|a)|a|a)
   .exact .inl (.inl a)
   .exact .inl (.inr (.inr a))
   .exact .inl (.inr (.inl a))
   .exact .inr a
  .rintro ((a|a|a)|a)
   .exact .inl (.inl a)
   .exact .inr (.inl a)
   .exact .inl (.inr a)
   .exact .inr (.inr a)
 refine⟨?_,λx hx=>?_,λq hq=>?_,λx hx y a e=>?_,λx hx ne=>?_,?_⟩
 ·-- none twice
  rw[V2,<-Vd,VR];refine⟨?_,?_,λa ha b hb e=>?_⟩
  .rw[Vd];refine List.Perm.nodup_iff (Yo vis List.perm_append_comm) |>.mpr ?_;rw[<-Vd];exact ndo
  .rw[V1];have:((λx:Nat×Nat=>x.2)∘λy=>(h,y))=id:=rfl
   rw[this,List.map_id];exact Vi Vt (T.gd.fP h)
  .subst e;have hb:=(newm a).mp hb;refine newn a hb.1 hb.2 ((old a).mpr ?_);rcases UE.mp ha with z|z
   .rcases UE.mp z with z|z
    .exact .inl z
    .exact .inr (.inr (U8.mp z))
   .exact .inr (.inl z)
 .rcases(nw x).mp hx with z|⟨a,e⟩
  .exact D.yh x ((old x).mpr z)
  .exact⟨(T.gd.bX a).2,T.mJ hp hn hpn hh.2 a λq=>by rw[q,b8]at e;lia⟩
 .rcases UE.mp hq with z|z
  .exact D.par q (UE.mpr (.inl z))
  .obtain⟨y,hy,rfl⟩:=U9.mp z;have:=(newm y).mp (U9.mpr ⟨_,z,rfl⟩);exact this
 .rw[nw];rcases UE.mp hx with z|z
  .exact .inl ((old y).mp (D.cl x z y a e))
  .rw[U8.mp z]at a e;exact .inr ⟨a,e⟩
 .rcases(nw x).mp hx with z|⟨a,e⟩
  .obtain⟨y,hy,b,e⟩:=D.up x ((old x).mpr z) ne;exact⟨y,UE.mpr (.inl hy),b,e⟩
  .exact⟨h,UE.mpr (.inr U1),a,e⟩
 .rw[nw];exact .inl ((old n).mp D.st)
def vD.done{m p n:Nat}(T:Tree m es)(h:aB es p n)(D:vD m es p n vis []):vis.Perm (pc m es p n):=by
 obtain⟨hp,hn⟩:=T.gd.bX h;have e:vis++([]:ZP).map (·.2)=vis:=VF _;have all:∀(k x:Nat),x<m->aM es p n x->ds es n x=k->x∈vis:=by
  intro k;induction k with
  |zero=>intro x hx hb e0;have:=T.cn.zero hn hx e0;subst this;have:=D.st;rw[e]at this;exact this
  |succ k ih=>
   intro x hx hb e1;obtain⟨y,hy,a,by',e2,e3⟩:=T.IZ hp hx h hb λq=>by rw[q,b8]at e1;lia
   have:=D.cl y (ih y hy by' (by lia)) x a e2;rw[e]at this;exact this
 have nd:=D.nd;rw[e]at nd;have nd2:(pc m es p n).Nodup:=Vi Vt Vh;refine(YS nd nd2).mpr λx=>?_;rw[cz];constructor;{intro hx;have:=D.yh x (by rw[e];exact hx);exact this};rintro⟨hx,hb⟩;exact all _ x hx hb rfl
theorem m8:∀{l k:Zb},l.Perm k->l.Pairwise (·<=·)->k.Pairwise (·<=·)->l=k
 |[],k,p,_,_=>(List.Perm.nil_eq p)
 |a::l,[],p,_,_=>by have:=p.length_eq;simp at this
 |a::l,b::k,p,h1,h2=>by
  have ha:a∈b::k:=p.mem_iff.mp U1;have hb:b∈a::l:=p.mem_iff.mpr U1;have e:a=b:=by
   have l1:b<=a:=by rcases U6.mp ha with z|z;{lia};exact(Vj.mp h2).1 a z
   have l2:a<=b:=by rcases U6.mp hb with z|z;{lia};exact(Vj.mp h1).1 b z
   lia
  subst e;rw[m8 (List.perm_cons a |>.mp p) (Vj.mp h1).2 (Vj.mp h2).2]
def FJ(h:rising l):l.Pairwise (·<=·):=h.imp λh=>Vk h
def D6:bq:=λdd Q x=>∃m es p n,dd=[vJ m es,iD p,iD n]/\m<=60/\Tree m es/\aB es p n/\Q [] (.ow false) (nD (pc m es p n))
def PV:∀dd Q x,D6 dd Q x->jS (aX [false,false,false] Q x) (ini [false,false,false] dd++List.replicate 5 none):=by
 rintro _ Q x⟨m,es,p,n,rfl,hm,T,hpn,q⟩;unfold jS;rfl';refine⟨by lia,by lia,by lia,?_⟩;refine⟨λk E=>∃(vis:Zb)(stk:ZP)(o5 o6:Zg),E=[some (.sh,vJ m es),some (.sh,iD p),some (.sh,iD n),some (.ow false,nD vis),some (.ow false,.list (stk.map ia)),o5,o6,none]/\cg o5=true/\cg o6=true/\k=m-vis.length/\vD m es p n vis stk,⟨m,[],[(p,n)],none,none,rfl,rfl,rfl,rfl,vD.start T hpn⟩,?_⟩;rintro k _⟨vis,stk,o5,o6,rfl,h5,h6,rfl,D⟩;simp![YR];rcases List.eq_nil_or_concat stk with rfl|⟨stk,⟨l,h⟩,rfl⟩
 .simp![Z1];have pm:=D.done T hpn;have hl:vis.length<=m:=by rw[pm.length_eq];exact pO yM λx hx=>(cz.mp hx).1
  refine CN (by lia) λms p1 s1=>?_;rw[m8 (p1.trans pm) s1 (FJ yM)];rfl';exact q
 have ne:(stk++[(l,h)]).isEmpty=false:=by simp
 rw[List.concat_eq_append]at D⊢;have e1:(List.map ia (stk++[(l,h)]))[(stk++[(l,h)]).length-1]?=some (ia (l,h)):=by rw[V2,UR];show(stk.map ia++[ia (l,h)])[stk.length+1-1]?=_;rw[Nat.add_sub_cancel,WI (by rw[U7];exact U5 _),U7,Nat.sub_self];rfl
 have e2:(List.map ia (stk++[(l,h)])).dropLast=stk.map ia:=by rw[V2];exact List.dropLast_concat
 have hhm:h<m/\aM es p n h:=D.yh h (by simp);have D2:=D.step T hpn;have hv:(vis++[h]).length<=m:=Gr.eV m _ (VR.mp D2.nd).1 λx hx=>(D2.yh x (UE.mpr (.inl hx))).1;rw[UR]at hv;have hv:vis.length+1<=m:=hv;simp![ne,e1,e2,h5,h6,N7,VQ hhm.1];refine⟨by lia,?_⟩;have hst:stk.length+((cM es h).filter λy=>decide (y≠l)).length<=m:=by have:=Gr.eV m _ (VR.mp D2.nd).2.1 λx hx=>(D2.yh x (UE.mpr (.inr hx))).1;rw[U7,UR,U7]at this;exact this
 refine jb (λy=>if decide (y≠l)=true then some (ia (h,y))else none) rfl (λy hy I hI=>?_) ?_ (by have:=T.gd.oK h;lia);{simp only[dv,dw,dx,dy,dz,Nat.reduceBEq]at hI⊢;split;{rename_i c;rw[if_pos c]at hI;exact⟨by lia,hI _ rfl⟩};rename_i c;rw[if_neg c]at hI;exact hI _ rfl};rw[dY];refine⟨rfl,RH rfl (by rw[U7,U7];lia) ⟨m-(vis++[h]).length,by rw[UR];show m-(vis.length+1)<_;lia,vis++[h],_,some (.sh,iD l),some (.sh,iD h),?_,rfl,rfl,rfl,D2⟩⟩;rw[Cu,V2,V1];rfl
def Ed:bq:=λdd Q x=>∃m es,dd=[wD m es]/\1<=m/\Q [] .sh (.bool (decide (es.length+1=m)))
def NU:∀dd Q x,Ed dd Q x->qV (aX [false] Q x) (ini [false] dd++List.replicate 2 none):=by
 rintro _ Q x⟨m,es,rfl,hm,q⟩;unfold qV;rfl';have e:decide ((es.length:Int)=(m:Int)-1)=decide (es.length+1=m):=by by_cases c:es.length+1=m;{rw[V6 c,V6 (by lia)]};rw[VH c,VH (by lia)]
 rw[e];exact q
def qI:bq:=λdd Q x=>∃m es,dd=[wD m es]/\1<=m/\(es.length+1=m->Q [] .sh .none)/\(es.length+1≠m->x "NoTree" .none)
def Qd:∀dd Q x,qI dd Q x->iK Ed (aX [false] Q x) (ini [false] dd++List.replicate 0 none):=by rintro _ Q x⟨m,es,rfl,hm,q,r⟩;unfold iK;rfl';refine⟨m,es,rfl,hm,?_⟩;rfl';split;{rename_i h;exact r h};rename_i h;exact q (Z3 h)
def Ei:bq:=λdd Q x=>∃m es p,dd=[wD m es,iD p]/\bF m es/\es.length+1=m/\p<m/\Q [] (.ow false) (.list ((cM es p).map λn=>nD (pc m es p n)))
def NK:∀dd Q x,Ei dd Q x->nF qI wU rJ D6 (aX [false,false] Q x) (ini [false,false] dd++List.replicate 2 none):=by rintro _ Q x⟨m,es,p,rfl,W,ht,hp,q⟩;have hm:=W.le;have T:Tree m es:=⟨W.gd,W.cn,ht⟩;unfold nF;rfl';refine⟨m,es,rfl,W.pos,λ_=>?_,λz=>absurd ht z⟩;rfl';refine⟨m,es,p,rfl,λ_=>?_,λz=>absurd ⟨by lia,by lia⟩ z⟩;rfl';refine⟨m,es,rfl,W.le,W.gd,?_⟩;simp![VQ hp];refine gg (λn=>nD (pc m es p n)) rfl (λn hn I hI=>?_) ?_ (by have:=W.gd.oK p;lia);{rfl';refine⟨m,es,p,n,rfl,W.le,T,bH.mp hn,?_⟩;rfl';exact hI _ rfl};rfl';exact q
section
variable{m:Nat}{es:ZP}{ls:Zb}
def uE{k:Str}(gd:Good m es):(aR k m es).Nodup:=by unfold aR;refine VR.mpr ⟨?_,?_,λa ha b hb e=>?_⟩;{split;{exact VY};exact YQ _ (λa b h e=>h (by cases e;rfl)) Vh};{split;{exact VY};exact YQ _ (λa b h e=>h (by cases e;rfl)) gd.nd};subst e;split at ha;{cases ha};obtain⟨x,_,rfl⟩:=U9.mp ha;split at hb;{cases hb};obtain⟨y,_,e⟩:=U9.mp hb;cases e
def zk{ts:List Th}(nd:ts.Nodup)(h:2<=ts.length):∃t u,t∈ts/\u∈ts/\t≠u:=⟨ts[0],ts[1],W3 _,W3 _,WM.mp nd 0 1 (by lia) (by lia) (by lia)⟩
def Jk(T:Tree m es)(hl:∀l∈ls,l<m){k:Str}(hk:k="places"\/k="ties"){t u:Th}(ht:t∈aR k m es)(hu:u∈aR k m es)(ne:t≠u):pt es ls t u=ls.length\/∃w a b,aB es w a/\aB es w b/\a≠b/\cb es ls w a+cb es ls w b<=pt es ls t u:=by
 rcases hk with rfl|rfl
 .have e:aR "places" m es=(List.range m).map Sum.inl:=by unfold aR;rw[if_neg (by decide),if_pos rfl,VF]
  rw[e]at ht hu;obtain⟨x,hx,rfl⟩:=U9.mp ht;obtain⟨y,hy,rfl⟩:=U9.mp hu;exact vI T hl (UX.mp hx) (UX.mp hy) λz=>ne (by rw[z])
 have e:aR "ties" m es=es.map Sum.inr:=by unfold aR;rw[if_pos rfl,if_neg (by decide),Xe]
 rw[e]at ht hu;obtain⟨x,hx,rfl⟩:=U9.mp ht;obtain⟨y,hy,rfl⟩:=U9.mp hu;exact zS T hl hx hy λz=>ne (by rw[z])
def LV(T:Tree m es)(hl:∀l∈ls,l<m)(ht:t∈aR "all" m es)(hu:u∈aR "all" m es)(ne:t≠u):pt es ls t u=ls.length\/∃w a,aB es w a/\cb es ls w a<=pt es ls t u:=by
 have e:aR "all" m es=(List.range m).map Sum.inl++es.map Sum.inr:=by unfold aR;rw[if_neg (by decide),if_neg (by decide)]
 rw[e]at ht hu;rcases UE.mp ht with h|h<;>rcases UE.mp hu with g|g<;>obtain⟨x,hx,rfl⟩:=U9.mp h<;>obtain⟨y,hy,rfl⟩:=U9.mp g;{exact(vI T hl (UX.mp hx) (UX.mp hy) λz=>ne (by rw[z])).imp id λ⟨w,a,b,h1,_,_,h4⟩=>⟨w,a,h1,by lia⟩};{exact .inr (xK T hl (UX.mp hx) hy)};{rw[MM];exact .inr (xK T hl (UX.mp hy) hx)};exact(zS T hl hx hy λz=>ne (by rw[z])).imp id λ⟨w,a,b,h1,_,_,h4⟩=>⟨w,a,h1,by lia⟩
def GJ(T:Tree m es){k:Str}(hk:k="places"\/k="ties"){w a b:Nat}(ha:aB es w a)(hb:aB es w b)(ne:a≠b)(L:∀l∈ls,l<m):∃t u,t∈aR k m es/\u∈aR k m es/\t≠u/\pt es ls t u<=cb es ls w a+cb es ls w b:=by
 have hwm:=T.gd.bX ha;have hbm:=T.gd.bX hb;rcases hk with rfl|rfl
 .have e:aR "places" m es=(List.range m).map Sum.inl:=by unfold aR;rw[if_neg (by decide),if_pos rfl,VF]
  rw[e];exact⟨.inl a,.inl b,U9.mpr ⟨a,UX.mpr hwm.2,rfl⟩,U9.mpr ⟨b,UX.mpr hbm.2,rfl⟩,λz=>ne (by cases z;rfl),Iw T L ha hb⟩
 have e:aR "ties" m es=es.map Sum.inr:=by unfold aR;rw[if_pos rfl,if_neg (by decide),Xe]
 rw[e];refine⟨.inr (jB w a),.inr (jB w b),U9.mpr ⟨_,oZ T.gd ha,rfl⟩,U9.mpr ⟨_,oZ T.gd hb,rfl⟩,λz=>ne ?_,L1 T L ha hb⟩;have z:jB w a=jB w b:=Sum.inr.inj z;have e1:min w a=min w b:=congrArg Prod.fst z;have e2:max w a=max w b:=congrArg Prod.snd z;lia
end
def f6(k:Str):Prop:=k="places"\/k="ties"\/k="all"
end PB
namespace Dv
open PySem L2
def mR{α:Type}{l:List α}{enc:α->PyData}{tg:Tg}{b:DS}{D:jl}{E1:En}(I:Nat->En->Prop)(h0:I 0 E1)(hs:∀(J:Zj) i a E,l[i]?=some a->(∀E',I (i+1) E'->J E')->I i E->∃E2,cT tg (enc a) E=some E2/\b { D with nx:=J } E2)(he:∀E,I l.length E->D.nx E):zV (l.map enc) tg b D E1:=mX I h0 (λi a E ha hi=>hs (I (i+1)) i a E ha (λ_ h=>h) hi) he
def Lr{n:Nat}{enc:Nat->PyData}{tg:Tg}{b:DS}{D:jl}{E1:En}(I:Nat->En->Prop)(h0:I 0 E1)(hs:∀(J:Zj) i E,i<n->(∀E',I (i+1) E'->J E')->I i E->∃E2,cT tg (enc i) E=some E2/\b { D with nx:=J } E2)(he:∀E,I n E->D.nx E):zV ((List.range n).map enc) tg b D E1:=NI I h0 (λi E ha hi=>hs (I (i+1)) i E ha (λ_ h=>h) hi) he
def Rc{α:Type}{l:List α}{enc:α->PyData}{cs:Zb}{tg:Tg}{c:DT}{r:DC}{E1:En}{Q:Ze}(E0:En)(I:Nat->ZU->En->Prop)(h0:bE cs E1=some E0)(h1:I 0 [] E0)(hs:∀(J:ZU->En->Prop) i a ys E,l[i]?=some a->(∀ys' E',I (i+1) ys' E'->J ys' E')->I i ys E->∃E2,cT tg (enc a) E=some E2/\c xF E2 λE3 b=>if b=true then r xF ys E3 J else J ys E3)(he:∀ys E,I l.length ys E->∃E2,bE cs E=some E2/\Q E2 (.ow false) (.list ys)):xE cs (l.map enc) tg c r E1 Q:=KI E0 I h0 h1 (λi a ys E ha hi=>hs (I (i+1)) i a ys E ha (λ_ _ h=>h) hi) he
end Dv
namespace PB
open PySem L2 Dv Gr
def d7(l:Zb):Nat:=l.foldr (·*·) 1
def but:Zb->Nat
 |[]=>0
 |a::l=>d7 l+a*but l
theorem AY{a:Nat}:∀{l:Zb},d7 (l++[a])=d7 l*a
 |[]=>by simp[d7]
 |b::l=>by have:=AY (a:=a) (l:=l);show b*d7 (l++[a])=b*d7 l*a;rw[this,Xm]
theorem Dk:∀{l:Zb},d7 l<=2^l.sum
 |[]=>U5 _
 |a::l=>by show a*d7 l<=2^(a+l.sum);rw[Nat.pow_add];exact Wa (Vk Nat.lt_two_pow_self) Dk
theorem wC:∀{l:Zb},but l<=2^l.sum
 |[]=>V3 _
 |a::l=>by show d7 l+a*but l<=2^(a+l.sum);rw[Nat.pow_add];have h1:=Dk (l:=l);have h2:=Wa (U5 a) (wC (l:=l));have h3:=Wa (Nat.succ_le_of_lt (Nat.lt_two_pow_self (n:=a))) (U5 (2^l.sum));rw[Nat.succ_mul]at h3;lia
def cV(sp ls:Zb) (st:Nat):Nat×Nat:=if 0<(sp.filter λs=>decide (s∈ls)).length then(if(sp.filter λs=>decide (s∈ls)).length=1 then 1 else 0,0)else((sp.filter λs=>decide (st<=s)).length,1)
def yI{l:Nat}{ls:Zb}:iD l∈ls.map iD↔l∈ls:=⟨λh=>by obtain⟨y,hy,e⟩:=U9.mp h;rw[<-EY.mp e];exact hy,λh=>U9.mpr ⟨l,h,rfl⟩⟩
def yS{ls:Zb}:(ls.all λa=>dl 8 (iD a))=true:=by rw[US];exact λ_ _=>rfl
def ET:bq:=λdd Q x=>∃sp ls st,dd=[nD sp,nD ls,iD st]/\sp.length<=60/\Q [] .sh (.tuple [iD (cV sp ls st).1,iD (cV sp ls st).2])
def QH:∀dd Q x,ET dd Q x->nX (aX [false,false,false] Q x) (ini [false,false,false] dd++List.replicate 2 none):=by rintro _ Q x⟨sp,ls,st,rfl,hl,q⟩;unfold nX;rfl';refine jb (λs=>if decide (s∈ls)=true then some (iD s)else none) rfl (λs hs J hJ=>?_) ?_ (by lia);{simp only[dv,dw,dx,dy,dz,Nat.reduceBEq,yS,yI]at hJ⊢;refine⟨rfl,?_⟩;split;{rename_i c;rw[if_pos c]at hJ;exact hJ _ rfl};rename_i c;rw[if_neg c]at hJ;exact hJ _ rfl};rw[dY];rfl';unfold cV at q;split;{rename_i c;rw[if_pos c]at q;split;{rename_i c1;rw[if_pos (by lia)]at q;exact⟨by lia,q⟩};rename_i c1;rw[if_neg (by lia)]at q;exact⟨by lia,q⟩};rename_i c;rw[if_neg c]at q;refine jb (λs=>if decide (st<=s)=true then some (iD s)else none) rfl (λs hs J hJ=>?_) ?_ (by lia);{simp only[dv,dw,dx,dy,dz,Nat.reduceBEq]at hJ⊢;split;{rename_i c;rw[if_pos c]at hJ;exact hJ _ rfl};rename_i c;rw[if_neg c]at hJ;exact hJ _ rfl};rw[dY];rfl';exact⟨by lia,q⟩
def f9(ls:Zb) (st:Nat)(g:ZM):Nat×Nat:=g.foldl (λa sp=>(a.1*(cV sp ls st).1,a.2*(cV sp ls st).1+a.1*(cV sp ls st).2)) (1,0)
def HD{sp ls:Zb}{st:Nat}(h:sp.length<=60):(cV sp ls st).1<=60/\(cV sp ls st).2<=1:=by unfold cV;have:=W4 (λs=>decide (st<=s)) sp;split;{split<;>exact⟨by simp,by simp⟩};exact⟨by simp only;lia,by simp⟩
abbrev gD(g:ZM):PyData:=.list (g.map nD)
def EN:bq:=λdd Q x=>∃g ls st,dd=[gD g,nD ls,iD st]/\(∀sp∈g,sp.length<=60)/\Q [] .sh (iD (f9 ls st g).2)
def Ou:∀dd Q x,EN dd Q x->mF ET (aX [false,false,false] Q x) (ini [false,false,false] dd++List.replicate 5 none):=by rintro _ Q x⟨g,ls,st,rfl,hl,q⟩;unfold mF;rfl';refine mR (λi E=>∃o5 o6 o7:Zg,E=[some (.sh,gD g),some (.sh,nD ls),some (.sh,iD st),some (.sh,iD (f9 ls st (g.take i)).1),some (.sh,iD (f9 ls st (g.take i)).2),o5,o6,o7]/\cg o5=true/\cg o6=true/\cg o7=true) ⟨none,none,none,rfl,rfl,rfl,rfl⟩ ?_ ?_;{rintro J i sp _ hi hJ⟨o5,o6,o7,rfl,h5,h6,h7⟩;have hs:=hl sp (V7 hi);have hw:=HD (ls:=ls) (st:=st) hs;simp![h5];refine⟨sp,ls,st,rfl,hs,?_⟩;simp![h6,h7];refine⟨.inr ⟨by lia,by lia⟩,.inr ⟨by lia,by lia⟩,.inr ⟨by lia,by lia⟩,hJ _ ⟨some (.sh,nD sp),some (.sh,iD (cV sp ls st).1),some (.sh,iD (cV sp ls st).2),?_,rfl,rfl,rfl⟩⟩;rw[take_snoc hi];unfold f9;rw[List.foldl_append];rfl};rintro _⟨o5,o6,o7,rfl,h5,h6,h7⟩;rw[VS];rfl';exact q
abbrev iF(gs:List (ZM)):PyData:=.list (gs.map gD)
def cj(ls:Zb) (st:Nat)(gs:List (ZM)):Nat:=d7 (gs.map λg=>(f9 ls st g).2)
def nS:bq:=λdd Q x=>∃gs ls st,dd=[iF gs,nD ls,iD st]/\(∀g∈gs,(∀sp∈g,sp.length<=60)/\(f9 ls st g).2<2^64)/\Q [] .sh (iD (cj ls st gs))
def Pw:∀dd Q x,nS dd Q x->nj EN (aX [false,false,false] Q x) (ini [false,false,false] dd++List.replicate 2 none):=by rintro _ Q x⟨gs,ls,st,rfl,hl,q⟩;unfold nj;rfl';refine mR (λi E=>∃o4:Zg,E=[some (.sh,iF gs),some (.sh,nD ls),some (.sh,iD st),some (.sh,iD (cj ls st (gs.take i))),o4]/\cg o4=true) ⟨none,rfl,rfl⟩ ?_ ?_;{rintro J i g _ hi hJ⟨o4,rfl,h4⟩;have hs:=hl g (V7 hi);simp![h4];refine⟨g,ls,st,rfl,hs.1,?_⟩;simp![h4];refine⟨.inr ⟨by lia,by have:=hs.2;lia⟩,hJ _ ⟨some (.sh,gD g),?_,rfl⟩⟩;rw[take_snoc hi];unfold cj;rw[V2,List.map_singleton,AY];rfl};rintro _⟨o4,rfl,h4⟩;rw[VS];rfl';exact q
def dh(es:ZP) (p:Nat):Nat:=(cM es p).length
def cQ(m:Nat)(es:ZP):Zb:=(List.range m).filter λp=>decide (2<dh es p)
def ens(m:Nat)(es:ZP):Zb:=(List.range m).filter λp=>decide (dh es p=1)
def gB(m:Nat)(es:ZP) (p:Nat):ZM:=((cM es p).map (pc m es p)).filter λc=>decide (¬ ∃y∈c,y∈cQ m es)
def DL:bq:=λdd Q x=>∃m es p,dd=[wD m es,iD p,nD (cQ m es)]/\bF m es/\es.length+1=m/\p<m/\Q [] (.ow false) (gD (gB m es p))
def Px:∀dd Q x,DL dd Q x->qG Ei (aX [false,false,false] Q x) (ini [false,false,false] dd++List.replicate 2 none):=by
 rintro _ Q x⟨m,es,p,rfl,W,ht,hp,q⟩;have hm:=W.le;have hnb:=W.gd.oK p;unfold qG;rfl';refine⟨m,es,p,rfl,W,ht,hp,?_⟩;rfl';refine jb (λn=>if decide (¬ ∃y∈pc m es p n,y∈cQ m es)=true then some (nD (pc m es p n))else none) rfl (λn hn J hJ=>?_) ?_ (by lia)
 .have hpl:(pc m es p n).length<=m:=pO yM λx hx=>(cz.mp hx).1;simp only[dv,dw,dx,dy,dz,Nat.reduceBEq]at hJ⊢;refine gg (λy=>.bool (decide (y∈cQ m es))) rfl (λy hy I hI=>?_) ?_ (by lia);{simp![yS,yI];exact⟨rfl,hI _ rfl⟩};rw[show(λy=>PyData.bool (decide (y∈cQ m es)))=(λb=>PyData.bool b)∘λy=>decide (y∈cQ m es)from rfl,<-V1];rfl';refine PX ?_;simp![List.any_map];by_cases c:∃y∈pc m es p n,y∈cQ m es
  .have e:((pc m es p n).any (id∘λy=>decide (y∈cQ m es)))=true:=by obtain⟨y,h1,h2⟩:=c;exact YD.mpr ⟨y,h1,V6 h2⟩
   rw[if_neg λz=>z c]at hJ;simp only[e,dw];exact hJ _ rfl
  have e:((pc m es p n).any (id∘λy=>decide (y∈cQ m es)))=false:=by rw[YZ];exact λy h1 h2=>c ⟨y,h1,UT h2⟩
  rw[if_pos c]at hJ;simp only[e,dw];exact hJ _ rfl
 rw[dY];rfl';unfold gB at q;rw[YT]at q;unfold gD at q;rw[V1]at q;exact q
def Fq{β:Type}{m:Nat}{f:Nat×Nat->β}:(List.range m).zipIdx.map f=(List.range m).map λi=>f (i,i):=by refine Vu λi=>?_;rw[UK,UK,List.getElem?_zipIdx];by_cases c:i<m;{rw[VQ c];show some (f (i,0+i))=_;rw[X7];rfl};rw[VD (by rw[UW];lia)];rfl
def aS(k:Str) (m:Nat)(es:ZP):List (ZM):=
 if(aR k m es).length<2 then []else if k="all" then(ens m es).map λe=>[[e],[]]else if cQ m es=[]then [(ens m es).map λe=>[e]]else((cQ m es).map (gB m es)).filter λg=>decide (g≠[])
def nZ:bq:=λdd Q x=>∃m es k,dd=[wD m es,.str k]/\bF m es/\es.length+1=m/\Q [] (.ow false) (iF (aS k m es))
def O8:∀dd Q x,nZ dd Q x->kG qI v8 rJ DL (aX [false,false] Q x) (ini [false,false] dd++List.replicate 6 none):=by
 rintro _ Q x⟨m,es,k,rfl,W,ht,q⟩;have hm:=W.le;unfold kG;rfl';refine⟨m,es,rfl,W.pos,λ_=>?_,λz=>absurd ht z⟩;rfl';refine⟨m,es,k,rfl,W,?_⟩;rfl';unfold aS at q;split;{rename_i c;rw[if_pos (by lia)]at q;exact⟨by lia,q⟩};rename_i c;rw[if_neg (by lia)]at q;refine⟨m,es,rfl,W.le,W.gd,?_⟩;rfl';refine gg (λp=>iD (dh es p)) rfl (λp hp I hI=>?_) ?_ (by rw[UW];lia);{rfl';exact hI _ rfl};rfl';rw[Fq];refine jb (λi=>if decide (dh es i=1)=true then some (iD i)else none) rfl (λi hi J hJ=>?_) ?_ (by rw[UW];lia);{simp only[dv,dw,dx,dy,dz,Nat.reduceBEq]at hJ⊢;split;{rename_i c;rw[if_pos (by lia)]at hJ;exact hJ _ rfl};rename_i c;rw[if_neg (by lia)]at hJ;exact hJ _ rfl};rw[dY];have hel:(ens m es).length<=m:=by have:=W4 (λp=>decide (dh es p=1)) (List.range m);rw[UW]at this;exact this
 have hfl:(cQ m es).length<=m:=by have:=W4 (λp=>decide (2<dh es p)) (List.range m);rw[UW]at this;exact this
 rw[show((List.range m).filter λi=>decide (dh es i=1))=ens m es from rfl];rfl';split;{rename_i ka;rw[if_pos ka]at q;refine gg (λe=>.list [.list [iD e],.list []]) rfl (λe he I hI=>?_) ?_ (by lia);{rfl';exact⟨by lia,by lia,by lia,hI _ rfl⟩};rfl';unfold iF at q;rw[V1]at q;exact q};rename_i ka;rw[if_neg ka]at q;rw[Fq];refine jb (λi=>if decide (2<dh es i)=true then some (iD i)else none) rfl (λi hi J hJ=>?_) ?_ (by rw[UW];lia);{simp only[dv,dw,dx,dy,dz,Nat.reduceBEq]at hJ⊢;split;{rename_i c;rw[if_pos (by lia)]at hJ;exact hJ _ rfl};rename_i c;rw[if_neg (by lia)]at hJ;exact hJ _ rfl};rw[dY];rw[show((List.range m).filter λi=>decide (2<dh es i))=cQ m es from rfl];simp![YR];by_cases hf:cQ m es=[]
 .rw[if_pos hf]at q;rw[if_pos (by rw[hf];rfl)];refine gg (λe=>.list [iD e]) rfl (λe he I hI=>?_) ?_ (by lia);{rfl';exact⟨by lia,hI _ rfl⟩};rfl';refine⟨by lia,?_⟩;rw[show [PyData.list ((ens m es).map λe=>PyData.list [iD e])]=[(ens m es).map λe=>[e]].map gD by
   rw[List.map_singleton];unfold gD;rw[V1];rfl]
  exact q
 rw[if_neg hf]at q;rw[if_neg (by cases hh:cQ m es<;>simp_all)];refine gg (λp=>gD (gB m es p)) rfl (λp hp I hI=>?_) ?_ (by lia);{rfl';refine⟨m,es,p,rfl,W,ht,UX.mp (UP.mp hp).1,?_⟩;rfl';exact hI _ rfl};rfl';refine jb (λp=>if decide (gB m es p≠[])=true then some (gD (gB m es p))else none) rfl (λp hp J hJ=>?_) ?_ (by lia);{simp only[dv,dw,dx,dy,dz,Nat.reduceBEq,YR]at hJ⊢;by_cases c:gB m es p=[];{rw[if_neg λz=>z c]at hJ;rw[if_neg (by rw[c];exact λz=>Bool.noConfusion z)];exact hJ _ rfl};rw[if_pos c]at hJ;rw[if_pos (by cases hh:gB m es p<;>simp_all)];exact hJ _ rfl};rw[dY];rfl';rw[YT]at q;unfold iF at q;rw[V1]at q;exact q
def DA:bq:=λdd Q x=>∃m es k,dd=[wD m es,.str k]/\bF m es/\es.length+1=m/\(aS k m es).length<=60/\(∀g∈aS k m es,g≠[])/\Q [] .sh (iD ((aS k m es).map λg=>g.length-1).sum)
def Oo:∀dd Q x,DA dd Q x->kX nZ (aX [false,false] Q x) (ini [false,false] dd++List.replicate 1 none):=by
 rintro _ Q x⟨m,es,k,rfl,W,ht,hl,hn,q⟩;unfold kX;rfl';refine⟨m,es,k,rfl,W,ht,?_⟩;rfl';refine gg (λg=>iD (g.length-1)) rfl (λg hg I hI=>?_) ?_ (by lia)
 .have:g.length≠0:=λz=>hn g hg (Y6.mp z);have e:(g.length:Int)-1=((g.length-1:Nat):Int):=by lia
  simp![e];exact hI _ rfl
 rw[show(λg:ZM=>iD (g.length-1))=iD∘λg=>g.length-1 from rfl,<-V1];rfl';exact NW q
def Ec:bq:=λdd Q x=>∃m es k,dd=[wD m es,.str k]/\bF m es/\es.length+1=m/\(∀g∈aS k m es,(∀sp∈g,sp.length<=60)/\(f9 [] 0 g).2<2^64)/\Q [] .sh (iD (cj [] 0 (aS k m es)))
def OS:∀dd Q x,Ec dd Q x->jW nS nZ (aX [false,false] Q x) (ini [false,false] dd++List.replicate 0 none):=by rintro _ Q x⟨m,es,k,rfl,W,ht,hl,q⟩;unfold jW;rfl';refine⟨m,es,k,rfl,W,ht,?_⟩;rfl';refine⟨by lia,aS k m es,[],0,rfl,hl,?_⟩;rfl';exact q
end PB
namespace PB
open PySem L2 Dv
def iR:DS:=bG (tW (ah (yq "int") [.pk 0]) (nH (ah (yq "bool") [.pk 0])))
def iM:DS:=av (aN 2 (ah kg [.ev (ah (oq false true) [.pk 0,.pk 1])])) (av (fm (x6 (ah (oq true true) [.pk 0,.pk 1,.ev (dC (.int 63))])) (.tp [3,4]) (jV 2 (ah kU [.pk 3,.pk 1]) (ah d8 [.ev (ah gG [.ev (ah b7 [.pk 2,.ev (ah kU [.pk 3,.pk 1])]),.ev (dC (.int 31))]),.pk 4]))) (jh 2))
def ja:DS:=av (aN 2 (dC (.int 0))) (El (cO (bW (ah AD [.ev (ah eK [.pk 0]),.ev (dC (.int 0))])) (aN 2 (ah d8 [.ev (ah b7 [.pk 0,.ev (ah kU [.pk 1,.ev (ah eK [.pk 0])])]),.ev (ah wG [.pk 1,.ev (ah eK [.pk 0])])])) (dD)) (av (aN 3 (dC (.int 0))) (El (cO (bW (vm (ah IE [.pk 2,.ev (dC (.int 0))]) (ah KG [.pk 2,.ev (ah JB [.ev (dC (.int 10)),.ev (dC (.int 18))])]))) (aN 3 (ah zu [.pk 2])) (dD)) (bG (ah cK [.pk 3,.ev (ah kU [.ev (ah d8 [.ev (ah gG [.ev (ah kU [.pk 2,.ev (dC (.int 2147483629))]),.ev (dC (.int 69621))]),.ev (ah gG [.ev (ah gG [.ev (dC (.int 40009)),.ev (ah d8 [.pk 1,.ev (dC (.int 1))])]),.ev (ah d8 [.pk 1,.ev (dC (.int 3))])])]),.ev (dC (.int 2147483629))])])))))
def jg:DS:=av (cO (bW (ah AD [.ev (ah b7 [.pk 0,.ev (dC (.int 0))]),.ev (dC (.int 0))])) (av (aN 2 (ah kU [.ev (ah b7 [.pk 0,.ev (dC (.int 0))]),.pk 1])) (av (jV 0 (dC (.int 0)) (ah wG [.ev (ah b7 [.pk 0,.ev (dC (.int 0))]),.pk 1])) (jh 2))) (dD)) (av (jV 0 (dC (.int 1)) (ah kU [.ev (ah d8 [.ev (ah gG [.ev (ah b7 [.pk 0,.ev (dC (.int 1))]),.ev (dC (.int 48271))]),.ev (dC (.int 12820163))]),.ev (dC (.int 2147483647))])) (bG (ah kU [.ev (ah wG [.ev (ah kU [.ev (ah gG [.ev (ah kU [.ev (ah gG [.ev (ah b7 [.pk 0,.ev (dC (.int 1))]),.ev (ah b7 [.pk 0,.ev (dC (.int 1))])]),.ev (dC (.int 2147483629))]),.ev (dC (.int 69621))]),.ev (dC (.int 2147483587))]),.ev (dC (.int 8))]),.pk 1])))
def jo(AAC:bq):DS:=av (aN 3 (ah kg [.pk 1])) (bG (bJ [4] (sI yl [.pk 2]) (.nm 4) (eE) (bY sizeLine (qh wL 3 [aD AAC [true,false] [.pk 0,.ev (ah eK [.pk 3])]]))))
def ic(AAB:bq):DS:=av (aN 3 (aD AAB [true,false,false] [.pk 0,.ev (ah lQ [.pk 1]),.pk 1])) (bG (ah jz [.pk 1,.ev (ah oz [.ev (ah vf [.ev (bJ [4,5] (iE (aO 2)) (.tp [4,5]) (eE) (bY sizeLine (ah jz [.ev (ah rS [.ev (ah b7 [.pk 3,.pk 4]),.ev (ah b7 [.pk 3,.pk 5])]),.ev (ah uS [.ev (ah b7 [.pk 3,.pk 4]),.ev (ah b7 [.pk 3,.pk 5])])])))])])]))
def jt(AAC Zx:bq):DS:=av (aN 2 (ah d8 [.ev (dC (.int 1)),.ev (aD AAC [true,false] [.pk 0,.pk 1])])) (av (aN 3 (aD AAC [true,false] [.pk 0,.ev (dC (.int 6))])) (av (aN 4 (ah cK [])) (av (fm (sI FW [.ev (dC (.int 1)),.pk 2]) (.nm 5) (av (aN 6 (ah cK [.ev (ah kP [.pk 5,.ev (dC (.int 1))]),.ev (dC (.int 0)),.ev (aD AAC [true,false] [.pk 0,.pk 5]),.ev (ah uS [.ev (dC (.int 0)),.ev (ah kP [.ev (ah kP [.pk 5,.ev (dC (.int 1))]),.ev (aD AAC [true,false] [.pk 0,.ev (dC (.int 3))])])]),.ev (aD AAC [true,false] [.pk 0,.ev (ah rS [.pk 5,.ev (dC (.int 3))])])])) (dQ (qh eO 4 [ah jz [.ev (ah b7 [.ev (ah d8 [.pk 6,.ev (ah cK [.ev (ah wG [.ev (ah kP [.pk 5,.ev (dC (.int 1))]),.ev (dC (.int 2))])])]),.pk 3]),.pk 5]])))) (bG (aD Zx [true,false,false] [.pk 0,.pk 2,.pk 4])))))
def p7(Zv Zz AAD AAC AAA:bq):DS:=av (aN 1 (aD Zv [false,false] [.pk 0,.ev (dC (.int 4))])) (av (fm (sI yl [.ev (ah uS [.ev (dC (.int 1)),.ev (ah eK [.pk 1])])]) (.nm 2) (av (aN 3 (aD Zz [false,false] [.pk 1,.pk 2])) (av (aN 4 (aD AAD [true,false] [.pk 3,.ev (ah b7 [.ev (ah cK [.ev (dC (.int 24)),.ev (dC (.int 40))]),.ev (ah oU [.ev (ah lH [.ev (aD AAC [true,false] [.pk 3,.ev (dC (.int 8))]),.ev (dC (.int 0))])])])])) (fm (iE (ah cK [.ev (dC (.str "places")),.ev (dC (.str "ties")),.ev (dC (.str "all"))])) (.nm 5) (cO (qy (bW (aD AAA [true,false,false] [.pk 3,.pk 4,.pk 5]))) (bG (dC (.bool false))) (dD)))))) (bG (dC (.bool true))))
def gQ(AAC:bq):DS:=av (aN 2 (ah cK [.ev (dC (.int 0)),.ev (ah kP [.pk 1,.ev (dC (.int 1))])])) (av (fm (sI yl [.ev (dC (.int 2))]) (.nm 3) (av (aN 4 (aD AAC [true,false] [.pk 0,.pk 1])) (dQ (qh sC 2 [ah cK [.pk 4,.ev (ah rS [.ev (ah d8 [.pk 4,.ev (dC (.int 1))]),.ev (ah kP [.pk 1,.ev (dC (.int 1))])])]])))) (bG (ah rQ [.pk 2])))
def fR(AAE AAU AAV:bq):DS:=av (cO (bW (vm (nH (ah (yq "list") [.pk 2])) (nH (ah zA [.ev (bJ [4] (iE (aO 2)) (.nm 4) (eE) (bY sizeLine (aD AAE [false] [.pk 4])))])))) (bG (dC (.bool false))) (dD)) (av (cO (bW (vm (ah mD [.pk 2,.ev (ah rQ [.pk 2])]) (ah mD [.ev (ah eK [.pk 2]),.ev (aD AAU [false,false] [.pk 0,.pk 1])]))) (bG (dC (.bool false))) (dD)) (av (cO (bW (ah (dF true) [.ev (aD AAV [false,false,false] [.pk 0,.ev (ah kg [.pk 2]),.pk 1]),.ev (dC .none)])) (bG (dC (.bool false))) (dD)) (av (fm (iE (ah d8 [.ev (ah (oq false true) [.pk 2,.ev (dC (.int 2))]),.ev (ah (oq true false) [.pk 2,.ev (ah w9 [.ev (dC (.int 1))])])])) (.nm 3) (cO (bW (ah (dF false) [.ev (aD AAV [false,false,false] [.pk 0,.ev (bJ [4] (iE (aO 2)) (.nm 4) (bW (ah mD [.pk 4,.pk 3])) (bY sizeLine (aO 4))),.pk 1]),.ev (dC .none)])) (bG (dC (.bool false))) (dD))) (bG (dC (.bool true))))))
def iJ(Zy AAT Zn Zw Zo:bq):DS:=av (aN 3 (dC .none)) (av (fm (iE (aD Zy [true,false] [.pk 0,.ev (aD AAT [false,false] [.pk 1,.pk 2])])) (.nm 4) (av (aN 5 (aD Zn [false,false,false] [.pk 1,.pk 2,.pk 4])) (av (cO (bW (vm (nH (aD Zw [false,false,false] [.pk 1,.pk 2,.pk 5])) (ah mD [.ev (aD Zo [false,false,false] [.pk 1,.pk 2,.ev (ah kg [.pk 5])]),.pk 4]))) (bG (dC (.bool false))) (dD)) (av (cO (bW (tW (ah (dF true) [.pk 3,.ev (dC .none)]) (ah JF [.pk 5,.pk 3]))) (bG (dC (.bool false))) (dD)) (aN 3 (aO 5)))))) (bG (dC (.bool true))))
abbrev iW(a b:Int):PyData:=.list [.int a,.int b]
def j9:bq:=λds Q x=>∃(a b:Int) (m:Nat),ds=[iW a b,iD m]/\0<m/\m<2^200/\0<=b/\b<2147483647/\∀(r:Nat) a' b',r<m->0<=b'->b'<2147483647->Q [iW a' b'] .sh (iD r)
def MU:∀ds Q x,j9 ds Q x->jg (aX [true,false] Q x) (ini [true,false] ds++List.replicate 1 none):=by
 rintro _ Q x⟨a,b,m,rfl,h1,h2,h3,h4,q⟩;unfold jg;try bv_omega
 try simp only[dv,dw,dx]
 have hm:(0:Int)<m:=by lia
 have r0:∀z:Int,∃r:Nat,r<m/\z%(m:Int)=(r:Int):=λz=>by have e1:=X6 z (by lia:(m:Int)≠0);have e2:=X5 z hm;exact⟨(z%m).toNat,by lia,by lia⟩
 split
 .obtain⟨r,hr,e⟩:=r0 a;refine⟨hm,⟨hm,?_⟩,?_⟩
  .have:(m:Int)<((2^200:Nat):Int):=Ww.mpr h2;have:((2^200:Nat):Int)<115792089237316195423570985008687907853269984665640564039457584007913129639936:=by decide
   lia
  rw[e];exact q r _ _ hr h3 h4
 have c1:0<=(b*48271+12820163)%2147483647:=X6 _ (by decide);have c2:(b*48271+12820163)%2147483647<2147483647:=X5 _ (by decide);generalize (b*48271+12820163)%2147483647=y at *;have c3:0<=y*y%2147483629:=X6 _ (by decide);have c4:y*y%2147483629<2147483629:=X5 _ (by decide);refine⟨.inr (by clear q r0 c3 c4;lia),by decide,.inl (by clear q r0 c3 c4;lia),by decide,.inr (by clear q r0 c1 c2;lia),by decide,⟨by decide,by decide⟩,hm,?_⟩;obtain⟨r,hr,e⟩:=r0 (y*y%2147483629*69621%2147483587/8);rw[e];exact q r _ _ hr c1 c2
def yR:bq:=λds Q x=>∃(cs:Zc) (k:Nat),ds=[.list (cs.map .int),iD k]/\cs.length<=10/\k<=10/\∀a b:Int,0<=b->b<2147483647->Q [] (.ow false) (iW a b)
def LG:∀ds Q x,yR ds Q x->ja (aX [false,false] Q x) (ini [false,false] ds++List.replicate 2 none):=by
 rintro _ Q x⟨cs,k,rfl,h1,h2,q⟩;unfold ja;try bv_omega
 try simp only[dv,dw,dx]
 refine⟨λE=>∃cell:Int,E=[some (.sh,.list (cs.map .int)),some (.sh,iD k),some (.sh,.int cell),none],?_,?_⟩
 .try bv_omega
  try simp only[dv,dw,dx]
  split
  .rename_i h;rw[U7]at h⊢;have hl:0<cs.length:=by lia
   refine⟨h,?_⟩;rw[<-Int.natCast_emod,rF,V0 (Wm _ hl)];exact⟨⟨h,by lia⟩,_,rfl⟩
  exact⟨0,rfl⟩
 rintro _⟨cell,rfl⟩;try bv_omega
 try simp only[dv,dw,dx]
 refine ME ?_;try bv_omega
 try simp only[dv,dw,dx]
 have e1:=X6 cell (by decide:(2147483629:Int)≠0);have e2:=X5 cell (by decide:(0:Int)<2147483629);have a1:kI (cell%2147483629) 69621:=.inr (by clear q;lia);clear e1 e2;have a2:kI 40009 ((k:Int)+1):=.inl (by clear q a1;lia);have a3:kI (40009*((k:Int)+1)) ((k:Int)+3):=.inr (by clear q a1 a2;lia);have e3:=X6 (cell%2147483629*69621+40009*((k:Int)+1)*(k+3)) (by decide:(2147483629:Int)≠0);have e4:=X5 (cell%2147483629*69621+40009*((k:Int)+1)*(k+3)) (by decide:(0:Int)<2147483629);have fin:∀z:Int,0<(2147483629:Int)/\kI (cell%2147483629) 69621/\kI 40009 ((k:Int)+1)/\kI (40009*((k:Int)+1)) ((k:Int)+3)/\0<(2147483629:Int)/\0+1+1<=16777216/\Q [] (Kd.ow false) (PyData.list [PyData.int z,PyData.int ((cell%2147483629*69621+40009*((k:Int)+1)*((k:Int)+3))%2147483629)]):=λz=>⟨by decide,a1,a2,a3,by decide,by decide,q _ _ e3 (Int.lt_trans e4 (by decide))⟩;split;{exact fin _};refine⟨⟨by decide,by decide,by decide⟩,?_⟩;split;{exact fin _};exact fin _
def vN:bq:=λds Q x=>∃(ns:Zc) (m:Nat),ds=[.list (ns.map .int),iD m]/\0<m/\m<=10/\∀cs:Zc,cs.length<=m->Q [] (.ow false) (.list (cs.map .int))
def IW:∀ds Q x,vN ds Q x->iM (aX [false,false] Q x) (ini [false,false] ds++List.replicate 3 none):=by
 rintro _ Q x⟨ns,m,rfl,h0,h1,q⟩;unfold iM;try bv_omega
 try simp only[dv,dw,dx,dy,z5,U7,show(63:Int)=((63:Nat):Int)from rfl,Ai,uh]
 have hm:(0:Int)<m:=by lia
 refine mX (λi E=>∃(cs:Zc)(a b:Zg),E=[some (.sh,.list (ns.map .int)),some (.sh,iD m),some (.ow false,.list (cs.map .int)),a,b]/\cg a=true/\cg b=true/\cs.length=min m ns.length) ?_ ?_ ?_;{exact⟨ns.take m,none,none,rfl,rfl,rfl,Vf⟩}
 .rintro i⟨d,k⟩E hi⟨cs,a,b,rfl,ha,hb,hl⟩;have hi:=cR hi;rw[List.length_zipIdx,Wf,Vf]at hi;have hk:k%m<cs.length:=by have:=Wm k h0;lia
  try bv_omega
  try simp only[dv,dw,dx,ha,hb,dz]
  refine⟨h0,eX (V0 hk) ⟨.inr (by lia),h0,xg hk ⟨cs.set (k%m) (cs[k%m]*31+d),some (.sh,iD k),some (.sh,.int d),by rw[List.map_set],rfl,rfl,by rw[VP];exact hl⟩⟩⟩
 rintro _⟨cs,a,b,rfl,ha,hb,hl⟩;try bv_omega
 try simp only[dv,dw,dx]
 exact q cs (by lia)
def yU:bq:=λds Q x=>∃(a b:Int)(ns:Zb) (k:Nat),ds=[iW a b,nD ns,iD k]/\k<=ns.length/\ns.length<=1000/\0<=b/\b<2147483647/\∀(ms rest:Zb) a' b',ms.length=k->(ms++rest).Perm ns->0<=b'->b'<2147483647->Q [iW a' b'] (.ow false) (nD ms)
theorem vB:∀(rs:Zb){j:Nat}(h:j<rs.length),([rs[j]]++rs.eraseIdx j).Perm rs
 |[],_,h=>by cases h
 |r::rs,0,_=>by rw[List.eraseIdx_cons_zero];exact List.Perm.refl _
 |r::rs,j+1,h=>by rw[Xv];have ih:=vB rs (j:=j) (by rw[UL]at h;lia);exact(List.Perm.swap _ _ _).trans (ih.cons _)
theorem xA{f:Nat->PyData}:∀{rs:Zb}{j:Nat},(rs.map f).eraseIdx j=(rs.eraseIdx j).map f
 |[],_=>rfl
 |r::rs,0=>rfl
 |r::rs,j+1=>by rw[UI,Xv,Xv,UI,xA]
def MY{r n:Nat}(h:r<n):seqIndex? (r:Int) n=some r:=by unfold seqIndex?;simp;lia
def Ms:∀ds Q x,yU ds Q x->jo j9 (aX [true,false,false] Q x) (ini [true,false,false] ds++List.replicate 2 none):=by
 rintro _ Q x⟨a,b,ns,k,rfl,h0,h1,h2,h3,q⟩;unfold jo;rfl';rw[if_pos (by lia)];refine eX rfl ?_;refine KI _ (λi ys E=>∃(a b:Int)(ms rest:Zb)(o:Zg),ys=ms.map iD/\E=[some (.ow true,iW a b),some (.sh,nD ns),some (.sh,iD k),some (.ow false,nD rest),o]/\cg o=true/\ms.length=i/\(ms++rest).Perm ns/\0<=b/\b<2147483647) rfl ⟨a,b,[],ns,_,rfl,rfl,rfl,rfl,List.Perm.refl _,h2,h3⟩ ?_ ?_
 .rintro i j ys E hi⟨a,b,ms,rest,o,rfl,rfl,ho,hm,hp,h2,h3⟩;have hi:=cR hi;rw[UW]at hi;have hl:=hp.length_eq;rw[UR]at hl;have hr:0<rest.length:=by lia
  try bv_omega
  try simp only[dv,dw,dx,ho,dz]
  refine⟨a,b,rest.length,rfl,hr,by lia,h2,h3,λr a' b' hr' h2' h3'=>?_⟩;try bv_omega
  try simp only[dv,dw,dx,dz]
  refine⟨⟨by lia,by lia⟩,r,iD rest[r],MY hr',by rw[UK,V0 hr'];rfl,by lia,a',b',ms++[rest[r]],rest.eraseIdx r,some (.sh,iD j),by rw[V2];rfl,by rw[xA],rfl,by rw[UR,hm];rfl,?_,h2',h3'⟩;rw[Vd];exact(Yo ms (vB rest hr')).trans hp
 rintro ys E⟨a,b,ms,rest,o,rfl,rfl,ho,hm,hp,h2,h3⟩;try bv_omega
 try simp only[dv,dw,dx,ho,dz]
 rw[UW]at hm;exact q ms rest _ _ hm hp h2 h3
def z8{ms:Zb}{m:Nat}(pm:ms.Perm (List.range m)){a:Nat}(ha:a<m):ms[a]?=some (ms.getD a 0)/\ms.getD a 0<m:=by
 have h:a<ms.length:=by rw[pm.length_eq,UW];exact ha
 have e:ms.getD a 0=ms[a]:=by rw[VJ,V0 h];rfl
 rw[e];exact⟨V0 h,UX.mp (pm.mem_iff.mp (W3 h))⟩
def vE:bq:=λds Q x=>∃(a b:Int) (m:Nat)(ps:ZP),ds=[iW a b,iD m,.list (ps.map ia)]/\1<=m/\m<=60/\Gr.Good m ps/\Gr.c8 m ps/\ps.length<=63/\0<=b/\b<2147483647/\∀es a' b',bF m es->es.length=ps.length->0<=b'->b'<2147483647->Q [iW a' b'] .sh (wD m es)
def JE:∀ds Q x,vE ds Q x->ic yU (aX [true,false,false] Q x) (ini [true,false,false] ds++List.replicate 3 none):=by
 rintro _ Q x⟨a,b,m,ps,rfl,h0,h1,gd,cn,few,h2,h3,q⟩;unfold ic;rfl';refine⟨⟨by lia,by lia⟩,⟨a,b,List.range m,m,rfl,by rw[UW];exact U5 _,by rw[UW];lia,h2,h3,λms rest a' b' hm hp h2 h3=>?_⟩⟩;have pm:ms.Perm (List.range m):=by have:=hp.length_eq;rw[UR,hm,UW]at this;have e:rest=[]:=YU (by lia);rw[e,VF]at hp;exact hp
 rfl';refine gg (λe=>ia (Gr.yb ms e)) rfl (λe he I hI=>?_) ?_ (by lia);{have hl:=gd.lt e he;have g1:=z8 pm (by lia:e.1<m);have g2:=z8 pm hl.2;simp![g1.1,g2.1];exact⟨by lia,hI _ rfl⟩};rfl';have e:ps.map (λe=>ia (Gr.yb ms e))=(ps.map (Gr.yb ms)).map ia:=by rw[V1];rfl
 rw[e];refine Mx (by rw[U7];exact few) λqs pq=>?_;rfl';refine⟨by lia,q qs _ _ ⟨h0,h1,?_,?_⟩ ?_ h2 h3⟩;{exact Gr.Good.perm pq (Gr.Dq pm gd)};{exact Gr.HC pq (Gr.EH pm cn)};rw[pq.length_eq,U7]
def yK:bq:=λds Q x=>∃(a b:Int) (mo:Nat),ds=[iW a b,iD mo]/\0<mo/\mo<=60/\0<=b/\b<2147483647/\∀m es a' b',m<=mo->bF m es->es.length+1=m->0<=b'->b'<2147483647->Q [iW a' b'] .sh (wD m es)
structure Up(i:Nat)(ps:ZP):Prop where
 len:ps.length=i
 at':∀(k:Nat)(e:Nat×Nat),ps[k]?=some e->e.2=k+1/\e.1<=k
def Up.snoc{i p:Nat}(h:Up i ps)(hp:p<=i):Up (i+1) (ps++[(p,i+1)]):=by refine⟨by rw[UR,h.len];rfl,λk e he=>?_⟩;rw[List.getElem?_append]at he;split at he;{exact h.at' k e he};rename_i hk;rw[List.getElem?_singleton]at he;split at he;{rename_i h0;cases he;have:=h.len;show i+1=k+1/\p<=k;lia};cases he
def Up.mem{i:Nat}(h:Up i ps)(he:e∈ps):e.1<e.2/\e.2<=i:=by obtain⟨k,hk⟩:=Z2.mp he;have:=h.at' k e hk;have:=cR hk;have:=h.len;lia
def Up.good{m:Nat}(h:Up (m-1) ps)(hm:1<=m):Gr.Good m ps:=by refine⟨λe he=>?_,?_⟩;{have:=h.mem he;lia};refine WM.mpr λi j hi hj l e=>?_;have h1:=h.at' i _ (V0 hi);have h2:=h.at' j _ (V0 hj);rw[e]at h1;lia
def Up.conn{m:Nat}(h:Up (m-1) ps):Gr.c8 m ps:=by
 refine Gr.LM λk h0 hk=>?_;have hl:k-1<ps.length:=by rw[h.len];lia
 have:=h.at' (k-1) _ (V0 hl);refine⟨ps[k-1].1,by lia,?_⟩;have e:(ps[k-1].1,k)=ps[k-1]:=Prod.ext rfl (by show k=ps[k-1].2;lia);rw[e];exact W3 hl
def LI:∀ds Q x,yK ds Q x->jt j9 vE (aX [true,false] Q x) (ini [true,false] ds++List.replicate 5 none):=by
 rintro _ Q x⟨a,b,mo,rfl,h0,h1,h2,h3,q⟩;unfold jt;rfl';refine⟨a,b,mo,rfl,h0,by lia,h2,h3,λr a b hr h2 h3=>?_⟩;rfl';refine⟨a,b,6,rfl,by lia,by lia,h2,h3,λsh a b hsh h2 h3=>?_⟩;rfl';refine⟨by lia,?_⟩;have e1:(1:Int)+(r:Int)=((r+1:Nat):Int):=by lia
 rw[e1,if_pos (by lia)];refine eX rfl ?_;have e2:(((r+1:Nat):Int)-1).toNat=r:=by lia
 rw[e2];refine mX (λi E=>∃(a b:Int)(ps:ZP)(o o2:Zg),E=[some (.ow true,iW a b),some (.sh,iD mo),some (.sh,iD (r+1)),some (.sh,iD sh),some (.ow false,.list (ps.map ia)),o,o2]/\cg o=true/\cg o2=true/\Up i ps/\0<=b/\b<2147483647) ?_ ?_ ?_;{exact⟨a,b,[],none,none,rfl,rfl,rfl,⟨rfl,λk e h=>by cases h⟩,h2,h3⟩}
 .rintro i k _ hi⟨a,b,ps,o,o2,rfl,ho,ho2,up,h2,h3⟩;have hi':=cR hi;rw[VQ (by rw[UW]at hi';exact hi')]at hi;cases hi;rw[UW]at hi';simp![ho];refine⟨a,b,i+1,rfl,by lia,by lia,h2,h3,λr1 a b hr1 h2 h3=>?_⟩;simp![ho2];refine⟨a,b,3,rfl,by lia,by lia,h2,h3,λr2 a b hr2 h2 h3=>?_⟩;have e3:((i+1:Nat):Int)-1=(i:Int):=by lia
  have e4:(if(3:Int)<((i+1:Nat):Int)then(3:Int)else((i+1:Nat):Int))=((min (i+1) 3:Nat):Int):=by split<;>lia
  simp![ho2,e3,e4];refine⟨a,b,min (i+1) 3,rfl,by lia,by lia,h2,h3,λr3 a b hr3 h2 h3=>?_⟩;simp![ho2,e3,Ik];refine⟨by lia,⟨by lia,by lia⟩,by lia,by lia,?_⟩;have hin:∀z∈[PyData.int (i:Int),PyData.int 0,iD r1,PyData.int (if(i:Int)-(r2:Int)>0 then(i:Int)-(r2:Int)else 0),iD r3,PyData.int ((i:Int)/2)],∃p:Nat,p<=i/\z=iD p:=by intro z hz;simp only[U6,UM,VZ]at hz;rcases hz with rfl|rfl|rfl|rfl|rfl|rfl;{exact⟨i,by lia,rfl⟩};{exact⟨0,by lia,rfl⟩};{exact⟨r1,by lia,rfl⟩};{exact⟨i-r2,by lia,by congr 1;split<;>lia⟩};{exact⟨r3,by lia,rfl⟩};exact⟨i/2,by lia,by congr 1⟩
  have hlen:[PyData.int (i:Int),PyData.int 0,iD r1,PyData.int (if(i:Int)-(r2:Int)>0 then(i:Int)-(r2:Int)else 0),iD r3,PyData.int ((i:Int)/2)].length=6:=rfl;generalize [PyData.int (i:Int),PyData.int 0,iD r1,PyData.int (if(i:Int)-(r2:Int)>0 then(i:Int)-(r2:Int)else 0),iD r3,PyData.int ((i:Int)/2)]=L at hin hlen⊢;have hs:sh<L.length:=by lia
  obtain⟨p,hp,ep⟩:=hin _ (W3 hs);refine eX (V0 hs) ⟨by lia,by rw[up.len];lia,a,b,ps++[(p,i+1)],_,_,by rw[ep,V2];rfl,rfl,rfl,up.snoc hp,h2,h3⟩
 rintro _⟨a,b,ps,o,o2,rfl,ho,ho2,up,h2,h3⟩;rfl';rw[UW]at up;refine⟨a,b,r+1,ps,rfl,by lia,by lia,Up.good (m:=r+1) up (by lia),Up.conn (m:=r+1) up,by rw[up.len];lia,h2,h3,λes a' b' W hl h2 h3=>?_⟩;rfl';exact q _ es _ _ (by lia) W (by rw[hl,up.len]) h2 h3
end PB
namespace PB
open PySem L2 Dv Gr
variable{m p:Nat}{es:ZP}
theorem PY{a:Nat}:∀{m:Nat},m<=a->((List.range m).map λp=>if p=a then 1 else 0).sum=0
 |0,_=>rfl
 |m+1,h=>by rw[Y3,V2,YB,PY (by lia)];simp;lia
theorem JJ{a:Nat}:∀{m:Nat},a<m->((List.range m).map λp=>if p=a then 1 else 0).sum=1
 |0,h=>by lia
 |m+1,h=>by rw[Y3,V2,YB];by_cases c:a=m;{rw[PY (by lia)];simp[c]};rw[JJ (by lia)];simp;lia
theorem sum_add{f g:Nat->Nat}:∀{l:Zb},(l.map λx=>f x+g x).sum=(l.map f).sum+(l.map g).sum
 |[]=>rfl
 |a::l=>by simp only[UI,VN,sum_add (l:=l)];lia
def Jp{e:Nat×Nat}(h:e.1<e.2):dh (e::es) p=((if p=e.1 then 1 else 0)+(if p=e.2 then 1 else 0))+dh es p:=by unfold dh cM;rw[VW];unfold nb;by_cases c1:e.1=p;{rw[if_pos c1,if_pos c1.symm,if_neg (by lia)];simp only[UL];lia};by_cases c2:e.2=p;{rw[if_neg c1,if_pos c2,if_neg (Ne.symm c1),if_pos c2.symm];simp only[UL];lia};rw[if_neg c1,if_neg c2,if_neg (Ne.symm c1),if_neg (Ne.symm c2)];simp
theorem LA:∀{es:ZP},(∀e∈es,e.1<e.2/\e.2<m)->((List.range m).map (dh es)).sum=2*es.length
 |[],_=>by
  have:∀l:Zb,(l.map (dh [])).sum=0:=λl=>by
   induction l with
   |nil=>rfl
   |cons a l ih=>rw[UI,VN,ih];rfl
  rw[this];rfl
 |e::es,h=>by have h1:=h e U1;rw[show(List.range m).map (dh (e::es))=(List.range m).map λp=>((if p=e.1 then 1 else 0)+(if p=e.2 then 1 else 0))+dh es p from VT λp _=>Jp h1.1];rw[sum_add,sum_add,JJ (by lia),JJ (by lia),show(List.range m).map (λp=>dh es p)=(List.range m).map (dh es)from rfl,LA λe he=>h e (U4 _ he),UL];lia
theorem zj{f:Nat->Nat}:∀{l:Zb},(∀x∈l,f x=1\/f x=2)->(l.map f).sum+(l.filter λx=>decide (f x=1)).length=2*l.length
 |[],_=>rfl
 |a::l,h=>by have:=zj (l:=l) λx hx=>h x (U4 _ hx);rw[UI,VN,W9,UL];rcases h a U1 with z|z;{rw[if_pos (V6 z),UL];lia};rw[if_neg (by simp[z])];lia
def Tree.wu(T:Tree m es)(h2:2<=m)(hp:p<m):1<=dh es p:=by
 have:∃x,x<m/\x≠p:=by by_cases c:p=0;{exact⟨1,by lia,by lia⟩};exact⟨0,by lia,by lia⟩
 obtain⟨x,hx,ne⟩:=this;obtain⟨n,a,_⟩:=T.some hp hx ne;have:=bH.mpr a;exact Ws this
def Tree.uJ(T:Tree m es)(h2:2<=m)(hf:cQ m es=[]):(ens m es).length=2:=by
 have h1:=LA (m:=m) (es:=es) λe he=>T.gd.lt e he;have h3:=zj (f:=dh es) (l:=List.range m) λx hx=>by
  have hx':=UX.mp hx;have h4:=Tree.wu T h2 hx';have h5:¬2<dh es x:=λz=>by have:x∈cQ m es:=UP.mpr ⟨hx,V6 z⟩;rw[hf]at this;exact absurd this UM
  lia
 have h6:=T.len;rw[UW]at h3;unfold ens;lia
def GR{n:Nat}:¬aM es p n p:=λh=>by unfold aM at h;rw[b8]at h;lia
variable{m p:Nat}{es:ZP}
def lens(g:ZM):Zb:=g.map List.length
def O9{sp:Zb}:cV sp [] 0=(sp.length,1):=by
 unfold cV;have e1:(sp.filter λs=>decide (s∈([]:Zb)))=[]:=Z5.mpr λa _=>by simp
 have e2:(sp.filter λs=>decide (0<=s))=sp:=List.filter_eq_self.mpr λa _=>by simp
 rw[e1,e2,if_neg (by simp)]
theorem GU:∀{g:ZM}{a b:Nat},g.foldl (λa sp=>(a.1*(cV sp [] 0).1,a.2*(cV sp [] 0).1+a.1*(cV sp [] 0).2)) (a,b)=(a*d7 (lens g),b*d7 (lens g)+a*but (lens g))
 |[],a,b=>by simp[lens,d7,but]
 |sp::g,a,b=>by rw[Xx,O9];show g.foldl _ (a*sp.length,b*sp.length+a*1)=_;rw[GU];show _=(a*(sp.length*d7 (lens g)),b*(sp.length*d7 (lens g))+a*(d7 (lens g)+sp.length*but (lens g)));rw[Nat.mul_one,Nat.add_mul,Nat.mul_add,Xm,Xm,Xm,Nat.add_assoc]
def Aw{g:ZM}:(f9 [] 0 g).2=but (lens g):=by unfold f9;rw[GU];simp
theorem qq(T:Tree m es)(hp:p<m):∀{ns:Zb},ns.Nodup->(∀n∈ns,aB es p n)->(ns.map (pc m es p)).flatten.Nodup
 |[],_,_=>VY
 |n::ns,nd,ha=>by rw[UI,Vo];refine VR.mpr ⟨List.Pairwise.imp (λh=>UH h) yM,qq T hp (VA.mp nd).2 λk hk=>ha k (U4 _ hk),λx hx y hy e=>?_⟩;subst e;obtain⟨c,hc,hxc⟩:=WH.mp hy;obtain⟨k,hk,rfl⟩:=U9.mp hc;have h1:=cz.mp hx;have h2:=cz.mp hxc;have:=T.kF h1.1 (ha n U1) (ha k (U4 _ hk)) h1.2 h2.2;subst this;exact(VA.mp nd).1 hk
structure Gp(g:ZM):Prop where
 sum:(lens g).sum<=60
 pos:∀c∈g,0<c.length
def Gp.le{g:ZM}(h:Gp g):∀c∈g,c.length<=60:=λc hc=>by
 have h1:∀(l:Zb) (a:Nat),a∈l->a<=l.sum:=λl a ha=>by
  induction l with
  |nil=>exact absurd ha UM
  |cons b l ih=>rw[VN];rcases U6.mp ha with z|z;{lia};have:=ih z;lia
 have:=h1 (lens g) _ (U9.mpr ⟨c,hc,rfl⟩);have:=h.sum;lia
def Gp.small{g:ZM}(h:Gp g):but (lens g)<2^64:=YV wC (Nat.pow_lt_pow_right (by lia) (by have:=h.sum;lia))
def F7(W:bF m es)(T:Tree m es)(hp:p<m):Gp (gB m es p):=by
 unfold gB;rw[YT];refine⟨?_,λc hc=>?_⟩
 .have nd:((cM es p).filter ((λc=>decide (¬ ∃y∈c,y∈cQ m es))∘pc m es p)).Nodup:=Vi Vt (W.gd.fP p);have h1:=qq T hp nd λn hn=>bH.mp (UP.mp hn).1;have h2:=Gr.eV m _ h1 λx hx=>by obtain⟨c,hc,hxc⟩:=WH.mp hx;obtain⟨k,hk,rfl⟩:=U9.mp hc;exact(cz.mp hxc).1
  rw[List.length_flatten]at h2;have:=W.le;unfold lens;lia
 obtain⟨n,hn,rfl⟩:=U9.mp hc;have a:=bH.mp (UP.mp hn).1;exact Ws (cz.mpr ⟨(T.gd.bX a).2,fW T hp a⟩)
def kind_len(W:bF m es)(ht:es.length+1=m){k:Str}(hk:f6 k):(aR k m es).length=if k="places" then m else if k="ties" then m-1 else 2*m-1:=by unfold aR;rcases hk with rfl|rfl|rfl;{rw[if_neg (by decide),if_pos rfl,if_pos rfl,VF,U7,UW]};{rw[if_pos rfl,if_neg (by decide),if_neg (by decide),if_pos rfl,Xe,U7];lia};rw[if_neg (by decide),if_neg (by decide),if_neg (by decide),if_neg (by decide),UR,U7,U7,UW];lia
def qJ(W:bF m es)(ht:es.length+1=m){k:Str}(hk:f6 k):(aS k m es).length<=60/\(∀g∈aS k m es,g≠[])/\∀g∈aS k m es,(∀sp∈g,sp.length<=60)/\(f9 [] 0 g).2<2^64:=by
 have T:Tree m es:=⟨W.gd,W.cn,ht⟩;have hm:=W.le;have hel:(ens m es).length<=m:=by have:=W4 (λp=>decide (dh es p=1)) (List.range m);rw[UW]at this;exact this
 have hfl:(cQ m es).length<=m:=by have:=W4 (λp=>decide (2<dh es p)) (List.range m);rw[UW]at this;exact this
 unfold aS;split;{exact⟨by simp,λg hg=>absurd hg UM,λg hg=>absurd hg UM⟩};rename_i c;split;{refine⟨by rw[U7];lia,λg hg=>?_,λg hg=>?_⟩;{obtain⟨e,_,rfl⟩:=U9.mp hg;exact XH _ _};obtain⟨e,_,rfl⟩:=U9.mp hg;refine⟨λsp hs=>?_,by rw[Aw];simp[lens,but,d7]⟩;rcases U6.mp hs with rfl|z;{simp};rw[U8.mp z];simp};split
 .rename_i ka hf;have h2:2<=m:=by rw[kind_len W ht hk]at c;rcases hk with rfl|rfl|rfl;{rw[if_pos rfl]at c;lia};{rw[if_neg (by decide),if_pos rfl]at c;lia};exact absurd rfl ka
  have h3:=Tree.uJ T h2 hf;refine⟨by simp,λg hg z=>?_,λg hg=>?_⟩;{rw[U8.mp hg,List.map_eq_nil_iff]at z;rw[z]at h3;cases h3};rw[U8.mp hg,Aw];refine⟨λsp hs=>?_,?_⟩;{obtain⟨e,_,rfl⟩:=U9.mp hs;simp}
  match hh:ens m es,h3 with
  |[a,b],_=>simp[lens,but,d7]
 refine⟨?_,λg hg=>UT (UP.mp hg).2,λg hg=>?_⟩;{have:=W4 (λg=>decide (g≠[])) ((cQ m es).map (gB m es));rw[U7]at this;lia};obtain⟨p,hp,rfl⟩:=U9.mp (UP.mp hg).1;have G:=F7 W T (UX.mp (UP.mp hp).1);exact⟨G.le,by rw[Aw];exact G.small⟩
def dH(x y:Nat×Nat):Nat×Nat:=(x.1*y.1,x.2*y.1+x.1*y.2)
def jI(x y:Nat×Nat):Nat×Nat:=(x.1+y.1,x.2+y.2)
def Dr(x y z:Nat×Nat):dH (dH x y) z=dH x (dH y z):=by unfold dH;simp only[Prod.mk.injEq];constructor<;>grind
def Je(x y z:Nat×Nat):dH x (jI y z)=jI (dH x y) (dH x z):=by unfold dH jI;simp only[Prod.mk.injEq];constructor<;>grind
def Jg(x y z:Nat×Nat):dH (jI y z) x=jI (dH y x) (dH z x):=by unfold dH jI;simp only[Prod.mk.injEq];constructor<;>grind
def gp(f:Zb->Nat×Nat):ZM->Nat×Nat
 |[]=>(1,0)
 |sp::g=>dH (f sp) (gp f g)
theorem z7:∀{g:ZM}{x:Nat×Nat},g.foldl (λa sp=>(a.1*(f sp).1,a.2*(f sp).1+a.1*(f sp).2)) x=dH x (gp f g)
 |[],x=>by show x=dH x (1,0);unfold dH;simp
 |sp::g,x=>by rw[Xx,z7,gp,<-Dr];rfl
def gk{st:Nat}:f9 ls st g=gp (λsp=>cV sp ls st) g:=by unfold f9;rw[z7];unfold dH;simp
theorem su:∀{g:ZM},(∀sp∈g,f sp=h sp)->gp f g=gp h g
 |[],_=>rfl
 |sp::g,e=>by rw[gp,gp,e sp U1,su λs hs=>e s (U4 _ hs)]
theorem FT(e:f sp=jI (f1 sp) (f2 sp))(hb:∀s∈b,f s=f1 s/\f s=f2 s):∀{a:ZM},(∀s∈a,f s=f1 s/\f s=f2 s)->gp f (a++sp::b)=jI (gp f1 (a++sp::b)) (gp f2 (a++sp::b))
 |[],_=>by show dH (f sp) (gp f b)=jI (dH (f1 sp) (gp f1 b)) (dH (f2 sp) (gp f2 b));rw[e,Jg,<-su λs hs=>(hb s hs).1,<-su λs hs=>(hb s hs).2]
 |s::a,ha=>by have h:=ha s U1;show dH (f s) (gp f (a++sp::b))=jI (dH (f1 s) (gp f1 (a++sp::b))) (dH (f2 s) (gp f2 (a++sp::b)));rw[FT e hb λs hs=>ha s (U4 _ hs),Je,<-h.1,<-h.2]
def aA(gs:List (ZM)):Zb:=gs.flatten.flatten
section
variable{gs:List (ZM)}{L T:Zb}
def dU{x:Nat}:x∈aA gs↔∃g∈gs,∃sp∈g,x∈sp:=by unfold aA;constructor;{intro h;obtain⟨sp,h1,h2⟩:=WH.mp h;obtain⟨g,h3,h4⟩:=WH.mp h1;exact⟨g,h3,sp,h4,h2⟩};rintro⟨g,h3,sp,h4,h2⟩;exact WH.mpr ⟨sp,WH.mpr ⟨g,h3,h4⟩,h2⟩
def ug{st st':Nat}(h1:∀x∈sp,x∈L↔x∈L')(h2:∀x∈sp,st<=x↔st'<=x):cV sp L st=cV sp L' st':=by unfold cV;rw[Xl (q:=λs=>decide (s∈L')) λx hx=>by simp[h1 x hx],Xl (p:=λs=>decide (st<=s)) (q:=λs=>decide (st'<=s)) λx hx=>by simp[h2 x hx]]
def zM{st st':Nat}(h1:∀x∈aA gs,x∈L↔x∈L')(h2:∀x∈aA gs,st<=x↔st'<=x):cj L st gs=cj L' st' gs:=by unfold cj;congr 1;refine VT λg hg=>?_;rw[gk,gk,su λsp hs=>ug (λx hx=>h1 x (dU.mpr ⟨g,hg,sp,hs,hx⟩)) λx hx=>h2 x (dU.mpr ⟨g,hg,sp,hs,hx⟩)]
def wQ:d7 (a++b)=d7 a*d7 b:=by
 induction a with
 |nil=>show d7 b=1*d7 b;lia
 |cons x a ih=>show x*d7 (a++b)=x*d7 a*d7 b;rw[ih,Xm]
theorem CT{s:Nat}:∀{sp:Zb},sp.Nodup->s∈sp->(sp.filter λx=>decide (s<=x)).length=(sp.filter λx=>decide (s+1<=x)).length+1
 |[],_,h=>absurd h UM
 |a::sp,n,h=>by obtain⟨n1,n2⟩:=VA.mp n;rcases U6.mp h with rfl|h;{rw[W5 (by simp),W6 (by simp),UL];congr 2;refine Xl λx hx=>?_;have:x≠s:=λz=>n1 (z▸hx);rw[decide_eq_decide];lia};have ne:a≠s:=λz=>n1 (z▸h);have ih:=CT n2 h;by_cases c:s<=a;{rw[W5 (by simpa using c),W5 (by simp;lia),UL,UL,ih]};rw[W6 (by simpa using c),W6 (by simp;lia),ih]
theorem Ge{s:Nat}:∀{sp:Zb},sp.Nodup->s∈sp->s∉L->(sp.filter λx=>decide (x∈L++[s])).length=(sp.filter λx=>decide (x∈L)).length+1
 |[],_,h,_=>absurd h UM
 |a::sp,n,h,nl=>by obtain⟨n1,n2⟩:=VA.mp n;rcases U6.mp h with rfl|h;{rw[W5 (by simp),W6 (by simpa using nl),UL];congr 2;refine Xl λx hx=>?_;have:x≠s:=λz=>n1 (z▸hx);simp[this]};have ne:a≠s:=λz=>n1 (z▸h);have ih:=Ge n2 h nl;by_cases c:a∈L;{rw[W5 (by simp[c]),W5 (by simpa using c),UL,UL,ih]};rw[W6 (by simp[c,ne]),W6 (by simpa using c),ih]
def Ng{s:Nat}(n:sp.Nodup)(h:s∈sp)(nl:s∉L):cV sp L s=jI (cV sp (L++[s]) (s+1)) (cV sp L (s+1)):=by unfold cV;rw[Ge n h nl,CT n h];generalize (sp.filter λx=>decide (x∈L)).length=k;generalize (sp.filter λx=>decide (s+1<=x)).length=j;rw[if_pos (by lia:0<k+1)];by_cases c:0<k;{rw[if_pos c,if_neg (by lia:¬k+1=1),if_pos c];unfold jI;simp};rw[if_neg c,if_neg c,if_pos (by lia:k+1=1)];unfold jI;simp;lia
def Mk{s:Nat}(nd:(aA gs).Nodup)(h:s∈aA gs)(nl:s∉L):cj L s gs=cj (L++[s]) (s+1) gs+cj L (s+1) gs:=by
 obtain⟨g,hg,sp,hs,hx⟩:=dU.mp h;obtain⟨A,B,rfl⟩:=List.append_of_mem hg;obtain⟨a,b,rfl⟩:=List.append_of_mem hs;have nd':=nd;unfold aA at nd';simp only[WD,Vo,Vd]at nd';have hA:∀g∈A,∀t∈g,s∉t:=λg hg t ht z=>by have h1:s∈A.flatten.flatten:=dU.mpr ⟨g,hg,t,ht,z⟩;exact(VR.mp nd').2.2 s h1 s (UE.mpr (.inr (UE.mpr (.inl hx)))) rfl
 have nd1:=(VR.mp nd').2.1;have ha:∀t∈a,s∉t:=λt ht z=>(VR.mp nd1).2.2 s (WH.mpr ⟨t,ht,z⟩) s (UE.mpr (.inl hx)) rfl;have nd2:=(VR.mp nd1).2.1;have hsp:sp.Nodup:=(VR.mp nd2).1;have hb:∀t∈b,s∉t:=λt ht z=>(VR.mp nd2).2.2 s hx s (UE.mpr (.inl (WH.mpr ⟨t,ht,z⟩))) rfl;have hB:∀g∈B,∀t∈g,s∉t:=λg hg t ht z=>(VR.mp nd2).2.2 s hx s (UE.mpr (.inr (dU.mpr ⟨g,hg,t,ht,z⟩))) rfl;have key:∀t:Zb,s∉t->cV t L s=cV t (L++[s]) (s+1)/\cV t L s=cV t L (s+1):=λt ht=>by
  have e2:∀x∈t,s<=x↔s+1<=x:=λx hx=>by have:x≠s:=λz=>ht (z▸hx);lia
  refine⟨ug (λx hx=>?_) e2,ug (λ_ _=>Iff.rfl) e2⟩;have:x≠s:=λz=>ht (z▸hx);simp[this]
 have out:∀D:List (ZM),(∀g∈D,∀t∈g,s∉t)->(D.map λg=>(f9 L s g).2)=(D.map λg=>(f9 (L++[s]) (s+1) g).2)/\(D.map λg=>(f9 L s g).2)=D.map λg=>(f9 L (s+1) g).2:=λD hD=>
  ⟨VT λg hg=>by rw[gk,gk,su λt ht=>(key t (hD g hg t ht)).1],VT λg hg=>by rw[gk,gk,su λt ht=>(key t (hD g hg t ht)).2]⟩
 have mid:(f9 L s (a++sp::b)).2=(f9 (L++[s]) (s+1) (a++sp::b)).2+(f9 L (s+1) (a++sp::b)).2:=by rw[gk,gk,gk,FT (f1:=λsp=>cV sp (L++[s]) (s+1)) (f2:=λsp=>cV sp L (s+1)) (Ng hsp hx nl) (λt ht=>key t (hb t ht)) λt ht=>key t (ha t ht)];rfl
 unfold cj;simp only[V2,UI];have pc:∀(x:Nat)(l:Zb),d7 (x::l)=x*d7 l:=λ_ _=>rfl;rw[wQ,wQ,wQ,pc,pc,pc,mid,(out A hA).1,(out B hB).1,Nat.add_mul,Nat.mul_add,<-(out A hA).1,<-(out B hB).1,(out A hA).2,(out B hB).2]
end
def hl(T sp:Zb):Nat:=(sp.filter λx=>decide (x∈T)).length
def qC(T:Zb)(g:ZM):Prop:=∃a sp b,g=a++sp::b/\hl T sp=0/\∀s∈a++b,hl T s=1
def fB(gs:List (ZM)):Zb->Zb->Nat->Zb
 |[],L,_=>L
 |s::B,L,n=>if n<cj (L++[s]) (s+1) gs then fB gs B (L++[s]) n else fB gs B L (n-cj (L++[s]) (s+1) gs)
def qF(gs:List (ZM))(T:Zb):Zb->Zb->Nat->Nat
 |[],_,n=>n
 |s::B,L,n=>if s∈T then qF gs T B (L++[s]) n else qF gs T B L (n+cj (L++[s]) (s+1) gs)
section
variable{gs:List (ZM)}{T:Zb}{e:Nat}
def M9(h:∀x∈sp,x<e):cV sp T e=if hl T sp=0 then(0,1)else if hl T sp=1 then(1,0)else(0,0):=by
 have h0:(sp.filter λs=>decide (e<=s))=[]:=Z5.mpr λx hx=>by have:=h x hx;simp;lia
 unfold cV;rw[h0];show(if 0<hl T sp then(if hl T sp=1 then 1 else 0,0)else _)=_;generalize hl T sp=k;by_cases c:0<k;{rw[if_pos c,if_neg (show ¬k=0 by lia)];split<;>rfl};rw[if_neg c,if_pos (show k=0 by lia)];rfl
theorem Im:∀{g:ZM},(∀sp∈g,∀x∈sp,x<e)->(((gp (λsp=>cV sp T e) g).1=1/\∀s∈g,hl T s=1)\/((gp (λsp=>cV sp T e) g).1=0/\∃s∈g,hl T s≠1))/\(((gp (λsp=>cV sp T e) g).2=1/\qC T g)\/((gp (λsp=>cV sp T e) g).2=0/\¬qC T g))
 |[],_=>⟨.inl ⟨rfl,λs h=>absurd h UM⟩,.inr ⟨rfl,λ⟨a,sp,b,e,_⟩=>by cases a<;>cases e⟩⟩
 |sp::g,h=>by
  obtain⟨i1,i2⟩:=Im (g:=g) λs hs=>h s (U4 _ hs);rw[gp];rw[M9 (h sp U1)];generalize gp (λsp=>cV sp T e) g=z at i1 i2;unfold dH;by_cases c0:hl T sp=0
  .rw[if_pos c0];dsimp only;refine⟨.inr ⟨by lia,sp,U1,by lia⟩,?_⟩;rcases i1 with⟨e1,a1⟩|⟨e1,s,hs,ns⟩;{exact .inl ⟨by rw[e1];lia,[],sp,g,rfl,c0,a1⟩};refine .inr ⟨by rw[e1];lia,λ⟨a,sp',b,e,h0,h1⟩=>?_⟩;cases a with
   |nil=>cases e;exact ns (h1 s hs)
   |cons t a=>cases e;have:=h1 _ U1;lia
  rw[if_neg c0];by_cases c1:hl T sp=1
  .rw[if_pos c1];dsimp only;refine⟨?_,?_⟩;{rcases i1 with⟨e1,a1⟩|⟨e1,s,hs,ns⟩;{exact .inl ⟨by rw[e1],λs hs=>by rcases U6.mp hs with rfl|z;exact c1;exact a1 s z⟩};exact .inr ⟨by rw[e1],s,U4 _ hs,ns⟩};rcases i2 with⟨e2,a,sp',b,eg,h0,h1⟩|⟨e2,n2⟩;{refine .inl ⟨by rw[e2];lia,sp::a,sp',b,by rw[eg];rfl,h0,λs hs=>?_⟩;rcases U6.mp hs with rfl|z;{exact c1};exact h1 s z};refine .inr ⟨by rw[e2];lia,λ⟨a,sp',b,e,h0,h1⟩=>?_⟩;cases a with
   |nil=>cases e;lia
   |cons t a=>cases e;exact n2 ⟨a,sp',b,rfl,h0,λs hs=>h1 s (U4 _ hs)⟩
  rw[if_neg c1];dsimp only;refine⟨.inr ⟨by lia,sp,U1,c1⟩,.inr ⟨by lia,λ⟨a,sp',b,e,h0,h1⟩=>?_⟩⟩;cases a with
  |nil=>cases e;lia
  |cons t a=>cases e;exact c1 (h1 _ U1)
theorem pG:∀{gs:List (ZM)},(∀x∈aA gs,x<e)->(cj T e gs=1/\∀g∈gs,qC T g)\/(cj T e gs=0/\∃g∈gs,¬qC T g)
 |[],_=>.inl ⟨rfl,λg h=>absurd h UM⟩
 |g::gs,h=>by have i:=pG (gs:=gs) λx hx=>h x (by obtain⟨g,h1,h2⟩:=dU.mp hx;exact dU.mpr ⟨g,U4 _ h1,h2⟩);have j:=(Im (T:=T) (e:=e) (g:=g) λsp hs x hx=>h x (dU.mpr ⟨g,U1,sp,hs,hx⟩)).2;rw[<-gk]at j;have ew:cj T e (g::gs)=(f9 T e g).2*cj T e gs:=rfl;rw[ew];rcases j with⟨j1,j2⟩|⟨j1,j2⟩;{rcases i with⟨i1,i2⟩|⟨i1,g',hg,n⟩;{exact .inl ⟨by rw[j1,i1],λg' hg=>by rcases U6.mp hg with rfl|z;exact j2;exact i2 g' z⟩};exact .inr ⟨by rw[i1];lia,g',U4 _ hg,n⟩};exact .inr ⟨by rw[j1];lia,g,U1,j2⟩
structure Suf(gs:List (ZM)) (st:Nat)(B:Zb):Prop where
 up:B.Pairwise (·<·)
 all:∀x,x∈B↔x∈aA gs/\st<=x
def Suf.next{st s:Nat}(S:Suf gs st (s::B)):Suf gs (s+1) B:=by obtain⟨u1,u2⟩:=Vj.mp S.up;refine⟨u2,λx=>⟨λh=>⟨((S.all x).mp (U4 _ h)).1,u1 x h⟩,λ⟨h1,h2⟩=>?_⟩⟩;have:=(S.all s).mp U1;rcases U6.mp ((S.all x).mpr ⟨h1,by lia⟩)with z|z;{lia};exact z
def Suf.step{st s:Nat}{B L:Zb}(nd:(aA gs).Nodup)(S:Suf gs st (s::B))(hL:∀x∈L,x<st):cj L st gs=cj (L++[s]) (s+1) gs+cj L (s+1) gs:=by
 have h:=(S.all s).mp U1;have e:cj L st gs=cj L s gs:=zM (λ_ _=>Iff.rfl) λx hx=>⟨λz=>by
  rcases U6.mp ((S.all x).mpr ⟨hx,z⟩)with y|y
  .lia
  .have:=(Vj.mp S.up).1 x y;lia,λz=>by lia⟩
 rw[e];exact Mk nd h.1 λz=>by have:=hL s z;lia
def Suf.nil{st:Nat}(S:Suf gs st [])(he:∀x∈aA gs,x<e):cj L st gs=cj L e gs:=zM (λ_ _=>Iff.rfl) λx hx=>⟨λz=>absurd ((S.all x).mpr ⟨hx,z⟩) UM,λz=>by have:=he x hx;lia⟩
theorem qU(nd:(aA gs).Nodup)(he:∀x∈aA gs,x<e):∀{B L:Zb}{st n k:Nat},Suf gs st B->(∀x∈L,x<st)->n<cj L st gs->∃D,fB gs B L n=L++D/\D.Sublist B/\cj (fB gs B L n) e gs=1/\qF gs (fB gs B L n) B L k=k+n
 |[],L,st,n,k,S,hL,h=>by rw[S.nil he]at h;rcases pG (T:=L) he with⟨z,_⟩|⟨z,_⟩;{exact⟨[],by rw[VF];rfl,List.Sublist.slnil,z,by rw[qF];lia⟩};lia
 |s::B,L,st,n,k,S,hL,h=>by
  have hs:=(S.all s).mp U1;rw[S.step nd hL]at h;rw[fB,qF];by_cases c:n<cj (L++[s]) (s+1) gs
  .rw[if_pos c];obtain⟨D,e1,e2,e3,e4⟩:=qU nd he (k:=k) S.next (λx hx=>by
    rcases UE.mp hx with z|z
    .have:=hL x z;lia
    .rw[U8.mp z];lia) c
   refine⟨s::D,by rw[e1,Vd];rfl,e2.cons_cons s,e3,?_⟩;rw[if_pos (by rw[e1];simp)];exact e4
  rw[if_neg c];obtain⟨D,e1,e2,e3,e4⟩:=qU nd he (n:=n-cj (L++[s]) (s+1) gs) (k:=k+cj (L++[s]) (s+1) gs) S.next (λx hx=>by have:=hL x hx;lia) (by lia);refine⟨D,e1,e2.cons s,e3,?_⟩;rw[if_neg (by
   rw[e1];intro z;rcases UE.mp z with z|z
   .have:=hL s z;lia
   .have:=(Vj.mp S.up).1 s (e2.subset z);lia),e4]
  lia
end
section
variable{m p:Nat}{es:ZP}
def fX:aA (g::gs)=g.flatten++aA gs:=by unfold aA;rw[Vo,WD]
theorem ku:∀{l:Zb},aA (l.map λe=>[[e],[]])=l
 |[]=>rfl
 |a::l=>by rw[UI,fX,ku];rfl
theorem kj:∀{l:Zb},aA [l.map λe=>[e]]=l
 |[]=>rfl
 |a::l=>by have:=kj (l:=l);unfold aA at this⊢;simp only[Vo,List.flatten_nil,VF,UI]at this⊢;rw[this];rfl
theorem rq:∀{gs:List (ZM)},aA (gs.filter λg=>decide (g≠[]))=aA gs
 |[]=>rfl
 |g::gs=>by by_cases c:g=[];{rw[W6 (by simp[c]),rq,fX,c];rfl};rw[W5 (by simpa using c),fX,fX,rq]
def k9:c∈gB m es p↔∃n,aB es p n/\c=pc m es p n/\∀y∈c,y∉cQ m es:=by unfold gB;rw[UP,U9];constructor;{rintro⟨⟨n,h1,rfl⟩,h2⟩;exact⟨n,bH.mp h1,rfl,λy hy z=>UT h2 ⟨y,hy,z⟩⟩};rintro⟨n,h1,rfl,h2⟩;exact⟨⟨n,bH.mpr h1,rfl⟩,V6 λ⟨y,hy,z⟩=>h2 y hy z⟩
def vZ(W:bF m es)(T:Tree m es)(hp:p<m):(gB m es p).flatten.Nodup:=by unfold gB;rw[YT];have nd:((cM es p).filter ((λc=>decide (¬ ∃y∈c,y∈cQ m es))∘pc m es p)).Nodup:=Vi Vt (W.gd.fP p);exact qq T hp nd λn hn=>bH.mp (UP.mp hn).1
def gw{q:Nat}:q∈cQ m es↔q<m/\2<dh es q:=by unfold cQ;rw[UP,UX,VM]
def IU(T:Tree m es){p q x:Nat}(hp:p∈cQ m es)(hq:q∈cQ m es)(ne:p≠q)(hc:c∈gB m es p)(hd:d∈gB m es q)(xc:x∈c)(xd:x∈d):False:=by
 obtain⟨n,an,rfl,hn⟩:=k9.mp hc;obtain⟨k,ak,rfl,hk⟩:=k9.mp hd;have lp:=(gw.mp hp).1;have lq:=(gw.mp hq).1;obtain⟨lx,b1⟩:=cz.mp xc;have b2:=(cz.mp xd).2;have n1:¬aM es p n q:=λz=>hn q (cz.mpr ⟨lq,z⟩) hq;have n2:¬aM es q k p:=λz=>hk p (cz.mpr ⟨lp,z⟩) hp;have c1:=T.j8 lq lx an n1 b1;have c2:=T.j8 lp lx ak n2 b2;unfold aM at b1 b2;have z:ds es p q=0:=by lia
 exact ne (T.cn.zero lp lq z).symm
theorem sP(W:bF m es)(T:Tree m es):∀{ps:Zb},ps.Nodup->(∀p∈ps,p∈cQ m es)->(aA (ps.map (gB m es))).Nodup
 |[],_,_=>VY
 |p::ps,nd,h=>by obtain⟨n1,n2⟩:=VA.mp nd;have hp:=h p U1;rw[UI,fX];refine VR.mpr ⟨vZ W T (gw.mp hp).1,sP W T n2 λq hq=>h q (U4 _ hq),λx hx y hy e=>?_⟩;subst e;obtain⟨c,hc,xc⟩:=WH.mp hx;obtain⟨g,hg,d,hd,xd⟩:=dU.mp hy;obtain⟨q,hq,rfl⟩:=U9.mp hg;exact IU T hp (h q (U4 _ hq)) (λz=>n1 (z▸hq)) hc hd xc xd
def gO(W:bF m es)(ht:es.length+1=m):(aA (aS k m es)).Nodup/\∀x∈aA (aS k m es),x<m:=by have T:Tree m es:=⟨W.gd,W.cn,ht⟩;have nr:∀f:Nat->Bool,((List.range m).filter f).Nodup:=λf=>Vi Vt Vh;have he:∀x∈ens m es,x<m:=λx hx=>UX.mp (UP.mp hx).1;unfold aS;split;{exact⟨VY,λx hx=>absurd hx UM⟩};split;{rw[ku];exact⟨nr _,he⟩};split;{rw[kj];exact⟨nr _,he⟩};rw[rq];refine⟨sP W T (nr _) λp hp=>hp,λx hx=>?_⟩;obtain⟨g,hg,c,hc,xc⟩:=dU.mp hx;obtain⟨p,hp,rfl⟩:=U9.mp hg;obtain⟨n,_,rfl,_⟩:=k9.mp hc;exact(cz.mp xc).1
def spS(m:Nat)(gs:List (ZM)):Zb:=(List.range m).filter λx=>decide (x∈aA gs)
def oS(h:∀x∈aA gs,x<m){x:Nat}:x∈spS m gs↔x∈aA gs:=by unfold spS;rw[UP,UX,VM];exact⟨λz=>z.2,λz=>⟨h x z,z⟩⟩
def vR:(spS m gs).Pairwise (·<·):=XI _ XX
def CG(h:∀x∈aA gs,x<m):Suf gs 0 (spS m gs):=⟨vR,λx=>by rw[oS h];exact⟨λz=>⟨z,V3 _⟩,λz=>z.1⟩⟩
def zH(nd:(aA gs).Nodup)(h:∀x∈aA gs,x<m)(pm:S.Perm (aA gs))(up:S.Pairwise (·<=·)):S=spS m gs:=by refine m8 ?_ up (vR.imp λh=>Vk h);refine pm.trans ?_;exact(YS nd (vR.imp λh=>UH h)).mpr λx=>(oS h).symm
def m7(W:bF m es)(ht:es.length+1=m):(aA (aS k m es)).length<=60:=by obtain⟨nd,hl⟩:=gO W ht (k:=k);have:=Gr.eV m _ nd hl;have:=W.le;lia
def Qg{st:Nat}:(cV sp ls st).1<=sp.length/\(cV sp ls st).2<=1:=by unfold cV;have h1:=W4 (λs=>decide (s∈ls)) sp;have h2:=W4 (λs=>decide (st<=s)) sp;split;{split;{exact⟨by show 1<=_;lia,V3 _⟩};exact⟨V3 _,V3 _⟩};exact⟨h2,U5 _⟩
theorem K7:∀{g:ZM},(∀sp∈g,(f sp).1<=(h sp).1/\(f sp).2<=(h sp).2)->(gp f g).1<=(gp h g).1/\(gp f g).2<=(gp h g).2
 |[],_=>⟨U5 _,U5 _⟩
 |sp::g,e=>by obtain⟨a,b⟩:=e sp U1;obtain⟨c,d⟩:=K7 (g:=g) λs hs=>e s (U4 _ hs);exact⟨Wa a c,Nat.add_le_add (Wa b c) (Wa a d)⟩
def O7{st:Nat}:(f9 ls st g).2<=(f9 [] 0 g).2:=by rw[gk,gk];refine(K7 λsp _=>?_).2;rw[O9];exact Qg
def rV(W:bF m es)(ht:es.length+1=m)(hk:f6 k){st:Nat}:∀g∈aS k m es,(∀sp∈g,sp.length<=60)/\(f9 ls st g).2<2^64:=λg hg=>by have h:=(qJ W ht hk).2.2 g hg;exact⟨h.1,YV O7 h.2⟩
structure mz(gs:List (ZM)) (m:Nat)(T:Zb):Prop where
 up:T.Pairwise (·<·)
 sub:∀x∈T,x∈aA gs
 one:cj T m gs=1
def GV(nd:(aA gs).Nodup)(he:∀x∈aA gs,x<m){n:Nat}(h:n<cj [] 0 gs):mz gs m (fB gs (spS m gs) [] n)/\qF gs (fB gs (spS m gs) [] n) (spS m gs) [] 0=n:=by obtain⟨D,e1,e2,e3,e4⟩:=qU nd he (k:=0) (CG he) (λx hx=>absurd hx UM) h;rw[Xe]at e1;rw[X7]at e4;refine⟨⟨?_,λx hx=>?_,e3⟩,e4⟩;{rw[e1];exact vR.sublist e2};rw[e1]at hx;exact(oS he).mp (e2.subset hx)
end
end PB
namespace Dv
open PySem
def K8{α:Type}{l:List α}{enc:α->PyData}{c:DT}{Q:ZU->En->Prop}(I:Nat->ZU->En->Prop)(h1:I 0 ys E1)(hs:∀(J:ZU->En->Prop) i a ys E,l[i]?=some a->(∀ys' E',I (i+1) ys' E'->J ys' E')->I i ys E->∃E2,cT tg (enc a) E=some E2/\c x E2 λE3 b=>if b=true then r x ys E3 J else J ys E3)(he:∀ys E,I l.length ys E->Q ys E):QT (l.map enc) tg c r x ys E1 Q:=by refine⟨I,h1,λi d ys E hd hi=>?_,by rw[U7];exact he⟩;rw[UK]at hd;obtain⟨a,ha,rfl⟩:=W7.mp hd;exact hs _ i a ys E ha (λ_ _ h=>h) hi
end Dv
namespace PB
open PySem L2 Dv Gr
def rH:bq:=λdd Q x=>∃gs,dd=[iF gs]/\(aA gs).length<=60/\∀S:Zb,S.Perm (aA gs)->S.Pairwise (·<=·)->Q [] (.ow false) (nD S)
def u7{gs:List (ZM)}{i:Nat}{g:ZM}(h:gs[i]?=some g):aA (gs.take (i+1))=aA (gs.take i)++g.flatten:=by rw[take_snoc h];unfold aA;rw[WD,WD,List.flatten_singleton]
def HN{i:Nat}:(aA (gs.take i)).length<=(aA gs).length:=by
 have:aA gs=aA (gs.take i)++aA (gs.drop i):=by unfold aA;rw[<-WD,<-WD,List.take_append_drop]
 rw[this,UR];lia
def Qt:∀dd Q x,rH dd Q x->pS (aX [false] Q x) (ini [false] dd++List.replicate 3 none):=by
 rintro _ Q x⟨gs,rfl,hl,q⟩;unfold pS;rfl';refine Rc _ (λi ys E=>ys=(aA (gs.take i)).map iD/\∃o1 o2 o3:Zg,E=[some (.sh,iF gs),o1,o2,o3]/\cg o1=true/\cg o2=true/\cg o3=true) rfl ⟨rfl,none,none,none,rfl,rfl,rfl,rfl⟩ ?_ ?_
 .rintro J i g _ _ hi hJ⟨rfl,o1,o2,o3,rfl,h1,h2,h3⟩;have l1:=HN (gs:=gs) (i:=i+1);rw[u7 hi,UR]at l1;simp![h1];refine K8 (λj ys E=>ys=(aA (gs.take i)++(g.take j).flatten).map iD/\∃o2 o3:Zg,E=[some (.sh,iF gs),some (.sh,gD g),o2,o3]/\cg o2=true/\cg o3=true) ⟨by simp,o2,o3,rfl,h2,h3⟩ ?_ ?_
  .rintro J j sp _ _ hj hJ⟨rfl,o2,o3,rfl,h2,h3⟩;have e1:(g.take (j+1)).flatten=(g.take j).flatten++sp:=by rw[take_snoc hj,WD,List.flatten_singleton]
   have l2:(g.take (j+1)).flatten.length<=g.flatten.length:=by
    have:g.flatten=(g.take (j+1)).flatten++(g.drop (j+1)).flatten:=by rw[<-WD,List.take_append_drop]
    rw[this,UR];lia
   rw[e1,UR]at l2;simp![h2];refine K8 (λn ys E=>ys=(aA (gs.take i)++(g.take j).flatten++sp.take n).map iD/\∃o3:Zg,E=[some (.sh,iF gs),some (.sh,gD g),some (.sh,nD sp),o3]/\cg o3=true) ⟨by simp,o3,rfl,h3⟩ ?_ ?_
   .rintro J n s _ _ hn hJ⟨rfl,o3,rfl,h3⟩;have l3:=List.length_take_le n sp;have l4:(sp.take n).length<=sp.length:=by rw[Vf];lia
    simp![h3];refine⟨by simp only[UR,U7];lia,hJ _ _ ⟨?_,_,rfl,rfl⟩⟩;rw[take_snoc hn];simp only[V2,Vd];rfl
   rintro _ _⟨rfl,o3,rfl,h3⟩;refine hJ _ _ ⟨?_,_,_,rfl,rfl,h3⟩;rw[VS,e1,Vd]
  rintro _ _⟨rfl,o2,o3,rfl,h2,h3⟩;refine hJ _ _ ⟨?_,_,_,_,rfl,rfl,h2,h3⟩;rw[VS,u7 hi]
 rintro _ _⟨rfl,o1,o2,o3,rfl,h1,h2,h3⟩;rw[VS];refine⟨[some (.sh,iF gs),none,none,none],?_,?_⟩;{show(if bR [some (.sh,iF gs),o1,o2,o3] 1=true then(if bR [some (.sh,iF gs),none,o2,o3] 2=true then(if bR [some (.sh,iF gs),none,none,o3] 3=true then _ else none)else none)else none)=_;rw[<-oO,<-oO,<-oO,if_pos (show nO [some (.sh,iF gs),o1,o2,o3] 1=true from h1),if_pos (show nO [some (.sh,iF gs),none,o2,o3] 2=true from h2),if_pos (show nO [some (.sh,iF gs),none,none,o3] 3=true from h3)];rfl};rfl';refine CN (by lia) λS pm up=>?_;rfl';exact q S pm up
def DY:bq:=λdd Q x=>∃m es k,∃n:Int,dd=[wD m es,.str k,.int n]/\bF m es/\es.length+1=m/\f6 k/\(∀j:Nat,n=j->j<cj [] 0 (aS k m es)->Q [] (.ow false) (nD (fB (aS k m es) (spS m (aS k m es)) [] j)))/\(¬(0<=n/\n<cj [] 0 (aS k m es))->x "NoSuch" .none)
def OR:∀dd Q x,DY dd Q x->n5 nZ nS rH (aX [false,false,false] Q x) (ini [false,false,false] dd++List.replicate 5 none):=by
 rintro _ Q x⟨m,es,k,n,rfl,W,ht,hk,q1,q2⟩;obtain⟨nd,he⟩:=gO W ht (k:=k);have hsl:=m7 W ht (k:=k);unfold n5;rfl';refine⟨m,es,k,rfl,W,ht,?_⟩;rfl';by_cases c:0<=n
 .rw[if_pos c];obtain⟨j,rfl⟩:=Int.eq_ofNat_of_zero_le c;refine⟨by lia,aS k m es,[],0,rfl,rV W ht hk,?_⟩;rfl';by_cases c2:j<cj [] 0 (aS k m es)
  .rw[if_neg (by lia)];have q:=q1 j rfl c2;generalize hgs:aS k m es=gs at *;refine⟨by lia,gs,rfl,hsl,λS pm up=>?_⟩;have eS:=zH nd he pm up;subst eS;have hl2:=pm.length_eq;rfl';refine mR (λi E=>∃(L:Zb) (a:Nat)(o6 o7:Zg),E=[some (.sh,wD m es),some (.sh,.str k),some (.sh,iD j),some (.ow false,iF gs),some (.ow false,nD L),some (.sh,iD a),o6,o7]/\cg o6=true/\cg o7=true/\L.length<=i/\fB gs ((spS m gs).drop i) L a=fB gs (spS m gs) [] j) ⟨[],j,none,none,rfl,rfl,rfl,by simp,rfl⟩ ?_ ?_
   .rintro J i s _ hi hJ⟨L,a,o6,o7,rfl,h6,h7,hL,hu⟩;have li:=(VE.mp hi).1;have ed:(spS m gs).drop i=s::(spS m gs).drop (i+1):=by rw[Z4 li,(VE.mp hi).2]
    rw[ed,fB]at hu;simp![h6,h7];refine⟨by lia,by lia,gs,L++[s],s+1,by show _=[iF gs,PyData.list ((L++[s]).map iD),_];rw[V2];rfl,hgs▸rV W ht hk,?_⟩;generalize hw:cj (L++[s]) (s+1) gs=w at hu;simp![h7];by_cases ca:a<w;{rw[if_pos ca]at hu⊢;rfl';refine⟨by lia,hJ _ ⟨L++[s],a,some (.sh,iD s),some (.sh,iD w),?_,rfl,rfl,by simp;lia,hu⟩⟩;show _=[_,_,_,_,some (Kd.ow false,PyData.list ((L++[s]).map iD)),_,_,_];rw[V2];rfl};rw[if_neg ca]at hu⊢;rfl';rw[show(a:Int)-(w:Int)=((a-w:Nat):Int)by lia];exact hJ _ ⟨L,a-w,_,_,rfl,rfl,rfl,by lia,hu⟩
   rintro _⟨L,a,o6,o7,rfl,h6,h7,hL,hu⟩;rw[Xk,fB]at hu;rw[hu];rfl';exact q
  rw[if_pos (by lia)];exact q2 λz=>c2 (by lia)
 rw[if_neg c];exact q2 λz=>c z.1
def up_eq{a b:Zc}(ha:a.Pairwise (·<·))(hb:b.Pairwise (·<·))(h:∀x,x∈a↔x∈b):a=b:=
 List.Perm.eq_of_pairwise (le:=λx y:Int=>x<=y) (λx y _ _ h k=>by lia) (ha.imp λh=>by lia) (hb.imp λh=>by lia) ((YS (ha.imp λh=>by lia) (hb.imp λh=>by lia)).mpr h)
def C8{T:Zc}:dl 8 (.list (T.map .int))=true:=by show(T.map PyData.int).all (dl 7)=true;rw[Wq];exact US.mpr λ_ _=>rfl
def zF{a b:Zc}:PyData.list (a.map .int)=PyData.list (b.map .int)↔a=b:=⟨λh=>map_inj (λ_ _ h=>PyData.int.inj h) (PyData.list.inj h),λh=>by rw[h]⟩
def Lf(gs:List (ZM)) (m:Nat)(T:Zc):Prop:=∃L:Zb,T=L.map (λn:Nat=>(n:Int))/\mz gs m L
def D3:bq:=λdd Q x=>∃gs m,∃T:Zc,dd=[iF gs,.list (T.map .int),iD m]/\T.length<=63/\(aA gs).Nodup/\(∀x∈aA gs,x<m)/\(aA gs).length<=60/\(∀ls st,∀g∈gs,(∀sp∈g,sp.length<=60)/\(f9 ls st g).2<2^64)/\(Lf gs m T->Q [] .sh (.bool true))/\(¬Lf gs m T->Q [] .sh (.bool false))
def PZ:∀dd Q x,D3 dd Q x->nA rH nS (aX [false,false,false] Q x) (ini [false,false,false] dd++List.replicate 2 none):=by
 rintro _ Q x⟨gs,m,T,rfl,hT,nd,he,hsl,hw,q1,q2⟩;unfold nA;rfl';refine⟨gs,rfl,hsl,λS pm up=>?_⟩;have eS:=zH nd he pm up;subst eS;rfl';refine⟨T,rfl,hT,λms h1 h2=>?_⟩;rfl';refine⟨⟨C8,C8⟩,?_⟩;by_cases c:T=ms
 .rw[if_neg λz=>z (zF.mpr c)];refine gg (λt=>.bool (decide (PyData.int t∈(spS m gs).map iD))) rfl (λt htm I hI=>?_) ?_ (by lia);{rfl';exact⟨⟨yS,rfl⟩,hI _ rfl⟩};rw[show T.map (λt=>PyData.bool (decide (PyData.int t∈(spS m gs).map iD)))=(T.map λt=>decide (PyData.int t∈(spS m gs).map iD)).map PyData.bool by rw[V1];rfl];rfl';refine Fd ?_;rfl';have key:∀t:Int,PyData.int t∈(spS m gs).map iD↔∃s∈spS m gs,(s:Int)=t:=λt=>by rw[U9];exact⟨λ⟨s,h1,h2⟩=>⟨s,h1,PyData.int.inj h2⟩,λ⟨s,h1,h2⟩=>⟨s,h1,by rw[<-h2]⟩⟩
  by_cases ca:(T.all λa=>id (decide (PyData.int a∈(spS m gs).map iD)))=true
  .rw[ca,if_neg (by decide)];have hin:∀t∈T,∃s∈spS m gs,(s:Int)=t:=λt ht=>by exact(key t).mp (UT (US.mp ca t ht))
   have eT:T=(T.map Int.toNat).map (λn:Nat=>(n:Int)):=by
    rw[V1]
    conv=>lhs;rw[<-List.map_id T]
    refine VT λt ht=>?_;obtain⟨s,_,rfl⟩:=hin t ht;rfl
   generalize hTn:T.map Int.toNat=L at eT;have hL:∀s∈L,s∈aA gs:=λs hs=>by
    obtain⟨s',h1,h2⟩:=hin s (by rw[eT];exact U9.mpr ⟨s,hs,rfl⟩);have:s'=s:=by lia
    subst this;exact(oS he).mp h1
   have uL:L.Pairwise (·<·):=by rw[<-c,eT,WC]at h2;exact h2.imp λh=>by lia
   have eD:PyData.list (T.map PyData.int)=nD L:=by rw[eT,V1];rfl
   rw[eD];refine⟨gs,L,m,rfl,hw L m,?_⟩;rfl';by_cases co:cj L m gs=1;{have:=q1 ⟨L,eT,uL,hL,co⟩;rw[co];exact this};have:=q2 λ⟨L',e',C⟩=>co (by
    have:L'=L:=map_inj (λa b h=>by lia) (e'.symm.trans eT)
    rw[<-this];exact C.one)
   rw[VH (by lia)];exact this
  rw[Bool.eq_false_iff.mpr ca,if_pos rfl];have:=q2 λ⟨L,e,C⟩=>ca (US.mpr λt ht=>by
   rw[e]at ht;obtain⟨s,hs,rfl⟩:=U9.mp ht;exact V6 ((key _).mpr ⟨s,(oS he).mpr (C.sub s hs),rfl⟩))
  exact this
 rw[if_pos λz=>c (zF.mp z)];refine q2 λ⟨L,e,C⟩=>c (up_eq ?_ h2 λx=>(h1 x).symm);rw[e,WC];exact C.up.imp λh=>by lia
def Du:bq:=λdd Q x=>∃m es k,∃T:Zc,dd=[wD m es,.str k,.list (T.map .int)]/\bF m es/\es.length+1=m/\f6 k/\T.length<=63/\(∀L:Zb,T=L.map (λn:Nat=>(n:Int))->mz (aS k m es) m L->Q [] .sh (iD (qF (aS k m es) L (spS m (aS k m es)) [] 0)))/\(¬Lf (aS k m es) m T->x "NotOne" .none)
def Qq:∀dd Q x,Du dd Q x->jm nZ D3 rH nS (aX [false,false,false] Q x) (ini [false,false,false] dd++List.replicate 4 none):=by
 rintro _ Q x⟨m,es,k,T,rfl,W,ht,hk,hT,q1,q2⟩;obtain⟨nd,he⟩:=gO W ht (k:=k);have hsl:=m7 W ht (k:=k);unfold jm;rfl';refine⟨m,es,k,rfl,W,ht,?_⟩;rfl';refine⟨aS k m es,m,T,rfl,hT,nd,he,hsl,λls st=>rV W ht hk,λhC=>?_,λhC=>?_⟩
 .obtain⟨L,rfl,C⟩:=id hC;have q:=q1 L rfl C;generalize hgs:aS k m es=gs at *;rfl';rw[show PyData.list (List.map PyData.int (L.map λn:Nat=>(n:Int)))=nD L by rw[V1];rfl];rw[U7]at hT;refine⟨by lia,gs,rfl,hsl,λS pm up=>?_⟩;have eS:=zH nd he pm up;subst eS;have hl2:=pm.length_eq;rfl';refine mR (λi E=>∃(sh:Zb) (a:Nat)(o6:Zg),E=[some (.sh,wD m es),some (.sh,.str k),some (.sh,nD L),some (.ow false,iF gs),some (.sh,iD a),some (.ow false,nD sh),o6]/\cg o6=true/\sh.length<=i/\qF gs L ((spS m gs).drop i) sh a=qF gs L (spS m gs) [] 0) ⟨[],0,none,rfl,rfl,by simp,rfl⟩ ?_ ?_
  .rintro J i s _ hi hJ⟨sh,a,o6,rfl,h6,hL,hu⟩;have li:=(VE.mp hi).1;have ed:(spS m gs).drop i=s::(spS m gs).drop (i+1):=by rw[Z4 li,(VE.mp hi).2]
   rw[ed,qF]at hu;simp![h6];refine⟨⟨yS,rfl⟩,?_⟩;by_cases cs:s∈L;{rw[if_pos cs]at hu;rw[if_pos (yI.mpr cs)];rfl';refine⟨by lia,hJ _ ⟨sh++[s],a,some (.sh,iD s),?_,rfl,by simp;lia,hu⟩⟩;show _=[_,_,_,_,_,some (Kd.ow false,PyData.list ((sh++[s]).map iD)),_];rw[V2];rfl};rw[if_neg cs]at hu;rw[if_neg λz=>cs (yI.mp z)];rfl';refine⟨by lia,by lia,gs,sh++[s],s+1,by show _=[iF gs,PyData.list ((sh++[s]).map iD),_];rw[V2];rfl,hgs▸rV W ht hk,?_⟩;generalize hw:cj (sh++[s]) (s+1) gs=w at hu;rfl';exact hJ _ ⟨sh,a+w,some (.sh,iD s),rfl,rfl,by lia,hu⟩
  rintro _⟨sh,a,o6,rfl,h6,hL,hu⟩;rw[Xk,qF]at hu;rw[hu];rfl';exact q
 rfl';exact q2 hC
section
variable{gs:List (ZM)}{T:Zb}{m:Nat}
theorem Ce:∀{g:ZM},(∀s∈g,hl T s<=1)->(g.map (hl T)).sum<=g.length/\((g.map (hl T)).sum=g.length->∀s∈g,hl T s=1)
 |[],_=>⟨U5 _,λ_ s h=>absurd h UM⟩
 |s::g,h=>by obtain⟨i,j⟩:=Ce (g:=g) λx hx=>h x (U4 _ hx);have hs:=h s U1;rw[UI,VN,UL];refine⟨by lia,λe x hx=>?_⟩;rcases U6.mp hx with rfl|z;{lia};exact j (by lia) x z
theorem vY:∀{g:ZM},(∀s∈g,hl T s=1)->(g.map (hl T)).sum=g.length
 |[],_=>rfl
 |s::g,h=>by rw[UI,VN,UL,vY λx hx=>h x (U4 _ hx),h s U1];lia
def wM:∀{g:ZM},qC T g↔(∀s∈g,hl T s<=1)/\(g.map (hl T)).sum+1=g.length:=by
 intro g;constructor;{rintro⟨a,sp,b,rfl,h0,h1⟩;refine⟨λs hs=>?_,?_⟩;{rcases UE.mp hs with z|z;{exact X8 (h1 s (UE.mpr (.inl z)))};rcases U6.mp z with rfl|z;{lia};exact X8 (h1 s (UE.mpr (.inr z)))};rw[V2,UI,YB,VN,UR,UL,h0,vY λs hs=>h1 s (UE.mpr (.inl hs)),vY λs hs=>h1 s (UE.mpr (.inr hs))];lia};induction g with
 |nil=>rintro⟨_,e⟩;cases e
 |cons s g ih=>rintro⟨h,e⟩;have hs:=h s U1;have hg:∀x∈g,hl T x<=1:=λx hx=>h x (U4 _ hx);rw[UI,VN,UL]at e;by_cases c:hl T s=0;{exact⟨[],s,g,rfl,c,(Ce hg).2 (by lia)⟩};obtain⟨a,sp,b,rfl,h0,h1⟩:=ih ⟨hg,by lia⟩;refine⟨s::a,sp,b,rfl,h0,λx hx=>?_⟩;rcases U6.mp hx with rfl|z;{lia};exact h1 x z
def mz.Kr(C:mz gs m T)(he:∀x∈aA gs,x<m):∀g∈gs,qC T g:=by rcases pG (T:=T) he with⟨_,h⟩|⟨z,_⟩;{exact h};have:=C.one;lia
def mz.of(he:∀x∈aA gs,x<m)(up:T.Pairwise (·<·))(sub:∀x∈T,x∈aA gs)(h:∀g∈gs,qC T g):mz gs m T:=by rcases pG (T:=T) he with⟨z,_⟩|⟨_,g,hg,n⟩;{exact⟨up,sub,z⟩};exact absurd (h g hg) n
theorem w6:∀{l:Zb},(∀a∈l,0<a)->0<d7 l
 |[],_=>Nat.one_pos
 |a::l,h=>Nat.mul_pos (h a U1) (w6 λx hx=>h x (U4 _ hx))
def M0{a:Nat}(h:∀x∈l,0<x):0<but (a::l):=UZ (w6 h) (by show d7 l<=d7 l+a*but l;lia)
theorem Cg:∀{gs:List (ZM)},cj [] 0 gs<=2^(aA gs).length
 |[]=>U5 1
 |g::gs=>by have i:=Cg (gs:=gs);have ew:cj [] 0 (g::gs)=(f9 [] 0 g).2*cj [] 0 gs:=rfl;rw[ew,fX,UR,Nat.pow_add,Aw];refine Wa (V4 wC ?_) i;rw[List.length_flatten];exact U5 _
def M6(W:bF m es)(ht:es.length+1=m)(hk:f6 k):0<cj [] 0 (aS k m es):=by
 have Tr:Tree m es:=⟨W.gd,W.cn,ht⟩;unfold cj;refine w6 λx hx=>?_;obtain⟨g,hg,rfl⟩:=U9.mp hx;rw[Aw];have hne:=(qJ W ht hk).2.1 g hg;unfold aS at hg;split at hg;{exact absurd hg UM};split at hg;{obtain⟨e,_,rfl⟩:=U9.mp hg;show 0<but [1,0];decide};have pos:∀c∈g,0<c.length:=by split at hg;{rw[U8.mp hg];intro c hc;obtain⟨e,_,rfl⟩:=U9.mp hc;exact Nat.one_pos};obtain⟨p,hp,rfl⟩:=U9.mp (UP.mp hg).1;exact(F7 W Tr (UX.mp (UP.mp hp).1)).pos
 cases g with
 |nil=>exact absurd rfl hne
 |cons s g=>refine M0 λx hx=>?_;obtain⟨c,hc,rfl⟩:=U9.mp hx;exact pos c (U4 _ hc)
end
abbrev zI(L:Zb):Zc:=L.map λn:Nat=>(n:Int)
def uM:PyData.list ((zI L).map .int)=nD L:=by unfold zI;rw[V1];rfl
def Gv(h:zI L=zI T):L=T:=map_inj (λa b h=>by lia) h
def RY{m:Nat}:Lf gs m (zI L)↔mz gs m L:=⟨λ⟨T,e,C⟩=>Gv e▸C,λC=>⟨L,rfl,C⟩⟩
section
variable{m:Nat}{es:ZP}
def z6(W:bF m es)(ht:es.length+1=m)(hk:f6 k)(ka:k≠"all")(hf:cQ m es≠[]):aS k m es=((cQ m es).map (gB m es)).filter λg=>decide (g≠[]):=by
 have h3:3<=m:=by obtain⟨p,hp⟩:=Z6 _ hf;have h1:=(gw.mp hp).2;have h2:=W.gd.oK p;unfold dh at h1;lia
 unfold aS;rw[if_neg (by
  rw[kind_len W ht hk];rcases hk with rfl|rfl|rfl
  .rw[if_pos rfl];lia
  .rw[if_neg (by decide),if_pos rfl];lia
  .exact absurd rfl ka),if_neg ka,if_neg hf]
end
section
variable{m:Nat}{es:ZP}{T:Zb}
def MK:mz [] m T↔T=[]:=by
 constructor
 .intro C;cases T with
  |nil=>rfl
  |cons a _=>exact absurd (C.sub a U1) UM
 rintro rfl;exact⟨List.Pairwise.nil,λx h=>absurd h UM,rfl⟩
def rL{a b:Zb}(ha:a.Pairwise (·<·))(hb:b.Pairwise (·<·))(h:∀x,x∈a↔x∈b):a=b:=
 m8 ((YS (ha.imp λh=>UH h) (hb.imp λh=>UH h)).mpr h) (ha.imp λh=>Vk h) (hb.imp λh=>Vk h)
def hl1{x:Nat}:hl T [x]=if x∈T then 1 else 0:=by unfold hl;by_cases c:x∈T;{rw[W5 (by simpa using c),if_pos c];rfl};rw[W6 (by simpa using c),if_neg c];rfl
def Ca{x:Nat}:qC T [[x],[]]↔x∈T:=by rw[wM];have h0:hl T []=0:=rfl;simp only[UI,XS,VN,List.sum_nil,UL,List.length_nil,h0,hl1];by_cases c:x∈T;{rw[if_pos c];refine⟨λ_=>c,λ_=>⟨λs hs=>?_,rfl⟩⟩;rcases U6.mp hs with rfl|z;{rw[hl1,if_pos c];exact U5 _};rw[U8.mp z,h0];exact V3 _};rw[if_neg c];exact⟨λh=>absurd h.2 (by lia),λh=>absurd h c⟩
def AI{l:Zb}(up:l.Pairwise (·<·))(hm:∀x∈l,x<m):mz (l.map λe=>[[e],[]]) m T↔T=l:=by
 have he:∀x∈aA (l.map λe=>[[e],[]]),x<m:=by rw[ku];exact hm
 constructor;{intro C;refine rL C.up up λx=>⟨λh=>?_,λh=>?_⟩;{have:=C.sub x h;rw[ku]at this;exact this};exact Ca.mp (C.Kr he _ (U9.mpr ⟨x,h,rfl⟩))};rintro rfl;refine .of he up (λx hx=>by rw[ku];exact hx) λg hg=>?_;obtain⟨e,h,rfl⟩:=U9.mp hg;exact Ca.mpr h
def CA{a b:Nat}(hab:a<b)(hb:b<m):mz [[a,b].map λe=>[e]] m T↔T=[a]\/T=[b]:=by
 have he:∀x∈aA [[a,b].map λe=>[e]],x<m:=by rw[kj];intro x hx;simp at hx;lia
 have key:qC T ([a,b].map λe=>[e])↔((if a∈T then 1 else 0)+(if b∈T then 1 else 0)=1):=by rw[wM];show(∀s∈[[a],[b]],hl T s<=1)/\hl T [a]+(hl T [b]+0)+1=2↔_;rw[hl1,hl1];constructor;{intro h;lia};intro h;refine⟨λs hs=>?_,by lia⟩;rcases U6.mp hs with rfl|z;{rw[hl1];split<;>lia};rw[U8.mp z,hl1];split<;>lia
 constructor
 .intro C;have h:=key.mp (C.Kr he _ U1);have sub:∀x∈T,x=a\/x=b:=λx hx=>by have:=C.sub x hx;rw[kj]at this;simpa using this
  by_cases ca:a∈T
  .rw[if_pos ca]at h;have cb:b∉T:=λz=>by rw[if_pos z]at h;lia
   refine .inl (rL C.up (Z7 _ _) λx=>⟨λhx=>?_,λhx=>?_⟩);{rcases sub x hx with rfl|rfl;{exact U1};exact absurd hx cb};rw[U8.mp hx];exact ca
  rw[if_neg ca]at h;have cb:b∈T:=WK λz=>by rw[if_neg z]at h;lia
  refine .inr (rL C.up (Z7 _ _) λx=>⟨λhx=>?_,λhx=>?_⟩);{rcases sub x hx with rfl|rfl;{exact absurd hx ca};exact U1};rw[U8.mp hx];exact cb
 intro h;refine .of he ?_ (λx hx=>?_) λg hg=>?_;{rcases h with rfl|rfl<;>exact Z7 _ _};{rw[kj];rcases h with rfl|rfl<;>simp at hx<;>simp[hx]};rw[U8.mp hg,key];rcases h with rfl|rfl;{rw[if_pos U1,if_neg (by simp;lia)]};rw[if_neg (by simp;lia),if_pos U1]
theorem zK{p:Nat->Bool}:∀{g:ZM},(g.flatten.filter p).length=(g.map λs=>(s.filter p).length).sum
 |[]=>rfl
 |s::g=>by rw[Vo,List.filter_append,UR,zK,UI,VN]
end
end PB
namespace L2
section
variable{α β:Type}
theorem BO(c:Zb)(x:α):∀gs:List (List Nat×List α),(∃g∈c7 c x gs,g.1=c/\x∈g.2)/\∀g∈gs,∃g'∈c7 c x gs,g'.1=g.1/\∀y∈g.2,y∈g'.2
 |[]=>⟨⟨_,U1,rfl,U1⟩,λg hg=>(nomatch hg)⟩
 | (d,xs)::gs=>by obtain⟨⟨g0,h1,h2,h3⟩,h4⟩:=BO c x gs;by_cases e:d=c;{have e2:c7 c x ((d,xs)::gs)=(d,xs++[x])::gs:=if_pos e;rw[e2];refine⟨⟨_,U1,e,UE.mpr (.inr U1)⟩,λg hg=>?_⟩;rcases U6.mp hg with rfl|hg;{exact⟨_,U1,rfl,λy hy=>UE.mpr (.inl hy)⟩};exact⟨g,U4 _ hg,rfl,λy hy=>hy⟩};have e2:c7 c x ((d,xs)::gs)=(d,xs)::c7 c x gs:=if_neg e;rw[e2];refine⟨⟨g0,U4 _ h1,h2,h3⟩,λg hg=>?_⟩;rcases U6.mp hg with rfl|hg;{exact⟨_,U1,rfl,λy hy=>hy⟩};obtain⟨g',h5,h6⟩:=h4 g hg;exact⟨g',U4 _ h5,h6⟩
theorem CL(c:Zb)(x:α):∀gs:List (List Nat×List α),∀g∈c7 c x gs,∀y∈g.2,(g.1=c/\y=x)\/∃g'∈gs,g'.1=g.1/\y∈g'.2
 |[],g,hg,y,hy=>by cases U8.mp hg;exact .inl ⟨rfl,U8.mp hy⟩
 | (d,xs)::gs,g,hg,y,hy=>by by_cases e:d=c;{have e2:c7 c x ((d,xs)::gs)=(d,xs++[x])::gs:=if_pos e;rw[e2]at hg;rcases U6.mp hg with rfl|hg;{rcases UE.mp hy with hy|hy;{exact .inr ⟨_,U1,rfl,hy⟩};exact .inl ⟨e,U8.mp hy⟩};exact .inr ⟨g,U4 _ hg,rfl,hy⟩};have e2:c7 c x ((d,xs)::gs)=(d,xs)::c7 c x gs:=if_neg e;rw[e2]at hg;rcases U6.mp hg with rfl|hg;{exact .inr ⟨_,U1,rfl,hy⟩};rcases CL c x gs g hg y hy with z|⟨g',h1,h2⟩;{exact .inl z};exact .inr ⟨g',U4 _ h1,h2⟩
structure GC(l:List (List Nat×α))(gs:List (List Nat×List α)):Prop where
 nd:(gs.map (·.1)).Nodup
 of:∀g∈gs,∀x∈g.2,(g.1,x)∈l
 all:∀q∈l,∃g∈gs,g.1=q.1/\q.2∈g.2
theorem Cc(l:List (List Nat×α)):∀n,GC (l.take n) (iN (l.take n))
 |0=>by rw[List.take_zero];exact⟨.nil,λ_ h=>(nomatch h),λ_ h=>(nomatch h)⟩
 |n+1=>by
  have ih:=Cc l n;rw[Xd];cases e:l[n]? with
  |none=>rw[YE,VF];exact ih
  |some q=>rw[YF,m6];obtain⟨h1,h2⟩:=BO q.1 q.2 (iN (l.take n));refine⟨(xq q.1 q.2 _ ih.nd).1,λg hg x hx=>?_,λp hp=>?_⟩;{rcases CL q.1 q.2 _ g hg x hx with⟨e1,e2⟩|⟨g',h3,h4,h5⟩;{rw[e1,e2];exact UE.mpr (.inr U1)};rw[<-h4];exact UE.mpr (.inl (ih.of g' h3 x h5))};rcases UE.mp hp with hp|hp;{obtain⟨g,h3,h4,h5⟩:=ih.all p hp;obtain⟨g',h6,h7,h8⟩:=h2 g h3;exact⟨g',h6,h7.trans h4,h8 _ h5⟩};cases U8.mp hp;exact h1
def gc(l:List (List Nat×α)):GC l (iN l):=by have:=Cc l l.length;rwa[VS]at this
def l7(f:α->Zb)(ts:List α):List (List α):=((iN ((ts.map f).zip ts)).filter λg=>decide (1<g.2.length)).map (·.2)
def mG{f:α->Zb}{ts:List α}{q:List Nat×α}:q∈(ts.map f).zip ts↔q.1=f q.2/\q.2∈ts:=by
 induction ts with
 |nil=>simp
 |cons t ts ih=>rw[UI,List.zip_cons_cons,U6,ih,U6];constructor;{rintro (rfl|⟨h1,h2⟩);{exact⟨rfl,.inl rfl⟩};exact⟨h1,.inr h2⟩};rintro⟨h1,h2|h2⟩;{exact .inl (Prod.ext (by rw[h1,h2]) h2)};exact .inr ⟨h1,h2⟩
def zk{r:List α}(ha:a∈r)(hb:b∈r)(ne:a≠b):1<r.length:=by
 cases r with
 |nil=>cases ha
 |cons x r=>
  cases r with
  |nil=>exact absurd ((U8.mp ha).trans (U8.mp hb).symm) ne
  |cons y r=>exact Nat.succ_lt_succ (Nat.succ_pos _)
def tP{f:α->Zb}{r:List α}(h:r∈l7 f ts):(∀x∈r,x∈ts)/\1<r.length/\∀x∈r,∀y∈r,f x=f y:=by obtain⟨g,hg,rfl⟩:=U9.mp h;obtain⟨hg,l⟩:=UP.mp hg;have c:=(gc ((ts.map f).zip ts)).of g hg;refine⟨λx hx=>(mG.mp (c x hx)).2,UT l,λx hx y hy=>?_⟩;rw[<-(mG.mp (c x hx)).1,<-(mG.mp (c y hy)).1]
def Mf{f:α->Zb}(ha:a∈ts)(hb:b∈ts)(ne:a≠b)(e:f a=f b):∃r∈l7 f ts,∀x∈ts,f x=f a->x∈r:=by
 have c:=gc ((ts.map f).zip ts);obtain⟨g,hg,h1,h2⟩:=c.all (f a,a) (mG.mpr ⟨rfl,ha⟩);have all:∀x∈ts,f x=f a->x∈g.2:=λx hx ex=>by
  obtain⟨g',hg',h3,h4⟩:=c.all (f x,x) (mG.mpr ⟨rfl,hx⟩);have eg:g'=g:=by
   have n:=c.nd;obtain⟨i,li,ei⟩:=Xc hg;obtain⟨j,lj,ej⟩:=Xc hg';have pw:=WM.mp n;have key:g'.1=g.1:=by rw[h3,h1,ex]
   rcases Wn i j with l|l|l;{have:=pw i j (by rw[U7];exact li) (by rw[U7];exact lj) l;rw[YW,YW,ei,ej]at this;exact absurd key.symm this};{subst l;rw[<-ei,<-ej]};have:=pw j i (by rw[U7];exact lj) (by rw[U7];exact li) l;rw[YW,YW,ei,ej]at this;exact absurd key this
  rw[<-eg];exact h4
 exact⟨g.2,U9.mpr ⟨g,UP.mpr ⟨hg,V6 (zk (all a ha rfl) (all b hb e.symm) ne)⟩,rfl⟩,all⟩
def LQ(ha:a∈ts)(hb:b∈ts)(ne:a≠b):(∃r∈l7 f ts,a∈r/\b∈r)↔f a=f b:=by constructor;{rintro⟨r,hr,h1,h2⟩;exact(tP hr).2.2 a h1 b h2};intro e;obtain⟨r,hr,all⟩:=Mf ha hb ne e;exact⟨r,hr,all a ha rfl,all b hb e.symm⟩
end
end L2
namespace PB
open PySem L2 Dv Gr
def LS:EE x E Q=Q E (.st false) (.dict [(.none,.none)]):=rfl
def Qv{p:Bool}:Kd.pin (.st p)=p:=rfl
def A7(g:List Nat×List Th):PyData×PyData:=(.tuple (g.1.map iD),.list (g.2.map gz))
theorem Cy:∀{a b:Zb},a.map iD=b.map iD->a=b
 |[],[],_=>rfl
 |[],_::_,h=>by cases h
 |_::_,[],h=>by cases h
 |x::a,y::b,h=>by rw[UI,UI,Wr]at h;rw[EY.mp h.1,Cy h.2]
theorem AS(c:Zb)(t:Th):∀gs:List (List Nat×List Th),kJ (gs.map A7) (.tuple (c.map iD)) (gz t)=(c7 c t gs).map A7
 |[]=>rfl
 | (d,xs)::gs=>by rw[UI];show kJ ((PyData.tuple (d.map iD),PyData.list (xs.map gz))::gs.map A7) _ _=_;unfold kJ c7;by_cases e:d=c;{rw[if_pos (by rw[e]),if_pos e,UI];show(PyData.tuple (d.map iD),PyData.list (xs.map gz++[gz t]))::_=_;unfold A7;rw[V2];rfl};rw[if_neg (λz=>e (Cy (PyData.tuple.inj z))),if_neg e,UI,AS c t gs];rfl
def Pp(es:ZP)(ls:Zb)(ts:List Th):PyData:=.list ((l7 (br es ls) ts).map λr=>.list (r.map gz))
def Eu:bq:=λdd Q x=>∃m es ls k,dd=[wD m es,nD ls,.str k]/\bF m es/\jY m ls/\Q [] (.ow false) (Pp es ls (aR k m es))
def QG:∀dd Q x,Eu dd Q x->qa AK v8 D8 (aX [false,false,false] Q x) (ini [false,false,false] dd++List.replicate 5 none):=by
 rintro _ Q x⟨m,es,ls,k,rfl,W,L,q⟩;have hm:=W.le;have hL:=L.len;have hlen:=Gq (k:=k) W;unfold qa;rfl';refine Nr L ?_;rfl';refine⟨m,es,k,rfl,W,?_⟩;simp![LS,Qv];refine⟨m,es,ls,aR k m es,rfl,W,L.lt,by lia,IG W.gd,hlen,?_⟩;rfl';have ez:∀ts:List Th,ts.zip ts=ts.map λt=>(t,t):=λts=>by
  induction ts with
  |nil=>rfl
  |cons a ts ih=>rw[List.zip_cons_cons,ih];rfl
 rw[ez,V1];generalize aR k m es=ts at q hlen⊢;refine mR (λi E=>∃(o5 o6:Zg),E=[some (.sh,wD m es),some (.sh,nD ls),some (.sh,.str k),some (.sh,.list (ts.map gz)),some (.st false,.dict ((.none,.none)::(iN (((ts.map (br es ls)).zip ts).take i)).map A7)),o5,o6,none]/\cg o5=true/\cg o6=true) ⟨none,none,rfl,rfl,rfl⟩ ?_ ?_
 .rintro J i t _ hi hJ⟨o5,o6,rfl,h5,h6⟩;simp![h5,h6,Function.comp];have li:=cR hi;obtain⟨gl,gq⟩:=tY i ((ts.map (br es ls)).zip ts);have et:((ts.map (br es ls)).zip ts).take (i+1)=((ts.map (br es ls)).zip ts).take i++[(br es ls t,t)]:=by rw[Xd,List.getElem?_zip_eq_some (z:=(br es ls t,t)) |>.mpr ⟨by rw[UK,hi];rfl,hi⟩];rfl
  rw[et,m6]at hJ;generalize iN (((ts.map (br es ls)).zip ts).take i)=gs at gl gq hJ⊢;refine⟨gs.map A7,.sh,(br es ls t).map iD,.sh,gz t,_,rfl,rfl,rfl,?_,rfl,by decide,rfl,?_,?_,?_⟩;{rw[Wq];exact US.mpr λ_ _=>rfl};{rw[U7];exact YV (show _<=2000 by lia) (by decide)};{rw[Wq];refine US.mpr λg hg=>V6 ?_;show(g.2.map gz).length<sizeLine;rw[U7];exact YV (show _<=2000 by have:=gq g hg;lia) (by decide)};rw[AS];exact hJ _ ⟨_,_,rfl,rfl,rfl⟩
 rintro _⟨o5,o6,rfl,h5,h6⟩;have hz:((ts.map (br es ls)).zip ts).length=ts.length:=by rw[List.length_zip,U7,Nat.min_self]
 rw[show ts.length=((ts.map (br es ls)).zip ts).length from hz.symm,VS];rfl';obtain⟨gl,gq⟩:=tY ((ts.map (br es ls)).zip ts).length ((ts.map (br es ls)).zip ts);rw[VS,hz]at gl;have q2:Q [] (.ow false) (.list (((iN ((ts.map (br es ls)).zip ts)).filter λg=>decide (1<g.2.length)).map λg=>.list (g.2.map gz))):=by unfold Pp l7 at q;rw[V1]at q;exact q
 clear q gq;generalize iN ((ts.map (br es ls)).zip ts)=gs at gl q2⊢;refine⟨gs.map A7,rfl,?_⟩;rfl';rw[V1];refine jb (λg=>if decide (1<g.2.length)=true then some (.list (g.2.map gz))else none) rfl (λg hg I hI=>?_) ?_ (by lia);{show ∃E2,cT (.nm 7) (.list (g.2.map gz)) _=some E2/\_;simp only[dv,dw,dx,dy,dz,Nat.reduceBEq]at hI⊢;split;{rename_i c;rw[if_pos (by lia)]at hI;exact hI _ rfl};rename_i c;rw[if_neg (by lia)]at hI;exact hI _ rfl};rw[dY];rfl';exact q2
def UB{a b:ZU}{P:Zh}:mD [.tuple a,.tuple b] P=((dl 8 (.tuple a)=true/\dl 8 (.tuple b)=true)/\P .sh (.bool !(decide (PyData.tuple a=.tuple b)))):=rfl
def EL:bq:=λdd Q x=>∃n:Nat,dd=[iD n]/\Q [] .sh (.bool true)
def NZ:∀dd Q x,EL dd Q x->iR (aX [false] Q x) (ini [false] dd++List.replicate 0 none):=by rintro _ Q x⟨n,rfl,q⟩;unfold iR;rfl';exact q
def UC:mD [.none,.none] P=P .sh (.bool false):=rfl
section
variable{es:ZP}{ls:Zb}{ts:List Th}
def ID(h:0<pt es ls t u):∃l∈ls,td es l t≠td es l u:=by obtain⟨l,hl⟩:=List.exists_mem_of_length_pos h;obtain⟨h1,h2⟩:=UP.mp hl;exact⟨l,h1,UT h2⟩
end
theorem AF{α:Type}(c:Zb)(x:α):∀(gs:List (List Nat×List α)) g,g∈c7 c x gs->g∈gs\/g.2=[x]\/∃g'∈gs,g.2=g'.2++[x]
 |[],g,h=>by cases U8.mp h;exact .inr (.inl rfl)
 | (d,xs)::gs,g,h=>by unfold c7 at h;split at h;{rcases U6.mp h with rfl|h;{exact .inr (.inr ⟨_,U1,rfl⟩)};exact .inl (U4 _ h)};rcases U6.mp h with rfl|h;{exact .inl U1};rcases AF c x gs g h with z|z|⟨g',z,e⟩;{exact .inl (U4 _ z)};{exact .inr (.inl z)};exact .inr (.inr ⟨g',U4 _ z,e⟩)
theorem p8{α:Type}(l:List (List Nat×α)):∀n,∀g∈iN (l.take n),g.2.Sublist ((l.take n).map (·.2))
 |0,g,h=>by rw[List.take_zero]at h;exact absurd h UM
 |n+1,g,h=>by rw[Xd]at h⊢;rcases e:l[n]? with _|q;{rw[e,YE,VF]at h;rw[YE,VF];exact p8 l n g h};rw[e,YF,m6]at h;rw[YF,V2];rcases AF _ _ _ g h with z|z|⟨g',z,e⟩;{exact(p8 l n g z).trans (List.sublist_append_left _ _)};{rw[z];exact List.sublist_append_right _ _};rw[e];exact(p8 l n g' z).append (List.Sublist.refl _)
def Pc{α:Type}{f:α->Zb}{ts:List α}(nd:ts.Nodup){r:List α}(h:r∈l7 f ts):r.Nodup:=by obtain⟨g,hg,rfl⟩:=U9.mp h;have hg:=(UP.mp hg).1;have:=p8 ((ts.map f).zip ts) ((ts.map f).zip ts).length g (by rw[VS];exact hg);rw[VS]at this;have e:((ts.map f).zip ts).map (·.2)=ts:=List.map_snd_zip (by rw[U7];exact U5 _);rw[e]at this;exact nd.sublist this
section
variable{m:Nat}{es:ZP}{R:Zb}
def xG(es:ZP)(R:Zb)(ts:List Th):Prop:=∀t u,t∈ts->u∈ts->t≠u->0<pt es R t u
def o8{w a:Nat}:0<cb es R w a↔∃l∈R,aM es w a l:=by unfold cb;rw[ZF];constructor;{rintro⟨l,h⟩;exact⟨l,(UP.mp h).1,bd (UP.mp h).2⟩};rintro⟨l,h1,h2⟩;exact⟨l,UP.mpr ⟨h1,V6 h2⟩⟩
def G1(T:Tree m es)(hR:∀l∈R,l<m){k:Str}(hk:k="places"\/k="ties")(h2:2<=(aR k m es).length):xG es R (aR k m es)↔R≠[]/\∀w a b,aB es w a->aB es w b->a≠b->∃l∈R,aM es w a l\/aM es w b l:=by
 constructor
 .intro K;refine⟨λz=>?_,λw a b ha hb ne=>?_⟩
  .obtain⟨t,u,ht,hu,n⟩:=zk (uE T.gd) h2;have:=K t u ht hu n;have:=R9 (es:=es) (ls:=R) (t:=t) (u:=u);have hz:R.length=0:=by rw[z];rfl
   lia
  obtain⟨t,u,ht,hu,n,le⟩:=GJ (ls:=R) T hk ha hb ne hR;have:=K t u ht hu n;by_cases c:0<cb es R w a;{obtain⟨l,h1,h2⟩:=o8.mp c;exact⟨l,h1,.inl h2⟩};obtain⟨l,h1,h2⟩:=o8.mp (show 0<cb es R w b by lia);exact⟨l,h1,.inr h2⟩
 rintro⟨h0,h⟩t u ht hu n;rcases Jk T hR hk ht hu n with e|⟨w,a,b,ha,hb,ne,le⟩;{rw[e];exact YX.mpr h0};obtain⟨l,h1,z⟩:=h w a b ha hb ne;rcases z with z|z;{have:=o8.mpr ⟨l,h1,z⟩;lia};have:=o8.mpr ⟨l,h1,z⟩;lia
def Ct(T:Tree m es)(hR:∀l∈R,l<m)(h2:2<=m):xG es R (aR "all" m es)↔R≠[]/\∀w a,aB es w a->∃l∈R,aM es w a l:=by
 constructor
 .intro K;have one:∀w a,aB es w a->∃l∈R,aM es w a l:=λw a ha=>by
   have hw:=(T.gd.bX ha).1;have t1:(Sum.inl w:Th)∈aR "all" m es:=by unfold aR;rw[if_neg (by decide),if_neg (by decide)];exact UE.mpr (.inl (U9.mpr ⟨w,UX.mpr hw,rfl⟩))
   have t2:(Sum.inr (jB w a):Th)∈aR "all" m es:=by unfold aR;rw[if_neg (by decide),if_neg (by decide)];exact UE.mpr (.inr (U9.mpr ⟨_,oZ T.gd ha,rfl⟩))
   have:=K _ _ t1 t2 (by intro z;cases z);have:=Oe T hR ha;exact o8.mp (by lia)
  refine⟨λz=>?_,one⟩;obtain⟨n,hn,_⟩:=T.some (p:=0) (x:=1) (by lia) (by lia) (by lia);obtain⟨l,hl,_⟩:=one 0 n hn;rw[z]at hl;exact absurd hl UM
 rintro⟨h0,h⟩t u ht hu n;rcases LV T hR ht hu n with e|⟨w,a,ha,le⟩;{rw[e];exact YX.mpr h0};have:=o8.mpr (h w a ha);lia
def yH(T:Tree m es){w a f n x:Nat}(hx:x<m)(ha:aB es w a)(bf:aM es w a f)(an:aB es f n)(up:ds es w n=ds es w f+1)(bx:aM es f n x):aM es w a x/\ds es w f<ds es w x:=by
 have lw:=(T.gd.bX ha).1;have la:=(T.gd.bX ha).2;have lf:=(T.gd.bX an).1;have ln:=(T.gd.bX an).2;have n1:¬aM es f n w:=λz=>by unfold aM at z;rw[T.cn.sy ln lw,T.cn.sy lf lw]at z;lia
 have c1:=T.j8 lw hx an n1 bx;have d1:=T.dn lw ha;have n2:¬aM es f n a:=λz=>by unfold aM at z bf;rw[T.cn.sy ln la,T.cn.sy lf la]at z;have:=T.cn.fD lw la ln;lia
 have c2:=T.j8 la hx an n2 bx;unfold aM at bf⊢;exact⟨by lia,by lia⟩
theorem Dh{α:Type}{p:α->Bool}:∀{l:List α},l.length=(l.filter p).length+(l.filter λx=>!(p x)).length
 |[]=>rfl
 |a::l=>by
  have:=Dh (p:=p) (l:=l);cases h:p a with
  |true=>rw[W5 h,W6 (by simp[h]),UL,UL];lia
  |false=>rw[W6 (by simp[h]),W5 (by simp[h]),UL,UL];lia
def ups(T:Tree m es)(W:bF m es){w f:Nat}(lw:w<m){j:Nat}(hd:j+1<=dh es f):∃ns:Zb,ns.length=j/\ns.Nodup/\∀n∈ns,aB es f n/\ds es w n=ds es w f+1:=by
 have nn:=W.gd.fP f;have hb:((cM es f).filter λn=>decide (ds es w f=ds es w n+1)).length<=1:=by
  generalize e:(cM es f).filter (λn=>decide (ds es w f=ds es w n+1))=l;have nl:l.Nodup:=e▸Vi Vt nn
  match l,nl with
  |[],_=>exact V3 _
  |[_],_=>exact U5 _
  |y::z::l,nl=>
   exfalso;have hy:y∈(cM es f).filter (λn=>decide (ds es w f=ds es w n+1)):=by rw[e];simp
   have hz:z∈(cM es f).filter (λn=>decide (ds es w f=ds es w n+1)):=by rw[e];simp
   have:=T.one lw (bH.mp (UP.mp hy).1) (bH.mp (UP.mp hz).1) (UT (UP.mp hy).2) (UT (UP.mp hz).2);subst this;simp at nl
 have hs:=Dh (l:=cM es f) (p:=λn=>decide (ds es w f=ds es w n+1));have hl:j<=((cM es f).filter λn=>!(decide (ds es w f=ds es w n+1))).length:=by unfold dh at hd;lia
 refine⟨((cM es f).filter λn=>!(decide (ds es w f=ds es w n+1))).take j,by rw[Vf];lia,Vi (Ye _ _) (Vi Vt nn),λn hn=>?_⟩;obtain⟨h1,h2⟩:=UP.mp (Z0 hn);have h1:=bH.mp h1;refine⟨h1,?_⟩;rcases T.near lw h1 with h|h;{rw[Xg,YI]at h2;exact absurd h h2};exact h
end
section
variable{m:Nat}{es:ZP}{R:Zb}
theorem Bf{φ:Nat->Nat}:∀{l:Zb},l≠[]->∃x∈l,∀y∈l,φ y<=φ x
 |[],h=>absurd rfl h
 |[a],_=>⟨a,U1,λy hy=>by rw[U8.mp hy];exact U5 _⟩
 |a::b::l,_=>by
  obtain⟨x,hx,h⟩:=Bf (φ:=φ) (l:=b::l) (XH _ _);by_cases c:φ a<=φ x
  .exact⟨x,U4 _ hx,λy hy=>by
    rcases U6.mp hy with rfl|z
    .exact c
    .exact h y z⟩
  refine⟨a,U1,λy hy=>?_⟩;rcases U6.mp hy with rfl|z;{exact U5 _};have:=h y z;lia
def HL(m:Nat)(es:ZP)(R:Zb):Prop:=∀f n1 n2,f∈cQ m es->aB es f n1->aB es f n2->n1≠n2->pc m es f n1∈gB m es f->pc m es f n2∈gB m es f->∃l∈R,aM es f n1 l\/aM es f n2 l
def zR(W:bF m es)(T:Tree m es)(hR:∀l∈R,l<m)(H:HL m es R){w a f0:Nat}(ha:aB es w a)(h0:f0∈cQ m es)(b0:aM es w a f0):∃l∈R,aM es w a l:=by
 have lw:=(T.gd.bX ha).1;have mem:∀{y},y∈(cQ m es).filter (λf=>decide (ds es a f+1=ds es w f))↔y∈cQ m es/\aM es w a y:=λ{y}=>by rw[UP,VM];exact Iff.rfl
 obtain⟨f,hf,mx⟩:=Bf (φ:=ds es w) (l:=(cQ m es).filter λf=>decide (ds es a f+1=ds es w f)) (Z8 (mem.mpr ⟨h0,b0⟩));obtain⟨f1,bf⟩:=mem.mp hf;obtain⟨lf,df⟩:=gw.mp f1;obtain⟨ns,nl,nn,hn⟩:=ups T W lw (f:=f) (j:=2) (by lia)
 match ns,nl,nn,hn with
 |[n1,n2],_,nn,hn=>
  obtain⟨a1,u1⟩:=hn n1 (by simp);obtain⟨a2,u2⟩:=hn n2 (by simp);have lg:∀n,aB es f n->ds es w n=ds es w f+1->pc m es f n∈gB m es f:=λn an un=>k9.mpr ⟨n,an,rfl,λy hy z=>by
   obtain⟨ly,by'⟩:=cz.mp hy;obtain⟨g1,g2⟩:=yH T ly ha bf an un by';have:=mx y (mem.mpr ⟨z,g1⟩);lia⟩
  obtain⟨l,hl,z⟩:=H f n1 n2 f1 a1 a2 (by simp at nn;exact nn) (lg n1 a1 u1) (lg n2 a2 u2);rcases z with z|z;{exact⟨l,hl,(yH T (hR l hl) ha bf a1 u1 z).1⟩};exact⟨l,hl,(yH T (hR l hl) ha bf a2 u2 z).1⟩
def CD(W:bF m es){w a b n:Nat}(hd:dh es w<=2)(ha:aB es w a)(hb:aB es w b)(ne:a≠b)(hn:aB es w n):n=a\/n=b:=by
 refine WK λz=>?_;have nn:=W.gd.fP w;have:([n,a,b]:Zb).length<=(cM es w).length:=sub_len' (by
  simp only[VA,U6,UM,VZ,not_false_eq_true,VY,and_true];exact⟨z,ne⟩) λx hx=>by
  simp only[U6,UM,VZ]at hx;rcases hx with rfl|rfl|rfl
  .exact bH.mpr hn
  .exact bH.mpr ha
  .exact bH.mpr hb
 unfold dh at hd;simp at this;lia
def NO(W:bF m es)(T:Tree m es)(hR:∀l∈R,l<m)(H:HL m es R)(hf:cQ m es≠[]):∀w a b,aB es w a->aB es w b->a≠b->∃l∈R,aM es w a l\/aM es w b l:=by intro w a b ha hb ne;have lw:=(T.gd.bX ha).1;by_cases ca:∃f∈cQ m es,aM es w a f;{obtain⟨f,h1,h2⟩:=ca;obtain⟨l,h3,h4⟩:=zR W T hR H ha h1 h2;exact⟨l,h3,.inl h4⟩};by_cases cb:∃f∈cQ m es,aM es w b f;{obtain⟨f,h1,h2⟩:=cb;obtain⟨l,h3,h4⟩:=zR W T hR H hb h1 h2;exact⟨l,h3,.inr h4⟩};by_cases cw:w∈cQ m es;{exact H w a b cw ha hb ne (k9.mpr ⟨a,ha,rfl,λy hy z=>ca ⟨y,z,(cz.mp hy).2⟩⟩) (k9.mpr ⟨b,hb,rfl,λy hy z=>cb ⟨y,z,(cz.mp hy).2⟩⟩)};exfalso;obtain⟨f,h1⟩:=Z6 _ hf;have nw:f≠w:=λz=>cw (z▸h1);obtain⟨n,hn,bn⟩:=T.some lw (gw.mp h1).1 nw;have hd:dh es w<=2:=Xz λz=>cw (gw.mpr ⟨lw,z⟩);rcases CD W hd ha hb ne hn with rfl|rfl;{exact ca ⟨f,h1,bn⟩};exact cb ⟨f,h1,bn⟩
def Cz(h:hl R s≠0):∃l∈R,l∈s:=by unfold hl at h;obtain⟨x,hx⟩:=ZF.mp (Nat.pos_of_ne_zero h);exact⟨x,UT (UP.mp hx).2,(UP.mp hx).1⟩
def Mc(h:qC R g)(hs:s∈g)(ht:t∈g)(ne:s≠t):hl R s≠0\/hl R t≠0:=by
 obtain⟨a,sp,b,rfl,h0,h1⟩:=h;have one:∀x∈a++sp::b,x≠sp->hl R x≠0:=λx hx n=>by
  have:x∈a++b:=by rcases UE.mp hx with z|z;{exact UE.mpr (.inl z)};rcases U6.mp z with z|z;{exact absurd z n};exact UE.mpr (.inr z)
  rw[h1 x this];decide
 by_cases c:s=sp;{exact .inr (one t ht λz=>ne (c.trans z.symm))};exact .inl (one s hs c)
def Rq(T:Tree m es){f a b:Nat}(lf:f<m)(ha:aB es f a)(hb:aB es f b)(ne:a≠b):pc m es f a≠pc m es f b:=λz=>by have la:=(T.gd.bX ha).2;have h1:a∈pc m es f a:=cz.mpr ⟨la,fW T lf ha⟩;rw[z]at h1;exact ne (T.kF la ha hb (fW T lf ha) (cz.mp h1).2)
def Bm(W:bF m es)(T:Tree m es)(h2:2<=m){w a:Nat}(ha:aB es w a):∃e∈ens m es,aM es w a e:=by
 have lw:=(T.gd.bX ha).1;have la:=(T.gd.bX ha).2;obtain⟨x,hx,mx⟩:=Bf (φ:=ds es w) (l:=pc m es w a) (Z8 (cz.mpr ⟨la,fW T lw ha⟩));obtain⟨lx,bx⟩:=cz.mp hx;refine⟨x,UP.mpr ⟨UX.mpr lx,V6 (WK λz=>?_)⟩,bx⟩;have:=Tree.wu T h2 lx;obtain⟨ns,nl,_,hn⟩:=ups T W lw (f:=x) (j:=1) (by lia)
 match ns,nl,hn with
 |[n],_,hn=>obtain⟨an,un⟩:=hn n (by simp);have ln:=(T.gd.bX an).2;obtain⟨g1,g2⟩:=yH T ln ha bx an un (fW T lx an);have:=mx n (cz.mpr ⟨ln,g1⟩);lia
def jP{e:Nat}:e∈ens m es↔e<m/\dh es e=1:=by unfold ens;rw[UP,UX,VM]
def MT(W:bF m es)(ht:es.length+1=m)(hk:f6 k)(C:mz (aS k m es) m R):xG es R (aR k m es):=by
 have T:Tree m es:=⟨W.gd,W.cn,ht⟩;obtain⟨nd,he⟩:=gO W ht (k:=k);have hR:∀l∈R,l<m:=λl hl=>he l (C.sub l hl);by_cases c0:(aR k m es).length<2;{intro t u ht' hu n;obtain⟨i,hi,e1⟩:=Xc ht';obtain⟨j,hj,e2⟩:=Xc hu;exact absurd (by rw[<-e1,<-e2];congr 1;lia) n};have hl2:2<=(aR k m es).length:=by lia
 have ue:(ens m es).Pairwise (·<·):=XI _ XX;have h2:2<=m:=by rw[kind_len W ht hk]at hl2;rcases hk with rfl|rfl|rfl;{rw[if_pos rfl]at hl2;lia};{rw[if_neg (by decide),if_pos rfl]at hl2;lia};rw[if_neg (by decide),if_neg (by decide)]at hl2;lia
 by_cases ka:k="all"
 .subst ka;have eg:aS "all" m es=(ens m es).map λe=>[[e],[]]:=by unfold aS;rw[if_neg c0,if_pos rfl]
  rw[eg,AI ue λx hx=>(jP.mp hx).1]at C;subst C;refine(Ct T hR h2).mpr ⟨λz=>?_,λw a ha=>Bm W T h2 ha⟩;obtain⟨n,hn,_⟩:=T.some (p:=0) (x:=1) (by lia) (by lia) (by lia);obtain⟨e,h,_⟩:=Bm W T h2 hn;rw[z]at h;exact absurd h UM
 have hk2:k="places"\/k="ties":=by rcases hk with z|z|z;{exact .inl z};{exact .inr z};exact absurd z ka
 rw[G1 T hR hk2 hl2];by_cases cf:cQ m es=[]
 .have eg:aS k m es=[(ens m es).map λe=>[e]]:=by unfold aS;rw[if_neg c0,if_neg ka,if_pos cf]
  have h3:=Tree.uJ T h2 cf;have low:∀w,w<m->dh es w<=2:=λw lw=>Xz λz=>by have:w∈cQ m es:=gw.mpr ⟨lw,z⟩;rw[cf]at this;exact absurd this UM
  obtain⟨e,hee,rfl⟩:∃e∈ens m es,R=[e]:=by
   rw[eg]at C
   match hh:ens m es,h3 with
   |[u,v],_=>rw[hh]at C ue;have lv:v<m:=(jP.mp (by rw[hh];simp:v∈ens m es)).1;rcases(CA ((Vj.mp ue).1 v U1) lv).mp C with z|z;{exact⟨u,by simp,z⟩};exact⟨v,by simp,z⟩
  refine⟨XH _ _,λw a b ha hb ne=>⟨e,U1,?_⟩⟩;obtain⟨le,de⟩:=jP.mp hee;have lw:=(T.gd.bX ha).1;have nw:e≠w:=λz=>by
   subst z;have:([a,b]:Zb).length<=(cM es e).length:=sub_len' (by simp[ne]) λx hx=>by simp only[U6,UM,VZ]at hx;rcases hx with rfl|rfl;{exact bH.mpr ha};exact bH.mpr hb
   unfold dh at de;simp at this;lia
  obtain⟨n,hn,bn⟩:=T.some lw le nw;rcases CD W (low w lw) ha hb ne hn with rfl|rfl;{exact .inl bn};exact .inr bn
 have eg:=z6 W ht hk ka cf;have H:HL m es R:=λf n1 n2 hf a1 a2 ne l1 l2=>by
  have lf:=(gw.mp hf).1;have hg:gB m es f∈aS k m es:=by rw[eg];exact UP.mpr ⟨U9.mpr ⟨f,hf,rfl⟩,V6 (Z8 l1)⟩
  rcases Mc (C.Kr he _ hg) l1 l2 (Rq T lf a1 a2 ne)with z|z;{obtain⟨l,h1,h2⟩:=Cz z;exact⟨l,h1,.inl (cz.mp h2).2⟩};obtain⟨l,h1,h2⟩:=Cz z;exact⟨l,h1,.inr (cz.mp h2).2⟩
 have P:=NO W T hR H cf;refine⟨λz=>?_,P⟩;obtain⟨f,hf⟩:=Z6 _ cf;obtain⟨lf,df⟩:=gw.mp hf;obtain⟨ns,nl,nn,hn⟩:=ups T W lf (f:=f) (j:=2) (by lia)
 match ns,nl,nn,hn with
 |[n1,n2],_,nn,hn=>obtain⟨l,hl,_⟩:=P f n1 n2 (hn n1 (by simp)).1 (hn n2 (by simp)).1 (by simp at nn;exact nn);rw[z]at hl;exact absurd hl UM
end
def qY(gs:List (ZM)):Nat:=(gs.map λg=>g.length-1).sum
section
variable{m:Nat}{es:ZP}{R:Zb}{gs:List (ZM)}
theorem xr{p:Nat->Bool}:∀{gs:List (ZM)},((aA gs).filter p).length=(gs.map λg=>(g.map λs=>(s.filter p).length).sum).sum
 |[]=>rfl
 |g::gs=>by rw[fX,List.filter_append,UR,zK,xr,UI,VN]
def uq:((aA gs).filter λx=>decide (x∈R)).length=(gs.map λg=>(g.map (hl R)).sum).sum:=xr
def Hw(nd:(aA gs).Nodup):((aA gs).filter λx=>decide (x∈R)).length<=R.length:=sub_len' (Vi Vt nd) λx hx=>UT (UP.mp hx).2
def Q5(nd:(aA gs).Nodup)(h:R.length<=((aA gs).filter λx=>decide (x∈R)).length):∀x∈R,x∈aA gs:=λx hx=>
 (UP.mp (Bc (Vi Vt nd) (λx hx=>UT (UP.mp hx).2) h x hx)).1
theorem BU{φ ψ:ZM->Nat}:∀{gs:List (ZM)},(∀g∈gs,φ g<=ψ g)->(gs.map φ).sum<=(gs.map ψ).sum/\((gs.map φ).sum=(gs.map ψ).sum->∀g∈gs,φ g=ψ g)
 |[],_=>⟨U5 _,λ_ g h=>absurd h UM⟩
 |g::gs,h=>by obtain⟨i,j⟩:=BU (gs:=gs) λx hx=>h x (U4 _ hx);have hg:=h g U1;rw[UI,UI,VN,VN];refine⟨by lia,λe x hx=>?_⟩;rcases U6.mp hx with rfl|z;{lia};exact j (by lia) x z
def wz(nd:(aA gs).Nodup)(he:∀x∈aA gs,x<m)(C:mz gs m R):R.length=qY gs:=by
 have nR:R.Nodup:=C.up.imp λh=>UH h;have h1:((aA gs).filter λx=>decide (x∈R)).length=R.length:=by refine Nat.le_antisymm (Hw nd) (sub_len' nR λx hx=>UP.mpr ⟨C.sub x hx,V6 hx⟩)
 rw[<-h1,uq];unfold qY;congr 1;refine VT λg hg=>?_;have:=(wM.mp (C.Kr he g hg)).2;lia
theorem wA:∀{g:ZM},g.Pairwise (λs t=>hl R s≠0\/hl R t≠0)->g.length<=(g.map (hl R)).sum+1/\((g.map (hl R)).sum+1=g.length->qC R g)
 |[],_=>⟨V3 _,λe=>by cases e⟩
 |s::g,h=>by
  obtain⟨h1,h2⟩:=Vj.mp h;obtain⟨i,j⟩:=wA h2;rw[UI,VN,UL];by_cases c:hl R s=0
  .have ge:∀l:ZM,(∀t∈l,hl R t≠0)->l.length<=(l.map (hl R)).sum/\((l.map (hl R)).sum=l.length->∀t∈l,hl R t=1):=λl=>by
    induction l with
    |nil=>exact λ_=>⟨U5 _,λ_ t h=>absurd h UM⟩
    |cons a l ih=>intro h;obtain⟨i1,i2⟩:=ih λt ht=>h t (U4 _ ht);have ha:=h a U1;rw[UI,VN,UL];refine⟨by lia,λe t ht=>?_⟩;rcases U6.mp ht with rfl|z;{lia};exact i2 (by lia) t z
   obtain⟨g1,g2⟩:=ge g λt ht=>(h1 t ht).resolve_left λz=>z c;exact⟨by lia,λe=>⟨[],s,g,rfl,c,g2 (by lia)⟩⟩
  refine⟨by lia,λe=>?_⟩;obtain⟨a,sp,b,rfl,h0,h3⟩:=j (by lia);refine⟨s::a,sp,b,rfl,h0,λx hx=>?_⟩;rcases U6.mp hx with rfl|z;{lia};exact h3 x z
def Fp{l:Nat}(h1:l∈R)(h2:l∈s):hl R s≠0:=by unfold hl;exact Vm (Ws (UP.mpr ⟨h2,V6 h1⟩))
def Py(W:bF m es)(ht:es.length+1=m){k:Str}(hk:f6 k)(up:R.Pairwise (·<·))(hR:∀l∈R,l<m)(K:xG es R (aR k m es)):qY (aS k m es)<=R.length/\(R.length=qY (aS k m es)->mz (aS k m es) m R):=by
 have T:Tree m es:=⟨W.gd,W.cn,ht⟩;have nR:R.Nodup:=up.imp λh=>UH h;obtain⟨nd,he⟩:=gO W ht (k:=k);by_cases c0:(aR k m es).length<2
 .have eg:aS k m es=[]:=by unfold aS;rw[if_pos c0]
  rw[eg];exact⟨V3 _,λe=>MK.mpr (Y6.mp e)⟩
 have hl2:2<=(aR k m es).length:=by lia
 have ue:(ens m es).Pairwise (·<·):=XI _ XX;have h2:2<=m:=by rw[kind_len W ht hk]at hl2;rcases hk with rfl|rfl|rfl;{rw[if_pos rfl]at hl2;lia};{rw[if_neg (by decide),if_pos rfl]at hl2;lia};rw[if_neg (by decide),if_neg (by decide)]at hl2;lia
 by_cases ka:k="all"
 .subst ka;have eg:aS "all" m es=(ens m es).map λe=>[[e],[]]:=by unfold aS;rw[if_neg c0,if_pos rfl]
  have fe:qY (aS "all" m es)=(ens m es).length:=by
   unfold qY;rw[eg,V1];have:∀l:Zb,(l.map ((λg:ZM=>g.length-1)∘λe=>[[e],[]])).sum=l.length:=λl=>by
    induction l with
    |nil=>rfl
    |cons a l ih=>rw[UI,VN,ih,UL];show 1+l.length=_;lia
   exact this _
  have P:=((Ct T hR h2).mp K).2;have sub:∀e∈ens m es,e∈R:=λe hee=>by obtain⟨le,de⟩:=jP.mp hee;unfold dh at de;obtain⟨n,en⟩:=List.length_eq_one_iff.mp de;have an:aB es e n:=bH.mp (by rw[en];exact U1);have ln:=(T.gd.bX an).2;obtain⟨l,hl,bl⟩:=P n e an.symm;by_cases c:l=e;{exact c▸hl};obtain⟨n',an',bn'⟩:=T.some le (hR l hl) c;have:n'∈cM es e:=bH.mpr an';rw[en]at this;rw[U8.mp this]at bn';unfold aM at bl bn';lia
  have nE:(ens m es).Nodup:=ue.imp λh=>UH h;rw[fe];refine⟨sub_len' nE sub,λe=>?_⟩;rw[eg,AI ue λx hx=>(jP.mp hx).1];exact rL up ue λx=>⟨Bc nE sub (by lia) x,sub x⟩
 have hk2:k="places"\/k="ties":=by rcases hk with z|z|z;{exact .inl z};{exact .inr z};exact absurd z ka
 obtain⟨h0,P⟩:=(G1 T hR hk2 hl2).mp K;by_cases cf:cQ m es=[]
 .have eg:aS k m es=[(ens m es).map λe=>[e]]:=by unfold aS;rw[if_neg c0,if_neg ka,if_pos cf]
  have h3:=Tree.uJ T h2 cf;have fe:qY (aS k m es)=1:=by unfold qY;rw[eg];show((ens m es).map λe=>[e]).length-1+0=1;rw[U7,h3]
  rw[fe];refine⟨YX.mpr h0,λe=>?_⟩;obtain⟨r,rfl⟩:=List.length_eq_one_iff.mp e;have lr:=hR r U1;have re:r∈ens m es:=WK λz=>by
   have h4:=Tree.wu T h2 lr;have h5:2<=(cM es r).length:=by have:dh es r≠1:=λy=>z (jP.mpr ⟨lr,y⟩);unfold dh at this h4;lia
   have nn:=W.gd.fP r
   match hn:cM es r,h5,nn with
   |a::b::t,_,nn=>
    have ha:aB es r a:=bH.mp (by rw[hn];simp);have hb:aB es r b:=bH.mp (by rw[hn];simp);have ne:a≠b:=λy=>by simp[y]at nn
    obtain⟨l,hl,y⟩:=P r a b ha hb ne;rw[U8.mp hl]at y;exact y.elim GR GR
  rw[eg]
  match hh:ens m es,h3 with
  |[u,v],_=>rw[hh]at re ue;have lv:v<m:=(jP.mp (by rw[hh];simp:v∈ens m es)).1;refine(CA ((Vj.mp ue).1 v U1) lv).mpr ?_;simp only[U6,UM,VZ]at re;rcases re with rfl|rfl;{exact .inl rfl};exact .inr rfl
 have eg:=z6 W ht hk ka cf;have pw:∀g∈aS k m es,g.Pairwise (λs t=>hl R s≠0\/hl R t≠0):=λg hg=>by rw[eg]at hg;obtain⟨f,hf,rfl⟩:=U9.mp (UP.mp hg).1;unfold gB;refine XI _ (WC.mpr ?_);refine WZ (λ{a b} ha hb ne=>?_) (W.gd.fP f);obtain⟨l,hl',z⟩:=P f a b (bH.mp ha) (bH.mp hb) ne;rcases z with z|z;{exact .inl (Fp hl' (cz.mpr ⟨hR l hl',z⟩))};exact .inr (Fp hl' (cz.mpr ⟨hR l hl',z⟩))
 have gl:=BU (φ:=λg=>g.length-1) (ψ:=λg=>(g.map (hl R)).sum) (gs:=aS k m es) λg hg=>by have:=(wA (pw g hg)).1;lia
 have fl:=Hw (R:=R) nd;rw[uq]at fl;refine⟨V4 gl.1 fl,λe=>?_⟩;have e1:((aS k m es).map λg=>g.length-1).sum=((aS k m es).map λg=>(g.map (hl R)).sum).sum:=Nat.le_antisymm gl.1 (by unfold qY at e;lia);refine .of he up (Q5 nd (by rw[uq];unfold qY at e;lia)) λg hg=>(wA (pw g hg)).2 ?_;have h5:=gl.2 e1 g hg;have h6:g≠[]:=(qJ W ht hk).2.1 g hg;have:=YX.mpr h6;lia
end
def BR:Zb->Zb->Prop
 |[],[]=>False
 |[],_::_=>True
 |_::_,[]=>False
 |a::l,b::k=>a<b\/(a=b/\BR l k)
theorem B7:∀{p a b:Zb},BR a b->BR (p++a) (p++b)
 |[],_,_,h=>h
 |_::_,_,_,h=>.inr ⟨rfl,B7 h⟩
section
variable{gs:List (ZM)}{e m:Nat}
theorem zE(nd:(aA gs).Nodup)(he:∀x∈aA gs,x<e):∀{B L:Zb}{st n k:Nat},Suf gs st B->(∀x∈L,x<st)->n<k->k<cj L st gs->(fB gs B L n).length=(fB gs B L k).length->BR (fB gs B L n) (fB gs B L k)
 |[],L,st,n,k,S,hL,nk,h,_=>by rw[S.nil he]at h;rcases pG (T:=L) he with⟨z,_⟩|⟨z,_⟩<;>lia
 |s::B,L,st,n,k,S,hL,nk,h,hlen=>by
  have hs:=(S.all s).mp U1;rw[S.step nd hL]at h;have hL1:∀x∈L++[s],x<s+1:=λx hx=>by rcases UE.mp hx with z|z;{have:=hL x z;lia};rw[U8.mp z];lia
  have hL2:∀x∈L,x<s+1:=λx hx=>by have:=hL x hx;lia
  rw[fB,fB]at hlen⊢;by_cases c1:k<cj (L++[s]) (s+1) gs;{rw[if_pos c1,if_pos (by lia)]at hlen⊢;exact zE nd he S.next hL1 nk c1 hlen};rw[if_neg c1]at hlen⊢;by_cases c2:n<cj (L++[s]) (s+1) gs
  .rw[if_pos c2]at hlen⊢;obtain⟨D,e1,e2,_,_⟩:=qU nd he (k:=0) S.next hL1 c2;obtain⟨D',f1,f2,_,_⟩:=qU nd he (n:=k-cj (L++[s]) (s+1) gs) (k:=0) S.next hL2 (by lia);rw[e1,f1]at hlen⊢;rw[Vd]at hlen⊢;cases D' with
   |nil=>simp at hlen
   |cons t D'=>refine B7 (.inl ?_);exact(Vj.mp S.up).1 t (f2.subset U1)
  rw[if_neg c2]at hlen⊢;exact zE nd he S.next hL2 (by lia) (by lia) hlen
end
def HK{L:Zb}:dl 8 (PyData.list (L.map iD))=true:=by show(L.map iD).all (dl 7)=true;rw[Wq];exact US.mpr λ_ _=>rfl
def HZ(nd:ts.Nodup):(ts.map (br es s)).Nodup↔xG es s ts:=by
 constructor
 .intro h t u ht hu ne;have h':ts.Pairwise λt u=>br es s t≠br es s u:=WC.mp h;have sy:br es s t≠br es s u:=by obtain⟨i,hi,rfl⟩:=List.mem_iff_getElem.mp ht;obtain⟨j,hj,rfl⟩:=List.mem_iff_getElem.mp hu;have P:=WM.mp h';rcases Wn i j with z|rfl|z;{exact P i j hi hj z};{exact absurd rfl ne};exact λe=>P j i hj hi z e.symm
  refine Nat.pos_of_ne_zero λz=>sy ?_;unfold br;refine VT λl hl=>?_;refine Yk.mp λc=>?_;have:l∈s.filter λl=>decide (td es l t≠td es l u):=UP.mpr ⟨hl,V6 c⟩;have:=Ws this;have z:(s.filter λl=>decide (td es l t≠td es l u)).length=0:=z;lia
 intro K;refine WC.mpr (WZ (R:=(·≠·)) (λ{a b} ha hb ne e=>?_) nd);obtain⟨l,hl,d⟩:=ID (K a b ha hb ne);unfold br at e;exact d (List.map_inj_left.mp e l hl)
def AB(h:∀B:Zj,(∀E',B E'=b D E')->a { D with nx:=B } E):av a b D E:=h (b D) λ_=>rfl
def QN{α:Type}:List (List α)->Option (α×α)
 | (a::b::_)::_=>some (a,b)
 |_=>none
def T4:Option (Th×Th)->PyData
 |some p=>.tuple [gz p.1,gz p.2]
 |none=>.none
def BX(es:ZP)(ls:Zb)(ts:List Th):PyData:=T4 (QN (l7 (br es ls) ts))
def Aa(nd:ts.Nodup):(l7 (br es ls) ts=[]/\QN (l7 (br es ls) ts)=none)\/∃t u,t∈ts/\u∈ts/\t≠u/\br es ls t=br es ls u/\l7 (br es ls) ts≠[]/\QN (l7 (br es ls) ts)=some (t,u):=by
 match h:l7 (br es ls) ts with
 |[]=>exact .inl ⟨rfl,rfl⟩
 |r::rs=>
  have hr:r∈l7 (br es ls) ts:=by rw[h];exact U1
  obtain⟨h1,h2,h3⟩:=tP hr;have hn:=Pc nd hr
  match r,h1,h2,h3,hn with
  |a::b::r,h1,h2,h3,hn=>have ne:a≠b:=λz=>(VA.mp hn).1 (z▸U1);have ha:a∈a::b::r:=U1;have hb:b∈a::b::r:=U4 _ U1;exact .inr ⟨a,b,h1 a ha,h1 b hb,ne,h3 a ha b hb,XH _ _,rfl⟩
def Dw:bq:=λdd Q x=>∃m es ls k,dd=[wD m es,nD ls,.str k]/\bF m es/\es.length+1=m/\jY m ls/\Q [] .sh (BX es ls (aR k m es))
def NH:∀dd Q x,Dw dd Q x->mP qI Eu (aX [false,false,false] Q x) (ini [false,false,false] dd++List.replicate 1 none):=by
 rintro _ Q x⟨m,es,ls,k,rfl,W,ht,L,q⟩;have nd:=uE (k:=k) W.gd;unfold mP;rfl';refine⟨m,es,rfl,W.pos,λ_=>?_,λz=>absurd ht z⟩;rfl';refine⟨m,es,ls,k,rfl,W,L,?_⟩;unfold Pp;rfl';unfold BX at q;generalize aR k m es=ts at nd q⊢
 match h:l7 (br es ls) ts with
 |[]=>rw[h]at q;simp![XS,Z1];exact q
 |r::rs=>
  have hr:r∈l7 (br es ls) ts:=by rw[h];exact U1
  obtain⟨h1,h2,h3⟩:=tP hr;rw[h]at q
  match r,h2,q with
  |a::b::r,h2,q=>simp![UI,List.isEmpty_cons];exact eX rfl (eX rfl (eX rfl (eX rfl ⟨by lia,q⟩)))
def UA{a b:Bool}:mD [.bool a,.bool b] P=P .sh (.bool !(decide (a=b))):=rfl
def DW:bq:=λdd Q x=>∃(a b:Int),∃m es k,dd=[iW a b,wD m es,.str k]/\bF m es/\es.length+1=m/\f6 k/\0<=b/\b<2147483647/\∀a' b',0<=b'->b'<2147483647->Q [iW a' b'] .sh (.bool true)
def MW:∀dd Q x,vU dd Q x->p7 vN yR yK j9 DW (aX [false] Q x) (ini [false] dd++List.replicate 5 none):=by
 rintro _ Q x⟨ns,rfl,hn,q⟩;unfold p7;rfl';refine⟨ns,4,rfl,by lia,by lia,λcs hcs=>?_⟩;rfl';have e1:(if(cs.length:Int)>1 then(cs.length:Int)else 1)=((max 1 cs.length:Nat):Int):=by split<;>lia
 rw[e1,if_pos (by lia)];refine eX rfl ?_;simp only[dz];refine Lr (λi E=>∃o2 o3 o4 o5:Zg,E=[some (.sh,.list (ns.map .int)),some (.ow false,.list (cs.map .int)),o2,o3,o4,o5]/\cg o2=true/\cg o3=true/\cg o4=true/\cg o5=true) ⟨none,none,none,none,rfl,rfl,rfl,rfl,rfl⟩ ?_ ?_
 .rintro J k _ hk hJ⟨o2,o3,o4,o5,rfl,h2,h3,h4,h5⟩;simp![h2];refine⟨cs,k,rfl,by lia,by lia,λa b b0 b1=>?_⟩;simp![h3];refine⟨by lia,a,b,8,rfl,by lia,by lia,b0,b1,λr a b hr b0 b1=>?_⟩;rfl';have⟨mo,h0,h60,em⟩:∃mo:Nat,0<mo/\mo<=60/\fh [PyData.int 24,PyData.int 40] (if(r:Int)=0 then 1 else 0)=some (iD mo):=by split;{exact⟨40,by lia,by lia,rfl⟩};exact⟨24,by lia,by lia,rfl⟩
  refine eX em ?_;refine⟨a,b,mo,rfl,h0,h60,b0,b1,λm es a b hm W ht b0 b1=>?_⟩;simp![h4];refine⟨by lia,?_⟩;rw[show [PyData.str "places",PyData.str "ties",PyData.str "all"]=([("places":Str),"ties","all"]:Zd).map PyData.str from rfl];refine mR (λi E=>∃(a b:Int)(o5:Zg),E=[some (.sh,.list (ns.map .int)),some (.ow false,.list (cs.map .int)),some (.sh,iD k),some (.ow false,iW a b),some (.sh,wD m es),o5]/\cg o5=true/\0<=b/\b<2147483647) ⟨a,b,o5,rfl,h5,b0,b1⟩ ?_ ?_
  .clear b0 b1 a b h5 o5;rintro J i kd _ hi hJ⟨a,b,o5,rfl,h5,b0,b1⟩;have hk:f6 kd:=by have:=V7 hi;simp only[U6,UM,VZ]at this;exact this
   simp![h5];refine⟨a,b,m,es,kd,rfl,W,ht,hk,b0,b1,λa b b0 b1=>?_⟩;rfl';exact hJ _ ⟨a,b,some (.sh,.str kd),rfl,rfl,b0,b1⟩
  rintro _⟨a,b,o5,rfl,h5,b0,b1⟩;exact hJ _ ⟨some (.sh,iD k),some (.ow false,iW a b),some (.sh,wD m es),o5,rfl,rfl,rfl,rfl,h5⟩
 rintro _⟨o2,o3,o4,o5,rfl,h2,h3,h4,h5⟩;rfl';exact q
def NX(h:∀x,x∈ms↔x∈zI L)(up:ms.Pairwise (·<·)):∃ns:Zb,ms=zI ns/\ns.Pairwise (·<·)/\∀x,x∈ns↔x∈L:=by
 have e:∀x∈ms,((x.toNat:Nat):Int)=x:=λx hx=>by obtain⟨n,_,rfl⟩:=U9.mp ((h x).mp hx);rfl
 have em:ms=zI (ms.map Int.toNat):=by
  unfold zI;rw[V1]
  conv=>lhs;rw[<-List.map_id ms]
  exact VT λx hx=>(e x hx).symm
 refine⟨ms.map Int.toNat,em,?_,λx=>?_⟩;{refine WC.mpr (WZ (λ{a b} ha hb h=>?_) up);have:=e a ha;have:=e b hb;lia};have h':=h (x:Int);constructor
 .intro hx;have:(x:Int)∈ms:=by rw[em];exact U9.mpr ⟨x,hx,rfl⟩
  obtain⟨n,hn,e⟩:=U9.mp (h'.mp this);have:n=x:=by lia
  exact this▸hn
 intro hx;exact U9.mpr ⟨(x:Int),h'.mpr (U9.mpr ⟨x,hx,rfl⟩),rfl⟩
def D7:bq:=λdd Q x=>∃(a b:Int) (w:Nat),dd=[iW a b,iD w]/\0<w/\w<2^200/\0<=b/\b<2147483647/\∀(ns:Zb) a' b',ns.Pairwise (·<·)->(∀n∈ns,n<w)->ns.length<=6->0<=b'->b'<2147483647->Q [iW a' b'] (.ow false) (nD ns)
def PM:∀dd Q x,D7 dd Q x->gQ j9 (aX [true,false] Q x) (ini [true,false] dd++List.replicate 3 none):=by
 rintro _ Q x⟨a,b,w,rfl,w0,w1,b0,b1,q⟩;have ew:(w:Int)-1=((w-1:Nat):Int):=by lia
 unfold gQ;rfl';rw[ew];refine⟨by lia,?_⟩;rw[if_pos ⟨by decide,by decide⟩];refine eX rfl ?_;refine Lr (λi E=>∃(a b:Int)(L:Zb)(o3 o4:Zg),E=[some (.ow true,iW a b),some (.sh,iD w),some (.ow false,nD L),o3,o4]/\L.length=2+2*i/\(∀n∈L,n<w)/\cg o3=true/\cg o4=true/\0<=b/\b<2147483647) ⟨a,b,[0,w-1],none,none,rfl,rfl,λn hn=>?_,rfl,rfl,b0,b1⟩ ?_ ?_;{simp only[U6,UM,VZ]at hn;lia}
 .clear b0 b1 a b;rintro J i _ hi hJ⟨a,b,L,o3,o4,rfl,hl,hL,h3,h4,b0,b1⟩;have hi:i<2:=hi;simp![h3,h4];refine⟨a,b,w,rfl,w0,w1,b0,b1,λr a b hr b0 b1=>?_⟩;rfl';have em:(if(w:Int)-1<(r:Int)+1 then(w:Int)-1 else(r:Int)+1)=((min (r+1) (w-1):Nat):Int):=by split<;>lia
  refine⟨h4,by lia,by lia,hJ _ ⟨a,b,L++[r,min (r+1) (w-1)],some (.sh,iD i),some (.sh,iD r),?_,?_,λn hn=>?_,rfl,rfl,b0,b1⟩⟩;{rw[em];show _=[_,_,some (Kd.ow false,PyData.list ((L++[r,min (r+1) (w-1)]).map iD)),_,_];rw[V2];rfl};{rw[UR,hl];show 2+2*i+2=_;lia};rcases UE.mp hn with z|z;{exact hL n z};simp only[U6,UM,VZ]at z;lia
 rintro _⟨a,b,L,o3,o4,rfl,hl,hL,h3,h4,b0,b1⟩;have hl:L.length=6:=hl;rfl';refine⟨zI L,by rw[uM],by unfold zI;rw[U7];lia,λms hm up=>?_⟩;obtain⟨ns,rfl,n1,n2⟩:=NX hm up;rw[uM];have hq:=q ns a b n1 (λn hn=>hL n ((n2 n).mp hn)) (by
  have:=sub_len' (n1.imp λh=>UH h) λx hx=>(n2 x).mp hx
  lia) b0 b1
 split;all_goals
  refine eX rfl ?_;exact hq
theorem FU:∀{a b:Zb},a.length=b.length->BR a b->∃(z x y:Nat),(∀j,j<z->b[j]?=a[j]?)/\b[z]?=some y/\a[z]?=some x/\x<y
 |[],[],_,h=>h.elim
 |[],_::_,e,_=>by cases e
 |_::_,[],e,_=>by cases e
 |a::l,b::k,e,h=>by
  rcases h with h|⟨rfl,h⟩;{exact⟨0,a,b,λj hj=>absurd hj (by lia),rfl,rfl,h⟩};obtain⟨z,x,y,h1,h2,h3,h4⟩:=FU (Nat.succ.inj e) h;refine⟨z+1,x,y,λj hj=>?_,h2,h3,h4⟩;cases j with
  |zero=>rfl
  |succ j=>exact h1 j (by lia)
def MI(nd:ts.Nodup)(K:xG es ls ts):BX es ls ts=.none:=by unfold BX;rcases Aa (es:=es) (ls:=ls) nd with⟨_,e⟩|⟨t,u,ht,hu,ne,e,_⟩;{rw[e];rfl};obtain⟨l,hl,d⟩:=ID (K t u ht hu ne);unfold br at e;exact absurd (List.map_inj_left.mp e l hl) d
def Nf(nd:ts.Nodup)(K:¬xG es ls ts):∃t u,BX es ls ts=.tuple [gz t,gz u]:=by unfold BX;rcases Aa (es:=es) (ls:=ls) nd with⟨e,_⟩|⟨t,u,_,_,_,_,_,e⟩;{refine absurd (HZ nd |>.mp ?_) K;refine WC.mpr (WZ (R:=(·≠·)) (λ{a b} ha hb ne z=>?_) nd);obtain⟨r,hr,_⟩:=(LQ (f:=br es ls) ha hb ne).mpr z;rw[e]at hr;exact absurd hr UM};exact⟨t,u,by rw[e];rfl⟩
def Cr{α:Type}{l:List α}{f:α->PyData}(lo hi:Option Int):∃k:List α,cutD (l.map f) lo hi=k.map f/\k.length<=l.length/\∀x∈k,x∈l:=by unfold cutD;generalize HT.aQ (l.map f).length 0 lo=a;generalize HT.aQ (l.map f).length (l.map f).length hi-a=b;refine⟨(l.drop a).take b,by rw[YO,List.map_drop],?_,λx hx=>List.mem_of_mem_drop (Z0 hx)⟩;rw[Vf,Wf];lia
def yL:bq:=λdd Q x=>∃m es k T,dd=[wD m es,.str k,nD T]/\bF m es/\es.length+1=m/\f6 k/\mz (aS k m es) m T/\Q [] .sh (.bool true)
def Ni:∀dd Q x,yL dd Q x->fR EL DA Dw (aX [false,false,false] Q x) (ini [false,false,false] dd++List.replicate 2 none):=by
 rintro _ Q x⟨m,es,k,T,rfl,W,ht,hk,C,q⟩;obtain⟨nd,he⟩:=gO W ht (k:=k);obtain⟨Nt,ok2,ok⟩:=qJ W ht hk;have nT:=uE (k:=k) W.gd;have hT:T.length<=60:=by have h1:=sub_len' (C.up.imp λh=>UH h) C.sub;have:=m7 W ht (k:=k);lia
 have Tm:∀x∈T,x<m:=λx hx=>he x (C.sub x hx);have L:jY m T:=⟨C.up,Tm⟩;have el:T.length=qY (aS k m es):=wz nd he C;unfold fR;refine AB λB hB=>?_;rfl';refine gg (λ_=>.bool true) rfl (λn hn I hI=>?_) ?_ (by lia);{rfl';refine⟨n,rfl,?_⟩;rfl';exact hI _ rfl};rw[show T.map (λ_=>PyData.bool true)=(T.map λ_=>true).map PyData.bool by rw[V1];rfl];rfl';refine Fd ?_;rw[Wq,show T.all (id∘λ_=>true)=true from US.mpr λ_ _=>rfl];rfl';rw[hB];clear hB B;refine AB λB hB=>?_;rfl';refine⟨zI T,by rw[uM],by unfold zI;rw[U7];lia,λms hm up=>?_⟩;obtain⟨ns,rfl,n1,n2⟩:=NX hm up;have en:=rL n1 C.up n2;subst en;rw[uM];rfl';refine⟨⟨HK,HK⟩,m,es,k,rfl,W,ht,Nt,ok2,?_⟩;rfl';rw[if_neg λz=>z (by rw[el];rfl)];rw[hB];clear hB B;refine AB λB hB=>?_;rfl';refine⟨m,es,ns,k,rfl,W,ht,L,?_⟩;rw[MI nT (MT W ht hk C)];rfl';rw[hB];clear hB B;rfl';obtain⟨l1,c1,c2,c3⟩:=Cr (l:=ns) (f:=iD) none (some 2);obtain⟨l2,d1,d2,d3⟩:=Cr (l:=ns) (f:=iD) (some (-1)) none;rw[c1,d1,U7,U7,<-V2];refine⟨by lia,?_⟩;refine mR (λ_ E=>∃o3:Zg,E=[some (.sh,wD m es),some (.sh,.str k),some (.sh,nD ns),o3,none]/\cg o3=true) ⟨none,rfl,rfl⟩ ?_ ?_
 .rintro J i l _ hi hJ⟨o3,rfl,h3⟩;have ml:l∈ns:=(UE.mp (V7 hi)).elim (c3 l) (d3 l);have hf:=W4 (λx=>decide (¬x=l)) ns;simp![h3];refine jb (λx=>if decide (¬x=l)=true then some (iD x)else none) rfl (λx hx I hI=>?_) ?_ (by lia);{simp only[dv,dw,dx,dy,dz,Nat.reduceBEq]at hI⊢;split;{rename_i c;rw[if_pos c]at hI;exact hI _ rfl};rename_i c;rw[if_neg c]at hI;exact hI _ rfl};rw[dY];have nK:¬xG es (ns.filter λx=>decide (¬x=l)) (aR k m es):=λK=>by
   have h1:=(Py W ht hk (XI _ C.up) (λx hx=>Tm x (UP.mp hx).1) K).1;have h2:(ns.filter λx=>decide (¬x=l)).length<ns.length:=by refine Nat.lt_of_le_of_ne hf λz=>?_;have:=List.length_filter_eq_length_iff.mp z l ml;simp at this
   lia
  obtain⟨t,u,e⟩:=Nf nT nK;rfl';refine⟨m,es,ns.filter λx=>decide (¬x=l),k,rfl,W,ht,⟨L.up.sublist Vt,λx hx=>Tm x (UP.mp hx).1⟩,?_⟩;rw[e];rfl';exact hJ _ ⟨some (.sh,iD l),rfl,rfl⟩
 rintro _⟨o3,rfl,h3⟩;rfl';exact q
def OY:dF true [nD L,.none] P=P .sh (.bool true):=by
 have e:decide (nD L=PyData.none)=false:=VH λz=>nomatch z
 show P .sh (.bool (if true=true then !decide (nD L=PyData.none)else decide (nD L=PyData.none)))=_;rw[if_pos rfl,e];rfl
def MZ:∀dd Q x,DW dd Q x->iJ D7 Ec DY yL Du (aX [true,false,false] Q x) (ini [true,false,false] dd++List.replicate 3 none):=by
 rintro _ Q x⟨a,b,m,es,k,rfl,W,ht,hk,b0,b1,q⟩;obtain⟨nd,he⟩:=gO W ht (k:=k);have ok:=(qJ W ht hk).2.2;have wp:=M6 W ht hk;have wb:=Cg (gs:=aS k m es);have sl:=m7 W ht (k:=k);have wc:cj [] 0 (aS k m es)<=2^60:=V4 wb (Nat.pow_le_pow_right (by lia) sl);unfold iJ;rfl';refine⟨m,es,k,rfl,W,ht,ok,?_⟩;rfl';refine⟨a,b,cj [] 0 (aS k m es),rfl,wp,by lia,b0,b1,λns a b n1 n2 n3 b0 b1=>?_⟩;rfl';refine mR (λi E=>∃(d3:PyData)(o4 o5:Zg),E=[some (.ow true,iW a b),some (.sh,wD m es),some (.sh,.str k),some (.sh,d3),o4,o5]/\cg o4=true/\cg o5=true/\(d3=.none\/∃(i' n:Nat),i=i'+1/\ns[i']?=some n/\d3=nD (fB (aS k m es) (spS m (aS k m es)) [] n))) ⟨.none,none,none,rfl,rfl,rfl,.inl rfl⟩ ?_ ?_
 .rintro J i n _ hi hJ⟨d3,o4,o5,rfl,h4,h5,h3⟩;have hn:=n2 n (V7 hi);obtain⟨C,er⟩:=GV nd he hn;have hT:(fB (aS k m es) (spS m (aS k m es)) [] n).length<=60:=by have h1:=sub_len' (C.up.imp λh=>UH h) C.sub;lia
  have fin:J [some (.ow true,iW a b),some (.sh,wD m es),some (.sh,.str k),some (.sh,nD (fB (aS k m es) (spS m (aS k m es)) [] n)),some (.sh,iD n),some (.sh,nD (fB (aS k m es) (spS m (aS k m es)) [] n))]:=hJ _ ⟨_,_,_,rfl,rfl,rfl,.inr ⟨i,n,rfl,hi,rfl⟩⟩;simp![h4,h5];refine⟨m,es,k,(n:Int),rfl,W,ht,hk,λj e hj=>?_,λz=>absurd ⟨by lia,by lia⟩ z⟩;have ej:j=n:=by lia
  subst ej;generalize hu:fB (aS k m es) (spS m (aS k m es)) [] j=T at C er hT fin;simp![h4,h5];rfl';refine⟨m,es,k,T,rfl,W,ht,hk,C,?_⟩;rfl';refine⟨m,es,k,zI T,by rw[uM],W,ht,hk,by unfold zI;rw[U7];lia,λL eL C'=>?_,λz=>absurd (RY.mpr C) z⟩;have eL:=Gv eL;subst eL;rw[er];rfl';rcases h3 with rfl|⟨i',n',rfl,hn',rfl⟩;{rfl';exact fin};have lt:n'<j:=by obtain⟨l1,e1⟩:=VE.mp hn';obtain⟨l2,e2⟩:=VE.mp hi;have:=WM.mp n1 i' (i'+1) l1 l2 (by lia);rw[e1,e2]at this;exact this
  have C':=(GV nd he (show n'<cj [] 0 (aS k m es)by lia)).1;have el:(fB (aS k m es) (spS m (aS k m es)) [] n').length=T.length:=by rw[wz nd he C',wz nd he C]
  have lL:BR (fB (aS k m es) (spS m (aS k m es)) [] n') T:=by have:=zE nd he (CG he) (λx hx=>absurd hx UM) lt hn (by rw[hu,el]);rw[hu]at this;exact this
  obtain⟨z,x',y',h1,h2,h3,h4'⟩:=FU el lL;rw[OY];rfl';refine⟨zI T,zI (fB (aS k m es) (spS m (aS k m es)) [] n'),z,(y':Int),(x':Int),by rw[uM,uM],λj hj=>?_,?_,?_,by lia,?_⟩;{unfold zI;rw[UK,UK,h1 j hj]};{unfold zI;rw[UK,h2];rfl};{unfold zI;rw[UK,h3];rfl};rfl';exact fin
 rintro _⟨d3,o4,o5,rfl,h4,h5,h3⟩;rfl';exact q a b b0 b1
end PB
namespace Pz
open PySem L2 PySem.W Dv PB
def top(i:Nat):Stmt:=PySem.Challenge.pw_farhail_k27_whole_numbered_in_order.main.body.getD i (.Pass ⟨0,0,0,0⟩)
structure Txt(K:Frag)(mg:ZK):Prop where
 abs:mg "abs"=none
 all:mg "all"=none
 any:mg "any"=none
 bool:mg "bool"=none
 enumerate:mg "enumerate"=none
 int:mg "int"=none
 isinstance:mg "isinstance"=none
 len:mg "len"=none
 list:mg "list"=none
 max:mg "max"=none
 min:mg "min"=none
 range:mg "range"=none
 set:mg "set"=none
 sorted:mg "sorted"=none
 sum:mg "sum"=none
 tuple:mg "tuple"=none
 zip:mg "zip"=none
 L4:∃C,mg "NoLooks"=some (.ref C)/\gI K C uZ "ValueError.__new__" none=true
 L3:∃C,mg "NoPlace"=some (.ref C)/\gI K C uZ "ValueError.__new__" none=true
 Nu:∃C,mg "NoSuch"=some (.ref C)/\gI K C uZ "ValueError.__new__" none=true
 ND:∃C,mg "NoTree"=some (.ref C)/\gI K C uZ "ValueError.__new__" none=true
 Ot:∃C,mg "NotOne"=some (.ref C)/\gI K C uZ "ValueError.__new__" none=true
 kit:AX K ["bool","int","list"]=true
 ns:∃h:Heap,K.In h/\h.Ns mainGlobals mg
def uc{us:ZW}{n:Nat}(h:us.length=n+1):∃a t,t.length=n/\us=a::t:=by
 cases us with
 |nil=>cases h
 |cons a t=>exact⟨a,t,Nat.succ.inj h,rfl⟩
def Ut{us:ZW}(h0:us.length=1):∃a0,us=[a0]:=by obtain⟨a0,t0,h1,rfl⟩:=uc h0;cases YU h1;exact⟨a0,rfl⟩
def T8{us:ZW}(h0:us.length=2):∃a0 a1,us=[a0,a1]:=by obtain⟨a0,t0,h1,rfl⟩:=uc h0;obtain⟨a1,t1,h2,rfl⟩:=uc h1;cases YU h2;exact⟨a0,a1,rfl⟩
def T9{us:ZW}(h0:us.length=3):∃a0 a1 a2,us=[a0,a1,a2]:=by obtain⟨a0,t0,h1,rfl⟩:=uc h0;obtain⟨a1,t1,h2,rfl⟩:=uc h1;obtain⟨a2,t2,h3,rfl⟩:=uc h2;cases YU h3;exact⟨a0,a1,a2,rfl⟩
local macro_rules | `(tactic| ac_nf) => `(tactic| (intro _ _ _ _ _ _ us hl; first | (obtain⟨_, e⟩ := Ut hl; subst e; rfl) | (obtain⟨_, _, e⟩ := T8 hl; subst e; rfl) | (obtain⟨_, _, _, e⟩ := T9 hl; subst e; rfl)))
section
variable(P:Program)(w:World)(K:Frag)(mg:ZK)(base:Heap)
abbrev qA:Prop:=bV P w K mg base 1 "_law_cells" ["script","many"] (cE mg K [false,false] vN)
abbrev tw:Prop:=bV P w K mg base 1 "_law_pool" ["cells","k"] (cE mg K [false,false] yR)
abbrev iC:Prop:=bV P w K mg base 1 "_law_take" ["pool","many"] (cE mg K [true,false] j9)
abbrev sU:Prop:=bV P w K mg base 2 "_law_some" ["pool","menu","many"] (cE mg K [true,false,false] yU)
abbrev qP:Prop:=bV P w K mg base 3 "_law_named" ["pool","many","ties"] (cE mg K [true,false,false] vE)
abbrev sL:Prop:=bV P w K mg base 4 "_law_tree" ["pool","most"] (cE mg K [true,false] yK)
abbrev oi:Prop:=bV P w K mg base 2 "_law_numbers" ["pool","count"] (cE mg K [true,false] D7)
abbrev qt:Prop:=bV P w K mg base 1 "spot_ways" ["spots","looks","start"] (cE mg K [false,false,false] ET)
abbrev qj:Prop:=bV P w K mg base 2 "group_ways" ["group","looks","start"] (cE mg K [false,false,false] EN)
abbrev gK:Prop:=bV P w K mg base 3 "ways_from" ["groups","looks","start"] (cE mg K [false,false,false] nS)
abbrev uN:Prop:=bV P w K mg base 1 "is_tree" ["web"] (cE mg K [false] Ed)
abbrev fj:Prop:=bV P w K mg base 2 "refuse_no_tree" ["web"] (cE mg K [false] qI)
abbrev gF:Prop:=bV P w K mg base 1 "refuse_no_place" ["web","place"] (cE mg K [false,false] wU)
abbrev eZ:Prop:=bV P w K mg base 1 "neighbour_lists" ["web"] (cE mg K [false] rJ)
abbrev mZ:Prop:=bV P w K mg base 1 "piece_behind" ["lists","place","neighbour"] (cE mg K [false,false,false] D6)
abbrev qx:Prop:=bV P w K mg base 3 "pieces_at" ["web","place"] (cE mg K [false,false] Ei)
abbrev vG:Prop:=bV P w K mg base 4 "legs_at" ["web","fork","forks"] (cE mg K [false,false,false] DL)
abbrev lP:Prop:=bV P w K mg base 1 "things_of" ["web","kind"] (cE mg K [false,false] v8)
abbrev fF:Prop:=bV P w K mg base 5 "spot_groups" ["web","kind"] (cE mg K [false,false] nZ)
abbrev m9:Prop:=bV P w K mg base 6 "tree_choices" ["web","kind"] (cE mg K [false,false] Ec)
abbrev kh:Prop:=bV P w K mg base 1 "spots_of" ["groups"] (cE mg K [false] rH)
abbrev rC:Prop:=bV P w K mg base 6 "choice_by" ["web","kind","number"] (cE mg K [false,false,false] DY)
abbrev rP:Prop:=bV P w K mg base 1 "are_looks" ["web","looks"] (cE mg K [false,false] DU)
abbrev iX:Prop:=bV P w K mg base 2 "refuse_wrong_looks" ["web","looks"] (cE mg K [false,false] AK)
abbrev mV:Prop:=bV P w K mg base 2 "fars_or_none" ["web","place"] (cE mg K [false,false] Dm)
abbrev qT:Prop:=bV P w K mg base 3 "fars_from" ["web","place"] (cE mg K [false,false] Dp)
abbrev qk:Prop:=bV P w K mg base 1 "nearer_end" ["fars","tie"] (cE mg K [false,false] DQ)
abbrev qN:Prop:=bV P w K mg base 2 "thing_far" ["fars","thing"] (cE mg K [false,false] Ea)
abbrev tL:Prop:=bV P w K mg base 4 "codes_of" ["web","looks","things"] (cE mg K [false,false,false] D8)
abbrev tH:Prop:=bV P w K mg base 5 "likes_by" ["web","looks","kind"] (cE mg K [false,false,false] Eu)
abbrev qf:Prop:=bV P w K mg base 6 "tree_likes" ["web","looks","kind"] (cE mg K [false,false,false] Dw)
abbrev n9:Prop:=bV P w K mg base 6 "tree_fewest" ["web","kind"] (cE mg K [false,false] DA)
abbrev rO:Prop:=bV P w K mg base 1 "_law_whole" ["thing"] (cE mg K [false] EL)
abbrev lZ:Prop:=bV P w K mg base 7 "_law_is_choice" ["web","kind","looks"] (cE mg K [false,false,false] yL)
abbrev qZ:Prop:=bV P w K mg base 4 "is_choice" ["groups","looks","many"] (cE mg K [false,false,false] D3)
abbrev lV:Prop:=bV P w K mg base 6 "choice_number" ["web","kind","looks"] (cE mg K [false,false,false] Du)
abbrev qE:Prop:=bV P w K mg base 8 "_law_right" ["pool","web","kind"] (cE mg K [true,false,false] DW)
end
section
variable{P:Program}{w:World}{K:Frag}{mg:ZK}{base:Heap}
abbrev lS:Stmt:=top 39
def l5:aG ["script","many","cells","k","cell"] ["script","many"] (ay lS):=by ac_rfl
def An(T:Txt K mg)(r:Rec K "_law_cells" lS):qA P w K mg base:=
 aW T.ns r (by ac_nf) λF=>bD (m:=3) F l5 rfl (by decide) (d:=iM) (λcdv A outer s H Ex hr=>have hu:=hr.units;ai (aZ 2 l5.nd (vC T.list (aE (Gk (aP 0 (aP 1 a0))) a0))) (ai (ie VO l5.nd (Jh T.enumerate (OV (aP 0 (aP 1 (aE (xI) a0))))) (gT (gC 3 (gC 4 g0))) (ao (zq 2 hu (gJ (aE (kT (aE (dW hu (aP 2 (aE (n6 (aP 3 (aP 1 a0))) a0))) (aE (xI) a0))) (aP 4 a0))) (n6 (aP 3 (aP 1 a0)))))) (ao (ng 2)))) PB.IW
abbrev nq:Stmt:=top 40
def iG:aG ["cells","k","cell","rest"] ["cells","k"] (ay nq):=by ac_rfl
def Bw(T:Txt K mg)(r:Rec K "_law_pool" nq):tw P w K mg base:=
 aW T.ns r (by ac_nf) λF=>bD (m:=2) F iG rfl (by decide) (d:=ja) (λcdv A outer s H Ex hr=>have hu:=hr.units;ai (aZ 2 iG.nd (xI)) (FF (f7 (bN.st (HF (aE (jR T.len (aP 0 a0)) (aE (xI) a0)))) (ao (aZ 2 iG.nd (gJ (aE (dW hu (aP 0 (aE (n6 (aP 1 (aE (jR T.len (aP 0 a0)) a0))) a0))) (aE (DV (aP 1 (aE (jR T.len (aP 0 a0)) a0))) a0))))) (cB)) (ai (aZ 3 iG.nd (xI)) (FF (f7 (bN.st (pF.xJ (qL (Qa (aP 2 (aE (xI) a0))) (k8 (SJ (aP 2 (aE (S7 (aE (xI) (aE (xI) a0))) a0))))))) (ao (aZ 3 iG.nd (SV T.abs (aP 2 a0)))) (cB)) (ao (bP (cZ (aP 3 (aE (n6 (aE (gJ (aE (kT (aE (n6 (aP 2 (aE (xI) a0))) (aE (xI) a0))) (aE (kT (aE (kT (aE (xI) (aE (gJ (aP 1 (aE (xI) a0))) a0))) (aE (gJ (aP 1 (aE (xI) a0))) a0))) a0))) (aE (xI) a0))) a0))))))))) PB.LG
abbrev nY:Stmt:=top 41
def tM:aG ["pool","many","found"] ["pool","many"] (ay nY):=by ac_rfl
def BA(T:Txt K mg)(r:Rec K "_law_take" nY):iC P w K mg base:=
 aW T.ns r (by ac_nf) λF=>bD (m:=1) F tM rfl (by decide) (d:=jg) (λcdv A outer s H Ex hr=>have hu:=hr.units;ai (f7 (bN.st (HF (aE (dW hu (aP 0 (aE (xI) a0))) (aE (xI) a0)))) (ai (aZ 2 tM.nd (n6 (aE (dW hu (aP 0 (aE (xI) a0))) (aP 1 a0)))) (ai (zq 0 hu (DV (aE (dW hu (aP 0 (aE (xI) a0))) (aP 1 a0))) (xI)) (ao (ng 2)))) (cB)) (ai (zq 0 hu (n6 (aE (gJ (aE (kT (aE (dW hu (aP 0 (aE (xI) a0))) (aE (xI) a0))) (aE (xI) a0))) (aE (xI) a0))) (xI)) (ao (bP (n6 (aE (DV (aE (n6 (aE (kT (aE (n6 (aE (kT (aE (dW hu (aP 0 (aE (xI) a0))) (aE (dW hu (aP 0 (aE (xI) a0))) a0))) (aE (xI) a0))) (aE (xI) a0))) (aE (xI) a0))) (aE (xI) a0))) (aP 1 a0))))))) PB.MU
abbrev nU:Stmt:=top 42
def sY:aG ["pool","menu","many","rest"] ["pool","menu","many"] (ay nU):=by ac_rfl
def BG(T:Txt K mg)(h0:iC P w K mg base)(r:Rec K "_law_some" nU):sU P w K mg base:=
 aW T.ns r (by ac_nf) λF=>bD (m:=2) F sY rfl (by decide) (d:=jo j9) (λcdv A outer s H Ex hr=>ai (aZ 3 sY.nd (vC T.list (aP 1 a0))) (ao (bP (fJ (vs:=["k"]) (NB:=["k","rest","pool"]) (ix:=[3,0]) (by rfl) (KS T.range (aP 2 a0)) (λ_ _ _ _=>gN 0) (λ_ _ _ _=>.nil) (λ_ _ _ _ _=>cS (xM 1 Cb CB PySem.F.slot_list_pop PySem.F.type_list_pop (eC (aF h0 sA hr (aP 2 (aE (jR T.len (aP 1 a0)) a0))) e0))))))) PB.Ms
abbrev lK:Stmt:=top 43
def rD:aG ["pool","many","ties","names"] ["pool","many","ties"] (ay lK):=by ac_rfl
def AL(T:Txt K mg)(h0:sU P w K mg base)(r:Rec K "_law_named" lK):qP P w K mg base:=
 aW T.ns r (by ac_nf) λF=>bD (m:=3) F rD rfl (by decide) (d:=ic yU) (λcdv A outer s H Ex hr=>have hu:=hr.units;ai (aZ 3 rD.nd (aF h0 aK hr (aP 0 (aE (HM T.list T.range (aP 1 a0)) (aP 1 a0))))) (ao (bP (rG (aP 1 (aE (Qc T.tuple (aE (N6 T.sorted (aE (fJ (vs:=["a","b"]) (NB:=["a","b","names"]) (ix:=[3]) (by rfl) (cF (xV 2)) (λ_ _ _ _=>gT (gC 0 (gC 1 g0))) (λ_ _ _ _=>.nil) (λ_ _ _ _ _=>cS (rG (aE (ES T.min (aE (dW hu (aP 2 (aP 0 a0))) (aE (dW hu (aP 2 (aP 1 a0))) a0))) (aE (J4 T.max (aE (dW hu (aP 2 (aP 0 a0))) (aE (dW hu (aP 2 (aP 1 a0))) a0))) a0))))) a0)) a0)) a0)))))) PB.JE
abbrev nW:Stmt:=top 44
def gr:aG ["pool","most","many","shape","ties","k","ahead"] ["pool","most"] (ay nW):=by ac_rfl
def Br(T:Txt K mg)(h0:iC P w K mg base)(h1:qP P w K mg base)(r:Rec K "_law_tree" nW):sL P w K mg base:=
 aW T.ns r (by ac_nf) λF=>bD (m:=5) F gr rfl (by decide) (d:=jt j9 vE) (λcdv A outer s H Ex hr=>have hu:=hr.units;ai (aZ 2 gr.nd (gJ (aE (xI) (aE (aF h0 aK hr (aP 0 (aP 1 a0))) a0)))) (ai (aZ 3 gr.nd (aF h0 aK hr (aP 0 (aE (xI) a0)))) (ai (aZ 4 gr.nd (cZ a0)) (ai (ie VO gr.nd (Ud T.range (aE (xI) (aP 2 a0))) (gN 5) (ai (aZ 6 gr.nd (cZ (aE (qM (aP 5 (aE (xI) a0))) (aE (xI) (aE (aF h0 aK hr (aP 0 (aP 5 a0))) (aE (J4 T.max (aE (xI) (aE (qM (aE (qM (aP 5 (aE (xI) a0))) (aE (aF h0 aK hr (aP 0 (aE (xI) a0))) a0))) a0))) (aE (aF h0 aK hr (aP 0 (aE (ES T.min (aP 5 (aE (xI) a0))) a0))) a0))))))) (ao (fT (xM 4 fQ fV WX WY (eC (rG (aE (dW hu (aE (gJ (aP 6 (aE (cZ (aE (DV (aE (qM (aP 5 (aE (xI) a0))) (aE (xI) a0))) a0)) a0))) (aP 3 a0))) (aP 5 a0))) e0)))))) (ao (bP (aF h1 aK hr (aP 0 (aP 2 (aP 4 a0)))))))))) PB.LI
abbrev jH:Stmt:=top 46
def gW:aG ["pool","count","found","turn","number"] ["pool","count"] (ay jH):=by ac_rfl
def wg(T:Txt K mg)(h0:iC P w K mg base)(r:Rec K "_law_numbers" jH):oi P w K mg base:=
 aW T.ns r (by ac_nf) λF=>bD (m:=3) F gW rfl (by decide) (d:=gQ j9) (λcdv A outer s H Ex hr=>ai (aZ 2 gW.nd (cZ (aE (xI) (aE (qM (aP 1 (aE (xI) a0))) a0)))) (ai (ie VO gW.nd (KS T.range (aE (xI) a0)) (gN 3) (ai (aZ 4 gW.nd (aF h0 aK hr (aP 0 (aP 1 a0)))) (ao (fT (xM 2 DG EB PySem.F.slot_list_extend PySem.F.type_list_extend (eC (cZ (aP 4 (aE (ES T.min (aE (gJ (aP 4 (aE (xI) a0))) (aE (qM (aP 1 (aE (xI) a0))) a0))) a0))) e0)))))) (ao (bP (zz T.sorted T.set (aP 2 a0)))))) PB.PM
abbrev l9:Stmt:=top 29
def qB:aG ["spots","looks","start","held"] ["spots","looks","start"] (ay l9):=by ac_rfl
def Ad(T:Txt K mg)(r:Rec K "spot_ways" l9):qt P w K mg base:=
 aW T.ns r (by ac_nf) λF=>bD (m:=2) F qB rfl (by decide) (d:=nX) (λcdv A outer s H Ex hr=>have hu:=hr.units;ai (aZ 3 qB.nd (jR T.len (aE (fJ (vs:=["spot"]) (NB:=["spot","looks"]) (ix:=[1]) (by rfl) (cF (xV 0)) (λ_ _ _ _=>gN 0) (λ_ _ _ _=>.one (bN.st (Sv hu (aP 0 (aP 1 a0))))) (λ_ _ _ _ _=>cS (xV 0))) a0))) (ai (f7 (bN.st (HF (aP 3 (aE (xI) a0)))) (ao (bP (rG (aE (yG (bN.st (HR hu (aP 3 (aE (xI) a0)))) (xI) (xI)) (aE (xI) a0))))) (cB)) (ao (bP (rG (aE (jR T.len (aE (fJ (vs:=["spot"]) (NB:=["spot","start"]) (ix:=[2]) (by rfl) (cF (xV 0)) (λ_ _ _ _=>gN 0) (λ_ _ _ _=>.one (bN.st (SJ (aP 0 (aP 1 a0))))) (λ_ _ _ _ _=>cS (xV 0))) a0)) (aE (xI) a0))))))) PB.QH
abbrev kR:Stmt:=top 30
def dM:aG ["group","looks","start","ways_full","ways_but_one","spots","one","none"] ["group","looks","start"] (ay kR):=by ac_rfl
def yr(T:Txt K mg)(h0:qt P w K mg base)(r:Rec K "group_ways" kR):qj P w K mg base:=
 aW T.ns r (by ac_nf) λF=>bD (m:=5) F dM rfl (by decide) (d:=mF ET) (λcdv A outer s H Ex hr=>ai (aZ 3 dM.nd (xI)) (ai (aZ 4 dM.nd (xI)) (ai (ie VO dM.nd (cF (xV 0)) (gN 5) (ai (zW dM.nd (gC 6 (gC 7 g0)) (aF h0 aK hr (aP 5 (aP 1 (aP 2 a0))))) (ai (aZ 4 dM.nd (gJ (aE (kT (aP 4 (aP 6 a0))) (aE (kT (aP 3 (aP 7 a0))) a0)))) (ao (aZ 3 dM.nd (kT (aP 3 (aP 6 a0)))))))) (ao (ng 4))))) PB.Ou
abbrev lG:Stmt:=top 31
def jy:aG ["groups","looks","start","ways","group"] ["groups","looks","start"] (ay lG):=by ac_rfl
def zJ(T:Txt K mg)(h0:qj P w K mg base)(r:Rec K "ways_from" lG):gK P w K mg base:=
 aW T.ns r (by ac_nf) λF=>bD (m:=2) F jy rfl (by decide) (d:=nj EN) (λcdv A outer s H Ex hr=>ai (aZ 3 jy.nd (xI)) (ai (ie VO jy.nd (cF (xV 0)) (gN 4) (ao (aZ 3 jy.nd (kT (aP 3 (aE (aF h0 aK hr (aP 4 (aP 1 (aP 2 a0)))) a0)))))) (ao (ng 3)))) PB.Pw
abbrev pM:Stmt:=top 21
def vF:aG ["web","many","ties"] ["web"] (ay pM):=by ac_rfl
def EV(T:Txt K mg)(r:Rec K "is_tree" pM):uN P w K mg base:=
 aW T.ns r (by ac_nf) λF=>bD (m:=2) F vF rfl (by decide) (d:=qV) (λcdv A outer s H Ex hr=>have hu:=hr.units;ai (zW vF.nd (gC 1 (gC 2 g0)) (xV 0)) (ao (bP (OL hu (aE (jR T.len (aP 2 a0)) (aE (qM (aP 1 (aE (xI) a0))) a0)))))) PB.NU
abbrev iB:Stmt:=top 22
def sF:aG ["web"] ["web"] (ay iB):=by ac_rfl
def sE(T:Txt K mg)(h0:uN P w K mg base)(r:Rec K "refuse_no_tree" iB):fj P w K mg base:=
 aW T.ns r (by ac_nf) λF=>bD (m:=0) F sF rfl (by decide) (d:=iK Ed) (λcdv A outer s H Ex hr=>ao (f7 (pX (bN.st (sV (aF h0 aK hr (aP 0 a0))))) (ao (oV T.ND)) (cB))) PB.Qd
abbrev gH:Stmt:=top 10
def qu:aG ["web","place"] ["web","place"] (ay gH):=by ac_rfl
def qD(T:Txt K mg)(r:Rec K "refuse_no_place" gH):gF P w K mg base:=
 aW T.ns r (by ac_nf) λF=>bD (m:=0) F qu rfl (by decide) (d:=iu) (λcdv A outer s H Ex hr=>have hu:=hr.units;ao (f7 (pX (bN.st (qQ KP vQ rfl (xI) (xV 1) (dW hu (aP 0 (aE (xI) a0)))))) (ao (oV T.L3)) (cB))) PB.Ql
abbrev gE:Stmt:=top 8
def eU:aG ["web","many","ties","lists","one","other"] ["web"] (ay gE):=by ac_rfl
def qH(T:Txt K mg)(r:Rec K "neighbour_lists" gE):eZ P w K mg base:=
 aW T.ns r (by ac_nf) λF=>bD (m:=6) F eU rfl (by decide) (d:=iz) (λcdv A outer s H Ex hr=>ai (zW eU.nd (gC 1 (gC 2 g0)) (xV 0)) (ai (SR (j:=3) eU.nd (vs:=["place"]) (NB:=["place"]) (ix:=[]) (by rfl) (KS T.range (aP 1 a0)) (λ_ _ _ _=>gN 0) (λ_ _ _ _=>.nil) (λ_ _ _ _=>cZ a0)) (ai (ie VO eU.nd (cF (xV 2)) (gT (gC 4 (gC 5 g0))) (ai (fT (Sw 3 5 fQ fV WX WY (xV 4))) (ao (fT (Sw 3 4 fQ fV WX WY (xV 5)))))) (ao (ng 3))))) PB.OX
abbrev jk:Stmt:=top 23
def e8:aG ["lists","place","neighbour","piece","steps","last","here"] ["lists","place","neighbour"] (ay jk):=by ac_rfl
def vL(T:Txt K mg)(r:Rec K "piece_behind" jk):mZ P w K mg base:=
 aW T.ns r (by ac_nf) λF=>bD (m:=5) F e8 rfl (by decide) (d:=jS) (λcdv A outer s H Ex hr=>have hu:=hr.units;ai (aZ 3 e8.nd (cZ a0)) (ai (aZ 4 e8.nd (cZ (aE (rG (aP 1 (aP 2 a0))) a0))) (ai (Fy VO (tV 4) (ai (zW e8.nd (gC 5 (gC 6 g0)) (xM 4 Cb CB PySem.F.slot_list_pop PySem.F.type_list_pop (e0))) (ai (fT (xM 3 fQ fV WX WY (eC (xV 6) e0))) (ao (S5 4 e8.nd (fJ (vs:=["there"]) (NB:=["there","here","last"]) (ix:=[6,5]) (by rfl) (cF (dW hu (aP 0 (aP 6 a0)))) (λ_ _ _ _=>gN 0) (λ_ _ _ _=>.one (bN.st (Df hu (aP 0 (aP 2 a0))))) (λ_ _ _ _ _=>cS (rG (aP 1 (aP 0 a0)))))))))) (ao (bP (Fv T.sorted (aP 3 a0))))))) PB.PV
abbrev lT:Stmt:=top 24
def qz:aG ["web","place","lists"] ["web","place"] (ay lT):=by ac_rfl
def zg(T:Txt K mg)(h0:fj P w K mg base)(h1:gF P w K mg base)(h2:eZ P w K mg base)(h3:mZ P w K mg base)(r:Rec K "pieces_at" lT):qx P w K mg base:=
 aW T.ns r (by ac_nf) λF=>bD (m:=2) F qz rfl (by decide) (d:=nF qI wU rJ D6) (λcdv A outer s H Ex hr=>have hu:=hr.units;ai (fT (aF h0 aK hr (aP 0 a0))) (ai (fT (aF h1 aK hr (aP 0 (aP 1 a0)))) (ai (aZ 2 qz.nd (aF h2 aK hr (aP 0 a0))) (ao (bP (fJ (vs:=["neighbour"]) (NB:=["neighbour","lists","place"]) (ix:=[2,1]) (by rfl) (cF (dW hu (aP 2 (aP 1 a0)))) (λ_ _ _ _=>gN 0) (λ_ _ _ _=>.nil) (λ_ _ _ _ _=>cS (aF h3 sA hr (aP 1 (aP 2 (aP 0 a0))))))))))) PB.NK
abbrev pP:Stmt:=top 27
def Ey:aG ["web","fork","forks"] ["web","fork","forks"] (ay pP):=by ac_rfl
def ER(T:Txt K mg)(h0:qx P w K mg base)(r:Rec K "legs_at" pP):vG P w K mg base:=
 aW T.ns r (by ac_nf) λF=>bD (m:=2) F Ey rfl (by decide) (d:=qG Ei) (λcdv A outer s H Ex hr=>have hu:=hr.units;ao (bP (fJ (vs:=["piece"]) (NB:=["piece","forks"]) (ix:=[2]) (by rfl) (cF (aF h0 aK hr (aP 0 (aP 1 a0)))) (λ_ _ _ _=>gN 0) (λ_ _ _ _=>.one (pX (bN.st (sV (Tc T.any (aE (fJ (vs:=["place"]) (NB:=["place","forks"]) (ix:=[1]) (by rfl) (cF (xV 0)) (λ_ _ _ _=>gN 0) (λ_ _ _ _=>.nil) (λ_ _ _ _ _=>cS (SA hu (aP 0 (aP 1 a0))))) a0)))))) (λ_ _ _ _ _=>cS (xV 0))))) PB.Px
abbrev lI:Stmt:=top 14
def i9:aG ["web","kind","many","ties","places","joins"] ["web","kind"] (ay lI):=by ac_rfl
def z4(T:Txt K mg)(r:Rec K "things_of" lI):lP P w K mg base:=
 aW T.ns r (by ac_nf) λF=>bD (m:=4) F i9 rfl (by decide) (d:=nQ) (λcdv A outer s H Ex hr=>have hu:=hr.units;ai (zW i9.nd (gC 2 (gC 3 g0)) (xV 0)) (ai (aZ 4 i9.nd (yG (bN.st (HR hu (aP 1 (aE (xS) a0)))) (cZ a0) (HM T.list T.range (aP 2 a0)))) (ai (aZ 5 i9.nd (yG (bN.st (HR hu (aP 1 (aE (xS) a0)))) (cZ a0) (vC T.list (aP 3 a0)))) (ao (bP (gJ (aP 4 (aP 5 a0)))))))) PB.OM
abbrev jN:Stmt:=top 28
def fK:aG ["web","kind","degrees","ends","forks","groups"] ["web","kind"] (ay jN):=by ac_rfl
def xj(T:Txt K mg)(h0:fj P w K mg base)(h1:lP P w K mg base)(h2:eZ P w K mg base)(h3:vG P w K mg base)(r:Rec K "spot_groups" jN):fF P w K mg base:=
 aW T.ns r (by ac_nf) λF=>bD (m:=6) F fK rfl (by decide) (d:=kG qI v8 rJ DL) (λcdv A outer s H Ex hr=>have hu:=hr.units;ai (fT (aF h0 aK hr (aP 0 a0))) (ai (f7 (bN.st (Qa (aE (jR T.len (aE (aF h1 aK hr (aP 0 (aP 1 a0))) a0)) (aE (xI) a0)))) (ao (bP (cZ a0))) (cB)) (ai (JO (j:=2) fK.nd (vs:=["places"]) (NB:=["places"]) (ix:=[]) (by rfl) (cF (aF h2 aK hr (aP 0 a0))) (λ_ _ _ _=>gN 0) (λ_ _ _ _=>.nil) (λ_ _ _ _ _=>cS (jR T.len (aP 0 a0)))) (ai (JO (j:=3) fK.nd (vs:=["place","degree"]) (NB:=["place","degree"]) (ix:=[]) (by rfl) (Jh T.enumerate (xV 2)) (λ_ _ _ _=>gT (gC 0 (gC 1 g0))) (λ_ _ _ _=>.one (bN.st (HR hu (aP 1 (aE (xI) a0))))) (λ_ _ _ _ _=>cS (xV 0))) (ai (f7 (bN.st (HR hu (aP 1 (aE (xS) a0)))) (ao (bP (fJ (vs:=["end"]) (NB:=["end"]) (ix:=[]) (by rfl) (cF (xV 3)) (λ_ _ _ _=>gN 0) (λ_ _ _ _=>.nil) (λ_ _ _ _ _=>cS (cZ (aE (cZ (aP 0 a0)) (aE (cZ a0) a0))))))) (cB)) (ai (aZ 4 fK.nd (fJ (vs:=["place","degree"]) (NB:=["place","degree"]) (ix:=[]) (by rfl) (Jh T.enumerate (xV 2)) (λ_ _ _ _=>gT (gC 0 (gC 1 g0))) (λ_ _ _ _=>.one (bN.st (HF (aP 1 (aE (xI) a0))))) (λ_ _ _ _ _=>cS (xV 0)))) (ai (f7 (pX (tV 4)) (ao (bP (cZ (aE (fJ (vs:=["end"]) (NB:=["end"]) (ix:=[]) (by rfl) (cF (xV 3)) (λ_ _ _ _=>gN 0) (λ_ _ _ _=>.nil) (λ_ _ _ _ _=>cS (cZ (aP 0 a0)))) a0)))) (cB)) (ai (JO (j:=5) fK.nd (vs:=["fork"]) (NB:=["fork","web","forks"]) (ix:=[0,4]) (by rfl) (cF (xV 4)) (λ_ _ _ _=>gN 0) (λ_ _ _ _=>.nil) (λ_ _ _ _ _=>cS (aF h3 sA hr (aP 1 (aP 0 (aP 2 a0)))))) (ao (bP (fJ (vs:=["legs"]) (NB:=["legs"]) (ix:=[]) (by rfl) (cF (xV 5)) (λ_ _ _ _=>gN 0) (λ_ _ _ _=>.one (tV 0)) (λ_ _ _ _ _=>cS (xV 0))))))))))))) PB.O8
abbrev jw:Stmt:=top 34
def vh:aG ["web","kind"] ["web","kind"] (ay jw):=by ac_rfl
def vK(T:Txt K mg)(h0:gK P w K mg base)(h1:fF P w K mg base)(r:Rec K "tree_choices" jw):m9 P w K mg base:=
 aW T.ns r (by ac_nf) λF=>bD (m:=0) F vh rfl (by decide) (d:=jW nS nZ) (λcdv A outer s H Ex hr=>ao (bP (aF h0 aK hr (aE (aF h1 aK hr (aP 0 (aP 1 a0))) (aE (cZ a0) (aE (xI) a0)))))) PB.OS
abbrev nC:Stmt:=top 32
def BH:aG ["groups"] ["groups"] (ay nC):=by ac_rfl
def BJ(T:Txt K mg)(r:Rec K "spots_of" nC):kh P w K mg base:=
 aW T.ns r (by ac_nf) λF=>bD (m:=3) F BH rfl (by decide) (d:=pS) (λcdv A outer s H Ex hr=>ao (bP (Fv T.sorted (aE (fJ (vs:=["group","spots","spot"]) (NB:=["group","spots","spot"]) (ix:=[]) (by rfl) (cF (xV 0)) (λ_ _ _ _=>gN 0) (λ_ _ _ _=>.nil) (λ_ _ _ _ _=>PU (cF (xV 0)) (gN 1) (.nil) (PU (cF (xV 1)) (gN 2) (.nil) (cS (xV 2))))) a0)))) PB.Qt
abbrev l8:Stmt:=top 35
def eB:aG ["web","kind","number","groups","looks","ahead","spot","ways"] ["web","kind","number"] (ay l8):=by ac_rfl
def zo(T:Txt K mg)(h0:fF P w K mg base)(h1:gK P w K mg base)(h2:kh P w K mg base)(r:Rec K "choice_by" l8):rC P w K mg base:=
 aW T.ns r (by ac_nf) λF=>bD (m:=5) F eB rfl (by decide) (d:=n5 nZ nS rH) (λcdv A outer s H Ex hr=>ai (aZ 3 eB.nd (aF h0 aK hr (aP 0 (aP 1 a0)))) (ai (f7 (pX (bN.st (qQ KP vQ rfl (xI) (xV 2) (aF h1 aK hr (aP 3 (aE (cZ a0) (aE (xI) a0))))))) (ao (oV T.Nu)) (cB)) (ai (aZ 4 eB.nd (cZ a0)) (ai (aZ 5 eB.nd (xV 2)) (ai (ie VO eB.nd (cF (aF h2 aK hr (aP 3 a0))) (gN 6) (ai (aZ 7 eB.nd (aF h1 aK hr (aP 3 (aE (gJ (aP 4 (aE (cZ (aP 6 a0)) a0))) (aE (gJ (aP 6 (aE (xI) a0))) a0))))) (ao (f7 (bN.st (Qa (aP 5 (aP 7 a0)))) (ao (fT (xM 4 fQ fV WX WY (eC (xV 6) e0)))) (ao (LO 5 eB.nd (xV 7))))))) (ao (ng 4))))))) PB.OR
abbrev mL:Stmt:=top 15
def ju:aG ["web","looks","last","look"] ["web","looks"] (ay mL):=by ac_rfl
def yY(T:Txt K mg)(r:Rec K "are_looks" mL):rP P w K mg base:=
 aW T.ns r (by ac_nf) λF=>bD (m:=2) F ju rfl (by decide) (d:=nG) (λcdv A outer s H Ex hr=>have hu:=hr.units;ai (aZ 2 ju.nd (NT (aE (xI) a0))) (ai (ie VO ju.nd (cF (xV 1)) (gN 3) (ai (f7 (pX (bN.st (qQ vQ vQ rfl (xV 2) (xV 3) (dW hu (aP 0 (aE (xI) a0)))))) (ao (bP (xB))) (cB)) (ao (aZ 2 ju.nd (xV 3))))) (ao (bP (xB))))) PB.PC
abbrev fH:Stmt:=top 16
def oM:aG ["web","looks"] ["web","looks"] (ay fH):=by ac_rfl
def oB(T:Txt K mg)(h0:rP P w K mg base)(r:Rec K "refuse_wrong_looks" fH):iX P w K mg base:=
 aW T.ns r (by ac_nf) λF=>bD (m:=0) F oM rfl (by decide) (d:=fZ DU) (λcdv A outer s H Ex hr=>ao (f7 (pX (bN.st (sV (aF h0 aK hr (aP 0 (aP 1 a0)))))) (ao (oV T.L4)) (cB))) PB.P9
abbrev jq:Stmt:=top 9
def cJ:aG ["web","place","lists","fars","edge","reached","here","there"] ["web","place"] (ay jq):=by ac_rfl
def uU(T:Txt K mg)(h0:eZ P w K mg base)(r:Rec K "fars_or_none" jq):mV P w K mg base:=
 aW T.ns r (by ac_nf) λF=>bD (m:=6) F cJ rfl (by decide) (d:=jQ rJ) (λcdv A outer s H Ex hr=>have hu:=hr.units;ai (aZ 2 cJ.nd (aF h0 aK hr (aP 0 a0))) (ai (aZ 3 cJ.nd (kT (aE (cZ (aE (xN) a0)) (aE (dW hu (aP 0 (aE (xI) a0))) a0)))) (ai (zq 3 hu (xI) (xV 1)) (ai (aZ 4 cJ.nd (cZ (aP 1 a0))) (ai (Fy VO (tV 4) (ai (aZ 5 cJ.nd (cZ a0)) (ai (ie VO cJ.nd (cF (xV 4)) (gN 6) (ao (ie VO cJ.nd (cF (dW hu (aP 2 (aP 6 a0)))) (gN 7) (ao (f7 (bN.st (Sq (aE (dW hu (aP 3 (aP 7 a0))) (aE (xN) a0)))) (ai (zq 3 hu (gJ (aE (dW hu (aP 3 (aP 6 a0))) (aE (xI) a0))) (xV 7)) (ao (fT (xM 5 fQ fV WX WY (eC (xV 7) e0))))) (cB)))))) (ao (aZ 4 cJ.nd (xV 5)))))) (ao (ng 3))))))) PB.ON
abbrev lF:Stmt:=top 11
def A0:aG ["web","place"] ["web","place"] (ay lF):=by ac_rfl
def AA(T:Txt K mg)(h0:gF P w K mg base)(h1:mV P w K mg base)(r:Rec K "fars_from" lF):qT P w K mg base:=
 aW T.ns r (by ac_nf) λF=>bD (m:=0) F A0 rfl (by decide) (d:=ni wU Dm) (λcdv A outer s H Ex hr=>ai (fT (aF h0 aK hr (aP 0 (aP 1 a0)))) (ao (bP (aF h1 aK hr (aP 0 (aP 1 a0)))))) PB.QA
abbrev kN:Stmt:=top 12
def yu:aG ["fars","tie"] ["fars","tie"] (ay kN):=by ac_rfl
def yt(T:Txt K mg)(r:Rec K "nearer_end" kN):qk P w K mg base:=
 aW T.ns r (by ac_nf) λF=>bD (m:=0) F yu rfl (by decide) (d:=lY) (λcdv A outer s H Ex hr=>have hu:=hr.units;ao (bP (ES T.min (aE (dW hu (aP 0 (aE (dW hu (aP 1 (aE (xI) a0))) a0))) (aE (dW hu (aP 0 (aE (dW hu (aP 1 (aE (xI) a0))) a0))) a0))))) PB.N8
abbrev lR:Stmt:=top 17
def AG:aG ["fars","thing"] ["fars","thing"] (ay lR):=by ac_rfl
def Be(T:Txt K mg)(h0:qk P w K mg base)(r:Rec K "thing_far" lR):qN P w K mg base:=
 aW T.ns r (by ac_nf) λF=>bD (m:=0) F AG rfl (by decide) (d:=nV DQ) (λcdv A outer s H Ex hr=>have hu:=hr.units;ai (f7 (bN.st (sV (D5 T.kit T.isinstance T.int Yu (aP 1 a0)))) (ao (bP (dW hu (aP 0 (aP 1 a0))))) (cB)) (ao (bP (aF h0 aK hr (aP 0 (aP 1 a0)))))) PB.Of
abbrev nJ:Stmt:=top 18
def tD:aG ["web","looks","things","rows"] ["web","looks","things"] (ay nJ):=by ac_rfl
def Bt(T:Txt K mg)(h0:qT P w K mg base)(h1:qN P w K mg base)(r:Rec K "codes_of" nJ):tL P w K mg base:=
 aW T.ns r (by ac_nf) λF=>bD (m:=3) F tD rfl (by decide) (d:=pK Dp Ea) (λcdv A outer s H Ex hr=>ai (aZ 3 tD.nd (fJ (vs:=["look"]) (NB:=["look","web"]) (ix:=[0]) (by rfl) (cF (xV 1)) (λ_ _ _ _=>gN 0) (λ_ _ _ _=>.nil) (λ_ _ _ _ _=>cS (aF h0 sA hr (aP 1 (aP 0 a0)))))) (ao (bP (Te (cx:="thing") (vs:=["thing"]) (NB:=["thing","rows"]) (ix:=[3]) (by rfl) (cF (xV 2)) (λ_ _ _ _ _=>gN 0) (λ_ _ _ _ _=>.nil) (λ_ _ _ _ _ _=>cS (fJ (vs:=["fars"]) (NB:=["fars","thing"]) (ix:=[0]) (by rfl) (cF (xV 1)) (λ_ _ _ _=>gN 0) (λ_ _ _ _=>.nil) (λ_ _ _ _ _=>cS (aF h1 sA hr (aP 0 (aP 1 a0)))))))))) PB.QC
abbrev nP:Stmt:=top 19
def jZ:aG ["web","looks","kind","things","alike","thing","code"] ["web","looks","kind"] (ay nP):=by ac_rfl
def Bq(T:Txt K mg)(h0:iX P w K mg base)(h1:lP P w K mg base)(h2:tL P w K mg base)(r:Rec K "likes_by" nP):tH P w K mg base:=
 aW T.ns r (by ac_nf) λF=>bD (m:=5) F jZ rfl (by decide) (d:=qa AK v8 D8) (λcdv A outer s H Ex hr=>have hu:=hr.units;ai (fT (aF h0 aK hr (aP 0 (aP 1 a0)))) (ai (aZ 3 jZ.nd (aF h1 aK hr (aP 0 (aP 2 a0)))) (ai (aZ 4 jZ.nd (Rv)) (ai (ie VO jZ.nd (Kl T.zip (xV 3) (aF h2 aK hr (aP 0 (aP 1 (aP 3 a0))))) (gT (gC 5 (gC 6 g0))) (ao (fT (TQ 4 6 5 hu T.tuple)))) (ao (bP (fJ (vs:=["group"]) (NB:=["group"]) (ix:=[]) (by rfl) (Pg 4) (λ_ _ _ _=>gN 0) (λ_ _ _ _=>.one (bN.st (HF (aE (jR T.len (aP 0 a0)) (aE (xI) a0))))) (λ_ _ _ _ _=>cS (xV 0))))))))) PB.QG
abbrev kL:Stmt:=top 25
def qd:aG ["web","looks","kind","likes"] ["web","looks","kind"] (ay kL):=by ac_rfl
def yC(T:Txt K mg)(h0:fj P w K mg base)(h1:tH P w K mg base)(r:Rec K "tree_likes" kL):qf P w K mg base:=
 aW T.ns r (by ac_nf) λF=>bD (m:=1) F qd rfl (by decide) (d:=mP qI Eu) (λcdv A outer s H Ex hr=>have hu:=hr.units;ai (fT (aF h0 aK hr (aP 0 a0))) (ai (aZ 3 qd.nd (aF h1 aK hr (aP 0 (aP 1 (aP 2 a0))))) (ao (bP (yG (tV 3) (rG (aE (dW hu (aE (dW hu (aP 3 (aE (xI) a0))) (aE (xI) a0))) (aE (dW hu (aE (dW hu (aP 3 (aE (xI) a0))) (aE (xI) a0))) a0))) (xN)))))) PB.NH
abbrev jE:Stmt:=top 33
def wW:aG ["web","kind"] ["web","kind"] (ay jE):=by ac_rfl
def v7(T:Txt K mg)(h0:fF P w K mg base)(r:Rec K "tree_fewest" jE):n9 P w K mg base:=
 aW T.ns r (by ac_nf) λF=>bD (m:=1) F wW rfl (by decide) (d:=kX nZ) (λcdv A outer s H Ex hr=>ao (bP (S2 T.sum (aE (fJ (vs:=["group"]) (NB:=["group"]) (ix:=[]) (by rfl) (cF (aF h0 aK hr (aP 0 (aP 1 a0)))) (λ_ _ _ _=>gN 0) (λ_ _ _ _=>.nil) (λ_ _ _ _ _=>cS (qM (aE (jR T.len (aP 0 a0)) (aE (xI) a0))))) a0)))) PB.Oo
abbrev mO:Stmt:=top 45
def yZ:aG ["thing"] ["thing"] (ay mO):=by ac_rfl
def AJ(T:Txt K mg)(r:Rec K "_law_whole" mO):rO P w K mg base:=
 aW T.ns r (by ac_nf) λF=>bD (m:=0) F yZ rfl (by decide) (d:=iR) (λcdv A outer s H Ex hr=>ao (bP (O5 (D5 T.kit T.isinstance T.int Yu (aP 0 a0)) (OH (Pq (D5 T.kit T.isinstance T.bool PyProof.Rows.boot_bool (aP 0 a0))))))) PB.NZ
abbrev iL:Stmt:=top 47
def lN:aG ["web","kind","looks","look"] ["web","kind","looks"] (ay iL):=by ac_rfl
def uF(T:Txt K mg)(h0:rO P w K mg base)(h1:n9 P w K mg base)(h2:qf P w K mg base)(r:Rec K "_law_is_choice" iL):lZ P w K mg base:=
 aW T.ns r (by ac_nf) λF=>bD (m:=2) F lN rfl (by decide) (d:=fR EL DA Dw) (λcdv A outer s H Ex hr=>have hu:=hr.units;ai (f7 (bN.st (pF.xJ (qL (sr (sV (D5 T.kit T.isinstance T.list Ys (aP 2 a0)))) (k8 (sr (sV (Q0 T.all (aE (fJ (vs:=["look"]) (NB:=["look"]) (ix:=[]) (by rfl) (cF (xV 2)) (λ_ _ _ _=>gN 0) (λ_ _ _ _=>.nil) (λ_ _ _ _ _=>cS (aF h0 sA hr (aP 0 a0)))) a0)))))))) (ao (bP (xB))) (cB)) (ai (f7 (bN.st (pF.xJ (qL (Df hu (aP 2 (aE (zz T.sorted T.set (aP 2 a0)) a0))) (k8 (Df hu (aE (jR T.len (aP 2 a0)) (aE (aF h1 aK hr (aP 0 (aP 1 a0))) a0))))))) (ao (bP (xB))) (cB)) (ai (f7 (bN.st (Og (aE (aF h2 aK hr (aP 0 (aE (vC T.list (aP 2 a0)) (aP 1 a0)))) (aE (xN) a0)))) (ao (bP (xB))) (cB)) (ai (ie VO lN.nd (cF (gJ (aE (Gk (aP 2 (aE (xI) a0))) (aE (Qw (aP 2 (aE (NT (aE (xI) a0)) a0))) a0)))) (gN 3) (ao (f7 (bN.st (Sq (aE (aF h2 aK hr (aP 0 (aE (fJ (vs:=["one"]) (NB:=["one","look"]) (ix:=[3]) (by rfl) (cF (xV 2)) (λ_ _ _ _=>gN 0) (λ_ _ _ _=>.one (bN.st (Df hu (aP 0 (aP 1 a0))))) (λ_ _ _ _ _=>cS (xV 0))) (aP 1 a0)))) (aE (xN) a0)))) (ao (bP (xB))) (cB)))) (ao (bP (xB))))))) PB.Ni
abbrev mw:Stmt:=top 36
def q8:aG ["groups","looks","many","spots"] ["groups","looks","many"] (ay mw):=by ac_rfl
def zd(T:Txt K mg)(h0:kh P w K mg base)(h1:gK P w K mg base)(r:Rec K "is_choice" mw):qZ P w K mg base:=
 aW T.ns r (by ac_nf) λF=>bD (m:=2) F q8 rfl (by decide) (d:=nA rH nS) (λcdv A outer s H Ex hr=>have hu:=hr.units;ai (aZ 3 q8.nd (aF h0 aK hr (aP 0 a0))) (ai (f7 (bN.st (pF.xJ (qL (Df hu (aP 1 (aE (zz T.sorted T.set (aP 1 a0)) a0))) (k8 (sr (sV (Q0 T.all (aE (fJ (vs:=["look"]) (NB:=["look","spots"]) (ix:=[3]) (by rfl) (cF (xV 1)) (λ_ _ _ _=>gN 0) (λ_ _ _ _=>.nil) (λ_ _ _ _ _=>cS (SA hu (aP 0 (aP 1 a0))))) a0)))))))) (ao (bP (xB))) (cB)) (ao (bP (OL hu (aE (aF h1 aK hr (aP 0 (aP 1 (aP 2 a0)))) (aE (xI) a0))))))) PB.PZ
abbrev iS:Stmt:=top 37
def dg:aG ["web","kind","looks","groups","number","shared","spot"] ["web","kind","looks"] (ay iS):=by ac_rfl
def um(T:Txt K mg)(h0:fF P w K mg base)(h1:qZ P w K mg base)(h2:kh P w K mg base)(h3:gK P w K mg base)(r:Rec K "choice_number" iS):lV P w K mg base:=
 aW T.ns r (by ac_nf) λF=>bD (m:=4) F dg rfl (by decide) (d:=jm nZ D3 rH nS) (λcdv A outer s H Ex hr=>have hu:=hr.units;ai (aZ 3 dg.nd (aF h0 aK hr (aP 0 (aP 1 a0)))) (ai (f7 (pX (bN.st (sV (aF h1 aK hr (aP 3 (aP 2 (aE (dW hu (aP 0 (aE (xI) a0))) a0))))))) (ao (oV T.Ot)) (cB)) (ai (aZ 4 dg.nd (xI)) (ai (aZ 5 dg.nd (cZ a0)) (ai (ie VO dg.nd (cF (aF h2 aK hr (aP 3 a0))) (gN 6) (ao (f7 (bN.st (Sv hu (aP 6 (aP 2 a0)))) (ao (fT (xM 5 fQ fV WX WY (eC (xV 6) e0)))) (ao (MO 4 dg.nd (aF h3 aK hr (aP 3 (aE (gJ (aP 5 (aE (cZ (aP 6 a0)) a0))) (aE (gJ (aP 6 (aE (xI) a0))) a0))))))))) (ao (ng 4))))))) PB.Qq
abbrev mj:Stmt:=top 48
def gM:aG ["pool","web","kind","last","number","looks"] ["pool","web","kind"] (ay mj):=by ac_rfl
def Av(T:Txt K mg)(h0:oi P w K mg base)(h1:m9 P w K mg base)(h2:rC P w K mg base)(h3:lZ P w K mg base)(h4:lV P w K mg base)(r:Rec K "_law_right" mj):qE P w K mg base:=
 aW T.ns r (by ac_nf) λF=>bD (m:=3) F gM rfl (by decide) (d:=iJ D7 Ec DY yL Du) (λcdv A outer s H Ex hr=>have hu:=hr.units;ai (aZ 3 gM.nd (xN)) (ai (ie VO gM.nd (cF (aF h0 aK hr (aP 0 (aE (aF h1 aK hr (aP 1 (aP 2 a0))) a0)))) (gN 4) (ai (aZ 5 gM.nd (aF h2 aK hr (aP 1 (aP 2 (aP 4 a0))))) (ai (f7 (bN.st (pF.xJ (qL (sr (sV (aF h3 aK hr (aP 1 (aP 2 (aP 5 a0)))))) (k8 (Df hu (aE (aF h4 aK hr (aP 1 (aP 2 (aE (vC T.list (aP 5 a0)) a0)))) (aP 4 a0))))))) (ao (bP (xB))) (cB)) (ai (f7 (bN.st (pF.xJ (M4 (Og (aP 3 (aE (xN) a0))) (k8 (Tp hu (aP 5 (aP 3 a0))))))) (ao (bP (xB))) (cB)) (ao (aZ 3 gM.nd (xV 5))))))) (ao (bP (xB))))) PB.MZ
abbrev yW:Stmt:=top 49
def pH:aG ["script","cells","k","pool","web","kind"] ["script"] (ay yW):=by ac_rfl
def Oq(T:Txt K mg)(h0:qA P w K mg base)(h1:tw P w K mg base)(h2:sL P w K mg base)(h3:iC P w K mg base)(h4:qE P w K mg base){f:Addr}{fd:FuncData}(F:vz K "law" "law" yW f fd):iw P w K mg base (gA P w) 9 f fd ["script"] (cE mg K [false] vU):=
 bD (m:=5) F pH rfl (by decide) (d:=p7 vN yR yK j9 DW) (λcdv A outer s H Ex hr=>have hu:=hr.units;ai (aZ 1 pH.nd (aF h0 aK hr (aP 0 (aE (xI) a0)))) (ai (ie VO pH.nd (KS T.range (aE (J4 T.max (aE (xI) (aE (jR T.len (aP 1 a0)) a0))) a0)) (gN 2) (ai (aZ 3 pH.nd (aF h1 aK hr (aP 1 (aP 2 a0)))) (ai (aZ 4 pH.nd (aF h2 aK hr (aP 3 (aE (dW hu (aE (cZ (aE (xI) (aE (xI) a0))) (aE (TY T.int (aE (OL hu (aE (aF h3 aK hr (aP 3 (aE (xI) a0))) (aE (xI) a0))) a0)) a0))) a0)))) (ao (ie VO pH.nd (cF (cZ (aE (xS) (aE (xS) (aE (xS) a0))))) (gN 5) (ao (f7 (pX (bN.st (sV (aF h4 aK hr (aP 3 (aP 4 (aP 5 a0))))))) (ao (bP (xB))) (cB)))))))) (ao (bP (xB))))) PB.MW
end
def all_mk{l:OpenLaw}{w:World}{K:Frag}{h:Heap}{mg:ZK}{fa:Addr}(X:K.In h)(G:h.Ns mainGlobals mg)(hfa:mg "law"=some (.ref fa))(qd00:Rec K "_law_cells" lS)(qd01:Rec K "_law_pool" nq)(qd02:Rec K "_law_take" nY)(qd03:Rec K "_law_some" nU)(qd04:Rec K "_law_named" lK)(qd05:Rec K "_law_tree" nW)(qd06:Rec K "_law_numbers" jH)(qd07:Rec K "spot_ways" l9)(qd08:Rec K "group_ways" kR)(qd09:Rec K "ways_from" lG)(qd10:Rec K "is_tree" pM)(qd11:Rec K "refuse_no_tree" iB)(qd12:Rec K "refuse_no_place" gH)(qd13:Rec K "neighbour_lists" gE)(qd14:Rec K "piece_behind" jk)(qd15:Rec K "pieces_at" lT)(qd16:Rec K "legs_at" pP)(qd17:Rec K "things_of" lI)(qd18:Rec K "spot_groups" jN)(qd19:Rec K "tree_choices" jw)(qd20:Rec K "spots_of" nC)(qd21:Rec K "choice_by" l8)(qd22:Rec K "are_looks" mL)(qd23:Rec K "refuse_wrong_looks" fH)(qd24:Rec K "fars_or_none" jq)(qd25:Rec K "fars_from" lF)(qd26:Rec K "nearer_end" kN)(qd27:Rec K "thing_far" lR)(qd28:Rec K "codes_of" nJ)(qd29:Rec K "likes_by" nP)(qd30:Rec K "tree_likes" kL)(qd31:Rec K "tree_fewest" jE)(qd32:Rec K "_law_whole" mO)(qd33:Rec K "_law_is_choice" iL)(qd34:Rec K "is_choice" mw)(qd35:Rec K "choice_number" iS)(qd36:Rec K "_law_right" mj)(qd37:Rec K "law" yW)(zabs:nsIn K mainGlobals "abs"=some none)(zall:nsIn K mainGlobals "all"=some none)(zany:nsIn K mainGlobals "any"=some none)(zbool:nsIn K mainGlobals "bool"=some none)(zenumerate:nsIn K mainGlobals "enumerate"=some none)(zint:nsIn K mainGlobals "int"=some none)(zisinstance:nsIn K mainGlobals "isinstance"=some none)(zlen:nsIn K mainGlobals "len"=some none)(zlist:nsIn K mainGlobals "list"=some none)(zmax:nsIn K mainGlobals "max"=some none)(zmin:nsIn K mainGlobals "min"=some none)(zrange:nsIn K mainGlobals "range"=some none)(zset:nsIn K mainGlobals "set"=some none)(zsorted:nsIn K mainGlobals "sorted"=some none)(zsum:nsIn K mainGlobals "sum"=some none)(ztuple:nsIn K mainGlobals "tuple"=some none)(zzip:nsIn K mainGlobals "zip"=some none)(xNoLooks:w5 K "NoLooks")(xNoPlace:w5 K "NoPlace")(xNoSuch:w5 K "NoSuch")(xNoTree:w5 K "NoTree")(xNotOne:w5 K "NotOne")(kit:AX K ["bool","int","list"]=true) : ∃fd:FuncData,(∀(s:Shared)(v:Value),BindsTo s fd ⟨[v],[]⟩ [("script",v)])/\∀base:Heap,K.In base->base.Ns mainGlobals mg->iw l.prog w K mg base (gA l.prog w) 9 fa fd ["script"] (cE mg K [false] vU):=by have T:Txt K mg:=⟨VU X G zabs,VU X G zall,VU X G zany,VU X G zbool,VU X G zenumerate,VU X G zint,VU X G zisinstance,VU X G zlen,VU X G zlist,VU X G zmax,VU X G zmin,VU X G zrange,VU X G zset,VU X G zsorted,VU X G zsum,VU X G ztuple,VU X G zzip,(let⟨C,h1,h2⟩:=xNoLooks;⟨C,mg_of X G h1,h2⟩),(let⟨C,h1,h2⟩:=xNoPlace;⟨C,mg_of X G h1,h2⟩),(let⟨C,h1,h2⟩:=xNoSuch;⟨C,mg_of X G h1,h2⟩),(let⟨C,h1,h2⟩:=xNoTree;⟨C,mg_of X G h1,h2⟩),(let⟨C,h1,h2⟩:=xNotOne;⟨C,mg_of X G h1,h2⟩),kit,⟨h,X,G⟩⟩;obtain⟨fl,fdl,nl,Fl⟩:=qd37;have e:=hfa.symm.trans (mg_of X G nl);cases e;refine⟨fdl,?_,λbase _ _=>?_⟩;{obtain⟨_,_,_,_,_,_,_,_,_,rfl,_,_⟩:=Fl.ex;exact λs v=>.of_eq rfl};have Hd00:=An (P:=l.prog) (w:=w) (base:=base) T qd00;have Hd01:=Bw (P:=l.prog) (w:=w) (base:=base) T qd01;have Hd02:=BA (P:=l.prog) (w:=w) (base:=base) T qd02;have Hd03:=BG T Hd02 qd03;have Hd04:=AL T Hd03 qd04;have Hd05:=Br T Hd02 Hd04 qd05;have Hd06:=wg T Hd02 qd06;have Hd07:=Ad (P:=l.prog) (w:=w) (base:=base) T qd07;have Hd08:=yr T Hd07 qd08;have Hd09:=zJ T Hd08 qd09;have Hd10:=EV (P:=l.prog) (w:=w) (base:=base) T qd10;have Hd11:=sE T Hd10 qd11;have Hd12:=qD (P:=l.prog) (w:=w) (base:=base) T qd12;have Hd13:=qH (P:=l.prog) (w:=w) (base:=base) T qd13;have Hd14:=vL (P:=l.prog) (w:=w) (base:=base) T qd14;have Hd15:=zg T Hd11 Hd12 Hd13 Hd14 qd15;have Hd16:=ER T Hd15 qd16;have Hd17:=z4 (P:=l.prog) (w:=w) (base:=base) T qd17;have Hd18:=xj T Hd11 Hd17 Hd13 Hd16 qd18;have Hd19:=vK T Hd09 Hd18 qd19;have Hd20:=BJ (P:=l.prog) (w:=w) (base:=base) T qd20;have Hd21:=zo T Hd18 Hd09 Hd20 qd21;have Hd22:=yY (P:=l.prog) (w:=w) (base:=base) T qd22;have Hd23:=oB T Hd22 qd23;have Hd24:=uU T Hd13 qd24;have Hd25:=AA T Hd12 Hd24 qd25;have Hd26:=yt (P:=l.prog) (w:=w) (base:=base) T qd26;have Hd27:=Be T Hd26 qd27;have Hd28:=Bt T Hd25 Hd27 qd28;have Hd29:=Bq T Hd23 Hd17 Hd28 qd29;have Hd30:=yC T Hd11 Hd29 qd30;have Hd31:=v7 T Hd18 qd31;have Hd32:=AJ (P:=l.prog) (w:=w) (base:=base) T qd32;have Hd33:=uF T Hd32 Hd31 Hd30 qd33;have Hd34:=zd T Hd20 Hd09 qd34;have Hd35:=um T Hd18 Hd34 Hd20 Hd09 qd35;have Hd36:=Av T Hd06 Hd19 Hd21 Hd33 Hd35 qd36;exact Oq T Hd00 Hd01 Hd05 Hd02 Hd36 Fl
def walk{l:OpenLaw}{q:Program}{loose:Zd}{XP:(ZK)->Heap->Prop}{YP:World->Heap->Prop}{d:DefRec}{K:Params->Frag}(hn:l.most=some 63)(hdf:d.params.defaults=[])(hY:∀(w:World)(h:Heap),YP w h->(K w.params).In h)(F:∀(w:World)(mg:ZK)(fa:Addr)(h:Heap),(K w.params).In h->h.Ns mainGlobals mg->mg d.name=some (.ref fa)-> ∃fd:FuncData,(∀(s:Shared)(u:Value),BindsTo s fd ⟨[u],[]⟩ [("script",u)])/\∀base:Heap,(K w.params).In base->base.Ns mainGlobals mg->iw l.prog w (K w.params) mg base (gA l.prog w) 9 fa fd ["script"] (cE mg (K w.params) [false] vU)) : WalkO q loose XP YP l.row.toRowW d [] (λf vs=>PySem.call f vs):=Gz hn hdf ⟨rfl,by decide,by decide⟩ hY F
end Pz
open PySem PySem.W PyProof.Rows Dv
set_option maxRecDepth 100000 in
set_option maxHeartbeats 0 in
theorem PySem.Challenge.cw_farhail_k27_whole_numbered_in_order_holds : PySem.Challenge.rw_farhail_k27_whole_numbered_in_order.Holds := by
 w_on;o_law;k_head;(case hw=>w_witness2)
 k_fill
 refine Pz.walk (l:=PySem.Challenge.rw_farhail_k27_whole_numbered_in_order) rfl rfl (λw h Zl=>PySem.W.kIn_of Zl) ?F
 case F=>
  intro w mg fa h KX G hmg
  refine' Pz.all_mk KX G hmg ?_ ?_ ?_ ?_ ?_ ?_ ?_ ?_ ?_ ?_ ?_ ?_ ?_ ?_ ?_ ?_ ?_ ?_ ?_ ?_ ?_ ?_ ?_ ?_ ?_ ?_ ?_ ?_ ?_ ?_ ?_ ?_ ?_ ?_ ?_ ?_ ?_ ?_ ?_ ?_ ?_ ?_ ?_ ?_ ?_ ?_ ?_ ?_ ?_ ?_ ?_ ?_ ?_ ?_ ?_ ?_ ?_ ?_ ?_ ?_ ?_
  iterate 38
   apply Pe
   iterate 4 (first|k_is|kernel_rfl)
  iterate 17
   first|k_is|kernel_rfl
  iterate 5
   apply Nn
   iterate 2 (first|k_is|kernel_rfl)
  all_goals first|kernel_rfl|k_is
